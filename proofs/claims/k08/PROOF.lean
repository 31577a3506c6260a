import PyProof.Rows.All
import Wide.All
import OpenK.AllK
import Wide.FinOn
import Lean
import KE.KDictOf
import PyProof.TupleIter
import PyProof.CollectWalk
import PyProof.AttrMissHeap
import PyProof.EqAt
import PyProof.EqKinds
import PyProof.TupleCall
import KE.KSortTup
import KE.KDictSum
import PyProof.DictIter
import PyProof.ConsumeS
import PyProof.Rows.SetFrom
import PyProof.SetRoads
import PyProof.Rows.CountFlat
import PyProof.StationsW
import PyProof.ExcInit
import PyProof.ExcClass2
import PyProof.ExcBaseAll.ValueError
import PyProof.ExcAttrAll.ValueError
import KE.KIsAll
import PyProof.RulesAs
import PyProof.RulesDel
import PyProof.NeKinds
import KE.KDictList
import KE.KRevIter
import PyProof.EnumMake
import PyProof.ListRange
import PyProof.TupleOfGen
import KE.KMinBuiltin
import PyProof.Rows.CallKwBuiltin
import PyProof.FString
import PyProof.ZipIter
import PyProof.Rows.ZipGen
import PyProof.Rows.FactsT2
import PyProof.DictWalks
import KE.IntTextText
import PySem.Challenge.RW_claimwise_k08_claims_written
set_option Elab.async false
set_option linter.all false
set_option maxRecDepth 100000
set_option maxHeartbeats 4000000
set_option bootstrap.genMatcherCode false
set_option compiler.extract_closed false
set_option genSizeOf false
set_option genInjectivity false
open PySem renaming sizeLine->aa,wpAny_bind->ah,Shared->ai,wpAny->aC,model->aF,wpAny_pure->aR,Program->bq,World->bH,Around->cC,starEach->cE,cLine->dD,mainGlobals->dG,sizeLine_eq->dH,wpAny_field->dJ,cellsFrom->dQ,wpAny_Call_Name_kw->dY,wpAny_mono->d8,wpAny_truthy_bool->eT,sliceBounds->fu,FuncData->fJ,Scope->fO,compareOp->f_,binaryOp->gn,call_meets->gq,wpAny_seqItems->gH,typeIs_str->gM,rawInt->gS,wpAny_setField_rec->gX,wpAny_passesOwn->g9,assignEach->iA,codeAny_mono->iP,NameKind->iQ,IsPair->iW,wpAny_callSpecial?_slot->ja,foldedSetIterable->jC,wpAny_loadPart_at->jE,sysModules->j4,Operator->j5,backTo->kc,wpAny_holding->kg,excClassObj->kq,wpAny_execs_nil->kI,tupleKind_room_in1->k9,codeAny->lQ,wpAny_setField->lR,relabel->lU,wpAny_newObj_type->l_,wpAny_standAt->mV,behindInMarks->mW,strLen_append->mZ,wpAny_pyIter_zip->nu,wpAny_call_entry->nv,swapsWith->nH,bootBuiltins->oz,letOwnedTupleGo->oE,CmpOp->oF,wpAny_updateSeq_pair->oO,callerA->pP,IsZip->p_,assign->qB,pyNext->qC,wpAny_pyIter_tuple->qG,attributeBase->qR,wpAny_onRaise->qU,slot_list_getitem->qX,wpAny_pyIter_list->qZ,wpAny_call->rN,wpAny_letOwnedTupleGo_zip->rQ,spliced->se,valueAt->sf,wpAny_execs_cons->sX,bindArgs->sY,wpAny_getItem_list_slice->sZ,wpAny_comprehension_free->s_,tupleKind->tV,PassesOwn->tW,bindL->tX,bindC->tY,atKey->t6,scanBound->t7,codeAny_builtin->t8,pushCells_keeps->t_,subscripted->uA,holding->u7,pyIter->u9,getitemInPython_of_ne->vf,meets_str_split_space->vh,newFunctionEnv->vj,wpAny_loadName_local->v7,codeAny_call_builtin->v9,sliceRange->v_,wpAny_letTemporaryGo->wc,field->wg,swapsWithSole->wN,swappedStores->wQ,wpAny_loadName_cell->wV,wpAny_Tuple_spliced->wX,wpAny_isSubtype_exc->wZ,isTrue->yz,inplaceOp->yC,seqIndex_neg->yH,slicePick->yJ,getItem->zq,wpAny_assign_Name->zw,wpAny_pyIter_enum->zA,seqIndex_of->Aj,wpAny_letGo->Al,GenState->A3,noFill_tuple_add->A4,wpAny_lookBehind->A8,pastItsLine_dict->A9,ZipApart->Ba,builtinsNs->Cd,wpAny_Name->Ce,nsFind->Cf,Result->Cg,typeIs_int->Ck,codeAny_of_tree->Cp,isInstance->Cr,wpAny_specialOf->Ct,wpAny_operating->Cu,call_gives->Cw,wpAny_rule->Cz,wpAny_Expr_any->Ds,standAt->Dt,recursionLimit->Dv,BindsTo->Dw,wpAny_loadPart->Dz,letTemporaryGo->DA,numbered_texts->DB,Keyword->DC,firstArgMember->DE,storeName->EO,noteFrame->ER,strValues->ES,lastMarks->ET,intBits_le_64->E7,seq_tuple_add->E8,evalPart_none->E9,evalPart_some->Fc,wpAny_attempt->Fd,concat_meets->HW,Params->H_,ExcBaseFacts->Ib,instanceDict->Ic,wpAny_nsSet1->Ie,interactive->IV,IsRangeIter->IW,wpAny_Slice->IZ,wpAny_alloc->Ja,strsFrom_eq->Jb,setItem->J6,getAttr->J7,leaving->J8,Builtin->J9,OwnTail->J_,Model->LM,execs->LN,typeLookup->LP,refuseLoop->LX,closureFor->LY,truthy->O3,IsPart->O4,DefRec->O6,cellOf->Pa
open List renaming mem_cons_of_mem->aj,length_append->ak,mem_cons_self->ay,length_map->az,mem_append_right->aA,length_cons->aB,mem_cons->aH,getElem?_eq_getElem->aJ,mem_append_left->aO,size_toArray->aQ,replicate->aT,append_assoc->aW,mem_singleton->a8,mem_append->a_,not_mem_nil->be,length_singleton->bF,range->bG,map_map->bJ,nodup_append->bK,getElem?_map->bP,mem_map->bT,getElem?_eq_some_iff->bU,all_eq_true->bV,replicate_succ->bX,nodup_cons->b8,map_cons->cj,map_append->cz,lookup_cons->cA,getElem?_set_ne->cB,length_nil->cN,getElem?_append_right->cP,flatten_cons->cQ,take_of_length_le->dM,length_drop->d_,getD_eq_getElem?_getD->eB,getElem?_set_self->eK,append_nil->eZ,getElem?_append_left->e_,mem_of_getElem?->gp,getElem?_set->gw,eq_nil_of_length_eq_zero->gx,filterMap_cons->gA,getElem_mem->gE,mem_range->iF,nodup_nil->iG,all_map->iT,filterMap_cons_some->iU,filterMap_cons_none->iV,map_congr_left->iY,find?_cons->ji,lookup->ju,length_range->jF,length_take->j6,intercalate->j8,nil_append->kJ,mem_replicate->ly,drop_zero->lT,getElem?_cons_succ->lY,any_eq_false->l9,range_succ_eq_map->mF,drop_of_length_le->mG,any_cons->mY,any_eq_true->nt,getElem?_of_mem->oK,drop_append_of_le_length->oS,contains_cons->qF,getElem?_eq_none_iff->rO,drop_eq_getElem_cons->rP,getElem_append_right->rR,idxOf_lt_length_iff->s9,getElem?_replicate->tB,filter_cons_of_pos->tD,of_mem_zip->tZ,forIn_cons->t9,filter->uE,length_replicate->u_,forIn_nil->vm,set_append_right->vn,all_cons->wR,map_drop->wU,getElem_of_mem->w4,getElem?_range->w6,mem_filterMap->yD,any_map->yP,foldl_append->zy,isEmpty_iff->A_,zipIdx_cons->Bb,mem_filter->Cc,length_set->Cj,foldl->Cm,foldl_cons->Cn,range_succ->Co,count_cons->Cq,idxOf_cons->Cv,zipIdx_nil->CA,isPrefixOf->CF,take_left->DF,sum_cons->Fe,map_take->Ff,map_nil->H9,map_id->Jf,cons->Pf
open PySem.Str renaming ofString->ao,join->ee,empty->eU,length->fY,length_append->rm
open PySem.Heap renaming get?_push_of_some->aq,lt_size->aK,get?_push_size->a7,size_push->cU,get?_update_other->eL,SameBut->jN,get?_update_self->jO,IsTuple->Ih
open False renaming elim->au
open Nat renaming le_refl->aN,ne_of_lt->bD,lt_of_lt_of_le->bM,le_trans->dz,lt_irrefl->eu,le_of_lt->iN,ne_of_gt->iO,lt_succ_self->iS,le_succ->jv,lt_succ_of_lt->jD,lt_trans->lq,zero_le->mE,zero_add->oN,sub_self->oR,mod_eq_of_lt->tu,min_eq_left->ua,lt_of_succ_lt_succ->uC,succ_mul->yK,add_comm->yL,le_of_eq->yN,toDigits->yR,le_add_right->Bc,mul_comm->Ig,mul_succ->Ij,repr->Ik,log2_lt->Je
open Bool renaming false_ne_true->aY,and_eq_true->bR,eq_iff_iff->g_,or_eq_true->oJ,not_eq_true'->q_,and_false->vc,and_eq_true_iff->we,or_true->yO,false_and->Du,and_true->Fb,true_or->HZ
open PySem.Value renaming ref->bu,none->cY,bool->gK,str->nG,int->qA,float->Ai,isStrOf->E6,isInt->IT,bytes->IU
open PySem.NameKind renaming free->b7,cell->ck
open PySem.Expr.Name renaming elim->b9
open Option.some renaming inj->cM
open PySem.Builtin.SmallTypes renaming nextOf->cS,ownedTupleIsFree->fG,ownedTupleHandOut->lu
open Ne renaming symm->cT
open PySem.Builtin.Str renaming strSliceIndices->cZ,spaceWords->jw,tooLong->L0,strSub->O_
open PySem.Calls renaming spliced_cons->dX,spliced_nil->iw,Name_function_global->qP,callWith_builtin->uD,docDef->O7
open True renaming intro->d9
open PySem.Expr.Call renaming elim->eN
open PyProof.Rows renaming callWith_type1->fP,callWith_builtin1->gu,envOfC->jh,AllBare->jM,step_dedup->lX,subscriptTail->mX,step_dedup->oG,subscriptTail_builtinR->uB,IntsAre->vd,slot_tuple_getitem->yI,slot_str_getitem->A5,Subscript_->Ci,boot_isinstance->Cy,tail_any->HY,zipApart_new->Ii,text_ofNat->Io,SetOf_congr->I_,join_list->Jc,isTrue_and->LO
open PyProof.Rows.F renaming plain_set_update_loop->gU,entry_set_update_loop->k_
open PySem.Txt renaming words->gW,split->iE,mul->Ka
open PySem.Builtin.ObjectAttr renaming storeInOwnDict->iD,ownDictForStores->lS,storeInDict->oH
open PySem.Builtin.List renaming listTooLong->iR,listFitsIndex->E_
open ForInStep renaming yield->jj
open PySem.Obj renaming mapSeq->j7,data_mapFields->qE,mapFields->qS,isFreed_of_fields->ve,cls_mapFields->zz
open List.cons renaming inj->kh
open PySem.Expr.Subscript renaming elim->kC
open PySem.Expr.Tuple renaming elim->oQ
open PySem.Code renaming quiet_builtin->qD,isFrame->yF,frames->IY
open Int renaming fdiv_eq_ediv_of_nonneg->qQ,toNat_natCast->qW,add_zero->yS,negSucc->Am,zero_add->Il
open Array renaming getElem?_eq_some_iff->qT,getElem?_toList->vg,length_toList->wW,toList_append->w5,toList->HV
open Option renaming isSome_map->qY,isSome_some->yM,getD_none->A6
open PySem.StrLaws renaming subAt_one->q9,occ_length_le->Kc,lt_cons_cons->LZ,join_split->O8,split_free->O9,lt_nil_nil->Pe,occ_tight->Ph,occ_head->SY,subAt_eq->S0
open Sum renaming inl->r_,inr->sd
open PySem.Around renaming under_plainId->v8,under->yE
open Char renaming toNat->wj,ofNat->CC
open PySem.EntryCells renaming newEntry->wY
open PySem.Heap.SameBut renaming update->w9
open PySem.Heap.IsSliceOf renaming new->yG
open PySem.Expr.ListComp renaming elim->yQ
open Iff renaming rfl->zu
open List.Pairwise renaming nil->zx
open PySem.Expr.UnaryOp renaming elim->zB
open PySem.Expr.Compare renaming elim->zC
open PySem.AutoListH renaming list___mul___list_int_3->Ak
open PySem.AutoSeq1 renaming list_extend_list_list_0->A7
open PySem.Expr.BoolOp renaming elim->Bd
open PySem.Stmt.Assign renaming elim->Be
open PySem.Builtin.Frozenset renaming updateFrom->Dy
open PySem.W renaming fd_plain->Ia,pre_splitW->LQ,enter_call->LV
open PySem.Builtin.Range renaming rangeSize->Im
open PyProof renaming noPylong_small->IX
open PySem.Shared renaming heap->Jd
open PySem.W.WShape renaming has->LR
open PySem.W.Dflts renaming none->LS,noKw->LU
open PySem.Walks renaming list->LW
open PySem.Expr.Attribute renaming elim->L1
open PySem.Expr.JoinedStr renaming elim->L4
open PySem.Stmt.AugAssign renaming elim->L5
open PySem.SeqAt.EqAt renaming int_str->O1,str_int->O2
open PySem.W.WData renaming int->O5
open PySem.Expr.Constant renaming elim->Pb
open PySem.ScopeKind renaming function->Pc
open PySem.Stmt.Continue renaming elim->Pd
open PySem.Heap.Ns1 renaming of_empty->Pg
open PySem.Heap.IsTuple renaming push->Pj
open PySem.DictEntry renaming refKey->SX
open PySem.Stmt.Return renaming elim->S1
open PySem.PassesOwn renaming never->T_
open PySem.Expr.BinOp renaming elim->Ua
open PySem.Expr.IfExp renaming elim->Ub
open PySem.Expr.Slice renaming elim->Uc
open PySem.Stmt.Break renaming elim->Ud
open PySem.Stmt.Raise renaming elim->Ue
open PySem.Expr.List renaming elim->VS
open PySem.Stmt.Expr renaming elim->VT
open PySem.Stmt.For renaming elim->VU
open PySem.Stmt.If renaming elim->Yc
open Sum.inl renaming inj->Yd
open Sum.inr renaming inj->Ye
open PySem.IsRange renaming new->Yg
open PySem.W.OpenLaw renaming pre->Yh
open PySem.Heap.Ns renaming new->Yi
section
namespace L2
open PySem PySem.Spec PyProof.Rows
noncomputable abbrev Key:=Sum Int Str
noncomputable def yT:Key->Value->Bool
|.inl k,v=>IT k v
|.inr x,v=>E6 x v
noncomputable def ZR(w:bH):Key->Int
|.inl k=>hashInt k
|.inr x=>hashStr w x
theorem gJ:∀{k:Key}{v:Value},yT k v=true->(∃i t,k=r_ i/\v=qA i t)\/(∃x t,k=sd x/\v=nG x t)
|.inl i,v,h=>by
 obtain⟨t,e⟩:=Value.isInt_shape (k:=i) (v:=v) h;exact .inl ⟨i,t,rfl,e⟩
|.inr x,v,h=>by
 obtain⟨t,e⟩:=Value.isStrOf_shape (x:=x) (v:=v) h;exact .inr ⟨x,t,rfl,e⟩
theorem L6(i:Int)(t:Tok):yT (.inl i) (.int i t)=true:=by simp[yT,IT]
theorem L7(x:Str)(t:Tok):yT (.inr x) (.str x t)=true:=by simp[yT,E6]
theorem VV(a b:Int):decide ((r_ a:Key)=r_ b)=(a==b):=by
 by_cases e:a=b
 ·subst e;simp
 ·have h:¬(r_ a:Key)=r_ b:=fun q=>e (Yd q);rw[decide_eq_false h];exact(beq_eq_false_iff_ne.mpr e).symm
theorem VW(a b:Str):decide ((sd a:Key)=sd b)=decide (a=b):=by
 by_cases e:a=b
 ·subst e;simp
 ·have h:¬(sd a:Key)=sd b:=fun q=>e (Ye q);rw[decide_eq_false h,decide_eq_false e]
theorem VX(a:Int)(b:Str):decide ((r_ a:Key)=sd b)=false:=decide_eq_false (fun q=>nomatch q)
theorem VY(a:Str)(b:Int):decide ((sd a:Key)=r_ b)=false:=decide_eq_false (fun q=>nomatch q)
noncomputable def gB(prog:bq)(w:bH):PySem.KeyKind prog w Key where
 is:=yT
 hash:=ZR w
 inj:=fun v a b ha hb=>by
  rcases gJ ha with⟨i,t,rfl,rfl⟩|⟨x,t,rfl,rfl⟩
  ·rcases gJ hb with⟨j,u,rfl,e⟩|⟨y,u,rfl,e⟩
   ·injection e with e1 _;rw[e1]
   ·exact nomatch e
  ·rcases gJ hb with⟨j,u,rfl,e⟩|⟨y,u,rfl,e⟩
   ·exact nomatch e
   ·injection e with e1 _;rw[e1]
 byValue:=fun k v h=>by
  rcases gJ h with⟨i,t,rfl,rfl⟩|⟨x,t,rfl,rfl⟩<;>rfl
 pyHash:=fun hv h=>by
  rcases gJ hv with⟨i,t,rfl,rfl⟩|⟨x,t,rfl,rfl⟩
  ·exact wpAny_pyHash_int h
  ·exact wpAny_pyHash_str h
 eqBool:=fun hu hv h=>by
  rcases gJ hu with⟨i,t,rfl,rfl⟩|⟨x,t,rfl,rfl⟩
  ·rcases gJ hv with⟨j,u,rfl,rfl⟩|⟨y,u,rfl,rfl⟩
   ·rw[VV]at h;exact wpAny_eqBool_int h
   ·rw[VX]at h;exact O1 i t y u _ _ _ _ h
  ·rcases gJ hv with⟨j,u,rfl,rfl⟩|⟨y,u,rfl,rfl⟩
   ·rw[VY]at h;exact O2 x t j u _ _ _ _ h
   ·rw[VW]at h;exact wpAny_eqBool_str h
 «strs»:=fun k x t v h=>by
  rcases gJ h with⟨i,u,rfl,e⟩|⟨y,u,rfl,e⟩
  ·exact nomatch e
  ·injection e with e1 _;subst e1;cases v<;>rfl
theorem zD(prog:bq)(w:bH)(i:Int)(t:Tok):(gB prog w).is (.inl i) (.int i t)=true:=L6 i t
theorem zE(prog:bq)(w:bH)(x:Str)(t:Tok):(gB prog w).is (.inr x) (.str x t)=true:=L7 x t
end L2
namespace L2
open PySem PySem.Spec PyProof.Rows
inductive V where
 |non|bl (b:Bool)|int (i:Int)|str (x:Str)|byt (b:Array UInt8)|flt (b:UInt64)|ref (a:Addr)|ty (n:String)
 deriving DecidableEq
def RelV:V->Value->Prop
|.non,u=>u=cY
|.bl b,u=>u=gK b
|.int i,u=>∃t,u=qA i t
|.str x,u=>∃t,u=nG x t
|.byt b,u=>∃t,u=IU b t
|.flt b,u=>∃t,u=Ai b t
|.ref a,u=>u=bu a
|.ty n,u=>u=Value.type n
abbrev bw:List V->List Value->Prop:=Paired RelV
theorem bw.length{xs:List V}{us:List Value}(r:bw xs us):xs.length=us.length:=Paired.length r
theorem bw.get:∀{xs:List V}{us:List Value}{i:Nat}{x:V},bw xs us->xs[i]?=some x->∃u,us[i]?=some u/\RelV x u
|_,_,_,_,.nil,e=>by simp at e
|_,_,0,_,.cons r _,e=>by simp at e;subst e;exact⟨_,rfl,r⟩
|_,_,i+1,x,.cons _ t,e=>by
 obtain⟨u,h1,h2⟩:=bw.get (i:=i) (x:=x) t (by simpa using e);exact⟨u,by simpa using h1,h2⟩
theorem bw.set{x:V}{u:Value}(r:RelV x u):∀{xs:List V}{us:List Value} (i:Nat),bw xs us->bw (xs.set i x) (us.set i u)
|_,_,_,.nil=>.nil
|_,_,0,.cons _ t=>.cons r t
|_,_,i+1,.cons q t=>.cons q (bw.set r i t)
theorem bw.append:∀{xs ys:List V}{us ws:List Value},bw xs us->bw ys ws->bw (xs++ys) (us++ws)
|_,_,_,_,.nil,s=>s
|_,_,_,_,.cons r t,s=>.cons r (bw.append t s)
theorem bw.take:∀{xs:List V}{us:List Value} (n:Nat),bw xs us->bw (xs.take n) (us.take n)
|_,_,0,_=>.nil
|_,_,_+1,.nil=>.nil
|_,_,n+1,.cons r t=>.cons r (bw.take n t)
theorem bw.drop:∀{xs:List V}{us:List Value} (n:Nat),bw xs us->bw (xs.drop n) (us.drop n)
|_,_,0,r=>r
|_,_,_+1,.nil=>.nil
|_,_,n+1,.cons _ t=>bw.drop n t
def lZ:Option V->Option Value->Prop
|some v,some u=>RelV v u
|none,none=>True
|_,_=>False
def KV{κ:Type}:List (κ×V)->List (κ×Value)->Prop:=Paired fun(p:κ×V) (q:κ×Value)=>p.1=q.1/\RelV p.2 q.2
noncomputable def kV:Key->V
|.inl i=>.int i
|.inr x=>.str x
inductive HO where
|lst (xs:List V)
|tup (xs:List V)
|dK (kvs:List (Key×V))|dT (kvs:List (List Key×V))
|set (S:Int->Bool) (n:Nat)
|ins (C dx:Addr) (fs:List (Str×V))
|own (x:Addr)
|xd (fs:List (Str×V))
|met (f x:Addr)
|rng (lo hi:Int)
|bh (o:Obj) (u:HO)
|tbl (ps:Array Value)
|ext (φ:Heap->Prop)
noncomputable abbrev Hp:=Addr->Option HO
noncomputable def upd(H:Hp)(a:Addr)(o:HO):Hp:=fun b=>if b=a then some o else H b
variable{H:Hp}{a:Addr}{o:HO}
theorem bQ:upd H a o a=some o:=by unfold upd;rw[if_pos rfl]
variable{b:Addr}
theorem aV(h:b≠a):upd H a o b=H b:=by unfold upd;rw[if_neg h]
variable{u:HO}
theorem Yj(h:H a=some o)(h':H b=some u)(d:o≠u):a≠b:=by
 intro e;subst e;rw[h]at h';exact d (cM h')
theorem bY(h:H a=some o)(h':H b=none):a≠b:=by
 intro e;subst e;rw[h]at h';cases h'
section
variable(P:bq) (w:bH)
def dN(H:Hp)(h:Heap)(a:Addr):HO->Prop
|.lst xs=>xs.length<=aa/\∃(its:List Value) (n:Nat),bw xs its/\h.get? a=some { cls:=.type "list",data:=.seq its.toArray n }
|.tup xs=>xs.length<=aa/\∃its:List Value,bw xs its/\IsTup h a its.toArray
|.dK kvs=>kvs.length<=aa/\(a==j4)=false/\∃vs,KV kvs vs/\h.DictOf (gB P w) a vs
|.dT kvs=>kvs.length<=aa/\(a==j4)=false/\∃xs:List (List Key×Addr×Value),
  Paired (fun(p:List Key×V) (q:List Key×Addr×Value)=>p.1=q.1/\H q.2.1=some (.tup (p.1.map kV))/\RelV p.2 q.2.2) kvs xs /\
  ∃o es ep,h.get? a=some o/\o.ExactDict/\o.data=.dict es ep/\es.toList=xs.map (entryOfKey (tV (gB P w)))/\(xs.map (·.1)).Nodup
|.set S n=>h.SetOf (intKind P w) a S n
|.ins C dx fs=>H dx=some (.own a)/\fs.length<=1000/\dx≠a/\h.get? a=some (PySem.W.instObj C dx) /\
  ∃mA,h.Ns1 dx mA/\(∀f,lZ (fs.lookup f) (mA f))/\PySem.Within mA (fs.map (·.1))
|.own _=>∃o,h.get? a=some o
|.xd fs=>∃mA,h.Ns1 a mA/\∀f,lZ (fs.lookup f) (mA f)
|.rng lo hi=>∃t u v,h.get? a=some { cls:=.type "range",data:=.fields #[.int lo t,.int hi u,.int 1 v] }
|.bh o u=>h.get? a=some o/\dN H h a u
|.tbl ps=>h.get? a=some { cls:=.none,data:=.fields ps }
|.met f x=>h.get? a=some (PySem.W.methodObj (.ref f) (.ref x))
|.ext φ=>φ h/\(∃o,h.get? a=some o)/\∀h1 h2:Heap,φ h1->(∀o,h1.get? a=some o->h2.get? a=some o)->φ h2
def fB(H:Hp)(h:Heap):Prop:=∀a o,H a=some o->dN P w H h a o
end
section
variable{P:bq}{w:bH}{H H':Hp}{h h':Heap}{a:Addr}{o:HO}
theorem dN.lt(x:dN P w H h a o):a<h.objs.size:=by
 cases o with
 |lst xs=>obtain⟨_,_,_,_,e⟩:=x;exact aK e
 |tup xs=>obtain⟨_,_,_,p⟩:=x;exact p.lt
 |dK kvs=>obtain⟨_,_,_,_,o,_,_,e,_⟩:=x;exact aK e
 |dT kvs=>obtain⟨_,_,_,_,o,_,_,e,_⟩:=x;exact aK e
 |set S n=>obtain⟨o,_,_,_,e,_⟩:=x;exact aK e
 |ins C dx fs=>obtain⟨_,_,_,e,_⟩:=x;exact aK e
 |own y=>obtain⟨_,e⟩:=x;exact aK e
 |xd fs=>obtain⟨_,⟨_,_,_,e,_⟩,_⟩:=x;exact aK e
 |rng lo hi=>obtain⟨_,_,_,e⟩:=x;exact aK e
 |bh ob u=>obtain⟨e,_⟩:=x;exact aK e
 |tbl ps=>exact aK (show h.get? a=some _ from x)
 |met f y=>exact aK (show h.get? a=some _ from x)
 |ext φ=>obtain⟨_,⟨_,e⟩,_⟩:=x;exact aK e
theorem Paired.Pk{α β:Type}{F G:α->β->Prop}:∀{abx:List α}{aby:List β},Paired F abx aby->(∀a b,F a b->G a b)->Paired G abx aby
|_,_,.nil,_=>.nil
|_,_,.cons r t,f=>.cons (f _ _ r) (Paired.Pk t f)
theorem dN.stay(x:dN P w H h a o)(k:∀b u,(b=a\/H b=some (.own a))->h.get? b=some u->h'.get? b=some u)
  (ho:∀b,H b=some (.own a)->H' b=some (.own a)) (ht:∀b xs,H b=some (.tup xs)->H' b=some (.tup xs)):dN P w H' h' a o:=by
 induction o with
 |lst xs=>obtain⟨z,its,n,r,e⟩:=x;exact⟨z,its,n,r,k _ _ (.inl rfl) e⟩
 |tup xs=>obtain⟨z,its,r,ob,e,c⟩:=x;exact⟨z,its,r,ob,k _ _ (.inl rfl) e,c⟩
 |dK kvs=>obtain⟨z,y,vs,r,ob,es,ep,e,c⟩:=x;exact⟨z,y,vs,r,ob,es,ep,k _ _ (.inl rfl) e,c⟩
 |dT kvs=>
  obtain⟨z,y,xs,r,ob,es,ep,e,c⟩:=x;exact⟨z,y,xs,Paired.Pk r fun p q z=>⟨z.1,ht _ _ z.2.1,z.2.2⟩,ob,es,ep,k _ _ (.inl rfl) e,c⟩
 |set S n=>obtain⟨ob,es,ep,t,e,c⟩:=x;exact⟨ob,es,ep,t,k _ _ (.inl rfl) e,c⟩
 |ins C dx fs=>
  obtain⟨d,z,ne,e,mA,⟨od,es,ep,e2,c⟩,r⟩:=x;exact⟨ho _ d,z,ne,k _ _ (.inl rfl) e,mA,⟨od,es,ep,k _ _ (.inr d) e2,c⟩,r⟩
 |own y=>obtain⟨ob,e⟩:=x;exact⟨ob,k _ _ (.inl rfl) e⟩
 |xd fs=>obtain⟨mA,⟨od,es,ep,e,c⟩,r⟩:=x;exact⟨mA,⟨od,es,ep,k _ _ (.inl rfl) e,c⟩,r⟩
 |rng lo hi=>obtain⟨t,u,v,e⟩:=x;exact⟨t,u,v,k _ _ (.inl rfl) e⟩
 |bh ob u ih=>obtain⟨e,q⟩:=x;exact⟨k _ _ (.inl rfl) e,ih q⟩
 |tbl ps=>
  have e:h.get? a=some { cls:=.none,data:=.fields ps }:=x;show h'.get? a=some { cls:=.none,data:=.fields ps };exact k a _ (.inl rfl) e
 |met f y=>
  have e:h.get? a=some (PySem.W.methodObj (.ref f) (.ref y)):=x;show h'.get? a=some (PySem.W.methodObj (.ref f) (.ref y));exact k a _ (.inl rfl) e
 |ext φ=>obtain⟨p,⟨o,e⟩,st⟩:=x;exact⟨st _ _ p fun o q=>k _ _ (.inl rfl) q,⟨o,k _ _ (.inl rfl) e⟩,st⟩
theorem fB.lt(x:fB P w H h)(e:H a=some o):a<h.objs.size:=(x a o e).lt
theorem fB.fresh(x:fB P w H h)(e:h.objs.size<=a):H a=none:=by
 cases q:H a with
 |none=>rfl
 |some u=>exact absurd (bM (x.lt q) e) (eu _)
theorem fB.kept(x:fB P w H h)(k:∀b u,h.get? b=some u->h'.get? b=some u):fB P w H h':=fun a o e=>
 (x a o e).stay (fun b u _ q=>k b u q) (fun _ q=>q) fun _ _ q=>q
theorem fB.laid(x:fB P w H h)(k:∀b u,h.get? b=some u->h'.get? b=some u)(hp:h.objs.size<=a)(new:dN P w (upd H a o) h' a o):fB P w (upd H a o) h':=fun b u e=>by
 have hn:=x.fresh hp;by_cases hb:b=a
 ·subst hb;rw[bQ]at e;cases e;exact new
 ·rw[aV hb]at e;exact(x b u e).stay (fun c v _ q=>k c v q) (fun c q=>by rw[aV (bY q hn)];exact q) fun c xs q=>by rw[aV (bY q hn)];exact q
end
def Rd(H:Hp)(a:Addr)(u:HO):Prop:=H a=some u\/∃o,H a=some (.bh o u)
variable{h:Heap}
theorem Rd.ok{P:bq}{w:bH}(r:Rd H a u)(x:fB P w H h):dN P w H h a u:=by
 rcases r with r|⟨o,r⟩
 ·exact x a u r
 ·obtain⟨_,q⟩:=x a _ r;exact q
def L8:Option HO->Prop
|some (.lst _)=>True
|some (.dK _)=>True
|some (.dT _)=>True
|some (.set _ _)=>True
|some (.ins _ _ _)=>True
|some (.ext _)=>True
|_=>False
section
variable{P:bq}{w:bH}{H:Hp}{h h':Heap}{x e:Addr}{o':HO}
theorem fB.write(ok:fB P w H h)(mu:L8 (H x))(he:e=x\/H e=some (.own x))(k:∀b u,b≠e->h.get? b=some u->h'.get? b=some u)(heo:∃u,h'.get? e=some u)
  (new:dN P w (upd H x o') h' x o'):fB P w (upd H x o') h':=fun b u q=>by
 have nown:∀c y,H c=some (.own y)->c≠x:=fun c y r z=>by subst z;rw[r]at mu;exact mu
 have ntup:∀c xs,H c=some (.tup xs)->c≠x:=fun c xs r z=>by subst z;rw[r]at mu;exact mu
 by_cases hb:b=x
 ·subst hb;rw[bQ]at q;cases q;exact new
 ·rw[aV hb]at q;by_cases hbe:b=e
  ·have q':H b=some (.own x):=by
    rcases he with z|z
    ·exact absurd (hbe.trans z) hb
    ·rw[hbe];exact z
   rw[q]at q';cases q';obtain⟨v,hv⟩:=heo;exact⟨v,by rw[hbe];exact hv⟩
  ·refine(ok b u q).stay (fun c v hc r=>k c v ?_ r) (fun c r=>by rw[aV (nown c b r)];exact r) fun c xs r=>by rw[aV (ntup c xs r)];exact r
   rcases hc with rfl|hc
   ·exact hbe
   ·rintro rfl;rcases he with z|z
    ·exact nown c b hc z
    ·rw[hc]at z;cases z;exact hb rfl
end
structure Un (fs ex:List Addr) (H H':Hp) (h h':Heap):Prop where
 keep:∀b o,h.get? b=some o->H b=none->b∉fs->b∉ex->h'.get? b=some o
 slot:∀b o,h.get? b=some o->H b=none->b∈fs->b∉ex->∃sl,h'.get? b=some { o with slots:=sl }
 free:∀b o,h.get? b=some o->H b=none->b∉ex->H' b=none
 there:∀b o,h.get? b=some o->b∉ex->∃o',h'.get? b=some o'
 tups:∀b xs,H b=some (.tup xs)->H' b=some (.tup xs)
 aD:∀b o u,H b=some (.bh o u)->H' b=some (.bh o u)
 tbls:∀b ps,H b=some (.tbl ps)->∃more,H' b=some (.tbl (ps++more))
section
variable{fs fs' ex ex':List Addr}{H H1 H2:Hp}{h h1 h2 h':Heap}{a x e:Addr}{o:HO}
theorem Un.any(u:Un fs ex H H1 h h1){ob:Obj}(q:h.get? b=some ob)(n:H b=none)(hx:b∉ex):∃sl,h1.get? b=some { ob with slots:=sl }:=by
 by_cases hb:b∈fs
 ·exact u.slot b ob q n hb hx
 ·exact⟨ob.slots,u.keep b ob q n hb hx⟩
theorem Un.kept(k:∀b u,h.get? b=some u->h'.get? b=some u):Un fs ex H H h h':=
 ⟨fun b ob q _ _ _=>k b ob q,fun b ob q _ _ _=>⟨ob.slots,k b ob q⟩,fun _ _ _ n _=>n,fun b ob q _=>⟨ob,k b ob q⟩,fun _ _ q=>q,fun _ _ _ q=>q,fun _ ps q=>⟨#[],by rw[q];simp⟩⟩
theorem Un.refl:Un fs ex H H h h:=Un.kept fun _ _ q=>q
theorem Un.laid(k:∀b u,h.get? b=some u->h'.get? b=some u)(hp:h.objs.size<=a)(hn:H a=none):Un fs ex H (upd H a o) h h' where
 keep:=fun b u q _ _ _=>k b u q
 slot:=fun b u q _ _ _=>⟨u.slots,k b u q⟩
 free:=fun b u q n _=>by rw[aV (bD (bM (aK q) hp))];exact n
 there:=fun b u q _=>⟨u,k b u q⟩
 tups:=fun b xs q=>by rw[aV (bY q hn)];exact q
 aD:=fun b u xs q=>by rw[aV (bY q hn)];exact q
 tbls:=fun b ps q=>⟨#[],by rw[aV (bY q hn),q];simp⟩
theorem Un.write(mu:L8 (H x))(he:e=x\/H e=some (.own x))(k:∀b u,b≠e->h.get? b=some u->h'.get? b=some u)(heo:∃u,h'.get? e=some u):Un fs ex H (upd H x o) h h':=by
 have hx:∀b,H b=none->b≠x:=fun b n z=>by subst z;rw[n]at mu;exact mu
 have hb:∀b,H b=none->b≠e:=fun b n z=>by
  subst z;rcases he with r|r
  ·exact hx b n r
  ·rw[n]at r;cases r
 have hm:∀b u,H b=some u->¬L8 (some u)->b≠x:=fun b u q nm z=>by subst z;rw[q]at mu;exact nm mu
 refine⟨fun b u q n _ _=>k b u (hb b n) q,fun b u q n _ _=>⟨u.slots,k b u (hb b n) q⟩,fun b u q n _=>by rw[aV (hx b n)];exact n,fun b u q _=>?_,
  fun b xs q=>by rw[aV (hm b _ q fun z=>z)];exact q,fun b u xs q=>by rw[aV (hm b _ q fun z=>z)];exact q,fun b ps q=>⟨#[],by rw[aV (hm b _ q fun z=>z),q];simp⟩⟩
 by_cases hbe:b=e
 ·subst hbe;exact heo
 ·exact⟨u,k b u hbe q⟩
end
noncomputable def S2(h:Heap)(H:Hp):List Addr:=(bG h.objs.size).filter fun a=>(H a).isSome
noncomputable def vo(h:Heap)(H:Hp):Heap:=PySem.W.hideAll h (S2 h H)
theorem L_(h:Heap)(H:Hp):(vo h H).objs.size=h.objs.size:=PySem.W.hideAll_size _ _
theorem Pn{o:Obj}(e:h.get? b=some o)(n:H b=none):(vo h H).get? b=some o:=
 PySem.W.hideAll_get _ e fun hm=>by
  have q:(H b).isSome=true:=(Cc.mp hm).2;rw[n]at q;simp at q
theorem Ug{o:Obj}(e:(vo h H).get? b=some o):h.get? b=some o/\H b=none:=by
 have e':h.get? b=some o:=PySem.W.of_hideAll (S2 h H) e;refine⟨e',?_⟩;cases q:H b with
 |none=>rfl
 |some x=>
  have hm:b∈S2 h H:=Cc.mpr ⟨iF.mpr (aK e'),by simp[q]⟩;have z:(vo h H).get? b=none:=PySem.W.hideAll_none (S2 h H) hm;rw[z]at e;cases e
noncomputable def Uh(g h:Heap)(L:Addr):List (Addr×Obj):=(bG h.objs.size).filterMap fun a=>if a=L\/(g.get? a).isSome=true then none else(h.get? a).map fun o=>(a,o)
noncomputable def rest(g h:Heap)(L d:Addr):List (Addr×Obj):=(Uh g h L).filter fun p=>decide (p.1≠d)
end L2
namespace L2
open PySem PySem.Spec PyProof.Rows
structure Mod (K:PySem.W.Frag) (mg:Str->Option Value) (base:Heap):Prop where
 kin:K.In base
 glob:base.Ns dG mg
 blt:∃mb,base.Ns Cd mb/\∀x:Str,x≠"__name__"->mb x=oz x
 nolimit:base.NoLimit
structure Cx where
 prog:bq
 w:bH
 K:PySem.W.Frag
 mg:Str->Option Value
 base:Heap
 A:cC
 N:List Str
 aa9:ai
 abj:Hp
 env:Env
 outer:List Env
 stack:List Env
 ex:List Addr
 fn:Str->Bool
 calm:Bool
 pn:List (Addr×Obj)
 xe:Value->ai->Prop
noncomputable def frs(l:List Env):List Addr:=l.filterMap (·.frame)
noncomputable abbrev Cx.fs(X:Cx):List Addr:=frs X.outer
def FG(sc:fO)(x:Str):Prop:=sc.names.lookup x=some .local\/sc.names.lookup x=some .cell\/sc.names.lookup x=some .free
def Loc(sc:fO)(x:Str):Prop:=sc.names.lookup x=some .local\/sc.names.lookup x=some .cell
def Look(env:Env)(h:Heap)(m:Str->Option Value)(x:Str)(u:Value):Prop:=
 (env.kindOf x=some .local/\m x=some u)\/((env.kindOf x=some .cell\/env.kindOf x=some .free)/\∃c,env.cells.lookup x=some c/\h.IsCell c (some u))
structure Cx.Ok (X:Cx):Prop where
 mod:Mod X.K X.mg X.base
 kind:X.env.scope.kind=.function
 glob:X.env.globals=dG
 blt:X.env.builtins=Cd
 above:X.aa9.heap.objs.size<=X.env.locals
 inj:∀x y c,X.env.cells.lookup x=some c->X.env.cells.lookup y=some c->x=y
 has:∀x,(X.env.kindOf x=some .cell\/X.env.kindOf x=some .free)->∃c,X.env.cells.lookup x=some c
 cab:∀x c,X.fn x=true->X.env.cells.lookup x=some c->X.aa9.heap.objs.size<=c
 hd:X.calm=true->X.A.handled=none
 frames:X.A.frames=some X.stack
 stk:X.stack=X.outer\/(X.stack=X.env::X.outer/\X.env.frame=some X.env.locals)
 exf:∀b∈X.ex,b≠X.env.locals/\∀x c,X.env.cells.lookup x=some c->c≠b
 bs:∀b o,X.base.get? b=some o->X.aa9.heap.get? b=some o/\X.abj b=none
 bsz:X.base.objs.size<=X.aa9.heap.objs.size
 noex:∀b o,X.base.get? b=some o->b∉X.ex
 exfs:∀b∈X.ex,b∉X.fs
 oW:X.aa9.heap.FunFrames X.base X.outer
 frf:∀b∈X.fs,X.abj b=none
structure Inv (X:Cx) (pins:List (Addr×Obj)) (O:List (Option V)) (H:Hp) (s:ai):Prop where
 ok:X.Ok
 os:s.os=X.aa9.os
 bare:jM s.gens
 base:Un X.fs X.ex X.abj H X.aa9.heap s.heap
 loc:∃m,s.heap.Ns X.env.locals m/\∀(i:Nat) (x:Str) (v:V),X.N[i]?=some x->O[i]?=some (some v)->FG X.env.scope x->∃u,RelV v u/\Look X.env s.heap m x u
 cell:∀x c,X.env.cells.lookup x=some c->∃v,s.heap.IsCell c v
 free:H X.env.locals=none
 freeC:∀x c,X.env.cells.lookup x=some c->H c=none
 pin:∀p∈X.pn++pins,s.heap.get? p.1=some p.2/\H p.1=none/\p.1≠X.env.locals/\p.1∉X.fs/\∀v,p.2.data≠.cell v
 hok:fB X.prog X.w H s.heap
 len:O.length=X.N.length
variable{a:Addr}
variable{g':Array A3}{t':Nat}{d':Drawn}{ch:List Addr}
variable{i:Nat}{x:Str}
variable{aa4:LM}{A:cC}{E:Value->ai->Prop}{u:Value}{Q:Unit->ai->Prop}
section
variable{X:Cx}{pins:List (Addr×Obj)}{O:List (Option V)}{H H':Hp}{s:ai}{h':Heap}
theorem Cx.Ok.ZS(ok:X.Ok){b:Addr}{o:Obj}(e:X.base.get? b=some o):b∉X.fs:=fun hb=>by
 have:=(ok.oW.mem hb).1;rw[e]at this;cases this
theorem Inv.bs(I:Inv X pins O H s):∀b o,X.base.get? b=some o->s.heap.get? b=some o/\H b=none:=fun b o e=>
 ⟨I.base.keep b o (I.ok.bs b o e).1 (I.ok.bs b o e).2 (I.ok.ZS e) (I.ok.noex b o e),I.base.free b o (I.ok.bs b o e).1 (I.ok.bs b o e).2 (I.ok.noex b o e)⟩
theorem Inv.bk(I:Inv X pins O H s):∀b o,X.base.get? b=some o->s.heap.get? b=some o:=fun b o e=>(I.bs b o e).1
theorem Inv.mod(I:Inv X pins O H s):Mod X.K X.mg X.base:=I.ok.mod
theorem Inv.fQ(I:Inv X pins O H s):X.K.In s.heap:=I.ok.mod.kin.keeps I.bk
theorem Inv.lt(I:Inv X pins O H s):X.env.locals<s.heap.objs.size:=let⟨_,hn,_⟩:=I.loc;hn.lt
theorem Inv.sz(I:Inv X pins O H s):X.aa9.heap.objs.size<=s.heap.objs.size:=dz I.ok.above (iN I.lt)
theorem Inv.ZT(I:Inv X pins O H s)(h:s.heap.objs.size<=a):a∉X.fs:=fun hb=>by
 obtain⟨_,o,ho,_⟩:=I.ok.oW.mem hb;exact absurd (bM (aK ho) (dz I.sz h)) (eu _)
theorem Inv.FH(I:Inv X pins O H s):∀x c,X.env.cells.lookup x=some c->c≠X.env.locals:=fun x c e z=>by
 obtain⟨v,o,ho,hd⟩:=I.cell x c e;obtain⟨m,⟨o',es,ep,ho',hd',_⟩,_⟩:=I.loc;rw[z,ho']at ho;cases ho;rw[hd']at hd;cases hd
theorem Inv.oW(I:Inv X pins O H s):s.heap.FunFrames X.base X.outer:=by
 have all:∀(l:List Env),(∀b∈frs l,b∈X.fs)->X.aa9.heap.FunFrames X.base l->s.heap.FunFrames X.base l:=by
  intro l;induction l with
  |nil=>intro _ _;trivial
  |cons env r ih=>
   intro hs hl;obtain⟨hk,⟨L,o,hf,hn,ho,hd⟩,hr⟩:=hl;have hL:L∈X.fs:=hs L (by unfold frs;rw[gA,hf];exact ay);obtain⟨sl,e⟩:=I.base.slot L o ho (I.ok.frf L hL) hL fun z=>I.ok.exfs L z hL;exact⟨hk,⟨L,_,hf,hn,e,hd⟩,ih (fun b hb=>hs b (by unfold frs;rw[gA,hf];exact aj _ hb)) hr⟩
 exact all X.outer (fun _ hb=>hb) I.ok.oW
theorem Inv.stack(I:Inv X pins O H s):s.heap.FunFrames X.base X.stack:=by
 rcases I.ok.stk with e|⟨e,hf⟩
 ·rw[e];exact I.oW
 ·rw[e];obtain⟨m,hn,_⟩:=I.loc;refine .cons (by rw[I.ok.kind];decide) hf hn ?_ I.oW;exact Heap.get?_none_of_le (dz I.ok.bsz I.ok.above)
theorem Inv.uF(I:Inv X pins O H s):∀b∈frs X.stack,b∈X.env.locals::X.fs:=fun b hb=>by
 rcases I.ok.stk with e|⟨e,hf⟩
 ·rw[e]at hb;exact aj _ hb
 ·rw[e]at hb;unfold frs at hb;rw[gA,hf]at hb;exact hb
theorem Inv.CH(I:Inv X pins O H s):∀b∈frs X.stack,H b=none:=fun b hb=>by
 rcases aH.mp (I.uF b hb)with e|hb
 ·rw[e];exact I.free
 ·obtain⟨_,o,ho,_⟩:=I.ok.oW.mem hb;exact I.base.free b o ho (I.ok.frf b hb) fun z=>I.ok.exfs b z hb
theorem Inv.step(I:Inv X pins O H s)
  (hch:∀b∈ch,(b∈X.ex\/X.aa9.heap.objs.size<=b)/\b≠X.env.locals/\(∀x c,X.env.cells.lookup x=some c->c≠b)/\∀p∈X.pn++pins,p.1≠b)
  (keep:∀b o,b≠X.env.locals->b∉X.fs->b∉ch->s.heap.get? b=some o->H b=none->h'.get? b=some o)
  (slot:∀b o,b≠X.env.locals->b∈X.fs->b∉ch->s.heap.get? b=some o->H b=none->∃sl,h'.get? b=some { o with slots:=sl }) (free:∀b o,b∉ch->s.heap.get? b=some o->H b=none->H' b=none)
  (there:∀b o,b∉ch->s.heap.get? b=some o->∃o',h'.get? b=some o')
  (tups:∀b xs,H b=some (.tup xs)->H' b=some (.tup xs)) (aD:∀b o u,H b=some (.bh o u)->H' b=some (.bh o u)) (tbls:∀b ps,H b=some (.tbl ps)->∃more,H' b=some (.tbl (ps++more)))
  (ns:∀m,s.heap.Ns X.env.locals m->h'.Ns X.env.locals m) (hok:fB X.prog X.w H' h') (hg:jM g') :
  Inv X pins O H' { s with heap:=h',gens:=g',drawn:=d',toks:=t' }:=by
 have neL:∀b o,X.aa9.heap.get? b=some o->b≠X.env.locals:=fun b o e=>bD (bM (aK e) I.ok.above);have neC:∀b o,X.aa9.heap.get? b=some o->b∉X.ex->b∉ch:=fun b o e hx hb=>by
  rcases(hch b hb).1 with z|z
  ·exact hx z
  ·exact absurd (bM (aK e) z) (eu _)
 have cellK:∀x c,X.env.cells.lookup x=some c->∀v,s.heap.IsCell c v->h'.IsCell c v:=fun x c e v ⟨o,ho,hd⟩=>by
  have nch:c∉ch:=fun z=>(hch c z).2.2.1 x c e rfl;by_cases hc:c∈X.fs
  ·obtain⟨sl,q⟩:=slot c o (I.FH x c e) hc nch ho (I.freeC x c e);exact⟨_,q,hd⟩
  ·exact⟨o,keep c o (I.FH x c e) hc nch ho (I.freeC x c e),hd⟩
 refine⟨I.ok,I.os,hg,⟨fun b o e n hb hx=>?_,fun b o e n hb hx=>?_,fun b o e n hx=>?_,fun b o e hx=>?_,fun b xs e=>tups b xs (I.base.tups b xs e),fun b o xs e=>aD b o xs (I.base.aD b o xs e),fun b ps e=>?_⟩,?_,fun x c e=>?_,?_,fun x c e=>?_,fun p hp=>?_,hok,I.len⟩
 ·exact keep b o (neL b o e) hb (neC b o e hx) (I.base.keep b o e n hb hx) (I.base.free b o e n hx)
 ·obtain⟨sl,e1⟩:=I.base.slot b o e n hb hx;obtain⟨sl',e2⟩:=slot b _ (neL b o e) hb (neC b o e hx) e1 (I.base.free b o e n hx);exact⟨sl',e2⟩
 ·obtain⟨o',e1⟩:=I.base.there b o e hx;exact free b o' (neC b o e hx) e1 (I.base.free b o e n hx)
 ·obtain⟨o',e1⟩:=I.base.there b o e hx;exact there b o' (neC b o e hx) e1
 ·obtain⟨m1,e1⟩:=I.base.tbls b ps e;obtain⟨m2,e2⟩:=tbls b _ e1;exact⟨m1++m2,by rw[e2,Array.append_assoc]⟩
 ·obtain⟨m,hn,hl⟩:=I.loc;refine⟨m,ns m hn,fun i x v e1 e2 e3=>?_⟩;obtain⟨u,r,l⟩:=hl i x v e1 e2 e3;refine⟨u,r,?_⟩;rcases l with l|⟨k,c,e,z⟩
  ·exact .inl l
  ·exact .inr ⟨k,c,e,cellK x c e _ z⟩
 ·obtain⟨v,z⟩:=I.cell x c e;exact⟨v,cellK x c e v z⟩
 ·obtain⟨m,⟨o,_,_,ho,_⟩,_⟩:=I.loc;exact free _ o (fun z=>(hch _ z).2.1 rfl) ho I.free
 ·obtain⟨v,o,ho,hd⟩:=I.cell x c e;exact free c o (fun z=>(hch c z).2.2.1 x c e rfl) ho (I.freeC x c e)
 ·obtain⟨e,n,ne,nf,d⟩:=I.pin p hp;have nch:p.1∉ch:=fun z=>(hch p.1 z).2.2.2 p hp rfl;exact⟨keep p.1 p.2 ne nf nch e n,free p.1 p.2 nch e n,ne,nf,d⟩
theorem Inv.un(I:Inv X pins O H s)(u:Un X.fs [] H H' s.heap h')(hok:fB X.prog X.w H' h'):Inv X pins O H' { s with heap:=h',toks:=t' }:=by
 obtain⟨m,⟨o,es,ep,ho,r⟩,_⟩:=id I.loc;obtain⟨sl,hL⟩:=u.any ho I.free (by simp);exact I.step (g':=s.gens) (d':=s.drawn) (ch:=[]) (fun _ z=>nomatch z) (fun b o _ hb _ e n=>u.keep b o e n hb (by simp)) (fun b o _ hb _ e n=>u.slot b o e n hb (by simp)) (fun b o _ e n=>u.free b o e n (by simp)) (fun b o _ e=>u.there b o e (by simp)) u.tups u.aD u.tbls (fun m' hm=>by
  obtain⟨o',es',ep',ho',r'⟩:=hm;rw[ho]at ho';cases ho';exact⟨_,es',ep',hL,r'⟩) hok I.bare
theorem Inv.call(I:Inv X pins O H s)(u:Un (frs X.stack) ch H H' s.heap h')(hok:fB X.prog X.w H' h')(hg:jM g')
  (hch:∀b∈ch,(b∈X.ex\/X.aa9.heap.objs.size<=b)/\b≠X.env.locals/\(∀x c,X.env.cells.lookup x=some c->c≠b)/\∀p∈X.pn++pins,p.1≠b) :
  Inv X pins O H' { s with heap:=h',gens:=g',drawn:=d',toks:=t' }:=by
 obtain⟨m,⟨o,es,ep,ho,r⟩,_⟩:=id I.loc;obtain⟨sl,hL⟩:=u.any ho I.free fun z=>(hch _ z).2.1 rfl;exact I.step (ch:=ch) hch (fun b o hL hb hc e n=>u.keep b o e n (fun z=>(aH.mp (I.uF b z)).elim hL hb) hc) (fun b o _ _ hc e n=>u.any e n hc) (fun b o hc e n=>u.free b o e n hc) (fun b o hc e=>u.there b o e hc) u.tups u.aD u.tbls (fun m' hm=>by
  obtain⟨o',es',ep',ho',r'⟩:=hm;rw[ho]at ho';cases ho';exact⟨_,es',ep',hL,r'⟩) hok hg
theorem Inv.turned{it:Addr}(I:Inv X pins O H s)(k:∀b o,b≠it->s.heap.get? b=some o->h'.get? b=some o)(hn:H it=none)(hL:it≠X.env.locals)
  (h1:it∈X.ex\/X.aa9.heap.objs.size<=it) (h2:∀x c,X.env.cells.lookup x=some c->c≠it) (h3:∀p∈X.pn++pins,p.1≠it):Inv X pins O H { s with heap:=h',toks:=t' }:=by
 have nit:∀b u,H b=some u->b≠it:=fun b u e z=>by rw[z,hn]at e;cases e
 refine I.step (g':=s.gens) (d':=s.drawn) (ch:=[it]) (fun b hb=>?_) (fun b o _ _ hc e _=>k b o (fun z=>hc (by simp[z])) e) (fun b o _ _ hc e _=>⟨o.slots,k b o (fun z=>hc (by simp[z])) e⟩) (fun _ _ _ _ n=>n)
  (fun b o hc e=>⟨o,k b o (fun z=>hc (by simp[z])) e⟩) (fun _ _ e=>e) (fun _ _ _ e=>e) (fun b ps e=>⟨#[],by rw[e];simp⟩) (fun m hm=>?_) (fun b u e=>?_) I.bare
 ·have e:b=it:=by simpa using hb
  subst e;exact⟨h1,hL,h2,h3⟩
 ·obtain⟨o,es,ep,ho,r⟩:=hm;exact⟨o,es,ep,k _ o (cT hL) ho,r⟩
 ·refine(I.hok b u e).stay (fun c v hc q=>k c v ?_ q) (fun _ q=>q) fun _ _ q=>q;rcases hc with z|z
  ·rw[z];exact nit b u e
  ·exact nit c _ z
theorem Inv.tok(I:Inv X pins O H s)(t:Nat):Inv X pins O H { s with toks:=t }:=I.un (h':=s.heap) (t':=t) Un.refl I.hok
theorem Inv.kept(I:Inv X pins O H s)(k:∀b u,s.heap.get? b=some u->h'.get? b=some u):Inv X pins O H { s with heap:=h',toks:=t' }:=I.un (Un.kept k) (I.hok.kept k)
theorem Inv.laid{o:HO}(I:Inv X pins O H s)(k:∀b u,s.heap.get? b=some u->h'.get? b=some u)(hp:s.heap.objs.size<=a)(new:dN X.prog X.w (upd H a o) h' a o) :
  Inv X pins O (upd H a o) { s with heap:=h',toks:=t' }:=I.un (Un.laid k hp (I.hok.fresh hp)) (I.hok.laid k hp new)
theorem Inv.write{x e:Addr}{o:HO}{t':Nat}(I:Inv X pins O H s)(mu:L8 (H x))(he:e=x\/H e=some (.own x))(k:∀b u,b≠e->s.heap.get? b=some u->h'.get? b=some u)(heo:∃u,h'.get? e=some u)
  (new:dN X.prog X.w (upd H x o) h' x o):Inv X pins O (upd H x o) { s with heap:=h',toks:=t' }:=I.un (Un.write mu he k heo) (I.hok.write mu he k heo new)
theorem Inv.yU{pins':List (Addr×Obj)}(I:Inv X pins O H s)(h:∀p∈pins',s.heap.get? p.1=some p.2/\H p.1=none/\p.1≠X.env.locals/\p.1∉X.fs/\∀v,p.2.data≠.cell v):Inv X pins' O H s:=
 ⟨I.ok,I.os,I.bare,I.base,I.loc,I.cell,I.free,I.freeC,fun p hp=>(a_.mp hp).elim (fun z=>I.pin p (aO _ z)) (h p),I.hok,I.len⟩
theorem FI{N:List Str}(hN:N.Nodup){j:Nat}(a:N[i]?=some x)(b:N[j]?=some x):i=j:=by
 obtain⟨h1,e1⟩:=bU.mp a;obtain⟨h2,e2⟩:=bU.mp b;exact(List.getElem_inj hN).mp (e1.trans e2.symm)
theorem DG{v:V}(I:Inv X pins O H s)(hN:X.N.Nodup)(hi:X.N[i]?=some x)(hx:Loc X.env.scope x)(r:RelV v u)
  (h:∀s',Inv X pins (O.set i (some v)) H s'->(∃a,jN a s.heap s'.heap/\(a=X.env.locals\/X.env.cells.lookup x=some a))->Q () s') (hf:X.fn x=true\/X.env.scope.names.lookup x=some .local:=by first|exact .inl rfl|exact .inr rfl|assumption):aC aa4 A (EO X.env x u) Q E s:=by
 obtain⟨m,hn,hl⟩:=id I.loc;have hcls:(X.env.scope.kind==.class||(X.env.scope.kind==.module&&X.env.locals != X.env.globals))=false:=by rw[I.ok.kind];rfl
 have abz:i<O.length:=by rw[I.len];exact(bU.mp hi).1
 have FH:=I.FH;have tracked:∀{a:Addr}{h':Heap},(∃o,s.heap.get? a=some o/\H a=none)->jN a s.heap h'->fB X.prog X.w H h':=fun{a h'} ha hs b ob e=>by
  obtain⟨_,_,hfree⟩:=ha;refine(I.hok b ob e).stay (fun c w' hc q=>(hs.2 c ?_).trans q) (fun _ q=>q) fun _ _ q=>q;rintro rfl;rcases hc with rfl|hc
  ·rw[hfree]at e;cases e
  ·rw[hfree]at hc;cases hc
 rcases hx with hk|hk
 ·refine wpAny_storeName_local hk hn (fun h' hn' hs=>?_) hcls;obtain⟨oL,_,_,hoL,_⟩:=id hn;refine h _ ⟨I.ok,I.os,I.bare,⟨fun b o e n hb hx=>?_,fun b o e n hb hx=>?_,I.base.free,fun b o e hx=>?_,I.base.tups,I.base.aD,I.base.tbls⟩,⟨_,hn',fun j y v' e1 e2 e3=>?_⟩,fun y c e=>?_,I.free,I.freeC,fun p hp=>?_,tracked ⟨oL,hoL,I.free⟩ hs,by simpa using I.len⟩ ⟨_,hs,.inl rfl⟩
  ·exact(hs.2 b (bD (bM (aK e) I.ok.above))).trans (I.base.keep b o e n hb hx)
  ·obtain⟨sl,e1⟩:=I.base.slot b o e n hb hx;exact⟨sl,(hs.2 b (bD (bM (aK e) I.ok.above))).trans e1⟩
  ·obtain⟨o',e1⟩:=I.base.there b o e hx;exact⟨o',(hs.2 b (bD (bM (aK e) I.ok.above))).trans e1⟩
  ·by_cases hj:j=i
   ·subst hj;rw[hi]at e1;cases e1;rw[eK abz]at e2;cases e2;exact⟨u,r,.inl ⟨hk,by simp⟩⟩
   ·rw[cB (cT hj)]at e2;obtain⟨u',r',q⟩:=hl j y v' e1 e2 e3;refine⟨u',r',?_⟩;rcases q with⟨k,e⟩|⟨k,c,e,z⟩
    ·refine .inl ⟨k,?_⟩;have:y≠x:=fun e=>hj (FI hN e1 (e▸hi));simp[this,e]
    ·exact .inr ⟨k,c,e,z.sameBut hs (FH y c e)⟩
  ·obtain⟨w',z⟩:=I.cell y c e;exact⟨w',z.sameBut hs (FH y c e)⟩
  ·obtain⟨e,n,ne,nf,d⟩:=I.pin p hp;exact⟨(hs.2 p.1 ne).trans e,n,ne,nf,d⟩
 ·have hfn:X.fn x=true:=by
   rcases hf with z|z
   ·exact z
   ·rw[z]at hk;cases hk
  obtain⟨c,hc⟩:=I.ok.has x (.inl hk);obtain⟨w',z⟩:=I.cell x c hc;refine wpAny_storeName_cell I.ok.kind hk hc z (fun h' hc' hs=>?_);obtain⟨oc,hoc,hocd⟩:=id z;refine h { s with heap:=h' } ⟨I.ok,I.os,I.bare,⟨fun b o e n hb hx=>?_,fun b o e n hb hx=>?_,I.base.free,fun b o e hx=>?_,I.base.tups,I.base.aD,I.base.tbls⟩,⟨m,hn.sameBut hs (cT (FH x c hc)),fun j y v' e1 e2 e3=>?_⟩,fun y c' e=>?_,I.free,I.freeC,fun p hp=>?_,tracked ⟨oc,hoc,I.freeC x c hc⟩ hs,by simpa using I.len⟩ ⟨c,hs,.inr hc⟩
  ·exact(hs.2 b (bD (bM (aK e) (I.ok.cab x c hfn hc)))).trans (I.base.keep b o e n hb hx)
  ·obtain⟨sl,e1⟩:=I.base.slot b o e n hb hx;exact⟨sl,(hs.2 b (bD (bM (aK e) (I.ok.cab x c hfn hc)))).trans e1⟩
  ·obtain⟨o',e1⟩:=I.base.there b o e hx;exact⟨o',(hs.2 b (bD (bM (aK e) (I.ok.cab x c hfn hc)))).trans e1⟩
  ·by_cases hj:j=i
   ·subst hj;rw[hi]at e1;cases e1;rw[eK abz]at e2;cases e2;exact⟨u,r,.inr ⟨.inl hk,c,hc,hc'⟩⟩
   ·rw[cB (cT hj)]at e2;obtain⟨u',r',q⟩:=hl j y v' e1 e2 e3;refine⟨u',r',?_⟩;rcases q with q|⟨k,c',e,z'⟩
    ·exact .inl q
    ·refine .inr ⟨k,c',e,z'.sameBut hs ?_⟩;rintro rfl;exact hj (FI hN e1 (I.ok.inj _ _ _ e hc▸hi))
  ·by_cases hcc:c'=c
   ·subst hcc;exact⟨_,hc'⟩
   ·obtain⟨w2,z2⟩:=I.cell y c' e;exact⟨w2,z2.sameBut hs hcc⟩
  ·obtain⟨e,n,ne,nf,d⟩:=I.pin p hp;refine⟨(hs.2 p.1 ?_).trans e,n,ne,nf,d⟩;intro q;rw[q,hoc]at e;have q':oc=p.2:=cM e;exact d w' (by rw[<-q'];exact hocd)
theorem FJ{v:V}(I:Inv X pins O H s)(hN:X.N.Nodup)(hi:X.N[i]?=some x)(hx:Loc X.env.scope x)(r:RelV v u)
  (h:∀s',Inv X pins (O.set i (some v)) H s'->Q () s') (hf:X.fn x=true\/X.env.scope.names.lookup x=some .local:=by first|exact .inl rfl|exact .inr rfl|assumption):aC aa4 A (EO X.env x u) Q E s:=
 DG I hN hi hx r (fun s' I' _=>h s' I') hf
theorem Inv.call'{s':ai}(I:Inv X pins O H s)(ho:s'.os=s.os)(u:Un (frs X.stack) ch H H' s.heap s'.heap)(hok:fB X.prog X.w H' s'.heap)(hg:jM s'.gens)
  (hch:∀b∈ch,(b∈X.ex\/X.aa9.heap.objs.size<=b)/\b≠X.env.locals/\(∀x c,X.env.cells.lookup x=some c->c≠b)/\∀p∈X.pn++pins,p.1≠b):Inv X pins O H' s':=by
 obtain⟨h',g',d',t',o'⟩:=s';have e:o'=s.os:=ho;subst e;exact I.call (g':=g') (t':=t') (d':=d') u hok hg hch
end
noncomputable abbrev XK:=Value->Option Addr->Hp->Prop
noncomputable abbrev St:=List (Option V)
noncomputable abbrev VK:=V->Hp->Prop
noncomputable abbrev TE:=St->Hp->VK->Prop
noncomputable abbrev TT:=St->Hp->(Bool->Hp->Prop)->Prop
noncomputable abbrev TA:=St->Hp->(List V->Hp->Prop)->Prop
structure Ends where
 nx:St->Hp->Prop
 rt:VK
 bk:St->Hp->Prop:=fun _ _=>False
 ct:St->Hp->Prop:=fun _ _=>False
noncomputable abbrev TS:=Ends->St->Hp->Prop
def EP(X:Cx)(pins:List (Addr×Obj))(O:St)(Q:VK)(u:Value)(s':ai):Prop:=∃v H',Inv X pins O H' s'/\RelV v u/\Q v H'
def TP(X:Cx)(pins:List (Addr×Obj))(O:St)(Q:Bool->Hp->Prop)(b:Bool)(s':ai):Prop:=∃H',Inv X pins O H' s'/\Q b H'
def AP(X:Cx)(pins:List (Addr×Obj))(O:St)(Q:List V->Hp->Prop)(us:List Value)(s':ai):Prop:=∃vs H',Inv X pins O H' s'/\bw vs us/\Q vs H'
def SP(X:Cx)(pins:List (Addr×Obj))(D:Ends)(f:Flow)(s':ai):Prop:=
 match f with
 |.next=>∃σ' H',Inv X pins σ' H' s'/\D.nx σ' H'
 |.brk=>∃σ' H',Inv X pins σ' H' s'/\D.bk σ' H'
 |.cont=>∃σ' H',Inv X pins σ' H' s'/\D.ct σ' H'
 |.ret u=>∃v σ' H',Inv X pins σ' H' s'/\RelV v u/\D.rt v H'
def PE(X:Cx)(e:Expr)(t:TE):Prop:=
 ∀(pins:List (Addr×Obj)) (s:ai) (O:St) (H:Hp) (Q:VK),Inv X pins O H s->t O H Q->aC (aF X.prog X.w) X.A (eval e X.env) (EP X pins O Q) X.xe s
def PT(X:Cx)(e:Expr)(t:TT):Prop:=
 ∀(pins:List (Addr×Obj)) (s:ai) (O:St) (H:Hp) (Q:Bool->Hp->Prop),Inv X pins O H s->t O H Q->aC (aF X.prog X.w) X.A (yz e X.env (eval e X.env)) (TP X pins O Q) X.xe s
def PW(X:Cx)(e:Expr)(t:TT):Prop:=
 ∀(whole:Sem Value) (pins:List (Addr×Obj)) (s:ai) (O:St) (H:Hp) (Q:Bool->Hp->Prop),Inv X pins O H s->t O H Q->aC (aF X.prog X.w) X.A (yz e X.env whole) (TP X pins O Q) X.xe s
theorem PW.pt{X:Cx}{e:Expr}{t:TT}(h:PW X e t):PT X e t:=h _
def PA(X:Cx)(es:List Expr)(t:TA):Prop:=
 ∀(pos:Pos) (pins:List (Addr×Obj)) (s:ai) (O:St) (H:Hp) (Q:List V->Hp->Prop),Inv X pins O H s->t O H Q->aC (aF X.prog X.w) X.A (se (kc pos (cE es X.env))) (AP X pins O Q) X.xe s
def PS(X:Cx)(st:Stmt)(t:TS):Prop:=
 ∀(pins:List (Addr×Obj)) (s:ai) (O:St) (H:Hp) (D:Ends),Inv X pins O H s->t D O H->aC (aF X.prog X.w) X.A (exec st X.env) (SP X pins D) X.xe s
def oU(X:Cx)(st:List Stmt)(t:TS):Prop:=
 ∀(pins:List (Addr×Obj)) (s:ai) (O:St) (H:Hp) (D:Ends),Inv X pins O H s->t D O H->aC (aF X.prog X.w) X.A (LN st X.env) (SP X pins D) X.xe s
theorem aU{α:Type}{t:Sem α}{Q Q':α->ai->Prop}{s:ai}(h:aC aa4 A t Q E s)(hQ:∀a s,Q a s->Q' a s):aC aa4 A t Q' E s:=d8 h hQ fun _ _ x=>x
end L2
namespace L2
open PySem PySem.Spec PyProof.Rows
variable{pins:List (Addr×Obj)}{s:ai}{O:St}{H:Hp}
variable{x:Str}
variable{E Q:Value->ai->Prop}{u:Value}
section
variable{X:Cx}
theorem bin(ha:PE X a ta)(hb:PE X b tb){R:V->V->Hp->Prop}(I:Inv X pins O H s)(h:ta O H fun x H1=>tb O H1 fun y H2=>R x y H2)
  {α:Type}{Q:α->ai->Prop}{f:Value->Value->Sem α}
  (hf:∀v u s2 x y H2,Inv X pins O H2 s2->RelV x v->RelV y u->R x y H2->aC (aF X.prog X.w) X.A (f v u) Q X.xe s2) :
  aC (aF X.prog X.w) X.A (eval a X.env) (fun v aa_=>aC (aF X.prog X.w) X.A (eval b X.env) (fun u abc=>aC (aF X.prog X.w) X.A (f v u) Q X.xe abc) X.xe aa_) X.xe s:=by
 refine aU (ha pins s O H _ I h) fun v s1 ⟨x,H1,I1,r1,q1⟩=>?_;refine aU (hb pins s1 O H1 _ I1 q1) fun u s2 ⟨y,H2,I2,r2,q2⟩=>?_;exact hf v u s2 x y H2 I2 r1 r2 q2
def Po(i:Nat):TE:=fun O H Q=>∃v,O[i]?=some (some v)/\Q v H
def tC(v:V):TE:=fun _ H Q=>Q v H
theorem Bg{i:Nat}(hN:X.N[i]?=some x)(hv:FG X.env.scope x)(hd:(x==("__debug__":Str))=false:=by decide)(hcd:(x==("__classdict__":Str))=false:=by decide):PE X (.Name x pos) (Po i):=by
 intro pins s O H Q I h;obtain⟨v,e,h⟩:=h;obtain⟨m,hn,hl⟩:=I.loc;obtain⟨u,r,l⟩:=hl i x v hN e hv;have fin:EP X pins O Q u s:=⟨v,H,I,r,h⟩;rcases l with⟨hk,hm⟩|⟨hk,c,hc,hcell⟩
 ·exact Ce (v7 I.ok.kind hk hn hm fin) hd
 ·rcases hk with hk|hk
  ·exact Ce (wV I.ok.kind hk hc hcell fin) hd
  ·exact Ce (wpAny_loadName_free I.ok.kind hk hc hcell fin hcd) hd
theorem Ma{i j pos}:PE X (.Constant (.int i) j pos) (tC (.int i)):=fun _ _ _ H _ I h=>wpAny_Constant_int ⟨.int i,H,I.tok _,⟨_,rfl⟩,h⟩
theorem Yk{b j pos}:PE X (.Constant (.bool b) j pos) (tC (.bl b)):=fun _ _ _ H _ I h=>Constant_bool ⟨.bl b,H,I,rfl,h⟩
theorem VZ{j pos}:PE X (.Constant .none j pos) (tC .non):=fun _ _ _ H _ I h=>Constant_none ⟨.non,H,I,rfl,h⟩
theorem Mb{x j pos}:PE X (.Constant (.str x) j pos) (tC (.str x)):=fun _ _ _ H _ I h=>Calls.Constant_str ⟨.str x,H,I.tok _,⟨_,rfl⟩,h⟩
def Gl(X:Cx)(x:Str):Prop:=X.env.kindOf x=some .globalImplicit
theorem uG(I:Inv X pins O H s)(hg:Gl X x)(hm:X.mg x=some u)(h:Q u s)
  (hd:(x==("__debug__":Str))=false:=by decide):aC (aF X.prog X.w) X.A (eval (.Name x pos) X.env) Q E s:=
 qP I.ok.kind hg (Calls.loadGlobal_global (by rw[I.ok.glob];exact I.mod.glob.keeps I.bk) hm h) hd
theorem kK(I:Inv X pins O H s)(hg:Gl X x)(hm:X.mg x=none)(hv:oz x=some u)(h:Q u s)
  (hn:x≠"__name__":=by decide) (hd:(x==("__debug__":Str))=false:=by decide):aC (aF X.prog X.w) X.A (eval (.Name x pos) X.env) Q E s:=by
 obtain⟨mb,h1,h2⟩:=I.mod.blt;exact qP I.ok.kind hg (Calls.loadGlobal_builtin (by rw[I.ok.glob];exact I.mod.glob.keeps I.bk) hm (by rw[I.ok.blt];exact h1.keeps I.bk) ((h2 x hn).trans hv) h) hd
theorem Jg{v:V}(hg:Gl X x)(hm:X.mg x=some u)(r:RelV v u)(hd:(x==("__debug__":Str))=false:=by decide):PE X (.Name x pos) (tC v):=
 fun _ _ _ H _ I h=>uG I hg hm ⟨v,H,I,r,h⟩ hd
variable{a b:Expr}{ta tb:TE}{pos:Pos}
variable{tA tB':TT}{rest:List Expr}
def ZU(t u:TT):TT:=fun O H Q=>t O H fun c H1=>if c=true then u O H1 Q else Q false H1
def tOr(t u:TT):TT:=fun O H Q=>t O H fun c H1=>if c=true then Q true H1 else u O H1 Q
def ZV(t:TT):TT:=fun O H Q=>t O H fun c H1=>Q (!c) H1
theorem pw_and1(ha:PT X a tA):PW X (.BoolOp .And [a] pos) tA:=by
 intro wh pins s O H Q I h;refine LO (aU (ha pins s O H Q I h) fun c s1 e=>?_);cases c with
 |true=>exact isTrue_and_nil e
 |false=>exact e
theorem pw_or1(ha:PT X a tA):PW X (.BoolOp .Or [a] pos) tA:=by
 intro wh pins s O H Q I h;refine isTrue_or (aU (ha pins s O H Q I h) fun c s1 e=>?_);cases c with
 |false=>exact isTrue_or_nil e
 |true=>exact e
theorem pw_and(ha:PT X a tA)(hb:PW X (.BoolOp .And (b::rest) pos) tB'):PW X (.BoolOp .And (a::b::rest) pos) (ZU tA tB'):=by
 intro wh pins s O H Q I h;refine LO (aU (ha pins s O H _ I h) fun c s1 ⟨H1,I1,q1⟩=>?_);cases c with
 |true=>exact hb wh pins s1 O H1 Q I1 q1
 |false=>exact⟨H1,I1,q1⟩
theorem pw_or(ha:PT X a tA)(hb:PW X (.BoolOp .Or (b::rest) pos) tB'):PW X (.BoolOp .Or (a::b::rest) pos) (tOr tA tB'):=by
 intro wh pins s O H Q I h;refine isTrue_or (aU (ha pins s O H _ I h) fun c s1 ⟨H1,I1,q1⟩=>?_);cases c with
 |true=>exact⟨H1,I1,q1⟩
 |false=>exact hb wh pins s1 O H1 Q I1 q1
theorem V3(ha:PT X a tA):PT X (.UnaryOp .Not a pos) (ZV tA):=by
 intro pins s O H Q I h;exact isTrue_not (ha pins s O H (fun c H1=>Q (!c) H1) I h)
theorem Mc{op}{t:TE}(h:PE X a t):PE X (.BoolOp op [a] pos) t:=fun pins s O H Q I hw=>BoolOp_one (h pins s O H Q I hw)
def tIf(t:TT)(ta tb:TE):TE:=fun O H Q=>t O H fun c H1=>if c=true then ta O H1 Q else tb O H1 Q
theorem Pp{c:Expr}(hc:PT X c tA)(ha:PE X a ta)(hb:PE X b tb):PE X (.IfExp c a b pos) (tIf tA ta tb):=by
 intro pins s O H Q I h;refine wpAny_IfExp (aU (hc pins s O H _ I h) fun d s1 ⟨H1,I1,q1⟩=>?_);cases d with
 |true=>exact ha pins s1 O H1 Q I1 q1
 |false=>exact hb pins s1 O H1 Q I1 q1
end
end L2
namespace L2
open PySem PySem.Spec PyProof.Rows
def gy(K:PySem.W.Frag)(H:Hp)(a:Addr)(xs:List V):Prop:=
 Rd H a (.lst xs) \/
  ∃(o:Obj) (its:Array Value) (n:Nat),K.lookup a=some o/\o.cls=.type "list"/\o.dict=none/\o.data=.seq its n/\its.size<=aa/\bw xs its.toList
def kD(K:PySem.W.Frag)(H:Hp)(a:Addr)(xs:List V):Prop:=
 Rd H a (.tup xs) \/
  ∃(o:Obj) (its:Array Value) (n:Nat),K.lookup a=some o/\o.cls=.type "tuple"/\o.data=.seq its n/\its.size<=aa/\bw xs its.toList
noncomputable def ZW:Value->Option V
|.none=>some .non
|.bool b=>some (.bl b)
|.int i _=>some (.int i)
|.str x _=>some (.str x)
|.bytes b _=>some (.byt b)
|.float b _=>some (.flt b)
|.ref a=>some (.ref a)
|.type n=>some (.ty n)
|_=>none
variable{u:Value}
theorem RelV.abs{x:V}(r:RelV x u):ZW u=some x:=by
 cases x with
 |non=>cases r;rfl
 |bl _=>cases r;rfl
 |int _=>obtain⟨t,rfl⟩:=r;rfl
 |str _=>obtain⟨t,rfl⟩:=r;rfl
 |byt _=>obtain⟨t,rfl⟩:=r;rfl
 |flt _=>obtain⟨t,rfl⟩:=r;rfl
 |ref _=>cases r;rfl
 |ty _=>cases r;rfl
theorem RelV.inj{x y:V}(r:RelV x u)(q:RelV y u):x=y:=cM (r.abs.symm.trans q.abs)
theorem bw.inj:∀{xs ys:List V}{us:List Value},bw xs us->bw ys us->xs=ys
|_,_,_,.nil,.nil=>rfl
|_,_,_,.cons r t,.cons r' t'=>by rw[r.inj r',bw.inj t t']
section
variable{X:Cx}{pins:List (Addr×Obj)}{O:St}{H:Hp}{s:ai}{a:Addr}{xs ys:List V}
theorem Inv.list(I:Inv X pins O H s)(h:gy X.K H a xs):∃its:List Value,bw xs its/\PlainL s.heap a its.toArray/\xs.length<=aa:=by
 rcases h with h|⟨o,its,n,hk,hc,hd,hs,hz,r⟩
 ·obtain⟨z,its,n,r,e⟩:=h.ok I.hok;exact⟨its,r,⟨_,n,e,rfl,rfl,rfl⟩,z⟩
 ·refine⟨its.toList,r,⟨o,n,I.fQ a o hk,hc,hd,by simpa using hs⟩,?_⟩;have e:=r.length;simp only[wW]at e;omega
theorem Inv.tuple(I:Inv X pins O H s)(h:kD X.K H a xs):∃its:List Value,bw xs its/\IsTup s.heap a its.toArray/\xs.length<=aa:=by
 rcases h with h|⟨o,its,n,hk,hc,hs,hz,r⟩
 ·obtain⟨z,its,r,p⟩:=h.ok I.hok;exact⟨its,r,p,z⟩
 ·refine⟨its.toList,r,⟨o,I.fQ a o hk,hc,n,by simpa using hs⟩,?_⟩;have e:=r.length;simp only[wW]at e;omega
theorem Inv.sj(I:Inv X pins O H s)(h:gy X.K H a xs)(h':gy X.K H a ys):xs=ys:=by
 obtain⟨its,r,⟨o,n,e,_,_,d⟩,_⟩:=I.list h;obtain⟨its',r',⟨o',n',e',_,_,d'⟩,_⟩:=I.list h';rw[e]at e';cases e';rw[d]at d';injection d' with d1 _;have:its=its':=by simpa using congrArg HV d1
 subst this;exact r.inj r'
theorem Inv.tE(I:Inv X pins O H s)(h:kD X.K H a xs)(h':kD X.K H a ys):xs=ys:=by
 obtain⟨its,r,⟨o,e,_,n,d⟩,_⟩:=I.tuple h;obtain⟨its',r',⟨o',e',_,n',d'⟩,_⟩:=I.tuple h';rw[e]at e';cases e';rw[d]at d';injection d' with d1 _;have:its=its':=by simpa using congrArg HV d1
 subst this;exact r.inj r'
end
noncomputable abbrev Cx.jk(X:Cx)(E:Value->ai->Prop):Cx:={ X with xe:=E }
noncomputable abbrev Cx.FL(X:Cx):Cx:=X.jk fun _ _=>False
variable{X:Cx}
theorem Cx.Ok.jk(ok:X.Ok)(E:Value->ai->Prop):(X.jk E).Ok:=
 ⟨ok.mod,ok.kind,ok.glob,ok.blt,ok.above,ok.inj,ok.has,ok.cab,ok.hd,ok.frames,ok.stk,ok.exf,ok.bs,ok.bsz,ok.noex,ok.exfs,ok.oW,ok.frf⟩
variable{E:Value->ai->Prop}
theorem Cx.Ok.iH(ok:(X.jk E).Ok):X.Ok:=
 ⟨ok.mod,ok.kind,ok.glob,ok.blt,ok.above,ok.inj,ok.has,ok.cab,ok.hd,ok.frames,ok.stk,ok.exf,ok.bs,ok.bsz,ok.noex,ok.exfs,ok.oW,ok.frf⟩
section
variable{X:Cx}{pins:List (Addr×Obj)}{O:St}{H:Hp}{s:ai}{E:Value->ai->Prop}
theorem Inv.jk(I:Inv X pins O H s)(E:Value->ai->Prop):Inv (X.jk E) pins O H s:=⟨I.ok.jk E,I.os,I.bare,I.base,I.loc,I.cell,I.free,I.freeC,I.pin,I.hok,I.len⟩
theorem Inv.iH(I:Inv (X.jk E) pins O H s):Inv X pins O H s:=⟨I.ok.iH,I.os,I.bare,I.base,I.loc,I.cell,I.free,I.freeC,I.pin,I.hok,I.len⟩
theorem SP.iH{D:Ends}{f:Flow}{s':ai}(h:SP (X.jk E) pins D f s'):SP X pins D f s':=by
 cases f with
 |next=>obtain⟨σ',H',I,q⟩:=h;exact⟨σ',H',I.iH,q⟩
 |brk=>obtain⟨σ',H',I,q⟩:=h;exact⟨σ',H',I.iH,q⟩
 |cont=>obtain⟨σ',H',I,q⟩:=h;exact⟨σ',H',I.iH,q⟩
 |ret u=>obtain⟨v,σ',H',I,r,q⟩:=h;exact⟨v,σ',H',I.iH,r,q⟩
theorem oU.FL{st:List Stmt}{t:TS}(h:oU X.FL st t):oU X st t:=fun pins s O H D I hw=>
 d8 (h pins s O H D (I.jk _) hw) (fun _ _ q=>q.iH) fun _ _ z=>au z
end
variable{pins:List (Addr×Obj)}{O:St}{H:Hp}{s:ai}
variable{c:Expr}{tc:TT}
section
variable{X:Cx}{st:Stmt}{rest:List Stmt}{t u:TS}{e:Expr}{te:TE}{pos:Pos}
def Yl:TS:=fun D O H=>D.nx O H
def ZX(t u:TS):TS:=fun D O H=>t { D with nx:=u D } O H
theorem Jh:oU X [] Yl:=fun _ _ O H _ I h=>kI ⟨O,H,I,h⟩
theorem vp(h1:PS X st t)(h2:oU X rest u):oU X (st::rest) (ZX t u):=by
 intro pins s O H D I h;refine sX (aU (h1 pins s O H { D with nx:=u D } I h) fun f s1 q=>?_);cases f with
 |next=>
  obtain⟨σ',H',I',q⟩:=q;exact h2 pins s1 σ' H' D I' q
 |ret v=>exact q
 |brk=>exact q
 |cont=>exact q
def V4:TS:=fun D O H=>D.bk O H
def Ym:TS:=fun D O H=>D.ct O H
theorem Pq:PS X (.Break pos) V4:=fun _ _ O H _ I h=>wpAny_Break ⟨O,H,I,h⟩
theorem Ip:PS X (.Continue pos) Ym:=fun _ _ O H _ I h=>wpAny_Continue ⟨O,H,I,h⟩
theorem Inv.quiet(I:Inv X pins O H s):IV X.env=false:=by simp[IV,I.ok.kind]
def Yn(te:TE):TS:=fun D O H=>te O H fun _ H1=>D.nx O H1
theorem Ui(he:PE X e te)(hs:nH e none pos.line X.env=pure false:=by rfl):PS X (.Expr e pos) (Yn te):=by
 intro pins s O H D I h;exact Ds (aU (he pins s O H _ I h) fun v s1 ⟨x,H1,I1,r1,q1⟩=>⟨O,H1,I1,q1⟩) I.quiet hs
def ZY(te:TE):TS:=fun D O H=>te O H D.rt
theorem V5(he:PE X e te):PS X (.Return (some e) pos) (ZY te):=by
 intro pins s O H D I h;exact wpAny_Return_some (aU (he pins s O H _ I h) fun v s1 ⟨x,H1,I1,r1,q1⟩=>⟨x,O,H1,I1,r1,q1⟩)
def ZZ(c:TT)(t u:TS):TS:=fun D O H=>c O H fun b H1=>if b=true then t D O H1 else u D O H1
theorem Yo{a b:List Stmt}(hc:PT X c tc)(ha:oU X a t)(hb:oU X b u):PS X (.If c a b pos) (ZZ tc t u):=by
 intro pins s O H D I h;refine wpAny_If (aU (hc pins s O H _ I h) fun d s1 ⟨H1,I1,q1⟩=>?_);cases d with
 |true=>exact ha pins s1 O H1 D I1 q1
 |false=>exact hb pins s1 O H1 D I1 q1
def V6:TS:=fun _ _ _=>False
theorem Pr:PS X st V6:=fun _ _ _ _ _ _ h=>h.elim
end
noncomputable abbrev TG:=V->St->Hp->(St->Hp->Prop)->Prop
noncomputable abbrev zF:=List V->St->Hp->(St->Hp->Prop)->Prop
def PG(X:Cx)(target:Expr)(t:TG):Prop:=
 ∀(pins:List (Addr×Obj)) (s:ai) (O:St) (H:Hp) (v:V) (u:Value) (Q:St->Hp->Prop),Inv X pins O H s->RelV v u->t v O H Q->
  aC (aF X.prog X.w) X.A (qB target X.env u) (fun _ s'=>∃σ' H',Inv X pins σ' H' s'/\Q σ' H') X.xe s
def Bh(X:Cx)(ts:List Expr)(t:zF):Prop:=
 ∀(pins:List (Addr×Obj)) (s:ai) (O:St) (H:Hp) (vs:List V) (us:List Value) (Q:St->Hp->Prop),Inv X pins O H s->bw vs us->t vs O H Q->
  aC (aF X.prog X.w) X.A (assignInOrder ((iA ts X.env).map (·.2)) us) (fun _ s'=>∃σ' H',Inv X pins σ' H' s'/\Q σ' H') X.xe s
noncomputable abbrev Pu:=V->V->V->Hp->(Hp->Prop)->Prop
def Pw(X:Cx)(t:Pu):Prop:=
 ∀(pins:List (Addr×Obj)) (s:ai) (O:St) (H:Hp) (o i v:V) (ov iv u:Value) (Q:Hp->Prop),Inv X pins O H s->RelV o ov->RelV i iv->RelV v u->t o i v H Q->
  aC (aF X.prog X.w) X.A (J6 ov iv u) (fun _ s'=>∃H',Inv X pins O H' s'/\Q H') X.xe s
noncomputable abbrev S3:=V->V->Hp->VK->Prop
def Zu(X:Cx)(op:j5)(t:S3):Prop:=
 ∀(pins:List (Addr×Obj)) (s:ai) (O:St) (H:Hp) (x y:V) (v u:Value) (Q:VK),Inv X pins O H s->RelV x v->RelV y u->t x y H Q->
  aC (aF X.prog X.w) X.A (yC op v u) (EP X pins O Q) X.xe s
variable{i:Nat}{x:Str}
variable{e:Expr}{es:List Expr}
variable{tg:Expr}{te:TE}
section
variable{X:Cx}{pos:Pos}
def Yp(i:Nat):TG:=fun v O H Q=>Q (O.set i (some v)) H
theorem Ji(hN:X.N.Nodup)(hi:X.N[i]?=some x)(hx:Loc X.env.scope x)(hf:X.fn x=true\/X.env.scope.names.lookup x=some .local:=by first|exact .inl rfl|exact .inr rfl|assumption):PG X (.Name x pos) (Yp i):=by
 intro pins s O H v u Q I r h;exact zw (FJ I hN hi hx r (fun s' I'=>⟨_,H,I',h⟩) hf)
def Z0:zF:=fun vs O H Q=>vs=[]/\Q O H
def Yq(t:TG)(u:zF):zF:=fun vs O H Q=>∃v r,vs=v::r/\t v O H fun σ' H'=>u r σ' H' Q
theorem Uj:Bh X [] Z0:=by
 intro pins s O H vs us Q I r h;obtain⟨e,h⟩:=h;subst e;cases r;exact assignInOrder_nil ⟨O,H,I,h⟩
theorem Px{t:TG}{u:zF}(h1:PG X e t)(h2:Bh X es u)
  (hs:(iA (e::es) X.env).map (·.2)=qB e X.env::(iA es X.env).map (·.2):=by rfl):Bh X (e::es) (Yq t u):=by
 intro pins s O H vs us Q I r h;obtain⟨v,vr,e1,h⟩:=h;subst e1;cases r with
 |cons r rr=>
  rw[hs];refine assignInOrder_cons (aU (h1 pins s O H _ _ _ I r h) fun _ s1 ⟨σ1,H1,I1,q1⟩=>?_);exact h2 pins s1 σ1 H1 _ _ Q I1 rr q1
def Z1(K:PySem.W.Frag)(n:Nat)(t:zF):TG:=fun v O H Q=>∃a xs,v=.ref a/\kD K H a xs/\xs.length=n/\t xs O H Q
theorem V7{k:Nat}{t:zF}{n:Nat}(hc:X.calm=true)(h:Bh X es t)
  (hn:(iA es X.env).length=n:=by rfl) (hst:(iA es X.env).findIdx? (·.1)=none:=by rfl):PG X (.Tuple es k pos) (Z1 X.K n t):=by
 intro pins s O H v u Q I r hw;obtain⟨a,xs,e1,hq,hl,hw⟩:=hw;subst e1;cases r;obtain⟨its,rv,ht,hz⟩:=I.tuple hq;refine assign_Tuple_tuple (I.ok.hd hc) ht (by simp[hn,<-hl,rv.length]) hst fun h' hx=>?_;have I1:Inv X pins O H { s with heap:=h' }:=I.kept (t':=s.toks) fun b o e=>hx b o (bD (aK e)) e;exact h pins _ O H xs _ Q I1 (by simpa using rv) hw
def Z2(to ti:TE)(t:Pu):TG:=fun v O H Q=>to O H fun o H1=>ti O H1 fun i H2=>t o i v H2 fun H3=>Q O H3
theorem V8{o i:Expr}{to ti:TE}{t:Pu}(ho:PE X o to)(hi:PE X i ti)(hs:Pw X t)
  (ha:∀v,qB (.Subscript o i pos) X.env v=(do
   let ov <-u7 [v] (eval o X.env)
   let iv <-u7 [v,ov] (eval i X.env)
   Dt pos
   u7 [v,ov,iv] (J6 ov iv v)
   release [v,ov,iv] []):=by intro _;rfl):PG X (.Subscript o i pos) (Z2 to ti t):=by
 intro pins s O H v u Q I r h;rw[ha];refine ah (kg (aU (ho pins s O H _ I h) fun ov s1 ⟨x,H1,I1,r1,q1⟩=>?_));refine ah (kg (aU (hi pins s1 O H1 _ I1 q1) fun iv s2 ⟨y,H2,I2,r2,q2⟩=>?_));refine ah (mV (ah (kg (aU (hs pins s2 O H2 x y v ov iv u _ I2 r1 r2 r q2) fun _ s3 ⟨H3,I3,q3⟩=>?_))));exact wpAny_release ⟨O,H3,I3,q3⟩
def Z3(te:TE)(g:TG):TS:=fun D O H=>te O H fun x H1=>g x O H1 D.nx
theorem Me{g:TG}(he:PE X e te)(hg:PG X tg g)(hs:wN [tg] e pos.line X.env=pure false:=by rfl)(hw:wQ [tg] e X.env=pure none:=by rfl)
  (h1:(iA [tg] X.env).map (·.2)=[qB tg X.env]:=by rfl):PS X (.Assign [tg] e pos) (Z3 te g):=by
 intro pins s O H D I h;refine wpAny_Assign_stores (aU (he pins s O H _ I h) fun v s1 ⟨x,H1,I1,r1,q1⟩=>?_) hs hw;rw[h1];exact aU (hg pins s1 O H1 x v _ I1 r1 q1) fun _ s2 q=>q
def V9(i:Nat)(te:TE)(ti:S3):TS:=fun D O H=>∃x,O[i]?=some (some x)/\te O H fun y H1=>ti x y H1 fun z H2=>D.nx (O.set i (some z)) H2
theorem V_{op:j5}{ti:S3}{pos':Pos}(hN:X.N.Nodup)(hi:X.N[i]?=some x)(hx:Loc X.env.scope x)(he:PE X e te)(ho:Zu X op ti)(hf:X.fn x=true\/X.env.scope.names.lookup x=some .local:=by first|exact .inl rfl|exact .inr rfl|assumption) :
  PS X (.AugAssign (.Name x pos') op e pos) (V9 i te ti):=by
 intro pins s O H D I h;obtain⟨v,e1,h⟩:=h;obtain⟨m,hn,hl⟩:=I.loc;have vis:FG X.env.scope x:=by rcases hx with k|k;exact .inl k;exact .inr (.inl k)
 obtain⟨u,r,l⟩:=hl i x v hi e1 vis;refine wpAny_AugAssign_Name ?_;have go:aC (aF X.prog X.w) X.A (eval e X.env) (fun w abc=>aC (aF X.prog X.w) X.A (yC op u w) (fun r abg=>aC (aF X.prog X.w) X.A (EO X.env x r) (fun _=>SP X pins D .next) X.xe abg) X.xe abc) X.xe s:=by
  refine aU (he pins s O H _ I h) fun w s1 ⟨y,H1,I1,r1,q1⟩=>?_;refine aU (ho pins s1 O H1 v y u w _ I1 r r1 q1) fun z s2 ⟨zv,H2,I2,r2,q2⟩=>?_;exact FJ I2 hN hi hx r2 (fun s3 I3=>⟨_,H2,I3,q2⟩) hf
 rcases l with⟨hk,hm⟩|⟨hk,c,hc,hcell⟩
 ·exact v7 I.ok.kind hk hn hm go
 ·rcases hk with hk|hk
  ·exact wV I.ok.kind hk hc hcell go
  ·rcases hx with k|k
   ·have:X.env.scope.names.lookup x=some .free:=hk;rw[k]at this;cases this
   ·have:X.env.scope.names.lookup x=some .free:=hk;rw[k]at this;cases this
noncomputable def Zv(f:Int->Int->Int):S3:=fun x y H Q=>∃i j,x=.int i/\y=.int j/\Q (.int (f i j)) H
theorem Wa:Zu X .Add (Zv fun i j=>i+j):=by
 intro pins s O H x y v u Q I r1 r2 h;obtain⟨i,j,e1,e2,q⟩:=h;subst e1;subst e2;obtain⟨t,rfl⟩:=r1;obtain⟨t',rfl⟩:=r2;exact iadd_int ⟨.int _,H,I.tok _,⟨_,rfl⟩,q⟩
end
section
variable{X:Cx}{pos:Pos}
def Wb(c:TT)(tb:TS):TS:=fun D O H=>∃W:Nat->St->Hp->Prop,(∃m,W m O H)/\∀m O H,W m O H->
 c O H fun b H1=>if b=true then ∃N:St->Hp->Prop,(∀σ' H',N σ' H'->∃m',m'<m/\W m' σ' H')/\tb { D with nx:=N,ct:=N,bk:=D.nx } O H1 else D.nx O H1
theorem Py{body:List Stmt}{tb:TS}(hp:tW (aF X.prog X.w) X.A X.env X.xe)(hc:PT X c tc)(hb:oU X body tb):PS X (.While c body [] pos) (Wb tc tb):=by
 intro pins s O H D I h;obtain⟨W,⟨m0,w0⟩,turn⟩:=h;refine wpAny_While (codeAny_whileLoop (fun n s'=>∃σ' H',Inv X pins σ' H' s'/\W n σ' H') ?_ m0 ⟨O,H,I,w0⟩);rintro n s1 ⟨σ1,H1,I1,w1⟩;refine g9 hp (aU (hc pins s1 σ1 H1 _ I1 (turn n σ1 H1 w1)) fun b s2 ⟨H2,I2,q2⟩=>?_);cases b with
 |true=>
  obtain⟨N,hN,q2⟩:=q2;rw[if_pos rfl];refine g9 hp (aU (hb pins s2 σ1 H2 _ I2 q2) fun f s3 q3=>?_);cases f with
  |next=>
   obtain⟨σ3,H3,I3,n3⟩:=q3;obtain⟨m',hm,w3⟩:=hN σ3 H3 n3;exact⟨m',hm,σ3,H3,I3,w3⟩
  |cont=>
   obtain⟨σ3,H3,I3,n3⟩:=q3;obtain⟨m',hm,w3⟩:=hN σ3 H3 n3;exact⟨m',hm,σ3,H3,I3,w3⟩
  |brk=>exact q3
  |ret v=>exact q3
 |false=>
  rw[if_neg aY];exact kI ⟨σ1,H2,I2,q2⟩
end
structure It where
 go:Nat->Hp->Prop
 yld:Nat->Hp->V->Hp->Prop
 stop:Nat->Hp->Prop
def m6(X:Cx)(pins:List (Addr×Obj))(H:Hp)(b:Addr):Prop:=
 H b=none/\b≠X.env.locals/\b∉X.fs/\(b∈X.ex\/X.aa9.heap.objs.size<=b)/\(∀x c,X.env.cells.lookup x=some c->c≠b)/\∀p∈X.pn++pins,p.1≠b
theorem Inv.oX{H':Hp}{b:Addr}(I:Inv X pins O H s)(hb:s.heap.objs.size<=b)(hn:H' b=none):m6 X pins H' b:=by
 refine⟨hn,iO (bM I.lt hb),I.ZT hb,.inr (dz I.sz hb),fun x c e z=>?_,fun p hp z=>?_⟩
 ·obtain⟨v,q⟩:=I.cell x c e;exact absurd (bM q.lt (by rw[z];exact hb)) (eu _)
 ·exact absurd (bM (aK (I.pin p hp).1) (by rw[z];exact hb)) (eu _)
structure Turn (P:bq) (w:bH) (K:PySem.W.Frag) (tg:Expr) (J:It) (fp:List Addr) (it:Addr) (tn:Nat->Heap->Prop):Prop where
 mem:it∈fp
 obj:∀i h,tn i h->∀b∈fp,∃o,h.get? b=some o/\∀v,o.data≠.cell v
 keep:∀i h h',tn i h->(∀b∈fp,∀o,h.get? b=some o->h'.get? b=some o)->tn i h'
 item:∀(X:Cx),X.prog=P->X.w=w->X.K=K->X.calm=true->∀(i:Nat) (pins:List (Addr×Obj)) (s:ai) (O:St) (H:Hp) (E:Value->ai->Prop),Inv X pins O H s->(∀b∈fp,m6 X pins H b)->tn i s.heap->J.go i H->
  aC (aF P w) X.A (qC (.ref it)) (fun r s1=>∃u,r=some u /\
   aC (aF P w) X.A (oE tg (.ref it) u) (fun _ s2=>∃x H',Inv X pins O H' s2/\RelV x u/\J.yld i H x H'/\tn (i+1) s2.heap/\∀b∈fp,H' b=none) E s1) E s
 done:∀(X:Cx),X.prog=P->X.w=w->X.K=K->X.calm=true->∀(i:Nat) (pins:List (Addr×Obj)) (s:ai) (O:St) (H:Hp) (E:Value->ai->Prop),Inv X pins O H s->(∀b∈fp,m6 X pins H b)->tn i s.heap->J.stop i H->
  aC (aF P w) X.A (qC (.ref it)) (fun r s1=>r=none/\Inv X pins O H s1) E s
 self:∀(A:cC) (i:Nat) (s:ai) (Q:Value->ai->Prop) (E:Value->ai->Prop),tn i s.heap->Q (.ref it) s->aC (aF P w) A (u9 (.ref it)) Q E s
noncomputable abbrev TI:=St->Hp->(It->Hp->Prop)->Prop
def Zw(X:Cx)(pins:List (Addr×Obj))(O:St)(tg:Expr)(R:It->Hp->Prop)(itv:Value)(s2:ai):Prop:=
 ∃(it:Addr) (fp:List Addr) (tn:Nat->Heap->Prop) (J:It) (H':Hp),itv=.ref it/\Inv X pins O H' s2/\Turn X.prog X.w X.K tg J fp it tn/\tn 0 s2.heap/\(∀b∈fp,m6 X pins H' b)/\R J H'
def PI(X:Cx)(tg iter:Expr)(wi:TI):Prop:=
 ∀(pins:List (Addr×Obj)) (s:ai) (O:St) (H:Hp) (R:It->Hp->Prop),Inv X pins O H s->wi O H R->
  aC (aF X.prog X.w) X.A (eval iter X.env) (fun v s1=>aC (aF X.prog X.w) X.A (u9 v) (Zw X pins O tg R) X.xe s1) X.xe s
theorem Fg{aa4:LM}{A:cC}{it:Addr}{o:Obj}{n:String}{vs:Array Value}{Q:Unit->ai->Prop}(ho:s.heap.get? it=some o)(hc:o.cls=.type n)(hd:o.data=.fields vs)
  (hn:["enumerate","zip","dict_itemiterator","dict_reverseitemiterator","odict_iterator","itertools.zip_longest","itertools.pairwise"].contains n=false) (hQ:Q () s):aC aa4 A (oE tg (.ref it) u) Q E s:=by
 unfold oE;cases tg<;>first
  |exact aR hQ
  |(cases u<;>first
    |exact aR hQ
    |(refine ah (wpAny_load ho ?_)
      rw[hc,hd];show aC aa4 A (if(["enumerate","zip","dict_itemiterator","dict_reverseitemiterator","odict_iterator","itertools.zip_longest","itertools.pairwise"].contains n&&vs[0]?==some (gS _))=true then _ else _) Q E s;rw[if_neg (by intro h;rw[hn,Du]at h;cases h)];exact aR hQ))
noncomputable def Zx(K:PySem.W.Frag)(a:Addr):It:=
 ⟨fun i H=>∃xs x,gy K H a xs/\xs[i]?=some x,fun i H x H'=>H'=H/\∀xs,gy K H a xs->xs[i]?=some x,fun i H=>∃xs,gy K H a xs/\xs.length<=i⟩
noncomputable def Zy(K:PySem.W.Frag)(a:Addr):It:=
 ⟨fun i H=>∃xs x,kD K H a xs/\xs[i]?=some x,fun i H x H'=>H'=H/\∀xs,kD K H a xs->xs[i]?=some x,fun i H=>∃xs,kD K H a xs/\xs.length<=i⟩
noncomputable def S4(lo:Int)(n:Nat):It:=⟨fun i _=>i<n,fun i H x H'=>H'=H/\x=.int (lo+i),fun i _=>n<=i⟩
variable{P:bq}{w:bH}{K:PySem.W.Frag}
theorem Mf(a it:Addr):Turn P w K tg (Zx K a) [it] it (fun i h=>h.IsListIter it a i) where
 mem:=by simp
 obj:=fun i h st b hb=>by
  have e:b=it:=by simpa using hb
  subst e;obtain⟨o,e,c,d⟩:=st;exact⟨o,e,fun v z=>by rw[d]at z;cases z⟩
 keep:=fun i h h' st k=>st.at fun o e=>k it (by simp) o e
 item:=by
  intro X hP hw hK hc i pins s O H E I hf st hg;subst hP hw hK;obtain⟨xs,x,hq,hx⟩:=hg;obtain⟨its,rv,p,hz⟩:=I.list hq;obtain⟨u,hu,ru⟩:=rv.get hx;obtain⟨f0,f1,f2,f3,f4,f5⟩:=hf it (by simp);refine wpAny_pyNext_list_item st p.isList (x:=u) (by simpa using hu) fun h' st' sb=>?_;have I1:Inv X pins O H { s with heap:=h' }:=I.turned (t':=s.toks) (fun b o hb e=>(sb.2 b hb).trans e) f0 f1 f3 f4 f5;obtain⟨o,e,c,d⟩:=id st';exact⟨u,rfl,Fg (s:={ s with heap:=h' }) e c d (by decide) ⟨x,H,I1,ru,⟨rfl,fun ys hy=>by rw[I.sj hy hq];exact hx⟩,st',fun b hb=>(hf b hb).1⟩⟩
 done:=by
  intro X hP hw hK hc i pins s O H E I hf st hg;subst hP hw hK;obtain⟨xs,hq,hx⟩:=hg;obtain⟨its,rv,p,hz⟩:=I.list hq;obtain⟨f0,f1,f2,f3,f4,f5⟩:=hf it (by simp);have hl:=rv.length;exact wpAny_pyNext_list_end (I.ok.hd hc) st p.isList (by simp;omega) fun h' eb=>⟨rfl,I.turned (t':=s.toks) (fun b o hb e=>eb b o hb e) f0 f1 f3 f4 f5⟩
 self:=fun _ _ _ _ _ st h=>wpAny_pyIter_listiter st h
theorem Kd(a it:Addr):Turn P w K tg (Zy K a) [it] it (fun i h=>h.IsTupleIter it a i) where
 mem:=by simp
 obj:=fun i h st b hb=>by
  have e:b=it:=by simpa using hb
  subst e;obtain⟨o,e,c,d⟩:=st;exact⟨o,e,fun v z=>by rw[d]at z;cases z⟩
 keep:=fun i h h' st k=>st.at fun o e=>k it (by simp) o e
 item:=by
  intro X hP hw hK hc i pins s O H E I hf st hg;subst hP hw hK;obtain⟨xs,x,hq,hx⟩:=hg;obtain⟨its,rv,p,hz⟩:=I.tuple hq;obtain⟨u,hu,ru⟩:=rv.get hx;obtain⟨f0,f1,f2,f3,f4,f5⟩:=hf it (by simp);refine wpAny_pyNext_tuple_item st (show s.heap.IsTuple a its.toArray from p) (x:=u) (by simpa using hu) fun h' st' sb=>?_;have I1:Inv X pins O H { s with heap:=h' }:=I.turned (t':=s.toks) (fun b o hb e=>(sb.2 b hb).trans e) f0 f1 f3 f4 f5;obtain⟨o,e,c,d⟩:=id st';exact⟨u,rfl,Fg (s:={ s with heap:=h' }) e c d (by decide) ⟨x,H,I1,ru,⟨rfl,fun ys hy=>by rw[I.tE hy hq];exact hx⟩,st',fun b hb=>(hf b hb).1⟩⟩
 done:=by
  intro X hP hw hK hc i pins s O H E I hf st hg;subst hP hw hK;obtain⟨xs,hq,hx⟩:=hg;obtain⟨its,rv,p,hz⟩:=I.tuple hq;obtain⟨f0,f1,f2,f3,f4,f5⟩:=hf it (by simp);have hl:=rv.length;exact wpAny_pyNext_tuple_end (I.ok.hd hc) st (show s.heap.IsTuple a its.toArray from p) (by simp;omega) fun h' eb=>⟨rfl,I.turned (t':=s.toks) (fun b o hb e=>eb b o hb e) f0 f1 f3 f4 f5⟩
 self:=fun _ _ _ _ _ st h=>wpAny_pyIter_tupleiter st h
theorem Ke(it:Addr)(lo:Int)(n:Nat):Turn P w K tg (S4 lo n) [it] it (fun i h=>IW h it (lo+(i:Nat)*1) ((n:Int)-(i:Nat)) 1) where
 mem:=by simp
 obj:=fun i h st b hb=>by
  have e:b=it:=by simpa using hb
  subst e;exact⟨_,st,fun v z=>by
   have z':Data.fields _=Data.cell v:=z;cases z'⟩
 keep:=fun i h h' st k=>k it (by simp) _ st
 item:=by
  intro X hP hw hK hc i pins s O H E I hf st hg;subst hP hw hK;obtain⟨f0,f1,f2,f3,f4,f5⟩:=hf it (by simp);have W:=Walks.range (prog:=X.prog) (w:=X.w) (I.ok.hd hc) it lo 1 n;refine W.item i s _ _ hg st fun v h' tk hv st' kk=>?_;obtain⟨t,rfl⟩:=hv;have I1:Inv X pins O H { s with heap:=h',toks:=tk }:=I.turned (fun b o hb e=>kk b o (by simpa using hb) e) f0 f1 f3 f4 f5;refine⟨_,rfl,Fg (s:={ s with heap:=h',toks:=tk }) (n:="range_iterator") st' rfl rfl (by decide) ⟨.int (lo+i),H,I1,⟨t,?_⟩,⟨rfl,rfl⟩,st',fun b hb=>(hf b hb).1⟩⟩;rw[Int.mul_one]
 done:=by
  intro X hP hw hK hc i pins s O H E I hf st hg;subst hP hw hK;obtain⟨f0,f1,f2,f3,f4,f5⟩:=hf it (by simp);exact wpAny_pyNext_range_end (I.ok.hd hc) st (by have:n<=i:=hg;omega) fun h' eb=>⟨rfl,I.turned (t':=s.toks) (fun b o hb e=>eb b o hb e) f0 f1 f3 f4 f5⟩
 self:=fun _ _ _ _ _ st h=>wpAny_pyIter_rangeiter st h
end L2
namespace L2
open PySem PySem.Spec PyProof.Rows
variable{pins:List (Addr×Obj)}{O:St}{H:Hp}{s:ai}
variable{fp:List Addr}{h:Heap}
section
variable{X:Cx}{tg:Expr}
theorem Pz{R:It->Hp->Prop}{E:Value->ai->Prop}{lo hi:Int}{t u v:Tok}{tk:Nat}(I:Inv X pins O H s)(h1:-(2 ^ 62)<=lo)(h2:lo<2 ^ 62)(h3:-(2 ^ 62)<=hi)(h4:hi<2 ^ 62)
  (q:R (S4 lo (hi-lo).toNat) H):aC (aF X.prog X.w) X.A (u9 (.ref s.heap.objs.size)) (Zw X pins O tg R) E { s with heap:=s.heap.push { cls:=.type "range",data:=.fields #[.int lo t,.int hi u,.int 1 v] },toks:=tk }:=by
 refine wpAny_pyIter_range (Yg ..) (small_one h1 h2 h3 h4) ?_;have I1:Inv X pins O H { s with heap:=s.heap.push { cls:=.type "range",data:=.fields #[.int lo t,.int hi u,.int 1 v] },toks:=tk }:=I.kept fun b o e=>aq _ e;refine⟨(s.heap.push { cls:=.type "range",data:=.fields #[.int lo t,.int hi u,.int 1 v] }).objs.size,[(s.heap.push { cls:=.type "range",data:=.fields #[.int lo t,.int hi u,.int 1 v] }).objs.size],_,_,H,rfl,
  I1.kept (t':=tk) fun b o e=>aq _ e,Ke _ lo (hi-lo).toNat,?_,fun b hb=>?_,q⟩
 ·have e1:lo+((0:Nat):Int)*1=lo:=by simp
  have e2:(((hi-lo).toNat:Nat):Int)-((0:Nat):Int)=Im lo hi 1:=by rw[rangeSize_one];split<;>omega
  show IW _ _ (lo+((0:Nat):Int)*1) ((((hi-lo).toNat:Nat):Int)-((0:Nat):Int)) 1;rw[e1,e2];exact a7 _ rfl
 ·have e:b=(s.heap.push { cls:=.type "range",data:=.fields #[.int lo t,.int hi u,.int 1 v] }).objs.size:=by simpa using hb
  subst e;exact I1.oX (aN _) (I1.hok.fresh (aN _))
def Z4(wi:TI)(g:TG)(tb:TS):TS:=fun D O H=>wi O H fun J H1=>∃W:Nat->Nat->St->Hp->Prop,(∃m,W 0 m O H1)/\∀i m O H,W i m O H->
 (J.stop i H/\D.nx O H)\/(J.go i H/\∃N:St->Hp->Prop,(∀σ' H',N σ' H'->∃m',m'<m/\W (i+1) m' σ' H')/\∀x H',J.yld i H x H'->g x O H' fun σ2 H2=>tb { D with nx:=N,ct:=N,bk:=D.nx } σ2 H2)
noncomputable def w_(fp:List Addr)(h:Heap):List (Addr×Obj):=fp.filterMap fun b=>(h.get? b).map fun o=>(b,o)
theorem rq{b:Addr}{o:Obj}(hb:b∈fp)(e:h.get? b=some o):(b,o)∈w_ fp h:=yD.mpr ⟨b,hb,by rw[e];rfl⟩
theorem Mg{p:Addr×Obj}(hp:p∈w_ fp h):p.1∈fp/\h.get? p.1=some p.2:=by
 obtain⟨b,hb,e⟩:=yD.mp hp;cases q:h.get? b with
 |none=>rw[q]at e;cases e
 |some o=>
  rw[q]at e;have e':(b,o)=p:=cM e;subst e';exact⟨hb,q⟩
theorem Inv.pinned(I:Inv X pins O H s)(hf:∀b∈fp,m6 X pins H b)(ho:∀b∈fp,∃o,s.heap.get? b=some o/\∀v,o.data≠.cell v):Inv X (pins++w_ fp s.heap) O H s:=
 I.yU fun p hp=>(a_.mp hp).elim (fun z=>I.pin p (aA _ z)) fun z=>by
  obtain⟨hb,e⟩:=Mg z;obtain⟨f0,f1,f2,_⟩:=hf p.1 hb;obtain⟨o,e',d⟩:=ho p.1 hb;rw[e]at e';cases e';exact⟨e,f0,f1,f2,d⟩
theorem Inv.vq{pl:List (Addr×Obj)}(I:Inv X (pins++pl) O H s):Inv X pins O H s:=I.yU fun p hp=>I.pin p (aA _ (aO _ hp))
theorem Wc{iter:Expr}{body:List Stmt}{wi:TI}{g:TG}{tb:TS}{pos:Pos}(hp:tW (aF X.prog X.w) X.A X.env X.xe)(hc:X.calm=true)(hi:PI X tg iter wi)(hg:PG X tg g)(hb:oU X body tb)
  (hs:∀x,jC iter X.env x=pure x:=by intro _;rfl):PS X (.For tg iter body [] pos) (Z4 wi g tb):=by
 intro pins s O H D I h;refine wpAny_For (aU (hi pins s O H _ I h) fun v s1 h1=>aU h1 fun itv s2 h2=>?_) hs;obtain⟨it,fp,tn,J,H2,e,I2,T,st2,f2,W,⟨m0,w0⟩,turn⟩:=h2;subst e;have stat:∀{H':Hp},(∀b∈fp,H' b=none)->∀b∈fp,m6 X pins H' b:=fun hn b hb=>⟨hn b hb,(f2 b hb).2⟩;refine codeAny_forLoop_any (fun n s'=>∃i σ' H',Inv X pins σ' H' s'/\tn i s'.heap/\(∀b∈fp,H' b=none)/\W i n σ' H') ?_ m0 ⟨0,O,H2,I2,st2,fun b hb=>(f2 b hb).1,w0⟩;rintro n s3 ⟨i,σ3,H3,I3,st3,fr3,w3⟩;rcases turn i n σ3 H3 w3 with⟨stop,qn⟩|⟨go,N,hN,step⟩
 ·refine g9 hp (aU (T.done X rfl rfl rfl hc i pins s3 σ3 H3 X.xe I3 (stat fr3) st3 stop) fun r s4 ⟨hr,I4⟩=>?_);subst hr;exact kI ⟨σ3,H3,I4,qn⟩
 ·refine g9 hp (aU (T.item X rfl rfl rfl hc i pins s3 σ3 H3 X.xe I3 (stat fr3) st3 go) fun r s4 ⟨u,hr,h4⟩=>?_);subst hr;refine g9 hp (aU h4 fun _ s5 ⟨x,H5,I5,r5,y5,st5,fr5⟩=>?_);have I5':=I5.pinned (stat fr5) (T.obj _ _ st5);refine g9 hp (aU (hg _ s5 σ3 H5 x u _ I5' r5 (step x H5 y5)) fun _ s6 ⟨σ6,H6,I6,q6⟩=>?_);refine g9 hp (aU (hb _ s6 σ6 H6 _ I6 q6) fun f s7 q7=>?_);have again:∀{σ7:St}{H7:Hp},Inv X (pins++w_ fp s5.heap) σ7 H7 s7->N σ7 H7->∃m,m<n/\∃i σ' H',Inv X pins σ' H' s7/\tn i s7.heap/\(∀b∈fp,H' b=none)/\W i m σ' H':=fun{σ7 H7} I7 n7=>by
   obtain⟨m',hm,w7⟩:=hN σ7 H7 n7;refine⟨m',hm,i+1,σ7,H7,I7.vq,T.keep _ _ _ st5 fun b hb o e=>(I7.pin (b,o) (aA _ (aA _ (rq hb e)))).1,fun b hb=>?_,w7⟩;obtain⟨o,e,d⟩:=T.obj _ _ st5 b hb;exact(I7.pin (b,o) (aA _ (aA _ (rq hb e)))).2.1
  cases f with
  |next=>obtain⟨σ7,H7,I7,n7⟩:=q7;exact again I7 n7
  |cont=>obtain⟨σ7,H7,I7,n7⟩:=q7;exact again I7 n7
  |brk=>obtain⟨σ7,H7,I7,q7⟩:=q7;exact⟨σ7,H7,I7.vq,q7⟩
  |ret v=>obtain⟨x7,σ7,H7,I7,r7,q7⟩:=q7;exact⟨x7,σ7,H7,I7.vq,r7,q7⟩
end
end L2
namespace L2
open PySem PySem.Spec PyProof.Rows
noncomputable abbrev R2:=V->V->Hp->VK->Prop
def iZ(X:Cx)(f:Value->Value->Sem Value)(r:R2):Prop:=
 ∀(pins:List (Addr×Obj)) (s:ai) (O:St) (H:Hp) (x y:V) (v u:Value) (Q:VK),Inv X pins O H s->RelV x v->RelV y u->r x y H Q->
  aC (aF X.prog X.w) X.A (f v u) (EP X pins O Q) X.xe s
def Zz(X:Cx)(f:Value->Sem Value)(r:V->Hp->VK->Prop):Prop:=
 ∀(pins:List (Addr×Obj)) (s:ai) (O:St) (H:Hp) (x:V) (v:Value) (Q:VK),Inv X pins O H s->RelV x v->r x H Q->
  aC (aF X.prog X.w) X.A (f v) (EP X pins O Q) X.xe s
def pQ(X:Cx)(f:Value)(r:List V->Hp->VK->Prop):Prop:=
 ∀(pins:List (Addr×Obj)) (s:ai) (O:St) (H:Hp) (xs:List V) (us:List Value) (Q:VK),Inv X pins O H s->bw xs us->r xs H Q->
  aC (aF X.prog X.w) X.A (call f us) (EP X pins O Q) X.xe s
def Wd(X:Cx)(r:V->Hp->(Bool->Hp->Prop)->Prop):Prop:=
 ∀(pins:List (Addr×Obj)) (s:ai) (O:St) (H:Hp) (x:V) (v:Value) (Q:Bool->Hp->Prop),Inv X pins O H s->RelV x v->r x H Q->
  aC (aF X.prog X.w) X.A (O3 v) (TP X pins O Q) X.xe s
def We(r:R2)(ta tb:TE):TE:=fun O H Q=>ta O H fun x H1=>tb O H1 fun y H2=>r x y H2 Q
noncomputable def rI(C:Int->Int->Prop)(g:Int->Int->V):R2:=fun x y H Q=>∃i j,x=.int i/\y=.int j/\C i j/\Q (g i j) H
noncomputable def DH(g:Int->Int->V):R2:=fun x y H Q=>∃i j,x=.int i/\y=.int j/\Q (g i j) H
def rU(g:Int->V):V->Hp->VK->Prop:=fun x H Q=>∃i,x=.int i/\Q (g i) H
variable{pins:List (Addr×Obj)}{s:ai}{O:St}{H:Hp}
variable{op:j5}{r:R2}
variable{x:V}{Q:VK}
variable{f:Value->Value->Sem Value}{g:Int->Int->Int}
section
variable{X:Cx}{a b c:Expr}{ta tb tc:TE}{pos:Pos}
theorem PC(ha:PE X a ta)(hb:PE X b tb){R:V->V->Hp->Prop}(I:Inv X pins O H s)
  (h:ta O H fun x H1=>tb O H1 fun y H2=>R x y H2) {Q:Value->ai->Prop}{f:Value->Value->Sem Value}
  (hf:∀v u s2 x y H2,Inv X pins O H2 s2->RelV x v->RelV y u->R x y H2->aC (aF X.prog X.w) X.A (f v u) Q X.xe s2) :
  aC (aF X.prog X.w) X.A (eval a X.env) (fun v aa_=>aC (aF X.prog X.w) X.A (eval b X.env) (fun u abc=>aC (aF X.prog X.w) X.A (f v u) Q X.xe abc) X.xe aa_) X.xe s:=by
 refine aU (ha pins s O H _ I h) fun v s1 ⟨x,H1,I1,r1,q1⟩=>?_;refine aU (hb pins s1 O H1 _ I1 q1) fun u s2 ⟨y,H2,I2,r2,q2⟩=>?_;exact hf v u s2 x y H2 I2 r1 r2 q2
theorem Yr(ho:iZ X (gn op) r)(ha:PE X a ta)(hb:PE X b tb):PE X (.BinOp a op b pos) (We r ta tb):=by
 intro pins s O H Q I h;exact wpAny_BinOp (PC ha hb I h fun v u s2 x y H2 I2 rx ry q=>ho pins s2 O H2 x y v u Q I2 rx ry q)
theorem FN(ho:iZ X (yC op) r){y:V}{v u:Value}(I:Inv X pins O H s)
  (rx:RelV x v) (ry:RelV y u) (q:r x y H Q):aC (aF X.prog X.w) X.A (yC op v u) (EP X pins O Q) X.xe s:=ho pins s O H x y v u Q I rx ry q
theorem Mh{C:Int->Int->Prop}
  (rule:∀(i j:Int) (t u:Tok) (s:ai) (Q:Value->ai->Prop) (E:Value->ai->Prop),C i j->Q (.int (g i j) s.toks) { s with toks:=s.toks+1 }->aC (aF X.prog X.w) X.A (f (.int i t) (.int j u)) Q E s) :
  iZ X f (rI C fun i j=>.int (g i j)):=by
 intro pins s O H x y v u Q I rx ry h;obtain⟨i,j,rfl,rfl,hc,q⟩:=h;obtain⟨t,rfl⟩:=rx;obtain⟨t',rfl⟩:=ry;exact rule i j t t' s _ _ hc ⟨.int (g i j),H,I.tok _,⟨_,rfl⟩,q⟩
theorem Wf
  (rule:∀(i j:Int) (t u:Tok) (s:ai) (Q:Value->ai->Prop) (E:Value->ai->Prop),Q (.int (g i j) s.toks) { s with toks:=s.toks+1 }->aC (aF X.prog X.w) X.A (f (.int i t) (.int j u)) Q E s) :
  iZ X f (DH fun i j=>.int (g i j)):=by
 intro pins s O H x y v u Q I rx ry h;obtain⟨i,j,rfl,rfl,q⟩:=h;obtain⟨t,rfl⟩:=rx;obtain⟨t',rfl⟩:=ry;exact rule i j t t' s _ _ ⟨.int (g i j),H,I.tok _,⟨_,rfl⟩,q⟩
theorem Kf{g:Int->Int->Bool}
  (rule:∀(i j:Int) (t u:Tok) (s:ai) (Q:Value->ai->Prop) (E:Value->ai->Prop),Q (.bool (g i j)) s->aC (aF X.prog X.w) X.A (f (.int i t) (.int j u)) Q E s) :
  iZ X f (DH fun i j=>.bl (g i j)):=by
 intro pins s O H x y v u Q I rx ry h;obtain⟨i,j,rfl,rfl,q⟩:=h;obtain⟨t,rfl⟩:=rx;obtain⟨t',rfl⟩:=ry;exact rule i j t t' s _ _ ⟨.bl (g i j),H,I,rfl,q⟩
def vt(i j:Int):Prop:=0<j/\j<1073741824
def FO(i j:Int):Prop:=0<=j/\j<=1000000/\i.natAbs<2 ^ 64
def uc(i j:Int):Prop:=(-(2 ^ 64)<i/\i<2 ^ 64)\/(-(2 ^ 64)<j/\j<2 ^ 64)
theorem uc.ok{i j:Int}(h:uc i j):IntMulOk i j:=by
 rcases h with⟨h1,h2⟩|⟨h1,h2⟩
 ·exact .of_left (E7 h1 h2)
 ·exact .of_right (E7 h1 h2)
theorem Kg(k:Nat):(0:Int)<=2 ^ k:=by
 rw[two_pow_cast];exact Int.natCast_nonneg _
theorem Wg:iZ X (gn .Add) (DH fun i j=>.int (i+j)):=Wf fun _ _ _ _ _ _ _ q=>add_int q
theorem Wh:iZ X (gn .Sub) (DH fun i j=>.int (i-j)):=Wf fun _ _ _ _ _ _ _ q=>sub_int q
theorem Wi:iZ X (gn .Mult) (rI uc fun i j=>.int (i*j)):=Mh fun _ _ _ _ _ _ _ hc q=>mul_int q hc.ok
theorem Uk:iZ X (gn .FloorDiv) (rI vt fun i j=>.int (i / j)):=Mh fun i j _ _ _ _ _ hc q=>by
 have h1:(0:Int)<j:=hc.1;have h2:j<1073741824:=hc.2;exact floordiv_int (by omega) (by rw[qQ i (by omega)];exact q) (.inl (IX (by omega)))
theorem Wj:iZ X (gn .Mod) (rI (fun _ j=>0<j) fun i j=>.int (i%j)):=Mh fun i j _ _ _ _ _ hc q=>by
 have h1:(0:Int)<j:=hc;exact mod_int' (by omega) (by rw[Int.fmod_eq_emod_of_nonneg i (by omega)];exact q)
theorem Wk:iZ X (gn .Pow) (rI FO fun i j=>.int (i ^ j.toNat)):=Mh fun _ _ _ _ _ _ _ hc q=>pow_int_small hc.1 hc.2.1 hc.2.2 q
theorem Wl:iZ X (gn .RShift) (rI (fun _ j=>0<=j) fun i j=>.int (i / 2 ^ j.toNat)):=Mh fun i j _ _ _ _ _ hc q=>
 rshift_int hc (by rw[qQ i (Kg _)];exact q)
theorem unI{f:Value->Sem Value}{g:Int->Int}
  (rule:∀(i:Int) (t:Tok) (s:ai) (Q:Value->ai->Prop) (E:Value->ai->Prop),Q (.int (g i) s.toks) { s with toks:=s.toks+1 }->aC (aF X.prog X.w) X.A (f (.int i t)) Q E s) :
  Zz X f (rU fun i=>.int (g i)):=by
 intro pins s O H x v Q I rx h;obtain⟨i,rfl,q⟩:=h;obtain⟨t,rfl⟩:=rx;exact rule i t s _ _ ⟨.int (g i),H,I.tok _,⟨_,rfl⟩,q⟩
theorem Wm:Zz X (unaryOp .USub) (rU fun i=>.int (-i)):=unI fun _ _ _ _ _ q=>neg_int q
end
variable{us:List Value}
section
variable{X:Cx}{a b c:Expr}{ta tb tc:TE}{pos:Pos}
theorem Bj{k k':Bool}(I:Inv X pins O H s)(q:Q (.bl k) H)(e:k=k'):EP X pins O Q (.bool k') s:=by
 subst e;exact⟨.bl k,H,I,rfl,q⟩
theorem Ys:iZ X (f_ .Lt) (DH fun i j=>.bl (decide (i<j))):=Kf fun _ _ _ _ _ _ _ q=>lt_int q
theorem Yt:iZ X (f_ .LtE) (DH fun i j=>.bl (decide (i<=j))):=Kf fun _ _ _ _ _ _ _ q=>le_int q
theorem Yu:iZ X (f_ .Gt) (DH fun i j=>.bl (decide (j<i))):=Kf fun _ _ _ _ _ _ _ q=>gt_int q
theorem Yv:iZ X (f_ .GtE) (DH fun i j=>.bl (decide (j<=i))):=Kf fun _ _ _ _ _ _ _ q=>ge_int q
theorem Mi:iZ X (f_ .Lt) (fun x y H Q=>∃i j,x=.str i/\y=.str j/\Q (.bl (decide (i.cps.toList<j.cps.toList))) H):=by
 intro pins s O H x y v u Q I rx ry h;obtain⟨i,j,rfl,rfl,q⟩:=h;obtain⟨t,rfl⟩:=rx;obtain⟨t',rfl⟩:=ry;exact lt_str (Bj I q rfl)
theorem Wn:iZ X (f_ .Is) (fun x y H Q=>y=.non/\Q (.bl (decide (x=.non))) H):=by
 intro pins s O H x y v u Q I rx ry h;obtain⟨rfl,q⟩:=h;cases ry;refine is_none_gen (Bj I q ?_);cases x<;>first
  |(cases rx;rfl)
  |(obtain⟨t,rfl⟩:=rx;rfl)
theorem Ul:iZ X (f_ .IsNot) (fun x y H Q=>y=.non/\Q (.bl (!decide (x=.non))) H):=by
 intro pins s O H x y v u Q I rx ry h;obtain⟨rfl,q⟩:=h;cases ry;refine isnot_none_gen (Bj I q ?_);cases x<;>first
  |(cases rx;rfl)
  |(obtain⟨t,rfl⟩:=rx;rfl)
theorem aaz(b:Expr){op:oF}(h:op≠.In:=by decide)(h2:op≠.NotIn:=by decide):mW op b=false:=by
 have e1:(op==CmpOp.In)=false:=by cases op<;>first|rfl|exact absurd rfl h
 have e2:(op==CmpOp.NotIn)=false:=by cases op<;>first|rfl|exact absurd rfl h2
 cases b<;>simp[mW,e1,e2]
theorem Um{op:oF}(ho:iZ X (f_ op) r)(ha:PE X a ta)(hb:PE X b tb)(hm:mW op b=false):PE X (.Compare a [op] [b] pos) (We r ta tb):=by
 intro pins s O H Q I h;exact wpAny_Compare1 (PC ha hb I h fun v u s2 x y H2 I2 rx ry q=>ho pins s2 O H2 x y v u Q I2 rx ry q) hm
def Z5(K:PySem.W.Frag)(x:V)(H:Hp)(k:Bool):Prop:=
 match x with
 |.non=>k=false
 |.bl b=>k=b
 |.int i=>k=(i != 0)
 |.str y=>y.length<=aa/\k=((y.length:Int) != 0)
 |.byt y=>y.size<=aa/\k=((y.size:Int) != 0)
 |.ref p=>(∃xs,gy K H p xs/\k=!xs.isEmpty)\/(∃xs,kD K H p xs/\k=!xs.isEmpty)\/∃kvs,H p=some (.dK kvs)/\k=!kvs.isEmpty
 |_=>False
theorem Kh{κ:Type}{kvs:List (κ×V)}{vs:List (κ×Value)}(r:KV kvs vs):(!vs.isEmpty)=!kvs.isEmpty:=by
 cases r<;>rfl
theorem Bk{xs:List V}{its:List Value}(r:bw xs its):(!its.toArray.isEmpty)=!xs.isEmpty:=by
 cases r<;>simp
theorem sy:(aa:Nat)<2 ^ 63:=by rw[dH];decide
theorem Wo:Wd X (fun x H Q=>∃k,Z5 X.K x H k/\Q k H):=by
 intro pins s O H x v Q I rx h;obtain⟨k,e,q⟩:=h;have hl:=sy;have hs:aa=16777216:=dH;cases x with
 |non=>
  cases rx;have e':k=false:=e;subst e';exact truthy_none ⟨H,I,q⟩
 |bl b=>
  cases rx;have e':k=b:=e;subst e';exact eT ⟨H,I,q⟩
 |int i=>
  obtain⟨t,rfl⟩:=rx;have e':k=(i != 0):=e;subst e';exact PySem.P.truthy_int ⟨H,I,q⟩
 |str y=>
  obtain⟨t,rfl⟩:=rx;obtain⟨hy,e'⟩:y.length<=aa/\k=((y.length:Int) != 0):=e;subst e';exact PySem.P.truthy_str (by omega) ⟨H,I.tok _,q⟩
 |byt y=>
  obtain⟨t,rfl⟩:=rx;obtain⟨hy,e'⟩:y.size<=aa/\k=((y.size:Int) != 0):=e;subst e';exact PySem.W.truthy_bytes (by omega) ⟨H,I.tok _,q⟩
 |ref p=>
  cases rx;have e':(∃xs,gy X.K H p xs/\k=!xs.isEmpty)\/(∃xs,kD X.K H p xs/\k=!xs.isEmpty)\/∃kvs,H p=some (.dK kvs)/\k=!kvs.isEmpty:=e;rcases e' with⟨xs,hx,e'⟩|⟨xs,hx,e'⟩|⟨kvs,hx,e'⟩
  ·subst e';obtain⟨its,r,pl,hz⟩:=I.list hx;have hlen:=r.length;exact wpAny_truthy_list pl.isList (by simp only[aQ];omega) ⟨H,I.tok _,by rw[Bk r];exact q⟩
  ·subst e';obtain⟨its,r,pl,hz⟩:=I.tuple hx;have hlen:=r.length;exact truthy_tuple pl (by simp only[aQ];omega) ⟨H,I.tok _,by rw[Bk r];exact q⟩
  ·subst e';obtain⟨hz,hS,vs,r,m⟩:kvs.length<=aa/\(p==j4)=false/\∃vs,KV kvs vs/\s.heap.DictOf (gB X.prog X.w) p vs:=I.hok p _ hx;have hlen:kvs.length=vs.length:=Paired.length r;exact wpAny_truthy_dict hS m (by omega) ⟨H,I.tok _,by rw[Kh r];exact q⟩
 |_=>exact(show False from e).elim
theorem Kl:iZ X (gn .Add) (fun x y H Q=>∃i j,x=.str i/\y=.str j/\i.length+j.length<=aa/\Q (.str (i++j)) H):=by
 intro pins s O H x y v u Q I rx ry h;obtain⟨i,j,rfl,rfl,hz,q⟩:=h;obtain⟨t,rfl⟩:=rx;obtain⟨t',rfl⟩:=ry;exact add_str (fun t' tk=>⟨.str (i++j),H,I.tok _,⟨_,rfl⟩,q⟩) hz
theorem vals1(r:bw [x] us):∃u,us=[u]/\RelV x u:=by
 cases r with
 |cons r1 r2=>cases r2;exact⟨_,rfl,r1⟩
theorem vals2{y:V}(r:bw [x,y] us):∃u w',us=[u,w']/\RelV x u/\RelV y w':=by
 cases r with
 |cons r1 r2=>
  cases r2 with
  |cons r3 r4=>cases r4;exact⟨_,_,rfl,r1,r3⟩
theorem PD:pQ X (.builtin "abs") (fun xs H Q=>∃i,xs=[.int i]/\Q (.int (if i<0 then -i else i)) H):=by
 intro pins s O H xs us Q I r h;obtain⟨i,rfl,q⟩:=h;obtain⟨u,rfl,t,rfl⟩:=vals1 r;exact call_abs_int fun u tk=>⟨.int (if i<0 then -i else i),H,I.tok _,⟨_,rfl⟩,q⟩
theorem Mj(hc:X.calm=true):pQ X (.builtin "min") (fun xs H Q=>∃i j,xs=[.int i,.int j]/\Q (.int (if j<i then j else i)) H):=by
 intro pins s O H xs us Q I r h;obtain⟨i,j,rfl,q⟩:=h;obtain⟨u,w',rfl,⟨t,rfl⟩,⟨t',rfl⟩⟩:=vals2 r;refine min_two_ints (I.ok.hd hc) fun h' tk k=>⟨_,H,I.kept k,?_,q⟩;by_cases hj:j<i
 ·rw[if_pos hj,if_pos hj];exact⟨_,rfl⟩
 ·rw[if_neg hj,if_neg hj];exact⟨_,rfl⟩
theorem DJ:pQ X (.type "int") (fun xs H Q=>(∃i,xs=[.int i]/\Q (.int i) H)\/∃k,xs=[.bl k]/\Q (.int (if k then 1 else 0)) H):=by
 intro pins s O H xs us Q I r h;rcases h with⟨i,rfl,q⟩|⟨k,rfl,q⟩
 ·obtain⟨u,rfl,t,rfl⟩:=vals1 r;exact call_int_int ⟨.int i,H,I,⟨_,rfl⟩,q⟩
 ·obtain⟨u,rfl,r1⟩:=vals1 r;cases r1;exact call_int_bool ⟨.int (if k then 1 else 0),H,I.tok _,⟨_,rfl⟩,q⟩
theorem FP:pQ X (.type "str") (fun xs H Q=>∃i,xs=[.int i]/\i.natAbs.log2<1920/\Q (.str (toString i)) H):=by
 intro pins s O H xs us Q I r h;obtain⟨i,rfl,hz,q⟩:=h;obtain⟨u,rfl,t,rfl⟩:=vals1 r;exact PySem.P.str_of_int hz ⟨.str _,H,I.tok _,⟨_,rfl⟩,q⟩
end
end L2
namespace L2
open PySem PySem.Spec PyProof.Rows
structure Km (h:Heap) (x dx C:Addr) (mA:Str->Option Value):Prop where
 obj:h.get? x=some (PySem.W.instObj C dx)
 ns:h.Ns1 dx mA
 ne:dx≠x
variable{h:Heap}{dx:Addr}{mA:Str->Option Value}
theorem DK(n:h.Ns1 dx mA):∃od,h.get? dx=some od/\∀name,PySem.W.lookIn name od=some (mA name):=by
 obtain⟨o,es,ep,ho,hd,hk,_,hm⟩:=n;refine⟨o,ho,fun name=>?_⟩;have e:=hm name;unfold Cf findBy at e;rw[<-Array.find?_toList]at e;unfold PySem.W.lookIn;rw[hd];dsimp only;split
 ·rename_i y q;rw[q]at e;exact congrArg some e
 ·rename_i q;rw[q]at e;have a:es.toList.any (·.refKey)=false:=by
   rw[l9];intro y hy;obtain⟨z,t,hkey⟩:=hk y (Array.mem_toList_iff.mp hy);simp[SX,hkey]
  have a':¬es.toList.any (·.refKey)=true:=by rw[a];exact aY
  rw[if_neg a'];exact congrArg some e
variable{C:Addr}
theorem Km.look{x:Addr}(I:Km h x dx C mA):∃od,PySem.W.InstAt h x (PySem.W.instObj C dx) C (some od)/\∀name,PySem.W.lookIn name od=some (mA name):=
 let⟨od,ho,hl⟩:=DK I.ns
 ⟨od,⟨I.obj,rfl,rfl,ho⟩,hl⟩
variable{Q:Value->ai->Prop}
section
variable{prog:bq}{w:bH}{A:cC}{E:Value->ai->Prop}{s:ai}{K:PySem.W.Frag}{x dx C f:Addr}{mA:Str->Option Value}{name:Str}{v:Value}
theorem Mk{expr:Bool}{a:Value}(X:K.In s.heap)(I:Km s.heap x dx C mA)(hg:PySem.W.plainGet K C name=true)(hh:PySem.W.hasDictIn K C=true)
  (ha:PySem.W.findIn K (.ref C) name=some (some a)) (hn:PySem.W.specialIn K a "__get__"=some none) (hc:PySem.W.copiedNames.contains name=false) (hv:mA name=none) (hv':PySem.W.handedIn a=true)
  (h:Q a { s with toks:=s.toks+1 }):aC (aF prog w) A (J7 (.ref x) name expr) Q E s:=by
 obtain⟨od,J,hl⟩:=I.look;exact PySem.W.get_value X J (PySem.W.plainGet_of hg).1 (PySem.W.findObj_cls hh ha hn hv' hc (by rw[hl,hv])) hv' h
end
noncomputable def h_(f:Str)(v:V):List (Str×V)->List (Str×V)
|[]=>[(f,v)]
|(g,x)::r=>if g=f then(g,v)::r else(g,x)::h_ f v r
theorem pR(f g:Str)(v:V):∀fs:List (Str×V),(h_ f v fs).lookup g=if g=f then some v else fs.lookup g
|[]=>by
 show ju g [(f,v)]=_;by_cases h:g=f
 ·have hb:(g==f)=true:=beq_iff_eq.mpr h;simp only[ju,hb,if_pos h]
 ·have hb:(g==f)=false:=beq_eq_false_iff_ne.mpr h;simp only[ju,hb,if_neg h]
|(k,x)::r=>by
 have ih:=pR f g v r;rw[show h_ f v ((k,x)::r)=(if k=f then(k,v)::r else(k,x)::h_ f v r)from rfl];by_cases hk:k=f
 ·rw[if_pos hk];by_cases h:g=k
  ·have hb:(g==k)=true:=beq_iff_eq.mpr h;simp only[ju,hb,if_pos (h.trans hk)]
  ·have hb:(g==k)=false:=beq_eq_false_iff_ne.mpr h;simp only[ju,hb,if_neg (fun e:g=f=>h (e.trans hk.symm))]
 ·rw[if_neg hk];by_cases h:g=k
  ·have hb:(g==k)=true:=beq_iff_eq.mpr h;simp only[ju,hb,if_neg (fun e:g=f=>hk (h.symm.trans e))]
  ·have hb:(g==k)=false:=beq_eq_false_iff_ne.mpr h;simp only[ju,hb];exact ih
theorem ud(f:Str)(v:V):∀fs:List (Str×V),(h_ f v fs).length<=fs.length+1
|[]=>by simp[h_]
|(k,x)::r=>by
 have ih:=ud f v r;rw[show h_ f v ((k,x)::r)=(if k=f then(k,v)::r else(k,x)::h_ f v r)from rfl];by_cases hk:k=f
 ·rw[if_pos hk,aB,aB];omega
 ·rw[if_neg hk,aB,aB];omega
variable{o:Option Value}
theorem lZ.some_of{v:V}(r:lZ (some v) o):∃u,o=some u/\RelV v u:=by
 cases o with
 |none=>exact(show False from r).elim
 |some u=>exact⟨u,rfl,r⟩
theorem lZ.none_of(r:lZ none o):o=none:=by
 cases o with
 |none=>rfl
 |some u=>exact(show False from r).elim
variable{u:Value}
theorem Ml{v:V}(r:RelV v u):PySem.W.handedIn u=true:=by
 cases v with
 |non=>cases(show u=cY from r);rfl
 |bl b=>cases(show u=gK b from r);rfl
 |int i=>obtain⟨t,e⟩:=(show ∃t,u=qA i t from r);cases e;rfl
 |str x=>obtain⟨t,e⟩:=(show ∃t,u=nG x t from r);cases e;rfl
 |byt b=>obtain⟨t,e⟩:=(show ∃t,u=IU b t from r);cases e;rfl
 |flt b=>obtain⟨t,e⟩:=(show ∃t,u=Ai b t from r);cases e;rfl
 |ref a=>cases(show u=bu a from r);rfl
 |ty n=>cases(show u=Value.type n from r);rfl
section
variable{P:bq}{w:bH}{H H':Hp}{h h':Heap}{a C dx:Addr}{fs fs':List (Str×V)}
theorem Jj(hok:fB P w H h)(e:H a=some (.ins C dx fs)):∃mA,Km h a dx C mA/\(∀f,lZ (fs.lookup f) (mA f))/\PySem.Within mA (fs.map (·.1))/\fs.length<=1000/\H dx=some (.own a):=by
 obtain⟨d,z,ne,ob,mA,n,r,q⟩:=(show dN P w H h a (.ins C dx fs)from hok a _ e);exact⟨mA,⟨ob,n,ne⟩,r,q,z,d⟩
end
structure Mm (K:PySem.W.Frag) (C:Addr):Prop where
 pg:PySem.W.plainGet K C eU=true
 hd:PySem.W.hasDictIn K C=true
 po:PySem.W.plainOver K C=true
 sa:PySem.W.findIn K (.ref C) "__setattr__"=some (some (.builtin "object.__setattr__"))
theorem Mm.get{K:PySem.W.Frag}(c:Mm K C)(f:Str):PySem.W.plainGet K C f=true:=c.pg
def mh(K:PySem.W.Frag)(C:Addr)(f:Str):Prop:=PySem.W.findIn K (.ref C) f=some none
structure ZA (K:PySem.W.Frag) (C:Addr) (f:Str) (v:V) (u:Value):Prop where
 at_:PySem.W.findIn K (.ref C) f=some (some u)
 rel:RelV v u
 get:PySem.W.specialIn K u "__get__"=some none
 cp:PySem.W.copiedNames.contains f=false
section
variable{X:Cx}{pins:List (Addr×Obj)}{O:St}{H:Hp}{s:ai}{a C dx:Addr}{fs:List (Str×V)}{f:Str}{v:V}{A:cC}{E:Value->ai->Prop}
theorem Mn{b:Bool}(I:Inv X pins O H s)(e:H a=some (.ins C dx fs))(c:Mm X.K C)(k:ZA X.K C f v u)(l:fs.lookup f=none)
  (h:∀s',Inv X pins O H s'->Q u s'):aC (aF X.prog X.w) A (J7 (.ref a) f b) Q E s:=by
 obtain⟨mA,aa3,r,_,_,_⟩:=Jj I.hok e;have hn:mA f=none:=lZ.none_of (by rw[<-l];exact r f);exact Mk I.fQ aa3 (c.get f) c.hd k.at_ k.get k.cp hn (Ml k.rel) (h _ (I.tok _))
theorem Uo{prog:bq}{w:bH}{env:Env}{e:Expr}{pos:Pos}(hb:qR e f env (eval e env)=eval e env)
  (h:aC (aF prog w) A (eval e env) (fun o aa_=>aC (aF prog w) A (J7 o f true) Q E aa_) E s):aC (aF prog w) A (eval (.Attribute e f pos) env) Q E s:=
 Attribute_any_ h (by rw[arm_eval_Attribute,hb])
end
def Z6(K:PySem.W.Frag)(ta:TE)(f:Str):TE:=fun O H Q=>ta O H fun x H1=>∃a C dx fs v u,x=.ref a/\H1 a=some (.ins C dx fs)/\Mm K C/\ZA K C f v u/\fs.lookup f=none/\Q v H1
section
variable{X:Cx}{o e value:Expr}{f:Str}{pos pos' tpos:Pos}{ta tv:TE}
theorem Mp(he:PE X e ta)(hb:qR e f X.env (eval e X.env)=eval e X.env):PE X (.Attribute e f pos) (Z6 X.K ta f):=by
 intro pins s O H Q I h;refine Uo hb (aU (he pins s O H _ I h) fun u s1 ⟨x,H1,I1,rx,a,C,dx,fs,v,u0,ex,ea,c,k,l,q⟩=>?_);subst ex;obtain rfl:u=bu a:=rx;exact Mn I1 ea c k l fun s2 I2=>⟨v,H1,I2,k.rel,q⟩
end
section
variable{X:Cx}{pins:List (Addr×Obj)}{O:St}{H:Hp}{s:ai}{A:cC}{E:Value->ai->Prop}{Q:Value->ai->Prop}{c:Value}{b:Bool}
inductive oY (K:PySem.W.Frag) (H:Hp):V->Value->Prop where
|non:oY K H .non (.type "NoneType")
|bl (x:Bool):oY K H (.bl x) (.type "bool")
|int (i:Int):oY K H (.int i) (.type "int")
|str (x:Str):oY K H (.str x) (.type "str")
|flt (x:UInt64):oY K H (.flt x) (.type "float")
|lst {a:Addr}{xs:List V} (e:H a=some (.lst xs)):oY K H (.ref a) (.type "list")
|bh {a:Addr}{o:Obj}{xs:List V} (e:H a=some (.bh o (.lst xs))):oY K H (.ref a) (.type "list")
|tup {a:Addr}{xs:List V} (e:H a=some (.tup xs)):oY K H (.ref a) (.type "tuple")
|dK {a:Addr}{kvs:List (Key×V)} (e:H a=some (.dK kvs)):oY K H (.ref a) (.type "dict")
|dT {a:Addr}{kvs:List (List Key×V)} (e:H a=some (.dT kvs)):oY K H (.ref a) (.type "dict")
|ins {a C dx:Addr}{fs:List (Str×V)} (e:H a=some (.ins C dx fs)) (cl:Mm K C) (ha:PySem.W.findIn K (.ref C) "__class__"=some (some (.builtin "object.__class__")))
  (hn:PySem.W.specialIn K (.builtin "object.__class__") "__get__"=some (some (.builtin "getset_descriptor.__get__"))) (htk:PySem.W.takesIn K (.builtin "object.__class__")=some true)
  (hm:PySem.W.mroIn K C (.type "object")=some true):oY K H (.ref a) (.ref C)
theorem Mq{x:V}{t:Value}(I:Inv X pins O H s)(rx:RelV x u)(ty:oY X.K H x t)(e:PySem.W.kitOne X.K t c=some b)(h:∀tk,Q (.bool b) { s with toks:=tk }) :
  aC (aF X.prog X.w) A (call (.builtin "isinstance") [u,c]) Q E s:=by
 cases ty with
 |non=>cases(show u=cY from rx);exact PySem.W.kia_one PySem.W.kitx_none I.fQ d9 e (fun z=>nomatch z) h
 |bl y=>cases(show u=gK y from rx);exact PySem.W.kia_one PySem.W.kitx_bool I.fQ d9 e (fun z=>nomatch z) h
 |int i=>obtain⟨t,q⟩:=(show ∃t,u=qA i t from rx);cases q;exact PySem.W.kia_one PySem.W.kitx_int I.fQ d9 e (fun z=>nomatch z) h
 |str y=>obtain⟨t,q⟩:=(show ∃t,u=nG y t from rx);cases q;exact PySem.W.kia_one PySem.W.kitx_str I.fQ d9 e (fun z=>nomatch z) h
 |flt y=>obtain⟨t,q⟩:=(show ∃t,u=Ai y t from rx);cases q;exact PySem.W.kia_one PySem.W.kitx_float I.fQ d9 e (fun z=>nomatch z) h
 |@lst a xs ea=>
  cases(show u=bu a from rx);obtain⟨_,_,n,_,h1⟩:=(show dN X.prog X.w H s.heap a (.lst xs)from I.hok a _ ea);exact PySem.W.kia_one PySem.W.kitx_list I.fQ ⟨_,h1,rfl⟩ e (fun z=>nomatch z) h
 |@bh a ob xs ea=>
  cases(show u=bu a from rx);obtain⟨_,_,_,n,_,h1⟩:=(show dN X.prog X.w H s.heap a (.bh ob (.lst xs))from I.hok a _ ea);exact PySem.W.kia_one PySem.W.kitx_list I.fQ ⟨_,h1,rfl⟩ e (fun z=>nomatch z) h
 |@tup a xs ea=>
  cases(show u=bu a from rx);obtain⟨_,_,_,p⟩:=(show dN X.prog X.w H s.heap a (.tup xs)from I.hok a _ ea);obtain⟨o,h1,h2,_⟩:=p;exact PySem.W.kia_one PySem.W.kitx_tuple I.fQ ⟨o,h1,h2⟩ e (fun z=>nomatch z) h
 |@dK a kvs ea=>
  cases(show u=bu a from rx);obtain⟨_,_,vs,_,p⟩:=(show dN X.prog X.w H s.heap a (.dK kvs)from I.hok a _ ea);obtain⟨o,es,ep,h1,h2,_⟩:=p;exact PySem.W.kia_one PySem.W.kitx_dict I.fQ ⟨o,h1,h2.1⟩ e (fun z=>nomatch z) h
 |@dT a kvs ea=>
  cases(show u=bu a from rx);obtain⟨_,_,xs,_,o,es,ep,h1,h2,_⟩:=(show dN X.prog X.w H s.heap a (.dT kvs)from I.hok a _ ea);exact PySem.W.kia_one PySem.W.kitx_dict I.fQ ⟨o,h1,h2.1⟩ e (fun z=>nomatch z) h
 |@ins a C dx fs ea cl ha hn htk hm=>
  cases(show u=bu a from rx);obtain⟨mA,aa3,_⟩:=Jj I.hok ea;obtain⟨od,J,_⟩:=aa3.look;exact PySem.W.kia_one (PySem.W.kitx_own (cl.get _) cl.hd ha hn htk hm) I.fQ J e (fun z=>nomatch z) h
end
end L2
namespace L2
open PySem PySem.Spec PyProof.Rows
structure gO (k:Nat) (A:cC):Prop where
 hd:A.handled=none
 dp:A.depth+3*k+5<Dv
 un:A.units+16*k+200<dD
variable{j k:Nat}{A:cC}
theorem gO.mono(r:gO k A)(h:j<=k):gO j A:=⟨r.hd,by have:=r.dp;omega,by have:=r.un;omega⟩
theorem gO.deeper(r:gO (k+1) A)(env:Env):gO k (A.deeper env):=
 ⟨r.hd,by have:=r.dp;show A.depth+1+3*k+5<_;omega,by have:=r.un;show A.units+3+16*k+200<_;omega⟩
variable{C:Addr}{us:List Value}{kw:List (Str×Value)}
theorem Kn:(A.under (.builtin "type.__call__" ⟨.ref C::us,kw⟩)).depth=A.depth+1:=by
 first|rfl|simp[yE,Code.weight,Code.isCreation,Code.isGuard,Code.isCaller,IY,yF,guardIds]
theorem Ko:(A.under (.builtin "type.__call__" ⟨.ref C::us,kw⟩)).units=A.units+1:=by
 first|rfl|simp[yE,Code.cUnits,IY,yF]
theorem gO.make(r:gO (k+1) A)(C:Addr)(us:List Value)(kw:List (Str×Value)):gO k (A.under (.builtin "type.__call__" ⟨.ref C::us,kw⟩)):=
 ⟨r.hd,by have:=r.dp;rw[Kn];omega,by have:=r.un;rw[Ko];omega⟩
theorem gO.depth(r:gO k A):A.depth<Dv:=by have:=r.dp;omega
def Wp:TA:=fun _ H Q=>Q [] H
def Yw(ta:TE)(tr:TA):TA:=fun O H Q=>ta O H fun x H1=>tr O H1 fun xs H2=>Q (x::xs) H2
section
variable{X:Cx}{e:Expr}{es:List Expr}{te:TE}{t:TA}{pos:Pos}
theorem Mr:PA X [] Wp:=fun _ _ _ _ H Q I h=>iw ⟨[],H,I,.nil,h⟩
theorem Jk(ha:PE X e te)(hr:PA X es t)(hs:cE (e::es) X.env=(false,eval e X.env)::cE es X.env:=by rfl):PA X (e::es) (Yw te t):=by
 intro pos pins s O H Q I h;rw[hs];show aC _ _ (se ((false,eval e X.env)::kc pos (cE es X.env))) _ _ s;refine dX (aU (ha pins s O H _ I h) fun u s1 ⟨x,H1,I1,r1,q1⟩=>?_);exact aU (hr pos pins s1 O H1 _ I1 q1) fun us s2 ⟨xs,H2,I2,r2,q2⟩=>⟨x::xs,H2,I2,.cons r1 r2,q2⟩
def Z7(t:TA):TE:=fun O H Q=>t O H fun xs H1=>xs.length<=aa/\∀p,H1 p=none->Q (.ref p) (upd H1 p (.tup xs))
def Z8(t:TA):TE:=fun O H Q=>t O H fun xs H1=>xs.length<=aa/\∀p,H1 p=none->Q (.ref p) (upd H1 p (.lst xs))
theorem Wq{x1}(h:PA X es t):PE X (.Tuple es x1 pos) (Z7 t):=by
 intro pins s O H Q I hq;refine wX (aU (h pos pins s O H _ I hq) fun us s1 ⟨xs,H1,I1,r,z,q⟩=>⟨by rw[<-r.length];exact z,?_⟩);have hf:H1 s1.heap.objs.size=none:=I1.hok.fresh (aN _);refine⟨.ref s1.heap.objs.size,upd H1 s1.heap.objs.size (.tup xs),I1.laid (t':=s1.toks) (fun b u e=>aq _ e) (aN _) ?_,rfl,q _ hf⟩;exact⟨z,us,r,⟨_,a7 _ rfl,rfl,_,rfl⟩⟩
theorem Wr(h:PA X es t):PE X (.List es pos) (Z8 t):=by
 intro pins s O H Q I hq;refine wpAny_List_spliced (aU (h pos pins s O H _ I hq) fun us s1 ⟨xs,H1,I1,r,z,q⟩=>⟨by rw[<-r.length];exact z,?_⟩);have hf:H1 s1.heap.objs.size=none:=I1.hok.fresh (aN _);refine⟨.ref s1.heap.objs.size,upd H1 s1.heap.objs.size (.lst xs),I1.laid (t':=s1.toks) (fun b u e=>aq _ e) (aN _) ?_,rfl,q _ hf⟩;exact⟨z,us,0,r,a7 _ rfl⟩
end
noncomputable abbrev Sp:=List V->Hp->VK->XK->Prop
noncomputable abbrev zG:=List Env->Hp->ai->XK->Value->ai->Prop
structure An (P:bq) (w:bH) (K:PySem.W.Frag) (mg:Str->Option Value) (base:Heap) (A:cC) (outer:List Env) (s:ai) (H:Hp):Prop where
 frames:A.frames=some outer
 mod:Mod K mg base
 bs:∀b o,base.get? b=some o->s.heap.get? b=some o/\H b=none
 bsz:base.objs.size<=s.heap.objs.size
 oW:s.heap.FunFrames base outer
 frf:∀b∈frs outer,H b=none
 hok:fB P w H s.heap
 bare:jM s.gens
def CE(outer:List Env)(P:bq)(w:bH)(H:Hp)(s:ai)(Q:VK)(u:Value)(s':ai):Prop:=
 ∃v H',s'.os=s.os/\jM s'.gens/\Un (frs outer) [] H H' s.heap s'.heap/\fB P w H' s'.heap/\RelV v u/\Q v H'
def CR(CX:zG)(outer:List Env)(P:bq)(w:bH)(H:Hp)(s:ai)(Q:VK)(E:XK)(r:Cg)(s':ai):Prop:=
 match r with
 |.ok (.ret u)=>CE outer P w H s Q u s'
 |.ok _=>False
 |.error e=>CX outer H s E e s'
structure fH (P:bq) (w:bH) (K:PySem.W.Frag) (mg:Str->Option Value) (base:Heap) (CX:zG) (k:Nat) (f:Addr) (fd:fJ) (ps:List Str) (sp:Sp):Prop where
 len:∀vs H Q E,sp vs H Q E->vs.length=ps.length
 run:∀(A:cC) (outer:List Env) (s:ai) (H:Hp) (args:Args) (us:List Value) (vs:List V) (Q:VK) (E:XK),gO k A->An P w K mg base A outer s H->Dw s fd args (ps.zip us)->bw vs us->sp vs H Q E->
  lQ (aF P w) A (.call (.ref f) args) (CR CX outer P w H s Q E) s
variable{P:bq}{w:bH}{K:PySem.W.Frag}{mg:Str->Option Value}{base:Heap}{CX:zG}{f:Addr}{fd:fJ}{ps:List Str}{sp:Sp}
theorem fH.mono(F:fH P w K mg base CX j f fd ps sp)(h:j<=k) :
  fH P w K mg base CX k f fd ps sp:=⟨F.len,fun A outer s H args us vs Q E hr=>F.run A outer s H args us vs Q E (hr.mono h)⟩
theorem fH.imp{sp':Sp}(F:fH P w K mg base CX k f fd ps sp)
  (h:∀vs H Q E,sp' vs H Q E->sp vs H Q E):fH P w K mg base CX k f fd ps sp':=
 ⟨fun vs H Q E q=>F.len vs H Q E (h _ _ _ _ q),fun A outer s H args us vs Q E hr he hb hv hs=>F.run A outer s H args us vs Q E hr he hb hv (h _ _ _ _ hs)⟩
variable{outer:List Env}{s:ai}{H:Hp}
theorem An.make(e:An P w K mg base A outer s H)(C:Addr)(us:List Value)(kw:List (Str×Value)) :
  An P w K mg base (A.under (.builtin "type.__call__" ⟨.ref C::us,kw⟩)) outer s H:=⟨by first|exact e.frames|(simpa[yE,Code.envs,yF,pushEnvs]using e.frames),e.mod,e.bs,e.bsz,e.oW,e.frf,e.hok,e.bare⟩
variable{Q:VK}
section
variable{X:Cx}{pins:List (Addr×Obj)}{O:St}{H:Hp}{s s':ai}
theorem Inv.PF(I:Inv X pins O H s):An X.prog X.w X.K X.mg X.base X.A X.stack s H:=
 ⟨I.ok.frames,I.ok.mod,I.bs,dz I.ok.bsz I.sz,I.stack,I.CH,I.hok,I.bare⟩
theorem Inv.after{u:Value}(I:Inv X pins O H s)(h:CE X.stack X.prog X.w H s Q u s'):EP X pins O Q u s':=by
 obtain⟨v,H',os,bare,un,hok,r,q⟩:=h;obtain⟨hh,g,d,t,os'⟩:=s';obtain rfl:os'=s.os:=os;exact⟨v,H',I.call (h':=hh) (g':=g) (d':=d) (t':=t) (ch:=[]) un hok bare (fun b z=>absurd z (by simp)),r,q⟩
end
def S5(sp:Sp)(dvs:List V)(E:XK)(t:TA):TE:=fun O H Q=>t O H fun vs H1=>sp (vs++dvs) H1 Q E
def Binds(K:PySem.W.Frag)(fd:fJ)(ps:List Str)(ds:List Value):Prop:=
 ∀(s:ai) (us:List Value),K.In s.heap->(us++ds).length=ps.length->Dw s fd ⟨us,[]⟩ (ps.zip (us++ds))
theorem Binds.all(h:∀us:List Value,us.length=ps.length->sY fd ⟨us,[]⟩=pure (ps.zip us)):Binds K fd ps []:=fun s us _ hl=>by
 rw[eZ]at hl ⊢;exact .of_eq (h us hl)
def xg(CX:zG)(X:Cx)(E:XK):Prop:=∀(pins:List (Addr×Obj)) (O:St) (H:Hp) (s:ai) (e:Value) (s':ai),Inv X pins O H s->CX X.stack H s E e s'->X.xe e s'
variable{vs:List V}
section
variable{X:Cx}{CX:zG}{k:Nat}{f C:Addr}{fd:fJ}{ps:List Str}{sp:Sp}{dvs:List V}{ds:List Value}{E:XK}{x m:Str}{p pos apos:Pos}{e o:Expr}{es:List Expr}{ta:TE}{t:TA}
theorem Ms{pins:List (Addr×Obj)}{O:St}(F:fH X.prog X.w X.K X.mg X.base CX k f fd ps sp)(hr:gO k X.A)(hb:Binds X.K fd ps ds)(hd:bw dvs ds)(hx:xg CX X E)
  (I:Inv X pins O H s) (r:bw vs us) (h:sp (vs++dvs) H Q E):aC (aF X.prog X.w) X.A (call (.ref f) us) (EP X pins O Q) X.xe s:=by
 have r2:bw (vs++dvs) (us++ds):=r.append hd;have hl:(us++ds).length=ps.length:=by rw[<-r2.length];exact F.len _ _ _ _ h
 refine rN (iP (F.run X.A X.stack s H ⟨us,[]⟩ (us++ds) (vs++dvs) Q E hr I.PF (hb s us I.fQ hl) r2 h) fun r s' hq=>?_);cases r with
 |error e=>exact hx pins O H s e s' I hq
 |ok fl=>
  cases fl with
  |ret u=>exact I.after hq
  |next=>exact au hq
  |brk=>exact au hq
  |cont=>exact au hq
theorem Up(F:fH X.prog X.w X.K X.mg X.base CX k f fd ps sp)(hr:gO k X.A)(hg:Gl X x)(hm:X.mg x=some (.ref f))(hk:PySem.W.keepIn X.K (.ref f)=true)(hb:Binds X.K fd ps ds)(hd:bw dvs ds)(hx:xg CX X E)
  (ha:PA X (e::es) t) (hdb:(x==("__debug__":Str))=false:=by decide) (he:cE (e::es) X.env=(false,eval e X.env)::cE es X.env:=by rfl) (hpl:(kc pos (cE es X.env)).any (·.1)=false:=by rfl) :
  PE X (.Call (.Name x p) (e::es) [] pos) (S5 sp dvs E t):=by
 intro pins s O H Q I h;refine dY (uG I hg hm ?_ hdb);refine PySem.W.callWith_K (h₀:=X.base) I.ok.mod.kin hk (aU (ha pos pins s O H _ I h) fun us s1 ⟨vs,H1,I1,r,q⟩=>⟨I1.fQ,?_⟩) he hpl;exact Ms F hr hb hd hx I1 r q
theorem PJ(F:fH X.prog X.w X.K X.mg X.base CX k f fd ps sp)(hr:gO k X.A)(hg:Gl X x)(hm:X.mg x=some (.ref f))(hk:PySem.W.keepIn X.K (.ref f)=true)(hb:Binds X.K fd ps ds)(hd:bw dvs ds)(hx:xg CX X E)
  (hdb:(x==("__debug__":Str))=false:=by decide):PE X (.Call (.Name x p) [] [] pos) (S5 sp dvs E Wp):=by
 intro pins s O H Q I h;refine dY (uG I hg hm ?_ hdb);exact PySem.W.callWith_K0 I.fQ hk (Ms (us:=[]) F hr hb hd hx I .nil h)
end
structure lC (N P:List Str) (sc:fO):Prop where
 kind:sc.kind=.function
 co:sc.isCoroutine=false
 gen:sc.isGenerator=false
 nd:N.Nodup
 pre:N.take P.length=P
 par:∀x∈P,sc.names.lookup x=some .local\/sc.names.lookup x=some .cell
 nofree:∀y∈sc.names,y.2≠.free
variable{kindOf:Str->Option iQ}{x:Str}
theorem DL:∀{binds:List (Str×Value)}{m:Str->Option Value},(∀v,(x,v)∉binds)->tX kindOf binds m x=m x
|[],_,_=>rfl
|(n,v)::r,m,h=>by
 unfold tX;rw[DL fun w hw=>h w (aj _ hw)];split
 ·have:x≠n:=by rintro rfl;exact h v ay
  simp[this]
 ·rfl
theorem DM:∀{binds:List (Str×Value)}{m:Str->Option Value},(∀v,(x,v)∉binds)->tY kindOf binds m x=m x
|[],_,_=>rfl
|(n,v)::r,m,h=>by
 unfold tY;rw[DM fun w hw=>h w (aj _ hw)];split
 ·rfl
 ·have:x≠n:=by rintro rfl;exact h v ay
  simp[this]
variable{v:Value}
theorem DN:∀{P:List Str}{vs:List Value}{i:Nat}{m:Str->Option Value},P.Nodup->P[i]?=some x->vs[i]?=some v->kindOf x=some .local->
 tX kindOf (P.zip vs) m x=some v
|[],_,_,_,_,h,_,_=>by simp at h
|_::_,[],_,_,_,_,h,_=>by simp at h
|p::P,w::vs,0,m,nd,h1,h2,hk=>by
 simp at h1 h2;subst h1;subst h2;show tX kindOf ((p,w)::P.zip vs) m p=_;unfold tX;rw[DL fun v hv=>(b8.mp nd).1 (tZ hv).1,if_pos hk];simp
|p::P,w::vs,i+1,m,nd,h1,h2,hk=>by
 show tX kindOf ((p,w)::P.zip vs) m x=_;unfold tX;exact DN (i:=i) (b8.mp nd).2 (by simpa using h1) (by simpa using h2) hk
theorem DO:∀{P:List Str}{vs:List Value}{i:Nat}{m:Str->Option Value},P.Nodup->P[i]?=some x->vs[i]?=some v->kindOf x≠some .local->
 tY kindOf (P.zip vs) m x=some v
|[],_,_,_,_,h,_,_=>by simp at h
|_::_,[],_,_,_,_,h,_=>by simp at h
|p::P,w::vs,0,m,nd,h1,h2,hk=>by
 simp at h1 h2;subst h1;subst h2;show tY kindOf ((p,w)::P.zip vs) m p=_;unfold tY;rw[DM fun v hv=>(b8.mp nd).1 (tZ hv).1,if_neg hk];simp
|p::P,w::vs,i+1,m,nd,h1,h2,hk=>by
 show tY kindOf ((p,w)::P.zip vs) m x=_;unfold tY;exact DO (i:=i) (b8.mp nd).2 (by simpa using h1) (by simpa using h2) hk
noncomputable def start(N:List Str)(vs:List V):St:=vs.map some++aT (N.length-vs.length) none
noncomputable def kr(CX:zG)(P:bq)(w:bH)(K:PySem.W.Frag)(mg:Str->Option Value)(base:Heap)(N:List Str)(qual:Str)(scope:fO)(f:Addr)(cd:Value)(A:cC)(outer:List Env)(s:ai)(H:Hp)(E:XK):Cx where
 prog:=P
 w:=w
 K:=K
 mg:=mg
 base:=base
 A:=A.deeper (jh qual scope s.heap.objs.size f cd)
 N:=N
 aa9:=s
 abj:=H
 env:=jh qual scope s.heap.objs.size f cd
 outer:=outer
 stack:=jh qual scope s.heap.objs.size f cd::outer
 ex:=[]
 calm:=true
 fn:=fun _=>true
 pn:=[]
 xe:=fun e s'=>aC (aF P w) (A.deeper (jh qual scope s.heap.objs.size f cd)) (J8 (jh qual scope s.heap.objs.size f cd) e) (fun _ s''=>CX outer H s E e s'') (fun e' s''=>CX outer H s E e' s'') s'
theorem FQ{sc:fO}{n:Nat}(h:sc.names.lookup x=some .cell):∃c,(dQ n sc.names []).lookup x=some c:=by
 have q:=PySem.W.cellsFrom_some sc.names n [] (.inl h);exact Option.isSome_iff_exists.mp q
variable{qual:Str}{scope:fO}
theorem Mu{N:List Str}{cd:Value}{s1:ai}{E:XK}
  (S:lC N ps scope) (hd:A.handled=none) (e0:An P w K mg base A outer s H) (hl:vs.length=ps.length) (r:bw vs us)
  (x:InCallC s s.heap.objs.size (tX (jh qual scope s.heap.objs.size f cd).kindOf (ps.zip us) fun _=>none) (dQ (s.heap.objs.size+1) scope.names []) (tY (jh qual scope s.heap.objs.size f cd).kindOf (ps.zip us) fun _=>none) s1) :
  Inv (kr CX P w K mg base N qual scope f cd A outer s H E) [] (start N vs) H s1:=by
 have hpl:ps.length<=N.length:=by have:=congrArg List.length S.pre;rw[j6]at this;omega
 obtain⟨h1,tk,rfl,hk⟩:=x.done;have noA:∀b:Addr,b∉(kr CX P w K mg base N qual scope f cd A outer s H E).ex:=fun b z=>absurd (show b∈([]:List Addr)from z) (by simp);refine⟨⟨e0.mod,S.kind,rfl,rfl,aN _,fun y z c h1 h2=>?_,fun y hy=>?_,fun y c _ h=>?_,fun _=>hd,Around.frames_deeper e0.frames,.inr ⟨rfl,rfl⟩,fun b z=>absurd z (noA b),e0.bs,e0.bsz,fun b _ _=>noA b,fun b z=>absurd z (noA b),e0.oW,e0.frf⟩,
  rfl,e0.bare,Un.kept hk,⟨_,x.toInCall.ns,fun i y v h1 h2 h3=>?_⟩,fun y c h=>⟨_,x.cell y c h⟩,e0.hok.fresh (aN _),fun y c h=>?_,fun p hp=>absurd (show p∈([]:List (Addr×Obj))from hp) (by simp),e0.hok.kept hk,?_⟩
 ·exact name_of_addr x.apart (PySem.mem_of_lookup h1) (PySem.mem_of_lookup h2)
 ·have hy:scope.names.lookup y=some .cell\/scope.names.lookup y=some .free:=hy;rcases hy with hy|hy
  ·exact FQ hy
  ·exact absurd rfl (S.nofree _ (PySem.mem_of_lookup hy))
 ·exact iN (x.above y c (PySem.mem_of_lookup h))
 ·have hi:i<vs.length:=by
   unfold start at h2;by_cases hi:i<vs.length
   ·exact hi
   ·rw[cP (by simpa using hi)]at h2;rw[tB]at h2;split at h2<;>cases h2
  have ha:vs[i]?=some v:=by
   unfold start at h2;rw[e_ (by simpa using hi),bP]at h2;cases e:vs[i]? with
   |none=>rw[e]at h2;cases h2
   |some a=>rw[e]at h2;cases h2;rfl
  obtain⟨u,hu,rv⟩:=r.get ha;have hp:ps[i]?=some y:=by
   rw[<-S.pre,List.getElem?_take_of_lt (by omega)];exact h1
  have ndP:ps.Nodup:=by rw[<-S.pre];exact S.nd.sublist (List.take_sublist _ _)
  refine⟨u,rv,?_⟩;rcases S.par y (gp hp)with k|k
  ·exact .inl ⟨k,DN ndP hp hu k⟩
  ·obtain⟨c,e⟩:=FQ (n:=s.heap.objs.size+1) k;refine .inr ⟨.inl k,c,e,?_⟩;have q:=x.cell y c e;rw[DO ndP hp hu (by show scope.names.lookup y≠_;rw[k];decide)]at q;exact q
 ·exact e0.hok.fresh (iN (x.above y c (PySem.mem_of_lookup h)))
 ·unfold start;show _=N.length;rw[ak,az,u_];omega
theorem S6{name:Str}{params:Arguments}{body:List Stmt}{dV kV doc pm cdv ct oc:Value}{an od:Option Addr}
  {osl:Array (Option Value)}{N ps:List Str}{sp:Sp} (lk:K.lookup f=some ⟨oc,od,.func (PySem.W.fnOf name qual params body scope dV kV doc pm an cdv ct),osl⟩) (hcd:PySem.W.codeIn K cdv qual=true) (S:lC N ps scope)
  (len:∀vs H Q E,sp vs H Q E->vs.length=ps.length)
  (hbody:∀(A:cC) (outer:List Env) (s:ai) (H:Hp) (vs:List V) (Q:VK) (E:XK),gO k (A.deeper (jh qual scope s.heap.objs.size f cdv))->sp vs H Q E->
   ∃t,oU (kr CX P w K mg base N qual scope f cdv A outer s H E) body t/\t { nx:=fun _ H'=>Q .non H',rt:=Q } (start N vs) H) :
  fH P w K mg base CX (k+1) f (PySem.W.fnOf name qual params body scope dV kV doc pm an cdv ct) ps sp:=by
 refine⟨len,fun A outer s H args us vs Q E hr e0 hb r hsp=>?_⟩;have hl:=len _ _ _ _ hsp;have KX:K.In s.heap:=e0.mod.kin.keeps fun b o e=>(e0.bs b o e).1;have lim:s.heap.NoLimit:=e0.mod.nolimit.keeps fun b o e=>(e0.bs b o e).1;have hkind:∀y∈ps.zip us,scope.names.lookup y.1=some .local\/(scope.names.lookup y.1=some .cell/\((dQ (s.heap.objs.size+1) scope.names []).lookup y.1).isSome=true):=fun⟨n,v⟩ hy=>by
  rcases S.par n (tZ hy).1 with q|q
  ·exact .inl q
  ·exact .inr ⟨q,PySem.W.cellsFrom_some _ _ _ (.inl q)⟩
 refine codeAny_call_function hr.depth (KX _ _ lk) rfl S.co S.gen rfl (PySem.W.codeRec_of KX hcd) (hb _ _ _ _ ?_);refine wpAny_newFunctionEnv_cells S.kind hkind fun env he s1 x=>?_;subst he;refine⟨lim.keeps x.toInCall.keep,codeAny_func ?_⟩;obtain⟨t,ht,hq⟩:=hbody A outer s H vs Q E (hr.deeper _) hsp;have I:Inv (kr CX P w K mg base N qual scope f cdv A outer s H E) [] (start N vs) H s1:=Mu S hr.hd e0 hl r x;refine d8 (ht [] s1 (start N vs) H _ I hq) (fun fl s' hs=>?_) fun e s' hs=>hs;have fin:∀{σ':St}{H':Hp}{v:V}{u:Value},Inv (kr CX P w K mg base N qual scope f cdv A outer s H E) [] σ' H' s'->RelV v u->Q v H'->CE outer P w H s Q u s':=
  fun{σ' H' v u} J rv q=>⟨v,H',J.os,J.bare,J.base,J.hok,rv,q⟩
 cases fl with
 |ret u=>
  obtain⟨v,σ',H',J,rv,q⟩:=hs;exact fin J rv q
 |next=>
  obtain⟨σ',H',J,q⟩:=hs;exact fin (v:=V.non) (u:=cY) J rfl q
 |brk=>
  obtain⟨_,_,_,q⟩:=hs;exact au q
 |cont=>
  obtain⟨_,_,_,q⟩:=hs;exact au q
end L2
end
section
namespace HT
open PySem PyProof.Rows
section
variable{prog:bq}{w:bH}{A:cC}{E:Value->ai->Prop}{s:ai}
theorem Uq{t b:Addr}{vs ws:List Value}{Q:Value->ai->Prop}(ht:IsTup s.heap t vs.toArray)(hb:IsTup s.heap b ws.toArray)(hv:vs≠[])
  (h1:ws=[]->Q (.ref t) s) (h2:ws≠[]->Q (.ref s.heap.objs.size) { s with heap:=s.heap.push { cls:=.type "tuple",data:=.seq (vs++ws).toArray } })
  (hsz:vs.length+ws.length<=aa):aC (aF prog w) A (gn .Add (.ref t) (.ref b)) Q E s:=by
 obtain⟨⟨cls,dd,data,sl⟩,ho,hc,n,hd⟩:=id ht;obtain⟨⟨cls2,dd2,data2,sl2⟩,ho2,hc2,n2,hd2⟩:=id hb;simp only at hc hd hc2 hd2;subst hc hd hc2 hd2;have e:vs.toArray++ws.toArray=(vs++ws).toArray:=by simp
 by_cases hw:ws=[]
 ·exact HW ⟨_,ho,rfl⟩ ⟨_,ho2,rfl⟩ A4 E8 PySem.F.slot_tuple_add PySem.F.entry_tuple_add (PySem.F.args_tuple_add_2 _ _)
   (tuple_addW1 t b vs.toArray ws.toArray n n2 dd dd2 sl sl2 (by simpa using hv) (by simp[hw])) ⟨ho,ho2,h1 hw⟩
 ·refine HW ⟨_,ho,rfl⟩ ⟨_,ho2,rfl⟩ A4 E8 PySem.F.slot_tuple_add PySem.F.entry_tuple_add (PySem.F.args_tuple_add_2 _ _)
   (tuple_addW2 t b vs.toArray ws.toArray n n2 dd dd2 sl sl2 (by simpa using hv) (by simpa using hw) (by rw[aQ,aQ];exact hsz)) ⟨ho,ho2,?_⟩
  rw[e];exact h2 hw
noncomputable def jP(n d:Nat):Option Int->Nat
|none=>d
|some v=>if v<0 then(v+(n:Int)).toNat else min v.toNat n
theorem Ao(n d:Nat):jP n d none=d:=rfl
theorem uH(n d k:Nat):jP n d (some (k:Int))=min k n:=by
 show(if(k:Int)<0 then((k:Int)+(n:Int)).toNat else min (k:Int).toNat n)=min k n;rw[if_neg (by omega),qW]
theorem Ws(n d:Nat)(hd:d<=n)(o:Option Int):jP n d o<=n:=by
 cases o with
 |none=>exact hd
 |some v=>
  show(if v<0 then(v+(n:Int)).toNat else min v.toNat n)<=n;by_cases hv:v<0
  ·rw[if_pos hv];omega
  ·rw[if_neg hv];exact Nat.min_le_right _ _
end
end HT
namespace L2
open PySem PySem.Spec PyProof.Rows
noncomputable abbrev TO:=St->Hp->(Option Int->Hp->Prop)->Prop
def PO(X:Cx)(e:Option Expr)(t:TO):Prop:=
 ∀(pins:List (Addr×Obj)) (s:ai) (O:St) (H:Hp) (Q:Option Int->Hp->Prop),Inv X pins O H s->t O H Q->
  aC (aF X.prog X.w) X.A (evalPart e X.env) (fun u s'=>∃o H',Inv X pins O H' s'/\O4 u o/\Q o H') X.xe s
noncomputable def Ur:TO:=fun _ H Q=>Q none H
section
variable{X:Cx}{e:Expr}{te:TE}{lo hi:Option Expr}{tl th:TO}{pos p2:Pos}
theorem Us:PO X none Ur:=by
 intro pins s O H Q I h;rw[E9];exact aR ⟨none,H,I,.none,h⟩
def Wt(X:Cx)(r:V->Option Int->Option Int->Hp->VK->Prop):Prop:=
 ∀(pins:List (Addr×Obj)) (s:ai) (O:St) (H:Hp) (x:V) (v vl vu:Value) (lo hi:Option Int) (sl:Addr) (Q:VK),Inv X pins O H s->RelV x v->s.heap.IsSliceOf sl vl vu .none->O4 vl lo->O4 vu hi->r x lo hi H Q->
  ∃T id,LP (.type T) "__getitem__"=pure (some (.builtin id))/\s.TypeIs v T/\aC (aF X.prog X.w) X.A (zq v (.ref sl)) (EP X pins O Q) X.xe s
def tSl(r:V->Option Int->Option Int->Hp->VK->Prop)(te:TE)(tl th:TO):TE:=fun O H Q=>te O H fun x H1=>tl O H1 fun l H2=>th O H2 fun u H3=>r x l u H3 Q
theorem PK{r:V->Option Int->Option Int->Hp->VK->Prop}(hr:Wt X r)(he:PE X e te)(hl:PO X lo tl)(hu:PO X hi th):PE X (.Subscript e (.Slice lo hi none p2) pos) (tSl r te tl th):=by
 intro pins s O H Q I h;refine Ci (aU (he pins s O H _ I h) fun v s1 ⟨x,H1,I1,r1,q1⟩=>?_);refine IZ (aU (hl pins s1 O H1 _ I1 q1) fun vl s2 ⟨l,H2,I2,pl,q2⟩=>aU (hu pins s2 O H2 _ I2 q2) fun vu s3 ⟨u,H3,I3,pu,q3⟩=>?_);rw[E9];refine aR ?_;have I4:Inv X pins O H3 { s3 with heap:=s3.heap.push { cls:=.type "slice",data:=.fields #[vl,vu,.none] } }:=I3.kept (t':=s3.toks) fun b ob q=>aq _ q;obtain⟨T,id,hT,ht,hg⟩:=hr pins { s3 with heap:=s3.heap.push { cls:=.type "slice",data:=.fields #[vl,vu,.none] } } O H3 x v vl vu l u s3.heap.objs.size Q I4 r1 (yG ..) pl pu q3;show aC (aF X.prog X.w) X.A (mX e (.Slice lo hi none p2) v (.ref s3.heap.objs.size)) (EP X pins O Q) X.xe { s3 with heap:=s3.heap.push { cls:=.type "slice",data:=.fields #[vl,vu,.none] } };exact HY (ops:=[.ref s3.heap.objs.size,v]) ht hT hg (by with_unfolding_all rfl)
noncomputable def Kp(xs:List V)(lo hi:Option Int):List V:=(xs.drop (HT.jP xs.length 0 lo)).take (HT.jP xs.length xs.length hi-HT.jP xs.length 0 lo)
theorem Iq(xs:List V)(lo hi:Option Int):(Kp xs lo hi).length<=xs.length:=by
 unfold Kp;rw[j6,d_];omega
noncomputable def Yx(K:PySem.W.Frag):R2:=fun x y H Q=>∃a b xs ys,x=.ref a/\y=.ref b/\kD K H a xs/\kD K H b ys/\xs≠[]/\xs.length+ys.length<=aa /\
 (ys=[]->Q (.ref a) H)/\(ys≠[]->∀p,H p=none->Q (.ref p) (upd H p (.tup (xs++ys))))
theorem bw.CJ{xs:List V}{us:List Value}(r:bw xs us):us=[]↔xs=[]:=by
 cases r with
 |nil=>simp
 |cons _ _=>simp
theorem Ut:iZ X (gn .Add) (Yx X.K):=by
 intro pins s O H x y v u Q I rx ry h;obtain⟨a,b,xs,ys,rfl,rfl,ha,hb,hx,hz,q1,q2⟩:=h;cases rx;cases ry;obtain⟨its,r1,p1,_⟩:=I.tuple ha;obtain⟨its2,r2,p2,_⟩:=I.tuple hb;refine HT.Uq p1 p2 (fun z=>hx (r1.CJ.mp z)) (fun z=>⟨.ref a,H,I,rfl,q1 (r2.CJ.mp z)⟩) (fun z=>?_) (by rw[<-r1.length,<-r2.length];exact hz);refine⟨.ref s.heap.objs.size,_,I.laid (t':=s.toks) (o:=.tup (xs++ys)) (fun b ob q=>aq _ q) (aN _) ?_,rfl,q2 (fun w=>z (r2.CJ.mpr w)) _ (I.hok.fresh (aN _))⟩;exact⟨by rw[ak];exact hz,_,r1.append r2,IsTup.new _ _⟩
end
end L2
namespace L2
open PySem PySem.Spec PyProof.Rows
noncomputable def gY(n:Nat)(i:Int):Option Nat:=if 0<=i then(if i<n then some i.toNat else none)else if -(n:Int)<=i then some (i+n).toNat else none
noncomputable def fC{α:Type}(xs:List α)(i:Int):Option α:=(gY xs.length i).bind fun j=>xs[j]?
variable{n j:Nat}{i:Int}
theorem Jl(h:gY n i=some j):seqIndex? i n=some j/\j<n/\-(n:Int)<=i/\i<n:=by
 unfold gY at h;by_cases h0:0<=i
 ·rw[if_pos h0]at h;by_cases h1:i<n
  ·rw[if_pos h1]at h;have e:i.toNat=j:=cM h;exact⟨by rw[Aj h0 h1,e],by omega,by omega,h1⟩
  ·rw[if_neg h1]at h;cases h
 ·rw[if_neg h0]at h;by_cases h1:-(n:Int)<=i
  ·rw[if_pos h1]at h;have e:(i+n).toNat=j:=cM h;exact⟨by rw[yH (by omega) h1,e],by omega,h1,by omega⟩
  ·rw[if_neg h1]at h;cases h
variable{α:Type}
theorem rS{xs:List α}{v:α}(h:fC xs i=some v):∃j,seqIndex? i xs.length=some j/\xs[j]?=some v/\j<xs.length/\-(xs.length:Int)<=i/\i<xs.length:=by
 unfold fC at h;cases e:gY xs.length i with
 |none=>rw[e]at h;cases h
 |some j=>
  rw[e]at h;obtain⟨h1,h2,h3,h4⟩:=Jl e;exact⟨j,h1,h,h2,h3,h4⟩
theorem ki{xs:List α}{v:α}(h:xs[j]?=some v):fC xs (j:Int)=some v:=by
 have hj:j<xs.length:=(bU.mp h).1;have e:gY xs.length (j:Int)=some j:=by
  unfold gY;rw[if_pos (by omega),if_pos (by omega)];simp
 unfold fC;rw[e];exact h
def Jm(b:Expr):Prop:=∀o i,uA b false o i=operate [o,i] (zq o i)
def FT(X:Cx)(r:R2):Prop:=
 ∀(value slice:Expr) (pins:List (Addr×Obj)) (s:ai) (O:St) (H:Hp) (x y:V) (v u:Value) (Q:VK),Inv X pins O H s->RelV x v->RelV y u->r x y H Q->
  uA slice false v u=operate [v,u] (zq v u)->aC (aF X.prog X.w) X.A (mX value slice v u) (EP X pins O Q) X.xe s
def MtR(X:Cx)(id:String)(r:V->List V->Hp->VK->Prop):Prop:=
 ∀(pins:List (Addr×Obj)) (s:ai) (O:St) (H:Hp) (x:V) (xs:List V) (v:Value) (us:List Value) (Q:VK),Inv X pins O H s->RelV x v->bw xs us->r x xs H Q->
  aC (aF X.prog X.w) X.A (call (.builtin id) (v::us)) (EP X pins O Q) X.xe s
variable{pins:List (Addr×Obj)}{O:St}{H:Hp}{s:ai}
section
variable{X:Cx}{a b:Expr}{ta tb:TE}{pos:Pos}
theorem Yy{r:R2}(hr:FT X r)(ha:PE X a ta)(hb:PE X b tb)(hs:Jm b):PE X (.Subscript a b pos) (We r ta tb):=by
 intro pins s O H Q I h;exact Ci (PC ha hb I h fun v u s2 x y H2 I2 rx ry q=>hr a b pins s2 O H2 x y v u Q I2 rx ry q (hs _ _))
noncomputable def Z9(K:PySem.W.Frag):R2:=fun x y H Q=>∃p xs i v,x=.ref p/\y=.int i/\gy K H p xs/\fC xs i=some v/\Q v H
noncomputable def Z_(K:PySem.W.Frag):R2:=fun x y H Q=>∃p xs i v,x=.ref p/\y=.int i/\kD K H p xs/\fC xs i=some v/\Q v H
noncomputable def rIxS:R2:=fun x y H Q=>∃z i c,x=.str z/\y=.int i/\z.length<=aa/\fC z.cps.toList i=some c/\Q (.str ⟨#[c]⟩) H
theorem Uu:FT X (Z9 X.K):=by
 intro value slice pins s O H x y v u Q I rx ry h hs;obtain⟨p,xs,i,z,rfl,rfl,hq,he,q⟩:=h;cases rx;obtain⟨t,rfl⟩:=ry;obtain⟨its,r,pl,hz⟩:=I.list hq;obtain⟨j,h1,h2,h3,h4,h5⟩:=rS he;obtain⟨w,ew,rw'⟩:=r.get h2;have hl:=r.length;have hn:=sy;have fin:EP X pins O Q w s:=⟨z,H,I,rw',q⟩;by_cases h0:0<=i
 ·have hj:i.toNat=j:=by
   rw[Aj h0 h5]at h1;exact cM h1
  exact item_listR pl.isList h0 (by omega) (by rw[hj];simpa using ew) fin hs
 ·have hj:(i+(its.toArray.size:Int)).toNat=j:=by
   rw[yH (by omega) h4]at h1;rw[aQ,<-hl];exact cM h1
  exact uB (x:=w) pl.isList.typeIs qX.lookup
   (wpAny_getItem_list_neg (Q:=fun r s'=>r=w/\EP X pins O Q r s') pl.isList (by omega) (by rw[aQ]<;>omega) (by omega) (by rw[hj];simpa using ew) ⟨rfl,fin⟩) hs
theorem Wu:FT X (Z_ X.K):=by
 intro value slice pins s O H x y v u Q I rx ry h hs;obtain⟨p,xs,i,z,rfl,rfl,hq,he,q⟩:=h;cases rx;obtain⟨t,rfl⟩:=ry;obtain⟨its,r,pl,hz⟩:=I.tuple hq;obtain⟨j,h1,h2,h3,h4,h5⟩:=rS he;obtain⟨w,ew,rw'⟩:=r.get h2;have hl:=r.length;have hn:=sy;have fin:EP X pins O Q w s:=⟨z,H,I,rw',q⟩;exact uB (x:=w) pl.typeIs yI.lookup
  (getItem_tuple (j:=j) (Q:=fun r s'=>r=w/\EP X pins O Q r s') pl (by omega) (by omega) (by rw[aQ,<-hl];exact h1) (by simpa using ew) ⟨rfl,fin⟩) hs
theorem Wv:FT X rIxS:=by
 intro value slice pins s O H x y v u Q I rx ry h hs;obtain⟨z,i,c,rfl,rfl,hz,he,q⟩:=h;obtain⟨t,rfl⟩:=rx;obtain⟨t',rfl⟩:=ry;obtain⟨j,h1,h2,h3,h4,h5⟩:=rS he;have hl:z.cps.toList.length=z.length:=by simp[fY]
 rw[hl]at h1 h4 h5;have hn:=sy;exact HY (gM s z t) A5.lookup (getItem_str (c:=c) (by
  have e1:decide (i < -(2 ^ 63:Int))=false:=decide_eq_false (by omega);have e2:decide (i≥2 ^ 63)=false:=decide_eq_false (by omega);rw[e1,e2,Bool.or_false]) (by rw[h1];simpa using h2) ⟨.str ⟨#[c]⟩,H,I.tok _,⟨_,rfl⟩,q⟩) hs
theorem Kq(its:List Value)(n j:Nat)(u:Value):j7 (·.setIfInBounds j u) { cls:=.type "list",data:=.seq its.toArray n }={ cls:=.type "list",data:=.seq (its.set j u).toArray n }:=by
 simp[j7]
theorem Inv.lst{pins:List (Addr×Obj)}{O:St}{H:Hp}{s:ai}{p:Addr}{xs:List V}(I:Inv X pins O H s)(h:H p=some (.lst xs)) :
  ∃(its:List Value) (n:Nat),bw xs its/\s.heap.get? p=some { cls:=.type "list",data:=.seq its.toArray n }/\xs.length<=aa:=by
 obtain⟨z,its,n,r,e⟩:=I.hok p _ h;exact⟨its,n,r,e,z⟩
theorem Inv.Ww{p:Addr}{xs ys:List V}{its its':List Value}{n':Nat}{f:Obj->Obj}(I:Inv X pins O H s)(h:H p=some (.lst xs))
  (ho:s.heap.get? p=some { cls:=.type "list",data:=.seq its.toArray n }) (hf:f { cls:=.type "list",data:=.seq its.toArray n }={ cls:=.type "list",data:=.seq its'.toArray n' }) (r:bw ys its') (hz:ys.length<=aa) (t:Nat) :
  Inv X pins O (upd H p (.lst ys)) { s with heap:=s.heap.update p f,toks:=t }:=by
 have e:(s.heap.update p f).get? p=some { cls:=.type "list",data:=.seq its'.toArray n' }:=by
  rw[jO f ho (by rw[hf]<;>rfl),hf]
 refine I.write (x:=p) (e:=p) (by rw[h];trivial) (.inl rfl) (fun b u hb q=>(eL _ _ (cT hb)).trans q) ⟨_,e⟩ ?_;exact⟨hz,its',n',r,e⟩
def Yz:V->V->V->Hp->(Hp->Prop)->Prop:=fun o i v H Q=>∃p xs k j,o=.ref p/\i=.int k/\H p=some (.lst xs)/\gY xs.length k=some j/\Q (upd H p (.lst (xs.set j v)))
theorem set_list:Pw X Yz:=by
 intro pins s O H o i v ov iv u Q I ro ri rv h;obtain⟨p,xs,k,j,rfl,rfl,hp,hj,q⟩:=h;cases ro;obtain⟨t,rfl⟩:=ri;obtain⟨its,n,r,ho,hz⟩:=I.lst hp;obtain⟨h1,h2,h3,h4⟩:=Jl hj;have hl:=r.length;have hn:=sy;have I':Inv X pins O (upd H p (.lst (xs.set j v))) { s with heap:=s.heap.update p (j7 (·.setIfInBounds j u)) }:=
  I.Ww hp ho (Kq its n j u) (r.set rv j) (by rw[Cj];exact hz) s.toks
 by_cases h0:0<=k
 ·have hk:k.toNat=j:=by
   rw[Aj h0 h4]at h1;exact cM h1
  exact PySem.W.ki_setAt ho h0 (by omega) (by rw[aQ,<-hl];exact h4) (by rw[hk];exact⟨_,I',q⟩)
 ·have hk:(k+(its.toArray.size:Int)).toNat=j:=by
   rw[yH (by omega) h3]at h1;rw[aQ,<-hl];exact cM h1
  exact PySem.W.ki_setBack ho (by omega) (by rw[aQ,<-hl];exact h3) (by omega) (by rw[hk];exact⟨_,I',q⟩)
theorem FU(lo hi:Option Int)(n:Nat):(fu lo hi none n).1=((HT.jP n 0 lo:Nat):Int)/\(fu lo hi none n).2.1=((HT.jP n n hi:Nat):Int)/\(fu lo hi none n).2.2=1:=by
 refine⟨?_,?_,rfl⟩
 ·cases lo with
  |none=>simp[fu,HT.jP]
  |some i=>
   simp only[fu,HT.jP,A6,show(1:Int)>0 by decide,if_true];by_cases h:i<0
   ·simp only[h,if_true]<;>omega
   ·simp only[h,if_false]<;>omega
 ·cases hi with
  |none=>simp[fu,HT.jP]
  |some i=>
   simp only[fu,HT.jP,A6,show(1:Int)>0 by decide,if_true];by_cases h:i<0
   ·simp only[h,if_true]<;>omega
   ·simp only[h,if_false]<;>omega
theorem EU(its:List Value)(lo hi:Option Int):yJ its.toArray lo hi none=((its.drop (HT.jP its.length 0 lo)).take (HT.jP its.length its.length hi-HT.jP its.length 0 lo)).toArray:=by
 obtain⟨h1,h2,h3⟩:=FU lo hi its.toArray.size;unfold yJ;rw[h1,h2,h3];simp only[sliceRange_one,pick_run,aQ]<;>rfl
def rSlL(K:PySem.W.Frag):V->Option Int->Option Int->Hp->VK->Prop:=fun x lo hi H Q=>∃a xs,x=.ref a/\gy K H a xs/\∀p,H p=none->Q (.ref p) (upd H p (.lst (Kp xs lo hi)))
theorem Uv:Wt X (rSlL X.K):=by
 intro pins s O H x v vl vu lo hi sl Q I rx hs pl pu h;obtain⟨a,xs,rfl,hx,q⟩:=h;cases rx;obtain⟨its,r,ht,hz⟩:=I.list hx;have hlen:=r.length;refine⟨"list",_,qX.lookup,ht.isList.typeIs,?_⟩;refine sZ ht.isList hs pl pu .none (by simp) ?_ (by rw[aQ]<;>omega);rw[EU,<-hlen];refine⟨.ref s.heap.objs.size,_,I.laid (t':=s.toks) (o:=.lst (Kp xs lo hi)) (fun b ob q=>aq _ q) (aN _) ?_,rfl,q _ (I.hok.fresh (aN _))⟩;exact⟨dz (Iq xs lo hi) hz,_,0,(r.drop (HT.jP xs.length 0 lo)).take (HT.jP xs.length xs.length hi-HT.jP xs.length 0 lo),a7 _ rfl⟩
theorem FW:pQ X (.builtin "len") (fun xs H Q=>∃p ys,xs=[.ref p]/\(gy X.K H p ys\/kD X.K H p ys)/\Q (.int ys.length) H):=by
 intro pins s O H xs us Q I r h;obtain⟨p,ys,rfl,hq,q⟩:=h;obtain⟨u,rfl,rx⟩:=vals1 r;cases rx;have hn:=sy;rcases hq with hq|hq
 ·obtain⟨its,r',pl,hz⟩:=I.list hq;have hlen:=r'.length;exact Calls.call_len_list pl.isList (by simp only[aQ]<;>omega) ⟨.int ys.length,H,I.tok _,⟨s.toks+1,by rw[aQ,hlen]⟩,q⟩
 ·obtain⟨its,r',pl,hz⟩:=I.tuple hq;have hlen:=r'.length;exact len_tuple pl (by simp only[aQ]<;>omega) ⟨.int ys.length,H,I.tok _,⟨s.toks+1,by rw[aQ,hlen]⟩,q⟩
theorem FY:pQ X (.builtin "len") (fun xs H Q=>∃z,xs=[.str z]/\z.length<=aa/\Q (.int z.length) H):=by
 intro pins s O H xs us Q I r h;obtain⟨z,rfl,hz,q⟩:=h;obtain⟨u,rfl,t,rfl⟩:=vals1 r;have hn:=sy;exact len_str (by omega) ⟨.int z.length,H,I.tok _,⟨_,rfl⟩,q⟩
def Mv(K:PySem.W.Frag)(T:String)(x:V)(H:Hp):Prop:=match x with
|.str _=>T="str"
|.int _=>T="int"
|.ref p=>(T="list"/\∃xs,gy K H p xs)\/(T="tuple"/\∃o,K.lookup p=some o/\o.cls=.type "tuple"/\o.dict=none) \/
  (T="dict"/\((∃kvs,H p=some (.dK kvs))\/∃kvs,H p=some (.dT kvs)))\/(T="set"/\∃S n,H p=some (.set S n))
|_=>False
theorem Bl{x:V}{v:Value}(I:Inv X pins O H s)(r:RelV x v)(ty:Mv X.K T x H) :
  s.TypeIs v T/\∀a,v=.ref a->∃ob,s.heap.get? a=some ob/\ob.dict=none:=by
 cases x with
 |str z=>
  obtain⟨t,rfl⟩:=r;cases(show T="str" from ty);exact⟨gM s z t,fun _ e=>nomatch e⟩
 |int i=>
  obtain⟨t,rfl⟩:=r;cases(show T="int" from ty);exact⟨Ck s i t,fun _ e=>nomatch e⟩
 |ref p=>
  cases r;rcases ty with⟨rfl,xs,hq⟩|⟨rfl,o,hk,hc,hd⟩|⟨rfl,hk⟩|⟨rfl,S,n,hk⟩
  ·obtain⟨its,_,pl,_⟩:=I.list hq;refine⟨pl.isList.typeIs,fun a e=>?_⟩;cases e;obtain⟨o,n,e,c,hd,_⟩:=pl;exact⟨o,e,hd⟩
  ·refine⟨⟨o,I.fQ p o hk,hc⟩,fun a e=>?_⟩;cases e;exact⟨o,I.fQ _ o hk,hd⟩
  ·have z:∃o,s.heap.get? p=some o/\o.ExactDict:=by
    rcases hk with⟨kvs,hk⟩|⟨kvs,hk⟩
    ·obtain⟨_,_,_,_,o,_,_,e,ex,_⟩:=I.hok p _ hk;exact⟨o,e,ex⟩
    ·obtain⟨_,_,_,_,o,_,_,e,ex,_⟩:=I.hok p _ hk;exact⟨o,e,ex⟩
   obtain⟨o,e,ex⟩:=z;refine⟨⟨o,e,ex.1⟩,fun a e2=>?_⟩;cases e2;exact⟨o,e,ex.2.1⟩
  ·obtain⟨o,_,_,_,e,ex,_⟩:=I.hok p _ hk;refine⟨⟨o,e,ex.1⟩,fun a e2=>?_⟩;cases e2;exact⟨o,e,ex.2.1⟩
 |_=>exact au ty
variable{o e:Expr}{es:List Expr}{to:TE}{t:TA}{name:Str}{apos cpos:Pos}{T id:String}{r:V->List V->Hp->VK->Prop}
end
end L2
namespace L2
open PySem PySem.Spec PyProof.Rows
def ZC(X:Cx)(id:String)(r:V->List V->Hp->VK->Prop):Prop:=
 ∀(pins:List (Addr×Obj)) (s:ai) (O:St) (H:Hp) (x:V) (xs:List V) (v:Value) (us:List Value) (Q:VK),Inv X pins O H s->RelV x v->bw xs us->r x xs H Q->
  aC (aF X.prog X.w) X.A (call (.builtin id) (v::us)) (EP X pins O Q) X.xe s
theorem bw.one:∀{x:V}{us:List Value},bw [x] us->∃u,us=[u]/\RelV x u
|_,_,.cons r .nil=>⟨_,rfl,r⟩
theorem bw.rep{xs:List V}{us:List Value}(h:bw xs us):∀k:Nat,bw (aT k xs).flatten (aT k us).flatten
|0=>.nil
|k+1=>by
 rw[bX,bX,cQ,cQ];exact bw.append h (bw.rep h k)
theorem foldl_rep(its:List Value):∀(k:Nat) (acc:List Value),
 Cm (fun x1 x2=>x1++x2) acc.toArray (aT k its.toArray)=(acc++(aT k its).flatten).toArray
|0,acc=>by simp
|k+1,acc=>by
 have e:acc.toArray++its.toArray=(acc++its).toArray:=by simp
 have e2:(acc++its)++(aT k its).flatten=acc++(aT (k+1) its).flatten:=by
  rw[bX,cQ,aW]
 rw[<-e2,<-foldl_rep its k (acc++its),<-e,bX,Cn]
variable{its:List Value}{n t':Nat}
section
variable{X:Cx}{pins:List (Addr×Obj)}{O:St}{H:Hp}{s:ai}{l b:Addr}{xs ys zs:List V}
theorem Inv.Wx{its':List Value}{f:Array Value->Array Value}(I:Inv X pins O H s)(hH:H l=some (.lst xs))
  (e:s.heap.get? l=some { cls:=.type "list",data:=.seq its.toArray n }) (hf:f its.toArray=its'.toArray) (hv:bw ys its') (hz:ys.length<=aa) :
  Inv X pins O (upd H l (.lst ys)) { s with heap:=s.heap.update l (j7 f),toks:=t' }:=by
 have q:=PySem.IsL.update e f;rw[hf]at q;refine I.write (x:=l) (e:=l) (by rw[hH];exact trivial) (.inl rfl) (fun b' u hb hu=>(eL s.heap (j7 f) (cT hb)).trans hu) ⟨_,q⟩ ?_;exact⟨hz,its',_,hv,q⟩
theorem Inv.Kr(I:Inv X pins O H s)(hv:bw ys its)(hz:ys.length<=aa) :
  Inv X pins O (upd H s.heap.objs.size (.lst ys)) { s with heap:=s.heap.push { cls:=.type "list",data:=.seq its.toArray },toks:=t' }:=
 I.laid (fun _ _ q=>aq _ q) (aN _) ⟨hz,its,0,hv,a7 _ rfl⟩
theorem Inv.fresh(I:Inv X pins O H s):H s.heap.objs.size=none:=I.hok.fresh (aN _)
theorem Inv.PL(I:Inv X pins O H s)(hH:H l=some (.lst xs)):xs.length<=aa/\∃(its:List Value) (n:Nat),bw xs its/\xs.length=its.length/\s.heap.get? l=some { cls:=.type "list",data:=.seq its.toArray n }:=by
 obtain⟨z,its,n,r,e⟩:=I.hok l _ hH;exact⟨z,its,n,r,r.length,e⟩
theorem FZ(h:n<=aa):iR n=false:=by
 unfold iR;exact decide_eq_false (by omega)
end
section
variable{X:Cx}
def Uw:V->List V->Hp->VK->Prop:=fun x vs H Q=>∃l xs y,x=.ref l/\vs=[y]/\H l=some (.lst xs)/\xs.length<aa/\Q .non (upd H l (.lst (xs++[y])))
theorem Mw:ZC X "list.append" Uw:=by
 intro pins s O H x vs v us Q I rx rv h;obtain⟨l,xs,y,rfl,rfl,hH,hz,q⟩:=h;cases rx;obtain⟨u,rfl,ru⟩:=rv.one;obtain⟨z,its,n,r,hl,e⟩:=I.PL hH;refine gq F.slot_list_append ⟨_,e,rfl⟩ F.entry_list_append (F.args_list_append_2 _ _) (PySem.list_append l its.toArray n u (by rw[aQ];omega)) ⟨e,?_⟩;refine⟨.non,_,I.Wx (its':=its++[u]) hH e (by simp) (r.append (.cons ru .nil)) ?_,rfl,q⟩;rw[ak,bF];omega
def Ux:V->List V->Hp->VK->Prop:=fun x vs H Q=>∃l b xs zs,x=.ref l/\vs=[.ref b]/\H l=some (.lst xs)/\H b=some (.lst zs)/\xs.length+zs.length<=aa/\Q .non (upd H l (.lst (xs++zs)))
theorem Mx:ZC X "list.extend" Ux:=by
 intro pins s O H x vs v us Q I rx rv h;obtain⟨l,b,xs,zs,rfl,rfl,hH,hB,hz,q⟩:=h;cases rx;obtain⟨u,rfl,ru⟩:=rv.one;cases ru;obtain⟨z,its,n,r,hl,e⟩:=I.PL hH;obtain⟨z2,its2,n2,r2,hl2,e2⟩:=I.PL hB;have hsz:its.toArray.size+its2.toArray.size<=aa:=by rw[aQ,aQ];omega
 have hlong:¬(!its.toArray.isEmpty&&iR (its.toArray.size+its2.toArray.size))=true:=by
  rw[FZ hsz,vc];exact aY
 refine gq F.slot_list_extend ⟨_,e,rfl⟩ F.entry_list_extend (F.args_list_extend_2 _ _)
  (A7 l its.toArray n b its2.toArray n2 hlong (by rw[aQ];omega) (by omega)) ⟨e,e2,?_⟩
 refine⟨.non,_,I.Wx (its':=its++its2) hH e (by simp) (r.append r2) ?_,rfl,q⟩;rw[ak];omega
theorem len_rep{α:Type}(xs:List α)(k:Nat):(aT k xs).flatten.length=k*xs.length:=by
 induction k with
 |zero=>simp
 |succ k ih=>rw[bX,cQ,ak,ih,yK,yL]
end
end L2
end
section
namespace L2
open PySem PySem.Spec PyProof.Rows
variable{o:Option V}
variable{y:V}{u:Value}
section
variable{κ:Type} [DecidableEq κ]
noncomputable def jU(kvs:List (κ×V))(k:κ):Option V:=(kvs.find? fun kv=>decide (kv.1=k)).map (·.2)
noncomputable def putK(kvs:List (κ×V))(k:κ)(v:V):List (κ×V):=
 if(kvs.any fun kv=>decide (kv.1=k))=true then kvs.map (fun kv=>if kv.1=k then(kv.1,v)else kv)else kvs++[(k,v)]
theorem Aq{p:κ×V}{r:List (κ×V)}{k:κ}(e:p.1=k):jU (p::r) k=some p.2:=by simp[jU,ji,e]
theorem Ar{p:κ×V}{r:List (κ×V)}{k:κ}(e:¬p.1=k):jU (p::r) k=jU r k:=by simp[jU,ji,e]
theorem F6(k:κ):∀kvs:List (κ×V),(kvs.any fun kv=>decide (kv.1=k))=(jU kvs k).isSome
|[]=>rfl
|p::r=>by
 rw[mY];by_cases e:p.1=k
 ·simp only[Aq e,decide_eq_true e,HZ,yM]
 ·rw[Ar e,decide_eq_false e,Bool.false_or];exact F6 k r
theorem zH(kvs:List (κ×V))(k:κ)(v:V):(putK kvs k v).length<=kvs.length+1:=by
 unfold putK;split
 ·rw[az];omega
 ·rw[ak,aB,cN];omega
theorem lZ.qg{u:Option Value}(r:lZ o u):o.isSome=u.isSome:=by
 cases o with
 |none=>cases u with
  |none=>rfl
  |some _=>exact(show False from r).elim
 |some _=>cases u with
  |none=>exact(show False from r).elim
  |some _=>rfl
theorem KV.val{kvs:List (κ×V)}{vs:List (κ×Value)}(r:KV kvs vs)(k:κ):lZ (jU kvs k) (sf vs k):=by
 unfold KV at r;induction r with
 |nil=>exact d9
 |@cons p q ps qs h t ih=>
  obtain⟨h1,h2⟩:=h;by_cases e:p.1=k
  ·have e':q.1=k:=h1.symm.trans e;have b:sf (q::qs) k=some q.2:=by simp[sf,ji,e']
   rw[Aq e,b];exact h2
  ·have e':¬q.1=k:=fun z=>e (h1.trans z);have b:sf (q::qs) k=sf qs k:=by simp[sf,ji,e']
   rw[Ar e,b];exact ih
theorem KV.any{kvs:List (κ×V)}{vs:List (κ×Value)}(r:KV kvs vs)(k:κ):(kvs.any fun kv=>decide (kv.1=k))=vs.any fun kv=>decide (kv.1=k):=by
 unfold KV at r;induction r with
 |nil=>rfl
 |cons h t ih=>rw[mY,mY,ih,h.1]
theorem KV.repl{kvs:List (κ×V)}{vs:List (κ×Value)}(r:KV kvs vs)(k:κ)(ry:RelV y u) :
  KV (kvs.map fun kv=>if kv.1=k then(kv.1,y)else kv) (vs.map fun kv=>if kv.1=k then(kv.1,u)else kv):=by
 unfold KV at r ⊢;induction r with
 |nil=>exact .nil
 |@cons p q ps qs h t ih=>
  rw[cj,cj];refine .cons ?_ ih;obtain⟨h1,h2⟩:=h;by_cases e:p.1=k
  ·rw[if_pos e,if_pos (h1.symm.trans e)];exact⟨h1,ry⟩
  ·rw[if_neg e,if_neg (fun z=>e (h1.trans z))];exact⟨h1,h2⟩
theorem KV.put{kvs:List (κ×V)}{vs:List (κ×Value)}(r:KV kvs vs)(k:κ)(ry:RelV y u):KV (putK kvs k y) (stored vs k u):=by
 unfold putK stored;rw[r.any k];by_cases e:(vs.any fun kv=>decide (kv.1=k))=true
 ·rw[if_pos e,if_pos e];exact r.repl k ry
 ·rw[if_neg e,if_neg e];exact Paired.snoc r ⟨rfl,ry⟩
theorem KV.length{kvs:List (κ×V)}{vs:List (κ×Value)}(r:KV kvs vs):kvs.length=vs.length:=Paired.length r
end
variable{P:bq}{w:bH}
theorem yV{k:Key}(r:RelV (kV k) u):(gB P w).is k u=true:=by
 cases k with
 |inl i=>obtain⟨t,e⟩:=(show ∃t,u=qA i t from r);subst e;exact zD P w i t
 |inr x=>obtain⟨t,e⟩:=(show ∃t,u=nG x t from r);subst e;exact zE P w x t
theorem DP:∀{ks:List Key}{us:List Value},bw (ks.map kV) us->ItemsAre (gB P w) ks us
|[],_,r=>by rw[H9]at r;cases r;exact .nil
|k::ks,_,r=>by
 rw[cj]at r;cases r with
 |cons h t=>exact .cons (yV h) (DP t)
abbrev KT(H:Hp):List (List Key×V)->List (List Key×Addr×Value)->Prop:=Paired fun p q=>p.1=q.1/\H q.2.1=some (.tup (p.1.map kV))/\RelV p.2 q.2.2
variable{H:Hp}{kvs:List (List Key×V)}{xs:List (List Key×Addr×Value)}
theorem KT.val(r:KT H kvs xs)(k:List Key):lZ (jU kvs k) ((t6 xs k).map (·.2)):=by
 induction r with
 |nil=>exact d9
 |@cons p q ps qs h t ih=>
  obtain⟨h1,_,h2⟩:=h;by_cases e:p.1=k
  ·have e':q.1=k:=h1.symm.trans e;have b:t6 (q::qs) k=some q.2:=by simp[t6,ji,e']
   rw[Aq e,b];exact h2
  ·have e':¬q.1=k:=fun z=>e (h1.trans z);have b:t6 (q::qs) k=t6 qs k:=by simp[t6,ji,e']
   rw[Ar e,b];exact ih
theorem KT.repl(r:KT H kvs xs)(k:List Key)(ry:RelV y u) :
  KT H (kvs.map fun kv=>if kv.1=k then(kv.1,y)else kv) (xs.map (putAt k u)):=by
 induction r with
 |nil=>exact .nil
 |@cons p q ps qs h t ih=>
  rw[cj,cj];refine .cons ?_ ih;obtain⟨h1,h2,h3⟩:=h;unfold putAt;by_cases e:p.1=k
  ·rw[if_pos e,if_pos (h1.symm.trans e)];exact⟨h1,h2,ry⟩
  ·rw[if_neg e,if_neg (fun z=>e (h1.trans z))];exact⟨h1,h2,h3⟩
theorem KT.put(r:KT H kvs xs)(k:List Key){b:Addr}(hb:H b=some (.tup (k.map kV)))(ry:RelV y u) :
  KT H (putK kvs k y) (storedH xs k b u):=by
 have e:(kvs.any fun kv=>decide (kv.1=k))=(t6 xs k).isSome:=by
  rw[F6,(r.val k).qg,qY]
 unfold putK storedH;rw[e];by_cases q:(t6 xs k).isSome=true
 ·rw[if_pos q,if_pos q];exact r.repl k ry
 ·rw[if_neg q,if_neg q];exact Paired.snoc r ⟨rfl,hb,ry⟩
variable{H':Hp}
theorem KT.keeps(r:KT H kvs xs)(ht:∀b ys,H b=some (.tup ys)->H' b=some (.tup ys)):KT H' kvs xs:=
 Paired.Pk r fun _ _ z=>⟨z.1,ht _ _ z.2.1,z.2.2⟩
section
variable{P:bq}{w:bH}{H:Hp}{h:Heap}{a:Addr}
theorem S7{u:HO}(ok:fB P w H h)(e:Rd H a u):dN P w H h a u:=e.ok ok
theorem yW{kvs:List (Key×V)}(ok:fB P w H h)(e:Rd H a (.dK kvs)):kvs.length<=aa/\(a==j4)=false/\∃vs,KV kvs vs/\h.DictOf (gB P w) a vs:=
 show dN P w H h a (.dK kvs)from S7 ok e
theorem YA{kvs:List (Key×V)}(ok:fB P w H h)(e:H a=some (.dK kvs)):kvs.length<=aa/\(a==j4)=false/\∃vs,KV kvs vs/\h.DictOf (gB P w) a vs:=yW ok (.inl e)
theorem xh{ks:List Key}(ok:fB P w H h)(e:H a=some (.tup (ks.map kV))):(tV (gB P w)).is h ks a:=by
 obtain⟨_,its,r,o,h1,h2,n,h3⟩:=(show dN P w H h a (.tup (ks.map kV))from ok a _ e);exact⟨o,its.toArray,n,h1,h2,h3,by simpa using DP r⟩
theorem Bm(ok:fB P w H h)(e:Rd H a (.dT kvs)):kvs.length<=aa/\(a==j4)=false /\
  ∃xs,KT H kvs xs/\h.DictOfH (tV (gB P w)) a xs:=by
 obtain⟨z,y,xs,r,o,es,ep,h1,h2,h3,h4,h5⟩:=(show dN P w H h a (.dT kvs)from S7 ok e);refine⟨z,y,xs,r,o,es,ep,h1,h2,h3,h4,fun x hx=>?_,h5⟩;have all:∀{l:List (List Key×V)}{m:List (List Key×Addr×Value)},KT H l m->∀x∈m,(tV (gB P w)).is h x.1 x.2.1:=by
  intro l m q;induction q with
  |nil=>intro x hx;exact nomatch hx
  |@cons p q ps qs hq t ih=>
   intro x hx;rcases aH.mp hx with e|hx
   ·subst e;exact xh ok (by rw[<-hq.1];exact hq.2.1)
   ·exact ih x hx
 exact all r x hx
theorem YB(ok:fB P w H h)(e:H a=some (.dT kvs)):kvs.length<=aa/\(a==j4)=false /\
  ∃xs,KT H kvs xs/\h.DictOfH (tV (gB P w)) a xs:=Bm ok (.inl e)
end
def CK(H:Hp)(a:Addr)(y:V)(r:Option V):Prop:=
 (∃kvs k,Rd H a (.dK kvs)/\y=kV k/\r=jU kvs k)\/∃kvs k b,Rd H a (.dT kvs)/\y=.ref b/\H b=some (.tup (k.map kV))/\r=jU kvs k
def DPut(H:Hp)(a:Addr)(y v:V)(H':Hp):Prop:=
 (∃kvs k,H a=some (.dK kvs)/\y=kV k/\kvs.length<aa/\H'=upd H a (.dK (putK kvs k v))) \/
 ∃kvs k b,H a=some (.dT kvs)/\y=.ref b/\H b=some (.tup (k.map kV))/\kvs.length<aa/\H'=upd H a (.dT (putK kvs k v))
variable{Q:Value->ai->Prop}
variable{h':Heap}
section
variable{X:Cx}{pins:List (Addr×Obj)}{O:St}{H:Hp}{s:ai}{a:Addr}{y v:V}{u r:Value}{o:Option V}{A:cC}{E:Value->ai->Prop}
theorem DQ(hu:A.units+1<dD)(I:Inv X pins O H s)(g:CK H a y (some v))(ry:RelV y u)(h:∀w' s',Inv X pins O H s'->RelV v w'->Q w' s') :
  aC (aF X.prog X.w) A (zq (.ref a) u) Q E s:=by
 rcases g with⟨kvs,k,e,ey,l⟩|⟨kvs,k,b,e,ey,eb,l⟩
 ·subst ey;obtain⟨z,hd,vs,rel,dd⟩:=yW I.hok e;obtain⟨w',hw,rw'⟩:=lZ.some_of (v:=v) (o:=sf vs k) (by rw[l];exact rel.val k);exact wpAny_getItem_of (yV ry) dd.mapOf hw (h w' _ (I.tok _) rw')
 ·subst ey;cases(show u=bu b from ry);obtain⟨z,hd,xs,rel,dd⟩:=Bm I.hok e;obtain⟨w',hw,rw'⟩:=lZ.some_of (v:=v) (o:=(t6 xs k).map (·.2)) (by rw[l];exact rel.val k);obtain⟨p,hp,hp2⟩:=Option.map_eq_some_iff.mp hw;refine wpAny_getItem_heap (k9 hu) (xh I.hok eb) dd hp ?_;rw[hp2];exact h w' _ (I.tok _) rw'
theorem d_in(hu:A.units+1<dD)(I:Inv X pins O H s)(g:CK H a y o)(ry:RelV y u)(h:∀s',Inv X pins O H s'->Q (.bool o.isSome) s') :
  aC (aF X.prog X.w) A (f_ .In u (.ref a)) Q E s:=by
 rcases g with⟨kvs,k,e,ey,l⟩|⟨kvs,k,b,e,ey,eb,l⟩
 ·subst ey;obtain⟨z,hd,vs,rel,dd⟩:=yW I.hok e;refine wpAny_in_of (yV ry) hd dd.mapOf ?_;rw[<-(rel.val k).qg,<-l];exact h _ (I.tok _)
 ·subst ey;cases(show u=bu b from ry);obtain⟨z,hd,xs,rel,dd⟩:=Bm I.hok e;refine wpAny_in_heap (k9 hu) (xh I.hok eb) hd dd ?_;have q:=(rel.val k).qg;rw[qY]at q;rw[<-q,<-l];exact h _ (I.tok _)
theorem Uy(hu:A.units+1<dD)(I:Inv X pins O H s)(g:CK H a y o)(ry:RelV y u)(h:∀s',Inv X pins O H s'->Q (.bool (!o.isSome)) s') :
  aC (aF X.prog X.w) A (f_ .NotIn u (.ref a)) Q E s:=by
 rcases g with⟨kvs,k,e,ey,l⟩|⟨kvs,k,b,e,ey,eb,l⟩
 ·subst ey;obtain⟨z,hd,vs,rel,dd⟩:=yW I.hok e;refine wpAny_notIn_of (yV ry) hd dd.mapOf ?_;rw[<-(rel.val k).qg,<-l];exact h _ (I.tok _)
 ·subst ey;cases(show u=bu b from ry);obtain⟨z,hd,xs,rel,dd⟩:=Bm I.hok e;refine wpAny_notIn_heap (k9 hu) (xh I.hok eb) hd dd ?_;have q:=(rel.val k).qg;rw[qY]at q;rw[<-q,<-l];exact h _ (I.tok _)
theorem Jo{t':Nat}{ob:HO}(I:Inv X pins O H s)(mu:L8 (H a))(hs:jN a s.heap h')(he:∃q,h'.get? a=some q)(new:dN X.prog X.w (upd H a ob) h' a ob) :
  Inv X pins O (upd H a ob) { s with heap:=h',toks:=t' }:=
 I.write (x:=a) (e:=a) mu (.inl rfl) (fun b q hb z=>(hs.2 b hb).trans z) he new
theorem Wy{kvs:List (Key×V)}{vs:List (Key×Value)}(z:kvs.length<=aa)(hd:(a==j4)=false)(rel:KV kvs vs)(dd:h'.DictOf (gB P w) a vs) :
  dN P w H' h' a (.dK kvs):=⟨z,hd,vs,rel,dd⟩
theorem DR{Q:Unit->ai->Prop}(hu:A.units+1<dD)(I:Inv X pins O H s)(g:DPut H a y v H')(ry:RelV y u)(rv:RelV v r)(h:∀s',Inv X pins O H' s'->Q () s') :
  aC (aF X.prog X.w) A (J6 (.ref a) u r) Q E s:=by
 rcases g with⟨kvs,k,e,ey,l,eH⟩|⟨kvs,k,b,e,ey,eb,l,eH⟩
 ·subst ey eH;obtain⟨z,hd,vs,rel,dd⟩:=YA I.hok e;have hz:vs.length<=aa:=by rw[<-rel.length];exact z
  have hl:(putK kvs k v).length<=aa:=by have:=zH kvs k v;omega
  refine wpAny_setItem_pairs (hsz:=hz) (yV ry) dd fun h' dd' hs=>h _ ?_;have he:∃q,h'.get? a=some q:=let⟨q,_,_,hq,_⟩:=dd';⟨q,hq⟩
  exact Jo I (by rw[e];exact d9) hs he (Wy hl hd (rel.put k rv) dd')
 ·subst ey eH;cases(show u=bu b from ry);obtain⟨z,hd,xs,rel,dd⟩:=YB I.hok e;have hz:xs.length<=aa:=by rw[<-Paired.length rel];exact z
  have hl:(putK kvs k v).length<=aa:=by have:=zH kvs k v;omega
  refine wpAny_setItem_heap (hsz:=hz) (k9 hu) (xh I.hok eb) dd fun h' dd' hs=>h _ ?_;obtain⟨q,es,ep,hq,h2,h3,h4,_,h5⟩:=dd';refine Jo I (by rw[e];exact d9) hs ⟨q,hq⟩ ⟨hl,hd,_,(rel.put k eb rv).keeps fun c ys ec=>?_,q,es,ep,hq,h2,h3,h4,h5⟩;rw[aV (Yj ec e (fun z=>nomatch z))];exact ec
end
section
variable{X:Cx}{pins:List (Addr×Obj)}{O:St}{H:Hp}{s:ai}{a:Addr}{kvs:List (Key×V)}{k:Key}{u:Value}{A:cC}{E:Value->ai->Prop}
theorem YC(I:Inv X pins O H s)(e:Rd H a (.dK kvs))(h:∀t s',Inv X pins O H s'->Q (.int kvs.length t) s'):aC (aF X.prog X.w) A (call (.builtin "len") [.ref a]) Q E s:=by
 obtain⟨z,hd,vs,rel,dd⟩:=yW I.hok e;refine call_len_dict hd dd (by rw[<-rel.length];rw[dH]at z;omega) ?_;rw[<-rel.length];exact h _ _ (I.tok _)
end
theorem zJ{X:Cx}{pins:List (Addr×Obj)}{O:St}{s:ai}{a:Addr}(I:Inv X pins O H s)(g:CK H a y o):s.TypeIs (.ref a) "dict":=by
 rcases g with⟨kvs,k,e,_,_⟩|⟨kvs,k,b,e,_,_,_⟩
 ·obtain⟨_,_,vs,_,dd⟩:=yW I.hok e;exact dd.typeIs
 ·obtain⟨_,_,xs,_,dd⟩:=Bm I.hok e;exact dd.typeIs
end L2
end
section
namespace Att
open PySem PySem.W PySem.Calls PyProof.Rows
variable{P:H_}{h:Heap}
theorem Bo:∀(ns:List Int) (vs:List Value),WellAll P h vs (ns.map O5)->vd vs ns:=by
 intro ns;induction ns with
 |nil=>
  intro vs w;rw[H9]at w;cases w;exact .nil
 |cons n ns ih=>
  intro vs w;rw[cj]at w;cases w with
  |cons a b=>
   cases a;exact .cons _ _ (ih _ b)
variable{l:OpenLaw}{n:Nat}
theorem DS(hn:l.most=some n){args:List WData}{vals:List Value}
  (hpre:l.row.toRowW.claim.pre args=true) (hwl:WellAll P h vals args) :
  ∃a vs ns,vals=[bu a]/\args=[WData.list (ns.map O5)]/\h.get? a=some { cls:=.type "list",data:=.seq vs.toArray }/\vd vs ns/\ns.length<=n:=by
 have hsh:WShape.hasAll [] args [.list .int]=true:=(LQ hpre).1;have hc:l.pre.holds [] { args:=args }=true:=(LQ hpre).2;obtain⟨d,r,rfl,h1,h2⟩:=hasAllW_cons hsh;obtain rfl:=hasAllW_nil h2;obtain⟨xs,rfl,h3⟩:=hasW_list h1;obtain⟨ns,rfl⟩:=items_int h3;have hlen:ns.length<=n:=by
  unfold Yh at hc;have h4:(WTm.not (.lt (.lit (.int (n:Int))) (.len (.arg 0)))).holds [] { args:=[.list (ns.map .int)] }=true:=by
   have h4:=(holds_andW hc).1;rw[hn]at h4;exact h4
  have h5:=condW_of h4 (w_not (w_lt w_lit (w_len_list (w_arg rfl))));rw[az]at h5;refine Nat.le_of_not_lt fun q=>?_;have q':(n:Int)<((ns.length:Nat):Int):=by omega
  first
   |(rw[decide_eq_true q']at h5;exact absurd h5 (by decide))
   |(simp at h5;omega)
 cases hwl with
 |cons w1 w2=>
  cases w2;cases w1 with
  |list ho hall=>exact⟨_,_,ns,rfl,rfl,ho,Bo ns _ hall,hlen⟩
theorem DT(l:OpenLaw)(args:List WData):l.row.toRowW.claim.post args (.bool true) args=true:=
 postW_of (r:=l.row.toRowW) (X:=(true==true))
  (show LR [] (.bool true) .bool=true by first|rfl|decide|simp[LR,WShape.arms,WShape.armsAll])
  (show(WTm.eq .res (.lit (.bool true))).value [] { args:=args,res:=some (.bool true),after:=args }=some (.bool (true==true))from w_eq_bool (w_res rfl) w_lit) rfl
variable{q:bq}{loose:List Str}{XP:(Str->Option Value)->Heap->Prop}{YP:bH->Heap->Prop}{d:O6}
theorem attach{x:Str}
  (hn:l.most=some n) (hdf:d.params.defaults=[])
  (hbind:∀pm cd doc v:Value,sY (O7 d.name d.params d.body d.scope pm cd doc) ⟨[v],[]⟩=pure [(x,v)])
  (hx:d.scope.names.lookup x=some .local\/d.scope.names.lookup x=some .cell)
  (hk:d.scope.kind=.function) (hco:d.scope.isCoroutine=false) (hgen:d.scope.isGenerator=false)
  (body:∀(w:bH) (aa9 aa_ s:ai) (mg mb:Str->Option Value) (fa:Addr) (o:Obj) (pm cd doc:Value) (a:Addr) (vs:List Value) (ns:List Int),
   Ground q loose [] XP w aa9 mg mb aa_.heap->YP w aa_.heap->
   aa_.heap.get? fa=some o->o.data=.func (O7 d.name d.params d.body d.scope pm cd doc)->aa_.heap.CodeRec cd d.name->mg d.name=some (.ref fa)->
   aa_.heap.get? a=some { cls:=.type "list",data:=.seq vs.toArray }->vd vs ns->ns.length<=n->
   s.gens=#[]->s.os=aa_.os->
   Fr aa_.heap aa_.heap.objs.size s.heap (tX (jh d.name d.scope aa_.heap.objs.size fa cd).kindOf [(x,.ref a)] fun _=>none)->
   Cl aa_.heap.objs.size (dQ (aa_.heap.objs.size+1) d.scope.names []) s.heap (tY (jh d.name d.scope aa_.heap.objs.size fa cd).kindOf [(x,.ref a)] fun _=>none)->
   aC (aF l.prog w) (pP.deeper (jh d.name d.scope aa_.heap.objs.size fa cd)) (LN d.body (jh d.name d.scope aa_.heap.objs.size fa cd))
    (fun f s'=>f=.ret (.bool true)/\OldK aa_.heap s'.heap/\s'.os=aa_.os/\jM s'.gens) (fun _ _=>False) s) :
  WalkO q loose XP YP l.row.toRowW d [] (fun f vs=>PySem.call f vs):=by
 intro w aa9 aa_ mg mb G aa5 fa o pm cd doc dV kV ho hd hcd hD hmg hg args vals as hpre hlay hrd hwl hlo;obtain rfl:dV=.none:=LS hD hdf;obtain rfl:kV=.none:=LU hD;obtain⟨a,vs,ns,rfl,rfl,hobj,hints,hlen⟩:=DS hn hpre hwl;refine LV ?_;refine call_cells_ret (o:=o) (by rw[depth_caller];decide) ho (Ia hd) G.T.nolimit hcd (hbind pm cd doc (.ref a)) (fun y hy=>?_) (fun abe tk F X=>?_) hco hgen hk
 ·obtain rfl:y=(x,bu a):=a8.mp hy;rcases hx with e|e
  ·exact .inl e
  ·exact .inr ⟨e,cellsFrom_some _ _ _ (.inl e)⟩
 ·refine d8 (body w aa9 aa_ { aa_ with heap:=abe,toks:=tk } mg mb fa o pm cd doc a vs ns G aa5 ho (Ia hd) hcd hmg hobj hints hlen hg rfl F X) (fun f s' hq=>?_) (fun _ _ hq=>hq);obtain⟨rfl,h2,h3,h4⟩:=hq;exact⟨.inl ⟨.bool true,.bool true,[],rfl,fun _=>rfl,.bool true,DT l _,fun _=>⟨zx,fun _ hm=>(nomatch hm)⟩⟩,h2,h3,h4⟩
theorem Ir
  (hn:l.most=some n) (hdf:d.params.defaults=[])
  (call:∀(w:bH) (aa9 aa_:ai) (mg mb:Str->Option Value) (fa:Addr) (o:Obj) (pm cd doc:Value) (a:Addr) (vs:List Value) (ns:List Int),
   Ground q loose [] XP w aa9 mg mb aa_.heap->YP w aa_.heap->
   aa_.heap.get? fa=some o->o.data=.func (O7 d.name d.params d.body d.scope pm cd doc)->aa_.heap.CodeRec cd d.name->mg d.name=some (.ref fa)->
   aa_.heap.get? a=some { cls:=.type "list",data:=.seq vs.toArray }->vd vs ns->ns.length<=n->aa_.gens=#[]->
   lQ (aF l.prog w) pP (.call (.ref fa) ⟨[.ref a],[]⟩) (fun r s'=>r=.ok (.ret (.bool true))/\OldK aa_.heap s'.heap/\s'.os=aa_.os/\jM s'.gens) aa_) :
  WalkO q loose XP YP l.row.toRowW d [] (fun f vs=>PySem.call f vs):=by
 intro w aa9 aa_ mg mb G aa5 fa o pm cd doc dV kV ho hd hcd hD hmg hg args vals as hpre hlay hrd hwl hlo;obtain rfl:dV=.none:=LS hD hdf;obtain rfl:kV=.none:=LU hD;obtain⟨a,vs,ns,rfl,rfl,hobj,hints,hlen⟩:=DS hn hpre hwl;refine LV (iP (call w aa9 aa_ mg mb fa o pm cd doc a vs ns G aa5 ho (Ia hd) hcd hmg hobj hints hlen hg) fun r s' hq=>?_);obtain⟨rfl,h2,h3,h4⟩:=hq;exact⟨.inl ⟨.bool true,.bool true,[],rfl,fun _=>rfl,.bool true,DT l _,fun _=>⟨zx,fun _ hm=>(nomatch hm)⟩⟩,h2,h3,h4⟩
section
variable{prog:bq}{w:bH}{A:cC}{E:Value->ai->Prop}{s:ai}{K:Frag}
noncomputable def ledger(h:Heap)(L d:Addr):List (Addr×Obj):=(bG h.objs.size).filterMap fun a=>if a=L\/a=d then none else(h.get? a).map fun o=>(a,o)
end
end Att
namespace L2
open PySem PySem.Spec PyProof.Rows
theorem DU:∀{vs:List Value}{ns:List Int},vd vs ns->bw (ns.map V.int) vs
|_,_,.nil=>.nil
|_,_,.cons n t h=>.cons ⟨t,rfl⟩ (DU h)
def PM(H:Hp):Prop:=∀b,H b=none\/∃o xs,H b=some (.bh o (.lst xs))
theorem PN{P:bq}{w:bH}{K:PySem.W.Frag}{mg mb:Str->Option Value}{CX:zG}{k:Nat}{fa a:Addr}{fd:fJ}{x:Str}{sp:Sp}{aa_:ai}{vs:List Value}{ns:List Int}
  (KX:K.In aa_.heap) (hns:aa_.heap.Ns dG mg) (hb:aa_.heap.Ns Cd mb) (hbb:∀x:Str,x≠"__name__"->mb x=oz x) (hlim:aa_.heap.NoLimit) (hg:aa_.gens=#[])
  (ha:aa_.heap.get? a=some { cls:=.type "list",data:=.seq vs.toArray }) (hi:vd vs ns) (hl:ns.length<=aa) (hr:gO k pP)
  (F:∀base:Heap,K.In base->base.Ns dG mg->fH P w K mg base CX k fa fd [x] sp) (hbind:∀(s:ai) (u:Value),Dw s fd ⟨[u],[]⟩ [(x,u)])
  (hsp:∀H:Hp,PM H->gy K H a (ns.map V.int)->sp [.ref a] H (fun v _=>v=.bl true) fun _ _ _=>False)
  (hCX:∀H e s',CX [] H aa_ (fun _ _ _=>False) e s'->False) :
  lQ (aF P w) pP (.call (.ref fa) ⟨[.ref a],[]⟩) (fun r s'=>r=.ok (.ret (.bool true))/\OldK aa_.heap s'.heap/\s'.os=aa_.os/\jM s'.gens) aa_:=by
 have rv:=DU hi;have ue:=hi.length;have core:∀H:Hp,PM H->gy K H a (ns.map V.int)->fB P w H aa_.heap->(∀b,H b≠none->b=a)->(H a≠none->K.lookup a=none)->
   lQ (aF P w) pP (.call (.ref fa) ⟨[.ref a],[]⟩) (fun r s'=>r=.ok (.ret (.bool true))/\OldK aa_.heap s'.heap/\s'.os=aa_.os/\jM s'.gens) aa_:=by
  intro H hO hS hok hA hK;have base_of:∀{b:Addr}{o:Obj},aa_.heap.get? b=some o->H b=none->(vo aa_.heap H).get? b=some o:=fun e n=>Pn e n;have noA:∀{b:Addr}{o:Obj}{es:Array DictEntry}{ep:Nat},aa_.heap.get? b=some o->o.data=.dict es ep->H b=none:=fun{b o es ep} e d=>by
   cases q:H b with
   |none=>rfl
   |some u=>
    have e':b=a:=hA b (by rw[q];simp);subst e';rw[ha]at e;cases e;have d':Data.seq vs.toArray _=Data.dict es ep:=d;cases d'
  have nsK:∀{b:Addr}{m:Str->Option Value},aa_.heap.Ns b m->(vo aa_.heap H).Ns b m:=fun{b m} ⟨o,es,ep,e,d,r⟩=>⟨o,es,ep,base_of e (noA e d),d,r⟩;have hKb:K.In (vo aa_.heap H):=fun b o e=>base_of (KX b o e) (by
   cases q:H b with
   |none=>rfl
   |some u=>
    have e':b=a:=hA b (by rw[q];simp);subst e';rw[hK (by rw[q];simp)]at e;cases e)
  have hM:Mod K mg (vo aa_.heap H):=⟨hKb,nsK hns,⟨mb,nsK hb,hbb⟩,let⟨mc,h1,h2⟩:=hlim;⟨mc,nsK h1,h2⟩⟩;have e0:An P w K mg (vo aa_.heap H) pP [] aa_ H:=⟨rfl,hM,fun b o e=>Ug e,yN (L_ _ _),trivial,fun b hb=>absurd (show b∈([]:List Addr)from hb) (by simp),hok,.of_eq hg⟩;refine iP ((F _ hKb (nsK hns)).run pP [] aa_ H ⟨[.ref a],[]⟩ [.ref a] [.ref a] _ _ hr e0 (hbind aa_ (.ref a)) (.cons rfl .nil) (hsp H hO hS)) fun r s' h=>?_;cases r with
  |error e=>exact(hCX H e s' h).elim
  |ok fl=>
   cases fl with
   |next=>exact au h
   |brk=>exact au h
   |cont=>exact au h
   |ret u=>
    obtain⟨v,H',os,bare,un,hok',r',q⟩:=h;have q':v=.bl true:=q;subst q';obtain rfl:u=gK true:=r';refine⟨rfl,OldK.of_keep fun b o e=>?_,os,bare⟩;cases q:H b with
    |none=>exact un.keep b o e q (by intro z;exact absurd (show b∈([]:List Addr)from z) (by simp)) (by simp)
    |some u=>
     rcases hO b with z|⟨ob,xs,z⟩
     ·rw[q]at z;cases z
     ·have z2:=un.aD b ob _ z;obtain⟨e1,_⟩:=hok b _ z;obtain⟨e2,_⟩:=hok' b _ z2;rw[e]at e1;cases e1;exact e2
 cases hk:K.lookup a with
 |some o=>
  have e:=KX a o hk;rw[ha]at e;cases e;refine core (fun _=>none) (fun _=>.inl rfl) (.inr ⟨_,vs.toArray,_,hk,rfl,rfl,rfl,by rw[aQ,ue];exact hl,by simpa using rv⟩) (fun b u z=>by have z':(none:Option HO)=some u:=z;cases z') (fun b z=>absurd rfl z) fun z=>absurd rfl z
 |none=>
  refine core (fun b=>if b=a then some (.bh { cls:=.type "list",data:=.seq vs.toArray } (.lst (ns.map V.int)))else none) (fun b=>?_) (.inl (.inr ⟨{ cls:=.type "list",data:=.seq vs.toArray },if_pos rfl⟩)) (fun b u z=>?_) (fun b z=>?_) fun _=>hk
  ·by_cases hb:b=a
   ·exact .inr ⟨_,_,if_pos hb⟩
   ·exact .inl (if_neg hb)
  ·by_cases hb:b=a
   ·have z':=(if_pos hb).symm.trans z;cases z';subst hb;exact⟨ha,by rw[az];exact hl,vs,_,rv,ha⟩
   ·have z':=(if_neg hb).symm.trans z;cases z'
  ·by_cases hb:b=a
   ·exact hb
   ·exact absurd (if_neg hb) z
end L2
namespace L2
open PySem PySem.Spec PyProof.Rows
noncomputable abbrev KOf{K:PySem.W.Frag}{h:Heap}(_:K.In h):PySem.W.Frag:=K
theorem Uz{l:PySem.W.OpenLaw}{n k:Nat}{q:bq}{loose:List Str}{XP:(Str->Option Value)->Heap->Prop}{YP:bH->Heap->Prop}{d:O6}{K:H_->PySem.W.Frag}{CX:bH->zG}{sp:bH->Sp}{x:Str}
  (hn:l.most=some n) (hn2:n<=aa) (hdf:d.params.defaults=[]) (hr:gO k pP)
  (hY:∀(w:bH) (h:Heap),YP w h->(K w.params).In h)
  (F:∀(w:bH) (mg:Str->Option Value) (fa:Addr) (h:Heap),(K w.params).In h->h.Ns dG mg->mg d.name=some (.ref fa)->
   ∃fd:fJ,(∀(s:ai) (u:Value),Dw s fd ⟨[u],[]⟩ [(x,u)]) /\
    ∀base:Heap,(K w.params).In base->base.Ns dG mg->fH l.prog w (K w.params) mg base (CX w) k fa fd [x] (sp w))
  (hsp:∀(w:bH) (H:Hp) (a:Addr) (ns:List Int),ns.length<=n->PM H->gy (K w.params) H a (ns.map V.int)->sp w [.ref a] H (fun v _=>v=.bl true) fun _ _ _=>False)
  (hCX:∀(w:bH) (H:Hp) (s:ai) (e:Value) (s':ai),CX w [] H s (fun _ _ _=>False) e s'->False) :
  PySem.W.WalkO q loose XP YP l.row.toRowW d [] (fun f vs=>PySem.call f vs):=by
 refine Att.Ir hn hdf fun w aa9 aa_ mg mb fa o pm cd doc a vs ns G aa5 ho hd hcd hmg hobj hints hlen hg=>?_;have KX:=hY w _ aa5;obtain⟨fd,hb,hF⟩:=F w mg fa _ KX G.T.g hmg;exact PN KX G.T.g G.T.b G.T.builtins G.T.nolimit hg hobj hints (dz hlen hn2) hr hF hb (fun H hO hS=>hsp w H a ns hlen hO hS) fun H e s'=>hCX w H aa_ e s'
end L2
namespace L2
open PySem PySem.Spec PyProof.Rows
def lE(s:Stmt):Arguments:=match s with
|.FunctionDef _ a _ _ _ _ _ _ _ _=>a
|_=>{ posonlyargs:=[],args:=[],vararg:=none,kwonlyargs:=[],kw_defaults:=[],kwarg:=none,defaults:=[] }
def fZ(s:Stmt):List Stmt:=match s with
|.FunctionDef _ _ b _ _ _ _ _ _ _=>b
|_=>[]
def bZ(s:Stmt):fO:=match s with
|.FunctionDef _ _ _ _ _ _ sc _ _ _=>sc
|_=>{ kind:=.function,names:=[],isGenerator:=false,isCoroutine:=false }
noncomputable abbrev zK:zG:=fun _ _ _ _ _ _=>False
noncomputable abbrev E0:XK:=fun _ _ _=>False
structure qV (K:PySem.W.Frag) (x qual:Str) (st:Stmt) (f:Addr) (fd:fJ):Prop where
 ex:∃(oc:Value) (od:Option Addr) (kV doc pm:Value) (an:Option Addr) (cdv ct:Value) (osl:Array (Option Value)),
  fd=PySem.W.fnOf x qual (lE st) (fZ st) (bZ st) .none kV doc pm an cdv ct/\K.lookup f=some ⟨oc,od,.func fd,osl⟩/\PySem.W.codeIn K cdv qual=true
 kp:PySem.W.keepIn K (.ref f)=true
variable{x qual:Str}{st:Stmt}{f:Addr}{fd:fJ}{ps:List Str}
section
variable{P:bq}{w:bH}{K:PySem.W.Frag}{mg:Str->Option Value}{base:Heap}
theorem qV.ok{N:List Str}{k:Nat}{sp:Sp}(F:qV K x qual st f fd)(S:lC N ps (bZ st))(len:∀vs H Q E,sp vs H Q E->vs.length=ps.length)
  (hbody:∀(cdv:Value) (A:cC) (outer:List Env) (s:ai) (H:Hp) (vs:List V) (Q:VK) (E:XK),gO k (A.deeper (jh qual (bZ st) s.heap.objs.size f cdv))->sp vs H Q E->
   ∃t,oU (kr zK P w K mg base N qual (bZ st) f cdv A outer s H E).FL (fZ st) t/\t { nx:=fun _ H'=>Q .non H',rt:=Q } (start N vs) H):fH P w K mg base zK (k+1) f fd ps sp:=by
 obtain⟨oc,od,kV,doc,pm,an,cdv,ct,osl,rfl,lk,hcd⟩:=F.ex;refine S6 lk hcd S len fun A outer s H vs Q E hr hsp=>?_;obtain⟨t,h,q⟩:=hbody cdv A outer s H vs Q E hr hsp;exact⟨t,h.FL,q⟩
theorem qV.binds(F:qV K x qual st f fd)
  (h:∀(kV doc pm:Value) (an:Option Addr) (cdv ct:Value) (us:List Value),us.length=ps.length->sY (PySem.W.fnOf x qual (lE st) (fZ st) (bZ st) .none kV doc pm an cdv ct) ⟨us,[]⟩=pure (ps.zip us)):Binds K fd ps []:=by
 obtain⟨oc,od,kV,doc,pm,an,cdv,ct,osl,rfl,lk,hcd⟩:=F.ex;exact .all (h kV doc pm an cdv ct)
theorem fun_mk{oc:Value}{od an:Option Addr}{osl:Array (Option Value)}{kV doc pm cdv ct:Value}(l:K.lookup f=some ⟨oc,od,.func (PySem.W.fnOf x qual (lE st) (fZ st) (bZ st) .none kV doc pm an cdv ct),osl⟩)
  (c:PySem.W.codeIn K cdv qual=true) (k:PySem.W.keepIn K (.ref f)=true):qV K x qual st f (PySem.W.fnOf x qual (lE st) (fZ st) (bZ st) .none kV doc pm an cdv ct):=⟨⟨oc,od,kV,doc,pm,an,cdv,ct,osl,rfl,l,c⟩,k⟩
end
def a6(H H':Hp):Prop:=∀b o,H b=some o->H' b=some o
theorem a6.refl(H:Hp):a6 H H:=fun _ _ h=>h
theorem a6.trans{H H1 H2:Hp}(a:a6 H H1)(b:a6 H1 H2):a6 H H2:=fun c o h=>b c o (a c o h)
end L2
end
section
namespace L2
open PySem PySem.W PySem.Calls PyProof.Rows
section
variable{prog:bq}{w:bH}{A:cC}{E:Value->ai->Prop}{s:ai}
noncomputable def keyT:List Key->Value
|.inl _::_=>.type "int"
|_=>.type "str"
end
section
variable{κ:Type} [DecidableEq κ] [BEq κ] [LawfulBEq κ]
noncomputable def uf(val:Nat->κ)(i:Nat):List κ:=((bG i).map val).foldl oG []
theorem xj(val:Nat->κ)(i:Nat):uf val (i+1)=oG (uf val i) (val i):=by
 unfold uf;rw[Co,cz,zy];rfl
theorem My(O:List κ)(v k:κ):(oG O v).any (·==k)=(O.any (·==k)||decide (k=v)):=by
 unfold oG;by_cases h:O.any (·==v)=true
 ·rw[if_pos h];by_cases e:k=v
  ·subst e;rw[h];simp
  ·simp[e]
 ·rw[if_neg h,List.any_append];by_cases e:k=v
  ·subst e;simp
  ·have hb:(v==k)=false:=by simpa[beq_iff_eq]using(fun q:v=k=>e q.symm)
   simp[hb,e]
theorem DV(O:List κ)(v:κ):(oG O v).length=if O.any (·==v)then O.length else O.length+1:=by
 unfold oG;split<;>simp
theorem CL(val:Nat->κ):∀i,(uf val i).length<=i
|0=>aN _
|i+1=>by
 have:=CL val i;rw[xj,DV];split<;>omega
variable{prog:bq}{w:bH}{A:cC}{R:Cg->ai->Prop}{I:Addr}{fp wr:List Addr}{G:Array A3->Array A3->Prop}{n:Nat}{P:Nat->Value->Prop}{St:Nat->ai->Prop}
abbrev tF(knd:KeyKind prog w κ)(h:Heap)(S:Addr)(val:Nat->κ)(i:Nat):Prop:=h.SetOf knd S (fun k'=>(uf val i).any (·==k')) (uf val i).length
theorem Bp{knd:KeyKind prog w κ}{h h':Heap}{S:Addr}{val:Nat->κ}{i:Nat}(q:tF knd h S val i)(e:∀o,h.get? S=some o->h'.get? S=some o):tF knd h' S val i:=by
 obtain⟨o,es,ep,t,ho,r⟩:=q;exact⟨o,es,ep,t,e o ho,r⟩
theorem PR(knd:KeyKind prog w κ)(W:WalksS prog w A.in1 I fp wr G n P St)(S:Addr)(hSf:S∉fp)(val:Nat->κ)(hval:∀i v,P i v->knd.is (val i) v=true/\v.scannable=true)(hb:n+1<t7) :
  ∀(k i:Nat) (s:ai),n-i=k->i<=n->St i s->tF knd s.heap S val i->(∀s',Moved (S::wr) G s s'->tF knd s'.heap S val n->R (.ok (.ret .none)) s')->
   lQ (aF prog w) A (.builtin "set.update.loop" ⟨[.ref S,.ref I],[]⟩) R s:=by
 have hw:S∉wr:=fun h=>hSf (W.sub _ h);have sub:∀b∈wr,b∈S::wr:=fun b hb=>aj _ hb;intro k;induction k with
 |zero=>
  intro i s hk hi hst hS hR;obtain rfl:i=n:=by omega
  refine t8 k_ ?_;rw[v8 gU _];show aC _ A.in1 (qC (.ref I) >>= _) _ _ s;refine ah (W.done s _ _ hst fun s' hm=>?_);show aC _ A.in1 (ret cY) _ _ s';exact aR (hR s' (hm.mono sub) (Bp hS fun o e=>hm.heap S _ hw e))
 |succ k ih=>
  intro i s hk hi hst hS hR;have hlt:i<n:=by omega
  refine t8 k_ ?_;rw[v8 gU _];show aC _ A.in1 (qC (.ref I) >>= _) _ _ s;refine ah (W.item i s _ _ hlt hst fun v s' hP hst' hm=>?_);obtain⟨hk1,hk2⟩:=hval i v hP;have hS':tF knd s'.heap S val i:=Bp hS fun o e=>hm.heap S _ hw e;show aC _ A.in1 (u7 [v] (setAdd S v) >>= _) _ _ s';refine ah (kg ?_);unfold setAdd;refine kg ?_;refine ah (knd.pyHash hk1 ?_);have hroom:(uf val i).length+1<t7:=by have:=CL val i;omega
  refine wpAny_setAddHashed_of (knd:=knd) (s:={ s' with toks:=s'.toks+1 }) hk1 hk2 hS' hroom fun h' hsb hS2=>?_;have hSi:tF knd h' S val (i+1):=I_ hS2 (fun k'=>by rw[xj,My]) (by rw[xj,DV]);refine aR ⟨plainId_quiet gU _,ih (i+1) _ (by omega) hlt (W.frame _ s' _ _ hst' (jv _) fun b hb o e=>?_) hSi fun s'' hm'' hS''=>?_⟩
  ·rw[hsb.2 b (fun h:b=S=>hSf (by rw[<-h];exact hb))];exact e
  ·refine hR s'' (Moved.trans W.gtrans ((hm.mono sub).then_heap (jv _) fun b o hb e=>?_) hm'') hS'';rw[hsb.2 b (fun h:b=S=>hb (by rw[h];exact ay))];exact e
end
section
variable{κ:Type} [DecidableEq κ] [BEq κ] [LawfulBEq κ] {prog:bq}{w:bH}{A:cC}{E:Value->ai->Prop}{s:ai}
noncomputable abbrev jG(led:Bool):Obj:={ cls:=.type "set",dict:=none,data:=.set #[] 0 (.fresh 0 0 led) }
theorem EV(knd:KeyKind prog w κ){l:Addr}{items:Array Value}(val:Nat->κ){Q:Value->ai->Prop}(hh:A.handled=none)(hl:s.heap.IsList l items)
  (hval:∀(i:Nat) (v:Value),items[i]?=some v->knd.is (val i) v=true/\v.scannable=true) (hb:items.size+1<t7)
  (h:∀(h':Heap) (tk:Nat),tF knd h' s.heap.objs.size val items.size->(∀b o,b<s.heap.objs.size->s.heap.get? b=some o->h'.get? b=some o)->Q (.ref s.heap.objs.size) { s with heap:=h',toks:=tk }) :
  aC (aF prog w) A (call (.type "set") [.ref l]) Q E s:=by
 obtain⟨c,tl,hmro⟩:=PySem.F.called_set.mro;have hmade:=PySem.F.called_set.made;have hsub:=PySem.F.called_set.sub;refine rN (Cp ?_);show aC _ _ (callAny (.type "set") _) _ _ _;refine aR ⟨qD _ (by decide +kernel),t8 PySem.F.entry_type_call ?_⟩;rw[Around.under_plain (weight_type_call_type "set" [.ref l] []) rfl];have h1:=PySem.F.called_set.notType;have h2:=PySem.F.called_set.canCreate;have hct:=PySem.F.typeCall_set_1 (.ref l)
 repeat (any_goals (first|assumption|wp_step))
 refine iP (code_set_new_1 (.ref l) (E:=E) (Q₁:=fun obj aa_=>∃led:Bool,obj=.ref s.heap.objs.size/\aa_={ s with heap:=s.heap.push (jG led) }) fun led=>⟨led,rfl,rfl⟩) fun r aa_ hr=>?_;cases r with
 |error e=>exact hr
 |ok fl=>
  cases fl with
  |ret obj=>
   obtain⟨led,rfl,rfl⟩:=hr;have hS:(s.heap.push (jG led)).get? s.heap.objs.size=some (jG led):=a7 _ rfl;have hT:Shared.TypeIs { s with heap:=s.heap.push (jG led) } (.ref s.heap.objs.size) "set":=⟨_,hS,rfl⟩;have hli:=PySem.F.called_set.init.lookup;have hbi:=PySem.F.called_set.init.bind (.ref s.heap.objs.size)
   repeat (any_goals (first|assumption|wp_step))
   refine iP (v9 (R:=wants (fun r abc=>r=.none/\∃h' tk,abc={ s with heap:=h',toks:=tk }/\tF knd h' s.heap.objs.size val items.size /\
     (∀b o,b<s.heap.objs.size->s.heap.get? b=some o->h'.get? b=some o)) E) PySem.F.called_set.init.plain PySem.F.entry_set_init (check_set_init_1 hT ?_)) fun abE abc abv=>?_
   ·obtain⟨ol,hol,hcl,nl,hdl⟩:=hl;obtain⟨ocls,odict,odata,oslots⟩:=ol;simp only at hcl hdl;subst hcl;subst hdl;have hol':(s.heap.push (jG led)).get? l=some { cls:=.type "list",dict:=odict,data:=.seq items nl,slots:=oslots }:=aq _ hol;have hsls:=PySem.F.sub_list_set;have hslf:=PySem.F.sub_list_frozenset;have hne:(Value.type "list"==Value.type "dict")=false:=by decide
    have hl1:(s.heap.push (jG led)).IsList l items:=⟨_,hol',rfl,nl,rfl⟩;unfold J9.«set.__init__» noKeywords Dy;generalize hPI:u9=PI
    wp_walk
    subst hPI;refine qZ hl1 ?_;refine ah (wpAny_runValue ?_);have hlS:l<s.heap.objs.size:=aK hol;have hh3:A.in1.in1.in1.handled=none:=by simp[hh]
    have hneI:l≠(s.heap.push (jG led)).objs.size:=by rw[cU];exact bD (jD hlS)
    have hSf:s.heap.objs.size∉[(s.heap.push (jG led)).objs.size,l]:=by
     rw[cU];simp only[aH,a8,be,or_false,not_or];exact⟨bD (iS _),iO hlS⟩
    refine PR knd ((LW hh3 _ l hneI items).toS) s.heap.objs.size hSf val hval hb (items.size-0) 0 _ (by omega) (mE _) ⟨⟨_,a7 _ rfl,rfl,rfl⟩,(hl1.push _)⟩ ?hS0 ?hR
    case hS0=>
     have hget:((s.heap.push (jG led)).push { cls:=.type "list_iterator",data:=.fields #[.ref l,.int 0 0] }).get? s.heap.objs.size=some (jG led):=aq _ hS;exact I_ ((setObjOf_fresh (knd:=knd) led).setOf hget (by unfold t7;omega)) (fun _=>rfl) rfl
    case hR=>
     intro s' hm hS';obtain⟨h',g',d',tk',os'⟩:=s';have eg:g'=s.gens:=hm.gens;have ed:d'=s.drawn:=hm.drawn;have eo:os'=s.os:=hm.os;subst eg;subst ed;subst eo;show aC _ _ _ _ _ _;refine aR ?_;show aC _ _ (ret cY) _ _ _;refine aR ⟨rfl,h',tk',rfl,hS',fun b o hb e=>?_⟩;have hb1:b≠s.heap.objs.size:=bD hb;have hb2:b≠(s.heap.push (jG led)).objs.size:=by rw[cU];exact bD (jD hb)
     exact hm.heap b o (by simp only[aH,a8,be,or_false,not_or];exact⟨hb1,hb2⟩) (aq _ (aq _ e))
   ·cases abE with
    |error e=>exact abv
    |ok abF=>
     cases abF with
     |ret r=>
      obtain⟨rfl,h',tk,rfl,hS',hk'⟩:=abv
      repeat (any_goals (first|assumption|wp_step))
      exact h _ _ hS' hk'
     |_=>exact abv
  |_=>exact hr
end
end L2
end
section
namespace L2
open PySem PySem.W PySem.Calls PyProof.Rows PySem.SeqAt
theorem As:∀{bs:List Bool}{its:List Value},bw (bs.map V.bl) its->its=bs.map gK
|[],_,.nil=>rfl
|b::bs,_,.cons r q=>by
 rw[As q];cases r;rfl
noncomputable def Jp(k:Bool):Value->Bool
|.bool b=>b==k
|_=>false
theorem Bq(k:Bool):∀bs:List Bool,(bs.map gK).countP (Jp k)=bs.count k
|[]=>rfl
|b::bs=>by
 rw[cj,List.countP_cons,Bq k bs,Cq];rfl
section
variable{prog:bq}{w:bH}{A:cC}{E:Value->ai->Prop}{s:ai}{l:Addr}{bs:List Bool}{its:List Value}{k:Bool}{Q:Value->ai->Prop}
theorem Mz{y:Value}(hy:y∈(bs.map gK).toArray):EqAt A s y (.bool k) (Jp k y):=by
 have hy:y∈bs.map gK:=by simpa using hy
 obtain⟨b,_,rfl⟩:=bT.mp hy;exact EqAt.bool_bool b k
theorem Iu(hl:s.heap.IsList l its.toArray)(r:bw (bs.map V.bl) its)(h:Q (.int (bs.count k:Nat) s.toks) { s with toks:=s.toks+1 }):aC (aF prog w) A (call (.builtin "list.count") [.ref l,.bool k]) Q E s:=by
 obtain rfl:=As r;obtain⟨⟨cls,dd,data,sl⟩,ho,hc,n,hd⟩:=id hl;simp only at hc hd;subst hc hd;refine gq PySem.F.slot_list_count ⟨_,ho,rfl⟩ PySem.F.entry_list_count (PySem.F.args_list_count_2 _ _) (list_countAt l _ n dd sl (.bool k) (Jp k)) ⟨ho,fun y hy=>Mz hy,?_⟩;rw[show(bs.map gK).toArray.toList=bs.map gK from rfl,Bq];exact h
theorem Iw(hl:s.heap.IsList l its.toArray)(r:bw (bs.map V.bl) its)(hz:bs.length<=aa)(hk:k∈bs)(h:Q (.int (bs.idxOf k:Nat) s.toks) { s with toks:=s.toks+1 }):aC (aF prog w) A (call (.builtin "list.index") [.ref l,.bool k]) Q E s:=by
 obtain rfl:=As r;obtain⟨⟨cls,dd,data,sl⟩,ho,hc,n,hd⟩:=id hl;simp only at hc hd;subst hc hd;have hj:bs.idxOf k<bs.length:=s9.mpr hk;have hs:=dH;refine gq PySem.F.slot_list_index ⟨_,ho,rfl⟩ PySem.F.entry_list_index (PySem.F.args_list_index_2 _ _)
  (list_indexAt l _ n dd sl (.bool k) (Jp k) (bs.idxOf k) (by simpa using hj) (by omega) ?_ ?_) ⟨ho,fun y hy=>Mz hy,h⟩
 ·simp[Jp]
 ·intro m hm hlt;have:=List.not_of_lt_findIdx (p:=(·==k)) (xs:=bs) (i:=m) hlt;simpa[Jp]using this
end
end L2
end
section
namespace L2
open PySem PySem.Spec PyProof.Rows
def Ks(m:Bool)(P:Addr->Prop)(h:Heap)(e:Addr)(fl:Value->Prop)(v:Value):Prop:=
 (m=false/\v=.none)\/∃T oT ts f,v=.ref T/\T≠e/\h.get? T=some oT/\oT.data=.fields ts/\ts[3]?=some f/\fl f/\P T
structure ExcAt (m:Bool) (P:Addr->Prop) (h:Heap) (e C:Addr) (od:Option Addr) (fl:Value->Prop):Prop where
 at_:∃oe vs v,h.get? e=some oe/\oe.cls=.ref C/\oe.dict=od/\oe.data=.fields vs/\vs.size=6/\vs[1]?=some v/\Ks m P h e fl v
 ok:P e
abbrev F7(m:Bool)(X:Cx)(pins:List (Addr×Obj))(H:Hp)(s:ai)(e C:Addr)(od:Option Addr)(fl:Value->Prop):Prop:=ExcAt m (m6 X pins H) s.heap e C od fl
variable{h':Heap}
variable{h:Heap}
variable{m:Bool}{fl:Value->Prop}{Q:Unit->ai->Prop}{E:Value->ai->Prop}
section
variable{X:Cx}{pins:List (Addr×Obj)}{O:St}{H:Hp}{s:ai}{e C:Addr}{od:Option Addr}
theorem Inv.fld{t:Addr}(I:Inv X pins O H s)(f:m6 X pins H t)(k:∀b o,b≠t->s.heap.get? b=some o->h'.get? b=some o):Inv X pins O H { s with heap:=h' }:=
 I.turned (t':=s.toks) k f.1 f.2.1 f.2.2.2.1 f.2.2.2.2.1 f.2.2.2.2.2
theorem Br{a:Addr}{o:Obj}{vs:Array Value}(i:Nat)(x:Value)(ho:h.get? a=some o)(hd:o.data=.fields vs) :
  ∃o',(h.update a (qS (·.setIfInBounds i x))).get? a=some o'/\o'.cls=o.cls/\o'.dict=o.dict/\o'.data=.fields (vs.setIfInBounds i x):=by
 have hd':=qE hd (·.setIfInBounds i x);refine⟨_,jO _ ho (ve hd'),zz ..,?_,hd'⟩;obtain⟨c,d,dat,sl⟩:=o;dsimp only at hd;subst hd;rfl
theorem DW{fr:Option Addr}(I:Inv X pins O H s)(F:F7 m X pins H s e C od fl)
  (h:∀s',Inv X pins O H s'->F7 m X pins H s' e C od (fun v=>v=fr.elim .none fun f=>gS f)->Q () s'):aC (aF X.prog X.w) X.A (setFlight (.ref e) fr) Q E s:=by
 obtain⟨⟨oe,vs,v,he,hc,hdi,hd,hz,h1,ht⟩,fe⟩:=F;unfold setFlight;refine ah (dJ he hd h1 ?_);rcases ht with⟨hm,rfl⟩|⟨T,oT,ts,f,rfl,hTe,hT,hdT,h3,_,fT⟩
 ·exact aR (h s I ⟨⟨oe,vs,_,he,hc,hdi,hd,hz,h1,.inl ⟨hm,rfl⟩⟩,fe⟩)
 ·rw[if_pos (show(bu T != cY)=true from by simp)];have hlt:3<ts.size:=(qT.mp h3).1;refine lR hT hdT hlt ?_;have other:∀b,b≠T->(s.heap.update T (qS (·.setIfInBounds 3 (fr.elim .none fun f=>gS f)))).get? b=s.heap.get? b:=fun b hb=>eL _ _ (cT hb);obtain⟨o',e1,_,_,e2⟩:=Br 3 (fr.elim .none fun f=>gS f) hT hdT;refine h _ (I.fld fT fun b o hb q=>(other b hb).trans q) ⟨⟨oe,vs,_,(other e (cT hTe)).trans he,hc,hdi,hd,hz,h1,.inr ⟨T,o',_,_,rfl,hTe,e1,e2,?_,rfl,fT⟩⟩,fe⟩;simp[hlt]
theorem Inv.slots(I:Inv X pins O H s)(k:Heap.SlotsOnly (frs X.stack) s.heap h'):Inv X pins O H { s with heap:=h' }:=by
 refine I.call (ch:=[]) (t':=s.toks) (d':=s.drawn) (g':=s.gens) ⟨fun b o e n hb _=>(k.2.1 b hb).trans e,fun b o e n _ _=>k.2.2 b o e,fun _ _ _ n _=>n,fun b o e _=>?_,fun _ _ q=>q,fun _ _ _ q=>q,fun b ps q=>⟨#[],by rw[q];simp⟩⟩ (fun a o q=>?_) I.bare (fun _ z=>nomatch z)
 ·obtain⟨sl,q⟩:=k.2.2 b o e;exact⟨_,q⟩
 ·have hk:∀b u,(b=a\/H b=some (.own a))->s.heap.get? b=some u->h'.get? b=some u:=fun b u hb e=>by
   refine(k.2.1 b fun z=>?_).trans e;have hn:=I.CH b z;rcases hb with rfl|hb
   ·rw[hn]at q;cases q
   ·rw[hn]at hb;cases hb
  exact(I.hok a o q).stay hk (fun _ z=>z) fun _ _ z=>z
theorem Jq(hst:X.stack=X.env::X.outer)(hf:X.env.frame=some X.env.locals)(I:Inv X pins O H s)
  (F:F7 m X pins H s e C od (fun f=>f=.none\/f=gS X.env.locals))
  (h:∀s',Inv X pins O H s'->F7 true X pins H s' e C od (fun f=>f=gS X.env.locals)->Q () s'):aC (aF X.prog X.w) X.A (ER (.ref e) X.env) Q E s:=by
 have new:∀{s:ai}{head:Value}{b:Bool},Inv X pins O H s->(∃oe vs,s.heap.get? e=some oe/\oe.cls=.ref C/\oe.dict=od/\oe.data=.fields vs/\vs.size=6)->m6 X pins H e->
   aC (aF X.prog X.w) X.A (do setField (.ref e) 1 (<-wY head (<-frameOf X.env) .none (gS X.env.locals) .none (<-entryPlaceOf X.env.locals b))) (fun _ s'=>Inv X pins O H s'/\F7 true X pins H s' e C od (fun f=>f=gS X.env.locals)) E s:=by
  rintro s head b I ⟨oe,vs,he,hc,hdi,hd,hz⟩ fe;have hfr:X.A.frames=some (X.env::X.outer):=by rw[<-hst];exact I.ok.frames
  have hl:=I.stack;rw[hst]at hl;refine ah (wpAny_frameOf_fun hfr hl hf fun abe abw=>?_);rw[<-hst]at abw;have I1:Inv X pins O H { s with heap:=abe }:=I.slots abw;have he1:abe.get? e=some oe:=by
   refine(abw.2.1 e fun z=>?_).trans he;rcases aH.mp (I.uF e z)with z|z
   ·exact fe.2.1 z
   ·exact fe.2.2.1 z
  refine ah (wpAny_entryPlaceOf fun pl hpl=>?_);unfold wY newFields;refine ah (l_ ?_ (hpl.sizeOk5 _ _ _ _ _));generalize hts:([head,bu X.env.locals,cY,gS X.env.locals,cY]++(if pl.isEmpty then aT 6 cY else pl)).toArray=ts;have ht3:ts[3]?=some (gS X.env.locals):=by rw[<-hts];rfl
  have I2:Inv X pins O H { s with heap:=abe.push { cls:=.type "traceback",dict:=none,data:=.fields ts } }:=I1.kept (t':=s.toks) fun b o q=>aq _ q;have he2:=aq (h:=abe) { cls:=.type "traceback",dict:=none,data:=.fields ts } he1;have hT2:=a7 abe (o:={ cls:=.type "traceback",dict:=none,data:=.fields ts }) rfl;have hTe:abe.objs.size≠e:=iO (aK he1);have fT:m6 X pins H abe.objs.size:=I1.oX (aN _) (I1.hok.fresh (aN _));refine lR he2 hd (by omega) ?_;obtain⟨o',e1,e2,e3,e4⟩:=Br 1 (.ref abe.objs.size) he2 hd;have other:∀b,b≠e->((abe.push { cls:=.type "traceback",dict:=none,data:=.fields ts }).update e (qS (·.setIfInBounds 1 (.ref abe.objs.size)))).get? b=(abe.push { cls:=.type "traceback",dict:=none,data:=.fields ts }).get? b:=fun b hb=>eL _ _ (cT hb);refine⟨I2.fld fe fun b o hb q=>(other b hb).trans q,⟨⟨o',_,_,e1,e2.trans hc,e3.trans hdi,e4,by simpa using hz,?_,.inr ⟨_,_,ts,_,rfl,hTe,(other _ hTe).trans hT2,rfl,ht3,rfl,fT⟩⟩,fe⟩⟩;have:1<vs.size:=by omega
  simp[this]
 obtain⟨⟨oe,vs,v,he,hc,hdi,hd,hz,h1,ht⟩,fe⟩:=F;unfold ER;simp only[hf];refine ah (dJ he hd h1 ?_);rcases ht with⟨hm,rfl⟩|⟨T,oT,ts,f,rfl,hTe,hT,hdT,h3,hfl,fT⟩
 ·exact aU (new (b:=_) I ⟨oe,vs,he,hc,hdi,hd,hz⟩ fe) fun _ s' q=>h s' q.1 q.2
 ·rw[if_pos (show(bu T != cY)=true from by simp)];refine ah (dJ hT hdT h3 ?_);by_cases c:f=gS X.env.locals
  ·rw[if_pos (show(f==gS X.env.locals)=true from by rw[c];simp)];exact aR (h s I ⟨⟨oe,vs,_,he,hc,hdi,hd,hz,h1,.inr ⟨T,oT,ts,f,rfl,hTe,hT,hdT,h3,c,fT⟩⟩,fe⟩)
  ·have hlt:3<ts.size:=(qT.mp h3).1;have cn:(f==gS X.env.locals)=false:=by
    rcases hfl with rfl|z
    ·rfl
    ·exact absurd z c
   rw[if_neg (by rw[cn];exact aY)];refine ah (lR hT hdT hlt ?_);have other:∀b,b≠T->(s.heap.update T (qS (·.setIfInBounds 3 .none))).get? b=s.heap.get? b:=fun b hb=>eL _ _ (cT hb);exact aU (new (b:=_) (I.fld fT fun b o hb q=>(other b hb).trans q) ⟨oe,vs,(other e (cT hTe)).trans he,hc,hdi,hd,hz⟩ fe) fun _ s' q=>h s' q.1 q.2
end
noncomputable def jQ(P:bq)(w:bH):zG:=fun outer H s E v s'=>∃e C od H',v=.ref e/\s'.os=s.os/\jM s'.gens/\Un (frs outer) [] H H' s.heap s'.heap/\fB P w H' s'.heap /\
 ExcAt true (fun b=>H' b=none/\s.heap.objs.size<=b) s'.heap e C od (fun f=>f=.none)/\E (.ref C) od H'
variable{P':Addr->Prop}{e:Addr}{fl':Value->Prop}{v:Value}
theorem Ks.imp{P:Addr->Prop}(x:Ks m P h e fl v)(hp:∀b,P b->P' b)(hf:∀f,fl f->fl' f):Ks m P' h e fl' v:=by
 rcases x with x|⟨T,oT,ts,f,h1,h2,h3,h4,h5,h6,h7⟩
 ·exact .inl x
 ·exact .inr ⟨T,oT,ts,f,h1,h2,h3,h4,h5,hf f h6,hp T h7⟩
variable{C:Addr}{od:Option Addr}
theorem ExcAt.imp{P:Addr->Prop}(x:ExcAt m P h e C od fl)(hp:∀b,P b->P' b)(hf:∀f,fl f->fl' f):ExcAt m P' h e C od fl':=by
 obtain⟨⟨oe,vs,v,h1,h2,h3,h4,h5,h6,h7⟩,h8⟩:=x;exact⟨⟨oe,vs,v,h1,h2,h3,h4,h5,h6,h7.imp hp hf⟩,hp e h8⟩
def ug(X:Cx)(E:XK):Value->ai->Prop:=fun v s=>∃m e C od pins O H,v=.ref e/\Inv X pins O H s/\F7 m X pins H s e C od (fun f=>f=.none\/f=gS X.env.locals)/\E (.ref C) od H
section
variable{X:Cx}{E:XK}
theorem UA:xg (jQ X.prog X.w) (X.jk (ug X E)) E:=by
 rintro pins O H s v s' I ⟨e,C,od,H',rfl,os,bare,un,hok,x,q⟩;have I0:=I.iH;obtain⟨hh,g,d,t,os'⟩:=s';obtain rfl:os'=s.os:=os;have I1:Inv X pins O H' { s with heap:=hh,gens:=g,drawn:=d,toks:=t }:=I0.call (h':=hh) (g':=g) (d':=d) (t':=t) (ch:=[]) un hok bare (fun b z=>absurd z (by simp));exact⟨true,e,C,od,pins,O,H',rfl,I1,x.imp (fun b hb=>I0.oX hb.2 hb.1) fun f hf=>.inl hf,q⟩
theorem Ku(hst:X.stack=X.env::X.outer)(hf:X.env.frame=some X.env.locals):tW (aF X.prog X.w) X.A X.env (ug X E):=by
 rintro v s ⟨m,e,C,od,pins,O,H,rfl,I,F,q⟩;refine Jq hst hf I F fun s1 I1 F1=>?_;unfold cameBackBy;obtain⟨⟨oe,vs,v,he,hc,hdi,hd,hz,h1,ht⟩,fe⟩:=id F1;rcases ht with⟨hm,_⟩|⟨T,oT,ts,f,rfl,hTe,hT,hdT,h3,hfl,fT⟩
 ·cases hm
 ·refine ah (dJ he hd h1 ?_);rw[if_neg (show ¬(bu T==cY)=true from aY)];refine DW I1 F1 fun s2 I2 F2=>⟨true,e,C,od,pins,O,H,rfl,I2,F2.imp (fun _ z=>z) fun f hz=>.inr ?_,q⟩;rw[hz,hf];rfl
end
variable{P:bq}{w:bH}{K:PySem.W.Frag}{mg:Str->Option Value}{base:Heap}{N:List Str}{qual:Str}{scope:fO}{f:Addr}{cd:Value}{A:cC}{outer:List Env}{s:ai}{H:Hp}
theorem Wz{E:XK}{s':ai}
  (h:ug (kr (jQ P w) P w K mg base N qual scope f cd A outer s H E) E v s'):(kr (jQ P w) P w K mg base N qual scope f cd A outer s H E).xe v s':=by
 obtain⟨m,e,C,od,pins,O,H1,rfl,I,F,q⟩:=h;show aC (aF P w) _ (J8 _ (.ref e)) _ _ s';unfold J8;refine ah ?_;refine Jq (X:=kr (jQ P w) P w K mg base N qual scope f cd A outer s H E) rfl rfl I F fun s1 I1 F1=>?_;refine DW I1 F1 fun s2 I2 F2=>⟨e,C,od,H1,rfl,I2.os,I2.bare,I2.base,I2.hok,F2.imp (fun b hb=>⟨hb.1,?_⟩) fun _ z=>z,q⟩;rcases hb.2.2.2.1 with z|z
 ·exact absurd (show b∈([]:List Addr)from z) (by simp)
 ·exact z
theorem WA{E:XK}{body:List Stmt}{t:TS}
  (h:oU ((kr (jQ P w) P w K mg base N qual scope f cd A outer s H E).jk (ug (kr (jQ P w) P w K mg base N qual scope f cd A outer s H E) E)) body t):oU (kr (jQ P w) P w K mg base N qual scope f cd A outer s H E) body t:=
 fun pins s1 O H1 D I hw=>d8 (h pins s1 O H1 D (I.jk _) hw) (fun _ _ q=>q.iH) fun _ _ q=>Wz q
section
variable{P:bq}{w:bH}{A:cC}{E:Value->ai->Prop}{h:Heap}{g:Array A3}{d:Drawn}{t:Nat}{os:OsState}
variable{nm q:Str}{C N fI:Addr}{bs bm bmB:List Value}{hdct:Bool}{sn:List Str}{sub:List Value}{ab:Bool}{col:Option Bool}{dd:Option Addr}{k0 k1 k2 k3 k5:Option Value}{B newId initId:String}{us:List Value}{K:PySem.W.Frag}
noncomputable abbrev zL(C a:Addr):Obj:={ cls:=.ref C,data:=.fields #[.ref a,.none,.none,.none,.bool false,.none] }
noncomputable abbrev zM(us:List Value):Obj:={ cls:=.type "tuple",data:=.seq us.toArray }
theorem Iz{Q:Fin->ai->Prop}(F:Ib B newId initId bmB)(T:J_ h bmB bm)
  (hC:h.get? C=some (kq nm q C N bs bm hdct sn sub ab col dd k0 k1 k2 k3 k5 newId)) (X:K.In h) (hi:PySem.W.findIn K (.ref C) "__init__"=some (some (.ref fI))) (hf:PySem.W.typeIn K (.ref fI)=some (.type "function"))
  (hl:us.length<=aa) (hq:aC (aF P w) A (call (.ref fI) (.ref (h.objs.size+1)::us)) (fun r s'=>r=.none/\Q (.done (.ret (.ref (h.objs.size+1)))) s') E ⟨(h.push (zM us)).push (zL C h.objs.size),g,d,t,os⟩) :
  aC (aF P w) A (J9.«type.__call__» ⟨.ref C::us,[]⟩) Q E ⟨h,g,d,t,os⟩:=by
 repeat (first
  |with_reducible refine jE hC ?_
  |with_reducible refine wpAny_madeBy_exc hC ?_
  |wp_step)
 refine codeAny_call_builtin_code (qD _ F.quiet) (wpAny_check_new_subT F T hC ?_);refine codeAny_exc_new_subT F T hC ?_ hl;show aC _ _ _ _ _ _;have up:∀b o,h.get? b=some o->((h.push (zM us)).push (zL C h.objs.size)).get? b=some o:=fun b o e=>aq _ (aq _ e);have c1:=up _ _ hC;have X1:K.In ((h.push (zM us)).push (zL C h.objs.size)):=X.keeps up;have x1:((h.push (zM us)).push (zL C h.objs.size)).get? (h.objs.size+1)=some (zL C h.objs.size):=by heap_get
 have hcc:(bu C::bm).contains (.ref C)=true:=by simp
 unfold Cr
 repeat (first
  |with_reducible refine jE x1 ?_
  |(with_reducible refine wZ c1 ?_;rw[hcc])
  |wp_step)
 show aC _ _ (LP (.ref C) _) _ _ _;refine(PySem.W.looks_findIn X1 hi).at ?_;refine kg (ah ((PySem.W.bind_fn X1 _ hf).at ?_));refine ah (d8 hq (fun r s' hr=>?_) fun _ _ x=>x);obtain⟨rfl,hr⟩:=hr
 wp_walk
 exact hr
theorem WB{Q:Value->ai->Prop}(F:Ib B newId initId bmB)(T:J_ h bmB bm)
  (hC:h.get? C=some (kq nm q C N bs bm hdct sn sub ab col dd k0 k1 k2 k3 k5 newId)) (X:K.In h) (hi:PySem.W.findIn K (.ref C) "__init__"=some (some (.ref fI))) (hf:PySem.W.typeIn K (.ref fI)=some (.type "function"))
  (hl:us.length<=aa) (hq:aC (aF P w) (A.under (.builtin "type.__call__" ⟨.ref C::us,[]⟩)) (call (.ref fI) (.ref (h.objs.size+1)::us)) (fun r s'=>r=.none/\Q (.ref (h.objs.size+1)) s') E ⟨(h.push (zM us)).push (zL C h.objs.size),g,d,t,os⟩) :
  aC (aF P w) A (call (.ref C) us) Q E ⟨h,g,d,t,os⟩:=by
 have z1:=tc_lookup;have z2:=tc_bind (.ref C);have z3:(⟨h,g,d,t,os⟩:ai).TypeIs (.ref C) "type":=⟨_,hC,rfl⟩;refine rN (Cp ?_);show aC _ _ (callAny (.ref C) _) _ _ _
 repeat (any_goals (first
  |assumption
  |with_reducible refine jE hC ?_
  |wp_step))
 refine⟨rfl,?_⟩;exact codeAny_call_builtin_at (qD _ (by decide +kernel)) entry_typeCall (wpAny_check_type_call_sub hC (Iz F T hC X hi hf hl hq))
end
structure Kv (K:PySem.W.Frag) (C:Addr):Prop where
 ga:PySem.W.findIn K (.ref C) "__getattribute__"=some (some (.builtin "BaseException.__getattribute__"))
 gt:PySem.W.findIn K (.ref C) "__getattr__"=some none
 sa:PySem.W.findIn K (.ref C) "__setattr__"=some (some (.builtin "object.__setattr__"))
 hd:PySem.W.hasDictIn K C=true
 sb:PySem.W.mroIn K C (.type "BaseException")=some true
 ob:PySem.W.mroIn K C (.type "object")=some true
section
variable{P:bq}{w:bH}{A:cC}{E:Value->ai->Prop}{s:ai}{K:PySem.W.Frag}{x C:Addr}{ox:Obj}{od:Option Obj}{name:Str}
noncomputable def uJ:List Value->Bool
|.ref _::r=>uJ r
|l=>l==[.type "ValueError",.type "Exception",.type "BaseException",.type "object"]
theorem UB(self:Value):LX self "__setattr__" [.type "ValueError",.type "Exception",.type "BaseException",.type "object"]=pure ():=by kernel_rfl
theorem MA(self:Value):∀(l:List Value),uJ l=true->LX self "__setattr__" l=pure ():=by
 intro l;induction l with
 |nil=>intro e;cases e
 |cons v r ih=>
  intro e;unfold uJ at e;split at e
  ·rename_i z;cases z;rw[refuseLoop_ref];exact ih e
  ·rw[beq_iff_eq.mp e];exact UB self
theorem WC{tk:Tok}{R:Cg->ai->Prop}(X:K.In s.heap)(I:PySem.W.InstAt s.heap x ox C od)(c:Kv K C)(hm:(PySem.W.clsIn K C).any (fun cd=>uJ cd.mro)=true)(hf:PySem.W.findIn K (.ref C) name=some none)
  (h:aC (aF P w) A.in1 (iD (.ref x) (.ref C) (.str name tk) name v false)
   (fun fin s'=>match fin with|.done f=>R (.ok f) s'|.again c'=>c'.quiet=true/\lQ (aF P w) A c' R s') (fun e s'=>R (.error e) s') s) :
  lQ (aF P w) A (.call (.builtin "object.__setattr__") ⟨[.ref x,.str name tk,v],[]⟩) R s:=by
 have SF:=PySem.F.store_object;obtain⟨cd,hc,ho⟩:=PySem.W.any_some hm;have sub:PySem.W.Looks (aF P w) s.heap (Cr (.ref x) (.type "object")) true:=I.type.andThen (PySem.W.looks_mroIn X c.ob);have lm:PySem.W.Looks (aF P w) s.heap (mroOf (.ref C)) cd.mro:=(PySem.W.looks_clsIn X hc).andThen .now;refine v9 SF.slot.plain SF.entry (@PySem.W.check_slot (aF P w) _ _ s "object.__setattr__" "object" "__setattr__" (.ref x) [.str name tk,v] [] _ SF.kind SF.split sub (SF.args (.ref x) (.str name tk) v) ?_);rw[PySem.W.osa_eq,refuse_eq];refine ah (ah (I.type.here (ah (lm.here ?_))));rw[MA _ _ ho];exact aR (ah (I.type.here (ah ((PySem.W.looks_findIn X hf).here (ah (aR h))))))
end
def S8(m:Bool)(e C:Addr)(od:Option Addr)(h:Heap):Prop:=∃oe vs,h.get? e=some oe/\oe.cls=.ref C/\oe.dict=od/\oe.data=.fields vs/\(vs.size=6/\(m=true->vs[1]?=some .none))
def WD(d:Addr)(fs:List (Str×V))(h:Heap):Prop:=∃mA,h.Ns1 d mA/\(∀f,lZ (fs.lookup f) (mA f))/\PySem.Within mA (fs.map (·.1))/\fs.length<=1000
noncomputable def jx(m:Bool)(e C:Addr)(od:Option Addr):HO:=.ext (S8 m e C od)
noncomputable def ic(d:Addr)(fs:List (Str×V)):HO:=.ext (WD d fs)
theorem MB(x:S8 m e C od h):dN P w H h e (jx m e C od):=by
 refine⟨x,?_,?_⟩
 ·obtain⟨oe,_,h1,_⟩:=x;exact⟨oe,h1⟩
 ·rintro h1 h2 ⟨oe,vs,q1,q⟩ k;exact⟨oe,vs,k _ q1,q⟩
variable{d:Addr}
theorem F8{fs:List (Str×V)}(x:WD d fs h):dN P w H h d (ic d fs):=by
 refine⟨x,?_,?_⟩
 ·obtain⟨mA,⟨o,_,_,h1,_⟩,_⟩:=x;exact⟨o,h1⟩
 ·rintro h1 h2 ⟨mA,n,q⟩ k;exact⟨mA,n.at k,q⟩
theorem Kw(ok:fB P w H h)(q:H e=some (jx m e C od)):S8 m e C od h:=(show dN P w H h e (jx m e C od)from ok e _ q).1
theorem YD{fs:List (Str×V)}(ok:fB P w H h)(q:H d=some (ic d fs)):WD d fs h:=(show dN P w H h d (ic d fs)from ok d _ q).1
structure xm (K:PySem.W.Frag) (C:Addr):Prop extends Kv K C where
 tl:(PySem.W.clsIn K C).any (fun cd=>uJ cd.mro)=true
variable{u:Value}
section
variable{X:Cx}{pins:List (Addr×Obj)}{O:St}{H:Hp}{s:ai}{e C:Addr}{f:Str}{A:cC}{E:Value->ai->Prop}
theorem YE{y:V}(I:Inv X pins O H s)(q:H e=some (jx m e C none))(c:xm X.K C)(n:mh X.K C f)(ry:RelV y u)
  (h:∀d s',H d=none->Inv X pins O (upd (upd H d (ic d [(f,y)])) e (jx m e C (some d))) s'->Q () s'):aC (aF X.prog X.w) A (setAttr (.ref e) f u) Q E s:=by
 obtain⟨oe,vs,he,hc,hdi,hd,hz⟩:=Kw I.hok q;have J:PySem.W.InstAt s.heap e oe C none:=⟨he,hc,by unfold PySem.W.notCls;rw[hd],by rw[hdi];trivial⟩;refine PySem.W.set_plain I.fQ J c.sa (WC (s:={ s with toks:=s.toks+1 }) I.fQ J c.toKv c.tl n ?_);obtain⟨cd,hcd,hhd⟩:=PySem.W.any_some c.hd;obtain⟨oc,odi,oda,osl⟩:=oe;dsimp only at hc hdi hd;subst hc hdi hd;unfold iD;refine ah (aR (ah ?_));unfold lS Ic;refine ah (Dz he (ah (PySem.W.Looks.here (s:={ s with toks:=s.toks+1 }) (PySem.W.looks_clsIn I.fQ hcd) ?_)));dsimp only;rw[hhd];refine ah (Ja ?_);have e1:(s.heap.push PySem.W.emptyDict).get? s.heap.objs.size=some PySem.W.emptyDict:=a7 s.heap rfl;have e3:(s.heap.push PySem.W.emptyDict).Ns1 s.heap.objs.size (fun _=>none):=Pg ⟨PySem.W.emptyDict,#[],_,e1,rfl,(fun e he=>absurd he (by simp)),fun _=>rfl⟩;have hn:H s.heap.objs.size=none:=I.hok.fresh (aN _);have hne:e≠s.heap.objs.size:=bD (aK he);have he1:=aq (h:=s.heap) PySem.W.emptyDict he;have I1:=I.laid (a:=s.heap.objs.size) (o:=ic s.heap.objs.size []) (h':=s.heap.push PySem.W.emptyDict) (t':=s.toks+1) (fun b u q=>aq _ q) (aN _)
  (F8 ⟨fun _=>none,e3,fun _=>trivial,fun y hy=>absurd rfl hy,mE _⟩)
 refine ah (wpAny_update he1 (aR ?_));have he2:=jO (h:=s.heap.push PySem.W.emptyDict) (fun o=>{ o with dict:=some s.heap.objs.size }) he1 rfl;have other:∀b,b≠e->((s.heap.push PySem.W.emptyDict).update e fun o=>{ o with dict:=some s.heap.objs.size }).get? b=(s.heap.push PySem.W.emptyDict).get? b:=fun b hb=>eL _ _ (cT hb);have q1:(upd H s.heap.objs.size (ic s.heap.objs.size [])) e=some (jx m e C none):=by rw[aV hne];exact q
 have I2:=I1.write (x:=e) (e:=e) (o:=jx m e C (some s.heap.objs.size)) (h':=(s.heap.push PySem.W.emptyDict).update e fun o=>{ o with dict:=some s.heap.objs.size }) (t':=s.toks+1)
  (by rw[q1];exact d9) (.inl rfl) (fun b u hb z=>(other b hb).trans z) ⟨_,he2⟩ (MB ⟨_,vs,he2,rfl,rfl,rfl,hz⟩)
 have n2:=e3.at (h':=(s.heap.push PySem.W.emptyDict).update e fun o=>{ o with dict:=some s.heap.objs.size }) fun o z=>(other _ (cT hne)).trans z;dsimp only;unfold oH;refine ah (aR (ah (Ie (s:={ s with heap:=(s.heap.push PySem.W.emptyDict).update e fun o=>{ o with dict:=some s.heap.objs.size },toks:=s.toks+1 }) n2 fun h' n3 sb=>?_)));have wi:PySem.Within (fun x=>if x=f then some u else none) [f]:=fun y hy=>by
  by_cases z:y=f
  ·rw[z];exact a8.mpr rfl
  ·exact absurd (if_neg z) hy
 obtain⟨oD,esD,epD,hoD,hdD,hcD⟩:=n3.count wi;refine ah (A8 hoD (by rw[hdD];exact A9 (dz hcD (by rw[dH];simp))) ?_);refine aR (h s.heap.objs.size _ hn ?_);have q2:(upd (upd H s.heap.objs.size (ic s.heap.objs.size [])) e (jx m e C (some s.heap.objs.size))) s.heap.objs.size=some (ic s.heap.objs.size []):=by rw[aV (cT hne),bQ]
 have I3:=I2.write (x:=s.heap.objs.size) (e:=s.heap.objs.size) (o:=ic s.heap.objs.size [(f,y)]) (h':=h') (t':=s.toks+2) (by rw[q2];exact d9) (.inl rfl) (fun b u hb z=>(sb.2 b hb).trans z) ⟨oD,hoD⟩
  (F8 ⟨_,n3,fun g=>?_,wi,by simp⟩)
 ·have eH:upd (upd (upd H s.heap.objs.size (ic s.heap.objs.size [])) e (jx m e C (some s.heap.objs.size))) s.heap.objs.size (ic s.heap.objs.size [(f,y)])=upd (upd H s.heap.objs.size (ic s.heap.objs.size [(f,y)])) e (jx m e C (some s.heap.objs.size)):=by
   funext b;by_cases z:b=s.heap.objs.size
   ·subst z;rw[bQ,aV (cT hne),bQ]
   ·rw[aV z];by_cases z2:b=e
    ·subst z2;rw[bQ,bQ]
    ·rw[aV z2,aV z2,aV z,aV z]
  rw[eH]at I3;exact I3
 ·have:=pR f g y [];show lZ ((h_ f y []).lookup g) _;rw[this];by_cases z:g=f
  ·rw[if_pos z,if_pos z];exact ry
  ·rw[if_neg z,if_neg z];trivial
theorem YF{fs:List (Str×V)}{y:V}(I:Inv X pins O H s)(q:H e=some (jx m e C (some d)))(qd:H d=some (ic d fs))(c:xm X.K C)(n:mh X.K C f)(hl:fs.length<1000)(ry:RelV y u)
  (h:∀s',Inv X pins O (upd H d (ic d (h_ f y fs))) s'->Q () s'):aC (aF X.prog X.w) A (setAttr (.ref e) f u) Q E s:=by
 obtain⟨oe,vs,he,hc,hdi,hd,hz⟩:=Kw I.hok q;obtain⟨mA,n1,rl,wi,_⟩:=YD I.hok qd;obtain⟨od,ho,_⟩:=DK n1;have J:PySem.W.InstAt s.heap e oe C (some od):=⟨he,hc,by unfold PySem.W.notCls;rw[hd],by rw[hdi];exact ho⟩;refine PySem.W.set_plain I.fQ J c.sa (WC (s:={ s with toks:=s.toks+1 }) I.fQ J c.toKv c.tl n ?_);obtain⟨cd,hcd,hhd⟩:=PySem.W.any_some c.hd;obtain⟨oc,odi,oda,osl⟩:=oe;dsimp only at hc hdi hd;subst hc hdi hd;unfold iD;refine ah (aR (ah ?_));unfold lS Ic;refine ah (Dz he (ah (PySem.W.Looks.here (s:={ s with toks:=s.toks+1 }) (PySem.W.looks_clsIn I.fQ hcd) ?_)));dsimp only;rw[hhd];refine aR ?_;dsimp only;unfold oH;refine ah (aR (ah (Ie (s:={ s with toks:=s.toks+1 }) n1 fun h' n3 sb=>?_)));obtain⟨oD,esD,epD,hoD,hdD,hcD⟩:=n3.count (PySem.Within.cons f u wi);refine ah (A8 hoD (by rw[hdD];exact A9 (dz hcD (by rw[aB,az,dH];omega))) ?_);refine aR (h _ ?_);refine I.write (x:=d) (e:=d) (o:=ic d (h_ f y fs)) (h':=h') (t':=s.toks+2) (by rw[qd];exact d9) (.inl rfl) (fun b u hb z=>(sb.2 b hb).trans z) ⟨oD,hoD⟩ (F8 ⟨_,n3,fun g=>?_,fun g hg=>?_,by have:=ud f y fs;omega⟩)
 ·rw[pR];by_cases z:g=f
  ·rw[if_pos z,if_pos z];exact ry
  ·rw[if_neg z,if_neg z];exact rl g
 ·have hg:(if g=f then some u else mA g)≠none:=hg;have key:(h_ f y fs).lookup g≠none:=by
   rw[pR];by_cases z:g=f
   ·rw[if_pos z];exact fun k=>nomatch k
   ·rw[if_neg z]at hg ⊢;intro k;have:=rl g;rw[k]at this;cases w:mA g with
    |none=>exact hg w
    |some v=>rw[w]at this;exact this
  cases k:(h_ f y fs).lookup g with
  |none=>exact absurd k key
  |some v=>exact bT.mpr ⟨(g,v),PySem.mem_of_lookup k,rfl⟩
end
section
variable{X:Cx}{C:Addr}{f:Str}{o value:Expr}{ta tv:TE}{pos pos':Pos}
def S9(C:Addr)(f:Str)(ta tv:TE):TS:=fun D O H=>tv O H fun y H1=>ta O H1 fun x H2=>∃m e,x=.ref e /\
 ((H2 e=some (jx m e C none)/\∀d,H2 d=none->D.nx O (upd (upd H2 d (ic d [(f,y)])) e (jx m e C (some d)))) \/
  ∃d fs,H2 e=some (jx m e C (some d))/\H2 d=some (ic d fs)/\fs.length<1000/\D.nx O (upd H2 d (ic d (h_ f y fs))))
theorem UC(c:xm X.K C)(n:mh X.K C f)(ha:PE X o ta)(hv:PE X value tv)(hs:nH value (some (.Attribute o f pos')) pos.line X.env=pure false):PS X (.Assign [.Attribute o f pos'] value pos) (S9 C f ta tv):=by
 intro pins s O H D I h;refine plainObj_wpAny_Assign_Attribute (aU (hv pins s O H _ I h) fun u s1 ⟨y,H1,I1,ry,q⟩=>aU (ha pins s1 O H1 _ I1 q) fun ov s2 ⟨x,H2,I2,rx,m,e,ex,q2⟩=>?_) hs;subst ex;obtain rfl:ov=bu e:=rx;rcases q2 with⟨q3,q4⟩|⟨d,fs,q3,q4,q5,q6⟩
 ·exact YE I2 q3 c n ry fun d s3 hd I3=>⟨O,_,I3,q4 d hd⟩
 ·exact YF I2 q3 q4 c n q5 ry fun s3 I3=>⟨O,_,I3,q6⟩
end
noncomputable def rT(N:List Str):List (Str×Nat)->List Stmt->Bool
|[],[]=>true
|(f,j)::r,.Assign [.Attribute (.Name a _) g _] (.Name b _) _::sts=>decide (N[0]?=some a)&&decide (N[j]?=some b)&&decide (f=g)&&rT N r sts
|_,_=>false
def Fi(C:Addr):List (Str×Nat)->TS
|[]=>fun D O H=>D.nx O H
|(f,j)::r=>fun D O H=>S9 C f (Po 0) (Po j) { D with nx:=Fi C r D } O H
variable{X:Cx}
theorem F9(c:xm X.K C)(hv:∀x∈X.N,FG X.env.scope x/\(x==("__debug__":Str))=false/\(x==("__classdict__":Str))=false):∀(fs:List (Str×Nat)) (sts:List Stmt),(∀p∈fs,mh X.K C p.1)->rT X.N fs sts=true->oU X sts (Fi C fs)
|[],[],_,_=>Jh
|[],_::_,_,h=>by cases h
|(f,j)::r,sts,n,h=>by
 unfold rT at h;split at h
 ·rename_i h1;cases h1
 ·rename_i f' j' r' a pa g pg b pb ps sts' h1;cases h1;simp only[bR,decide_eq_true_eq]at h;obtain⟨⟨⟨h2,h3⟩,h4⟩,h5⟩:=h;subst h4;have va:=hv a (gp h2);have vb:=hv b (gp h3);exact vp (UC c (n (f,j) ay) (Bg h2 va.1 va.2.1 va.2.2) (Bg h3 vb.1 vb.2.1 vb.2.2) rfl) (F9 c hv r sts' (fun p hp=>n p (aj _ hp)) h5)
 ·cases h
noncomputable def lV:List (Str×Nat)->List V->List (Str×V)->List (Str×V)
|[],_,acc=>acc
|(f,j)::r,vs,acc=>lV r vs (h_ f (vs.getD j .non) acc)
noncomputable def xo(C:Addr)(fs:List (Str×Nat))(n:Nat):Sp:=fun vs H Q _=>vs.length=n/\∃e vr,vs=.ref e::vr/\H e=some (jx true e C none)/\∀d,H d=none->Q .non (upd (upd H d (ic d (lV fs vs []))) e (jx true e C (some d)))
theorem PU{a b c:HO}(h:d≠e):upd (upd (upd H d a) e b) d c=upd (upd H d c) e b:=by
 funext x;by_cases z:x=d
 ·subst z;rw[bQ,aV h,bQ]
 ·rw[aV z];by_cases z2:x=e
  ·subst z2;rw[bQ,bQ]
  ·rw[aV z2,aV z2,aV z,aV z]
variable{O:St}{vs:List V}
theorem DX{D:Ends}(hde:d≠e)(h0:O[0]?=some (some (.ref e))):∀(fs:List (Str×Nat)) (acc:List (Str×V)),(∀p∈fs,∃v,O[p.2]?=some (some v)/\vs.getD p.2 .non=v)->acc.length+fs.length<=1000->
 D.nx O (upd (upd H d (ic d (lV fs vs acc))) e (jx true e C (some d)))->Fi C fs D O (upd (upd H d (ic d acc)) e (jx true e C (some d)))
|[],acc,_,_,h=>h
|(f,j)::r,acc,hv,hl,h=>by
 obtain⟨v,h1,h2⟩:=hv (f,j) ay;have h2:vs.getD j .non=v:=h2;simp only[aB]at hl;refine⟨v,h1,.ref e,h0,true,e,rfl,.inr ⟨d,acc,bQ,by rw[aV hde,bQ],by omega,?_⟩⟩;rw[PU hde];refine DX hde h0 r _ (fun p hp=>hv p (aj _ hp)) ?_ ?_
 ·have:=ud f v acc;omega
 ·have h:D.nx O (upd (upd H d (ic d (lV r vs (h_ f (vs.getD j .non) acc)))) e (jx true e C (some d))):=h;rw[h2]at h;exact h
variable{fs:List (Str×Nat)}{fd:fJ}{ps:List Str}
theorem UD{st:Stmt}{fa:Addr}(F:qV K "__init__" qual st fa fd)(S:lC ps ps (bZ st))(c:xm K C)(hn:∀p∈fs,mh K C p.1)
  (hc:rT ps fs (fZ st)=true) (hd:∀x∈ps,(x==("__debug__":Str))=false/\(x==("__classdict__":Str))=false) (hj:∀p∈fs,p.2<ps.length) (hl:fs.length<=900) (h0:0<fs.length):fH P w K mg base zK 1 fa fd ps (xo C fs ps.length):=by
 refine F.ok S (fun vs H Q E h=>h.1) fun cdv A outer s H vs Q E hr hsp=>⟨Fi C fs,?_,?_⟩
 ·refine F9 (X:=(kr zK P w K mg base ps qual (bZ st) fa cdv A outer s H E).FL) c (fun x hx=>⟨?_,hd x hx⟩) fs _ hn hc;rcases S.par x hx with z|z
  ·exact .inl z
  ·exact .inr (.inl z)
 ·obtain⟨hlen,e,vr,rfl,he,q⟩:=hsp;have hst:∀j,j<ps.length->∃v,(start ps (.ref e::vr))[j]?=some (some v)/\(V.ref e::vr).getD j .non=v:=fun j hj=>by
   have hj':j<(V.ref e::vr).length:=by rw[hlen];exact hj
   refine⟨(V.ref e::vr)[j],?_,?_⟩
   ·unfold start;rw[e_ (by rw[az];exact hj'),bP,aJ hj'];rfl
   ·rw[eB,aJ hj'];rfl
  match fs,hj,hl,h0,q with
  |(f,j)::r,hj,hl,h0,q=>
   obtain⟨v,h1,h2⟩:=hst j (hj (f,j) ay);refine⟨v,h1,.ref e,rfl,true,e,rfl,.inl ⟨he,fun d hd=>?_⟩⟩;have hde:d≠e:=fun z=>by rw[z,he]at hd;cases hd
   have q:=q d hd;simp only[lV]at q;rw[h2]at q;refine DX (vs:=.ref e::vr) hde rfl r [(f,v)] (fun p hp=>hst p.2 (hj p (aj _ hp))) ?_ q;simp only[aB,cN]at hl ⊢;omega
noncomputable def yX(H:Hp)(b:Addr):Hp:=fun c=>if c=b then none else H c
variable{b c:Addr}
theorem m9(h:c≠b):yX H b c=H c:=if_neg h
theorem Bs:yX H b b=none:=if_pos rfl
theorem rA(h:H c=none):yX H b c=none:=by
 unfold yX;split
 ·rfl
 ·exact h
variable{pins:List (Addr×Obj)}
theorem Inv.drop{φ:Heap->Prop}(I:Inv X pins O H s)(hx:H b=some (.ext φ)):Inv X pins O (yX H b) s:=by
 have ne:∀c o,H c=some o->(∀ψ,o≠.ext ψ)->c≠b:=fun c o q n z=>by subst z;rw[hx]at q;cases q;exact n φ rfl
 refine⟨I.ok,I.os,I.bare,⟨I.base.keep,I.base.slot,fun c o q n x=>rA (I.base.free c o q n x),I.base.there,fun c xs q=>?_,fun c o u q=>?_,fun c ps q=>?_⟩,I.loc,I.cell,rA I.free,fun x c q=>rA (I.freeC x c q),fun p hp=>?_,fun a o q=>?_,I.len⟩
 ·have z:=I.base.tups c xs q;rw[m9 (ne c _ z fun _ k=>nomatch k)];exact z
 ·have z:=I.base.aD c o u q;rw[m9 (ne c _ z fun _ k=>nomatch k)];exact z
 ·obtain⟨more,z⟩:=I.base.tbls c ps q;exact⟨more,by rw[m9 (ne c _ z fun _ k=>nomatch k)];exact z⟩
 ·obtain⟨h1,h2,h3⟩:=I.pin p hp;exact⟨h1,rA h2,h3⟩
 ·have hab:a≠b:=fun z=>by subst z;rw[Bs]at q;cases q
  rw[m9 hab]at q;refine(I.hok a o q).stay (fun _ _ _ z=>z) (fun c z=>?_) fun c xs z=>?_
  ·rw[m9 (ne c _ z fun _ k=>nomatch k)];exact z
  ·rw[m9 (ne c _ z fun _ k=>nomatch k)];exact z
structure F_ (K:PySem.W.Frag) (C fI:Addr):Prop extends xm K C where
 ini:PySem.W.findIn K (.ref C) "__init__"=some (some (.ref fI))
 fn:PySem.W.typeIn K (.ref fI)=some (.type "function")
 kp:PySem.W.keepIn K (.ref C)=true
 cls:∃nm q N bs B hdct sn sub ab col dd k0 k1 k2 k3 k5,K.lookup C=some (kq nm q C N bs (.ref B::[.type "ValueError",.type "Exception",.type "BaseException",.type "object"]) hdct sn sub ab col dd k0 k1 k2 k3 k5 "ValueError.__new__") /\
  ∃c0 dB cd sl c1 d1 es ep s1,K.lookup B=some ⟨c0,dB,.cls cd,sl⟩/\K.lookup cd.ns=some ⟨c1,d1,.dict es ep,s1⟩/\(es.all fun e=>match e.key with|.str _ _=>true|_=>false)=true/\Cf es "__init__"=none
theorem F_.at{fI:Addr}(c:F_ K C fI)(X:K.In h):∃nm q N bs bm hdct sn sub ab col dd k0 k1 k2 k3 k5,h.get? C=some (kq nm q C N bs bm hdct sn sub ab col dd k0 k1 k2 k3 k5 "ValueError.__new__") /\
  J_ h [.type "ValueError",.type "Exception",.type "BaseException",.type "object"] bm/\bm.contains (.type "BaseException")=true:=by
 obtain⟨nm,q,N,bs,B,hdct,sn,sub,ab,col,dd,k0,k1,k2,k3,k5,l,c0,dB,cd,sl,c1,d1,es,ep,s1,l1,l2,a,n⟩:=c.cls;refine⟨nm,q,N,bs,_,hdct,sn,sub,ab,col,dd,k0,k1,k2,k3,k5,X _ _ l,.own (mA:=fun x=>Cf es x) (X _ _ l1) ⟨_,es,ep,X _ _ l2,rfl,fun e he=>?_,fun _=>rfl⟩ n .base,by
  rw[qF,show([Value.type "ValueError",.type "Exception",.type "BaseException",.type "object"].contains (.type "BaseException"))=true from by decide +kernel,yO]⟩
 have:=Array.all_eq_true_iff_forall_mem.mp a e he;cases k:e.key with
 |str x t=>exact⟨x,t,rfl⟩
 |_=>rw[k]at this;cases this
variable{us:List Value}
variable{k:Nat}
variable{x:Str}{a:Expr}{as:List Expr}{ta:TA}{pos:Pos}
section
variable{X:Cx}{C fI:Addr}
theorem WE{aa4:LM}{env:Env}{x:Sem Value}{Q:Flow->ai->Prop}{nm q:Str}{N:Addr}{bs bm:List Value}{hdct:Bool}{sn:List Str}{sub:List Value}{ab:Bool}{col:Option Bool}{dd:Option Addr}{k0 k1 k2 k3 k5:Option Value}{newId:String}
  (hb:bm.contains (.type "BaseException")=true) (hh:A.handled=none)
  (h:aC aa4 A x (fun v aa_=>∃e od vs sl,v=.ref e/\aa_.heap.get? C=some (kq nm q C N bs bm hdct sn sub ab col dd k0 k1 k2 k3 k5 newId)/\aa_.heap.get? e=some ⟨.ref C,od,.fields vs,sl⟩/\vs[1]?=some .none/\E (.ref e) aa_) E s) :
  aC aa4 A (raiseStmt env (some x) none) Q E s:=by
 have hcB:(bu C::bm).contains (.type "BaseException")=true:=by rw[qF,hb,yO]
 unfold raiseStmt;refine ah (d8 h (fun v aa_ abe=>?_) fun _ _ x=>x);obtain⟨e,od,vs,sl,rfl,hC,he,h1,hE⟩:=abe;obtain⟨hp,g,d,tk,os⟩:=aa_
 repeat (first
  |with_reducible refine jE he ?_
  |with_reducible refine jE hC ?_
  |(with_reducible refine wZ hC ?_;rw[hcB])
  |wp_step)
 rw[h1];exact aR (aR (wpAny_raiseNew_none hh hE))
theorem Inv.YG(I:Inv X pins O H s):Inv X pins O (upd H (s.heap.objs.size+1) (jx true (s.heap.objs.size+1) C none)) { s with heap:=(s.heap.push (zM us)).push (zL C s.heap.objs.size) }:=by
 have I1:Inv X pins O H { s with heap:=s.heap.push (zM us) }:=I.kept (t':=s.toks) fun b u q=>aq _ q;have e2:((s.heap.push (zM us)).push (zL C s.heap.objs.size)).get? (s.heap.objs.size+1)=some (zL C s.heap.objs.size):=by
  have:=a7 (s.heap.push (zM us)) (o:=zL C s.heap.objs.size) rfl;rwa[cU]at this
 exact I1.laid (a:=s.heap.objs.size+1) (t':=s.toks) (fun b u q=>aq _ q) (yN (cU _ _)) (MB ⟨_,_,e2,rfl,rfl,rfl,rfl,fun _=>rfl⟩)
theorem MC{Q:Value->ai->Prop}(c:F_ X.K C fI)(F:fH X.prog X.w X.K X.mg X.base zK k fI fd ps (xo C fs ps.length))(hr:gO (k+1) X.A)
  (hb:Binds X.K fd ps []) (I:Inv X pins O H s) (r:bw vs us) (hl:vs.length+1=ps.length) (hps:ps.length<=1000)
  (h:∀d s',H d=none->Inv X pins O (upd (upd (upd H (s.heap.objs.size+1) (jx true (s.heap.objs.size+1) C none)) d (ic d (lV fs (.ref (s.heap.objs.size+1)::vs) []))) (s.heap.objs.size+1) (jx true (s.heap.objs.size+1) C (some d))) s'->d≠s.heap.objs.size+1->Q (.ref (s.heap.objs.size+1)) s') :
  aC (aF X.prog X.w) X.A (call (.ref C) us) Q X.xe s:=by
 obtain⟨nm,q,N,bs,bm,hdct,sn,sub,ab,col,dd,k0,k1,k2,k3,k5,hC,T,hbase⟩:=c.at I.fQ;have I2:=I.YG (C:=C) (us:=us);have lus:us.length=vs.length:=r.length.symm;have hz:us.length<=aa:=by
  rw[dH];omega
 obtain⟨hh,g,d,t,os⟩:=s;refine WB PySem.F.excBase_ValueError T hC I.fQ c.ini c.fn hz ?_;have r2:bw (V.ref (hh.objs.size+1)::vs) (bu (hh.objs.size+1)::us):=.cons rfl r;have hl2:(bu (hh.objs.size+1)::us++[]).length=ps.length:=by simp;omega
 have sp:xo C fs ps.length (V.ref (hh.objs.size+1)::vs) (upd H (hh.objs.size+1) (jx true (hh.objs.size+1) C none)) (fun v H2=>v=.non/\∃d,H d=none/\d≠hh.objs.size+1/\H2=upd (upd (upd H (hh.objs.size+1) (jx true (hh.objs.size+1) C none)) d (ic d (lV fs (.ref (hh.objs.size+1)::vs) []))) (hh.objs.size+1) (jx true (hh.objs.size+1) C (some d))) E0:=by
  refine⟨by simp;omega,_,_,rfl,bQ,fun d hd=>⟨rfl,d,?_,?_,rfl⟩⟩
  ·by_cases z:d=hh.objs.size+1
   ·subst z;rw[bQ]at hd;cases hd
   ·rw[aV z]at hd;exact hd
  ·intro z;subst z;rw[bQ]at hd;cases hd
 refine rN (iP (F.run _ X.stack _ _ ⟨bu (hh.objs.size+1)::us,[]⟩ (bu (hh.objs.size+1)::us) _ _ E0 (hr.make C us []) (I2.PF.make C us []) (by have:=hb _ (bu (hh.objs.size+1)::us) I2.fQ hl2;rwa[eZ]at this) r2 sp) fun r s' hq'=>?_);cases r with
 |error e=>exact hq'.elim
 |ok fl=>
  cases fl with
  |ret u=>
   obtain⟨v,H3,I3,rv,rfl,d,hd,hde,rfl⟩:=I2.after hq';cases(show u=cY from rv);exact⟨rfl,h d s' hd I3 hde⟩
  |next=>exact au hq'
  |brk=>exact au hq'
  |cont=>exact au hq'
theorem Ga{a b:V}:∀(fs:List (Str×Nat)) (acc:List (Str×V)),(∀p∈fs,1<=p.2)->lV fs (a::vs) acc=lV fs (b::vs) acc
|[],_,_=>rfl
|(f,j)::r,acc,h=>by
 have hj:1<=j:=h (f,j) ay
 match j,hj with
 |j+1,_=>
  show lV r (a::vs) (h_ f (vs.getD j .non) acc)=lV r (b::vs) (h_ f (vs.getD j .non) acc);exact Ga r _ fun p hp=>h p (aj _ hp)
def xq(C:Addr)(fs:List (Str×Nat))(n:Nat)(ta:TA)(E:XK):TS:=fun _ O H=>ta O H fun vs H1=>vs.length+1=n/\∀d,H1 d=none->E (.ref C) (some d) (upd H1 d (ic d (lV fs (.non::vs) [])))
theorem PX{E:XK}{np cpos:Pos}(c:F_ X.K C fI)(F:fH X.prog X.w X.K X.mg X.base zK k fI fd ps (xo C fs ps.length))(hr:gO (k+1) X.A)(hh:X.A.handled=none)
  (hb:Binds X.K fd ps []) (hps:ps.length<=1000) (hj:∀p∈fs,1<=p.2) (hg:Gl X x) (hm:X.mg x=some (.ref C)) (ha:PA (X.jk (ug X E)) (a::as) ta) (hdb:(x==("__debug__":Str))=false:=by decide)
  (he:cE (a::as) X.env=(false,eval a X.env)::cE as X.env) (hpl:(kc cpos (cE as X.env)).any (·.1)=false) :
  PS (X.jk (ug X E)) (.Raise (some (.Call (.Name x np) (a::as) [] cpos)) none pos) (xq C fs ps.length ta E):=by
 intro pins s O H D I h;obtain⟨nm,q,N,bs,B,hdct,sn,sub,ab,col,dd,k0,k1,k2,k3,k5,l,_⟩:=id c.cls;rw[arm_exec_Raise];refine ah (mV ?_);refine WE (C:=C) (nm:=nm) (q:=q) (N:=N) (bs:=bs) (hdct:=hdct) (sn:=sn) (sub:=sub) (ab:=ab) (col:=col) (dd:=dd) (k0:=k0) (k1:=k1) (k2:=k2) (k3:=k3) (k5:=k5) (bm:=.ref B::[.type "ValueError",.type "Exception",.type "BaseException",.type "object"]) (newId:="ValueError.__new__")
  (by rw[qF,show([Value.type "ValueError",.type "Exception",.type "BaseException",.type "object"].contains (.type "BaseException"))=true from by decide +kernel,yO]) hh ?_
 refine ah (d8 (dY (uG I hg hm ?_ hdb)) (fun v abg abk=>ah (mV (aR abk))) fun _ _ x=>x);refine PySem.W.callWith_K (h₀:=X.base) I.ok.mod.kin c.kp (aU (ha cpos pins s O H _ I h) fun us s1 ⟨vs,H1,I1,r,hl,q1⟩=>⟨I1.fQ,?_⟩) he hpl;refine MC (X:=X.jk (ug X E)) c F hr hb I1 r hl hps fun d s2 hd I2 hde=>?_;obtain⟨oe,ws,g1,g2,g3,g4,g5,g6⟩:=Kw I2.hok bQ;obtain⟨oc,od,oda,osl⟩:=oe;dsimp only at g2 g3 g4;subst g2 g3 g4;refine⟨_,_,ws,osl,rfl,I2.fQ _ _ l,g1,g6 rfl,?_⟩;have hn:H1 (s1.heap.objs.size+1)=none:=I1.hok.fresh (jv _);have eH:yX (upd (upd (upd H1 (s1.heap.objs.size+1) (jx true (s1.heap.objs.size+1) C none)) d (ic d (lV fs (.ref (s1.heap.objs.size+1)::vs) []))) (s1.heap.objs.size+1) (jx true (s1.heap.objs.size+1) C (some d))) (s1.heap.objs.size+1)=upd H1 d (ic d (lV fs (.non::vs) [])):=by
  rw[Ga (b:=.non) fs [] hj];funext b;by_cases z:b=s1.heap.objs.size+1
  ·subst z;rw[Bs,aV (cT hde),hn]
  ·rw[m9 z,aV z];by_cases z2:b=d
   ·subst z2;rw[bQ,bQ]
   ·rw[aV z2,aV z2,aV z]
 have I3:=I2.iH.drop (φ:=S8 true (s1.heap.objs.size+1) C (some d)) bQ;rw[eH]at I3;have hn2:(upd H1 d (ic d (lV fs (.non::vs) []))) (s1.heap.objs.size+1)=none:=by rw[aV (cT hde)];exact hn
 exact⟨false,_,C,some d,pins,O,_,rfl,I3,⟨⟨_,ws,.none,g1,rfl,rfl,rfl,g5,g6 rfl,.inl ⟨rfl,rfl⟩⟩,I1.iH.oX (jv _) hn2⟩,q1 d hd⟩
end
variable{sp:Sp}{dvs:List V}{ds:List Value}
section
variable{X:Cx}
def Ky(X:Cx)(pins:List (Addr×Obj))(O:St)(E:XK):Value->ai->Prop:=fun v s'=>∃e C od H',v=.ref e/\Inv X pins O H' s'/\F7 true X pins H' s' e C od (fun f=>f=.none)/\E (.ref C) od H'
def PB(X:Cx)(body:List Stmt)(t:XK->St->Hp->(Hp->Prop)->Prop):Prop:=∀(pins:List (Addr×Obj)) (s:ai) (O:St) (H:Hp) (E:XK) (nx:Hp->Prop),Inv X pins O H s->t E O H nx->
 aC (aF X.prog X.w) X.A (LN body X.env) (fun f s'=>f=.next/\∃H',Inv X pins O H' s'/\nx H') (Ky X pins O E) s
theorem UE{E:XK}{Q:VK}(F:fH X.prog X.w X.K X.mg X.base (jQ X.prog X.w) k f fd ps sp)(hr:gO k X.A)(hb:Binds X.K fd ps ds)(hd:bw dvs ds)
  (I:Inv X pins O H s) (r:bw vs us) (h:sp (vs++dvs) H Q E):aC (aF X.prog X.w) X.A (call (.ref f) us) (EP X pins O Q) (Ky X pins O E) s:=by
 have r2:bw (vs++dvs) (us++ds):=r.append hd;have hl:(us++ds).length=ps.length:=by rw[<-r2.length];exact F.len _ _ _ _ h
 refine rN (iP (F.run X.A X.stack s H ⟨us,[]⟩ (us++ds) (vs++dvs) Q E hr I.PF (hb s us I.fQ hl) r2 h) fun r s' hq=>?_);cases r with
 |error v=>
  obtain⟨e,C,od,H',rfl,os,bare,un,hok,x,q⟩:=hq;obtain⟨hh,g,d,t,os'⟩:=s';obtain rfl:os'=s.os:=os;have I1:Inv X pins O H' { s with heap:=hh,gens:=g,drawn:=d,toks:=t }:=I.call (h':=hh) (g':=g) (d':=d) (t':=t) (ch:=[]) un hok bare (fun b z=>absurd z (by simp));exact⟨e,C,od,H',rfl,I1,x.imp (fun b hb=>I.oX hb.2 hb.1) fun _ z=>z,q⟩
 |ok fl=>
  cases fl with
  |ret u=>exact I.after hq
  |next=>exact au hq
  |brk=>exact au hq
  |cont=>exact au hq
theorem aav{p epos:Pos}(F:fH X.prog X.w X.K X.mg X.base (jQ X.prog X.w) k f fd ps sp)(hr:gO k X.A)(hg:Gl X x)(hm:X.mg x=some (.ref f))(hk:PySem.W.keepIn X.K (.ref f)=true)
  (hb:Binds X.K fd ps ds) (hd:bw dvs ds) (ha:PA X.FL (a::as) ta) (hdb:(x==("__debug__":Str))=false:=by decide) (he:cE (a::as) X.env=(false,eval a X.env)::cE as X.env) (hpl:(kc pos (cE as X.env)).any (·.1)=false) :
  PB X [.Expr (.Call (.Name x p) (a::as) [] pos) epos] (fun E O H nx=>ta O H fun vs H1=>sp (vs++dvs) H1 (fun _ H2=>nx H2) E):=by
 intro pins s O H E nx I h;refine sX (Ds ?_ I.quiet rfl);refine d8 (?_:aC _ _ _ (EP X pins O fun _ H2=>nx H2) (Ky X pins O E) s) (fun v s' ⟨y,H',I',_,q⟩=>kI ⟨rfl,H',I',q⟩) fun _ _ z=>z;refine dY (uG I hg hm ?_ hdb);refine PySem.W.callWith_K (h₀:=X.base) I.ok.mod.kin hk (d8 (ha pos pins s O H _ (I.jk _) h) (fun us s1 ⟨vs,H1,I1,r,q⟩=>⟨I1.fQ,?_⟩) fun _ _ z=>au z) he hpl;exact UE F hr hb hd I1.iH r q
theorem pb_if{c:Expr}{a b:List Stmt}{tc:TT}{ta tb:XK->St->Hp->(Hp->Prop)->Prop}(hc:PT X.FL c tc)(ha:PB X a ta)(hb:PB X b tb):PB X [.If c a b pos] (fun E O H nx=>tc O H fun k H1=>if k=true then ta E O H1 nx else tb E O H1 nx):=by
 intro pins s O H E nx I h;refine sX (wpAny_If (d8 (hc pins s O H _ (I.jk _) h) (fun k s1 ⟨H1,I1,q⟩=>?_) fun _ _ z=>au z));have fin:∀{f:Flow}{s':ai},(f=.next/\∃H',Inv X pins O H' s'/\nx H')->(match f with|.next=>aC (aF X.prog X.w) X.A (LN [] X.env) (fun f s'=>f=.next/\∃H',Inv X pins O H' s'/\nx H') (Ky X pins O E) s'|f=>(f=.next/\∃H',Inv X pins O H' s'/\nx H')):=by
  rintro f s' ⟨rfl,q⟩;exact kI ⟨rfl,q⟩
 cases k with
 |true=>exact d8 (ha pins s1 O H1 E nx I1.iH q) (fun f s' z=>fin z) fun _ _ z=>z
 |false=>exact d8 (hb pins s1 O H1 E nx I1.iH q) (fun f s' z=>fin z) fun _ _ z=>z
end
end L2
end
section
namespace L3
open PySem PySem.Spec L2
inductive Bf where
 |len|all|any|int|str|abs|min
 deriving DecidableEq
noncomputable def Bf.name:Bf->Str
|.len=>"len"|.all=>"all"|.any=>"any"|.int=>"int"|.str=>"str"|.abs=>"abs"|.min=>"min"
inductive Mt where
 |append|startswith|split|count|index|join|extend
 deriving DecidableEq
noncomputable def Mt.name:Mt->Str
|.append=>"append"|.startswith=>"startswith"|.split=>"split"|.count=>"count"|.index=>"index"|.join=>"join"|.extend=>"extend"
inductive Ty where
 |int|bool|str|list|tuple|dict|none
 deriving DecidableEq
noncomputable def Ty.name:Ty->Str
|.int=>"int"|.bool=>"bool"|.str=>"str"|.list=>"list"|.tuple=>"tuple"|.dict=>"dict"|.none=>"NoneType"
mutual
inductive CE where
|var (i:Nat)
|con (v:V)
|glo (g:Nat)
|bin (op:j5) (a b:CE)
|neg (a:CE)
|nset (a:CE)
|not (a:CE)
|and (a b:CE)
|or (a b:CE)
|ite (c a b:CE)
|cmp (op:oF) (a b:CE)
|chain (o1 o2:oF) (a b c:CE)
|call (g:Nat) (as:i9)
|blt (f:Bf) (as:i9)
|isi (a:CE) (t:Ty)
|mth (m:Mt) (o:CE) (as:i9)
|ix (a b:CE)
|sl (a:CE) (lo hi:CO)
|lst (as:i9)
|tup (as:i9)
|fst (ps:List (Str×Nat))
|comp (nl:List Str) (fr:List Nat) (elt:CE) (tg:CG) (src:CI) (cond:CO)
|slp (a:CE) (lo hi:CO) (k:Int)
inductive i9 where
|nil
|cons (a:CE) (r:i9)
inductive CO where
|none
|some (a:CE)
inductive CG where
|name (i:Nat)
|tup (gs:qh)
|sub (o i:CE)
inductive qh where
|nil
|cons (g:CG) (r:qh)
inductive CI where
|seq (a:CE)
|range (as:i9)
|enum (a:CE)
|zip (as:i9)
end
inductive CB where
|call (g:Nat) (as:i9)
|ite (c:CE) (a b:CB)
mutual
inductive CS where
|expr (e:CE)
|asg (g:CG) (e:CE)
|casg (i:Nat) (e:CE)
|aug (i:Nat) (e:CE)
|tasg (g:CG) (e:CE)
|ret (e:CE)
|ifs (c:CE) (a b:b6)
|whil (c:CE) (b:b6)
|forr (g:CG) (src:CI) (b:b6)
|brk
|cont
|never
|rais (g:Nat) (as:i9)
inductive b6 where
|nil
|cons (s:CS) (r:b6)
|two (s t:CS) (r:b6)
end
noncomputable def qh.len:qh->Nat
|.nil=>0
|.cons _ r=>r.len+1
inductive G where
|val (v:V)
|tup (a:Addr) (xs:List V)
|fn (sp:Sp) (dvs:List V)
|cls (C:Addr) (fs:List (Str×Nat)) (n:Nat)
|nop
def DY(K:PySem.W.Frag)(a:Addr)(t:Bool)(xs:List V):Prop:=
 ∃(o:Obj) (its:Array Value) (n:Nat),K.lookup a=some o/\o.cls=.type (if t then "tuple" else "list")/\o.dict=none/\o.data=.seq its n/\its.size<=aa/\bw xs its.toList
noncomputable def CM(H:Hp)(a:Addr):Option (Bool×List V):=match H a with
|some (.lst xs)=>some (false,xs)
|some (.tup xs)=>some (true,xs)
|some (.bh _ (.lst xs))=>some (false,xs)
|some (.bh _ (.tup xs))=>some (true,xs)
|_=>none
def eE(K:PySem.W.Frag)(H:Hp)(a:Addr)(t:Bool)(xs:List V):Prop:=CM H a=some (t,xs)\/DY K a t xs
theorem tupS{K:PySem.W.Frag}{H:Hp}{a:Addr}{xs:List V}(h:H a=some (.tup xs)):eE K H a true xs:=.inl (by unfold CM;rw[h])
def uh(K:PySem.W.Frag)(H:Hp)(a:Addr)(k:Bool->List V->Prop):Prop:=∃t xs,eE K H a t xs/\k t xs
noncomputable def keyOf:V->Option Key
|.int i=>some (.inl i)
|.str x=>some (.inr x)
|_=>none
inductive D where
|non|bl (b:Bool)|int (i:Int)|str (x:Str)
|lst (o:Bool) (xs:List D)
|tup (xs:List D)
|cst (xs:List D)
|exc (C:Addr) (ks:List Str) (xs:List D)
mutual
noncomputable def bh:D->D
|.non=>.non
|.bl b=>.bl b
|.int i=>.int i
|.str x=>.str x
|.lst _ xs=>.lst false (aD xs)
|.tup xs=>.tup (aD xs)
|.cst xs=>.cst (aD xs)
|.exc C ks xs=>.exc C ks (aD xs)
noncomputable def aD:List D->List D
|[]=>[]
|d::r=>bh d::aD r
end
mutual
noncomputable def aX:D->Bool
|.lst o xs=>o&&cR xs
|.tup xs=>cR xs
|.cst _=>false
|.exc _ _ _=>false
|_=>true
noncomputable def cR:List D->Bool
|[]=>true
|d::r=>aX d&&cR r
end
mutual
noncomputable def jy:D->D->Bool
|.non,y=>match y with
 |.non=>true
 |_=>false
|.bl a,y=>match y with
 |.bl b=>a==b
 |.int j=>(if a then 1 else 0)==j
 |_=>false
|.int i,y=>match y with
 |.int j=>i==j
 |.bl b=>i==(if b then 1 else 0)
 |_=>false
|.str a,y=>match y with
 |.str b=>a==b
 |_=>false
|.lst _ xs,y=>match y with
 |.lst _ ys=>nJ xs ys
 |_=>false
|.tup xs,y=>match y with
 |.tup ys=>nJ xs ys
 |_=>false
|.cst _,_=>false
|.exc _ _ _,_=>false
noncomputable def nJ:List D->List D->Bool
|[],ys=>match ys with
 |[]=>true
 |_=>false
|x::xs,ys=>match ys with
 |y::ys=>jy x y&&nJ xs ys
 |[]=>false
end
mutual
noncomputable def l5:D->Nat->Bool
|.lst _ xs,n=>match n with
 |0=>false
 |n+1=>fK xs n
|.tup xs,n=>match n with
 |0=>false
 |n+1=>fK xs n
|.cst _,_=>false
|.exc _ _ _,_=>false
|_,_=>true
noncomputable def fK:List D->Nat->Bool
|[],_=>true
|d::r,n=>l5 d n&&fK r n
end
noncomputable def dm(d:D):Bool:=l5 d 12
noncomputable def jH(ds:List D):Bool:=fK ds 12
mutual
def aZ(K:PySem.W.Frag)(H:Hp):D->V->Prop
|.non,v=>v=.non
|.bl b,v=>v=.bl b
|.int i,v=>v=.int i
|.str x,v=>v=.str x/\x.length<=aa
|.lst _ ds,v=>∃a vs,v=.ref a/\Rd H a (.lst vs)/\vs.length<=aa/\aM K H ds vs
|.tup ds,v=>∃a vs,v=.ref a/\H a=some (.tup vs)/\vs.length<=aa/\aM K H ds vs
|.cst ds,v=>∃a vs,v=.ref a/\DY K a true vs/\vs.length<=aa/\aM K H ds vs
|.exc C ks ds,v=>∃e d vs,v=.ref e/\H e=some (jx false e C (some d))/\H d=some (ic d (ks.zip vs))/\aM K H ds vs
def aM(K:PySem.W.Frag)(H:Hp):List D->List V->Prop
|[],vs=>vs=[]
|d::ds,vs=>∃v r,vs=v::r/\aZ K H d v/\aM K H ds r
end
def PY(K:PySem.W.Frag)(op:j5)(x y:V)(H:Hp)(Q:VK):Prop:=match op,x,y with
|.Add,.int i,.int j=>Q (.int (i+j)) H
|.Sub,.int i,.int j=>Q (.int (i-j)) H
|.Mult,.int i,.int j=>uc i j/\Q (.int (i*j)) H
|.FloorDiv,.int i,.int j=>vt i j/\Q (.int (i / j)) H
|.Mod,.int i,.int j=>0<j/\Q (.int (i%j)) H
|.Add,.str i,.str j=>i.length+j.length<=aa/\Q (.str (i++j)) H
|.Mult,.str i,.int j=>(0<=j/\j<2 ^ 40/\i.length*j.toNat<=aa)/\Q (.str ⟨(aT j.toNat i.cps.toList).flatten.toArray⟩) H
|.RShift,.int i,.int j=>0<=j/\Q (.int (i / 2 ^ j.toNat)) H
|.Pow,.int i,.int j=>FO i j/\Q (.int (i ^ j.toNat)) H
|.Add,.ref a,.ref b=>(∃xs ys,Rd H a (.lst xs)/\Rd H b (.lst ys)/\xs.length+ys.length<=aa/\∀p,H p=none->Q (.ref p) (upd H p (.lst (xs++ys))))
  \/ (∃xs ys,eE K H a true xs/\eE K H b true ys/\xs≠[]/\ys≠[]/\xs.length+ys.length<=aa/\∀p,H p=none->Q (.ref p) (upd H p (.tup (xs++ys))))
|.Mult,.ref a,.int k=>∃xs,Rd H a (.lst xs)/\(-(2 ^ 63)<=k/\k<2 ^ 63)/\xs.length*k.toNat<=aa/\∀p,H p=none->Q (.ref p) (upd H p (.lst (aT k.toNat xs).flatten))
|_,_,_=>False
def aaB(H:Hp):V->Prop
|.ref a=>∃o,H a=some o
|_=>True
noncomputable def memD(x:D)(xs:List D):Bool:=xs.any fun y=>jy y x
def m_(K:PySem.W.Frag)(op:oF)(x y:V)(H:Hp)(Q:VK):Prop:=match op,x,y with
|.Lt,.int i,.int j=>Q (.bl (decide (i<j))) H
|.LtE,.int i,.int j=>Q (.bl (decide (i<=j))) H
|.Gt,.int i,.int j=>Q (.bl (decide (j<i))) H
|.GtE,.int i,.int j=>Q (.bl (decide (j<=i))) H
|.Lt,.str i,.str j=>Q (.bl (decide (i.cps.toList<j.cps.toList))) H
|.LtE,.str i,.str j=>Q (.bl (!decide (j.cps.toList<i.cps.toList))) H
|.Eq,x,y=>∃dx dy,aZ K H dx x/\aZ K H dy y/\dm dx=true/\dm dy=true/\Q (.bl (jy dx dy)) H
|.NotEq,x,y=>∃dx dy,aZ K H dx x/\aZ K H dy y/\dm dx=true/\dm dy=true/\Q (.bl (!jy dx dy)) H
|.Is,x,.non=>Q (.bl (decide (x=.non))) H
|.IsNot,x,.non=>Q (.bl (!decide (x=.non))) H
|.In,x,.ref a=>(∃t xs dx ds,eE K H a t xs/\aZ K H dx x/\aM K H ds xs/\dm dx=true/\jH ds=true/\Q (.bl (memD dx ds)) H)
  \/ ∃kvs k,Rd H a (.dK kvs)/\x=kV k/\Q (.bl (jU kvs k).isSome) H
|.NotIn,x,.ref a=>(∃t xs dx ds,eE K H a t xs/\aZ K H dx x/\aM K H ds xs/\dm dx=true/\jH ds=true/\Q (.bl (!memD dx ds)) H)
  \/ ∃kvs k,Rd H a (.dK kvs)/\x=kV k/\Q (.bl (!(jU kvs k).isSome)) H
|_,_,_=>False
def ku(K:PySem.W.Frag)(x:V)(H:Hp)(Q:Bool->Prop):Prop:=match x with
|.bl b=>Q b
|.non=>Q false
|.int i=>Q (i != 0)
|.str z=>z.length<=aa/\Q (z.length != 0)
|.ref a=>(uh K H a fun _ xs=>Q (!xs.isEmpty))\/∃kvs,H a=some (.dK kvs)/\Q (!kvs.isEmpty)
|_=>False
def Gb(K:PySem.W.Frag)(x y:V)(H:Hp)(Q:VK):Prop:=match x,y with
|.str z,.int i=>z.length<=aa/\∃c,fC z.cps.toList i=some c/\Q (.str ⟨#[c]⟩) H
|.ref a,y=>(∃t xs i v,y=.int i/\eE K H a t xs/\fC xs i=some v/\Q v H)\/(∃kvs k v,Rd H a (.dK kvs)/\y=kV k/\jU kvs k=some v/\Q v H)
  \/ ∃kvs k b v,Rd H a (.dT kvs)/\y=.ref b/\H b=some (.tup (k.map kV))/\jU kvs k=some v/\Q v H
|_,_=>False
noncomputable def cut{α:Type}(xs:List α)(lo hi:Option Int):List α:=(xs.drop (HT.jP xs.length 0 lo)).take (HT.jP xs.length xs.length hi-HT.jP xs.length 0 lo)
def S_(K:PySem.W.Frag)(x:V)(lo hi:Option Int)(H:Hp)(Q:VK):Prop:=match x with
|.str z=>z.length<=aa/\Q (.str ⟨(cut z.cps.toList lo hi).toArray⟩) H
|.ref a=>(uh K H a fun t xs=>t=false/\∀p,H p=none->Q (.ref p) (upd H p (.lst (cut xs lo hi))))
  \/ ∃(n:Nat) (xs:List V),eE K H a true xs/\lo=some (n:Int)/\hi=none/\1<=n/\n<=xs.length/\∀p,H p=none->Q (.ref p) (upd H p (.tup (xs.drop n)))
|_=>False
noncomputable def mH{α:Type}(xs:List α)(lo hi:Option Int)(k:Int):List α:=(v_ (fu lo hi (some k) xs.length).1 (fu lo hi (some k) xs.length).2.1 (fu lo hi (some k) xs.length).2.2).filterMap (xs[·]?)
def PZ(K:PySem.W.Frag)(x:V)(lo hi:Option Int)(k:Int)(H:Hp)(Q:VK):Prop:=match x with
|.ref a=>uh K H a fun t xs=>t=false/\(k≠0/\(mH xs lo hi k).length<=aa)/\∀p,H p=none->Q (.ref p) (upd H p (.lst (mH xs lo hi k)))
|_=>False
def wTrg(vs:List V)(H:Hp)(Q:VK):Prop:=match vs with
|[.int i,.int j]=>(-(2 ^ 62)<=i/\i<2 ^ 62/\-(2 ^ 62)<=j/\j<2 ^ 62/\(j-i).toNat<=2 ^ 24)/\∀p,H p=none->Q (.ref p) (upd H p (.tup ((bG (j-i).toNat).map fun(k:Nat)=>V.int (i+(k:Int)))))
|_=>False
noncomputable def nK:V->Bool
|.bl true=>true
|_=>false
noncomputable def YH:V->Bool
|.bl _=>true
|_=>false
noncomputable def aaC:V->Bool
|.int _=>true
|_=>false
noncomputable def yY(xs:List V):Bool:=xs.all YH
noncomputable def kL(i:Int):Str:=toString i
def Au(K:PySem.W.Frag)(f:Bf)(vs:List V)(H:Hp)(Q:VK):Prop:=match f,vs with
|.len,[.str z]=>z.length<=aa/\Q (.int z.length) H
|.len,[.ref a]=>(uh K H a fun _ xs=>Q (.int xs.length) H)\/∃kvs,Rd H a (.dK kvs)/\Q (.int kvs.length) H
|.all,[.ref a]=>uh K H a fun t xs=>t=false/\yY xs=true/\Q (.bl (xs.all nK)) H
|.any,[.ref a]=>uh K H a fun t xs=>t=false/\yY xs=true/\Q (.bl (xs.any nK)) H
|.int,[.int i]=>Q (.int i) H
|.int,[.bl b]=>Q (.int (if b then 1 else 0)) H
|.abs,[.int i]=>Q (.int (if i<0 then -i else i)) H
|.min,[.int i,.int j]=>Q (.int (if j<i then j else i)) H
|.int,[.str z]=>z.length<=640/\∃n,intText? z=some n/\Q (.int n) H
|.str,[.int i]=>i.natAbs.log2<1920/\Q (.str (kL i)) H
|_,_=>False
def sA(K:PySem.W.Frag)(t:Ty)(x:V)(H:Hp)(Q:Bool->Prop):Prop:=match x with
|.non=>Q false
|.bl _=>Q (decide (t=.bool)||decide (t=.int))
|.int _=>Q (decide (t=.int))
|.str _=>Q (decide (t=.str))
|.ref a=>(∃xs,Rd H a (.lst xs)/\Q (decide (t=.list)||decide (t=.none)))\/(∃xs,eE K H a true xs/\Q (decide (t=.tuple)||decide (t=.none)))\/∃kvs,Rd H a (.dK kvs)/\Q (decide (t=.dict))
|_=>False
noncomputable def c_(c:Nat):List Nat->List (List Nat)
|[]=>[[]]
|x::r=>if x=c then[]::c_ c r else match c_ c r with
 |h::t=>(x::h)::t
 |[]=>[[x]]
noncomputable def strOf(l:List Nat):Str:=⟨l.toArray⟩
def jA(H:Hp)(a:Addr):Prop:=match H a with
|some (.lst _)=>True
|_=>False
def Tc(H:Hp)(a:Addr):Prop:=match H a with
|some (.dK _)=>True
|some (.dT _)=>True
|_=>False
def tG(m:Mt)(x:V)(H:Hp):Prop:=match m,x with
|.append,.ref a=>jA H a
|.extend,.ref a=>jA H a
|.join,.str _=>True
|.startswith,.str _=>True
|.split,.str _=>True
|.count,.ref a=>∃xs,Rd H a (.lst xs)
|.index,.ref a=>∃xs,Rd H a (.lst xs)
|.count,.str _=>True
|.index,.str _=>True
|_,_=>False
def vv(K:PySem.W.Frag)(m:Mt)(x:V)(vs:List V)(H:Hp)(Q:VK):Prop:=match m,x,vs with
|.append,.ref l,[y]=>match H l with
 |some (.lst xs)=>xs.length<aa/\Q .non (upd H l (.lst (xs++[y])))
 |_=>False
|.extend,.ref l,[.ref b]=>match H l with
 |some (.lst xs)=>∃zs,H b=some (.lst zs)/\xs.length+zs.length<=aa/\Q .non (upd H l (.lst (xs++zs)))
 |_=>False
|.join,.str x,[.ref a]=>uh K H a fun t xs=>t=false/\∃ss:List Str,xs=ss.map V.str/\(ss.map (·.length)).sum+ss.length*x.length<=aa/\Q (.str (ee x ss)) H
|.startswith,.str x,[.str y]=>Q (.bl (y.cps.toList.isPrefixOf x.cps.toList)) H
|.split,.str x,[.str y]=>y.length=1/\x.length+2<=aa/\∀p,H p=none->Q (.ref p) (upd H p (.lst ((c_ (y.cps.getD 0 0) x.cps.toList).map fun l=>V.str (strOf l))))
|.count,.ref l,[.bl k]=>∃bs:List Bool,Rd H l (.lst (bs.map V.bl))/\Q (.int (bs.count k)) H
|.index,.ref l,[.bl k]=>∃bs:List Bool,Rd H l (.lst (bs.map V.bl))/\k∈bs/\Q (.int (bs.idxOf k)) H
|.count,.str x,[.str y]=>y.length=1/\x.length<=aa/\Q (.int (x.cps.toList.count (y.cps.getD 0 0))) H
|.index,.str x,[.str y]=>y.length=1/\x.length<=aa/\(y.cps.getD 0 0)∈x.cps.toList/\Q (.int (x.cps.toList.idxOf (y.cps.getD 0 0))) H
|.split,.str x,[]=>(x.length<=aa/\(gW x).length<=aa)/\∀p,H p=none->Q (.ref p) (upd H p (.lst ((gW x).map V.str)))
|_,_,_=>False
inductive Item where
|v (x:V)
|tup (xs:List V)
def mkItem(it:Item)(H:Hp)(k:V->Hp->Prop):Prop:=match it with
|.v x=>k x H
|.tup xs=>∀p,H p=none->k (.ref p) (upd H p (.tup xs))
noncomputable def mJ:Nat->List V->List Item
|_,[]=>[]
|n,x::r=>.tup [.int (n:Int),x]::mJ (n+1) r
noncomputable def qH:List V->List V->List Item
|x::xs,y::ys=>.tup [x,y]::qH xs ys
|_,_=>[]
def wZip(x y:V)(H:Hp)(k:(Hp->Prop)->List Item->Hp->Prop):Prop:=∃a b xs ys,x=.ref a/\y=.ref b/\Rd H a (.lst xs)/\Rd H b (.lst ys)/\k (fun H'=>Rd H' a (.lst xs)/\Rd H' b (.lst ys)) (qH xs ys) H
def YI(K:PySem.W.Frag)(x y:V)(H:Hp)(k:(Hp->Prop)->List Item->Hp->Prop):Prop:=∃a b xs ys,x=.ref a/\y=.ref b/\eE K H a true xs/\eE K H b true ys/\k (fun H'=>eE K H' a true xs/\eE K H' b true ys) (qH xs ys) H
def Kz(K:PySem.W.Frag)(vs:List V)(H:Hp)(k:(Hp->Prop)->List Item->Hp->Prop):Prop:=match vs with
|[x,y]=>wZip x y H k\/YI K x y H k
|_=>False
noncomputable abbrev Td:=St->Hp->((Hp->Prop)->List Item->Hp->Prop)->Prop
def forL(ok:Hp->Prop)(g:TG)(body:TS)(D:Ends):List Item->St->Hp->Prop
|[],O,H=>ok H/\D.nx O H
|it::r,O,H=>ok H/\mkItem it H fun x H1=>g x O H1 fun σ2 H2=>body { D with nx:=forL ok g body D r,ct:=forL ok g body D r,bk:=D.nx } σ2 H2
def rB(ok:Hp->Prop)(g:TG)(cond:TT)(elt:TE)(k:List V->Hp->Prop):List Item->List V->St->Hp->Prop
|[],acc,_,H=>ok H/\k acc H
|it::r,acc,O,H=>ok H/\acc.length<aa/\mkItem it H fun x H1=>g x O H1 fun σ2 H2=>cond σ2 H2 fun b H3=>
  if b=true then elt σ2 H3 fun y H4=>rB ok g cond elt k r (acc++[y]) σ2 H4 else rB ok g cond elt k r acc σ2 H3
noncomputable def chars(z:Str):List V:=z.cps.toList.map fun c=>V.str ⟨#[c]⟩
def CN(K:PySem.W.Frag)(x:V)(H:Hp)(k:(Hp->Prop)->List Item->Hp->Prop):Prop:=match x with
|.str z=>z.length<=aa/\k (fun _=>True) ((chars z).map .v) H
|.ref a=>uh K H a fun t xs=>k (fun H'=>eE K H' a t xs) (xs.map .v) H
|_=>False
def xr(vs:List V)(H:Hp)(k:(Hp->Prop)->List Item->Hp->Prop):Prop:=match vs with
|[.int j]=>(-(2 ^ 62)<=j/\j<2 ^ 62)/\k (fun _=>True) ((bG j.toNat).map fun(i:Nat)=>Item.v (.int (i:Int))) H
|[.int i,.int j]=>(-(2 ^ 62)<=i/\i<2 ^ 62/\-(2 ^ 62)<=j/\j<2 ^ 62)/\k (fun _=>True) ((bG (j-i).toNat).map fun(n:Nat)=>Item.v (.int (i+(n:Int)))) H
|_=>False
def lF(O:St)(i:Nat)(k:V->Prop):Prop:=match O[i]? with
|some (some v)=>k v
|_=>False
noncomputable def nL(ss:List Str):List Str:=ss.foldl lX []
noncomputable def vz:V->Option Str
|.str x=>some x
|.int i=>if i.natAbs.log2<1920 then some (kL i)else none
|_=>none
noncomputable def uK(O:L2.St):List (Str×Nat)->Str->Option Str
|[],a=>some a
|p::r,a=>match O[p.2]? with
 |some (some v)=>(vz v).bind fun y=>uK O r (a++p.1++y)
 |_=>none
def Te(x:V)(H:Hp)(Q:VK):Prop:=∃b ss,x=.ref b/\Rd H b (.lst (ss.map V.str))/\ss.length<4000/\Q (.int (nL ss).length) H
mutual
def wE(K:PySem.W.Frag)(M:List G)(E:XK):CE->TE
|.var i=>fun O H Q=>lF O i fun v=>Q v H
|.con v=>fun _ H Q=>Q v H
|.glo g=>fun _ H Q=>match M[g]? with
 |some (.val v)=>Q v H
 |some (.tup a _)=>Q (.ref a) H
 |_=>False
|.bin op a b=>fun O H Q=>wE K M E a O H fun x H1=>wE K M E b O H1 fun y H2=>PY K op x y H2 Q
|.nset a=>fun O H Q=>wE K M E a O H fun x H1=>Te x H1 Q
|.neg a=>fun O H Q=>wE K M E a O H fun x H1=>match x with
 |.int i=>Q (.int (-i)) H1
 |_=>False
|.not a=>fun O H Q=>wE K M E a O H fun x H1=>ku K x H1 fun b=>Q (.bl (!b)) H1
|.and a b=>fun O H Q=>wE K M E a O H fun x H1=>match x with
 |.bl c=>if c=true then wE K M E b O H1 Q else Q (.bl false) H1
 |_=>False
|.or a b=>fun O H Q=>wE K M E a O H fun x H1=>match x with
 |.bl c=>if c=true then Q (.bl true) H1 else wE K M E b O H1 Q
 |_=>False
|.ite c a b=>fun O H Q=>wT K M E c O H fun k H1=>if k=true then wE K M E a O H1 Q else wE K M E b O H1 Q
|.cmp op a b=>fun O H Q=>wE K M E a O H fun x H1=>wE K M E b O H1 fun y H2=>m_ K op x y H2 Q
|.chain o1 o2 a b c=>fun O H Q=>wE K M E a O H fun x H1=>wE K M E b O H1 fun y H2=>m_ K o1 x y H2 fun z H3=>match z with
 |.bl k=>if k=true then wE K M E c O H3 fun u H4=>m_ K o2 y u H4 Q else Q (.bl false) H3
 |_=>False
|.call g as=>fun O H Q=>match M[g]? with
 |some (.fn sp dvs)=>wEs K M E as O H fun vs H1=>sp (vs++dvs) H1 Q E
 |_=>False
|.blt f as=>fun O H Q=>wEs K M E as O H fun vs H1=>Au K f vs H1 Q
|.isi a t=>fun O H Q=>wE K M E a O H fun x H1=>sA K t x H1 fun b=>Q (.bl b) H1
|.mth m o as=>fun O H Q=>wE K M E o O H fun x H1=>tG m x H1/\wEs K M E as O H1 fun vs H2=>vv K m x vs H2 Q
|.ix a b=>fun O H Q=>wE K M E a O H fun x H1=>wE K M E b O H1 fun y H2=>Gb K x y H2 Q
|.sl a lo hi=>fun O H Q=>wE K M E a O H fun x H1=>wO K M E lo O H1 fun l H2=>wO K M E hi O H2 fun h H3=>S_ K x l h H3 Q
|.lst as=>fun O H Q=>wEs K M E as O H fun vs H1=>vs.length<=aa/\∀p,H1 p=none->Q (.ref p) (upd H1 p (.lst vs))
|.tup as=>fun O H Q=>wEs K M E as O H fun vs H1=>vs.length<=aa/\∀p,H1 p=none->Q (.ref p) (upd H1 p (.tup vs))
|.fst ps=>fun O H Q=>∃y,uK O ps eU=some y/\y.length<=aa/\Q (.str y) H
|.comp nl fr elt tg src cond=>fun O H Q=>wI K M E src O H fun ok items H1=>
  rB ok (wG K M E0 tg) (wC K M E0 cond) (wE K M E0 elt) (fun vs H2=>∀p,H2 p=none->Q (.ref p) (upd H2 p (.lst vs))) items [] (nl.map (fun _=>none)++fr.map (fun i=>O.getD i none)) H1
|.slp a lo hi k=>fun O H Q=>wE K M E a O H fun x H1=>wO K M E lo O H1 fun l H2=>wO K M E hi O H2 fun h H3=>PZ K x l h k H3 Q
def wT(K:PySem.W.Frag)(M:List G)(E:XK):CE->TT
|.not a=>fun O H Q=>wT K M E a O H fun b H1=>Q (!b) H1
|.and a b=>fun O H Q=>wT K M E a O H fun c H1=>if c=true then wT K M E b O H1 Q else Q false H1
|.or a b=>fun O H Q=>wT K M E a O H fun c H1=>if c=true then Q true H1 else wT K M E b O H1 Q
|.ite c a b=>fun O H Q=>wT K M E c O H fun k H1=>if k=true then wT K M E a O H1 Q else wT K M E b O H1 Q
|.cmp op a b=>fun O H Q=>wE K M E a O H fun x H1=>wE K M E b O H1 fun y H2=>m_ K op x y H2 fun z H3=>match z with
 |.bl k=>Q k H3
 |_=>False
|.chain o1 o2 a b c=>fun O H Q=>wE K M E a O H fun x H1=>wE K M E b O H1 fun y H2=>m_ K o1 x y H2 fun z H3=>match z with
 |.bl k=>if k=true then wE K M E c O H3 fun u H4=>m_ K o2 y u H4 fun z H5=>match z with
  |.bl k=>Q k H5
  |_=>False
  else Q false H3
 |_=>False
|.var i=>fun O H Q=>lF O i fun v=>ku K v H fun b=>Q b H
|.ix a b=>fun O H Q=>wE K M E a O H fun x H1=>wE K M E b O H1 fun y H2=>Gb K x y H2 fun v H3=>ku K v H3 fun b=>Q b H3
|.call g as=>fun O H Q=>match M[g]? with
 |some (.fn sp dvs)=>wEs K M E as O H fun vs H1=>sp (vs++dvs) H1 (fun x H2=>ku K x H2 fun b=>Q b H2) E
 |_=>False
|.blt f as=>fun O H Q=>wEs K M E as O H fun vs H1=>Au K f vs H1 fun x H2=>ku K x H2 fun b=>Q b H2
|.isi a t=>fun O H Q=>wE K M E a O H fun x H1=>sA K t x H1 fun b=>ku K (.bl b) H1 fun b=>Q b H1
|.mth m o as=>fun O H Q=>wE K M E o O H fun x H1=>tG m x H1/\wEs K M E as O H1 fun vs H2=>vv K m x vs H2 fun y H3=>ku K y H3 fun b=>Q b H3
|_=>fun _ _ _=>False
def wEs(K:PySem.W.Frag)(M:List G)(E:XK):i9->TA
|.nil=>fun _ H Q=>Q [] H
|.cons a r=>fun O H Q=>wE K M E a O H fun x H1=>wEs K M E r O H1 fun xs H2=>Q (x::xs) H2
def wO(K:PySem.W.Frag)(M:List G)(E:XK):CO->St->Hp->(Option Int->Hp->Prop)->Prop
|.none=>fun _ H Q=>Q none H
|.some a=>fun O H Q=>wE K M E a O H fun x H1=>match x with
 |.int i=>Q (some i) H1
 |_=>False
def wC(K:PySem.W.Frag)(M:List G)(E:XK):CO->TT
|.none=>fun _ H Q=>Q true H
|.some a=>wT K M E a
def wG(K:PySem.W.Frag)(M:List G)(E:XK):CG->TG
|.name i=>fun v O H Q=>Q (O.set i (some v)) H
|.tup gs=>fun v O H Q=>match v with
 |.ref a=>uh K H a fun t xs=>t=true/\xs.length=gs.len/\Jr K M E gs xs O H Q
 |_=>False
|.sub o i=>fun v O H Q=>wE K M E o O H fun x H1=>wE K M E i O H1 fun y H2=>match x with
 |.ref a=>match H2 a with
  |some (.lst xs)=>∃k j,y=.int k/\gY xs.length k=some j/\Q O (upd H2 a (.lst (xs.set j v)))
  |some (.dK kvs)=>∃k,y=kV k/\kvs.length<aa/\Q O (upd H2 a (.dK (putK kvs k v)))
  |some (.dT kvs)=>∃k b,y=.ref b/\H2 b=some (.tup (k.map kV))/\kvs.length<aa/\Q O (upd H2 a (.dT (putK kvs k v)))
  |_=>False
 |_=>False
def Jr(K:PySem.W.Frag)(M:List G)(E:XK):qh->zF
|.nil=>fun vs O H Q=>match vs with
 |[]=>Q O H
 |_=>False
|.cons g r=>fun vs O H Q=>match vs with
 |v::vr=>wG K M E g v O H fun σ' H'=>Jr K M E r vr σ' H' Q
 |_=>False
def wI(K:PySem.W.Frag)(M:List G)(E:XK):CI->Td
|.seq a=>fun O H k=>wE K M E a O H fun x H1=>CN K x H1 k
|.range as=>fun O H k=>wEs K M E as O H fun vs H1=>xr vs H1 k
|.zip as=>fun O H k=>wEs K M E as O H fun vs H1=>Kz K vs H1 k
|.enum a=>fun O H k=>wE K M E a O H fun x H1=>match x with
 |.ref b=>∃xs,Rd H1 b (.lst xs)/\k (fun H'=>Rd H' b (.lst xs)) (mJ 0 xs) H1
 |_=>False
end
def wB(K:PySem.W.Frag)(M:List G):CB->XK->St->Hp->(Hp->Prop)->Prop
|.call g as=>fun E O H nx=>match M[g]? with
 |some (.fn sp dvs)=>wEs K M E0 as O H fun vs H1=>sp (vs++dvs) H1 (fun _ H2=>nx H2) E
 |_=>False
|.ite c a b=>fun E O H nx=>wT K M E0 c O H fun k H1=>if k=true then wB K M a E O H1 nx else wB K M b E O H1 nx
mutual
def wS(K:PySem.W.Frag)(M:List G)(E:XK):CS->TS
|.expr e=>fun D O H=>wE K M E e O H fun _ H1=>D.nx O H1
|.asg g e=>fun D O H=>wE K M E e O H fun x H1=>wG K M E g x O H1 D.nx
|.casg i e=>fun D O H=>wE K M E e O H fun x H1=>D.nx (O.set i (some x)) H1
|.aug i e=>L2.V9 i (wE K M E e) (L2.Zv fun i j=>i+j)
|.tasg g e=>fun D O H=>wE K M E e O H fun x H1=>wG K M E g x O H1 D.nx
|.ret e=>fun D O H=>wE K M E e O H D.rt
|.ifs c a b=>fun D O H=>wT K M E c O H fun k H1=>if k=true then wSs K M E a D O H1 else wSs K M E b D O H1
|.whil c b=>fun D O H=>∃W:Nat->St->Hp->Prop,(∃m,W m O H)/\∀m O H,W m O H->
  wT K M E c O H fun k H1=>if k=true then ∃N:St->Hp->Prop,(∀σ' H',N σ' H'->∃m',m'<m/\W m' σ' H')/\wSs K M E b { D with nx:=N,ct:=N,bk:=D.nx } O H1 else D.nx O H1
|.forr g src b=>fun D O H=>wI K M E src O H fun ok items H1=>forL ok (wG K M E g) (wSs K M E b) D items O H1
|.brk=>fun D O H=>D.bk O H
|.cont=>fun D O H=>D.ct O H
|.never=>fun _ _ _=>False
|.rais g as=>fun D O H=>match M[g]? with
 |some (.cls C fs n)=>xq C fs n (wEs K M E as) E D O H
 |_=>False
def wSs(K:PySem.W.Frag)(M:List G)(E:XK):b6->TS
|.nil=>fun D O H=>D.nx O H
|.cons s r=>fun D O H=>wS K M E s { D with nx:=wSs K M E r D } O H
|.two s t r=>fun D O H=>wS K M E s { D with nx:=wS K M E t { D with nx:=wSs K M E r D } } O H
end
end L3
end
section
namespace L3
open PySem PySem.Spec PyProof.Rows L2
variable{K:PySem.W.Frag}{H:Hp}{a:Addr}{xs:List V}
theorem eE.sq{t:Bool}(h:eE K H a t xs):(t=false/\gy K H a xs)\/(t=true/\kD K H a xs):=by
 rcases h with h|⟨o,its,n,hk,hc,hd,hs,hz,r⟩
 ·unfold CM at h;split at h<;>first|(cases h)|skip
  ·exact .inl ⟨rfl,.inl (.inl (by assumption))⟩
  ·exact .inr ⟨rfl,.inl (.inl (by assumption))⟩
  ·exact .inl ⟨rfl,.inl (.inr ⟨_,by assumption⟩)⟩
  ·exact .inr ⟨rfl,.inl (.inr ⟨_,by assumption⟩)⟩
 ·cases t with
  |false=>exact .inl ⟨rfl,.inr ⟨o,its,n,hk,hc,hd,hs,hz,r⟩⟩
  |true=>exact .inr ⟨rfl,.inr ⟨o,its,n,hk,hc,hs,hz,r⟩⟩
theorem eE.lW(h:eE K H a true xs):kD K H a xs:=by
 rcases h.sq with⟨z,_⟩|⟨_,z⟩
 ·cases z
 ·exact z
theorem eE.Js(h:eE K H a false xs):gy K H a xs:=by
 rcases h.sq with⟨_,z⟩|⟨z,_⟩
 ·exact z
 ·cases z
variable{pins:List (Addr×Obj)}{O:L2.St}{s:ai}
variable{A:cC}
variable{b:Addr}{its its2:List Value}{ds es:List D}
variable{h:Heap}
variable{dx:D}
section
variable{X:Cx}
theorem toList_replicate(j:Nat)(x:Str):(⟨(aT j x.cps).foldl (·++·) #[]⟩:Str)=⟨(aT j x.cps.toList).flatten.toArray⟩:=by
 have h:∀(j:Nat) (acc:Array Nat),((aT j x.cps).foldl (·++·) acc)=acc++(aT j x.cps.toList).flatten.toArray:=by
  intro j;induction j with
  |zero=>intro acc;simp
  |succ j ih=>
   intro acc;rw[bX,Cn,ih,bX,cQ];apply Array.ext';simp
 rw[h];simp
theorem KA:iZ X (gn .Mult) (fun x y H Q=>∃i j,x=.str i/\y=.int j/\(0<=j/\j<2 ^ 40/\i.length*j.toNat<=aa)/\Q (.str ⟨(aT j.toNat i.cps.toList).flatten.toArray⟩) H):=by
 intro pins s O H x y v u Q I rx ry h;obtain⟨i,j,rfl,rfl,⟨h0,h1,h2⟩,q⟩:=h;obtain⟨t,rfl⟩:=rx;obtain⟨t',rfl⟩:=ry;have hs:aa=16777216:=dH;refine SB.mul ⟨?_,fun hn hc=>?_,fun hn hc=>?_⟩ fun t' k=>⟨.str (Ka i j),H,I.tok _,⟨_,rfl⟩,?_⟩
 ·have e1:decide (j < -(2 ^ 63:Int))=false:=decide_eq_false (by omega);have e2:decide (j≥2 ^ 63)=false:=decide_eq_false (by omega);rw[e1,e2];rfl
 ·have hj:0<j:=by omega
  intro hgt;have h3:(2 ^ 63-1) / j<(i.length:Int):=hgt;have h4:(2 ^ 63-1:Int)<(i.length:Int)*j:=(Int.ediv_lt_iff_lt_mul hj).mp h3;have h5:((i.length*j.toNat:Nat):Int)=(i.length:Int)*j:=by
   rw[Int.natCast_mul,Int.toNat_of_nonneg h0]
  omega
 ·unfold L0;simp only[decide_eq_false_iff_not];omega
 ·have e:Ka i j=⟨(aT j.toNat i.cps.toList).flatten.toArray⟩:=by
   unfold Ka;by_cases h3:j<1
   ·have:j.toNat=0:=by omega
    rw[if_pos h3,this];rfl
   ·rw[if_neg h3];by_cases h4:(j==1||i.length==0)=true
    ·rw[if_pos h4];rw[oJ]at h4;rcases h4 with h4|h4
     ·have:j=1:=by simpa using h4
      subst this;simp
     ·have h5:i.length=0:=by simpa using h4
      have h6:i.cps.toList=[]:=by
       apply gx;simpa[fY]using h5
      rw[h6];cases i with
      |mk c=>
       simp at h6;subst h6;simp
    ·rw[if_neg h4,toList_replicate]
  rw[e];exact q
theorem Inv.WG{l:Addr}(I:L2.Inv X pins O H s)(hH:Rd H l (.lst xs)):xs.length<=aa/\∃(its:List Value) (n:Nat),bw xs its/\xs.length=its.length/\s.heap.get? l=some { cls:=.type "list",data:=.seq its.toArray n }:=by
 obtain⟨z,its,n,r,e⟩:=hH.ok I.hok;exact⟨z,its,n,r,r.length,e⟩
theorem op_cat':iZ X (gn .Add) (fun x y H Q=>∃l b xs zs,x=.ref l/\y=.ref b/\Rd H l (.lst xs)/\Rd H b (.lst zs)/\xs.length+zs.length<=aa/\∀p,H p=none->Q (.ref p) (upd H p (.lst (xs++zs)))):=by
 intro pins s O H x y v u Q I rx ry h;obtain⟨l,b,xs,zs,rfl,rfl,hH,hB,hz,q⟩:=h;cases rx;cases ry;obtain⟨z,its,n,r,hl,e⟩:=Inv.WG I hH;obtain⟨z2,its2,n2,r2,hl2,e2⟩:=Inv.WG I hB;refine PySem.P.add_list e e2 ?_ (by rw[aQ,aQ];omega);have ea:its.toArray++its2.toArray=(its++its2).toArray:=by simp
 rw[ea];exact⟨.ref _,_,I.Kr (t':=s.toks) (r.append r2) (by rw[ak];omega),rfl,q _ I.fresh⟩
theorem op_rep':iZ X (gn .Mult) (fun x y H Q=>∃l k xs,x=.ref l/\y=.int k/\Rd H l (.lst xs)/\-(2 ^ 63)<=k/\k<2 ^ 63/\xs.length*k.toNat<=aa/\∀p,H p=none->Q (.ref p) (upd H p (.lst (aT k.toNat xs).flatten))):=by
 intro pins s O H x y v u Q I rx ry h;obtain⟨l,k,xs,rfl,rfl,hH,h1,h2,hz,q⟩:=h;cases rx;obtain⟨t,rfl⟩:=ry;obtain⟨z,its,n,r,hl,e⟩:=Inv.WG I hH;have hlen:its.toArray.size*k.toNat<=aa:=by rw[aQ,<-hl];exact hz
 have hcap:¬its.toArray.size*k.toNat>(2 ^ 63-1) / 8:=by
  have:(aa:Nat)<=(2 ^ 63-1) / 8:=by decide
  omega
 have hfit:¬(!E_ k)=true:=by
  rw[fitsIndex_both h1 h2];exact aY
 have hlong:¬iR (its.toArray.size*k.toNat)=true:=by
  rw[FZ hlen];exact aY
 have hnew:Cm (fun x1 x2=>x1++x2) #[] (aT (if its.toArray.isEmpty=true then 0 else k.toNat) its.toArray)=(aT k.toNat its).flatten.toArray:=by
  have f0:∀m:Nat,Cm (fun x1 x2=>x1++x2) #[] (aT m its.toArray)=(aT m its).flatten.toArray:=fun m=>by
   have:=foldl_rep its m [];rw[kJ]at this;exact this
  rw[f0];cases its with
  |nil=>simp
  |cons a r'=>rw[if_neg (by simp)]
 refine wpAny_binaryOp_repeat_ref (T:="list") (U:="int") (by decide) ⟨_,e,rfl⟩ (fun s'=>Ck s' k t) noFill_list_mul F.fills_int_mul F.slot_int_rmul repeat_list F.slot_int_index.lookup
  (gq F.slot_int_rmul (Ck s k t) F.entry_int_rmul (F.args_int_rmul_2 _ _) (int___rmul___int_list k t l its.toArray n)
   ⟨e,rfl,⟨_,e,rfl⟩,gq F.slot_list_mul ⟨_,e,rfl⟩ F.entry_list_mul (F.args_list_mul_2 _ _) (Ak l its.toArray n k t hfit hcap hlong) ⟨e,?_⟩⟩)
 rw[hnew];exact⟨.ref _,_,I.Kr (t':=s.toks) (r.rep k.toNat) (by rw[len_rep,Ig];exact hz),rfl,q _ I.fresh⟩
theorem YJ(op:j5):iZ X (gn op) (PY X.K op):=by
 intro pins s O H x y v u Q I rx ry h;cases op<;>first|(cases x<;>first|exact au h|(cases y<;>exact au h))|skip
 case Add=>
  cases x<;>first|exact au h|(cases y<;>first|exact au h|skip)
  ·exact Wg pins s O H _ _ v u Q I rx ry ⟨_,_,rfl,rfl,h⟩
  ·exact Kl pins s O H _ _ v u Q I rx ry ⟨_,_,rfl,rfl,h⟩
  ·rcases h with⟨xs,ys,h1,h2,h3,h4⟩|⟨xs,ys,h1,h2,h3,h4,h5,h6⟩
   ·exact op_cat' pins s O H _ _ v u Q I rx ry ⟨_,_,xs,ys,rfl,rfl,h1,h2,h3,h4⟩
   ·have t1:=h1.lW;have t2:=h2.lW;exact Ut pins s O H _ _ v u Q I rx ry ⟨_,_,xs,ys,rfl,rfl,t1,t2,h3,h5,fun z=>absurd z h4,fun _=>h6⟩
 case Sub=>
  cases x<;>first|exact au h|(cases y<;>first|exact au h|skip)
  ·exact Wh pins s O H _ _ v u Q I rx ry ⟨_,_,rfl,rfl,h⟩
 case Mult=>
  cases x<;>first|exact au h|(cases y<;>first|exact au h|skip)
  ·exact Wi pins s O H _ _ v u Q I rx ry ⟨_,_,rfl,rfl,h⟩
  ·exact KA pins s O H _ _ v u Q I rx ry ⟨_,_,rfl,rfl,h⟩
  ·obtain⟨xs,h1,⟨h2,h3⟩,h4,h5⟩:=h;exact op_rep' pins s O H _ _ v u Q I rx ry ⟨_,_,xs,rfl,rfl,h1,h2,h3,h4,h5⟩
 case FloorDiv=>
  cases x<;>first|exact au h|(cases y<;>first|exact au h|skip)
  ·exact Uk pins s O H _ _ v u Q I rx ry ⟨_,_,rfl,rfl,h⟩
 case Mod=>
  cases x<;>first|exact au h|(cases y<;>first|exact au h|skip)
  ·exact Wj pins s O H _ _ v u Q I rx ry ⟨_,_,rfl,rfl,h⟩
 case RShift=>
  cases x<;>first|exact au h|(cases y<;>first|exact au h|skip)
  ·exact Wl pins s O H _ _ v u Q I rx ry ⟨_,_,rfl,rfl,h⟩
 case Pow=>
  cases x<;>first|exact au h|(cases y<;>first|exact au h|skip)
  ·exact Wk pins s O H _ _ v u Q I rx ry ⟨_,_,rfl,rfl,h⟩
theorem MD:iZ X (f_ .LtE) (fun x y H Q=>∃i j,x=.str i/\y=.str j/\Q (.bl (!decide (j.cps.toList<i.cps.toList))) H):=by
 intro pins s O H x y v u Q I rx ry h;obtain⟨i,j,rfl,rfl,q⟩:=h;obtain⟨t,rfl⟩:=rx;obtain⟨t',rfl⟩:=ry;exact PySem.P.le_str (Bj I q rfl)
section
open PySem.SeqAt
variable{pins:List (Addr×Obj)}{O:L2.St}{H:Hp}{s:ai}
theorem aM.len':∀{ds:List D}{vs:List V},aM K H ds vs->vs.length=ds.length
|[],_,h=>by cases h;rfl
|d::ds,_,h=>by
 obtain⟨v,r,rfl,_,h3⟩:=h;simp[aM.len' h3]
theorem Rd.qI(h:Rd H a (.lst xs)):gy K H a xs:=.inl h
mutual
theorem CP(I:L2.Inv X pins O H s):∀(dx dy:D) (v:V) (n m:Nat),l5 dx n=true->l5 dy m=true->aZ X.K H dx v->aZ X.K H dy v->jy dx dy=true
|.non,dy,v,n,m,hn,hm,r,q=>by
 cases r;cases dy with
 |non=>rfl
 |str z=>cases q.1
 |lst o es=>obtain⟨a,vs,z,_⟩:=q;cases z
 |tup es=>obtain⟨a,vs,z,_⟩:=q;cases z
 |cst es=>cases hm
 |exc C ks es=>cases hm
 |_=>cases q
|.bl b,dy,v,n,m,hn,hm,r,q=>by
 cases r;cases dy with
 |bl c=>cases q;simp[jy]
 |str z=>cases q.1
 |lst o es=>obtain⟨a,vs,z,_⟩:=q;cases z
 |tup es=>obtain⟨a,vs,z,_⟩:=q;cases z
 |cst es=>cases hm
 |exc C ks es=>cases hm
 |_=>cases q
|.int b,dy,v,n,m,hn,hm,r,q=>by
 cases r;cases dy with
 |int c=>cases q;simp[jy]
 |str z=>cases q.1
 |lst o es=>obtain⟨a,vs,z,_⟩:=q;cases z
 |tup es=>obtain⟨a,vs,z,_⟩:=q;cases z
 |cst es=>cases hm
 |exc C ks es=>cases hm
 |_=>cases q
|.str b,dy,v,n,m,hn,hm,r,q=>by
 obtain⟨rfl,_⟩:=r;cases dy with
 |str c=>cases q.1;simp[jy]
 |lst o es=>obtain⟨a,vs,z,_⟩:=q;cases z
 |tup es=>obtain⟨a,vs,z,_⟩:=q;cases z
 |cst es=>cases hm
 |exc C ks es=>cases hm
 |_=>cases q
|.lst o ds,dy,v,n,m,hn,hm,r,q=>by
 obtain⟨a,vs,rfl,h2,h3,h4⟩:=r;cases n with
 |zero=>cases hn
 |succ n=>
 cases dy with
 |lst o' es=>
  obtain⟨a',us,e,k2,k3,k4⟩:=q;cases e;cases m with
  |zero=>cases hm
  |succ m=>
  have e:=I.sj (Rd.qI h2) (Rd.qI k2);subst e;exact Av I ds es vs n m hn hm h4 k4
 |tup es=>
  obtain⟨a',us,e,k2,k3,k4⟩:=q;cases e;obtain⟨its,_,⟨o1,n1,e1,c1,_⟩,_⟩:=I.list (Rd.qI h2);obtain⟨its2,_,⟨o2,e2,c2,_⟩,_⟩:=I.tuple (tupS k2).lW;rw[e1]at e2;cases e2;rw[c1]at c2;exact absurd c2 (by decide)
 |str z=>cases q.1
 |cst es=>cases hm
 |exc C ks es=>cases hm
 |_=>cases q
|.tup ds,dy,v,n,m,hn,hm,r,q=>by
 obtain⟨a,vs,rfl,h2,h3,h4⟩:=r;cases n with
 |zero=>cases hn
 |succ n=>
 cases dy with
 |tup es=>
  obtain⟨a',us,e,k2,k3,k4⟩:=q;cases e;cases m with
  |zero=>cases hm
  |succ m=>
  have e:=I.tE (tupS h2).lW (tupS k2).lW;subst e;exact Av I ds es vs n m hn hm h4 k4
 |lst o es=>
  obtain⟨a',us,e,k2,k3,k4⟩:=q;cases e;obtain⟨its,_,⟨o1,n1,e1,c1,_⟩,_⟩:=I.list (Rd.qI k2);obtain⟨its2,_,⟨o2,e2,c2,_⟩,_⟩:=I.tuple (tupS h2).lW;rw[e1]at e2;cases e2;rw[c1]at c2;exact absurd c2 (by decide)
 |str z=>cases q.1
 |cst es=>cases hm
 |exc C ks es=>cases hm
 |_=>cases q
|.cst _,dy,v,n,m,hn,hm,r,q=>by cases hn
|.exc _ _ _,dy,v,n,m,hn,hm,r,q=>by cases hn
theorem Av(I:L2.Inv X pins O H s):∀(ds es:List D) (vs:List V) (n m:Nat),fK ds n=true->fK es m=true->aM X.K H ds vs->aM X.K H es vs->nJ ds es=true
|[],es,vs,n,m,hn,hm,r,q=>by
 cases r;cases es with
 |nil=>rfl
 |cons e es=>obtain⟨_,_,z,_⟩:=q;cases z
|d::ds,es,vs,n,m,hn,hm,r,q=>by
 obtain⟨v,r',rfl,r1,r2⟩:=r;cases es with
 |nil=>cases q
 |cons e es=>
  obtain⟨w,q',z,q1,q2⟩:=q;cases z;have hn':l5 d n=true/\fK ds n=true:=by simpa[fK]using hn
  have hm':l5 e m=true/\fK es m=true:=by simpa[fK]using hm
  show(jy d e&&nJ ds es)=true;rw[CP I d e v n m hn'.1 hm'.1 r1 q1,Av I ds es r' n m hn'.2 hm'.2 r2 q2];rfl
end
structure Eqs (A:cC) (s:ai) (v u:Value) (b:Bool):Prop where
 eq:EqAt A s v u b
 rc:RcAt A s v u b
 ne:RcNeAt A s v u (!b)
def oZ(A:cC)(s:ai):List D->List D->List Value->List Value->Prop
|d::ds,e::es,v::vs,u::us=>EqAt A s v u (jy d e)/\oZ A s ds es vs us
|_,_,_,_=>True
theorem oZ.get:∀{ds es:List D}{vs us:List Value} (j:Nat) {d e:D}{v u:Value},oZ A s ds es vs us->ds[j]?=some d->es[j]?=some e->vs[j]?=some v->us[j]?=some u->EqAt A s v u (jy d e)
|d::ds,e::es,v::vs,u::us,0,_,_,_,_,h,a,b,c,f=>by
 simp at a b c f;subst a b c f;exact h.1
|d::ds,e::es,v::vs,u::us,j+1,_,_,_,_,h,a,b,c,f=>oZ.get j h.2 (by simpa using a) (by simpa using b) (by simpa using c) (by simpa using f)
|[],_,_,_,j,_,_,_,_,_,a,_,_,_=>by simp at a
|_::_,[],_,_,j,_,_,_,_,_,_,b,_,_=>by simp at b
|_::_,_::_,[],_,j,_,_,_,_,_,_,_,c,_=>by simp at c
|_::_,_::_,_::_,[],j,_,_,_,_,_,_,_,_,f=>by simp at f
noncomputable def eqAt'(ds es:List D)(j:Nat):Bool:=match ds[j]?,es[j]? with
|some d,some e=>jy d e
|_,_=>true
theorem Aw:∀(ds es:List D),ds.length=es.length->(bG ds.length).all (eqAt' ds es)=nJ ds es
|[],[],_=>rfl
|d::ds,e::es,h=>by
 have ih:=Aw ds es (by simpa using h);rw[aB,mF,wR,iT];show(jy d e&&(bG ds.length).all (eqAt' (d::ds) (e::es)∘Nat.succ))=(jy d e&&nJ ds es);rw[<-ih];congr 1
|[],_::_,h=>by simp at h
|_::_,[],h=>by simp at h
theorem Ax:∀(ds es:List D),ds.length≠es.length->nJ ds es=false
|[],[],h=>absurd rfl h
|[],_::_,_=>rfl
|_::_,[],_=>rfl
|d::ds,e::es,h=>by
 show(jy d e&&nJ ds es)=false;rw[Ax ds es (fun z=>h (by simp[z]))];simp
theorem ME(hl:s.heap.IsList a its.toArray)(hb:s.heap.IsList b its2.toArray)(l1:its.length=ds.length)(l2:its2.length=es.length)(hu:A.units<dD)(he:oZ A.in1 s ds es its its2) :
  RcAt A s (.ref a) (.ref b) (nJ ds es)/\RcNeAt A s (.ref a) (.ref b) (!nJ ds es):=by
 by_cases hz:ds.length=es.length
 ·have hsz:its.toArray.size=its2.toArray.size:=by simp;omega
  have he':∀j (h1:j<its.toArray.size) (h2:j<its2.toArray.size),EqAt A.in1 s its.toArray[j] its2.toArray[j] (eqAt' ds es j):=by
   intro j h1 h2;have g1:j<its.length:=by simpa using h1
   have g2:j<its2.length:=by simpa using h2
   have e1:=aJ (l:=ds) (i:=j) (by omega);have e2:=aJ (l:=es) (i:=j) (by omega);have:=he.get j e1 e2 (aJ g1) (aJ g2);unfold eqAt';rw[e1,e2];simpa using this
  have r1:=RcAt.lists hl hb hsz hu he';have r2:=RcNeAt.lists hl hb hsz hu he';have ez:its.toArray.size=ds.length:=by simp;omega
  rw[ez,Aw ds es hz]at r1 r2;exact⟨r1,r2⟩
 ·have hsz:(its.toArray.size != its2.toArray.size)=true:=by simp;omega
  rw[Ax ds es hz];exact⟨RcAt.lists_lengths hl hb hsz hu,RcNeAt.lists_lengths hl hb hsz hu⟩
theorem KC(hl:s.heap.IsTuple a its.toArray)(hb:s.heap.IsTuple b its2.toArray)(l1:its.length=ds.length)(l2:its2.length=es.length)(hu:A.units<dD)(he:oZ A.in1 s ds es its its2) :
  RcAt A s (.ref a) (.ref b) (nJ ds es)/\RcNeAt A s (.ref a) (.ref b) (!nJ ds es):=by
 have he':∀j (h1:j<its.toArray.size) (h2:j<its2.toArray.size),EqAt A.in1 s its.toArray[j] its2.toArray[j] (eqAt' ds es j):=by
  intro j h1 h2;have g1:j<its.length:=by simpa using h1
  have g2:j<its2.length:=by simpa using h2
  have e1:=aJ (l:=ds) (i:=j) (by omega);have e2:=aJ (l:=es) (i:=j) (by omega);have:=he.get j e1 e2 (aJ g1) (aJ g2);unfold eqAt';rw[e1,e2];simpa using this
 have r1:=RcAt.tuples hl hb hu he';have r2:=RcNeAt.tuples hl hb hu he';have key:((bG (min its.toArray.size its2.toArray.size)).all (eqAt' ds es)&&its.toArray.size==its2.toArray.size)=nJ ds es:=by
  by_cases hz:ds.length=es.length
  ·have e1:min its.toArray.size its2.toArray.size=ds.length:=by simp;omega
   have e2:(its.toArray.size==its2.toArray.size)=true:=by simp;omega
   rw[e1,e2,Aw ds es hz,Fb]
  ·have e2:(its.toArray.size==its2.toArray.size)=false:=by simp;omega
   rw[e2,vc,Ax ds es hz]
 rw[key]at r1 r2;exact⟨r1,r2⟩
theorem PlainL.is{its:Array Value}(p:PlainL h a its):h.IsList a its:=by
 obtain⟨o,n,e,c,_,d⟩:=p;exact⟨o,e,c,n,d⟩
theorem IsTup.is{its:Array Value}(p:IsTup h a its):h.IsTuple a its:=p
mutual
theorem Fj(I:L2.Inv X pins O H s):∀(dx dy:D) (n m:Nat) (x y:V) (v u:Value) (A:cC),l5 dx n=true->l5 dy m=true->aZ X.K H dx x->L2.RelV x v->aZ X.K H dy y->L2.RelV y u->A.units+n<dD->Eqs A s v u (jy dx dy)
|.non,dy,n,m,x,y,v,u,A,hn,hm,r,rv,q,qu,hu=>by
 have hu':A.units<dD:=by omega
 cases r;cases rv;cases dy with
 |non=>cases q;cases qu;exact⟨EqAt.same _,RcAt.none_none,RcNeAt.none_none⟩
 |bl b=>cases q;cases qu;exact⟨EqAt.none_bool b,RcAt.none_bool b,RcNeAt.none_bool b⟩
 |int i=>cases q;obtain⟨t,rfl⟩:=qu;exact⟨EqAt.none_int i t,RcAt.none_int i t,RcNeAt.none_int i t⟩
 |str z=>obtain⟨rfl,_⟩:=q;obtain⟨t,rfl⟩:=qu;exact⟨EqAt.none_str z t,RcAt.none_str z t,RcNeAt.none_str z t⟩
 |lst o es=>
  obtain⟨b,us,rfl,k2,k3,k4⟩:=q;cases qu;obtain⟨its,_,p,_⟩:=I.list (Rd.qI k2);exact⟨EqAt.none_list (PlainL.is p) hu',RcAt.none_list (PlainL.is p) hu',RcNeAt.none_list (PlainL.is p) hu'⟩
 |tup es=>
  obtain⟨b,us,rfl,k2,k3,k4⟩:=q;cases qu;obtain⟨its,_,p,_⟩:=I.tuple (tupS k2).lW;exact⟨EqAt.none_tuple (IsTup.is p) hu',RcAt.none_tuple (IsTup.is p) hu',RcNeAt.none_tuple (IsTup.is p) hu'⟩
 |cst _=>cases hm
 |exc _ _ _=>cases hm
|.bl a,dy,n,m,x,y,v,u,A,hn,hm,r,rv,q,qu,hu=>by
 have hu':A.units<dD:=by omega
 cases r;cases rv;cases dy with
 |non=>cases q;cases qu;exact⟨EqAt.bool_none a,RcAt.bool_none a,RcNeAt.bool_none a⟩
 |bl b=>cases q;cases qu;exact⟨EqAt.bool_bool a b,RcAt.bool_bool a b,RcNeAt.bool_bool a b⟩
 |int i=>cases q;obtain⟨t,rfl⟩:=qu;exact⟨EqAt.bool_int a i t,RcAt.bool_int a i t,RcNeAt.bool_int a i t⟩
 |str z=>obtain⟨rfl,_⟩:=q;obtain⟨t,rfl⟩:=qu;exact⟨EqAt.bool_str a z t,RcAt.bool_str a z t,RcNeAt.bool_str a z t⟩
 |lst o es=>
  obtain⟨b,us,rfl,k2,k3,k4⟩:=q;cases qu;obtain⟨its,_,p,_⟩:=I.list (Rd.qI k2);exact⟨EqAt.bool_list a (PlainL.is p) hu',RcAt.bool_list a (PlainL.is p) hu',RcNeAt.bool_list a (PlainL.is p) hu'⟩
 |tup es=>
  obtain⟨b,us,rfl,k2,k3,k4⟩:=q;cases qu;obtain⟨its,_,p,_⟩:=I.tuple (tupS k2).lW;exact⟨EqAt.bool_tuple a (IsTup.is p) hu',RcAt.bool_tuple a (IsTup.is p) hu',RcNeAt.bool_tuple a (IsTup.is p) hu'⟩
 |cst _=>cases hm
 |exc _ _ _=>cases hm
|.int a,dy,n,m,x,y,v,u,A,hn,hm,r,rv,q,qu,hu=>by
 have hu':A.units<dD:=by omega
 cases r;obtain⟨tt,rfl⟩:=rv;cases dy with
 |non=>cases q;cases qu;exact⟨EqAt.int_none a tt,RcAt.int_none a tt,RcNeAt.int_none a tt⟩
 |bl b=>cases q;cases qu;exact⟨EqAt.int_bool a tt b,RcAt.int_bool a tt b,RcNeAt.int_bool a tt b⟩
 |int i=>cases q;obtain⟨t,rfl⟩:=qu;exact⟨EqAt.int_int a tt i t,RcAt.int_int a tt i t,RcNeAt.int_int a tt i t⟩
 |str z=>obtain⟨rfl,_⟩:=q;obtain⟨t,rfl⟩:=qu;exact⟨EqAt.int_str a tt z t,RcAt.int_str a tt z t,RcNeAt.int_str a tt z t⟩
 |lst o es=>
  obtain⟨b,us,rfl,k2,k3,k4⟩:=q;cases qu;obtain⟨its,_,p,_⟩:=I.list (Rd.qI k2);exact⟨EqAt.int_list a tt (PlainL.is p) hu',RcAt.int_list a tt (PlainL.is p) hu',RcNeAt.int_list a tt (PlainL.is p) hu'⟩
 |tup es=>
  obtain⟨b,us,rfl,k2,k3,k4⟩:=q;cases qu;obtain⟨its,_,p,_⟩:=I.tuple (tupS k2).lW;exact⟨EqAt.int_tuple a tt (IsTup.is p) hu',RcAt.int_tuple a tt (IsTup.is p) hu',RcNeAt.int_tuple a tt (IsTup.is p) hu'⟩
 |cst _=>cases hm
 |exc _ _ _=>cases hm
|.str a,dy,n,m,x,y,v,u,A,hn,hm,r,rv,q,qu,hu=>by
 have hu':A.units<dD:=by omega
 obtain⟨rfl,_⟩:=r;obtain⟨tt,rfl⟩:=rv;cases dy with
 |non=>cases q;cases qu;exact⟨EqAt.str_none a tt,RcAt.str_none a tt,RcNeAt.str_none a tt⟩
 |bl b=>cases q;cases qu;exact⟨EqAt.str_bool a tt b,RcAt.str_bool a tt b,RcNeAt.str_bool a tt b⟩
 |int i=>cases q;obtain⟨t,rfl⟩:=qu;exact⟨EqAt.str_int a tt i t,RcAt.str_int a tt i t,RcNeAt.str_int a tt i t⟩
 |str z=>obtain⟨rfl,_⟩:=q;obtain⟨t,rfl⟩:=qu;exact⟨EqAt.str_str a tt z t,RcAt.str_str a tt z t,RcNeAt.str_str a tt z t⟩
 |lst o es=>
  obtain⟨b,us,rfl,k2,k3,k4⟩:=q;cases qu;obtain⟨its,_,p,_⟩:=I.list (Rd.qI k2);exact⟨EqAt.str_list a tt (PlainL.is p) hu',RcAt.str_list a tt (PlainL.is p) hu',RcNeAt.str_list a tt (PlainL.is p) hu'⟩
 |tup es=>
  obtain⟨b,us,rfl,k2,k3,k4⟩:=q;cases qu;obtain⟨its,_,p,_⟩:=I.tuple (tupS k2).lW;exact⟨EqAt.str_tuple a tt (IsTup.is p) hu',RcAt.str_tuple a tt (IsTup.is p) hu',RcNeAt.str_tuple a tt (IsTup.is p) hu'⟩
 |cst _=>cases hm
 |exc _ _ _=>cases hm
|.lst o ds,dy,n,m,x,y,v,u,A,hn,hm,r,rv,q,qu,hu=>by
 have hu':A.units<dD:=by omega
 have hr:=r;obtain⟨a,vs,rfl,h2,h3,h4⟩:=r;cases rv;obtain⟨its,rits,p,_⟩:=I.list (Rd.qI h2);have hn0:=hn;cases n with
 |zero=>cases hn
 |succ n=>
 cases dy with
 |non=>cases q;cases qu;exact⟨EqAt.list_none (PlainL.is p) hu',RcAt.list_none (PlainL.is p) hu',RcNeAt.list_none (PlainL.is p) hu'⟩
 |bl b=>cases q;cases qu;exact⟨EqAt.list_bool b (PlainL.is p) hu',RcAt.list_bool b (PlainL.is p) hu',RcNeAt.list_bool b (PlainL.is p) hu'⟩
 |int i=>cases q;obtain⟨t,rfl⟩:=qu;exact⟨EqAt.list_int i t (PlainL.is p) hu',RcAt.list_int i t (PlainL.is p) hu',RcNeAt.list_int i t (PlainL.is p) hu'⟩
 |str z=>obtain⟨rfl,_⟩:=q;obtain⟨t,rfl⟩:=qu;exact⟨EqAt.list_str z t (PlainL.is p) hu',RcAt.list_str z t (PlainL.is p) hu',RcNeAt.list_str z t (PlainL.is p) hu'⟩
 |lst o' es=>
  have hq:=q;obtain⟨b,us,rfl,k2,k3,k4⟩:=q;cases qu;obtain⟨its2,rits2,p2,_⟩:=I.list (Rd.qI k2);have hm0:=hm;cases m with
  |zero=>cases hm
  |succ m=>
  obtain⟨r1,r2⟩:=ME (A:=A) (ds:=ds) (es:=es) (PlainL.is p) (PlainL.is p2) (by rw[<-rits.length,aM.len' h4]) (by rw[<-rits2.length,aM.len' k4]) hu' (Gc I ds es n m vs us its its2 A.in1 hn hm h4 rits k4 rits2 (by show A.units+1+n<dD;omega));refine⟨?_,r1,r2⟩;by_cases e:a=b
  ·subst e;have z:=CP I (.lst o ds) (.lst o' es) (.ref a) (n+1) (m+1) hn0 hm0 hr hq;rw[z];exact EqAt.same _
  ·exact EqAt.of_refs e r1
 |tup es=>
  obtain⟨b,us,rfl,k2,k3,k4⟩:=q;cases qu;obtain⟨its2,_,p2,_⟩:=I.tuple (tupS k2).lW;exact⟨EqAt.list_tuple (PlainL.is p) (IsTup.is p2) hu',RcAt.list_tuple (PlainL.is p) (IsTup.is p2) hu',RcNeAt.list_tuple (PlainL.is p) (IsTup.is p2) hu'⟩
 |cst _=>cases hm
 |exc _ _ _=>cases hm
|.tup ds,dy,n,m,x,y,v,u,A,hn,hm,r,rv,q,qu,hu=>by
 have hu':A.units<dD:=by omega
 have hr:=r;obtain⟨a,vs,rfl,h2,h3,h4⟩:=r;cases rv;obtain⟨its,rits,p,_⟩:=I.tuple (tupS h2).lW;have hn0:=hn;cases n with
 |zero=>cases hn
 |succ n=>
 cases dy with
 |non=>cases q;cases qu;exact⟨EqAt.tuple_none (IsTup.is p) hu',RcAt.tuple_none (IsTup.is p) hu',RcNeAt.tuple_none (IsTup.is p) hu'⟩
 |bl b=>cases q;cases qu;exact⟨EqAt.tuple_bool b (IsTup.is p) hu',RcAt.tuple_bool b (IsTup.is p) hu',RcNeAt.tuple_bool b (IsTup.is p) hu'⟩
 |int i=>cases q;obtain⟨t,rfl⟩:=qu;exact⟨EqAt.tuple_int i t (IsTup.is p) hu',RcAt.tuple_int i t (IsTup.is p) hu',RcNeAt.tuple_int i t (IsTup.is p) hu'⟩
 |str z=>obtain⟨rfl,_⟩:=q;obtain⟨t,rfl⟩:=qu;exact⟨EqAt.tuple_str z t (IsTup.is p) hu',RcAt.tuple_str z t (IsTup.is p) hu',RcNeAt.tuple_str z t (IsTup.is p) hu'⟩
 |tup es=>
  have hq:=q;obtain⟨b,us,rfl,k2,k3,k4⟩:=q;cases qu;obtain⟨its2,rits2,p2,_⟩:=I.tuple (tupS k2).lW;have hm0:=hm;cases m with
  |zero=>cases hm
  |succ m=>
  obtain⟨r1,r2⟩:=KC (A:=A) (ds:=ds) (es:=es) (IsTup.is p) (IsTup.is p2) (by rw[<-rits.length,aM.len' h4]) (by rw[<-rits2.length,aM.len' k4]) hu' (Gc I ds es n m vs us its its2 A.in1 hn hm h4 rits k4 rits2 (by show A.units+1+n<dD;omega));refine⟨?_,r1,r2⟩;by_cases e:a=b
  ·subst e;have z:=CP I (.tup ds) (.tup es) (.ref a) (n+1) (m+1) hn0 hm0 hr hq;rw[z];exact EqAt.same _
  ·exact EqAt.of_refs e r1
 |lst o es=>
  obtain⟨b,us,rfl,k2,k3,k4⟩:=q;cases qu;obtain⟨its2,_,p2,_⟩:=I.list (Rd.qI k2);exact⟨EqAt.tuple_list (IsTup.is p) (PlainL.is p2) hu',RcAt.tuple_list (IsTup.is p) (PlainL.is p2) hu',RcNeAt.tuple_list (IsTup.is p) (PlainL.is p2) hu'⟩
 |cst _=>cases hm
 |exc _ _ _=>cases hm
|.cst _,dy,n,m,x,y,v,u,A,hn,hm,r,rv,q,qu,hu=>by cases hn
|.exc _ _ _,dy,n,m,x,y,v,u,A,hn,hm,r,rv,q,qu,hu=>by cases hn
theorem Gc(I:L2.Inv X pins O H s):∀(ds es:List D) (n m:Nat) (vs us:List V) (its its2:List Value) (A:cC),fK ds n=true->fK es m=true->aM X.K H ds vs->bw vs its->aM X.K H es us->bw us its2->A.units+n<dD->oZ A s ds es its its2
|[],es,n,m,vs,us,its,its2,A,hn,hm,r,rv,q,qu,hu=>by cases its<;>trivial
|d::ds,[],n,m,vs,us,its,its2,A,hn,hm,r,rv,q,qu,hu=>by cases its<;>trivial
|d::ds,e::es,n,m,vs,us,its,its2,A,hn,hm,r,rv,q,qu,hu=>by
 have hn':l5 d n=true/\fK ds n=true:=by simpa[fK]using hn
 have hm':l5 e m=true/\fK es m=true:=by simpa[fK]using hm
 obtain⟨x,vr,rfl,r1,r2⟩:=r;obtain⟨y,ur,rfl,q1,q2⟩:=q;cases rv with
 |cons rv1 rv2=>
  cases qu with
  |cons qu1 qu2=>
   exact⟨(Fj I d e n m x y _ _ A hn'.1 hm'.1 r1 rv1 q1 qu1 hu).eq,Gc I ds es n m vr ur _ _ A hn'.2 hm'.2 r2 rv2 q2 qu2 hu⟩
end
end
theorem YK(hu:X.A.units+60<dD):iZ X (f_ .Eq) (fun x y H Q=>∃dx dy,aZ X.K H dx x/\aZ X.K H dy y/\dm dx=true/\dm dy=true/\Q (.bl (jy dx dy)) H):=by
 intro pins s O H x y v u Q I rx ry h;obtain⟨dx,dy,h1,h2,h3,h4,q⟩:=h;exact(Fj I dx dy 12 12 x y v u X.A h3 h4 h1 rx h2 ry (by omega)).rc X.prog X.w X.xe _ ⟨.bl (jy dx dy),H,I,rfl,q⟩
theorem YL(hu:X.A.units+60<dD):iZ X (f_ .NotEq) (fun x y H Q=>∃dx dy,aZ X.K H dx x/\aZ X.K H dy y/\dm dx=true/\dm dy=true/\Q (.bl (!jy dx dy)) H):=by
 intro pins s O H x y v u Q I rx ry h;obtain⟨dx,dy,h1,h2,h3,h4,q⟩:=h;exact(Fj I dx dy 12 12 x y v u X.A h3 h4 h1 rx h2 ry (by omega)).ne X.prog X.w X.xe _ ⟨.bl (!jy dx dy),H,I,rfl,q⟩
theorem Bt{x:Value}:∀(ds:List D) (its:List Value),its.length=ds.length->(∀(j:Nat) d v,ds[j]?=some d->its[j]?=some v->PySem.SeqAt.EqAt A s v x (jy d dx))->
  ∃e:Value->Bool,(∀y,y∈its.toArray->PySem.SeqAt.EqAt A s y x (e y))/\its.toArray.any e=memD dx ds:=by
 intro ds its hl he
 classical
 refine⟨fun v=>decide (∃(j:Nat) (d:D),its[j]?=some v/\ds[j]?=some d/\jy d dx=true),fun y hy=>?_,?_⟩
 ·have hy:y∈its:=by simpa using hy
  obtain⟨j,hj,ej⟩:=w4 hy;dsimp only;by_cases h:∃(j:Nat) (d:D),its[j]?=some y/\ds[j]?=some d/\jy d dx=true
  ·rw[decide_eq_true h];obtain⟨k,d,h1,h2,h3⟩:=h;have:=he k d y h2 h1;rw[h3]at this;exact this
  ·rw[decide_eq_false h];have e1:ds[j]?=some ds[j]:=aJ (by omega);have e2:its[j]?=some y:=by rw[aJ hj,ej]
   have:=he j _ y e1 e2;cases q:jy ds[j] dx with
   |true=>exact absurd ⟨j,_,e2,e1,q⟩ h
   |false=>rw[q]at this;exact this
 ·rw[g_];unfold memD;simp only[List.any_toArray,nt,decide_eq_true_eq];constructor
  ·rintro⟨v,_,j,d,h1,h2,h3⟩;exact⟨d,gp h2,h3⟩
  ·rintro⟨d,hd,h3⟩;obtain⟨j,hj,ej⟩:=w4 hd;have g1:its[j]?=some its[j]:=aJ (by omega);exact⟨its[j],gE _,j,d,g1,by rw[aJ hj,ej],h3⟩
theorem sC(hu:X.A.units+60<dD)(I:L2.Inv X pins O H s){x:V}{v:Value}(rx:aZ X.K H dx x)(rv:L2.RelV x v)(hx:l5 dx 12=true) :
 ∀{ds:List D}{xs:List V}{its:List Value},aM X.K H ds xs->bw xs its->fK ds 12=true->∀(j:Nat) d w,ds[j]?=some d->its[j]?=some w->PySem.SeqAt.EqAt X.A.in1 s w v (jy d dx)
|[],_,_,_,_,_,j,d,w,h,_=>by simp at h
|e::ds,_,_,r,rr,ho,j,d,w,h1,h2=>by
 obtain⟨y,ys,rfl,r1,r2⟩:=r;have ho':l5 e 12=true/\fK ds 12=true:=by simpa[fK]using ho
 cases rr with
 |cons ra rb=>
  cases j with
  |zero=>
   simp at h1 h2;subst h1 h2;exact(Fj I e dx 12 12 y x _ v X.A.in1 ho'.1 hx r1 ra rx rv (by show X.A.units+1+12<dD;omega)).eq
  |succ j=>exact sC hu I rx rv hx r2 rb ho'.2 j d w (by simpa using h1) (by simpa using h2)
theorem yZ(hu:X.A.units+60<dD)(op:oF):iZ X (f_ op) (m_ X.K op):=by
 intro pins s O H x y v u Q I rx ry h;unfold m_ at h;split at h
 ·exact Ys pins s O H _ _ v u Q I rx ry ⟨_,_,rfl,rfl,h⟩
 ·exact Yt pins s O H _ _ v u Q I rx ry ⟨_,_,rfl,rfl,h⟩
 ·exact Yu pins s O H _ _ v u Q I rx ry ⟨_,_,rfl,rfl,h⟩
 ·exact Yv pins s O H _ _ v u Q I rx ry ⟨_,_,rfl,rfl,h⟩
 ·exact Mi pins s O H _ _ v u Q I rx ry ⟨_,_,rfl,rfl,h⟩
 ·exact MD pins s O H _ _ v u Q I rx ry ⟨_,_,rfl,rfl,h⟩
 ·exact YK hu pins s O H _ _ v u Q I rx ry h
 ·exact YL hu pins s O H _ _ v u Q I rx ry h
 ·exact Wn pins s O H _ _ v u Q I rx ry ⟨rfl,h⟩
 ·exact Ul pins s O H _ _ v u Q I rx ry ⟨rfl,h⟩
 ·rename_i a;cases(show u=bu a from ry);rcases h with⟨t,xs,dx,ds,hx,h1,h2,h3,h4,q⟩|⟨kvs,k,hk,rfl,q⟩
  ·cases t with
   |false=>
    obtain⟨its,r,p,_⟩:=I.list hx.Js;obtain⟨e,e1,e2⟩:=Bt (A:=X.A.in1) (s:=s) (x:=v) (dx:=dx) ds its (by rw[<-r.length,aM.len' h2]) (sC hu I h1 rx h3 h2 r h4);exact PySem.SeqAt.in_listAt e (PlainL.is p) e1 ⟨.bl (its.toArray.any e),H,I,rfl,by rw[e2];exact q⟩
   |true=>
    obtain⟨its,r,p,_⟩:=I.tuple hx.lW;obtain⟨e,e1,e2⟩:=Bt (A:=X.A.in1) (s:=s) (x:=v) (dx:=dx) ds its (by rw[<-r.length,aM.len' h2]) (sC hu I h1 rx h3 h2 r h4);exact PySem.SeqAt.in_tupleAt e (IsTup.is p) e1 ⟨.bl (its.toArray.any e),H,I,rfl,by rw[e2];exact q⟩
  ·exact d_in (by omega) I (.inl ⟨kvs,k,hk,rfl,rfl⟩) rx fun s3 I3=>⟨.bl (jU kvs k).isSome,H,I3,rfl,q⟩
 ·rename_i a;cases(show u=bu a from ry);rcases h with⟨t,xs,dx,ds,hx,h1,h2,h3,h4,q⟩|⟨kvs,k,hk,rfl,q⟩
  ·cases t with
   |false=>
    obtain⟨its,r,p,_⟩:=I.list hx.Js;obtain⟨e,e1,e2⟩:=Bt (A:=X.A.in1) (s:=s) (x:=v) (dx:=dx) ds its (by rw[<-r.length,aM.len' h2]) (sC hu I h1 rx h3 h2 r h4);exact PySem.SeqAt.notIn_listAt e (PlainL.is p) e1 ⟨.bl (!its.toArray.any e),H,I,rfl,by rw[e2];exact q⟩
   |true=>
    obtain⟨its,r,p,_⟩:=I.tuple hx.lW;obtain⟨e,e1,e2⟩:=Bt (A:=X.A.in1) (s:=s) (x:=v) (dx:=dx) ds its (by rw[<-r.length,aM.len' h2]) (sC hu I h1 rx h3 h2 r h4);exact PySem.SeqAt.notIn_tupleAt e (IsTup.is p) e1 ⟨.bl (!its.toArray.any e),H,I,rfl,by rw[e2];exact q⟩
  ·exact Uy (by omega) I (.inl ⟨kvs,k,hk,rfl,rfl⟩) rx fun s3 I3=>⟨.bl (!(jU kvs k).isSome),H,I3,rfl,q⟩
 ·exact h.elim
theorem Tf:Wd X (fun x H Q=>ku X.K x H fun b=>Q b H):=by
 intro pins s O H x v Q I rx h;refine Wo pins s O H x v Q I rx ?_;cases x with
 |bl b=>exact⟨b,rfl,h⟩
 |non=>exact⟨false,rfl,h⟩
 |int i=>exact⟨_,rfl,h⟩
 |str z=>
  obtain⟨hz,h⟩:=h;refine⟨_,⟨hz,rfl⟩,?_⟩;have e:((z.length:Int) != 0)=(z.length != 0):=by
   rw[g_];simp
  rw[e];exact h
 |ref a=>
  rcases h with⟨t,xs,hx,h⟩|⟨kvs,hk,h⟩
  ·refine⟨_,?_,h⟩;rcases hx.sq with⟨_,z⟩|⟨_,z⟩
   ·exact .inl ⟨xs,z,rfl⟩
   ·exact .inr (.inl ⟨xs,z,rfl⟩)
  ·exact⟨_,.inr (.inr ⟨kvs,hk,rfl⟩),h⟩
 |_=>exact au h
theorem UG(hu:X.A.units+60<dD):FT X (fun x y H Q=>∃a kvs k v,x=.ref a/\Rd H a (.dK kvs)/\y=kV k/\jU kvs k=some v/\Q v H):=by
 intro value slice pins s O H x y v u Q I rx ry h hs;obtain⟨a,kvs,k,z,rfl,hk,rfl,e,q⟩:=h;cases(show v=bu a from rx);have g:CK H a (kV k) (some z):=.inl ⟨kvs,k,hk,rfl,e.symm⟩;have hT:=zJ I g;unfold mX;refine ah ?_;rw[vf hT.not_modules];refine ah (Ct hT PySem.F.slot_dict_getitem.lookup ?_);have fin:aC (aF X.prog X.w) X.A (uA slice false (.ref a) u) (fun r abg=>aC (aF X.prog X.w) X.A (DA value (.ref a) r >>= fun _=>pure r) (EP X pins O Q) X.xe abg) X.xe s:=by
  rw[hs];exact Cu (d8 (DQ (by omega) I g ry fun w' s3 I3 rw'=>(⟨z,H,I3,rw',q⟩:EP X pins O Q w' s3)) (fun r abg abk=>ah (wc (aR abk))) fun _ _ x=>x)
 first
  |exact aR (ah fin)
  |exact ah (aR (ah fin))
  |exact ah fin
theorem P0(hu:X.A.units+60<dD):FT X (fun x y H Q=>∃a kvs k b v,x=.ref a/\Rd H a (.dT kvs)/\y=.ref b/\H b=some (.tup (k.map kV))/\jU kvs k=some v/\Q v H):=by
 intro value slice pins s O H x y v u Q I rx ry h hs;obtain⟨a,kvs,k,b,z,rfl,hk,rfl,hb,e,q⟩:=h;cases(show v=bu a from rx);have g:CK H a (.ref b) (some z):=.inr ⟨kvs,k,b,hk,rfl,hb,e.symm⟩;have hT:=zJ I g;unfold mX;refine ah ?_;rw[vf hT.not_modules];refine ah (Ct hT PySem.F.slot_dict_getitem.lookup ?_);have fin:aC (aF X.prog X.w) X.A (uA slice false (.ref a) u) (fun r abg=>aC (aF X.prog X.w) X.A (DA value (.ref a) r >>= fun _=>pure r) (EP X pins O Q) X.xe abg) X.xe s:=by
  rw[hs];exact Cu (d8 (DQ (by omega) I g ry fun w' s3 I3 rw'=>(⟨z,H,I3,rw',q⟩:EP X pins O Q w' s3)) (fun r abg abk=>ah (wc (aR abk))) fun _ _ x=>x)
 first
  |exact aR (ah fin)
  |exact ah (aR (ah fin))
  |exact ah fin
theorem ixOk(hu:X.A.units+60<dD):FT X (Gb X.K):=by
 intro value slice pins s O H x y v u Q I rx ry h;unfold Gb at h;split at h
 ·obtain⟨hz,c,e,q⟩:=h;exact Wv value slice pins s O H _ _ v u Q I rx ry ⟨_,_,c,rfl,rfl,hz,e,q⟩
 ·rcases h with⟨t,xs,i,w,rfl,hx,e,q⟩|⟨kvs,k,w,hk,rfl,e,q⟩|⟨kvs,k,b,w,hk,rfl,hb,e,q⟩
  ·rcases hx.sq with⟨_,z⟩|⟨_,z⟩
   ·exact Uu value slice pins s O H _ _ v u Q I rx ry ⟨_,xs,_,w,rfl,rfl,z,e,q⟩
   ·exact Wu value slice pins s O H _ _ v u Q I rx ry ⟨_,xs,_,w,rfl,rfl,z,e,q⟩
  ·exact UG hu value slice pins s O H _ _ v u Q I rx ry ⟨_,kvs,k,w,rfl,hk,rfl,e,q⟩
  ·exact P0 hu value slice pins s O H _ _ v u Q I rx ry ⟨_,kvs,k,b,w,rfl,hk,rfl,hb,e,q⟩
 ·exact h.elim
end
theorem Fk(n d:Nat)(v:Int):max 0 (min (if v<0 then v+(n:Int)else v) (n:Int))=((HT.jP n d (some v):Nat):Int):=by
 show max 0 (min (if v<0 then v+(n:Int)else v) (n:Int))=(((if v<0 then(v+(n:Int)).toNat else min v.toNat n):Nat):Int);by_cases hv:v<0
 ·simp only[if_pos hv];omega
 ·simp only[if_neg hv];omega
theorem CQ(a b:Nat):v_ (a:Int) (b:Int) 1=(bG (b-a)).map fun m=>a+m:=by
 unfold v_;have h1:(1:Int)>0:=by omega
 simp only[h1,if_true];have e3:(if(a:Int)<(b:Int)then((b:Int)-(a:Int)+1-1) / 1 else 0).toNat=b-a:=by
  split<;>omega
 rw[e3];congr 1;funext k;omega
theorem idx_eq(lo hi:Option Int)(n:Nat):cZ lo hi 1 n=(bG (HT.jP n n hi-HT.jP n 0 lo)).map fun m=>HT.jP n 0 lo+m:=by
 rw[<-CQ];have h1:(1:Int)>0:=by omega
 unfold cZ;simp only[h1,if_true];cases lo with
 |none=>cases hi with
  |none=>rfl
  |some v=>simp only[Fk n n v];rfl
 |some w=>cases hi with
  |none=>simp only[Fk n 0 w];rfl
  |some v=>simp only[Fk n n v,Fk n 0 w]
variable{α:Type}
theorem KD(l:List α)(i:Nat):∀k:Nat,((bG k).map fun(m:Nat)=>i+m).filterMap (l[·]?)=(l.drop i).take k:=by
 intro k;induction k with
 |zero=>simp
 |succ k ih=>
  rw[Co,cz,List.filterMap_append,ih,List.map_singleton,gA,List.filterMap_nil];cases h:l[i+k]? with
  |none=>
   have hl:l.length<=i+k:=rO.mp h;simp only[eZ];rw[dM (by rw[d_];omega),dM (by rw[d_];omega)]
  |some c=>
   rw[List.take_succ,List.getElem?_drop,h];rfl
theorem Gd(a:Array Nat):∀is:List Nat,is.filterMap (a[·]?)=is.filterMap (a.toList[·]?)
|[]=>rfl
|i::r=>by
 rw[gA,gA,Gd a r,vg]
theorem Ge(x:Str)(lo hi:Option Int):(cZ lo hi 1 x.length).filterMap (x.cps[·]?)=cut x.cps.toList lo hi:=by
 have len:x.cps.toList.length=x.length:=by simp[fY]
 rw[Gd,idx_eq,KD];unfold cut;rw[len]
theorem WH(l:List α)(lo hi:Option Int):(cut l lo hi).length<=l.length:=by
 unfold cut;rw[j6,d_];omega
theorem UH(x:Str)(lo hi:Option Int)(h:(cZ lo hi 1 x.length).length=x.length):cut x.cps.toList lo hi=x.cps.toList:=by
 have len:x.cps.toList.length=x.length:=by simp[fY]
 rw[idx_eq,az,jF]at h;have h2:=HT.Ws x.length x.length (aN _) hi;unfold cut;rw[len];by_cases hz:x.length=0
 ·have:x.cps.toList=[]:=gx (by omega);rw[this];simp
 ·have e0:HT.jP x.length 0 lo=0:=by omega
  rw[e0,lT,dM (by omega)]
section
variable{X:Cx}
theorem slOk:Wt X (S_ X.K):=by
 intro pins s O H x v vl vu lo hi sl Q I rx hs pl pu h;unfold S_ at h;split at h
 ·rename_i z;obtain⟨hz,q⟩:=h;obtain⟨t,rfl⟩:=rx;refine⟨"str",_,A5.lookup,gM s z t,?_⟩;have key:∀l u:Option (Int×Tok),vl=partValue l->vu=partValue u->l.map (·.1)=lo->u.map (·.1)=hi->aC (aF X.prog X.w) X.A (zq (.str z t) (.ref sl)) (EP X pins O Q) X.xe s:=by
   rintro l u rfl rfl rfl rfl;have hs':s.heap.IsSlice sl l u none:=hs;refine wpAny_getItem_str_slice (st:=none) hs' rfl ?_;have len:z.cps.toList.length=z.length:=by simp[fY]
   have hle:=WH z.cps.toList (l.map (·.1)) (u.map (·.1));have ec:=Ge z (l.map (·.1)) (u.map (·.1));have fin:∀t' k,EP X pins O Q (.str ⟨(cut z.cps.toList (l.map (·.1)) (u.map (·.1))).toArray⟩ t') { s with toks:=k }:=fun t' k=>⟨V.str ⟨(cut z.cps.toList (l.map (·.1)) (u.map (·.1))).toArray⟩,H,I.tok _,⟨t',rfl⟩,q⟩;show(if((1:Int)==1&&(cZ (l.map (·.1)) (u.map (·.1)) 1 z.length).length==z.length)=true then Made.val (.str z t)else Made.str ⟨((cZ (l.map (·.1)) (u.map (·.1)) 1 z.length).filterMap (z.cps[·]?)).toArray⟩).post (EP X pins O Q) s;rw[ec];by_cases hc:((1:Int)==1&&(cZ (l.map (·.1)) (u.map (·.1)) 1 z.length).length==z.length)=true
   ·rw[if_pos hc];have hall:cut z.cps.toList (l.map (·.1)) (u.map (·.1))=z.cps.toList:=UH z _ _ (by
     rw[bR]at hc;simpa using hc.2)
    have f:=fin t s.toks;rw[hall]at f;exact f
   ·rw[if_neg hc];exact⟨by show(List.toArray _).size<=aa;rw[aQ];omega,fin _ _⟩
  cases pl with
  |none=>cases pu with
   |none=>exact key none none rfl rfl rfl rfl
   |int j tj=>exact key none (some (j,tj)) rfl rfl rfl rfl
  |int i ti=>cases pu with
   |none=>exact key (some (i,ti)) none rfl rfl rfl rfl
   |int j tj=>exact key (some (i,ti)) (some (j,tj)) rfl rfl rfl rfl
 ·rcases h with⟨t,xs,hx,ht,q⟩|⟨n,xs,hx,rfl,rfl,h1,h2,q⟩
  ·rcases hx.sq with⟨_,z⟩|⟨hf,z⟩
   ·exact Uv pins s O H _ v vl vu lo hi sl Q I rx hs pl pu ⟨_,xs,rfl,z,q⟩
   ·rw[ht]at hf;cases hf
  ·cases rx;obtain⟨its,r,pt,hz⟩:=I.tuple hx.lW;have hlen:=r.length;cases pl with
   |int _ tl=>
    cases pu;refine⟨"tuple",_,yI.lookup,IsTup.typeIs pt,?_⟩;refine getItem_tuple_from pt hs h1 (by rw[aQ];omega) ?_ (by rw[aQ];omega);refine⟨.ref s.heap.objs.size,_,I.laid (t':=s.toks) (o:=.tup (xs.drop n)) (fun b ob q=>aq _ q) (aN _) ⟨by rw[d_];omega,its.drop n,r.drop n,IsTup.new _ _⟩,rfl,q _ (I.hok.fresh (aN _))⟩
 ·exact h.elim
theorem DZ:∀{xs:List V}{its:List Value}{i:Nat} (r:bw xs its) (h:i<xs.length) (h':i<its.length),RelV xs[i] its[i]
|_,_,_,.nil,h,_=>absurd h (Nat.not_lt_zero _)
|_,_,0,.cons r1 _,_,_=>r1
|_,_,i+1,.cons _ r2,h,h'=>DZ r2 (uC h) (uC h')
theorem xu(r:bw xs its):∀is:List Nat,bw (is.filterMap (xs[·]?)) (is.filterMap (its[·]?))
|[]=>.nil
|i::is=>by
 have hl:=r.length;by_cases h:i<xs.length
 ·have h':i<its.length:=by omega
  rw[iU (aJ h),iU (aJ h')];exact .cons (DZ r h h') (xu r is)
 ·rw[iV (by simp;omega),iV (by simp;omega)];exact xu r is
theorem WI{e:Expr}{te:TE}{lo hi:Option Expr}{tl th:TO}{k:Int}{j:Nat}{kp p2 pos:Pos}(he:PE X e te)(hl:PO X lo tl)(hu:PO X hi th):PE X (.Subscript e (.Slice lo hi (some (.Constant (.int k) j kp)) p2) pos) (fun O H Q=>te O H fun x H1=>tl O H1 fun l H2=>th O H2 fun u H3=>PZ X.K x l u k H3 Q):=by
 intro pins s O H Q I h;refine Ci (aU (he pins s O H _ I h) fun v s1 ⟨x,H1,I1,r1,q1⟩=>?_);refine IZ (aU (hl pins s1 O H1 _ I1 q1) fun vl s2 ⟨l,H2,I2,pl,q2⟩=>aU (hu pins s2 O H2 _ I2 q2) fun vu s3 ⟨u,H3,I3,pu,q3⟩=>?_);rw[Fc];refine aU (Ma (X:=X) pins s3 O H3 (fun y H'=>y=.int k/\H'=H3) I3 ⟨rfl,rfl⟩) fun vk s4 ⟨y,H4,I4,r4,ey,eH⟩=>?_;subst ey eH;obtain⟨tk,rfl⟩:=r4;have I5:L2.Inv X pins O H4 { s4 with heap:=s4.heap.push { cls:=.type "slice",data:=.fields #[vl,vu,.int k tk] } }:=I4.kept (t':=s4.toks) fun b ob q=>aq _ q;cases x with
 |ref a=>
  cases(show v=bu a from r1);obtain⟨t,xs,hx,ht,⟨hk,hz⟩,q⟩:=q3;subst ht;obtain⟨its,r,ht,hz'⟩:=I5.list hx.Js;have hlen:=r.length;show aC (aF X.prog X.w) X.A (mX e (.Slice lo hi (some (.Constant (.int k) j kp)) p2) (.ref a) (.ref s4.heap.objs.size)) (EP X pins O Q) X.xe { s4 with heap:=s4.heap.push { cls:=.type "slice",data:=.fields #[vl,vu,.int k tk] } };refine HY (ops:=[.ref a,.ref s4.heap.objs.size]) ht.isList.typeIs qX.lookup ?_ (by with_unfolding_all rfl);refine sZ ht.isList (yG ..) pl pu (.int k tk) (by simpa using hk) ?_ (by rw[aQ];omega);have e1:yJ its.toArray l u (some k)=(mH its l u k).toArray:=by
   unfold yJ mH;simp
  rw[e1];refine⟨.ref _,_,I5.laid (t':=s4.toks) (o:=.lst (mH xs l u k)) (fun b ob q=>aq _ q) (aN _) ?_,rfl,q _ (I5.hok.fresh (aN _))⟩;refine⟨hz,_,0,?_,a7 _ rfl⟩;have:=xu r (v_ (fu l u (some k) xs.length).1 (fu l u (some k) xs.length).2.1 (fu l u (some k) xs.length).2.2);unfold mH;rw[<-hlen];exact this
 |_=>exact au q3
end
noncomputable def Bf.val:Bf->Value
|.len=>.builtin "len"|.all=>.builtin "all"|.any=>.builtin "any"|.int=>.type "int"|.str=>.type "str"|.abs=>.builtin "abs"|.min=>.builtin "min"
theorem Bf.boot:∀f:Bf,oz f.name=some f.val:=by
 intro f;cases f<;>decide +kernel
theorem Bf.ok(f:Bf):f.name≠"__name__"/\(f.name==("__debug__":Str))=false:=by
 cases f<;>decide +kernel
variable{p:Nat->Bool}
section
variable{X:Cx}
theorem Bu{Q:Value->ai->Prop}{E:Value->ai->Prop}(hc:X.calm=true)(I:L2.Inv X pins O H s)(hx:gy X.K H a xs)
  (h:∀(its:List Value),bw xs its->xs.length<=aa->∀abc:ai,abc={ s with heap:=s.heap.push { cls:=.type "list_iterator",data:=.fields #[.ref a,.int 0 0] } }->
   Walks X.prog X.w X.A.in1 s.heap.objs.size [s.heap.objs.size,a] [s.heap.objs.size] its.toArray.size (fun i v=>its.toArray[i]?=some v) (fun i h=>h.IsListIter s.heap.objs.size a i/\h.IsList a its.toArray)->
   (abc.heap.IsListIter s.heap.objs.size a 0/\abc.heap.IsList a its.toArray)->(∀b∈[s.heap.objs.size,a],b<abc.heap.objs.size)->
   (∀h' tk,(∀b o,b∉[s.heap.objs.size]->abc.heap.get? b=some o->h'.get? b=some o)->L2.Inv X pins O H { abc with heap:=h',toks:=tk })->Q (.ref s.heap.objs.size) abc) :
  aC (aF X.prog X.w) X.A.in1 (u9 (.ref a)) Q E s:=by
 obtain⟨its,r,pl,hz⟩:=I.list hx;have hlt:a<s.heap.objs.size:=by obtain⟨o,n,e,_⟩:=pl;exact aK e
 refine qZ pl.isList ?_;have hh:X.A.in1.handled=none:=I.ok.hd hc;refine h its r hz _ rfl (LW hh s.heap.objs.size a (bD hlt) its.toArray) ⟨⟨_,a7 _ rfl,rfl,rfl⟩,pl.isList.push _⟩ (fun b hb=>?_) fun h' tk k=>?_
 ·show b<(s.heap.push _).objs.size;rw[cU];rcases aH.mp hb with rfl|hb
  ·exact iS _
  ·rw[a8.mp hb];exact jD hlt
 ·exact I.kept fun b o e=>k b o (fun z=>absurd (aK e) (by rw[a8.mp z];exact eu _)) (aq _ e)
theorem range_all(f:V->Bool)(h:∀i x,xs[i]?=some x->p i=f x):(bG xs.length).all p=xs.all f:=by
 rw[g_,bV,bV];constructor
 ·intro q x hx;obtain⟨i,hi⟩:=oK hx;rw[<-h i x hi];exact q i (iF.mpr (bU.mp hi).1)
 ·intro q i hi;have hi:=iF.mp hi;rw[h i xs[i] (aJ hi)];exact q _ (gE hi)
theorem EW(hc:X.calm=true):pQ X (.builtin "all") (fun vs H Q=>∃a xs,vs=[.ref a]/\gy X.K H a xs/\yY xs=true/\Q (.bl (xs.all nK)) H):=by
 intro pins s O H vs us Q I r h;obtain⟨a,xs,rfl,hx,hb,q⟩:=h;obtain⟨u,rfl,ru⟩:=vals1 r;cases ru;refine call_all_walk (Bu hc I hx fun its rv hz abc e W st hfp fin=>⟨_,_,_,_,_,_,fun i=>(xs[i]?.map nK).getD false,rfl,W,st,?_,fun h' tk k=>?_⟩)
 ·intro i v s' Q' E' hP hQ;have hi:its[i]?=some v:=by simpa using hP
  have hlen:=rv.length;have hl:i<xs.length:=by
   have:=(bU.mp hi).1;omega
  have hxi:xs[i]?=some xs[i]:=aJ hl;obtain⟨u,hu,ru⟩:=rv.get hxi;rw[hi]at hu;cases hu;have hQ:Q' ((xs[i]?.map nK).getD false) s':=hQ;rw[hxi]at hQ;have hbl:∃b,xs[i]=.bl b:=by
   have:=bV.mp hb _ (gE hl);revert this;cases xs[i]<;>intro this<;>first|exact⟨_,rfl⟩|(exact absurd (show false=true from this) aY)
  obtain⟨b,eb⟩:=hbl;rw[eb]at ru hQ;cases ru;refine eT ?_;cases b<;>exact hQ
 ·have e1:its.toArray.size=xs.length:=by rw[aQ];exact rv.length.symm
  rw[e1];have e2:=range_all (p:=fun i=>(xs[i]?.map nK).getD false) (xs:=xs) nK (fun i x hi=>by rw[hi];rfl);rw[e2];exact⟨.bl _,H,fin h' tk k,rfl,q⟩
theorem range_any(f:V->Bool)(h:∀i x,xs[i]?=some x->p i=f x):(bG xs.length).any p=xs.any f:=by
 rw[g_,nt,nt];constructor
 ·rintro⟨i,hi,q⟩;have hi:=iF.mp hi;rw[h i xs[i] (aJ hi)]at q;exact⟨_,gE hi,q⟩
 ·rintro⟨x,hx,q⟩;obtain⟨i,hi⟩:=oK hx;rw[<-h i x hi]at q;exact⟨i,iF.mpr (bU.mp hi).1,q⟩
theorem EX(hc:X.calm=true):pQ X (.builtin "any") (fun vs H Q=>∃a xs,vs=[.ref a]/\gy X.K H a xs/\yY xs=true/\Q (.bl (xs.any nK)) H):=by
 intro pins s O H vs us Q I r h;obtain⟨a,xs,rfl,hx,hb,q⟩:=h;obtain⟨u,rfl,ru⟩:=vals1 r;cases ru;refine call_any_walk (Bu hc I hx fun its rv hz abc e W st hfp fin=>⟨_,_,_,_,_,_,fun i=>(xs[i]?.map nK).getD false,rfl,W,st,?_,fun h' tk k=>?_⟩)
 ·intro i v s' Q' E' hP hQ;have hi:its[i]?=some v:=by simpa using hP
  have hlen:=rv.length;have hl:i<xs.length:=by
   have:=(bU.mp hi).1;omega
  have hxi:xs[i]?=some xs[i]:=aJ hl;obtain⟨u,hu,ru⟩:=rv.get hxi;rw[hi]at hu;cases hu;have hQ:Q' ((xs[i]?.map nK).getD false) s':=hQ;rw[hxi]at hQ;have hbl:∃b,xs[i]=.bl b:=by
   have:=bV.mp hb _ (gE hl);revert this;cases xs[i]<;>intro this<;>first|exact⟨_,rfl⟩|(exact absurd (show false=true from this) aY)
  obtain⟨b,eb⟩:=hbl;rw[eb]at ru hQ;cases ru;refine eT ?_;cases b<;>exact hQ
 ·have e1:its.toArray.size=xs.length:=by rw[aQ];exact rv.length.symm
  rw[e1];have e2:=range_any (p:=fun i=>(xs[i]?.map nK).getD false) (xs:=xs) nK (fun i x hi=>by rw[hi];rfl);rw[e2];exact⟨.bl _,H,fin h' tk k,rfl,q⟩
theorem Gf:pQ X (.type "int") (fun vs H Q=>∃z n,vs=[.str z]/\z.length<=640/\intText? z=some n/\Q (.int n) H):=by
 intro pins s O H vs us Q I r h;obtain⟨z,n,rfl,hz,hn,q⟩:=h;obtain⟨u,rfl,ru⟩:=vals1 r;obtain⟨t,rfl⟩:=ru;exact PySem.W.KIN.call_text hn hz ⟨.int n,H,I.tok _,⟨_,rfl⟩,q⟩
theorem yV{P:bq}{w:bH}{k:Key}{u:Value}(h:RelV (kV k) u):(gB P w).is k u=true:=by
 cases k with
 |inl i=>obtain⟨t,rfl⟩:=h;exact zD P w i t
 |inr x=>obtain⟨t,rfl⟩:=h;exact zE P w x t
theorem YM(hc:X.calm=true)(hu:X.A.units+60<dD)(f:Bf):pQ X f.val (Au X.K f):=by
 intro pins s O H vs us Q I r h;cases f<;>cases vs<;>first|exact au h|skip
 case len.cons y w=>
  cases y<;>first|exact au h|(cases w<;>first|exact au h|skip)
  ·obtain⟨hz,q⟩:=h;exact FY pins s O H _ us Q I r ⟨_,rfl,hz,q⟩
  ·rcases h with⟨t,xs,hx,q⟩|⟨kvs,hk,q⟩
   ·refine FW pins s O H _ us Q I r ⟨_,xs,rfl,?_,q⟩;rcases hx.sq with⟨_,z⟩|⟨_,z⟩
    ·exact .inl z
    ·exact .inr z
   ·obtain⟨u,rfl,ru⟩:=vals1 r;cases ru;exact YC I hk fun t s' I'=>⟨.int kvs.length,H,I',⟨t,rfl⟩,q⟩
 case all.cons y w=>
  cases y<;>first|exact au h|(cases w<;>first|exact au h|skip)
  ·obtain⟨t,xs,hx,ht,hb,q⟩:=h;subst ht;exact EW hc pins s O H _ us Q I r ⟨_,xs,rfl,hx.Js,hb,q⟩
 case any.cons y w=>
  cases y<;>first|exact au h|(cases w<;>first|exact au h|skip)
  ·obtain⟨t,xs,hx,ht,hb,q⟩:=h;subst ht;exact EX hc pins s O H _ us Q I r ⟨_,xs,rfl,hx.Js,hb,q⟩
 case int.cons y w=>
  cases y<;>first|exact au h|(cases w<;>first|exact au h|skip)
  ·exact DJ pins s O H _ us Q I r (.inr ⟨_,rfl,h⟩)
  ·exact DJ pins s O H _ us Q I r (.inl ⟨_,rfl,h⟩)
  ·obtain⟨hz,n,hn,q⟩:=h;exact Gf pins s O H _ us Q I r ⟨_,n,rfl,hz,hn,q⟩
 case str.cons y w=>
  cases y<;>first|exact au h|(cases w<;>first|exact au h|skip)
  ·exact FP pins s O H _ us Q I r ⟨_,rfl,h.1,h.2⟩
 case abs.cons y w=>
  cases y<;>first|exact au h|(cases w<;>first|exact au h|skip)
  ·exact PD pins s O H _ us Q I r ⟨_,rfl,h⟩
 case min.cons y w=>
  cases y<;>first|exact au h|(cases w<;>first|exact au h|skip)
  rename_i y w;cases y<;>first|exact au h|(cases w<;>first|exact au h|skip)
  ·exact Mj hc pins s O H _ us Q I r ⟨_,_,rfl,h⟩
end
end L3
end
section
namespace L3
open PySem PySem.Spec PyProof.Rows L2
open PySem.Builtin PySem.Builtin.Str
variable{y:Str}
theorem Bv(h:y.length=1):y=⟨#[y.cps.getD 0 0]⟩:=by
 obtain⟨a⟩:=y;have h:a.size=1:=h;obtain⟨l⟩:=a
 match l,h with
 |[c],_=>rfl
theorem MF(x:Str)(c:Nat):(occurrences x ⟨#[c]⟩ 0 x.length (x.length+1)).length=x.cps.toList.count c:=by
 obtain⟨f,hG,hn⟩:=Ph x ⟨#[c]⟩ (aN 1);have h:=chain_count x c _ 0 f hG hn;rw[lT]at h;have cnt_eq:∀l:List Nat,cnt c l=(l.count c:Nat):=by
  intro l;induction l with
  |nil=>rfl
  |cons n r ih=>
   rw[cnt_cons,ih,Cq];by_cases e:n=c
   ·subst e;simp;omega
   ·simp[e]
 rw[cnt_eq]at h;have h2:((x.cps.toList.count c:Nat):Int)=((occurrences x ⟨#[c]⟩ 0 x.length (x.length+1)).length:Nat):=h;omega
theorem Gg(c:Nat):∀(l:List Nat) (a:Nat),l[a]?=some c->l.idxOf c<=a
|[],a,h=>by simp at h
|n::r,0,h=>by
 have e:n=c:=by simpa using h
 rw[Cv,e];simp
|n::r,a+1,h=>by
 have ih:=Gg c r a (by simpa using h);rw[Cv];cases n==c<;>simp<;>omega
theorem MG(x:Str)(c:Nat)(hm:c∈x.cps.toList):∃rest,occurrences x ⟨#[c]⟩ 0 x.length 1=x.cps.toList.idxOf c::rest:=by
 rcases SY x ⟨#[c]⟩ 1 (aN 1)with⟨h1,h2⟩|⟨a,r,h1,h2,h3⟩
 ·exfalso;obtain⟨i,hi⟩:=oK hm;exact h2 i ((q9 x c i).mpr hi)
 ·refine⟨r,?_⟩;rw[h1];congr 1;have ha:x.cps.toList[a]?=some c:=(q9 x c a).mp h2;have hlt:x.cps.toList.idxOf c<x.cps.toList.length:=s9.mpr hm;have hg:x.cps.toList[x.cps.toList.idxOf c]?=some c:=by
   rw[aJ hlt,List.getElem_idxOf hlt]
  have h4:¬x.cps.toList.idxOf c<a:=fun q=>h3 _ q ((q9 x c _).mpr hg);have h5:=Gg c _ _ ha;omega
theorem MH(x y:Str):(decide (0+y.length<=x.length)&&subAt x y 0)=y.cps.toList.isPrefixOf x.cps.toList:=by
 rw[g_,List.isPrefixOf_iff_prefix,S0,bR,beq_iff_eq,lT];have l1:y.cps.toList.length=y.length:=by simp[fY]
 have l2:x.cps.toList.length=x.length:=by simp[fY]
 constructor
 ·rintro⟨_,h⟩;rw[<-h];exact List.take_prefix _ _
 ·intro h;refine⟨?_,?_⟩
  ·have:=h.length_le;simp only[decide_eq_true_eq];omega
  ·rw[List.prefix_iff_eq_take]at h;rw[<-l1];exact h.symm
theorem zN(c:Nat):∀l:List Nat,c∉l->c_ c l=[l]
|[],_=>rfl
|x::r,hp=>by
 have hx:¬x=c:=fun z=>hp (by rw[z];exact ay);have hr:c∉r:=fun z=>hp (aj _ z);unfold c_;rw[if_neg hx,zN c r hr]
theorem vA(c:Nat):∀(p l:List Nat),c∉p->c_ c (p++c::l)=p::c_ c l
|[],l,_=>by
 show c_ c (c::l)=_;rw[c_,if_pos rfl]
|x::r,l,hp=>by
 have hx:¬x=c:=fun z=>hp (by rw[z];exact ay);have hr:c∉r:=fun z=>hp (aj _ z);show c_ c (x::(r++c::l))=_;rw[c_,if_neg hx,vA c r l hr]
theorem pU(c:Nat):∀(ps:List (List Nat)) (l:List Nat),ps≠[]->(∀p∈ps,c∉p)->l=[c].intercalate ps->c_ c l=ps
|[],_,h,_,_=>absurd rfl h
|[p],l,_,hp,e=>by
 have e:l=p:=by simpa[j8]using e
 subst e;have hp:=hp l ay;exact zN c l hp
|p::q::ps,l,_,hp,e=>by
 have e:l=p++c::[c].intercalate (q::ps):=by
  rw[e];simp[j8]
 have hpp:=hp p ay;have ih:=pU c (q::ps) _ (by simp) (fun z hz=>hp z (aj _ hz)) rfl;subst e;rw[vA c p _ hpp,ih]
theorem join_list(c:Nat):∀ps:List Str,ps≠[]->(ee ⟨#[c]⟩ ps).cps.toList=[c].intercalate (ps.map fun p=>p.cps.toList)
|[],h=>absurd rfl h
|[p],_=>by
 show p.cps.toList=_;simp[j8]
|p::q::r,_=>by
 have ih:=join_list c (q::r) (by simp);show(p++⟨#[c]⟩++ee ⟨#[c]⟩ (q::r)).cps.toList=_;have e:(p++⟨#[c]⟩++ee ⟨#[c]⟩ (q::r)).cps=p.cps++#[c]++(ee ⟨#[c]⟩ (q::r)).cps:=rfl;rw[e,w5,w5,ih];simp[j8]
theorem P_(x:Str)(c:Nat):iE x ⟨#[c]⟩=(c_ c x.cps.toList).map strOf:=by
 have h1:=O8 x ⟨#[c]⟩;have h2:=O9 x c;have hne:iE x ⟨#[c]⟩≠[]:=by
  have z:=split_len x c;have z2:(0:Int)<=cnt c x.cps.toList:=by
   have:∀l:List Nat,(0:Int)<=cnt c l:=by
    intro l;induction l with
    |nil=>exact Int.le_refl 0
    |cons n r ih=>rw[cnt_cons];split<;>omega
   exact this _
  intro e;rw[e]at z;have z:(0:Int)=1+cnt c x.cps.toList:=z;omega
 have h3:=pU c ((iE x ⟨#[c]⟩).map fun p=>p.cps.toList) x.cps.toList (by simpa using hne) (fun p hp=>by
  obtain⟨q,hq,rfl⟩:=bT.mp hp;exact h2 q hq) (by rw[<-join_list c _ hne,h1])
 rw[h3,bJ];have:∀l:List Str,l.map (strOf∘fun p=>p.cps.toList)=l:=by
  intro l;induction l with
  |nil=>rfl
  |cons a r ih=>rw[cj,ih];rfl
 rw[this]
variable{t:Tok}{Q:Value->ai->Prop}
section
variable{prog:bq}{w:bH}{A:cC}{E:Value->ai->Prop}{s:ai}
theorem KE{x:Str}{u:Tok}(hy:(y.length==0)=false)(hsz:x.length+2<=aa)
  (h:∀l tk,l.map (·.1)=iE x y->Q (.ref s.heap.objs.size) { s with heap:=s.heap.push { cls:=.type "list",data:=.seq (ES l).toArray },toks:=tk }) :
  aC (aF prog w) A (call (.builtin "str.split") [.str x t,.str y u]) Q E s:=by
 have F0:Fr s.heap s.heap.objs.size { s.heap with objs:=s.heap.objs } (fun _=>none)->True:=fun _=>trivial;have hn:(partsBetween x (occurrences x y 0 x.length (x.length+1)) y.length).length<=aa:=by
  have e1:=Kc x y 0 x.length (x.length+1);rw[length_partsBetween];omega
 cases h1:(decide (x.length<y.length)||decide (strKind x<strKind y))
 ·cases hf:(occurrences x y 0 x.length (x.length+1)).isEmpty
  ·refine gq F.slot_str_split (gM _ _ _) F.entry_str_split (F.args_str_split_2 _ _) (meets_str_split_sep x y t u h1 hy hf (by omega) hn) ?_;rw[Jb];refine h (numbered s.toks _) _ ((DB _ _).trans ?_);unfold iE;simp[h1,hf]
  ·refine gq F.slot_str_split (gM _ _ _) F.entry_str_split (F.args_str_split_2 _ _) (meets_str_split_not_found x y t u h1 hy hf) ?_;refine h [(x,t)] s.toks ?_;unfold iE;simp[h1,hf]
 ·refine gq F.slot_str_split (gM _ _ _) F.entry_str_split (F.args_str_split_2 _ _) (meets_str_split_cannot_occur x y t u h1) ?_;refine h [(x,t)] s.toks ?_;unfold iE;simp[h1]
theorem IA{x:Str}(hx:x.length<=aa)(hn:(gW x).length<=aa)
  (h:∀l tk,l.map (·.1)=gW x->Q (.ref s.heap.objs.size) { s with heap:=s.heap.push { cls:=.type "list",data:=.seq (ES l).toArray },toks:=tk }) :
  aC (aF prog w) A (call (.builtin "str.split") [.str x t]) Q E s:=by
 by_cases hc:(jw x (x.length+1)==[(0,x.length)])=true
 ·have e1:gW x=[x]:=by unfold gW;rw[if_pos hc]
  have hn':(jw x (x.length+1)).length<=aa:=by
   rw[eq_of_beq hc];show 1<=aa;decide
  refine gq F.slot_str_split (gM _ _ _) F.entry_str_split (F.args_str_split_1 _) (vh x t hx hn') ?_;rw[if_pos hc];exact h [(x,t)] s.toks e1.symm
 ·have e1:gW x=(jw x (x.length+1)).map fun p=>O_ x p.1 p.2:=by unfold gW;rw[if_neg hc];rfl
  have hn':(jw x (x.length+1)).length<=aa:=by
   rw[e1,az]at hn;exact hn
  refine gq F.slot_str_split (gM _ _ _) F.entry_str_split (F.args_str_split_1 _) (vh x t hx hn') ?_;rw[if_neg hc,Jb];exact h (numbered s.toks _) _ ((DB _ _).trans (by rw[e1];rfl))
theorem xw:∀(l:List (Str×Tok)),bw ((l.map (·.1)).map V.str) (ES l)
|[]=>.nil
|(x,t)::r=>.cons ⟨t,rfl⟩ (xw r)
end
variable{x:V}{pins:List (Addr×Obj)}{O:L2.St}{H:Hp}{s:ai}{m:Mt}{v:Value}
section
variable{X:Cx}
noncomputable def Fo:Mt->V->String
|_,.str _=>"str"
|_,_=>"list"
noncomputable def KG:Mt->V->String
|.append,_=>"list.append"
|.extend,_=>"list.extend"
|.join,.str _=>"str.join"
|.startswith,_=>"str.startswith"
|.split,_=>"str.split"
|.count,.str _=>"str.count"
|.index,.str _=>"str.index"
|.count,_=>"list.count"
|.index,_=>"list.index"
|_,_=>""
structure UI (T:String) (m:Mt) (id:String):Prop where
 pa:PlainAttrs T
 slot:Slot T m.name id
 ty:typeOf (.builtin id)=pure (.type "method_descriptor")
theorem Gh(m:Mt)(x:V)(H:Hp)(h:tG m x H):UI (Fo m x) m (KG m x):=by
 cases m<;>cases x<;>first
  |exact au h
  |exact⟨F.plainAttrs_list,F.slot_list_append,F.type_list_append⟩
  |exact⟨F.plainAttrs_list,F.slot_list_insert,F.type_list_insert⟩
  |exact⟨F.plainAttrs_str,F.slot_str_startswith,F.type_str_startswith⟩
  |exact⟨F.plainAttrs_str,F.slot_str_split,F.type_str_split⟩
  |exact⟨F.plainAttrs_str,F.slot_str_count,F.type_str_count⟩
  |exact⟨F.plainAttrs_str,F.slot_str_index,F.type_str_index⟩
  |exact⟨F.plainAttrs_str,F.slot_str_join,F.type_str_join⟩
  |exact⟨F.plainAttrs_dict,F.slot_dict_get,F.type_dict_get⟩
  |exact⟨F.plainAttrs_list,F.slot_list_pop,F.type_list_pop⟩
  |exact⟨F.plainAttrs_list,F.slot_list_count,F.type_list_count⟩
  |exact⟨F.plainAttrs_list,F.slot_list_index,F.type_list_index⟩
  |exact⟨F.plainAttrs_list,F.slot_list_extend,F.type_list_extend⟩
  |exact⟨F.plainAttrs_list,F.slot_list_clear,F.type_list_clear⟩
theorem Jt(I:L2.Inv X pins O H s)(r:RelV x v)(h:tG m x H) :
  s.TypeIs v (Fo m x)/\∀a,v=.ref a->∃ob,s.heap.get? a=some ob/\ob.dict=none:=by
 have hl:∀a,x=.ref a->jA H a->Mv X.K "list" x H:=by
  rintro a rfl h;unfold jA at h;split at h
  ·exact .inl ⟨rfl,_,.inl (.inl (by assumption))⟩
  ·exact h.elim
 have hd:∀a,x=.ref a->Tc H a->Mv X.K "dict" x H:=by
  rintro a rfl h;unfold Tc at h;split at h
  ·exact .inr (.inr (.inl ⟨rfl,.inl ⟨_,by assumption⟩⟩))
  ·exact .inr (.inr (.inl ⟨rfl,.inr ⟨_,by assumption⟩⟩))
  ·exact h.elim
 have hr:∀a,x=.ref a->(∃xs,Rd H a (.lst xs))->Mv X.K "list" x H:=by
  rintro a rfl ⟨xs,h⟩;exact .inl ⟨rfl,xs,.inl h⟩
 cases m<;>cases x<;>first|exact au h|exact Bl I r (hl _ rfl h)|exact Bl I r (hr _ rfl h)|exact Bl I r rfl|exact Bl I r (hd _ rfl h)
theorem Gi:∀{ss:List Str}{its:List Value},bw (ss.map V.str) its->StrsAre its ss
|[],_,h=>by cases h;first|exact .nil|trivial|rfl
|x::ss,_,h=>by
 cases h with
 |cons a b=>
  obtain⟨t,rfl⟩:=a;exact .cons x t (Gi b)
theorem Ju{vs:List V}{us:List Value}{Q:VK}(hu:X.A.units+60<dD)(I:L2.Inv X pins O H s)(rx:RelV x v)(rv:bw vs us)(h:vv X.K m x vs H Q) :
  aC (aF X.prog X.w) X.A (call (.builtin (KG m x)) (v::us)) (EP X pins O Q) X.xe s:=by
 cases m<;>cases x<;>first|exact au h|skip
 case append.ref l=>
  cases vs<;>first|exact au h|skip
  rename_i y r;cases r<;>first|exact au h|skip
  ·dsimp only[vv]at h;split at h
   ·exact Mw pins s O H _ _ v us Q I rx rv ⟨_,_,_,rfl,rfl,by assumption,h.1,h.2⟩
   ·exact h.elim
 case startswith.str z=>
  cases vs<;>first|exact au h|skip
  rename_i c r;cases c<;>first|exact au h|(cases r<;>first|exact au h|skip)
  rename_i y
  ·obtain⟨u,rfl,ru⟩:=vals1 rv;obtain⟨t,rfl⟩:=rx;obtain⟨t',rfl⟩:=ru;show aC _ _ (call (.builtin "str.startswith") _) _ _ _;refine Cw F.slot_str_startswith (gM s _ t) F.entry_str_startswith (F.args_str_startswith_2 _ _) (gives_str_startswith _ _ t t') ?_;replace h:Q (.bl (y.cps.toList.isPrefixOf z.cps.toList)) H:=h;rw[<-MH]at h;exact⟨.bl _,H,I,rfl,h⟩
 case split.str z=>
  cases vs with
  |nil=>
   obtain⟨⟨h1,h2⟩,h⟩:=h;cases rv;obtain⟨t,rfl⟩:=rx;show aC _ _ (call (.builtin "str.split") _) _ _ _;refine IA h1 h2 fun l tk el=>?_;rw[<-el]at h h2;exact⟨.ref s.heap.objs.size,_,I.Kr (xw l) (by rw[az];exact h2),rfl,h _ (I.hok.fresh (aN _))⟩
  |cons c r=>
   cases c<;>first|exact au h|(cases r<;>first|exact au h|skip)
   rename_i y;obtain⟨h1,h2,h⟩:=h;obtain⟨u,rfl,ru⟩:=vals1 rv;obtain⟨t,rfl⟩:=rx;obtain⟨t',rfl⟩:=ru;show aC _ _ (call (.builtin "str.split") _) _ _ _;refine KE (by rw[h1];rfl) h2 fun l tk el=>?_;have e1:((c_ (y.cps.getD 0 0) z.cps.toList).map fun l=>V.str (strOf l))=(l.map (·.1)).map V.str:=by
    rw[el];have e2:iE z y=iE z ⟨#[y.cps.getD 0 0]⟩:=by rw[<-Bv h1]
    rw[e2,P_,bJ];rfl
   rw[e1]at h;have hz:((l.map (·.1)).map V.str).length<=aa:=by
    rw[az,el];have e2:iE z y=iE z ⟨#[y.cps.getD 0 0]⟩:=by rw[<-Bv h1]
    rw[e2];have:=split_weight z ⟨#[y.cps.getD 0 0]⟩ (aN 1);omega
   exact⟨.ref s.heap.objs.size,_,I.Kr (xw l) hz,rfl,h _ (I.hok.fresh (aN _))⟩
 case count.str z=>
  cases vs<;>first|exact au h|skip
  rename_i c r;cases c<;>first|exact au h|(cases r<;>first|exact au h|skip)
  rename_i y
  ·obtain⟨h1,h2,h⟩:=h;obtain⟨u,rfl,ru⟩:=vals1 rv;obtain⟨t,rfl⟩:=rx;obtain⟨t',rfl⟩:=ru;show aC _ _ (call (.builtin "str.count") _) _ _ _;refine Cw F.slot_str_count (gM s _ t) F.entry_str_count (F.args_str_count_2 _ _) (gives_str_count _ _ t t') ?_;rw[<-MF,<-Bv h1]at h;exact⟨.int _,H,I.tok _,⟨_,rfl⟩,h⟩
 case index.str z=>
  cases vs<;>first|exact au h|skip
  rename_i c r;cases c<;>first|exact au h|(cases r<;>first|exact au h|skip)
  rename_i y
  ·obtain⟨h1,h2,h3,h⟩:=h;obtain⟨u,rfl,ru⟩:=vals1 rv;obtain⟨t,rfl⟩:=rx;obtain⟨t',rfl⟩:=ru;obtain⟨rest,e⟩:=MG z _ h3;rw[<-Bv h1]at e;show aC _ _ (call (.builtin "str.index") _) _ _ _;exact Cw F.slot_str_index (gM s _ t) F.entry_str_index (F.args_str_index_2 _ _) (gives_str_index _ _ t t' _ rest e) ⟨.int _,H,I.tok _,⟨_,rfl⟩,h⟩
 case count.ref l=>
  cases vs<;>first|exact au h|skip
  rename_i c r;cases c<;>first|exact au h|(cases r<;>first|exact au h|skip)
  rename_i k
  ·obtain⟨bs,hx,q⟩:=h;obtain⟨u,rfl,ru⟩:=vals1 rv;cases rx;cases ru;obtain⟨its,r,p,_⟩:=I.list (.inl hx:gy X.K H l _);exact Iu (PlainL.is p) r ⟨.int _,H,I.tok _,⟨_,rfl⟩,q⟩
 case index.ref l=>
  cases vs<;>first|exact au h|skip
  rename_i c r;cases c<;>first|exact au h|(cases r<;>first|exact au h|skip)
  rename_i k
  ·obtain⟨bs,hx,hk,q⟩:=h;obtain⟨u,rfl,ru⟩:=vals1 rv;cases rx;cases ru;obtain⟨its,r,p,hz⟩:=I.list (.inl hx:gy X.K H l _);exact Iw (PlainL.is p) r (by rw[az]at hz;exact hz) hk ⟨.int _,H,I.tok _,⟨_,rfl⟩,q⟩
 case join.str z=>
  cases vs<;>first|exact au h|skip
  rename_i c r;cases c<;>first|exact au h|(cases r<;>first|exact au h|skip)
  rename_i a
  ·obtain⟨t,xs,hx,ht,ss,rfl,hz,q⟩:=h;subst ht;obtain⟨u,rfl,ru⟩:=vals1 rv;obtain⟨tt,rfl⟩:=rx;cases ru;obtain⟨its,r,p,_⟩:=I.list hx.Js;refine Jc (PlainL.is p) (Gi r) (by have:=dH;omega) fun t' k=>⟨.str _,H,I.tok _,⟨_,rfl⟩,?_⟩;have e:∀(a:Str) (b:List Str),PySem.Txt.join a b=ee a b:=fun a b=>PySem.StrLaws.glued_eq_join a b
   first|(rw[e];exact q)|exact(e _ _▸q)
 case extend.ref l=>
  cases vs<;>first|exact au h|skip
  rename_i c r;cases c<;>first|exact au h|(cases r<;>first|exact au h|skip)
  rename_i b
  ·dsimp only[vv]at h;split at h
   ·obtain⟨zs,h1,h2,h3⟩:=h;exact Mx pins s O H _ _ v us Q I rx rv ⟨_,_,_,zs,rfl,rfl,by assumption,h1,h2,h3⟩
   ·exact h.elim
noncomputable def Ty.val:Ty->Value
|.int=>.type "int"|.bool=>.type "bool"|.str=>.type "str"|.list=>.type "list"|.tuple=>.type "tuple"|.dict=>.type "dict"|.none=>.type "NoneType"
theorem Ty.boot:∀t:Ty,t≠.none->oz t.name=some t.val:=by
 intro t h;cases t<;>first|decide +kernel|exact absurd rfl h
theorem WJ{ty:Ty}{Q:Bool->Prop}(I:L2.Inv X pins O H s)(rx:RelV x v)(h:sA X.K ty x H Q)(ht:ty≠.none) :
  aC (aF X.prog X.w) X.A (call (.builtin "isinstance") [v,ty.val]) (EP X pins O fun u H'=>H'=H/\∃b,u=.bl b/\Q b) X.xe s:=by
 have key:∀(t:Value) (b:Bool),oY X.K H x t->PySem.W.kitOne X.K t ty.val=some b->Q b->aC (aF X.prog X.w) X.A (call (.builtin "isinstance") [v,ty.val]) (EP X pins O fun u H'=>H'=H/\∃b,u=.bl b/\Q b) X.xe s:=
  fun t b h1 h2 h3=>Mq I rx h1 h2 fun tk=>⟨.bl b,H,I.tok _,rfl,rfl,b,rfl,h3⟩
 cases x with
 |non=>exact key _ false .non (by cases ty<;>first|rfl|exact absurd rfl ht) h
 |bl b=>
  cases ty with
  |bool=>exact key _ true (.bl b) rfl h
  |int=>exact key _ true (.bl b) rfl h
  |none=>exact absurd rfl ht
  |_=>exact key _ false (.bl b) rfl h
 |int i=>
  cases ty with
  |int=>exact key _ true (.int i) rfl h
  |none=>exact absurd rfl ht
  |_=>exact key _ false (.int i) rfl h
 |str z=>
  cases ty with
  |str=>exact key _ true (.str z) rfl h
  |none=>exact absurd rfl ht
  |_=>exact key _ false (.str z) rfl h
 |ref a=>
  rcases h with⟨xs,hx,h⟩|⟨xs,hx,h⟩|⟨kvs,hk,h⟩
  ·rcases hx with e|⟨o,e⟩
   ·cases ty with
    |list=>exact key _ true (.lst e) rfl h
    |none=>exact absurd rfl ht
    |_=>exact key _ false (.lst e) rfl h
   ·cases ty with
    |list=>exact key _ true (.bh e) rfl h
    |none=>exact absurd rfl ht
    |_=>exact key _ false (.bh e) rfl h
  ·obtain⟨its,_,⟨o,h1,h2,_⟩,_⟩:=I.tuple hx.lW;cases(show v=bu a from rx);have key2:∀b:Bool,PySem.W.kitOne X.K (.type "tuple") ty.val=some b->Q b->aC (aF X.prog X.w) X.A (call (.builtin "isinstance") [.ref a,ty.val]) (EP X pins O fun u H'=>H'=H/\∃b,u=.bl b/\Q b) X.xe s:=
    fun b e q=>PySem.W.kia_one PySem.W.kitx_tuple I.fQ ⟨o,h1,h2⟩ e (fun z=>nomatch z) fun tk=>⟨.bl b,H,I.tok _,rfl,rfl,b,rfl,q⟩
   cases ty with
   |tuple=>exact key2 true rfl h
   |none=>exact absurd rfl ht
   |_=>exact key2 false rfl h
  ·rcases hk with hk|⟨ob,hk⟩
   ·cases ty with
    |dict=>exact key _ true (.dK hk) rfl h
    |none=>exact absurd rfl ht
    |_=>exact key _ false (.dK hk) rfl h
   ·cases(show v=bu a from rx);obtain⟨_,_,_,vs,_,o,es,ep,h1,h2,_⟩:=(show dN X.prog X.w H s.heap a (.bh ob (.dK kvs))from I.hok a _ hk);have key2:∀b:Bool,PySem.W.kitOne X.K (.type "dict") ty.val=some b->Q b->aC (aF X.prog X.w) X.A (call (.builtin "isinstance") [.ref a,ty.val]) (EP X pins O fun u H'=>H'=H/\∃b,u=.bl b/\Q b) X.xe s:=
     fun b e q=>PySem.W.kia_one PySem.W.kitx_dict I.fQ ⟨o,h1,h2.1⟩ e (fun z=>nomatch z) fun tk=>⟨.bl b,H,I.tok _,rfl,rfl,b,rfl,q⟩
    cases ty with
    |dict=>exact key2 true rfl h
    |none=>exact absurd rfl ht
    |_=>exact key2 false rfl h
 |_=>exact au h
end
end L3
end
section
namespace L3
open PySem PySem.Spec PyProof.Rows L2
noncomputable def Tg(z:Str):It:=⟨fun i _=>i<z.length,fun i H x H'=>H'=H/\∃c,z.cps[i]?=some c/\x=.str ⟨#[c]⟩,fun i _=>z.length<=i⟩
variable{P:bq}{w:bH}{K:PySem.W.Frag}
theorem Qa{tg:Expr}(it:Addr)(z:Str)(t:Tok)(T:String)(hT:T="str_ascii_iterator"\/T="str_iterator") :
  Turn P w K tg (Tg z) [it] it (fun i h=>h.IsStrIter it T z t i) where
 mem:=by simp
 obj:=fun i h st b hb=>by
  have e:b=it:=by simpa using hb
  subst e;obtain⟨o,e,c,d⟩:=st;exact⟨o,e,fun v z=>by rw[d]at z;cases z⟩
 keep:=fun i h h' st k=>let⟨o,ho,r⟩:=st;⟨o,k it (by simp) o ho,r⟩
 item:=by
  intro X hP hw hK hc i pins s O H E I hf st hg;subst hP hw hK;obtain⟨f0,f1,f2,f3,f4,f5⟩:=hf it (by simp);have hh:X.A.handled=none:=I.ok.hd hc;have W:Walks X.prog X.w X.A it [it] [it] z.cps.size (SignAt z) (fun i h=>h.IsStrIter it T z t i):=by
   rcases hT with rfl|rfl
   ·exact Walks.strAscii hh it z t
   ·exact Walks.strWide hh it z t
  refine W.item i s _ _ hg st fun v h' tk hv st' kk=>?_;obtain⟨c,u,hc,rfl⟩:=hv;have I1:L2.Inv X pins O H { s with heap:=h',toks:=tk }:=I.turned (fun b o hb e=>kk b o (by simpa using hb) e) f0 f1 f3 f4 f5;obtain⟨o,e,c',d⟩:=id st';refine⟨_,rfl,Fg (s:={ s with heap:=h',toks:=tk }) (n:=T) e c' d (by rcases hT with rfl|rfl<;>decide) ⟨.str ⟨#[c]⟩,H,I1,⟨u,rfl⟩,⟨rfl,c,hc,rfl⟩,st',fun b hb=>(hf b hb).1⟩⟩
 done:=by
  intro X hP hw hK hc i pins s O H E I hf st hg;subst hP hw hK;obtain⟨f0,f1,f2,f3,f4,f5⟩:=hf it (by simp);have hg:z.cps.size<=i:=hg;have hn:z.cps[i]?=none:=Array.getElem?_eq_none_iff.mpr hg;rcases hT with rfl|rfl
  ·exact wpAny_pyNext_ascii_end (I.ok.hd hc) st hn fun h' eb=>⟨rfl,I.turned (t':=s.toks) (fun b o hb e=>eb b o hb e) f0 f1 f3 f4 f5⟩
  ·exact wpAny_pyNext_wide_end (I.ok.hd hc) st hn fun h' eb=>⟨rfl,I.turned (t':=s.toks) (fun b o hb e=>eb b o hb e) f0 f1 f3 f4 f5⟩
 self:=fun _ _ _ _ _ st h=>by
  rcases hT with rfl|rfl
  ·exact wpAny_pyIter_striter_ascii st h
  ·exact wpAny_pyIter_striter_wide st h
variable{X:Cx}{pins:List (Addr×Obj)}{O:L2.St}{H:Hp}{s:ai}
theorem Inv.rV{H':Hp}{h':Heap}{t':Nat}{ch:List Addr}(I:L2.Inv X pins O H s)(hf:∀b∈ch,m6 X pins H b)(k:∀b o,b∉ch->s.heap.get? b=some o->h'.get? b=some o)
  (free:∀b o,b∉ch->s.heap.get? b=some o->H b=none->H' b=none) (grow:∀b o,H b=some o->H' b=some o) (hok:fB X.prog X.w H' h'):L2.Inv X pins O H' { s with heap:=h',toks:=t' }:=by
 refine I.step (g':=s.gens) (d':=s.drawn) (ch:=ch) (fun b hb=>?_) (fun b o _ _ hc e _=>k b o hc e) (fun b o _ _ hc e _=>⟨o.slots,k b o hc e⟩) free
  (fun b o hc e=>⟨o,k b o hc e⟩) (fun _ _ e=>grow _ _ e) (fun _ _ _ e=>grow _ _ e) (fun b ps e=>⟨#[],by rw[grow _ _ e];simp⟩) (fun m hm=>?_) hok I.bare
 ·obtain⟨f0,f1,f2,f3,f4,f5⟩:=hf b hb;exact⟨f3,f1,f4,f5⟩
 ·obtain⟨o,es,ep,ho,r⟩:=hm;exact⟨o,es,ep,k _ o (fun z=>(hf _ z).2.1 rfl) ho,r⟩
theorem lG{X:Cx}{pins:List (Addr×Obj)}{H:Hp}{h h':Heap}{ch:List Addr}(x:fB X.prog X.w H h)(hf:∀b∈ch,H b=none)(k:∀b o,b∉ch->h.get? b=some o->h'.get? b=some o):fB X.prog X.w H h':=fun b u e=>by
 refine(x b u e).stay (fun c v hc q=>k c v (fun z=>?_) q) (fun _ q=>q) fun _ _ q=>q;rcases hc with rfl|hc
 ·rw[hf c z]at e;cases e
 ·rw[hf c z]at hc;cases hc
noncomputable def WK(a:Addr):It:=
 ⟨fun i H=>∃xs x,Rd H a (.lst xs)/\xs[i]?=some x,fun i H x H'=>∃p v,H p=none/\x=.ref p/\H'=upd H p (.tup [.int (i:Int),v])/\∀xs,Rd H a (.lst xs)->xs[i]?=some v,fun i H=>∃xs,Rd H a (.lst xs)/\xs.length<=i⟩
variable{elts:List Expr}{pos:Pos}
theorem MI{x1}(a e it:Addr)(hne:e≠it):Turn P w K (.Tuple elts x1 pos) (WK a) [e,it] e (fun i h=>(∃old,IsEnum h e it (i:Int) old)/\h.IsListIter it a i) where
 mem:=by simp
 obj:=fun i h st b hb=>by
  obtain⟨⟨old,st1⟩,st2⟩:=st;have hb:b=e\/b=it:=by simpa using hb
  rcases hb with rfl|rfl
  ·exact⟨_,st1,fun v z=>by cases z⟩
  ·obtain⟨o,e,c,d⟩:=st2;exact⟨o,e,fun v z=>by rw[d]at z;cases z⟩
 keep:=fun i h h' st k=>by
  obtain⟨⟨old,st1⟩,st2⟩:=st;exact⟨⟨old,k e (by simp) _ st1⟩,st2.at fun o q=>k it (by simp) o q⟩
 item:=by
  intro X hP hw hK hc i pins s O H E I hf st hg;subst hP hw hK;obtain⟨⟨old,st1⟩,st2⟩:=st;obtain⟨xs,x,hq,hx⟩:=hg;obtain⟨its,rv,p,hz⟩:=I.list (.inl hq:gy X.K H a xs);obtain⟨u,hu,ru⟩:=rv.get hx;refine wpAny_pyNext_enum_item st1 st2 p.isList (x:=u) (by simpa using hu) hne fun h1 heo hit1 ht1 hz1 hk1=>?_;refine⟨_,rfl,wpAny_letOwnedTupleGo_enum (s:={ s with heap:=h1,toks:=s.toks+1 }) heo fun h2 he2 hs2=>?_⟩;have hs2:jN e h1 h2:=hs2;have lee:e<s.heap.objs.size:=aK st1;have ne_e:s.heap.objs.size≠e:=iO lee;have ht2:h2.get? s.heap.objs.size=some { cls:=.type "tuple",data:=.seq #[.int i s.toks,u] }:=(hs2.2 _ ne_e).trans ht1;have hk2:∀b o,b∉[e,it]->s.heap.get? b=some o->h2.get? b=some o:=fun b o hb q=>by
   have hb:b≠e/\b≠it:=by simpa using hb
   exact(hs2.2 b hb.1).trans (hk1 b o hb.1 hb.2 q)
  have hn:H s.heap.objs.size=none:=I.hok.fresh (aN _);have hfr:∀b∈[e,it],H b=none:=fun b hb=>(hf b hb).1;have hok2:fB X.prog X.w (upd H s.heap.objs.size (.tup [.int (i:Int),x])) h2:=by
   have h0:fB X.prog X.w H h2:=lG (X:=X) (pins:=pins) I.hok hfr hk2;intro b o q;by_cases hb:b=s.heap.objs.size
   ·subst hb;rw[bQ]at q;cases q;refine⟨by show(2:Nat)<=_;have:=dH;omega,[.int (i:Int) s.toks,u],.cons ⟨_,rfl⟩ (.cons ru .nil),⟨_,ht2,rfl,_,rfl⟩⟩
   ·rw[aV hb]at q;exact(h0 b o q).stay (fun _ _ _ r=>r) (fun c r=>by rw[aV (bY r hn)];exact r) fun c ys r=>by rw[aV (bY r hn)];exact r
  have I2:L2.Inv X pins O (upd H s.heap.objs.size (.tup [.int (i:Int),x])) { s with heap:=h2,toks:=s.toks+1 }:=
   Inv.rV (ch:=[e,it]) I hf hk2 (fun b o hb q n=>by rw[aV (bD (aK q))];exact n) (fun b o q=>by rw[aV (bY q hn)];exact q) hok2
  refine⟨.ref s.heap.objs.size,_,I2,rfl,⟨_,x,hn,rfl,rfl,fun ys hy=>by rw[I.sj (.inl hy) (.inl hq:gy X.K H a xs)];exact hx⟩,⟨⟨u,?_⟩,?_⟩,fun b hb=>?_⟩
  ·have:((i:Int)+1)=((i+1:Nat):Int):=by omega
   rw[<-this];exact he2
  ·exact hit1.at fun o q=>(hs2.2 it (cT hne)).trans q
  ·have hlt:b<s.heap.objs.size:=by
    have hb:b=e\/b=it:=by simpa using hb
    rcases hb with rfl|rfl
    ·exact lee
    ·obtain⟨o,q,_⟩:=st2;exact aK q
   rw[aV (bD hlt)];exact hfr b hb
 done:=by
  intro X hP hw hK hc i pins s O H E I hf st hg;subst hP hw hK;obtain⟨⟨old,st1⟩,st2⟩:=st;obtain⟨xs,hq,hx⟩:=hg;obtain⟨its,rv,p,hz⟩:=I.list (.inl hq:gy X.K H a xs);have hl:=rv.length;have hfr:∀b∈[e,it],H b=none:=fun b hb=>(hf b hb).1;refine wpAny_pyNext_enum_end (I.ok.hd hc) st1 st2 p.isList (by simp;omega) fun h' eb=>⟨rfl,?_⟩;have hk:∀b o,b∉[e,it]->s.heap.get? b=some o->h'.get? b=some o:=fun b o hb q=>eb b o (fun z=>hb (by simp[z])) q;exact Inv.rV (t':=s.toks) (ch:=[e,it]) I hf hk (fun _ _ _ _ n=>n) (fun _ _ q=>q) (lG (X:=X) (pins:=pins) I.hok hfr hk)
 self:=fun _ _ _ _ _ st h=>by
  obtain⟨⟨old,st1⟩,_⟩:=st;exact zA st1 h
structure nM (J:It) (ok:Hp->Prop) (items:List Item):Prop where
 go:∀i H it,ok H->items[i]?=some it->J.go i H
 yld:∀i H it x H',ok H->items[i]?=some it->J.yld i H x H'->∀k,mkItem it H k->k x H'
 stop:∀i H,ok H->items.length<=i->J.stop i H
variable{a:Addr}
theorem MJ{xs:List V}:nM (Zx K a) (fun H=>gy K H a xs) (xs.map .v) where
 go:=fun i H it ok hi=>by
  rw[bP]at hi;cases e:xs[i]? with
  |none=>rw[e]at hi;cases hi
  |some x=>exact⟨xs,x,ok,e⟩
 yld:=fun i H it x H' ok hi hy k hk=>by
  obtain⟨rfl,hy⟩:=hy;rw[bP,hy xs ok]at hi;cases hi;exact hk
 stop:=fun i H ok hi=>⟨xs,ok,by rw[az]at hi;exact hi⟩
theorem xx:∀(xs:List V) (n i:Nat),(mJ n xs)[i]?=(xs[i]?).map fun x=>Item.tup [.int ((n+i:Nat):Int),x]
|[],n,i=>by simp[mJ]
|x::r,n,0=>by simp[mJ]
|x::r,n,i+1=>by
 simp only[mJ,lY,xx r (n+1) i];have:n+1+i=n+(i+1):=by omega
 rw[this]
theorem D0:∀(xs:List V) (n:Nat),(mJ n xs).length=xs.length
|[],_=>rfl
|x::r,n=>by simp[mJ,D0 r (n+1)]
theorem MK{xs:List V}:nM (WK a) (fun H=>Rd H a (.lst xs)) (mJ 0 xs) where
 go:=fun i H it ok hi=>by
  rw[xx]at hi;cases e:xs[i]? with
  |none=>rw[e]at hi;cases hi
  |some x=>exact⟨xs,x,ok,e⟩
 yld:=fun i H it x H' ok hi hy k hk=>by
  obtain⟨p,v,hp,rfl,rfl,hy⟩:=hy;rw[xx,hy xs ok,oN]at hi;cases hi;exact hk p hp
 stop:=fun i H ok hi=>⟨xs,ok,by rw[D0]at hi;exact hi⟩
theorem Qc{xs:List V}:nM (Zy K a) (fun H=>kD K H a xs) (xs.map .v) where
 go:=fun i H it ok hi=>by
  rw[bP]at hi;cases e:xs[i]? with
  |none=>rw[e]at hi;cases hi
  |some x=>exact⟨xs,x,ok,e⟩
 yld:=fun i H it x H' ok hi hy k hk=>by
  obtain⟨rfl,hy⟩:=hy;rw[bP,hy xs ok]at hi;cases hi;exact hk
 stop:=fun i H ok hi=>⟨xs,ok,by rw[az]at hi;exact hi⟩
theorem Qd{z:Str}:nM (Tg z) (fun _=>True) ((chars z).map .v) where
 go:=fun i H it ok hi=>by
  have:=(bU.mp hi).1;have:i<z.length:=by simpa[chars,fY]using this
  exact this
 yld:=fun i H it x H' ok hi hy k hk=>by
  obtain⟨rfl,c,hc,rfl⟩:=hy;unfold chars at hi;rw[bJ,bP,vg,hc]at hi;cases hi;exact hk
 stop:=fun i H ok hi=>by
  have:z.length<=i:=by simpa[chars,fY]using hi
  exact this
variable{lo:Int}{n:Nat}
theorem KH:nM (S4 lo n) (fun _=>True) ((bG n).map fun(i:Nat)=>Item.v (.int (lo+(i:Int)))) where
 go:=fun i H it ok hi=>by
  have:=(bU.mp hi).1;have:i<n:=by simpa using this
  exact this
 yld:=fun i H it x H' ok hi hy k hk=>by
  obtain⟨rfl,rfl⟩:=hy;have hl:=(bU.mp hi).1;have hl:i<n:=by simpa using hl
  rw[bP,w6 hl]at hi;cases hi;exact hk
 stop:=fun i H ok hi=>by
  have:n<=i:=by simpa using hi
  exact this
variable{J:It}{ok:Hp->Prop}{items:List Item}
theorem nM.mono{ok':Hp->Prop}(h:nM J ok items)(m:∀H,ok' H->ok H):nM J ok' items:=
 ⟨fun i H it o=>h.go i H it (m H o),fun i H it x H' o=>h.yld i H it x H' (m H o),fun i H o=>h.stop i H (m H o)⟩
theorem Qe{g:TG}{body:TS}{D:Ends}(hJ:nM J ok items)(h:forL ok g body D items O H) :
  ∃W:Nat->Nat->L2.St->Hp->Prop,(∃m,W 0 m O H)/\∀i m O H,W i m O H->
   (J.stop i H/\D.nx O H)\/(J.go i H/\∃N:L2.St->Hp->Prop,(∀σ' H',N σ' H'->∃m',m'<m/\W (i+1) m' σ' H')/\∀x H',J.yld i H x H'->g x O H' fun σ2 H2=>body { D with nx:=N,ct:=N,bk:=D.nx } σ2 H2):=by
 refine⟨fun i m O H=>m=items.length-i/\i<=items.length/\forL ok g body D (items.drop i) O H,⟨items.length,by simp,mE _,by simpa using h⟩,?_⟩;rintro i m O H ⟨rfl,hi,p⟩;by_cases hlt:i<items.length
 ·rw[rP hlt]at p;obtain⟨hok,p⟩:=p;have e:items[i]?=some items[i]:=aJ hlt;refine .inr ⟨hJ.go i H _ hok e,forL ok g body D (items.drop (i+1)),fun σ' H' p'=>⟨items.length-(i+1),by omega,rfl,hlt,p'⟩,fun x H' y=>?_⟩;exact hJ.yld i H _ x H' hok e y _ p
 ·rw[mG (by omega)]at p;obtain⟨hok,p⟩:=p;exact .inl ⟨hJ.stop i H hok (by omega),p⟩
variable{iter:Expr}
variable{e:Expr}{te:TE}
variable{E:Value->ai->Prop}
variable{tp p:Pos}
variable{es:List Expr}
section
variable{X:Cx}{tg:Expr}
def Qf(X:Cx)(pins:List (Addr×Obj))(O:L2.St)(tg:Expr)(k:(Hp->Prop)->List Item->Hp->Prop)(itv:Value)(s2:ai):Prop:=
 ∃(it:Addr) (fp:List Addr) (tn:Nat->Heap->Prop) (J:It) (H':Hp),itv=.ref it/\L2.Inv X pins O H' s2/\Turn X.prog X.w X.K tg J fp it tn/\tn 0 s2.heap/\(∀b∈fp,m6 X pins H' b)/\∃ok items,nM J ok items/\k ok items H'
def D3(X:Cx)(tg iter:Expr)(wi:Td):Prop:=
 ∀(pins:List (Addr×Obj)) (s:ai) (O:L2.St) (H:Hp) (k:(Hp->Prop)->List Item->Hp->Prop),L2.Inv X pins O H s->wi O H k->
  aC (aF X.prog X.w) X.A (eval iter X.env) (fun v s1=>aC (aF X.prog X.w) X.A (u9 v) (Qf X pins O tg k) X.xe s1) X.xe s
theorem YN{body:List Stmt}{wi:Td}{g:TG}{tb:TS}(hp:tW (aF X.prog X.w) X.A X.env X.xe)(hc:X.calm=true)(hi:D3 X tg iter wi)(hg:PG X tg g)(hb:oU X body tb)
  (hs:∀x,jC iter X.env x=pure x):PS X (.For tg iter body [] pos) (fun D O H=>wi O H fun ok items H1=>forL ok g tb D items O H1):=by
 intro pins s O H D I h;have hI:PI X tg iter (fun σ0 H0 R=>wi σ0 H0 (fun ok items H1=>forL ok g tb D items O H1)/\∀ok items H1 J,forL ok g tb D items O H1->nM J ok items->R J H1):=by
  intro pins' s' σ' H' R I' h';refine aU (hi pins' s' σ' H' _ I' h'.1) fun v s1 h1=>aU h1 fun itv s2 h2=>?_;obtain⟨it,fp,tn,J,H2,e,I2,T,st,hf,ok,items,hJ,hk⟩:=h2;exact⟨it,fp,tn,J,H2,e,I2,T,st,hf,h'.2 ok items H2 J hk hJ⟩
 exact Wc hp hc hI hg hb hs pins s O H D I ⟨h,fun ok items H1 J hk hJ=>Qe hJ hk⟩
theorem UJ(he:PE X e te):D3 X tg e (fun O H k=>te O H fun x H1=>CN X.K x H1 k):=by
 intro pins s O H k I h;refine aU (he pins s O H _ I h) fun v s1 ⟨x,H1,I1,r1,q1⟩=>?_;cases x with
 |str z=>
  obtain⟨t,rfl⟩:=r1;obtain⟨hz,q⟩:=q1;have fin:∀T,T="str_ascii_iterator"\/T="str_iterator"->Qf X pins O tg k (.ref s1.heap.objs.size) { s1 with heap:=s1.heap.push { cls:=.type T,data:=.fields #[.str z t,.int 0 0] } }:=fun T hT=>by
   refine⟨s1.heap.objs.size,[s1.heap.objs.size],_,_,H1,rfl,I1.kept (t':=s1.toks) fun b o e=>aq _ e,Qa s1.heap.objs.size z t T hT,⟨_,a7 _ rfl,rfl,rfl⟩,fun b hb=>?_,_,_,Qd,q⟩;have e:b=s1.heap.objs.size:=by simpa using hb
   subst e;exact I1.oX (aN _) (I1.hok.fresh (aN _))
  cases ha:z.cps.all (·<128)
  ·exact wpAny_pyIter_wide ha (fin _ (.inr rfl))
  ·exact wpAny_pyIter_ascii ha (fin _ (.inl rfl))
 |ref a=>
  obtain⟨t,xs,hx,q⟩:=q1;cases r1;rcases hx.sq with⟨rfl,z⟩|⟨rfl,z⟩
  ·obtain⟨its,rv,p,hz⟩:=I1.list z;refine qZ p.isList ?_;refine⟨s1.heap.objs.size,[s1.heap.objs.size],_,_,H1,rfl,I1.kept (t':=s1.toks) fun b o e=>aq _ e,Mf a _,⟨_,a7 _ rfl,rfl,rfl⟩,fun b hb=>?_,fun H'=>eE X.K H' a false xs,_,MJ.mono fun H' o=>?_,q⟩
   ·have e:b=s1.heap.objs.size:=by simpa using hb
    subst e;exact I1.oX (aN _) (I1.hok.fresh (aN _))
   ·rcases o.sq with⟨_,z⟩|⟨hf,_⟩
    ·exact z
    ·cases hf
  ·obtain⟨its,rv,p,hz⟩:=I1.tuple z;refine qG (show s1.heap.IsTuple a its.toArray from p) ?_;refine⟨s1.heap.objs.size,[s1.heap.objs.size],_,_,H1,rfl,I1.kept (t':=s1.toks) fun b o e=>aq _ e,Kd a _,⟨_,a7 _ rfl,rfl,rfl⟩,fun b hb=>?_,fun H'=>eE X.K H' a true xs,_,Qc.mono fun H' o=>?_,q⟩
   ·have e:b=s1.heap.objs.size:=by simpa using hb
    subst e;exact I1.oX (aN _) (I1.hok.fresh (aN _))
   ·rcases o.sq with⟨hf,_⟩|⟨_,z⟩
    ·cases hf
    ·exact z
 |_=>exact au q1
theorem range_it'{k:(Hp->Prop)->List Item->Hp->Prop}{hi:Int}{t u v:Tok}{tk:Nat}(I:L2.Inv X pins O H s)(h1:-(2 ^ 62)<=lo)(h2:lo<2 ^ 62)(h3:-(2 ^ 62)<=hi)(h4:hi<2 ^ 62)
  (q:k (fun _=>True) ((bG (hi-lo).toNat).map fun(i:Nat)=>Item.v (.int (lo+(i:Int)))) H) :
  aC (aF X.prog X.w) X.A (u9 (.ref s.heap.objs.size)) (Qf X pins O tg k) E { s with heap:=s.heap.push { cls:=.type "range",data:=.fields #[.int lo t,.int hi u,.int 1 v] },toks:=tk }:=by
 refine aU (Pz (tg:=tg) (R:=fun J H'=>J=S4 lo (hi-lo).toNat/\H'=H) I h1 h2 h3 h4 ⟨rfl,rfl⟩) fun itv s2 h=>?_;obtain⟨it,fp,tn,J,H',e,I2,T,st,hf,rfl,rfl⟩:=h;exact⟨it,fp,tn,_,H',e,I2,T,st,hf,_,_,KH,q⟩
theorem Qg{x1:Nat}(hg:Gl X "enumerate")(hm:X.mg "enumerate"=none)(he:PE X e te)(hs:cE [e] X.env=[(false,eval e X.env)]) :
  D3 X (.Tuple elts x1 tp) (.Call (.Name "enumerate" p) [e] [] pos) (fun O H k=>te O H fun x H1=>match x with
   |.ref b=>∃xs,Rd H1 b (.lst xs)/\k (fun H'=>Rd H' b (.lst xs)) (mJ 0 xs) H1
   |_=>False):=by
 intro pins s O H k I h;have ha:=Jk he Mr hs;refine Call_ (kK I hg hm boot_enumerate (fP (aU (ha pos pins s O H (fun vs H1=>match vs with
   |[x]=>(match x with
    |.ref b=>∃xs,Rd H1 b (.lst xs)/\k (fun H'=>Rd H' b (.lst xs)) (mJ 0 xs) H1
    |_=>False)
   |_=>False) I h) fun us s1 ⟨vs,H1,I1,r1,q⟩=>?_) hs rfl))
 match vs,r1,q with
 |[],r1,q=>exact q.elim
 |_::_::_,r1,q=>exact q.elim
 |[x],r1,q=>
  obtain⟨u,rfl,ru⟩:=vals1 r1;cases x with
  |ref b=>
   cases ru;obtain⟨xs,hx,q⟩:=q;obtain⟨its,rv,pl,hz⟩:=I1.list (.inl hx:gy X.K H1 b xs);refine call_enumerate_list pl.isList fun h' he' hi' hz' hk'=>?_;refine zA (s:={ s1 with heap:=h' }) he' ?_;refine⟨s1.heap.objs.size+1,[s1.heap.objs.size+1,s1.heap.objs.size],_,_,H1,rfl,I1.kept (t':=s1.toks) hk',MI b _ _ (Nat.succ_ne_self _),⟨⟨_,he'⟩,hi'⟩,fun c hc=>?_,_,_,MK,q⟩;have hc:c=s1.heap.objs.size+1\/c=s1.heap.objs.size:=by simpa using hc
   rcases hc with rfl|rfl
   ·exact I1.oX (jv _) (I1.hok.fresh (jv _))
   ·exact I1.oX (aN _) (I1.hok.fresh (aN _))
  |_=>exact au q
theorem ML{ta:TA}(hg:Gl X "range")(hm:X.mg "range"=none)(ha:PA X (e::es) ta)(he:cE (e::es) X.env=(false,eval e X.env)::cE es X.env)(hpl:(kc pos (cE es X.env)).any (·.1)=false) :
  D3 X tg (.Call (.Name "range" p) (e::es) [] pos) (fun O H k=>ta O H fun vs H1=>xr vs H1 k):=by
 intro pins s O H k I h;refine Call_ (kK I hg hm boot_range (fP (aU (ha pos pins s O H _ I h) fun us s1 ⟨vs,H1,I1,r1,q⟩=>?_) he hpl));have q:xr vs H1 k:=q;unfold xr at q;split at q
 ·obtain⟨⟨q1,q2⟩,q⟩:=q;obtain⟨u,rfl,ru⟩:=vals1 r1;obtain⟨t,rfl⟩:=ru;refine call_range_1 (range_it' I1 (by omega) (by omega) q1 q2 ?_);simpa using q
 ·obtain⟨⟨q1,q2,q3,q4⟩,q⟩:=q;obtain⟨u,u',rfl,ru,ru'⟩:=vals2 r1;obtain⟨t,rfl⟩:=ru;obtain⟨t',rfl⟩:=ru';exact call_range_2 (range_it' I1 q1 q2 q3 q4 q)
 ·exact q.elim
end
section
variable{P:bq}{w:bH}{H:Hp}{h h':Heap}{a:Addr}{o:HO}
theorem MM(x:fB P w H h)(hn:H a=none)(new:dN P w (upd H a o) h a o):fB P w (upd H a o) h:=fun b u e=>by
 by_cases hb:b=a
 ·subst hb;rw[bQ]at e;cases e;exact new
 ·rw[aV hb]at e;exact(x b u e).stay (fun c v _ q=>q) (fun c q=>by rw[aV (bY q hn)];exact q) fun c xs q=>by rw[aV (bY q hn)];exact q
end
noncomputable def o4(cells:List (Str×Addr)):List (Str×iQ)->List (Str×Addr)->List (Str×Addr)
|[],acc=>acc
|(n,k)::r,acc=>if(k==.free)=true then(match cells.lookup n with|some c=>o4 cells r ((n,c)::acc)|none=>o4 cells r acc)else o4 cells r acc
variable{env:Env}
theorem vB:∀(names:List (Str×iQ)) (acc:List (Str×Addr)),(∀n,(n,b7)∈names->∃c,env.cells.lookup n=some c)->
 (forIn names acc fun(x:Str×iQ) (r:List (Str×Addr))=>(match x with
  |(name,kind)=>if(kind==.free)=true then(do let a <-Pa env name;pure (jj ((name,a)::r)))else pure (jj r):Sem (ForInStep (List (Str×Addr)))))=pure (o4 env.cells names acc)
|[],acc,_=>rfl
|(n,k)::r,acc,hn=>by
 rw[t9];have hr:∀m,(m,b7)∈r->∃c,env.cells.lookup m=some c:=fun m hm=>hn m (aj _ hm);unfold o4;by_cases hk:(k==b7)=true
 ·have e:k=.free:=by simpa using hk
  subst e;obtain⟨c,hc⟩:=hn n ay;have hco:Pa env n=pure c:=by unfold Pa;rw[hc]
  simp only[hc,hco,beq_self_eq_true,if_true];exact vB r _ hr
 ·simp only[hk,if_false];exact vB r _ hr
variable{scope:fO}
theorem wk(h:∀n,(n,b7)∈scope.names->∃c,env.cells.lookup n=some c):LY scope env=pure (o4 env.cells scope.names []):=by
 have e:=vB (env:=env) scope.names [] h;unfold LY;exact Eq.trans (congrArg (fun t=>t >>= fun cs=>pure cs) e) rfl
variable{cells:List (Str×Addr)}
theorem vC:∀(names:List (Str×iQ)) (acc:List (Str×Addr)),(∀x c,acc.lookup x=some c->cells.lookup x=some c)->∀x c,(o4 cells names acc).lookup x=some c->cells.lookup x=some c
|[],acc,h=>h
|(n,k)::r,acc,h=>by
 unfold o4;by_cases hk:(k==b7)=true
 ·simp only[hk,if_true];cases hc:cells.lookup n with
  |none=>exact vC r acc h
  |some c=>
   refine vC r _ fun x d hx=>?_;rw[cA]at hx;cases e:x==n with
   |true=>
    rw[e]at hx;have:x=n:=by simpa using e
    subst this;cases hx;exact hc
   |false=>rw[e]at hx;exact h x d hx
 ·simp only[hk,if_false];exact vC r acc h
theorem sD:∀(names:List (Str×iQ)) (acc:List (Str×Addr)) (x:Str),((∃c,acc.lookup x=some c)\/((x,b7)∈names/\∃c,cells.lookup x=some c))->∃c,(o4 cells names acc).lookup x=some c
|[],acc,x,h=>by
 rcases h with h|⟨h,_⟩
 ·exact h
 ·cases h
|(n,k)::r,acc,x,h=>by
 unfold o4;by_cases hk:(k==b7)=true
 ·simp only[hk,if_true];have ek:k=.free:=by simpa using hk
  subst ek;cases hc:cells.lookup n with
  |none=>
   refine sD r acc x ?_;rcases h with h|⟨h,h2⟩
   ·exact .inl h
   ·rcases aH.mp h with e|h
    ·cases e;obtain⟨c,hc2⟩:=h2;rw[hc]at hc2;cases hc2
    ·exact .inr ⟨h,h2⟩
  |some c=>
   refine sD r _ x ?_;by_cases e:x=n
   ·subst e;exact .inl ⟨c,by rw[cA];simp⟩
   ·rcases h with⟨d,h⟩|⟨h,h2⟩
    ·exact .inl ⟨d,by rw[cA,beq_eq_false_iff_ne.mpr e];exact h⟩
    ·rcases aH.mp h with q|h
     ·cases q;exact absurd rfl e
     ·exact .inr ⟨h,h2⟩
 ·simp only[hk,if_false];refine sD r acc x ?_;rcases h with h|⟨h,h2⟩
  ·exact .inl h
  ·rcases aH.mp h with e|h
   ·cases e;exact absurd rfl hk
   ·exact .inr ⟨h,h2⟩
variable{α:Type}{x:Str}
theorem nN{m:Str}{n c:α}{acc:List (Str×α)}(h:((m,n)::acc).lookup x=some c):(x=m/\c=n)\/((x=m->False)/\acc.lookup x=some c):=by
 rw[cA]at h;cases e:x==m with
 |true=>
  rw[e]at h;exact .inl ⟨by simpa using e,(cM h).symm⟩
 |false=>
  rw[e]at h;exact .inr ⟨fun z=>by rw[z]at e;simp at e,h⟩
theorem vD:∀(names:List (Str×iQ)) (n:Nat) (acc:List (Str×Addr)) (x:Str) (c:Addr),(dQ n names acc).lookup x=some c->(n<=c/\(x,ck)∈names)\/((x,ck)∉names/\acc.lookup x=some c)
|[],_,_,_,_,h=>.inr ⟨(fun z=>nomatch z),h⟩
|(m,k)::r,n,acc,x,c,h=>by
 unfold dQ at h;by_cases hk:(k==ck)=true
 ·rw[if_pos hk]at h;have ek:k=.cell:=by simpa using hk
  subst ek;rcases vD r (n+1) _ x c h with⟨h1,h2⟩|⟨h1,h2⟩
  ·exact .inl ⟨by omega,aj _ h2⟩
  ·rcases nN h2 with⟨e1,e2⟩|⟨e1,e2⟩
   ·subst e1;subst e2;exact .inl ⟨aN _,ay⟩
   ·refine .inr ⟨fun z=>?_,e2⟩;rcases aH.mp z with q|q
    ·cases q;exact e1 rfl
    ·exact h1 q
 ·rw[if_neg hk]at h;rcases vD r n acc x c h with⟨h1,h2⟩|⟨h1,h2⟩
  ·exact .inl ⟨h1,aj _ h2⟩
  ·refine .inr ⟨fun z=>?_,h2⟩;rcases aH.mp z with q|q
   ·cases q;exact hk rfl
   ·exact h1 q
theorem Ay:∀(names:List (Str×iQ)) (n:Nat) (acc:List (Str×Addr)) (x:Str),(x,ck)∉names->(dQ n names acc).lookup x=acc.lookup x
|[],_,_,_,_=>rfl
|(m,k)::r,n,acc,x,h=>by
 unfold dQ;by_cases hk:(k==ck)=true
 ·rw[if_pos hk,Ay r _ _ x fun z=>h (aj _ z),cA];have ek:k=.cell:=by simpa using hk
  have ne:(x==m)=false:=beq_eq_false_iff_ne.mpr fun z=>h (by rw[z,ek];exact ay);rw[ne]
 ·rw[if_neg hk];exact Ay r _ _ x fun z=>h (aj _ z)
theorem CT:∀(names:List (Str×iQ)) (n:Nat) (acc:List (Str×Addr)) (x:Str),(x,ck)∈names\/(∃c,acc.lookup x=some c)->∃c,(dQ n names acc).lookup x=some c
|[],_,_,_,h=>by
 rcases h with h|h
 ·cases h
 ·exact h
|(m,k)::r,n,acc,x,h=>by
 unfold dQ;by_cases hk:(k==ck)=true
 ·rw[if_pos hk];refine CT r _ _ x ?_;by_cases e:x=m
  ·subst e;exact .inr ⟨n,by rw[cA];simp⟩
  ·rcases h with h|⟨c,h⟩
   ·rcases aH.mp h with q|q
    ·cases q;exact absurd rfl e
    ·exact .inl q
   ·exact .inr ⟨c,by rw[cA,beq_eq_false_iff_ne.mpr e];exact h⟩
 ·rw[if_neg hk];refine CT r _ _ x ?_;rcases h with h|h
  ·rcases aH.mp h with q|q
   ·cases q;exact absurd rfl hk
   ·exact .inl q
  ·exact .inr h
theorem CU:∀(names:List (Str×iQ)) (n:Nat) (acc:List (Str×Addr)),(∀x c,acc.lookup x=some c->c<n)->(∀x y c,acc.lookup x=some c->acc.lookup y=some c->x=y)->∀x y c,(dQ n names acc).lookup x=some c->(dQ n names acc).lookup y=some c->x=y
|[],_,_,_,h=>h
|(m,k)::r,n,acc,hb,h=>by
 unfold dQ;by_cases hk:(k==ck)=true
 ·rw[if_pos hk];refine CU r _ _ (fun x c hx=>?_) fun x y c hx hy=>?_
  ·rcases nN hx with⟨_,e⟩|⟨_,e⟩
   ·rw[e];exact iS _
   ·exact jD (hb x c e)
  ·rcases nN hx with⟨e1,e2⟩|⟨_,e2⟩<;>rcases nN hy with⟨e3,e4⟩|⟨_,e4⟩
   ·rw[e1,e3]
   ·exact absurd (hb y c e4) (by rw[e2];exact eu _)
   ·exact absurd (hb x c e2) (by rw[e4];exact eu _)
   ·exact h x y c e2 e4
 ·rw[if_neg hk];exact CU r n acc hb h
theorem Az:∀(names:List (Str×iQ)) (h:Heap) (acc:List (Str×Addr)) (x:Str) (c:Addr),(dQ h.objs.size names acc).lookup x=some c->(pushCells h names).IsCell c none\/acc.lookup x=some c
|[],_,_,_,_,e=>.inr e
|(m,k)::r,h,acc,x,c,e=>by
 unfold dQ at e;unfold pushCells;by_cases hk:(k==ck)=true
 ·rw[if_pos hk]at e ⊢;have e':(dQ (h.push { cls:=.type "cell",data:=.cell none }).objs.size r ((m,h.objs.size)::acc)).lookup x=some c:=by rw[cU];exact e
  rcases Az r _ _ x c e' with q|q
  ·exact .inl q
  ·rcases nN q with⟨_,e2⟩|⟨_,e2⟩
   ·subst e2;exact .inl ⟨_,t_ r _ _ _ (a7 _ rfl),rfl⟩
   ·exact .inr e2
 ·rw[if_neg hk]at e ⊢;exact Az r h acc x c e
variable{A:cC}
theorem Qh{aa4:LM}{closure:List (Str×Addr)}{Q:Env->ai->Prop}
  (hQ:∀h',h'.Ns s.heap.objs.size (fun _=>none)->(∀b o,s.heap.get? b=some o->h'.get? b=some o)->(∀x c,(dQ (s.heap.objs.size+1) scope.names closure).lookup x=some c->h'.IsCell c none\/closure.lookup x=some c)->
   Q { scope,locals:=s.heap.objs.size,globals:=env.globals,cells:=dQ (s.heap.objs.size+1) scope.names closure,qual:=env.qual,func:=none,code:=env.code,frame:=env.frame,builtins:=env.builtins } { s with heap:=h' }) :
  aC aa4 A (vj scope env.globals closure [] env.qual none .none (some env)) Q E s:=by
 simp only[vj,yM,if_true];refine ah (Ja ?_);refine ah (wpAny_layCells _ (fun name kind cells=>by cases hkc:kind==ck<;>simp[hkc]) _ _ _ _ ?_);have hc:=Az scope.names (s.heap.push { cls:=.type "dict",data:=.dict #[] }) closure;rw[cU]at hc;rw[show({ s with heap:=s.heap.push { cls:=.type "dict",data:=.dict #[] } }:ai).heap.objs.size=s.heap.objs.size+1 from cU ..];rw[vm];exact ah (aR (aR (hQ _ ((Yi s.heap (.type "dict")).keeps (t_ _ _)) (fun b o e=>t_ _ _ b o (aq _ e)) hc)))
noncomputable def kM(X:Cx)(N:List Str)(scope:fO)(C:Addr)(aa9:ai)(abj:Hp)(ex:List Addr):Cx where
 prog:=X.prog
 w:=X.w
 K:=X.K
 mg:=X.mg
 base:=X.base
 A:=X.A
 N:=N
 aa9:=aa9
 abj:=abj
 env:=compEnvC scope (dQ (C+1) scope.names (o4 X.env.cells scope.names [])) C X.env
 outer:=X.stack
 stack:=X.stack
 ex:=ex
 fn:=fun x=>scope.names.lookup x==some .cell
 calm:=X.calm
 pn:=[]
 xe:=fun _ _=>False
def Jv(X:Cx)(ifs:List Expr)(t:TT):Prop:=
 ∀(pins:List (Addr×Obj)) (s:ai) (O:L2.St) (H:Hp) (Q:Bool->Hp->Prop),L2.Inv X pins O H s->t O H Q->
  aC (aF X.prog X.w) X.A (forIn ifs true fun c r=>if r=true then do let ok <-yz c X.env (eval c X.env);pure (jj ok)else pure (jj r)) (TP X pins O Q) X.xe s
theorem UK:Jv X [] (fun _ H Q=>Q true H):=fun _ _ _ H _ I h=>wpAny_tests_nil ⟨H,I,h⟩
variable{c:Expr}
theorem UL{t:TT}(h:PT X c t):Jv X [c] t:=fun pins s O H Q I q=>wpAny_tests_one (h pins s O H Q I q)
section
variable{prog:bq}{w:bH}{A:cC}{R:Cg->ai->Prop}{s:ai}
theorem MN{elt target:Expr}{ifs:List Expr}{it acc:Value}(I:Nat->ai->Prop)
  (turn:∀n s,I n s->aC (aF prog w) A (qC it) (fun r aa_=>match r with
   |none=>R (.ok .next) aa_
   |some v=>aC (aF prog w) A (oE target it v) (fun _ abc=>aC (aF prog w) A (qB target env v) (fun _ abg=>
     aC (aF prog w) A (forIn ifs true fun c r=>if r=true then do let ok <-yz c env (eval c env);pure (jj ok)else pure (jj r))
      (fun ok abm=>if ok=true then aC (aF prog w) A (eval elt env) (fun x abA=>aC (aF prog w) A (call (.builtin "list.append") [acc,x]) (fun _ abB=>∃m,m<n/\I m abB) (fun _ _=>False) abA) (fun _ _=>False) abm
       else ∃m,m<n/\I m abm) (fun _ _=>False) abg) (fun _ _=>False) abc) (fun _ _=>False) aa_) (fun _ _=>False) s)
  (n:Nat) (h:I n s):lQ (aF prog w) A (.compLoop (.ListComp elt [⟨target,iter,ifs,0⟩] scope pos) 0 it acc env) R s:=by
 refine codeAny_loop rfl I (fun n s hI=>?_) n h;show aC _ A ((compTurn (.ListComp elt [⟨target,iter,ifs,0⟩] scope pos) 0 it acc env).onRaise (fun x=>do ER x env;theTreesLotGoes x)) _ _ s;refine wpAny_noted (wpAny_noRaise ?_);rw[compTurn_list];refine ah (mV (ah (aU (turn n s hI) fun r aa_ abe=>?_)));cases r with
 |none=>exact aR abe
 |some v=>
  refine ah (aU abe fun _ abc abn=>ah (aU abn fun _ abg abk=>ah (aU abk fun ok abm abC=>?_)));cases ok with
  |false=>exact aR ⟨rfl,abC⟩
  |true=>exact ah (ah (aU abC fun x abA abG=>ah (aU abG fun _ abB abH=>aR (aR ⟨rfl,abH⟩))))
end
noncomputable abbrev o5(its:List Value)(n:Nat):Obj:={ cls:=.type "list",data:=.seq its.toArray n }
section
variable{X:Cx}{pins:List (Addr×Obj)}{O:L2.St}{H:Hp}{abc:ai}{tgt iter elt:Expr}{ifs:List Expr}{scope:fO}{pos:Pos}{N:List Str}{σ':L2.St}{it:Addr}{fp:List Addr}{tn:Nat->Heap->Prop}{J:It}
 {ok:Hp->Prop}{items:List Item}{g:TG}{cond:TT}{te:TE}{k:List V->Hp->Prop}{E:Value->ai->Prop}{RR:Value->Addr->Cg->ai->Prop}
theorem Bw(hc:X.calm=true)(I:L2.Inv X pins O H abc)(T:Turn X.prog X.w X.K tgt J fp it tn)(st:tn 0 abc.heap)(hf:∀b∈fp,m6 X pins H b)(hJ:nM J ok items)
  (hcell:∀y∈scope.names,y.2=.free->(y.1,ck)∉scope.names) (hkind:scope.kind=.function) (hfree:∀n,(n,b7)∈scope.names->∃c,X.env.cells.lookup n=some c) (hlen:σ'.length=N.length)
  (hσ:∀(i:Nat) (x:Str) (v:V),N[i]?=some x->σ'[i]?=some (some v)->(x,b7)∈scope.names/\(lU scope X.env).names.lookup x≠some .local/\∃c u,X.env.cells.lookup x=some c/\RelV v u/\abc.heap.IsCell c (some u))
  (hvis:∀x,(lU scope X.env).names.lookup x=some .cell\/(lU scope X.env).names.lookup x=some .free->(x,b7)∈scope.names\/(x,ck)∈scope.names)
  (hg:∀(C:Addr) (aa9:ai) (ex:List Addr),PG (kM X N scope C aa9 H ex) tgt g)
  (ht:∀(C:Addr) (aa9:ai) (ex:List Addr),Jv (kM X N scope C aa9 H ex) ifs cond)
  (he:∀(C:Addr) (aa9:ai) (ex:List Addr),PE (kM X N scope C aa9 H ex) elt te)
  (h:rB ok g cond te k items [] σ' H)
  (hRR:∀D C s' H2 vs,H2 D=none->k vs H2->L2.Inv X pins O (upd H2 D (.lst vs)) s'->m6 X pins (upd H2 D (.lst vs)) C->(∃m,s'.heap.Ns C m)->RR (.ref D) C (.ok .next) s') :
  aC (aF X.prog X.w) X.A (newList []) (fun acc abg=>aC (aF X.prog X.w) X.A (vj scope X.env.globals (o4 X.env.cells scope.names []) [] X.env.qual none .none (some X.env)) (fun cenv abm=>
   lQ (aF X.prog X.w) X.A (.compStart (.ListComp elt [⟨tgt,iter,ifs,0⟩] scope pos) 0 (.ref it) acc { cenv with scope:=lU scope X.env }) (RR acc cenv.locals) abm) E abg) E abc:=by
 refine l_ (Qh fun abe abq abr abt=>?_);dsimp only at abq abr abt ⊢;generalize abo:({ abc with heap:=abc.heap.push { cls:=.type "list",dict:=none,data:=.seq ([]:List Value).toArray } }:ai)=aa9 at abq abr abt ⊢;have abu:aa9.heap=abc.heap.push { cls:=.type "list",dict:=none,data:=.seq ([]:List Value).toArray }:=by rw[<-abo]
 have hH2:abc.heap.push { cls:=.type "list",dict:=none,data:=.seq ([]:List Value).toArray }=aa9.heap:=abu.symm;have eos:aa9.os=abc.os:=by rw[<-abo]
 have egn:aa9.gens=abc.gens:=by rw[<-abo]
 have etk:aa9.toks=abc.toks:=by rw[<-abo]
 rw[hH2]at abq abr abt ⊢;have hsz:aa9.heap.objs.size=abc.heap.objs.size+1:=by rw[abu,cU]
 generalize hD:abc.heap.objs.size=D at *;generalize hC:aa9.heap.objs.size=C at *;have hDC:D≠C:=by rw[hsz];exact bD (iS _)
 have up:∀b o,abc.heap.get? b=some o->aa9.heap.get? b=some o:=fun b o e=>by rw[abu];exact aq _ e
 have lt2:∀b o,abc.heap.get? b=some o->b<D:=fun b o e=>by rw[<-hD];exact aK e
 have up1:∀b o,aa9.heap.get? b=some o->abe.get? b=some o:=abr;have abI:aa9.heap.get? D=some (o5 [] 0):=by rw[abu,<-hD];exact a7 _ rfl
 have fpD:∀b∈fp,b<D:=fun b hb=>by obtain⟨o,e,_⟩:=T.obj 0 _ st b hb;exact lt2 b o e
 have cellD:∀x c,X.env.cells.lookup x=some c->c<D:=fun x c e=>by obtain⟨v,q⟩:=I.cell x c e;obtain⟨o,ho,_⟩:=q;exact lt2 c o ho
 have DltC:D<C:=by rw[hsz];exact iS _
 have fpC:∀b∈fp,b≠C:=fun b hb=>bD (lq (fpD b hb) DltC);have fpnD:∀b∈fp,b≠D:=fun b hb=>bD (fpD b hb);have freshH:∀b,D<=b->H b=none:=fun b hb=>I.hok.fresh (by rw[hD];exact hb)
 let ex:=D::fp
 let X':=kM X N scope C aa9 H ex
 have clsub0:∀x c,(o4 X.env.cells scope.names []).lookup x=some c->X.env.cells.lookup x=some c:=vC _ _ (fun x c e=>by simp at e);have clsub:∀x c,X'.env.cells.lookup x=some c->C<c\/X.env.cells.lookup x=some c:=fun x c e=>by
  rcases vD _ _ _ _ _ e with⟨q,_⟩|⟨_,q⟩
  ·exact .inl q
  ·exact .inr (clsub0 x c q)
 have neD:∀x c,X'.env.cells.lookup x=some c->c≠D:=fun x c e z=>by
  rcases clsub x c e with q|q
  ·rw[z]at q;exact eu _ (lq q DltC)
  ·exact bD (cellD x c q) z
 have neF:∀x c,X'.env.cells.lookup x=some c->∀b∈fp,c≠b:=fun x c e b hb z=>by
  rcases clsub x c e with q|q
  ·rw[z]at q;exact eu _ (lq (lq q (fpD b hb)) DltC)
  ·exact(hf b hb).2.2.2.2.1 x c q z
 have stkD:∀b∈frs X.stack,b<D:=fun b hb=>by
  rcases aH.mp (I.uF b hb)with e|hb
  ·rw[e,<-hD];exact I.lt
  ·obtain⟨_,o,ho,_⟩:=I.oW.mem hb;exact lt2 b o ho
 have ok':X'.Ok:=by
  refine⟨I.ok.mod,?_,I.ok.glob,I.ok.blt,yN hC,CU _ _ _ (fun x c e=>jD (lq (cellD x c (clsub0 x c e)) DltC)) fun x y c h1 h2=>I.ok.inj x y c (clsub0 x c h1) (clsub0 y c h2),fun x hx=>?_,fun x c hx=>?_,I.ok.hd,I.ok.frames,.inl rfl,fun b hb=>?_,fun b o e=>?_,?_,fun b o e hb=>?_,fun b hb z=>?_,?_,I.CH⟩
  ·exact hkind
  ·refine CT _ _ _ x ?_;rcases hvis x hx with q|q
   ·obtain⟨c,hc'⟩:=hfree x q;exact .inr (sD _ _ x (.inr ⟨q,c,hc'⟩))
   ·exact .inl q
  ·intro hx2;have hm:(x,ck)∈scope.names:=PySem.mem_of_lookup (by simpa using(show(scope.names.lookup x==some .cell)=true from hx));rcases vD _ _ _ _ _ hx2 with⟨q,_⟩|⟨q,_⟩
   ·show aa9.heap.objs.size<=c;rw[hC];exact iN q
   ·exact absurd hm q
  ·rcases aH.mp hb with e|hb
   ·subst e;exact⟨hDC,neD⟩
   ·refine⟨?_,fun x c e=>neF x c e b hb⟩;exact fpC b hb
  ·exact⟨up b o (I.bs b o e).1,(I.bs b o e).2⟩
  ·show X.base.objs.size<=aa9.heap.objs.size;refine dz (dz I.ok.bsz I.sz) ?_;rw[hD,hC];exact iN DltC
  ·have hbD:b<D:=lt2 b o (I.bk b o e);rcases aH.mp hb with q|hb
   ·exact bD hbD q
   ·rcases(hf b hb).2.2.2.1 with q|q
    ·exact I.ok.noex b o e q
    ·have h1:=aK (I.ok.bs b o e).1;exact absurd (bM h1 q) (eu _)
  ·rcases aH.mp hb with q|hb
   ·exact bD (stkD b z) q
   ·obtain⟨_,f1,f2,_⟩:=hf b hb;rcases aH.mp (I.uF b z)with q|q
    ·exact f1 q
    ·exact f2 q
  ·have hfr:=I.stack;have keepF:∀l:List Env,abc.heap.FunFrames X.base l->aa9.heap.FunFrames X.base l:=by
    intro l;induction l with
    |nil=>intro _;trivial
    |cons env r ih=>
     intro hl;obtain⟨hk,⟨L,o,hf',hn,ho,hd⟩,hr⟩:=hl;exact⟨hk,⟨L,o,hf',hn,up L o ho,hd⟩,ih hr⟩
   exact keepF _ hfr
 have fpok:∀(H':Hp) (its:List Value) (n:Nat),(∀b∈fp,H' b=none)->∀b∈fp,m6 X' [(D,o5 its n)] H' b:=fun H' its n hn b hb=>by
  refine⟨hn b hb,?_,?_,.inl (aj _ hb),fun x c e=>neF x c e b hb,fun p hp=>?_⟩
  ·exact fpC b hb
  ·intro z;obtain⟨_,f1,f2,_⟩:=hf b hb;rcases aH.mp (I.uF b z)with q|q
   ·exact f1 q
   ·exact f2 q
  ·have hp:p∈[(D,o5 its n)]:=hp;have e:p=(D,o5 its n):=by simpa using hp
   subst e;exact cT (fpnD b hb)
 have pinD:∀(s:ai) (H':Hp) (its:List Value) (n:Nat),s.heap.get? D=some (o5 its n)->H' D=none->∀p∈[(D,o5 its n)],s.heap.get? p.1=some p.2/\H' p.1=none/\p.1≠X'.env.locals/\p.1∉X'.fs/\∀v,p.2.data≠.cell v:=by
  intro s H' its n e hn p hp;have q:p=(D,o5 its n):=by simpa using hp
  subst q;refine⟨e,hn,hDC,fun z=>?_,fun v z=>nomatch z⟩;exact eu _ (stkD D z)
 let Iv:Nat->ai->Prop:=fun n s=>∃(i:Nat) (acc:List V) (its:List Value) (m:Nat) (σ1:L2.St) (H1:Hp),n=items.length+1-i/\i<=items.length/\L2.Inv X' [(D,o5 its m)] σ1 H1 s/\tn i s.heap/\(∀b∈fp,H1 b=none)/\bw acc its/\acc.length<=aa /\
  rB ok g cond te k (items.drop i) acc σ1 H1
 have start:∀tk,L2.Inv X' [(D,o5 [] 0)] σ' H { aa9 with heap:=abe,toks:=tk }:=fun tk=>by
  refine⟨ok',rfl,by show jM aa9.gens;rw[egn];exact I.bare,Un.kept up1,⟨_,abq,fun i x v h1 h2 h3=>?_⟩,fun x c e=>?_,freshH C (iN DltC),fun x c e=>?_,fun p hp=>?_,?_,hlen⟩
  ·obtain⟨hx,hnl,c,u,hcu,ru,cellu⟩:=hσ i x v h1 h2;refine⟨u,ru,.inr ⟨?_,?_⟩⟩
   ·rcases h3 with q|q|q
    ·exact absurd q hnl
    ·exact .inl q
    ·exact .inr q
   ·obtain⟨c',hc'⟩:=sD (cells:=X.env.cells) scope.names [] x (.inr ⟨hx,c,hcu⟩);have e1:=clsub0 x c' hc';rw[hcu]at e1;cases e1;obtain⟨o,ho,hd⟩:=cellu;exact⟨c,(Ay _ _ _ x (hcell _ hx rfl)).trans hc',o,up1 _ _ (up _ _ ho),hd⟩
  ·rcases abt x c e with q|q
   ·exact⟨none,q⟩
   ·obtain⟨v,o,ho,hd⟩:=I.cell x c (clsub0 x c q);exact⟨v,o,up1 _ _ (up _ _ ho),hd⟩
  ·rcases clsub x c e with q|q
   ·exact freshH c (iN (lq DltC q))
   ·exact I.freeC x c q
  ·exact pinD { aa9 with heap:=abe,toks:=tk } H [] 0 (up1 _ _ abI) (freshH D (aN _)) p hp
  ·have hk:fB X.prog X.w H abe:=I.hok.kept fun b u e=>up1 b u (up b u e);exact hk
 have loop:∀tk,lQ (aF X.prog X.w) X.A (.compLoop (.ListComp elt [⟨tgt,iter,ifs,0⟩] scope pos) 0 (.ref it) (.ref D) X'.env) (RR (.ref D) C) { aa9 with heap:=abe,toks:=tk }:=fun tk=>by
  refine MN Iv ?_ (items.length+1) ⟨0,[],[],0,σ',H,rfl,mE _,start tk,T.keep 0 _ _ st fun b hb o e=>up1 b o (up b o e),fun b hb=>(hf b hb).1,.nil,mE _,by simpa using h⟩;rintro n s ⟨i,acc,its,m,σ1,H1,rfl,hi,J1,st1,fr1,rv,hz,q⟩;by_cases hlt:i<items.length
  ·rw[rP hlt]at q;obtain⟨hok,hz1,q⟩:=q;have ei:items[i]?=some items[i]:=aJ hlt;refine aU (T.item X' rfl rfl rfl hc i _ s σ1 H1 _ J1 (fpok H1 its m fr1) st1 (hJ.go i H1 _ hok ei)) fun r s4 ⟨u,hr,h4⟩=>?_;subst hr;refine aU h4 fun _ s5 ⟨x,H5,I5,r5,y5,st5,fr5⟩=>?_;have I5':=I5.pinned (fpok H5 its m fr5) (T.obj _ _ st5);refine aU (hg C aa9 ex _ s5 σ1 H5 x u _ I5' r5 (hJ.yld i H1 _ x H5 hok ei y5 _ q)) fun _ s6 ⟨σ6,H6,I6,q6⟩=>?_;refine aU (ht C aa9 ex _ s6 σ6 H6 _ I6 q6) fun b s7 ⟨H7,I7,q7⟩=>?_;have keepT:∀{σ8:L2.St}{H8:Hp}{s8:ai},L2.Inv X' ([(D,o5 its m)]++w_ fp s5.heap) σ8 H8 s8->tn (i+1) s8.heap/\(∀b∈fp,H8 b=none):=fun{σ8 H8 s8} I8=>by
    refine⟨T.keep _ _ _ st5 fun b hb o e=>(I8.pin (b,o) (aA _ (aA _ (rq hb e)))).1,fun b hb=>?_⟩;obtain⟨o,e,_⟩:=T.obj _ _ st5 b hb;exact(I8.pin (b,o) (aA _ (aA _ (rq hb e)))).2.1
   cases b with
   |false=>
    have q7:=(if_neg aY)▸q7;obtain⟨t1,t2⟩:=keepT I7;exact⟨items.length+1-(i+1),by omega,i+1,acc,its,m,σ6,H7,rfl,hlt,I7.vq,t1,t2,rv,hz,by simpa using q7⟩
   |true=>
    have q7:te σ6 H7 (fun y H4=>rB ok g cond te k (items.drop (i+1)) (acc++[y]) σ6 H4):=by simpa using q7
    refine aU (he C aa9 ex _ s7 σ6 H7 _ I7 q7) fun yv s8 ⟨y,H8,I8,r8,q8⟩=>?_;obtain⟨t1,t2⟩:=keepT I8;have hD8:=I8.pin (D,o5 its m) (aA _ (aO _ (a8.mpr rfl)));obtain⟨e8,n8,_⟩:=hD8;have hl:=rv.length;refine gq F.slot_list_append ⟨_,e8,rfl⟩ F.entry_list_append (F.args_list_append_2 _ _) (PySem.list_append D its.toArray m yv (by rw[aQ];omega)) ⟨e8,?_⟩;have I9:L2.Inv X' [] σ6 H8 s8:=I8.yU fun p hp=>nomatch hp
    have kk:∀b o,b≠D->s8.heap.get? b=some o->(s8.heap.update D (j7 fun x=>x.push yv)).get? b=some o:=fun b o hb e=>(eL _ _ (cT hb)).trans e;have I10:L2.Inv X' [] σ6 H8 { s8 with heap:=s8.heap.update D (j7 fun x=>x.push yv),toks:=s8.toks }:=
     I9.turned kk n8 hDC (.inl ay) neD (fun p hp=>nomatch hp)
    have e9:=PySem.IsL.update e8 (fun x=>x.push yv);rw[List.push_toArray]at e9;obtain⟨m',e10⟩:∃m',({ s8 with heap:=s8.heap.update D (j7 fun x=>x.push yv),toks:=s8.toks }:ai).heap.get? D=some (o5 (its++[yv]) m'):=⟨_,e9⟩;refine⟨items.length+1-(i+1),by omega,i+1,acc++[y],its++[yv],m',σ6,H8,rfl,hlt,I10.yU (pinD _ H8 _ m' e10 n8),?_,t2,rv.append (.cons r8 .nil),by rw[ak,bF];omega,q8⟩;exact T.keep _ _ _ t1 fun b hb o e=>kk b o (fpnD b hb) e
  ·rw[mG (by omega)]at q;obtain⟨hok,q⟩:=q;refine aU (T.done X' rfl rfl rfl hc i _ s σ1 H1 _ J1 (fpok H1 its m fr1) st1 (hJ.stop i H1 hok (by omega))) fun r s4 ⟨hr,I4⟩=>?_;subst hr;obtain⟨e4,n4,_⟩:=I4.pin (D,o5 its m) (aA _ (a8.mpr rfl));obtain⟨mC,hnC,_⟩:=I4.loc;have hCn:H1 C=none:=I4.free;have exD:∀b,b<D->b∉fp->b∉X'.ex:=fun b hb hn z=>by
    rcases aH.mp z with q|q
    ·exact bD hb q
    ·exact hn q
   have hok':fB X.prog X.w (upd H1 D (.lst acc)) s4.heap:=MM I4.hok n4 ⟨hz,its,m,rv,e4⟩;have hU:Un (frs X.stack) fp H (upd H1 D (.lst acc)) abc.heap s4.heap:=by
    have b4:=I4.base;refine⟨fun b o e n hb hx=>?_,fun b o e n hb hx=>?_,fun b o e n hx=>?_,fun b o e hx=>?_,fun b xs e=>?_,fun b o u e=>?_,fun b ps e=>?_⟩
    ·exact b4.keep b o (up b o e) n hb (exD b (lt2 b o e) hx)
    ·exact b4.slot b o (up b o e) n hb (exD b (lt2 b o e) hx)
    ·rw[aV (bD (lt2 b o e))];exact b4.free b o (up b o e) n (exD b (lt2 b o e) hx)
    ·exact b4.there b o (up b o e) (exD b (lt2 b o e) hx)
    ·have z:=b4.tups b xs e;rw[aV (bY z n4)];exact z
    ·have z:=b4.aD b o u e;rw[aV (bY z n4)];exact z
    ·obtain⟨more,z⟩:=b4.tbls b ps e;exact⟨more,by rw[aV (bY z n4)];exact z⟩
   have I5:L2.Inv X pins O (upd H1 D (.lst acc)) s4:=I.call' (ch:=fp) (I4.os.trans eos) hU hok' I4.bare fun b hb=>by
    obtain⟨f0,f1,f2,f3,f4,f5⟩:=hf b hb;exact⟨f3,f1,f4,f5⟩
   refine hRR D C s4 H1 acc n4 q I5 ?_ ⟨mC,hnC⟩;have hle:abc.heap.objs.size<=C:=by rw[hD];exact iN DltC
   have z:=I.oX (H':=upd H1 D (.lst acc)) (b:=C) hle (by rw[aV (cT hDC)];exact hCn);exact z
 subst abo;exact codeAny_compStart_list (loop _) (T.self _ 0 _ _ _ (T.keep 0 _ _ st fun b hb o e=>up1 b o (up b o e)) (loop _))
end
noncomputable def jB(N nl:List Str)(fr:List Nat):List Str:=nl++fr.map fun i=>N.getD i eU
noncomputable def y9(nl:List Str)(fr:List Nat)(O:L2.St):L2.St:=nl.map (fun _=>none)++fr.map fun i=>O.getD i none
structure uL (sc:fO) (N:List Str) (scope:fO) (nl:List Str) (fr:List Nat):Prop where
 kind:scope.kind=.function
 cell:∀y∈scope.names,y.2=.free->(y.1,ck)∉scope.names
 names:∀x∈scope.names,x.2=.local->scope.names.lookup x.1=some .local
 free:∀n,(n,b7)∈scope.names->sc.names.lookup n=some .cell\/sc.names.lookup n=some .free
 fr:∀i∈fr,∃x,N[i]?=some x/\scope.names.lookup x=some .free
theorem xy(x:Str)(h:(lU scope env).names.lookup x=some .cell\/(lU scope env).names.lookup x=some .free):(x,b7)∈scope.names\/(x,ck)∈scope.names:=by
 have key:∃k,(x,k)∈(lU scope env).names/\(k=.cell\/k=.free):=by
  rcases h with h|h
  ·exact⟨_,PySem.mem_of_lookup h,.inl rfl⟩
  ·exact⟨_,PySem.mem_of_lookup h,.inr rfl⟩
 obtain⟨k,hm,hk⟩:=key;unfold lU at hm;simp only[bT]at hm;obtain⟨⟨n,k0⟩,h0,e⟩:=hm;simp only at e;split at e
 ·rename_i hc;have:k0=.free:=by
   simp only[bR,beq_iff_eq]at hc;exact hc.1.1
  subst this;cases e;exact .inl h0
 ·cases e;rcases hk with rfl|rfl
  ·exact .inr h0
  ·exact .inl h0
theorem xA{env:Env}:∀{names:List (Str×iQ)}{x:Str},names.lookup x=some .free->
 (names.map fun(n,k)=>if(k==b7&&env.scope.kind==.function&&env.kindOf n==some .cell)then(n,ck)else(n,k)).lookup x≠some .local
|[],_,h=>by simp at h
|(n,k)::r,x,h=>by
 have ih:=@xA env r x;show ju x ((if(k==b7&&env.scope.kind==.function&&env.kindOf n==some .cell)=true then(n,ck)else(n,k))::_)≠_;cases hx:x==n with
 |true=>
  simp only[cA,hx]at h;cases h;by_cases hc:(b7==b7&&env.scope.kind==.function&&env.kindOf n==some .cell)=true
  ·rw[if_pos hc];simp only[cA,hx];decide
  ·rw[if_neg hc];simp only[cA,hx];decide
 |false=>
  simp only[cA,hx]at h;by_cases hc:(k==b7&&env.scope.kind==.function&&env.kindOf n==some .cell)=true
  ·rw[if_pos hc];simp only[cA,hx];exact ih h
  ·rw[if_neg hc];simp only[cA,hx];exact ih h
variable{i:Nat}{y:Str}{py:Pos}
section
variable{X:Cx}{tgt iter elt:Expr}{ifs:List Expr}{scope:fO}{pos:Pos}{nl:List Str}{fr:List Nat}{wi:Td}{g:TG}{cond:TT}{te:TE}
theorem Bx(S:uL X.env.scope X.N scope nl fr)(I:L2.Inv X pins O H s)(i:Nat)(x:Str)(v:V)(h1:(jB X.N nl fr)[i]?=some x)(h2:(y9 nl fr O)[i]?=some (some v)) :
  (x,b7)∈scope.names/\(lU scope X.env).names.lookup x≠some .local/\∃c u,X.env.cells.lookup x=some c/\RelV v u/\s.heap.IsCell c (some u):=by
 unfold jB at h1;unfold y9 at h2;by_cases hi:i<nl.length
 ·rw[e_ (by simpa using hi),bP,aJ hi]at h2;cases h2
 ·rw[cP (by omega)]at h1;rw[cP (by simp;omega)]at h2;rw[bP]at h1 h2;rw[az]at h2;cases e:fr[i-nl.length]? with
  |none=>rw[e]at h1;cases h1
  |some j=>
   rw[e]at h1 h2;have h1:X.N.getD j eU=x:=cM h1;have h2:O.getD j none=some v:=cM h2;obtain⟨y,hy,hf⟩:=S.fr j (gp e);have exy:y=x:=by
    rw[<-h1];simp[hy]
   subst exy;have hσ:O[j]?=some (some v):=by
    cases q:O[j]? with
    |none=>simp[q]at h2
    |some o=>
     simp[q]at h2;rw[h2]
   have hm:=PySem.mem_of_lookup hf;refine⟨hm,xA hf,?_⟩;obtain⟨m,hn,hl⟩:=I.loc;have hk:=S.free y hm;obtain⟨u,ru,l⟩:=hl j y v hy hσ (by rcases hk with q|q;exact .inr (.inl q);exact .inr (.inr q));rcases l with⟨l,_⟩|⟨_,c,hc,hcell⟩
   ·exfalso;have l:X.env.scope.names.lookup y=some .local:=l;rcases hk with q|q<;>rw[q]at l<;>cases l
   ·exact⟨c,u,hc,ru,hcell⟩
theorem tH(S:uL X.env.scope X.N scope nl fr)(I:L2.Inv X pins O H s):∀n,(n,b7)∈scope.names->∃c,X.env.cells.lookup n=some c:=fun n hn=>I.ok.has n (S.free n hn)
theorem UM(hc:X.calm=true)(S:uL X.env.scope X.N scope nl fr)(hi:D3 X tgt iter wi)(hs:∀x,jC iter X.env x=pure x)
  (hg:∀(C:Addr) (aa9:ai) (H:Hp) (ex:List Addr),PG (kM X (jB X.N nl fr) scope C aa9 H ex) tgt g)
  (ht:∀(C:Addr) (aa9:ai) (H:Hp) (ex:List Addr),Jv (kM X (jB X.N nl fr) scope C aa9 H ex) ifs cond)
  (he:∀(C:Addr) (aa9:ai) (H:Hp) (ex:List Addr),PE (kM X (jB X.N nl fr) scope C aa9 H ex) elt te) :
  PE X (.ListComp elt [⟨tgt,iter,ifs,0⟩] scope pos) (fun O H Q=>wi O H fun ok items H1=>rB ok g cond te (fun vs H2=>∀p,H2 p=none->Q (.ref p) (upd H2 p (.lst vs))) items [] (y9 nl fr O) H1):=by
 intro pins s O H Q I h;rw[eval_ListComp];refine s_ (use:=none) rfl hs (wk (tH S I)) S.kind S.names (aU (hi pins s O H _ I h) fun v aa_ abe=>aU abe fun itv abc abn=>?_);obtain⟨it,fp,tn,J,H2,e,I2,T,st,hf,ok,items,hJ,hk⟩:=abn;subst e;refine Bw (RR:=fun acc C=>compPost (aF X.prog X.w) X.A X.xe none (EP X pins O Q) acc C) hc I2 T st hf hJ S.cell S.kind (tH S I2) ?_ (Bx S I2) xy
  (fun C aa9 ex=>hg C aa9 H2 ex) (fun C aa9 ex=>ht C aa9 H2 ex) (fun C aa9 ex=>he C aa9 H2 ex) hk fun D C s' H3 vs hD q I3 f3 hn=>?_
 ·unfold y9 jB;simp
 ·obtain⟨m,hn⟩:=hn;obtain⟨f0,f1,f2,f3,f4,f5⟩:=f3;refine⟨m,hn,fun h' hsb=>⟨.ref D,_,I3.turned (t':=s'.toks) (fun b o hb e=>hsb.extBut b o hb e) f0 f1 f3 f4 f5,rfl,q D hD⟩⟩
theorem UN{spos:Pos}(hc:X.calm=true)(hN:X.N.Nodup)(hiy:X.N[i]?=some y)(hy:X.env.scope.names.lookup y=some .local)(S:uL X.env.scope X.N scope nl fr)(hi:D3 X tgt iter wi)(hs:∀x,jC iter X.env x=pure x)
  (hsw:nH (.ListComp elt [⟨tgt,iter,ifs,0⟩] scope pos) (some (.Name y py)) spos.line X.env=pure true)
  (hg:∀(C:Addr) (aa9:ai) (H:Hp) (ex:List Addr),PG (kM X (jB X.N nl fr) scope C aa9 H ex) tgt g)
  (ht:∀(C:Addr) (aa9:ai) (H:Hp) (ex:List Addr),Jv (kM X (jB X.N nl fr) scope C aa9 H ex) ifs cond)
  (he:∀(C:Addr) (aa9:ai) (H:Hp) (ex:List Addr),PE (kM X (jB X.N nl fr) scope C aa9 H ex) elt te) :
  PS X (.Assign [.Name y py] (.ListComp elt [⟨tgt,iter,ifs,0⟩] scope pos) spos) (fun D O H=>wi O H fun ok items H1=>rB ok g cond te (fun vs H2=>∀p,H2 p=none->D.nx (O.set i (some (.ref p))) (upd H2 p (.lst vs))) items [] (y9 nl fr O) H1):=by
 intro pins s O H D I h;rw[PySem.exec_Assign_Name_used _ _ _ _ hsw];refine ah (mV (ah ?_));show aC _ X.A (do let _ <-comprehension (.ListComp elt [⟨tgt,iter,ifs,0⟩] scope pos) scope X.env _ (newList []) false (eval iter X.env) (some (qB (.Name y py) X.env))) _ _ s;refine ah (d8 (s_ (use:=some (qB (.Name y py) X.env)) (Q:=fun _ s'=>SP X pins D .next s') rfl hs (wk (tH S I)) S.kind S.names
  (aU (hi pins s O H _ I h) fun v aa_ abe=>aU abe fun itv abc abn=>?_)) (fun _ s' hq=>aR (aR hq)) fun _ _ e=>e)
 obtain⟨it,fp,tn,J,H2,e,I2,T,st,hf,ok,items,hJ,hk⟩:=abn;subst e;refine Bw (RR:=fun acc C=>compPost (aF X.prog X.w) X.A X.xe (some (qB (.Name y py) X.env)) (fun _ s'=>SP X pins D .next s') acc C) hc I2 T st hf hJ S.cell S.kind (tH S I2) ?_ (Bx S I2) xy
  (fun C aa9 ex=>hg C aa9 H2 ex) (fun C aa9 ex=>ht C aa9 H2 ex) (fun C aa9 ex=>he C aa9 H2 ex) hk fun DD C s' H3 vs hD q I3 f3 hn=>?_
 ·unfold y9 jB;simp
 ·obtain⟨m,hn⟩:=hn;obtain⟨f0,f1,f2,f3,f4,f5⟩:=f3;refine zw (DG (v:=.ref DD) (u:=.ref DD) I3 hN hiy (.inl hy) rfl (fun s'' I4 hsame=>?_) (.inr hy));obtain⟨a,hs',ha⟩:=hsame;have hCa:C≠a:=by
   rcases ha with q|q
   ·rw[q];exact f1
   ·exact fun z=>f4 y a q z.symm
  refine⟨m,hn.sameBut hs' hCa,fun h' hsb=>⟨_,_,I4.turned (t':=s''.toks) (fun b o hb e=>hsb.extBut b o hb e) f0 f1 f3 f4 f5,q DD hD⟩⟩
end
structure Tab where
 N:List Str
 sc:fO
 gl:List Str
 bn:List Str
 own:Str->Bool
 calm:Bool
noncomputable def KI(sc:fO)(x:Str):Bool:=match sc.names.lookup x with
|some .local=>true
|some .cell=>true
|some .free=>true
|_=>false
noncomputable def Qi(T:Tab)(x:Str):Bool:=match T.sc.names.lookup x with
|some .local=>true
|some .cell=>T.own x
|_=>false
noncomputable def qo(sc:fO)(x:Str):Bool:=decide (sc.names.lookup x=some .globalImplicit)
noncomputable def noStar:Expr->Bool
|.Starred ..=>false
|_=>true
noncomputable def bO(es:List Expr):Bool:=es.all noStar
noncomputable def By:Expr->Bool
|.Call (.Name id _) [] [] _=>!(id==("super":Str))
|_=>true
noncomputable def vE:Expr->Bool
|.Slice ..=>false
|_=>true
noncomputable def Gj:Expr->Bool
|.Set ..=>false
|_=>true
noncomputable def rW:Expr->Bool
|.ListComp ..=>false
|.SetComp ..=>false
|.DictComp ..=>false
|_=>true
noncomputable def notTuple:Expr->Bool
|.Tuple ..=>false
|.List ..=>false
|_=>true
noncomputable def Qj:V->Const->Bool
|.int i,.int j=>decide (i=j)
|.bl a,.bool b=>decide (a=b)
|.str a,.str b=>decide (a=b)
|.non,.none=>true
|_,_=>false
noncomputable def D4(scope sc:fO):fO:=
 { scope with names:=scope.names.map fun(n,k)=>if(k==.free&&sc.kind==.function&&sc.names.lookup n==some .cell)then(n,.cell)else(n,k) }
noncomputable def Fp(T:Tab)(scope:fO)(nl:List Str)(fr:List Nat):Tab:={ N:=jB T.N nl fr,sc:=D4 scope T.sc,gl:=T.gl,bn:=T.bn,own:=(fun x=>scope.names.lookup x==some .cell),calm:=T.calm }
noncomputable def rX(sc:fO)(N:List Str)(scope:fO)(nl:List Str)(fr:List Nat):Bool:=
 decide (scope.kind=.function)&&scope.names.all (fun y=>decide (y.2=.free->(y.1,ck)∉scope.names))&&scope.names.all (fun x=>decide (x.2=.local->scope.names.lookup x.1=some .local))
 && scope.names.all (fun x=>decide (x.2=.free->sc.names.lookup x.1=some .cell\/sc.names.lookup x.1=some .free))&&fr.all (fun i=>match N[i]? with|some x=>decide (scope.names.lookup x=some .free)|none=>false)
 && decide (jB N nl fr).Nodup
noncomputable def Qk:CI->Expr->Bool
|.enum _,e=>match e with
 |.Tuple ..=>true
 |_=>false
|.zip _,e=>match e with
 |.Tuple ..=>true
 |_=>false
|_,_=>true
noncomputable def Ql(sc:fO):Expr->Bool
|.Name y _=>!decide (sc.names.lookup y=some .local)
|_=>true
noncomputable def Fq(sc scope:fO)(t:Str)(pos vpos:Pos):Bool:=decide (sc.names.lookup t=some .local)&&decide (pos.line=vpos.line)&&!(scope.names.any fun(n,k)=>n==t&&(k==.local||k==.cell))
noncomputable def YO(T:Tab)(g:Nat):Expr->Bool
|.Name y _=>decide (T.gl[g]?=some y)&&qo T.sc y&&!(y==("__debug__":Str))
|_=>false
noncomputable def YQ(T:Tab):List Nat->List Expr->Bool
|[],es=>es.isEmpty
|g::gs,es=>match es with
 |e::er=>YO T g e&&YQ T gs er
 |_=>false
noncomputable def fI(k:Nat):Expr->Bool
|.Call f _ _ _=>f.ctorIdx==k
|_=>false
noncomputable def nI:Expr->Bool
|.Call _ [c] _ _=>c.ctorIdx==16&&fI 23 c
|_=>false
noncomputable def aI:Expr->Bool
|.Call _ [_,c] _ _=>c.ctorIdx==23
|_=>false
noncomputable def uI:Expr->Bool
|.Subscript _ r _=>r.ctorIdx==26
|_=>false
noncomputable def gI2:Stmt->Bool
|.AugAssign t _ _ _=>t.ctorIdx==23
|_=>false
noncomputable def cI2:Stmt->Bool
|.Assign (t::_) e _=>t.ctorIdx==23&&e.ctorIdx==8
|_=>false
noncomputable def rI:Stmt->Bool
|.Raise (some e) _ _=>e.ctorIdx==16&&fI 23 e
|_=>false
noncomputable def bI1:List Stmt->Bool
|s::_=>s.ctorIdx==24&&match s with
 |.Expr e _=>e.ctorIdx==16&&fI 23 e
 |_=>false
|_=>false
noncomputable def bI2:List Stmt->Bool
|s::_=>s.ctorIdx==12
|_=>false
noncomputable def YR:List (Str×Int)->List (Option Expr)->List Expr->Bool
|[],ks,vs=>ks.isEmpty&&vs.isEmpty
|p::r,ks,vs=>match ks,vs with
 |some (.Constant (.str x) _ _)::ks,.Constant (.int i) _ _::vs=>decide (x=p.1/\i=p.2)&&YR r ks vs
 |_,_=>false
noncomputable def seqB(T:Tab)(c:Expr):Bool:=c.ctorIdx==25&&match c with
|.Tuple [.Name y _,.Name z _] _ _=>decide (y=("list":Str))&&qo T.sc y&&T.bn.contains y&&decide (z=("tuple":Str))&&qo T.sc z&&T.bn.contains z
|_=>false
noncomputable def y_(T:Tab):List (Str×Nat)->List Expr->Bool
|[],es=>es.isEmpty
|p::r,es=>match es with
 |.Constant (.str x) _ _::.FormattedValue (.Name y _) c none _::es=>decide (x=p.1)&&decide (c=-1)&&decide (T.N[p.2]?=some y)&&KI T.sc y&&!(y==("__debug__":Str))&&!(y==("__classdict__":Str))&&y_ T r es
 |_=>false
mutual
noncomputable def c8(T:Tab):CE->Expr->Bool
|.var i,e=>e.ctorIdx==23&&match e with
 |.Name x _=>decide (T.N[i]?=some x)&&KI T.sc x&&!(x==("__debug__":Str))&&!(x==("__classdict__":Str))
 |_=>false
|.con v,e=>e.ctorIdx==19&&match e with
 |.Constant c _ _=>Qj v c
 |_=>false
|.glo g,e=>e.ctorIdx==23&&match e with
 |.Name x _=>decide (T.gl[g]?=some x)&&qo T.sc x&&!(x==("__debug__":Str))
 |_=>false
|.bin op a b,e=>e.ctorIdx==2&&match e with
 |.BinOp l o r _=>decide (op=o)&&c8 T a l&&c8 T b r
 |_=>false
|.nset a,e=>e.ctorIdx==16&&(fI 23 e&&(nI e&&match e with
 |.Call (.Name x _) [.Call (.Name y _) [l] [] _] [] _=>T.calm&&(decide (x=("len":Str))&&qo T.sc x&&T.bn.contains x&&decide (y=("set":Str))&&qo T.sc y&&T.bn.contains y&&noStar l&&c8 T a l)
 |_=>false))
|.neg a,e=>e.ctorIdx==3&&match e with
 |.UnaryOp .USub l _=>c8 T a l
 |_=>false
|.not a,e=>e.ctorIdx==3&&match e with
 |.UnaryOp .Not l _=>c8 T a l
 |_=>false
|.and a b,e=>e.ctorIdx==0&&match e with
 |.BoolOp .And [x,y] _=>c8 T a x&&c8 T b y
 |.BoolOp .And (x::y::z::r) pos=>c8 T a x&&c8 T b (.BoolOp .And (y::z::r) pos)
 |_=>false
|.or a b,e=>e.ctorIdx==0&&match e with
 |.BoolOp .Or [x,y] _=>c8 T a x&&c8 T b y
 |.BoolOp .Or (x::y::z::r) pos=>c8 T a x&&c8 T b (.BoolOp .Or (y::z::r) pos)
 |_=>false
|.ite c a b,e=>e.ctorIdx==5&&match e with
 |.IfExp t x y _=>c8 T c t&&c8 T a x&&c8 T b y
 |_=>false
|.cmp op a b,e=>e.ctorIdx==15&&match e with
 |.Compare l [o] [r] _=>decide (op=o)&&!mW o r&&c8 T a l&&c8 T b r
 |_=>false
|.chain o1 o2 a b c,e=>e.ctorIdx==15&&match e with
 |.Compare l [p1,p2] [m,r] _=>decide (o1=p1)&&decide (o2=p2)&&!ET [p1,p2] [m,r]&&c8 T a l&&c8 T b m&&c8 T c r
 |_=>false
|.call g as,e=>e.ctorIdx==16&&(fI 23 e&&match e with
 |.Call (.Name x _) es [] _=>decide (T.gl[g]?=some x)&&qo T.sc x&&!(x==("__debug__":Str))&&bO es&&mK T as es
 |_=>false)
|.blt f as,e=>e.ctorIdx==16&&(fI 23 e&&match e with
 |.Call (.Name x _) es [] _=>T.calm&&(decide (x=f.name)&&qo T.sc x&&T.bn.contains x&&bO es&&!es.isEmpty&&mK T as es)
 |_=>false)
|.isi a t,e=>e.ctorIdx==16&&(fI 23 e&&(if t=.none then(match e with
 |.Call (.Name x _) [l,c] [] _=>decide (x=("isinstance":Str))&&qo T.sc x&&T.bn.contains x&&seqB T c&&noStar l&&c8 T a l
 |_=>false)else aI e&&match e with
 |.Call (.Name x _) [l,.Name y _] [] _=>decide (x=("isinstance":Str))&&qo T.sc x&&T.bn.contains x&&decide (y=t.name)&&decide (t≠.none)&&qo T.sc y&&T.bn.contains y&&noStar l&&c8 T a l
 |_=>false))
|.mth m o as,e=>e.ctorIdx==16&&(fI 20 e&&match e with
 |.Call (.Attribute l nm apos) es [] cpos=>decide (nm=m.name)&&By l&&(apos.endLine==cpos.line)&&bO es&&decide (es.length<30)&&c8 T o l&&mK T as es
 |_=>false)
|.ix a b,e=>e.ctorIdx==21&&match e with
 |.Subscript l r _=>vE r&&c8 T a l&&c8 T b r
 |_=>false
|.sl a lo hi,e=>e.ctorIdx==21&&(uI e&&match e with
 |.Subscript l (.Slice x y none _) _=>c8 T a l&&Gk T lo x&&Gk T hi y
 |_=>false)
|.lst as,e=>e.ctorIdx==24&&match e with
 |.List es _=>bO es&&mK T as es
 |_=>false
|.tup as,e=>e.ctorIdx==25&&match e with
 |.Tuple es _ _=>bO es&&mK T as es
 |_=>false
|.fst ps,e=>e.ctorIdx==18&&match e with
 |.JoinedStr es _=>!ps.isEmpty&&y_ T ps es
 |_=>false
|.comp nl fr elt tg src cond,e=>e.ctorIdx==8&&match e with
 |.ListComp l [⟨t,it,ifs,0⟩] sc _=>T.calm&&(rX T.sc T.N sc nl fr&&(Gj it&&Qk src t)&&Qm T src it&&AA (Fp T sc nl fr) tg t&&WL (Fp T sc nl fr) cond ifs&&c8 (Fp T sc nl fr) elt l)
 |_=>false
|.slp a lo hi k,e=>match e with
 |.Subscript l (.Slice x y (some (.Constant c _ _)) _) _=>Qj (.int k) c&&c8 T a l&&Gk T lo x&&Gk T hi y
 |_=>false
noncomputable def mK(T:Tab):i9->List Expr->Bool
|.nil,es=>match es with
 |[]=>true
 |_=>false
|.cons a r,es=>match es with
 |e::er=>c8 T a e&&mK T r er
 |_=>false
noncomputable def Gk(T:Tab):CO->Option Expr->Bool
|.none,e=>match e with
 |none=>true
 |_=>false
|.some a,e=>match e with
 |some x=>c8 T a x
 |_=>false
noncomputable def WL(T:Tab):CO->List Expr->Bool
|.none,es=>match es with
 |[]=>true
 |_=>false
|.some a,es=>match es with
 |[x]=>c8 T a x
 |_=>false
noncomputable def AA(T:Tab):CG->Expr->Bool
|.name i,e=>e.ctorIdx==23&&match e with
 |.Name x _=>decide (T.N[i]?=some x)&&Qi T x
 |_=>false
|.tup gs,e=>e.ctorIdx==25&&match e with
 |.Tuple es _ _=>T.calm&&(bO es&&Ft T gs es)
 |_=>false
|.sub o i,e=>e.ctorIdx==21&&match e with
 |.Subscript l r _=>vE r&&c8 T o l&&c8 T i r
 |_=>false
noncomputable def Ft(T:Tab):qh->List Expr->Bool
|.nil,es=>match es with
 |[]=>true
 |_=>false
|.cons g r,es=>match es with
 |e::er=>AA T g e&&Ft T r er
 |_=>false
noncomputable def Qm(T:Tab):CI->Expr->Bool
|.seq a,e=>c8 T a e
|.range as,e=>e.ctorIdx==16&&(fI 23 e&&match e with
 |.Call (.Name x _) es [] _=>decide (x=("range":Str))&&qo T.sc x&&T.bn.contains x&&bO es&&!es.isEmpty&&mK T as es
 |_=>false)
|.zip as,e=>e.ctorIdx==16&&(fI 23 e&&match e with
 |.Call (.Name x _) es [] _=>decide (x=("zip":Str))&&qo T.sc x&&T.bn.contains x&&bO es&&!es.isEmpty&&mK T as es
 |_=>false)
|.enum a,e=>e.ctorIdx==16&&(fI 23 e&&match e with
 |.Call (.Name x _) [l] [] _=>decide (x=("enumerate":Str))&&qo T.sc x&&T.bn.contains x&&noStar l&&c8 T a l
 |_=>false)
end
noncomputable def WM(T:Tab):CB->List Stmt->Bool
|.call g as,sts=>bI1 sts&&match sts with
 |[.Expr (.Call (.Name x _) es [] _) _]=>decide (T.gl[g]?=some x)&&qo T.sc x&&!(x==("__debug__":Str))&&bO es&&!es.isEmpty&&mK T as es
 |_=>false
|.ite c a b,sts=>bI2 sts&&match sts with
 |[.If t x y _]=>c8 T c t&&WM T a x&&WM T b y
 |_=>false
mutual
noncomputable def KJ(T:Tab):CS->Stmt->Bool
|.expr c,st=>st.ctorIdx==24&&match st with
 |.Expr e _=>rW e&&c8 T c e
 |_=>false
|.asg g c,st=>st.ctorIdx==5&&match st with
 |.Assign [t] e _=>(rW e||Ql T.sc t)&&notTuple t&&AA T g t&&c8 T c e
 |_=>false
|.aug i c,st=>st.ctorIdx==7&&(gI2 st&&match st with
 |.AugAssign (.Name x _) .Add e _=>decide (T.N[i]?=some x)&&decide (T.sc.names.lookup x=some .local)&&c8 T c e
 |_=>false)
|.casg i c,st=>st.ctorIdx==5&&(cI2 st&&match st with
 |.Assign [.Name y py] (.ListComp l gs sc vpos) _=>T.calm&&(decide (T.N[i]?=some y)&&Fq T.sc sc y py vpos&&c8 T c (.ListComp l gs sc vpos))
 |_=>false)
|.tasg g c,st=>match st with
 |.Assign [t] e _=>rW e&&notTuple e&&AA T g t&&c8 T c e
 |_=>false
|.ret c,st=>st.ctorIdx==3&&match st with
 |.Return (some e) _=>c8 T c e
 |_=>false
|.ifs c a b,st=>st.ctorIdx==12&&match st with
 |.If t x y _=>c8 T c t&&pV T a x&&pV T b y
 |_=>false
|.whil c b,st=>match st with
 |.While t x [] _=>c8 T c t&&pV T b x
 |_=>false
|.forr g src b,st=>st.ctorIdx==9&&match st with
 |.For t it x [] _=>T.calm&&((Gj it&&Qk src t)&&Qm T src it&&AA T g t&&pV T b x)
 |_=>false
|.brk,st=>st.ctorIdx==26&&match st with
 |.Break _=>true
 |_=>false
|.cont,st=>st.ctorIdx==27&&match st with
 |.Continue _=>true
 |_=>false
|.never,_=>true
|.rais g as,st=>st.ctorIdx==16&&(rI st&&match st with
 |.Raise (some (.Call (.Name x _) es [] _)) none _=>T.calm&&(decide (T.gl[g]?=some x)&&qo T.sc x&&!(x==("__debug__":Str))&&bO es&&!es.isEmpty&&mK T as es)
 |_=>false)
noncomputable def pV(T:Tab):b6->List Stmt->Bool
|.nil,sts=>match sts with
 |[]=>true
 |_=>false
|.cons s r,sts=>match sts with
 |st::sr=>KJ T s st&&pV T r sr
 |_=>false
|.two s t r,sts=>match sts with
 |st::su::sr=>KJ T s st&&(KJ T t su&&pV T r sr)
 |_=>false
end
structure Gm (K:PySem.W.Frag) (C:Addr):Prop extends Kv K C where
 ha:PySem.W.findIn K (.ref C) "__class__"=some (some (.builtin "object.__class__"))
 hn:PySem.W.specialIn K (.builtin "object.__class__") "__get__"=some (some (.builtin "getset_descriptor.__get__"))
 htk:PySem.W.takesIn K (.builtin "object.__class__")=some true
def Fv(P:bq)(w:bH)(K:PySem.W.Frag)(mg:Str->Option Value)(base:Heap)(k:Nat)(C:Addr)(fs:List (Str×Nat))(n:Nat):Prop:=
 ∃(fI:Addr) (fd:fJ) (ps:List Str),F_ K C fI/\fH P w K mg base zK k fI fd ps (xo C fs ps.length)/\Binds K fd ps []/\ps.length<=1000/\(∀p∈fs,1<=p.2)/\ps.length=n
def GOk(X:Cx)(E:XK)(x:Str):G->Prop
|.val v=>∃u,X.mg x=some u/\RelV v u
|.tup a xs=>X.mg x=some (.ref a)/\DY X.K a true xs
|.fn sp dvs=>∃(k:Nat) (f:Addr) (fd:fJ) (ps:List Str) (ds:List Value),fH X.prog X.w X.K X.mg X.base (jQ X.prog X.w) k f fd ps sp/\gO k X.A/\X.mg x=some (.ref f)/\PySem.W.keepIn X.K (.ref f)=true/\Binds X.K fd ps ds/\bw dvs ds /\
  xg (jQ X.prog X.w) X E
|.cls C fs n=>X.mg x=some (.ref C)/\∃k,gO (k+1) X.A/\Fv X.prog X.w X.K X.mg X.base k C fs n
|.nop=>True
theorem WN{outer:List Env}{e:Value}{s':ai}(h:jQ P w outer H s E0 e s'):False:=by
 obtain⟨_,_,_,_,_,_,_,_,_,_,q⟩:=h;exact q
structure Ok (X:Cx) (T:Tab) (M:List G) (E:XK):Prop where
 N:X.N=T.N
 nd:X.N.Nodup
 sc:X.env.scope=T.sc
 kind:X.env.scope.kind=.function
 gl:∀(i:Nat) (x:Str) (g:G),T.gl[i]?=some x->M[i]?=some g->GOk X E x g
 bn:∀x∈T.bn,X.mg x=none
 own:∀x,T.own x=true->X.fn x=true
 calm:T.calm=true->X.calm=true
 po:tW (aF X.prog X.w) X.A X.env X.xe
 room:X.A.units+60<dD
variable{T:Tab}{M:List G}{sc:fO}{nl:List Str}{fr:List Nat}
theorem o6{E:XK}(ok:Ok X T M E)(h:rX T.sc T.N sc nl fr=true)(C:Addr)(aa9:ai)(H:Hp)(ex:List Addr) :
  Ok (kM X (jB X.N nl fr) sc C aa9 H ex) (Fp T sc nl fr) M E0:=by
 unfold rX at h;simp only[bR,decide_eq_true_eq]at h;obtain⟨⟨⟨⟨⟨h1,h2⟩,h3⟩,h4⟩,h5⟩,h6⟩:=h;refine⟨?_,?_,?_,h1,fun i x g hx hg=>?_,ok.bn,fun x z=>z,ok.calm,T_,ok.room⟩
 ·show jB X.N nl fr=jB T.N nl fr;rw[ok.N]
 ·show(jB X.N nl fr).Nodup;rw[ok.N];exact h6
 ·show lU sc X.env=D4 sc T.sc;rw[<-ok.sc];rfl
 ·have q:=ok.gl i x g hx hg;cases g with
  |val v=>exact q
  |tup a xs=>exact q
  |fn sp dvs=>
   obtain⟨k,f,fd,ps,ds,q1,q2,q3,q4,q5,q6,q7⟩:=q;exact⟨k,f,fd,ps,ds,q1,q2,q3,q4,q5,q6,fun pins O H s e s' I z=>(WN z).elim⟩
  |_=>exact q
variable{N:List Str}
theorem MO(h:rX sc N scope nl fr=true):uL sc N scope nl fr:=by
 unfold rX at h;simp only[bR,decide_eq_true_eq]at h;obtain⟨⟨⟨⟨⟨h1,h2⟩,h3⟩,h4⟩,h5⟩,h6⟩:=h;refine⟨h1,fun y hy=>of_decide_eq_true (bV.mp h2 y hy),fun x hx=>of_decide_eq_true (bV.mp h3 x hx),fun n hn=>?_,fun i hi=>?_⟩
 ·exact of_decide_eq_true (bV.mp h4 (n,.free) hn) rfl
 ·have q:=bV.mp h5 i hi;revert q;cases N[i]? with
  |none=>intro q;exact absurd q aY
  |some x=>intro q;exact⟨x,rfl,of_decide_eq_true q⟩
variable{o:Expr}
section
variable{env:Env}
theorem fL(h:noStar e=true):cE (e::es) env=(false,eval e env)::cE es env:=by
 cases e<;>first|rfl|exact absurd (show false=true from h) aY
theorem AB:∀{es:List Expr},bO es=true->cE es env=es.map fun e=>(false,eval e env)
|[],_=>rfl
|e::es,h=>by
 have h':noStar e=true/\bO es=true:=by simpa[bO]using h
 rw[fL h'.1,AB h'.2];rfl
theorem o7(h:bO es=true):(kc pos (cE es env)).any (·.1)=false:=by
 rw[AB h];unfold kc;rw[bJ,yP];rw[l9];intro x _;simp
theorem Qn(h:bO es=true)(hl:es.length<30) :
  ((kc pos (cE es env)).all (fun x=>!x.1)&&(backToKw pos (keywordEach [] env)).all (fun x=>x.1.isSome)&&decide (es.length+([]:List DC).length+(if([]:List DC).isEmpty then 0 else 1)<30))=true:=by
 rw[AB h];unfold kc;rw[bJ,iT];have e1:(es.all ((fun x:Bool×Sem Value=>!x.1)∘(fun x:Bool×Sem Value=>(x.1,if x.1 then do let v <-x.2;Dt pos;pure v else x.2))∘fun e=>(false,eval e env)))=true:=by
  rw[bV];intro x _;rfl
 have e2:decide (es.length+([]:List DC).length+(if([]:List DC).isEmpty then 0 else 1)<30)=true:=by
  simpa using hl
 rw[e2,Fb];exact we.mpr ⟨e1,rfl⟩
theorem Jw{nm:Str}{whole:Sem Value}(h:By o=true):qR o nm env whole=whole:=by
 unfold qR;split
 ·rename_i id p pos;have:(id==("super":Str))=false:=by simpa[By]using h
  have h2:(id != ("super":Str))=true:=by simp[bne,this]
  simp only[h2,HZ,if_true]
 ·rfl
theorem KL{b:Expr}(h:vE b=true):Jm b:=by
 intro o i;cases b<;>first|rfl|exact absurd (show false=true from h) aY
theorem xB(h:Gj e=true):∀x,jC e env x=pure x:=by
 intro x;cases e<;>first|rfl|exact absurd (show false=true from h) aY
theorem BA{t:Option Expr}(h:rW e=true):nH e t n env=pure false:=by
 cases e<;>first|rfl|exact absurd (show false=true from h) aY
theorem MP(h:KI env.scope x=true):FG env.scope x:=by
 unfold KI at h;unfold FG;split at h
 ·exact .inl (by assumption)
 ·exact .inr (.inl (by assumption))
 ·exact .inr (.inr (by assumption))
 ·exact absurd h aY
theorem pW(h:noStar e=true):iA (e::es) env=(false,qB e env)::iA es env:=by
 cases e<;>first|rfl|exact absurd (show false=true from h) aY
theorem vF:∀{es:List Expr},bO es=true->(iA es env).length=es.length/\(iA es env).findIdx? (·.1)=none
|[],_=>⟨rfl,rfl⟩
|e::es,h=>by
 have h':noStar e=true/\bO es=true:=by simpa[bO]using h
 obtain⟨a,b⟩:=vF h'.2;rw[pW h'.1];refine⟨by simp[a],?_⟩;rw[List.findIdx?_cons];simp[b]
end
variable{rest:List Expr}
variable{op op':oF}
variable{er:List Expr}
section
variable{X:Cx}{a b c:Expr}{ta tb tc:TE}{pos:Pos}{o:Expr}{to:TE}{es:List Expr}{t:TA}{apos cpos:Pos}{m:Mt}
theorem pe_and'(ha:PE X a ta)(hb:PE X (.BoolOp .And (b::rest) pos) tb):PE X (.BoolOp .And (a::b::rest) pos) (fun O H Q=>ta O H fun x H1=>match x with
  |.bl c=>if c=true then tb O H1 Q else Q (.bl false) H1
  |_=>False):=by
 intro pins s O H Q I h;refine BoolOp_and (aU (ha pins s O H _ I h) fun v s1 ⟨x,H1,I1,r1,q1⟩=>?_);cases x with
 |bl c=>
  cases r1;refine eT ?_;cases c with
  |true=>exact hb pins s1 O H1 Q I1 q1
  |false=>exact⟨.bl false,H1,I1,rfl,q1⟩
 |_=>exact au q1
theorem pe_or'(ha:PE X a ta)(hb:PE X (.BoolOp .Or (b::rest) pos) tb):PE X (.BoolOp .Or (a::b::rest) pos) (fun O H Q=>ta O H fun x H1=>match x with
  |.bl c=>if c=true then Q (.bl true) H1 else tb O H1 Q
  |_=>False):=by
 intro pins s O H Q I h;refine BoolOp_or (aU (ha pins s O H _ I h) fun v s1 ⟨x,H1,I1,r1,q1⟩=>?_);cases x with
 |bl c=>
  cases r1;refine eT ?_;cases c with
  |false=>exact hb pins s1 O H1 Q I1 q1
  |true=>exact⟨.bl true,H1,I1,rfl,q1⟩
 |_=>exact au q1
theorem pe_not'(ha:PE X a ta):PE X (.UnaryOp .Not a pos) (fun O H Q=>ta O H fun x H1=>ku X.K x H1 fun b=>Q (.bl (!b)) H1):=by
 intro pins s O H Q I h;refine UnaryOp_ (aU (ha pins s O H _ I h) fun v s1 ⟨x,H1,I1,r1,q1⟩=>?_);refine not_of (aU (Tf pins s1 O H1 x v (fun b H2=>Q (.bl (!b)) H2) I1 r1 ?_) fun b s2 ⟨H2,I2,q2⟩=>⟨.bl (!b),H2,I2,rfl,q2⟩);exact q1
theorem pe_neg'(ha:PE X a ta):PE X (.UnaryOp .USub a pos) (fun O H Q=>ta O H fun x H1=>match x with
  |.int i=>Q (.int (-i)) H1
  |_=>False):=by
 intro pins s O H Q I h;refine UnaryOp_ (aU (ha pins s O H _ I h) fun v s1 ⟨x,H1,I1,r1,q1⟩=>?_);cases x with
 |int i=>exact Wm pins s1 O H1 (.int i) v Q I1 r1 ⟨i,rfl,q1⟩
 |_=>exact au q1
theorem pe_chain'(hu:X.A.units+60<dD)(ha:PE X a ta)(hb:PE X b tb)(hc:PE X c tc)(hm:ET [op,op'] [b,c]=false):PE X (.Compare a [op,op'] [b,c] pos) (fun O H Q=>ta O H fun x H1=>tb O H1 fun y H2=>m_ X.K op x y H2 fun z H3=>match z with
  |.bl k=>if k=true then tc O H3 fun u H4=>m_ X.K op' y u H4 Q else Q (.bl false) H3
  |_=>False):=by
 intro pins s O H Q I h;refine Compare_chain (aU (ha pins s O H _ I h) fun v s1 ⟨x,H1,I1,r1,q1⟩=>chain_link (aU (hb pins s1 O H1 _ I1 q1) fun u s2 ⟨y,H2,I2,r2,q2⟩=>
  aU (yZ hu op pins s2 O H2 x y v u _ I2 r1 r2 q2) fun d s3 ⟨z,H3,I3,r3,q3⟩=>?_)) hm
 cases z with
 |bl k=>
  cases r3;refine eT ?_;cases k with
  |false=>exact ite_ff ⟨.bl false,H3,I3,rfl,q3⟩
  |true=>exact ite_tt (chain_last (aU (hc pins s3 O H3 _ I3 q3) fun w' s4 ⟨z',H4,I4,r4,q4⟩=>yZ hu op' pins s4 O H4 y z' u w' Q I4 r2 r4 q4))
 |_=>exact au q3
theorem pt_chain'(hu:X.A.units+60<dD)(ha:PE X a ta)(hb:PE X b tb)(hc:PE X c tc)(hm:ET [op,op'] [b,c]=false):PT X (.Compare a [op,op'] [b,c] pos) (fun O H Q=>ta O H fun x H1=>tb O H1 fun y H2=>m_ X.K op x y H2 fun z H3=>match z with
  |.bl k=>if k=true then tc O H3 fun u H4=>m_ X.K op' y u H4 fun z H5=>match z with
   |.bl k=>Q k H5
   |_=>False
   else Q false H3
  |_=>False):=by
 intro pins s O H Q I h;refine isTrue_chain (aU (ha pins s O H _ I h) fun v s1 ⟨x,H1,I1,r1,q1⟩=>test_link (aU (hb pins s1 O H1 _ I1 q1) fun u s2 ⟨y,H2,I2,r2,q2⟩=>
  aU (yZ hu op pins s2 O H2 x y v u _ I2 r1 r2 q2) fun d s3 ⟨z,H3,I3,r3,q3⟩=>?_)) hm
 cases z with
 |bl k=>
  cases r3;refine eT ?_;cases k with
  |false=>exact ite_ff ⟨H3,I3,q3⟩
  |true=>
   refine ite_tt (test_last (aU (hc pins s3 O H3 _ I3 q3) fun w' s4 ⟨z',H4,I4,r4,q4⟩=>aU (yZ hu op' pins s4 O H4 y z' u w' _ I4 r2 r4 q4) fun d' s5 ⟨z2,H5,I5,r5,q5⟩=>?_));cases z2 with
   |bl k2=>
    cases r5;exact eT ⟨H5,I5,q5⟩
   |_=>exact au q5
 |_=>exact au q3
theorem pt_cmp'(hu:X.A.units+60<dD)(ha:PE X a ta)(hb:PE X b tb)(hm:mW op b=false):PT X (.Compare a [op] [b] pos) (fun O H Q=>ta O H fun x H1=>tb O H1 fun y H2=>m_ X.K op x y H2 fun z H3=>match z with
  |.bl k=>Q k H3
  |_=>False):=by
 intro pins s O H Q I h;refine wpAny_isTrue_Compare1 (aU (ha pins s O H _ I h) fun v s1 ⟨x,H1,I1,r1,q1⟩=>aU (hb pins s1 O H1 _ I1 q1) fun u s2 ⟨y,H2,I2,r2,q2⟩=>aU (yZ hu op pins s2 O H2 x y v u _ I2 r1 r2 q2) fun d s3 ⟨z,H3,I3,r3,q3⟩=>?_) hm;cases z with
 |bl k=>
  cases r3;exact eT ⟨H3,I3,q3⟩
 |_=>exact au q3
theorem pt_val'(ha:PE X a ta)(he:∀whole,yz a X.env whole=(do let v <-whole;Dt a.pos;u7 [v] (O3 v))):PT X a (fun O H Q=>ta O H fun x H1=>ku X.K x H1 fun b=>Q b H1):=by
 intro pins s O H Q I h;exact isTrue_plain (aU (ha pins s O H _ I h) fun v s1 ⟨x,H1,I1,r1,q1⟩=>Tf pins s1 O H1 x v Q I1 r1 q1) (he _)
theorem WO(hu:X.A.units+60<dD)(ho:PE X o to)(ha:PA X (e::er) t)(hb:By o=true)(hl:(apos.endLine==cpos.line)=true)(hs:bO (e::er)=true)(hf:(e::er).length<30) :
  PE X (.Call (.Attribute o m.name apos) (e::er) [] cpos) (fun O H Q=>to O H fun x H1=>tG m x H1/\t O H1 fun vs H2=>vv X.K m x vs H2 Q):=by
 intro pins s O H Q I h;refine wpAny_Call_method_late (Jw hb) (Qn hs hf) hl rfl (aU (ho pins s O H _ I h) fun v s1 ⟨x,H1,I1,r1,hr,q1⟩=>?_);obtain⟨h1,h2⟩:=Jt I1 r1 hr;have fx:=Gh m x H1 hr;refine⟨Fo m x,KG m x,fx.pa,fx.slot,fx.ty,h1,h2,?_⟩;have run:=aU (ha cpos pins s1 O H1 _ I1 q1) fun us s2 ⟨vs,H2,I2,r2,q2⟩=>Ju hu I2 r1 r2 q2;have hs':noStar e=true/\bO er=true:=by simpa[bO]using hs
 rw[fL hs'.1]at run ⊢;exact uD (by show(false||(kc cpos (cE er X.env)).any (·.1))=false;rw[o7 hs'.2]<;>rfl) (Calls.evalArgs_plain run)
theorem UO(hu:X.A.units+60<dD)(ho:PE X o to)(hb:By o=true)(hl:(apos.endLine==cpos.line)=true) :
  PE X (.Call (.Attribute o m.name apos) [] [] cpos) (fun O H Q=>to O H fun x H1=>tG m x H1/\vv X.K m x [] H1 Q):=by
 intro pins s O H Q I h;refine wpAny_Call_method0_late (Jw hb) hl (aU (ho pins s O H _ I h) fun v s1 ⟨x,H1,I1,r1,hr,q1⟩=>?_);obtain⟨h1,h2⟩:=Jt I1 r1 hr;have fx:=Gh m x H1 hr;exact⟨Fo m x,KG m x,fx.pa,fx.slot,fx.ty,h1,h2,uD rfl (PySem.evalArgs_none (Ju (us:=[]) hu I1 r1 .nil q1))⟩
theorem WQ{ty:Ty}(hg:Gl X x)(hx:x="isinstance")(hm:X.mg x=none)(hgy:Gl X y)(hy:y=ty.name)(hty:ty≠.none)(hmy:X.mg y=none)(ha:PE X a ta)(hs:noStar a=true) :
  PE X (.Call (.Name x p) [a,.Name y py] [] pos) (fun O H Q=>ta O H fun v H1=>sA X.K ty v H1 fun b=>Q (.bl b) H1):=by
 subst hx hy;intro pins s O H Q I h;refine dY (kK I hg hm Cy ?_);have hst:cE [a,.Name ty.name py] X.env=[(false,eval a X.env),(false,eval (.Name ty.name py) X.env)]:=by rw[fL hs];rfl
 refine gu ?_ (by rw[hst];rfl) rfl;rw[hst];show aC _ _ (se ((false,eval a X.env)::[(false,eval (.Name ty.name py) X.env)])) _ _ s;refine dX (aU (ha pins s O H _ I h) fun u s1 ⟨v,H1,I1,r1,q1⟩=>?_);have hn:ty.name≠("__name__":Str):=by cases ty<;>decide +kernel
 have hd:(ty.name==("__debug__":Str))=false:=by cases ty<;>decide +kernel
 refine dX (kK I1 hgy hmy (Ty.boot ty hty) (iw ?_) hn hd);refine aU (WJ I1 r1 q1 hty) fun w s2 ⟨z,H2,I2,r2,e,b,ez,qb⟩=>?_;subst e ez;exact⟨.bl b,_,I2,r2,qb⟩
theorem Bf.UP(f:Bf):(∃id,f.val=.builtin id)\/∃T,f.val=.type T:=by
 cases f<;>first|exact .inl ⟨_,rfl⟩|exact .inr ⟨_,rfl⟩
theorem WR{f:Bf}(hc:X.calm=true)(hu:X.A.units+60<dD)(hg:Gl X x)(hx:x=f.name)(hm:X.mg x=none)(ha:PA X (e::er) t)(hs:bO (e::er)=true):PE X (.Call (.Name x p) (e::er) [] pos) (fun O H Q=>t O H fun vs H1=>Au X.K f vs H1 Q):=by
 subst hx;have hs':noStar e=true/\bO er=true:=by simpa[bO]using hs
 intro pins s O H Q I h;refine dY (kK I hg hm f.boot ?_ f.ok.1 f.ok.2);have run:=aU (ha pos pins s O H _ I h) fun us s1 ⟨vs,H1,I1,r1,q1⟩=>YM hc hu f pins s1 O H1 vs us Q I1 r1 q1;rcases f.UP with⟨id,ev⟩|⟨T,ev⟩
 ·rw[ev]at run ⊢;exact gu run (fL hs'.1) (o7 hs'.2)
 ·rw[ev]at run ⊢;exact fP run (fL hs'.1) (o7 hs'.2)
end
section
variable{X:Cx}{T:Tab}{M:List G}{E:XK}{a:Expr}{ta:TE}{pos:Pos}
noncomputable def Mv:Option Addr->Value
|none=>.type "NoneType"
|some C=>.ref C
end
theorem range_getD(d:α)(ss:List α):(bG ss.length).map (fun i=>ss.getD i d)=ss:=by
 apply List.ext_getElem
 ·simp
 ·intro i h1 h2;simp[eB,h2]
theorem D5(ss:List Str):uf (fun i=>ss.getD i ⟨#[]⟩) ss.length=nL ss:=by
 unfold uf nL;rw[range_getD]
theorem zO:∀{ss:List Str}{its:List Value},bw (ss.map V.str) its->∀(i:Nat) (v:Value),its[i]?=some v->∃t,v=.str (ss.getD i ⟨#[]⟩) t
|[],_,.nil,i,v,h=>by simp at h
|s::ss,_,.cons r q,0,v,h=>by
 obtain⟨t,e⟩:=r;exact⟨t,by rw[List.getElem?_cons_zero]at h;rw[<-cM h,e];rfl⟩
|s::ss,_,.cons r q,i+1,v,h=>by
 rw[lY]at h;obtain⟨t,e⟩:=zO q i v h;exact⟨t,by rw[e];rfl⟩
variable{p1 p2:Pos}
section
variable{X:Cx}
theorem UQ{p3:Pos}(hc:X.calm=true)(hg1:Gl X "len")(hm1:X.mg "len"=none)(hg2:Gl X "set")(hm2:X.mg "set"=none)(he:PE X e te)(hs:noStar e=true) :
  PE X (.Call (.Name "len" p1) [.Call (.Name "set" p2) [e] [] p3] [] pos) (fun O H Q=>te O H fun x H1=>Te x H1 Q):=by
 intro pins s O H Q I h;refine dY (kK I hg1 hm1 (Bf.boot .len) ?_ (Bf.ok .len).1 (Bf.ok .len).2);refine gu ?_ rfl rfl;show aC _ _ (se ((false,eval (.Call (.Name "set" p2) [e] [] p3) X.env)::kc pos (cE [] X.env))) _ _ s;refine dX (dY (kK I hg2 hm2 (u:=.type "set") (by decide +kernel) ?_ (by decide) (by decide)));refine fP ?_ (fL hs) rfl;rw[fL hs];show aC _ _ (se ((false,eval e X.env)::kc p3 (cE [] X.env))) _ _ s;refine dX (aU (he pins s O H _ I h) fun u s1 ⟨x,H1,I1,r1,b,ss,ex,hx,hl,q⟩=>?_);refine iw ?_;subst ex;cases r1;obtain⟨its,r,p,_⟩:=I1.list (Rd.qI hx);have hlen:its.length=ss.length:=by rw[<-r.length,az]
 have hsz:its.toArray.size=ss.length:=by rw[aQ,hlen]
 refine EV (strKind X.prog X.w) (fun i=>ss.getD i ⟨#[]⟩) (I1.ok.hd hc) (PlainL.is p) (fun i v hv=>?_) (by rw[hsz];unfold t7;omega) fun h' tk hS keep=>?_
 ·obtain⟨t,rfl⟩:=zO r i v (by simpa using hv);exact⟨strKind_is _ _ _ _,rfl⟩
 ·refine iw ?_;have hS:h'.SetOf (strKind X.prog X.w) s1.heap.objs.size _ (uf (fun i=>ss.getD i ⟨#[]⟩) its.toArray.size).length:=hS;rw[hsz,D5]at hS;obtain⟨o,es,ep,t,ho,hex,hd,hel,hmem,hb,hf,hn⟩:=hS;refine call_len_set ho hex hd hf (by rw[hn];have:(nL ss).length<=ss.length:=(by rw[<-D5];exact CL _ _);omega) ⟨.int _,H1,(I1.kept (t':=tk) fun b u e=>keep b u (aK e) e).tok _,⟨_,rfl⟩,?_⟩;rw[hn];exact q
end
variable{k:Nat}
section
variable{X:Cx}{pins:List (Addr×Obj)}{O:L2.St}{H:Hp}
theorem Th:∀(ps:List (Str×Nat)) (a y:Str),uK O ps a=some y->a.length<=y.length
|[],a,y,h=>by cases h;exact aN _
|p::r,a,y,h=>by
 have h:(match O[p.2]? with
  |some (some v)=>(vz v).bind fun y=>uK O r (a++p.1++y)
  |_=>none)=some y:=h
 split at h
 ·rename_i v _;cases c:vz v with
  |none=>rw[c]at h;cases h
  |some z=>
   rw[c]at h;have q:=Th r _ y h;rw[mZ,mZ]at q;omega
 ·cases h
theorem Gn{E:XK}(ok:Ok X T M E):∀(ps:List (Str×Nat)) (es:List Expr) (h:y_ T ps es=true) (a y:Str) (s:ai) (I:L2.Inv X pins O H s) (hy:uK O ps a=some y) (hl:y.length<=aa) {Q:Str->ai->Prop} (q:∀s',L2.Inv X pins O H s'->Q y s'),Joins (aF X.prog X.w) X.A X.xe (evalEach es X.env) a Q s
|[],es,h,a,y,s,I,hy,hl,Q,q=>by
 obtain rfl:=A_.mp (show es.isEmpty=true from h);cases hy;exact q s I
|p::r,es,h,a,y,s,I,hy,hl,Q,q=>by
 unfold y_ at h;split at h
 ·rename_i x _ _ z _ c _ es;simp only[bR,decide_eq_true_eq,q_]at h;obtain⟨⟨⟨⟨⟨⟨rfl,rfl⟩,h3⟩,h4⟩,h5⟩,h6⟩,h7⟩:=h;have hy:(match O[p.2]? with
   |some (some v)=>(vz v).bind fun y=>uK O r (a++p.1++y)
   |_=>none)=some y:=hy
  cases e1:O[p.2]? with
  |none=>rw[e1]at hy;cases hy
  |some o=>
   cases o with
   |none=>rw[e1]at hy;cases hy
   |some v=>
    rw[e1]at hy;have hy:(vz v).bind (fun y=>uK O r (a++p.1++y))=some y:=hy;cases c:vz v with
    |none=>rw[c]at hy;cases hy
    |some w=>
     rw[c]at hy;have hy:uK O r (a++p.1++w)=some y:=hy;have hg:=Th r _ y hy;have hg':=hg;rw[mZ,mZ]at hg';refine aU (Mb (X:=X) pins s O H (fun u H1=>u=.str p.1/\H1=H) I ⟨rfl,rfl⟩) fun u s1 ⟨v1,H1,I1,r1,e2,e3⟩=>?_;rw[e3]at I1;rw[e2]at r1;obtain⟨t,rfl⟩:=r1;refine⟨p.1,t,rfl,by rw[mZ];omega,?_⟩;refine wpAny_FormattedValue_plain (aU (Bg (X:=X) (by rw[ok.N];exact h3) (MP (by rw[ok.sc];exact h4)) h5 h6 pins s1 O H (fun u H2=>u=v/\H2=H) I1 ⟨v,e1,rfl,rfl⟩) fun u s2 ⟨v2,H2,I2,r2,e4,e5⟩=>?_);rw[e5]at I2;rw[e4]at r2;have fin:∀(t':Tok) (s':ai),L2.Inv X pins O H s'->∃y' t,nG w t'=.str y' t/\(a++p.1++y').length<=aa/\Joins (aF X.prog X.w) X.A X.xe (evalEach es X.env) (a++p.1++y') Q s':=fun t' s' I'=>⟨w,t',rfl,by omega,Gn ok r es h7 _ y s' I' hy hl q⟩;cases v<;>first|cases c|skip
     ·have c:(if _ then some _ else none)=some w:=c;split at c
      ·rename_i i hd;cases c;obtain⟨t2,rfl⟩:=r2;exact formatField_int_small hd (fin _ _ (I2.tok _))
      ·cases c
     ·obtain⟨t2,rfl⟩:=r2;exact wpAny_formatField_str (fin _ _ I2) (fin _ _ (I2.tok _)) (by omega)
 ·exact absurd h aY
theorem WS{x:V}{v:Value}{tp:Addr}{dd:Option Addr}{sl:Array (Option Value)}{Q:Bool->Prop}(I:L2.Inv X pins O H s)(rx:RelV x v)(htp:s.heap.get? tp=some ⟨.type "tuple",dd,.seq [Value.type "list",.type "tuple"].toArray n,sl⟩)(h:sA X.K .none x H Q) :
  aC (aF X.prog X.w) X.A (call (.builtin "isinstance") [v,.ref tp]) (EP X pins O fun u H'=>H'=H/\∃b,u=.bl b/\Q b) X.xe s:=by
 have fin:∀(b:Bool),Q b->∀tk,EP X pins O (fun u H'=>H'=H/\∃b,u=.bl b/\Q b) (.bool b) { s with toks:=tk }:=fun b q tk=>⟨.bl b,H,I.tok _,rfl,rfl,b,rfl,q⟩;cases x with
 |non=>cases(show v=cY from rx);exact PySem.W.kia_tup PySem.W.kitx_none I.fQ d9 htp rfl (fun z=>nomatch z) (fin _ h)
 |bl y=>cases(show v=gK y from rx);exact PySem.W.kia_tup PySem.W.kitx_bool I.fQ d9 htp rfl (fun z=>nomatch z) (fin _ h)
 |int i=>obtain⟨t,q⟩:=(show ∃t,v=qA i t from rx);cases q;exact PySem.W.kia_tup PySem.W.kitx_int I.fQ d9 htp rfl (fun z=>nomatch z) (fin _ h)
 |str y=>obtain⟨t,q⟩:=(show ∃t,v=nG y t from rx);cases q;exact PySem.W.kia_tup PySem.W.kitx_str I.fQ d9 htp rfl (fun z=>nomatch z) (fin _ h)
 |ref a=>
  cases(show v=bu a from rx);rcases h with⟨xs,hx,h⟩|⟨xs,hx,h⟩|⟨kvs,hk,h⟩
  ·rcases hx with e|⟨o,e⟩
   ·obtain⟨_,_,n,_,h1⟩:=(show dN X.prog X.w H s.heap a (.lst xs)from I.hok a _ e);exact PySem.W.kia_tup PySem.W.kitx_list I.fQ ⟨_,h1,rfl⟩ htp rfl (fun z=>nomatch z) (fin _ h)
   ·obtain⟨_,_,_,n,_,h1⟩:=(show dN X.prog X.w H s.heap a (.bh o (.lst xs))from I.hok a _ e);exact PySem.W.kia_tup PySem.W.kitx_list I.fQ ⟨_,h1,rfl⟩ htp rfl (fun z=>nomatch z) (fin _ h)
  ·obtain⟨its,_,⟨o,h1,h2,_⟩,_⟩:=I.tuple hx.lW;exact PySem.W.kia_tup PySem.W.kitx_tuple I.fQ ⟨o,h1,h2⟩ htp rfl (fun z=>nomatch z) (fin _ h)
  ·rcases hk with hk|⟨ob,hk⟩
   ·obtain⟨_,_,vs,_,o,es,ep,h1,h2,_⟩:=(show dN X.prog X.w H s.heap a (.dK kvs)from I.hok a _ hk);exact PySem.W.kia_tup PySem.W.kitx_dict I.fQ ⟨o,h1,h2.1⟩ htp rfl (fun z=>nomatch z) (fin _ h)
   ·obtain⟨_,_,_,vs,_,o,es,ep,h1,h2,_⟩:=(show dN X.prog X.w H s.heap a (.bh ob (.dK kvs))from I.hok a _ hk);exact PySem.W.kia_tup PySem.W.kitx_dict I.fQ ⟨o,h1,h2.1⟩ htp rfl (fun z=>nomatch z) (fin _ h)
 |_=>exact au h
theorem WT{a:Expr}{ta:TE}{tpos:Pos}(hg:Gl X x)(hx:x="isinstance")(hm:X.mg x=none)(hg1:Gl X "list")(hm1:X.mg "list"=none)(hg2:Gl X "tuple")(hm2:X.mg "tuple"=none)(ha:PE X a ta)(hs:noStar a=true) :
  PE X (.Call (.Name x p) [a,.Tuple [.Name "list" p1,.Name "tuple" p2] k tpos] [] pos) (fun O H Q=>ta O H fun v H1=>sA X.K .none v H1 fun b=>Q (.bl b) H1):=by
 subst hx;intro pins s O H Q I h;refine dY (kK I hg hm Cy ?_);have hst:cE [a,.Tuple [.Name "list" p1,.Name "tuple" p2] k tpos] X.env=[(false,eval a X.env),(false,eval (.Tuple [.Name "list" p1,.Name "tuple" p2] k tpos) X.env)]:=by rw[fL hs];rfl
 refine gu ?_ (by rw[hst];rfl) rfl;rw[hst];show aC _ _ (se ((false,eval a X.env)::[(false,eval (.Tuple [.Name "list" p1,.Name "tuple" p2] k tpos) X.env)])) _ _ s;refine dX (aU (ha pins s O H _ I h) fun u s1 ⟨v,H1,I1,r1,q1⟩=>?_);refine dX (wX (x1:=k) ?_);show aC _ _ (se ((false,eval (.Name "list" p1) X.env)::[(false,eval (.Name "tuple" p2) X.env)])) _ _ s1;refine dX (kK I1 hg1 hm1 (Ty.boot .list (by decide)) (dX (kK I1 hg2 hm2 (Ty.boot .tuple (by decide)) (iw ?_) (by decide +kernel) (by decide +kernel))) (by decide +kernel) (by decide +kernel));refine⟨by rw[dH];decide,iw ?_⟩;have I3:L2.Inv X pins O H1 { s1 with heap:=s1.heap.push (zM [Value.type "list",.type "tuple"]) }:=I1.kept (t':=s1.toks) fun b u q=>aq _ q;refine aU (WS I3 r1 (a7 _ rfl) q1) fun w s2 ⟨z,H2,I2,r2,e,b,ez,qb⟩=>?_;subst e ez;exact⟨.bl b,_,I2,r2,qb⟩
theorem WU{E:XK}(ok:Ok X T M E){ps:List (Str×Nat)}(hp:ps≠[])(h:y_ T ps es=true):PE X (.JoinedStr es pos) (fun O H Q=>∃y,uK O ps eU=some y/\y.length<=aa/\Q (.str y) H):=by
 intro pins s O H Q I ⟨y,hy,hl,q⟩;have key:=Gn (pins:=pins) (O:=O) (H:=H) ok ps es h eU y s I hy hl (Q:=fun out aa_=>out.length<=aa/\EP X pins O Q (.str out aa_.toks) { aa_ with toks:=aa_.toks+1 }) fun s' I'=>⟨hl,.str y,H,I'.tok _,⟨_,rfl⟩,q⟩;cases ps with
 |nil=>exact absurd rfl hp
 |cons p r=>
  unfold y_ at h;split at h
  ·exact wpAny_JoinedStr key
  ·exact absurd h aY
end
theorem sE:∀(xs ys:List V) (i:Nat) (it:Item),(qH xs ys)[i]?=some it->∃x y,xs[i]?=some x/\ys[i]?=some y/\it=.tup [x,y]
|x::xs,y::ys,0,it,h=>by cases h;exact⟨x,y,rfl,rfl,rfl⟩
|x::xs,y::ys,i+1,it,h=>by
 have h:(qH xs ys)[i]?=some it:=h;obtain⟨a,b,h1,h2,h3⟩:=sE xs ys i it h;exact⟨a,b,h1,h2,h3⟩
|[],ys,i,it,h=>by cases ys<;>cases h
|_::_,[],i,it,h=>by cases h
theorem AD:∀(xs ys:List V),(qH xs ys).length=min xs.length ys.length
|x::xs,y::ys=>by
 show(qH xs ys).length+1=min (xs.length+1) (ys.length+1);rw[AD xs ys];omega
|[],ys=>by cases ys<;>simp[qH]
|_::_,[]=>by simp[qH]
noncomputable def WV(a b:Addr):It:=
 ⟨fun i H=>∃xs ys x y,Rd H a (.lst xs)/\Rd H b (.lst ys)/\xs[i]?=some x/\ys[i]?=some y,
fun i H v H'=>∃p x y,H p=none/\v=.ref p/\H'=upd H p (.tup [x,y])/\(∀xs,Rd H a (.lst xs)->xs[i]?=some x)/\∀ys,Rd H b (.lst ys)->ys[i]?=some y,
fun i H=>∃xs ys,Rd H a (.lst xs)/\Rd H b (.lst ys)/\(xs.length<=i\/ys.length<=i)⟩
variable{b:Addr}
theorem Qo{xs ys:List V}:nM (WV a b) (fun H=>Rd H a (.lst xs)/\Rd H b (.lst ys)) (qH xs ys) where
 go:=fun i H it ok hi=>by
  obtain⟨x,y,h1,h2,_⟩:=sE xs ys i it hi;exact⟨xs,ys,x,y,ok.1,ok.2,h1,h2⟩
 yld:=fun i H it x H' ok hi hy k hk=>by
  obtain⟨x,y,h1,h2,rfl⟩:=sE xs ys i it hi;obtain⟨p,u,v,hp,rfl,rfl,k1,k2⟩:=hy;have e1:=k1 xs ok.1;have e2:=k2 ys ok.2;rw[h1]at e1;rw[h2]at e2;cases e1;cases e2;exact hk p hp
 stop:=fun i H ok hi=>⟨xs,ys,ok.1,ok.2,by rw[AD]at hi;omega⟩
def YS(a b z t1 t2 i1 i2:Addr)(i:Nat)(h:Heap):Prop:=p_ h z t1 t2 .none/\iW h t1 (.ref i1) (.ref i2)/\(∃u v,iW h t2 u v)/\h.IsListIter i1 a i/\h.IsListIter i2 b i
theorem Qp{x1}(a b z t1 t2 i1 i2:Addr)(D:Ba z t1 t2 i1 i2 a b):Turn P w K (.Tuple elts x1 pos) (WV a b) [z,t1,t2,i1,i2] z (YS a b z t1 t2 i1 i2) where
 mem:=by simp
 obj:=fun i h st c hc=>by
  obtain⟨s1,s2,⟨u,v,s3⟩,s4,s5⟩:=st;have hc:c=z\/c=t1\/c=t2\/c=i1\/c=i2:=by simpa using hc
  rcases hc with rfl|rfl|rfl|rfl|rfl
  ·exact⟨_,s1,fun v z=>by cases z⟩
  ·exact⟨_,s2,fun v z=>by cases z⟩
  ·exact⟨_,s3,fun v z=>by cases z⟩
  ·obtain⟨o,e,c,d⟩:=s4;exact⟨o,e,fun v z=>by rw[d]at z;cases z⟩
  ·obtain⟨o,e,c,d⟩:=s5;exact⟨o,e,fun v z=>by rw[d]at z;cases z⟩
 keep:=fun i h h' st k=>by
  obtain⟨s1,s2,⟨u,v,s3⟩,s4,s5⟩:=st;exact⟨k z (by simp) _ s1,k t1 (by simp) _ s2,⟨u,v,k t2 (by simp) _ s3⟩,s4.at fun o q=>k i1 (by simp) o q,s5.at fun o q=>k i2 (by simp) o q⟩
 item:=by
  intro X hP hw hK hc i pins s O H E I hf st hg;subst hP hw hK;obtain⟨s1,s2,⟨u0,v0,s3⟩,s4,s5⟩:=st;obtain⟨xs,ys,x,y,hq,hr,hx,hy⟩:=hg;obtain⟨its,rv,p,hz⟩:=I.list (.inl hq:gy X.K H a xs);obtain⟨its',rv',p',hz'⟩:=I.list (.inl hr:gy X.K H b ys);obtain⟨u,hu,ru⟩:=rv.get hx;obtain⟨v,hv,rw'⟩:=rv'.get hy;refine wpAny_pyNext_zip_item D s1 s2 s3 s4 s5 p.isList p'.isList (x:=u) (y:=v) (by simpa using hu) (by simpa using hv) fun h1 hz1 ho1 hi1 hi2 hn1 hsz hk1=>?_;refine⟨_,rfl,rQ (s:={ s with heap:=h1 }) hz1 fun h2 hz2 hs2=>?_⟩;have hs2:jN z h1 h2:=hs2;have lee:z<s.heap.objs.size:=aK s1;have ne_e:s.heap.objs.size≠z:=iO lee;have ht2:h2.get? s.heap.objs.size=some { cls:=.type "tuple",data:=.seq #[u,v] }:=(hs2.2 _ ne_e).trans hn1;have hk2:∀c o,c∉[z,t1,t2,i1,i2]->s.heap.get? c=some o->h2.get? c=some o:=fun c o hc q=>by
   have hc:c≠z/\c≠t1/\c≠t2/\c≠i1/\c≠i2:=by simpa using hc
   exact(hs2.2 c hc.1).trans (hk1 c o hc.1 hc.2.2.1 hc.2.2.2.1 hc.2.2.2.2 q)
  have hn:H s.heap.objs.size=none:=I.hok.fresh (aN _);have hfr:∀c∈[z,t1,t2,i1,i2],H c=none:=fun c hc=>(hf c hc).1;have hok2:fB X.prog X.w (upd H s.heap.objs.size (.tup [x,y])) h2:=by
   have h0:fB X.prog X.w H h2:=lG (X:=X) (pins:=pins) I.hok hfr hk2;intro c o q;by_cases hb:c=s.heap.objs.size
   ·subst hb;rw[bQ]at q;cases q;refine⟨by show(2:Nat)<=_;have:=dH;omega,[u,v],.cons ru (.cons rw' .nil),⟨_,ht2,rfl,_,rfl⟩⟩
   ·rw[aV hb]at q;exact(h0 c o q).stay (fun _ _ _ r=>r) (fun c r=>by rw[aV (bY r hn)];exact r) fun c ys r=>by rw[aV (bY r hn)];exact r
  have I2:L2.Inv X pins O (upd H s.heap.objs.size (.tup [x,y])) { s with heap:=h2,toks:=s.toks }:=
   Inv.rV (ch:=[z,t1,t2,i1,i2]) I hf hk2 (fun c o hb q n=>by rw[aV (bD (aK q))];exact n) (fun c o q=>by rw[aV (bY q hn)];exact q) hok2
  refine⟨.ref s.heap.objs.size,_,I2,rfl,⟨_,x,y,hn,rfl,rfl,fun zs hy'=>by rw[I.sj (.inl hy') (.inl hq:gy X.K H a xs)];exact hx,fun zs hy'=>by rw[I.sj (.inl hy') (.inl hr:gy X.K H b ys)];exact hy⟩,⟨hz2,?_,⟨u,v,?_⟩,?_,?_⟩,fun c hc=>?_⟩
  ·exact(hs2.2 _ D.TIz).trans (hk1 _ _ D.TIz D.TITO D.TIi1 D.TIi2 s2)
  ·exact(hs2.2 _ D.TOz).trans ho1
  ·exact hi1.at fun o q=>(hs2.2 i1 D.i1z).trans q
  ·exact hi2.at fun o q=>(hs2.2 i2 D.i2z).trans q
  ·have hlt:c<s.heap.objs.size:=by
    have hc:c=z\/c=t1\/c=t2\/c=i1\/c=i2:=by simpa using hc
    rcases hc with rfl|rfl|rfl|rfl|rfl
    ·exact lee
    ·exact aK s2
    ·exact aK s3
    ·obtain⟨o,q,_⟩:=s4;exact aK q
    ·obtain⟨o,q,_⟩:=s5;exact aK q
   rw[aV (bD hlt)];exact hfr c hc
 done:=by
  intro X hP hw hK hc i pins s O H E I hf st hg;subst hP hw hK;obtain⟨s1,s2,⟨u0,v0,s3⟩,s4,s5⟩:=st;obtain⟨xs,ys,hq,hr,hx⟩:=hg;obtain⟨its,rv,p,hz⟩:=I.list (.inl hq:gy X.K H a xs);obtain⟨its',rv',p',hz'⟩:=I.list (.inl hr:gy X.K H b ys);have hl:=rv.length;have hl':=rv'.length;have hfr:∀c∈[z,t1,t2,i1,i2],H c=none:=fun c hc=>(hf c hc).1;refine wpAny_pyNext_zip_end (I.ok.hd hc) D s1 s2 s3 s4 s5 p.isList p'.isList ?_ fun h' eb=>⟨rfl,?_⟩
  ·rcases hx with hx|hx
   ·exact .inl (by simp;omega)
   ·exact .inr (by simp;omega)
  ·have hk:∀c o,c∉[z,t1,t2,i1,i2]->s.heap.get? c=some o->h'.get? c=some o:=fun c o hb q=>by
    have hc:c≠z/\c≠t1/\c≠t2/\c≠i1/\c≠i2:=by simpa using hb
    exact eb c o hc.1 hc.2.2.1 hc.2.2.2.1 hc.2.2.2.2 q
   exact Inv.rV (t':=s.toks) (ch:=[z,t1,t2,i1,i2]) I hf hk (fun _ _ _ _ n=>n) (fun _ _ q=>q) (lG (X:=X) (pins:=pins) I.hok hfr hk)
 self:=fun _ _ _ _ _ st h=>nu st.1 h
variable{xs:Array Value}{Q:Value->ai->Prop}
variable{ys:Array Value}{z ti to i1 i2 l1 l2:Addr}
section
variable{P:bq}{w:bH}{A:cC}{E:Value->ai->Prop}{s:ai}
theorem Gp{i t:Addr}{x:Value}(hi:s.heap.IsTupleIter i t k)(ht:s.heap.IsTuple t xs)(hx:xs[k]?=some x)
  (q:∀h',h'.IsTupleIter i t (k+1)->jN i s.heap h'->Q x { s with heap:=h' }):aC (aF P w) A (cS (.ref i)) Q E s:=by
 have ty:=hi.typeIs;obtain⟨u,hu,hc,hd⟩:=hi;obtain⟨v,hv,_,n,hdv⟩:=ht;unfold cS;refine ah (ja (name:=ao "__next__") ty F.slot_tuple_iterator_next (nv F.slot_tuple_iterator_next ty F.entry_tuple_iterator_next ?_ (F.args_tuple_iterator_next_1 _)));show aC _ _ (wg (.ref i) 0 >>= _) _ _ s;refine ah (dJ hu hd (x:=.ref t) rfl ?_);show aC _ _ (if(bu t==cY)=true then _ else _) _ _ s;rw[if_neg (show ¬((bu t==cY)=true)from aY)];show aC _ _ (wg (.ref i) 1 >>= _) _ _ s;refine ah (dJ hu hd (x:=.int k 0) rfl (ah (gH hv hdv ?_)));simp only[qW,hx];refine ah (lR hu hd (by simp) (aR ⟨x,rfl,aR (q _ ⟨_,jO _ hu (ve (qE hd _)),(zz ..).trans hc,?_⟩ (w9 ..))⟩));rw[qE hd];simp[gS]
theorem Jx{i t:Addr}(hh:A.handled=none)(hi:s.heap.IsTupleIter i t k)(ht:s.heap.IsTuple t xs)(hx:xs[k]?=none)
  (q:∀h' e,Heap.ExtBut i s.heap h'->(∃o,h'.get? e=some o/\o.cls=.type "StopIteration")->E (.ref e) { s with heap:=h' }):aC (aF P w) A (cS (.ref i)) Q E s:=by
 have ty:=hi.typeIs;obtain⟨u,hu,hc,hd⟩:=hi;obtain⟨v,hv,_,n,hdv⟩:=ht;unfold cS;refine ah (ja (name:=ao "__next__") ty F.slot_tuple_iterator_next (nv F.slot_tuple_iterator_next ty F.entry_tuple_iterator_next ?_ (F.args_tuple_iterator_next_1 _)));show aC _ _ (wg (.ref i) 0 >>= _) _ _ s;refine ah (dJ hu hd (x:=.ref t) rfl ?_);show aC _ _ (if(bu t==cY)=true then _ else _) _ _ s;rw[if_neg (show ¬((bu t==cY)=true)from aY)];show aC _ _ (wg (.ref i) 1 >>= _) _ _ s;refine ah (dJ hu hd (x:=.int k 0) rfl (ah (gH hv hdv ?_)));simp only[qW,hx];refine ah (Cz (ah (lR hu hd (by simp) ?_)));show aC _ _ (newExc (.type "StopIteration") [] >>= _) _ _ _;refine ah ?_;simp only[newExc,newTuple];refine ah (l_ (ah (m:=DE _ _) (wpAny_of_eq (a:=cY) (by first|rfl|(simp only[DE];rfl)) (l_ ?_ (by size_fits)))) (by size_fits));simp only[raiseNew];refine ah (wpAny_handled ?_)
 first|rw[show A.in1.handled=none from hh]|rw[hh]
 exact ah (aR (wpAny_throw (q _ _ (((w9 ..).extBut.push _).push _) ⟨_,a7 _ rfl,rfl⟩)))
structure TZ (h:Heap) (z ti to i1 i2 l1 l2:Addr) (k:Nat) (xs ys:Array Value):Prop where
 zo:p_ h z ti to .none
 tp:iW h ti (.ref i1) (.ref i2)
 a1:h.IsTupleIter i1 l1 k
 a2:h.IsTupleIter i2 l2 k
 b1:h.IsTuple l1 xs
 b2:h.IsTuple l2 ys
theorem MQ{x y a b:Value}{Q:Option Value->ai->Prop}(D:Ba z ti to i1 i2 l1 l2)(Z:TZ s.heap z ti to i1 i2 l1 l2 k xs ys)(tq:iW s.heap to a b)(hx:xs[k]?=some x)(hy:ys[k]?=some y)
  (q:∀h',p_ h' z ti to (gS s.heap.objs.size)->iW h' to x y->h'.IsTupleIter i1 l1 (k+1)->h'.IsTupleIter i2 l2 (k+1)->iW h' s.heap.objs.size x y->
   (∀c o,c≠z->c≠to->c≠i1->c≠i2->s.heap.get? c=some o->h'.get? c=some o)->Q (some (.ref s.heap.objs.size)) { s with heap:=h' }):aC (aF P w) A (qC (.ref z)) Q E s:=by
 obtain⟨zo,tp,a1,a2,b1,b2⟩:=Z;have ty:s.TypeIs (.ref z) "zip":=⟨_,zo,rfl⟩;unfold qC;refine ah (Fd (ja (name:=ao "__next__") ty F.slot_zip_next (nv F.slot_zip_next ty F.entry_zip_next ?_ (F.args_zip_next_1 _))));show aC _ _ (wg (.ref z) 2 >>= _) _ _ _;refine ah (dJ zo rfl (x:=.bool false) rfl ?_);show aC _ _ (wg (.ref z) 3 >>= _) _ _ _;refine ah (dJ zo rfl (x:=.ref ti) rfl (ah (gH tp rfl ?_)));show aC _ _ (fG (.ref z) >>= _) _ _ _;refine ah ?_;unfold fG;refine ah (dJ zo rfl (x:=.none) rfl (aR ?_));simp only[if_true];refine ah (Cz (ah (dJ zo rfl (x:=.ref to) rfl (ah (gX zo (by simp) fun g1 z1 s1=>?_)))));have z1:p_ g1 z ti to .ellipsis:=z1;refine ah ?_;simp only[Bb,CA,t9,vm];refine ah (ah (qU ?_));show aC _ _ (cS (.ref i1) >>= _) _ _ _;refine ah (Gp (a1.extBut s1.extBut D.i1z) (b1.extBut s1.extBut D.l1z) hx fun g2 c1 s2=>aR ?_);have p2:iW g2 to a b:=s2.extBut _ _ D.TOi1 (s1.extBut _ _ D.TOz tq);refine ah (gH p2 rfl (ah (oO p2 fun g3 p3 s3=>?_)));have p3:iW g3 to x b:=p3;refine ah (Al (aR (ah (ah (qU ?_)))));show aC _ _ (cS (.ref i2) >>= _) _ _ _;refine ah (Gp (((a2.extBut s1.extBut D.i2z).extBut s2.extBut D.i12.symm).extBut s3.extBut D.TOi2.symm) (((b2.extBut s1.extBut D.l2z).extBut s2.extBut D.l2i1).extBut s3.extBut D.l2TO) hy fun g4 c2 s4=>aR ?_);have p4:iW g4 to x b:=s4.extBut _ _ D.TOi2 p3;refine ah (gH p4 rfl (ah (oO p4 fun g5 p5 s5=>?_)));have p5:iW g5 to x y:=p5;refine ah (Al (aR (aR (ah (gH p5 rfl (ah (wpAny_newTuple ?_)))))));have hsz:g5.objs.size=s.heap.objs.size:=by rw[s5.1,s4.1,s3.1,s2.1,s1.1]
 have z5:p_ g5 z ti to .ellipsis:=s5.extBut _ _ D.TOz.symm (s4.extBut _ _ D.i2z.symm (s3.extBut _ _ D.TOz.symm (s2.extBut _ _ D.i1z.symm z1)));have c1':g5.IsTupleIter i1 l1 (k+1):=((c1.extBut s3.extBut D.TOi1.symm).extBut s4.extBut D.i12).extBut s5.extBut D.TOi1.symm;have c2':g5.IsTupleIter i2 l2 (k+1):=c2.extBut s5.extBut D.TOi2.symm;have lz:z<g5.objs.size:=aK z5;show aC _ _ (lu (.ref z) (.ref g5.objs.size) >>= _) _ _ _;refine ah ?_;unfold lu;refine ah (gX (aq _ z5) (by simp) fun g7 z7 s7=>?_);have z7:p_ g7 z ti to (gS g5.objs.size):=z7;refine gX z7 (by simp) fun g8 z8 s8=>?_;have z8:p_ g8 z ti to (gS g5.objs.size):=z8;have up:∀c o,c≠z->g5.get? c=some o->g8.get? c=some o:=fun c o n e=>s8.extBut _ _ n (s7.extBut _ _ n (aq _ e));have p8:iW g8 g5.objs.size x y:=s8.extBut _ _ (iO lz) (s7.extBut _ _ (iO lz) (a7 _ rfl));rw[hsz]at z8 p8;refine aR ⟨_,rfl,aR ?_⟩;show Q (some (.ref g5.objs.size)) _;rw[hsz];obtain⟨o1,e1,f1⟩:=c1';obtain⟨o2,e2,f2⟩:=c2';exact q g8 z8 (up _ _ D.TOz p5) ⟨o1,up _ _ D.i1z e1,f1⟩ ⟨o2,up _ _ D.i2z e2,f2⟩ p8 fun c o n1 n2 n3 n4 e=>up c o n1 (s5.extBut _ _ n2 (s4.extBut _ _ n4 (s3.extBut _ _ n2 (s2.extBut _ _ n3 (s1.extBut _ _ n1 e)))))
theorem Qq{a b:Value}{Q:Option Value->ai->Prop}(hh:A.handled=none)(D:Ba z ti to i1 i2 l1 l2)(Z:TZ s.heap z ti to i1 i2 l1 l2 k xs ys)(tq:iW s.heap to a b)(he:xs[k]?=none\/ys[k]?=none)
  (q:∀h',(∀c o,c≠z->c≠to->c≠i1->c≠i2->s.heap.get? c=some o->h'.get? c=some o)->Q none { s with heap:=h' }):aC (aF P w) A (qC (.ref z)) Q E s:=by
 obtain⟨zo,tp,a1,a2,b1,b2⟩:=Z;have ty:s.TypeIs (.ref z) "zip":=⟨_,zo,rfl⟩;have fin:∀(h':Heap) (e:Addr),(∀c o,c≠z->c≠to->c≠i1->c≠i2->s.heap.get? c=some o->h'.get? c=some o)->(∃o,h'.get? e=some o/\o.cls=.type "StopIteration")->aC (aF P w) A (do if<-Cr (.ref e) (.type "StopIteration")then pure none else throw (.ref e)) Q E { s with heap:=h' }:=fun h' e hk ⟨o,ho,hc⟩=>
  ah (wpAny_isInstance (T:="StopIteration") (b:=true) ⟨o,ho,hc⟩ isSubtype_stop (aR (q _ hk)))
 unfold qC;refine ah (Fd (ja (name:=ao "__next__") ty F.slot_zip_next (nv F.slot_zip_next ty F.entry_zip_next ?_ (F.args_zip_next_1 _))));show aC _ _ (wg (.ref z) 2 >>= _) _ _ _;refine ah (dJ zo rfl (x:=.bool false) rfl ?_);show aC _ _ (wg (.ref z) 3 >>= _) _ _ _;refine ah (dJ zo rfl (x:=.ref ti) rfl (ah (gH tp rfl ?_)));show aC _ _ (fG (.ref z) >>= _) _ _ _;refine ah ?_;unfold fG;refine ah (dJ zo rfl (x:=.none) rfl (aR ?_));simp only[if_true];refine ah (Cz (ah (dJ zo rfl (x:=.ref to) rfl (ah (gX zo (by simp) fun g1 z1 s1=>?_)))));have z1:p_ g1 z ti to .ellipsis:=z1;refine ah ?_;simp only[Bb,CA,t9,vm];refine ah (ah (qU ?_));show aC _ _ (cS (.ref i1) >>= _) _ _ _;cases hx:xs[k]? with
 |none=>
  refine ah (Jx hh (a1.extBut s1.extBut D.i1z) (b1.extBut s1.extBut D.l1z) hx fun g2 e s2 ⟨oe,ho,hc⟩=>?_);have z2:p_ g2 z ti to .ellipsis:=s2 _ _ D.i1z.symm z1;have ne:e≠z:=fun x=>by subst x;rw[z2]at ho;cases ho;simp at hc
  exact gX z2 (by simp) fun g3 _ s3=>fin g3 e (fun c o n1 _ n3 _ x=>s3.extBut _ _ n1 (s2 _ _ n3 (s1.extBut _ _ n1 x))) ⟨oe,s3.extBut _ _ ne ho,hc⟩
 |some x=>
  have hy:ys[k]?=none:=he.resolve_left fun z=>by rw[hx]at z;cases z
  refine ah (Gp (a1.extBut s1.extBut D.i1z) (b1.extBut s1.extBut D.l1z) hx fun g2 c1 s2=>aR ?_);have p2:iW g2 to a b:=s2.extBut _ _ D.TOi1 (s1.extBut _ _ D.TOz tq);refine ah (gH p2 rfl (ah (oO p2 fun g3 p3 s3=>?_)));refine ah (Al (aR (ah (ah (qU ?_)))));show aC _ _ (cS (.ref i2) >>= _) _ _ _;refine ah (Jx hh (((a2.extBut s1.extBut D.i2z).extBut s2.extBut D.i12.symm).extBut s3.extBut D.TOi2.symm) (((b2.extBut s1.extBut D.l2z).extBut s2.extBut D.l2i1).extBut s3.extBut D.l2TO) hy fun g4 e s4 ⟨oe,ho,hc⟩=>?_);have z4:p_ g4 z ti to .ellipsis:=s4 _ _ D.i2z.symm (s3.extBut _ _ D.TOz.symm (s2.extBut _ _ D.i1z.symm z1));have ne:e≠z:=fun x=>by subst x;rw[z4]at ho;cases ho;simp at hc
  exact gX z4 (by simp) fun g5 _ s5=>fin g5 e (fun c o n1 n2 n3 n4 x=>s5.extBut _ _ n1 (s4 _ _ n4 (s3.extBut _ _ n2 (s2.extBut _ _ n3 (s1.extBut _ _ n1 x))))) ⟨oe,s5.extBut _ _ ne ho,hc⟩
end
noncomputable abbrev Jy(h:Heap)(a:Addr):Heap:=h.push { cls:=.type "tuple_iterator",data:=.fields #[.ref a,.int 0 0] }
noncomputable abbrev Ti(h:Heap)(a b:Addr):Heap:=Jy (Jy h a) b
noncomputable abbrev Tj(h:Heap)(a b:Addr):Heap:=(Ti h a b).push { cls:=.type "tuple",data:=.seq #[.ref h.objs.size,.ref (Jy h a).objs.size] }
noncomputable abbrev Tn(h:Heap)(a b:Addr):Heap:=(Tj h a b).push { cls:=.type "tuple",data:=.seq #[.none,.none] }
noncomputable abbrev Gq(h:Heap)(a b:Addr):Heap:=(Tn h a b).push { cls:=.type "zip",data:=.fields #[.none,.bool false,.bool false,.ref (Ti h a b).objs.size,.ref (Tj h a b).objs.size] }
theorem Qs(a b:Addr)(xs ys:Array Value):Meets (J9.«zip.__new__» ⟨[.type "zip",.ref a,.ref b],[]⟩) (fun _ R s=>s.heap.IsTuple a xs/\s.heap.IsTuple b ys/\R (.ok (.ret (.ref (Tn s.heap a b).objs.size))) { s with heap:=Gq s.heap a b }):=
 .of_wp fun prog w A R s h=>by
  obtain⟨hp,g,d,tk,os⟩:=s;obtain⟨h1,h2,h⟩:=h;have hsub:=sub_zip;have q1:Ih (Jd ⟨hp,g,d,tk,os⟩) a xs:=h1;have q2:Ih (Jd ⟨Jy hp a,g,d,tk,os⟩) b ys:=Pj h2 _
  wp_walk using qG q1,qG q2
  exact⟨_,rfl,h⟩
theorem MR(h1:s.heap.IsTuple a xs)(h2:s.heap.IsTuple b ys)
  (q:∀h',TZ h' (s.heap.objs.size+4) (s.heap.objs.size+2) (s.heap.objs.size+3) s.heap.objs.size (s.heap.objs.size+1) a b 0 xs ys->iW h' (s.heap.objs.size+3) .none .none->(∀c o,s.heap.get? c=some o->h'.get? c=some o)->Q (.ref (s.heap.objs.size+4)) { s with heap:=h' }) :
  aC (aF P w) A (call (.type "zip") [.ref a,.ref b]) Q E s:=by
 refine callType_new F.called_zip (by decide) (F.typeCall_zip_2 _ _) (F.newCall_zip_2 _ _) (fun obj=>F.args_object_init_3 obj _ _) F.entry_zip_new (Qs a b xs ys) ⟨h1,h2,?_⟩;have n1:(Jy s.heap a).objs.size=s.heap.objs.size+1:=cU ..;have n2:(Ti s.heap a b).objs.size=s.heap.objs.size+2:=by rw[cU,n1]
 have n3:(Tj s.heap a b).objs.size=s.heap.objs.size+3:=by rw[cU,n2]
 have n4:(Tn s.heap a b).objs.size=s.heap.objs.size+4:=by rw[cU,n3]
 have up:∀c o,s.heap.get? c=some o->(Gq s.heap a b).get? c=some o:=fun c o x=>aq _ (aq _ (aq _ (aq _ (aq _ x))));have g5:(Gq s.heap a b).get? (Tn s.heap a b).objs.size=some _:=a7 _ rfl;have g4:(Gq s.heap a b).get? (Tj s.heap a b).objs.size=some _:=aq _ (a7 _ rfl);have g3:(Gq s.heap a b).get? (Ti s.heap a b).objs.size=some _:=aq _ (aq _ (a7 _ rfl));have g2:(Gq s.heap a b).get? (Jy s.heap a).objs.size=some _:=aq _ (aq _ (aq _ (a7 _ rfl)));have g1:(Gq s.heap a b).get? s.heap.objs.size=some _:=aq _ (aq _ (aq _ (aq _ (a7 _ rfl))));show _/\_;rw[n2,n3,n4]at g5;rw[n1,n2]at g3;rw[n3]at g4;rw[n1]at g2;rw[n4];obtain⟨o1,e1,r1⟩:=h1;obtain⟨o2,e2,r2⟩:=h2;exact⟨⟨_,g5,rfl⟩,q _ ⟨g5,g3,⟨_,g1,rfl,rfl⟩,⟨_,g2,rfl,rfl⟩,⟨o1,up _ _ e1,r1⟩,⟨o2,up _ _ e2,r2⟩⟩ g4 up⟩
noncomputable def WW(K:PySem.W.Frag)(a b:Addr):It:=
 ⟨fun i H=>∃xs ys x y,kD K H a xs/\kD K H b ys/\xs[i]?=some x/\ys[i]?=some y,
fun i H v H'=>∃p x y,H p=none/\v=.ref p/\H'=upd H p (.tup [x,y])/\(∀xs,kD K H a xs->xs[i]?=some x)/\∀ys,kD K H b ys->ys[i]?=some y,
fun i H=>∃xs ys,kD K H a xs/\kD K H b ys/\(xs.length<=i\/ys.length<=i)⟩
theorem MS{xs ys:List V}:nM (WW K a b) (fun H=>kD K H a xs/\kD K H b ys) (qH xs ys) where
 go:=fun i H it ok hi=>by
  obtain⟨x,y,h1,h2,_⟩:=sE xs ys i it hi;exact⟨xs,ys,x,y,ok.1,ok.2,h1,h2⟩
 yld:=fun i H it x H' ok hi hy k hk=>by
  obtain⟨x,y,h1,h2,rfl⟩:=sE xs ys i it hi;obtain⟨p,u,v,hp,rfl,rfl,k1,k2⟩:=hy;have e1:=k1 xs ok.1;have e2:=k2 ys ok.2;rw[h1]at e1;rw[h2]at e2;cases e1;cases e2;exact hk p hp
 stop:=fun i H ok hi=>⟨xs,ys,ok.1,ok.2,by rw[AD]at hi;omega⟩
def WX(a b z t1 t2 i1 i2:Addr)(i:Nat)(h:Heap):Prop:=p_ h z t1 t2 .none/\iW h t1 (.ref i1) (.ref i2)/\(∃u v,iW h t2 u v)/\h.IsTupleIter i1 a i/\h.IsTupleIter i2 b i
theorem MT{x1}(a b z t1 t2 i1 i2:Addr)(D:Ba z t1 t2 i1 i2 a b):Turn P w K (.Tuple elts x1 pos) (WW K a b) [z,t1,t2,i1,i2] z (WX a b z t1 t2 i1 i2) where
 mem:=by simp
 obj:=fun i h st c hc=>by
  obtain⟨s1,s2,⟨u,v,s3⟩,s4,s5⟩:=st;have hc:c=z\/c=t1\/c=t2\/c=i1\/c=i2:=by simpa using hc
  rcases hc with rfl|rfl|rfl|rfl|rfl
  ·exact⟨_,s1,fun v z=>by cases z⟩
  ·exact⟨_,s2,fun v z=>by cases z⟩
  ·exact⟨_,s3,fun v z=>by cases z⟩
  ·obtain⟨o,e,c,d⟩:=s4;exact⟨o,e,fun v z=>by rw[d]at z;cases z⟩
  ·obtain⟨o,e,c,d⟩:=s5;exact⟨o,e,fun v z=>by rw[d]at z;cases z⟩
 keep:=fun i h h' st k=>by
  obtain⟨s1,s2,⟨u,v,s3⟩,s4,s5⟩:=st;exact⟨k z (by simp) _ s1,k t1 (by simp) _ s2,⟨u,v,k t2 (by simp) _ s3⟩,s4.at fun o q=>k i1 (by simp) o q,s5.at fun o q=>k i2 (by simp) o q⟩
 item:=by
  intro X hP hw hK hc i pins s O H E I hf st hg;subst hP hw hK;obtain⟨s1,s2,⟨u0,v0,s3⟩,s4,s5⟩:=st;obtain⟨xs,ys,x,y,hq,hr,hx,hy⟩:=hg;obtain⟨its,rv,p,hz⟩:=I.tuple hq;obtain⟨its',rv',p',hz'⟩:=I.tuple hr;obtain⟨u,hu,ru⟩:=rv.get hx;obtain⟨v,hv,rw'⟩:=rv'.get hy;refine MQ D ⟨s1,s2,s4,s5,(show s.heap.IsTuple a its.toArray from p),(show s.heap.IsTuple b its'.toArray from p')⟩ s3 (x:=u) (y:=v) (by simpa using hu) (by simpa using hv) fun h1 hz1 ho1 hi1 hi2 hn1 hk1=>?_;refine⟨_,rfl,rQ (s:={ s with heap:=h1 }) hz1 fun h2 hz2 hs2=>?_⟩;have hs2:jN z h1 h2:=hs2;have lee:z<s.heap.objs.size:=aK s1;have ne_e:s.heap.objs.size≠z:=iO lee;have ht2:h2.get? s.heap.objs.size=some { cls:=.type "tuple",data:=.seq #[u,v] }:=(hs2.2 _ ne_e).trans hn1;have hk2:∀c o,c∉[z,t1,t2,i1,i2]->s.heap.get? c=some o->h2.get? c=some o:=fun c o hc q=>by
   have hc:c≠z/\c≠t1/\c≠t2/\c≠i1/\c≠i2:=by simpa using hc
   exact(hs2.2 c hc.1).trans (hk1 c o hc.1 hc.2.2.1 hc.2.2.2.1 hc.2.2.2.2 q)
  have hn:H s.heap.objs.size=none:=I.hok.fresh (aN _);have hfr:∀c∈[z,t1,t2,i1,i2],H c=none:=fun c hc=>(hf c hc).1;have hok2:fB X.prog X.w (upd H s.heap.objs.size (.tup [x,y])) h2:=by
   have h0:fB X.prog X.w H h2:=lG (X:=X) (pins:=pins) I.hok hfr hk2;intro c o q;by_cases hb:c=s.heap.objs.size
   ·subst hb;rw[bQ]at q;cases q;refine⟨by show(2:Nat)<=_;have:=dH;omega,[u,v],.cons ru (.cons rw' .nil),⟨_,ht2,rfl,_,rfl⟩⟩
   ·rw[aV hb]at q;exact(h0 c o q).stay (fun _ _ _ r=>r) (fun c r=>by rw[aV (bY r hn)];exact r) fun c ys r=>by rw[aV (bY r hn)];exact r
  have I2:L2.Inv X pins O (upd H s.heap.objs.size (.tup [x,y])) { s with heap:=h2,toks:=s.toks }:=
   Inv.rV (ch:=[z,t1,t2,i1,i2]) I hf hk2 (fun c o hb q n=>by rw[aV (bD (aK q))];exact n) (fun c o q=>by rw[aV (bY q hn)];exact q) hok2
  refine⟨.ref s.heap.objs.size,_,I2,rfl,⟨_,x,y,hn,rfl,rfl,fun zs hy'=>by rw[I.tE hy' hq];exact hx,fun zs hy'=>by rw[I.tE hy' hr];exact hy⟩,⟨hz2,?_,⟨u,v,?_⟩,?_,?_⟩,fun c hc=>?_⟩
  ·exact(hs2.2 _ D.TIz).trans (hk1 _ _ D.TIz D.TITO D.TIi1 D.TIi2 s2)
  ·exact(hs2.2 _ D.TOz).trans ho1
  ·exact hi1.at fun o q=>(hs2.2 i1 D.i1z).trans q
  ·exact hi2.at fun o q=>(hs2.2 i2 D.i2z).trans q
  ·have hlt:c<s.heap.objs.size:=by
    have hc:c=z\/c=t1\/c=t2\/c=i1\/c=i2:=by simpa using hc
    rcases hc with rfl|rfl|rfl|rfl|rfl
    ·exact lee
    ·exact aK s2
    ·exact aK s3
    ·obtain⟨o,q,_⟩:=s4;exact aK q
    ·obtain⟨o,q,_⟩:=s5;exact aK q
   rw[aV (bD hlt)];exact hfr c hc
 done:=by
  intro X hP hw hK hc i pins s O H E I hf st hg;subst hP hw hK;obtain⟨s1,s2,⟨u0,v0,s3⟩,s4,s5⟩:=st;obtain⟨xs,ys,hq,hr,hx⟩:=hg;obtain⟨its,rv,p,hz⟩:=I.tuple hq;obtain⟨its',rv',p',hz'⟩:=I.tuple hr;have hl:=rv.length;have hl':=rv'.length;have hfr:∀c∈[z,t1,t2,i1,i2],H c=none:=fun c hc=>(hf c hc).1;refine Qq (I.ok.hd hc) D ⟨s1,s2,s4,s5,(show s.heap.IsTuple a its.toArray from p),(show s.heap.IsTuple b its'.toArray from p')⟩ s3 ?_ fun h' eb=>⟨rfl,?_⟩
  ·rcases hx with hx|hx
   ·exact .inl (by simp;omega)
   ·exact .inr (by simp;omega)
  ·have hk:∀c o,c∉[z,t1,t2,i1,i2]->s.heap.get? c=some o->h'.get? c=some o:=fun c o hb q=>by
    have hc:c≠z/\c≠t1/\c≠t2/\c≠i1/\c≠i2:=by simpa using hb
    exact eb c o hc.1 hc.2.2.1 hc.2.2.2.1 hc.2.2.2.2 q
   exact Inv.rV (t':=s.toks) (ch:=[z,t1,t2,i1,i2]) I hf hk (fun _ _ _ _ n=>n) (fun _ _ q=>q) (lG (X:=X) (pins:=pins) I.hok hfr hk)
 self:=fun _ _ _ _ _ st h=>nu st.1 h
section
variable{X:Cx}
theorem UR{x1:Nat}{t:TA}(hg:Gl X "zip")(hm:X.mg "zip"=none)(ha:PA X (e::er) t)(n1:noStar e=true)(n2:bO er=true) :
  D3 X (.Tuple elts x1 tp) (.Call (.Name "zip" p) (e::er) [] pos) (fun O H k=>t O H fun vs H1=>Kz X.K vs H1 k):=by
 intro pins s O H k I h;refine Call_ (kK I hg hm boot_zip (fP (aU (ha pos pins s O H (fun vs H1=>Kz X.K vs H1 k) I h) fun us s1 ⟨vs,H1,I1,r1,q⟩=>?_) (fL n1) (o7 n2)))
 match vs,r1,q with
 |[],r1,q=>exact q.elim
 |[_],r1,q=>exact q.elim
 |_::_::_::_,r1,q=>exact q.elim
 |[x,y],r1,q=>
  obtain⟨u,v,rfl,ru,rv⟩:=vals2 r1;rcases q with⟨a,b,xs,ys,rfl,rfl,hx,hy,q⟩|⟨a,b,xs,ys,rfl,rfl,hx,hy,q⟩
  rotate_left
  ·cases ru;cases rv;obtain⟨its,r1,p1,_⟩:=I1.tuple hx.lW;obtain⟨its',r2,p2,_⟩:=I1.tuple hy.lW;have p1:s1.heap.IsTuple a its.toArray:=p1;have p2:s1.heap.IsTuple b its'.toArray:=p2;have l1:a<s1.heap.objs.size:=by obtain⟨_,e,_⟩:=p1;exact aK e
   have l2:b<s1.heap.objs.size:=by obtain⟨_,e,_⟩:=p2;exact aK e
   refine MR p1 p2 fun h' Z z3 hk=>?_;refine nu (s:={ s1 with heap:=h' }) Z.zo ?_;refine⟨s1.heap.objs.size+4,[s1.heap.objs.size+4,s1.heap.objs.size+2,s1.heap.objs.size+3,s1.heap.objs.size,s1.heap.objs.size+1],_,_,H1,rfl,I1.kept (t':=s1.toks) hk,MT a b _ _ _ _ _ (Ii l1 l2),⟨Z.zo,Z.tp,⟨_,_,z3⟩,Z.a1,Z.a2⟩,fun c hc=>?_,fun H'=>eE X.K H' a true xs/\eE X.K H' b true ys,_,MS.mono fun H' o=>⟨o.1.lW,o.2.lW⟩,q⟩;have hle:s1.heap.objs.size<=c:=by
    have hc:c=s1.heap.objs.size+4\/c=s1.heap.objs.size+2\/c=s1.heap.objs.size+3\/c=s1.heap.objs.size\/c=s1.heap.objs.size+1:=by simpa using hc
    rcases hc with rfl|rfl|rfl|rfl|rfl<;>first|exact Bc _ _|exact aN _
   exact I1.oX hle (I1.hok.fresh hle)
  cases ru;cases rv;obtain⟨its,r1,p1,_⟩:=I1.list (.inl hx:gy X.K H1 a xs);obtain⟨its',r2,p2,_⟩:=I1.list (.inl hy:gy X.K H1 b ys);have l1:a<s1.heap.objs.size:=by obtain⟨_,e,_⟩:=p1.isList;exact aK e
  have l2:b<s1.heap.objs.size:=by obtain⟨_,e,_⟩:=p2.isList;exact aK e
  refine call_zip_2 p1.isList p2.isList fun h' z1 z2 z3 z4 z5 hsz hk=>?_;refine nu (s:={ s1 with heap:=h' }) z1 ?_;refine⟨s1.heap.objs.size+4,[s1.heap.objs.size+4,s1.heap.objs.size+2,s1.heap.objs.size+3,s1.heap.objs.size,s1.heap.objs.size+1],_,_,H1,rfl,I1.kept (t':=s1.toks) hk,Qp a b _ _ _ _ _ (Ii l1 l2),⟨z1,z2,⟨_,_,z3⟩,z4,z5⟩,fun c hc=>?_,_,_,Qo,q⟩;have hle:s1.heap.objs.size<=c:=by
   have hc:c=s1.heap.objs.size+4\/c=s1.heap.objs.size+2\/c=s1.heap.objs.size+3\/c=s1.heap.objs.size\/c=s1.heap.objs.size+1:=by simpa using hc
   rcases hc with rfl|rfl|rfl|rfl|rfl<;>first|exact Bc _ _|exact aN _
  exact I1.oX hle (I1.hok.fresh hle)
end
theorem band{a b:Bool}(h:(a&&b)=true):a=true/\b=true:=by simpa using h
variable{x1 x2 x3:Bool}
theorem pY(h:(x1&&x2&&x3)=true):(x1=true/\x2=true)/\x3=true:=⟨band (band h).1,(band h).2⟩
variable{x4:Bool}
theorem za(h:(x1&&x2&&x3&&x4)=true):((x1=true/\x2=true)/\x3=true)/\x4=true:=⟨pY (band h).1,(band h).2⟩
variable{x5:Bool}
theorem Fw(h:(x1&&x2&&x3&&x4&&x5)=true):(((x1=true/\x2=true)/\x3=true)/\x4=true)/\x5=true:=⟨za (band h).1,(band h).2⟩
variable{x6:Bool}
theorem pZ(h:(x1&&x2&&x3&&x4&&x5&&x6)=true):((((x1=true/\x2=true)/\x3=true)/\x4=true)/\x5=true)/\x6=true:=⟨Fw (band h).1,(band h).2⟩
variable{x7:Bool}
theorem KN(h:(x1&&x2&&x3&&x4&&x5&&x6&&x7)=true):(((((x1=true/\x2=true)/\x3=true)/\x4=true)/\x5=true)/\x6=true)/\x7=true:=⟨pZ (band h).1,(band h).2⟩
variable{x8:Bool}
theorem YT(h:(x1&&x2&&x3&&x4&&x5&&x6&&x7&&x8)=true):((((((x1=true/\x2=true)/\x3=true)/\x4=true)/\x5=true)/\x6=true)/\x7=true)/\x8=true:=⟨KN (band h).1,(band h).2⟩
theorem YU{x9:Bool}(h:(x1&&x2&&x3&&x4&&x5&&x6&&x7&&x8&&x9)=true):(((((((x1=true/\x2=true)/\x3=true)/\x4=true)/\x5=true)/\x6=true)/\x7=true)/\x8=true)/\x9=true:=⟨YT (band h).1,(band h).2⟩
theorem vG{a:Bool}(h:(!a)=true):a=false:=by simpa using h
theorem no{P:Prop}(h:false=true):P:=absurd h aY
variable{g:Nat}
variable{as:i9}
section
variable{X:Cx}{T:Tab}{M:List G}{E:XK}
theorem Ok.kE(ok:Ok X T M E)(h:qo T.sc x=true):Gl X x:=by
 have h:=of_decide_eq_true h;rw[<-ok.sc]at h;exact h
theorem Ok.nO(ok:Ok X T M E)(h:T.bn.contains x=true):X.mg x=none:=ok.bn x (by simpa using h)
theorem Ok.KO(ok:Ok X T M E)(h:decide (T.N[i]?=some x)=true):X.N[i]?=some x:=by rw[ok.N];exact of_decide_eq_true h
theorem Ok.BB(ok:Ok X T M E)(h:rX T.sc T.N scope nl fr=true):uL X.env.scope X.N scope nl fr:=by rw[ok.sc,ok.N];exact MO h
theorem Mp{v:V}{c:Const}{j:Nat}(h:Qj v c=true):PE X (.Constant c j pos) (fun _ H Q=>Q v H):=by
 cases v<;>cases c<;>first|exact no h|skip
 ·exact VZ
 ·have e:=of_decide_eq_true h;subst e;exact Yk
 ·have e:=of_decide_eq_true h;subst e;exact Ma
 ·have e:=of_decide_eq_true h;subst e;exact Mb
theorem US(hN:X.N[i]?=some x)(hv:FG X.env.scope x)(h1:(x==("__debug__":Str))=false)(h2:(x==("__classdict__":Str))=false):PE X (.Name x p) (fun O H Q=>lF O i fun v=>Q v H):=by
 intro pins s O H Q I h;refine Bg hN hv h1 h2 pins s O H Q I ?_;unfold lF at h;split at h
 ·exact⟨_,by assumption,h⟩
 ·exact h.elim
theorem WY(ok:Ok X T M E)(hx:T.gl[g]?=some x)(hg:Gl X x)(hd:(x==("__debug__":Str))=false):PE X (.Name x p) (fun _ H Q=>match M[g]? with
  |some (.val v)=>Q v H
  |some (.tup a _)=>Q (.ref a) H
  |_=>False):=by
 intro pins s O H Q I h;split at h
 ·rename_i v e;obtain⟨u,hm,r⟩:=ok.gl g x _ hx e;exact Jg hg hm r hd pins s O H Q I h
 ·rename_i a xs e;obtain⟨hm,_⟩:=ok.gl g x _ hx e;exact Jg (v:=.ref a) hg hm rfl hd pins s O H Q I h
 ·exact h.elim
theorem YV{t:TA}(ok:Ok X T M E)(hx:T.gl[g]?=some x)(hg:Gl X x)(hd:(x==("__debug__":Str))=false)(ha:PA X es t)(hn:es=[]->t=fun _ H Q=>Q [] H)(hs:bO es=true) :
  PE X (.Call (.Name x p) es [] pos) (fun O H Q=>match M[g]? with
   |some (.fn sp dvs)=>t O H fun vs H1=>sp (vs++dvs) H1 Q E
   |_=>False):=by
 intro pins s O H Q I h;split at h
 ·rename_i sp dvs e;obtain⟨k,f,fd,ps,ds,q1,q2,q3,q4,q5,q6,q7⟩:=ok.gl g x _ hx e;cases es with
  |nil=>
   have e:=hn rfl;subst e;exact PJ q1 q2 hg q3 q4 q5 q6 q7 hd pins s O H Q I h
  |cons e er=>
   have hs':noStar e=true/\bO er=true:=by simpa[bO]using hs
   exact Up q1 q2 hg q3 q4 q5 q6 q7 ha hd (fL hs'.1) (o7 hs'.2) pins s O H Q I h
 ·exact h.elim
theorem UT(ok:Ok X T M E)(hi:X.N[i]?=some x)(hl:Qi T x=true):PG X (.Name x p) (fun v O H Q=>Q (O.set i (some v)) H):=by
 unfold Qi at hl;have hsc:=ok.sc;split at hl
 ·rename_i e;rw[<-hsc]at e;exact Ji ok.nd hi (.inl e) (.inr e)
 ·rename_i e;rw[<-hsc]at e;exact Ji ok.nd hi (.inr e) (.inl (ok.own x hl))
 ·exact no hl
theorem pg_tup'{gs:qh}{t:zF}(hc:X.calm=true)(h:Bh X es t)(hn:es.length=gs.len)(hs:bO es=true):PG X (.Tuple es k pos) (fun v O H Q=>match v with
  |.ref a=>uh X.K H a fun t' xs=>t'=true/\xs.length=gs.len/\t xs O H Q
  |_=>False):=by
 intro pins s O H v u Q I r hw;cases v with
 |ref a=>
  obtain⟨t',xs,hx,ht,hl,hw⟩:=hw;subst ht;rcases hx.sq with⟨hf,_⟩|⟨_,z⟩
  ·cases hf
  ·exact V7 (n:=es.length) hc h (vF hs).1 (vF hs).2 pins s O H _ u Q I r ⟨a,xs,rfl,z,by omega,hw⟩
 |_=>exact au hw
theorem pg_sub'{i:Expr}{to ti:TE}(hu:X.A.units+60<dD)(hp:vE i=true)(ho:PE X o to)(hi:PE X i ti):PG X (.Subscript o i pos) (fun v O H Q=>to O H fun x H1=>ti O H1 fun y H2=>match x with
  |.ref a=>match H2 a with
   |some (.lst xs)=>∃k j,y=.int k/\gY xs.length k=some j/\Q O (upd H2 a (.lst (xs.set j v)))
   |some (.dK kvs)=>∃k,y=kV k/\kvs.length<aa/\Q O (upd H2 a (.dK (putK kvs k v)))
   |some (.dT kvs)=>∃k b,y=.ref b/\H2 b=some (.tup (k.map kV))/\kvs.length<aa/\Q O (upd H2 a (.dT (putK kvs k v)))
   |_=>False
  |_=>False):=by
 have hS:Pw X (fun x y v H2 Q=>match x with
  |.ref a=>match H2 a with
   |some (.lst xs)=>∃k j,y=.int k/\gY xs.length k=some j/\Q (upd H2 a (.lst (xs.set j v)))
   |some (.dK kvs)=>∃k,y=kV k/\kvs.length<aa/\Q (upd H2 a (.dK (putK kvs k v)))
   |some (.dT kvs)=>∃k b,y=.ref b/\H2 b=some (.tup (k.map kV))/\kvs.length<aa/\Q (upd H2 a (.dT (putK kvs k v)))
   |_=>False
  |_=>False):=by
  intro pins s O H o i v ov iv u Q I ro ri rv h;split at h
  ·split at h
   ·obtain⟨k,j,rfl,hj,q⟩:=h;exact set_list pins s O H _ _ v ov iv u Q I ro ri rv ⟨_,_,_,j,rfl,rfl,by assumption,hj,q⟩
   ·rename_i a _ kvs hk;obtain⟨k,rfl,hl,q⟩:=h;cases(show ov=bu a from ro);exact DR (by omega) I (.inl ⟨kvs,k,hk,rfl,hl,rfl⟩) ri rv fun s' I'=>⟨_,I',q⟩
   ·rename_i a _ kvs hk;obtain⟨k,b,rfl,hb,hl,q⟩:=h;cases(show ov=bu a from ro);exact DR (by omega) I (.inr ⟨kvs,k,b,hk,rfl,hb,hl,rfl⟩) ri rv fun s' I'=>⟨_,I',q⟩
   ·exact h.elim
  ·exact h.elim
 intro pins s O H v u Q I r h;refine V8 ho hi hS (fun _=>by cases i<;>first|rfl|exact no hp) pins s O H v u Q I r ?_;exact h
theorem iJ:PT X e (fun _ _ _=>False):=fun _ _ _ _ _ _ h=>h.elim
theorem WZ{a b:Expr}{tc ta tb:TT}(hc:PT X c tc)(ha:PT X a ta)(hb:PT X b tb):PT X (.IfExp c a b pos) (fun O H Q=>tc O H fun k H1=>if k=true then ta O H1 Q else tb O H1 Q):=by
 intro pins s O H Q I h;refine isTrue_IfExp (aU (hc pins s O H _ I h) fun d s1 ⟨H1,I1,q1⟩=>?_);cases d with
 |true=>exact ha pins s1 O H1 Q I1 q1
 |false=>exact hb pins s1 O H1 Q I1 q1
theorem Jz{Q:Bool->Hp->Prop}:wT K M E (.call g as) O H Q=wE K M E (.call g as) O H (fun x H2=>ku K x H2 fun b=>Q b H2):=by
 show(match M[g]? with
  |some (.fn sp dvs)=>wEs K M E as O H fun vs H1=>sp (vs++dvs) H1 (fun x H2=>ku K x H2 fun b=>Q b H2) E
  |_=>False)=(match M[g]? with
  |some (.fn sp dvs)=>wEs K M E as O H fun vs H1=>sp (vs++dvs) H1 (fun x H2=>ku K x H2 fun b=>Q b H2) E
  |_=>False)
 rfl
theorem UU(ok:Ok X T M E)(h:PE X e (wE X.K M E (.call g as)))(he:∀whole,yz e X.env whole=(do let v <-whole;Dt e.pos;u7 [v] (O3 v))):PT X e (wT X.K M E (.call g as)):=by
 have z:=pt_val' h he;intro pins s O H Q I q;rw[Jz]at q;exact z pins s O H Q I q
theorem po_some'(h:PE X e te):PO X (some e) (fun O H Q=>te O H fun x H1=>match x with
  |.int i=>Q (some i) H1
  |_=>False):=by
 intro pins s O H Q I q;rw[Fc];refine aU (h pins s O H _ I q) fun v s1 ⟨x,H1,I1,r1,q1⟩=>?_;cases x with
 |int i=>
  obtain⟨t,rfl⟩:=r1;exact⟨some i,H1,I1,.int i t,q1⟩
 |_=>exact au q1
theorem pgs_nil':Bh X [] (fun vs O H Q=>match vs with
  |[]=>Q O H
  |_=>False):=by
 intro pins s O H vs us Q I r h;cases vs with
 |nil=>exact Uj pins s O H [] us Q I r ⟨rfl,h⟩
 |cons v vr=>exact au h
theorem pgs_cons'{t:TG}{u:zF}(h1:PG X e t)(h2:Bh X es u)(hs:noStar e=true):Bh X (e::es) (fun vs O H Q=>match vs with
  |v::vr=>t v O H fun σ' H'=>u vr σ' H' Q
  |_=>False):=by
 intro pins s O H vs us Q I r h;cases vs with
 |nil=>exact au h
 |cons v vr=>exact Px h1 h2 (by rw[pW hs];rfl) pins s O H (v::vr) us Q I r ⟨v,vr,rfl,h⟩
theorem To:∀(gs:qh) (es:List Expr),Ft T gs es=true->es.length=gs.len
|.nil,es,h=>by
 cases es with
 |nil=>rfl
 |cons e er=>exact no h
|.cons g r,es,h=>by
 cases es with
 |nil=>exact no h
 |cons e er=>
  obtain⟨_,h2⟩:=band h;show er.length+1=r.len+1;rw[To r er h2]
theorem Tp(as:i9)(es:List Expr)(h:mK T as es=true):es=[]->wEs X.K M E as=fun _ H Q=>Q [] H:=by
 rintro rfl;cases as with
 |nil=>rfl
 |cons a r=>exact no h
theorem hid{G:α->Prop}{e:α}(h:∀P:α->Prop,(∀x,G x->P x)->P e):G e:=h G fun _ h=>h
mutual
theorem dc:∀(c:CE) (e:Expr) {X:Cx}{T:Tab}{E:XK},Ok X T M E->c8 T c e=true->PE X e (wE X.K M E c)/\PT X e (wT X.K M E c)/\∀op vs p,e=.BoolOp op vs p->PW X e (wT X.K M E c)
|.var i,e,X,T,E,ok,h=>by
 obtain⟨h0,h⟩:=band h;revert h;refine b9 e (eq_of_beq h0) ?_;intro x p h;obtain⟨⟨⟨h1,h2⟩,h3⟩,h4⟩:=za h;rw[<-ok.sc]at h2;have z':PE X (.Name x p) (wE X.K M E (.var i)):=US (ok.KO h1) (MP h2) (vG h3) (vG h4);exact⟨z',pt_val' z' (fun _=>rfl),fun _ _ _ z=>nomatch z⟩
|.con v,e,X,T,E,ok,h=>by
 obtain⟨h0,h⟩:=band h;revert h;refine Pb e (eq_of_beq h0) ?_;intro _ _ _ h;exact⟨Mp h,iJ,fun _ _ _ z=>nomatch z⟩
|.glo g,e,X,T,E,ok,h=>by
 obtain⟨h0,h⟩:=band h;revert h;refine b9 e (eq_of_beq h0) ?_;intro x p h;obtain⟨⟨h1,h2⟩,h3⟩:=pY h;exact⟨WY ok (of_decide_eq_true h1) (ok.kE h2) (vG h3),iJ,fun _ _ _ z=>nomatch z⟩
|.bin op a b,e,X,T,E,ok,h=>by
 obtain⟨h0,h⟩:=band h;revert h;refine Ua e (eq_of_beq h0) ?_;intro l o r p h;obtain⟨⟨h1,h2⟩,h3⟩:=pY h;have e:=of_decide_eq_true h1;subst e;exact⟨Yr (YJ op) (dc a l ok h2).1 (dc b r ok h3).1,iJ,fun _ _ _ z=>nomatch z⟩
|.nset a,e,X,T,E,ok,h=>by
 obtain⟨h0,h⟩:=band h;obtain⟨hf,h⟩:=band h;obtain⟨ha,h⟩:=band h;revert hf ha h;refine eN e (eq_of_beq h0) ?_;intro fn es kw p hf ha h;revert h;refine b9 fn (eq_of_beq hf) ?_;intro x px h
 match es,ha,h with
 |[],ha,h=>exact no ha
 |_::_::_,ha,h=>exact no ha
 |[c],ha,h=>
  obtain⟨hb,ha⟩:=band ha;revert h ha;refine eN c (eq_of_beq hb) ?_;intro f2 es2 kw2 p2 h ha;revert h;refine b9 f2 (eq_of_beq ha) ?_;intro y py h
  match es2,kw2,kw,h with
  |[],_,_,h=>exact no h
  |_::_::_,_,_,h=>exact no h
  |[_],_::_,_,h=>exact no h
  |[_],[],_::_,h=>exact no h
  |[l],[],[],h=>
   obtain⟨hcm,h⟩:=band h;obtain⟨h,h8⟩:=band h;obtain⟨⟨⟨⟨⟨⟨h1,h2⟩,h3⟩,h4⟩,h5⟩,h6⟩,h7⟩:=KN h;have e1:=of_decide_eq_true h1;have e2:=of_decide_eq_true h4;subst e1 e2;exact⟨UQ (ok.calm hcm) (ok.kE h2) (ok.nO h3) (ok.kE h5) (ok.nO h6) (dc a l ok h8).1 h7,iJ,fun _ _ _ z=>nomatch z⟩
|.neg a,e,X,T,E,ok,h=>by
 obtain⟨h0,h⟩:=band h;revert h;refine zB e (eq_of_beq h0) ?_;intro op l p h;cases op<;>first|exact no h|skip
 exact⟨pe_neg' (dc a l ok h).1,iJ,fun _ _ _ z=>nomatch z⟩
|.not a,e,X,T,E,ok,h=>by
 obtain⟨h0,h⟩:=band h;revert h;refine zB e (eq_of_beq h0) ?_;intro op l p h;cases op<;>first|exact no h|skip
 exact⟨pe_not' (dc a l ok h).1,V3 (dc a l ok h).2.1,fun _ _ _ z=>nomatch z⟩
|.and a b,e,X,T,E,ok,h=>by
 obtain⟨h0,h⟩:=band h;revert h;refine Bd e (eq_of_beq h0) ?_;intro op vs p h;cases op<;>first|exact no h|skip
 match vs,h with
 |[x,y],h=>
  obtain⟨h1,h2⟩:=band h;have w:=pw_and (pos:=p) (dc a x ok h1).2.1 (pw_and1 (dc b y ok h2).2.1);exact⟨pe_and' (dc a x ok h1).1 (Mc (dc b y ok h2).1),w.pt,fun _ _ _ _=>w⟩
 |x::y::z::r,h=>
  obtain⟨h1,h2⟩:=band h;have w:=pw_and (dc a x ok h1).2.1 ((dc b _ ok h2).2.2 _ _ _ rfl);exact⟨pe_and' (dc a x ok h1).1 (dc b _ ok h2).1,w.pt,fun _ _ _ _=>w⟩
 |[],h=>exact no h
 |[x],h=>exact no h
|.or a b,e,X,T,E,ok,h=>by
 obtain⟨h0,h⟩:=band h;revert h;refine Bd e (eq_of_beq h0) ?_;intro op vs p h;cases op<;>first|exact no h|skip
 match vs,h with
 |[x,y],h=>
  obtain⟨h1,h2⟩:=band h;have w:=pw_or (pos:=p) (dc a x ok h1).2.1 (pw_or1 (dc b y ok h2).2.1);exact⟨pe_or' (dc a x ok h1).1 (Mc (dc b y ok h2).1),w.pt,fun _ _ _ _=>w⟩
 |x::y::z::r,h=>
  obtain⟨h1,h2⟩:=band h;have w:=pw_or (dc a x ok h1).2.1 ((dc b _ ok h2).2.2 _ _ _ rfl);exact⟨pe_or' (dc a x ok h1).1 (dc b _ ok h2).1,w.pt,fun _ _ _ _=>w⟩
 |[],h=>exact no h
 |[x],h=>exact no h
|.ite c a b,e,X,T,E,ok,h=>by
 obtain⟨h0,h⟩:=band h;revert h;refine Ub e (eq_of_beq h0) ?_;intro t x y p h;obtain⟨⟨h1,h2⟩,h3⟩:=pY h;exact⟨Pp (dc c t ok h1).2.1 (dc a x ok h2).1 (dc b y ok h3).1,WZ (dc c t ok h1).2.1 (dc a x ok h2).2.1 (dc b y ok h3).2.1,fun _ _ _ z=>nomatch z⟩
|.cmp op a b,e,X,T,E,ok,h=>by
 obtain⟨h0,h⟩:=band h;revert h;refine zC e (eq_of_beq h0) ?_;intro l os rs p h
 match os,rs,h with
 |[o],[r],h=>
  obtain⟨⟨⟨h1,h2⟩,h3⟩,h4⟩:=za h;have e:=of_decide_eq_true h1;subst e;exact⟨Um (yZ ok.room op) (dc a l ok h3).1 (dc b r ok h4).1 (vG h2),pt_cmp' ok.room (dc a l ok h3).1 (dc b r ok h4).1 (vG h2),fun _ _ _ z=>nomatch z⟩
 |[],_,h=>exact no h
 |_::_::_,_,h=>exact no h
 |[_],[],h=>exact no h
 |[_],_::_::_,h=>exact no h
|.chain o1 o2 a b c,e,X,T,E,ok,h=>by
 obtain⟨h0,h⟩:=band h;revert h;refine zC e (eq_of_beq h0) ?_;intro l os rs p h
 match os,rs,h with
 |[p1,p2],[m,r],h=>
  obtain⟨⟨⟨⟨⟨h1,h2⟩,h3⟩,h4⟩,h5⟩,h6⟩:=pZ h;have e1:=of_decide_eq_true h1;have e2:=of_decide_eq_true h2;subst e1 e2;exact⟨pe_chain' ok.room (dc a l ok h4).1 (dc b m ok h5).1 (dc c r ok h6).1 (vG h3),pt_chain' ok.room (dc a l ok h4).1 (dc b m ok h5).1 (dc c r ok h6).1 (vG h3),fun _ _ _ z=>nomatch z⟩
 |[],_,h=>exact no h
 |[_],_,h=>exact no h
 |_::_::_::_,_,h=>exact no h
 |[_,_],[],h=>exact no h
 |[_,_],[_],h=>exact no h
 |[_,_],_::_::_::_,h=>exact no h
|.call g as,e,X,T,E,ok,h=>by
 obtain⟨h0,h⟩:=band h;obtain⟨hf,h⟩:=band h;revert hf h;refine eN e (eq_of_beq h0) ?_;intro f es kw p hf h;revert h;refine b9 f (eq_of_beq hf) ?_;intro x px h;cases kw<;>first|exact no h|skip
 obtain⟨⟨⟨⟨h1,h2⟩,h3⟩,h4⟩,h5⟩:=Fw h;have z':PE X (.Call (.Name x px) es [] p) (wE X.K M E (.call g as)):=YV ok (of_decide_eq_true h1) (ok.kE h2) (vG h3) (vH as es ok h4 h5) (Tp as es h5) h4;exact⟨z',UU ok z' (fun _=>rfl),fun _ _ _ z=>nomatch z⟩
|.blt f as,e,X,T,E,ok,h=>by
 obtain⟨h0,h⟩:=band h;obtain⟨hf,h⟩:=band h;revert hf h;refine eN e (eq_of_beq h0) ?_;intro fn es kw p hf h;revert h;refine b9 fn (eq_of_beq hf) ?_;intro x px h;cases kw<;>first|exact no h|skip
 obtain⟨hcm,h⟩:=band h;obtain⟨⟨⟨⟨⟨h1,h2⟩,h3⟩,h4⟩,h5⟩,h6⟩:=pZ h;cases es with
 |nil=>exact no h5
 |cons e er=>
  have z':PE X (.Call (.Name x px) (e::er) [] p) (wE X.K M E (.blt f as)):=WR (ok.calm hcm) ok.room (ok.kE h2) (of_decide_eq_true h1) (ok.nO h3) (vH as _ ok h4 h6) h4;exact⟨z',pt_val' z' (fun _=>rfl),fun _ _ _ z=>nomatch z⟩
|.isi a t,e,X,T,E,ok,h=>by
 obtain⟨h0,h⟩:=band h;obtain⟨hf,h⟩:=band h;by_cases ht:t=.none
 ·subst ht;rw[if_pos rfl]at h;revert hf h;refine eN e (eq_of_beq h0) ?_;intro fn es kw p hf h;revert h;refine b9 fn (eq_of_beq hf) ?_;intro x px h
  match es,h with
  |[],h=>exact no h
  |[_],h=>exact no h
  |_::_::_::_,h=>exact no h
  |[l,c],h=>
   cases kw<;>first|exact no h|skip
   obtain⟨⟨⟨⟨⟨h1,h2⟩,h3⟩,h4⟩,h5⟩,h6⟩:=pZ h;obtain⟨hc,h4⟩:=band h4;revert h4;refine oQ c (eq_of_beq hc) ?_;intro ns kk tpos h4;split at h4
   ·rename_i y q1 z q2 _ _ e;cases e;obtain⟨⟨⟨⟨⟨k1,k2⟩,k3⟩,k4⟩,k5⟩,k6⟩:=pZ h4;obtain rfl:=of_decide_eq_true k1;obtain rfl:=of_decide_eq_true k4;have z':PE X (.Call (.Name x px) [l,.Tuple [.Name "list" q1,.Name "tuple" q2] kk tpos] [] p) (wE X.K M E (.isi a .none)):=WT (ok.kE h2) (of_decide_eq_true h1) (ok.nO h3) (ok.kE k2) (ok.nO k3) (ok.kE k5) (ok.nO k6) (dc a l ok h6).1 h5;exact⟨z',pt_val' z' (fun _=>rfl),fun _ _ _ z=>nomatch z⟩
   ·exact no h4
 rw[if_neg ht]at h;obtain⟨ha,h⟩:=band h;revert hf ha h;refine eN e (eq_of_beq h0) ?_;intro fn es kw p hf ha h;revert h;refine b9 fn (eq_of_beq hf) ?_;intro x px h
 match es,ha,h with
 |[],ha,h=>exact no ha
 |[_],ha,h=>exact no ha
 |_::_::_::_,ha,h=>exact no ha
 |[l,c],ha,h=>
  revert h;refine b9 c (eq_of_beq ha) ?_;intro y py h;cases kw<;>first|exact no h|skip
  obtain⟨⟨⟨⟨⟨⟨⟨⟨h1,h2⟩,h3⟩,h4⟩,h5⟩,h6⟩,h7⟩,h8⟩,h9⟩:=YU h;have z':PE X (.Call (.Name x px) [l,.Name y py] [] p) (wE X.K M E (.isi a t)):=WQ (ok.kE h2) (of_decide_eq_true h1) (ok.nO h3) (ok.kE h6) (of_decide_eq_true h4) (of_decide_eq_true h5) (ok.nO h7) (dc a l ok h9).1 h8;exact⟨z',pt_val' z' (fun _=>rfl),fun _ _ _ z=>nomatch z⟩
|.mth m o as,e,X,T,E,ok,h=>by
 obtain⟨h0,h⟩:=band h;obtain⟨hf,h⟩:=band h;revert hf h;refine eN e (eq_of_beq h0) ?_;intro fn es kw p hf h;revert h;refine L1 fn (eq_of_beq hf) ?_;intro l nm ap h;cases kw<;>first|exact no h|skip
 obtain⟨⟨⟨⟨⟨⟨h1,h2⟩,h3⟩,h4⟩,h5⟩,h6⟩,h7⟩:=KN h;have e:=of_decide_eq_true h1;subst e;have ho:=(dc o l ok h6).1;have ha:=vH as es ok h4 h7;cases es with
 |nil=>
  have q:=Tp (X:=X) (M:=M) (E:=E) as [] h7 rfl;have z:=UO ok.room (m:=m) (apos:=ap) (cpos:=p) ho h2 h3;have z':PE X (.Call (.Attribute l m.name ap) [] [] p) (wE X.K M E (.mth m o as)):=by
   show PE X _ (fun O H Q=>wE X.K M E o O H fun x H1=>tG m x H1/\wEs X.K M E as O H1 fun vs H2=>vv X.K m x vs H2 Q);rw[q];exact z
  exact⟨z',pt_val' z' (fun _=>rfl),fun _ _ _ z=>nomatch z⟩
 |cons e er=>
  have z':PE X (.Call (.Attribute l m.name ap) (e::er) [] p) (wE X.K M E (.mth m o as)):=WO ok.room ho ha h2 h3 h4 (of_decide_eq_true h5);exact⟨z',pt_val' z' (fun _=>rfl),fun _ _ _ z=>nomatch z⟩
|.ix a b,e,X,T,E,ok,h=>by
 obtain⟨h0,h⟩:=band h;revert h;refine kC e (eq_of_beq h0) ?_;intro l r p h;obtain⟨⟨h1,h2⟩,h3⟩:=pY h;have z':PE X (.Subscript l r p) (wE X.K M E (.ix a b)):=Yy (ixOk ok.room) (dc a l ok h2).1 (dc b r ok h3).1 (KL h1);exact⟨z',pt_val' z' (fun _=>rfl),fun _ _ _ z=>nomatch z⟩
|.sl a lo hi,e,X,T,E,ok,h=>by
 obtain⟨h0,h⟩:=band h;obtain⟨hf,h⟩:=band h;revert hf h;refine kC e (eq_of_beq h0) ?_;intro l r p hf h;revert h;refine Uc r (eq_of_beq hf) ?_;intro x y st ps h;cases st<;>first|exact no h|skip
 obtain⟨⟨h1,h2⟩,h3⟩:=pY h;exact⟨PK slOk (dc a l ok h1).1 (Tq lo x ok h2) (Tq hi y ok h3),iJ,fun _ _ _ z=>nomatch z⟩
|.lst as,e,X,T,E,ok,h=>by
 obtain⟨h0,h⟩:=band h;revert h;refine VS e (eq_of_beq h0) ?_;intro _ _ h;obtain⟨h1,h2⟩:=band h;exact⟨Wr (vH as _ ok h1 h2),iJ,fun _ _ _ z=>nomatch z⟩
|.tup as,e,X,T,E,ok,h=>by
 obtain⟨h0,h⟩:=band h;revert h;refine oQ e (eq_of_beq h0) ?_;intro _ _ _ h;obtain⟨h1,h2⟩:=band h;exact⟨Wq (vH as _ ok h1 h2),iJ,fun _ _ _ z=>nomatch z⟩
|.fst ps,e,X,T,E,ok,h=>by
 obtain⟨h0,h⟩:=band h;revert h;refine L4 e (eq_of_beq h0) ?_;intro _ _ h;obtain⟨h1,h2⟩:=band h;exact⟨WU ok (fun z=>by rw[z]at h1;cases h1) h2,iJ,fun _ _ _ z=>nomatch z⟩
|.comp nl fr elt tg src cond,e,X,T,E,ok,h=>by
 obtain⟨h0,h⟩:=band h;revert h;refine yQ e (eq_of_beq h0) ?_;intro l gs sc p h
 match gs,h with
 |[],h=>exact no h
 |⟨_,_,_,.ofNat 0⟩::_::_,h=>exact no h
 |⟨_,_,_,.ofNat (n+1)⟩::_,h=>exact no h
 |⟨_,_,_,.negSucc n⟩::_,h=>exact no h
 |[⟨t,it,ifs,.ofNat 0⟩],h=>
  obtain⟨hcm,h⟩:=band h;obtain⟨⟨⟨⟨⟨h2,h3⟩,h4⟩,h5⟩,h6⟩,h7⟩:=pZ h;obtain⟨h3,h3'⟩:=band h3;exact⟨UM (ok.calm hcm) (ok.BB h2) (W0 src it h3' ok h4) (xB h3) (fun C aa9 H ex=>JA tg t (o6 ok h2 C aa9 H ex) h5) (fun C aa9 H ex=>ZD cond ifs (o6 ok h2 C aa9 H ex) h6)
   (fun C aa9 H ex=>(dc elt l (o6 ok h2 C aa9 H ex) h7).1),iJ,fun _ _ _ z=>nomatch z⟩
|.slp a lo hi k,e,X,T,E,ok,h=>by
 cases e<;>first|exact no h|skip
 rename_i l r p;cases r<;>first|exact no h|skip
 rename_i x y st p2;cases st<;>first|exact no h|skip
 rename_i st;cases st<;>first|exact no h|skip
 rename_i c j kp
 ·skip
  obtain⟨⟨⟨h1,h2⟩,h3⟩,h4⟩:=za h;cases c<;>first|exact no h1|skip
  have e:=of_decide_eq_true h1;subst e;exact⟨WI (dc a l ok h2).1 (Tq lo x ok h3) (Tq hi y ok h4),iJ,fun _ _ _ z=>nomatch z⟩
theorem vH:∀(cs:i9) (es:List Expr) {X:Cx}{T:Tab}{E:XK},Ok X T M E->bO es=true->mK T cs es=true->PA X es (wEs X.K M E cs)
|.nil,es,X,T,E,ok,hs,h=>by
 cases es with
 |nil=>exact Mr
 |cons e er=>exact no h
|.cons a r,es,X,T,E,ok,hs,h=>by
 cases es with
 |nil=>exact no h
 |cons e er=>
  obtain⟨h1,h2⟩:=band h;have hs':noStar e=true/\bO er=true:=by simpa[bO]using hs
  exact Jk (dc a e ok h1).1 (vH r er ok hs'.2 h2) (fL hs'.1)
theorem Tq:∀(c:CO) (e:Option Expr) {X:Cx}{T:Tab}{E:XK},Ok X T M E->Gk T c e=true->PO X e (wO X.K M E c)
|.none,e,X,T,E,ok,h=>by
 cases e with
 |none=>exact Us
 |some x=>exact no h
|.some a,e,X,T,E,ok,h=>by
 cases e with
 |none=>exact no h
 |some x=>exact po_some' (dc a x ok h).1
theorem ZD:∀(c:CO) (es:List Expr) {X:Cx}{T:Tab}{E:XK},Ok X T M E->WL T c es=true->Jv X es (wC X.K M E c)
|.none,es,X,T,E,ok,h=>by
 cases es with
 |nil=>exact UK
 |cons x r=>exact no h
|.some a,es,X,T,E,ok,h=>by
 match es,h with
 |[x],h=>exact UL (dc a x ok h).2.1
 |[],h=>exact no h
 |_::_::_,h=>exact no h
theorem JA:∀(c:CG) (e:Expr) {X:Cx}{T:Tab}{E:XK},Ok X T M E->AA T c e=true->PG X e (wG X.K M E c)
|.name i,e,X,T,E,ok,h=>by
 obtain⟨h0,h⟩:=band h;revert h;refine b9 e (eq_of_beq h0) ?_;intro _ _ h;obtain⟨h1,h2⟩:=band h;exact UT ok (ok.KO h1) h2
|.tup gs,e,X,T,E,ok,h=>by
 obtain⟨h0,h⟩:=band h;revert h;refine oQ e (eq_of_beq h0) ?_;intro _ _ _ h;obtain⟨hcm,h⟩:=band h;obtain⟨h1,h2⟩:=band h;exact pg_tup' (ok.calm hcm) (W5 gs _ ok h1 h2) (To gs _ h2) h1
|.sub o i,e,X,T,E,ok,h=>by
 obtain⟨h0,h⟩:=band h;revert h;refine kC e (eq_of_beq h0) ?_;intro _ _ _ h;obtain⟨⟨h1,h2⟩,h3⟩:=pY h;exact pg_sub' ok.room h1 (dc o _ ok h2).1 (dc i _ ok h3).1
theorem W5:∀(cs:qh) (es:List Expr) {X:Cx}{T:Tab}{E:XK},Ok X T M E->bO es=true->Ft T cs es=true->Bh X es (Jr X.K M E cs)
|.nil,es,X,T,E,ok,hs,h=>by
 cases es with
 |nil=>exact pgs_nil'
 |cons e er=>exact no h
|.cons g r,es,X,T,E,ok,hs,h=>by
 cases es with
 |nil=>exact no h
 |cons e er=>
  obtain⟨h1,h2⟩:=band h;have hs':noStar e=true/\bO er=true:=by simpa[bO]using hs
  exact pgs_cons' (JA g e ok h1) (W5 r er ok hs'.2 h2) hs'.1
theorem W0:∀(c:CI) (e:Expr) {tg:Expr}{X:Cx}{T:Tab}{E:XK},Qk c tg=true->Ok X T M E->Qm T c e=true->D3 X tg e (wI X.K M E c)
|.seq a,e,tg,X,T,E,_,ok,h=>UJ (dc a e ok h).1
|.range as,e,tg,X,T,E,_,ok,h=>by
 obtain⟨h0,h⟩:=band h;obtain⟨hf,h⟩:=band h;revert hf h;refine eN e (eq_of_beq h0) ?_;intro fn es kw p hf h;revert h;refine b9 fn (eq_of_beq hf) ?_;intro x px h;cases kw<;>first|exact no h|skip
 ·skip
  obtain⟨⟨⟨⟨⟨h1,h2⟩,h3⟩,h4⟩,h5⟩,h6⟩:=pZ h;have e:=of_decide_eq_true h1;subst e;cases es with
  |nil=>exact no h5
  |cons e er=>
   have hs':noStar e=true/\bO er=true:=by simpa[bO]using h4
   exact ML (ok.kE h2) (ok.nO h3) (vH as _ ok h4 h6) (fL hs'.1) (o7 hs'.2)
|.zip as,e,tg,X,T,E,tb,ok,h=>by
 cases tg<;>first|exact no tb|skip
 obtain⟨h0,h⟩:=band h;obtain⟨hf,h⟩:=band h;revert hf h;refine eN e (eq_of_beq h0) ?_;intro fn es kw p hf h;revert h;refine b9 fn (eq_of_beq hf) ?_;intro x px h;cases kw<;>first|exact no h|skip
 obtain⟨⟨⟨⟨⟨h1,h2⟩,h3⟩,h4⟩,h5⟩,h6⟩:=pZ h;have e:=of_decide_eq_true h1;subst e;cases es with
 |nil=>exact no h5
 |cons e er=>
  have hs':noStar e=true/\bO er=true:=by simpa[bO]using h4
  exact UR (ok.kE h2) (ok.nO h3) (vH as _ ok h4 h6) hs'.1 hs'.2
|.enum a,e,tg,X,T,E,tb,ok,h=>by
 cases tg<;>first|exact no tb|skip
 obtain⟨h0,h⟩:=band h;obtain⟨hf,h⟩:=band h;revert hf h;refine eN e (eq_of_beq h0) ?_;intro fn es kw p hf h;revert h;refine b9 fn (eq_of_beq hf) ?_;intro x px h
 match es,h with
 |[],h=>exact no h
 |_::_::_,h=>exact no h
 |[l],h=>
  cases kw<;>first|exact no h|skip
  obtain⟨⟨⟨⟨h1,h2⟩,h3⟩,h4⟩,h5⟩:=Fw h;have e:=of_decide_eq_true h1;subst e;exact Qg (ok.kE h2) (ok.nO h3) (dc a l ok h5).1 (by rw[fL h4];rfl)
end
end
theorem UW{l:Expr}{gs:List Comprehension}{vpos:Pos}(hk:env.scope.kind=.function)(h:Fq env.scope sc y py vpos=true):nH (.ListComp l gs sc vpos) (some (.Name y py)) n env=pure true:=by
 unfold Fq at h;simp only[bR,decide_eq_true_eq]at h;obtain⟨⟨h1,h2⟩,h3⟩:=h;have hb:env.blockKind=.function:=by
  unfold Env.blockKind;rw[hk];rfl
 show pure (env.blockKind==.function&&env.kindOf y==some .local&&py.line==vpos.line&&!(sc.names.any fun(n,k)=>n==y&&(k==.local||k==.cell)))=pure true;have e1:(env.blockKind==Pc)=true:=by rw[hb];rfl
 have e2:(env.kindOf y==some NameKind.local)=true:=by
  have:env.kindOf y=some .local:=h1;rw[this];rfl
 have e3:(py.line==vpos.line)=true:=by rw[h2];simp
 rw[e1,e2,e3,h3];rfl
variable{t:Expr}
theorem xC(h:notTuple t=true\/notTuple e=true):wQ [t] e env=pure none:=by
 unfold wQ;rcases h with h|h
 ·cases t<;>first|rfl|exact no h
 ·cases t<;>first|rfl|(cases e<;>first|rfl|exact no h)
theorem D6(h:rW e=true):wN [t] e n env=pure false:=BA h
theorem Qt(hs:env.scope=sc)(h:(rW e||Ql sc t)=true):wN [t] e n env=pure false:=by
 rcases Bool.or_eq_true_iff.mp h with h|h
 ·exact D6 h
 ·subst hs;show nH e (some t) n env=pure false;unfold nH;split
  ·cases t with
   |Name y p=>
    have e2:(env.kindOf y==some NameKind.local)=false:=by
     have:¬env.scope.names.lookup y=some .local:=by simpa[Ql]using h
     exact beq_eq_false_iff_ne.mpr this
    simp only[e2,vc,Du]
   |_=>rfl
  ·rfl
structure W6 (X:Cx) (T:Tab) (M:List G) (E:XK):Prop extends Ok X T M E where
 rz:T.calm=true->∃X0:Cx,X=X0.jk (ug X0 E)/\X.stack=X.env::X.outer/\X.env.frame=some X.env.locals/\X.A.handled=none
theorem Gr{g:CG}(h:AA T g t=true):noStar t=true:=by
 cases g with
 |name i=>exact b9 t (eq_of_beq (band h).1) fun _ _=>rfl
 |tup gs=>exact oQ t (eq_of_beq (band h).1) fun _ _ _=>rfl
 |sub o i=>exact kC t (eq_of_beq (band h).1) fun _ _ _=>rfl
section
mutual
theorem W7:∀{M:List G} (c:CS) (st:Stmt) {X:Cx}{T:Tab}{E:XK},W6 X T M E->KJ T c st=true->PS X st (wS X.K M E c)
|M,.expr c,st,X,T,E,ok,h=>by
 obtain⟨h0,h⟩:=band h;revert h;refine VT st (eq_of_beq h0) ?_;intro _ _ h;obtain⟨h1,h2⟩:=band h;exact Ui (dc c _ ok.toOk h2).1 (BA h1)
|M,.asg g c,st,X,T,E,ok,h=>by
 obtain⟨h0,h⟩:=band h;revert h;refine Be st (eq_of_beq h0) ?_;intro ts e p h
 match ts,h with
 |[],h=>exact no h
 |_::_::_,h=>exact no h
 |[t],h=>
  obtain⟨⟨⟨h1,h2⟩,h3⟩,h4⟩:=za h;exact Me (dc c e ok.toOk h4).1 (JA g t ok.toOk h3) (Qt ok.sc h1) (xC (.inl h2)) (by rw[pW (Gr h3)];rfl)
|M,.tasg g c,st,X,T,E,ok,h=>by
 apply hid (e:=st);intro P zk;cases st<;>first|exact no h|skip
 rename_i ts e p
 match ts,h with
 |[],h=>exact no h
 |_::_::_,h=>exact no h
 |[t],h=>
  obtain⟨⟨⟨h1,h2⟩,h3⟩,h4⟩:=za h;refine zk _ ?_;exact Me (dc c e ok.toOk h4).1 (JA g t ok.toOk h3) (D6 h1) (xC (.inr h2)) (by rw[pW (Gr h3)];rfl)
|M,.aug i c,st,X,T,E,ok,h=>by
 obtain⟨h0,h⟩:=band h;obtain⟨hf,h⟩:=band h;revert hf h;refine L5 st (eq_of_beq h0) ?_;intro t op e p hf h;revert h;refine b9 t (eq_of_beq hf) ?_;intro y py h;cases op<;>first|exact no h|skip
 obtain⟨⟨h1,h2⟩,h3⟩:=pY h;have hl:X.env.scope.names.lookup y=some .local:=by rw[ok.sc];exact of_decide_eq_true h2
 exact V_ ok.nd (ok.toOk.KO h1) (.inl hl) (dc c e ok.toOk h3).1 Wa (.inr hl)
|M,.casg i c,st,X,T,E,ok,h=>by
 obtain⟨h0,h⟩:=band h;obtain⟨hf,h⟩:=band h;revert hf h;refine Be st (eq_of_beq h0) ?_;intro ts e p hf h
 match ts,hf,h with
 |[],hf,h=>exact no hf
 |t::tr,hf,h=>
  obtain⟨hf,hg⟩:=band hf;revert h;refine b9 t (eq_of_beq hf) ?_;intro y py h;cases tr<;>first|exact no h|skip
  revert h;refine yQ e (eq_of_beq hg) ?_;intro l gs sc vpos h;have hcm:=(band h).1;replace h:=(band h).2;obtain⟨⟨h1,h2⟩,h3⟩:=pY h;cases c<;>first|exact no h3|skip
  rename_i nl fr elt tg src cond _ _ _
  match gs,h3 with
  |[],h=>exact no h
  |⟨_,_,_,.ofNat 0⟩::_::_,h=>exact no h
  |⟨_,_,_,.ofNat (n+1)⟩::_,h=>exact no h
  |⟨_,_,_,.negSucc n⟩::_,h=>exact no h
  |[⟨t,it,ifs,.ofNat 0⟩],h3=>
   replace h3:=(band (band h3).2).2;obtain⟨⟨⟨⟨⟨k2,k3⟩,k4⟩,k5⟩,k6⟩,k7⟩:=pZ h3;obtain⟨k3,k3'⟩:=band k3;have hl:X.env.scope.names.lookup y=some .local:=by
    unfold Fq at h2;simp only[bR,decide_eq_true_eq]at h2;rw[ok.sc];exact h2.1.1
   exact UN (ok.calm hcm) ok.nd (ok.toOk.KO h1) hl (ok.toOk.BB k2) (W0 src it k3' ok.toOk k4) (xB k3) (UW ok.kind (by rw[ok.sc];exact h2)) (fun C aa9 H ex=>JA tg t (o6 ok.toOk k2 C aa9 H ex) k5) (fun C aa9 H ex=>ZD cond ifs (o6 ok.toOk k2 C aa9 H ex) k6)
    (fun C aa9 H ex=>(dc elt _ (o6 ok.toOk k2 C aa9 H ex) k7).1)
|M,.ret c,st,X,T,E,ok,h=>by
 obtain⟨h0,h⟩:=band h;revert h;refine S1 st (eq_of_beq h0) ?_;intro e p h;cases e<;>first|exact no h|skip
 ·exact V5 (dc c _ ok.toOk h).1
|M,.ifs c a b,st,X,T,E,ok,h=>by
 obtain⟨h0,h⟩:=band h;revert h;refine Yc st (eq_of_beq h0) ?_;intro _ _ _ _ h;obtain⟨⟨h1,h2⟩,h3⟩:=pY h;exact Yo (dc c _ ok.toOk h1).2.1 (AE a _ ok h2) (AE b _ ok h3)
|M,.whil c b,st,X,T,E,ok,h=>by
 apply hid (e:=st);intro P zk;cases st<;>first|exact no h|skip
 rename_i e x l p;cases l<;>first|exact no h|skip
 ·obtain⟨h1,h2⟩:=band h;refine zk _ ?_;exact Py ok.po (dc c _ ok.toOk h1).2.1 (AE b _ ok h2)
|M,.forr g src b,st,X,T,E,ok,h=>by
 obtain⟨h0,h⟩:=band h;revert h;refine VU st (eq_of_beq h0) ?_;intro t it x l p h;cases l<;>first|exact no h|skip
 ·obtain⟨hcm,h⟩:=band h;obtain⟨⟨⟨⟨h1,h1'⟩,h2⟩,h3⟩,h4⟩:=Fw h;exact YN ok.po (ok.calm hcm) (W0 src _ h1' ok.toOk h2) (JA g _ ok.toOk h3) (AE b _ ok h4) (xB h1)
|M,.brk,st,X,T,E,ok,h=>by
 obtain⟨h0,h⟩:=band h;revert h;refine Ud st (eq_of_beq h0) ?_;intro _ h;exact Pq
|M,.cont,st,X,T,E,ok,h=>by
 obtain⟨h0,h⟩:=band h;revert h;refine Pd st (eq_of_beq h0) ?_;intro _ h;exact Ip
|M,.never,st,X,T,E,ok,h=>Pr
|M,.rais g as,st,X,T,E,ok,h=>by
 obtain⟨h0,h⟩:=band h;obtain⟨hf,h⟩:=band h;revert hf h;refine Ue st (eq_of_beq h0) ?_;intro e f p hf h;cases e with
 |none=>exact no hf
 |some e=>
 obtain⟨hf,hg⟩:=band hf;revert h hg;refine eN e (eq_of_beq hf) ?_;intro fn es kw pc h hg;revert h;refine b9 fn (eq_of_beq hg) ?_;intro x px h;cases kw<;>first|exact no h|skip
 cases f<;>first|exact no h|skip
 ·skip
  obtain⟨hcm,h⟩:=band h;obtain⟨⟨⟨⟨⟨h1,h2⟩,h3⟩,h4⟩,h5⟩,h6⟩:=pZ h;cases es with
  |nil=>exact no h5
  |cons e er=>
   have hs':noStar e=true/\bO er=true:=by simpa[bO]using h4
   intro pins s O H D I q;replace q:(match M[g]? with
    |some (.cls C fs n)=>xq C fs n (wEs X.K M E as) E D O H
    |_=>False):=q
   split at q
   ·rename_i C fs n e1;obtain⟨hm,k,hr,fI,fd,ps,c1,c2,c3,c4,c5,rfl⟩:=ok.gl g x _ (of_decide_eq_true h1) e1;obtain⟨X0,eX,hst,hf,hh⟩:=ok.rz hcm;have pa:=vH as (e::er) ok.toOk h4 h6;have gl:=ok.toOk.kE h2;subst eX;exact PX (X:=X0) c1 c2 hr hh c3 c4 c5 gl hm pa (vG h3) (fL hs'.1) (o7 hs'.2) pins s O H D I q
   ·exact q.elim
theorem AE:∀{M:List G} (cs:b6) (sts:List Stmt) {X:Cx}{T:Tab}{E:XK},W6 X T M E->pV T cs sts=true->oU X sts (wSs X.K M E cs)
|M,.nil,sts,X,T,E,ok,h=>by
 cases sts with
 |nil=>exact Jh
 |cons s r=>exact no h
|M,.cons c r,sts,X,T,E,ok,h=>by
 cases sts with
 |nil=>exact no h
 |cons s sr=>
  obtain⟨h1,h2⟩:=band h;exact vp (W7 c s ok h1) (AE r sr ok h2)
|M,.two c d r,sts,X,T,E,ok,h=>by
 cases sts with
 |nil=>exact no h
 |cons s sr=>
  cases sr with
  |nil=>exact no h
  |cons s' sr=>
   obtain⟨h1,h2⟩:=band h;obtain⟨h2,h3⟩:=band h2;exact vp (W7 c s ok h1) (vp (W7 d s' ok h2) (AE r sr ok h3))
end
end
def Gs(P:bq)(w:bH)(K:PySem.W.Frag)(mg:Str->Option Value)(base:Heap)(k:Nat)(x:Str):G->Prop
|.val v=>∃u,mg x=some u/\RelV v u
|.tup a xs=>mg x=some (.ref a)/\DY K a true xs
|.fn sp dvs=>∃(f:Addr) (fd:fJ) (ps:List Str) (ds:List Value),fH P w K mg base (jQ P w) k f fd ps sp/\mg x=some (.ref f)/\PySem.W.keepIn K (.ref f)=true/\Binds K fd ps ds/\bw dvs ds
|.cls C fs n=>mg x=some (.ref C)/\∃j,j+1<=k/\Fv P w K mg base j C fs n
|.nop=>True
def AF(P:bq)(w:bH)(K:PySem.W.Frag)(mg:Str->Option Value)(base:Heap)(k:Nat):List Str->List G->Prop
|x::xs,g::gs=>Gs P w K mg base k x g/\AF P w K mg base k xs gs
|_,_=>True
theorem AF.get{mg:Str->Option Value}{base:Heap}:∀{xs:List Str}{gs:List G},AF P w K mg base k xs gs->∀(i:Nat) x g,xs[i]?=some x->gs[i]?=some g->Gs P w K mg base k x g
|[],_,_,i,x,g,h,_=>by simp at h
|_::_,[],_,i,x,g,_,h=>by simp at h
|x::xs,g::gs,a,0,y,g',h1,h2=>by
 simp at h1 h2;subst h1 h2;exact a.1
|x::xs,g::gs,a,i+1,y,g',h1,h2=>AF.get a.2 i y g' (by simpa using h1) (by simpa using h2)
variable{qual:Str}{st:Stmt}{f:Addr}{fd:fJ}{ps:List Str}{sp:Sp}
section
variable{P:bq}{w:bH}{K:PySem.W.Frag}{mg:Str->Option Value}{base:Heap}
theorem qV.okE(F:qV K x qual st f fd)(S:lC N ps (bZ st))(len:∀vs H Q E,sp vs H Q E->vs.length=ps.length)
  (hbody:∀(cdv:Value) (A:cC) (outer:List Env) (s:ai) (H:Hp) (vs:List V) (Q:VK) (E:XK),gO k (A.deeper (jh qual (bZ st) s.heap.objs.size f cdv))->sp vs H Q E->
   ∃t,oU ((kr (jQ P w) P w K mg base N qual (bZ st) f cdv A outer s H E).jk (ug (kr (jQ P w) P w K mg base N qual (bZ st) f cdv A outer s H E) E)) (fZ st) t/\t { nx:=fun _ H'=>Q .non H',rt:=Q } (start N vs) H):fH P w K mg base (jQ P w) (k+1) f fd ps sp:=by
 obtain⟨oc,od,kV,doc,pm,an,cdv,ct,osl,rfl,lk,hcd⟩:=F.ex;refine S6 lk hcd S len fun A outer s H vs Q E hr hsp=>?_;obtain⟨t,h,q⟩:=hbody cdv A outer s H vs Q E hr hsp;exact⟨t,WA h,q⟩
theorem W8{gl bn:List Str}(c:b6)(F:qV K x qual st f fd)(S:lC N ps (bZ st))(hc:pV ⟨N,bZ st,gl,bn,(fun _=>true),true⟩ c (fZ st)=true)
  (hg:AF P w K mg base k gl M) (hb:∀x∈bn,mg x=none) (len:∀vs H Q E,sp vs H Q E->vs.length=ps.length)
  (h:∀vs H Q E,sp vs H Q E->wSs K M E c { nx:=fun _ H'=>Q .non H',rt:=Q } (start N vs) H):fH P w K mg base (jQ P w) (k+1) f fd ps sp:=by
 refine qV.okE F S len fun cdv A outer s H vs Q E hr hsp=>⟨wSs K M E c,?_,h vs H Q E hsp⟩;have ok:W6 ((kr (jQ P w) P w K mg base N qual (bZ st) f cdv A outer s H E).jk (ug (kr (jQ P w) P w K mg base N qual (bZ st) f cdv A outer s H E) E)) ⟨N,bZ st,gl,bn,(fun _=>true),true⟩ M E:=by
  refine⟨⟨rfl,S.nd,rfl,S.kind,fun i x g hx hg'=>?_,hb,fun _ _=>rfl,fun _=>rfl,Ku (X:=kr (jQ P w) P w K mg base N qual (bZ st) f cdv A outer s H E) rfl rfl,by have:=hr.un;show(A.deeper (jh qual (bZ st) s.heap.objs.size f cdv)).units+60<dD;omega⟩,fun _=>⟨_,rfl,rfl,rfl,hr.hd⟩⟩;have q:=hg.get i x g hx hg';cases g with
  |fn sp dvs=>
   obtain⟨f,fd,ps,ds,q1,q2,q3,q4,q5⟩:=q;exact⟨k,f,fd,ps,ds,q1,hr,q2,q3,q4,q5,UA⟩
  |cls C fs n=>
   obtain⟨q1,j,q2,q3⟩:=q;exact⟨q1,j,hr.mono q2,q3⟩
  |_=>exact q
 exact AE c _ ok hc
theorem fH.calm(F:fH P w K mg base (jQ P w) k f fd ps sp):fH P w K mg base zK k f fd ps (fun vs H Q _=>sp vs H Q E0):=
 ⟨fun vs H Q E h=>F.len vs H Q E0 h,fun A outer s H args us vs Q E hr he hb hv hs=>iP (F.run A outer s H args us vs Q E0 hr he hb hv hs) fun r s' q=>by
  cases r with
  |error v=>exact(WN q).elim
  |ok fl=>cases fl<;>exact q⟩
end
end L3
end
section
namespace L3
open PySem L2
theorem ZE(a c:Nat):decide ([c]<[a])=decide (c<a):=by
 rw[LZ,Pe];simp
theorem len_str(x:Str):x.cps.toList.length=x.length:=by simp[fY]
mutual
def bL(K:PySem.W.Frag)(H F:Hp):D->V->List Addr->Prop
|.non,v,fp=>v=.non/\fp=[]
|.bl b,v,fp=>v=.bl b/\fp=[]
|.int i,v,fp=>v=.int i/\fp=[]
|.str x,v,fp=>(v=.str x/\x.length<=aa)/\fp=[]
|.lst o ds,v,fp=>if o=true then ∃a vs fs,v=.ref a/\H a=some (.lst vs)/\vs.length<=aa/\a9 K H F ds vs fs/\fp=a::fs else aZ K F (.lst o ds) v/\fp=[]
|.tup ds,v,fp=>∃a vs,v=.ref a/\F a=some (.tup vs)/\vs.length<=aa/\a9 K H F ds vs fp
|.cst ds,v,fp=>aZ K F (.cst ds) v/\fp=[]
|.exc C ks ds,v,fp=>aZ K F (.exc C ks ds) v/\fp=[]
def a9(K:PySem.W.Frag)(H F:Hp):List D->List V->List Addr->Prop
|[],vs,fp=>vs=[]/\fp=[]
|d::ds,vs,fp=>∃v r f1 f2,vs=v::r/\fp=f1++f2/\bL K H F d v f1/\a9 K H F ds r f2
end
variable{d:D}{v:V}{fp:List Addr}
section
variable{K:PySem.W.Frag}{H H' F F':Hp}
theorem eE.same'{a:Addr}{t:Bool}{xs:List V}(e:a6 H H')(h:eE K H a t xs):eE K H' a t xs:=by
 rcases h with h|h
 ·refine .inl ?_;unfold CM at h ⊢;cases q:H a with
  |none=>rw[q]at h;cases h
  |some o=>rw[q]at h;rw[e a o q];exact h
 ·exact .inr h
theorem Rd.same{a:Addr}{u:HO}(e:a6 H H')(h:Rd H a u):Rd H' a u:=by
 rcases h with h|⟨o,h⟩
 ·exact .inl (e _ _ h)
 ·exact .inr ⟨o,e _ _ h⟩
theorem Rd.seq{a:Addr}{xs:List V}(h:Rd H a (.lst xs)):eE K H a false xs:=by
 refine .inl ?_;unfold CM;rcases h with h|⟨o,h⟩<;>rw[h]
mutual
theorem aZ.mono(e:a6 H H'):∀(d:D) (v:V),aZ K H d v->aZ K H' d v
|.non,v,h=>h
|.bl b,v,h=>h
|.int i,v,h=>h
|.str x,v,h=>h
|.lst o ds,v,h=>by
 obtain⟨a,vs,h1,h2,h3,h4⟩:=h;exact⟨a,vs,h1,Rd.same e h2,h3,aM.mono e ds vs h4⟩
|.tup ds,v,h=>by
 obtain⟨a,vs,h1,h2,h3,h4⟩:=h;exact⟨a,vs,h1,e _ _ h2,h3,aM.mono e ds vs h4⟩
|.cst ds,v,h=>by
 obtain⟨a,vs,h1,h2,h3,h4⟩:=h;exact⟨a,vs,h1,h2,h3,aM.mono e ds vs h4⟩
|.exc C ks ds,v,h=>by
 obtain⟨a,d,vs,h1,h2,h3,h4⟩:=h;exact⟨a,d,vs,h1,e _ _ h2,e _ _ h3,aM.mono e ds vs h4⟩
theorem aM.mono(e:a6 H H'):∀(ds:List D) (vs:List V),aM K H ds vs->aM K H' ds vs
|[],vs,h=>h
|d::ds,vs,h=>by
 obtain⟨v,r,h1,h2,h3⟩:=h;exact⟨v,r,h1,aZ.mono e d v h2,aM.mono e ds r h3⟩
end
mutual
theorem aZ.bh:∀(d:D) (v:V),aZ K F (bh d) v↔aZ K F d v
|.non,v=>zu
|.bl b,v=>zu
|.int i,v=>zu
|.str x,v=>zu
|.lst o ds,v=>by
 constructor
 ·rintro⟨a,vs,h1,h2,h3,h4⟩;exact⟨a,vs,h1,h2,h3,(aM.aD ds vs).mp h4⟩
 ·rintro⟨a,vs,h1,h2,h3,h4⟩;exact⟨a,vs,h1,h2,h3,(aM.aD ds vs).mpr h4⟩
|.tup ds,v=>by
 constructor
 ·rintro⟨a,vs,h1,h2,h3,h4⟩;exact⟨a,vs,h1,h2,h3,(aM.aD ds vs).mp h4⟩
 ·rintro⟨a,vs,h1,h2,h3,h4⟩;exact⟨a,vs,h1,h2,h3,(aM.aD ds vs).mpr h4⟩
|.cst ds,v=>by
 constructor
 ·rintro⟨a,vs,h1,h2,h3,h4⟩;exact⟨a,vs,h1,h2,h3,(aM.aD ds vs).mp h4⟩
 ·rintro⟨a,vs,h1,h2,h3,h4⟩;exact⟨a,vs,h1,h2,h3,(aM.aD ds vs).mpr h4⟩
|.exc C ks ds,v=>by
 constructor
 ·rintro⟨a,d,vs,h1,h2,h3,h4⟩;exact⟨a,d,vs,h1,h2,h3,(aM.aD ds vs).mp h4⟩
 ·rintro⟨a,d,vs,h1,h2,h3,h4⟩;exact⟨a,d,vs,h1,h2,h3,(aM.aD ds vs).mpr h4⟩
theorem aM.aD:∀(ds:List D) (vs:List V),aM K F (aD ds) vs↔aM K F ds vs
|[],vs=>zu
|d::ds,vs=>by
 constructor
 ·rintro⟨v,r,h1,h2,h3⟩;exact⟨v,r,h1,(aZ.bh d v).mp h2,(aM.aD ds r).mp h3⟩
 ·rintro⟨v,r,h1,h2,h3⟩;exact⟨v,r,h1,(aZ.bh d v).mpr h2,(aM.aD ds r).mpr h3⟩
end
mutual
theorem aZ.zP:∀(d:D) (v:V),aZ K F d v->bL K H F (bh d) v []
|.non,v,h=>⟨h,rfl⟩
|.bl b,v,h=>⟨h,rfl⟩
|.int i,v,h=>⟨h,rfl⟩
|.str x,v,h=>⟨h,rfl⟩
|.lst o ds,v,h=>⟨(aZ.bh (.lst o ds) v).mpr h,rfl⟩
|.tup ds,v,h=>by
 obtain⟨a,vs,h1,h2,h3,h4⟩:=h;exact⟨a,vs,h1,h2,h3,aM.zP ds vs h4⟩
|.cst ds,v,h=>⟨(aZ.bh (.cst ds) v).mpr h,rfl⟩
|.exc C ks ds,v,h=>⟨(aZ.bh (.exc C ks ds) v).mpr h,rfl⟩
theorem aM.zP:∀(ds:List D) (vs:List V),aM K F ds vs->a9 K H F (aD ds) vs []
|[],vs,h=>⟨h,rfl⟩
|d::ds,vs,h=>by
 obtain⟨v,r,h1,h2,h3⟩:=h;exact⟨v,r,[],[],h1,rfl,aZ.zP d v h2,aM.zP ds r h3⟩
end
mutual
theorem bL.mono(e:a6 F F'):∀(d:D) (v:V) (fp:List Addr),(∀a∈fp,H' a=H a)->bL K H F d v fp->bL K H' F' d v fp
|.non,v,fp,_,h=>h
|.bl b,v,fp,_,h=>h
|.int i,v,fp,_,h=>h
|.str x,v,fp,_,h=>h
|.lst o ds,v,fp,s,h=>by
 unfold bL at h ⊢;split at h
 ·rename_i ho;rw[if_pos ho];obtain⟨a,vs,fs,h1,h2,h3,h4,rfl⟩:=h;exact⟨a,vs,fs,h1,by rw[s a ay];exact h2,h3,a9.mono e ds vs fs (fun b hb=>s b (aj _ hb)) h4,rfl⟩
 ·rename_i ho;rw[if_neg ho];exact⟨aZ.mono e _ v h.1,h.2⟩
|.tup ds,v,fp,s,h=>by
 obtain⟨a,vs,h1,h2,h3,h4⟩:=h;exact⟨a,vs,h1,e _ _ h2,h3,a9.mono e ds vs fp s h4⟩
|.cst ds,v,fp,s,h=>⟨aZ.mono e _ v h.1,h.2⟩
|.exc C ks ds,v,fp,s,h=>⟨aZ.mono e _ v h.1,h.2⟩
theorem a9.mono(e:a6 F F'):∀(ds:List D) (vs:List V) (fp:List Addr),(∀a∈fp,H' a=H a)->a9 K H F ds vs fp->a9 K H' F' ds vs fp
|[],vs,fp,_,h=>h
|d::ds,vs,fp,s,h=>by
 obtain⟨v,r,f1,f2,h1,rfl,h3,h4⟩:=h;exact⟨v,r,f1,f2,h1,rfl,bL.mono e d v f1 (fun b hb=>s b (aO _ hb)) h3,a9.mono e ds r f2 (fun b hb=>s b (aA _ hb)) h4⟩
end
mutual
theorem bL.fix(e:a6 F F'):∀(d:D) (v:V) (fp:List Addr),(∀a∈fp,F' a=H a)->bL K H F d v fp->aZ K F' d v
|.non,v,fp,_,h=>h.1
|.bl b,v,fp,_,h=>h.1
|.int i,v,fp,_,h=>h.1
|.str x,v,fp,_,h=>h.1
|.lst o ds,v,fp,s,h=>by
 unfold bL at h;split at h
 ·obtain⟨a,vs,fs,h1,h2,h3,h4,rfl⟩:=h;exact⟨a,vs,h1,.inl (by rw[s a ay];exact h2),h3,a9.fix e ds vs fs (fun b hb=>s b (aj _ hb)) h4⟩
 ·exact aZ.mono e _ v h.1
|.tup ds,v,fp,s,h=>by
 obtain⟨a,vs,h1,h2,h3,h4⟩:=h;exact⟨a,vs,h1,e _ _ h2,h3,a9.fix e ds vs fp s h4⟩
|.cst ds,v,fp,s,h=>aZ.mono e _ v h.1
|.exc C ks ds,v,fp,s,h=>aZ.mono e _ v h.1
theorem a9.fix(e:a6 F F'):∀(ds:List D) (vs:List V) (fp:List Addr),(∀a∈fp,F' a=H a)->a9 K H F ds vs fp->aM K F' ds vs
|[],vs,fp,_,h=>h.1
|d::ds,vs,fp,s,h=>by
 obtain⟨v,r,f1,f2,h1,rfl,h3,h4⟩:=h;exact⟨v,r,h1,bL.fix e d v f1 (fun b hb=>s b (aO _ hb)) h3,a9.fix e ds r f2 (fun b hb=>s b (aA _ hb)) h4⟩
end
def Gu:HO->Prop
|.lst _=>True
|.dK _=>True
|.dT _=>True
|_=>False
def Gv(F' F:Hp):Prop:=∀b o,F' b=some o->F b=some o\/Gu o
theorem Gv.tup{a:Addr}{xs:List V}(e:Gv F' F)(h:F' a=some (.tup xs)):F a=some (.tup xs):=by
 rcases e a _ h with z|z
 ·exact z
 ·exact z.elim
mutual
theorem bL.less(e:Gv F' F):∀(d:D) (v:V) (fp:List Addr),aX d=true->bL K H F' d v fp->bL K H F d v fp
|.non,v,fp,_,h=>h
|.bl b,v,fp,_,h=>h
|.int i,v,fp,_,h=>h
|.str x,v,fp,_,h=>h
|.lst o ds,v,fp,s,h=>by
 have s':o=true/\cR ds=true:=by simpa[aX]using s
 unfold bL at h ⊢;rw[if_pos s'.1]at h ⊢;obtain⟨a,vs,fs,h1,h2,h3,h4,rfl⟩:=h;exact⟨a,vs,fs,h1,h2,h3,a9.less e ds vs fs s'.2 h4,rfl⟩
|.tup ds,v,fp,s,h=>by
 obtain⟨a,vs,h1,h2,h3,h4⟩:=h;exact⟨a,vs,h1,e.tup h2,h3,a9.less e ds vs fp s h4⟩
|.cst ds,v,fp,s,h=>by cases s
|.exc C ks ds,v,fp,s,h=>by cases s
theorem a9.less(e:Gv F' F):∀(ds:List D) (vs:List V) (fp:List Addr),cR ds=true->a9 K H F' ds vs fp->a9 K H F ds vs fp
|[],vs,fp,_,h=>h
|d::ds,vs,fp,s,h=>by
 have s':aX d=true/\cR ds=true:=by simpa[cR]using s
 obtain⟨v,r,f1,f2,h1,rfl,h3,h4⟩:=h;exact⟨v,r,f1,f2,h1,rfl,bL.less e d v f1 s'.1 h3,a9.less e ds r f2 s'.2 h4⟩
end
theorem aM.len:∀{ds:List D}{vs:List V},aM K H ds vs->vs.length=ds.length
|[],_,h=>by cases h;rfl
|d::ds,_,h=>by
 obtain⟨v,r,rfl,_,h3⟩:=h;simp[aM.len h3]
theorem a9.len:∀{ds:List D}{vs:List V}{fp:List Addr},a9 K H F ds vs fp->vs.length=ds.length
|[],_,_,h=>by cases h.1;rfl
|d::ds,_,_,h=>by
 obtain⟨v,r,_,_,rfl,_,_,h3⟩:=h;simp[a9.len h3]
theorem aM.get:∀{ds:List D}{vs:List V} (i:Nat) {d:D},aM K H ds vs->ds[i]?=some d->∃v,vs[i]?=some v/\aZ K H d v
|[],_,i,_,_,e=>by simp at e
|d::ds,_,0,_,h,e=>by
 obtain⟨v,r,rfl,h2,_⟩:=h;simp at e;subst e;exact⟨v,rfl,h2⟩
|d::ds,_,i+1,_,h,e=>by
 obtain⟨v,r,rfl,_,h3⟩:=h;obtain⟨w,e1,e2⟩:=aM.get i h3 (by simpa using e);exact⟨w,by simpa using e1,e2⟩
theorem aM.app:∀{ds ds':List D}{vs vs':List V},aM K H ds vs->aM K H ds' vs'->aM K H (ds++ds') (vs++vs')
|[],_,_,_,h,h'=>by cases h;exact h'
|d::ds,_,_,_,h,h'=>by
 obtain⟨v,r,rfl,h2,h3⟩:=h;exact⟨v,_,rfl,h2,aM.app h3 h'⟩
theorem a9.app:∀{ds ds':List D}{vs vs':List V}{f f':List Addr},a9 K H F ds vs f->a9 K H F ds' vs' f'->a9 K H F (ds++ds') (vs++vs') (f++f')
|[],_,_,_,_,_,h,h'=>by obtain⟨rfl,rfl⟩:=h;exact h'
|d::ds,_,_,_,_,_,h,h'=>by
 obtain⟨v,r,f1,f2,rfl,rfl,h2,h3⟩:=h;exact⟨v,_,f1,_,rfl,by simp,h2,a9.app h3 h'⟩
theorem a9.one(h:bL K H F d v fp):a9 K H F [d] [v] fp:=⟨v,[],fp,[],rfl,by simp,h,rfl,rfl⟩
end
inductive R (α:Type) where
|ok (a:α)|ex (x:D)|bad
noncomputable def R.bind{α β:Type}:R α->(α->R β)->R β
|.ok a,f=>f a
|.ex x,_=>.ex x
|.bad,_=>.bad
noncomputable def R.opt{α:Type}:Option α->R α
|some a=>.ok a
|none=>.bad
noncomputable def R.gD{α:Type}:R α->R α
|.ok a=>.ok a
|_=>.bad
noncomputable def R.bg{α:Type}(b:Bool)(r:R α):R α:=match b with
|true=>r
|false=>.bad
instance (i j:Int):Decidable (uc i j):=by unfold uc;infer_instance
instance (i j:Int):Decidable (vt i j):=by unfold vt;infer_instance
instance (i j:Int):Decidable (FO i j):=by unfold FO;infer_instance
noncomputable def W9:D->Option Key
|.int i=>some (.inl i)
|.str x=>some (.inr x)
|_=>none
noncomputable def Tt:List D->Option (List Key)
|[]=>some []
|d::r=>(W9 d).bind fun k=>(Tt r).map (k::·)
noncomputable def keyT:D->Option (List Key)
|.tup xs=>Tt xs
|_=>none
noncomputable def getK{κ:Type}[DecidableEq κ]:List κ->List D->κ->Option D
|k::ks,d::ds,q=>if k=q then some d else getK ks ds q
|_,_,_=>none
noncomputable def BC(z:Str)(n:Nat):Str:=⟨(aT n z.cps.toList).flatten.toArray⟩
noncomputable def ie:D->Bool
|.non=>true
|_=>false
noncomputable def mL:D->Bool
|.bl _=>true
|_=>false
noncomputable def nP:D->Bool
|.bl true=>true
|_=>false
noncomputable def aaK:D->Bool
|.int _=>true
|_=>false
noncomputable def jV:List D->Option (List Str)
|[]=>some []
|.str x::r=>(jV r).map (x::·)
|_::_=>none
noncomputable def um:List D->Option (List Bool)
|[]=>some []
|.bl b::r=>(um r).map (b::·)
|_::_=>none
noncomputable def KP(m:Mt)(xs:List D)(k:Bool):R D:=match m with
|.count=>(R.opt (um xs)).bind fun bs=>.ok (.int (bs.count k))
|.index=>(R.opt (um xs)).bind fun bs=>.bg (decide (k∈bs)) (.ok (.int (bs.idxOf k)))
|_=>.bad
noncomputable def dF(op:j5)(x y:D):R D:=match x,y with
|.int i,.int j=>match op with
 |.Add=>.ok (.int (i+j))
 |.Sub=>.ok (.int (i-j))
 |.Mult=>.bg (decide (uc i j)) (.ok (.int (i*j)))
 |.FloorDiv=>.bg (decide (vt i j)) (.ok (.int (i / j)))
 |.Mod=>.bg (decide (0<j)) (.ok (.int (i%j)))
 |.RShift=>.bg (decide (0<=j)) (.ok (.int (i / 2 ^ j.toNat)))
 |.Pow=>.bg (decide (FO i j)) (.ok (.int (i ^ j.toNat)))
 |_=>.bad
|.str i,.str j=>match op with
 |.Add=>.bg (decide (i.length+j.length<=aa)) (.ok (.str (i++j)))
 |_=>.bad
|.str i,.int j=>match op with
 |.Mult=>.bg (decide (0<=j/\j<2 ^ 40/\i.length*j.toNat<=aa)) (.ok (.str (BC i j.toNat)))
 |_=>.bad
|.lst _ xs,.lst _ ys=>match op with
 |.Add=>.bg (decide (xs.length+ys.length<=aa)) (.ok (.lst true (aD xs++aD ys)))
 |_=>.bad
|.tup xs,.tup ys=>match op with
 |.Add=>.bg (!xs.isEmpty&&!ys.isEmpty&&decide (xs.length+ys.length<=aa)) (.ok (.tup (aD xs++aD ys)))
 |_=>.bad
|.lst _ xs,.int k=>match op with
 |.Mult=>.bg (decide ((-(2 ^ 63)<=k/\k<2 ^ 63)/\xs.length*k.toNat<=aa)) (.ok (.lst true (aT k.toNat (aD xs)).flatten))
 |_=>.bad
|_,_=>.bad
noncomputable def W_(op:oF)(x y:D):R D:=match x,y with
|.int i,.int j=>match op with
 |.Lt=>.ok (.bl (decide (i<j)))
 |.LtE=>.ok (.bl (decide (i<=j)))
 |.Gt=>.ok (.bl (decide (j<i)))
 |.GtE=>.ok (.bl (decide (j<=i)))
 |_=>.bad
|.str i,.str j=>match op with
 |.Lt=>.ok (.bl (decide (i.cps.toList<j.cps.toList)))
 |.LtE=>.ok (.bl (!decide (j.cps.toList<i.cps.toList)))
 |_=>.bad
|_,_=>.bad
noncomputable def inD(x y:D):R Bool:=match y with
|.lst _ ys=>.bg (dm x&&jH ys) (.ok (memD x ys))
|.tup ys=>.bg (dm x&&jH ys) (.ok (memD x ys))
|.cst ys=>.bg (dm x&&jH ys) (.ok (memD x ys))
|_=>.bad
noncomputable def bS(op:oF)(x y:D):R D:=match op with
|.Eq=>.bg (dm x&&dm y) (.ok (.bl (jy x y)))
|.NotEq=>.bg (dm x&&dm y) (.ok (.bl (!jy x y)))
|.Is=>.bg (ie y) (.ok (.bl (ie x)))
|.IsNot=>.bg (ie y) (.ok (.bl (!ie x)))
|.In=>(inD x y).bind fun b=>.ok (.bl b)
|.NotIn=>(inD x y).bind fun b=>.ok (.bl (!b))
|op=>W_ op x y
noncomputable def gP:D->R Bool
|.bl b=>.ok b
|.non=>.ok false
|.int i=>.ok (i != 0)
|.str z=>.ok (z.length != 0)
|.lst _ xs=>.ok (!xs.isEmpty)
|.tup xs=>.ok (!xs.isEmpty)
|.cst _=>.bad
|.exc _ _ _=>.bad
noncomputable def uM(x y:D):R D:=match x with
|.str z=>match y with
 |.int i=>(R.opt (fC z.cps.toList i)).bind fun c=>.ok (.str ⟨#[c]⟩)
 |_=>.bad
|.lst _ xs=>match y with
 |.int i=>(R.opt (fC xs i)).bind fun d=>.ok (bh d)
 |_=>.bad
|.tup xs=>match y with
 |.int i=>(R.opt (fC xs i)).bind fun d=>.ok (bh d)
 |_=>.bad
|_=>.bad
noncomputable def JB(x:D)(lo hi:Option Int):R D:=match x with
|.str z=>.ok (.str ⟨(cut z.cps.toList lo hi).toArray⟩)
|.lst _ xs=>.ok (.lst true (aD (cut xs lo hi)))
|.tup xs=>match lo,hi with
 |some n,none=>.bg (decide (1<=n/\n<=xs.length)) (.ok (.tup (aD (xs.drop n.toNat))))
 |_,_=>.bad
|_=>.bad
noncomputable def Qu(x:D)(lo hi:Option Int)(k:Int):R D:=match x with
|.lst _ xs=>.bg (decide (k≠0)&&decide ((mH xs lo hi k).length<=aa)) (.ok (.lst true (aD (mH xs lo hi k))))
|_=>.bad
noncomputable def pairD:D->Option (Key×D)
|.tup [k,v]=>(W9 k).map fun q=>(q,v)
|_=>none
noncomputable def jI(f:Bf)(vs:List D):R D:=match vs with
|[x]=>match f with
 |.len=>match x with
  |.str z=>.ok (.int z.length)
  |.lst _ xs=>.ok (.int xs.length)
  |.tup xs=>.ok (.int xs.length)
  |_=>.bad
 |.all=>match x with
  |.lst _ xs=>.bg (xs.all mL) (.ok (.bl (xs.all nP)))
  |_=>.bad
 |.any=>match x with
  |.lst _ xs=>.bg (xs.all mL) (.ok (.bl (xs.any nP)))
  |_=>.bad
 |.int=>match x with
  |.int i=>.ok (.int i)
  |.bl b=>.ok (.int (if b then 1 else 0))
  |.str z=>.bg (decide (z.length<=640)) ((R.opt (intText? z)).bind fun n=>.ok (.int n))
  |_=>.bad
 |.str=>match x with
  |.int i=>.bg (decide (i.natAbs.log2<1920)&&decide ((kL i).length<=aa)) (.ok (.str (kL i)))
  |_=>.bad
 |.abs=>match x with
  |.int i=>.ok (.int (if i<0 then -i else i))
  |_=>.bad
 |_=>.bad
|[x,y]=>match x,y with
 |.int i,.int j=>match f with
  |.min=>.ok (.int (if j<i then j else i))
  |_=>.bad
 |_,_=>.bad
|_=>.bad
noncomputable def nQ(t:Ty):D->Bool
|.non=>false
|.bl _=>decide (t=.bool)||decide (t=.int)
|.int _=>decide (t=.int)
|.str _=>decide (t=.str)
|.lst _ _=>decide (t=.list)||decide (t=.none)
|.tup _=>decide (t=.tuple)||decide (t=.none)
|.cst _=>decide (t=.tuple)||decide (t=.none)
|.exc _ _ _=>false
noncomputable def jJ:D->Bool
|.exc _ _ _=>false
|_=>true
noncomputable def sG(c:Nat)(l:List Nat):List D:=(c_ c l).map fun p=>D.str (strOf p)
noncomputable def kB(m:Mt)(x:D)(vs:List D):R D:=match x with
|.str z=>match vs with
 |[y]=>match y with
  |.str q=>match m with
   |.startswith=>.ok (.bl (q.cps.toList.isPrefixOf z.cps.toList))
   |.split=>.bg (decide (q.length=1)&&decide (z.length+2<=aa)) (.ok (.lst true (sG (q.cps.getD 0 0) z.cps.toList)))
   |.count=>.bg (decide (q.length=1)) (.ok (.int (z.cps.toList.count (q.cps.getD 0 0))))
   |.index=>.bg (decide (q.length=1)&&decide ((q.cps.getD 0 0)∈z.cps.toList)) (.ok (.int (z.cps.toList.idxOf (q.cps.getD 0 0))))
   |_=>.bad
  |.lst _ ys=>match m with
   |.join=>(R.opt (jV ys)).bind fun ss=>.bg (decide ((ss.map (·.length)).sum+ss.length*z.length<=aa)) (.ok (.str (ee z ss)))
   |_=>.bad
  |_=>.bad
 |[]=>match m with
  |.split=>.bg (decide ((gW z).length<=aa)&&(gW z).all fun w=>decide (w.length<=aa)) (.ok (.lst true ((gW z).map D.str)))
  |_=>.bad
 |_=>.bad
|.lst _ xs=>match vs with
 |[y]=>match y with
  |.bl k=>KP m xs k
  |_=>.bad
 |_=>.bad
|_=>.bad
noncomputable abbrev bf:=List (Option D)
inductive PG where
|val (d:D)
|fn (m:List D->R D) (dds:List D)
|cls (C:Addr) (fs:List (Str×Nat)) (n:Nat)
|nop
inductive Fl where
|nx (O:bf)|rt (d:D)|bk (O:bf)|ct (O:bf)|ex (x:D)|bad
noncomputable def R.aU{α:Type}:R α->(α->Fl)->Fl
|.ok a,f=>f a
|.ex x,_=>.ex x
|.bad,_=>.bad
noncomputable def R.nR{α:Type}(b:Bool):R α->(α->Fl)->Fl
|.ok a,f=>f a
|.ex x,_=>match b with
 |true=>.ex x
 |false=>.bad
|.bad,_=>.bad
noncomputable def xD:V->R D
|.non=>.ok .non
|.bl b=>.ok (.bl b)
|.int i=>.ok (.int i)
|.str x=>.ok (.str x)
|_=>.bad
noncomputable def uN(z:Str):List D:=z.cps.toList.map fun c=>D.str ⟨#[c]⟩
noncomputable def je(lo:Int)(n:Nat):List D:=(bG n).map fun(i:Nat)=>D.int (lo+(i:Int))
noncomputable def nc:List D->List D->List D
|x::xs,y::ys=>.tup [x,y]::nc xs ys
|_,_=>[]
noncomputable def tK:List D->R (Bool×List D)
|[.lst _ xs,.lst _ ys]=>.ok (false,nc (aD xs) (aD ys))
|[.tup xs,.tup ys]=>.ok (false,nc (aD xs) (aD ys))
|_=>.bad
noncomputable def iy:Nat->List D->List D
|_,[]=>[]
|n,x::r=>.tup [.int (n:Int),x]::iy (n+1) r
noncomputable def qJ:D->R (List D)
|.str z=>.ok (uN z)
|.lst _ xs=>.ok (aD xs)
|.tup xs=>.ok (aD xs)
|_=>.bad
noncomputable def nS:List D->R (List D)
|[.int j]=>.bg (decide (-(2 ^ 62)<=j/\j.toNat<=aa)) (.ok (je 0 j.toNat))
|[.int i,.int j]=>.bg (decide (-(2 ^ 62)<=i/\i<2 ^ 62/\-(2 ^ 62)<=j/\j<2 ^ 62/\(j-i).toNat<=aa)) (.ok (je i (j-i).toNat))
|_=>.bad
noncomputable def dg(g:D->bf->R bf)(c:bf->R Bool)(e:bf->R D):List D->bf->R (List D)
|[],_=>.ok []
|d::r,O=>(g d O).bind fun σ2=>(c σ2).bind fun b=>if b=true then(e σ2).bind fun y=>(dg g c e r σ2).bind fun ys=>.ok (y::ys)else dg g c e r σ2
noncomputable def forR(g:D->bf->R bf)(b:bf->Fl):List D->bf->Fl
|[],O=>.nx O
|d::r,O=>(g d O).aU fun σ2=>match b σ2 with
 |.nx σ3=>forR g b r σ3
 |.ct σ3=>forR g b r σ3
 |.bk σ3=>.nx σ3
 |.rt d=>.rt d
 |.ex x=>.ex x
 |.bad=>.bad
noncomputable def uo(c:bf->R Bool)(b:bf->Fl):Nat->bf->Fl
|0,_=>.bad
|n+1,O=>(c O).aU fun k=>if k=true then match b O with
 |.nx σ3=>uo c b n σ3
 |.ct σ3=>uo c b n σ3
 |.bk σ3=>.nx σ3
 |.rt d=>.rt d
 |.ex x=>.ex x
 |.bad=>.bad
 else .nx O
noncomputable def vI:D->Option Str
|.str x=>some x
|.int i=>if i.natAbs.log2<1920 then some (kL i)else none
|_=>none
noncomputable def nT(O:bf):List (Str×Nat)->Str->Option Str
|[],a=>some a
|p::r,a=>match O[p.2]? with
 |some (some d)=>(vI d).bind fun y=>nT O r (a++p.1++y)
 |_=>none
noncomputable def BD:D->R D
|.lst _ ds=>match jV ds with
 |some ss=>.bg (decide (ss.length<4000)) (.ok (.int (nL ss).length))
 |none=>.bad
|_=>.bad
mutual
noncomputable def pE(M:List PG):CE->bf->R D
|.var i=>fun O=>match O[i]? with
 |some (some d)=>.ok (bh d)
 |_=>.bad
|.con v=>fun _=>xD v
|.glo g=>fun _=>match M[g]? with
 |some (.val d)=>.ok (bh d)
 |_=>.bad
|.bin op a b=>fun O=>(pE M a O).bind fun x=>(pE M b O).bind fun y=>dF op x y
|.nset a=>fun O=>(pE M a O).bind fun x=>BD x
|.neg a=>fun O=>(pE M a O).bind fun x=>match x with
 |.int i=>.ok (.int (-i))
 |_=>.bad
|.not a=>fun O=>(pE M a O).bind fun x=>(gP x).bind fun b=>.ok (.bl (!b))
|.and a b=>fun O=>(pE M a O).bind fun x=>match x with
 |.bl c=>if c=true then pE M b O else .ok (.bl false)
 |_=>.bad
|.or a b=>fun O=>(pE M a O).bind fun x=>match x with
 |.bl c=>if c=true then .ok (.bl true)else pE M b O
 |_=>.bad
|.ite c a b=>fun O=>(pT M c O).bind fun k=>if k=true then pE M a O else pE M b O
|.cmp op a b=>fun O=>(pE M a O).bind fun x=>(pE M b O).bind fun y=>bS op x y
|.chain o1 o2 a b c=>fun O=>(pE M a O).bind fun x=>(pE M b O).bind fun y=>(bS o1 x y).bind fun z=>match z with
 |.bl k=>if k=true then(pE M c O).bind fun u=>bS o2 y u else .ok (.bl false)
 |_=>.bad
|.call g as=>fun O=>match M[g]? with
 |some (.fn m dds)=>(eW M as O).bind fun ds=>m (aD ds++dds)
 |_=>.bad
|.blt f as=>fun O=>(eW M as O).bind fun ds=>jI f ds
|.isi a t=>fun O=>(pE M a O).bind fun x=>.bg (jJ x) (.ok (.bl (nQ t x)))
|.mth m o as=>fun O=>(pE M o O).bind fun x=>(eW M as O).gD.bind fun ds=>kB m x ds
|.ix a b=>fun O=>(pE M a O).bind fun x=>(pE M b O).bind fun y=>uM x y
|.sl a lo hi=>fun O=>(pE M a O).bind fun x=>(pO M lo O).bind fun l=>(pO M hi O).bind fun h=>JB x l h
|.lst as=>fun O=>(eW M as O).bind fun ds=>.bg (decide (ds.length<=aa)) (.ok (.lst true ds))
|.tup as=>fun O=>(eW M as O).bind fun ds=>.bg (decide (ds.length<=aa)) (.ok (.tup ds))
|.fst ps=>fun O=>(R.opt (nT O ps eU)).bind fun y=>.bg (decide (y.length<=aa)) (.ok (.str y))
|.comp nl fr elt tg src cond=>fun O=>(pI M src O).bind fun items=>(dg (pG tg) (pC M cond) (pE M elt) items.2 (nl.map (fun _=>none)++fr.map (fun i=>O.getD i none))).gD.bind fun ds=>.ok (.lst true ds)
|.slp a lo hi k=>fun O=>(pE M a O).bind fun x=>(pO M lo O).bind fun l=>(pO M hi O).bind fun h=>Qu x l h k
noncomputable def pT(M:List PG):CE->bf->R Bool
|.not a=>fun O=>(pT M a O).bind fun b=>.ok (!b)
|.and a b=>fun O=>(pT M a O).bind fun c=>if c=true then pT M b O else .ok false
|.or a b=>fun O=>(pT M a O).bind fun c=>if c=true then .ok true else pT M b O
|.ite c a b=>fun O=>(pT M c O).bind fun k=>if k=true then pT M a O else pT M b O
|.cmp op a b=>fun O=>(pE M a O).bind fun x=>(pE M b O).bind fun y=>(bS op x y).bind fun z=>match z with
 |.bl k=>.ok k
 |_=>.bad
|.chain o1 o2 a b c=>fun O=>(pE M a O).bind fun x=>(pE M b O).bind fun y=>(bS o1 x y).bind fun z=>match z with
 |.bl k=>if k=true then(pE M c O).bind fun u=>(bS o2 y u).bind fun z=>match z with
  |.bl k=>.ok k
  |_=>.bad
  else .ok false
 |_=>.bad
|.var i=>fun O=>match O[i]? with
 |some (some d)=>gP d
 |_=>.bad
|.ix a b=>fun O=>((pE M a O).bind fun x=>(pE M b O).bind fun y=>uM x y).bind gP
|.call g as=>fun O=>match M[g]? with
 |some (.fn m dds)=>((eW M as O).bind fun ds=>m (aD ds++dds)).bind gP
 |_=>.bad
|.blt f as=>fun O=>((eW M as O).bind fun ds=>jI f ds).bind gP
|.isi a t=>fun O=>(pE M a O).bind fun x=>.bg (jJ x) (.ok (nQ t x))
|.mth m o as=>fun O=>(pE M o O).bind fun x=>(eW M as O).gD.bind fun ds=>(kB m x ds).bind gP
|_=>fun _=>.bad
noncomputable def eW(M:List PG):i9->bf->R (List D)
|.nil=>fun _=>.ok []
|.cons a r=>fun O=>(pE M a O).bind fun x=>(eW M r O).bind fun xs=>.ok (x::xs)
noncomputable def pO(M:List PG):CO->bf->R (Option Int)
|.none=>fun _=>.ok none
|.some a=>fun O=>(pE M a O).bind fun x=>match x with
 |.int i=>.ok (some i)
 |_=>.bad
noncomputable def pC(M:List PG):CO->bf->R Bool
|.none=>fun _=>.ok true
|.some a=>pT M a
noncomputable def pG:CG->D->bf->R bf
|.name i=>fun d O=>.ok (O.set i (some d))
|.tup gs=>fun d O=>match d with
 |.tup ds=>.bg (decide (ds.length=gs.len)) (wm gs ds O)
 |_=>.bad
|.sub _ _=>fun _ _=>.bad
noncomputable def wm:qh->List D->bf->R bf
|.nil=>fun ds O=>match ds with
 |[]=>.ok O
 |_=>.bad
|.cons g r=>fun ds O=>match ds with
 |d::dr=>(pG g d O).bind fun σ'=>wm r dr σ'
 |_=>.bad
noncomputable def pI(M:List PG):CI->bf->R (Bool×List D)
|.seq a=>fun O=>(pE M a O).bind fun x=>(qJ x).bind fun ds=>.ok (aX x,ds)
|.range as=>fun O=>(eW M as O).bind fun xs=>(nS xs).bind fun ds=>.ok (true,ds)
|.zip as=>fun O=>(eW M as O).bind fun xs=>tK xs
|.enum a=>fun O=>(pE M a O).bind fun x=>match x with
 |.lst _ xs=>.ok (aX x,iy 0 (aD xs))
 |_=>.bad
end
mutual
noncomputable def cV:CE->Bool
|.con v=>match v with
 |.str x=>decide (x.length<=aa)
 |_=>true
|.bin _ a b=>cV a&&cV b
|.nset a=>cV a
|.neg a=>cV a
|.not a=>cV a
|.and a b=>cV a&&cV b
|.or a b=>cV a&&cV b
|.ite c a b=>cV c&&(cV a&&cV b)
|.cmp _ a b=>cV a&&cV b
|.chain _ _ a b c=>cV a&&(cV b&&cV c)
|.call _ as=>jK as
|.blt _ as=>jK as
|.isi a _=>cV a
|.mth _ o as=>cV o&&jK as
|.ix a b=>cV a&&cV b
|.sl a lo hi=>cV a&&(Gw lo&&Gw hi)
|.lst as=>jK as
|.tup as=>jK as
|.comp _ _ elt _ src cond=>cV elt&&(ltI src&&Gw cond)
|.slp a lo hi _=>cV a&&(Gw lo&&Gw hi)
|_=>true
noncomputable def jK:i9->Bool
|.nil=>true
|.cons a r=>cV a&&jK r
noncomputable def Gw:CO->Bool
|.none=>true
|.some a=>cV a
noncomputable def ltI:CI->Bool
|.seq a=>cV a
|.range as=>jK as
|.zip as=>jK as
|.enum a=>cV a
end
noncomputable def ue:Bf->i9->Bool
|.len,.cons (.var _) .nil=>true
|_,_=>false
mutual
noncomputable def b_:CE->List Nat
|.var i=>[i]
|.con _=>[]
|.glo _=>[]
|.bin _ a b=>b_ a++b_ b
|.nset a=>b_ a
|.neg a=>b_ a
|.not a=>b_ a
|.and a b=>b_ a++b_ b
|.or a b=>b_ a++b_ b
|.ite c a b=>b_ c++(b_ a++b_ b)
|.cmp _ a b=>b_ a++b_ b
|.chain _ _ a b c=>b_ a++(b_ b++b_ c)
|.call _ as=>kN as
|.blt f as=>if ue f as=true then[]else kN as
|.isi a _=>b_ a
|.mth _ o as=>b_ o++kN as
|.ix a b=>b_ a++b_ b
|.sl a lo hi=>b_ a++(Gx lo++Gx hi)
|.lst as=>kN as
|.tup as=>kN as
|.fst _=>[]
|.comp _ fr _ _ src _=>uO src++fr
|.slp a lo hi _=>b_ a++(Gx lo++Gx hi)
noncomputable def kN:i9->List Nat
|.nil=>[]
|.cons a r=>b_ a++kN r
noncomputable def Gx:CO->List Nat
|.none=>[]
|.some a=>b_ a
noncomputable def uO:CI->List Nat
|.seq a=>b_ a
|.range as=>kN as
|.zip as=>kN as
|.enum a=>b_ a
end
def NT:Option HO->Prop
|none=>True
|some (.tup _)=>True
|_=>False
theorem NT.of{o:Option HO}(h:o=none):NT o:=by rw[h];trivial
theorem NT.own{o:Option HO}{u:HO}(h:NT o)(e:o=some u)(k:Gu u):False:=by
 subst e;cases u<;>first|exact h.elim|exact k.elim
structure bN (F H F' H':Hp):Prop where
 h:a6 H H'
 f:a6 F F'
 s:a6 F' H'
 n:∀b o,F' b=some o->F b=none->NT (H b)
structure gh (fp:List Addr) (H F':Hp):Prop where
 nd:fp.Nodup
 nh:∀a∈fp,H a=none
 nf:∀a∈fp,F' a=none
variable{ds:List D}{vs:List V}
variable{f1 f2:List Addr}
variable{p:Addr}
section
variable{K:PySem.W.Frag}{H H1 H2 F F1 F2:Hp}
theorem bN.refl(s:a6 F H):bN F H F H:=⟨a6.refl _,a6.refl _,s,fun b o h h'=>by rw[h]at h';cases h'⟩
theorem a6.none(e:a6 H H1){a:Addr}(h:H1 a=none):H a=none:=by
 cases q:H a with
 |none=>rfl
 |some o=>rw[e a o q]at h;cases h
theorem NT.back(e:a6 H H1){a:Addr}(h:NT (H1 a)):NT (H a):=by
 cases q:H a with
 |none=>trivial
 |some o=>rw[e a o q]at h;exact h
theorem bN.trans(g:bN F H F1 H1)(g':bN F1 H1 F2 H2):bN F H F2 H2:=⟨g.h.trans g'.h,g.f.trans g'.f,g'.s,fun b o h h'=>by
 cases q:F1 b with
 |none=>exact NT.back g.h (g'.n b o h q)
 |some u=>exact g.n b u q h'⟩
theorem gh.nil:gh [] H F:=⟨iG,fun _ h=>absurd h be,fun _ h=>absurd h be⟩
mutual
theorem bL.ex:∀(d:D) (v:V) (fp:List Addr),bL K H F d v fp->∀a∈fp,∃o,H a=some o/\Gu o
|.non,v,fp,h=>by rw[h.2];intro a ha;cases ha
|.bl b,v,fp,h=>by rw[h.2];intro a ha;cases ha
|.int i,v,fp,h=>by rw[h.2];intro a ha;cases ha
|.str x,v,fp,h=>by rw[h.2];intro a ha;cases ha
|.lst o ds,v,fp,h=>by
 unfold bL at h;split at h
 ·obtain⟨a,vs,fs,h1,h2,h3,h4,rfl⟩:=h;intro b hb;rcases aH.mp hb with rfl|hb
  ·exact⟨_,h2,trivial⟩
  ·exact a9.ex ds vs fs h4 b hb
 ·rw[h.2];intro a ha;cases ha
|.tup ds,v,fp,h=>by
 obtain⟨a,vs,h1,h2,h3,h4⟩:=h;exact a9.ex ds vs fp h4
|.cst ds,v,fp,h=>by rw[h.2];intro a ha;cases ha
|.exc C ks ds,v,fp,h=>by rw[h.2];intro a ha;cases ha
theorem a9.ex:∀(ds:List D) (vs:List V) (fp:List Addr),a9 K H F ds vs fp->∀a∈fp,∃o,H a=some o/\Gu o
|[],vs,fp,h=>by rw[h.2];intro a ha;cases ha
|d::ds,vs,fp,h=>by
 obtain⟨v,r,f1,f2,h1,rfl,h3,h4⟩:=h;intro a ha;rcases a_.mp ha with ha|ha
 ·exact bL.ex d v f1 h3 a ha
 ·exact a9.ex ds r f2 h4 a ha
end
noncomputable def adopt(F H:Hp)(fp:List Addr):Hp:=fun b=>if b∈fp then H b else F b
theorem jl{a:Addr}(h:a∈fp):adopt F H fp a=H a:=if_pos h
theorem jR{a:Addr}(h:a∉fp):adopt F H fp a=F a:=if_neg h
theorem cX(s:a6 F H):a6 F (adopt F H fp):=fun b o h=>by
 by_cases q:b∈fp
 ·rw[jl q];exact s b o h
 ·rw[jR q];exact h
theorem eO(s:a6 F H):a6 (adopt F H fp) H:=fun b o h=>by
 by_cases q:b∈fp
 ·rw[jl q]at h;exact h
 ·rw[jR q]at h;exact s b o h
theorem rC(g:bN F H F1 H1)(n:∀a∈fp,H a=none):bN F H (adopt F1 H1 fp) H1:=⟨g.h,g.f.trans (cX g.s),eO g.s,fun b o h h'=>by
 by_cases q:b∈fp
 ·exact .of (n b q)
 ·rw[jR q]at h;exact g.n b o h h'⟩
theorem Qv(g:bN F H F1 H1)(fr:gh fp H F1)(r:bL K H1 F1 d v fp):∃F2,bN F H F2 H1/\a6 F1 F2/\aZ K F2 d v:=
 ⟨adopt F1 H1 fp,rC g fr.nh,cX g.s,bL.fix (cX g.s) d v fp (fun _ ha=>jl ha) r⟩
theorem zb(g:bN F H F1 H1)(fr:gh fp H F1)(r:a9 K H1 F1 ds vs fp):∃F2,bN F H F2 H1/\a6 F1 F2/\aM K F2 ds vs:=
 ⟨adopt F1 H1 fp,rC g fr.nh,cX g.s,a9.fix (cX g.s) ds vs fp (fun _ ha=>jl ha) r⟩
theorem carry(g:bN F1 H1 F2 H2)(fr:gh fp H F1)(r:bL K H1 F1 d v fp):bL K H2 F2 d v fp/\(∀a∈fp,F2 a=none):=by
 refine⟨bL.mono g.f d v fp (fun a ha=>?_) r,fun a ha=>?_⟩
 ·obtain⟨o,e,_⟩:=bL.ex d v fp r a ha;rw[e,g.h a o e]
 ·obtain⟨o,e,k⟩:=bL.ex d v fp r a ha;cases q:F2 a with
  |none=>rfl
  |some u=>exact((g.n a u q (fr.nf a ha)).own e k).elim
theorem Xa(g:bN F1 H1 F2 H2)(fr:gh fp H F1)(r:a9 K H1 F1 ds vs fp):a9 K H2 F2 ds vs fp/\(∀a∈fp,F2 a=none):=by
 refine⟨a9.mono g.f ds vs fp (fun a ha=>?_) r,fun a ha=>?_⟩
 ·obtain⟨o,e,_⟩:=a9.ex ds vs fp r a ha;rw[e,g.h a o e]
 ·obtain⟨o,e,k⟩:=a9.ex ds vs fp r a ha;cases q:F2 a with
  |none=>rfl
  |some u=>exact((g.n a u q (fr.nf a ha)).own e k).elim
theorem gh.app(s:a6 H H1)(a1:gh f1 H F1)(e1:∀a∈f1,∃o,H1 a=some o)(k1:∀a∈f1,F2 a=none)(a2:gh f2 H1 F2):gh (f1++f2) H F2:=by
 refine⟨bK.mpr ⟨a1.nd,a2.nd,fun a h1 b h2 z=>?_⟩,fun a ha=>?_,fun a ha=>?_⟩
 ·subst z;obtain⟨o,e⟩:=e1 a h1;rw[a2.nh a h2]at e;cases e
 ·rcases a_.mp ha with h|h
  ·exact a1.nh a h
  ·exact a6.none s (a2.nh a h)
 ·rcases a_.mp ha with h|h
  ·exact k1 a h
  ·exact a2.nf a h
theorem newList{p:Addr}{vs:List V}{o:HO}(s:a6 F H)(hp:H p=none):bN F H F (upd H p o)/\F p=none:=by
 have hf:F p=none:=a6.none s hp;refine⟨⟨fun b u q=>by rw[aV (bY q hp)];exact q,a6.refl _,fun b u q=>by rw[aV (bY q hf)];exact s b u q,fun b o h h'=>by rw[h]at h';cases h'⟩,hf⟩
theorem xE{o:HO}(s:a6 F H)(hp:H p=none):bN F H (upd F p o) (upd H p o):=by
 have hf:F p=none:=a6.none s hp;refine⟨fun b u q=>by rw[aV (bY q hp)];exact q,fun b u q=>by rw[aV (bY q hf)];exact q,fun b u q=>?_,fun b u q q'=>?_⟩
 ·by_cases e:b=p
  ·subst e;rw[bQ]at q ⊢;exact q
  ·rw[aV e]at q ⊢;exact s b u q
 ·by_cases e:b=p
  ·subst e;exact .of hp
  ·rw[aV e]at q;rw[q]at q';cases q'
end
class Ex where
 E:XK
def iK[Ex](K:PySem.W.Frag)(F H:Hp)(x:D):Prop:=match x with
|.exc C ks xs=>∀F' H' d vs,bN F H F' H'->F' d=some (ic d (ks.zip vs))->aM K F' xs vs->Ex.E (.ref C) (some d) H'
|_=>False
variable{K:PySem.W.Frag}{F H F1 H1:Hp}{x:D}
theorem iK.grow[Ex](h:iK K F H x)(g:bN F H F1 H1):iK K F1 H1 x:=by
 cases x with
 |exc C ks xs=>exact fun F' H' d vs g'=>h F' H' d vs (g.trans g')
 |_=>exact h
def PV[Ex](K:PySem.W.Frag)(F H:Hp)(r:R D)(Q:VK):Prop:=match r with
|.ok d=>∀F' H' v fp,bN F H F' H'->gh fp H F'->bL K H' F' d v fp->Q v H'
|.ex x=>iK K F H x
|.bad=>False
def xF[Ex](K:PySem.W.Frag)(F H:Hp)(r:R (List D))(Q:List V->Hp->Prop):Prop:=match r with
|.ok ds=>∀F' H' vs fp,bN F H F' H'->gh fp H F'->a9 K H' F' ds vs fp->Q vs H'
|.ex x=>iK K F H x
|.bad=>False
def PB[Ex]{α:Type}(K:PySem.W.Frag)(F H:Hp)(r:R α)(Q:α->Hp->Prop):Prop:=match r with
|.ok b=>∀F' H',bN F H F' H'->Q b H'
|.ex x=>iK K F H x
|.bad=>False
def Xb(K:PySem.W.Frag)(F:Hp)(d:D):Item->Prop
|.v x=>aZ K F d x
|.tup xs=>∃ds,d=.tup ds/\aM K F ds xs/\xs.length<=aa
def kO(K:PySem.W.Frag)(F:Hp):List D->List Item->Prop
|[],its=>its=[]
|d::ds,its=>∃it r,its=it::r/\Xb K F d it/\kO K F ds r
noncomputable def minus(F:Hp)(A:List Addr):Hp:=fun b=>if b∈A then none else F b
noncomputable def rD(own:Bool)(F:Hp)(A:List Addr):Hp:=if own=true then minus F A else F
def PI'[Ex](K:PySem.W.Frag)(A:List Addr)(F H:Hp)(r:R (Bool×List D))(k:(Hp->Prop)->List Item->Hp->Prop):Prop:=match r with
|.ok ds=>∀F' H' ok its,bN F H F' H'->(∀H'',a6 (rD ds.1 F' A) H''->ok H'')->kO K (rD ds.1 F' A) ds.2 its->ds.2.length<=aa->k ok its H'
|.ex x=>iK K F H x
|.bad=>False
def KQ(K:PySem.W.Frag)(H:Hp)(Y:bf)(O:L2.St):Prop:=∀(k:Nat) d,Y[k]?=some (some d)->∃v F',O[k]?=some (some v)/\a6 F' H/\aZ K F' d v
structure iL (K:PySem.W.Frag) (F H:Hp) (is:List Nat) (Y:bf) (O:L2.St):Prop where
 e:∀i∈is,∀d,Y[i]?=some (some d)->∃v,O[i]?=some (some v)/\aZ K F d v
 n:KQ K H Y O
noncomputable def Gy(K:PySem.W.Frag)(m:List D->R D):Sp:=fun vs H Q E=>∃F ds,a6 F H/\aD ds=ds/\aM K F ds vs/\@PV ⟨E⟩ K F H (m ds) Q
def Qw(K:PySem.W.Frag):PG->G->Prop
|.val d,.val v=>aZ K (fun _=>none) d v
|.val d,.tup a _=>aZ K (fun _=>none) d (.ref a)
|.fn m dds,.fn sp dvs=>(∀vs H Q E,Gy K m vs H Q E->sp vs H Q E)/\aD dds=dds/\aM K (fun _=>none) dds dvs
|.cls C fs n,.cls C' fs' n'=>C=C'/\fs=fs'/\n=n'
|.nop,.nop=>True
|_,_=>False
def dO(K:PySem.W.Frag):List PG->List G->Prop
|p::ps,gs=>∃g r,gs=g::r/\Qw K p g/\dO K ps r
|[],_=>True
theorem dO.get:∀{ps:List PG}{gs:List G} (i:Nat) {p:PG},dO K ps gs->ps[i]?=some p->∃g,gs[i]?=some g/\Qw K p g
|[],_,i,_,_,e=>by simp at e
|p::ps,_,0,_,h,e=>by
 obtain⟨g,r,rfl,h2,_⟩:=h;simp at e;subst e;exact⟨g,rfl,h2⟩
|p::ps,_,i+1,_,h,e=>by
 obtain⟨g,r,rfl,_,h3⟩:=h;obtain⟨w,e1,e2⟩:=dO.get i h3 (by simpa using e);exact⟨w,by simpa using e1,e2⟩
variable{A:List Addr}
theorem fN{b:Addr}(h:b∉A):minus F A b=F b:=if_neg h
theorem AG{b:Addr}(h:b∈A):minus F A b=none:=if_pos h
theorem D7(F:Hp):minus F []=F:=by funext b;exact fN be
theorem MU(o:Bool)(F:Hp):rD o F []=F:=by unfold rD;rw[D7];split<;>rfl
theorem jS(F:Hp)(A:List Addr):a6 (minus F A) F:=fun b o h=>by
 by_cases q:b∈A
 ·rw[AG q]at h;cases h
 ·rw[fN q]at h;exact h
theorem D8(o:Bool)(F:Hp)(A:List Addr):a6 (rD o F A) F:=by
 unfold rD;split
 ·exact jS F A
 ·exact a6.refl F
def ny(H:Hp)(A:List Addr):Prop:=∀a∈A,∃o,H a=some o/\Gu o
theorem lI(s:a6 F H)(h:ny H A):Gv F (minus F A):=fun b o q=>by
 by_cases z:b∈A
 ·obtain⟨u,e,k⟩:=h b z;rw[s b o q]at e;cases e;exact .inr k
 ·exact .inl (by rw[fN z];exact q)
variable{H':Hp}
theorem ny.mono(s:a6 H H')(h:ny H A):ny H' A:=fun a ha=>by
 obtain⟨o,e,k⟩:=h a ha;exact⟨o,s a o e,k⟩
theorem Xc(hA:ny H A)(g:bN F H F1 H1)(fr:gh fp H F1)(r:bL K H1 F1 d v fp):∃F2,bN F H F2 H1/\aZ K (rD (aX d) F2 A) d v:=by
 have g2:=rC g fr.nh;refine⟨adopt F1 H1 fp,g2,?_⟩;unfold rD;by_cases ho:aX d=true
 ·rw[if_pos ho];have r2:=bL.less (lI g.s (hA.mono g.h)) d v fp ho r;refine bL.fix (F':=minus (adopt F1 H1 fp) A) ?_ d v fp ?_ r2
  ·intro b o q;by_cases z:b∈A
   ·rw[AG z]at q;cases q
   ·rw[fN z]at q ⊢;exact cX g.s b o q
  ·intro a ha;have z:a∉A:=fun z=>by
    obtain⟨o,e,_⟩:=hA a z;rw[fr.nh a ha]at e;cases e
   rw[fN z,jl ha]
 ·rw[if_neg ho];exact bL.fix (cX g.s) d v fp (fun _ ha=>jl ha) r
variable{b:Bool}
variable{F':Hp}{Q:VK}
variable{α:Type}
section
variable{K:PySem.W.Frag}{H H1 F F1:Hp}{Y:bf}{O:L2.St}
theorem iL.l{a b:List Nat}(h:iL K F H (a++b) Y O):iL K F H a Y O:=⟨fun i hi=>h.e i (aO _ hi),h.n⟩
theorem iL.r{a b:List Nat}(h:iL K F H (a++b) Y O):iL K F H b Y O:=⟨fun i hi=>h.e i (aA _ hi),h.n⟩
theorem iL.mono{a:List Nat}(h:iL K F H a Y O)(g:bN F H F1 H1):iL K F1 H1 a Y O:=⟨fun i hi d hd=>by
 obtain⟨v,h1,h2⟩:=h.e i hi d hd;exact⟨v,h1,aZ.mono g.f d v h2⟩,fun k d e=>by
 obtain⟨v,F',h1,h2,h3⟩:=h.n k d e;exact⟨v,F',h1,h2.trans g.h,h3⟩⟩
theorem PV.int[Ex]{n:Int}(h:PV K F H (.ok (.int n)) Q)(s:a6 F H):PV K F' H (.ok (.int n)) Q:=fun F2 H2 v fp g fr r=>by
 obtain⟨rfl,rfl⟩:=r;exact h F H2 _ [] ⟨g.h,a6.refl _,s.trans g.h,fun b o q q'=>by rw[q]at q';cases q'⟩ .nil ⟨rfl,rfl⟩
theorem PV.grow[Ex]{r:R D}(h:PV K F H r Q)(g:bN F H F1 H1):PV K F1 H1 r Q:=by
 cases r with
 |ok d=>exact fun F' H' v fp g' fr rx=>h F' H' v fp (g.trans g') ⟨fr.nd,fun a ha=>a6.none g.h (fr.nh a ha),fr.nf⟩ rx
 |ex x=>exact iK.grow (K:=K) (x:=x) h g
 |bad=>exact h
theorem PB.grow[Ex]{r:R α}{Q:α->Hp->Prop}(h:PB K F H r Q)(g:bN F H F1 H1):PB K F1 H1 r Q:=by
 cases r with
 |ok d=>exact fun F' H' g'=>h F' H' (g.trans g')
 |ex x=>exact iK.grow (K:=K) (x:=x) h g
 |bad=>exact h
theorem PV.here[Ex](h:PV K F H (.ok (bh d)) Q)(s:a6 F H)(r:aZ K F d v):Q v H:=h F H v [] (bN.refl s) .nil (aZ.zP d v r)
theorem PV.flat[Ex](h:PV K F H (.ok d) Q)(s:a6 F H)(r:bL K H F d v []):Q v H:=h F H v [] (bN.refl s) .nil r
theorem jL{r:R α}{a:α}(h:R.bg b r=.ok a):b=true/\r=.ok a:=by
 cases b with
 |true=>exact⟨rfl,h⟩
 |false=>cases h
theorem PV.bg[Ex]{r:R D}(h:PV K F H (R.bg b r) Q):b=true/\PV K F H r Q:=by
 cases b with
 |true=>exact⟨rfl,h⟩
 |false=>exact h.elim
theorem PB.bg[Ex]{r:R α}{Q:α->Hp->Prop}(h:PB K F H (R.bg b r) Q):b=true/\PB K F H r Q:=by
 cases b with
 |true=>exact⟨rfl,h⟩
 |false=>exact h.elim
end
theorem szl:aa=16777216:=by unfold aa;rfl
theorem uP(x:Str):x.cps.toList.length=x.length:=by simp[fY]
theorem gz(l:List Nat):(⟨l.toArray⟩:Str).length=l.length:=by simp[fY]
theorem MV(l:List Nat):(strOf l).length=l.length:=by simp[strOf,fY]
theorem Gz(z:Str):∀ss:List Str,(ee z ss).length<=(ss.map (·.length)).sum+ss.length*z.length
|[]=>by show(0:Nat)<=_;omega
|[x]=>by simp[ee]
|x::y::r=>by
 have ih:=Gz z (y::r);show(x++z++ee z (y::r)).length<=_;rw[rm,rm];simp only[cj,Fe,aB,yK]at ih ⊢;omega
theorem KR(z:Str)(n:Nat):(BC z n).length=z.length*n:=by
 unfold BC;rw[gz];induction n with
 |zero=>simp
 |succ n ih=>rw[bX,cQ,ak,ih,uP,Ij,yL]
theorem JC(l:List α)(lo hi:Option Int):(cut l lo hi).length<=l.length:=by
 unfold cut;rw[j6,d_];omega
theorem rE(c:Nat):∀(l:List Nat),(∀p∈c_ c l,p.length<=l.length)/\(c_ c l).length<=l.length+1
|[]=>by
 constructor
 ·intro p hp;simp[c_]at hp;subst hp;simp
 ·simp[c_]
|x::r=>by
 obtain⟨h1,h2⟩:=rE c r;unfold c_;by_cases e:x=c
 ·rw[if_pos e];constructor
  ·intro p hp;rcases aH.mp hp with rfl|hp
   ·simp
   ·have:=h1 p hp;simp;omega
  ·simp;omega
 ·rw[if_neg e];cases q:c_ c r with
  |nil=>simp
  |cons h t=>
   rw[q]at h1 h2;constructor
   ·intro p hp;rcases aH.mp hp with rfl|hp
    ·have:=h1 h ay;simp;omega
    ·have:=h1 p (aj _ hp);simp;omega
   ·simp at h2 ⊢;omega
variable{i:Int}
theorem rS{xs:List α}{x:α}(h:fC xs i=some x):∃j,gY xs.length i=some j/\xs[j]?=some x:=by
 unfold fC at h;cases q:gY xs.length i with
 |none=>rw[q]at h;cases h
 |some j=>rw[q]at h;exact⟨j,rfl,h⟩
theorem BE{xs:List α}{j:Nat}{x:α}(h:gY xs.length i=some j)(e:xs[j]?=some x):fC xs i=some x:=by
 unfold fC;rw[h];exact e
def R.bE{α:Type}(r:R α):Prop:=∀x,r≠.ex x
theorem bE.ok{a:α}:(R.ok a).bE:=fun _ h=>by cases h
theorem bE.bad:(R.bad:R α).bE:=fun _ h=>by cases h
theorem bE.opt{o:Option α}:(R.opt o).bE:=fun _ h=>by cases o<;>cases h
theorem bE.bg{r:R α}(n:r.bE):(R.bg b r).bE:=fun x h=>by
 cases b with
 |true=>exact n x h
 |false=>cases h
variable{β:Type}
theorem bE.bind{r:R α}{f:α->R β}(n:r.bE)(k:∀a,(f a).bE):(r.bind f).bE:=fun x h=>by
 cases r with
 |ok a=>exact k a x h
 |ex y=>exact n y rfl
 |bad=>cases h
theorem bE.gD(r:R α):r.gD.bE:=fun x h=>by cases r<;>cases h
theorem JD(x y:D):(inD x y).bE:=by unfold inD;(repeat' (first|exact bE.ok|exact bE.bad|exact bE.opt|exact bE.gD _|refine bE.bg ?_|(refine bE.bind ?_ fun _=>?_)|split))
theorem vJ(x:D):(gP x).bE:=by unfold gP;(repeat' (first|exact bE.ok|exact bE.bad|exact bE.opt|exact bE.gD _|refine bE.bg ?_|(refine bE.bind ?_ fun _=>?_)|split))
theorem CV(x y:D):(uM x y).bE:=by unfold uM;(repeat' (first|exact bE.ok|exact bE.bad|exact bE.opt|exact bE.gD _|refine bE.bg ?_|(refine bE.bind ?_ fun _=>?_)|split))
theorem Qx(x:D):(qJ x).bE:=by unfold qJ;(repeat' (first|exact bE.ok|exact bE.bad|exact bE.opt|exact bE.gD _|refine bE.bg ?_|(refine bE.bind ?_ fun _=>?_)|split))
theorem Qy(xs:List D):(nS xs).bE:=by unfold nS;(repeat' (first|exact bE.ok|exact bE.bad|exact bE.opt|exact bE.gD _|refine bE.bg ?_|(refine bE.bind ?_ fun _=>?_)|split))
theorem Qz(m:Mt)(xs:List D)(k:Bool):(KP m xs k).bE:=by unfold KP;(repeat' (first|exact bE.ok|exact bE.bad|exact bE.opt|exact bE.gD _|refine bE.bg ?_|(refine bE.bind ?_ fun _=>?_)|split))
theorem sI(m:Mt)(x:D)(ds:List D):(kB m x ds).bE:=by unfold kB;(repeat' (first|exact Qz _ _ _|exact bE.ok|exact bE.bad|exact bE.opt|exact bE.gD _|refine bE.bg ?_|(refine bE.bind ?_ fun _=>?_)|split))
variable{u:V}
variable{op:oF}
variable{lo hi:Option Int}
variable{t:Ty}
variable{m:Mt}
section
variable{K:PySem.W.Frag}{H H0 F F0:Hp}
theorem D9(r:aZ K F x v):decide (v=.non)=ie x:=by
 cases x with
 |non=>rw[show v=.non from r];rfl
 |bl b=>rw[show v=.bl b from r];rfl
 |int i=>rw[show v=.int i from r];rfl
 |str z=>rw[show v=.str z from r.1];rfl
 |lst o ds=>obtain⟨a,vs,rfl,_⟩:=r;rfl
 |tup ds=>obtain⟨a,vs,rfl,_⟩:=r;rfl
 |cst ds=>obtain⟨a,vs,rfl,_⟩:=r;rfl
 |exc C ks ds=>obtain⟨a,d,vs,rfl,_⟩:=r;rfl
theorem MW(r:aZ K F x v)(h:ie x=true):v=.non:=by
 cases x<;>first|exact r|(cases h)
theorem o8:∀(xs ys:List D),aD (xs++ys)=aD xs++aD ys
|[],_=>rfl
|x::r,ys=>by show bh x::aD (r++ys)=_;rw[o8 r ys];rfl
theorem jW:∀xs:List D,(aD xs).length=xs.length
|[]=>rfl
|x::r=>by show(aD r).length+1=_;rw[jW r];rfl
theorem PV.lst[Ex]{ds:List D}{vs:List V}{Q:VK}{p:Addr}(h:PV K F H (.ok (.lst true (aD ds))) Q)(s:a6 F H)(r:aM K F ds vs)(hl:vs.length<=aa)(hp:H p=none):Q (.ref p) (upd H p (.lst vs)):=by
 obtain⟨g,hf⟩:=newList (vs:=vs) (o:=.lst vs) s hp;refine h F _ (.ref p) [p] g ⟨by simp,?_,?_⟩ ?_
 ·intro a ha;rw[a8.mp ha];exact hp
 ·intro a ha;rw[a8.mp ha];exact hf
 ·unfold bL;rw[if_pos rfl];exact⟨p,vs,[],rfl,bQ,hl,aM.zP ds vs r,rfl⟩
theorem PV.tup[Ex]{ds:List D}{vs:List V}{Q:VK}{p:Addr}(h:PV K F H (.ok (.tup (aD ds))) Q)(s:a6 F H)(r:aM K F ds vs)(hl:vs.length<=aa)(hp:H p=none):Q (.ref p) (upd H p (.tup vs)):=by
 have g:=xE (o:=.tup vs) s hp;refine h _ _ (.ref p) [] g .nil ?_;exact⟨p,vs,rfl,bQ,hl,aM.zP ds vs (aM.mono g.f ds vs r)⟩
theorem GA:∀(n:Nat) {ds:List D}{vs:List V},aM K F ds vs->aM K F (aT n ds).flatten (aT n vs).flatten
|0,_,_,_=>rfl
|n+1,ds,vs,r=>by
 rw[bX,bX,cQ,cQ];exact aM.app r (GA n r)
theorem QB(n:Nat)(xs:List D):(aT n (aD xs)).flatten=aD (aT n xs).flatten:=by
 induction n with
 |zero=>rfl
 |succ n ih=>rw[bX,bX,cQ,cQ,o8,ih]
theorem YW[Ex]{op:j5}{y:D}(s:a6 F H)(rx:aZ K F x v)(ry:aZ K F y u)(h:PV K F H (dF op x y) Q):PY K op v u H Q:=by
 cases x with
 |int i=>
  cases rx;cases y with
  |int j=>
   cases ry;cases op<;>first|exact h.elim|exact h.flat s ⟨rfl,rfl⟩|(obtain⟨c,h⟩:=h.bg;exact⟨of_decide_eq_true c,h.flat s ⟨rfl,rfl⟩⟩)
  |_=>exact h.elim
 |str z=>
  obtain⟨rfl,hz⟩:=rx;cases y with
  |int j=>
   cases ry;cases op<;>first|exact h.elim|skip
   obtain⟨c,h⟩:=h.bg;have c:=of_decide_eq_true c;exact⟨c,h.flat s ⟨⟨rfl,by rw[KR];exact c.2.2⟩,rfl⟩⟩
  |str q=>
   obtain⟨rfl,hq⟩:=ry;cases op<;>first|exact h.elim|skip
   obtain⟨c,h⟩:=h.bg;have c:=of_decide_eq_true c;exact⟨c,h.flat s ⟨⟨rfl,by rw[rm];exact c⟩,rfl⟩⟩
  |_=>exact h.elim
 |lst o xs=>
  obtain⟨a,vs,rfl,h2,h3,h4⟩:=rx;cases y with
  |lst o' ys=>
   obtain⟨b,us,rfl,k2,k3,k4⟩:=ry;cases op<;>first|exact h.elim|skip
   obtain⟨c,h⟩:=h.bg;have c:=of_decide_eq_true c;rw[<-h4.len,<-k4.len]at c;rw[<-o8]at h;exact .inl ⟨vs,us,Rd.same s h2,Rd.same s k2,c,fun p hp=>h.lst s (h4.app k4) (by rw[ak];exact c) hp⟩
  |int k=>
   cases ry;cases op<;>first|exact h.elim|skip
   obtain⟨c,h⟩:=h.bg;have c:=of_decide_eq_true c;rw[<-h4.len]at c;rw[QB]at h;refine⟨vs,Rd.same s h2,c.1,c.2,fun p hp=>h.lst s (GA _ h4) ?_ hp⟩;have z:∀n,(aT n vs).flatten.length=vs.length*n:=by
    intro n;induction n with
    |zero=>rfl
    |succ n ih=>rw[bX,cQ,ak,ih,Ij,yL]
   rw[z];exact c.2
  |_=>exact h.elim
 |tup xs=>
  obtain⟨a,vs,rfl,h2,h3,h4⟩:=rx;cases y with
  |tup ys=>
   obtain⟨b,us,rfl,k2,k3,k4⟩:=ry;cases op<;>first|exact h.elim|skip
   obtain⟨c,h⟩:=h.bg;simp only[bR,decide_eq_true_eq,q_,List.isEmpty_eq_false_iff]at c;obtain⟨⟨c1,c2⟩,c3⟩:=c;rw[<-h4.len,<-k4.len]at c3;rw[<-o8]at h;refine .inr ⟨vs,us,(tupS h2).same' s,(tupS k2).same' s,?_,?_,c3,fun p hp=>h.tup s (h4.app k4) (by rw[ak];exact c3) hp⟩
   ·rintro rfl;exact c1 (gx (by rw[<-h4.len];rfl))
   ·rintro rfl;exact c2 (gx (by rw[<-k4.len];rfl))
  |_=>exact h.elim
 |_=>exact h.elim
theorem okIn{y:D}(s:a6 F H)(rx:aZ K F x v)(ry:aZ K F y u)(h:inD x y=.ok b){Q:Bool->Prop}(q:Q b):∃a,u=.ref a/\((∃t xs dx ds,eE K H a t xs/\aZ K H dx v/\aM K H ds xs/\dm dx=true/\jH ds=true/\Q (memD dx ds))\/∃kvs k,Rd H a (.dK kvs)/\v=kV k/\Q (jU kvs k).isSome):=by
 cases y with
 |lst o ys=>
  obtain⟨a,us,rfl,k2,k3,k4⟩:=ry;obtain⟨c,e⟩:=jL h;cases e;have c:dm x=true/\jH ys=true:=by simpa using c
  exact⟨a,rfl,.inl ⟨false,us,x,ys,(Rd.seq k2).same' s,aZ.mono s _ _ rx,aM.mono s _ _ k4,c.1,c.2,q⟩⟩
 |tup ys=>
  obtain⟨a,us,rfl,k2,k3,k4⟩:=ry;obtain⟨c,e⟩:=jL h;cases e;have c:dm x=true/\jH ys=true:=by simpa using c
  exact⟨a,rfl,.inl ⟨true,us,x,ys,(tupS k2).same' s,aZ.mono s _ _ rx,aM.mono s _ _ k4,c.1,c.2,q⟩⟩
 |cst ys=>
  obtain⟨a,us,rfl,k2,k3,k4⟩:=ry;obtain⟨c,e⟩:=jL h;cases e;have c:dm x=true/\jH ys=true:=by simpa using c
  exact⟨a,rfl,.inl ⟨true,us,x,ys,.inr k2,aZ.mono s _ _ rx,aM.mono s _ _ k4,c.1,c.2,q⟩⟩
 |_=>cases h
theorem zc[Ex]{y:D}(s:a6 F H)(rx:aZ K F x v)(ry:aZ K F y u)(h:PV K F H (bS op x y) Q):m_ K op v u H Q:=by
 have ord:(op=.Lt\/op=.LtE\/op=.Gt\/op=.GtE)->PV K F H (W_ op x y) Q->m_ K op v u H Q:=by
  intro ho h;cases x with
  |int i=>
   cases rx;cases y with
   |int j=>
    cases ry;rcases ho with rfl|rfl|rfl|rfl<;>exact h.flat s ⟨rfl,rfl⟩
   |_=>exact h.elim
  |str z=>
   obtain⟨rfl,_⟩:=rx;cases y with
   |str j=>
    obtain⟨rfl,_⟩:=ry;rcases ho with rfl|rfl|rfl|rfl<;>first|exact h.flat s ⟨rfl,rfl⟩|exact h.elim
   |_=>exact h.elim
  |_=>exact h.elim
 cases op with
 |Lt=>exact ord (.inl rfl) h
 |LtE=>exact ord (.inr (.inl rfl)) h
 |Gt=>exact ord (.inr (.inr (.inl rfl))) h
 |GtE=>exact ord (.inr (.inr (.inr rfl))) h
 |Eq=>
  obtain⟨c,h⟩:=h.bg;have c:dm x=true/\dm y=true:=by simpa using c
  exact⟨x,y,aZ.mono s _ _ rx,aZ.mono s _ _ ry,c.1,c.2,h.flat s ⟨rfl,rfl⟩⟩
 |NotEq=>
  obtain⟨c,h⟩:=h.bg;have c:dm x=true/\dm y=true:=by simpa using c
  exact⟨x,y,aZ.mono s _ _ rx,aZ.mono s _ _ ry,c.1,c.2,h.flat s ⟨rfl,rfl⟩⟩
 |Is=>
  obtain⟨c,h⟩:=h.bg;rw[MW ry c];show Q (.bl (decide (v=.non))) H;rw[D9 rx];exact h.flat s ⟨rfl,rfl⟩
 |IsNot=>
  obtain⟨c,h⟩:=h.bg;rw[MW ry c];show Q (.bl (!decide (v=.non))) H;rw[D9 rx];exact h.flat s ⟨rfl,rfl⟩
 |In=>
  have h:PV K F H ((inD x y).bind fun b=>.ok (.bl b)) Q:=h;cases e:inD x y with
  |ok b=>
   rw[e]at h;obtain⟨a,rfl,z⟩:=okIn s rx ry e (Q:=fun b=>Q (.bl b) H) (h.flat s ⟨rfl,rfl⟩);exact z
  |ex z=>exact absurd e (JD x y z)
  |bad=>rw[e]at h;exact h.elim
 |NotIn=>
  have h:PV K F H ((inD x y).bind fun b=>.ok (.bl (!b))) Q:=h;cases e:inD x y with
  |ok b=>
   rw[e]at h;obtain⟨a,rfl,z⟩:=okIn s rx ry e (Q:=fun b=>Q (.bl (!b)) H) (h.flat s ⟨rfl,rfl⟩);exact z
  |ex z=>exact absurd e (JD x y z)
  |bad=>rw[e]at h;exact h.elim
theorem zQ{xs:List α}{ys:List β}(h:xs.length=ys.length):xs.isEmpty=ys.isEmpty:=by
 cases xs<;>cases ys<;>first|rfl|(simp at h)
theorem KS{Q:Bool->Prop}(s:a6 F H)(rx:aZ K F x v)(h:gP x=.ok b)(q:Q b):ku K v H Q:=by
 cases x with
 |non=>cases rx;cases h;exact q
 |bl k=>cases rx;cases h;exact q
 |int i=>cases rx;cases h;exact q
 |str z=>obtain⟨rfl,hz⟩:=rx;cases h;exact⟨hz,q⟩
 |lst o ds=>
  obtain⟨a,vs,rfl,h2,h3,h4⟩:=rx;cases h;exact .inl ⟨false,vs,(Rd.seq h2).same' s,by show Q (!vs.isEmpty);rw[zQ h4.len];exact q⟩
 |tup ds=>
  obtain⟨a,vs,rfl,h2,h3,h4⟩:=rx;cases h;exact .inl ⟨true,vs,(tupS h2).same' s,by show Q (!vs.isEmpty);rw[zQ h4.len];exact q⟩
 |cst ds=>cases h
 |exc C ks ds=>cases h
theorem cu{r:R α}{f:α->R β}{b:β}(h:r.bind f=.ok b):∃a,r=.ok a/\f a=.ok b:=by
 cases r with
 |ok a=>exact⟨a,rfl,h⟩
 |ex x=>cases h
 |bad=>cases h
theorem uQ{o:Option α}{a:α}(h:R.opt o=.ok a):o=some a:=by
 cases o with
 |none=>cases h
 |some b=>cases h;rfl
theorem PV.some[Ex]{r:R D}(h:PV K F H r Q)(n:r.bE):∃d,r=.ok d:=by
 cases r with
 |ok d=>exact⟨d,rfl⟩
 |ex x=>exact absurd rfl (n x)
 |bad=>exact h.elim
theorem Xd[Ex]{y:D}(s:a6 F H)(rx:aZ K F x v)(ry:aZ K F y u)(h:PV K F H (uM x y) Q):Gb K v u H Q:=by
 obtain⟨d,e⟩:=h.some (by first|exact CV _ _|exact sI _ _ _|(repeat' (first|exact bE.ok|exact bE.bad|exact bE.opt|exact bE.gD _|refine bE.bg ?_|(refine bE.bind ?_ fun _=>?_)|split)));rw[e]at h;have hs:=szl;cases x with
 |str z=>
  obtain⟨rfl,hz⟩:=rx;cases y with
  |int i=>
   cases ry;obtain⟨c,e1,e2⟩:=cu e;cases e2;exact⟨hz,c,uQ e1,h.flat s ⟨⟨rfl,by show(1:Nat)<=_;omega⟩,rfl⟩⟩
  |_=>cases e
 |lst o ds=>
  obtain⟨a,vs,rfl,h2,h3,h4⟩:=rx;cases y with
  |int i=>
   cases ry;obtain⟨c,e1,e2⟩:=cu e;cases e2;obtain⟨j,i1,i2⟩:=rS (uQ e1);obtain⟨w,w1,w2⟩:=h4.get j i2;exact .inl ⟨false,vs,i,w,rfl,(Rd.seq h2).same' s,BE (by rw[h4.len];exact i1) w1,h.here s w2⟩
  |_=>cases e
 |tup ds=>
  obtain⟨a,vs,rfl,h2,h3,h4⟩:=rx;cases y with
  |int i=>
   cases ry;obtain⟨c,e1,e2⟩:=cu e;cases e2;obtain⟨j,i1,i2⟩:=rS (uQ e1);obtain⟨w,w1,w2⟩:=h4.get j i2;exact .inl ⟨true,vs,i,w,rfl,(tupS h2).same' s,BE (by rw[h4.len];exact i1) w1,h.here s w2⟩
  |_=>cases e
 |_=>cases e
theorem aM.cut:∀{ds:List D}{vs:List V},aM K F ds vs->∀lo hi,aM K F (L3.cut ds lo hi) (L3.cut vs lo hi):=by
 have dr:∀(n:Nat) {ds:List D}{vs:List V},aM K F ds vs->aM K F (ds.drop n) (vs.drop n):=by
  intro n;induction n with
  |zero=>intro ds vs h;exact h
  |succ n ih=>
   intro ds vs h;cases ds with
   |nil=>cases h;exact rfl
   |cons d ds=>
    obtain⟨v,r,rfl,_,h3⟩:=h;exact ih h3
 have tk:∀(n:Nat) {ds:List D}{vs:List V},aM K F ds vs->aM K F (ds.take n) (vs.take n):=by
  intro n;induction n with
  |zero=>intro ds vs h;exact rfl
  |succ n ih=>
   intro ds vs h;cases ds with
   |nil=>cases h;exact rfl
   |cons d ds=>
    obtain⟨v,r,rfl,h2,h3⟩:=h;exact⟨v,_,rfl,h2,ih h3⟩
 intro ds vs h lo hi;unfold L3.cut;rw[h.len];exact tk _ (dr _ h)
theorem okSl[Ex](s:a6 F H)(rx:aZ K F x v)(h:PV K F H (JB x lo hi) Q):S_ K v lo hi H Q:=by
 cases x with
 |str z=>
  obtain⟨rfl,hz⟩:=rx;refine⟨hz,h.flat s ⟨⟨rfl,?_⟩,rfl⟩⟩;rw[gz];have:=JC z.cps.toList lo hi;rw[uP]at this;omega
 |lst o ds=>
  obtain⟨a,vs,rfl,h2,h3,h4⟩:=rx;exact .inl ⟨false,vs,(Rd.seq h2).same' s,rfl,fun p hp=>h.lst s (h4.cut lo hi) (dz (JC _ _ _) h3) hp⟩
 |tup ds=>
  obtain⟨a,vs,rfl,h2,h3,h4⟩:=rx;cases lo with
  |none=>exact h.elim
  |some n=>
   cases hi with
   |some _=>exact h.elim
   |none=>
    obtain⟨c,h⟩:=h.bg;have c:=of_decide_eq_true c;have en:((n.toNat:Nat):Int)=n:=by omega
    have dr:∀(n:Nat) {ds:List D}{vs:List V},aM K F ds vs->aM K F (ds.drop n) (vs.drop n):=by
     intro n;induction n with
     |zero=>intro ds vs h;exact h
     |succ n ih=>
      intro ds vs h;cases ds with
      |nil=>cases h;exact rfl
      |cons d ds=>
       obtain⟨v,r,rfl,_,h3⟩:=h;exact ih h3
    have hl:=h4.len;exact .inr ⟨n.toNat,vs,(tupS h2).same' s,by rw[en],rfl,by omega,by omega,fun p hp=>h.tup s (dr n.toNat h4) (by rw[d_];omega) hp⟩
 |_=>exact h.elim
theorem aM.pick(h:aM K F ds vs):∀is:List Nat,aM K F (is.filterMap (ds[·]?)) (is.filterMap (vs[·]?))
|[]=>rfl
|i::is=>by
 have hl:=h.len;cases e:ds[i]? with
 |none=>
  have:vs[i]?=none:=by
   rw[rO]at e ⊢;omega
  rw[iV e,iV this];exact aM.pick h is
 |some d=>
  obtain⟨v,e1,e2⟩:=h.get i e;rw[iU e,iU e1];exact⟨v,_,rfl,e2,aM.pick h is⟩
theorem YX[Ex]{k:Int}(s:a6 F H)(rx:aZ K F x v)(h:PV K F H (Qu x lo hi k) Q):PZ K v lo hi k H Q:=by
 cases x with
 |lst o ds=>
  obtain⟨a,vs,rfl,h2,h3,h4⟩:=rx;obtain⟨c,h⟩:=h.bg;simp only[bR,decide_eq_true_eq]at c;have r:aM K F (mH ds lo hi k) (mH vs lo hi k):=by
   unfold mH;rw[h4.len];exact h4.pick _
  have hz:(mH vs lo hi k).length<=aa:=by rw[r.len];exact c.2
  exact⟨false,vs,(Rd.seq h2).same' s,rfl,⟨c.1,hz⟩,fun p hp=>h.lst s r hz hp⟩
 |_=>exact h.elim
theorem xG:∀{ds:List D}{vs:List V},aM K F ds vs->ds.all mL=true->yY vs=true/\vs.all nK=ds.all nP/\vs.any nK=ds.any nP
|[],_,h,_=>by cases h;exact⟨rfl,rfl,rfl⟩
|d::ds,_,h,e=>by
 obtain⟨v,r,rfl,h2,h3⟩:=h;have e':mL d=true/\ds.all mL=true:=by simpa using e
 obtain⟨i1,i2,i3⟩:=xG h3 e'.2;cases d with
 |bl b=>
  cases h2;refine⟨by show(true&&yY r)=true;rw[i1];rfl,?_,?_⟩
  ·rw[wR,wR,i2];cases b<;>rfl
  ·rw[mY,mY,i3];cases b<;>rfl
 |_=>exact absurd e'.1 aY
theorem KU[Ex]{f:Bf}(s:a6 F H)(r:aM K F ds vs)(h:PV K F H (jI f ds) Q):Au K f vs H Q:=by
 match ds,r,h with
 |[],_,h=>exact h.elim
 |[x],r,h=>
  obtain⟨v,r',rfl,rx,e⟩:=r;cases e;cases f with
  |len=>
   cases x with
   |str z=>obtain⟨rfl,hz⟩:=rx;exact⟨hz,h.flat s ⟨rfl,rfl⟩⟩
   |lst o ds=>
    obtain⟨a,vs,rfl,h2,h3,h4⟩:=rx;exact .inl ⟨false,vs,(Rd.seq h2).same' s,by show Q (.int vs.length) H;rw[h4.len];exact h.flat s ⟨rfl,rfl⟩⟩
   |tup ds=>
    obtain⟨a,vs,rfl,h2,h3,h4⟩:=rx;exact .inl ⟨true,vs,(tupS h2).same' s,by show Q (.int vs.length) H;rw[h4.len];exact h.flat s ⟨rfl,rfl⟩⟩
   |_=>exact h.elim
  |all=>
   cases x with
   |lst o ds=>
    obtain⟨a,vs,rfl,h2,h3,h4⟩:=rx;obtain⟨c,h⟩:=h.bg;obtain⟨i1,i2,i3⟩:=xG h4 c;exact⟨false,vs,(Rd.seq h2).same' s,rfl,i1,by rw[i2];exact h.flat s ⟨rfl,rfl⟩⟩
   |_=>exact h.elim
  |any=>
   cases x with
   |lst o ds=>
    obtain⟨a,vs,rfl,h2,h3,h4⟩:=rx;obtain⟨c,h⟩:=h.bg;obtain⟨i1,i2,i3⟩:=xG h4 c;exact⟨false,vs,(Rd.seq h2).same' s,rfl,i1,by rw[i3];exact h.flat s ⟨rfl,rfl⟩⟩
   |_=>exact h.elim
  |int=>
   cases x with
   |int i=>cases rx;exact h.flat s ⟨rfl,rfl⟩
   |bl b=>cases rx;exact h.flat s ⟨rfl,rfl⟩
   |str z=>
    obtain⟨rfl,hz⟩:=rx;obtain⟨c,h⟩:=h.bg;obtain⟨d,e⟩:=h.some (by first|exact CV _ _|exact sI _ _ _|(repeat' (first|exact bE.ok|exact bE.bad|exact bE.opt|exact bE.gD _|refine bE.bg ?_|(refine bE.bind ?_ fun _=>?_)|split)));obtain⟨n,e1,e2⟩:=cu e;rw[e]at h;cases e2;exact⟨of_decide_eq_true c,n,uQ e1,h.flat s ⟨rfl,rfl⟩⟩
   |_=>exact h.elim
  |str=>
   cases x with
   |int i=>
    cases rx;obtain⟨c,h⟩:=h.bg;have c:i.natAbs.log2<1920/\(kL i).length<=aa:=by simpa using c
    exact⟨c.1,h.flat s ⟨⟨rfl,c.2⟩,rfl⟩⟩
   |_=>exact h.elim
  |abs=>
   cases x with
   |int i=>cases rx;exact h.flat s ⟨rfl,rfl⟩
   |_=>exact h.elim
  |_=>exact h.elim
 |[x,y],r,h=>
  obtain⟨v,r',rfl,rx,u,r2,rfl,ry,e⟩:=r;cases e;cases x with
  |int i=>
   cases rx;cases y with
   |int j=>
    cases ry;cases f<;>first|exact h.elim|exact h.flat s ⟨rfl,rfl⟩
   |_=>exact h.elim
  |_=>exact h.elim
 |_::_::_::_,_,h=>exact h.elim
theorem Tu{Q:Bool->Prop}(s:a6 F H)(rx:aZ K F x v)(hn:jJ x=true)(q:Q (nQ t x)):sA K t v H Q:=by
 cases x with
 |non=>cases rx;exact q
 |bl k=>cases rx;exact q
 |int i=>cases rx;exact q
 |str z=>obtain⟨rfl,hz⟩:=rx;exact q
 |lst o ds=>
  obtain⟨a,vs,rfl,h2,h3,h4⟩:=rx;exact .inl ⟨vs,Rd.same s h2,q⟩
 |tup ds=>
  obtain⟨a,vs,rfl,h2,h3,h4⟩:=rx;exact .inr (.inl ⟨vs,(tupS h2).same' s,q⟩)
 |cst ds=>
  obtain⟨a,vs,rfl,h2,h3,h4⟩:=rx;exact .inr (.inl ⟨vs,.inr h2,q⟩)
 |exc C ks ds=>cases hn
theorem xH:∀{ds:List D}{vs:List V}{ss:List Str},aM K F ds vs->jV ds=some ss->vs=ss.map V.str
|[],_,_,h,e=>by cases h;cases e;rfl
|d::ds,_,ss,h,e=>by
 obtain⟨v,r,rfl,h2,h3⟩:=h;cases d with
 |str z=>
  have e:(jV ds).map (z::·)=some ss:=e;cases q:jV ds with
  |none=>rw[q]at e;cases e
  |some s2=>
   rw[q]at e;cases e;rw[xH h3 q,h2.1];rfl
 |_=>cases e
theorem KW(c:Nat)(l:List Nat)(hl:l.length<=aa):aM K F (sG c l) ((c_ c l).map fun p=>V.str (strOf p)):=by
 obtain⟨h1,_⟩:=rE c l;unfold sG;revert h1;generalize c_ c l=ps;intro h1;induction ps with
 |nil=>exact rfl
 |cons p r ih=>
  refine⟨_,_,rfl,⟨rfl,?_⟩,ih fun q hq=>h1 q (aj _ hq)⟩;rw[MV];have:=h1 p ay;omega
theorem xJ:∀ps:List (List Nat),aD (ps.map fun p=>D.str (strOf p))=ps.map fun p=>D.str (strOf p)
|[]=>rfl
|p::r=>by show D.str (strOf p)::aD _=_;rw[xJ r];rfl
theorem AH:∀{ds:List D}{vs:List V}{bs:List Bool},aM K F ds vs->um ds=some bs->vs=bs.map V.bl
|[],_,_,h,e=>by cases h;cases e;rfl
|d::ds,_,bs,h,e=>by
 obtain⟨v,r,rfl,h2,h3⟩:=h;cases d<;>first|(cases e;done)|skip
 rename_i b;have e:(um ds).map (b::·)=some bs:=e;cases q:um ds with
 |none=>rw[q]at e;cases e
 |some cs=>
  rw[q]at e;cases e;rw[AH h3 q];cases h2;rfl
theorem MX(s:a6 F H)(rx:aZ K F x v)(h:kB m x ds=.ok d):tG m v H:=by
 cases x with
 |str z=>
  obtain⟨rfl,_⟩:=rx
  match ds,h with
  |[y],h=>
   cases y with
   |str q=>cases m<;>first|exact trivial|(cases h)
   |lst o ys=>cases m<;>first|exact trivial|(cases h)
   |_=>cases h
  |[],h=>cases m<;>first|exact trivial|(cases h)
  |_::_::_,h=>cases h
 |lst o xs=>
  obtain⟨a,us,rfl,h2,_⟩:=rx
  match ds,h with
  |[y],h=>
   cases y<;>first|(cases h;done)|skip
   cases m<;>first|exact⟨us,Rd.same s h2⟩|(cases h)
  |[],h=>cases h
  |_::_::_,h=>cases h
 |_=>cases h
theorem frzs_strs':∀ws:List Str,aD (ws.map D.str)=ws.map D.str
|[]=>rfl
|w::r=>by show D.str w::aD (r.map D.str)=_;rw[frzs_strs' r];rfl
theorem Tv[Ex](s:a6 F H)(rx:aZ K F x v)(r:aM K F ds vs)(h:PV K F H (kB m x ds) Q):vv K m v vs H Q:=by
 cases x with
 |str z=>
  obtain⟨rfl,hz⟩:=rx
  match ds,r,h with
  |[y],r,h=>
   obtain⟨u,r',rfl,ry,e⟩:=r;cases e;cases y with
   |str q=>
    obtain⟨rfl,hq⟩:=ry;cases m with
    |startswith=>
     exact h.flat s ⟨rfl,rfl⟩
    |split=>
     obtain⟨c,h⟩:=h.bg;have c:q.length=1/\z.length+2<=aa:=by simpa using c
     refine⟨c.1,c.2,fun p hp=>?_⟩;have r:=KW (K:=K) (F:=F) (q.cps.getD 0 0) z.cps.toList (by rw[uP];exact hz);have h':PV K F H (.ok (.lst true (aD (sG (q.cps.getD 0 0) z.cps.toList)))) Q:=by
      unfold sG at h ⊢;rw[xJ];exact h
     refine h'.lst s r ?_ hp;rw[az];have:=(rE (q.cps.getD 0 0) z.cps.toList).2;rw[uP]at this;omega
    |count=>
     obtain⟨c,h⟩:=h.bg;exact⟨of_decide_eq_true c,hz,h.flat s ⟨rfl,rfl⟩⟩
    |index=>
     obtain⟨c,h⟩:=h.bg;have c:q.length=1/\(q.cps.getD 0 0)∈z.cps.toList:=by simpa only[bR,decide_eq_true_eq]using c
     exact⟨c.1,hz,c.2,h.flat s ⟨rfl,rfl⟩⟩
    |_=>exact h.elim
   |lst o ys=>
    obtain⟨a,us,rfl,h2,h3,h4⟩:=ry;cases m with
    |join=>
     obtain⟨d,e⟩:=h.some (by first|exact CV _ _|exact sI _ _ _|(repeat' (first|exact bE.ok|exact bE.bad|exact bE.opt|exact bE.gD _|refine bE.bg ?_|(refine bE.bind ?_ fun _=>?_)|split)));obtain⟨ss,e1,e2⟩:=cu (show((R.opt (jV ys)).bind fun ss=>R.bg (decide ((ss.map (·.length)).sum+ss.length*z.length<=aa)) (.ok (.str (ee z ss))))=.ok d from e);obtain⟨c,e3⟩:=jL e2;rw[e]at h;cases e3;exact⟨false,us,(Rd.seq h2).same' s,rfl,ss,xH h4 (uQ e1),of_decide_eq_true c,h.flat s ⟨⟨rfl,dz (Gz z ss) (of_decide_eq_true c)⟩,rfl⟩⟩
    |_=>exact h.elim
   |_=>exact h.elim
  |[],r,h=>
   cases m with
   |split=>
    cases r;obtain⟨c,h⟩:=h.bg;simp only[bR,decide_eq_true_eq]at c;refine⟨⟨hz,c.1⟩,fun p hp=>?_⟩;have r:∀ws:List Str,(ws.all fun w=>decide (w.length<=aa))=true->aM K F (ws.map D.str) (ws.map V.str):=by
     intro ws;induction ws with
     |nil=>intro _;exact rfl
     |cons w ws ih=>
      intro hc;obtain⟨c1,c2⟩:=we.mp hc;exact⟨_,_,rfl,⟨rfl,of_decide_eq_true c1⟩,ih c2⟩
    have h':PV K F H (.ok (.lst true (aD ((gW z).map D.str)))) Q:=by
     rw[frzs_strs'];exact h
    exact h'.lst s (r _ c.2) (by rw[az];exact c.1) hp
   |_=>exact h.elim
  |_::_::_,_,h=>exact h.elim
 |lst o xs=>
  obtain⟨a,us,rfl,h2,h3,h4⟩:=rx
  match ds,r,h with
  |[y],r,h=>
   obtain⟨u,r',rfl,ry,e⟩:=r;cases e;cases y<;>first|exact h.elim|skip
   rename_i k;cases ry;have h:PV K F H (KP m xs k) Q:=h;cases m<;>first|exact h.elim|skip
   ·have h:PV K F H ((R.opt (um xs)).bind fun bs=>.ok (.int (bs.count k))) Q:=h;cases q:um xs with
    |none=>rw[q]at h;exact h.elim
    |some bs=>
     rw[q]at h;have e:=AH h4 q;subst e;exact⟨bs,Rd.same s h2,PV.flat (d:=.int (bs.count k)) h s ⟨rfl,rfl⟩⟩
   ·have h:PV K F H ((R.opt (um xs)).bind fun bs=>.bg (decide (k∈bs)) (.ok (.int (bs.idxOf k)))) Q:=h;cases q:um xs with
    |none=>rw[q]at h;exact h.elim
    |some bs=>
     rw[q]at h;have e:=AH h4 q;subst e;obtain⟨c,h⟩:=PV.bg (show PV K F H (.bg (decide (k∈bs)) (.ok (.int (bs.idxOf k)))) Q from h);exact⟨bs,Rd.same s h2,of_decide_eq_true c,h.flat s ⟨rfl,rfl⟩⟩
  |[],_,h=>exact h.elim
  |_::_::_,_,h=>exact h.elim
 |_=>exact h.elim
end
variable{Q':List V->Hp->Prop}
variable{Y:bf}{is:List Nat}
variable{E:XK}
variable{nl:List Str}{fr:List Nat}
section
variable{K:PySem.W.Frag}{Γp:List PG}{M:List G}
theorem PV.bind[Ex]{r:R D}{f:D->R D}{Q':VK}(h:PV K F H (r.bind f) Q)(k:∀x F1 H1 v,bN F H F1 H1->aZ K F1 x v->PV K F1 H1 (f x) Q->Q' v H1):PV K F H r Q':=by
 cases r with
 |ok x=>
  intro F1 H1 v fp g fr rx;obtain⟨F2,g2,s2,rf⟩:=Qv g fr rx;exact k x F2 H1 v g2 rf (PV.grow h g2)
 |ex x=>exact h
 |bad=>exact h.elim
theorem PB.mO[Ex]{r:R D}{f:D->R α}{Q:α->Hp->Prop}{Q':VK}(h:PB K F H (r.bind f) Q)(k:∀x F1 H1 v,bN F H F1 H1->aZ K F1 x v->PB K F1 H1 (f x) Q->Q' v H1):PV K F H r Q':=by
 cases r with
 |ok x=>
  intro F1 H1 v fp g fr rx;obtain⟨F2,g2,s2,rf⟩:=Qv g fr rx;exact k x F2 H1 v g2 rf (PB.grow h g2)
 |ex x=>exact h
 |bad=>exact h.elim
theorem PB.bindB[Ex]{r:R β}{f:β->R α}{Q:α->Hp->Prop}{Q':β->Hp->Prop}(h:PB K F H (r.bind f) Q)(k:∀x F1 H1,bN F H F1 H1->PB K F1 H1 (f x) Q->Q' x H1):PB K F H r Q':=by
 cases r with
 |ok x=>exact fun F1 H1 g=>k x F1 H1 g (PB.grow h g)
 |ex x=>exact h
 |bad=>exact h.elim
theorem PV.bindB[Ex]{r:R β}{f:β->R D}{Q':β->Hp->Prop}(h:PV K F H (r.bind f) Q)(k:∀x F1 H1,bN F H F1 H1->PV K F1 H1 (f x) Q->Q' x H1):PB K F H r Q':=by
 cases r with
 |ok x=>exact fun F1 H1 g=>k x F1 H1 g (PV.grow h g)
 |ex x=>exact h
 |bad=>exact h.elim
theorem xF.Fx[Ex]{r:R (List D)}{f:List D->R D}(h:PV K F H (r.bind f) Q)(k:∀xs F1 H1 vs,bN F H F1 H1->aM K F1 xs vs->PV K F1 H1 (f xs) Q->Q' vs H1):xF K F H r Q':=by
 cases r with
 |ok x=>
  intro F1 H1 v fp g fr rx;obtain⟨F2,g2,s2,rf⟩:=zb g fr rx;exact k x F2 H1 v g2 rf (PV.grow h g2)
 |ex x=>exact h
 |bad=>exact h.elim
theorem PB.Xe[Ex]{r:R (List D)}{f:List D->R α}{Q:α->Hp->Prop}(h:PB K F H (r.bind f) Q)(k:∀xs F1 H1 vs,bN F H F1 H1->aM K F1 xs vs->PB K F1 H1 (f xs) Q->Q' vs H1):xF K F H r Q':=by
 cases r with
 |ok x=>
  intro F1 H1 v fp g fr rx;obtain⟨F2,g2,s2,rf⟩:=zb g fr rx;exact k x F2 H1 v g2 rf (PB.grow h g2)
 |ex x=>exact h
 |bad=>exact h.elim
theorem PV.Xf[Ex](h:PV K F H (.ok (.lst true ds)) Q)(g:bN F H F1 H1)(fr:gh fp H F1)(r:a9 K H1 F1 ds vs fp)(hl:vs.length<=aa)(hp:H1 p=none):Q (.ref p) (upd H1 p (.lst vs)):=by
 obtain⟨g2,hf⟩:=newList (vs:=vs) (o:=.lst vs) g.s hp;have np:p∉fp:=fun z=>by
  obtain⟨o,e,_⟩:=a9.ex ds vs fp r p z;rw[hp]at e;cases e
 refine h F1 _ (.ref p) (p::fp) (g.trans g2) ⟨b8.mpr ⟨np,fr.nd⟩,?_,?_⟩ ?_
 ·intro a ha;rcases aH.mp ha with rfl|ha
  ·exact a6.none g.h hp
  ·exact fr.nh a ha
 ·intro a ha;rcases aH.mp ha with rfl|ha
  ·exact hf
  ·exact fr.nf a ha
 ·unfold bL;rw[if_pos rfl];exact⟨p,vs,fp,rfl,bQ,hl,a9.mono (a6.refl _) ds vs fp (fun a ha=>aV (fun z=>np (by rw[<-z];exact ha))) r,rfl⟩
theorem PV.tupX[Ex](h:PV K F H (.ok (.tup ds)) Q)(g:bN F H F1 H1)(fr:gh fp H F1)(r:a9 K H1 F1 ds vs fp)(hl:vs.length<=aa)(hp:H1 p=none):Q (.ref p) (upd H1 p (.tup vs)):=by
 have g2:=xE (o:=.tup vs) g.s hp;have np:p∉fp:=fun z=>by
  obtain⟨o,e,_⟩:=a9.ex ds vs fp r p z;rw[hp]at e;cases e
 refine h _ _ (.ref p) fp (g.trans g2) ⟨fr.nd,fr.nh,fun a ha=>?_⟩ ?_
 ·rw[aV (fun z=>np (by rw[<-z];exact ha))];exact fr.nf a ha
 ·exact⟨p,vs,rfl,bQ,hl,a9.mono g2.f ds vs fp (fun a ha=>aV (fun z=>np (by rw[<-z];exact ha))) r⟩
theorem MY(z:Str):kO K F (uN z) ((chars z).map .v):=by
 unfold uN chars;have hs:=szl;induction z.cps.toList with
 |nil=>exact rfl
 |cons c r ih=>exact⟨_,_,rfl,⟨rfl,by show(1:Nat)<=_;omega⟩,ih⟩
theorem xK:∀{ds:List D}{vs:List V},aM K F ds vs->kO K F (aD ds) (vs.map .v)
|[],_,h=>by cases h;exact rfl
|d::ds,_,h=>by
 obtain⟨v,r,rfl,h2,h3⟩:=h;exact⟨_,_,rfl,(aZ.bh d v).mpr h2,xK h3⟩
theorem CW:∀{ds es:List D}{vs us:List V},aM K F ds vs->aM K F es us->kO K F (nc (aD ds) (aD es)) (qH vs us)
|[],_,_,_,h,h'=>by cases h;exact rfl
|d::ds,[],_,_,h,h'=>by
 obtain⟨v,r,rfl,h2,h3⟩:=h;cases h';exact rfl
|d::ds,e::es,_,_,h,h'=>by
 obtain⟨v,r,rfl,h2,h3⟩:=h;obtain⟨v',r',rfl,h2',h3'⟩:=h';have hs:=szl;exact⟨_,_,rfl,⟨_,rfl,⟨_,_,rfl,(aZ.bh d v).mpr h2,_,_,rfl,(aZ.bh e v').mpr h2',rfl⟩,by show(2:Nat)<=_;omega⟩,CW h3 h3'⟩
theorem AI:∀(ds es:List D),(nc ds es).length<=ds.length
|[],es=>by cases es<;>exact aN _
|d::ds,[]=>mE _
|d::ds,e::es=>Nat.succ_le_succ (AI ds es)
theorem GB:∀{ds:List D}{vs:List V} (n:Nat),aM K F ds vs->kO K F (iy n (aD ds)) (mJ n vs)
|[],_,n,h=>by cases h;exact rfl
|d::ds,_,n,h=>by
 obtain⟨v,r,rfl,h2,h3⟩:=h;have hs:=szl;exact⟨_,_,rfl,⟨_,rfl,⟨_,_,rfl,rfl,_,_,rfl,(aZ.bh d v).mpr h2,rfl⟩,by show(2:Nat)<=_;omega⟩,GB (n+1) h3⟩
theorem D_(lo:Int)(n:Nat):kO K F (je lo n) ((bG n).map fun(i:Nat)=>Item.v (.int (lo+(i:Int)))):=by
 unfold je;induction bG n with
 |nil=>exact rfl
 |cons c r ih=>exact⟨_,_,rfl,rfl,ih⟩
theorem Ea:∀(ds:List D) (n:Nat),(iy n ds).length=ds.length
|[],n=>rfl
|d::r,n=>by show(iy (n+1) r).length+1=_;rw[Ea r];rfl
theorem kO.mono(e:a6 F F'):∀{ds:List D}{its:List Item},kO K F ds its->kO K F' ds its
|[],_,h=>h
|d::ds,_,h=>by
 obtain⟨it,r,h1,h2,h3⟩:=h;refine⟨it,r,h1,?_,kO.mono e h3⟩;cases it with
 |v x=>exact aZ.mono e d x h2
 |tup xs=>obtain⟨es,q1,q2,q3⟩:=h2;exact⟨es,q1,aM.mono e es xs q2,q3⟩
theorem Eb{it:Item}{k:V->Hp->Prop}(s:a6 F H)(r:Xb K F d it)(h:∀F1 H1 v,bN F H F1 H1->aZ K F1 d v->k v H1):mkItem it H k:=by
 cases it with
 |v x=>exact h F H x (bN.refl s) r
 |tup xs=>
  obtain⟨ds,rfl,r2,r3⟩:=r;intro p hp;have g:=xE (o:=.tup xs) s hp;exact h _ _ _ g ⟨p,xs,rfl,bQ,r3,aM.mono g.f ds xs r2⟩
def l6(K:PySem.W.Frag)(F:Hp)(Y:bf)(O:L2.St):Prop:=∀(i:Nat) d,Y[i]?=some (some d)->∃v,O[i]?=some (some v)/\aZ K F d v
theorem l6.env{O:L2.St}(h:l6 K F Y O)(s:a6 F H):iL K F H is Y O:=⟨fun i _ d e=>h i d e,fun k d e=>let⟨v,h1,h2⟩:=h k d e;⟨v,F,h1,s,h2⟩⟩
theorem l6.mono{O:L2.St}(h:l6 K F Y O)(e:a6 F F'):l6 K F' Y O:=fun i d q=>by
 obtain⟨v,h1,h2⟩:=h i d q;exact⟨v,h1,aZ.mono e d v h2⟩
theorem l6.set{O:L2.St}{i:Nat}(h:l6 K F Y O)(hl:Y.length=O.length)(r:aZ K F d v):l6 K F (Y.set i (some d)) (O.set i (some v)):=fun j e q=>by
 by_cases hij:i=j
 ·subst hij;rw[gw]at q;by_cases hi:i<Y.length
  ·simp[hi]at q;subst q;exact⟨v,by rw[gw];simp[<-hl,hi],r⟩
  ·simp[hi]at q
 ·rw[cB hij]at q;obtain⟨w,h1,h2⟩:=h j e q;exact⟨w,by rw[cB hij];exact h1,h2⟩
mutual
theorem ZF:∀(g:CG) {d:D}{v:V}{Y abd:bf}{O:L2.St}{F H:Hp}{Q:L2.St->Hp->Prop},l6 K F Y O->Y.length=O.length->a6 F H->aZ K F d v->pG g d Y=.ok abd->(∀σ',l6 K F abd σ'->abd.length=σ'.length->Q σ' H)->wG K M E g v O H Q
|.name i,d,v,Y,abd,O,F,H,Q,a,hl,s,r,e,h=>by
 cases e;exact h _ (a.set hl r) (by simp[hl])
|.tup gs,d,v,Y,abd,O,F,H,Q,a,hl,s,r,e,h=>by
 cases d with
 |tup ds=>
  obtain⟨b,vs,rfl,h2,h3,h4⟩:=r;obtain⟨c,e⟩:=jL e;exact⟨true,vs,(tupS h2).same' s,rfl,by rw[h4.len];exact of_decide_eq_true c,Xg gs a hl s h4 e h⟩
 |_=>cases e
|.sub _ _,d,v,Y,abd,O,F,H,Q,a,hl,s,r,e,h=>by cases e
theorem Xg:∀(g:qh) {ds:List D}{vs:List V}{Y abd:bf}{O:L2.St}{F H:Hp}{Q:L2.St->Hp->Prop},l6 K F Y O->Y.length=O.length->a6 F H->aM K F ds vs->wm g ds Y=.ok abd->(∀σ',l6 K F abd σ'->abd.length=σ'.length->Q σ' H)->Jr K M E g vs O H Q
|.nil,ds,vs,Y,abd,O,F,H,Q,a,hl,s,r,e,h=>by
 cases ds with
 |nil=>cases r;cases e;exact h O a hl
 |cons d dr=>cases e
|.cons g gr,ds,vs,Y,abd,O,F,H,Q,a,hl,s,r,e,h=>by
 cases ds with
 |nil=>cases e
 |cons d dr=>
  obtain⟨v,vr,rfl,r1,r2⟩:=r;obtain⟨σ2,e1,e2⟩:=cu e;exact ZF g a hl s r1 e1 fun σ' a' hl'=>Xg gr a' hl' s r2 e2 h
end
theorem MZ{O:L2.St}(h:iL K F H fr Y O):l6 K F (nl.map (fun _=>none)++fr.map (fun i=>Y.getD i none)) (nl.map (fun _=>none)++fr.map (fun i=>O.getD i none)):=by
 intro i d e;by_cases hi:i<nl.length
 ·rw[e_ (by simpa using hi)]at e;rw[bP]at e;cases q:nl[i]? with
  |none=>rw[q]at e;cases e
  |some x=>rw[q]at e;cases e
 ·rw[cP (by simpa using hi)]at e ⊢;simp only[az,bP]at e ⊢;cases q:fr[i-nl.length]? with
  |none=>rw[q]at e;cases e
  |some j=>
   rw[q]at e;have e:Y.getD j none=some d:=by simpa using e
   have e':Y[j]?=some (some d):=by
    rw[eB]at e;cases z:Y[j]? with
    |none=>rw[z]at e;cases e
    |some o=>rw[z]at e;simp at e;rw[e]
   obtain⟨v,h1,h2⟩:=h.e j (gp q) d e';refine⟨v,?_,h2⟩;simp[eB,h1]
theorem M0{O:L2.St}:(nl.map (fun _=>(none:Option D))++fr.map (fun i=>Y.getD i none)).length=(nl.map (fun _=>(none:Option V))++fr.map (fun i=>O.getD i none)).length:=by simp
theorem GC[Ex]{E:XK}{tg:CG}{cond:CO}{elt:CE}{k:List V->Hp->Prop}
 (hc:∀{Y:bf}{O:L2.St}{F H:Hp}{Q:Bool->Hp->Prop},l6 K F Y O->a6 F H->PB K F H (pC Γp cond Y) Q->wC K M E cond O H Q)
 (he:∀{Y:bf}{O:L2.St}{F H:Hp}{Q:VK},l6 K F Y O->a6 F H->PV K F H (pE Γp elt Y) Q->wE K M E elt O H Q) (ok:Hp->Prop) (H0:Hp) (F0:Hp) :
 ∀(ds:List D) (its:List Item) (acc:List D) (vacc:List V) (fp:List Addr) (Y:bf) (O:L2.St) (F H:Hp),l6 K F Y O->Y.length=O.length->bN F0 H0 F H->kO K F ds its->(∀H'',a6 F H''->ok H'')->acc.length+ds.length<=aa->
  a9 K H F acc vacc fp->gh fp H0 F->
  (∀ys,dg (pG tg) (pC Γp cond) (pE Γp elt) ds Y=.ok ys->∀F' H' vs fp',bN F0 H0 F' H'->a9 K H' F' (acc++ys) vs fp'->gh fp' H0 F'->k vs H')->(∃ys,dg (pG tg) (pC Γp cond) (pE Γp elt) ds Y=.ok ys)->
  rB ok (wG K M E tg) (wC K M E cond) (wE K M E elt) k its vacc O H
|[],its,acc,vacc,fp,Y,O,F,H,a,hl,g,hi,hok,hz,ra,fr,hk,hy=>by
 cases hi;refine⟨hok H g.s,hk [] rfl F H vacc fp g (by rw[eZ];exact ra) fr⟩
|d::ds,its,acc,vacc,fp,Y,O,F,H,a,hl,g,hi,hok,hz,ra,fr,hk,hy=>by
 obtain⟨it,r,rfl,i1,i2⟩:=hi;obtain⟨ys,ey⟩:=hy;obtain⟨σ2,e1,e2⟩:=cu ey;obtain⟨b,e3,e4⟩:=cu e2;simp only[aB]at hz;refine⟨hok H g.s,by rw[ra.len];omega,Eb g.s i1 fun F1 H1 v g1 r1=>?_⟩;have fresh1:∀{F' H':Hp},bN F H F' H'->a9 K H' F' acc vacc fp/\gh fp H0 F':=fun g'=>by
  obtain⟨c1,c2⟩:=Xa g' fr ra;exact⟨c1,fr.nd,fr.nh,c2⟩
 refine ZF tg (a.mono g1.f) hl g1.s r1 e1 fun σ' a' hl'=>?_;refine hc a' g1.s ?_;rw[e3];intro F2 H2 g2;have g12:=g1.trans g2;have hok2:∀{F' H':Hp},bN F H F' H'->∀H'',a6 F' H''->ok H'':=fun g' H'' s''=>hok H'' (g'.f.trans s'');cases b with
 |false=>
  rw[if_neg aY];have e4:dg (pG tg) (pC Γp cond) (pE Γp elt) ds σ2=.ok ys:=e4;obtain⟨c1,c2⟩:=fresh1 g12;refine GC hc he ok H0 F0 ds r acc vacc fp σ2 σ' F2 H2 (a'.mono g2.f) hl' (g.trans g12) (kO.mono g12.f i2) (hok2 g12) (by omega) c1 c2 (fun zs ez=>?_) ⟨ys,e4⟩;refine hk zs ?_;simp only[dg,e1,R.bind,e3,Bool.false_eq_true,if_false];exact ez
 |true=>
  rw[if_pos rfl];have e4:((pE Γp elt σ2).bind fun y=>(dg (pG tg) (pC Γp cond) (pE Γp elt) ds σ2).bind fun ys=>.ok (y::ys))=.ok ys:=e4;obtain⟨y,e5,e6⟩:=cu e4;obtain⟨zs,e7,e8⟩:=cu e6;refine he (a'.mono g2.f) g2.s ?_;rw[e5];intro F3 H3 w f3 g3 fr3 r3;have g123:=g12.trans g3;obtain⟨c1,c2⟩:=fresh1 g123;have hx:∀a∈fp,∃o,H a=some o:=fun a ha=>by
   obtain⟨o,e,_⟩:=a9.ex acc vacc fp ra a ha;exact⟨o,e⟩
  have fr':gh (fp++f3) H0 F3:=gh.app (H1:=H) g.h fr hx c2.nf ⟨fr3.nd,fun a ha=>a6.none g12.h (fr3.nh a ha),fr3.nf⟩;refine GC hc he ok H0 F0 ds r (acc++[y]) (vacc++[w]) (fp++f3) σ2 σ' F3 H3 (a'.mono (g2.f.trans g3.f)) hl' (g.trans g123) (kO.mono g123.f i2) (hok2 g123) (by simp;omega) (a9.app c1 (a9.one r3)) fr' (fun zs' ez=>?_) ⟨zs,e7⟩;rw[aW];refine hk (y::zs') ?_;simp only[dg,e1,R.bind,e3,e5,ez,if_true]
end
variable{k:(Hp->Prop)->List Item->Hp->Prop}
variable{ps:List (Str×Nat)}
variable{as:i9}
variable{g:Nat}
section
variable{K:PySem.W.Frag}{Γp:List PG}{M:List G}
mutual
theorem CY:∀d:D,bh (bh d)=bh d
|.non=>rfl
|.bl _=>rfl
|.int _=>rfl
|.str _=>rfl
|.lst o xs=>by show D.lst false (aD (aD xs))=_;rw[dU xs];rfl
|.tup xs=>by show D.tup (aD (aD xs))=_;rw[dU xs];rfl
|.cst xs=>by show D.cst (aD (aD xs))=_;rw[dU xs];rfl
|.exc C ks xs=>by show D.exc C ks (aD (aD xs))=_;rw[dU xs];rfl
theorem dU:∀ds:List D,aD (aD ds)=aD ds
|[]=>rfl
|d::r=>by show bh (bh d)::aD (aD r)=_;rw[CY d,dU r];rfl
end
theorem PV.isOk[Ex]{r:R D}(h:PV K F H r Q)(n:r.bE):∃d,r=.ok d:=h.some n
theorem PI'.isOk[Ex]{r:R (Bool×List D)}(h:PI' K A F H r k)(n:r.bE):∃d,r=.ok d:=by
 cases r with
 |ok d=>exact⟨d,rfl⟩
 |ex x=>exact absurd rfl (n x)
 |bad=>exact h.elim
theorem PB.isOk[Ex]{r:R α}{Q:α->Hp->Prop}(h:PB K F H r Q)(n:r.bE):∃d,r=.ok d:=by
 cases r with
 |ok d=>exact⟨d,rfl⟩
 |ex x=>exact absurd rfl (n x)
 |bad=>exact h.elim
theorem CZ{r:R α}{a:α}(h:r.gD=.ok a):r=.ok a:=by
 cases r with
 |ok b=>exact h
 |ex x=>cases h
 |bad=>cases h
theorem PB.Tw[Ex]{r:R D}{Q:Bool->Hp->Prop}(h:PB K F H (r.bind gP) Q):PV K F H r (fun x H1=>ku K x H1 fun b=>Q b H1):=by
 refine h.mO fun x F1 H1 v g r hb=>?_;obtain⟨b,e⟩:=hb.isOk (vJ x);rw[e]at hb;exact KS g.s r e (hb F1 H1 (bN.refl g.s))
theorem xM(F:Hp):a6 (fun _=>none) F:=fun b o h=>by cases h
theorem QC(r:aZ K F x v)(h:qJ x=.ok ds):ds.length<=aa:=by
 cases x with
 |str z=>cases h;unfold uN;rw[az,uP];exact r.2
 |lst o xs=>cases h;obtain⟨a,vs,_,_,h3,h4⟩:=r;rw[jW,<-h4.len];exact h3
 |tup xs=>cases h;obtain⟨a,vs,_,_,h3,h4⟩:=r;rw[jW,<-h4.len];exact h3
 |_=>cases h
theorem YY{G:Hp}(s:a6 G H)(r:aZ K G x v)(e:qJ x=.ok ds)(h:∀ok its,(∀H'',a6 G H''->ok H'')->kO K G ds its->ds.length<=aa->k ok its H):CN K v H k:=by
 have hl:=QC r e;cases x with
 |str z=>cases e;obtain⟨rfl,hz⟩:=r;exact⟨hz,h _ _ (fun _ _=>trivial) (MY z) hl⟩
 |lst o xs=>
  cases e;obtain⟨a,vs,rfl,h2,h3,h4⟩:=r;exact⟨false,vs,(Rd.seq h2).same' s,h _ _ (fun _ s'=>(Rd.seq h2).same' s') (xK h4) hl⟩
 |tup xs=>
  cases e;obtain⟨a,vs,rfl,h2,h3,h4⟩:=r;exact⟨true,vs,(tupS h2).same' s,h _ _ (fun _ s'=>(tupS h2).same' s') (xK h4) hl⟩
 |_=>cases e
theorem YZ{is:List D}(r:aM K F ds vs)(e:nS ds=.ok is)(h:∀its,(∀G,kO K G is its)->is.length<=aa->k (fun _=>True) its H):xr vs H k:=by
 have hs:=szl
 match ds,r,e with
 |[x],r,e=>
  obtain⟨v,r',rfl,rx,er⟩:=r;cases er;cases x with
  |int j=>
   cases rx;obtain⟨c,e2⟩:=jL e;cases e2;have c:=of_decide_eq_true c;refine⟨⟨c.1,by omega⟩,h _ (fun G=>?_) (by unfold je;rw[az,jF];exact c.2)⟩;have q:=D_ (K:=K) (F:=G) 0 j.toNat;simpa using q
  |_=>cases e
 |[x,y],r,e=>
  obtain⟨v,r',rfl,rx,u,r2,rfl,ry,er⟩:=r;cases er;cases x with
  |int i=>
   cases rx;cases y with
   |int j=>
    cases ry;obtain⟨c,e2⟩:=jL e;cases e2;have c:=of_decide_eq_true c;exact⟨⟨c.1,c.2.1,c.2.2.1,c.2.2.2.1⟩,h _ (fun G=>D_ i _) (by unfold je;rw[az,jF];exact c.2.2.2.2)⟩
   |_=>cases e
  |_=>cases e
 |[],_,e=>cases e
 |_::_::_::_,_,e=>
  unfold nS at e;split at e<;>first|(cases e)|(rename_i z;cases z)
theorem band'{a:Bool}(h:(a&&b)=true):a=true/\b=true:=by simpa using h
theorem M1{O:L2.St}(n:KQ K H Y O):∀(ps:List (Str×Nat)) (a y:Str),nT Y ps a=some y->uK O ps a=some y
|[],a,y,h=>h
|p::r,a,y,h=>by
 have h:(match Y[p.2]? with
  |some (some d)=>(vI d).bind fun y=>nT Y r (a++p.1++y)
  |_=>none)=some y:=h
 show(match O[p.2]? with
  |some (some v)=>(vz v).bind fun y=>uK O r (a++p.1++y)
  |_=>none)=some y
 cases q:Y[p.2]? with
 |none=>rw[q]at h;cases h
 |some o=>
  cases o with
  |none=>rw[q]at h;cases h
  |some d=>
   rw[q]at h;obtain⟨v,F',h1,_,h2⟩:=n p.2 d q;rw[h1];have e:∀z,vI d=some z->vz v=some z:=fun z hz=>by
    cases d<;>first|cases hz|skip
    ·cases h2;exact hz
    ·obtain⟨rfl,_⟩:=h2;rfl
   cases c:vI d with
   |none=>have h:(vI d).bind (fun y=>nT Y r (a++p.1++y))=some y:=h;rw[c]at h;cases h
   |some z=>
    have h:(vI d).bind (fun y=>nT Y r (a++p.1++y))=some y:=h;rw[c]at h;show(vz v).bind (fun y=>uK O r (a++p.1++y))=some y;rw[e z c];exact M1 n r _ y h
theorem Y0[Ex]{O:L2.St}(n:KQ K H Y O)(s:a6 F H)(h:PV K F H ((R.opt (nT Y ps eU)).bind fun y=>.bg (decide (y.length<=aa)) (.ok (.str y))) Q):∃y,uK O ps eU=some y/\y.length<=aa/\Q (.str y) H:=by
 cases q:nT Y ps eU with
 |none=>rw[q]at h;exact h.elim
 |some y=>
  rw[q]at h;obtain⟨c,h⟩:=PV.bg (show PV K F H (.bg (decide (y.length<=aa)) (.ok (.str y))) Q from h);have c:=of_decide_eq_true c;exact⟨y,M1 n ps _ y q,c,h.flat s ⟨⟨rfl,c⟩,rfl⟩⟩
theorem Y3[Ex](h:PV K F H (jI .len [x]) Q)(s:a6 F H):PV K F' H (jI .len [x]) Q:=by
 cases x<;>first|exact PV.int h s|exact h.elim
theorem Tz[Ex]{f:Bf}{O:L2.St}(n:KQ K H Y O)(s:a6 F H)(hl:ue f as=true)(h:PV K F H ((eW Γp as Y).bind fun ds=>jI f ds) Q):wEs K M Ex.E as O H fun vs H1=>Au K f vs H1 Q:=by
 unfold ue at hl;split at hl
 ·rename_i k;have h:PV K F H (((match Y[k]? with
   |some (some d)=>R.ok (bh d)
   |_=>.bad).bind fun x=>(R.ok []).bind fun xs=>.ok (x::xs)).bind fun ds=>jI .len ds) Q:=h
  show lF O k fun v=>Au K .len [v] H Q;unfold lF;cases q:Y[k]? with
  |none=>rw[q]at h;exact h.elim
  |some o=>
   cases o with
   |none=>rw[q]at h;exact h.elim
   |some d=>
    rw[q]at h;obtain⟨v,F',h1,h2,h3⟩:=n k d q;rw[h1];exact KU h2 (show aM K F' [bh d] [v]from⟨v,[],rfl,(aZ.bh d v).mpr h3,rfl⟩) (Y3 (show PV K F H (jI .len [bh d]) Q from h) s)
 ·cases hl
theorem M2(hΓ:dO K Γp M)[Ex]{O:L2.St}(hE:∀QA:List V->Hp->Prop,xF K F H (eW Γp as Y) QA->wEs K M Ex.E as O H QA)(h:PV K F H (pE Γp (.call g as) Y) Q):wE K M Ex.E (.call g as) O H Q:=by
 have h:PV K F H (match Γp[g]? with
  |some (.fn m dds)=>(eW Γp as Y).bind fun ds=>m (aD ds++dds)
  |_=>.bad) Q:=h
 show(match M[g]? with
  |some (.fn sp dvs)=>wEs K M Ex.E as O H fun vs H1=>sp (vs++dvs) H1 Q Ex.E
  |_=>False)
 cases q:Γp[g]? with
 |none=>rw[q]at h;exact h.elim
 |some p=>
  obtain⟨g',e1,e2⟩:=hΓ.get g q;rw[q]at h;rw[e1];cases p<;>first|exact h.elim|skip
  ·rename_i m dds;cases g'<;>first|exact e2.elim|skip
   ·rename_i sp dvs;refine hE _ (xF.Fx (show PV K F H ((eW Γp as Y).bind fun ds=>m (aD ds++dds)) Q from h) fun ds F1 H1 vs g1 r1 h1=>?_);exact e2.1 _ _ _ _ ⟨F1,aD ds++dds,g1.s,by rw[o8,dU,e2.2.1],aM.app ((aM.aD ds vs).mpr r1) (aM.mono (xM F1) dds dvs e2.2.2),h1⟩
mutual
theorem fR(hΓ:dO K Γp M)[Ex]:∀(e:CE) {Y:bf}{O:L2.St}{F H:Hp}{Q:VK},iL K F H (b_ e) Y O->a6 F H->cV e=true->PV K F H (pE Γp e Y) Q->wE K M Ex.E e O H Q
|.var i,Y,O,F,H,Q,env,s,lt,h=>by
 have h:PV K F H (match Y[i]? with
  |some (some d)=>.ok (bh d)
  |_=>.bad) Q:=h
 show lF O i fun v=>Q v H;unfold lF;cases q:Y[i]? with
 |none=>rw[q]at h;exact h.elim
 |some o=>
  cases o with
  |none=>rw[q]at h;exact h.elim
  |some d=>
   rw[q]at h;obtain⟨v,h1,h2⟩:=env.e i (a8.mpr rfl) d q;rw[h1];exact h.here s h2
|.con v,Y,O,F,H,Q,env,s,lt,h=>by
 have h:PV K F H (xD v) Q:=h;show Q v H;unfold xD at h;cases v<;>first|exact h.elim|exact h.flat s ⟨rfl,rfl⟩|exact h.flat s ⟨⟨rfl,of_decide_eq_true lt⟩,rfl⟩
|.glo g,Y,O,F,H,Q,env,s,lt,h=>by
 have h:PV K F H (match Γp[g]? with
  |some (.val d)=>.ok (bh d)
  |_=>.bad) Q:=h
 show(match M[g]? with
  |some (.val v)=>Q v H
  |some (.tup a _)=>Q (.ref a) H
  |_=>False)
 cases q:Γp[g]? with
 |none=>rw[q]at h;exact h.elim
 |some p=>
  obtain⟨g',e1,e2⟩:=hΓ.get g q;rw[q]at h;rw[e1];cases p with
  |val d=>
   cases g' with
   |val v=>exact h.here s (aZ.mono (xM F) d v e2)
   |tup a xs=>exact h.here s (aZ.mono (xM F) d _ e2)
   |_=>exact e2.elim
  |_=>exact h.elim
|.bin op a b,Y,O,F,H,Q,env,s,lt,h=>by
 obtain⟨l1,l2⟩:=band' lt;refine fR hΓ a env.l s l1 (PV.bind (show PV K F H ((pE Γp a Y).bind fun x=>(pE Γp b Y).bind fun y=>dF op x y) Q from h) fun x F1 H1 v g1 r1 h1=>?_);refine fR hΓ b (env.r.mono g1) g1.s l2 (h1.bind fun y F2 H2 u g2 r2 h2=>?_);exact YW g2.s (aZ.mono g2.f x v r1) r2 h2
|.nset a,Y,O,F,H,Q,env,s,lt,h=>by
 refine fR hΓ a env s lt (PV.bind (show PV K F H ((pE Γp a Y).bind fun x=>BD x) Q from h) fun x F1 H1 v g1 r1 h1=>?_);cases x with
 |lst o ds=>
  have h1:PV K F1 H1 (match jV ds with
   |some ss=>.bg (decide (ss.length<4000)) (.ok (.int (nL ss).length))
   |none=>.bad) Q:=h1
  split at h1
  ·rename_i ss e1;obtain⟨c,h1⟩:=PV.bg h1;obtain⟨b,us,rfl,k2,k3,k4⟩:=r1;have e2:=xH k4 e1;subst e2;exact⟨b,ss,rfl,Rd.same g1.s k2,of_decide_eq_true c,h1.flat g1.s ⟨rfl,rfl⟩⟩
  ·exact h1.elim
 |_=>exact h1.elim
|.neg a,Y,O,F,H,Q,env,s,lt,h=>by
 refine fR hΓ a env s lt (PV.bind (show PV K F H ((pE Γp a Y).bind fun x=>match x with|.int i=>.ok (.int (-i))|_=>.bad) Q from h) fun x F1 H1 v g1 r1 h1=>?_);cases x with
 |int i=>cases r1;exact h1.flat g1.s ⟨rfl,rfl⟩
 |_=>exact h1.elim
|.not a,Y,O,F,H,Q,env,s,lt,h=>by
 refine fR hΓ a env s lt (PV.bind (show PV K F H ((pE Γp a Y).bind fun x=>(gP x).bind fun b=>.ok (.bl (!b))) Q from h) fun x F1 H1 v g1 r1 h1=>?_);obtain⟨d,e⟩:=h1.isOk (bE.bind (vJ x) fun _=>bE.ok);obtain⟨b,e1,e2⟩:=cu e;rw[e1]at h1;exact KS g1.s r1 e1 (h1.flat g1.s ⟨rfl,rfl⟩)
|.and a b,Y,O,F,H,Q,env,s,lt,h=>by
 obtain⟨l1,l2⟩:=band' lt;refine fR hΓ a env.l s l1 (PV.bind (show PV K F H ((pE Γp a Y).bind fun x=>match x with|.bl c=>if c=true then pE Γp b Y else .ok (.bl false)|_=>.bad) Q from h) fun x F1 H1 v g1 r1 h1=>?_);cases x with
 |bl c=>
  cases r1;cases c with
  |true=>exact fR hΓ b (env.r.mono g1) g1.s l2 h1
  |false=>exact h1.flat g1.s ⟨rfl,rfl⟩
 |_=>exact h1.elim
|.or a b,Y,O,F,H,Q,env,s,lt,h=>by
 obtain⟨l1,l2⟩:=band' lt;refine fR hΓ a env.l s l1 (PV.bind (show PV K F H ((pE Γp a Y).bind fun x=>match x with|.bl c=>if c=true then .ok (.bl true)else pE Γp b Y|_=>.bad) Q from h) fun x F1 H1 v g1 r1 h1=>?_);cases x with
 |bl c=>
  cases r1;cases c with
  |false=>exact fR hΓ b (env.r.mono g1) g1.s l2 h1
  |true=>exact h1.flat g1.s ⟨rfl,rfl⟩
 |_=>exact h1.elim
|.ite c a b,Y,O,F,H,Q,env,s,lt,h=>by
 obtain⟨l1,l2⟩:=band' lt;obtain⟨l2,l3⟩:=band' l2;refine wo hΓ c env.l s l1 (PV.bindB (K:=K) (show PV K F H ((pT Γp c Y).bind fun k=>if k=true then pE Γp a Y else pE Γp b Y) Q from h) fun k F1 H1 g1 h1=>?_);cases k with
 |true=>exact fR hΓ a (env.r.l.mono g1) g1.s l2 h1
 |false=>exact fR hΓ b (env.r.r.mono g1) g1.s l3 h1
|.cmp op a b,Y,O,F,H,Q,env,s,lt,h=>by
 obtain⟨l1,l2⟩:=band' lt;refine fR hΓ a env.l s l1 (PV.bind (show PV K F H ((pE Γp a Y).bind fun x=>(pE Γp b Y).bind fun y=>bS op x y) Q from h) fun x F1 H1 v g1 r1 h1=>?_);refine fR hΓ b (env.r.mono g1) g1.s l2 (h1.bind fun y F2 H2 u g2 r2 h2=>?_);exact zc g2.s (aZ.mono g2.f x v r1) r2 h2
|.chain o1 o2 a b c,Y,O,F,H,Q,env,s,lt,h=>by
 obtain⟨l1,l2⟩:=band' lt;obtain⟨l2,l3⟩:=band' l2;refine fR hΓ a env.l s l1 (PV.bind (show PV K F H ((pE Γp a Y).bind fun x=>(pE Γp b Y).bind fun y=>(bS o1 x y).bind fun z=>match z with|.bl k=>if k=true then(pE Γp c Y).bind fun u=>bS o2 y u else .ok (.bl false)|_=>.bad) Q from h) fun x F1 H1 v g1 r1 h1=>?_);refine fR hΓ b (env.r.l.mono g1) g1.s l2 (h1.bind fun y F2 H2 u g2 r2 h2=>?_);refine zc g2.s (aZ.mono g2.f x v r1) r2 (h2.bind fun z F3 H3 w g3 r3 h3=>?_);cases z with
 |bl k=>
  cases r3;cases k with
  |true=>exact fR hΓ c (env.r.r.mono (g1.trans (g2.trans g3))) g3.s l3 (PV.bind (show PV K F3 H3 ((pE Γp c Y).bind fun u=>bS o2 y u) Q from h3) fun z F4 H4 w g4 r4 h4=>zc g4.s (aZ.mono (g3.f.trans g4.f) y u r2) r4 h4)
  |false=>exact h3.flat g3.s ⟨rfl,rfl⟩
 |_=>exact h3.elim
|.call g as,Y,O,F,H,Q,env,s,lt,h=>M2 hΓ (fun _ h=>nU hΓ as env s lt h) h
|.blt f as,Y,O,F,H,Q,env,s,lt,h=>by
 by_cases hl:ue f as=true
 ·exact Tz env.n s hl h
 have env:iL K F H (kN as) Y O:=by
  have e:iL K F H (if ue f as=true then[]else kN as) Y O:=env;rw[if_neg hl]at e;exact e
 refine nU hΓ as env s lt (xF.Fx (show PV K F H ((eW Γp as Y).bind fun ds=>jI f ds) Q from h) fun ds F1 H1 vs g1 r1 h1=>KU g1.s r1 h1)
|.isi a t,Y,O,F,H,Q,env,s,lt,h=>by
 refine fR hΓ a env s lt (PV.bind (show PV K F H ((pE Γp a Y).bind fun x=>.bg (jJ x) (.ok (.bl (nQ t x)))) Q from h) fun x F1 H1 v g1 r1 h1=>?_);obtain⟨hn,h1⟩:=h1.bg;exact Tu g1.s r1 hn (h1.flat g1.s ⟨rfl,rfl⟩)
|.mth m o as,Y,O,F,H,Q,env,s,lt,h=>by
 obtain⟨l1,l2⟩:=band' lt;refine fR hΓ o env.l s l1 (PV.bind (show PV K F H ((pE Γp o Y).bind fun x=>(eW Γp as Y).gD.bind fun ds=>kB m x ds) Q from h) fun x F1 H1 v g1 r1 h1=>?_);obtain⟨d,e⟩:=h1.isOk (bE.bind (bE.gD _) fun _=>sI _ _ _);obtain⟨ds,e1,e2⟩:=cu e;have e1':=CZ e1;rw[e1,<-e1']at h1;refine⟨MX g1.s r1 e2,nU hΓ as (env.r.mono g1) g1.s l2 (xF.Fx h1 fun ds F2 H2 vs g2 r2 h2=>?_)⟩;exact Tv g2.s (aZ.mono g2.f x v r1) r2 h2
|.ix a b,Y,O,F,H,Q,env,s,lt,h=>by
 obtain⟨l1,l2⟩:=band' lt;refine fR hΓ a env.l s l1 (PV.bind (show PV K F H ((pE Γp a Y).bind fun x=>(pE Γp b Y).bind fun y=>uM x y) Q from h) fun x F1 H1 v g1 r1 h1=>?_);refine fR hΓ b (env.r.mono g1) g1.s l2 (h1.bind fun y F2 H2 u g2 r2 h2=>?_);exact Xd g2.s (aZ.mono g2.f x v r1) r2 h2
|.sl a lo hi,Y,O,F,H,Q,env,s,lt,h=>by
 obtain⟨l1,l2⟩:=band' lt;obtain⟨l2,l3⟩:=band' l2;refine fR hΓ a env.l s l1 (PV.bind (show PV K F H ((pE Γp a Y).bind fun x=>(pO Γp lo Y).bind fun l=>(pO Γp hi Y).bind fun h=>JB x l h) Q from h) fun x F1 H1 v g1 r1 h1=>?_);refine TF hΓ lo (env.r.l.mono g1) g1.s l2 (h1.bindB fun l F2 H2 g2 h2=>?_);refine TF hΓ hi (env.r.r.mono (g1.trans g2)) g2.s l3 (h2.bindB fun l' F3 H3 g3 h3=>?_);exact okSl g3.s (aZ.mono (g2.f.trans g3.f) x v r1) h3
|.lst as,Y,O,F,H,Q,env,s,lt,h=>by
 have h:PV K F H ((eW Γp as Y).bind fun ds=>.bg (decide (ds.length<=aa)) (.ok (.lst true ds))) Q:=h;refine nU hΓ as env s lt ?_;cases e1:eW Γp as Y with
 |ex x=>rw[e1]at h;exact h
 |bad=>rw[e1]at h;exact h.elim
 |ok ds=>
 rw[e1]at h;obtain⟨c,h⟩:=PV.bg h;intro F1 H1 vs fp g fr r;have hl:vs.length<=aa:=by rw[r.len];exact of_decide_eq_true c
 exact⟨hl,fun p hp=>h.Xf g fr r hl hp⟩
|.tup as,Y,O,F,H,Q,env,s,lt,h=>by
 have h:PV K F H ((eW Γp as Y).bind fun ds=>.bg (decide (ds.length<=aa)) (.ok (.tup ds))) Q:=h;refine nU hΓ as env s lt ?_;cases e1:eW Γp as Y with
 |ex x=>rw[e1]at h;exact h
 |bad=>rw[e1]at h;exact h.elim
 |ok ds=>
 rw[e1]at h;obtain⟨c,h⟩:=PV.bg h;intro F1 H1 vs fp g fr r;have hl:vs.length<=aa:=by rw[r.len];exact of_decide_eq_true c
 exact⟨hl,fun p hp=>h.tupX g fr r hl hp⟩
|.fst ps,Y,O,F,H,Q,env,s,lt,h=>Y0 env.n s h
|.comp nl fr elt tg src cond,Y,O,F,H,Q,env,s,lt,h=>by
 obtain⟨l1,l2⟩:=band' lt;obtain⟨l2,l3⟩:=band' l2;have h:PV K F H ((pI Γp src Y).bind fun items=>(dg (pG tg) (pC Γp cond) (pE Γp elt) items.2 (nl.map (fun _=>none)++fr.map (fun i=>Y.getD i none))).gD.bind fun ds=>.ok (.lst true ds)) Q:=h;refine Xh hΓ src [] env.l s (fun _ h=>absurd h be) l2 ?_;cases e1:pI Γp src Y with
 |ex x=>rw[e1]at h;exact h
 |bad=>rw[e1]at h;exact h.elim
 |ok items=>
 rw[e1]at h;have h:PV K F H ((dg (pG tg) (pC Γp cond) (pE Γp elt) items.2 (nl.map (fun _=>none)++fr.map (fun i=>Y.getD i none))).gD.bind fun ds=>.ok (.lst true ds)) Q:=h;obtain⟨d,e⟩:=h.isOk (bE.bind (bE.gD _) fun _=>bE.ok);obtain⟨ys,e3,e4⟩:=cu e;rw[e]at h;cases e4;replace e3:=CZ e3;intro F1 H1 ok its g1 hok hi hl;rw[MU]at hok hi;refine@GC K Γp M ⟨E0⟩ E0 tg cond elt _ (fun a s' hb=>@ruC hΓ ⟨E0⟩ cond _ _ _ _ _ (a.env s') s' l3 hb) (fun a s' hv=>@fR hΓ ⟨E0⟩ elt _ _ _ _ _ (a.env s') s' l1 hv) ok H1 F1 items.2 its [] [] [] _ _ F1 H1 (MZ (env.r.mono g1)) M0 (bN.refl g1.s) hi hok (by simpa using hl) ⟨rfl,rfl⟩ .nil (fun zs ez F' H' vs fp' g' r' fr' p hp=>?_) ⟨ys,e3⟩;rw[e3]at ez;cases ez;have hz:vs.length<=aa:=by
  rw[r'.len,kJ];have:∀(ds:List D) (Y:bf) (ys:List D),dg (pG tg) (pC Γp cond) (pE Γp elt) ds Y=.ok ys->ys.length<=ds.length:=by
   intro ds;induction ds with
   |nil=>intro Y ys h;cases h;exact aN _
   |cons d ds ih=>
    intro Y ys h;obtain⟨σ2,i1,i2⟩:=cu h;obtain⟨b,i3,i4⟩:=cu i2;cases b with
    |false=>have:=ih σ2 ys i4;simp;omega
    |true=>
     obtain⟨y,i5,i6⟩:=cu (show((pE Γp elt σ2).bind fun y=>(dg (pG tg) (pC Γp cond) (pE Γp elt) ds σ2).bind fun ys=>.ok (y::ys))=.ok ys from i4);obtain⟨zs,i7,i8⟩:=cu i6;cases i8;have:=ih σ2 zs i7;simp;omega
  have:=this items.2 _ ys e3;omega
 refine h.Xf (g1.trans g') ⟨fr'.nd,fun a ha=>a6.none g1.h (fr'.nh a ha),fr'.nf⟩ r' hz hp
|.slp a lo hi k,Y,O,F,H,Q,env,s,lt,h=>by
 obtain⟨l1,l2⟩:=band' lt;obtain⟨l2,l3⟩:=band' l2;refine fR hΓ a env.l s l1 (PV.bind (show PV K F H ((pE Γp a Y).bind fun x=>(pO Γp lo Y).bind fun l=>(pO Γp hi Y).bind fun h=>Qu x l h k) Q from h) fun x F1 H1 v g1 r1 h1=>?_);refine TF hΓ lo (env.r.l.mono g1) g1.s l2 (h1.bindB fun l F2 H2 g2 h2=>?_);refine TF hΓ hi (env.r.r.mono (g1.trans g2)) g2.s l3 (h2.bindB fun l' F3 H3 g3 h3=>?_);exact YX g3.s (aZ.mono (g2.f.trans g3.f) x v r1) h3
theorem wo(hΓ:dO K Γp M)[Ex]:∀(e:CE) {Y:bf}{O:L2.St}{F H:Hp}{Q:Bool->Hp->Prop},iL K F H (b_ e) Y O->a6 F H->cV e=true->PB K F H (pT Γp e Y) Q->wT K M Ex.E e O H Q
|.not a,Y,O,F,H,Q,env,s,lt,h=>by
 exact wo hΓ a env s lt (PB.bindB (show PB K F H ((pT Γp a Y).bind fun b=>.ok (!b)) Q from h) fun b F1 H1 g1 h1=>h1 F1 H1 (bN.refl g1.s))
|.and a b,Y,O,F,H,Q,env,s,lt,h=>by
 obtain⟨l1,l2⟩:=band' lt;refine wo hΓ a env.l s l1 (PB.bindB (show PB K F H ((pT Γp a Y).bind fun c=>if c=true then pT Γp b Y else .ok false) Q from h) fun c F1 H1 g1 h1=>?_);cases c with
 |true=>exact wo hΓ b (env.r.mono g1) g1.s l2 h1
 |false=>exact h1 F1 H1 (bN.refl g1.s)
|.or a b,Y,O,F,H,Q,env,s,lt,h=>by
 obtain⟨l1,l2⟩:=band' lt;refine wo hΓ a env.l s l1 (PB.bindB (show PB K F H ((pT Γp a Y).bind fun c=>if c=true then .ok true else pT Γp b Y) Q from h) fun c F1 H1 g1 h1=>?_);cases c with
 |false=>exact wo hΓ b (env.r.mono g1) g1.s l2 h1
 |true=>exact h1 F1 H1 (bN.refl g1.s)
|.ite c a b,Y,O,F,H,Q,env,s,lt,h=>by
 obtain⟨l1,l2⟩:=band' lt;obtain⟨l2,l3⟩:=band' l2;refine wo hΓ c env.l s l1 (PB.bindB (show PB K F H ((pT Γp c Y).bind fun k=>if k=true then pT Γp a Y else pT Γp b Y) Q from h) fun k F1 H1 g1 h1=>?_);cases k with
 |true=>exact wo hΓ a (env.r.l.mono g1) g1.s l2 h1
 |false=>exact wo hΓ b (env.r.r.mono g1) g1.s l3 h1
|.cmp op a b,Y,O,F,H,Q,env,s,lt,h=>by
 obtain⟨l1,l2⟩:=band' lt;refine fR hΓ a env.l s l1 (PB.mO (show PB K F H ((pE Γp a Y).bind fun x=>(pE Γp b Y).bind fun y=>(bS op x y).bind fun z=>match z with|.bl k=>.ok k|_=>.bad) Q from h) fun x F1 H1 v g1 r1 h1=>?_);refine fR hΓ b (env.r.mono g1) g1.s l2 (h1.mO fun y F2 H2 u g2 r2 h2=>?_);refine zc g2.s (aZ.mono g2.f x v r1) r2 (h2.mO fun z F3 H3 w g3 r3 h3=>?_);cases z with
 |bl k=>cases r3;exact h3 F3 H3 (bN.refl g3.s)
 |_=>exact h3.elim
|.chain o1 o2 a b c,Y,O,F,H,Q,env,s,lt,h=>by
 obtain⟨l1,l2⟩:=band' lt;obtain⟨l2,l3⟩:=band' l2;refine fR hΓ a env.l s l1 (PB.mO (show PB K F H ((pE Γp a Y).bind fun x=>(pE Γp b Y).bind fun y=>(bS o1 x y).bind fun z=>match z with|.bl k=>if k=true then(pE Γp c Y).bind fun u=>(bS o2 y u).bind fun z=>match z with|.bl k=>.ok k|_=>.bad else .ok false|_=>.bad) Q from h) fun x F1 H1 v g1 r1 h1=>?_);refine fR hΓ b (env.r.l.mono g1) g1.s l2 (h1.mO fun y F2 H2 u g2 r2 h2=>?_);refine zc g2.s (aZ.mono g2.f x v r1) r2 (h2.mO fun z F3 H3 w g3 r3 h3=>?_);cases z with
 |bl k=>
  cases r3;cases k with
  |true=>
   refine fR hΓ c (env.r.r.mono (g1.trans (g2.trans g3))) g3.s l3 (PB.mO (show PB K F3 H3 ((pE Γp c Y).bind fun u=>(bS o2 y u).bind fun z=>match z with|.bl k=>.ok k|_=>.bad) Q from h3) fun z F4 H4 w g4 r4 h4=>?_);refine zc g4.s (aZ.mono (g3.f.trans g4.f) y u r2) r4 (h4.mO fun z F5 H5 w g5 r5 h5=>?_);cases z with
   |bl k=>cases r5;exact h5 F5 H5 (bN.refl g5.s)
   |_=>exact h5.elim
  |false=>exact h3 F3 H3 (bN.refl g3.s)
 |_=>exact h3.elim
|.var i,Y,O,F,H,Q,env,s,lt,h=>by
 have h:PB K F H (match Y[i]? with
  |some (some d)=>gP d
  |_=>.bad) Q:=h
 show lF O i fun v=>ku K v H fun b=>Q b H;unfold lF;cases q:Y[i]? with
 |none=>rw[q]at h;exact h.elim
 |some o=>
  cases o with
  |none=>rw[q]at h;exact h.elim
  |some d=>
   rw[q]at h;obtain⟨v,h1,h2⟩:=env.e i (a8.mpr rfl) d q;rw[h1];obtain⟨b,e⟩:=h.isOk (vJ d);rw[e]at h;exact KS s h2 e (h F H (bN.refl s))
|.call g as,Y,O,F,H,Q,env,s,lt,h=>by
 rw[Jz];have h':PB K F H ((pE Γp (.call g as) Y).bind gP) Q:=by
  revert h;show PB K F H (match Γp[g]? with
   |some (.fn m dds)=>((eW Γp as Y).bind fun ds=>m (aD ds++dds)).bind gP
   |_=>.bad) Q->PB K F H ((match Γp[g]? with
   |some (.fn m dds)=>(eW Γp as Y).bind fun ds=>m (aD ds++dds)
   |_=>.bad).bind gP) Q
  cases Γp[g]? with
  |none=>exact fun h=>h
  |some p=>cases p<;>exact fun h=>h
 have hv:=PB.Tw (K:=K) h';exact M2 hΓ (fun _ h=>nU hΓ as env s lt h) hv
|.blt f as,Y,O,F,H,Q,env,s,lt,h=>by
 have hv:=PB.Tw (K:=K) (show PB K F H (((eW Γp as Y).bind fun ds=>jI f ds).bind gP) Q from h);by_cases hl:ue f as=true
 ·exact Tz (Q:=fun x H2=>ku K x H2 fun b=>Q b H2) env.n s hl hv
 have env:iL K F H (kN as) Y O:=by
  have e:iL K F H (if ue f as=true then[]else kN as) Y O:=env;rw[if_neg hl]at e;exact e
 exact nU hΓ as env s lt (xF.Fx hv fun ds F1 H1 vs g1 r1 h1=>KU g1.s r1 h1)
|.isi a t,Y,O,F,H,Q,env,s,lt,h=>by
 refine fR hΓ a env s lt (PB.mO (show PB K F H ((pE Γp a Y).bind fun x=>.bg (jJ x) (.ok (nQ t x))) Q from h) fun x F1 H1 v g1 r1 h1=>?_);obtain⟨hn,h1⟩:=h1.bg;exact Tu g1.s r1 hn (show ku K (.bl (nQ t x)) H1 fun b=>Q b H1 from h1 F1 H1 (bN.refl g1.s))
|.mth m o as,Y,O,F,H,Q,env,s,lt,h=>by
 obtain⟨l1,l2⟩:=band' lt;refine fR hΓ o env.l s l1 (PB.mO (show PB K F H ((pE Γp o Y).bind fun x=>(eW Γp as Y).gD.bind fun ds=>(kB m x ds).bind gP) Q from h) fun x F1 H1 v g1 r1 h1=>?_);obtain⟨d,e⟩:=h1.isOk (bE.bind (bE.gD _) fun _=>bE.bind (sI _ _ _) fun _=>vJ _);obtain⟨ds,e1,e2⟩:=cu e;have e1':=CZ e1;rw[e1,<-e1']at h1;obtain⟨d',e3,e4⟩:=cu e2;refine⟨MX g1.s r1 e3,nU hΓ as (env.r.mono g1) g1.s l2 (PB.Xe h1 fun ds F2 H2 vs g2 r2 h2=>?_)⟩;exact Tv g2.s (aZ.mono g2.f x v r1) r2 (PB.Tw h2)
|.con v,Y,O,F,H,Q,env,s,lt,h=>h.elim
|.glo g,Y,O,F,H,Q,env,s,lt,h=>h.elim
|.bin op a b,Y,O,F,H,Q,env,s,lt,h=>h.elim
|.nset a,Y,O,F,H,Q,env,s,lt,h=>h.elim
|.neg a,Y,O,F,H,Q,env,s,lt,h=>h.elim
|.ix a b,Y,O,F,H,Q,env,s,lt,h=>by
 obtain⟨l1,l2⟩:=band' lt;have hv:=PB.Tw (K:=K) (show PB K F H (((pE Γp a Y).bind fun x=>(pE Γp b Y).bind fun y=>uM x y).bind gP) Q from h);refine fR hΓ a env.l s l1 (PV.bind hv fun x F1 H1 v g1 r1 h1=>?_);refine fR hΓ b (env.r.mono g1) g1.s l2 (h1.bind fun y F2 H2 u g2 r2 h2=>?_);exact Xd g2.s (aZ.mono g2.f x v r1) r2 h2
|.sl a lo hi,Y,O,F,H,Q,env,s,lt,h=>h.elim
|.lst as,Y,O,F,H,Q,env,s,lt,h=>h.elim
|.tup as,Y,O,F,H,Q,env,s,lt,h=>h.elim
|.fst _,Y,O,F,H,Q,env,s,lt,h=>h.elim
|.comp nl fr elt tg src cond,Y,O,F,H,Q,env,s,lt,h=>h.elim
|.slp a lo hi k,Y,O,F,H,Q,env,s,lt,h=>h.elim
theorem nU(hΓ:dO K Γp M)[Ex]:∀(as:i9) {Y:bf}{O:L2.St}{F H:Hp}{Q:List V->Hp->Prop},iL K F H (kN as) Y O->a6 F H->jK as=true->xF K F H (eW Γp as Y) Q->wEs K M Ex.E as O H Q
|.nil,Y,O,F,H,Q,env,s,lt,h=>(show xF K F H (.ok []) Q from h) F H [] [] (bN.refl s) .nil ⟨rfl,rfl⟩
|.cons a r,Y,O,F,H,Q,env,s,lt,h=>by
 obtain⟨l1,l2⟩:=band' lt;have h:xF K F H ((pE Γp a Y).bind fun x=>(eW Γp r Y).bind fun xs=>.ok (x::xs)) Q:=h;refine fR hΓ a env.l s l1 ?_;cases e1:pE Γp a Y with
 |ex x=>rw[e1]at h;exact h
 |bad=>rw[e1]at h;exact h.elim
 |ok x=>
  cases e2:eW Γp r Y with
  |ex x=>
   rw[e1]at h;simp only[R.bind,e2]at h;intro F1 H1 v f1 g1 fr1 r1;refine nU hΓ r (env.r.mono g1) g1.s l2 ?_;rw[e2];exact iK.grow (K:=K) (x:=x) h g1
  |bad=>rw[e1]at h;simp only[R.bind,e2]at h;exact h.elim
  |ok xs=>
   rw[e1]at h;simp only[R.bind,e2]at h;intro F1 H1 v f1 g1 fr1 r1;refine nU hΓ r (env.r.mono g1) g1.s l2 ?_;rw[e2];intro F2 H2 vs f2 g2 fr2 r2;obtain⟨c1,c2⟩:=carry g2 fr1 r1;refine h F2 H2 (v::vs) (f1++f2) (g1.trans g2) (gh.app g1.h fr1 (fun a ha=>?_) c2 fr2) ⟨v,vs,f1,f2,rfl,rfl,c1,r2⟩;obtain⟨o,e,_⟩:=bL.ex x v f1 r1 a ha;exact⟨o,e⟩
theorem TF(hΓ:dO K Γp M)[Ex]:∀(c:CO) {Y:bf}{O:L2.St}{F H:Hp}{Q:Option Int->Hp->Prop},iL K F H (Gx c) Y O->a6 F H->Gw c=true->PB K F H (pO Γp c Y) Q->wO K M Ex.E c O H Q
|.none,Y,O,F,H,Q,env,s,lt,h=>(show PB K F H (.ok none) Q from h) F H (bN.refl s)
|.some a,Y,O,F,H,Q,env,s,lt,h=>by
 refine fR hΓ a env s lt (PB.mO (show PB K F H ((pE Γp a Y).bind fun x=>match x with|.int i=>.ok (some i)|_=>.bad) Q from h) fun x F1 H1 v g1 r1 h1=>?_);cases x with
 |int i=>cases r1;exact h1 F1 H1 (bN.refl g1.s)
 |_=>exact h1.elim
theorem ruC(hΓ:dO K Γp M)[Ex]:∀(c:CO) {Y:bf}{O:L2.St}{F H:Hp}{Q:Bool->Hp->Prop},iL K F H (Gx c) Y O->a6 F H->Gw c=true->PB K F H (pC Γp c Y) Q->wC K M Ex.E c O H Q
|.none,Y,O,F,H,Q,env,s,lt,h=>(show PB K F H (.ok true) Q from h) F H (bN.refl s)
|.some a,Y,O,F,H,Q,env,s,lt,h=>wo hΓ a env s lt h
theorem Xh(hΓ:dO K Γp M)[Ex]:∀(c:CI) (A:List Addr) {Y:bf}{O:L2.St}{F H:Hp}{k:(Hp->Prop)->List Item->Hp->Prop},iL K F H (uO c) Y O->a6 F H->ny H A->ltI c=true->PI' K A F H (pI Γp c Y) k->wI K M Ex.E c O H k
|.seq a,A,Y,O,F,H,k,env,s,hA,lt,h=>by
 have h:PI' K A F H ((pE Γp a Y).bind fun x=>(qJ x).bind fun ds=>.ok (aX x,ds)) k:=h;refine fR hΓ a env s lt ?_;cases e1:pE Γp a Y with
 |ex x=>rw[e1]at h;exact h
 |bad=>rw[e1]at h;exact h.elim
 |ok x=>
 rw[e1]at h;have h:PI' K A F H ((qJ x).bind fun ds=>.ok (aX x,ds)) k:=h;obtain⟨o,e⟩:=h.isOk (bE.bind (Qx x) fun _=>bE.ok);obtain⟨ds,e3,e4⟩:=cu (show((qJ x).bind fun ds=>R.ok (aX x,ds))=.ok o from e);rw[e]at h;cases e4;intro F1 H1 v fp g fr r;obtain⟨F2,g2,r2⟩:=Xc hA g fr r;exact YY ((D8 _ _ _).trans g2.s) r2 e3 fun ok its h1 h2 h3=>h F2 H1 ok its g2 h1 h2 h3
|.range as,A,Y,O,F,H,k,env,s,hA,lt,h=>by
 have h:PI' K A F H ((eW Γp as Y).bind fun xs=>(nS xs).bind fun ds=>.ok (true,ds)) k:=h;refine nU hΓ as env s lt ?_;cases e1:eW Γp as Y with
 |ex x=>rw[e1]at h;exact h
 |bad=>rw[e1]at h;exact h.elim
 |ok xs=>
 rw[e1]at h;have h:PI' K A F H ((nS xs).bind fun ds=>.ok (true,ds)) k:=h;obtain⟨o,e⟩:=h.isOk (bE.bind (Qy xs) fun _=>bE.ok);obtain⟨ds,e3,e4⟩:=cu (show((nS xs).bind fun ds=>R.ok (true,ds))=.ok o from e);rw[e]at h;cases e4;intro F1 H1 vs fp g fr r;obtain⟨F2,g2,_,r2⟩:=zb g fr r;exact YZ r2 e3 fun its h1 h2=>h F2 H1 _ its g2 (fun _ _=>trivial) (h1 _) h2
|.zip as,A,Y,O,F,H,k,env,s,hA,lt,h=>by
 have h:PI' K A F H ((eW Γp as Y).bind fun xs=>tK xs) k:=h;refine nU hΓ as env s lt ?_;cases e1:eW Γp as Y with
 |ex x=>rw[e1]at h;exact h
 |bad=>rw[e1]at h;exact h.elim
 |ok xs=>
 rw[e1]at h;have h:PI' K A F H (tK xs) k:=h;unfold tK at h;split at h
 ·rename_i o1 xs o2 ys;intro F1 H1 vs fp g fr r;obtain⟨F2,g2,_,r2⟩:=zb g fr r;obtain⟨v,r',rfl,⟨b,us,rfl,h2,h3,h4⟩,v',r'',rfl,⟨b',us',rfl,h2',h3',h4'⟩,hr⟩:=r2;cases hr;exact .inl ⟨b,b',us,us',rfl,rfl,Rd.same g2.s h2,Rd.same g2.s h2',h F2 H1 _ _ g2 (fun _ s'=>⟨Rd.same s' h2,Rd.same s' h2'⟩) (CW h4 h4') (dz (AI _ _) (by rw[jW,<-h4.len];exact h3))⟩
 ·rename_i xs ys;intro F1 H1 vs fp g fr r;obtain⟨F2,g2,_,r2⟩:=zb g fr r;obtain⟨v,r',rfl,⟨b,us,rfl,h2,h3,h4⟩,v',r'',rfl,⟨b',us',rfl,h2',h3',h4'⟩,hr⟩:=r2;cases hr;exact .inr ⟨b,b',us,us',rfl,rfl,(tupS h2).same' g2.s,(tupS h2').same' g2.s,h F2 H1 _ _ g2 (fun _ s'=>⟨(tupS h2).same' s',(tupS h2').same' s'⟩) (CW h4 h4') (dz (AI _ _) (by rw[jW,<-h4.len];exact h3))⟩
 ·exact h.elim
|.enum a,A,Y,O,F,H,k,env,s,hA,lt,h=>by
 have h:PI' K A F H ((pE Γp a Y).bind fun x=>match x with|.lst _ xs=>.ok (aX x,iy 0 (aD xs))|_=>.bad) k:=h;refine fR hΓ a env s lt ?_;cases e1:pE Γp a Y with
 |ex x=>rw[e1]at h;exact h
 |bad=>rw[e1]at h;exact h.elim
 |ok x=>
 rw[e1]at h;intro F1 H1 v fp g fr r;obtain⟨F2,g2,r2⟩:=Xc hA g fr r;cases x with
 |lst o xs=>
  have s2:=(D8 (aX (.lst o xs)) F2 A).trans g2.s;obtain⟨b,vs,rfl,h2,h3,h4⟩:=r2;exact⟨vs,Rd.same s2 h2,h F2 H1 _ _ g2 (fun _ s'=>Rd.same s' h2) (GB 0 h4) (by rw[Ea,jW,<-h4.len];exact h3)⟩
 |_=>exact h.elim
end
end
noncomputable def ng:Nat->bf->bf
|_,[]=>[]
|0,o::r=>o.map bh::r
|n+1,o::r=>o::ng n r
noncomputable def mP:List Nat->bf->bf
|[],O=>O
|i::is,O=>mP is (ng i O)
noncomputable def gQ(is:List Nat)(o:Bool)(O:bf):bf:=match o with
|true=>O
|false=>mP is O
noncomputable def KY:CE->Option Nat
|.var i=>some i
|_=>none
noncomputable def kP(M:List PG):i9->bf->R (List D)
|.nil=>fun _=>.ok []
|.cons a r=>fun O=>match KY a with
 |some i=>match O[i]? with
  |some (some d)=>(kP M r (O.set i none)).bind fun ds=>.ok (d::ds)
  |_=>.bad
 |none=>(pE M a O).bind fun d=>.bg (aX d) ((kP M r O).bind fun ds=>.ok (d::ds))
noncomputable def R.alt{α β:Type}(x:R α)(f:α->R β)(y:R β):R β:=match x with
|.ok a=>f a
|_=>y
noncomputable def pM(M:List PG)(e:CE)(O:bf):R D:=match e with
|.var i=>match O[i]? with
 |some (some d)=>.ok d
 |_=>.bad
|.tup as=>(kP M as O).alt (fun ds=>.bg (decide (ds.length<=aa)) (.ok (.tup ds))) (pE M (.tup as) O)
|e=>pE M e O
noncomputable def nV:Option (Option D)->Bool
|some (some (.lst true _))=>true
|_=>false
noncomputable def C3(O:bf):CE->Option Int
|.var j=>match O[j]? with
 |some (some (.int n))=>some n
 |_=>none
|.con (.int n)=>some n
|.neg (.con (.int n))=>some (-n)
|_=>none
noncomputable def sJ(O:bf):CE->Option (Nat×List Int)
|.var k=>some (k,[])
|.ix o i=>(sJ O o).bind fun p=>(C3 O i).map fun n=>(p.1,p.2++[n])
|_=>none
noncomputable def eF:List Int->D->D->Option D
|[],x,d=>match x with
 |.lst true xs=>if xs.length<aa then some (.lst true (xs++[d]))else none
 |_=>none
|i::r,x,d=>match x with
 |.lst true xs=>(gY xs.length i).bind fun n=>(xs[n]?).bind fun y=>(eF r y d).map fun y'=>.lst true (xs.set n y')
 |.tup xs=>(gY xs.length i).bind fun n=>(xs[n]?).bind fun y=>(eF r y d).map fun y'=>.tup (xs.set n y')
 |_=>none
noncomputable def iX:List Int->D->Option D
|[],x=>some x
|i::r,x=>match x with
 |.lst true xs=>(gY xs.length i).bind fun n=>(xs[n]?).bind fun y=>iX r y
 |.tup xs=>(gY xs.length i).bind fun n=>(xs[n]?).bind fun y=>iX r y
 |_=>none
noncomputable def C4(M:List PG)(o a:CE)(O:bf):Fl:=match sJ O o with
|some p=>(pE M a O).nR false fun d=>match O[p.1]? with
 |some (some x)=>if aX d=true then(R.opt (eF p.2 x d)).aU fun x'=>.nx (O.set p.1 (some x'))else .bad
 |_=>.bad
|none=>.bad
noncomputable def C5(k:Nat)(is:List Nat)(d:D)(O:bf):Fl:=match d with
|.lst true ys=>match O[k]? with
 |some (some (.lst true xs))=>if(decide (xs.length+ys.length<=aa)&&(aX d||!is.contains k))=true then .nx ((gQ is (aX d) O).set k (some (.lst true (xs++ys))))else .bad
 |_=>.bad
|_=>.bad
noncomputable def pX(M:List PG)(e:CE)(O:bf):Fl:=match e with
|.mth m (.var k) as=>match m with
 |.append=>match as with
  |.cons a .nil=>(pE M a O).nR (nV O[k]?) fun d=>match O[k]? with
   |some (some (.lst true xs))=>if(decide (xs.length<aa)&&(aX d||!(b_ a).contains k))=true then .nx ((gQ (b_ a) (aX d) O).set k (some (.lst true (xs++[d]))))else .bad
   |_=>.bad
  |_=>.bad
 |.extend=>match as with
  |.cons a .nil=>(pE M a O).nR (nV O[k]?) fun d=>C5 k (b_ a) d O
  |_=>.bad
 |_=>(pE M e O).aU fun _=>.nx O
|.mth m (.ix o i) as=>match m with
 |.append=>match as with
  |.cons a .nil=>C4 M (.ix o i) a O
  |_=>.bad
 |_=>(pE M e O).aU fun _=>.nx O
|e=>(pE M e O).aU fun _=>.nx O
noncomputable def putL(xs:List D)(d j:D):Option D:=match j with
|.int j=>(gY xs.length j).map fun n=>.lst true (xs.set n d)
|_=>none
noncomputable def putIn(x d j:D):Option D:=match x with
|.lst true xs=>putL xs d j
|_=>none
noncomputable def pA(M:List PG)(g:CG)(e:CE)(O:bf):Fl:=match g with
|.name i=>(pE M e O).aU fun d=>.nx ((gQ (b_ e) (aX d) O).set i (some d))
|.tup gs=>(pE M e O).aU fun d=>(pG (.tup gs) d (gQ (b_ e) (aX d) O)).aU .nx
|.sub o i=>match o with
 |.var k=>(pE M e O).aU fun d=>(pE M i (gQ (b_ e) (aX d) O)).nR false fun j=>match O[k]? with
  |some (some x)=>if(aX d||!(b_ e).contains k)=true then(R.opt (putIn x d j)).aU fun x'=>.nx ((gQ (b_ e) (aX d) O).set k (some x'))else .bad
  |_=>.bad
 |_=>.bad
noncomputable def BF(C:Addr)(fs:List (Str×Nat))(ds:List D):D:=.exc C (fs.map (·.1)) (fs.map fun p=>bh ((D.non::ds).getD p.2 .non))
noncomputable def C6(M:List PG)(k:Nat)(is:List Int)(j:Nat)(a:CE)(O:bf):Fl:=match O[k]? with
|some (some x)=>match iX is x with
 |some (.lst true ys)=>if j<O.length then(pE M a (O.set j (some (.lst true ys)))).aU fun d=>if aX d=true then(R.opt (eF is x d)).aU fun x'=>.nx ((O.set k (some x')).set j none)else .bad else .bad
 |_=>.bad
|_=>.bad
noncomputable def vK(M:List PG)(s t:CS)(O:bf):Fl:=match s,t with
|.asg (.name j) o,.expr (.mth .append (.var i) (.cons a .nil))=>if i=j then(match sJ O o with|some p=>C6 M p.1 p.2 j a O|none=>.bad)else .bad
|_,_=>.bad
noncomputable def FN(i:Nat)(a:Int)(O:bf):D->Fl
|.int b=>.nx (O.set i (some (.int (a+b))))
|_=>.bad
mutual
noncomputable def pS(M:List PG)(n:Nat):CS->bf->Fl
|.expr e=>fun O=>pX M e O
|.asg g e=>fun O=>pA M g e O
|.aug i e=>fun O=>match O[i]? with
 |some (some (.int a))=>(pE M e O).aU fun d=>FN i a O d
 |_=>.bad
|.casg i e=>fun O=>(pE M e O).aU fun d=>.nx ((gQ (b_ e) (aX d) O).set i (some d))
|.tasg g e=>fun O=>pA M g e O
|.ret e=>fun O=>(pM M e O).aU .rt
|.ifs c a b=>fun O=>(pT M c O).aU fun k=>if k=true then dP M n a O else dP M n b O
|.whil c b=>fun O=>uo (pT M c) (dP M n b) n O
|.forr g src b=>fun O=>(pI M src O).aU fun items=>forR (pG g) (dP M n b) items.2 (gQ (uO src) items.1 O)
|.brk=>fun O=>.bk O
|.cont=>fun O=>.ct O
|.never=>fun _=>.bad
|.rais g as=>fun O=>match M[g]? with
 |some (.cls C fs k)=>(eW M as O).aU fun ds=>if(decide (ds.length+1=k)&&decide (fs.map (·.1)).Nodup)=true then .ex (BF C fs ds)else .bad
 |_=>.bad
noncomputable def dP(M:List PG)(n:Nat):b6->bf->Fl
|.nil=>fun O=>.nx O
|.cons s r=>fun O=>match pS M n s O with
 |.nx σ'=>dP M n r σ'
 |x=>x
|.two s t r=>fun O=>match vK M s t O with
 |.nx σ'=>dP M n r σ'
 |x=>x
end
noncomputable def uR(N:List Str)(ds:List D):bf:=ds.map some++aT (N.length-ds.length) none
noncomputable def KZ:Fl->R D
|.nx _=>.ok .non
|.rt d=>.ok d
|.ex x=>.ex x
|_=>.bad
noncomputable def GD(M:List PG)(n:Nat)(N:List Str)(c:b6)(ds:List D):R D:=KZ (dP M n c (uR N ds))
mutual
noncomputable def Ec:CS->Bool
|.expr e=>cV e
|.asg g e=>Xi g&&cV e
|.aug _ e=>cV e
|.casg _ e=>cV e
|.tasg g e=>Xi g&&cV e
|.ret e=>cV e
|.ifs c a b=>cV c&&(l7 a&&l7 b)
|.whil c b=>cV c&&l7 b
|.forr _ src b=>ltI src&&l7 b
|.rais _ as=>jK as
|_=>true
noncomputable def l7:b6->Bool
|.nil=>true
|.cons s r=>Ec s&&l7 r
|.two s t r=>Ec s&&(Ec t&&l7 r)
noncomputable def Xi:CG->Bool
|.sub o i=>cV o&&cV i
|_=>true
end
structure br (K:PySem.W.Frag) (F0 H0:Hp) (Y:bf) (O:L2.St) (F H:Hp) (fp:Nat->List Addr):Prop where
 g:bN F0 H0 F H
 len:Y.length=O.length
 rep:∀(i:Nat) d,Y[i]?=some (some d)->∃v,O[i]?=some (some v)/\bL K H F d v (fp i)
 ex:∀i,ny H (fp i)
 nd:∀i,(fp i).Nodup
 nf:∀i a,a∈fp i->F a=none
 nh:∀i a,a∈fp i->H0 a=none
 dis:∀i j a,a∈fp i->a∈fp j->i=j
structure jX (K:PySem.W.Frag) (H0 F H:Hp) (fp:Nat->List Addr) (d:D) (v:V) (f:List Addr):Prop where
 r:bL K H F d v f
 nd:f.Nodup
 nf:∀a∈f,F a=none
 nh:∀a∈f,H0 a=none
 dis:∀i a,a∈f->a∉fp i
variable{f:List Addr}
section
variable{K:PySem.W.Frag}{F0 H0 F H:Hp}{Y:bf}{O:L2.St}{fp:Nat->List Addr}
theorem AJ:∀(n:Nat) (O:bf) (i:Nat),(ng n O)[i]?=if i=n then(O[i]?).map (Option.map bh)else O[i]?
|n,[],i=>by cases n<;>simp[ng]
|0,o::r,0=>by simp[ng]
|0,o::r,i+1=>by simp[ng]
|n+1,o::r,0=>by simp[ng]
|n+1,o::r,i+1=>by
 simp only[ng,lY,AJ n r i];by_cases h:i=n
 ·simp[h]
 ·simp[h]
theorem GF:∀(n:Nat) (O:bf),(ng n O).length=O.length
|n,[]=>by cases n<;>rfl
|0,o::r=>rfl
|n+1,o::r=>by simp[ng,GF n r]
theorem Ed:∀(is:List Nat) (O:bf),(mP is O).length=O.length
|[],O=>rfl
|i::is,O=>by rw[mP,Ed is,GF]
noncomputable def ownAt(fp:Nat->List Addr)(is:List Nat):List Addr:=is.flatMap fp
theorem eS{a:Addr}:a∈ownAt fp is↔∃i∈is,a∈fp i:=by simp[ownAt,List.mem_flatMap]
theorem br.lists(I:br K F0 H0 Y O F H fp)(is:List Nat):ny H (ownAt fp is):=fun a ha=>by
 obtain⟨i,_,h⟩:=eS.mp ha;exact I.ex i a h
theorem br.env(I:br K F0 H0 Y O F H fp)(is:List Nat):iL K (adopt F H (ownAt fp is)) H is Y O:=⟨fun i hi d e=>by
 obtain⟨v,h1,h2⟩:=I.rep i d e;exact⟨v,h1,bL.fix (cX I.g.s) d v _ (fun a ha=>jl (eS.mpr ⟨i,hi,ha⟩)) h2⟩,fun k d e=>by
 obtain⟨v,h1,h2⟩:=I.rep k d e;exact⟨v,adopt F H (ownAt fp [k]),h1,eO I.g.s,bL.fix (cX I.g.s) d v _ (fun a ha=>jl (eS.mpr ⟨k,a8.mpr rfl,ha⟩)) h2⟩⟩
theorem br.TH(I:br K F0 H0 Y O F H fp)(g:bN (adopt F H (ownAt fp is)) H F' H'){i:Nat}{a:Addr}(ha:a∈fp i)(hn:a∉ownAt fp is):F' a=none:=by
 obtain⟨o,e,k⟩:=I.ex i a ha;cases q:F' a with
 |none=>rfl
 |some u=>exact((g.n a u q (by rw[jR hn];exact I.nf i a ha)).own e k).elim
theorem br.TJ(I:br K F0 H0 Y O F H fp)(g:bN (adopt F H (ownAt fp is)) H F' H'):bN F0 H0 F' H':=by
 refine⟨I.g.h.trans g.h,(I.g.f.trans (cX I.g.s)).trans g.f,g.s,fun b o h h'=>?_⟩;cases q:adopt F H (ownAt fp is) b with
 |none=>exact NT.back I.g.h (g.n b o h q)
 |some u=>
  by_cases z:b∈ownAt fp is
  ·obtain⟨i,_,hb⟩:=eS.mp z;exact .of (I.nh i b hb)
  ·rw[jR z]at q;exact I.g.n b u q h'
theorem br.back(I:br K F0 H0 Y O F H fp)(g:bN (adopt F H (ownAt fp is)) H F' H'):br K F0 H0 Y O (minus F' (ownAt fp is)) H' fp where
 g:=by
  have g0:=I.TJ g;refine⟨g0.h,fun b o h=>?_,(jS _ _).trans g0.s,fun b o h h'=>g0.n b o (jS _ _ b o h) h'⟩;have hn:b∉ownAt fp is:=fun z=>by
   obtain⟨i,_,hb⟩:=eS.mp z;have:=I.nf i b hb;rw[I.g.f b o h]at this;cases this
  rw[fN hn];exact g0.f b o h
 len:=I.len
 rep:=fun i d e=>by
  obtain⟨v,h1,h2⟩:=I.rep i d e;refine⟨v,h1,bL.mono ?_ d v _ (fun a ha=>?_) h2⟩
  ·intro b o h;have hn:b∉ownAt fp is:=fun z=>by
    obtain⟨i,_,hb⟩:=eS.mp z;have:=I.nf i b hb;rw[h]at this;cases this
   rw[fN hn];exact g.f b o (cX I.g.s b o h)
  ·obtain⟨o,e,_⟩:=I.ex i a ha;rw[e,g.h a o e]
 ex:=fun i=>(I.ex i).mono g.h
 nd:=I.nd
 nf:=fun i a ha=>by
  by_cases hn:a∈ownAt fp is
  ·exact AG hn
  ·rw[fN hn];exact I.TH g ha hn
 nh:=I.nh
 dis:=I.dis
theorem M3:∀(is:List Nat) (O:bf) (i:Nat),(mP is O)[i]?=some (some d)->∃d',O[i]?=some (some d')/\((i∈is/\d=bh d')\/(i∉is/\d=d')):=by
 have ff:∀d:D,L3.bh (L3.bh d)=L3.bh d:=CY;intro is;induction is with
 |nil=>intro O i h;exact⟨d,h,.inr ⟨be,rfl⟩⟩
 |cons j is ih=>
  intro O i h;obtain⟨d1,e1,e2⟩:=ih (ng j O) i h;rw[AJ]at e1;by_cases hj:i=j
  ·rw[if_pos hj]at e1;cases q:O[i]? with
   |none=>rw[q]at e1;cases e1
   |some o=>
    cases o with
    |none=>rw[q]at e1;cases e1
    |some d'=>
     rw[q]at e1;cases e1;refine⟨d',rfl,.inl ⟨by rw[hj];exact ay,?_⟩⟩;rcases e2 with⟨_,rfl⟩|⟨_,rfl⟩
     ·exact ff d'
     ·rfl
  ·rw[if_neg hj]at e1;refine⟨d1,e1,?_⟩;rcases e2 with⟨h1,h2⟩|⟨h1,h2⟩
   ·exact .inl ⟨aj _ h1,h2⟩
   ·exact .inr ⟨fun z=>by rcases aH.mp z with z|z;exact hj z;exact h1 z,h2⟩
theorem br.Xj(I:br K F0 H0 Y O F H fp)(g:bN (adopt F H (ownAt fp is)) H F' H'):br K F0 H0 (mP is Y) O F' H' (fun i=>if i∈is then[]else fp i) where
 g:=I.TJ g
 len:=by rw[Ed];exact I.len
 rep:=fun i d e=>by
  obtain⟨d',e1,e2⟩:=M3 is Y i e;rcases e2 with⟨h1,rfl⟩|⟨h1,rfl⟩
  ·obtain⟨v,q1,q2⟩:=(I.env is).e i h1 d' e1;exact⟨v,q1,by rw[if_pos h1];exact aZ.zP d' v (aZ.mono g.f d' v q2)⟩
  ·obtain⟨v,q1,q2⟩:=I.rep i d e1;refine⟨v,q1,?_⟩;rw[if_neg h1];refine bL.mono ((cX I.g.s).trans g.f) d v _ (fun a ha=>?_) q2;obtain⟨o,e,_⟩:=I.ex i a ha;rw[e,g.h a o e]
 ex:=fun i=>by
  by_cases h:i∈is
  ·rw[if_pos h];exact fun a ha=>absurd ha be
  ·rw[if_neg h];exact(I.ex i).mono g.h
 nd:=fun i=>by
  by_cases h:i∈is
  ·rw[if_pos h];exact iG
  ·rw[if_neg h];exact I.nd i
 nf:=fun i a ha=>by
  by_cases h:i∈is
  ·rw[if_pos h]at ha;exact absurd ha be
  ·rw[if_neg h]at ha;refine I.TH g ha fun z=>?_;obtain⟨j,hj,hb⟩:=eS.mp z;have:=I.dis i j a ha hb;subst this;exact h hj
 nh:=fun i a ha=>by
  by_cases h:i∈is
  ·rw[if_pos h]at ha;exact absurd ha be
  ·rw[if_neg h]at ha;exact I.nh i a ha
 dis:=fun i j a ha hb=>by
  by_cases h:i∈is
  ·rw[if_pos h]at ha;exact absurd ha be
  ·by_cases h':j∈is
   ·rw[if_pos h']at hb;exact absurd hb be
   ·rw[if_neg h]at ha;rw[if_neg h']at hb;exact I.dis i j a ha hb
theorem br.told(I:br K F0 H0 Y O F H fp)(g:bN (adopt F H (ownAt fp is)) H F' H')(fr:gh f H F')(r:bL K H' F' d v f) :
  ∃F1 fp1,br K F0 H0 (gQ is (aX d) Y) O F1 H' fp1/\jX K H0 F1 H' fp1 d v f/\(aX d=true->fp1=fp)/\∀i,i∉is->fp1 i=fp i:=by
 have nn:∀i a,a∈f->a∉fp i:=fun i a ha hb=>by
  obtain⟨o,e,_⟩:=I.ex i a hb;rw[fr.nh a ha]at e;cases e
 cases ho:aX d with
 |true=>
  refine⟨_,fp,I.back g,⟨bL.less (lI g.s ((I.lists is).mono g.h)) d v f ho r,fr.nd,fun a ha=>?_,fun a ha=>a6.none I.g.h (fr.nh a ha),nn⟩,fun _=>rfl,fun _ _=>rfl⟩;exact a6.none (jS _ _) (fr.nf a ha)
 |false=>
  refine⟨_,_,I.Xj g,⟨r,fr.nd,fr.nf,fun a ha=>a6.none I.g.h (fr.nh a ha),fun i a ha hb=>?_⟩,(fun z=>nomatch z),fun i hi=>if_neg hi⟩;by_cases h:i∈is
  ·rw[if_pos h]at hb;exact absurd hb be
  ·rw[if_neg h]at hb;exact nn i a ha hb
theorem br.set(I:br K F0 H0 Y O F H fp)(V:jX K H0 F H fp d v f)(k:Nat):br K F0 H0 (Y.set k (some d)) (O.set k (some v)) F H (fun i=>if i=k then f else fp i) where
 g:=I.g
 len:=by simp[I.len]
 rep:=fun i d' e=>by
  by_cases h:i=k
  ·subst h;rw[if_pos rfl];rw[gw]at e;by_cases hi:i<Y.length
   ·simp[hi]at e;subst e;exact⟨v,by rw[gw];simp[<-I.len,hi],V.r⟩
   ·simp[hi]at e
  ·rw[if_neg h];rw[cB (cT h)]at e;obtain⟨w,h1,h2⟩:=I.rep i d' e;exact⟨w,by rw[cB (cT h)];exact h1,h2⟩
 ex:=fun i=>by
  by_cases h:i=k
  ·rw[if_pos h];exact bL.ex d v f V.r
  ·rw[if_neg h];exact I.ex i
 nd:=fun i=>by
  by_cases h:i=k
  ·rw[if_pos h];exact V.nd
  ·rw[if_neg h];exact I.nd i
 nf:=fun i a ha=>by
  by_cases h:i=k
  ·rw[if_pos h]at ha;exact V.nf a ha
  ·rw[if_neg h]at ha;exact I.nf i a ha
 nh:=fun i a ha=>by
  by_cases h:i=k
  ·rw[if_pos h]at ha;exact V.nh a ha
  ·rw[if_neg h]at ha;exact I.nh i a ha
 dis:=fun i j a ha hb=>by
  by_cases h:i=k
  ·rw[if_pos h]at ha;by_cases h':j=k
   ·rw[h,h']
   ·rw[if_neg h']at hb;exact absurd hb (V.dis j a ha)
  ·rw[if_neg h]at ha;by_cases h':j=k
   ·rw[if_pos h']at hb;exact absurd ha (V.dis i a hb)
   ·rw[if_neg h']at hb;exact I.dis i j a ha hb
theorem br.put{k:Nat}{a:Addr}{o:HO}(I:br K F0 H0 Y O F H fp)(ha:a∈fp k)(hv:O[k]?=some (some v))(hr:bL K (upd H a o) F d v f)(nd:f.Nodup)(nf:∀b∈f,F b=none)(nh:∀b∈f,H0 b=none)(dis:∀i,i≠k->∀b∈f,b∉fp i) :
  br K F0 H0 (Y.set k (some d)) O F (upd H a o) (fun i=>if i=k then f else fp i):=by
 have hF:=I.nf k a ha;have hH0:=I.nh k a ha;have hne:∀i,i≠k->∀b∈fp i,b≠a:=fun i hi b hb z=>by
  subst z;exact hi (I.dis i k b hb ha)
 refine⟨⟨fun b u q=>by rw[aV (bY q hH0)];exact I.g.h b u q,I.g.f,fun b u q=>by rw[aV (bY q hF)];exact I.g.s b u q,I.g.n⟩,by simp[I.len],fun i d' e=>?_,fun i=>?_,fun i=>?_,fun i b hb=>?_,fun i b hb=>?_,fun i j b hb hc=>?_⟩
 ·by_cases h:i=k
  ·subst h;rw[if_pos rfl];rw[gw]at e;by_cases hi:i<Y.length
   ·simp[hi]at e;subst e;exact⟨v,hv,hr⟩
   ·simp[hi]at e
  ·rw[if_neg h];rw[cB (cT h)]at e;obtain⟨w,h1,h2⟩:=I.rep i d' e;exact⟨w,h1,bL.mono (a6.refl _) d' w _ (fun b hb=>aV (hne i h b hb)) h2⟩
 ·by_cases h:i=k
  ·rw[if_pos h];exact bL.ex d v f hr
  ·rw[if_neg h];intro b hb;obtain⟨u,e,q⟩:=I.ex i b hb;exact⟨u,by rw[aV (hne i h b hb)];exact e,q⟩
 ·by_cases h:i=k
  ·rw[if_pos h];exact nd
  ·rw[if_neg h];exact I.nd i
 ·by_cases h:i=k
  ·rw[if_pos h]at hb;exact nf b hb
  ·rw[if_neg h]at hb;exact I.nf i b hb
 ·by_cases h:i=k
  ·rw[if_pos h]at hb;exact nh b hb
  ·rw[if_neg h]at hb;exact I.nh i b hb
 ·by_cases h:i=k
  ·rw[if_pos h]at hb;by_cases h':j=k
   ·rw[h,h']
   ·rw[if_neg h']at hc;exact absurd hc (dis j h' b hb)
  ·rw[if_neg h]at hb;by_cases h':j=k
   ·rw[if_pos h']at hc;exact absurd hb (dis i h b hc)
   ·rw[if_neg h']at hc;exact I.dis i j b hb hc
theorem br.rebase(I:br K F0 H0 Y O F H fp):br K F H0 Y O F H fp:=⟨⟨I.g.h,a6.refl _,I.g.s,fun b o h h'=>by rw[h]at h';cases h'⟩,I.len,I.rep,I.ex,I.nd,I.nf,I.nh,I.dis⟩
theorem br.GG(g0:bN F0 H0 F1 H1)(I:br K F1 H0 Y O F H fp):br K F0 H0 Y O F H fp:=⟨⟨I.g.h,g0.f.trans I.g.f,I.g.s,fun b o h h'=>by
 cases q:F1 b with
 |none=>exact I.g.n b o h q
 |some u=>exact g0.n b u q h'⟩,I.len,I.rep,I.ex,I.nd,I.nf,I.nh,I.dis⟩
end
def cG[Ex](K:PySem.W.Frag)(F0 H0:Hp)(fl:Fl)(X:Ends):Prop:=match fl with
|.nx Y=>∀O F H fp,br K F0 H0 Y O F H fp->X.nx O H
|.bk Y=>∀O F H fp,br K F0 H0 Y O F H fp->X.bk O H
|.ct Y=>∀O F H fp,br K F0 H0 Y O F H fp->X.ct O H
|.rt d=>∀v F H f,bN F0 H0 F H->gh f H0 F->bL K H F d v f->X.rt v H
|.ex x=>iK K F0 H0 x
|.bad=>False
variable{o:Bool}
variable{e:CE}
variable{f0:List Addr}
section
variable{K:PySem.W.Frag}{Γp:List PG}{M:List G}{F0 H0 F H:Hp}{Y:bf}{O:L2.St}{fp:Nat->List Addr}{X:Ends}
theorem JE(g0:bN F0 H0 F1 H1)(g:bN F1 H0 F H):bN F0 H0 F H:=⟨g.h,g0.f.trans g.f,g.s,fun b o h h'=>by
 cases q:F1 b with
 |none=>exact g.n b o h q
 |some u=>exact g0.n b u q h'⟩
theorem cG.rebase[Ex]{fl:Fl}(g0:bN F0 H0 F1 H1)(h:cG K F0 H0 fl X):cG K F1 H0 fl X:=by
 cases fl with
 |nx Y=>exact fun O F H fp I=>h O F H fp (I.GG g0)
 |bk Y=>exact fun O F H fp I=>h O F H fp (I.GG g0)
 |ct Y=>exact fun O F H fp I=>h O F H fp (I.GG g0)
 |rt d=>exact fun v F H f g fr r=>h v F H f (JE g0 g) fr r
 |ex x=>
  cases x with
  |exc C ks xs=>exact fun F' H' d vs g=>h F' H' d vs (JE g0 g)
  |_=>exact h
 |bad=>exact h
theorem GH[Ex]{r:R α}{f:α->Fl}(h:cG K F0 H0 (r.aU f) X)(n:r.bE):∃a,r=.ok a/\cG K F0 H0 (f a) X:=by
 cases r with
 |ok a=>exact⟨a,rfl,h⟩
 |ex x=>exact absurd rfl (n x)
 |bad=>exact h.elim
theorem j9[Ex]{r:R α}{f:α->Fl}(h:cG K F0 H0 (r.aU f) X):(∃x,r=.ex x/\iK K F0 H0 x)\/∃a,r=.ok a/\cG K F0 H0 (f a) X:=by
 cases r with
 |ok a=>exact .inr ⟨a,rfl,h⟩
 |ex x=>exact .inl ⟨x,rfl,h⟩
 |bad=>exact h.elim
theorem C7[Ex]{r:R α}{f:α->Fl}(h:cG K F0 H0 (r.nR b f) X):(b=true/\∃x,r=.ex x/\iK K F0 H0 x)\/∃a,r=.ok a/\cG K F0 H0 (f a) X:=by
 cases r with
 |ok a=>exact .inr ⟨a,rfl,h⟩
 |ex x=>
  cases b with
  |true=>exact .inl ⟨rfl,x,rfl,h⟩
  |false=>exact h.elim
 |bad=>exact h.elim
theorem JF[Ex]{r:R α}{f:α->Fl}(h:cG K F0 H0 (r.nR false f) X):∃a,r=.ok a/\cG K F0 H0 (f a) X:=by
 rcases C7 h with⟨z,_⟩|z
 ·cases z
 ·exact z
mutual
theorem GI:∀(g:CG) (d:D) (O:bf),(pG g d O).bE
|.name i,d,O=>bE.ok
|.tup gs,d,O=>by
 cases d<;>first|exact bE.bad|skip
 exact bE.bg (JG gs _ O)
|.sub _ _,d,O=>bE.bad
theorem JG:∀(g:qh) (ds:List D) (O:bf),(wm g ds O).bE
|.nil,ds,O=>by cases ds<;>first|exact bE.ok|exact bE.bad
|.cons g r,ds,O=>by
 cases ds with
 |nil=>exact bE.bad
 |cons d dr=>exact bE.bind (GI g d O) fun σ'=>JG r dr σ'
end
theorem M4(F H:Hp):adopt F H []=F:=by funext b;exact jR be
theorem br.grow(I:br K F0 H0 Y O F H fp)(g:bN F H F1 H1):br K F0 H0 Y O F1 H1 fp:=by
 have e:ownAt fp []=[]:=rfl;have q:=I.back (is:=[]) (F':=F1) (H':=H1) (by rw[e,M4];exact g);rw[e,D7]at q;exact q
theorem jX.Xk(r:aZ K F d v):jX K H0 F H fp (bh d) v []:=⟨aZ.zP d v r,iG,fun _ h=>absurd h be,fun _ h=>absurd h be,fun _ _ h=>absurd h be⟩
mutual
theorem ruG':∀(g:CG) {d:D}{v:V}{Y abd:bf}{O:L2.St}{fp:Nat->List Addr}{Q:L2.St->Hp->Prop},br K F0 H0 Y O F H fp->aZ K F d v->pG g (bh d) Y=.ok abd->(∀σ' fp',br K F0 H0 abd σ' F H fp'->Q σ' H)->wG K M E g v O H Q
|.name i,d,v,Y,abd,O,fp,Q,I,r,e,h=>by
 cases e;exact h _ _ (I.set (jX.Xk r) i)
|.tup gs,d,v,Y,abd,O,fp,Q,I,r,e,h=>by
 cases d with
 |tup ds=>
  obtain⟨b,vs,rfl,h2,h3,h4⟩:=r;obtain⟨c,e⟩:=jL (show R.bg (decide ((aD ds).length=gs.len)) (wm gs (aD ds) Y)=.ok abd from e);have c:=of_decide_eq_true c;rw[jW]at c;exact⟨true,vs,(tupS h2).same' I.g.s,rfl,by rw[h4.len];exact c,ruGs' gs I h4 e h⟩
 |_=>cases e
|.sub _ _,d,v,Y,abd,O,fp,Q,I,r,e,h=>by cases e
theorem ruGs':∀(g:qh) {ds:List D}{vs:List V}{Y abd:bf}{O:L2.St}{fp:Nat->List Addr}{Q:L2.St->Hp->Prop},br K F0 H0 Y O F H fp->aM K F ds vs->wm g (aD ds) Y=.ok abd->(∀σ' fp',br K F0 H0 abd σ' F H fp'->Q σ' H)->Jr K M E g vs O H Q
|.nil,ds,vs,Y,abd,O,fp,Q,I,r,e,h=>by
 cases ds with
 |nil=>cases r;cases e;exact h O fp I
 |cons d dr=>cases e
|.cons g gr,ds,vs,Y,abd,O,fp,Q,I,r,e,h=>by
 cases ds with
 |nil=>cases e
 |cons d dr=>
  obtain⟨v,vr,rfl,r1,r2⟩:=r;obtain⟨σ2,e1,e2⟩:=cu (show((pG g (bh d) Y).bind fun σ'=>wm gr (aD dr) σ')=.ok abd from e);exact ruG' g I r1 e1 fun σ' fp' I'=>ruGs' gr I' r2 e2 h
end
mutual
theorem Xl:∀(g:CG) {d:D}{v:V}{Y abd:bf}{O:L2.St}{fp:Nat->List Addr}{f:List Addr}{Q:L2.St->Hp->Prop},br K F0 H0 Y O F H fp->jX K H0 F H fp d v f->pG g d Y=.ok abd->
 (∀σ' fp',br K F0 H0 abd σ' F H fp'->(∀i a,a∈fp' i->a∈f\/a∈fp i)->Q σ' H)->wG K M E g v O H Q
|.name i,d,v,Y,abd,O,fp,f,Q,I,V,e,h=>by
 cases e;refine h _ _ (I.set V i) fun j a ha=>?_;by_cases c:j=i
 ·rw[if_pos c]at ha;exact .inl ha
 ·rw[if_neg c]at ha;exact .inr ha
|.tup gs,d,v,Y,abd,O,fp,f,Q,I,V,e,h=>by
 cases d with
 |tup ds=>
  obtain⟨b,vs,rfl,h2,h3,h4⟩:=V.r;obtain⟨c,e⟩:=jL e;exact⟨true,vs,(tupS h2).same' I.g.s,rfl,by rw[h4.len];exact of_decide_eq_true c,TL gs I h4 V.nd V.nf V.nh V.dis e h⟩
 |_=>cases e
|.sub _ _,d,v,Y,abd,O,fp,f,Q,I,V,e,h=>by cases e
theorem TL:∀(g:qh) {ds:List D}{vs:List V}{Y abd:bf}{O:L2.St}{fp:Nat->List Addr}{f:List Addr}{Q:L2.St->Hp->Prop},br K F0 H0 Y O F H fp->a9 K H F ds vs f->f.Nodup->(∀a∈f,F a=none)->(∀a∈f,H0 a=none)->
 (∀i a,a∈f->a∉fp i)->wm g ds Y=.ok abd->(∀σ' fp',br K F0 H0 abd σ' F H fp'->(∀i a,a∈fp' i->a∈f\/a∈fp i)->Q σ' H)->Jr K M E g vs O H Q
|.nil,ds,vs,Y,abd,O,fp,f,Q,I,r,nd,nf,nh,dis,e,h=>by
 cases ds with
 |nil=>
  obtain⟨rfl,_⟩:=r;cases e;exact h O fp I fun _ _ z=>.inr z
 |cons d dr=>cases e
|.cons g gr,ds,vs,Y,abd,O,fp,f,Q,I,r,nd,nf,nh,dis,e,h=>by
 cases ds with
 |nil=>cases e
 |cons d dr=>
  obtain⟨v,vr,f1,f2,rfl,rfl,r1,r2⟩:=r;obtain⟨σ2,e1,e2⟩:=cu e;obtain⟨n1,n2,n3⟩:=bK.mp nd;refine Xl g I ⟨r1,n1,fun a ha=>nf a (aO _ ha),fun a ha=>nh a (aO _ ha),fun i a ha=>dis i a (aO _ ha)⟩ e1 fun σ' fp' I' sub=>?_;refine TL gr I' r2 n2 (fun a ha=>nf a (aA _ ha)) (fun a ha=>nh a (aA _ ha)) (fun i a ha z=>?_) e2 fun σ3 fp3 I3 sub3=>h σ3 fp3 I3 fun i a ha=>?_
  ·rcases sub i a z with q|q
   ·exact n3 a q a ha rfl
   ·exact dis i a (aA _ ha) q
  ·rcases sub3 i a ha with q|q
   ·exact .inl (aA _ q)
   ·rcases sub i a q with q|q
    ·exact .inl (aO _ q)
    ·exact .inr q
end
theorem AK[Ex](hΓ:dO K Γp M)(I:br K F0 H0 Y O F H fp)(lt:cV e=true)(he:pE Γp e Y=.ok d)
  (h:∀v F1 H1 fp1 f,br K F0 H0 (gQ (b_ e) (aX d) Y) O F1 H1 fp1->jX K H0 F1 H1 fp1 d v f->Q v H1):wE K M Ex.E e O H Q:=by
 refine fR hΓ e (I.env (b_ e)) (eO I.g.s) lt ?_;rw[he];intro F' H' v f g fr r;obtain⟨F1,fp1,I1,V1,_,_⟩:=I.told g fr r;exact h v F1 H' fp1 f I1 V1
theorem runD'[Ex](hΓ:dO K Γp M)(I:br K F0 H0 Y O F H fp)(lt:cV e=true)(he:pE Γp e Y=.ok d)
  (h:∀v F1 H1,br K F0 H0 Y O F1 H1 fp->a6 H H1->(aX d=true->∃f,jX K H0 F1 H1 fp d v f)->Q v H1):wE K M Ex.E e O H Q:=by
 refine fR hΓ e (I.env (b_ e)) (eO I.g.s) lt ?_;rw[he];intro F' H' v f g fr r;refine h v _ H' (I.back g) g.h fun ho=>?_;refine⟨f,bL.less (lI g.s ((I.lists _).mono g.h)) d v f ho r,fr.nd,fun a ha=>a6.none (jS _ _) (fr.nf a ha),fun a ha=>a6.none I.g.h (fr.nh a ha),fun i a ha hb=>?_⟩;obtain⟨o,e,_⟩:=I.ex i a hb;rw[fr.nh a ha]at e;cases e
theorem jX.back(I:br K F0 H0 Y O F H fp)(V:jX K H0 F H fp d v f)(g:bN (adopt F H (ownAt fp is)) H F' H'):jX K H0 (minus F' (ownAt fp is)) H' fp d v f:=by
 have hn:∀a∈f,a∉ownAt fp is:=fun a ha z=>by
  obtain⟨i,_,hb⟩:=eS.mp z;exact V.dis i a ha hb
 have hx:=bL.ex d v f V.r;refine⟨bL.mono ?_ d v f (fun a ha=>?_) V.r,V.nd,fun a ha=>?_,V.nh,V.dis⟩
 ·intro b o h;have hb:b∉ownAt fp is:=fun z=>by
   obtain⟨i,_,hb⟩:=eS.mp z;have:=I.nf i b hb;rw[h]at this;cases this
  rw[fN hb];exact g.f b o (cX I.g.s b o h)
 ·obtain⟨o,e,_⟩:=hx a ha;rw[e,g.h a o e]
 ·rw[fN (hn a ha)];obtain⟨o,e,k⟩:=hx a ha;cases q:F' a with
  |none=>rfl
  |some u=>exact((g.n a u q (by rw[jR (hn a ha)];exact V.nf a ha)).own e k).elim
structure mQ (K:PySem.W.Frag) (H0 F H:Hp) (fp:Nat->List Addr) (ds:List D) (vs:List V) (f:List Addr):Prop where
 r:a9 K H F ds vs f
 nd:f.Nodup
 nf:∀a∈f,F a=none
 nh:∀a∈f,H0 a=none
 dis:∀i a,a∈f->a∉fp i
theorem mQ.back(I:br K F0 H0 Y O F H fp){d:List D}{v:List V}(V:mQ K H0 F H fp d v f)(g:bN (adopt F H (ownAt fp is)) H F' H'):mQ K H0 (minus F' (ownAt fp is)) H' fp d v f:=by
 have hn:∀a∈f,a∉ownAt fp is:=fun a ha z=>by
  obtain⟨i,_,hb⟩:=eS.mp z;exact V.dis i a ha hb
 have hx:=a9.ex d v f V.r;refine⟨a9.mono ?_ d v f (fun a ha=>?_) V.r,V.nd,fun a ha=>?_,V.nh,V.dis⟩
 ·intro b o h;have hb:b∉ownAt fp is:=fun z=>by
   obtain⟨i,_,hb⟩:=eS.mp z;have:=I.nf i b hb;rw[h]at this;cases this
  rw[fN hb];exact g.f b o (cX I.g.s b o h)
 ·obtain⟨o,e,_⟩:=hx a ha;rw[e,g.h a o e]
 ·rw[fN (hn a ha)];obtain⟨o,e,k⟩:=hx a ha;cases q:F' a with
  |none=>rfl
  |some u=>exact((g.n a u q (by rw[jR (hn a ha)];exact V.nf a ha)).own e k).elim
theorem mQ.snoc{f':List Addr}(V:mQ K H0 F H fp ds vs f)(W:jX K H0 F H fp d v f')(hd:∀a∈f,a∉f'):mQ K H0 F H fp (ds++[d]) (vs++[v]) (f++f'):=by
 refine⟨V.r.app ⟨v,[],f',[],rfl,by simp,W.r,rfl,rfl⟩,bK.mpr ⟨V.nd,W.nd,fun a ha b hb z=>hd a ha (by rw[z];exact hb)⟩,fun a ha=>?_,fun a ha=>?_,fun i a ha=>?_⟩
 ·rcases a_.mp ha with q|q
  ·exact V.nf a q
  ·exact W.nf a q
 ·rcases a_.mp ha with q|q
  ·exact V.nh a q
  ·exact W.nh a q
 ·rcases a_.mp ha with q|q
  ·exact V.dis i a q
  ·exact W.dis i a q
theorem runN[Ex](hΓ:dO K Γp M)(I:br K F0 H0 Y O F H fp)(V0:mQ K H0 F H fp ds vs f0)(lt:cV e=true)(he:pE Γp e Y=.ok d)(ho:aX d=true)
  (h:∀v F1 H1 f,br K F0 H0 Y O F1 H1 fp->mQ K H0 F1 H1 fp (ds++[d]) (vs++[v]) f->Q v H1):wE K M Ex.E e O H Q:=by
 refine fR hΓ e (I.env (b_ e)) (eO I.g.s) lt ?_;rw[he];intro F' H' v f g fr r;refine h v _ H' _ (I.back g) ((V0.back I g).snoc (f':=f) ⟨bL.less (lI g.s ((I.lists _).mono g.h)) d v f ho r,fr.nd,fun a ha=>a6.none (jS _ _) (fr.nf a ha),fun a ha=>a6.none I.g.h (fr.nh a ha),fun i a ha hb=>?_⟩ fun a ha hb=>?_)
 ·obtain⟨o,e,_⟩:=I.ex i a hb;rw[fr.nh a ha]at e;cases e
 ·obtain⟨o,e,_⟩:=a9.ex ds vs f0 V0.r a ha;rw[fr.nh a hb]at e;cases e
theorem br.Y4(I:br K F0 H0 Y O F H fp)(k:Nat):br K F0 H0 (Y.set k none) O F H (fun i=>if i=k then[]else fp i):=by
 have sub:∀i a,a∈(if i=k then[]else fp i)->a∈fp i:=fun i a ha=>by
  by_cases c:i=k
  ·rw[if_pos c]at ha;cases ha
  ·rw[if_neg c]at ha;exact ha
 refine⟨I.g,by simp[I.len],fun i d e=>?_,fun i a ha=>I.ex i a (sub i a ha),fun i=>?_,fun i a ha=>I.nf i a (sub i a ha),fun i a ha=>I.nh i a (sub i a ha),fun i j a ha hb=>I.dis i j a (sub i a ha) (sub j a hb)⟩
 ·by_cases c:i=k
  ·subst c;rw[gw]at e;by_cases hi:i<Y.length
   ·simp[hi]at e
   ·simp[hi]at e
  ·rw[cB (cT c)]at e;rw[if_neg c];exact I.rep i d e
 ·by_cases c:i=k
  ·rw[if_pos c];exact iG
  ·rw[if_neg c];exact I.nd i
theorem runV[Ex](hΓ:dO K Γp M){d0:D}{v0:V}(I:br K F0 H0 Y O F H fp)(V0:jX K H0 F H fp d0 v0 f0)(lt:cV e=true)(he:pE Γp e Y=.ok d)
  (h:∀v F1 H1,br K F0 H0 Y O F1 H1 fp->jX K H0 F1 H1 fp d0 v0 f0->(∀{x:D},d=x->aX x=true->aZ K H1 x v)->Q v H1):wE K M Ex.E e O H Q:=by
 refine fR hΓ e (I.env (b_ e)) (eO I.g.s) lt ?_;rw[he];intro F' H' v f g fr r;refine h v _ H' (I.back g) (V0.back I g) fun z ho=>?_;subst z;obtain⟨F2,g2,s2,rf⟩:=Qv g fr r;exact aZ.mono g2.s d v rf
theorem Xm[Ex](hΓ:dO K Γp M){Q:Bool->Hp->Prop}(I:br K F0 H0 Y O F H fp)(lt:cV e=true)(he:pT Γp e Y=.ok b)
  (h:∀F1 H1,br K F0 H0 Y O F1 H1 fp->Q b H1):wT K M Ex.E e O H Q:=by
 refine wo hΓ e (I.env (b_ e)) (eO I.g.s) lt ?_;rw[he];exact fun F' H' g=>h _ H' (I.back g)
theorem br.own(I:br K F0 H0 Y O F H fp)(is:List Nat):bN F0 H0 (adopt F H (ownAt fp is)) H:=rC I.g fun a ha=>by
 obtain⟨i,_,hi⟩:=eS.mp ha;exact I.nh i a hi
theorem vL[Ex](hΓ:dO K Γp M)(I:br K F0 H0 Y O F H fp)(lt:cV e=true)(he:pE Γp e Y=.ex x)(h:iK K F0 H0 x):wE K M Ex.E e O H Q:=by
 refine fR hΓ e (I.env (b_ e)) (eO I.g.s) lt ?_;rw[he];exact iK.grow (K:=K) (x:=x) h (I.own (b_ e))
theorem TM[Ex](hΓ:dO K Γp M){Q:Bool->Hp->Prop}(I:br K F0 H0 Y O F H fp)(lt:cV e=true)(he:pT Γp e Y=.ex x)(h:iK K F0 H0 x):wT K M Ex.E e O H Q:=by
 refine wo hΓ e (I.env (b_ e)) (eO I.g.s) lt ?_;rw[he];exact iK.grow (K:=K) (x:=x) h (I.own (b_ e))
theorem Y5[Ex](hΓ:dO K Γp M){c:CI}(I:br K F0 H0 Y O F H fp)(lt:ltI c=true)(he:pI Γp c Y=.ex x)(h:iK K F0 H0 x):wI K M Ex.E c O H k:=by
 refine Xh hΓ c (ownAt fp (uO c)) (I.env (uO c)) (eO I.g.s) (I.lists _) lt ?_;rw[he];exact iK.grow (K:=K) (x:=x) h (I.own (uO c))
theorem Y6[Ex](hΓ:dO K Γp M){c:i9}{Q:List V->Hp->Prop}(I:br K F0 H0 Y O F H fp)(lt:jK c=true)(he:eW Γp c Y=.ex x)(h:iK K F0 H0 x):wEs K M Ex.E c O H Q:=by
 refine nU hΓ c (I.env (kN c)) (eO I.g.s) lt ?_;rw[he];exact iK.grow (K:=K) (x:=x) h (I.own (kN c))
theorem C8{O:bf}{k:Nat}(h:(o||!is.contains k)=true):(gQ is o O)[k]?=O[k]?:=by
 cases o with
 |true=>rfl
 |false=>
  have hk:k∉is:=by simpa using h
  show(mP is O)[k]?=_;clear h;induction is generalizing O with
  |nil=>rfl
  |cons i is ih=>
   rw[mP,ih (fun z=>hk (aj _ z)),AJ,if_neg (fun z=>hk (by rw[z];exact ay))]
theorem br.lst{k:Nat}{xs:List D}(I:br K F0 H0 Y O F H fp)(e:Y[k]?=some (some (.lst true xs))):∃a vs fs,O[k]?=some (some (.ref a))/\H a=some (.lst vs)/\vs.length<=aa/\a9 K H F xs vs fs/\fp k=a::fs:=by
 obtain⟨v,h1,h2⟩:=I.rep k _ e;unfold bL at h2;rw[if_pos rfl]at h2;obtain⟨a,vs,fs,rfl,q⟩:=h2;exact⟨a,vs,fs,h1,q⟩
theorem slot_of{i:Nat}{k:V->Prop}(h:O[i]?=some (some v))(q:k v):lF O i k:=by
 unfold lF;rw[h];exact q
theorem a9.set:∀{ds:List D}{vs:List V}{fs f:List Addr} (n:Nat) {d:D}{v:V},a9 K H F ds vs fs->bL K H F d v f->(fs++f).Nodup->∃fs',a9 K H F (ds.set n d) (vs.set n v) fs'/\fs'.Nodup/\∀b∈fs',b∈fs\/b∈f
|[],_,_,_,n,_,_,h,_,nd=>by
 obtain⟨rfl,rfl⟩:=h;exact⟨[],⟨rfl,rfl⟩,iG,fun b hb=>absurd hb be⟩
|e::ds,_,_,f,0,d,v,h,hd,nd=>by
 obtain⟨w,r,f1,f2,rfl,rfl,h3,h4⟩:=h;refine⟨f++f2,⟨v,r,f,f2,rfl,rfl,hd,h4⟩,?_,?_⟩
 ·simp only[aW,bK,a_]at nd ⊢;obtain⟨n1,⟨n2,n3,n4⟩,n5⟩:=nd;exact⟨n3,n2,fun a ha b hb z=>n4 b hb a ha z.symm⟩
 ·intro b hb;rcases a_.mp hb with hb|hb
  ·exact .inr hb
  ·exact .inl (aA _ hb)
|e::ds,_,_,f,n+1,d,v,h,hd,nd=>by
 obtain⟨w,r,f1,f2,rfl,rfl,h3,h4⟩:=h;have nd':(f2++f).Nodup/\f1.Nodup/\∀a∈f1,∀b,(b∈f2\/b∈f)->a≠b:=by
  rw[aW]at nd;obtain⟨n1,n2,n3⟩:=bK.mp nd;exact⟨n2,n1,fun a ha b hb=>n3 a ha b (a_.mpr hb)⟩
 obtain⟨fs',q1,q2,q3⟩:=a9.set n h4 hd nd'.1;refine⟨f1++fs',⟨w,_,f1,fs',rfl,rfl,h3,q1⟩,bK.mpr ⟨nd'.2.1,q2,fun a ha b hb=>nd'.2.2 a ha b (q3 b hb)⟩,?_⟩;intro b hb;rcases a_.mp hb with hb|hb
 ·exact .inl (aO _ hb)
 ·rcases q3 b hb with z|z
  ·exact .inl (aA _ z)
  ·exact .inr z
theorem br.GJ{k:Nat}{xs xs':List D}{a:Addr}{vs vs':List V}{fs fs' f:List Addr}{d:D}{v:V}(I:br K F0 H0 Y O F H fp)(V:jX K H0 F H fp d v f)(hσ:O[k]?=some (some (.ref a)))(hk:fp k=a::fs)(hl:vs'.length<=aa)
  (hr:∀{H':Hp},(∀b∈fs,H' b=H b)->(∀b∈f,H' b=H b)->a9 K H' F xs' vs' fs') (nd:fs'.Nodup) (sub:∀b∈fs',b∈fs\/b∈f) :
  ∃fp',br K F0 H0 (Y.set k (some (.lst true xs'))) O F (upd H a (.lst vs')) fp':=by
 have hak:a∈fp k:=by rw[hk];exact ay
 have nda:a∉fs/\fs.Nodup:=by have:=I.nd k;rw[hk]at this;exact b8.mp this
 have haf:a∉f:=fun z=>V.dis k a z hak;have hs:∀b∈fs',b∈fp k\/b∈f:=fun b hb=>by
  rcases sub b hb with z|z
  ·exact .inl (by rw[hk];exact aj _ z)
  ·exact .inr z
 refine⟨_,I.put hak hσ (d:=.lst true xs') (f:=a::fs') ?_ ?_ ?_ ?_ ?_⟩
 ·unfold bL;rw[if_pos rfl];refine⟨a,vs',fs',rfl,bQ,hl,hr (fun b hb=>aV (fun z=>nda.1 (by rw[<-z];exact hb))) (fun b hb=>aV (fun z=>haf (by rw[<-z];exact hb))),rfl⟩
 ·refine b8.mpr ⟨fun z=>?_,nd⟩;rcases sub a z with z|z
  ·exact nda.1 z
  ·exact haf z
 ·intro b hb;rcases aH.mp hb with rfl|hb
  ·exact I.nf k b hak
  ·rcases hs b hb with z|z
   ·exact I.nf k b z
   ·exact V.nf b z
 ·intro b hb;rcases aH.mp hb with rfl|hb
  ·exact I.nh k b hak
  ·rcases hs b hb with z|z
   ·exact I.nh k b z
   ·exact V.nh b z
 ·intro i hi b hb hc;rcases aH.mp hb with rfl|hb
  ·exact hi (I.dis i k b hc hak)
  ·rcases hs b hb with z|z
   ·exact hi (I.dis i k b hc z)
   ·exact V.dis i b z hc
end
variable{a:CE}
variable{f3:List Addr}
variable{src:CI}
variable{n:Nat}
section
variable{K:PySem.W.Frag}{Γp:List PG}{M:List G}{F0 H0 F H:Hp}{Y:bf}{O:L2.St}{fp:Nat->List Addr}{X:Ends}
theorem QD[Ex](hΓ:dO K Γp M):∀(as:i9) {ds acc:List D}{av:List V}{af:List Addr}{Y:bf}{F H:Hp}{fp:Nat->List Addr}{Q:List V->Hp->Prop},br K F0 H0 Y O F H fp->mQ K H0 F H fp acc av af->jK as=true->kP Γp as Y=.ok ds->
 (∀vs F1 H1 σ1 fp1 f,br K F0 H0 σ1 O F1 H1 fp1->mQ K H0 F1 H1 fp1 (acc++ds) (av++vs) f->Q vs H1)->wEs K M Ex.E as O H Q
|.nil,ds,acc,av,af,Y,F,H,fp,Q,I,V,lt,e,h=>by
 cases e;exact h [] F H Y fp af I (by rw[eZ,eZ];exact V)
|.cons a r,ds,acc,av,af,Y,F,H,fp,Q,I,V,lt,e,h=>by
 obtain⟨l1,l2⟩:=band' lt;have e:(match KY a with
  |some i=>match Y[i]? with
   |some (some d)=>(kP Γp r (Y.set i none)).bind fun ds=>.ok (d::ds)
   |_=>.bad
  |none=>(pE Γp a Y).bind fun d=>.bg (aX d) ((kP Γp r Y).bind fun ds=>.ok (d::ds)))=R.ok ds:=e
 cases va:KY a with
 |some i=>
  have ea:a=.var i:=by cases a<;>first|(cases va;rfl)|(cases va)
  subst ea;rw[va]at e;simp only at e;cases q:Y[i]? with
  |none=>rw[q]at e;cases e
  |some o=>
   cases o with
   |none=>rw[q]at e;cases e
   |some d=>
    rw[q]at e;obtain⟨ds',e1,e2⟩:=cu (show((kP Γp r (Y.set i none)).bind fun ds=>.ok (d::ds))=R.ok ds from e);cases e2;obtain⟨v,h1,h2⟩:=I.rep i d q;have V1:mQ K H0 F H (fun j=>if j=i then[]else fp j) (acc++[d]) (av++[v]) (af++fp i):=by
     refine mQ.snoc ⟨V.r,V.nd,V.nf,V.nh,fun j a ha=>?_⟩ ⟨h2,I.nd i,I.nf i,I.nh i,fun j a ha=>?_⟩ fun a ha hb=>V.dis i a ha hb
     ·by_cases c:j=i
      ·rw[if_pos c];exact be
      ·rw[if_neg c];exact V.dis j a ha
     ·by_cases c:j=i
      ·rw[if_pos c];exact be
      ·rw[if_neg c];exact fun z=>c (I.dis j i a z ha)
    refine slot_of h1 (QD hΓ r (I.Y4 i) V1 l2 e1 fun vs F1 H1 σ1 fp1 f I1 W=>h (v::vs) F1 H1 σ1 fp1 f I1 ?_);rw[aW,aW]at W;exact W
 |none=>
  rw[va]at e;simp only at e;obtain⟨d,e1,e2⟩:=cu e;obtain⟨ho,e2⟩:=jL e2;obtain⟨ds',e3,e4⟩:=cu e2;cases e4;refine runN hΓ I V l1 e1 ho fun v F1 H1 f I1 V1=>?_;refine QD hΓ r I1 V1 l2 e3 fun vs F2 H2 σ2 fp2 f2 I2 W=>h (v::vs) F2 H2 σ2 fp2 f2 I2 ?_;rw[aW,aW]at W;exact W
theorem Y7[Ex](hΓ:dO K Γp M)(I:br K F0 H0 Y O F H fp)(lt:cV e=true)(h:cG K F0 H0 ((pM Γp e Y).aU .rt) X):wE K M Ex.E e O H X.rt:=by
 rcases j9 h with⟨x,e1,hx⟩|⟨d,e1,h'⟩
 ·have gen:pE Γp e Y=.ex x->wE K M Ex.E e O H X.rt:=fun he=>vL hΓ I lt he hx;cases e with
  |var i=>
   have e1:(match Y[i]? with|some (some d)=>R.ok d|_=>.bad)=.ex x:=e1;split at e1<;>cases e1
  |tup as=>
   have e1:(kP Γp as Y).alt (fun ds=>.bg (decide (ds.length<=aa)) (.ok (.tup ds))) (pE Γp (.tup as) Y)=.ex x:=e1;unfold R.alt at e1;split at e1
   ·exact absurd e1 (bE.bg bE.ok x)
   ·exact gen e1
  |_=>exact gen e1
 clear h;have gen:pE Γp e Y=.ok d->wE K M Ex.E e O H X.rt:=fun he=>AK hΓ I lt he fun v F1 H1 fp1 f I1 V1=>h' v F1 H1 f I1.g ⟨V1.nd,V1.nh,V1.nf⟩ V1.r;cases e with
 |var i=>
  have e1:(match Y[i]? with|some (some d)=>R.ok d|_=>.bad)=.ok d:=e1;cases q:Y[i]? with
  |none=>rw[q]at e1;cases e1
  |some o=>
   cases o with
   |none=>rw[q]at e1;cases e1
   |some d'=>
    rw[q]at e1;cases e1;obtain⟨v,h1,h2⟩:=I.rep i d q;exact slot_of h1 (h' v F H (fp i) I.g ⟨I.nd i,I.nh i,I.nf i⟩ h2)
 |tup as=>
  have e1:(kP Γp as Y).alt (fun ds=>.bg (decide (ds.length<=aa)) (.ok (.tup ds))) (pE Γp (.tup as) Y)=.ok d:=e1;cases e2:kP Γp as Y with
  |ok ds=>
   rw[e2]at e1;obtain⟨c3,e4⟩:=jL e1;cases e4;refine QD hΓ as I (acc:=[]) (av:=[]) (af:=[]) ⟨⟨rfl,rfl⟩,iG,fun _ z=>absurd z be,fun _ z=>absurd z be,fun _ _ z=>absurd z be⟩ lt e2 fun vs F1 H1 σ1 fp1 f I1 V=>?_;have hr:a9 K H1 F1 ds vs f:=V.r;have hl:vs.length<=aa:=by rw[hr.len];exact of_decide_eq_true c3
   refine⟨hl,fun p hp=>?_⟩;have g2:=xE (o:=.tup vs) I1.g.s hp;have I2:=I1.grow g2;have np:∀a∈f,a≠p:=fun a ha z=>by
    obtain⟨o,e,_⟩:=a9.ex ds vs f hr a ha;rw[z,hp]at e;cases e
   exact h' (.ref p) _ _ f I2.g ⟨V.nd,V.nh,fun a ha=>by rw[aV (np a ha)];exact V.nf a ha⟩ ⟨p,vs,rfl,bQ,hl,a9.mono g2.f ds vs f (fun a ha=>aV (np a ha)) hr⟩
  |_=>
   rw[e2]at e1;exact gen e1
 |_=>exact gen e1
theorem BG{g:List Addr}(nd:(f1++(f2++f3)).Nodup)(g3:∀b∈g,b∈f2\/b∈f)(g2:g.Nodup)(df:∀a∈f,a∉f1++(f2++f3)):(f1++(g++f3)).Nodup:=by
 obtain⟨n1,n23,n4⟩:=bK.mp nd;obtain⟨n2,n3,n5⟩:=bK.mp n23;refine bK.mpr ⟨n1,bK.mpr ⟨g2,n3,fun a ha b hb z=>?_⟩,fun a ha b hb z=>?_⟩
 ·rcases g3 a ha with q|q
  ·exact n5 a q b hb z
  ·exact df a q (by rw[z];exact aA _ (aA _ hb))
 ·rcases a_.mp hb with hb|hb
  ·rcases g3 b hb with q|q
   ·exact n4 a ha b (aO _ q) z
   ·exact df b q (by rw[<-z];exact aO _ ha)
  ·exact n4 a ha b (aA _ hb) z
theorem AL{g:List Addr}(g3:∀b∈g,b∈f2\/b∈f):∀b∈f1++(g++f3),b∈f1++(f2++f3)\/b∈f:=fun b hb=>by
 rcases a_.mp hb with z|z
 ·exact .inl (aO _ z)
 ·rcases a_.mp z with z|z
  ·rcases g3 b z with q|q
   ·exact .inl (aA _ (aO _ q))
   ·exact .inr q
  ·exact .inl (aA _ (aA _ z))
theorem M5{a:Addr}{g:List Addr}(nd:(a::(f1++(f2++f3))).Nodup)(g3:∀b∈g,b∈f2\/b∈f)(g2:g.Nodup)(df:∀b∈f,b∉a::(f1++(f2++f3))):(a::(f1++(g++f3))).Nodup:=by
 have nd':=b8.mp nd;refine b8.mpr ⟨fun z=>?_,BG nd'.2 g3 g2 fun b hb z=>df b hb (aj _ z)⟩;rcases AL g3 a z with q|q
 ·exact nd'.1 q
 ·exact df a q ay
theorem UX{a:Addr}{g:List Addr}(g3:∀b∈g,b∈f2\/b∈f):∀b∈a::(f1++(g++f3)),b∈a::(f1++(f2++f3))\/b∈f:=fun b hb=>by
 rcases aH.mp hb with rfl|hb
 ·exact .inl ay
 ·rcases AL g3 b hb with q|q
  ·exact .inl (aj _ q)
  ·exact .inr q
def Reach(K:PySem.W.Frag)(H:Hp):V->List Int->V->Prop
|v,[],w=>v=w
|v,i::r,w=>∃a t xs u,v=.ref a/\eE K H a t xs/\fC xs i=some u/\Reach K H u r w
theorem Reach.snoc:∀{is:List Int}{v w:V}{n:Int},Reach K H v (is++[n]) w->∃x,Reach K H v is x/\Reach K H x [n] w
|[],v,w,n,h=>⟨v,rfl,h⟩
|i::r,v,w,n,h=>by
 obtain⟨a,t,xs,u,e1,e2,e3,h⟩:=h;obtain⟨x,q1,q2⟩:=Reach.snoc h;exact⟨x,⟨a,t,xs,u,e1,e2,e3,q1⟩,q2⟩
theorem QE[Ex](I:br K F0 H0 Y O F H fp):∀(o:CE) {k:Nat}{is:List Int}{v w:V}{Q:VK},sJ Y o=some (k,is)->O[k]?=some (some v)->Reach K H v is w->Q w H->wE K M Ex.E o O H Q
|.var j,k,is,v,w,Q,e,hv,hr,q=>by
 cases e;cases hr;exact slot_of hv q
|.ix o i,k,is,v,w,Q,e,hv,hr,q=>by
 have e:((sJ Y o).bind fun p=>(C3 Y i).map fun n=>(p.1,p.2++[n]))=some (k,is):=e;cases e1:sJ Y o with
 |none=>rw[e1]at e;cases e
 |some p=>
  rw[e1]at e;cases e2:C3 Y i with
  |none=>
   have e:((C3 Y i).map fun n=>(p.1,p.2++[n]))=some (k,is):=e;rw[e2]at e;cases e
  |some n=>
   have e:((C3 Y i).map fun n=>(p.1,p.2++[n]))=some (k,is):=e;rw[e2]at e;cases e;obtain⟨x,q1,a,t,xs,u,rfl,q2,q3,q4⟩:=Reach.snoc hr;cases q4;refine QE I o e1 hv q1 (show wE K M Ex.E i O H fun y H2=>Gb K (.ref a) y H2 Q from ?_);have fin:Gb K (.ref a) (.int n) H Q:=.inl ⟨t,xs,n,_,rfl,q2,q3,q⟩;unfold C3 at e2;split at e2
   ·split at e2
    ·rename_i j _ m hj;cases e2;obtain⟨v',h1,h2⟩:=I.rep _ _ hj;obtain⟨rfl,_⟩:=h2;exact slot_of h1 fin
    ·cases e2
   ·cases e2;exact fin
   ·cases e2;exact fin
   ·cases e2
|.con _,k,is,v,w,Q,e,hv,hr,q=>by cases e
|.glo _,k,is,v,w,Q,e,hv,hr,q=>by cases e
|.bin _ _ _,k,is,v,w,Q,e,hv,hr,q=>by cases e
|.nset _,k,is,v,w,Q,e,hv,hr,q=>by cases e
|.neg _,k,is,v,w,Q,e,hv,hr,q=>by cases e
|.not _,k,is,v,w,Q,e,hv,hr,q=>by cases e
|.and _ _,k,is,v,w,Q,e,hv,hr,q=>by cases e
|.or _ _,k,is,v,w,Q,e,hv,hr,q=>by cases e
|.ite _ _ _,k,is,v,w,Q,e,hv,hr,q=>by cases e
|.cmp _ _ _,k,is,v,w,Q,e,hv,hr,q=>by cases e
|.chain _ _ _ _ _,k,is,v,w,Q,e,hv,hr,q=>by cases e
|.call _ _,k,is,v,w,Q,e,hv,hr,q=>by cases e
|.blt _ _,k,is,v,w,Q,e,hv,hr,q=>by cases e
|.isi _ _,k,is,v,w,Q,e,hv,hr,q=>by cases e
|.mth _ _ _,k,is,v,w,Q,e,hv,hr,q=>by cases e
|.sl _ _ _,k,is,v,w,Q,e,hv,hr,q=>by cases e
|.lst _,k,is,v,w,Q,e,hv,hr,q=>by cases e
|.tup _,k,is,v,w,Q,e,hv,hr,q=>by cases e
|.fst _,k,is,v,w,Q,e,hv,hr,q=>by cases e
|.comp _ _ _ _ _ _,k,is,v,w,Q,e,hv,hr,q=>by cases e
|.slp _ _ _ _,k,is,v,w,Q,e,hv,hr,q=>by cases e
theorem a9.at:∀{ds:List D}{vs:List V}{fs:List Addr} (n:Nat) {y:D},a9 K H F ds vs fs->ds[n]?=some y->
 ∃w f1 f2 f3,vs[n]?=some w/\fs=f1++(f2++f3)/\bL K H F y w f2/\∀{F1 H':Hp}{y':D}{g:List Addr},a6 F F1->(∀b∈f1,H' b=H b)->(∀b∈f3,H' b=H b)->bL K H' F1 y' w g->a9 K H' F1 (ds.set n y') vs (f1++(g++f3))
|[],_,_,n,y,h,e=>by simp at e
|d::ds,_,_,0,y,h,e=>by
 obtain⟨v,r,g1,g2,rfl,rfl,h1,h2⟩:=h;simp at e;subst e;exact⟨v,[],g1,g2,rfl,rfl,h1,fun s1 _ h3 hr=>⟨v,r,_,g2,rfl,rfl,hr,a9.mono s1 _ _ _ h3 h2⟩⟩
|d::ds,_,_,n+1,y,h,e=>by
 obtain⟨v,r,g1,g2,rfl,rfl,h1,h2⟩:=h;obtain⟨w,f1,f2,f3,e1,rfl,q1,q2⟩:=a9.at n h2 (by simpa using e);refine⟨w,g1++f1,f2,f3,by simpa using e1,by simp,q1,fun s1 h3 h4 hr=>⟨v,r,g1,_,rfl,by simp,bL.mono s1 _ _ _ (fun b hb=>h3 b (aO _ hb)) h1,q2 s1 (fun b hb=>h3 b (aA _ hb)) h4 hr⟩⟩
theorem JH:∀(is:List Int) {x x' d:D},eF is x d=some x'->∃ys,iX is x=some (.lst true ys)
|[],x,x',d,e=>by
 unfold eF at e;split at e
 ·exact⟨_,rfl⟩
 ·cases e
|i::r,x,x',d,e=>by
 unfold eF at e;have key:∀(xs:List D) (f:D->D),(((gY xs.length i).bind fun n=>(xs[n]?).bind fun y=>(eF r y d).map fun y'=>f (.lst true (xs.set n y')))=some x'\/((gY xs.length i).bind fun n=>(xs[n]?).bind fun y=>(eF r y d).map fun y'=>f (.tup (xs.set n y')))=some x')->∃ys,((gY xs.length i).bind fun n=>(xs[n]?).bind fun y=>iX r y)=some (.lst true ys):=by
  intro xs f e;cases e1:gY xs.length i with
  |none=>rw[e1]at e;rcases e with e|e<;>cases e
  |some n=>
   rw[e1]at e;show ∃ys,((xs[n]?).bind fun y=>iX r y)=some (.lst true ys);cases e2:xs[n]? with
   |none=>simp[e2]at e
   |some y=>
    show ∃ys,iX r y=some (.lst true ys);cases e3:eF r y d with
    |none=>simp[e2,e3]at e
    |some y'=>exact JH r e3
 unfold iX;split at e
 ·exact key _ id (.inl e)
 ·exact key _ id (.inr e)
 ·cases e
theorem vM:∀(is:List Int) {x:D}{ys:List D}{v:V}{fs:List Addr},a6 F H->bL K H F x v fs->iX is x=some (.lst true ys)->fs.Nodup->
 ∃c ws f2,c∈fs/\H c=some (.lst ws)/\Reach K H v is (.ref c)/\bL K H F (.lst true ys) (.ref c) f2/\(∀b∈f2,b∈fs)/\∀{d x':D},eF is x d=some x'->ws.length<aa /\
  ∀{F1 H':Hp}{u:V}{f:List Addr},a6 F F1->bL K H' F1 d u f->f.Nodup->(∀a∈f,a∉fs)->(∀b∈fs,b≠c->H' b=H b)->H' c=some (.lst (ws++[u]))->∃fs',bL K H' F1 x' v fs'/\fs'.Nodup/\∀b∈fs',b∈fs\/b∈f
|[],x,ys,v,fs,s,r,e,nd=>by
 cases e;have r0:=r;unfold bL at r;rw[if_pos rfl]at r;obtain⟨a,vs,f1,rfl,r2,r3,r4,rfl⟩:=r;have nd':=b8.mp nd;refine⟨a,vs,a::f1,ay,r2,rfl,r0,fun b hb=>hb,fun{d x'} e=>?_⟩;unfold eF at e;have e:(if ys.length<aa then some (D.lst true (ys++[d]))else none)=some x':=e;split at e
 ·rename_i hl;cases e;refine⟨by rw[r4.len];exact hl,fun{F1 H' u f} s1 rd nf df h1 h2=>⟨a::(f1++f),?_,?_,?_⟩⟩
  ·unfold bL;rw[if_pos rfl];exact⟨a,vs++[u],f1++f,rfl,h2,by rw[ak,r4.len];exact hl,a9.app (a9.mono s1 _ _ _ (fun b hb=>h1 b (aj _ hb) fun z=>nd'.1 (by rw[<-z];exact hb)) r4) (a9.one rd),rfl⟩
  ·refine b8.mpr ⟨fun z=>?_,bK.mpr ⟨nd'.2,nf,fun p hp q hq z=>df q hq (by rw[<-z];exact aj _ hp)⟩⟩;rcases a_.mp z with z|z
   ·exact nd'.1 z
   ·exact df a z ay
  ·intro b hb;rcases aH.mp hb with rfl|hb
   ·exact .inl ay
   ·rcases a_.mp hb with z|z
    ·exact .inl (aj _ z)
    ·exact .inr z
 ·cases e
|i::r,x,ys,v,fs,s,rx,e,nd=>by
 unfold iX at e;split at e
 ·rename_i xs;cases e1:gY xs.length i with
  |none=>rw[e1]at e;cases e
  |some n=>
   rw[e1]at e;have e:((xs[n]?).bind fun y=>iX r y)=some (.lst true ys):=e;cases e2:xs[n]? with
   |none=>rw[e2]at e;cases e
   |some y=>
    rw[e2]at e;have e:iX r y=some (.lst true ys):=e;unfold bL at rx;rw[if_pos rfl]at rx;obtain⟨a,vs,f0,rfl,r2,r3,r4,rfl⟩:=rx;obtain⟨w,f1,f2,f3,w1,rfl,w2,w3⟩:=a9.at n r4 e2;have nd':=b8.mp nd;obtain⟨n1,n23,n4⟩:=bK.mp nd'.2;obtain⟨n2,n3,n5⟩:=bK.mp n23;obtain⟨c,ws,f4,c1,c2,c4,c6,c7,c5⟩:=vM r s w2 e n2;have cf:c∈f1++(f2++f3):=aA _ (aO _ c1);refine⟨c,ws,f4,aj _ cf,c2,⟨a,false,vs,w,rfl,.inl (by unfold CM;rw[r2]),BE (by rw[r4.len];exact e1) w1,c4⟩,c6,fun b hb=>aj _ (aA _ (aO _ (c7 b hb))),fun{d x'} e3=>?_⟩;have e3:((gY xs.length i).bind fun n=>(xs[n]?).bind fun y=>(eF r y d).map fun y'=>D.lst true (xs.set n y'))=some x':=e3;rw[e1]at e3;have e3:((xs[n]?).bind fun y=>(eF r y d).map fun y'=>D.lst true (xs.set n y'))=some x':=e3;rw[e2]at e3;have e3:((eF r y d).map fun y'=>D.lst true (xs.set n y'))=some x':=e3;cases e4:eF r y d with
    |none=>rw[e4]at e3;cases e3
    |some y'=>
     rw[e4]at e3;cases e3;obtain⟨c3,c5⟩:=c5 e4;refine⟨c3,fun{F1 H' u f} s1 rd nf df h1 h2=>?_⟩;obtain⟨g,g1,g2,g3⟩:=c5 s1 rd nf (fun b hb z=>df b hb (aj _ (aA _ (aO _ z)))) (fun b hb hc=>h1 b (aj _ (aA _ (aO _ hb))) hc) h2;refine⟨a::(f1++(g++f3)),?_,?_,?_⟩
     ·unfold bL;rw[if_pos rfl];refine⟨a,vs,_,rfl,by rw[h1 a ay fun z=>nd'.1 (by rw[z];exact cf)];exact r2,r3,w3 s1 (fun b hb=>h1 b (aj _ (aO _ hb)) fun z=>n4 b hb c (aO _ c1) z) (fun b hb=>h1 b (aj _ (aA _ (aA _ hb))) fun z=>n5 c c1 b hb z.symm) g1,rfl⟩
     ·exact M5 nd (fun b hb=>g3 b hb) g2 df
     ·exact UX g3
 ·rename_i xs;cases e1:gY xs.length i with
  |none=>rw[e1]at e;cases e
  |some n=>
   rw[e1]at e;have e:((xs[n]?).bind fun y=>iX r y)=some (.lst true ys):=e;cases e2:xs[n]? with
   |none=>rw[e2]at e;cases e
   |some y=>
    rw[e2]at e;have e:iX r y=some (.lst true ys):=e;obtain⟨a,vs,rfl,r2,r3,r4⟩:=rx;obtain⟨w,f1,f2,f3,w1,rfl,w2,w3⟩:=a9.at n r4 e2;obtain⟨n1,n23,n4⟩:=bK.mp nd;obtain⟨n2,n3,n5⟩:=bK.mp n23;obtain⟨c,ws,f4,c1,c2,c4,c6,c7,c5⟩:=vM r s w2 e n2;refine⟨c,ws,f4,aA _ (aO _ c1),c2,⟨a,true,vs,w,rfl,tupS (s _ _ r2),BE (by rw[r4.len];exact e1) w1,c4⟩,c6,fun b hb=>aA _ (aO _ (c7 b hb)),fun{d x'} e3=>?_⟩;have e3:((gY xs.length i).bind fun n=>(xs[n]?).bind fun y=>(eF r y d).map fun y'=>D.tup (xs.set n y'))=some x':=e3;rw[e1]at e3;have e3:((xs[n]?).bind fun y=>(eF r y d).map fun y'=>D.tup (xs.set n y'))=some x':=e3;rw[e2]at e3;have e3:((eF r y d).map fun y'=>D.tup (xs.set n y'))=some x':=e3;cases e4:eF r y d with
    |none=>rw[e4]at e3;cases e3
    |some y'=>
     rw[e4]at e3;cases e3;obtain⟨c3,c5⟩:=c5 e4;refine⟨c3,fun{F1 H' u f} s1 rd nf df h1 h2=>?_⟩;obtain⟨g,g1,g2,g3⟩:=c5 s1 rd nf (fun b hb z=>df b hb (aA _ (aO _ z))) (fun b hb hc=>h1 b (aA _ (aO _ hb)) hc) h2;refine⟨f1++(g++f3),⟨a,vs,rfl,s1 _ _ r2,r3,w3 s1 (fun b hb=>h1 b (aO _ hb) fun z=>n4 b hb c (aO _ c1) z) (fun b hb=>h1 b (aA _ (aA _ hb)) fun z=>n5 c c1 b hb z.symm) g1⟩,?_,?_⟩
     ·exact BG nd (fun b hb=>g3 b hb) g2 df
     ·exact AL g3
 ·cases e
theorem runS[Ex](hΓ:dO K Γp M)(I:br K F0 H0 Y O F H fp)(lt:cV e=true)(he:pE Γp e Y=.ok d)
  (h:∀v F1 H1,br K F0 H0 Y O F1 H1 fp->a6 F F1->a6 H H1->(aX d=true->∃f,jX K H0 F1 H1 fp d v f)->Q v H1):wE K M Ex.E e O H Q:=by
 refine fR hΓ e (I.env (b_ e)) (eO I.g.s) lt ?_;rw[he];intro F' H' v f g fr r;refine h v _ H' (I.back g) (fun b o q=>?_) g.h fun ho=>?_
 ·have hb:b∉ownAt fp (b_ e):=fun z=>by
   obtain⟨i,_,hb⟩:=eS.mp z;rw[I.nf i b hb]at q;cases q
  rw[fN hb];exact g.f b o (cX I.g.s b o q)
 refine⟨f,bL.less (lI g.s ((I.lists _).mono g.h)) d v f ho r,fr.nd,fun a ha=>a6.none (jS _ _) (fr.nf a ha),fun a ha=>a6.none I.g.h (fr.nh a ha),fun i a ha hb=>?_⟩;obtain⟨o,e,_⟩:=I.ex i a hb;rw[fr.nh a ha]at e;cases e
theorem Y8[Ex](hΓ:dO K Γp M){o:CE}(I:br K F0 H0 Y O F H fp)(la:cV a=true)(h:cG K F0 H0 (C4 Γp o a Y) X):wE K M Ex.E (.mth .append o (.cons a .nil)) O H fun _ H1=>X.nx O H1:=by
 unfold C4 at h;split at h
 ·rename_i p ep;obtain⟨d,e1,h⟩:=JF h;split at h
  ·rename_i x ex;split at h
   ·rename_i ho;cases e3:eF p.2 x d with
    |none=>rw[e3]at h;exact h.elim
    |some x'=>
     rw[e3]at h;have h:cG K F0 H0 (.nx (Y.set p.1 (some x'))) X:=h;obtain⟨v,hv,rx⟩:=I.rep _ _ ex;obtain⟨ys,eg⟩:=JH p.2 e3;obtain⟨c,ws,f2,c1,c2,c4,_,_,c5⟩:=vM p.2 I.g.s rx eg (I.nd _);obtain⟨c3,c5⟩:=c5 e3;refine QE I o (show sJ Y o=some (p.1,p.2)from ep) hv c4 ⟨?_,?_⟩
     ·show jA H c;unfold jA;rw[c2];trivial
     ·simp only[wEs];refine runS hΓ I la e1 fun u F1 H1 I1 sF sH V1=>?_;obtain⟨f,V1⟩:=V1 ho;show(match H1 c with|some (.lst xs)=>xs.length<aa/\X.nx O (upd H1 c (.lst (xs++[u])))|_=>False);rw[sH _ _ c2];refine⟨c3,?_⟩;have hcf:c∉f:=fun z=>V1.dis p.1 c z c1;obtain⟨fs',g1,g2,g3⟩:=c5 (H':=upd H1 c (.lst (ws++[u]))) sF (bL.mono (a6.refl _) _ _ _ (fun b hb=>aV fun z=>hcf (by rw[<-z];exact hb)) V1.r) V1.nd (fun b hb=>V1.dis p.1 b hb) (fun b hb hc=>by
       rw[aV hc];obtain⟨o,eo,_⟩:=I.ex p.1 b hb;rw[eo,sH b o eo]) bQ
      refine h O F1 _ _ (I1.put c1 hv g1 g2 (fun b hb=>?_) (fun b hb=>?_) fun i hi b hb z=>?_)
      ·rcases g3 b hb with q|q
       ·exact I1.nf p.1 b q
       ·exact V1.nf b q
      ·rcases g3 b hb with q|q
       ·exact I1.nh p.1 b q
       ·exact V1.nh b q
      ·rcases g3 b hb with q|q
       ·exact hi (I1.dis i p.1 b z q)
       ·exact V1.dis i b q z
   ·exact h.elim
  ·exact h.elim
 ·exact h.elim
theorem okX[Ex](hΓ:dO K Γp M)(I:br K F0 H0 Y O F H fp)(lt:cV e=true)(h:cG K F0 H0 (pX Γp e Y) X):wE K M Ex.E e O H fun _ H1=>X.nx O H1:=by
 have gen:cG K F0 H0 ((pE Γp e Y).aU fun _=>.nx Y) X->wE K M Ex.E e O H fun _ H1=>X.nx O H1:=fun h=>by
  rcases j9 h with⟨x,e1,hx⟩|⟨d,e1,h⟩
  ·exact vL hΓ I lt e1 hx
  exact runD' hΓ I lt e1 fun v F1 H1 I1 _ _=>h O F1 H1 fp I1
 cases e with
 |mth m o as=>
  cases o with
  |var k=>
   obtain⟨_,lt2⟩:=band' (show(cV (.var k)&&jK as)=true from lt);cases m with
   |append=>
    cases as with
    |nil=>exact h.elim
    |cons a r=>
     cases r with
     |cons _ _=>exact h.elim
     |nil=>
      obtain⟨la,_⟩:=band' (show(cV a&&jK .nil)=true from lt2);rcases C7 (show cG K F0 H0 ((pE Γp a Y).nR (nV Y[k]?) fun d=>match Y[k]? with|some (some (.lst true xs))=>if(decide (xs.length<aa)&&(aX d||!(b_ a).contains k))=true then .nx ((gQ (b_ a) (aX d) Y).set k (some (.lst true (xs++[d]))))else .bad|_=>.bad) X from h)with⟨hb,x,e1,hx⟩|⟨d,e1,h⟩
      ·unfold nV at hb;split at hb
       ·rename_i xs q;obtain⟨a0,us,fs,s1,s2,s3,s4,s5⟩:=I.lst q;refine slot_of s1 ⟨?_,?_⟩
        ·show jA H a0;unfold jA;rw[s2];trivial
        ·simp only[wEs];exact vL hΓ I la e1 hx
       ·cases hb
      split at h
      ·rename_i xs q;split at h
       ·rename_i c;obtain⟨c1,c2⟩:=band' c;have c1:=of_decide_eq_true c1;obtain⟨a0,us,fs,s1,s2,s3,s4,s5⟩:=I.lst q;refine slot_of s1 ⟨?_,?_⟩
        ·show jA H a0;unfold jA;rw[s2];trivial
        ·simp only[wEs];refine AK hΓ I la e1 fun v F1 H1 fp1 f I1 V1=>?_;obtain⟨a1,us1,fs1,t1,t2,t3,t4,t5⟩:=I1.lst (k:=k) (xs:=xs) (by rw[C8 c2];exact q);rw[s1]at t1;cases t1;show(match H1 a0 with|some (.lst xs)=>xs.length<aa/\X.nx O (upd H1 a0 (.lst (xs++[v])))|_=>False);rw[t2];refine⟨by rw[t4.len];exact c1,?_⟩;have nd1:(fs1++f).Nodup:=by
          have n:=I1.nd k;rw[t5]at n;refine bK.mpr ⟨(b8.mp n).2,V1.nd,fun a ha b hb z=>?_⟩;subst z;exact V1.dis k a hb (by rw[t5];exact aj _ ha)
         obtain⟨fp',I'⟩:=I1.GJ (xs:=xs) (xs':=xs++[d]) (vs:=us1) (vs':=us1++[v]) (fs:=fs1) (fs':=fs1++f) V1 s1 t5 (by rw[ak,t4.len];simp;omega)
          (fun h1 h2=>a9.app (a9.mono (a6.refl _) _ _ _ h1 t4) (a9.one (bL.mono (a6.refl _) _ _ _ h2 V1.r))) nd1 (fun b hb=>a_.mp hb)
         exact h O F1 _ fp' I'
       ·exact h.elim
      ·exact h.elim
   |extend=>
    cases as with
    |nil=>exact h.elim
    |cons a r=>
     cases r with
     |cons _ _=>exact h.elim
     |nil=>
      obtain⟨la,_⟩:=band' (show(cV a&&jK .nil)=true from lt2);rcases C7 (show cG K F0 H0 ((pE Γp a Y).nR (nV Y[k]?) fun d=>C5 k (b_ a) d Y) X from h)with⟨hb,x,e1,hx⟩|⟨d,e1,h⟩
      ·unfold nV at hb;split at hb
       ·rename_i xs q;obtain⟨a0,us,fs,s1,s2,s3,s4,s5⟩:=I.lst q;refine slot_of s1 ⟨?_,?_⟩
        ·show jA H a0;unfold jA;rw[s2];trivial
        ·simp only[wEs];exact vL hΓ I la e1 hx
       ·cases hb
      unfold C5 at h;split at h
      ·rename_i ys;split at h
       ·rename_i xs q;split at h
        ·rename_i c;obtain⟨c1,c2⟩:=band' c;have c1:=of_decide_eq_true c1;obtain⟨a0,us,fs,s1,s2,s3,s4,s5⟩:=I.lst q;refine slot_of s1 ⟨?_,?_⟩
         ·show jA H a0;unfold jA;rw[s2];trivial
         ·simp only[wEs];refine AK hΓ I la e1 fun v F1 H1 fp1 f I1 V1=>?_;obtain⟨a1,us1,fs1,t1,t2,t3,t4,t5⟩:=I1.lst (k:=k) (xs:=xs) (by rw[C8 c2];exact q);rw[s1]at t1;cases t1;have rv:=V1.r;unfold bL at rv;rw[if_pos rfl]at rv;obtain⟨b,ws,f2,rfl,k2,k3,k4,rfl⟩:=rv;show(match H1 a0 with|some (.lst xs)=>∃zs,H1 b=some (.lst zs)/\xs.length+zs.length<=aa/\X.nx O (upd H1 a0 (.lst (xs++zs)))|_=>False);rw[t2];refine⟨ws,k2,by rw[t4.len,k4.len];exact c1,?_⟩;have nd2:=b8.mp V1.nd;have nd1:(fs1++f2).Nodup:=by
           have n:=I1.nd k;rw[t5]at n;refine bK.mpr ⟨(b8.mp n).2,nd2.2,fun a ha b hb z=>?_⟩;subst z;exact V1.dis k a (aj _ hb) (by rw[t5];exact aj _ ha)
          obtain⟨fp',I'⟩:=I1.GJ (xs:=xs) (xs':=xs++ys) (vs:=us1) (vs':=us1++ws) (fs:=fs1) (fs':=fs1++f2) V1 s1 t5 (by rw[ak,t4.len,k4.len];exact c1)
           (fun h1 h2=>a9.app (a9.mono (a6.refl _) _ _ _ h1 t4) (a9.mono (a6.refl _) _ _ _ (fun b hb=>h2 b (aj _ hb)) k4)) nd1 (fun b hb=>by
            rcases a_.mp hb with z|z
            ·exact .inl z
            ·exact .inr (aj _ z))
          exact h O F1 _ fp' I'
        ·exact h.elim
       ·exact h.elim
      ·exact h.elim
   |_=>exact gen h
  |ix o i=>
   obtain⟨_,lt2⟩:=band' (show(cV (.ix o i)&&jK as)=true from lt);cases m with
   |append=>
    cases as with
    |nil=>exact h.elim
    |cons a r=>
     cases r with
     |cons _ _=>exact h.elim
     |nil=>
      obtain⟨la,_⟩:=band' (show(cV a&&jK .nil)=true from lt2);exact Y8 hΓ I la h
   |_=>exact gen h
  |_=>exact gen h
 |_=>exact gen h
theorem Xn[Ex](hΓ:dO K Γp M){g:CG}(I:br K F0 H0 Y O F H fp)(lg:Xi g=true)(lt:cV e=true)(h:cG K F0 H0 (pA Γp g e Y) X):wE K M Ex.E e O H fun x H1=>wG K M Ex.E g x O H1 X.nx:=by
 cases g with
 |name i=>
  rcases j9 (show cG K F0 H0 ((pE Γp e Y).aU fun d=>.nx ((gQ (b_ e) (aX d) Y).set i (some d))) X from h)with⟨x,e1,hx⟩|⟨d,e1,h⟩
  ·exact vL hΓ I lt e1 hx
  exact AK hΓ I lt e1 fun v F1 H1 fp1 f I1 V1=>h _ F1 H1 _ (I1.set V1 i)
 |tup gs=>
  rcases j9 (show cG K F0 H0 ((pE Γp e Y).aU fun d=>(pG (.tup gs) d (gQ (b_ e) (aX d) Y)).aU .nx) X from h)with⟨x,e1,hx⟩|⟨d,e1,h⟩
  ·exact vL hΓ I lt e1 hx
  obtain⟨σ2,e2,h⟩:=GH h (GI _ _ _);refine AK hΓ I lt e1 fun v F1 H1 fp1 f I1 V1=>?_;exact Xl (.tup gs) I1 V1 e2 fun σ' fp' I' _=>h σ' _ H1 fp' I'
 |sub o i=>
  obtain⟨_,li⟩:=band' (show(cV o&&cV i)=true from lg);cases o with
  |var k=>
   rcases j9 (show cG K F0 H0 ((pE Γp e Y).aU fun d=>(pE Γp i (gQ (b_ e) (aX d) Y)).nR false fun j=>match Y[k]? with
    |some (some x)=>if(aX d||!(b_ e).contains k)=true then(R.opt (putIn x d j)).aU fun x'=>.nx ((gQ (b_ e) (aX d) Y).set k (some x'))else .bad
    |_=>.bad) X from h)with⟨x,e1,hx⟩|⟨d,e1,h⟩
   ·exact vL hΓ I lt e1 hx
   obtain⟨j,e2,h⟩:=JF h;cases q:Y[k]? with
   |none=>simp only[q]at h;exact h.elim
   |some o=>
    cases o with
    |none=>simp only[q]at h;exact h.elim
    |some x=>
     simp only[q]at h;by_cases c:(aX d||!(b_ e).contains k)=true
     ·rw[if_pos c]at h;obtain⟨x',e3,h⟩:=GH h bE.opt;have e3:=uQ e3;refine AK hΓ I lt e1 fun v F1 H1 fp1 f I1 V1=>?_;show lF O k fun x=>wE K M Ex.E i O H1 fun y H2=>match x with
       |.ref a=>match H2 a with
        |some (.lst xs)=>∃k j,y=.int k/\gY xs.length k=some j/\X.nx O (upd H2 a (.lst (xs.set j v)))
        |some (.dK kvs)=>∃k,y=kV k/\kvs.length<aa/\X.nx O (upd H2 a (.dK (putK kvs k v)))
        |some (.dT kvs)=>∃k b,y=.ref b/\H2 b=some (.tup (k.map kV))/\kvs.length<aa/\X.nx O (upd H2 a (.dT (putK kvs k v)))
        |_=>False
       |_=>False
      have nd1:∀{F2 H2:Hp}{a0:Addr}{fs1:List Addr},br K F0 H0 (gQ (b_ e) (aX d) Y) O F2 H2 fp1->jX K H0 F2 H2 fp1 d v f->fp1 k=a0::fs1->(fs1++f).Nodup:=fun I2 V2 t5=>by
       have n:=I2.nd k;rw[t5]at n;refine bK.mpr ⟨(b8.mp n).2,V2.nd,fun a ha b hb z=>?_⟩;subst z;exact V2.dis k a hb (by rw[t5];exact aj _ ha)
      have q1:(gQ (b_ e) (aX d) Y)[k]?=some (some x):=by rw[C8 c];exact q
      cases x with
      |lst o xs=>
       cases o with
       |false=>cases e3
       |true=>
        cases j with
        |int j=>
         have e3:(gY xs.length j).map (fun n=>D.lst true (xs.set n d))=some x':=e3;cases en:gY xs.length j with
         |none=>rw[en]at e3;cases e3
         |some n=>
          rw[en]at e3;cases e3;obtain⟨a0,us,fs,s1,s2,s3,s4,s5⟩:=I1.lst q1;refine slot_of s1 (runV hΓ I1 V1 li e2 fun w F2 H2 I2 V2 rj=>?_);have rj:w=.int j:=rj rfl rfl;subst rj;obtain⟨a1,us1,fs1,t1,t2,t3,t4,t5⟩:=I2.lst q1;rw[s1]at t1;cases t1;simp only[t2];refine⟨j,n,rfl,by rw[t4.len];exact en,?_⟩;obtain⟨fs',q1,q2,q3⟩:=a9.set n t4 V2.r (nd1 I2 V2 t5);obtain⟨fp',I'⟩:=I2.GJ (xs:=xs) (xs':=xs.set n d) (vs:=us1) (vs':=us1.set n v) (fs:=fs1) (fs':=fs') V2 s1 t5 (by rw[Cj];exact t3)
           (fun h1 h2=>a9.mono (a6.refl _) _ _ _ (fun b hb=>by
            rcases q3 b hb with z|z
            ·exact h1 b z
            ·exact h2 b z) q1) q2 q3
          exact h O F2 _ fp' I'
        |_=>cases e3
      |_=>cases e3
     ·rw[if_neg c]at h;exact h.elim
  |_=>exact h.elim
theorem kQ(f:α->D)(h:∀a,bh (f a)=f a):∀l:List α,aD (l.map f)=l.map f
|[]=>rfl
|a::r=>by show bh (f a)::aD (r.map f)=_;rw[h a,kQ f h r];rfl
theorem AM:∀(ds es:List D),aD ds=ds->aD es=es->aD (nc ds es)=nc ds es
|[],es,_,_=>by cases es<;>rfl
|d::r,[],_,_=>rfl
|d::r,e::t,h,h'=>by
 have h:bh d::aD r=d::r:=h;have h':bh e::aD t=e::t:=h';injection h with h1 h2;injection h' with h3 h4;show D.tup [bh d,bh e]::aD (nc r t)=_;rw[h1,h3,AM r t h2 h4];rfl
theorem Ef:∀(ds:List D) (n:Nat),aD ds=ds->aD (iy n ds)=iy n ds
|[],_,_=>rfl
|d::r,n,h=>by
 have h':bh d::aD r=d::r:=h;injection h' with h1 h2;show D.tup [.int (n:Int),bh d]::aD (iy (n+1) r)=_;rw[h1,Ef r (n+1) h2];rfl
theorem Xo{items:Bool×List D}(h:pI Γp src Y=.ok items):aD items.2=items.2:=by
 cases src with
 |seq a=>
  obtain⟨x,e1,e2⟩:=cu h;obtain⟨ds,e3,e4⟩:=cu e2;cases e4;cases x with
  |str z=>cases e3;exact kQ _ (fun _=>rfl) _
  |lst o xs=>cases e3;exact dU xs
  |tup xs=>cases e3;exact dU xs
  |_=>cases e3
 |range as=>
  obtain⟨x,e1,e2⟩:=cu h;obtain⟨ds,e3,e4⟩:=cu e2;cases e4;unfold nS at e3;split at e3
  ·obtain⟨_,e5⟩:=jL e3;cases e5;exact kQ _ (fun _=>rfl) _
  ·obtain⟨_,e5⟩:=jL e3;cases e5;exact kQ _ (fun _=>rfl) _
  ·cases e3
 |zip as=>
  obtain⟨xs,e1,e2⟩:=cu h;unfold tK at e2;split at e2
  ·cases e2;exact AM _ _ (dU _) (dU _)
  ·cases e2;exact AM _ _ (dU _) (dU _)
  ·cases e2
 |enum a=>
  obtain⟨x,e1,e2⟩:=cu h;cases x with
  |lst o xs=>cases e2;exact Ef _ 0 (dU xs)
  |_=>cases e2
theorem K0[Ex]{g:CG}{b:b6}{B:Hp}{ok:Hp->Prop}(hok:∀H'',a6 B H''->ok H'')
 (hb:∀{Y:bf}{O:L2.St}{F H:Hp}{fp:Nat->List Addr}{X:Ends},br K B H0 Y O F H fp->cG K B H0 (dP Γp n b Y) X->wSs K M Ex.E b X O H) :
 ∀(ds:List D) (its:List Item) {Y:bf}{O:L2.St}{F H:Hp}{fp:Nat->List Addr},br K B H0 Y O F H fp->kO K B ds its->cG K B H0 (forR (pG g) (dP Γp n b) (aD ds) Y) X->forL ok (wG K M Ex.E g) (wSs K M Ex.E b) X its O H
|[],its,Y,O,F,H,fp,I,hi,h=>by
 cases hi;exact⟨hok H (I.g.f.trans I.g.s),h O F H fp I⟩
|d::ds,its,Y,O,F,H,fp,I,hi,h=>by
 obtain⟨it,r,rfl,i1,i2⟩:=hi;have hit:Xb K F d it:=by
  cases it with
  |v x=>exact aZ.mono I.g.f d x i1
  |tup xs=>obtain⟨es,q1,q2,q3⟩:=i1;exact⟨es,q1,aM.mono I.g.f es xs q2,q3⟩
 refine⟨hok H (I.g.f.trans I.g.s),Eb I.g.s hit fun F1 H1 v g1 r1=>?_⟩;obtain⟨σ2,e1,h⟩:=GH (show cG K B H0 ((pG g (bh d) Y).aU fun σ2=>match dP Γp n b σ2 with
  |.nx σ3=>forR (pG g) (dP Γp n b) (aD ds) σ3
  |.ct σ3=>forR (pG g) (dP Γp n b) (aD ds) σ3
  |.bk σ3=>.nx σ3
  |.rt d=>.rt d
  |.ex x=>.ex x
  |.bad=>.bad) X from h) (GI _ _ _)
 refine ruG' g (I.grow g1) r1 e1 fun σ' fp' I'=>?_;refine hb I' ?_;cases q:dP Γp n b σ2 with
 |nx σ3=>simp only[q]at h;exact fun O F H fp I3=>K0 hok hb ds r I3 i2 h
 |ct σ3=>simp only[q]at h;exact fun O F H fp I3=>K0 hok hb ds r I3 i2 h
 |bk σ3=>simp only[q]at h;exact h
 |rt d=>simp only[q]at h;exact h
 |ex x=>simp only[q]at h;exact h
 |bad=>simp only[q]at h;exact h.elim
end
theorem JI:∀(fs:List (Str×Nat)) (acc:List (Str×V)),(acc.map (·.1)++fs.map (·.1)).Nodup->lV fs vs acc=acc++fs.map fun p=>(p.1,vs.getD p.2 .non)
|[],acc,_=>by simp[lV]
|(f,j)::r,acc,h=>by
 have hp:∀(acc:List (Str×V)) (v:V),f∉acc.map (·.1)->h_ f v acc=acc++[(f,v)]:=by
  intro acc v;induction acc with
  |nil=>intro _;rfl
  |cons p acc ih=>
   obtain⟨g,x⟩:=p;intro hn;simp only[cj,aH,not_or]at hn;show(if g=f then(g,v)::acc else(g,x)::h_ f v acc)=_;rw[if_neg (fun z=>hn.1 z.symm),ih hn.2];rfl
 have hf:f∉acc.map (·.1):=fun z=>by
  have:=(bK.mp h).2.2 f z f (by simp);exact this rfl
 show lV r vs (h_ f (vs.getD j .non) acc)=_;rw[hp acc _ hf,JI r (acc++[(f,vs.getD j .non)]) (by simpa[aW]using h)];simp[aW]
theorem aM.getD:∀{ds:List D}{vs:List V} (j:Nat),aM K F ds vs->aZ K F (bh (ds.getD j .non)) (vs.getD j .non)
|[],_,j,h=>by cases h;rfl
|d::ds,_,0,h=>by
 obtain⟨v,r,rfl,h2,_⟩:=h;exact(aZ.bh d v).mpr h2
|d::ds,_,j+1,h=>by
 obtain⟨v,r,rfl,_,h3⟩:=h;exact aM.getD j h3
theorem GK(h:aM K F ds vs):∀fs:List (Str×Nat),aM K F (fs.map fun p=>bh (ds.getD p.2 .non)) (fs.map fun p=>vs.getD p.2 .non)
|[]=>rfl
|p::fs=>⟨_,_,rfl,aM.getD p.2 h,GK h fs⟩
variable{F0 H0:Hp}
theorem br.drop{O:L2.St}{fp:Nat->List Addr}{i:Nat}{w:Option V}(I:br K F0 H0 Y O F H fp):br K F0 H0 (Y.set i none) (O.set i w) F H fp where
 g:=I.g
 len:=by simp[I.len]
 rep:=fun j d e=>by
  by_cases hij:i=j
  ·subst hij;rw[gw]at e;split at e
   ·split at e<;>cases e
   ·rename_i z;exact absurd rfl z
  ·rw[cB hij]at e ⊢;exact I.rep j d e
 ex:=I.ex
 nd:=I.nd
 nf:=I.nf
 nh:=I.nh
 dis:=I.dis
variable{Γp:List PG}{X:Ends}{s:CS}
theorem Y9[Ex]{M:List G}{O:L2.St}{fp:Nat->List Addr}(hΓ:dO K Γp M){t:CS}(I:br K F0 H0 Y O F H fp)(lt:Ec t=true)(h:cG K F0 H0 (vK Γp s t Y) X):wS K M Ex.E s { X with nx:=wS K M Ex.E t X } O H:=by
 unfold vK at h;split at h
 ·rename_i j o i a;split at h
  ·rename_i hij;subst hij;split at h
   ·rename_i p ep;unfold C6 at h;split at h
    ·rename_i x ex;split at h
     ·rename_i ys eg;split at h
      ·rename_i hl;have hi:i<O.length:=by rw[<-I.len];exact hl
       obtain⟨v,hv,rx⟩:=I.rep _ _ ex;obtain⟨c,ws,f2,c1,c2,c4,c6,c7,c5⟩:=vM p.2 I.g.s rx eg (I.nd _);obtain⟨_,lt2⟩:=band' (show(cV (.var i)&&jK (.cons a .nil))=true from lt);obtain⟨la,_⟩:=band' (show(cV a&&jK .nil)=true from lt2);show wE K M Ex.E o O H fun v H1=>wE K M Ex.E (.mth .append (.var i) (.cons a .nil)) (O.set i (some v)) H1 fun _ H2=>X.nx (O.set i (some v)) H2;refine QE I o (show sJ Y o=some (p.1,p.2)from ep) hv c4 ?_;refine slot_of (eK hi) ⟨?_,?_⟩
       ·show jA H c;unfold jA;rw[c2];trivial
       ·simp only[wEs];have env:iL K (adopt F H (ownAt fp (p.1::b_ a))) H (b_ a) (Y.set i (some (.lst true ys))) (O.set i (some (.ref c))):=⟨fun b hb d e=>by
         by_cases hbi:b=i
         ·subst hbi;rw[eK hl]at e;cases e;exact⟨.ref c,eK hi,bL.fix (cX I.g.s) _ _ f2 (fun a ha=>jl (eS.mpr ⟨p.1,ay,c7 a ha⟩)) c6⟩
         ·rw[cB (cT hbi)]at e ⊢;exact(I.env (p.1::b_ a)).e b (aj _ hb) d e,fun b d e=>by
         by_cases hbi:b=i
         ·subst hbi;rw[eK hl]at e;cases e;exact⟨.ref c,adopt F H (ownAt fp (p.1::b_ a)),eK hi,eO I.g.s,bL.fix (cX I.g.s) _ _ f2 (fun a ha=>jl (eS.mpr ⟨p.1,ay,c7 a ha⟩)) c6⟩
         ·rw[cB (cT hbi)]at e ⊢;exact(I.env []).n b d e⟩
        refine fR hΓ a env (eO I.g.s) la ?_;rcases j9 h with⟨x0,e1,hx⟩|⟨d,e1,h⟩
        ·rw[e1];exact iK.grow (K:=K) (x:=x0) hx (I.own (p.1::b_ a))
        ·rw[e1];intro F' H' u f g fr r;split at h
         ·rename_i ho;cases e3:eF p.2 x d with
          |none=>rw[e3]at h;exact h.elim
          |some x'=>
           rw[e3]at h;have h:cG K F0 H0 (.nx ((Y.set p.1 (some x')).set i none)) X:=h;obtain⟨c3,c5⟩:=c5 e3;have I1:=I.back g;have V1:jX K H0 (minus F' (ownAt fp (p.1::b_ a))) H' fp d u f:=⟨bL.less (lI g.s ((I.lists _).mono g.h)) d u f ho r,fr.nd,fun a ha=>a6.none (jS _ _) (fr.nf a ha),fun a ha=>a6.none I.g.h (fr.nh a ha),fun i a ha hb=>by
            obtain⟨o,e,_⟩:=I.ex i a hb;rw[fr.nh a ha]at e;cases e⟩
           have sF:a6 F (minus F' (ownAt fp (p.1::b_ a))):=fun b o q=>by
            have hb:b∉ownAt fp (p.1::b_ a):=fun z=>by
             obtain⟨i,_,hb⟩:=eS.mp z;rw[I.nf i b hb]at q;cases q
            rw[fN hb];exact g.f b o (cX I.g.s b o q)
           show(match H' c with|some (.lst xs)=>xs.length<aa/\X.nx (O.set i (some (.ref c))) (upd H' c (.lst (xs++[u])))|_=>False);rw[g.h _ _ c2];refine⟨c3,?_⟩;have hcf:c∉f:=fun z=>V1.dis p.1 c z c1;obtain⟨fs',g1,g2,g3⟩:=c5 (H':=upd H' c (.lst (ws++[u]))) sF (bL.mono (a6.refl _) _ _ _ (fun b hb=>aV fun z=>hcf (by rw[<-z];exact hb)) V1.r) V1.nd (fun b hb=>V1.dis p.1 b hb) (fun b hb hc=>by
            rw[aV hc];obtain⟨o,eo,_⟩:=I.ex p.1 b hb;rw[eo,g.h b o eo]) bQ
           refine h _ _ _ _ (I1.put c1 hv g1 g2 (fun b hb=>?_) (fun b hb=>?_) fun i hi b hb z=>?_).drop
           ·rcases g3 b hb with q|q
            ·exact I1.nf p.1 b q
            ·exact V1.nf b q
           ·rcases g3 b hb with q|q
            ·exact I1.nh p.1 b q
            ·exact V1.nh b q
           ·rcases g3 b hb with q|q
            ·exact hi (I1.dis i p.1 b z q)
            ·exact V1.dis i b q z
         ·exact h.elim
      ·exact h.elim
     ·exact h.elim
    ·exact h.elim
   ·exact h.elim
  ·exact h.elim
 ·exact h.elim
theorem Xp[Ex]{M:List G}(hΓ:dO K Γp M){O:L2.St}{fp:Nat->List Addr}(I:br K F0 H0 Y O F H fp)(lt:jK as=true)(h:cG K F0 H0 (pS Γp n (.rais g as) Y) X):wS K M Ex.E (.rais g as) X O H:=by
 have h:cG K F0 H0 (match Γp[g]? with
  |some (.cls C fs k)=>(eW Γp as Y).aU fun ds=>if(decide (ds.length+1=k)&&decide (fs.map (·.1)).Nodup)=true then .ex (BF C fs ds)else .bad
  |_=>.bad) X:=h
 show(match M[g]? with
  |some (.cls C fs n)=>xq C fs n (wEs K M Ex.E as) Ex.E X O H
  |_=>False)
 cases q:Γp[g]? with
 |none=>rw[q]at h;exact h.elim
 |some p=>
  obtain⟨g',e1,e2⟩:=hΓ.get g q;rw[q]at h;rw[e1];cases p<;>first|exact h.elim|skip
  cases g'<;>first|exact e2.elim|skip
  rename_i C fs k _ _ _;obtain⟨rfl,rfl,rfl⟩:=e2;dsimp only at h ⊢;unfold xq;rcases j9 h with⟨x,e3,hx⟩|⟨ds,e3,h⟩
  ·exact Y6 hΓ I lt e3 hx
  split at h
  ·rename_i c;obtain⟨c1,c2⟩:=band' c;refine nU hΓ as (I.env (kN as)) (eO I.g.s) lt ?_;rw[e3];intro F1 H1 vs fp1 g1 fr r;obtain⟨F2,g2,_,rf⟩:=zb g1 fr r;refine⟨by rw[rf.len];exact of_decide_eq_true c1,fun d hd=>?_⟩;have h:iK K F0 H0 (BF C fs ds):=h;have g3:=xE (o:=ic d (lV fs (.non::vs) [])) g2.s hd;have eq:lV fs (.non::vs) []=(fs.map (·.1)).zip (fs.map fun p=>(V.non::vs).getD p.2 .non):=by
    rw[JI fs [] (by simpa using of_decide_eq_true c2),kJ,List.zip_map']
   refine h (upd F2 d (ic d (lV fs (.non::vs) []))) _ d (fs.map fun p=>(V.non::vs).getD p.2 .non) (((I.own _).trans g2).trans g3) (by rw[bQ,eq]) ?_;have hn:aM K (upd F2 d (ic d (lV fs (.non::vs) []))) (D.non::ds) (V.non::vs):=⟨_,_,rfl,rfl,aM.mono g3.f ds vs rf⟩;exact GK hn fs
  ·exact h.elim
theorem Y_[Ex]{M:List G}(hΓ:dO K Γp M){i:Nat}{O:L2.St}{fp:Nat->List Addr}(I:br K F0 H0 Y O F H fp)(lt:cV e=true)(h:cG K F0 H0 (pS Γp n (.aug i e) Y) X):wS K M Ex.E (.aug i e) X O H:=by
 have h:cG K F0 H0 (match Y[i]? with
  |some (some (.int a))=>(pE Γp e Y).aU fun d=>FN i a Y d
  |_=>.bad) X:=h
 show ∃x,O[i]?=some (some x)/\wE K M Ex.E e O H fun y H1=>∃i' j,x=.int i'/\y=.int j/\X.nx (O.set i (some (.int (i'+j)))) H1;split at h
 ·rename_i a q;obtain⟨v,h1,h2⟩:=(I.env [i]).e i (a8.mpr rfl) (.int a) q;obtain rfl:v=.int a:=h2;refine⟨.int a,h1,?_⟩;rcases j9 h with⟨x,e1,hx⟩|⟨d,e1,h⟩
  ·exact vL hΓ I lt e1 hx
  unfold FN at h;split at h
  ·rename_i b;refine runD' hΓ I lt e1 fun w F1 H1 I1 _ V1=>?_;obtain⟨f0,V1⟩:=V1 rfl;obtain⟨rfl,_⟩:=V1.r;exact⟨a,b,rfl,rfl,h _ F1 H1 _ (I1.set (jX.Xk (d:=.int (a+b)) (show aZ K F1 (.int (a+b)) (.int (a+b))from rfl)) i)⟩
  ·exact h.elim
 ·exact h.elim
mutual
theorem ruS{K:PySem.W.Frag}{Γp:List PG}{M:List G}(hΓ:dO K Γp M)[Ex]{n:Nat}:∀(c:CS) {F0 H0 F H:Hp}{Y:bf}{O:L2.St}{fp:Nat->List Addr}{X:Ends},br K F0 H0 Y O F H fp->Ec c=true->cG K F0 H0 (pS Γp n c Y) X->wS K M Ex.E c X O H
|.expr e,F0,H0,F,H,Y,O,fp,X,I,lt,h=>okX hΓ I lt h
|.asg g e,F0,H0,F,H,Y,O,fp,X,I,lt,h=>Xn hΓ I (band' lt).1 (band' lt).2 h
|.aug i e,F0,H0,F,H,Y,O,fp,X,I,lt,h=>Y_ hΓ I lt h
|.casg i e,F0,H0,F,H,Y,O,fp,X,I,lt,h=>by
 rcases j9 (show cG K F0 H0 ((pE Γp e Y).aU fun d=>.nx ((gQ (b_ e) (aX d) Y).set i (some d))) X from h)with⟨x,e1,hx⟩|⟨d,e1,h⟩
 ·exact vL hΓ I lt e1 hx
 exact AK hΓ I lt e1 fun v F1 H1 fp1 f I1 V1=>h _ F1 H1 _ (I1.set V1 i)
|.tasg g e,F0,H0,F,H,Y,O,fp,X,I,lt,h=>Xn hΓ I (band' lt).1 (band' lt).2 h
|.ret e,F0,H0,F,H,Y,O,fp,X,I,lt,h=>Y7 hΓ I lt h
|.ifs c a b,F0,H0,F,H,Y,O,fp,X,I,lt,h=>by
 obtain⟨l1,l2⟩:=band' (show(cV c&&(l7 a&&l7 b))=true from lt);obtain⟨l2,l3⟩:=band' l2;rcases j9 (show cG K F0 H0 ((pT Γp c Y).aU fun k=>if k=true then dP Γp n a Y else dP Γp n b Y) X from h)with⟨x,e1,hx⟩|⟨k,e1,h⟩
 ·exact TM hΓ I l1 e1 hx
 refine Xm hΓ I l1 e1 fun F1 H1 I1=>?_;cases k with
 |true=>exact AN hΓ a I1 l2 h
 |false=>exact AN hΓ b I1 l3 h
|.whil c b,F0,H0,F,H,Y,O,fp,X,I,lt,h=>by
 obtain⟨l1,l2⟩:=band' (show(cV c&&l7 b)=true from lt);refine⟨fun m O H=>∃Y F fp,br K F0 H0 Y O F H fp/\cG K F0 H0 (uo (pT Γp c) (dP Γp n b) m Y) X,⟨n,Y,F,fp,I,h⟩,?_⟩;rintro m O H ⟨Y,F,fp,I,h⟩;cases m with
 |zero=>exact h.elim
 |succ m=>
  rcases j9 (show cG K F0 H0 ((pT Γp c Y).aU fun k=>if k=true then match dP Γp n b Y with
   |.nx σ3=>uo (pT Γp c) (dP Γp n b) m σ3
   |.ct σ3=>uo (pT Γp c) (dP Γp n b) m σ3
   |.bk σ3=>.nx σ3
   |.rt d=>.rt d
   |.ex x=>.ex x
   |.bad=>.bad
   else .nx Y) X from h)with⟨x,e1,hx⟩|⟨k,e1,h⟩
  ·exact TM hΓ I l1 e1 hx
  refine Xm hΓ I l1 e1 fun F1 H1 I1=>?_;cases k with
  |false=>
   rw[if_neg aY]at h;rw[if_neg aY];exact h O F1 H1 fp I1
  |true=>
   rw[if_pos rfl]at h;rw[if_pos rfl];refine⟨fun O H=>∃Y F fp,br K F0 H0 Y O F H fp/\cG K F0 H0 (uo (pT Γp c) (dP Γp n b) m Y) X,fun σ' H' z=>⟨m,iS m,z⟩,?_⟩;refine AN (n:=n) hΓ b I1 l2 ?_;cases q:dP Γp n b Y with
   |nx σ3=>simp only[q]at h;exact fun O F H fp I3=>⟨σ3,F,fp,I3,h⟩
   |ct σ3=>simp only[q]at h;exact fun O F H fp I3=>⟨σ3,F,fp,I3,h⟩
   |bk σ3=>simp only[q]at h;exact h
   |rt d=>simp only[q]at h;exact h
   |ex x=>simp only[q]at h;exact h
   |bad=>simp only[q]at h;exact h.elim
|.forr g src b,F0,H0,F,H,Y,O,fp,X,I,lt,h=>by
 obtain⟨l1,l2⟩:=band' (show(ltI src&&l7 b)=true from lt);rcases j9 (show cG K F0 H0 ((pI Γp src Y).aU fun items=>forR (pG g) (dP Γp n b) items.2 (gQ (uO src) items.1 Y)) X from h)with⟨x,e1,hx⟩|⟨items,e1,h⟩
 ·exact Y5 hΓ I l1 e1 hx
 refine Xh hΓ src (ownAt fp (uO src)) (I.env (uO src)) (eO I.g.s) (I.lists _) l1 ?_;rw[e1];intro F' H' ok its g1 hok hi hl;obtain⟨fp',I'⟩:∃fp',br K F0 H0 (gQ (uO src) items.1 Y) O (rD items.1 F' (ownAt fp (uO src))) H' fp':=by
  cases items.1 with
  |true=>exact⟨fp,I.back g1⟩
  |false=>exact⟨_,I.Xj g1⟩
 have hf:aD items.2=items.2:=Xo e1;have h:=cG.rebase I'.g h;rw[<-hf]at h;exact K0 hok (fun I3 h3=>AN hΓ b I3 l2 h3) items.2 its I'.rebase hi h
|.brk,F0,H0,F,H,Y,O,fp,X,I,lt,h=>h O F H fp I
|.cont,F0,H0,F,H,Y,O,fp,X,I,lt,h=>h O F H fp I
|.never,F0,H0,F,H,Y,O,fp,X,I,lt,h=>h.elim
|.rais g as,F0,H0,F,H,Y,O,fp,X,I,lt,h=>Xp hΓ I lt h
theorem AN{K:PySem.W.Frag}{Γp:List PG}{M:List G}(hΓ:dO K Γp M)[Ex]{n:Nat}:∀(c:b6) {F0 H0 F H:Hp}{Y:bf}{O:L2.St}{fp:Nat->List Addr}{X:Ends},br K F0 H0 Y O F H fp->l7 c=true->cG K F0 H0 (dP Γp n c Y) X->wSs K M Ex.E c X O H
|.nil,F0,H0,F,H,Y,O,fp,X,I,lt,h=>h O F H fp I
|.cons s r,F0,H0,F,H,Y,O,fp,X,I,lt,h=>by
 obtain⟨l1,l2⟩:=band' (show(Ec s&&l7 r)=true from lt);have h:cG K F0 H0 (match pS Γp n s Y with|.nx σ'=>dP Γp n r σ'|x=>x) X:=h;refine ruS (n:=n) hΓ s I l1 ?_;cases q:pS Γp n s Y with
 |nx σ'=>simp only[q]at h;exact fun O F H fp I'=>AN hΓ r I' l2 h
 |bk σ'=>simp only[q]at h;exact h
 |ct σ'=>simp only[q]at h;exact h
 |rt d=>simp only[q]at h;exact h
 |ex x=>simp only[q]at h;exact h
 |bad=>simp only[q]at h;exact h.elim
|.two s t r,F0,H0,F,H,Y,O,fp,X,I,lt,h=>by
 obtain⟨l1,l2⟩:=band' (show(Ec s&&(Ec t&&l7 r))=true from lt);obtain⟨l2,l3⟩:=band' l2;have h:cG K F0 H0 (match vK Γp s t Y with|.nx σ'=>dP Γp n r σ'|x=>x) X:=h;show wS K M Ex.E s { X with nx:=wS K M Ex.E t { X with nx:=wSs K M Ex.E r X } } O H;refine Y9 (X:={ X with nx:=wSs K M Ex.E r X }) hΓ I l2 ?_;cases q:vK Γp s t Y with
 |nx σ'=>simp only[q]at h;exact fun O F H fp I'=>AN hΓ r I' l3 h
 |bk σ'=>simp only[q]at h;exact h
 |ct σ'=>simp only[q]at h;exact h
 |rt d=>simp only[q]at h;exact h
 |ex x=>simp only[q]at h;exact h
 |bad=>simp only[q]at h;exact h.elim
end
theorem UY[Ex]{K:PySem.W.Frag}{Γp:List PG}{M:List G}(hΓ:dO K Γp M){n:Nat}{N:List Str}{c:b6}(lt:l7 c=true){m:List D->R D}{vs:List V}{H:Hp}{Q:VK}(hm:∀ds,m ds≠.bad->ds.length<=N.length/\GD Γp n N c ds=m ds)
  (h:∃F ds,a6 F H/\aD ds=ds/\aM K F ds vs/\PV K F H (m ds) Q):wSs K M Ex.E c { nx:=fun _ H'=>Q .non H',rt:=Q } (vs.map some++aT (N.length-vs.length) none) H:=by
 obtain⟨F,ds,s,hz,r,h⟩:=h;have hb:m ds≠.bad:=fun z=>by rw[z]at h;exact h
 obtain⟨hl,hr⟩:=hm ds hb;rw[<-hr]at h;have I:br K F H (uR N ds) (vs.map some++aT (N.length-vs.length) none) F H (fun _=>[]):=by
  refine⟨bN.refl s,?_,fun i d' q=>?_,fun _ _ ha=>absurd ha be,fun _=>iG,fun _ _ ha=>absurd ha be,fun _ _ ha=>absurd ha be,fun _ _ _ ha=>absurd ha be⟩
  ·unfold uR;simp[r.len]
  ·unfold uR at q;by_cases hi:i<ds.length
   ·rw[e_ (by simpa using hi),bP]at q;cases z:ds[i]? with
    |none=>rw[z]at q;cases q
    |some d2=>
     rw[z]at q;cases q;obtain⟨v,e1,e2⟩:=r.get i z;have hf:bh d'=d':=by
      have:∀(l:List D) (i:Nat) (x:D),aD l=l->l[i]?=some x->bh x=x:=by
       intro l;induction l with
       |nil=>intro i x _ h;simp at h
       |cons y l ih=>
        intro i x h1 h2;have h1:bh y::aD l=y::l:=h1;injection h1 with h3 h4;cases i with
        |zero=>simp at h2;subst h2;exact h3
        |succ i=>exact ih i x h4 (by simpa using h2)
      exact this ds i d' hz z
     refine⟨v,?_,?_⟩
     ·rw[e_ (by simp[r.len,hi]),bP,e1];rfl
     ·have:=aZ.zP (H:=H) d' v e2;rw[hf]at this;exact this
   ·rw[cP (by simpa using hi)]at q;rw[tB]at q;split at q<;>cases q
 refine AN (n:=n) hΓ c I lt ?_;unfold GD at h;cases q:dP Γp n c (uR N ds)with
 |nx O=>rw[q]at h;exact fun O F' H' fp I'=>h F' H' .non [] I'.g .nil ⟨rfl,rfl⟩
 |rt d'=>rw[q]at h;exact fun v F' H' f g fr rx=>h F' H' v f g fr rx
 |ex x=>rw[q]at h;exact h
 |bk O=>rw[q]at h;exact h.elim
 |ct O=>rw[q]at h;exact h.elim
 |bad=>rw[q]at h;exact h.elim
def BH(K:PySem.W.Frag)(mg:Str->Option Value)(x:Str)(st:Stmt)(ps:List Str):Prop:=
 ∃(f:Addr) (fd:fJ),qV K x x st f fd/\mg x=some (.ref f)/\Binds K fd ps []
variable{P:bq}{w:bH}{mg:Str->Option Value}{base:Heap}{st:Stmt}
theorem BH.has{k:Nat}{x:Str}{ps:List Str}{sp:Sp}(D:BH K mg x st ps)
  (hok:∀f fd,qV K x x st f fd->fH P w K mg base (jQ P w) k f fd ps sp):Gs P w K mg base k x (.fn sp []):=by
 obtain⟨f,fd,F,hm,hb⟩:=D;exact⟨f,fd,ps,[],hok f fd F,hm,F.kp,hb,.nil⟩
noncomputable def cK(Γp:List PG)(n:Nat)(N:List Str)(k:Nat)(c:b6)(ds:List D):R D:=if ds.length=k then GD Γp n N c ds else .bad
variable{qual:Str}{fd:fJ}
section
variable{P:bq}{w:bH}{K:PySem.W.Frag}{mg:Str->Option Value}{base:Heap}
theorem Za{x:Str}{f:Addr}{N ps gl bn:List Str}{k:Nat}{M:List G}(c:b6)(F:qV K x qual st f fd)(S:lC N ps (bZ st))(hc:pV ⟨N,bZ st,gl,bn,(fun _=>true),true⟩ c (fZ st)=true)
  (hg:AF P w K mg base k gl M) (hΓ:dO K Γp M) (lt:l7 c=true) (hb:∀x∈bn,mg x=none) (hN:ps.length<=N.length):fH P w K mg base (jQ P w) (k+1) f fd ps (Gy K (cK Γp n N ps.length c)):=by
 have hm:∀ds,cK Γp n N ps.length c ds≠.bad->ds.length=ps.length/\GD Γp n N c ds=cK Γp n N ps.length c ds:=by
  intro ds h;unfold cK at h ⊢;by_cases e:ds.length=ps.length
  ·rw[if_pos e];exact⟨e,rfl⟩
  ·rw[if_neg e]at h;exact absurd rfl h
 refine W8 c F S hc hg hb ?_ ?_
 ·rintro vs H Q E ⟨Fh,ds,s,hz,r,h⟩;rw[r.len];exact(hm ds fun z=>by rw[z]at h;exact h).1
 ·intro vs H Q E h;exact@UY ⟨E⟩ K Γp M hΓ n N c lt _ vs H Q (fun ds e=>⟨by rw[(hm ds e).1];exact hN,(hm ds e).2⟩) h
end
noncomputable def QF:Value->Bool
|.type n=>n=="list"
|_=>false
theorem Zb{a:Addr}{xs:List V}(nk:(K.all fun p=>!QF p.2.cls)=true)(h:gy K H a xs):Rd H a (.lst xs):=by
 rcases h with h|⟨o,its,n,hk,hc,_⟩
 ·exact h
 ·exfalso;have hm:∀(K:PySem.W.Frag),K.lookup a=some o->(a,o)∈K:=by
   intro K;induction K with
   |nil=>intro z;cases z
   |cons p r ih=>
    intro z;obtain⟨b,u⟩:=p;rw[cA]at z;split at z
    ·rename_i e;have e:=eq_of_beq e;cases z;subst e;exact ay
    ·exact aj _ (ih z)
  have q:=bV.mp nk _ (hm K hk);rw[hc]at q;exact absurd q (by decide)
noncomputable def nA(ns:List Int):D:=.lst false (ns.map D.int)
theorem Eg:∀ns:List Int,aM K H (ns.map D.int) (ns.map V.int)
|[]=>rfl
|n::r=>⟨_,_,rfl,rfl,Eg r⟩
theorem Eh:∀ns:List Int,aD (ns.map D.int)=ns.map D.int
|[]=>rfl
|n::r=>by show D.int n::aD (r.map D.int)=_;rw[Eh r];rfl
theorem Xq{k:Nat}{f:Addr}{ps:List Str}{m:List D->R D}(F:fH P w K mg base (jQ P w) k f fd ps (Gy K m))
  (h:∀ns:List Int,ns.length<=63->m [nA ns]=.ok (.bl true)):fH P w K mg base zK k f fd ps (fun vs H Q E=>∃(a:Addr) (ns:List Int),vs=[.ref a]/\Rd H a (.lst (ns.map V.int))/\ns.length<=63/\∀H',Q (.bl true) H'):=by
 refine(L3.fH.calm F).imp ?_;rintro vs H Q E ⟨a,ns,rfl,hS,hl,q⟩;have hs:=szl;refine⟨H,[nA ns],a6.refl H,?_,⟨_,_,rfl,⟨a,ns.map V.int,rfl,hS,by rw[az];omega,Eg ns⟩,rfl⟩,?_⟩
 ·show[D.lst false (aD (ns.map D.int))]=_;rw[Eh];rfl
 ·rw[h ns hl];intro F' H' v fp g fr r;obtain⟨rfl,_⟩:=r;exact q H'
theorem Ei{a:α}{f:α->R β}:(R.ok a).bind f=f a:=rfl
theorem pq_thn_ok'{a:α}{f:α->Fl}:(R.ok a).aU f=f a:=rfl
theorem pq_thnL_ok'{a:α}{f:α->Fl}:(R.ok a).nR b f=f a:=rfl
theorem M6{a:α}:(R.ok a).gD=R.ok a:=rfl
variable{xs:List D}
theorem UZ:nV (some (some (.lst true xs)))=true:=rfl
theorem zR{a:α}:R.opt (some a)=R.ok a:=rfl
theorem QG{r:R α}:R.bg true r=r:=rfl
theorem M7{r:R α}(h:n<=aa):R.bg (decide (n<=aa)) r=r:=by
 rw[decide_eq_true h];rfl
variable{j:Int}
theorem QH:dF .Add (.int i) (.int j)=.ok (.int (i+j)):=rfl
theorem QI:dF .Sub (.int i) (.int j)=.ok (.int (i-j)):=rfl
theorem QJ(h:uc i j):dF .Mult (.int i) (.int j)=.ok (.int (i*j)):=by
 show R.bg (decide (uc i j)) _=_;rw[decide_eq_true h];rfl
theorem QK(h:vt i j):dF .FloorDiv (.int i) (.int j)=.ok (.int (i / j)):=by
 show R.bg (decide (vt i j)) _=_;rw[decide_eq_true h];rfl
theorem QL(h:0<j):dF .Mod (.int i) (.int j)=.ok (.int (i%j)):=by
 show R.bg (decide (0<j)) _=_;rw[decide_eq_true h];rfl
theorem QM(h:0<=j):dF .RShift (.int i) (.int j)=.ok (.int (i / 2 ^ j.toNat)):=by
 show R.bg (decide (0<=j)) _=_;rw[decide_eq_true h];rfl
variable{y:Str}
theorem GL{x:Str}(h:x.length+y.length<=aa):dF .Add (.str x) (.str y)=.ok (.str (x++y)):=by
 show R.bg (decide (x.length+y.length<=aa)) _=_;rw[decide_eq_true h];rfl
theorem GN{x:Str}(h:0<=j/\j<2 ^ 40/\x.length*j.toNat<=aa):dF .Mult (.str x) (.int j)=.ok (.str (BC x j.toNat)):=by
 show R.bg (decide (0<=j/\j<2 ^ 40/\x.length*j.toNat<=aa)) _=_;rw[decide_eq_true h];rfl
variable{ys:List D}
theorem xN{o':Bool}(h:xs.length+ys.length<=aa):dF .Add (.lst o xs) (.lst o' ys)=.ok (.lst true (aD xs++aD ys)):=by
 show R.bg (decide (xs.length+ys.length<=aa)) _=_;rw[decide_eq_true h];rfl
theorem U0:bS .Lt (.int i) (.int j)=.ok (.bl (decide (i<j))):=rfl
theorem QN:bS .LtE (.int i) (.int j)=.ok (.bl (decide (i<=j))):=rfl
theorem U1:bS .Gt (.int i) (.int j)=.ok (.bl (decide (j<i))):=rfl
theorem QO:bS .GtE (.int i) (.int j)=.ok (.bl (decide (j<=i))):=rfl
theorem M8{x:Str}:bS .LtE (.str x) (.str y)=.ok (.bl (!decide (y.cps.toList<x.cps.toList))):=rfl
theorem M9:bS .Eq (.int i) (.int j)=.ok (.bl (i==j)):=rfl
theorem M_:bS .NotEq (.int i) (.int j)=.ok (.bl (!(i==j))):=rfl
theorem Na{x:Str}:bS .Eq (.str x) (.str y)=.ok (.bl (x==y)):=rfl
theorem Nb{x:Str}:bS .NotEq (.str x) (.str y)=.ok (.bl (!(x==y))):=rfl
theorem Nc{c:Bool}:bS .Eq (.bl b) (.bl c)=.ok (.bl (b==c)):=rfl
theorem Nd{c:Bool}:bS .NotEq (.bl b) (.bl c)=.ok (.bl (!(b==c))):=rfl
theorem U3:bS .Is x .non=.ok (.bl (ie x)):=rfl
theorem K1:bS .IsNot x .non=.ok (.bl (!ie x)):=rfl
theorem zd{y:D}(h:dm x=true)(h':dm y=true):bS .Eq x y=.ok (.bl (jy x y)):=by
 show R.bg (dm x&&dm y) _=_;rw[h,h'];rfl
theorem GO(h:dm x=true)(h':jH ys=true):bS .In x (.lst o ys)=.ok (.bl (memD x ys)):=by
 show R.bind (R.bg (dm x&&jH ys) _) _=_;rw[h,h'];rfl
theorem U4:gP (.bl b)=.ok b:=rfl
variable{z:Str}
theorem QR:uM (.str z) (.int i)=(R.opt (fC z.cps.toList i)).bind fun c=>.ok (.str ⟨#[c]⟩):=rfl
theorem QS:uM (.lst o xs) (.int i)=(R.opt (fC xs i)).bind fun d=>.ok (bh d):=rfl
theorem QT:uM (.tup xs) (.int i)=(R.opt (fC xs i)).bind fun d=>.ok (bh d):=rfl
theorem QU:JB (.str z) lo hi=.ok (.str ⟨(cut z.cps.toList lo hi).toArray⟩):=rfl
theorem QV:JB (.lst o xs) lo hi=.ok (.lst true (aD (cut xs lo hi))):=rfl
theorem Nf:jI .len [.str z]=.ok (.int z.length):=rfl
theorem Ng:jI .len [.lst o xs]=.ok (.int xs.length):=rfl
theorem Nh:jI .len [.tup xs]=.ok (.int xs.length):=rfl
theorem QW:jI .all [.lst o xs]=R.bg (xs.all mL) (.ok (.bl (xs.all nP))):=rfl
theorem Ni:jI .int [.bl b]=.ok (.int (if b then 1 else 0)):=rfl
variable{q:Str}
theorem IB:kB .startswith (.str z) [.str q]=.ok (.bl (q.cps.toList.isPrefixOf z.cps.toList)):=rfl
theorem K3(h:q.length=1)(h':z.length+2<=aa):kB .split (.str z) [.str q]=.ok (.lst true (sG (q.cps.getD 0 0) z.cps.toList)):=by
 show R.bg (decide (q.length=1)&&decide (z.length+2<=aa)) _=_;rw[decide_eq_true h,decide_eq_true h'];rfl
theorem Ej:kB .join (.str z) [.lst o ys]=(R.opt (jV ys)).bind fun ss=>R.bg (decide ((ss.map (·.length)).sum+ss.length*z.length<=aa)) (.ok (.str (ee z ss))):=rfl
theorem QX:qJ (.str z)=.ok (uN z):=rfl
theorem QY:qJ (.lst o xs)=.ok (aD xs):=rfl
theorem QZ:qJ (.tup xs)=.ok (aD xs):=rfl
theorem Nj(h:-(2 ^ 62)<=j/\j.toNat<=aa):nS [.int j]=.ok (je 0 j.toNat):=by
 show R.bg (decide (-(2 ^ 62)<=j/\j.toNat<=aa)) _=_;rw[decide_eq_true h];rfl
theorem Nk(h:-(2 ^ 62)<=i/\i<2 ^ 62/\-(2 ^ 62)<=j/\j<2 ^ 62/\(j-i).toNat<=aa):nS [.int i,.int j]=.ok (je i (j-i).toNat):=by
 show R.bg (decide (-(2 ^ 62)<=i/\i<2 ^ 62/\-(2 ^ 62)<=j/\j<2 ^ 62/\(j-i).toNat<=aa)) _=_;rw[decide_eq_true h];rfl
theorem Q0:xD .non=.ok .non:=rfl
theorem U5:xD (.bl b)=.ok (.bl b):=rfl
theorem Q2:xD (.int i)=.ok (.int i):=rfl
theorem Q3{x:Str}:xD (.str x)=.ok (.str x):=rfl
theorem Q4:bh .non=.non:=rfl
theorem U6:bh (.bl b)=.bl b:=rfl
theorem Q5:bh (.int i)=.int i:=rfl
theorem Q6{x:Str}:bh (.str x)=.str x:=rfl
theorem Q7:bh (.lst o xs)=.lst false (aD xs):=rfl
theorem Q8:bh (.tup xs)=.tup (aD xs):=rfl
theorem Nl:aD []=[]:=rfl
theorem K4{r:List D}:aD (d::r)=bh d::aD r:=rfl
theorem Q9:aX .non=true:=rfl
theorem U7:aX (.bl b)=true:=rfl
theorem Q_:aX (.int i)=true:=rfl
theorem Ra{x:Str}:aX (.str x)=true:=rfl
theorem Rb:aX (.lst o xs)=(o&&cR xs):=rfl
theorem Rc:aX (.tup xs)=cR xs:=rfl
theorem Nm:cR []=true:=rfl
theorem K5{r:List D}:cR (d::r)=(aX d&&cR r):=rfl
variable{O:bf}
theorem Xr:gQ is true O=O:=rfl
theorem Xs:gQ is false O=mP is O:=rfl
theorem Nn:mP [] O=O:=rfl
theorem K6{i:Nat}:mP (i::is) O=mP is (ng i O):=rfl
theorem U8{o:Option D}{r:bf}:ng 0 (o::r)=o.map bh::r:=rfl
theorem U9{o:Option D}{r:bf}:ng (n+1) (o::r)=o::ng n r:=rfl
theorem U_:KZ (.rt d)=.ok d:=rfl
theorem Rf:nQ t (.bl b)=(decide (t=.bool)||decide (t=.int)):=rfl
theorem Np:nQ t (.int i)=decide (t=.int):=rfl
theorem Nq{x:Str}:nQ t (.str x)=decide (t=.str):=rfl
theorem Nr:nQ t (.lst o xs)=(decide (t=.list)||decide (t=.none)):=rfl
theorem Nt:nQ t (.tup xs)=(decide (t=.tuple)||decide (t=.none)):=rfl
theorem Nu:nQ t .non=false:=rfl
noncomputable def Fy(O:bf)(i:Nat):R D:=match O[i]? with
|some (some d)=>.ok (bh d)
|_=>.bad
noncomputable def Fz(O:bf)(i:Nat):R Bool:=match O[i]? with
|some (some d)=>gP d
|_=>.bad
noncomputable def ze(O:bf)(i:Nat):R D:=match O[i]? with
|some (some d)=>.ok d
|_=>.bad
noncomputable def sL(x:Fl)(f:bf->Fl):Fl:=match x with
|.nx O=>f O
|x=>x
noncomputable def K7(M:List PG)(g:Nat):R D:=match M[g]? with
|some (.val d)=>.ok (bh d)
|_=>.bad
noncomputable def C9(M:List PG)(g:Nat)(r:R (List D)):R D:=match M[g]? with
|some (.fn m dds)=>r.bind fun ds=>m (aD ds++dds)
|_=>.bad
noncomputable def K8{α:Type}(c:R Bool)(a b:R α):R α:=c.bind fun k=>if k=true then a else b
noncomputable def ZG(c:R Bool)(a b:Fl):Fl:=c.aU fun k=>if k=true then a else b
noncomputable def Xu(x:D)(b:R D):R D:=match x with
|.bl c=>if c=true then b else .ok (.bl false)
|_=>.bad
noncomputable def ZH(x:D)(b:R D):R D:=match x with
|.bl c=>if c=true then .ok (.bl true)else b
|_=>.bad
noncomputable def Xv:D->R D
|.int i=>.ok (.int (-i))
|_=>.bad
noncomputable def Xw:D->R (Option Int)
|.int i=>.ok (some i)
|_=>.bad
noncomputable def ZI(z:D)(r:R D):R D:=match z with
|.bl k=>if k=true then r else .ok (.bl false)
|_=>.bad
noncomputable def ZJ(z:D)(r:R Bool):R Bool:=match z with
|.bl k=>if k=true then r else .ok false
|_=>.bad
noncomputable def Xx:D->R Bool
|.bl k=>.ok k
|_=>.bad
noncomputable def ZK:D->R (Bool×List D)
|.lst o xs=>.ok (aX (.lst o xs),iy 0 (aD xs))
|_=>.bad
noncomputable def Rg(k:Nat)(vs:List Nat)(O:bf)(d:D):Fl:=match O[k]? with
|some (some (.lst true xs))=>if(decide (xs.length<aa)&&(aX d||!vs.contains k))=true then .nx ((gQ vs (aX d) O).set k (some (.lst true (xs++[d]))))else .bad
|_=>.bad
noncomputable def h_(k:Nat)(vs:List Nat)(O:bf)(d j:D):Fl:=match O[k]? with
|some (some x)=>if(aX d||!vs.contains k)=true then(R.opt (putIn x d j)).aU fun x'=>.nx ((gQ vs (aX d) O).set k (some x'))else .bad
|_=>.bad
noncomputable def K9(M:List PG)(g:Nat)(r:R (List D)):Fl:=match M[g]? with
|some (.cls C fs k)=>r.aU fun ds=>if(decide (ds.length+1=k)&&decide (fs.map (·.1)).Nodup)=true then .ex (BF C fs ds)else .bad
|_=>.bad
theorem Rh{r:bf}:Fy (some d::r) 0=.ok (bh d):=rfl
theorem Ri{o:Option D}{r:bf}:Fy (o::r) (n+1)=Fy r n:=rfl
theorem Nv{r:bf}:Fz (some d::r) 0=gP d:=rfl
theorem Nx{o:Option D}{r:bf}:Fz (o::r) (n+1)=Fz r n:=rfl
theorem Ny{r:bf}:ze (some d::r) 0=.ok d:=rfl
theorem Nz{o:Option D}{r:bf}:ze (o::r) (n+1)=ze r n:=rfl
theorem Ek{f:bf->Fl}:sL (.nx O) f=f O:=rfl
theorem NB{f:bf->Fl}:sL (.rt d) f=.rt d:=rfl
theorem NC{f:bf->Fl}:sL (.ex x) f=.ex x:=rfl
theorem ND{f:bf->Fl}:sL (.ct O) f=.ct O:=rfl
variable{r:List PG}
theorem Va:K7 (.val d::r) 0=.ok (bh d):=rfl
theorem Vb{o:PG}:K7 (o::r) (n+1)=K7 r n:=rfl
theorem Vc{m:List D->R D}{dds:List D}{x:R (List D)}:C9 (.fn m dds::r) 0 x=x.bind fun ds=>m (aD ds++dds):=rfl
theorem Vd{o:PG}{x:R (List D)}:C9 (o::r) (n+1) x=C9 r n x:=rfl
theorem NF{k:Bool}{a b:R α}:K8 (.ok k) a b=if k=true then a else b:=rfl
theorem Rj{k:Bool}{a b:Fl}:ZG (.ok k) a b=if k=true then a else b:=rfl
theorem NG{c:Bool}{b:R D}:Xu (.bl c) b=if c=true then b else .ok (.bl false):=rfl
theorem Rk{c:Bool}{b:R D}:ZH (.bl c) b=if c=true then .ok (.bl true)else b:=rfl
theorem Rl:Xv (.int i)=.ok (.int (-i)):=rfl
theorem Rm:Xw (.int i)=.ok (some i):=rfl
theorem Rn{k:Bool}{r:R D}:ZI (.bl k) r=if k=true then r else .ok (.bl false):=rfl
theorem NH{k:Bool}{r:R Bool}:ZJ (.bl k) r=if k=true then r else .ok false:=rfl
theorem Ro{k:Bool}:Xx (.bl k)=.ok k:=rfl
theorem Ve:ZK (.lst o xs)=.ok (aX (.lst o xs),iy 0 (aD xs)):=rfl
variable{M:List PG}
theorem Rp{i:Nat}:pE M (.var i) O=Fy O i:=rfl
theorem Rq:pE M (.con v) O=xD v:=rfl
theorem Rr:pE M (.glo g) O=K7 M g:=rfl
theorem Rt{op:j5}{b:CE}:pE M (.bin op a b) O=(pE M a O).bind fun x=>(pE M b O).bind fun y=>dF op x y:=rfl
theorem JJ{ss:List Str}(h:jV ds=some ss)(h2:ss.length<4000):BD (.lst o ds)=.ok (.int (nL ss).length):=by
 show(match jV ds with|some ss=>R.bg (decide (ss.length<4000)) (R.ok (D.int (nL ss).length))|none=>.bad)=_;rw[h];show R.bg (decide _) _=_;rw[decide_eq_true h2];rfl
theorem NI:pE M (.nset a) O=(pE M a O).bind BD:=rfl
theorem Ru:pE M (.neg a) O=(pE M a O).bind Xv:=by
 show(pE M a O).bind _=_;congr
theorem Rv:pE M (.not a) O=(pE M a O).bind fun x=>(gP x).bind fun b=>.ok (.bl (!b)):=rfl
theorem Rx{b:CE}:pE M (.and a b) O=(pE M a O).bind fun x=>Xu x (pE M b O):=rfl
theorem Vf{b:CE}:pE M (.or a b) O=(pE M a O).bind fun x=>ZH x (pE M b O):=rfl
variable{c:CE}
theorem Ry{b:CE}:pE M (.ite c a b) O=K8 (pT M c O) (pE M a O) (pE M b O):=rfl
theorem Rz{b:CE}:pE M (.cmp op a b) O=(pE M a O).bind fun x=>(pE M b O).bind fun y=>bS op x y:=rfl
variable{o1 o2:oF}
theorem K_{b:CE}:pE M (.chain o1 o2 a b c) O=(pE M a O).bind fun x=>(pE M b O).bind fun y=>(bS o1 x y).bind fun z=>ZI z ((pE M c O).bind fun u=>bS o2 y u):=rfl
theorem NJ:pE M (.call g as) O=C9 M g (eW M as O):=rfl
theorem RA{f:Bf}:pE M (.blt f as) O=(eW M as O).bind (jI f):=rfl
theorem RB:pE M (.fst ps) O=(R.opt (nT O ps eU)).bind fun y=>.bg (decide (y.length<=aa)) (.ok (.str y)):=rfl
theorem RC:pM M (.fst ps) O=pE M (.fst ps) O:=rfl
theorem RD:pE M (.isi a t) O=(pE M a O).bind fun x=>R.bg (jJ x) (.ok (.bl (nQ t x))):=rfl
theorem RE{o:CE}:pE M (.mth m o as) O=(pE M o O).bind fun x=>(eW M as O).gD.bind fun ds=>kB m x ds:=rfl
theorem Vg{b:CE}:pE M (.ix a b) O=(pE M a O).bind fun x=>(pE M b O).bind fun y=>uM x y:=rfl
theorem Vh{lo hi:CO}:pE M (.sl a lo hi) O=(pE M a O).bind fun x=>(pO M lo O).bind fun l=>(pO M hi O).bind fun h=>JB x l h:=rfl
theorem RG:pE M (.lst as) O=(eW M as O).bind fun ds=>R.bg (decide (ds.length<=aa)) (.ok (.lst true ds)):=by
 rfl
theorem RH:pE M (.tup as) O=(eW M as O).bind fun ds=>R.bg (decide (ds.length<=aa)) (.ok (.tup ds)):=by
 rfl
variable{elt:CE}{tg:CG}{cond:CO}
theorem NK:pE M (.comp nl fr elt tg src cond) O=(pI M src O).bind fun items=>(dg (pG tg) (pC M cond) (pE M elt) items.2 (nl.map (fun _=>none)++fr.map (fun i=>O.getD i none))).gD.bind fun ds=>.ok (.lst true ds):=rfl
theorem RI:pT M (.not a) O=(pT M a O).bind fun b=>.ok (!b):=rfl
theorem RJ{b:CE}:pT M (.and a b) O=K8 (pT M a O) (pT M b O) (.ok false):=rfl
theorem Vi{b:CE}:pT M (.or a b) O=K8 (pT M a O) (.ok true) (pT M b O):=rfl
theorem RK{b:CE}:pT M (.cmp op a b) O=(pE M a O).bind fun x=>(pE M b O).bind fun y=>(bS op x y).bind Xx:=rfl
theorem La{b:CE}:pT M (.chain o1 o2 a b c) O=(pE M a O).bind fun x=>(pE M b O).bind fun y=>(bS o1 x y).bind fun z=>ZJ z ((pE M c O).bind fun u=>(bS o2 y u).bind Xx):=rfl
theorem RL{i:Nat}:pT M (.var i) O=Fz O i:=rfl
theorem NL:pT M (.call g as) O=(C9 M g (eW M as O)).bind gP:=by
 show(match M[g]? with|some (.fn m dds)=>((eW M as O).bind fun ds=>m (aD ds++dds)).bind gP|_=>.bad)=_;unfold C9;cases M[g]? with
 |none=>rfl
 |some p=>cases p<;>rfl
theorem Vj{b:CE}:pT M (.ix a b) O=((pE M a O).bind fun x=>(pE M b O).bind fun y=>uM x y).bind gP:=rfl
theorem RM:pT M (.isi a t) O=(pE M a O).bind fun x=>R.bg (jJ x) (.ok (nQ t x)):=rfl
theorem RN{o:CE}:pT M (.mth m o as) O=(pE M o O).bind fun x=>(eW M as O).gD.bind fun ds=>(kB m x ds).bind gP:=rfl
theorem NO:eW M .nil O=.ok []:=rfl
theorem Lb{r:i9}:eW M (.cons a r) O=(pE M a O).bind fun x=>(eW M r O).bind fun xs=>.ok (x::xs):=rfl
theorem NQ:pO M .none O=.ok none:=rfl
theorem NR:pO M (.some a) O=(pE M a O).bind Xw:=rfl
theorem NS:pC M .none=fun _=>.ok true:=rfl
theorem NU:pC M (.some a)=pT M a:=rfl
theorem NV{i:Nat}:pG (.name i) d O=.ok (O.set i (some d)):=rfl
variable{gs:qh}
theorem RO:pG (.tup gs) (.tup ds) O=R.bg (decide (ds.length=gs.len)) (wm gs ds O):=rfl
theorem NW:wm .nil [] O=.ok O:=rfl
theorem Lc{g:CG}{r:qh}{dr:List D}:wm (.cons g r) (d::dr) O=(pG g d O).bind fun σ'=>wm r dr σ':=rfl
theorem RP:pI M (.seq a) O=(pE M a O).bind fun x=>(qJ x).bind fun ds=>.ok (aX x,ds):=rfl
theorem Ld:pI M (.range as) O=(eW M as O).bind fun xs=>(nS xs).bind fun ds=>.ok (true,ds):=rfl
theorem RQ:pI M (.zip as) O=(eW M as O).bind tK:=rfl
theorem Vk{p:Bool}:tK [.lst o xs,.lst p ys]=.ok (false,nc (aD xs) (aD ys)):=rfl
theorem RS:tK [.tup xs,.tup ys]=.ok (false,nc (aD xs) (aD ys)):=rfl
theorem NX:pI M (.enum a) O=(pE M a O).bind ZK:=by
 show(pE M a O).bind _=_;congr 1;funext x;cases x<;>rfl
theorem NY:dP M n .nil O=.nx O:=rfl
theorem vN{r:b6}:dP M n (.cons s r) O=sL (pS M n s O) (dP M n r):=by
 show(match pS M n s O with|.nx σ'=>dP M n r σ'|x=>x)=_;unfold sL;cases pS M n s O<;>rfl
theorem RT{k:Nat}:pS M n (.expr (.mth .append (.var k) (.cons a .nil))) O=(pE M a O).nR (nV O[k]?) (Rg k (b_ a) O):=rfl
theorem RU{i:Nat}:pS M n (.asg (.name i) e) O=(pE M e O).aU fun d=>.nx ((gQ (b_ e) (aX d) O).set i (some d)):=rfl
theorem RV{k:Nat}{i:CE}:pS M n (.asg (.sub (.var k) i) e) O=(pE M e O).aU fun d=>(pE M i (gQ (b_ e) (aX d) O)).nR false fun j=>h_ k (b_ e) O d j:=rfl
theorem RW{i:Nat}:pS M n (.aug i e) O=(match O[i]? with|some (some (.int a))=>(pE M e O).aU fun d=>FN i a O d|_=>.bad):=rfl
theorem NZ{i:Nat}:pS M n (.casg i e) O=(pE M e O).aU fun d=>.nx ((gQ (b_ e) (aX d) O).set i (some d)):=rfl
theorem N1:pS M n (.tasg (.tup gs) e) O=(pE M e O).aU fun d=>(pG (.tup gs) d (gQ (b_ e) (aX d) O)).aU .nx:=rfl
theorem RX:pS M n (.ret e) O=(pM M e O).aU .rt:=rfl
theorem GP{a b:b6}:pS M n (.ifs c a b) O=ZG (pT M c O) (dP M n a O) (dP M n b O):=rfl
theorem N3{b:b6}:pS M n (.whil c b) O=uo (pT M c) (dP M n b) n O:=rfl
theorem N4{g:CG}{b:b6}:pS M n (.forr g src b) O=(pI M src O).aU fun items=>forR (pG g) (dP M n b) items.2 (gQ (uO src) items.1 O):=rfl
theorem N5:pS M n (.rais g as) O=K9 M g (eW M as O):=rfl
variable{C:Addr}{fs:List (Str×Nat)}
theorem Vl{k:Nat}{x:R (List D)}:K9 (.cls C fs k::r) 0 x=x.aU fun ds=>if(decide (ds.length+1=k)&&decide (fs.map (·.1)).Nodup)=true then .ex (BF C fs ds)else .bad:=rfl
theorem Vm{o:PG}{x:R (List D)}:K9 (o::r) (n+1) x=K9 r n x:=rfl
theorem N6:jJ .non=true:=rfl
theorem N7:ie .non=true:=rfl
theorem RY:jJ (.bl b)=true:=rfl
theorem RZ:ie (.bl b)=false:=rfl
theorem N8:jJ (.int i)=true:=rfl
theorem N9:ie (.int i)=false:=rfl
theorem N_{x:Str}:jJ (.str x)=true:=rfl
theorem Oa{x:Str}:ie (.str x)=false:=rfl
theorem Ob:jJ (.lst o xs)=true:=rfl
theorem Oc:ie (.lst o xs)=false:=rfl
theorem Od:jJ (.tup xs)=true:=rfl
theorem Oe:ie (.tup xs)=false:=rfl
theorem Of:pS M n .cont O=.ct O:=rfl
theorem R0{i:Nat}:pM M (.var i) O=ze O i:=rfl
theorem R1:pM M (.con v) O=pE M (.con v) O:=rfl
theorem R3{op:j5}{b:CE}:pM M (.bin op a b) O=pE M (.bin op a b) O:=rfl
theorem R4{b:CE}:pM M (.and a b) O=pE M (.and a b) O:=rfl
theorem Vn{b:CE}:pM M (.or a b) O=pE M (.or a b) O:=rfl
theorem R5{b:CE}:pM M (.ite c a b) O=pE M (.ite c a b) O:=rfl
theorem R6{b:CE}:pM M (.cmp op a b) O=pE M (.cmp op a b) O:=rfl
theorem Og:pM M (.call g as) O=pE M (.call g as) O:=rfl
theorem R7{f:Bf}:pM M (.blt f as) O=pE M (.blt f as) O:=rfl
theorem R8{o:CE}:pM M (.mth m o as) O=pE M (.mth m o as) O:=rfl
theorem Vo{b:CE}:pM M (.ix a b) O=pE M (.ix a b) O:=rfl
theorem R9:pM M (.lst as) O=pE M (.lst as) O:=rfl
theorem Oh:pM M (.comp nl fr elt tg src cond) O=pE M (.comp nl fr elt tg src cond) O:=rfl
theorem R_:pM M (.tup as) O=(kP M as O).alt (fun ds=>R.bg (decide (ds.length<=aa)) (.ok (.tup ds))) (pE M (.tup as) O):=by
 rfl
theorem Oi:kP M .nil O=.ok []:=rfl
theorem Oj{i:Nat}{r:i9}:kP M (.cons (.var i) r) O=(ze O i).bind fun d=>(kP M r (O.set i none)).bind fun ds=>.ok (d::ds):=by
 show(match O[i]? with|some (some d)=>(kP M r (O.set i none)).bind fun ds=>.ok (d::ds)|_=>.bad)=_;unfold ze;cases O[i]? with
 |none=>rfl
 |some o=>cases o<;>rfl
theorem Ol{a:α}{f:α->R β}{y:R β}:(R.ok a:R α).alt f y=f a:=rfl
theorem Sa{k:Nat}:pS M n (.expr (.mth .extend (.var k) (.cons a .nil))) O=(pE M a O).nR (nV O[k]?) fun d=>C5 k (b_ a) d O:=rfl
theorem Sb{o i:CE}:pS M n (.expr (.mth .append (.ix o i) (.cons a .nil))) O=C4 M (.ix o i) a O:=rfl
theorem El{k:Nat}{vs:List Nat}(h:O[k]?=some (some (.lst true xs)))(h1:xs.length+ys.length<=aa)(h2:(aX (.lst true ys)||!vs.contains k)=true):C5 k vs (.lst true ys) O=.nx ((gQ vs (aX (.lst true ys)) O).set k (some (.lst true (xs++ys)))):=by
 unfold C5;simp only[h];rw[decide_eq_true h1,h2];rfl
theorem Om{r:i9}:kP M (.cons (.con v) r) O=(pE M (.con v) O).bind fun d=>R.bg (aX d) ((kP M r O).bind fun ds=>.ok (d::ds)):=rfl
theorem Le{r:i9}:kP M (.cons (.call g as) r) O=(pE M (.call g as) O).bind fun d=>R.bg (aX d) ((kP M r O).bind fun ds=>.ok (d::ds)):=rfl
theorem Sd{b:CE}{r:i9}:kP M (.cons (.ix a b) r) O=(pE M (.ix a b) O).bind fun d=>R.bg (aX d) ((kP M r O).bind fun ds=>.ok (d::ds)):=rfl
theorem Oo{b:CE}{r:i9}:kP M (.cons (.cmp op a b) r) O=(pE M (.cmp op a b) O).bind fun d=>R.bg (aX d) ((kP M r O).bind fun ds=>.ok (d::ds)):=rfl
theorem kR{k:Nat}{vs:List Nat}(h:O[k]?=some (some (.lst true xs)))(h1:xs.length<aa)(h2:(aX d||!vs.contains k)=true):Rg k vs O d=.nx ((gQ vs (aX d) O).set k (some (.lst true (xs++[d])))):=by
 unfold Rg;simp only[h];rw[decide_eq_true h1,h2];rfl
theorem Em{k:Nat}{vs:List Nat}{j x':D}(h:O[k]?=some (some x))(h1:(aX d||!vs.contains k)=true)(h2:putIn x d j=some x'):h_ k vs O d j=.nx ((gQ vs (aX d) O).set k (some x')):=by
 unfold h_;simp only[h];rw[h1,h2];rfl
theorem frzs_map'(f:α->D)(h:∀a,bh (f a)=f a)(l:List α):aD (l.map f)=l.map f:=kQ f h l
theorem gR{g:D->bf->R bf}{e:bf->R D}(enc:β->D)(I:bf->Prop)(f:β->D):∀(xs:List β) (O:bf),I O->(∀x∈xs,∀O,I O->∃σ2,g (enc x) O=.ok σ2/\I σ2/\e σ2=.ok (f x))->dg g (fun _=>.ok true) e (xs.map enc) O=.ok (xs.map f)
|[],O,_,_=>rfl
|x::r,O,hi,h=>by
 obtain⟨σ2,h1,h2,h3⟩:=h x ay O hi;have ih:=gR enc I f r σ2 h2 fun y hy=>h y (aj _ hy);show(g (enc x) O).bind _=_;rw[h1];simp only[R.bind,if_true,h3,ih];rfl
theorem kT{g:D->bf->R bf}{c:bf->R Bool}{e:bf->R D}(enc:β->D)(I:bf->Prop)(p:β->Bool)(f:β->D):∀(xs:List β) (O:bf),I O->(∀x∈xs,∀O,I O->∃σ2,g (enc x) O=.ok σ2/\I σ2/\c σ2=.ok (p x)/\e σ2=.ok (f x))->dg g c e (xs.map enc) O=.ok ((xs.filter p).map f)
|[],O,_,_=>rfl
|x::r,O,hi,h=>by
 obtain⟨σ2,h1,h2,h3,h4⟩:=h x ay O hi;have ih:=kT enc I p f r σ2 h2 fun y hy=>h y (aj _ hy);show(g (enc x) O).bind _=_;rw[h1];simp only[R.bind,h3];cases q:p x with
 |true=>rw[if_pos rfl,tD q,h4];simp only[R.bind,ih];rfl
 |false=>rw[if_neg (by decide),List.filter_cons_of_neg (by simp[q])];exact ih
noncomputable def FA(K:PySem.W.Frag)(C:Addr)(as:List Str):Bool:=
 (PySem.W.findIn K (.ref C) "__getattribute__"==some (some (.builtin "BaseException.__getattribute__")))&&(PySem.W.findIn K (.ref C) "__getattr__"==some none)&&(PySem.W.findIn K (.ref C) "__setattr__"==some (some (.builtin "object.__setattr__")))
 && PySem.W.hasDictIn K C&&(PySem.W.mroIn K C (.type "BaseException")==some true)&&(PySem.W.mroIn K C (.type "object")==some true)&&(PySem.W.clsIn K C).any (fun cd=>uJ cd.mro)
 && (PySem.W.findIn K (.ref C) "__class__"==some (some (.builtin "object.__class__")))&&as.all (fun f=>PySem.W.findIn K (.ref C) f==some none)
theorem Vp{as:List Str}(h:FA K C as=true)(hn:PySem.W.specialIn K (.builtin "object.__class__") "__get__"=some (some (.builtin "getset_descriptor.__get__")))(htk:PySem.W.takesIn K (.builtin "object.__class__")=some true) :
  xm K C/\Gm K C/\∀f∈as,mh K C f:=by
 unfold FA at h;simp only[bR,beq_iff_eq,bV]at h;obtain⟨⟨⟨⟨⟨⟨⟨⟨h1,h2⟩,h3⟩,h4⟩,h5⟩,h6⟩,h7⟩,h8⟩,h9⟩:=h;have c:Kv K C:=⟨h1,h2,h3,h4,h5,h6⟩;exact⟨{ c with tl:=h7 },{ c with ha:=h8,hn:=hn,htk:=htk },h9⟩
theorem Se{Cs:List Addr}{as:List Str}(h:(Cs.all fun C=>FA K C as)=true)(hn:PySem.W.specialIn K (.builtin "object.__class__") "__get__"=some (some (.builtin "getset_descriptor.__get__")))(htk:PySem.W.takesIn K (.builtin "object.__class__")=some true) :
  ∀C∈Cs,xm K C/\Gm K C/\∀f∈as,mh K C f:=fun C hC=>Vp (bV.mp h C hC) hn htk
def GQ(K:PySem.W.Frag)(B:Addr):Prop:=∃c0 dB cd sl c1 d1 es ep s1,K.lookup B=some ⟨c0,dB,.cls cd,sl⟩/\K.lookup cd.ns=some ⟨c1,d1,.dict es ep,s1⟩/\(es.all fun e=>match e.key with|.str _ _=>true|_=>false)=true/\Cf es "__init__"=none
theorem Xy{fI B N:Addr}{as:List Str}{ps:List Str}{nm:Str}{bs:List Value}{hdct:Bool}{sn:List Str}{sub:List Value}{ab:Bool}{col:Option Bool}{dd:Option Addr}{k0 k1 k2 k3 k5:Option Value}
  (hx:xm K C/\Gm K C/\∀f∈as,mh K C f) (xi:PySem.W.findIn K (.ref C) "__init__"=some (some (.ref fI))) (xf:PySem.W.typeIn K (.ref fI)=some (.type "function")) (xk:PySem.W.keepIn K (.ref C)=true)
  (xl:K.lookup C=some (kq nm q C N bs (.ref B::[.type "ValueError",.type "Exception",.type "BaseException",.type "object"]) hdct sn sub ab col dd k0 k1 k2 k3 k5 "ValueError.__new__")) (xb:GQ K B) (F:qV K "__init__" qual st fI fd) (hb:Binds K fd ps []) (S:lC ps ps (bZ st))
  (ha:∀p∈fs,p.1∈as) (hc:rT ps fs (fZ st)=true) (hd:∀x∈ps,(x==("__debug__":Str))=false/\(x==("__classdict__":Str))=false) (hj:∀p∈fs,p.2<ps.length/\1<=p.2) (hl:fs.length<=900) (h0:0<fs.length) (hp:ps.length<=1000):Fv P w K mg base 1 C fs ps.length:=
 ⟨fI,fd,ps,{ hx.1 with ini:=xi,fn:=xf,kp:=xk,cls:=⟨_,_,_,_,_,_,_,_,_,_,_,_,_,_,_,_,xl,xb⟩ },UD F S hx.1 (fun p hp=>hx.2.2 p.1 (ha p hp)) hc hd (fun p hp=>(hj p hp).1) hl h0,hb,hp,fun p hp=>(hj p hp).2,rfl⟩
end L3
end
local macro_rules | `(tactic| simp_arith $c:optConfig [$ls,*]) => do let q <- ("Ei pq_thn_ok' pq_thnL_ok' M6 UZ zR QG M7 QH QI QJ QK QL QM GL GN xN U0 QN U1 QO M8 M9 M_ Na Nb Nc Nd U3 K1 zd GO U4 QR QS QT QU QV Nf Ng Nh QW Ni IB K3 Ej QX QY QZ Nj Nk Q0 U5 Q2 Q3 Q4 U6 Q5 Q6 Q7 Q8 Nl K4 Q9 U7 Q_ Ra Rb Rc Nm K5 Xr Xs Nn K6 U8 U9 U_ Rf Np Nq Nr Nt Nu Rh Ri Nv Nx Ny Nz Ek NB NC ND Va Vb Vc Vd NF Rj NG Rk Rl Rm Rn NH Ro Ve Rp Rq Rr Rt JJ NI Ru Rv Rx Vf Ry Rz K_ NJ RA RB RC RD RE Vg Vh RG RH NK RI RJ Vi RK La RL NL Vj RM RN NO Lb NQ NR NS NU NV RO NW Lc RP Ld RQ Vk RS NX NY vN RT RU RV RW NZ N1 RX GP N3 N4 N5 Vl Vm N6 N7 RY RZ N8 N9 N_ Oa Ob Oc Od Oe Of R0 R1 R3 R4 Vn R5 R6 Og R7 R8 Vo R9 Oh R_ Oi Oj Ol Sa Sb El Om Le Sd Oo kR Em cK GD ue b_ kN Gx uO uR qh.len cj H9 aB cN az List.cons_append kJ eZ bX List.replicate_zero List.getElem?_cons_zero lY List.set_cons_zero List.set_cons_succ List.getD_cons_zero List.getD_cons_succ Nat.reduceAdd Nat.reduceSub oN oR Nat.reduceBEq b8 aH be iG Nat.reduceEqDiff or_false or_true true_or false_or not_false_eq_true and_self and_true true_and and_false false_and decide_true decide_false Bool.not_true Bool.not_false yO HZ Bool.or_false Bool.false_or Fb Bool.true_and vc Du if_true if_false Bool.false_eq_true reduceCtorEq Option.map_some beq_self_eq_true Int.cast_ofNat_Int Int.reduceLE Int.reduceLT Int.reduceBEq Int.reduceSub Int.reduceAdd".splitOn " ").toArray.mapM fun x => `(Lean.Parser.Tactic.simpLemma| $(Lean.mkIdent x.toName):ident); `(tactic| simp $c:optConfig (disch := first | assumption | (with_reducible rfl) | (show L3.dm _ = true; rfl) | omega | (unfold L2.uc; omega) | (unfold L2.vt; omega) | (simp only [aB, cN, az, ak]; omega)) only [$q,*, $ls,*])
section
namespace L3
open PySem L2
structure FD where
 n:Str
 s:Stmt
 N:List Str
 k:Nat
 gl:List Str
def FD.ps(d:FD):List Str:=d.N.take d.k
noncomputable def TN(N P:List Str)(sc:fO):Bool:=(match sc.kind with|.function=>true|_=>false)&&(!sc.isCoroutine&&(!sc.isGenerator&&(decide N.Nodup&&(decide (N.take P.length=P)&&(decide (∀x∈P,sc.names.lookup x=some .local\/sc.names.lookup x=some .cell)&&decide (∀y∈sc.names,y.2≠.free))))))
theorem BB{N P:List Str}{sc:fO}(h:TN N P sc=true):lC N P sc:=by
 unfold TN at h;simp only[bR,decide_eq_true_eq,q_]at h;obtain⟨h1,h2,h3,h4,h5,h6,h7⟩:=h;refine⟨?_,h2,h3,h4,h5,h6,h7⟩;revert h1;cases sc.kind<;>intro h1<;>first|rfl|cases h1
noncomputable def FD.dW(bn:List Str)(d:FD)(c:b6):Bool:=pV ⟨d.N,bZ d.s,d.gl,bn,(fun _=>true),true⟩ c (fZ d.s)&&(TN d.N d.ps (bZ d.s)&&(l7 c&&(d.ps.length==d.k)))
def DI(K:PySem.W.Frag)(mg:Str->Option Value)(d:FD):Prop:=BH K mg d.n d.s d.ps
variable{k:Nat}
variable{n:Nat}
variable{bn:List Str}{d:FD}{f:Addr}{Γp:List PG}{c:b6}
variable{oc kV doc pm cdv ct:Value}{od an:Option Addr}{osl:Array (Option Value)}
variable{as:List Str}
variable{B N:Addr}
section
variable{P:bq}{w:bH}{K:PySem.W.Frag}{mg:Str->Option Value}{base:Heap}
abbrev fh(P:bq)(w:bH)(K:PySem.W.Frag)(mg:Str->Option Value)(base:Heap)(k:Nat)(x:Str)(m:List D->R D):Prop:=Gs P w K mg base k x (.fn (Gy K m) [])
def GR(P:bq)(w:bH)(K:PySem.W.Frag)(mg:Str->Option Value)(base:Heap)(k:Nat)(gl:List Str)(Γp:List PG):Prop:=∃M,AF P w K mg base k gl M/\dO K Γp M
theorem gN:GR P w K mg base k [] []:=⟨[],trivial,trivial⟩
section
variable{k:Nat}{x:Str}{gl:List Str}{Γp:List PG}
theorem gG{p:PG}(g:G)(h:Gs P w K mg base k x g)(e:Qw K p g)(r:GR P w K mg base k gl Γp):GR P w K mg base k (x::gl) (p::Γp):=by
 obtain⟨M,a,b⟩:=r;exact⟨g::M,⟨h,a⟩,⟨_,_,rfl,e,b⟩⟩
theorem gF{j:Nat}{m:List D->R D}(h:fh P w K mg base j x m)(r:GR P w K mg base k gl Γp)(l:j<=k:=by decide):GR P w K mg base k (x::gl) (.fn m []::Γp):=by
 obtain⟨f,fd,ps,ds,F,q⟩:=h;exact gG (.fn (Gy K m) []) ⟨f,fd,ps,ds,F.mono l,q⟩ ⟨fun _ _ _ _ h=>h,rfl,rfl⟩ r
def Oq(P:bq)(w:bH)(K:PySem.W.Frag)(mg:Str->Option Value)(x:Str)(C:Addr)(fs:List (Str×Nat))(n:Nat):Prop:=mg x=some (.ref C)/\∀base,Fv P w K mg base 1 C fs n
theorem gC{C:Addr}{fs:List (Str×Nat)}(h:Oq P w K mg x C fs n)(r:GR P w K mg base k gl Γp)(l:2<=k:=by decide):GR P w K mg base k (x::gl) (.cls C fs n::Γp):=gG (.cls C fs n) ⟨h.1,1,l,h.2 base⟩ ⟨rfl,rfl,rfl⟩ r
theorem gV{d:D}{v:V}(h:∃u,mg x=some u/\RelV v u)(e:aZ K (fun _=>none) d v)(r:GR P w K mg base k gl Γp):GR P w K mg base k (x::gl) (.val d::Γp):=gG (.val v) h e r
theorem gT{d:D}{a:Addr}{xs:List V}(h:mg x=some (.ref a)/\DY K a true xs)(e:aZ K (fun _=>none) d (.ref a))(r:GR P w K mg base k gl Γp):GR P w K mg base k (x::gl) (.val d::Γp):=gG (.tup a xs) h e r
end
theorem fF{fd:fJ}(F:qV K d.n d.n d.s f fd)(h:d.dW bn c=true)(hb:∀x∈bn,mg x=none)(r:GR P w K mg base k d.gl Γp):fH P w K mg base (jQ P w) (k+1) f fd d.ps (Gy K (cK Γp n d.N d.k c)):=by
 obtain⟨M,a,b⟩:=r;unfold FD.dW at h;simp only[bR,beq_iff_eq]at h;obtain⟨h1,h2,h3,h4⟩:=h;rw[<-h4];refine Za (M:=M) c F (BB h2) h1 a b h3 hb ?_;unfold FD.ps;rw[j6];omega
theorem fD(D:DI K mg d)(h:d.dW bn c=true)(hb:∀x∈bn,mg x=none)(r:GR P w K mg base k d.gl Γp):fh P w K mg base (k+1) d.n (cK Γp n d.N d.k c):=
 BH.has D fun _ _ F=>fF F h hb r
theorem f0(D:DI K mg d):fh P w K mg base k d.n (fun _=>.bad):=
 BH.has D fun _ _ F=>⟨fun _ _ _ _ ⟨_,_,_,_,_,h⟩=>h.elim,fun _ _ _ _ _ _ _ _ _ _ _ _ _ ⟨_,_,_,_,_,h⟩=>h.elim⟩
variable{h:Heap}
theorem dI(X:K.In h)(G:h.Ns dG mg)(a:PySem.W.nsIn K dG d.n=some (some (.ref f)):=by k_is)
  (l:K.lookup f=some ⟨oc,od,.func (PySem.W.fnOf d.n d.n (lE d.s) (fZ d.s) (bZ d.s) .none kV doc pm an cdv ct),osl⟩:=by k_is) (c:PySem.W.codeIn K cdv d.n=true:=by k_is) (k:PySem.W.keepIn K (.ref f)=true:=by k_is)
  (b:∀(kV doc pm:Value) (an:Option Addr) (cdv ct:Value) (us:List Value),us.length=d.ps.length->sY (PySem.W.fnOf d.n d.n (lE d.s) (fZ d.s) (bZ d.s) .none kV doc pm an cdv ct) ⟨us,[]⟩=pure (d.ps.zip us):=by(intro _ _ _ _ _ _ us hl;rcases us with _|⟨_,_|⟨_,_|⟨_,_|⟨_,_|⟨_,_|⟨_,_⟩⟩⟩⟩⟩⟩<;>first|rfl|cases hl)):DI K mg d:=
 ⟨_,_,fun_mk l c k,PySem.W.mg_of X G a,(fun_mk l c k).binds b⟩
theorem iI{x:Str}{v:Value}(X:K.In h)(G:h.Ns dG mg)(a:PySem.W.nsIn K dG x=some (some v):=by k_is):mg x=some v:=PySem.W.mg_of X G a
noncomputable def isNo:Option (Option Value)->Bool
|some none=>true
|_=>false
theorem zI(X:K.In h)(G:h.Ns dG mg)(a:(bn.all fun x=>isNo (PySem.W.nsIn K dG x))=true:=by kernel_rfl):∀x∈bn,mg x=none:=fun x hx=>PySem.W.mg_none_of X G (by
 have q:=bV.mp a x hx;revert q;rcases PySem.W.nsIn K dG x with _|_|_<;>intro q<;>first|rfl|cases q)
theorem hXI{Cs:List Addr}(X:K.In h)(a:(Cs.all fun C=>FA K C as)=true:=by kernel_rfl)(hn:PySem.W.specialIn K (.builtin "object.__class__") "__get__"=some (some (.builtin "getset_descriptor.__get__")):=by k_is)(htk:PySem.W.takesIn K (.builtin "object.__class__")=some true:=by k_is) :
  ∀C∈Cs,xm K C/\Gm K C/\∀f∈as,mh K C f:=Se a hn htk
structure CD where
 n:Str
 C:Addr
 s:Stmt
 ps:List Str
 fs:List (Str×Nat)
noncomputable def CD.dW(as:List Str)(d:CD):Bool:=rT d.ps d.fs (fZ d.s)&&(TN d.ps d.ps (bZ d.s)&&(decide (∀p∈d.fs,p.1∈as)&&(decide (∀x∈d.ps,(x==("__debug__":Str))=false/\(x==("__classdict__":Str))=false)&&(decide (∀p∈d.fs,p.2<d.ps.length/\1<=p.2)&&decide (d.fs.length<=900/\0<d.fs.length/\d.ps.length<=1000)))))
theorem cI{d:CD}{fI:Addr}{nm q:Str}{bs:List Value}{hdct:Bool}{sn:List Str}{sub:List Value}{ab:Bool}{col:Option Bool}{dd:Option Addr}{k0 k1 k2 k3 k5:Option Value}
  (X:K.In h) (G:h.Ns dG mg) (hx:xm K d.C/\Gm K d.C/\∀f∈as,mh K d.C f) (xb:GQ K B) (o:d.dW as=true) (a:PySem.W.nsIn K dG d.n=some (some (.ref d.C)):=by k_is) (xi:PySem.W.findIn K (.ref d.C) "__init__"=some (some (.ref fI)):=by k_is) (xf:PySem.W.typeIn K (.ref fI)=some (.type "function"):=by k_is) (xk:PySem.W.keepIn K (.ref d.C)=true:=by k_is)
  (xl:K.lookup d.C=some (kq nm q d.C N bs (.ref B::[.type "ValueError",.type "Exception",.type "BaseException",.type "object"]) hdct sn sub ab col dd k0 k1 k2 k3 k5 "ValueError.__new__"):=by k_is)
  (l:K.lookup fI=some ⟨oc,od,.func (PySem.W.fnOf "__init__" (d.n++".__init__") (lE d.s) (fZ d.s) (bZ d.s) .none kV doc pm an cdv ct),osl⟩:=by k_is) (c:PySem.W.codeIn K cdv (d.n++".__init__")=true:=by k_is) (k:PySem.W.keepIn K (.ref fI)=true:=by k_is)
  (b:∀(kV doc pm:Value) (an:Option Addr) (cdv ct:Value) (us:List Value),us.length=d.ps.length->sY (PySem.W.fnOf "__init__" (d.n++".__init__") (lE d.s) (fZ d.s) (bZ d.s) .none kV doc pm an cdv ct) ⟨us,[]⟩=pure (d.ps.zip us):=by(intro _ _ _ _ _ _ us hl;rcases us with _|⟨_,_|⟨_,_|⟨_,_|⟨_,_|⟨_,_|⟨_,_⟩⟩⟩⟩⟩⟩<;>first|rfl|cases hl)):Oq P w K mg d.n d.C d.fs d.ps.length:=by
 refine⟨PySem.W.mg_of X G a,fun base=>?_⟩;unfold CD.dW at o;simp only[bR,decide_eq_true_eq]at o;obtain⟨h1,h2,h3,h4,h5,h6,h7,h8⟩:=o;exact Xy hx xi xf xk xl xb (fun_mk l c k) ((fun_mk l c k).binds b) (BB h2) h3 h1 h4 h5 h6 h7 h8
theorem bI{c0:Value}{d0:Option Addr}{cd:ClassData}{s0:Array (Option Value)}{c1:Value}{d1:Option Addr}{es:Array DictEntry}{ep:Nat}{s1:Array (Option Value)}(X:K.In h)(l:K.lookup B=some ⟨c0,d0,.cls cd,s0⟩:=by k_is)(q:cd.ns=N:=by rfl)(n:K.lookup N=some ⟨c1,d1,.dict es ep,s1⟩:=by k_is)
  (a:(es.all fun e=>match e.key with|.str _ _=>true|_=>false)=true:=by kernel_rfl) (f:Cf es "__init__"=none:=by kernel_rfl):GQ K B:=⟨_,_,_,_,_,_,_,_,_,l,by rw[q];exact n,a,f⟩
end
end L3
end
section
namespace Tr
open PySem L2 L3
def top(i:Nat):Stmt:=PySem.Challenge.pw_claimwise_k08_claims_written.main.body.getD i (.Pass ⟨0,0,0,0⟩)
abbrev En:List Str:=["text"]
noncomputable def xO:b6:=
 (.cons (.ifs (.not (.chain .LtE .LtE (.con (.int 1)) (.blt .len (.cons (.var 0) .nil)) (.glo 2)))
  (.cons (.ret (.con (.bl false)))
 .nil)
  .nil)
 (.cons (.ret (.and (.call 1 (.cons (.var 0) (.cons (.con (.str "a")) (.cons (.con (.str "z")) .nil)))) (.cmp .NotIn (.var 0) (.glo 0))))
 .nil))
abbrev zS:List Str:=["text","figures"]
noncomputable def p6:b6:=
 (.cons (.asg (.name 1) (.ite (.mth .startswith (.var 0) (.cons (.con (.str "-")) .nil)) (.sl (.var 0) (.some (.con (.int 1))) .none) (.var 0)))
 (.cons (.ifs (.or (.not (.call 0 (.cons (.var 1) .nil))) (.cmp .Eq (.var 0) (.con (.str "-0"))))
  (.cons (.ret (.con .non))
 .nil)
  .nil)
 (.cons (.ret (.blt .int (.cons (.var 0) .nil)))
 .nil)))
abbrev xP:List Str:=["text"]
noncomputable def sM:b6:=
 (.cons (.ifs (.or (.not (.chain .LtE .LtE (.con (.int 1)) (.blt .len (.cons (.var 0) .nil)) (.glo 1))) (.not (.call 0 (.cons (.var 0) (.cons (.con (.str "0")) (.cons (.con (.str "9")) .nil))))))
  (.cons (.ret (.con (.bl false)))
 .nil)
  .nil)
 (.cons (.ret (.or (.cmp .Eq (.var 0) (.con (.str "0"))) (.not (.mth .startswith (.var 0) (.cons (.con (.str "0")) .nil)))))
 .nil))
abbrev xQ:List Str:=["text","first","last"]
noncomputable def sN:b6:=
 (.cons (.ret (.blt .all (.cons (.comp ["sign"] [1,2] (.chain .LtE .LtE (.var 1) (.var 0) (.var 2)) (.name 0) (.seq (.var 0)) .none) .nil)))
 .nil)
abbrev Eo:List Str:=["text"]
noncomputable def xR:b6:=
 (.cons (.ret (.comp ["row"] [] (.call 0 (.cons (.var 0) .nil)) (.name 0) (.seq (.mth .split (.var 0) (.cons (.con (.str "\n")) .nil))) .none))
 .nil)
abbrev BI:List Str:=["row"]
noncomputable def vO:b6:=
 (.cons (.ret (.comp ["word"] [] (.var 0) (.name 0) (.seq (.mth .split (.var 0) (.cons (.con (.str " ")) .nil))) (.some (.cmp .NotEq (.var 0) (.con (.str ""))))))
 .nil)
abbrev wu:List Str:=["text","claims","row","words","takes","rows"]
noncomputable def jY:b6:=
 (.cons (.ifs (.cmp .Eq (.var 3) (.lst .nil))
  (.cons (.cont)
 .nil)
  .nil)
 (.cons (.ifs (.cmp .Eq (.ix (.var 3) (.con (.int 0))) (.con (.str "claim")))
  (.cons (.asg (.name 4) (.call 3 (.cons (.var 3) (.cons (.var 2) (.cons (.blt .len (.cons (.var 1) .nil)) .nil)))))
 (.cons (.ifs (.cmp .GtE (.blt .len (.cons (.var 1) .nil)) (.glo 1))
  (.cons (.rais 2 (.cons (.con (.int 0)) (.cons (.var 2) .nil)))
 .nil)
  .nil)
 (.cons (.expr (.mth .append (.var 1) (.cons (.tup (.cons (.var 4) (.cons (.lst .nil) .nil))) .nil)))
 .nil)))
  (.cons (.ifs (.cmp .Eq (.var 1) (.lst .nil))
  (.cons (.rais 4 (.cons (.var 2) .nil))
 .nil)
  (.two (.asg (.name 5) (.ix (.ix (.var 1) (.neg (.con (.int 1)))) (.con (.int 1))))
 (.expr (.mth .append (.var 5) (.cons (.call 5 (.cons (.var 3) (.cons (.var 2) (.cons (.blt .len (.cons (.var 5) .nil)) .nil)))) .nil)))
 .nil))
 .nil))
 .nil))
noncomputable def qK:b6:=
 (.cons (.asg (.name 1) (.lst .nil))
 (.cons (.forr (.tup (.cons (.name 2) (.cons (.name 3) .nil))) (.enum (.call 0 (.cons (.var 0) .nil))) jY)
 (.cons (.ret (.var 1))
 .nil)))
abbrev BJ:List Str:=["words","row","above","takes","number"]
noncomputable def qL:b6:=
 (.cons (.ifs (.not (.chain .LtE .LtE (.con (.int 1)) (.var 4) (.var 2)))
  (.cons (.rais 0 (.cons (.var 1) .nil))
 .nil)
  .nil)
 .nil)
noncomputable def vP:b6:=
 (.cons (.asg (.name 3) (.call 2 (.cons (.sl (.var 0) (.some (.con (.int 1))) .none) .nil)))
 (.cons (.ifs (.cmp .Is (.var 3) (.con .non))
  (.cons (.rais 1 (.cons (.var 1) .nil))
 .nil)
  .nil)
 (.cons (.forr (.name 4) (.seq (.var 3)) qL)
 (.cons (.ret (.var 3))
 .nil))))
abbrev GS:List Str:=["words","row","above","told"]
noncomputable def AO:b6:=
 (.cons (.asg (.name 3) (.call 3 (.cons (.var 0) .nil)))
 (.cons (.ifs (.cmp .Is (.var 3) (.con .non))
  (.cons (.rais 2 (.cons (.var 1) .nil))
 .nil)
  .nil)
 (.cons (.ifs (.cmp .GtE (.var 2) (.glo 0))
  (.cons (.rais 1 (.cons (.con (.int 0)) (.cons (.var 1) .nil)))
 .nil)
  .nil)
 (.cons (.ret (.var 3))
 .nil))))
abbrev tL:List Str:=["words","chosen","numbers","one","other"]
noncomputable def kU:b6:=
 (.cons (.ifs (.cmp .GtE (.var 3) (.var 4))
  (.cons (.ret (.con .non))
 .nil)
  .nil)
 .nil)
noncomputable def nW:b6:=
 (.cons (.ifs (.cmp .Eq (.var 0) (.lst .nil))
  (.cons (.ret (.lst .nil))
 .nil)
  .nil)
 (.cons (.asg (.name 1) (.call 1 (.cons (.sl (.var 0) (.some (.con (.int 1))) .none) .nil)))
 (.cons (.ifs (.or (.cmp .NotEq (.ix (.var 0) (.con (.int 0))) (.con (.str "on"))) (.cmp .Is (.var 1) (.con .non)))
  (.cons (.ret (.con .non))
 .nil)
  .nil)
 (.cons (.casg 2 (.comp ["word"] [] (.call 0 (.cons (.var 0) .nil)) (.name 0) (.seq (.var 1)) .none))
 (.cons (.ifs (.or (.cmp .In (.con .non) (.var 2)) (.cmp .Lt (.ix (.var 2) (.con (.int 0))) (.con (.int 0))))
  (.cons (.ret (.con .non))
 .nil)
  .nil)
 (.cons (.forr (.tup (.cons (.name 3) (.cons (.name 4) .nil))) (.zip (.cons (.var 2) (.cons (.sl (.var 2) (.some (.con (.int 1))) .none) .nil))) kU)
 (.cons (.ret (.var 2))
 .nil)))))))
abbrev xS:List Str:=["words"]
noncomputable def xT:b6:=
 (.cons (.ifs (.cmp .Eq (.bin .Mod (.blt .len (.cons (.var 0) .nil)) (.con (.int 2))) (.con (.int 0)))
  (.cons (.ret (.con .non))
 .nil)
  .nil)
 (.cons (.ifs (.blt .any (.cons (.comp ["word"] [] (.cmp .NotEq (.var 0) (.con (.str "or"))) (.name 0) (.seq (.slp (.var 0) (.some (.con (.int 1))) .none 2)) .none) .nil))
  (.cons (.ret (.con .non))
 .nil)
  .nil)
 (.cons (.ret (.slp (.var 0) (.some (.con (.int 0))) .none 2))
 .nil)))
abbrev BK:List Str:=["words"]
noncomputable def jZ:b6:=
 (.cons (.ifs (.cmp .In (.ix (.var 0) (.con (.int 0))) (.glo 4))
  (.cons (.ret (.call 3 (.cons (.con (.bl false)) (.cons (.bin .Add (.lst (.cons (.con (.str "1")) .nil)) (.sl (.var 0) (.some (.con (.int 1))) .none)) .nil))))
 .nil)
  .nil)
 (.cons (.ifs (.cmp .Eq (.sl (.var 0) .none (.some (.con (.int 2)))) (.lst (.cons (.con (.str "at")) (.cons (.con (.str "least")) .nil))))
  (.cons (.ret (.call 3 (.cons (.con (.bl false)) (.cons (.sl (.var 0) (.some (.con (.int 2))) .none) .nil))))
 .nil)
  .nil)
 (.cons (.ifs (.cmp .Eq (.ix (.var 0) (.con (.int 0))) (.con (.str "just")))
  (.cons (.ret (.call 3 (.cons (.con (.bl true)) (.cons (.sl (.var 0) (.some (.con (.int 1))) .none) .nil))))
 .nil)
  .nil)
 (.cons (.ifs (.cmp .Eq (.ix (.var 0) (.con (.int 0))) (.con (.str "then")))
  (.cons (.ret (.call 2 (.cons (.sl (.var 0) (.some (.con (.int 1))) .none) .nil)))
 .nil)
  .nil)
 (.cons (.ifs (.cmp .In (.ix (.var 0) (.con (.int 0))) (.glo 0))
  (.cons (.ret (.call 1 (.cons (.sl (.var 0) (.some (.con (.int 1))) .none) .nil)))
 .nil)
  .nil)
 (.cons (.ret (.con .non))
 .nil))))))
abbrev xU:List Str:=["closed","words","many","label","kinds"]
noncomputable def kW:b6:=
 (.cons (.ifs (.cmp .Lt (.blt .len (.cons (.var 1) .nil)) (.con (.int 2)))
  (.cons (.ret (.con .non))
 .nil)
  .nil)
 (.cons (.asg (.name 2) (.call 3 (.cons (.ix (.var 1) (.con (.int 0))) .nil)))
 (.cons (.ifs (.or (.cmp .Is (.var 2) (.con .non)) (.not (.chain .LtE .LtE (.con (.int 1)) (.var 2) (.glo 2))))
  (.cons (.ret (.con .non))
 .nil)
  .nil)
 (.cons (.asg (.name 3) (.ite (.and (.cmp .Gt (.blt .len (.cons (.var 1) .nil)) (.con (.int 2))) (.cmp .NotEq (.ix (.var 1) (.con (.int 2))) (.con (.str "or")))) (.ix (.var 1) (.con (.int 1))) (.con (.str ""))))
 (.cons (.asg (.name 4) (.call 1 (.cons (.ite (.cmp .Eq (.var 3) (.con (.str ""))) (.sl (.var 1) (.some (.con (.int 1))) .none) (.sl (.var 1) (.some (.con (.int 2))) .none)) .nil)))
 (.cons (.ifs (.or (.cmp .Is (.var 4) (.con .non)) (.not (.or (.cmp .Eq (.var 3) (.con (.str ""))) (.call 0 (.cons (.var 3) .nil)))))
  (.cons (.ret (.con .non))
 .nil)
  .nil)
 (.cons (.ret (.tup (.cons (.con (.str "parts")) (.cons (.var 2) (.cons (.var 0) (.cons (.var 3) (.cons (.var 4) .nil)))))))
 .nil)))))))
abbrev xV:List Str:=["words","kinds"]
noncomputable def sO:b6:=
 (.cons (.asg (.name 1) (.call 2 (.cons (.var 0) .nil)))
 (.cons (.ifs (.or (.cmp .Is (.var 1) (.con .non)) (.cmp .Gt (.blt .len (.cons (.var 1) .nil)) (.glo 1)))
  (.cons (.ret (.con .non))
 .nil)
  .nil)
 (.cons (.ifs (.or (.not (.call 0 (.cons (.var 1) .nil))) (.cmp .NotEq (.nset (.var 1)) (.blt .len (.cons (.var 1) .nil))))
  (.cons (.ret (.con .non))
 .nil)
  .nil)
 (.cons (.ret (.var 1))
 .nil))))
abbrev zT:List Str:=["words","ref"]
noncomputable def uq:b6:=
 (.cons (.ifs (.or (.cmp .Lt (.blt .len (.cons (.var 0) .nil)) (.con (.int 2))) (.or (.not (.call 2 (.cons (.ix (.var 0) (.con (.int 0))) .nil))) (.cmp .NotIn (.ix (.var 0) (.con (.int 1))) (.glo 1))))
  (.cons (.ret (.con .non))
 .nil)
  .nil)
 (.cons (.asg (.name 1) (.call 0 (.cons (.sl (.var 0) (.some (.con (.int 2))) .none) .nil)))
 (.cons (.ifs (.cmp .Is (.var 1) (.con .non))
  (.cons (.ret (.con .non))
 .nil)
  .nil)
 (.cons (.ret (.tup (.cons (.con (.str "then")) (.cons (.ix (.var 0) (.con (.int 0))) (.cons (.var 1) .nil)))))
 .nil))))
abbrev BL:List Str:=["words","label"]
noncomputable def rF:b6:=
 (.cons (.ifs (.or (.not (.chain .LtE .LtE (.con (.int 1)) (.blt .len (.cons (.var 0) .nil)) (.con (.int 2)))) (.not (.call 0 (.cons (.var 0) .nil))))
  (.cons (.ret (.con .non))
 .nil)
  .nil)
 (.cons (.asg (.name 1) (.ite (.cmp .Eq (.blt .len (.cons (.var 0) .nil)) (.con (.int 2))) (.ix (.var 0) (.con (.int 0))) (.con (.str ""))))
 (.cons (.ret (.tup (.cons (.var 1) (.cons (.ix (.var 0) (.neg (.con (.int 1)))) .nil))))
 .nil)))
abbrev wx:List Str:=["words","count","behind","ref"]
noncomputable def mR:b6:=
 (.cons (.asg (.name 1) (.call 5 (.cons (.var 0) .nil)))
 (.cons (.ifs (.cmp .Eq (.var 1) (.blt .len (.cons (.var 0) .nil)))
  (.cons (.ret (.con .non))
 .nil)
  .nil)
 (.cons (.asg (.name 2) (.sl (.var 0) (.some (.var 1)) .none))
 (.cons (.ifs (.cmp .Eq (.ix (.var 2) (.con (.int 0))) (.con (.str "is")))
  (.cons (.ret (.call 4 (.cons (.sl (.var 0) .none (.some (.var 1))) (.cons (.sl (.var 2) (.some (.con (.int 1))) .none) .nil))))
 .nil)
  .nil)
 (.cons (.ifs (.cmp .Lt (.var 1) (.con (.int 2)))
  (.cons (.ret (.con .non))
 .nil)
  .nil)
 (.cons (.asg (.name 3) (.call 3 (.cons (.sl (.var 0) .none (.some (.bin .Sub (.var 1) (.con (.int 1))))) .nil)))
 (.cons (.ifs (.cmp .Is (.var 3) (.con .non))
  (.cons (.ret (.con .non))
 .nil)
  .nil)
 (.cons (.ifs (.cmp .In (.ix (.var 2) (.con (.int 0))) (.glo 1))
  (.cons (.ret (.call 2 (.cons (.var 3) (.cons (.ix (.var 0) (.bin .Sub (.var 1) (.con (.int 1)))) (.cons (.sl (.var 2) (.some (.con (.int 1))) .none) .nil)))))
 .nil)
  .nil)
 (.cons (.ret (.call 0 (.cons (.var 3) (.cons (.ix (.var 0) (.bin .Sub (.var 1) (.con (.int 1)))) (.cons (.var 2) .nil)))))
 .nil)))))))))
abbrev mj:List Str:=["words","count"]
noncomputable def kF:b6:=
 (.cons (.aug 1 (.con (.int 1)))
 .nil)
noncomputable def jm:b6:=
 (.cons (.asg (.name 1) (.con (.int 0)))
 (.cons (.whil (.and (.cmp .Lt (.var 1) (.blt .len (.cons (.var 0) .nil))) (.call 0 (.cons (.ix (.var 0) (.var 1)) .nil))) kF)
 (.cons (.ret (.var 1))
 .nil)))
abbrev Ep:List Str:=["ref_words","words","ref","kinds"]
noncomputable def xW:b6:=
 (.cons (.asg (.name 2) (.call 2 (.cons (.var 0) .nil)))
 (.cons (.asg (.name 3) (.call 1 (.cons (.sl (.var 1) (.some (.con (.int 1))) .none) .nil)))
 (.cons (.ifs (.or (.cmp .Is (.var 2) (.con .non)) (.or (.cmp .Is (.var 3) (.con .non)) (.cmp .NotIn (.ix (.var 1) (.con (.int 0))) (.glo 0))))
  (.cons (.ret (.con .non))
 .nil)
  .nil)
 (.cons (.ret (.tup (.cons (.con (.str "is")) (.cons (.var 2) (.cons (.var 3) .nil)))))
 .nil))))
abbrev zU:List Str:=["ref","word","words","other"]
noncomputable def uu:b6:=
 (.cons (.asg (.name 3) (.call 0 (.cons (.var 2) .nil)))
 (.cons (.ifs (.cmp .Is (.var 3) (.con .non))
  (.cons (.ret (.con .non))
 .nil)
  .nil)
 (.cons (.ret (.tup (.cons (.con (.str "join")) (.cons (.var 0) (.cons (.var 1) (.cons (.var 3) .nil))))))
 .nil)))
abbrev zV:List Str:=["ref","word","words","bounds"]
noncomputable def uv:b6:=
 (.cons (.asg (.name 3) (.call 0 (.cons (.var 2) .nil)))
 (.cons (.ifs (.cmp .Is (.var 3) (.con .non))
  (.cons (.ret (.con .non))
 .nil)
  .nil)
 (.cons (.ret (.tup (.cons (.con (.str "size")) (.cons (.var 0) (.cons (.var 1) (.cons (.ix (.var 3) (.con (.int 0))) (.cons (.ix (.var 3) (.con (.int 1))) .nil)))))))
 .nil)))
abbrev wy:List Str:=["words","form","numbers"]
noncomputable def jb:b6:=
 (.cons (.casg 1 (.comp ["word"] [] (.ite (.cmp .Is (.call 0 (.cons (.var 0) .nil)) (.con .non)) (.var 0) (.con (.str ""))) (.name 0) (.seq (.var 0)) .none))
 (.cons (.casg 2 (.comp ["word"] [] (.call 0 (.cons (.var 0) .nil)) (.name 0) (.seq (.var 0)) (.some (.cmp .IsNot (.call 0 (.cons (.var 0) .nil)) (.con .non)))))
 (.cons (.ifs (.cmp .Eq (.var 1) (.lst (.cons (.con (.str "of")) (.cons (.con (.str "")) .nil))))
  (.cons (.ret (.tup (.cons (.ix (.var 2) (.con (.int 0))) (.cons (.ix (.var 2) (.con (.int 0))) .nil))))
 .nil)
  .nil)
 (.cons (.ifs (.cmp .Eq (.var 1) (.lst (.cons (.con (.str "at")) (.cons (.con (.str "least")) (.cons (.con (.str "")) .nil)))))
  (.cons (.ret (.tup (.cons (.ix (.var 2) (.con (.int 0))) (.cons (.con .non) .nil))))
 .nil)
  .nil)
 (.cons (.ifs (.cmp .Eq (.var 1) (.lst (.cons (.con (.str "at")) (.cons (.con (.str "most")) (.cons (.con (.str "")) .nil)))))
  (.cons (.ret (.tup (.cons (.con .non) (.cons (.ix (.var 2) (.con (.int 0))) .nil))))
 .nil)
  .nil)
 (.cons (.ifs (.and (.cmp .Eq (.var 1) (.lst (.cons (.con (.str "from")) (.cons (.con (.str "")) (.cons (.con (.str "to")) (.cons (.con (.str "")) .nil)))))) (.cmp .LtE (.ix (.var 2) (.con (.int 0))) (.ix (.var 2) (.con (.int 1)))))
  (.cons (.ret (.tup (.cons (.ix (.var 2) (.con (.int 0))) (.cons (.ix (.var 2) (.con (.int 1))) .nil))))
 .nil)
  .nil)
 (.cons (.ret (.con .non))
 .nil)))))))
abbrev zW:List Str:=["words"]
noncomputable def uw:b6:=
 (.cons (.ret (.blt .all (.cons (.comp ["word"] [] (.call 0 (.cons (.var 0) .nil)) (.name 0) (.seq (.var 0)) .none) .nil)))
 .nil)
abbrev uS:List Str:=["claims","rows","takes","told"]
noncomputable def l8:b6:=
 (.cons (.expr (.mth .append (.var 1) (.cons (.call 1 (.cons (.var 2) .nil)) .nil)))
 (.cons (.expr (.mth .extend (.var 1) (.cons (.comp ["row"] [] (.call 0 (.cons (.var 0) .nil)) (.name 0) (.seq (.var 3)) .none) .nil)))
 .nil))
noncomputable def o9:b6:=
 (.cons (.asg (.name 1) (.lst .nil))
 (.cons (.forr (.tup (.cons (.name 2) (.cons (.name 3) .nil))) (.seq (.var 0)) l8)
 (.cons (.ret (.mth .join (.con (.str "\n")) (.cons (.var 1) .nil)))
 .nil)))
abbrev uT:List Str:=["takes"]
noncomputable def lJ:b6:=
 (.cons (.ifs (.cmp .Eq (.var 0) (.lst .nil))
  (.cons (.ret (.con (.str "claim")))
 .nil)
  .nil)
 (.cons (.ret (.bin .Add (.con (.str "claim on ")) (.mth .join (.con (.str " or ")) (.cons (.comp ["number"] [] (.blt .str (.cons (.var 0) .nil)) (.name 0) (.seq (.var 0)) .none) .nil))))
 .nil))
abbrev GU:List Str:=["row"]
noncomputable def ni:b6:=
 (.cons (.ifs (.cmp .Eq (.ix (.var 0) (.con (.int 0))) (.con (.str "parts")))
  (.cons (.ret (.bin .Add (.bin .Add (.call 2 (.cons (.ix (.var 0) (.con (.int 1))) (.cons (.ix (.var 0) (.con (.int 2))) .nil))) (.con (.str " "))) (.call 0 (.cons (.tup (.cons (.ix (.var 0) (.con (.int 3))) (.cons (.mth .join (.con (.str " or ")) (.cons (.ix (.var 0) (.con (.int 4))) .nil)) .nil))) .nil))))
 .nil)
  .nil)
 (.cons (.ifs (.cmp .Eq (.ix (.var 0) (.con (.int 0))) (.con (.str "join")))
  (.cons (.ret (.bin .Add (.bin .Add (.bin .Add (.bin .Add (.bin .Add (.con (.str "the ")) (.call 0 (.cons (.ix (.var 0) (.con (.int 1))) .nil))) (.con (.str " "))) (.ix (.var 0) (.con (.int 2)))) (.con (.str " the "))) (.call 0 (.cons (.ix (.var 0) (.con (.int 3))) .nil))))
 .nil)
  .nil)
 (.cons (.ifs (.cmp .Eq (.ix (.var 0) (.con (.int 0))) (.con (.str "size")))
  (.cons (.ret (.bin .Add (.bin .Add (.bin .Add (.bin .Add (.bin .Add (.con (.str "the ")) (.call 0 (.cons (.ix (.var 0) (.con (.int 1))) .nil))) (.con (.str " "))) (.ix (.var 0) (.con (.int 2)))) (.con (.str " "))) (.call 1 (.cons (.ix (.var 0) (.con (.int 3))) (.cons (.ix (.var 0) (.con (.int 4))) .nil)))))
 .nil)
  .nil)
 (.cons (.ifs (.cmp .Eq (.ix (.var 0) (.con (.int 0))) (.con (.str "is")))
  (.cons (.ret (.bin .Add (.bin .Add (.bin .Add (.con (.str "the ")) (.call 0 (.cons (.ix (.var 0) (.con (.int 1))) .nil))) (.con (.str " is a "))) (.mth .join (.con (.str " or ")) (.cons (.ix (.var 0) (.con (.int 2))) .nil))))
 .nil)
  .nil)
 (.cons (.ret (.bin .Add (.bin .Add (.bin .Add (.con (.str "then ")) (.ix (.var 0) (.con (.int 1)))) (.con (.str " the "))) (.call 0 (.cons (.ix (.var 0) (.con (.int 2))) .nil))))
 .nil)))))
abbrev Er:List Str:=["many","closed"]
noncomputable def qp:b6:=
 (.cons (.ifs (.var 1)
  (.cons (.ret (.fst [("just ",0)]))
 .nil)
  .nil)
 (.cons (.ret (.ite (.cmp .Eq (.var 0) (.con (.int 1))) (.con (.str "a")) (.fst [("at least ",0)])))
 .nil))
abbrev GV:List Str:=["ref"]
noncomputable def vQ:b6:=
 (.cons (.ret (.ite (.cmp .Eq (.ix (.var 0) (.con (.int 0))) (.con (.str ""))) (.ix (.var 0) (.con (.int 1))) (.bin .Add (.bin .Add (.ix (.var 0) (.con (.int 0))) (.con (.str " "))) (.ix (.var 0) (.con (.int 1))))))
 .nil)
abbrev zX:List Str:=["lo","hi"]
noncomputable def kj:b6:=
 (.cons (.ifs (.cmp .Is (.var 1) (.con .non))
  (.cons (.ret (.fst [("at least ",0)]))
 .nil)
  .nil)
 (.cons (.ifs (.cmp .Is (.var 0) (.con .non))
  (.cons (.ret (.fst [("at most ",1)]))
 .nil)
  .nil)
 (.cons (.ret (.ite (.cmp .Eq (.var 0) (.var 1)) (.fst [("of ",0)]) (.fst [("from ",0),(" to ",1)])))
 .nil)))
abbrev GW:List Str:=["_law_script","_law_k"]
noncomputable def AQ:b6:=
 (.cons (.ifs (.cmp .Lt (.var 1) (.blt .len (.cons (.var 0) .nil)))
  (.cons (.ret (.ix (.var 0) (.var 1)))
 .nil)
  .nil)
 (.cons (.ret (.bin .Mult (.con (.int 2377)) (.bin .Add (.var 1) (.con (.int 1)))))
 .nil))
abbrev Es:List Str:=["_law_cell_here","_law_k","_law_once"]
noncomputable def xX:b6:=
 (.cons (.asg (.name 2) (.bin .Mod (.bin .Mult (.bin .Add (.bin .Add (.bin .Mod (.var 0) (.con (.int 2147483647))) (.bin .Mult (.con (.int 7919)) (.var 1))) (.con (.int 1))) (.con (.int 48271))) (.con (.int 2147483647))))
 (.cons (.ret (.bin .FloorDiv (.bin .Mod (.bin .Mult (.var 2) (.bin .Add (.bin .Mod (.var 2) (.con (.int 1009))) (.con (.int 1)))) (.con (.int 2147483629))) (.con (.int 3))))
 .nil))
abbrev GX:List Str:=["_law_seed","_law_which","_law_letters","_law_size","_law_rest","_law_spot","_law_sign"]
noncomputable def AR:b6:=
 (.cons (.asg (.name 2) (.con (.str "abcdefghijklmnopqrstuvwxyz")))
 (.cons (.asg (.name 3) (.bin .Add (.con (.int 1)) (.bin .Mod (.var 0) (.con (.int 8)))))
 (.cons (.ifs (.cmp .Eq (.var 3) (.con (.int 1)))
  (.cons (.ret (.ix (.var 2) (.bin .Add (.con (.int 1)) (.bin .Mod (.bin .Add (.bin .FloorDiv (.var 0) (.con (.int 8))) (.bin .Mult (.con (.int 3)) (.var 1))) (.con (.int 25))))))
 .nil)
  .nil)
 (.cons (.asg (.name 4) (.ix (.con (.str "bgkpqvwxyz")) (.bin .Mod (.bin .FloorDiv (.var 0) (.con (.int 8))) (.con (.int 10)))))
 (.cons (.asg (.name 5) (.bin .Mod (.bin .FloorDiv (.var 0) (.con (.int 80))) (.var 3)))
 (.cons (.asg (.name 6) (.ix (.var 2) (.bin .Mod (.bin .Add (.bin .FloorDiv (.var 0) (.con (.int 640))) (.bin .Mult (.con (.int 5)) (.var 1))) (.con (.int 26)))))
 (.cons (.ret (.bin .Add (.bin .Add (.bin .Mult (.var 4) (.var 5)) (.var 6)) (.bin .Mult (.var 4) (.bin .Sub (.bin .Sub (.var 3) (.con (.int 1))) (.var 5)))))
 .nil)))))))
abbrev xY:List Str:=["_law_found","_law_due"]
noncomputable def jf:b6:=
 (.cons (.ifs (.isi (.var 1) .none)
  (.cons (.ifs (.cmp .NotEq (.isi (.var 0) .list) (.isi (.var 1) .list))
  (.cons (.ret (.con (.bl false)))
 .nil)
  .nil)
 (.cons (.ifs (.cmp .NotEq (.isi (.var 0) .tuple) (.isi (.var 1) .tuple))
  (.cons (.ret (.con (.bl false)))
 .nil)
  .nil)
 (.cons (.ret (.and (.cmp .Eq (.blt .len (.cons (.var 0) .nil)) (.blt .len (.cons (.var 1) .nil))) (.blt .all (.cons (.comp ["_law_one","_law_other"] [] (.call 0 (.cons (.var 0) (.cons (.var 1) .nil))) (.tup (.cons (.name 0) (.cons (.name 1) .nil))) (.zip (.cons (.var 0) (.cons (.var 1) .nil))) .none) .nil))))
 .nil)))
  .nil)
 (.cons (.ifs (.cmp .Is (.var 1) (.con .non))
  (.cons (.ret (.cmp .Is (.var 0) (.con .non)))
 .nil)
  .nil)
 (.cons (.ifs (.isi (.var 1) .str)
  (.cons (.ret (.and (.isi (.var 0) .str) (.cmp .Eq (.var 0) (.var 1))))
 .nil)
  .nil)
 (.cons (.ifs (.or (.isi (.var 1) .bool) (.isi (.var 0) .bool))
  (.cons (.ret (.and (.isi (.var 0) .bool) (.and (.isi (.var 1) .bool) (.cmp .Eq (.var 0) (.var 1)))))
 .nil)
  .nil)
 (.cons (.ret (.and (.isi (.var 0) .int) (.cmp .Eq (.var 0) (.var 1))))
 .nil)))))
abbrev JK:List Str:=["_law_seed","_law_d","_law_label"]
noncomputable def zf:b6:=
 (.cons (.asg (.name 2) (.con (.str "")))
 (.cons (.ifs (.cmp .Eq (.bin .Mod (.var 1) (.con (.int 2))) (.con (.int 1)))
  (.cons (.asg (.name 2) (.call 0 (.cons (.var 0) (.cons (.bin .Mod (.bin .FloorDiv (.var 1) (.con (.int 2))) (.con (.int 26))) .nil))))
 .nil)
  .nil)
 (.cons (.ret (.tup (.cons (.var 2) (.cons (.call 0 (.cons (.var 0) (.cons (.bin .Mod (.bin .FloorDiv (.var 1) (.con (.int 52))) (.con (.int 26))) .nil))) .nil))))
 .nil)))
abbrev GY:List Str:=["_law_seed","_law_d"]
noncomputable def AS:b6:=
 (.cons (.ret (.comp ["_law_k"] [0,1] (.call 0 (.cons (.var 1) (.cons (.bin .Add (.bin .Mod (.bin .FloorDiv (.var 2) (.con (.int 3))) (.con (.int 26))) (.var 0)) .nil))) (.name 0) (.range (.cons (.bin .Add (.con (.int 1)) (.bin .Mod (.var 1) (.con (.int 3)))) .nil)) .none))
 .nil)
abbrev BO:List Str:=["_law_cell_here","_law_d","_law_low","_law_high"]
noncomputable def rG:b6:=
 (.cons (.asg (.name 2) (.ix (.lst (.cons (.bin .Sub (.bin .Mod (.var 1) (.con (.int 5))) (.con (.int 2))) (.cons (.bin .Mod (.var 0) (.bin .Pow (.con (.int 10)) (.con (.int 30)))) (.cons (.bin .Sub (.con (.int 0)) (.bin .Mod (.var 0) (.bin .Pow (.con (.int 10)) (.con (.int 30))))) .nil)))) (.bin .Mod (.bin .FloorDiv (.var 1) (.con (.int 5))) (.con (.int 3)))))
 (.cons (.asg (.name 3) (.bin .Add (.var 2) (.ix (.lst (.cons (.con (.int 0)) (.cons (.bin .Add (.con (.int 1)) (.bin .Mod (.bin .FloorDiv (.var 1) (.con (.int 15))) (.con (.int 7)))) (.cons (.bin .Mod (.var 0) (.bin .Pow (.con (.int 10)) (.con (.int 20)))) .nil)))) (.bin .Mod (.bin .FloorDiv (.var 1) (.con (.int 105))) (.con (.int 3))))))
 (.cons (.ifs (.cmp .Gt (.blt .abs (.cons (.var 3) .nil)) (.bin .Sub (.bin .Pow (.con (.int 10)) (.con (.int 30))) (.con (.int 1))))
  (.cons (.asg (.name 3) (.var 2))
 .nil)
  .nil)
 (.cons (.ifs (.cmp .Eq (.bin .Mod (.bin .FloorDiv (.var 1) (.con (.int 315))) (.con (.int 4))) (.con (.int 0)))
  (.cons (.ret (.tup (.cons (.var 2) (.cons (.con .non) .nil))))
 .nil)
  .nil)
 (.cons (.ifs (.cmp .Eq (.bin .Mod (.bin .FloorDiv (.var 1) (.con (.int 315))) (.con (.int 4))) (.con (.int 1)))
  (.cons (.ret (.tup (.cons (.con .non) (.cons (.var 3) .nil))))
 .nil)
  .nil)
 (.cons (.ret (.tup (.cons (.var 2) (.cons (.var 3) .nil))))
 .nil))))))
abbrev JL:List Str:=["_law_cell_here","_law_k","_law_seed","_law_d","_law_e","_law_f","_law_label","_law_many","_law_low","_law_high"]
noncomputable def o_:b6:=
 (.cons (.asg (.name 3) (.call 4 (.cons (.var 0) (.cons (.var 1) .nil))))
 (.cons (.asg (.name 4) (.call 4 (.cons (.var 0) (.cons (.bin .Add (.var 1) (.con (.int 40))) .nil))))
 (.cons (.asg (.name 5) (.call 4 (.cons (.var 0) (.cons (.bin .Add (.var 1) (.con (.int 80))) .nil))))
 (.cons (.ifs (.cmp .Lt (.bin .Mod (.var 3) (.con (.int 7))) (.con (.int 3)))
  (.cons (.asg (.name 6) (.ix (.lst (.cons (.con (.str "")) (.cons (.call 1 (.cons (.var 2) (.cons (.bin .Mod (.bin .FloorDiv (.var 4) (.con (.int 78))) (.con (.int 26))) .nil))) .nil))) (.bin .Mod (.bin .FloorDiv (.var 3) (.con (.int 7))) (.con (.int 2)))))
 (.cons (.asg (.name 7) (.ix (.lst (.cons (.con (.int 1)) (.cons (.bin .Add (.con (.int 1)) (.bin .Mod (.var 5) (.con (.int 5)))) (.cons (.bin .Add (.con (.int 1)) (.bin .Mod (.var 5) (.con (.int 5)))) .nil)))) (.bin .Mod (.var 3) (.con (.int 7)))))
 (.cons (.ret (.tup (.cons (.con (.str "parts")) (.cons (.var 7) (.cons (.cmp .Eq (.bin .Mod (.var 3) (.con (.int 7))) (.con (.int 2))) (.cons (.var 6) (.cons (.call 2 (.cons (.var 2) (.cons (.var 4) .nil))) .nil)))))))
 .nil)))
  .nil)
 (.cons (.ifs (.cmp .Eq (.bin .Mod (.var 3) (.con (.int 7))) (.con (.int 3)))
  (.cons (.ret (.tup (.cons (.con (.str "join")) (.cons (.call 0 (.cons (.var 2) (.cons (.var 4) .nil))) (.cons (.call 1 (.cons (.var 2) (.cons (.bin .Mod (.bin .FloorDiv (.var 3) (.con (.int 7))) (.con (.int 26))) .nil))) (.cons (.call 0 (.cons (.var 2) (.cons (.var 5) .nil))) .nil))))))
 .nil)
  .nil)
 (.cons (.ifs (.cmp .Eq (.bin .Mod (.var 3) (.con (.int 7))) (.con (.int 4)))
  (.cons (.tasg (.tup (.cons (.name 8) (.cons (.name 9) .nil))) (.call 3 (.cons (.var 0) (.cons (.var 5) .nil))))
 (.cons (.ret (.tup (.cons (.con (.str "size")) (.cons (.call 0 (.cons (.var 2) (.cons (.var 4) .nil))) (.cons (.call 1 (.cons (.var 2) (.cons (.bin .Mod (.bin .FloorDiv (.var 3) (.con (.int 7))) (.con (.int 26))) .nil))) (.cons (.var 8) (.cons (.var 9) .nil)))))))
 .nil))
  .nil)
 (.cons (.ifs (.cmp .Eq (.bin .Mod (.var 3) (.con (.int 7))) (.con (.int 5)))
  (.cons (.ret (.tup (.cons (.con (.str "is")) (.cons (.call 0 (.cons (.var 2) (.cons (.var 4) .nil))) (.cons (.call 2 (.cons (.var 2) (.cons (.var 5) .nil))) .nil)))))
 .nil)
  .nil)
 (.cons (.ret (.tup (.cons (.con (.str "then")) (.cons (.call 1 (.cons (.var 2) (.cons (.bin .Mod (.bin .FloorDiv (.var 3) (.con (.int 7))) (.con (.int 26))) .nil))) (.cons (.call 0 (.cons (.var 2) (.cons (.var 4) .nil))) .nil)))))
 .nil))))))))
abbrev Et:List Str:=["_law_d","_law_above","_law_takes_here","_law_number"]
noncomputable def kX:b6:=
 (.cons (.ifs (.and (.cmp .Eq (.bin .Mod (.bin .RShift (.var 0) (.var 3)) (.con (.int 3))) (.con (.int 0))) (.cmp .Lt (.blt .len (.cons (.var 2) .nil)) (.con (.int 4))))
  (.cons (.expr (.mth .append (.var 2) (.cons (.var 3) .nil)))
 .nil)
  .nil)
 .nil)
noncomputable def xZ:b6:=
 (.cons (.asg (.name 2) (.lst .nil))
 (.cons (.forr (.name 3) (.range (.cons (.con (.int 1)) (.cons (.bin .Add (.var 1) (.con (.int 1))) .nil))) kX)
 (.cons (.ret (.var 2))
 .nil)))
abbrev BP:List Str:=["_law_script","_law_seed","_law_claims_here","_law_k","_law_cell_here","_law_d"]
noncomputable def dh:b6:=
 (.cons (.asg (.name 5) (.call 2 (.cons (.var 4) (.cons (.bin .Add (.var 3) (.con (.int 120))) .nil))))
 (.cons (.ifs (.and (.cmp .Lt (.blt .len (.cons (.var 2) .nil)) (.con (.int 12))) (.or (.cmp .Eq (.bin .Mod (.var 5) (.con (.int 6))) (.con (.int 0))) (.cmp .Eq (.blt .len (.cons (.ix (.ix (.var 2) (.neg (.con (.int 1)))) (.con (.int 1))) .nil)) (.con (.int 12)))))
  (.cons (.expr (.mth .append (.var 2) (.cons (.tup (.cons (.call 0 (.cons (.bin .FloorDiv (.var 5) (.con (.int 6))) (.cons (.blt .len (.cons (.var 2) .nil)) .nil))) (.cons (.lst .nil) .nil))) .nil)))
 .nil)
  (.cons (.ifs (.cmp .Lt (.blt .len (.cons (.ix (.ix (.var 2) (.neg (.con (.int 1)))) (.con (.int 1))) .nil)) (.con (.int 12)))
  (.cons (.expr (.mth .append (.ix (.ix (.var 2) (.neg (.con (.int 1)))) (.con (.int 1))) (.cons (.call 1 (.cons (.var 4) (.cons (.var 3) (.cons (.var 1) .nil)))) .nil)))
 .nil)
  .nil)
 .nil))
 .nil))
noncomputable def vR:b6:=
 (.cons (.asg (.name 1) (.call 2 (.cons (.call 3 (.cons (.var 0) (.cons (.con (.int 0)) .nil))) (.cons (.con (.int 1)) .nil))))
 (.cons (.asg (.name 2) (.lst (.cons (.tup (.cons (.lst .nil) (.cons (.lst .nil) .nil))) .nil)))
 (.cons (.forr (.tup (.cons (.name 3) (.cons (.name 4) .nil))) (.enum (.sl (.var 0) (.some (.con (.int 1))) (.some (.con (.int 63))))) dh)
 (.cons (.ret (.var 2))
 .nil))))
abbrev x_:List Str:=["_law_ref_here"]
noncomputable def sP:b6:=
 (.cons (.ret (.mth .join (.con (.str " ")) (.cons (.comp ["_law_word_here"] [] (.var 0) (.name 0) (.seq (.tup (.cons (.con (.str "the")) (.cons (.ix (.var 0) (.con (.int 0))) (.cons (.ix (.var 0) (.con (.int 1))) .nil))))) (.some (.cmp .NotEq (.var 0) (.con (.str ""))))) .nil)))
 .nil)
abbrev wz:List Str:=["_law_low","_law_high"]
noncomputable def j_:b6:=
 (.cons (.ifs (.cmp .Is (.var 1) (.con .non))
  (.cons (.ret (.bin .Add (.con (.str "at least ")) (.blt .str (.cons (.var 0) .nil))))
 .nil)
  .nil)
 (.cons (.ifs (.cmp .Is (.var 0) (.con .non))
  (.cons (.ret (.bin .Add (.con (.str "at most ")) (.blt .str (.cons (.var 1) .nil))))
 .nil)
  .nil)
 (.cons (.ifs (.cmp .Eq (.var 0) (.var 1))
  (.cons (.ret (.bin .Add (.con (.str "of ")) (.blt .str (.cons (.var 0) .nil))))
 .nil)
  .nil)
 (.cons (.ret (.bin .Add (.bin .Add (.bin .Add (.con (.str "from ")) (.blt .str (.cons (.var 0) .nil))) (.con (.str " to "))) (.blt .str (.cons (.var 1) .nil))))
 .nil))))
abbrev GZ:List Str:=["_law_row_here","_law_head"]
noncomputable def nj:b6:=
 (.cons (.ifs (.cmp .Eq (.ix (.var 0) (.con (.int 0))) (.con (.str "parts")))
  (.cons (.asg (.name 1) (.bin .Add (.con (.str "at least ")) (.blt .str (.cons (.ix (.var 0) (.con (.int 1))) .nil))))
 (.cons (.ifs (.cmp .Eq (.ix (.var 0) (.con (.int 1))) (.con (.int 1)))
  (.cons (.asg (.name 1) (.con (.str "a")))
 .nil)
  .nil)
 (.cons (.ifs (.ix (.var 0) (.con (.int 2)))
  (.cons (.asg (.name 1) (.bin .Add (.con (.str "just ")) (.blt .str (.cons (.ix (.var 0) (.con (.int 1))) .nil))))
 .nil)
  .nil)
 (.cons (.ret (.mth .join (.con (.str " ")) (.cons (.comp ["_law_word_here"] [] (.var 0) (.name 0) (.seq (.tup (.cons (.var 1) (.cons (.ix (.var 0) (.con (.int 3))) (.cons (.mth .join (.con (.str " or ")) (.cons (.ix (.var 0) (.con (.int 4))) .nil)) .nil))))) (.some (.cmp .NotEq (.var 0) (.con (.str ""))))) .nil)))
 .nil))))
  .nil)
 (.cons (.ifs (.cmp .Eq (.ix (.var 0) (.con (.int 0))) (.con (.str "join")))
  (.cons (.ret (.bin .Add (.bin .Add (.bin .Add (.bin .Add (.call 0 (.cons (.ix (.var 0) (.con (.int 1))) .nil)) (.con (.str " "))) (.ix (.var 0) (.con (.int 2)))) (.con (.str " "))) (.call 0 (.cons (.ix (.var 0) (.con (.int 3))) .nil))))
 .nil)
  .nil)
 (.cons (.ifs (.cmp .Eq (.ix (.var 0) (.con (.int 0))) (.con (.str "size")))
  (.cons (.ret (.bin .Add (.bin .Add (.bin .Add (.bin .Add (.call 0 (.cons (.ix (.var 0) (.con (.int 1))) .nil)) (.con (.str " "))) (.ix (.var 0) (.con (.int 2)))) (.con (.str " "))) (.call 1 (.cons (.ix (.var 0) (.con (.int 3))) (.cons (.ix (.var 0) (.con (.int 4))) .nil)))))
 .nil)
  .nil)
 (.cons (.ifs (.cmp .Eq (.ix (.var 0) (.con (.int 0))) (.con (.str "is")))
  (.cons (.ret (.bin .Add (.bin .Add (.call 0 (.cons (.ix (.var 0) (.con (.int 1))) .nil)) (.con (.str " is a "))) (.mth .join (.con (.str " or ")) (.cons (.ix (.var 0) (.con (.int 2))) .nil))))
 .nil)
  .nil)
 (.cons (.ret (.bin .Add (.bin .Add (.bin .Add (.con (.str "then ")) (.ix (.var 0) (.con (.int 1)))) (.con (.str " "))) (.call 0 (.cons (.ix (.var 0) (.con (.int 2))) .nil))))
 .nil)))))
abbrev Eu:List Str:=["_law_claims_here","_law_lines_here","_law_takes_here","_law_rows"]
noncomputable def sQ:b6:=
 (.cons (.expr (.mth .append (.var 1) (.cons (.mth .join (.con (.str " or ")) (.cons (.comp ["_law_k"] [2] (.bin .Add (.bin .Mult (.con (.str "claim on ")) (.blt .int (.cons (.cmp .Eq (.var 0) (.con (.int 0))) .nil))) (.blt .str (.cons (.ix (.var 1) (.var 0)) .nil))) (.name 0) (.range (.cons (.blt .len (.cons (.var 2) .nil)) .nil)) .none) .nil)) .nil)))
 (.cons (.ifs (.cmp .Eq (.var 2) (.lst .nil))
  (.cons (.asg (.sub (.var 1) (.neg (.con (.int 1)))) (.con (.str "claim")))
 .nil)
  .nil)
 (.cons (.asg (.name 1) (.bin .Add (.var 1) (.comp ["_law_row_here"] [] (.call 0 (.cons (.var 0) .nil)) (.name 0) (.seq (.var 3)) .none)))
 .nil)))
noncomputable def ya:b6:=
 (.cons (.asg (.name 1) (.lst .nil))
 (.cons (.forr (.tup (.cons (.name 2) (.cons (.name 3) .nil))) (.seq (.var 0)) sQ)
 (.cons (.ret (.var 1))
 .nil)))
abbrev TQ:List Str:=["_law_script","_law_claims_here","_law_found"]
noncomputable def Lf:b6:=
 (.cons (.asg (.name 1) (.call 2 (.cons (.var 0) .nil)))
 (.cons (.asg (.name 2) (.call 4 (.cons (.var 1) .nil)))
 (.cons (.ifs (.or (.not (.isi (.var 2) .str)) (.cmp .NotEq (.var 2) (.mth .join (.con (.str "\n")) (.cons (.call 3 (.cons (.var 1) .nil)) .nil))))
  (.cons (.ret (.con (.bl false)))
 .nil)
  .nil)
 (.cons (.ifs (.not (.call 0 (.cons (.var 1) (.cons (.call 2 (.cons (.var 0) .nil)) .nil))))
  (.cons (.ret (.con (.bl false)))
 .nil)
  .nil)
 (.cons (.ret (.call 0 (.cons (.call 1 (.cons (.var 2) .nil)) (.cons (.var 1) .nil))))
 .nil)))))
noncomputable def xCs:List Addr:=[44,63,82]
noncomputable def TR:List Str:=["row","claim","word"]
noncomputable def cW:List D:=[(.str "a"),(.str "an"),(.str "the"),(.str "said"),(.str "claim"),(.str "on"),(.str "or"),(.str "then"),(.str "from"),(.str "to"),(.str "of"),(.str "at"),(.str "least"),(.str "most"),(.str "just"),(.str "is")]
noncomputable def Ew:List D:=[(.str "a"),(.str "an")]
noncomputable def vS:List D:=[(.str "the"),(.str "said")]
noncomputable def iB(r:List D->R D):List PG:=[.fn r []]
noncomputable def iz:Nat->List D->R D
|0=>fun _=>.bad
|k+1=>cK (iB (iz k)) 1000 xY 2 jf
noncomputable def yb:List D->R D:=iz 9
noncomputable def BQ:List PG:=[]
noncomputable def rH:List D->R D:=cK BQ 1000 BI 1 vO
noncomputable def Ey:List PG:=[.fn rH []]
noncomputable def tM:List D->R D:=cK Ey 1000 Eo 1 xR
noncomputable def yc:List PG:=[]
noncomputable def kY:List D->R D:=cK yc 1000 xQ 3 sN
noncomputable def yd:List PG:=[.fn kY [],.val (.int 30)]
noncomputable def nX:List D->R D:=cK yd 1000 xP 1 sM
noncomputable def ux:List PG:=[.fn nX []]
noncomputable def c9:List D->R D:=cK ux 1000 zS 1 p6
noncomputable def G0:List PG:=[]
noncomputable def fS:List D->R D:=cK G0 1000 xS 1 xT
noncomputable def gi:List PG:=[.fn c9 [],.fn fS []]
noncomputable def gZ:List D->R D:=cK gi 1000 tL 1 nW
noncomputable def rJ:List PG:=[.cls 63 [("row",1)] 2,.cls 44 [("row",1)] 2,.fn gZ []]
noncomputable def nY:List D->R D:=cK rJ 1000 BJ 3 vP
noncomputable def ia:List PG:=[.fn c9 []]
noncomputable def cg:List D->R D:=cK ia 1000 wy 1 jb
noncomputable def zY:List PG:=[.fn cg []]
noncomputable def jo:List D->R D:=cK zY 1000 zV 3 uv
noncomputable def Ez:List PG:=[.val (.cst cW),.fn kY [],.val (.int 8)]
noncomputable def kZ:List D->R D:=cK Ez 1000 En 1 xO
noncomputable def zZ:List PG:=[.fn kZ []]
noncomputable def jq:List D->R D:=cK zZ 1000 zW 1 uw
noncomputable def vU:List PG:=[.fn jq []]
noncomputable def eY:List D->R D:=cK vU 1000 BL 1 rF
noncomputable def z0:List PG:=[.fn eY []]
noncomputable def jr:List D->R D:=cK z0 1000 zU 3 uu
noncomputable def ye:List PG:=[.fn jq [],.val (.int 3),.fn fS []]
noncomputable def gj:List D->R D:=cK ye 1000 xV 1 sO
noncomputable def EA:List PG:=[.val (.cst Ew),.fn gj [],.fn eY []]
noncomputable def nB:List D->R D:=cK EA 1000 Ep 2 xW
noncomputable def mq:List PG:=[.fn kZ []]
noncomputable def eG:List D->R D:=cK mq 1000 mj 1 jm
noncomputable def qM:List PG:=[.fn jo [],.val (.cst vS),.fn jr [],.fn eY [],.fn nB [],.fn eG []]
noncomputable def di:List D->R D:=cK qM 1000 wx 1 mR
noncomputable def z6:List PG:=[.fn eY [],.val (.cst vS),.fn kZ []]
noncomputable def ko:List D->R D:=cK z6 1000 zT 1 uq
noncomputable def nZ:List PG:=[.fn kZ [],.fn gj [],.val (.int 5),.fn c9 []]
noncomputable def dw:List D->R D:=cK nZ 1000 xU 2 kW
noncomputable def lM:List PG:=[.val (.cst vS),.fn di [],.fn ko [],.fn dw [],.val (.cst Ew)]
noncomputable def dZ:List D->R D:=cK lM 1000 BK 1 jZ
noncomputable def G1:List PG:=[.val (.int 12),.cls 82 [("claim",1),("row",2)] 3,.cls 44 [("row",1)] 2,.fn dZ []]
noncomputable def vV:List D->R D:=cK G1 1000 GS 3 AO
noncomputable def jc:List PG:=[.fn tM [],.val (.int 12),.cls 82 [("claim",1),("row",2)] 3,.fn nY [],.cls 44 [("row",1)] 2,.fn vV []]
noncomputable def jd:List D->R D:=cK jc 1000 wu 1 qK
noncomputable def nC:List PG:=[]
noncomputable def tN:List D->R D:=cK nC 1000 Et 2 xZ
noncomputable def G2:List PG:=[]
noncomputable def jt:List D->R D:=cK G2 1000 GX 2 AR
noncomputable def C_:List PG:=[.fn jt []]
noncomputable def pe:List D->R D:=cK C_ 1000 JK 2 zf
noncomputable def G3:List PG:=[.fn jt []]
noncomputable def vW:List D->R D:=cK G3 1000 GY 2 AS
noncomputable def vX:List PG:=[]
noncomputable def n6:List D->R D:=cK vX 1000 BO 2 rG
noncomputable def EB:List PG:=[]
noncomputable def qq:List D->R D:=cK EB 1000 Es 2 xX
noncomputable def rY:List PG:=[.fn pe [],.fn jt [],.fn vW [],.fn n6 [],.fn qq []]
noncomputable def nD:List D->R D:=cK rY 1000 JL 3 o_
noncomputable def G4:List PG:=[]
noncomputable def vY:List D->R D:=cK G4 1000 GW 2 AQ
noncomputable def gk:List PG:=[.fn tN [],.fn nD [],.fn qq [],.fn vY []]
noncomputable def rK:List D->R D:=cK gk 1000 BP 1 vR
noncomputable def yf:List PG:=[]
noncomputable def fU:List D->R D:=cK yf 1000 x_ 1 sP
noncomputable def mS:List PG:=[]
noncomputable def fW:List D->R D:=cK mS 1000 wz 2 j_
noncomputable def j0:List PG:=[.fn fU [],.fn fW []]
noncomputable def dR:List D->R D:=cK j0 1000 GZ 1 nj
noncomputable def jg:List PG:=[.fn dR []]
noncomputable def tO:List D->R D:=cK jg 1000 Eu 1 ya
noncomputable def AU:List PG:=[]
noncomputable def ph:List D->R D:=cK AU 1000 GV 1 vQ
noncomputable def mw:List PG:=[]
noncomputable def gg:List D->R D:=cK mw 1000 zX 2 kj
noncomputable def tP:List PG:=[]
noncomputable def nE:List D->R D:=cK tP 1000 Er 2 qp
noncomputable def pq:List PG:=[.fn ph [],.fn gg [],.fn nE []]
noncomputable def dS:List D->R D:=cK pq 1000 GU 1 ni
noncomputable def pB:List PG:=[]
noncomputable def f6:List D->R D:=cK pB 1000 uT 1 lJ
noncomputable def lN:List PG:=[.fn dS [],.fn f6 []]
noncomputable def lO:List D->R D:=cK lN 1000 uS 1 o9
noncomputable def TU:List PG:=[.fn yb [],.fn jd [],.fn rK [],.fn tO [],.fn lO []]
noncomputable def Lg:List D->R D:=cK TU 1000 TQ 1 Lf
noncomputable def BN:List Str:=["abs","all","any","bool","enumerate","int","isinstance","len","list","range","set","str","tuple","zip"]
def EC:FD:=⟨"_law_alike",top 49,xY,2,["_law_alike"]⟩
theorem Ot:EC.dW BN jf=true:=by decide +kernel
def BR:FD:=⟨"words_in",top 14,BI,1,[]⟩
theorem Lh:BR.dW BN vO=true:=by decide +kernel
def ED:FD:=⟨"rows_in",top 13,Eo,1,["words_in"]⟩
theorem Ou:ED.dW BN xR=true:=by decide +kernel
def yg:FD:=⟨"all_within",top 12,xQ,3,[]⟩
theorem G5:yg.dW BN sN=true:=by decide +kernel
def yh:FD:=⟨"is_figures",top 11,xP,1,["all_within","MOST_FIGURES"]⟩
theorem G6:yh.dW BN sM=true:=by decide +kernel
def z9:FD:=⟨"number_in",top 10,zS,1,["is_figures"]⟩
theorem IC:z9.dW BN p6=true:=by decide +kernel
def yi:FD:=⟨"choices_in",top 26,xS,1,[]⟩
theorem G7:yi.dW BN xT=true:=by decide +kernel
def tQ:FD:=⟨"taken_numbers",top 25,tL,1,["number_in","choices_in"]⟩
theorem BS:tQ.dW BN nW=true:=by decide +kernel
def BU:FD:=⟨"takes_in",top 23,BJ,3,["NoClaim","BadRow","taken_numbers"]⟩
theorem Li:BU.dW BN vP=true:=by decide +kernel
def wA:FD:=⟨"bounds_told",top 37,wy,1,["number_in"]⟩
theorem EY:wA.dW BN jb=true:=by decide +kernel
def z_:FD:=⟨"size_told",top 36,zV,3,["bounds_told"]⟩
theorem ID:z_.dW BN uv=true:=by decide +kernel
def EE:FD:=⟨"is_word",top 9,En,1,["KEPT_WORDS","all_within","MOST_LETTERS"]⟩
theorem Ov:EE.dW BN xO=true:=by decide +kernel
def Aa:FD:=⟨"all_words",top 38,zW,1,["is_word"]⟩
theorem IE:Aa.dW BN uw=true:=by decide +kernel
def BV:FD:=⟨"ref_told",top 31,BL,1,["all_words"]⟩
theorem Lj:BV.dW BN rF=true:=by decide +kernel
def Ab:FD:=⟨"join_told",top 35,zU,3,["ref_told"]⟩
theorem IF:Ab.dW BN uu=true:=by decide +kernel
def yj:FD:=⟨"kinds_told",top 29,xV,1,["all_words","MOST_KINDS","choices_in"]⟩
theorem G8:yj.dW BN sO=true:=by decide +kernel
def EF:FD:=⟨"is_told",top 34,Ep,2,["A","kinds_told","ref_told"]⟩
theorem Ow:EF.dW BN xW=true:=by decide +kernel
def mz:FD:=⟨"count_of_words_ahead",top 33,mj,1,["is_word"]⟩
theorem uy:mz.dW BN jm=true:=by decide +kernel
def wF:FD:=⟨"told_of_ref",top 32,wx,1,["size_told","THE","join_told","ref_told","is_told","count_of_words_ahead"]⟩
theorem EZ:wF.dW BN mR=true:=by decide +kernel
def Ac:FD:=⟨"step_told",top 30,zT,1,["ref_told","THE","is_word"]⟩
theorem IG:Ac.dW BN uq=true:=by decide +kernel
def yk:FD:=⟨"parts_told",top 28,xU,2,["is_word","kinds_told","MOST_PARTS","number_in"]⟩
theorem G9:yk.dW BN kW=true:=by decide +kernel
def BW:FD:=⟨"row_told",top 27,BK,1,["THE","told_of_ref","step_told","parts_told","A"]⟩
theorem Lk:BW.dW BN jZ=true:=by decide +kernel
def G_:FD:=⟨"row_in",top 24,GS,3,["MOST_ROWS","TooBig","BadRow","row_told"]⟩
theorem Sf:G_.dW BN AO=true:=by decide +kernel
def wH:FD:=⟨"read_claims",top 22,wu,1,["rows_in","MOST_CLAIMS","TooBig","takes_in","BadRow","row_in"]⟩
theorem E1:wH.dW BN qK=true:=by decide +kernel
def EG:FD:=⟨"_law_takes",top 54,Et,2,[]⟩
theorem Ox:EG.dW BN xZ=true:=by decide +kernel
def Hf:FD:=⟨"_law_word",top 48,GX,2,[]⟩
theorem Sg:Hf.dW BN AR=true:=by decide +kernel
def JM:FD:=⟨"_law_ref",top 50,JK,2,["_law_word"]⟩
theorem Vq:JM.dW BN zf=true:=by decide +kernel
def Hg:FD:=⟨"_law_some",top 51,GY,2,["_law_word"]⟩
theorem Sh:Hg.dW BN AS=true:=by decide +kernel
def BX:FD:=⟨"_law_bounds",top 52,BO,2,[]⟩
theorem Ll:BX.dW BN rG=true:=by decide +kernel
def EH:FD:=⟨"_law_mixed",top 47,Es,2,[]⟩
theorem Oz:EH.dW BN xX=true:=by decide +kernel
def JN:FD:=⟨"_law_row",top 53,JL,3,["_law_ref","_law_word","_law_some","_law_bounds","_law_mixed"]⟩
theorem Vr:JN.dW BN o_=true:=by decide +kernel
def Hh:FD:=⟨"_law_cell",top 46,GW,2,[]⟩
theorem Si:Hh.dW BN AQ=true:=by decide +kernel
def BY:FD:=⟨"_law_claims",top 55,BP,1,["_law_takes","_law_row","_law_mixed","_law_cell"]⟩
theorem Lm:BY.dW BN vR=true:=by decide +kernel
def yl:FD:=⟨"_law_ref_text",top 56,x_,1,[]⟩
theorem Hi:yl.dW BN sP=true:=by decide +kernel
def wJ:FD:=⟨"_law_size_text",top 57,wz,2,[]⟩
theorem E2:wJ.dW BN j_=true:=by decide +kernel
def Hj:FD:=⟨"_law_text",top 58,GZ,1,["_law_ref_text","_law_size_text"]⟩
theorem Sj:Hj.dW BN nj=true:=by decide +kernel
def EI:FD:=⟨"_law_lines",top 59,Eu,1,["_law_text"]⟩
theorem OA:EI.dW BN ya=true:=by decide +kernel
def Hl:FD:=⟨"ref_of",top 43,GV,1,[]⟩
theorem Sk:Hl.dW BN vQ=true:=by decide +kernel
def Ad:FD:=⟨"bounds_of",top 44,zX,2,[]⟩
theorem II:Ad.dW BN kj=true:=by decide +kernel
def EJ:FD:=⟨"many_of",top 42,Er,2,[]⟩
theorem OB:EJ.dW BN qp=true:=by decide +kernel
def Ho:FD:=⟨"row_of",top 41,GU,1,["ref_of","bounds_of","many_of"]⟩
theorem Sl:Ho.dW BN ni=true:=by decide +kernel
def uU:FD:=⟨"first_row_of",top 40,uT,1,[]⟩
theorem Dc:uU.dW BN lJ=true:=by decide +kernel
def uV:FD:=⟨"write_claims",top 39,uS,1,["row_of","first_row_of"]⟩
theorem Dd:uV.dW BN o9=true:=by decide +kernel
def tR:FD:=⟨"law",top 60,TQ,1,["_law_alike","read_claims","_law_claims","_law_lines","write_claims"]⟩
theorem Zc:tR.dW BN Lf=true:=by decide +kernel
def De(s:Stmt):List Stmt:=match s with
|.ClassDef _ _ _ b _ _ _ _ _ _ _=>b
|_=>[]
def Sm:CD:=⟨"BadRow",44,(De (top 2)).getD 0 (.Pass ⟨0,0,0,0⟩),["self","row"],[("row",1)]⟩
theorem Sn:Sm.dW TR=true:=by decide +kernel
def OC:CD:=⟨"NoClaim",63,(De (top 3)).getD 0 (.Pass ⟨0,0,0,0⟩),["self","row"],[("row",1)]⟩
theorem OD:OC.dW TR=true:=by decide +kernel
def So:CD:=⟨"TooBig",82,(De (top 4)).getD 0 (.Pass ⟨0,0,0,0⟩),["self","claim","row"],[("claim",1),("row",2)]⟩
theorem Sq:So.dW TR=true:=by decide +kernel
end Tr
end
section
namespace K2
open PySem L2 L3
noncomputable def wordsOf(l:List Nat):List (List Nat):=(c_ 32 l).filter fun w=>!w.isEmpty
theorem ym(w l:List Nat)(hw:w≠[])(h:32∉w):wordsOf (w++32::l)=w::wordsOf l:=by
 unfold wordsOf;rw[vA 32 w l h,tD];cases w with
 |nil=>exact absurd rfl hw
 |cons a b=>rfl
noncomputable def rep(n:Int)(c:Nat):List Nat:=aT n.toNat c
theorem cy(a:Int){b:Int}(h:0<b):0<=a%b/\a%b<b:=⟨Int.emod_nonneg _ (by omega),Int.emod_lt_of_pos _ h⟩
noncomputable def p7:List (List Nat):=[[97],[97,110],[116,104,101],[115,97,105,100],[99,108,97,105,109],[111,110],[111,114],[116,104,101,110],[102,114,111,109],[116,111],[111,102],[97,116],[108,101,97,115,116],[109,111,115,116],[106,117,115,116],[105,115]]
end K2
end
section
namespace K2
open PySem L2 L3 Tr
theorem gv(l:List Int):aD (l.map D.int)=l.map D.int:=kQ _ (fun _=>rfl) l
theorem rZ:∀l:List Int,cR (l.map D.int)=true
|[]=>rfl
|_::r=>rZ r
variable{α:Type}
theorem pD(l:List α)(k:Nat):cut l none (some (k:Int))=l.take k:=by
 unfold cut;rw[HT.uH,HT.Ao,lT,Nat.sub_zero];by_cases h:k<=l.length
 ·rw[ua h]
 ·rw[Nat.min_eq_right (by omega),dM (aN _),dM (by omega)]
theorem fj(l:List α)(k:Nat)(h:k<=l.length):cut l (some (k:Int)) none=l.drop k:=by
 unfold cut;rw[HT.uH,HT.Ao,ua h,dM (by rw[d_];omega)]
theorem lP(a b:List Nat):strOf a++strOf b=strOf (a++b):=by
 have h:∀x y:Str,x.cps=y.cps->x=y:=fun x y e=>by cases x;cases y;cases e;rfl
 refine h _ _ ?_;show a.toArray++b.toArray=(a++b).toArray;simp
theorem Vs(n:Nat)(c:Nat):(⟨(aT n [c]).flatten.toArray⟩:Str)=strOf (aT n c):=by
 have e:(aT n [c]).flatten=aT n c:=by
  induction n with
  |zero=>rfl
  |succ n ih=>rw[bX,cQ,ih];rfl
 rw[e];rfl
theorem gz(l:List Nat):(strOf l).length=l.length:=by
 rw[<-len_str];rfl
theorem JO(c:Nat)(j:Int)(h:0<=j/\j<100):dF .Mult (.str ⟨#[c]⟩) (.int j)=.ok (.str (strOf (rep j c))):=by
 have hs:=szl;have e:(⟨#[c]⟩:Str).length=1:=rfl;rw[GN ⟨h.1,by omega,by rw[e];omega⟩];show R.ok (D.str ⟨(aT j.toNat [c]).flatten.toArray⟩)=_;rw[Vs];rfl
theorem Df(j:Int)(c:Nat):(rep j c).length=j.toNat:=by unfold rep;rw[u_]
theorem iM(a b:List Nat)(h:a.length+b.length<=16777216):dF .Add (.str (strOf a)) (.str (strOf b))=.ok (.str (strOf (a++b))):=by
 have hs:=szl;rw[GL (by rw[gz,gz,hs];exact h),lP]
theorem gc(x:α)(r:List α):fC (x::r) 0=some x:=ki (j:=0) rfl
theorem jz(x y:α)(r:List α):fC (x::y::r) 1=some y:=ki (j:=1) rfl
theorem at2(x y z:α)(r:List α):fC (x::y::z::r) 2=some z:=ki (j:=2) rfl
theorem BZ(x y z u:α)(r:List α):fC (x::y::z::u::r) 3=some u:=ki (j:=3) rfl
theorem Hq(x y z u v:α)(r:List α):fC (x::y::z::u::v::r) 4=some v:=ki (j:=4) rfl
noncomputable def wD(w:List Nat):D:=.str (strOf w)
noncomputable def bW(r:List (List Nat)):D:=.lst false (r.map wD)
theorem cH(r:List (List Nat)):aD (r.map wD)=r.map wD:=kQ wD (fun _=>rfl) r
theorem B0(r:List (List Nat)):bh (bW r)=bW r:=by
 show D.lst false (aD (r.map wD))=_;rw[cH];rfl
theorem sp1:ao " "=⟨#[32]⟩:=by decide +kernel
theorem str_beq(x y:Str):(x==y)=decide (x=y):=by
 rw[g_];simp
theorem yo{a b:List Nat}(h:strOf a=strOf b):a=b:=by
 have:=congrArg (fun z:Str=>z.cps.toList) h;simpa[strOf]using this
theorem k8(a b:List Nat):(strOf a==strOf b)=decide (a=b):=by
 rw[str_beq];by_cases h:a=b
 ·subst h;simp
 ·rw[decide_eq_false h,decide_eq_false fun z=>h (yo z)]
noncomputable def n9(a b:Nat)(x:Str):Bool:=x.cps.toList.all fun c=>decide (a<=c)&&decide (c<=b)
theorem yp(x:Str)(a b:Nat):kY [.str x,.str ⟨#[a]⟩,.str ⟨#[b]⟩]=.ok (.bl (n9 a b x)):=by
 unfold kY sN yc;simp_arith [];unfold uN;rw[gR (fun c:Nat=>D.str ⟨#[c]⟩) (fun O=>∃o,O=[o,some (D.str ⟨#[a]⟩),some (D.str ⟨#[b]⟩)]) (fun c=>D.bl (decide (a<=c)&&decide (c<=b))) x.cps.toList _ ⟨none,rfl⟩ (by
  rintro c _ O ⟨o,rfl⟩;refine⟨_,rfl,⟨_,rfl⟩,?_⟩;simp_arith [];rw[ZE,ZE];by_cases h1:c<a
  ·rw[decide_eq_true h1,decide_eq_false (show ¬a<=c by omega)];rfl
  ·rw[decide_eq_false h1,decide_eq_true (show a<=c by omega)];have e2:(!decide (b<c))=decide (c<=b):=by rw[g_];simp
   rw[e2];rfl)]
 simp_arith [];have e1:(x.cps.toList.map (fun c=>D.bl (decide (a<=c)&&decide (c<=b)))).all mL=true:=by rw[iT];simp[mL]
 have e2:(x.cps.toList.map (fun c=>D.bl (decide (a<=c)&&decide (c<=b)))).all nP=n9 a b x:=by
  rw[iT];unfold n9;congr 1;funext c;show nP (D.bl (decide (a<=c)&&decide (c<=b)))=_;cases(decide (a<=c)&&decide (c<=b))<;>rfl
 rw[e1,e2];simp_arith []
noncomputable def isWord(x:Str):Bool:=decide (1<=x.length)&&decide (x.length<=8)&&n9 97 122 x&&!memD (.str x) cW
theorem qt(x:Str):kZ [.str x]=.ok (.bl (isWord x)):=by
 unfold kZ xO Ez;simp_arith [];have ea:(ao "a")=⟨#[97]⟩:=by decide +kernel
 have ez:(ao "z")=⟨#[122]⟩:=by decide +kernel
 rw[ea,ez];unfold isWord;by_cases h1:1<=x.length
 ·by_cases h2:x.length<=8
  ·rw[decide_eq_true (show(1:Int)<=(x.length:Int)by omega),decide_eq_true (show(x.length:Int)<=8 by omega),decide_eq_true h1,decide_eq_true h2];simp_arith [];rw[yp];simp_arith [];have hk:jH cW=true:=by decide +kernel
   have hz:aD cW=cW:=by rfl
   cases n9 97 122 x with
   |false=>simp_arith []
   |true=>
    have e:bS .NotIn (.str x) (bh (D.cst cW))=.ok (.bl (!memD (.str x) cW)):=by
     have e0:bh (D.cst cW)=D.cst cW:=by
      show D.cst (aD cW)=_;rw[hz]
     rw[e0];show(R.bg (dm (.str x)&&jH cW) (.ok (memD (.str x) cW))).bind (fun b=>R.ok (D.bl (!b)))=_;rw[hk];rfl
    rw[e];simp_arith []
  ·rw[decide_eq_true (show(1:Int)<=(x.length:Int)by omega),decide_eq_false (show ¬(x.length:Int)<=8 by omega),decide_eq_true h1,decide_eq_false h2];simp_arith []
 ·rw[decide_eq_false (show ¬(1:Int)<=(x.length:Int)by omega),decide_eq_false h1];simp_arith []
theorem Hr(f:α->Str)(x:Str)(l:List α):memD (.str x) (l.map fun a=>D.str (f a))=l.any fun a=>f a==x:=by
 unfold memD;rw[yP];rfl
theorem JP:cW=p7.map fun w=>D.str (strOf w):=by
 have e1:cW=(["a","an","the","said","claim","on","or","then","from","to","of","at","least","most","just","is"]:List Str).map D.str:=rfl;have e2:(["a","an","the","said","claim","on","or","then","from","to","of","at","least","most","just","is"]:List Str)=p7.map strOf:=by decide +kernel
 rw[e1,e2,bJ];rfl
noncomputable def wl(x:Str):List (List Nat):=wordsOf x.cps.toList
theorem OE(x:Str):(c_ 32 x.cps.toList).filter (fun p=>!(strOf p==ao ""))=wl x:=by
 unfold wl wordsOf;congr 1;funext p;have e:ao ""=strOf []:=by decide +kernel
 cases p with
 |nil=>rw[e];simp
 |cons a b=>
  rw[e,str_beq,decide_eq_false (fun h=>by cases yo h)];rfl
theorem g32:(#[32]:Array Nat).getD 0 0=32:=rfl
theorem g10:(#[10]:Array Nat).getD 0 0=10:=rfl
theorem Hs(c:Nat)(l:List Nat):aD (sG c l)=(c_ c l).map wD:=xJ _
theorem Ln(x:Str)(hx:x.length+2<=aa):rH [.str x]=.ok (.lst true ((wl x).map wD)):=by
 have sp1l:(⟨#[32]⟩:Str).length=1:=rfl;unfold rH vO BQ;simp_arith [sp1,g32,Hs];rw[kT wD (fun O=>∃o,O=[o]) (fun p=>!(strOf p==ao "")) wD (c_ 32 x.cps.toList) _ ⟨none,rfl⟩ (by
  rintro p _ O ⟨o,rfl⟩;refine⟨[some (wD p)],rfl,⟨_,rfl⟩,?_,?_⟩
  ·unfold wD;simp_arith []
  ·unfold wD;simp_arith []),OE]
 simp_arith []
noncomputable def Dg(r:List (List Nat)):D:=.lst true (r.map wD)
noncomputable def pF(x:Str):List (List (List Nat)):=(c_ 10 x.cps.toList).map wordsOf
theorem OF(x:Str)(hx:x.length+2<=aa):tM [.str x]=.ok (.lst true ((pF x).map Dg)):=by
 have nll:(⟨#[10]⟩:Str).length=1:=rfl;have nl:ao "\n"=⟨#[10]⟩:=by decide +kernel
 unfold tM xR Ey;simp_arith [nl,g10,Hs];rw[gR wD (fun O=>∃o,O=[o]) (fun p=>Dg (wordsOf p)) (c_ 10 x.cps.toList) _ ⟨none,rfl⟩ (by
  rintro p hp O ⟨o,rfl⟩;have hpl:=(rE 10 x.cps.toList).1 p hp;have q:=Ln (strOf p) (by rw[gz];have:x.length=x.cps.toList.length:=(len_str x).symm;omega);refine⟨[some (wD p)],rfl,⟨_,rfl⟩,?_⟩;unfold wD;simp_arith [q];rfl)]
 simp_arith [];unfold pF;rw[bJ];rfl
end K2
end
section
namespace K2
open PySem L2 L3 Tr
open PySem.NumText
noncomputable def gm:Nat->Nat->List Nat
|0,m=>[48+m%10]
|k+1,m=>if m<10 then[48+m]else gm k (m / 10)++[48+m%10]
theorem Ss(l:List Nat)(c:Nat):digitsVal (l++[c])=digitsVal l*10+(c-48):=by
 unfold digitsVal;rw[zy];rfl
theorem zg:∀(k m:Nat),m<10 ^ (k+1)->AllDigits (gm k m)/\gm k m≠[]/\(gm k m).length<=k+1/\digitsVal (gm k m)=m/\(m≠0->∀r,gm k m≠48::r)/\(m=0->gm k m=[48])
|0,m,h=>by
 have h:m<10:=by simpa using h
 show AllDigits [48+m%10]/\_;rw[tu h];refine⟨fun c hc=>by rw[a8.mp hc];omega,by simp[gm],by simp[gm],?_,?_,?_⟩
 ·show digitsVal [48+m%10]=m;rw[tu h];show 0*10+(48+m-48)=m;omega
 ·intro hm r e;have e:[48+m%10]=48::r:=e;rw[tu h]at e;have:=(kh e).1;omega
 ·rintro rfl;rfl
|k+1,m,h=>by
 unfold gm;by_cases c:m<10
 ·rw[if_pos c];refine⟨fun c hc=>by rw[a8.mp hc];omega,by simp,by simp,?_,?_,?_⟩
  ·show 0*10+(48+m-48)=m;omega
  ·intro hm r e;have:=(kh e).1;omega
  ·rintro rfl;rfl
 ·rw[if_neg c];obtain⟨h1,h2,h3,h4,h5,_⟩:=zg k (m / 10) (by
   have e:10 ^ (k+1+1)=10*10 ^ (k+1):=by rw[Nat.pow_succ,Ig]
   rw[e]at h;exact Nat.div_lt_of_lt_mul h)
  refine⟨fun c hc=>?_,by simp,by simp;omega,?_,?_,fun z=>by omega⟩
  ·rcases a_.mp hc with hc|hc
   ·exact h1 c hc
   ·rw[a8.mp hc];omega
  ·rw[Ss,h4];omega
  ·intro _ r e;cases q:gm k (m / 10)with
   |nil=>exact h2 q
   |cons a b=>
    rw[q]at e;have:=(kh e).1;subst this;exact h5 (by omega) b q
variable{c:Nat}
theorem Lo(h:48<=c/\c<=57):(CC c).toNat=c:=by
 obtain⟨h1,h2⟩:=h;have:∀k:Nat,k<10->(CC (48+k)).toNat=48+k:=by decide
 have q:=this (c-48) (by omega);rw[show 48+(c-48)=c by omega]at q;exact q
theorem Ae:∀{l:List Nat},AllDigits l->(l.map CC).map wj=l
|[],_=>rfl
|c::r,h=>by
 rw[cj,cj,Lo h.head,Ae h.tail]
theorem TV(m:Nat)(h:m<10 ^ 30):(yR 10 m).map wj=gm 29 m:=by
 obtain⟨h1,h2,h3,h4,h5,h6⟩:=zg 29 m h;have e:=toDigits_all (gm 29 m) h1;rw[h4]at e;rw[e];by_cases hm:m=0
 ·rw[h6 hm];decide
 ·cases q:gm 29 m with
  |nil=>exact absurd q h2
  |cons c r=>
   have hc:c≠48:=fun z=>h5 hm r (by rw[q,z]);rw[List.dropWhile_cons,if_neg (by simpa using hc)];have z:=Ae h1;rw[q]at z;exact z
theorem Ht(m:Nat)(h:m<10 ^ 30):kL (m:Int)=strOf (gm 29 m):=by
 have e:kL (m:Int)=⟨((yR 10 m).map wj).toArray⟩:=Io m;rw[e,TV m h];rfl
theorem Hu(m:Nat)(h0:0<m)(h:m<10 ^ 30):kL (-(m:Int))=strOf (45::gm 29 m):=by
 obtain⟨k,rfl⟩:∃k,m=k+1:=⟨m-1,by omega⟩;have e4:=TV (k+1) h;have e1:(-((k+1:Nat):Int))=Am k:=rfl;have e3:∀s:String,(ao s).cps=(s.toList.map wj).toArray:=fun s=>by
  rw[Str.ofString_eq_toList]
 have e5:(Ik (k+1)).toList=yR 10 (k+1):=by
  unfold Ik;simp
 rw[e1];have e2:toString (Am k)="-"++Ik (k+1):=rfl;have:(ao (toString (Am k))).cps=(strOf (45::gm 29 (k+1))).cps:=by
  rw[e2,e3,String.toList_append,cz,e5,e4];rfl
 exact Str.ext' this
noncomputable def uW(x:Str):Bool:=decide (1<=x.length)&&decide (x.length<=30)&&n9 48 57 x&&(x==ao "0"||!([48].isPrefixOf x.cps.toList))
theorem n_(x:Str):nX [.str x]=.ok (.bl (uW x)):=by
 have e0:(ao "0")=⟨#[48]⟩:=by decide +kernel
 have e9:(ao "9")=⟨#[57]⟩:=by decide +kernel
 have q:=yp x 48 57;unfold uW;unfold nX sM yd;by_cases h1:1<=x.length
 ·by_cases h2:x.length<=30
  ·have g1:=decide_eq_true (show(1:Int)<=(x.length:Int)by omega);have g2:=decide_eq_true (show(x.length:Int)<=30 by omega);rw[decide_eq_true h1,decide_eq_true h2];simp_arith [g1,g2,e0,e9,q];cases n9 48 57 x with
   |false=>simp_arith []
   |true=>
    cases hc:(x==(⟨#[48]⟩:Str))with
    |false=>simp_arith [hc]
    |true=>simp_arith [hc]
  ·have g1:=decide_eq_true (show(1:Int)<=(x.length:Int)by omega);have g2:=decide_eq_false (show ¬(x.length:Int)<=30 by omega);rw[decide_eq_true h1,decide_eq_false h2];simp_arith [g1,g2]
 ·have g1:=decide_eq_false (show ¬(1:Int)<=(x.length:Int)by omega);rw[decide_eq_false h1];simp_arith [g1]
noncomputable def qx(x:Str):Str:=if[45].isPrefixOf x.cps.toList then⟨(cut x.cps.toList (some 1) none).toArray⟩else x
theorem aaT(x:Str)(h:uW (qx x)=false):c9 [.str x]=.ok .non:=by
 have em:(ao "-").cps.toList=[45]:=by decide +kernel
 unfold qx at h;unfold c9 p6 ux;cases c:[45].isPrefixOf x.cps.toList with
 |false=>
  rw[c,if_neg aY]at h;have q:=n_ x;rw[h]at q;simp_arith [em,c,q]
 |true=>
  rw[c,if_pos rfl]at h;have q:=n_ ⟨(cut x.cps.toList (some 1) none).toArray⟩;rw[h]at q;simp_arith [em,c,q]
theorem JQ(x:Str)(n:Int)(h:uW (qx x)=true)(h0:(x==ao "-0")=false)(hl:x.length<=640)(hn:intText? x=some n):c9 [.str x]=.ok (.int n):=by
 have em:(ao "-").cps.toList=[45]:=by decide +kernel
 have hi:jI .int [.str x]=.ok (.int n):=by
  show R.bg (decide (x.length<=640)) ((R.opt (intText? x)).bind fun n=>R.ok (D.int n))=_;rw[decide_eq_true hl,hn];rfl
 unfold qx at h;unfold c9 p6 ux;cases c:[45].isPrefixOf x.cps.toList with
 |false=>
  rw[c,if_neg aY]at h;have q:=n_ x;rw[h]at q;simp_arith [em,c,q,h0,hi]
 |true=>
  rw[c,if_pos rfl]at h;have q:=n_ ⟨(cut x.cps.toList (some 1) none).toArray⟩;rw[h]at q;simp_arith [em,c,q,h0,hi]
variable{l:List Nat}
theorem Su(h:AllDigits l):n9 48 57 (strOf l)=true:=by
 unfold n9;rw[bV];intro c hc;have:=h c hc;simp[this.1,this.2]
theorem OG(h:∀r,l≠c::r):[c].isPrefixOf l=false:=by
 cases l with
 |nil=>rfl
 |cons a r=>
  have:a≠c:=fun z=>h r (by rw[z]);simp[CF,cT this]
theorem JR(m:Nat)(h:m<10 ^ 30):uW (strOf (gm 29 m))=true:=by
 obtain⟨h1,h2,h3,h4,h5,h6⟩:=zg 29 m h;have l1:(strOf (gm 29 m)).length=(gm 29 m).length:=gz _;have l2:1<=(gm 29 m).length:=List.length_pos_iff.mpr h2;unfold uW;rw[l1,decide_eq_true l2,decide_eq_true h3,Su h1];by_cases hm:m=0
 ·rw[h6 hm];have:(strOf [48]==ao "0")=true:=by decide +kernel
  rw[this];rfl
 ·have:[48].isPrefixOf (strOf (gm 29 m)).cps.toList=false:=OG (h5 hm);rw[this];simp
theorem TX{x:Str}(h:x=strOf l)(hl:l≠[45,48]):(x==ao "-0")=false:=by
 have e:ao "-0"=strOf [45,48]:=by decide +kernel
 rw[h,e,str_beq,decide_eq_false fun z=>hl (yo z)]
theorem Zd(n:Int)(h0:-(10 ^ 30)<n)(h1:n<10 ^ 30):c9 [.str (kL n)]=.ok (.int n):=by
 by_cases hn:0<=n
 ·obtain⟨m,rfl⟩:∃m:Nat,n=(m:Int):=⟨n.toNat,by omega⟩;have hm:m<10 ^ 30:=by
   have:((10 ^ 30:Nat):Int)=10 ^ 30:=by decide
   omega
  obtain⟨d1,d2,d3,d4,d5,d6⟩:=zg 29 m hm;have l1:(strOf (gm 29 m)).length=(gm 29 m).length:=gz _;have ef:qx (strOf (gm 29 m))=strOf (gm 29 m):=by
   unfold qx;rw[if_neg];rw[show(strOf (gm 29 m)).cps.toList=gm 29 m from rfl,OG fun r e=>by
    have:=d1 45 (by rw[e];simp);omega]
   decide
  rw[Ht m hm];refine JQ _ _ (by rw[ef];exact JR m hm) (TX rfl fun e=>?_) (by omega) ?_
  ·have:=d1 45 (by rw[e];simp);omega
  ·have q:=intText_digits (x:=strOf (gm 29 m)) d1 d2 (by omega);rw[q];show some ((digitsVal (gm 29 m):Nat):Int)=_;rw[d4]
 ·obtain⟨m,rfl,hp⟩:∃m:Nat,n=-(m:Int)/\0<m:=⟨(-n).toNat,by omega,by omega⟩;have hm:m<10 ^ 30:=by
   have:((10 ^ 30:Nat):Int)=10 ^ 30:=by decide
   omega
  obtain⟨d1,d2,d3,d4,d5,d6⟩:=zg 29 m hm;have l1:(strOf (45::gm 29 m)).length=(gm 29 m).length+1:=gz _;have ef:qx (strOf (45::gm 29 m))=strOf (gm 29 m):=by
   unfold qx;rw[if_pos (by show[45].isPrefixOf (45::gm 29 m)=true;simp[CF])];show strOf (cut (45::gm 29 m) (some ((1:Nat):Int)) none)=_;unfold cut;rw[HT.uH,HT.Ao,ua (by simp),List.drop_succ_cons,lT,dM (by simp)]
  rw[Hu m hp hm];refine JQ _ _ (by rw[ef];exact JR m hm) (TX rfl fun e=>?_) (by omega) ?_
  ·have e2:=(kh e).2;exact d5 (by omega) [] e2
  ·have q:=intText_neg (x:=strOf (45::gm 29 m)) rfl d1 d2 (by omega);rw[q,d4]
end K2
end
section
namespace K2
open PySem L2 L3 Tr
abbrev W(w:List Nat):Prop:=isWord (strOf w)=true
noncomputable def oj:List Nat:=[111,114]
noncomputable def aL:List Nat:=[97]
noncomputable def aP:List Nat:=[116,104,101]
noncomputable def ig:List Nat:=[97,116]
noncomputable def f7:List Nat:=[108,101,97,115,116]
noncomputable def om:List Nat:=[109,111,115,116]
noncomputable def mT:List Nat:=[106,117,115,116]
noncomputable def cJ:List Nat:=[116,104,101,110]
noncomputable def gf:List Nat:=[105,115]
noncomputable def oV:List Nat:=[111,102]
noncomputable def fX:List Nat:=[102,114,111,109]
noncomputable def toL:List Nat:=[116,111]
noncomputable def bz:List Nat:=[99,108,97,105,109]
noncomputable def jT:List Nat:=[111,110]
theorem ZL:ao "or"=strOf oj:=by decide +kernel
theorem qy:ao ""=strOf []:=by decide +kernel
variable{w v:List Nat}
theorem W.nk(h:W w)(hv:v∈p7):(strOf w==strOf v)=false:=by
 rw[k8,decide_eq_false];rintro rfl;unfold W isWord at h;rw[JP,Hr]at h;have:(p7.any fun a=>strOf a==strOf w)=true:=nt.mpr ⟨w,hv,by simp⟩;rw[this]at h;simp at h
theorem W.ne(h:W w):(strOf w==strOf [])=false:=by
 rw[k8,decide_eq_false];rintro rfl;revert h;decide +kernel
theorem uz(ws:List (List Nat))(o:Bool):jq [.lst o (ws.map wD)]=.ok (.bl (ws.all fun w=>isWord (strOf w))):=by
 have fr:=cH ws;unfold jq uw zZ;simp_arith [fr];rw[gR wD (fun O=>∃o,O=[o]) (fun w=>D.bl (isWord (strOf w))) ws _ ⟨none,rfl⟩ (by
  rintro w _ O ⟨o,rfl⟩;refine⟨[some (wD w)],rfl,⟨_,rfl⟩,?_⟩;have q:=qt (strOf w);unfold wD;simp_arith [q])]
 simp_arith [];have e1:(ws.map fun w=>D.bl (isWord (strOf w))).all mL=true:=by rw[iT];simp[mL]
 have e2:(ws.map fun w=>D.bl (isWord (strOf w))).all nP=ws.all fun w=>isWord (strOf w):=by
  rw[iT];congr 1;funext w;show nP (D.bl (isWord (strOf w)))=_;cases isWord (strOf w)<;>rfl
 rw[e1,e2];simp_arith []
noncomputable def aE(l k:List Nat):List (List Nat):=if l=[]then[k]else[l,k]
noncomputable def eV(l k:List Nat):D:=.tup [wD l,wD k]
def d7(l k:List Nat):Prop:=(l=[]\/W l)/\W k
theorem W.nn(h:W w):w≠[]:=by
 rintro rfl;revert h;decide +kernel
variable{l k:List Nat}
theorem FE(h:d7 l k):eY [bW (aE l k)]=.ok (eV l k):=by
 have hs:=szl;obtain⟨hl,hk⟩:=h;rcases hl with rfl|hl
 ·have q:jq [.lst false [.str (strOf k)]]=.ok (.bl true):=by
   have q:=uz [k] false;rw[show([k].all fun w=>isWord (strOf w))=true by simp[hk]]at q;exact q
  show eY [.lst false [.str (strOf k)]]=.ok (.tup [.str (strOf []),.str (strOf k)]);have e:fC [D.str (strOf k)] (-1)=some (.str (strOf k)):=rfl;unfold eY rF vU;simp_arith [q,e,qy]
 ·have q:jq [.lst false [.str (strOf l),.str (strOf k)]]=.ok (.bl true):=by
   have q:=uz [l,k] false;rw[show([l,k].all fun w=>isWord (strOf w))=true by simp[hk,hl]]at q;exact q
  have e:fC [D.str (strOf l),.str (strOf k)] (-1)=some (.str (strOf k)):=rfl;unfold aE;rw[if_neg hl.nn];show eY [.lst false [.str (strOf l),.str (strOf k)]]=.ok (.tup [.str (strOf l),.str (strOf k)]);unfold eY rF vU;simp_arith [q,e,gc]
noncomputable def bx:List (List Nat)->List (List Nat)
|[]=>[]
|[a]=>[a]
|a::r=>a::oj::bx r
theorem ZM(a:List Nat):fS [bW [a]]=.ok (.lst true [wD a]):=by kernel_rfl
theorem ZN(a b:List Nat):fS [bW [a,oj,b]]=.ok (.lst true [wD a,wD b]):=by kernel_rfl
theorem ZO(a b c:List Nat):fS [bW [a,oj,b,oj,c]]=.ok (.lst true [wD a,wD b,wD c]):=by kernel_rfl
def oq(ks:List (List Nat)):Prop:=(∀w∈ks,W w)/\(1<=ks.length/\ks.length<=3)/\(nL (ks.map strOf)).length=ks.length
theorem OH(ks:List (List Nat))(h:1<=ks.length/\ks.length<=3):fS [bW (bx ks)]=.ok (.lst true (ks.map wD)):=by
 rcases ks with _|⟨a,_|⟨b,_|⟨c,_|⟨d,r⟩⟩⟩⟩
 ·exact absurd h.1 (by decide)
 ·exact ZM a
 ·exact ZN a b
 ·exact ZO a b c
 ·exact absurd h.2 (by simp only[aB];omega)
theorem kG:∀l:List (List Nat),cR (l.map wD)=true
|[]=>rfl
|_::r=>kG r
variable{ks:List (List Nat)}
theorem Dh(h:oq ks):gj [bW (bx ks)]=.ok (.lst true (ks.map wD)):=by
 have hs:=szl;obtain⟨h1,h2,h3⟩:=h;have q:=OH ks h2;have q2:=uz ks false;rw[show(ks.all fun w=>isWord (strOf w))=true from bV.mpr h1]at q2;have fr:=B0 (bx ks);have fk:=cH ks;have hl:decide (3<(ks.length:Int))=false:=decide_eq_false (by omega);have hn:BD (.lst false (ks.map wD))=.ok (.int (ks.length:Int)):=by
  rw[JJ (ss:=ks.map strOf) (by
   have:∀l:List (List Nat),jV (l.map wD)=some (l.map strOf):=fun l=>by
    induction l with
    |nil=>rfl
    |cons a r ih=>
     show(jV (r.map wD)).map (strOf a::·)=_;rw[ih];rfl
   exact this ks) (by rw[az];omega),h3]
 have ho:=kG ks;unfold gj sO ye;generalize bW (bx ks)=d at q fr ⊢;simp_arith [q,q2,fr,fk,hl,hn,ho]
theorem j3(k:List Nat)(r:List (List Nat)):∃tl,bx (k::r)=k::tl:=by
 cases r with
 |nil=>exact⟨_,rfl⟩
 |cons=>exact⟨_,rfl⟩
noncomputable def sR(n:Int)(c:Bool)(l:List Nat)(ks:List (List Nat)):D:=.tup [.str "parts",.int n,.bl c,wD l,.lst true (ks.map wD)]
theorem Vt(c:Bool)(u l:List Nat)(n:Int)(hu:c9 [.str (strOf u)]=.ok (.int n))(h1:1<=n)(h5:n<=5)(hk:oq ks)(hl:W l):dw [.bl c,bW (u::l::bx ks)]=.ok (sR n c l ks):=by
 have hs:=szl;have qk:=Dh hk;obtain⟨k1,k2,k3⟩:=hk;have ho:=kG ks;have fk:=cH ks;obtain⟨k,tl,e,hw⟩:∃k tl,bx ks=k::tl/\W k:=by
  cases ks with
  |nil=>exact absurd k2.1 (by decide)
  |cons k r=>obtain⟨tl,e⟩:=j3 k r;exact⟨k,tl,e,k1 k ay⟩
 rw[e]at qk ⊢;have ft:=cH tl;have g1:=hw.nk (v:=oj) (by decide);have g2:=hl.ne;have g3:=decide_eq_true h1;have g4:=decide_eq_true h5;have g5:=qt (strOf l);rw[hl]at g5;unfold sR;show dw [.bl c,.lst false (.str (strOf u)::.str (strOf l)::.str (strOf k)::tl.map wD)]=.ok (.tup [.str "parts",.int n,.bl c,.str (strOf l),.lst true (ks.map wD)]);have qk:gj [.lst false (.str (strOf k)::tl.map wD)]=_:=qk;generalize tl.map wD=t at ft qk ⊢;have c2:cut (D.str (strOf u)::.str (strOf l)::.str (strOf k)::t) (some 2) none=.str (strOf k)::t:=fj _ 2 (by simp);have l2:decide (((t.length+1+1+1:Nat):Int)<2)=false:=decide_eq_false (by omega);have l3:decide (2<((t.length+1+1+1:Nat):Int))=true:=decide_eq_true (by omega);unfold dw kW nZ;simp_arith [ft,gc,jz,at2,hu,l2,l3,g1,g2,g3,g4,g5,c2,qk,ZL,qy,fk,ho]
theorem Vu(c:Bool)(u:List Nat)(n:Int)(hu:c9 [.str (strOf u)]=.ok (.int n))(h1:1<=n)(h5:n<=5)(hk:oq ks):dw [.bl c,bW (u::bx ks)]=.ok (sR n c [] ks):=by
 have hs:=szl;have qk:=Dh hk;obtain⟨k1,k2,k3⟩:=hk;have ho:=kG ks;have fk:=cH ks;have g3:=decide_eq_true h1;have g4:=decide_eq_true h5;unfold sR;rcases ks with _|⟨a,_|⟨b,r⟩⟩
 ·exact absurd k2.1 (by decide)
 ·have qk:gj [.lst false [.str (strOf a)]]=.ok (.lst true [.str (strOf a)]):=qk;show dw [.bl c,.lst false [.str (strOf u),.str (strOf a)]]=.ok (.tup [.str "parts",.int n,.bl c,.str (strOf []),.lst true [.str (strOf a)]]);have c2:cut [D.str (strOf u),.str (strOf a)] (some 1) none=[.str (strOf a)]:=fj _ 1 (by simp);unfold dw kW nZ;simp_arith [gc,jz,at2,hu,g3,g4,c2,qk,qy]
 ·obtain⟨tl,e⟩:∃tl,bx (a::b::r)=a::oj::tl:=⟨_,rfl⟩;rw[e]at qk ⊢;have ft:=cH tl;show dw [.bl c,.lst false (.str (strOf u)::.str (strOf a)::.str (strOf oj)::tl.map wD)]=.ok (.tup [.str "parts",.int n,.bl c,.str (strOf []),.lst true ((a::b::r).map wD)]);have qk:gj [.lst false (.str (strOf a)::.str (strOf oj)::tl.map wD)]=_:=qk;generalize tl.map wD=t at ft qk ⊢;generalize(a::b::r).map wD=ks at fk ho qk ⊢;have c2:cut (D.str (strOf u)::.str (strOf a)::.str (strOf oj)::t) (some 1) none=.str (strOf a)::.str (strOf oj)::t:=fj _ 1 (by simp);have l2:decide (((t.length+1+1+1:Nat):Int)<2)=false:=decide_eq_false (by omega);have l3:decide (2<((t.length+1+1+1:Nat):Int))=true:=decide_eq_true (by omega);unfold dw kW nZ;simp_arith [ft,gc,jz,at2,hu,l2,l3,g3,g4,c2,qk,ZL,qy,fk,ho]
theorem Xz(o:oF):bS .NotIn (.str (strOf aP)) (bh (.cst vS))=.ok (.bl false):=by kernel_rfl
theorem in_a:bS .NotIn (.str (strOf aL)) (bh (.cst Ew))=.ok (.bl false):=by kernel_rfl
theorem XA(hv:W v)(h:d7 l k):ko [bW (v::aP::aE l k)]=.ok (.tup [.str "then",wD v,eV l k]):=by
 have hs:=szl;have q:=FE h;have g:=qt (strOf v);rw[hv]at g;have gt:=Xz .In;have ft:=cH (aE l k);have q:eY [.lst false ((aE l k).map wD)]=.ok (.tup [.str (strOf l),.str (strOf k)]):=q;show ko [.lst false (.str (strOf v)::.str (strOf aP)::(aE l k).map wD)]=.ok (.tup [.str "then",.str (strOf v),.tup [.str (strOf l),.str (strOf k)]]);generalize(aE l k).map wD=t at q ft ⊢;have c2:cut (D.str (strOf v)::.str (strOf aP)::t) (some 2) none=t:=fj _ 2 (by simp);have l2:decide (((t.length+1+1:Nat):Int)<2)=false:=decide_eq_false (by omega);unfold ko uq z6;simp_arith [ft,gc,jz,l2,g,gt,c2,q]
theorem t_is(h:d7 l k)(hk:oq ks):nB [bW (aE l k),bW (aL::bx ks)]=.ok (.tup [.str "is",eV l k,.lst true (ks.map wD)]):=by
 have hs:=szl;have q:=FE h;have qk:=Dh hk;have ga:=in_a;have fr:=cH (aE l k);have ft:=cH (bx ks);have ho:=kG ks;have fk:=cH ks;have q:eY [.lst false ((aE l k).map wD)]=.ok (.tup [.str (strOf l),.str (strOf k)]):=q;have qk:gj [.lst false ((bx ks).map wD)]=_:=qk;show nB [.lst false ((aE l k).map wD),.lst false (.str (strOf aL)::(bx ks).map wD)]=.ok (.tup [.str "is",.tup [.str (strOf l),.str (strOf k)],.lst true (ks.map wD)]);generalize(aE l k).map wD=r at q fr ⊢;generalize(bx ks).map wD=t at qk ft ⊢;have c2:cut (D.str (strOf aL)::t) (some 1) none=t:=fj _ 1 (by simp);unfold nB xW EA;simp_arith [ft,fr,gc,ga,c2,q,qk,fk,ho]
variable{l2 k2:List Nat}
theorem XC(h:d7 l2 k2):jr [eV l k,wD v,bW (aE l2 k2)]=.ok (.tup [.str "join",eV l k,wD v,eV l2 k2]):=by
 have hs:=szl;have q:=FE h;have fr:=cH (aE l2 k2);have q:eY [.lst false ((aE l2 k2).map wD)]=.ok (.tup [.str (strOf l2),.str (strOf k2)]):=q;show jr [.tup [.str (strOf l),.str (strOf k)],.str (strOf v),.lst false ((aE l2 k2).map wD)]=.ok (.tup [.str "join",.tup [.str (strOf l),.str (strOf k)],.str (strOf v),.tup [.str (strOf l2),.str (strOf k2)]]);generalize(aE l2 k2).map wD=r at q fr ⊢;unfold jr uu z0;simp_arith [fr,q]
noncomputable def oD:Option Int->D
|some n=>.int n
|none=>.non
abbrev nq(u:List Nat)(o:Option Int):Prop:=c9 [wD u]=.ok (oD o)
theorem OI(o:Option Int):ie (oD o)=o.isNone:=by cases o<;>rfl
theorem mU(o:Option Int):bh (oD o)=oD o:=by cases o<;>rfl
noncomputable abbrev NP:=List Nat×Option Int
noncomputable def XD(p:NP):D:=if p.2.isNone=true then wD p.1 else .str (strOf [])
theorem tS(ps:List NP)(h:∀p∈ps,nq p.1 p.2):dg (pG (.name 0)) (fun _=>.ok true) (pE ia (.ite (.cmp .Is (.call 0 (.cons (.var 0) .nil)) (.con .non)) (.var 0) (.con (.str (strOf []))))) (ps.map fun p=>wD p.1) [none]=.ok (ps.map XD):=by
 refine gR (fun p:NP=>wD p.1) (fun O=>∃o,O=[o]) XD ps _ ⟨none,rfl⟩ ?_;rintro p hp O ⟨o,rfl⟩;refine⟨[some (wD p.1)],rfl,⟨_,rfl⟩,?_⟩;have q:=h p hp;have e:=OI p.2;unfold XD;unfold nq wD at q;unfold ia wD;cases hn:p.2.isNone with
 |false=>rw[hn]at e;simp_arith [q,e]
 |true=>rw[hn]at e;simp_arith [q,e]
theorem tT(ps:List NP)(h:∀p∈ps,nq p.1 p.2):dg (pG (.name 0)) (pT ia (.cmp .IsNot (.call 0 (.cons (.var 0) .nil)) (.con .non))) (pE ia (.call 0 (.cons (.var 0) .nil))) (ps.map fun p=>wD p.1) [none]=.ok ((ps.filter fun p=>!p.2.isNone).map fun p=>oD p.2):=by
 refine kT (fun p:NP=>wD p.1) (fun O=>∃o,O=[o]) (fun p=>!p.2.isNone) (fun p=>oD p.2) ps _ ⟨none,rfl⟩ ?_;rintro p hp O ⟨o,rfl⟩;have q:=h p hp;have e:=OI p.2;unfold nq wD at q;refine⟨[some (wD p.1)],rfl,⟨_,rfl⟩,?_,?_⟩
 ·unfold ia wD;simp_arith [q,e]
 ·unfold ia wD;simp_arith [q,e]
noncomputable def aG(n:Int):List Nat:=(kL n).cps.toList
theorem zh(n:Int):strOf (aG n)=kL n:=by
 show(⟨(kL n).cps.toList.toArray⟩:Str)=_;rw[Array.toArray_toList]
def Num(n:Int):Prop:=-(10 ^ 30)<n/\n<10 ^ 30
variable{n:Int}
theorem vZ(h:Num n):nq (aG n) (some n):=by
 show c9 [.str (strOf (aG n))]=_;rw[zh];exact Zd n h.1 h.2
noncomputable def kH:Option Int->Option Int->List (List Nat)
|some a,none=>[ig,f7,aG a]
|none,some b=>[ig,om,aG b]
|some a,some b=>if a=b then[oV,aG a]else[fX,aG a,toL,aG b]
|_,_=>[]
def pH:Option Int->Option Int->Prop
|some a,none=>Num a
|none,some b=>Num b
|some a,some b=>Num a/\Num b/\a<=b
|_,_=>False
theorem Ze:nq oV none:=by kernel_rfl
theorem TY:nq ig none:=by kernel_rfl
theorem Zf:nq f7 none:=by kernel_rfl
theorem Zg:nq om none:=by kernel_rfl
theorem Zh:nq fX none:=by kernel_rfl
theorem Zi:nq toL none:=by kernel_rfl
variable{α:Type}
theorem all2{p:α->Prop}{a b:α}(h1:p a)(h2:p b):∀x∈[a,b],p x:=by simp[h1,h2]
theorem AV{p:α->Prop}{a b c:α}(h1:p a)(h2:p b)(h3:p c):∀x∈[a,b,c],p x:=by simp[h1,h2,h3]
theorem XE{p:α->Prop}{a b c d:α}(h1:p a)(h2:p b)(h3:p c)(h4:p d):∀x∈[a,b,c,d],p x:=by simp[h1,h2,h3,h4]
theorem Vv{a:Int}(h:Num a):cg [bW [oV,aG a]]=.ok (.tup [.int a,.int a]):=by
 have hs:=szl;have A:∀p∈([(oV,none),(aG a,some a)]:List NP),nq p.1 p.2:=all2 Ze (vZ h);have f:dg _ _ _ [D.str (strOf oV),.str (strOf (aG a))] [none]=R.ok [D.str (strOf oV),.str (strOf [])]:=tS _ A;have g:dg _ _ _ [D.str (strOf oV),.str (strOf (aG a))] [none]=R.ok [D.int a]:=tT _ A;have e:bS .Eq (.lst false [D.str (strOf oV),.str (strOf [])]) (.lst true [.str "of",.str (strOf [])])=.ok (.bl true):=by kernel_rfl
 show cg [.lst false [.str (strOf oV),.str (strOf (aG a))]]=_;unfold cg jb;simp_arith [qy,f,g,e,gc]
theorem Vw{a:Int}(h:Num a):cg [bW [ig,f7,aG a]]=.ok (.tup [.int a,.non]):=by
 have hs:=szl;have A:∀p∈([(ig,none),(f7,none),(aG a,some a)]:List NP),nq p.1 p.2:=AV TY Zf (vZ h);have f:dg _ _ _ [D.str (strOf ig),.str (strOf f7),.str (strOf (aG a))] [none]=R.ok [D.str (strOf ig),.str (strOf f7),.str (strOf [])]:=tS _ A;have g:dg _ _ _ [D.str (strOf ig),.str (strOf f7),.str (strOf (aG a))] [none]=R.ok [D.int a]:=tT _ A;have e:bS .Eq (.lst false [D.str (strOf ig),.str (strOf f7),.str (strOf [])]) (.lst true [.str "of",.str (strOf [])])=.ok (.bl false):=by kernel_rfl
 have e2:bS .Eq (.lst false [D.str (strOf ig),.str (strOf f7),.str (strOf [])]) (.lst true [.str "at",.str "least",.str (strOf [])])=.ok (.bl true):=by kernel_rfl
 show cg [.lst false [.str (strOf ig),.str (strOf f7),.str (strOf (aG a))]]=_;unfold cg jb;simp_arith [qy,f,g,e,e2,gc]
theorem Vx{a:Int}(h:Num a):cg [bW [ig,om,aG a]]=.ok (.tup [.non,.int a]):=by
 have hs:=szl;have A:∀p∈([(ig,none),(om,none),(aG a,some a)]:List NP),nq p.1 p.2:=AV TY Zg (vZ h);have f:dg _ _ _ [D.str (strOf ig),.str (strOf om),.str (strOf (aG a))] [none]=R.ok [D.str (strOf ig),.str (strOf om),.str (strOf [])]:=tS _ A;have g:dg _ _ _ [D.str (strOf ig),.str (strOf om),.str (strOf (aG a))] [none]=R.ok [D.int a]:=tT _ A;have e:bS .Eq (.lst false [D.str (strOf ig),.str (strOf om),.str (strOf [])]) (.lst true [.str "of",.str (strOf [])])=.ok (.bl false):=by kernel_rfl
 have e2:bS .Eq (.lst false [D.str (strOf ig),.str (strOf om),.str (strOf [])]) (.lst true [.str "at",.str "least",.str (strOf [])])=.ok (.bl false):=by kernel_rfl
 have e3:bS .Eq (.lst false [D.str (strOf ig),.str (strOf om),.str (strOf [])]) (.lst true [.str "at",.str "most",.str (strOf [])])=.ok (.bl true):=by kernel_rfl
 show cg [.lst false [.str (strOf ig),.str (strOf om),.str (strOf (aG a))]]=_;unfold cg jb;simp_arith [qy,f,g,e,e2,e3,gc]
theorem Vy{a b:Int}(h:Num a)(h2:Num b)(hab:a<=b):cg [bW [fX,aG a,toL,aG b]]=.ok (.tup [.int a,.int b]):=by
 have hs:=szl;have A:∀p∈([(fX,none),(aG a,some a),(toL,none),(aG b,some b)]:List NP),nq p.1 p.2:=XE Zh (vZ h) Zi (vZ h2);have f:dg _ _ _ [D.str (strOf fX),.str (strOf (aG a)),.str (strOf toL),.str (strOf (aG b))] [none]=R.ok [D.str (strOf fX),.str (strOf []),.str (strOf toL),.str (strOf [])]:=tS _ A;have g:dg _ _ _ [D.str (strOf fX),.str (strOf (aG a)),.str (strOf toL),.str (strOf (aG b))] [none]=R.ok [D.int a,.int b]:=tT _ A;have e:bS .Eq (.lst false [D.str (strOf fX),.str (strOf []),.str (strOf toL),.str (strOf [])]) (.lst true [.str "of",.str (strOf [])])=.ok (.bl false):=by kernel_rfl
 have e2:bS .Eq (.lst false [D.str (strOf fX),.str (strOf []),.str (strOf toL),.str (strOf [])]) (.lst true [.str "at",.str "least",.str (strOf [])])=.ok (.bl false):=by kernel_rfl
 have e3:bS .Eq (.lst false [D.str (strOf fX),.str (strOf []),.str (strOf toL),.str (strOf [])]) (.lst true [.str "at",.str "most",.str (strOf [])])=.ok (.bl false):=by kernel_rfl
 have e4:bS .Eq (.lst false [D.str (strOf fX),.str (strOf []),.str (strOf toL),.str (strOf [])]) (.lst true [.str "from",.str (strOf []),.str "to",.str (strOf [])])=.ok (.bl true):=by kernel_rfl
 have le:=decide_eq_true hab;show cg [.lst false [.str (strOf fX),.str (strOf (aG a)),.str (strOf toL),.str (strOf (aG b))]]=_;unfold cg jb;simp_arith [qy,f,g,e,e2,e3,e4,gc,jz,le]
variable{a b:Option Int}
theorem Sv(h:pH a b):cg [bW (kH a b)]=.ok (.tup [oD a,oD b]):=by
 rcases a with _|a<;>rcases b with _|b
 ·exact h.elim
 ·exact Vx h
 ·exact Vw h
 ·obtain⟨h1,h2,h3⟩:=h;show cg [bW (if a=b then[oV,aG a]else[fX,aG a,toL,aG b])]=_;by_cases e:a=b
  ·subst e;rw[if_pos rfl];exact Vv h1
  ·rw[if_neg e];exact Vy h1 h2 h3
theorem XF(h:pH a b):jo [eV l k,wD v,bW (kH a b)]=.ok (.tup [.str "size",eV l k,wD v,oD a,oD b]):=by
 have hs:=szl;have q:=Sv h;have fa:=mU a;have fb:=mU b;have fr:=cH (kH a b);have q:cg [.lst false ((kH a b).map wD)]=.ok (.tup [oD a,oD b]):=q;show jo [.tup [.str (strOf l),.str (strOf k)],.str (strOf v),.lst false ((kH a b).map wD)]=.ok (.tup [.str "size",.tup [.str (strOf l),.str (strOf k)],.str (strOf v),oD a,oD b]);generalize(kH a b).map wD=r at q fr ⊢;have oa:aX (oD a)=true:=by cases a<;>rfl
 have ob:aX (oD b)=true:=by cases b<;>rfl
 unfold jo uv zY;simp_arith [fr,q,fa,fb,gc,jz,oa,ob]
theorem Zj{c:bf->R Bool}{b:bf->Fl}(O:Nat->bf)(σ0:bf)(h0:O 0=σ0)(n N:Nat)(h:∀i<n,c (O i)=.ok true/\b (O i)=.nx (O (i+1)))(h2:c (O n)=.ok false)(hN:n<N):uo c b N σ0=.nx (O n):=by
 subst h0;have go:∀k i N,i+k=n->k<N->uo c b N (O i)=.nx (O n):=by
  intro k;induction k with
  |zero=>
   intro i N e hN;obtain⟨N,rfl⟩:∃m,N=m+1:=⟨N-1,by omega⟩;have e:i=n:=by omega
   subst e;show(c (O i)).aU _=_;rw[h2];rfl
  |succ k ih=>
   intro i N e hN;obtain⟨N,rfl⟩:∃m,N=m+1:=⟨N-1,by omega⟩;show(c (O i)).aU _=_;rw[(h i (by omega)).1];have q:=ih (i+1) N (by omega) (by omega);simp only[R.aU,(h i (by omega)).2,if_true];exact q
 exact go n 0 N (by omega) hN
theorem Sw(r:List (List Nat))(i:Nat)(h:i<r.length):fC (r.map wD) (i:Int)=some (.str (strOf r[i])):=ki (by rw[bP,aJ h];rfl)
theorem JS(ws t:List (List Nat))(hw:∀w∈ws,W w)(ht:∀x r,t=x::r->isWord (strOf x)=false)(hl:ws.length<900):eG [bW (ws++t)]=.ok (.int (ws.length:Int)):=by
 have hs:=szl;have fr:=cH (ws++t);have ln:((ws++t).map wD).length=ws.length+t.length:=by rw[az,ak]
 have hat:∀i<ws.length,∃w,W w/\fC ((ws++t).map wD) (i:Int)=some (.str (strOf w)):=fun i hi=>⟨ws[i],hw _ (gE hi),by
  rw[Sw _ i (by rw[ak];omega),List.getElem_append_left hi]⟩
 have hend:∀x r,t=x::r->fC ((ws++t).map wD) (ws.length:Int)=some (.str (strOf x)):=fun x r e=>by
  subst e;rw[Sw _ ws.length (by simp),rR (aN _)];simp
 unfold eG jm kF mq bW;generalize(ws++t).map wD=R at fr ln hat hend;simp_arith [fr];rw[Zj (fun i=>[some (.lst false R),some (.int (i:Int))]) [some (.lst false R),some (.int 0)] rfl ws.length 1000 (fun i hi=>by
  obtain⟨w,h1,h2⟩:=hat i hi;have q:=qt (strOf w);rw[h1]at q;have g:decide ((i:Int)<(R.length:Int))=true:=decide_eq_true (by omega);constructor
  ·simp_arith [fr,g,h2,q]
  ·simp_arith [];rfl) (by
  cases t with
  |nil=>
   have g:decide ((ws.length:Int)<(R.length:Int))=false:=decide_eq_false (by rw[ln];simp);simp_arith [fr,g]
  |cons x r=>
   have g:decide ((ws.length:Int)<(R.length:Int))=true:=decide_eq_true (by rw[ln];simp;omega);have h2:=hend x r rfl;have q:=qt (strOf x);rw[ht x r rfl]at q;simp_arith [fr,g,h2,q]) (by omega)]
 simp_arith []
theorem k_is:isWord (strOf gf)=false:=by decide +kernel
theorem Zk:isWord (strOf aP)=false:=by decide +kernel
theorem k_of:isWord (strOf oV)=false:=by decide +kernel
theorem k_at:isWord (strOf ig)=false:=by decide +kernel
theorem XG:isWord (strOf fX)=false:=by decide +kernel
theorem XH:ao "is"=strOf gf:=by decide +kernel
theorem Hv(h:d7 l k):∀w∈aE l k,W w:=by
 unfold aE;obtain⟨h1,h2⟩:=h;split
 ·intro w hw;rw[a8.mp hw];exact h2
 ·rename_i e;rcases h1 with h1|h1
  ·exact absurd h1 e
  ·intro w hw;rcases aH.mp hw with rfl|hw
   ·exact h1
   ·rw[a8.mp hw];exact h2
theorem fq(l k:List Nat):1<=(aE l k).length/\(aE l k).length<=2:=by
 unfold aE;split<;>simp
theorem Vz(h:d7 l k)(hk:oq ks):di [bW (aE l k++gf::aL::bx ks)]=.ok (.tup [.str "is",eV l k,.lst true (ks.map wD)]):=by
 have q:=JS (aE l k) (gf::aL::bx ks) (Hv h) (by intro x r e;cases e;exact k_is) (by have:=fq l k;omega);have qi:=t_is h hk;have fr:=cH (aE l k++gf::aL::bx ks);have f1:=cH (aE l k);have f2:=cH (gf::aL::bx ks);have ho:=kG (gf::aL::bx ks);have c1:cut ((aE l k++gf::aL::bx ks).map wD) (some ((aE l k).length:Int)) none=(gf::aL::bx ks).map wD:=by
  rw[fj _ _ (by simp),<-wU,oS (aN _),List.drop_length];rfl
 have c2:cut ((aE l k++gf::aL::bx ks).map wD) none (some ((aE l k).length:Int))=(aE l k).map wD:=by
  rw[pD,<-Ff,DF]
 have c3:cut ((gf::aL::bx ks).map wD) (some 1) none=(aL::bx ks).map wD:=fj _ 1 (by simp);have i0:fC ((gf::aL::bx ks).map wD) 0=some (.str (strOf gf)):=gc _ _;have ne:(((aE l k).length:Int)==(((aE l k++gf::aL::bx ks).map wD).length:Int))=false:=by
  rw[beq_eq_false_iff_ne,az,ak,aB];omega
 have f3:=cH (aL::bx ks);have q:eG [.lst false ((aE l k++gf::aL::bx ks).map wD)]=_:=q;have qi:nB [.lst false ((aE l k).map wD),.lst false ((aL::bx ks).map wD)]=_:=qi;show di [.lst false ((aE l k++gf::aL::bx ks).map wD)]=_;generalize(aE l k++gf::aL::bx ks).map wD=X at *;generalize(gf::aL::bx ks).map wD=aa5 at *;generalize(aE l k).map wD=Z at *;generalize(aL::bx ks).map wD=U at *;generalize(aE l k).length=n at *;unfold di mR qM;simp_arith [q,fr,ne,c1,f2,i0,XH,c2,c3,f1,f3,qi,ho]
theorem Hw{x:List Nat}{t:List (List Nat)}{r:D}{J:Bool}(h:d7 l k)(hv:W v)(hx:isWord (strOf x)=false)(hi:(strOf x==strOf gf)=false)(hJ:bS .In (.str (strOf x)) (bh (.cst vS))=.ok (.bl J))
  (q1:J=true->jr [eV l k,wD v,bW t]=.ok r) (q2:J=false->jo [eV l k,wD v,bW (x::t)]=.ok r):di [bW (aE l k++v::x::t)]=.ok r:=by
 have hs:=szl;have hl:=fq l k;have q:=JS (aE l k++[v]) (x::t) (fun w hw=>by
  rcases a_.mp hw with hw|hw
  ·exact Hv h w hw
  ·rw[a8.mp hw];exact hv) (by intro x r e;cases e;exact hx) (by rw[ak,bF];omega)
 have e:aE l k++[v]++x::t=aE l k++v::x::t:=by simp
 rw[e,ak,bF]at q;have qr:=FE h;have fr:=cH (aE l k++v::x::t);have f1:=cH (aE l k);have o1:=kG (x::t);have f2:=cH t;have c1:cut ((aE l k++v::x::t).map wD) (some (((aE l k).length+1:Nat):Int)) none=.str (strOf x)::t.map wD:=by
  rw[fj _ _ (by simp),<-wU,<-e,oS (by simp),mG (by simp)];rfl
 have c2:cut ((aE l k++v::x::t).map wD) none (some ((((aE l k).length+1:Nat):Int)-1))=(aE l k).map wD:=by
  rw[show(((aE l k).length+1:Nat):Int)-1=((aE l k).length:Int)by omega,pD,<-Ff,DF]
 have i1:fC ((aE l k++v::x::t).map wD) ((((aE l k).length+1:Nat):Int)-1)=some (.str (strOf v)):=by
  rw[show(((aE l k).length+1:Nat):Int)-1=((aE l k).length:Int)by omega,Sw _ _ (by simp),rR (aN _)];simp
 have c3:cut (D.str (strOf x)::t.map wD) (some 1) none=t.map wD:=fj _ 1 (by simp);have ne:((((aE l k).length+1:Nat):Int)==(((aE l k++v::x::t).map wD).length:Int))=false:=by
  rw[beq_eq_false_iff_ne,az,ak,aB,aB];omega
 have lt:decide ((((aE l k).length+1:Nat):Int)<2)=false:=decide_eq_false (by omega);have q:eG [.lst false ((aE l k++v::x::t).map wD)]=_:=q;have qr:eY [.lst false ((aE l k).map wD)]=.ok (.tup [.str (strOf l),.str (strOf k)]):=qr;have o1:cR (t.map wD)=true:=o1;have q1:J=true->jr [.tup [.str (strOf l),.str (strOf k)],.str (strOf v),.lst false (t.map wD)]=.ok r:=q1;have q2:J=false->jo [.tup [.str (strOf l),.str (strOf k)],.str (strOf v),.lst false (.str (strOf x)::t.map wD)]=.ok r:=q2;show di [.lst false ((aE l k++v::x::t).map wD)]=_;generalize(aE l k++v::x::t).map wD=X at fr c1 c2 i1 ne q ⊢;generalize t.map wD=aa5 at o1 f2 c1 c3 q1 q2 ⊢;generalize(aE l k).map wD=Z at f1 c2 qr ⊢;generalize(((aE l k).length+1:Nat):Int)=n at q c1 c2 i1 ne lt ⊢;unfold di mR qM;cases J with
 |true=>
  have q1:=q1 rfl;simp_arith [q,fr,ne,c1,f2,o1,gc,XH,hi,lt,c2,f1,qr,hJ,i1,c3,q1]
 |false=>
  have q2:=q2 rfl;simp_arith [q,fr,ne,c1,f2,o1,gc,XH,hi,lt,c2,f1,qr,hJ,i1,c3,q2]
theorem OJ(h:d7 l k)(hv:W v)(h2:d7 l2 k2):di [bW (aE l k++v::aP::aE l2 k2)]=.ok (.tup [.str "join",eV l k,wD v,eV l2 k2]):=
 Hw (J:=true) h hv Zk (by decide +kernel) (by kernel_rfl) (fun _=>XC h2) (by intro z;cases z)
theorem OL(h:d7 l k)(hv:W v)(h2:pH a b):di [bW (aE l k++v::kH a b)]=.ok (.tup [.str "size",eV l k,wD v,oD a,oD b]):=by
 have q:=XF (l:=l) (k:=k) (v:=v) h2;have key:∀x t,kH a b=x::t->x∈[oV,ig,fX]->di [bW (aE l k++v::kH a b)]=.ok (.tup [.str "size",eV l k,wD v,oD a,oD b]):=by
  intro x t e hx;rw[e]at q ⊢;have hh:isWord (strOf x)=false/\(strOf x==strOf gf)=false/\bS .In (.str (strOf x)) (bh (.cst vS))=.ok (.bl false):=by
   rcases aH.mp hx with rfl|hx
   ·exact⟨k_of,by decide +kernel,by kernel_rfl⟩
   ·rcases aH.mp hx with rfl|hx
    ·exact⟨k_at,by decide +kernel,by kernel_rfl⟩
    ·rw[a8.mp hx];exact⟨XG,by decide +kernel,by kernel_rfl⟩
  exact Hw (J:=false) h hv hh.1 hh.2.1 hh.2.2 (by intro z;cases z) fun _=>q
 rcases a with _|a<;>rcases b with _|b
 ·exact h2.elim
 ·exact key _ _ rfl (by decide)
 ·exact key _ _ rfl (by decide)
 ·by_cases e:a=b
  ·exact key oV [aG a] (by show(if a=b then _ else _)=_;rw[if_pos e]) (by decide)
  ·exact key fX [aG a,toL,aG b] (by show(if a=b then _ else _)=_;rw[if_neg e]) (by decide)
section
variable{t:List D}{y:List Nat}{r:D} (ft:aD t=t)
include ft
theorem Zl(hl:t.length<=100)(q:dw [.bl false,.lst false (.str (strOf [49])::t)]=.ok r):dZ [.lst false (.str (strOf aL)::t)]=.ok r:=by
 have hs:=szl;have e1:bS .In (.str (strOf aL)) (bh (.cst Ew))=.ok (.bl true):=by kernel_rfl
 have n1:ao "1"=strOf [49]:=by decide +kernel
 have c1:cut (D.str (strOf aL)::t) (some 1) none=t:=fj _ 1 (by simp);unfold dZ jZ lM;simp_arith [ft,gc,e1,c1,n1,q]
theorem XI(q:dw [.bl false,.lst false t]=.ok r):dZ [.lst false (.str (strOf ig)::.str (strOf f7)::t)]=.ok r:=by
 have hs:=szl;have e1:bS .In (.str (strOf ig)) (bh (.cst Ew))=.ok (.bl false):=by kernel_rfl
 have c0:cut (D.str (strOf ig)::.str (strOf f7)::t) none (some 2)=[.str (strOf ig),.str (strOf f7)]:=pD _ 2;have c1:cut (D.str (strOf ig)::.str (strOf f7)::t) (some 2) none=t:=fj _ 2 (by simp);have e2:bS .Eq (.lst true [D.str (strOf ig),.str (strOf f7)]) (.lst true [.str "at",.str "least"])=.ok (.bl true):=by kernel_rfl
 unfold dZ jZ lM;simp_arith [ft,gc,e1,c0,e2,c1,q]
theorem Sx(q:dw [.bl true,.lst false (.str (strOf y)::t)]=.ok r):dZ [.lst false (.str (strOf mT)::.str (strOf y)::t)]=.ok r:=by
 have hs:=szl;have e1:bS .In (.str (strOf mT)) (bh (.cst Ew))=.ok (.bl false):=by kernel_rfl
 have c0:cut (D.str (strOf mT)::.str (strOf y)::t) none (some 2)=[.str (strOf mT),.str (strOf y)]:=pD _ 2;have c1:cut (D.str (strOf mT)::.str (strOf y)::t) (some 1) none=.str (strOf y)::t:=fj _ 1 (by simp);have e2:bS .Eq (.lst true [D.str (strOf mT),.str (strOf y)]) (.lst true [.str "at",.str "least"])=.ok (.bl false):=by kernel_rfl
 have e3:(strOf mT==ao "just")=true:=by decide +kernel
 unfold dZ jZ lM;simp_arith [ft,gc,e1,c0,e2,e3,c1,q]
theorem Sy(q:ko [.lst false (.str (strOf y)::t)]=.ok r):dZ [.lst false (.str (strOf cJ)::.str (strOf y)::t)]=.ok r:=by
 have hs:=szl;have e1:bS .In (.str (strOf cJ)) (bh (.cst Ew))=.ok (.bl false):=by kernel_rfl
 have c0:cut (D.str (strOf cJ)::.str (strOf y)::t) none (some 2)=[.str (strOf cJ),.str (strOf y)]:=pD _ 2;have c1:cut (D.str (strOf cJ)::.str (strOf y)::t) (some 1) none=.str (strOf y)::t:=fj _ 1 (by simp);have e2:bS .Eq (.lst true [D.str (strOf cJ),.str (strOf y)]) (.lst true [.str "at",.str "least"])=.ok (.bl false):=by kernel_rfl
 have e3:(strOf cJ==ao "just")=false:=by decide +kernel
 have e4:(strOf cJ==ao "then")=true:=by decide +kernel
 unfold dZ jZ lM;simp_arith [ft,gc,e1,c0,e2,e3,e4,c1,q]
theorem VA(q:di [.lst false (.str (strOf y)::t)]=.ok r):dZ [.lst false (.str (strOf aP)::.str (strOf y)::t)]=.ok r:=by
 have hs:=szl;have e1:bS .In (.str (strOf aP)) (bh (.cst Ew))=.ok (.bl false):=by kernel_rfl
 have c0:cut (D.str (strOf aP)::.str (strOf y)::t) none (some 2)=[.str (strOf aP),.str (strOf y)]:=pD _ 2;have c1:cut (D.str (strOf aP)::.str (strOf y)::t) (some 1) none=.str (strOf y)::t:=fj _ 1 (by simp);have e2:bS .Eq (.lst true [D.str (strOf aP),.str (strOf y)]) (.lst true [.str "at",.str "least"])=.ok (.bl false):=by kernel_rfl
 have e3:(strOf aP==ao "just")=false:=by decide +kernel
 have e4:(strOf aP==ao "then")=false:=by decide +kernel
 have e5:bS .In (.str (strOf aP)) (bh (.cst vS))=.ok (.bl true):=by kernel_rfl
 unfold dZ jZ lM;simp_arith [ft,gc,e1,c0,e2,e3,e4,e5,c1,q]
end
inductive Rw where
|parts (n:Int) (c:Bool) (l:List Nat) (ks:List (List Nat))
|join (l k v l2 k2:List Nat)
|size (l k v:List Nat) (a b:Option Int)
|isa (l k:List Nat) (ks:List (List Nat))
|aU (v l k:List Nat)
noncomputable def f9(n:Int)(c:Bool):List (List Nat):=if c=true then[mT,aG n]else if n=1 then[aL]else[ig,f7,aG n]
noncomputable def ir(l:List Nat):List (List Nat):=if l=[]then[]else[l]
noncomputable def Rw.words:Rw->List (List Nat)
|.parts n c l ks=>f9 n c++(ir l++bx ks)
|.join l k v l2 k2=>aP::(aE l k++v::aP::aE l2 k2)
|.size l k v a b=>aP::(aE l k++v::kH a b)
|.isa l k ks=>aP::(aE l k++gf::aL::bx ks)
|.aU v l k=>cJ::v::aP::aE l k
noncomputable def Rw.val:Rw->D
|.parts n c l ks=>sR n c l ks
|.join l k v l2 k2=>.tup [.str "join",eV l k,wD v,eV l2 k2]
|.size l k v a b=>.tup [.str "size",eV l k,wD v,oD a,oD b]
|.isa l k ks=>.tup [.str "is",eV l k,.lst true (ks.map wD)]
|.aU v l k=>.tup [.str "then",wD v,eV l k]
def Rw.Ok:Rw->Prop
|.parts n _ l ks=>(1<=n/\n<=5)/\(l=[]\/W l)/\oq ks
|.join l k v l2 k2=>d7 l k/\W v/\d7 l2 k2
|.size l k v a b=>d7 l k/\W v/\pH a b
|.isa l k ks=>d7 l k/\oq ks
|.aU v l k=>W v/\d7 l k
theorem pJ(h:oq ks):(bx ks).length<=5:=by
 obtain⟨_,⟨_,h⟩,_⟩:=h;rcases ks with _|⟨a,_|⟨b,_|⟨c,_|⟨d,r⟩⟩⟩⟩
 ·simp[bx]
 ·simp[bx]
 ·simp[bx]
 ·simp[bx]
 ·exact absurd h (by simp only[aB];omega)
theorem qN(h:1<=n/\n<=5):Num n:=by
 have:(5:Int)<10 ^ 30:=by decide
 exact⟨by omega,by omega⟩
theorem yq(c:Bool)(u l:List Nat)(n:Int)(hu:c9 [.str (strOf u)]=.ok (.int n))(h:1<=n/\n<=5)(hk:oq ks)(hl:l=[]\/W l):dw [.bl c,.lst false (.str (strOf u)::(ir l++bx ks).map wD)]=.ok (sR n c l ks):=by
 unfold ir;rcases hl with rfl|hl
 ·exact Vu c u n hu h.1 h.2 hk
 ·rw[if_neg hl.nn];exact Vt c u l n hu h.1 h.2 hk hl
theorem yr(l k:List Nat)(t:List (List Nat)):∃y s,aE l k++t=y::s:=by
 unfold aE;split<;>exact⟨_,_,rfl⟩
variable{ws:List (List Nat)}
theorem Di{r:D}(hne:∃y s,ws=y::s)(q:di [bW ws]=.ok r):dZ [bW (aP::ws)]=.ok r:=by
 obtain⟨y,s,rfl⟩:=hne;exact VA (cH s) q
theorem Zm(w:Rw)(h:w.Ok):dZ [bW w.words]=.ok w.val:=by
 cases w with
 |parts n c l ks=>
  obtain⟨h1,h2,h3⟩:=h;have hl:((ir l++bx ks).map wD).length<=100:=by
   have:=pJ h3;rw[az,ak];unfold ir;split<;>simp<;>omega
  have ft:=cH (ir l++bx ks);have hu:c9 [.str (strOf (aG n))]=.ok (.int n):=vZ (qN h1);show dZ [bW (f9 n c++(ir l++bx ks))]=.ok (sR n c l ks);unfold f9;cases c with
  |true=>exact Sx ft (yq true _ l n hu h1 h3 h2)
  |false=>
   rw[if_neg (by decide)];by_cases e:n=1
   ·subst e;rw[if_pos rfl];exact Zl ft hl (yq false [49] l 1 (by kernel_rfl) h1 h3 h2)
   ·rw[if_neg e];exact XI (cH (aG n::(ir l++bx ks))) (yq false _ l n hu h1 h3 h2)
 |join l k v l2 k2=>exact Di (yr l k _) (OJ h.1 h.2.1 h.2.2)
 |size l k v a b=>exact Di (yr l k _) (OL h.1 h.2.1 h.2.2)
 |isa l k ks=>exact Di (yr l k _) (Vz h.1 h.2)
 |aU v l k=>exact Sy (cH (aP::aE l k)) (XA h.1 h.2)
theorem XJ(ns:List Int):∃c:Int,vY [nA ns,.int 0]=.ok (.int c):=by
 have fi:=gv ns;unfold vY AQ G4 nA;cases ns with
 |nil=>
  exact⟨2377,by kernel_rfl⟩
 |cons a r=>
  refine⟨a,?_⟩;have l:decide ((0:Int)<((((a::r).map D.int).length:Nat):Int))=true:=decide_eq_true (by simp);have h0:fC ((a::r).map D.int) 0=some (.int a):=gc _ _;generalize(a::r).map D.int=X at fi l h0 ⊢;simp_arith [fi,l,h0]
theorem uX(c k:Int)(hk:0<=k/\k<=300):∃m:Int,0<=m/\m<800000000/\qq [.int c,.int k]=.ok (.int m):=by
 have b1:=cy c (b:=2147483647) (by decide);obtain⟨o,ho⟩:∃o,o=(c%2147483647+7919*k+1)*48271%2147483647:=⟨_,rfl⟩;have b2:=cy ((c%2147483647+7919*k+1)*48271) (b:=2147483647) (by decide);rw[<-ho]at b2;have b3:=cy o (b:=1009) (by decide);have b4:=cy (o*(o%1009+1)) (b:=2147483629) (by decide);refine⟨o*(o%1009+1)%2147483629 / 3,by omega,by omega,?_⟩;unfold qq xX EB;simp_arith [];rw[<-ho]
noncomputable def tU(s:Int):Nat:=[98,103,107,112,113,118,119,120,121,122].getD (s / 8%10).toNat 98
noncomputable def lw(s w:Int):List Nat:=if s%8=0 then[97+(1+(s / 8+3*w)%25).toNat]else rep (s / 80%(1+s%8)) (tU s)++(97+((s / 640+5*w)%26).toNat)::rep (s%8-s / 80%(1+s%8)) (tU s)
theorem T3(i:Int)(h0:0<=i)(h1:i<26):fC (ao "abcdefghijklmnopqrstuvwxyz").cps.toList i=some (97+i.toNat):=by
 have e:(ao "abcdefghijklmnopqrstuvwxyz").cps.toList=(bG 26).map (97+·):=by decide +kernel
 have hi:i=(i.toNat:Int):=by omega
 have q:=ki (xs:=(bG 26).map (97+·)) (j:=i.toNat) (v:=97+i.toNat) (by
  rw[bP,w6 (by omega)];rfl)
 rw[e];rw[<-hi]at q;exact q
theorem VB(s:Int)(h0:0<=s):fC (ao "bgkpqvwxyz").cps.toList (s / 8%10)=some (tU s):=by
 have e:(ao "bgkpqvwxyz").cps.toList=[98,103,107,112,113,118,119,120,121,122]:=by decide +kernel
 have b:=cy (s / 8) (b:=10) (by decide);rw[e];unfold tU;generalize s / 8%10=i at b ⊢;obtain⟨n,rfl,hn⟩:∃n:Nat,i=(n:Int)/\n<10:=⟨i.toNat,by omega,by omega⟩;have q:∀n<10,([98,103,107,112,113,118,119,120,121,122]:List Nat)[n]?=some ([98,103,107,112,113,118,119,120,121,122].getD n 98):=by decide
 exact ki (q n hn)
theorem VC(s:Int):tU s∈[98,103,107,112,113,118,119,120,121,122]:=by
 have b:=cy (s / 8) (b:=10) (by decide);have q:∀n<10,([98,103,107,112,113,118,119,120,121,122]:List Nat).getD n 98∈[98,103,107,112,113,118,119,120,121,122]:=by decide
 exact q _ (by omega)
theorem Hx(s w:Int)(h0:0<=s)(hw:0<=w):W (lw s w):=by
 have r:=VC s;have m8:=cy s (b:=8) (by decide);have hl:1<=(lw s w).length/\(lw s w).length<=8:=by
  unfold lw;split
  ·simp
  ·have msp:=cy (s / 80) (b:=1+s%8) (by omega);simp only[ak,aB,Df];omega
 have ha:∀c∈lw s w,97<=c/\c<=122:=by
  have hr:97<=tU s/\tU s<=122:=by
   revert r;generalize tU s=x;revert x;simp
  have m25:=cy (s / 8+3*w) (b:=25) (by decide);have m26:=cy (s / 640+5*w) (b:=26) (by decide);intro c hc;unfold lw at hc;split at hc
  ·rw[a8.mp hc];omega
  ·rcases a_.mp hc with h|h
   ·rw[(ly.mp h).2];omega
   ·rcases aH.mp h with rfl|h
    ·omega
    ·rw[(ly.mp h).2];omega
 have hk:lw s w∉p7:=by
  intro h;have m25:=cy (s / 8+3*w) (b:=25) (by decide);have q1:∀w∈p7,∀c∈[98,103,107,112,113,118,119,120,121,122],c∉w:=by decide
  have q3:∀w∈p7,∀a,w=[a]->a=97:=by
   intro w hw a e;have h2:∀w∈p7,(match w with|[a]=>decide (a=97)|_=>true)=true:=by decide
   have:=h2 w hw;rw[e]at this;simpa using this
  by_cases c:s%8=0
  ·unfold lw at h;rw[if_pos c]at h;have:=q3 _ h _ rfl;omega
  ·refine q1 _ h _ r ?_;have msp:=cy (s / 80) (b:=1+s%8) (by omega);unfold lw;rw[if_neg c,a_,aH];by_cases z:0<s / 80%(1+s%8)
   ·exact .inl (ly.mpr ⟨by omega,rfl⟩)
   ·exact .inr (.inr (ly.mpr ⟨by omega,rfl⟩))
 unfold W isWord;rw[gz,decide_eq_true hl.1,decide_eq_true hl.2];have h1:n9 97 122 (strOf (lw s w))=true:=by
  unfold n9;rw[bV];intro c hc;have:=ha c hc;rw[decide_eq_true this.1,decide_eq_true this.2];rfl
 have h2:memD (.str (strOf (lw s w))) cW=false:=by
  rw[JP,Hr,l9];intro v hv h;rw[k8,decide_eq_true_eq]at h;exact hk (h▸hv)
 rw[h1,h2];rfl
theorem yt(s w:Int)(h0:0<=s)(hw:0<=w/\w<1000):jt [.int s,.int w]=.ok (wD (lw s w)):=by
 have hs:=szl;have m8:=cy s (b:=8) (by decide);have m25:=cy (s / 8+3*w) (b:=25) (by decide);have m26:=cy (s / 640+5*w) (b:=26) (by decide);have msp:=cy (s / 80) (b:=1+s%8) (by omega);have l1:=T3 (1+(s / 8+3*w)%25) (by omega) (by omega);have l2:=T3 ((s / 640+5*w)%26) m26.1 m26.2;have l3:=VB s h0;have e1:1+s%8-1-s / 80%(1+s%8)=s%8-s / 80%(1+s%8):=by omega
 have hd:∀j:Int,0<j->j<10000->vt s j:=fun j h1 h2=>⟨h1,by omega⟩;have d1:=hd 8 (by decide) (by decide);have d2:=hd 80 (by decide) (by decide);have d3:=hd 640 (by decide) (by decide);unfold wD lw;unfold jt AR G2;by_cases c:s%8=0
 ·have g:((1+s%8:Int)==1)=true:=by rw[beq_iff_eq];omega
  rw[if_pos c];simp_arith [g,l1];rfl
 ·have g:((1+s%8:Int)==1)=false:=by rw[beq_eq_false_iff_ne];omega
  rw[if_neg c];simp_arith [g,l2,l3];rw[JO _ _ (by omega),e1];simp_arith [];rw[JO _ _ (by omega),show(⟨#[97+((s / 640+5*w)%26).toNat]⟩:Str)=strOf [97+((s / 640+5*w)%26).toNat]from rfl,iM _ _ (by simp only[Df,aB,cN];omega)];simp_arith [];rw[iM _ _ (by simp only[Df,aB,cN,ak];omega)];simp_arith [];rw[aW];rfl
theorem Lp(s w:Int)(j:Int)(hj:j=1\/j=2)(h:lw s w=lw s (w+j)):False:=by
 unfold lw at h;by_cases c:s%8=0
 ·rw[if_pos c,if_pos c]at h;have a:=cy (s / 8+3*w) (b:=25) (by decide);have b:=cy (s / 8+3*(w+j)) (b:=25) (by decide);have:=(kh h).1;omega
 ·rw[if_neg c,if_neg c]at h;have a:=cy (s / 640+5*w) (b:=26) (by decide);have b:=cy (s / 640+5*(w+j)) (b:=26) (by decide);have:=(kh (List.append_cancel_left h)).1;omega
noncomputable def iu(s d:Int):List (List Nat):=(bG (1+d%3).toNat).map fun(i:Nat)=>lw s (d / 3%26+(i:Int))
theorem Hz(s d:Int)(h0:0<=s)(hd:0<=d):oq (iu s d):=by
 have m3:=cy d (b:=3) (by decide);have m26:=cy (d / 3) (b:=26) (by decide);refine⟨fun w hw=>?_,⟨?_,?_⟩,?_⟩
 ·obtain⟨i,_,rfl⟩:=bT.mp hw;exact Hx _ _ h0 (by omega)
 ·unfold iu;rw[az,jF];omega
 ·unfold iu;rw[az,jF];omega
 ·have n1:=Lp s (d / 3%26) 1 (.inl rfl);have n2:=Lp s (d / 3%26) 2 (.inr rfl);have n3:=Lp s (d / 3%26+1) 1 (.inl rfl);rw[show d / 3%26+1+1=d / 3%26+2 by omega]at n3;have e:iu s d=if d%3=0 then[lw s (d / 3%26)]else if d%3=1 then[lw s (d / 3%26),lw s (d / 3%26+1)]else[lw s (d / 3%26),lw s (d / 3%26+1),lw s (d / 3%26+2)]:=by
   unfold iu;by_cases c0:d%3=0
   ·rw[c0,if_pos rfl];show[lw s (d / 3%26+0)]=_;rw[yS]
   ·rw[if_neg c0];by_cases c1:d%3=1
    ·rw[c1,if_pos rfl];show[lw s (d / 3%26+0),lw s (d / 3%26+1)]=_;rw[yS]
    ·rw[if_neg c1,show d%3=2 by omega];show[lw s (d / 3%26+0),lw s (d / 3%26+1),lw s (d / 3%26+2)]=_;rw[yS]
  rw[e];have b1:(strOf (lw s (d / 3%26))==strOf (lw s (d / 3%26+1)))=false:=by rw[k8,decide_eq_false n1]
  have b2:(strOf (lw s (d / 3%26))==strOf (lw s (d / 3%26+2)))=false:=by rw[k8,decide_eq_false n2]
  have b3:(strOf (lw s (d / 3%26+1))==strOf (lw s (d / 3%26+2)))=false:=by rw[k8,decide_eq_false n3]
  generalize lw s (d / 3%26)=x at b1 b2 ⊢;generalize lw s (d / 3%26+1)=y at b1 b3 ⊢;generalize lw s (d / 3%26+2)=z at b2 b3 ⊢;split
  ·rfl
  ·split
   ·simp[nL,lX,b1]
   ·simp[nL,lX,b1,b2,b3]
theorem OM(s d:Int)(h0:0<=s)(hd:0<=d/\d<800000000):vW [.int s,.int d]=.ok (.lst true ((iu s d).map wD)):=by
 have hs:=szl;have m3:=cy d (b:=3) (by decide);have m26:=cy (d / 3) (b:=26) (by decide);unfold vW AS G3 iu;simp_arith [];unfold je;rw[gR (fun i:Nat=>D.int (0+(i:Int))) (fun O=>∃o,O=[o,some (.int s),some (.int d)]) (fun i=>wD (lw s (d / 3%26+(i:Int)))) (bG (1+d%3).toNat) _ ⟨none,rfl⟩ (by
  rintro i hi O ⟨o,rfl⟩;have hi:=iF.mp hi;have q:=yt s (d / 3%26+(i:Int)) h0 (by omega);refine⟨[some (.int (0+(i:Int))),some (.int s),some (.int d)],rfl,⟨_,rfl⟩,?_⟩;rw[Il];simp_arith [q])]
 simp_arith [];rw[bJ];rfl
theorem JT(s d:Int)(h0:0<=s)(hd:0<=d/\d<800000000):∃l k,d7 l k/\pe [.int s,.int d]=.ok (eV l k):=by
 have hs:=szl;have m1:=cy (d / 2) (b:=26) (by decide);have m2:=cy (d / 52) (b:=26) (by decide);have q1:jt [.int s,.int (d / 2%26)]=.ok (.str _):=yt s (d / 2%26) h0 (by omega);have q2:jt [.int s,.int (d / 52%26)]=.ok (.str _):=yt s (d / 52%26) h0 (by omega);have w1:=Hx s (d / 2%26) h0 (by omega);have w2:=Hx s (d / 52%26) h0 (by omega);by_cases c:d%2=1
 ·refine⟨_,_,⟨.inr w1,w2⟩,?_⟩;have g:(d%2==1)=true:=by rw[beq_iff_eq];exact c
  unfold pe zf C_ eV wD;simp_arith [g,q1,q2]
 ·refine⟨[],_,⟨.inl rfl,w2⟩,?_⟩;have g:(d%2==1)=false:=by rw[beq_eq_false_iff_ne];exact c
  unfold pe zf C_ eV wD;simp_arith [g,q2,qy]
theorem Lq(x y z i:Int)(h:0<=i/\i<3):fC [D.int x,.int y,.int z] i=some (.int (if i=0 then x else if i=1 then y else z)):=by
 obtain⟨h0,h1⟩:=h;by_cases c0:i=0
 ·rw[if_pos c0,c0];exact gc _ _
 ·rw[if_neg c0];by_cases c1:i=1
  ·rw[if_pos c1,c1];exact jz _ _ _
  ·rw[if_neg c1,show i=2 by omega];exact at2 _ _ _ _
theorem Lr(c d:Int)(hd:0<=d/\d<800000000):∃a b,pH a b/\n6 [.int c,.int d]=.ok (.tup [oD a,oD b]):=by
 have hs:=szl;have p30:dF .Pow (.int 10) (.int 30)=.ok (.int 1000000000000000000000000000000):=by kernel_rfl
 have p20:dF .Pow (.int 10) (.int 20)=.ok (.int 100000000000000000000):=by kernel_rfl
 have m3:=cy (d / 5) (b:=3) (by decide);have m5:=cy d (b:=5) (by decide);have m7:=cy (d / 15) (b:=7) (by decide);have n3:=cy (d / 105) (b:=3) (by decide);have c30:=cy c (b:=1000000000000000000000000000000) (by decide);have c20:=cy c (b:=100000000000000000000) (by decide);have a1:=Lq (d%5-2) (c%1000000000000000000000000000000) (0-c%1000000000000000000000000000000) (d / 5%3) m3;have a2:=Lq 0 (1+d / 15%7) (c%100000000000000000000) (d / 105%3) n3;obtain⟨lo,elo⟩:∃lo,(if d / 5%3=0 then d%5-2 else if d / 5%3=1 then c%1000000000000000000000000000000 else 0-c%1000000000000000000000000000000)=lo:=⟨_,rfl⟩;obtain⟨up,eup⟩:∃up,(if d / 105%3=0 then 0 else if d / 105%3=1 then 1+d / 15%7 else c%100000000000000000000)=up:=⟨_,rfl⟩;rw[elo]at a1;rw[eup]at a2;have hlo:-1000000000000000000000000000000<lo/\lo<1000000000000000000000000000000:=by
  rw[<-elo];split
  ·omega
  ·split<;>omega
 have hup:0<=up:=by
  rw[<-eup];split
  ·omega
  ·split<;>omega
 clear elo eup;have T:(10:Int) ^ 30=1000000000000000000000000000000:=by decide
 obtain⟨hi,ehi,hhi⟩:∃hi,(if(999999999999999999999999999999:Int)<((lo+up).natAbs:Int)then lo else lo+up)=hi/\Num hi/\lo<=hi:=by
  refine⟨_,rfl,?_⟩;unfold Num;rw[T];split
  ·exact⟨⟨by omega,by omega⟩,by omega⟩
  ·exact⟨⟨by omega,by omega⟩,by omega⟩
 have nlo:Num lo:=by unfold Num;rw[T];omega
 have e9:(1000000000000000000000000000000-1:Int)=999999999999999999999999999999:=rfl;have ab:jI .abs [.int (lo+up)]=.ok (.int ((lo+up).natAbs:Int)):=by
  rw[show((lo+up).natAbs:Int)=if lo+up<0 then -(lo+up)else lo+up by split<;>omega];rfl
 have hfin:∀h:Int,hi=h->∃a b,pH a b/\KZ (dP [] 1000 (.cons (.ifs (.cmp .Eq (.bin .Mod (.bin .FloorDiv (.var 1) (.con (.int 315))) (.con (.int 4))) (.con (.int 0)))
  (.cons (.ret (.tup (.cons (.var 2) (.cons (.con .non) .nil))))
 .nil)
  .nil)
 (.cons (.ifs (.cmp .Eq (.bin .Mod (.bin .FloorDiv (.var 1) (.con (.int 315))) (.con (.int 4))) (.con (.int 1)))
  (.cons (.ret (.tup (.cons (.con .non) (.cons (.var 3) .nil))))
 .nil)
  .nil)
 (.cons (.ret (.tup (.cons (.var 2) (.cons (.var 3) .nil))))
 .nil))) [some (.int c),some (.int d),some (.int lo),some (.int h)])=.ok (.tup [oD a,oD b]):=by
  rintro _ rfl;cases g0:(d / 315%4==0)with
  |true=>exact⟨some lo,none,nlo,by simp_arith [g0];rfl⟩
  |false=>
   cases g1:(d / 315%4==1)with
   |true=>exact⟨none,some hi,hhi.1,by simp_arith [g0,g1];rfl⟩
   |false=>exact⟨some lo,some hi,⟨nlo,hhi.1,hhi.2⟩,by simp_arith [g0,g1];rfl⟩
 by_cases cc:(999999999999999999999999999999:Int)<((lo+up).natAbs:Int)
 ·rw[if_pos cc]at ehi;obtain⟨a,b,h1,h2⟩:=hfin lo ehi.symm;refine⟨a,b,h1,?_⟩;have g:=decide_eq_true cc;rw[<-h2];unfold n6 rG vX;simp_arith [p30,p20,a1,a2,ab,e9,g]
 ·rw[if_neg cc]at ehi;obtain⟨a,b,h1,h2⟩:=hfin (lo+up) ehi.symm;refine⟨a,b,h1,?_⟩;have g:=decide_eq_false cc;rw[<-h2];unfold n6 rG vX;simp_arith [p30,p20,a1,a2,ab,e9,g]
theorem Zn(x y:D)(i:Int)(h:0<=i/\i<2):fC [x,y] i=some (if i=0 then x else y):=by
 by_cases c0:i=0
 ·rw[if_pos c0,c0];exact gc _ _
 ·rw[if_neg c0,show i=1 by omega];exact jz _ _ _
theorem VD(c k s:Int)(hk:0<=k/\k<=63)(h0:0<=s):∃w:Rw,w.Ok/\nD [.int c,.int k,.int s]=.ok w.val:=by
 have hs:=szl;obtain⟨d,d0,d1,qd⟩:=uX c k (by omega);obtain⟨e,e0,e1,qe⟩:=uX c (k+40) (by omega);obtain⟨f,f0,f1,qf⟩:=uX c (k+80) (by omega);have m7:=cy d (b:=7) (by decide);have m26:=cy (d / 7) (b:=26) (by decide);have qv:jt [.int s,.int (d / 7%26)]=.ok (.str _):=yt s (d / 7%26) h0 (by omega);have wv:=Hx s (d / 7%26) h0 (by omega);obtain⟨l1,k1,r1,q1⟩:=JT s e h0 ⟨e0,e1⟩;obtain⟨l2,k2,r2,q2⟩:=JT s f h0 ⟨f0,f1⟩;have q1:pe [.int s,.int e]=.ok (.tup [.str (strOf l1),.str (strOf k1)]):=q1;have q2:pe [.int s,.int f]=.ok (.tup [.str (strOf l2),.str (strOf k2)]):=q2;by_cases c3:d%7<3
 ·have m2:=cy (d / 7) (b:=2) (by decide);have m5:=cy f (b:=5) (by decide);have n26:=cy (e / 78) (b:=26) (by decide);have qw:jt [.int s,.int (e / 78%26)]=.ok (.str _):=yt s (e / 78%26) h0 (by omega);have ww:=Hx s (e / 78%26) h0 (by omega);have qs:=OM s e h0 ⟨e0,e1⟩;have hk:=Hz s e h0 e0;have g:=decide_eq_true c3;have a1:=Lq 1 (1+f%5) (1+f%5) (d%7) ⟨m7.1,c3⟩;obtain⟨n,en⟩:∃n,(if d%7=0 then 1 else if d%7=1 then 1+f%5 else 1+f%5)=n:=⟨_,rfl⟩;rw[en]at a1;have hn:1<=n/\n<=5:=by
   rw[<-en];split
   ·omega
   ·split<;>omega
  obtain⟨l,hl,al⟩:∃l,(l=[]\/W l)/\fC [D.str (strOf []),.str (strOf (lw s (e / 78%26)))] (d / 7%2)=some (.str (strOf l)):=by
   have a2:=Zn (.str (strOf [])) (.str (strOf (lw s (e / 78%26)))) (d / 7%2) m2;by_cases c0:d / 7%2=0
   ·rw[if_pos c0]at a2;exact⟨_,.inl rfl,a2⟩
   ·rw[if_neg c0]at a2;exact⟨_,.inr ww,a2⟩
  refine⟨.parts n (d%7==2) l (iu s e),⟨hn,hl,hk⟩,?_⟩;have fk:=cH (iu s e);have ok:=kG (iu s e);show _=R.ok (D.tup [.str "parts",.int n,.bl (d%7==2),.str (strOf l),.lst true ((iu s e).map wD)]);unfold nD o_ rY;generalize(iu s e).map wD=K at qs fk ok ⊢;simp_arith [qd,qe,qf,g,qw,qy,al,a1,qs,fk,ok]
 ·have g:=decide_eq_false c3;cases g3:(d%7==3)with
  |true=>
   refine⟨.join l1 k1 _ l2 k2,⟨r1,wv,r2⟩,?_⟩;show _=R.ok (D.tup [.str "join",.tup [.str (strOf l1),.str (strOf k1)],.str (strOf _),.tup [.str (strOf l2),.str (strOf k2)]]);unfold nD o_ rY;simp_arith [qd,qe,qf,g,g3,q1,q2,qv]
  |false=>
   cases g4:(d%7==4)with
   |true=>
    obtain⟨a,b,hb,qb⟩:=Lr c f ⟨f0,f1⟩;refine⟨.size l1 k1 _ a b,⟨r1,wv,hb⟩,?_⟩;have fa:=mU a;have fb:=mU b;have oa:aX (oD a)=true:=by cases a<;>rfl
    have ob:aX (oD b)=true:=by cases b<;>rfl
    show _=R.ok (D.tup [.str "size",.tup [.str (strOf l1),.str (strOf k1)],.str (strOf _),oD a,oD b]);unfold nD o_ rY;simp_arith [qd,qe,qf,g,g3,g4,q1,qv,qb,fa,fb,oa,ob]
   |false=>
    cases g5:(d%7==5)with
    |true=>
     have qs:=OM s f h0 ⟨f0,f1⟩;have hk:=Hz s f h0 f0;have fk:=cH (iu s f);have ok:=kG (iu s f);refine⟨.isa l1 k1 _,⟨r1,hk⟩,?_⟩;show _=R.ok (D.tup [.str "is",.tup [.str (strOf l1),.str (strOf k1)],.lst true ((iu s f).map wD)]);unfold nD o_ rY;generalize(iu s f).map wD=K at qs fk ok ⊢;simp_arith [qd,qe,qf,g,g3,g4,g5,q1,qs,fk,ok]
    |false=>
     refine⟨.aU _ l1 k1,⟨wv,r1⟩,?_⟩;show _=R.ok (D.tup [.str "then",.str (strOf _),.tup [.str (strOf l1),.str (strOf k1)]]);unfold nD o_ rY;simp_arith [qd,qe,qf,g,g3,g4,g5,q1,qv]
noncomputable def jn:List (List Nat)->List Nat
|[]=>[]
|[w]=>w
|w::r=>w++32::jn r
theorem r6(w x:List Nat)(r:List (List Nat)):jn (w::x::r)=w++32::jn (x::r):=rfl
theorem Dj:∀ws:List (List Nat),ee (strOf [32]) (ws.map strOf)=strOf (jn ws)
|[]=>rfl
|[_]=>rfl
|w::x::r=>by
 show strOf w++strOf [32]++ee (strOf [32]) ((x::r).map strOf)=_;rw[Dj (x::r),lP,lP,r6,aW];rfl
theorem zj:∀ws:List (List Nat),ee (strOf [32,111,114,32]) (ws.map strOf)=strOf (jn (bx ws))
|[]=>rfl
|[_]=>rfl
|w::x::r=>by
 show strOf w++strOf [32,111,114,32]++ee (strOf [32,111,114,32]) ((x::r).map strOf)=_;rw[zj (x::r),lP,lP];show _=strOf (jn (w::oj::bx (x::r)));obtain⟨tl,e⟩:=j3 x r;rw[e,r6,r6,aW];rfl
theorem qz:∀(a:List (List Nat)) (y:List Nat) (b:List (List Nat)),a≠[]->jn a++32::jn (y::b)=jn (a++y::b)
|[],_,_,h=>absurd rfl h
|[w],y,b,_=>rfl
|w::x::r,y,b,_=>by
 have ih:=qz (x::r) y b (by simp);show(w++32::jn (x::r))++32::jn (y::b)=w++32::jn (x::(r++y::b));rw[aW,List.cons_append,ih];rfl
def fE(w:List Nat):Prop:=w≠[]/\32∉w/\10∉w/\w.length<=40
theorem v5:∀ws:List (List Nat),(∀w∈ws,fE w)->wordsOf (jn ws)=ws
|[],_=>rfl
|[w],h=>by
 obtain⟨h1,h2,_⟩:=h w ay;have q:=ym w [] h1 h2;show wordsOf w=[w];have e:c_ 32 w=[w]:=pU 32 [w] w (by simp) (by simpa using h2) (by simp[j8]);unfold wordsOf;rw[e];cases w with
 |nil=>exact absurd rfl h1
 |cons=>rfl
|w::x::r,h=>by
 obtain⟨h1,h2,_⟩:=h w ay;rw[r6,ym w _ h1 h2,v5 (x::r) fun y hy=>h y (aj _ hy)]
theorem T4:∀ws:List (List Nat),(∀w∈ws,fE w)->10∉jn ws
|[],_=>by simp[jn]
|[w],h=>(h w ay).2.2.1
|w::x::r,h=>by
 have ih:=T4 (x::r) fun y hy=>h y (aj _ hy);rw[r6,a_,aH];rintro(q|q|q)
 ·exact(h w ay).2.2.1 q
 ·exact absurd q (by decide)
 ·exact ih q
theorem ON:∀ws:List (List Nat),(∀w∈ws,fE w)->(jn ws).length<=41*ws.length
|[],_=>by simp[jn]
|[w],h=>by have:=(h w ay).2.2.2;show w.length<=41*1;omega
|w::x::r,h=>by
 have ih:=ON (x::r) fun y hy=>h y (aj _ hy);have:=(h w ay).2.2.2;rw[r6,ak,aB,aB];omega
theorem W.ok(h:W w):fE w:=by
 unfold W isWord at h;simp only[bR,decide_eq_true_eq]at h;obtain⟨⟨⟨h1,h2⟩,h3⟩,_⟩:=h;rw[gz]at h1 h2;have h3:∀c∈w,97<=c/\c<=122:=fun c hc=>by
  have:=bV.mp h3 c hc;simpa using this
 exact⟨fun e=>by rw[e]at h1;simp at h1,fun hc=>by have:=h3 _ hc;omega,fun hc=>by have:=h3 _ hc;omega,by omega⟩
theorem XM(h:Num n):∃m,m<10 ^ 30/\(aG n=gm 29 m\/aG n=45::gm 29 m):=by
 obtain⟨h1,h2⟩:=h;have T:((10 ^ 30:Nat):Int)=10 ^ 30:=by decide
 by_cases hn:0<=n
 ·obtain⟨m,rfl⟩:∃m:Nat,n=(m:Int):=⟨n.toNat,by omega⟩;have hm:m<10 ^ 30:=by omega
  exact⟨m,hm,.inl (by unfold aG;rw[Ht m hm];rfl)⟩
 ·obtain⟨m,rfl,hp⟩:∃m:Nat,n=-(m:Int)/\0<m:=⟨(-n).toNat,by omega,by omega⟩;have hm:m<10 ^ 30:=by omega
  exact⟨m,hm,.inr (by unfold aG;rw[Hu m hp hm];rfl)⟩
theorem fV(h:Num n):fE (aG n):=by
 obtain⟨m,hm,e⟩:=XM h;obtain⟨d1,d2,d3,_⟩:=zg 29 m hm;rcases e with e|e<;>rw[e]
 ·exact⟨d2,fun hc=>by have:=d1 _ hc;omega,fun hc=>by have:=d1 _ hc;omega,by omega⟩
 ·refine⟨by simp,fun hc=>?_,fun hc=>?_,by simp;omega⟩
  ·rcases aH.mp hc with q|q
   ·exact absurd q (by decide)
   ·have:=d1 _ q;omega
  ·rcases aH.mp hc with q|q
   ·exact absurd q (by decide)
   ·have:=d1 _ q;omega
theorem pK(h:Num n):jI .str [.int n]=.ok (.str (strOf (aG n))):=by
 have hs:=szl;have hl:(kL n).length<=40:=by rw[<-zh,gz];exact(fV h).2.2.2
 have h1:n.natAbs<10 ^ 30:=by
  obtain⟨a,b⟩:=h;have:((10 ^ 30:Nat):Int)=10 ^ 30:=by decide
  omega
 have h2:n.natAbs.log2<1920:=by
  by_cases hz:n.natAbs=0
  ·rw[hz];decide
  ·exact(Je hz).mpr (bM h1 (by decide +kernel))
 rw[zh];show R.bg (decide (n.natAbs.log2<1920)&&decide ((kL n).length<=aa)) (R.ok (D.str (kL n)))=_;rw[decide_eq_true h2,decide_eq_true (by omega)];rfl
theorem uY:∀w∈p7,fE w:=by
 unfold fE;decide +kernel
theorem oq.ok(h:oq ks):∀w∈bx ks,fE w:=by
 have hw:=h.1;have:∀ks:List (List Nat),(∀w∈ks,W w)->∀w∈bx ks,fE w:=by
  intro ks;induction ks with
  |nil=>intro _ w h;cases h
  |cons a r ih=>
   intro h w hw;cases r with
   |nil=>rw[a8.mp hw];exact(h a ay).ok
   |cons b t=>
    have hw:w∈a::oj::bx (b::t):=hw;rcases aH.mp hw with rfl|hw
    ·exact(h w ay).ok
    ·rcases aH.mp hw with rfl|hw
     ·exact uY _ (by decide)
     ·exact ih (fun x hx=>h x (aj _ hx)) w hw
 exact this ks hw
theorem d7.ok(h:d7 l k):∀w∈aE l k,fE w:=fun w hw=>(Hv h w hw).ok
theorem Ls(h:pH a b):∀w∈kH a b,fE w:=by
 have k:=uY;rcases a with _|a<;>rcases b with _|b
 ·exact h.elim
 ·exact AV (k _ (by decide)) (k _ (by decide)) (fV h)
 ·exact AV (k _ (by decide)) (k _ (by decide)) (fV h)
 ·show ∀w∈(if a=b then[oV,aG a]else[fX,aG a,toL,aG b]),fE w;split
  ·exact all2 (k _ (by decide)) (fV h.1)
  ·exact XE (k _ (by decide)) (fV h.1) (k _ (by decide)) (fV h.2.1)
theorem OO(n:Nat):∀l:List Nat,(∀x∈l,x<=n)->l.sum<=l.length*n
|[],_=>by simp
|a::r,h=>by
 have:=OO n r fun x hx=>h x (aj _ hx);have:=h a ay;rw[Fe,aB,yK];omega
theorem JU:∀l:List (List Nat),jV (l.map wD)=some (l.map strOf)
|[]=>rfl
|a::r=>by
 show(jV (r.map wD)).map (strOf a::·)=_;rw[JU r];rfl
theorem uZ(sep:List Nat)(ws:List (List Nat))(o:Bool)(hl:ws.length<=1000)(hw:∀w∈ws,w.length<=1000)(hp:sep.length<=10):kB .join (.str (strOf sep)) [.lst o (ws.map wD)]=.ok (.str (ee (strOf sep) (ws.map strOf))):=by
 have hs:=szl;rw[Ej,JU,zR,Ei];have h1:=OO 1000 ((ws.map strOf).map (·.length)) (fun x hx=>by
  rw[bJ]at hx;obtain⟨w,h,rfl⟩:=bT.mp hx;show(strOf w).length<=_;rw[gz];exact hw w h)
 rw[az,az]at h1;have h2:ws.length*1000<=1000*1000:=Nat.mul_le_mul_right _ hl;have h3:ws.length*sep.length<=1000*10:=Nat.mul_le_mul hl hp;rw[decide_eq_true (by rw[az,gz];omega)];rfl
theorem spS:ao " "=strOf [32]:=by decide +kernel
theorem B3:ao " or "=strOf [32,111,114,32]:=by decide +kernel
theorem ou(h:d7 l k):fU [eV l k]=.ok (.str (strOf (jn (aP::aE l k)))):=by
 have hs:=szl;have fe:[aP,l,k].filter (fun w=>!(strOf w==strOf []))=aP::aE l k:=by
  have e0:(strOf aP==strOf [])=false:=by decide +kernel
  have e2:=h.2.ne;unfold aE;rcases h.1 with rfl|hl
  ·have e1:=beq_self_eq_true (strOf []);simp[uE,e0,e1,e2]
  ·rw[if_neg hl.nn];simp[uE,e0,hl.ne,e2]
 have theS:ao "the"=strOf aP:=by decide +kernel
 have q:dg (pG (.name 0)) (pT [] (.cmp .NotEq (.var 0) (.con (.str (strOf []))))) (pE [] (.var 0)) [D.str (strOf aP),.str (strOf l),.str (strOf k)] [none]=.ok ((aP::aE l k).map wD):=by
  rw[<-fe];refine kT wD (fun O=>∃o,O=[o]) (fun w=>!(strOf w==strOf [])) wD [aP,l,k] _ ⟨none,rfl⟩ ?_;rintro p _ O ⟨o,rfl⟩;refine⟨[some (wD p)],rfl,⟨_,rfl⟩,?_,?_⟩
  ·unfold wD;simp_arith []
  ·rfl
 have qj:=uZ [32] (aP::aE l k) true (by have:=fq l k;rw[aB];omega) (fun w hw=>by
  rcases aH.mp hw with rfl|hw
  ·decide
  ·have:=(h.ok w hw).2.2.2;omega) (by decide)
 rw[Dj]at qj;show fU [.tup [.str (strOf l),.str (strOf k)]]=_;generalize(aP::aE l k).map wD=X at q qj;unfold fU sP yf;simp_arith [spS,qy,theS,gc,jz,q,qj]
theorem IJ(h:pH a b):fW [oD a,oD b]=.ok (.str (strOf (jn (kH a b)))):=by
 have e1:ao "at least "=strOf [97,116,32,108,101,97,115,116,32]:=by decide +kernel
 have e2:ao "at most "=strOf [97,116,32,109,111,115,116,32]:=by decide +kernel
 have e3:ao "of "=strOf [111,102,32]:=by decide +kernel
 have e4:ao "from "=strOf [102,114,111,109,32]:=by decide +kernel
 have e5:ao " to "=strOf [32,116,111,32]:=by decide +kernel
 have C:∀(x:List Nat) (n:Int),Num n->x.length<=100->dF .Add (.str (strOf x)) (.str (strOf (aG n)))=.ok (.str (strOf (x++aG n))):=fun x n hn hx=>iM _ _ (by have:=(fV hn).2.2.2;omega);rcases a with _|a<;>rcases b with _|b
 ·exact h.elim
 ·have q:=pK (n:=b) h;have c1:=C [97,116,32,109,111,115,116,32] b h (by decide);show fW [.non,.int b]=.ok (.str (strOf ([97,116,32,109,111,115,116,32]++aG b)));unfold fW j_ mS;simp_arith [e1,e2,e3,e4,e5,q,c1]
 ·have q:=pK (n:=a) h;have c1:=C [97,116,32,108,101,97,115,116,32] a h (by decide);show fW [.int a,.non]=.ok (.str (strOf ([97,116,32,108,101,97,115,116,32]++aG a)));unfold fW j_ mS;simp_arith [e1,e2,e3,e4,e5,q,c1]
 ·obtain⟨h1,h2,h3⟩:=h;have q:=pK h1;have q2:=pK h2;show fW [.int a,.int b]=.ok (.str (strOf (jn (if a=b then[oV,aG a]else[fX,aG a,toL,aG b]))));unfold fW j_ mS;by_cases e:a=b
  ·have g:(a==b)=true:=by rw[beq_iff_eq];exact e
   rw[if_pos e];have c1:=C [111,102,32] a h1 (by decide);simp_arith [g,e1,e2,e3,e4,e5,q,c1];rfl
  ·have g:(a==b)=false:=by rw[beq_eq_false_iff_ne];exact e
   rw[if_neg e];have la:=(fV h1).2.2.2;have c1:=C [102,114,111,109,32] a h1 (by decide);have c2:=iM ([102,114,111,109,32]++aG a) [32,116,111,32] (by simp;omega);have c3:=C ([102,114,111,109,32]++aG a++[32,116,111,32]) b h2 (by simp;omega);have e6:[102,114,111,109,32]++aG a++[32,116,111,32]++aG b=jn [fX,aG a,toL,aG b]:=by
    rw[aW,aW];rfl
   rw[e6]at c3;generalize[102,114,111,109,32]++aG a++[32,116,111,32]=X at c2 c3;generalize[102,114,111,109,32]++aG a=aa5 at c1 c2;generalize jn [fX,aG a,toL,aG b]=Z at c3 ⊢;simp_arith [g,e1,e2,e3,e4,e5,q,q2,c1,c2,c3]
theorem AW(A:List (List Nat))(h:(jn A).length<=1000):dF .Add (.str (strOf (jn A))) (.str (strOf [32]))=.ok (.str (strOf (jn A++[32]))):=iM _ _ (by simp;omega)
theorem JV(A:List (List Nat))(y:List Nat)(B:List (List Nat))(hA:A≠[])(h:(jn A).length<=1000)(h2:(jn (y::B)).length<=1000):dF .Add (.str (strOf (jn A++[32]))) (.str (strOf (jn (y::B))))=.ok (.str (strOf (jn (A++y::B)))):=by
 rw[iM _ _ (by simp;omega),<-qz A y B hA,aW];rfl
theorem Rw.wok{w:Rw}(h:w.Ok):(∀x∈w.words,fE x)/\w.words.length<=12:=by
 have k:=uY;have app:∀{a b:List (List Nat)},(∀x∈a,fE x)->(∀x∈b,fE x)->∀x∈a++b,fE x:=fun ha hb x hx=>by
  rcases a_.mp hx with hx|hx
  ·exact ha x hx
  ·exact hb x hx
 have cns:∀{a:List Nat}{b:List (List Nat)},fE a->(∀x∈b,fE x)->∀x∈a::b,fE x:=fun ha hb x hx=>by
  rcases aH.mp hx with rfl|hx
  ·exact ha
  ·exact hb x hx
 cases w with
 |parts n c l ks=>
  obtain⟨h1,h2,h3⟩:=h;have hl:=pJ h3;refine⟨app ?_ (app ?_ h3.ok),?_⟩
  ·unfold f9;split
   ·exact all2 (k _ (by decide)) (fV (qN h1))
   ·split
    ·exact cns (k _ (by decide)) (by simp)
    ·exact AV (k _ (by decide)) (k _ (by decide)) (fV (qN h1))
  ·unfold ir;rcases h2 with rfl|h2
   ·simp
   ·rw[if_neg h2.nn];exact cns h2.ok (by simp)
  ·show(f9 n c++(ir l++bx ks)).length<=12;have a1:(f9 n c).length<=3:=by
    unfold f9;split
    ·simp
    ·split<;>simp
   have a2:(ir l).length<=1:=by unfold ir;split<;>simp
   rw[ak,ak];omega
 |join l x v l2 x2=>
  obtain⟨h1,h2,h3⟩:=h;refine⟨cns (k _ (by decide)) (app h1.ok (cns h2.ok (cns (k _ (by decide)) h3.ok))),?_⟩;have a1:=fq l x;have a2:=fq l2 x2;show(aP::(aE l x++v::aP::aE l2 x2)).length<=12;simp only[aB,ak];omega
 |size l x v a b=>
  obtain⟨h1,h2,h3⟩:=h;refine⟨cns (k _ (by decide)) (app h1.ok (cns h2.ok (Ls h3))),?_⟩;have a1:=fq l x;have a2:(kH a b).length<=4:=by
   rcases a with _|a<;>rcases b with _|b
   ·exact h3.elim
   ·exact jv 3
   ·exact jv 3
   ·show(if a=b then[oV,aG a]else[fX,aG a,toL,aG b]).length<=4;split<;>simp
  show(aP::(aE l x++v::kH a b)).length<=12;simp only[aB,ak];omega
 |isa l x ks=>
  obtain⟨h1,h2⟩:=h;refine⟨cns (k _ (by decide)) (app h1.ok (cns (k _ (by decide)) (cns (k _ (by decide)) h2.ok))),?_⟩;have a1:=fq l x;have a2:=pJ h2;show(aP::(aE l x++gf::aL::bx ks)).length<=12;simp only[aB,ak];omega
 |aU v l x=>
  obtain⟨h1,h2⟩:=h;refine⟨cns (k _ (by decide)) (cns h1.ok (cns (k _ (by decide)) h2.ok)),?_⟩;have a1:=fq l x;show(cJ::v::aP::aE l x).length<=12;simp only[aB];omega
theorem gb(h:∀w∈ws,fE w)(hl:ws.length<=12):(jn ws).length<=1000:=by
 have:=ON ws h;omega
theorem cL{a:List Nat}{b:List (List Nat)}(ha:fE a)(hb:∀x∈b,fE x):∀x∈a::b,fE x:=fun x hx=>by
 rcases aH.mp hx with rfl|hx
 ·exact ha
 ·exact hb x hx
theorem sS{a b:List (List Nat)}(ha:∀x∈a,fE x)(hb:∀x∈b,fE x):∀x∈a++b,fE x:=fun x hx=>by
 rcases a_.mp hx with hx|hx
 ·exact ha x hx
 ·exact hb x hx
theorem kw(w:List Nat)(h:w∈p7:=by decide):fE w:=uY w h
theorem ne_str:(ao "join"==ao "parts")=false/\(ao "size"==ao "parts")=false/\(ao "size"==ao "join")=false/\(ao "is"==ao "parts")=false/\(ao "is"==ao "join")=false/\(ao "is"==ao "size")=false/\(ao "then"==ao "parts")=false/\(ao "then"==ao "join")=false/\(ao "then"==ao "size")=false/\(ao "then"==ao "is")=false:=by decide +kernel
theorem XN{y:List Nat}{B:List (List Nat)}(h:d7 l k)(hv:W v)(hB:∀w∈y::B,fE w)(hl:(y::B).length<=6) :
  ∃x2 x3 x4,dF .Add (.str (strOf (jn (aP::aE l k)))) (.str (strOf [32]))=.ok (.str x2)/\dF .Add (.str x2) (.str (strOf v))=.ok (.str x3)/\dF .Add (.str x3) (.str (strOf [32]))=.ok (.str x4)/\dF .Add (.str x4) (.str (strOf (jn (y::B))))=.ok (.str (strOf (jn (aP::(aE l k++v::y::B))))):=by
 have a1:=fq l k;have o1:=cL (kw aP) h.ok;have o2:∀w∈[v],fE w:=cL hv.ok (by simp);have o3:=sS o1 o2;have l1:=gb o1 (by rw[aB];omega);have l3:=gb o3 (by simp only[ak,aB,cN];omega);refine⟨_,_,_,AW _ l1,JV _ v [] (by simp) l1 (gb o2 (by simp)),AW _ l3,?_⟩;have q:=JV (aP::aE l k++[v]) y B (by simp) l3 (gb hB (by omega));rw[aW]at q;exact q
theorem Sz(h:d7 l k)(hv:W v)(h2:d7 l2 k2):dR [.tup [.str "join",eV l k,wD v,eV l2 k2]]=.ok (.str (strOf (jn (aP::(aE l k++v::aP::aE l2 k2))))):=by
 obtain⟨n1,_⟩:=ne_str;obtain⟨x2,x3,x4,b1,b2,b3,b4⟩:=XN (y:=aP) h hv (cL (kw aP) h2.ok) (by have:=fq l2 k2;rw[aB];omega);have q1:fU [.tup [.str (strOf l),.str (strOf k)]]=_:=ou h;have q2:fU [.tup [.str (strOf l2),.str (strOf k2)]]=_:=ou h2;show dR [.tup [.str "join",.tup [.str (strOf l),.str (strOf k)],.str (strOf v),.tup [.str (strOf l2),.str (strOf k2)]]]=_;generalize strOf (jn (aP::aE l k))=x1 at b1 q1;generalize strOf (jn (aP::aE l2 k2))=y1 at b4 q2;generalize strOf (jn (aP::(aE l k++v::aP::aE l2 k2)))=z at b4 ⊢;unfold dR nj j0;simp_arith [gc,jz,at2,BZ,n1,q1,q2,spS,b1,b2,b3,b4]
theorem Dk(h:pH a b):∃y B,kH a b=y::B/\(y::B).length<=6:=by
 rcases a with _|a<;>rcases b with _|b
 ·exact h.elim
 ·exact⟨_,_,rfl,by simp⟩
 ·exact⟨_,_,rfl,by simp⟩
 ·by_cases e:a=b
  ·exact⟨oV,[aG a],by show(if a=b then _ else _)=_;rw[if_pos e],by simp⟩
  ·exact⟨fX,[aG a,toL,aG b],by show(if a=b then _ else _)=_;rw[if_neg e],by simp⟩
theorem SA(h:d7 l k)(hv:W v)(h2:pH a b):dR [.tup [.str "size",eV l k,wD v,oD a,oD b]]=.ok (.str (strOf (jn (aP::(aE l k++v::kH a b))))):=by
 obtain⟨_,n1,n2,_⟩:=ne_str;obtain⟨y,B,e,hB⟩:=Dk h2;have o:=Ls h2;have q2:=IJ h2;rw[e]at o q2 ⊢;obtain⟨x2,x3,x4,b1,b2,b3,b4⟩:=XN h hv o hB;have q1:fU [.tup [.str (strOf l),.str (strOf k)]]=_:=ou h;have fa:=mU a;have fb:=mU b;show dR [.tup [.str "size",.tup [.str (strOf l),.str (strOf k)],.str (strOf v),oD a,oD b]]=_;generalize strOf (jn (aP::aE l k))=x1 at b1 q1;generalize strOf (jn (y::B))=y1 at b4 q2;generalize strOf (jn (aP::(aE l k++v::y::B)))=z at b4 ⊢;unfold dR nj j0;simp_arith [gc,jz,at2,BZ,Hq,fa,fb,n1,n2,q1,q2,spS,b1,b2,b3,b4]
theorem SD(hv:W v)(h:d7 l k):dR [.tup [.str "then",wD v,eV l k]]=.ok (.str (strOf (jn (cJ::v::aP::aE l k)))):=by
 obtain⟨_,_,_,_,_,_,n1,n2,n3,n4⟩:=ne_str;have q1:fU [.tup [.str (strOf l),.str (strOf k)]]=_:=ou h;have e1:ao "then "=strOf (jn [cJ]++[32]):=by decide +kernel
 have a1:=fq l k;have o2:∀w∈[v],fE w:=cL hv.ok (by simp);have o3:∀w∈[cJ,v],fE w:=cL (kw cJ) o2;have l3:=gb o3 (by simp);have b1:dF .Add (.str (strOf (jn [cJ]++[32]))) (.str (strOf v))=_:=JV [cJ] v [] (by simp) (by decide) (gb o2 (by simp));have b2:=AW _ l3;have b3:=JV [cJ,v] aP (aE l k) (by simp) l3 (gb (cL (kw aP) h.ok) (by rw[aB];omega));show dR [.tup [.str "then",.str (strOf v),.tup [.str (strOf l),.str (strOf k)]]]=.ok (.str (strOf (jn ([cJ,v]++aP::aE l k))));generalize strOf (jn [cJ]++[32])=x0 at e1 b1;change dF .Add (.str x0) (.str (strOf v))=.ok (.str (strOf (jn [cJ,v])))at b1;generalize strOf (jn (aP::aE l k))=x1 at b3 q1;generalize strOf (jn ([cJ,v]++aP::aE l k))=z at b3 ⊢;generalize strOf (jn [cJ,v]++[32])=x2 at b2 b3;generalize strOf (jn [cJ,v])=x3 at b1 b2;unfold dR nj j0;simp_arith [gc,jz,at2,n1,n2,n3,n4,e1,q1,spS,b1,b2,b3]
theorem rL(h:oq ks):kB .join (.str (strOf [32,111,114,32])) [.lst false (ks.map wD)]=.ok (.str (strOf (jn (bx ks)))):=by
 rw[uZ _ ks false (by have:=h.2.1.2;omega) (fun w hw=>by have:=(h.1 w hw).ok.2.2.2;omega) (by decide),zj]
theorem SE(h:d7 l k)(hk:oq ks):dR [.tup [.str "is",eV l k,.lst false (ks.map wD)]]=.ok (.str (strOf (jn (aP::(aE l k++gf::aL::bx ks))))):=by
 obtain⟨_,_,_,n1,n2,n3,_⟩:=ne_str;have q1:fU [.tup [.str (strOf l),.str (strOf k)]]=_:=ou h;have q2:=rL hk;have e1:ao " is a "=strOf [32,105,115,32,97,32]:=by decide +kernel
 have a1:=fq l k;have o1:=cL (kw aP) h.ok;have o2:=sS o1 (cL (kw gf) (cL (kw aL) (by simp:∀w∈[],fE w)));have l1:=gb o1 (by rw[aB];omega);have l2:=gb o2 (by simp only[ak,aB,cN];omega);have b1:dF .Add (.str (strOf (jn (aP::aE l k)))) (.str (strOf [32,105,115,32,97,32]))=.ok (.str (strOf (jn (aP::aE l k++[gf,aL])++[32]))):=by
  rw[iM _ _ (by simp;omega),<-qz (aP::aE l k) gf [aL] (by simp),aW];rfl
 have b2:dF .Add (.str (strOf (jn (aP::aE l k++[gf,aL])++[32]))) (.str (strOf (jn (bx ks))))=.ok (.str (strOf (jn (aP::(aE l k++gf::aL::bx ks))))):=by
  have ok:=hk.ok;have ol:=pJ hk;obtain⟨y,B,e⟩:∃y B,bx ks=y::B:=by
   cases ks with
   |nil=>exact absurd hk.2.1.1 (by decide)
   |cons a r=>obtain⟨tl,e⟩:=j3 a r;exact⟨_,_,e⟩
  rw[e]at ok ol ⊢;have q:=JV (aP::aE l k++[gf,aL]) y B (by simp) l2 (gb ok (by omega));rw[aW]at q;exact q
 have fk:=cH ks;show dR [.tup [.str "is",.tup [.str (strOf l),.str (strOf k)],.lst false (ks.map wD)]]=_;generalize strOf (jn (aP::(aE l k++gf::aL::bx ks)))=z at b2 ⊢;generalize strOf (jn (aP::aE l k++[gf,aL])++[32])=x2 at b1 b2;generalize strOf (jn (aP::aE l k))=x1 at b1 q1;generalize strOf (jn (bx ks))=y1 at b2 q2;generalize ks.map wD=K at q2 fk ⊢;unfold dR nj j0;simp_arith [gc,jz,at2,fk,n1,n2,n3,q1,e1,b1,B3,q2,b2]
theorem dj{p:α->Prop}{a:α}{b:List α}(ha:p a)(hb:∀x∈b,p x):∀x∈a::b,p x:=fun x hx=>by
 rcases aH.mp hx with rfl|hx
 ·exact ha
 ·exact hb x hx
variable{c:Bool}
theorem SG(hn:1<=n/\n<=5)(hl:l=[]\/W l)(hk:oq ks):dR [.tup [.str "parts",.int n,.bl c,wD l,.lst false (ks.map wD)]]=.ok (.str (strOf (jn (f9 n c++(ir l++bx ks))))):=by
 have hs:=szl;have q2:=rL hk;have fk:=cH ks;have qn:=pK (qN hn);have nl:=(fV (qN hn)).2.2.2;have e1:ao "at least "=strOf [97,116,32,108,101,97,115,116,32]:=by decide +kernel
 have e2:ao "a"=strOf aL:=by decide +kernel
 have e3:ao "just "=strOf [106,117,115,116,32]:=by decide +kernel
 have e0:(ao "parts"==ao "parts")=true:=by decide +kernel
 have b1:dF .Add (.str (strOf [97,116,32,108,101,97,115,116,32])) (.str (strOf (aG n)))=.ok (.str (strOf (jn [ig,f7,aG n]))):=iM _ _ (by simp;omega);have b2:dF .Add (.str (strOf [106,117,115,116,32])) (.str (strOf (aG n)))=.ok (.str (strOf (jn [mT,aG n]))):=iM _ _ (by simp;omega);have oh:(∀w∈f9 n c,fE w)/\∃a r,f9 n c=a::r/\r.length<=2:=by
  unfold f9;split
  ·exact⟨all2 (kw mT) (fV (qN hn)),_,_,rfl,by simp⟩
  ·split
   ·exact⟨cL (kw aL) (by simp),_,_,rfl,by simp⟩
   ·exact⟨AV (kw ig) (kw f7) (fV (qN hn)),_,_,rfl,by simp⟩
 obtain⟨oh,ha,hr,eh,hlr⟩:=oh;have hH:jn (f9 n c)≠[]:=by
  intro z;have:=v5 _ oh;rw[z,eh]at this;cases this
 obtain⟨y,B,ek⟩:∃y B,bx ks=y::B:=by
  cases ks with
  |nil=>exact absurd hk.2.1.1 (by decide)
  |cons a r=>obtain⟨tl,e⟩:=j3 a r;exact⟨_,_,e⟩
 have hK:jn (bx ks)≠[]:=by
  intro z;have:=v5 _ hk.ok;rw[z,ek]at this;cases this
 have ne:∀{w:List Nat},w≠[]->(strOf w==strOf [])=false:=fun h=>by rw[k8,decide_eq_false h]
 have fe:[jn (f9 n c),l,jn (bx ks)].filter (fun w=>!(strOf w==strOf []))=jn (f9 n c)::(ir l++[jn (bx ks)]):=by
  unfold ir;rcases hl with rfl|hl
  ·have e1:=beq_self_eq_true (strOf []);simp[uE,ne hH,ne hK,e1]
  ·rw[if_neg hl.nn];simp[uE,ne hH,ne hK,hl.ne]
 have lH:=gb oh (by rw[eh,aB];omega);have lK:=gb hk.ok (by have:=pJ hk;omega);have ej:jn (jn (f9 n c)::(ir l++[jn (bx ks)]))=jn (f9 n c++(ir l++bx ks)):=by
  have hne:f9 n c≠[]:=by rw[eh];simp
  unfold ir;rw[ek];rcases hl with rfl|hl
  ·rw[if_pos rfl];exact qz (f9 n c) y B hne
  ·rw[if_neg hl.nn];show jn (f9 n c)++32::(l++32::jn (y::B))=_;exact qz (f9 n c) l (y::B) hne
 have q:dg (pG (.name 0)) (pT j0 (.cmp .NotEq (.var 0) (.con (.str (strOf []))))) (pE j0 (.var 0)) [D.str (strOf (jn (f9 n c))),.str (strOf l),.str (strOf (jn (bx ks)))] [none]=.ok ((jn (f9 n c)::(ir l++[jn (bx ks)])).map wD):=by
  rw[<-fe];refine kT wD (fun O=>∃o,O=[o]) (fun w=>!(strOf w==strOf [])) wD [jn (f9 n c),l,jn (bx ks)] _ ⟨none,rfl⟩ ?_;rintro p _ O ⟨o,rfl⟩;refine⟨[some (wD p)],rfl,⟨_,rfl⟩,?_,?_⟩
  ·unfold wD;simp_arith []
  ·rfl
 have ll:l.length<=40:=by
  rcases hl with rfl|hl
  ·simp
  ·exact hl.ok.2.2.2
 have qj:=uZ [32] (jn (f9 n c)::(ir l++[jn (bx ks)])) true (by unfold ir;split<;>simp) (dj lH (by
  unfold ir;split
  ·exact dj lK (by simp)
  ·exact dj (by omega) (dj lK (by simp)))) (by decide)
 rw[Dj,ej]at qj;unfold j0 at q;show dR [.tup [.str "parts",.int n,.bl c,.str (strOf l),.lst false (ks.map wD)]]=_;generalize strOf (jn (f9 n c++(ir l++bx ks)))=z at qj ⊢;generalize(jn (f9 n c)::(ir l++[jn (bx ks)])).map wD=X at q qj;generalize strOf (jn (bx ks))=y1 at q q2;generalize ks.map wD=K at q2 fk ⊢;unfold dR nj j0;unfold f9 at q;cases c with
 |true=>
  rw[if_pos rfl]at q;generalize strOf (jn [mT,aG n])=x1 at b2 q;cases g:(n==1)with
  |true=>simp_arith [gc,jz,at2,BZ,Hq,e0,e1,e2,e3,qn,b1,b2,g,fk,B3,q2,qy,q,spS,qj]
  |false=>simp_arith [gc,jz,at2,BZ,Hq,e0,e1,e2,e3,qn,b1,b2,g,fk,B3,q2,qy,q,spS,qj]
 |false=>
  rw[if_neg (by decide)]at q;by_cases g:n=1
  ·rw[if_pos g]at q;have g:(n==1)=true:=by rw[beq_iff_eq];exact g
   have q:dg _ _ _ [D.str (strOf aL),_,_] _=_:=q;simp_arith [gc,jz,at2,BZ,Hq,e0,e1,e2,e3,qn,b1,b2,g,fk,B3,q2,qy,q,spS,qj]
  ·rw[if_neg g]at q;have g:(n==1)=false:=by rw[beq_eq_false_iff_ne];exact g
   generalize strOf (jn [ig,f7,aG n])=x1 at b1 q;simp_arith [gc,jz,at2,BZ,Hq,e0,e1,e2,e3,qn,b1,b2,g,fk,B3,q2,qy,q,spS,qj]
theorem XO(w:Rw)(h:w.Ok):dR [bh w.val]=.ok (.str (strOf (jn w.words))):=by
 cases w with
 |parts n c l ks=>
  have q:=SG (c:=c) h.1 h.2.1 h.2.2;rw[<-cH ks]at q;exact q
 |join l k v l2 k2=>exact Sz h.1 h.2.1 h.2.2
 |size l k v a b=>
  have q:=SA h.1 h.2.1 h.2.2;show dR [.tup [.str "size",eV l k,wD v,bh (oD a),bh (oD b)]]=_;rw[mU a,mU b];exact q
 |isa l k ks=>
  have q:=SE h.1 h.2;rw[<-cH ks]at q;exact q
 |aU v l k=>exact SD h.1 h.2
section
variable{g:D->bf->R bf}{b:bf->Fl}{d:D}{r:List D}{O σ2 σ3:bf} (h1:g d O=.ok σ2)
include h1
theorem mD(h2:b σ2=.nx σ3):forR g b (d::r) O=forR g b r σ3:=by
 show(g d O).aU _=_;rw[h1];simp only[R.aU,h2]
end
noncomputable def gI(ns:List Int):List (List Nat):=if ns=[]then[]else jT::bx (ns.map aG)
def rising:List Int->Prop
|a::b::r=>a<b/\rising (b::r)
|_=>True
structure pL (ns:List Int) (above:Int):Prop where
 l:ns.length<=4
 r:rising ns
 b:∀n∈ns,1<=n/\n<=above
theorem onS:ao "on"=strOf jT:=by decide +kernel
theorem ch4(a b c d:List Nat):fS [bW [a,oj,b,oj,c,oj,d]]=.ok (.lst true [wD a,wD b,wD c,wD d]):=by kernel_rfl
theorem Lu(ks:List (List Nat))(h:1<=ks.length/\ks.length<=4):fS [bW (bx ks)]=.ok (.lst true (ks.map wD)):=by
 rcases ks with _|⟨a,_|⟨b,_|⟨c,_|⟨d,_|⟨e,r⟩⟩⟩⟩⟩
 ·exact absurd h.1 (by decide)
 ·exact ZM a
 ·exact ZN a b
 ·exact ZO a b c
 ·exact ch4 a b c d
 ·exact absurd h.2 (by simp only[aB];omega)
theorem SH(ns:List Int)(h:∀n∈ns,Num n):dg (pG (.name 0)) (fun _=>.ok true) (pE gi (.call 0 (.cons (.var 0) .nil))) (ns.map fun n=>wD (aG n)) [none]=.ok (ns.map D.int):=by
 refine gR (fun n=>wD (aG n)) (fun O=>∃o,O=[o]) D.int ns _ ⟨none,rfl⟩ ?_;rintro n hn O ⟨o,rfl⟩;refine⟨[some (wD (aG n))],rfl,⟨_,rfl⟩,?_⟩;have q:c9 [.str (strOf (aG n))]=.ok (.int n):=vZ (h n hn);unfold gi wD;simp_arith [q]
theorem HA(s0 s1 s2:Option D):∀(a:Int) (r:List Int) (h:rising (a::r)) (s3 s4:Option D),∃t3 t4,forR (pG (.tup (.cons (.name 3) (.cons (.name 4) .nil)))) (dP gi 1000 kU) (nc ((a::r).map D.int) (r.map D.int)) [s0,s1,s2,s3,s4]=.nx [s0,s1,s2,t3,t4]
|a,[],h,s3,s4=>⟨s3,s4,rfl⟩
|a,b::r,h,s3,s4=>by
 obtain⟨t3,t4,ih⟩:=HA s0 s1 s2 b r h.2 (some (.int a)) (some (.int b));refine⟨t3,t4,?_⟩;have l1:decide (b<=a)=false:=decide_eq_false (by have:=h.1;omega);show forR _ _ (.tup [.int a,.int b]::nc ((b::r).map D.int) (r.map D.int)) _=_;rw[mD (σ3:=[s0,s1,s2,some (.int a),some (.int b)]) rfl (by
  unfold kU gi;simp_arith [l1])]
 exact ih
theorem XQ(ns:List Int):memD .non (ns.map D.int)=false:=by
 unfold memD;rw[yP,l9];intro n _ h;cases h
theorem r9(n:Nat):∀l:List D,(∀d∈l,l5 d n=true)->fK l n=true
|[],_=>rfl
|d::r,h=>by
 show(l5 d n&&fK r n)=true;rw[h d ay,r9 n r fun x hx=>h x (aj _ hx)];rfl
theorem HC{o:Bool}{l:List D}(h:∀d∈l,l5 d 11=true):dm (.lst o l)=true:=r9 11 l h
theorem HD(a:List Nat)(r:List (List Nat)):bS .Eq (bW (a::r)) (.lst true [])=.ok (.bl false):=by
 rw[zd (show dm (bW (a::r))=true from HC fun d hd=>by obtain⟨i,_,rfl⟩:=bT.mp hd;rfl) rfl];rfl
variable{ns:List Int}{ab:Int}
theorem u5(h:pL ns ab)(ha:ab<=12):∀n∈ns,Num n:=fun n hn=>by
 have:=h.b n hn;have:(12:Int)<10 ^ 30:=by decide
 exact⟨by omega,by omega⟩
theorem VE(h:pL ns ab)(ha:ab<=12):∃o,gZ [bW (gI ns)]=.ok (.lst o (ns.map D.int)):=by
 have hs:=szl;cases ns with
 |nil=>exact⟨true,by kernel_rfl⟩
 |cons a r=>
  refine⟨false,?_⟩;have hn:=u5 h ha;have fi:=gv (a::r);have fr':=gv r;have nr:=HD jT (bx ((a::r).map aG));have fw:=cH (bx ((a::r).map aG));have qc:=Lu ((a::r).map aG) (by have:=h.l;rw[az];exact⟨by simp,this⟩);have q:=SH (a::r) hn;have fm:aD (((a::r).map aG).map wD)=((a::r).map aG).map wD:=cH _;have q:dg (pG (.name 0)) (fun _=>.ok true) (pE gi (.call 0 (.cons (.var 0) .nil))) (((a::r).map aG).map wD) [none]=.ok ((a::r).map D.int):=by rw[bJ];exact q
  have mo:bS .In .non (.lst false ((a::r).map D.int))=.ok (.bl false):=by
   rw[GO rfl (r9 12 _ fun d hd=>by obtain⟨i,_,rfl⟩:=bT.mp hd;rfl),XQ]
  have l0:decide (a<0)=false:=decide_eq_false (by have:=h.b a ay;omega);have i0:fC ((a::r).map D.int) 0=some (.int a):=gc _ _;have c2:cut ((a::r).map D.int) (some 1) none=r.map D.int:=fj _ 1 (by simp);have c1:cut (D.str (strOf jT)::(bx ((a::r).map aG)).map wD) (some 1) none=(bx ((a::r).map aG)).map wD:=fj _ 1 (by simp);have oi:=rZ (a::r);have ow:=kG ((a::r).map aG);have zl:=fun s0 s1 s2=>HA s0 s1 s2 a r h.r none none;have qc:fS [.lst false ((bx ((a::r).map aG)).map wD)]=_:=qc;have nr:bS .Eq (.lst false (.str (strOf jT)::(bx ((a::r).map aG)).map wD)) (.lst true [])=.ok (.bl false):=nr;show gZ [.lst false (.str (strOf jT)::(bx ((a::r).map aG)).map wD)]=_;generalize(bx ((a::r).map aG)).map wD=W1 at *;generalize((a::r).map aG).map wD=W2 at *;generalize(a::r).map D.int=W3 at *;generalize r.map D.int=W4 at *;unfold gZ nW;unfold gi at q zl ⊢;simp_arith [nr,fw,gc,onS,c1,qc,fm,ow,q,fi,mo,i0,l0,c2,fr',oi];obtain⟨t3,t4,zl⟩:=zl _ _ _;rw[zl];simp_arith []
theorem B4(row ab:Int)(w t:Option D):∀(ns:List Int) (h:∀n∈ns,1<=n/\n<=ab) (x:Option D),∃y,forR (pG (.name 4)) (dP rJ 1000 qL) (ns.map D.int) [w,some (.int row),some (.int ab),t,x]=.nx [w,some (.int row),some (.int ab),t,y]
|[],_,x=>⟨x,rfl⟩
|n::r,h,x=>by
 obtain⟨y,q⟩:=B4 row ab w t r (fun m hm=>h m (aj _ hm)) (some (.int n));refine⟨y,?_⟩;have g1:=decide_eq_true (h n ay).1;have g2:=decide_eq_true (h n ay).2;rw[cj,mD (σ3:=[w,some (.int row),some (.int ab),t,some (.int n)]) rfl (by
  unfold qL rJ;simp_arith [g1,g2]),q]
theorem VF(h:pL ns ab)(ha:ab<=12)(row:Int):nY [bW (bz::gI ns),.int row,.int ab]=.ok (.lst false (ns.map D.int)):=by
 have fr:=cH (gI ns);have fi:=gv ns;obtain⟨o,q⟩:=VE h ha;have q:gZ [.lst false ((gI ns).map wD)]=_:=q;have c1:cut (D.str (strOf bz)::(gI ns).map wD) (some 1) none=(gI ns).map wD:=fj _ 1 (by simp);show nY [.lst false (.str (strOf bz)::(gI ns).map wD),.int row,.int ab]=_;generalize(gI ns).map wD=T at fr q c1 ⊢;have hl:=fun w t=>B4 row ab w t ns h.b none;unfold nY vP;unfold rJ at hl ⊢;have ho:=rZ ns;have key:∀b,gQ [0] b [some (.lst false (.str (strOf bz)::T)),some (.int row),some (.int ab),none,none]=[some (.lst false (.str (strOf bz)::T)),some (.int row),some (.int ab),none,none]:=fun b=>by
  cases b with
  |true=>rfl
  |false=>simp_arith [fr]
 simp_arith [fr,c1,q,fi,ho,key];obtain⟨y,hl⟩:=hl (some (.lst false (.str (strOf bz)::T))) (some (.lst false (ns.map D.int)));rw[hl];simp_arith []
theorem XR(w:Rw):ie (bh w.val)=false:=by cases w<;>rfl
theorem B5(w:Rw):aX w.val=true:=by
 cases w with
 |parts n c l ks=>show(cR (ks.map wD)&&true)=true;rw[kG];rfl
 |isa l k ks=>show(cR (ks.map wD)&&true)=true;rw[kG];rfl
 |size l k v a b=>rcases a with _|a<;>rcases b with _|b<;>rfl
 |_=>rfl
theorem T5(ks:List (List Nat))(n:Nat):fK (ks.map wD) n=true:=r9 _ _ fun d hd=>by obtain⟨i,_,rfl⟩:=bT.mp hd;rfl
theorem XS(w:Rw):l5 (bh w.val) 9=true:=by
 cases w with
 |parts n c l ks=>show(fK (aD (ks.map wD)) 7&&true)=true;rw[cH,T5];rfl
 |isa l k ks=>show(fK (aD (ks.map wD)) 7&&true)=true;rw[cH,T5];rfl
 |size l k v a b=>rcases a with _|a<;>rcases b with _|b<;>rfl
 |_=>rfl
theorem SI{w:Rw}(h:w.Ok)(row ab:Int)(ha:ab<12):vV [bW w.words,.int row,.int ab]=.ok w.val:=by
 have q:=Zm w h;have fr:=B0 w.words;have hn:=XR w;have ho:=B5 w;have g:=decide_eq_false (show ¬(12:Int)<=ab by omega);unfold vV AO G1;generalize bW w.words=d at q fr ⊢;generalize w.val=v at q hn ho ⊢;simp_arith [q,fr,hn,ho,g]
noncomputable abbrev Cl:=List Int×List Rw
noncomputable def cD(p:Cl):D:=.tup [.lst false (p.1.map D.int),.lst true (p.2.map Rw.val)]
noncomputable def cF(p:Cl):D:=.tup [.lst false (p.1.map D.int),.lst false (aD (p.2.map Rw.val))]
theorem B6:∀C:List Cl,aD (C.map cD)=C.map cF
|[]=>rfl
|p::r=>by
 show bh (cD p)::aD (r.map cD)=_;rw[B6 r];show D.tup [.lst false (aD (p.1.map D.int)),.lst false (aD (p.2.map Rw.val))]::_=_;rw[gv];rfl
theorem frzs_map':∀l:List D,aD l=l.map bh
|[]=>rfl
|d::r=>by
 show bh d::aD r=_;rw[frzs_map' r];rfl
theorem Zo(C:List Cl)(hn:C≠[]):bS .Eq (.lst false (C.map cF)) (.lst true [])=.ok (.bl false):=by
 rw[zd (HC (l:=C.map cF) fun d hd=>by
  obtain⟨p,hp,rfl⟩:=bT.mp hd;show(fK (p.1.map D.int) 9&&(fK (aD (p.2.map Rw.val)) 9&&true))=true;rw[r9 _ _ (fun d hd=>by obtain⟨i,_,rfl⟩:=bT.mp hd;rfl),r9 _ _ (fun d hd=>by
   rw[frzs_map',bJ]at hd;obtain⟨w,_,rfl⟩:=bT.mp hd;exact XS w)]
  rfl) rfl]
 cases C with
 |nil=>exact absurd rfl hn
 |cons=>rfl
theorem OP(a:List Nat)(r:List (List Nat)):uM (bW (a::r)) (.int 0)=.ok (.str (strOf a)):=by
 show(R.opt (fC ((a::r).map wD) 0)).bind _=_;rw[show fC ((a::r).map wD) 0=some (wD a)from ki (j:=0) rfl];rfl
theorem B7:ao "claim"=strOf bz:=by decide +kernel
noncomputable abbrev EK(tx:Option D)(C:List Cl)(k:Int)(ws:List (List Nat))(tk:Option D):bf:=[tx,some (.lst true (C.map cD)),some (.int k),some (bW ws),tk,none]
noncomputable abbrev Af:bf->Fl:=dP jc 1000 jY
theorem SJ(tx tk:Option D)(C:List Cl)(hl:C.length<12)(k:Int)(h:pL ns (C.length:Int)):Af (EK tx C k (bz::gI ns) tk)=.nx (EK tx (C++[(ns,[])]) k (bz::gI ns) (some (.lst false (ns.map D.int)))):=by
 have hs:=szl;have nr:=HD bz (gI ns);have fr:=B0 (bz::gI ns);have h0:=OP bz (gI ns);have q:=VF h (by omega) k;have fi:=gv ns;have fc:=B6 C;have cl:(C.map cD).length=C.length:=az _;have cf:(C.map cF).length=C.length:=az _;have eb:=beq_self_eq_true (strOf bz);have ea:C.map cD++[.tup [.lst false (ns.map D.int),.lst true []]]=(C++[(ns,[])]).map cD:=by rw[cz];rfl
 have g:=decide_eq_false (show ¬(12:Int)<=(C.length:Int)by omega);unfold Af jY jc EK;rw[<-ea];generalize bW (bz::gI ns)=d at nr fr h0 q ⊢;generalize C.map cD=X at fc cl ⊢;generalize C.map cF=aa5 at fc cf ⊢;simp_arith [nr,fr,h0,B7,eb,fc,cf,q,fi,g];rw[kR (xs:=X) rfl (by omega) rfl];simp_arith [fi]
variable{M:List PG}{O:bf}
theorem XT{n:Nat}{s t:CS}{r:b6}:dP M n (.two s t r) O=sL (vK M s t O) (dP M n r):=by
 show(match vK M s t O with|.nx σ'=>dP M n r σ'|x=>x)=_;unfold sL;cases vK M s t O<;>rfl
variable{is:List Int}{o:CE}
theorem XU{j k:Nat}{a:CE}(h:sJ O o=some (k,is)):vK M (.asg (.name j) o) (.expr (.mth .append (.var j) (.cons a .nil))) O=C6 M k is j a O:=by
 show(if j=j then(match sJ O o with|some p=>C6 M p.1 p.2 j a O|none=>.bad)else .bad)=_;rw[if_pos rfl,h]
theorem zm(n:Nat):gY (n+1) (-1)=some n:=by
 unfold gY;simp;omega
theorem SK(Q:List D)(y:D)(r:List Int):iX (-1::r) (.lst true (Q++[y]))=iX r y:=by
 show((gY (Q++[y]).length (-1)).bind fun n=>((Q++[y])[n]?).bind fun y=>iX r y)=_;rw[ak,bF,zm _];show((Q++[y])[Q.length]?).bind _=_;rw[cP (aN _),oR];rfl
theorem HE(Q:List D)(t:D)(vs:List D)(hz:vs.length<=1000)(z:D):eF [-1,1] (.lst true (Q++[.tup [t,.lst true vs]])) z=some (.lst true (Q++[.tup [t,.lst true (vs++[z])]])):=by
 have hs:=szl;have e:eF [1] (.tup [t,.lst true vs]) z=some (.tup [t,.lst true (vs++[z])]):=by
  show(if vs.length<aa then some (D.lst true (vs++[z]))else none).map (fun y'=>D.tup [t,y'])=_;rw[if_pos (by omega)];rfl
 show((gY (Q++[D.tup [t,.lst true vs]]).length (-1)).bind fun n=>((Q++[D.tup [t,.lst true vs]])[n]?).bind fun y=>(eF [1] y z).map fun y'=>D.lst true ((Q++[D.tup [t,.lst true vs]]).set n y'))=_;rw[ak,bF,zm _];show((Q++[D.tup [t,.lst true vs]])[Q.length]?).bind _=_;rw[cP (aN _),oR];show(eF [1] (D.tup [t,.lst true vs]) z).map _=_;rw[e];show some (D.lst true ((Q++[D.tup [t,.lst true vs]]).set Q.length (.tup [t,.lst true (vs++[z])])))=_;rw[vn _ _ (aN _),oR];rfl
theorem Zp{a:CE}(s0 s2 s3 s4:Option D)(Q:List D)(p:Cl):C6 M 1 [-1,1] 5 a [s0,some (.lst true (Q++[cD p])),s2,s3,s4,none]=(pE M a [s0,some (.lst true (Q++[cD p])),s2,s3,s4,some (.lst true (p.2.map Rw.val))]).aU fun d=>if aX d=true then(R.opt (eF [-1,1] (.lst true (Q++[cD p])) d)).aU fun x'=>.nx [s0,some x',s2,s3,s4,none]else .bad:=by
 unfold C6;show(match iX [-1,1] (.lst true (Q++[cD p]))with
  |some (.lst true ys)=>if 5<6 then(pE M a [s0,some (.lst true (Q++[cD p])),s2,s3,s4,some (.lst true ys)]).aU fun d=>if aX d=true then(R.opt (eF [-1,1] (.lst true (Q++[cD p])) d)).aU fun x'=>.nx [s0,some x',s2,s3,s4,none]else .bad else .bad
  |_=>.bad)=_
 rw[SK];rfl
theorem hd_r(w:Rw):∃a r,w.words=a::r/\(strOf a==strOf bz)=false:=by
 cases w with
 |parts n c l ks=>
  show ∃a r,f9 n c++_=a::r/\_;unfold f9;split
  ·exact⟨_,_,rfl,by decide +kernel⟩
  ·split
   ·exact⟨_,_,rfl,by decide +kernel⟩
   ·exact⟨_,_,rfl,by decide +kernel⟩
 |join=>exact⟨_,_,rfl,by decide +kernel⟩
 |size=>exact⟨_,_,rfl,by decide +kernel⟩
 |isa=>exact⟨_,_,rfl,by decide +kernel⟩
 |aU=>exact⟨_,_,rfl,by decide +kernel⟩
theorem XW(tx tk:Option D)(k:Int)(w:Rw)(h:w.Ok)(Q:List Cl)(p:Cl)(hp:p.2.length<12):Af (EK tx (Q++[p]) k w.words tk)=.nx (EK tx (Q++[(p.1,p.2++[w])]) k w.words tk):=by
 have hs:=szl;obtain⟨a,r,ew,ha⟩:=hd_r w;have hx:=SI h k (p.2.length:Int) (by omega);have o:=B5 w;rw[ew]at hx ⊢;have nr:=HD a r;have fr:=B0 (a::r);have h0:=OP a r;have e:=Zo (Q++[p]) (by simp);have fc:=B6 (Q++[p]);have fl:(aD (p.2.map Rw.val)).length=p.2.length:=by rw[jW,az]
 have e1:∀p,(Q++[p]).map cD=Q.map cD++[cD p]:=fun p=>by rw[cz];rfl
 have al:=HE (Q.map cD) (.lst false (p.1.map D.int)) (p.2.map Rw.val) (by rw[az];omega) w.val;have em:p.2.map Rw.val++[w.val]=(p.2++[w]).map Rw.val:=by rw[cz];rfl
 rw[em]at al;unfold Af jY jc EK;rw[e1]at fc ⊢;rw[e1];generalize bW (a::r)=d at nr fr h0 hx ⊢;generalize(Q++[p]).map cF=aa5 at fc e ⊢;simp_arith [nr,fr,h0,B7,ha,fc,e,XT];rw[XU (k:=1) (is:=[-1,1]) rfl,Zp,show pE _ _ _=.ok w.val by
  simp_arith [fr,fl,hx],pq_thn_ok',if_pos o,show eF [-1,1] (.lst true (Q.map cD++[cD p])) w.val=_ from al]
 simp_arith [];rfl
def Dl(i:Nat)(p:Cl):Prop:=pL p.1 (i:Int)/\p.2.length<=12/\∀w∈p.2,w.Ok
def nF:Nat->List Cl->Prop
|_,[]=>True
|i,p::r=>Dl i p/\nF (i+1) r
noncomputable def u6(p:Cl):List (List (List Nat)):=(bz::gI p.1)::p.2.map Rw.words
noncomputable def lines(C:List Cl):List (List (List Nat)):=C.flatMap u6
noncomputable abbrev EL:D->bf->R bf:=pG (.tup (.cons (.name 2) (.cons (.name 3) .nil)))
theorem EM(tx s4:Option D)(Q:List Cl)(L:List D):∀(ws:List Rw) (h:∀w∈ws,w.Ok) (p:Cl) (hp:p.2.length+ws.length<=12) (j:Nat) (s2 s3:Option D),∃t2 t3,forR EL Af (iy j ((ws.map Rw.words).map bW++L)) [tx,some (.lst true ((Q++[p]).map cD)),s2,s3,s4,none]=forR EL Af (iy (j+ws.length) L) [tx,some (.lst true ((Q++[(p.1,p.2++ws)]).map cD)),t2,t3,s4,none]
|[],_,p,_,j,s2,s3=>⟨s2,s3,by rw[eZ];rfl⟩
|w::ws,h,p,hp,j,s2,s3=>by
 have hp:p.2.length+(ws.length+1)<=12:=hp;obtain⟨t2,t3,q⟩:=EM tx s4 Q L ws (fun x hx=>h x (aj _ hx)) (p.1,p.2++[w]) (by rw[ak,bF];omega) (j+1) (some (.int (j:Int))) (some (bW w.words));refine⟨t2,t3,?_⟩;have g1:EL (.tup [.int (j:Int),bW w.words]) [tx,some (.lst true ((Q++[p]).map cD)),s2,s3,s4,none]=.ok (EK tx (Q++[p]) (j:Int) w.words s4):=rfl;show forR EL Af (.tup [.int (j:Int),bW w.words]::iy (j+1) ((ws.map Rw.words).map bW++L)) _=_;rw[mD g1 (XW tx s4 (j:Int) w (h w ay) Q p (by omega)),q,aB,show p.2++[w]++ws=p.2++w::ws by simp,show j+1+ws.length=j+(ws.length+1)by omega]
theorem JW(tx:Option D):∀(C:List Cl) (C0:List Cl) (h:nF C0.length C) (hl:C0.length+C.length<=12) (j:Nat) (s2 s3 s4:Option D),∃t2 t3 t4,forR EL Af (iy j ((lines C).map bW)) [tx,some (.lst true (C0.map cD)),s2,s3,s4,none]=.nx [tx,some (.lst true ((C0++C).map cD)),t2,t3,t4,none]
|[],C0,_,_,j,s2,s3,s4=>⟨s2,s3,s4,by rw[eZ];rfl⟩
|p::r,C0,h,hl,j,s2,s3,s4=>by
 have hl:C0.length+(r.length+1)<=12:=hl;obtain⟨⟨h1,h2,h3⟩,h4⟩:=h;have g1:EL (.tup [.int (j:Int),bW (bz::gI p.1)]) [tx,some (.lst true (C0.map cD)),s2,s3,s4,none]=.ok (EK tx C0 (j:Int) (bz::gI p.1) s4):=rfl;obtain⟨u2,u3,q1⟩:=EM tx (some (.lst false (p.1.map D.int))) C0 ((lines r).map bW) p.2 h3 (p.1,[]) (by simpa using h2) (j+1) (some (.int (j:Int))) (some (bW (bz::gI p.1)));obtain⟨t2,t3,t4,q2⟩:=JW tx r (C0++[p]) (by rw[ak,bF];exact h4) (by rw[ak,bF];omega) (j+1+p.2.length) u2 u3 (some (.lst false (p.1.map D.int)));refine⟨t2,t3,t4,?_⟩;have e:(lines (p::r)).map bW=bW (bz::gI p.1)::((p.2.map Rw.words).map bW++(lines r).map bW):=by
  show((u6 p++lines r).map bW)=_;rw[cz];rfl
 rw[e];show forR EL Af (.tup [.int (j:Int),bW (bz::gI p.1)]::iy (j+1) ((p.2.map Rw.words).map bW++(lines r).map bW)) _=_;rw[mD g1 (SJ tx s4 C0 (by omega) (j:Int) h1),q1,kJ,q2,aW];rfl
theorem XX(C:List Cl)(h:nF 0 C)(hl:C.length<=12)(x:Str)(hx:pF x=lines C)(hb:x.length+2<=aa):jd [.str x]=.ok (.lst true (C.map cD)):=by
 have hs:=szl;have q:=OF x hb;obtain⟨t2,t3,t4,l⟩:=JW (some (.str x)) C [] h (by simpa using hl) 0 none none none;have e:aD ((pF x).map Dg)=(lines C).map bW:=by
  rw[hx];refine(frzs_map' _).trans ?_;rw[bJ];refine iY fun i _=>?_;show D.lst false (aD (i.map wD))=_;rw[cH];rfl
 have ho:cR ((pF x).map Dg)=true:=by
  have:∀l:List (List (List Nat)),cR (l.map Dg)=true:=fun l=>by
   induction l with
   |nil=>rfl
   |cons a r ih=>show((true&&cR (a.map wD))&&cR (r.map Dg))=true;rw[ih,kG];rfl
  exact this _
 have key:jd [.str x]=KZ (sL (forR EL Af (iy 0 ((lines C).map bW)) [some (.str x),some (.lst true (([]:List Cl).map cD)),none,none,none,none]) (dP jc 1000 (.cons (.ret (.var 1)) .nil))):=by
  unfold jd qK jc;simp_arith [q,e,ho];rfl
 rw[key,l,kJ];simp_arith []
noncomputable def txt(C:List Cl):Str:=ee (strOf [10]) (((lines C).map jn).map strOf)
theorem Lv:∀(ks:List (List Nat)),(∀w∈ks,fE w)->∀w∈bx ks,fE w
|[],_,w,h=>by cases h
|[a],h,w,hw=>h w hw
|a::b::t,h,w,hw=>by
 have hw:w∈a::oj::bx (b::t):=hw;rcases aH.mp hw with rfl|hw
 ·exact h w ay
 ·rcases aH.mp hw with rfl|hw
  ·exact uY _ (by decide)
  ·exact Lv (b::t) (fun x hx=>h x (aj _ hx)) w hw
theorem HF(ks:List (List Nat))(h:ks.length<=4):(bx ks).length<=7:=by
 rcases ks with _|⟨a,_|⟨b,_|⟨c,_|⟨d,_|⟨e,r⟩⟩⟩⟩⟩
 ·simp[bx]
 ·simp[bx]
 ·simp[bx]
 ·simp[bx]
 ·simp[bx]
 ·exact absurd h (by simp only[aB];omega)
theorem Zq(h:pL ns ab)(ha:ab<=12):(∀w∈bz::gI ns,fE w)/\(bz::gI ns).length<=12:=by
 unfold gI;split
 ·exact⟨cL (kw bz) (by simp),by simp⟩
 ·refine⟨cL (kw bz) (cL (kw jT) (Lv _ fun w hw=>?_)),?_⟩
  ·obtain⟨n,hn,rfl⟩:=bT.mp hw;exact fV (u5 h ha n hn)
  ·have:=HF (ns.map aG) (by rw[az];exact h.l);simp only[aB];omega
theorem Lw:∀(C:List Cl) (i:Nat) (h:nF i C) (hl:i+C.length<=12),∀l∈lines C,(∀w∈l,fE w)/\l.length<=12
|[],i,_,_,l,h=>by cases h
|p::r,i,h,hl,l,hm=>by
 have hl:i+(r.length+1)<=12:=hl;have hm:l∈u6 p++lines r:=hm;rcases a_.mp hm with hm|hm
 ·rcases aH.mp hm with rfl|hm
  ·exact Zq h.1.1 (by omega)
  ·obtain⟨w,hw,rfl⟩:=bT.mp hm;exact Rw.wok (h.1.2.2 w hw)
 ·exact Lw r (i+1) h.2 (by omega) l hm
theorem HG:∀(C:List Cl) (i:Nat) (h:nF i C),(lines C).length<=13*C.length
|[],_,_=>by simp[lines]
|p::r,i,h=>by
 have ih:=HG r (i+1) h.2;show(u6 p++lines r).length<=13*(r.length+1);have:=h.1.2.1;have e:(u6 p).length=p.2.length+1:=by show(p.2.map Rw.words).length+1=_;rw[az]
 rw[ak,e];omega
theorem VG(ls:List (List Nat))(h:∀l∈ls,l.length<=1000):∃l,ee (strOf [10]) (ls.map strOf)=strOf l/\l.length<=1001*ls.length:=by
 induction ls with
 |nil=>exact⟨[],rfl,by simp⟩
 |cons a r ih=>
  obtain⟨l,e,hl⟩:=ih fun x hx=>h x (aj _ hx);have ha:=h a ay;cases r with
  |nil=>exact⟨a,rfl,by simp;omega⟩
  |cons b t=>
   refine⟨a++[10]++l,?_,by simp only[ak,aB,cN]at hl ⊢;omega⟩;show strOf a++strOf [10]++ee (strOf [10]) ((b::t).map strOf)=_;rw[e,lP,lP]
theorem Lx(C:List Cl)(h:nF 0 C)(hl:C.length<=12)(hn:C≠[]):jd [.str (txt C)]=.ok (.lst true (C.map cD)):=by
 have hs:=szl;have ok:=Lw C 0 h (by omega);have ll:=HG C 0 h;have hb:(txt C).length+2<=aa:=by
  obtain⟨l,e,hl2⟩:=VG ((lines C).map jn) fun l hl=>by
   obtain⟨i,hi,rfl⟩:=bT.mp hl;exact gb (ok i hi).1 (ok i hi).2
  unfold txt;rw[e,gz];rw[az]at hl2;omega
 refine XX C h hl _ ?_ hb;have hne:lines C≠[]:=by
  cases C with
  |nil=>exact absurd rfl hn
  |cons p r=>exact fun z=>by cases z
 have q:=pU 10 ((((lines C).map jn).map strOf).map fun p:Str=>p.cps.toList) (txt C).cps.toList (by simpa using hne) (by
  intro p hp;rw[bJ,bJ]at hp;obtain⟨i,hi,rfl⟩:=bT.mp hp;exact T4 i (ok i hi).1) (join_list 10 _ (by simpa using hne))
 unfold pF;rw[q,bJ,bJ,bJ];exact(iY fun i hi=>v5 i (ok i hi).1).trans (Jf _)
def iC:Nat->D->Prop
|0,_=>False
|n+1,.lst o xs=>o=false/\∀y∈xs,iC n y
|n+1,.tup xs=>∀y∈xs,iC n y
|_+1,.non=>True
|_+1,.bl _=>True
|_+1,.int _=>True
|_+1,.str _=>True
|_+1,_=>False
theorem B8:∀(n:Nat) (x:D),iC n x->bh x=x
|0,x,h=>h.elim
|n+1,x,h=>by
 have key:∀xs:List D,(∀y∈xs,iC n y)->aD xs=xs:=fun xs h=>by
  rw[frzs_map'];exact(iY fun y hy=>B8 n y (h y hy)).trans (Jf _)
 cases x with
 |lst o xs=>
  obtain⟨rfl,h⟩:=h;show D.lst false (aD xs)=_;rw[key xs h]
 |tup xs=>
  show D.tup (aD xs)=_;rw[key xs h]
 |non=>rfl
 |bl=>rfl
 |int=>rfl
 |str=>rfl
 |_=>exact h.elim
theorem HH:∀xs:List D,nc xs xs=xs.map fun y=>.tup [y,y]
|[]=>rfl
|x::r=>by
 show D.tup [x,x]::nc r r=_;rw[HH r];rfl
theorem Ag(r:List D->R D)(xs:List D)(fz:∀y∈xs,bh y=y)(h:∀y∈xs,r [y,y]=.ok (.bl true)):dg (pG (.tup (.cons (.name 0) (.cons (.name 1) .nil)))) (fun _=>.ok true) (pE (iB r) (.call 0 (.cons (.var 0) (.cons (.var 1) .nil)))) (nc xs xs) [none,none]=.ok (xs.map fun _=>.bl true):=by
 rw[HH];refine gR (fun y=>D.tup [y,y]) (fun O=>∃o o',O=[o,o']) (fun _=>.bl true) xs _ ⟨none,none,rfl⟩ ?_;rintro y hy O ⟨o,o',rfl⟩;refine⟨[some y,some y],rfl,⟨_,_,rfl⟩,?_⟩;have f:=fz y hy;have q:=h y hy;unfold iB;simp_arith [f,q]
theorem OQ(xs:List D):(xs.map fun _=>D.bl true).all mL=true/\(xs.map fun _=>D.bl true).all nP=true:=by
 rw[iT,iT];simp[mL,nP]
theorem Dm:∀(n:Nat) (x:D),iC n x->iz n [x,x]=.ok (.bl true)
|0,x,h=>h.elim
|n+1,x,h=>by
 have fx:=B8 (n+1) x h;show cK (iB (iz n)) 1000 xY 2 jf [x,x]=_;cases x with
 |lst o xs=>
  obtain⟨rfl,h⟩:=h;have fz:aD xs=xs:=by
   have e:D.lst false (aD xs)=.lst false xs:=fx;cases e':aD xs with
   |_=>rw[e']at e;cases e;rfl
  have q:=Ag (iz n) xs (fun y hy=>B8 n y (h y hy)) fun y hy=>Dm n y (h y hy);obtain⟨b1,b2⟩:=OQ xs;unfold iB at q ⊢;generalize iz n=r at q;unfold jf;simp_arith [fz,q,b1,b2]
 |tup xs=>
  have fz:aD xs=xs:=by
   have e:D.tup (aD xs)=.tup xs:=fx;cases e':aD xs with
   |_=>rw[e']at e;cases e;rfl
  have q:=Ag (iz n) xs (fun y hy=>B8 n y (h y hy)) fun y hy=>Dm n y (h y hy);obtain⟨b1,b2⟩:=OQ xs;unfold iB at q ⊢;generalize iz n=r at q;unfold jf;simp_arith [fz,q,b1,b2]
 |non=>unfold jf iB;simp_arith []
 |bl b=>unfold jf iB;simp_arith []
 |int i=>unfold jf iB;simp_arith []
 |str x=>unfold jf iB;simp_arith []
 |_=>exact h.elim
theorem VH(h:Num n):vI (.int n)=some (strOf (aG n)):=by
 have h1:n.natAbs<10 ^ 30:=by
  obtain⟨a,b⟩:=h;have:((10 ^ 30:Nat):Int)=10 ^ 30:=by decide
  omega
 have h2:n.natAbs.log2<1920:=by
  by_cases hz:n.natAbs=0
  ·rw[hz];decide
  ·exact(Je hz).mpr (bM h1 (by decide +kernel))
 show(if n.natAbs.log2<1920 then some (kL n)else none)=_;rw[if_pos h2,zh]
variable{i:Nat}
theorem sU(c:List Nat)(hσ:O[i]?=some (some (.int n)))(h:Num n)(r:List (Str×Nat))(a:List Nat):nT O ((strOf c,i)::r) (strOf a)=nT O r (strOf (a++c++aG n)):=by
 show(match O[i]? with
  |some (some d)=>(vI d).bind fun y=>nT O r (strOf a++strOf c++y)
  |_=>none)=_
 rw[hσ];show(vI (.int n)).bind _=_;rw[VH h];show nT O r (strOf a++strOf c++strOf (aG n))=_;rw[lP,lP]
noncomputable def AX:List Nat:=[106,117,115,116,32]
noncomputable def pN:List Nat:=[97,116,32,108,101,97,115,116,32]
noncomputable def AY:List Nat:=[97,116,32,109,111,115,116,32]
noncomputable def AZ:List Nat:=[111,102,32]
noncomputable def A0:List Nat:=[102,114,111,109,32]
noncomputable def A1:List Nat:=[32,116,111,32]
theorem jusS:ao "just "=strOf AX:=by decide +kernel
theorem HJ:ao "at least "=strOf pN:=by decide +kernel
theorem Ly:ao "at most "=strOf AY:=by decide +kernel
theorem Lz:ao "of "=strOf AZ:=by decide +kernel
theorem LA:ao "from "=strOf A0:=by decide +kernel
theorem LB:ao " to "=strOf A1:=by decide +kernel
theorem aS:ao "a"=strOf aL:=by decide +kernel
theorem XY(h:1<=n/\n<=5):nE [.int n,.bl c]=.ok (.str (strOf (jn (f9 n c)))):=by
 have hs:=szl;have nl:=(fV (qN h)).2.2.2;have f1:nT [some (.int n),some (.bl c)] [(strOf AX,0)] eU=some (strOf (AX++aG n)):=sU AX rfl (qN h) [] [];have f2:nT [some (.int n),some (.bl c)] [(strOf pN,0)] eU=some (strOf (pN++aG n)):=sU pN rfl (qN h) [] [];have g1:decide ((strOf (AX++aG n)).length<=aa)=true:=decide_eq_true (by rw[gz,ak];show 5+_<=_;omega);have g2:decide ((strOf (pN++aG n)).length<=aa)=true:=decide_eq_true (by rw[gz,ak];show 9+_<=_;omega);unfold f9;cases c with
 |true=>
  rw[if_pos rfl];show _=R.ok (D.str (strOf (AX++aG n)));generalize strOf (AX++aG n)=x at f1 g1 ⊢;unfold nE qp tP;simp_arith [jusS,f1,g1]
 |false=>
  rw[if_neg (by decide)];by_cases e:n=1
  ·rw[if_pos e];have g:(n==1)=true:=by rw[beq_iff_eq];exact e
   show _=R.ok (D.str (strOf aL));unfold nE qp tP;simp_arith [aS,g]
  ·rw[if_neg e];have g:(n==1)=false:=by rw[beq_eq_false_iff_ne];exact e
   show _=R.ok (D.str (strOf (pN++aG n)));generalize strOf (pN++aG n)=x at f2 g2 ⊢;unfold nE qp tP;simp_arith [aS,HJ,g,f2,g2]
noncomputable def JX(l k:List Nat):List Nat:=if l=[]then k else l++32::k
theorem HK(l k:List Nat)(hl:l=[]\/W l)(hk:k.length<=1000):ph [.tup [.str (strOf l),.str (strOf k)]]=.ok (.str (strOf (JX l k))):=by
 unfold JX;rcases hl with rfl|hl
 ·rw[if_pos rfl];have g:=beq_self_eq_true (strOf []);unfold ph vQ AU;simp_arith [gc,jz,qy,g]
 ·rw[if_neg hl.nn];have g:=hl.ne;have ll:=hl.ok.2.2.2;have b1:dF .Add (.str (strOf l)) (.str (strOf [32]))=.ok (.str (strOf (l++[32]))):=iM _ _ (by simp;omega);have b2:dF .Add (.str (strOf (l++[32]))) (.str (strOf k))=.ok (.str (strOf (l++32::k))):=by
   rw[iM _ _ (by simp;omega),aW];rfl
  generalize strOf (l++[32])=x at b1 b2;generalize strOf (l++32::k)=y at b2 ⊢;unfold ph vQ AU;simp_arith [gc,jz,qy,g,spS,b1,b2]
theorem VI(l k:List Nat):JX l k=jn (aE l k):=by
 unfold JX aE;split<;>rfl
theorem XZ(l:List Nat)(ks:List (List Nat))(h:oq ks):JX l (jn (bx ks))=jn (ir l++bx ks):=by
 obtain⟨y,B,ek⟩:∃y B,bx ks=y::B:=by
  cases ks with
  |nil=>exact absurd h.2.1.1 (by decide)
  |cons a r=>obtain⟨tl,e⟩:=j3 a r;exact⟨_,_,e⟩
 unfold JX ir;rw[ek];split<;>rfl
theorem IK(h:pH a b):gg [oD a,oD b]=.ok (.str (strOf (jn (kH a b)))):=by
 have hs:=szl;have L:∀{c:List Nat}{n:Int},Num n->c.length<=100->decide ((strOf (c++aG n)).length<=aa)=true:=fun hn hc=>decide_eq_true (by rw[gz,ak];have:=(fV hn).2.2.2;omega);rcases a with _|a<;>rcases b with _|b
 ·exact h.elim
 ·have f:nT [some .non,some (.int b)] [(strOf AY,1)] eU=some (strOf (AY++aG b)):=sU AY rfl h [] [];have g:=L (c:=AY) h (by decide);show gg [.non,.int b]=.ok (.str (strOf (AY++aG b)));generalize strOf (AY++aG b)=x at f g ⊢;unfold gg kj mw;simp_arith [HJ,Ly,Lz,LA,LB,f,g]
 ·have f:nT [some (.int a),some .non] [(strOf pN,0)] eU=some (strOf (pN++aG a)):=sU pN rfl h [] [];have g:=L (c:=pN) h (by decide);show gg [.int a,.non]=.ok (.str (strOf (pN++aG a)));generalize strOf (pN++aG a)=x at f g ⊢;unfold gg kj mw;simp_arith [HJ,Ly,Lz,LA,LB,f,g]
 ·obtain⟨h1,h2,h3⟩:=h;show gg [.int a,.int b]=.ok (.str (strOf (jn (if a=b then[oV,aG a]else[fX,aG a,toL,aG b]))));by_cases e:a=b
  ·have g:(a==b)=true:=by rw[beq_iff_eq];exact e
   rw[if_pos e];have f:nT [some (.int a),some (.int b)] [(strOf AZ,0)] eU=some (strOf (AZ++aG a)):=sU AZ rfl h1 [] [];have g2:=L (c:=AZ) h1 (by decide);show _=R.ok (D.str (strOf (AZ++aG a)));generalize strOf (AZ++aG a)=x at f g2 ⊢;unfold gg kj mw;simp_arith [HJ,Ly,Lz,LA,LB,g,f,g2]
  ·have g:(a==b)=false:=by rw[beq_eq_false_iff_ne];exact e
   rw[if_neg e];have f:nT [some (.int a),some (.int b)] [(strOf A0,0),(strOf A1,1)] eU=some (strOf (A0++aG a++A1++aG b)):=(sU A0 rfl h1 [(strOf A1,1)] []).trans (sU A1 rfl h2 [] (A0++aG a));have g2:=L (c:=A0++aG a++A1) h2 (by have:=(fV h1).2.2.2;rw[ak,ak];show 5+_+4<=_;omega);have e6:A0++aG a++A1++aG b=jn [fX,aG a,toL,aG b]:=by
    rw[aW,aW];rfl
   rw[e6]at f g2;generalize strOf (jn [fX,aG a,toL,aG b])=x at f g2 ⊢;unfold gg kj mw;simp_arith [HJ,Ly,Lz,LA,LB,g,f,g2]
theorem X3:ao "the "=strOf (jn [aP]++[32]):=by decide +kernel
theorem tnS:ao "then "=strOf (jn [cJ]++[32]):=by decide +kernel
theorem ZP:ao " the "=strOf [32,116,104,101,32]:=by decide +kernel
theorem iaS:ao " is a "=strOf [32,105,115,32,97,32]:=by decide +kernel
theorem T6(A:List (List Nat))(hA:A≠[])(h:(jn A).length<=1000):dF .Add (.str (strOf (jn A))) (.str (strOf [32,116,104,101,32]))=.ok (.str (strOf (jn (A++[aP])++[32]))):=by
 rw[iM _ _ (by simp;omega),<-qz A aP [] hA,aW];rfl
theorem Zr(A:List (List Nat))(hA:A≠[])(h:(jn A).length<=1000):dF .Add (.str (strOf (jn A))) (.str (strOf [32,105,115,32,97,32]))=.ok (.str (strOf (jn (A++[gf,aL])++[32]))):=by
 rw[iM _ _ (by simp;omega),<-qz A gf [aL] hA,aW];rfl
theorem qO(A B:List (List Nat))(hA:A≠[])(hB:B≠[])(oA:∀w∈A,fE w)(oB:∀w∈B,fE w)(lA:A.length<=12)(lB:B.length<=12):dF .Add (.str (strOf (jn A++[32]))) (.str (strOf (jn B)))=.ok (.str (strOf (jn (A++B)))):=by
 cases B with
 |nil=>exact absurd rfl hB
 |cons y B=>exact JV A y B hA (gb oA lA) (gb oB lB)
theorem yu(l k:List Nat):aE l k≠[]:=by unfold aE;split<;>simp
theorem Zs(h:pH a b):kH a b≠[]:=by
 obtain⟨y,B,e,_⟩:=Dk h;rw[e];simp
theorem T7(h:oq ks):bx ks≠[]:=by
 cases ks with
 |nil=>exact absurd h.2.1.1 (by decide)
 |cons a r=>obtain⟨tl,e⟩:=j3 a r;rw[e];simp
theorem sV(h:d7 l k):ph [.tup [.str (strOf l),.str (strOf k)]]=.ok (.str (strOf (jn (aE l k)))):=by
 rw[<-VI];exact HK l k h.1 (by have:=h.2.ok.2.2.2;omega)
theorem VJ(h:d7 l k)(hv:W v)(h2:d7 l2 k2):dS [.tup [.str "join",eV l k,wD v,eV l2 k2]]=.ok (.str (strOf (jn (aP::(aE l k++v::aP::aE l2 k2))))):=by
 obtain⟨n1,_⟩:=ne_str;have r1:=fq l k;have r2:=fq l2 k2;have q1:=sV h;have q2:=sV h2;have ov:∀w∈[v],fE w:=cL hv.ok (by simp);have o1:=cL (kw aP) h.ok;have o2:=sS o1 ov;have b1:=qO [aP] (aE l k) (by simp) (yu l k) (cL (kw aP) (by simp)) h.ok (by simp) (by omega);have b2:=AW (aP::aE l k) (gb o1 (by rw[aB];omega));have b3:dF .Add (.str (strOf (jn (aP::aE l k)++[32]))) (.str (strOf v))=_:=qO (aP::aE l k) [v] (by simp) (by simp) o1 ov (by rw[aB];omega) (by simp);have b4:=T6 (aP::aE l k++[v]) (by simp) (gb o2 (by simp only[ak,aB,cN];omega));have b5:=qO (aP::aE l k++[v]++[aP]) (aE l2 k2) (by simp) (yu l2 k2) (sS o2 (cL (kw aP) (by simp))) h2.ok (by simp only[ak,aB,cN];omega) (by omega);have e:aP::aE l k++[v]++[aP]++aE l2 k2=aP::(aE l k++v::aP::aE l2 k2):=by simp
 rw[e]at b5;show dS [.tup [.str "join",.tup [.str (strOf l),.str (strOf k)],.str (strOf v),.tup [.str (strOf l2),.str (strOf k2)]]]=_;generalize strOf (jn (aP::(aE l k++v::aP::aE l2 k2)))=z at b5 ⊢;generalize strOf (jn (aP::aE l k++[v]++[aP])++[32])=x5 at b4 b5;generalize strOf (jn (aP::aE l k++[v]))=x4 at b3 b4;generalize strOf (jn (aP::aE l k)++[32])=x3 at b2 b3;change _=R.ok (D.str (strOf (jn (aP::aE l k))))at b1;generalize strOf (jn (aP::aE l k))=x2 at b1 b2;generalize strOf (jn (aE l k))=y1 at b1 q1;generalize strOf (jn (aE l2 k2))=y2 at b5 q2;have th:=X3;generalize strOf (jn [aP]++[32])=t1 at b1 th;unfold dS ni pq;simp_arith [gc,jz,at2,BZ,n1,q1,q2,th,b1,spS,b2,b3,ZP,b4,b5]
theorem VL(h:d7 l k)(hv:W v)(h2:pH a b):dS [.tup [.str "size",eV l k,wD v,oD a,oD b]]=.ok (.str (strOf (jn (aP::(aE l k++v::kH a b))))):=by
 obtain⟨_,n1,n2,_⟩:=ne_str;have r1:=fq l k;obtain⟨y,B,eb,lb⟩:=Dk h2;have q1:=sV h;have q2:=IK h2;have fa:=mU a;have fb:=mU b;have ov:∀w∈[v],fE w:=cL hv.ok (by simp);have o1:=cL (kw aP) h.ok;have o2:=sS o1 ov;have b1:=qO [aP] (aE l k) (by simp) (yu l k) (cL (kw aP) (by simp)) h.ok (by simp) (by omega);have b2:=AW (aP::aE l k) (gb o1 (by rw[aB];omega));have b3:dF .Add (.str (strOf (jn (aP::aE l k)++[32]))) (.str (strOf v))=_:=qO (aP::aE l k) [v] (by simp) (by simp) o1 ov (by rw[aB];omega) (by simp);have b4:=AW (aP::aE l k++[v]) (gb o2 (by simp only[ak,aB,cN];omega));have b5:=qO (aP::aE l k++[v]) (kH a b) (by simp) (Zs h2) o2 (Ls h2) (by simp only[ak,aB,cN];omega) (by rw[eb];omega);have e:aP::aE l k++[v]++kH a b=aP::(aE l k++v::kH a b):=by simp
 rw[e]at b5;show dS [.tup [.str "size",.tup [.str (strOf l),.str (strOf k)],.str (strOf v),oD a,oD b]]=_;generalize strOf (jn (aP::(aE l k++v::kH a b)))=z at b5 ⊢;generalize strOf (jn (aP::aE l k++[v])++[32])=x5 at b4 b5;generalize strOf (jn (aP::aE l k++[v]))=x4 at b3 b4;generalize strOf (jn (aP::aE l k)++[32])=x3 at b2 b3;change _=R.ok (D.str (strOf (jn (aP::aE l k))))at b1;generalize strOf (jn (aP::aE l k))=x2 at b1 b2;generalize strOf (jn (aE l k))=y1 at b1 q1;generalize strOf (jn (kH a b))=y2 at b5 q2;have th:=X3;generalize strOf (jn [aP]++[32])=t1 at b1 th;unfold dS ni pq;simp_arith [gc,jz,at2,BZ,Hq,fa,fb,n1,n2,q1,q2,th,b1,spS,b2,b3,b4,b5]
theorem X4(h:d7 l k)(hk:oq ks):dS [.tup [.str "is",eV l k,.lst false (ks.map wD)]]=.ok (.str (strOf (jn (aP::(aE l k++gf::aL::bx ks))))):=by
 obtain⟨_,_,_,n1,n2,n3,_⟩:=ne_str;have r1:=fq l k;have ol:=pJ hk;have q1:=sV h;have q2:=rL hk;have fk:=cH ks;have o1:=cL (kw aP) h.ok;have b1:=qO [aP] (aE l k) (by simp) (yu l k) (cL (kw aP) (by simp)) h.ok (by simp) (by omega);have b2:=Zr (aP::aE l k) (by simp) (gb o1 (by rw[aB];omega));have b5:=qO (aP::aE l k++[gf,aL]) (bx ks) (by simp) (T7 hk) (sS o1 (cL (kw gf) (cL (kw aL) (by simp)))) hk.ok (by simp only[ak,aB,cN];omega) (by omega);have e:aP::aE l k++[gf,aL]++bx ks=aP::(aE l k++gf::aL::bx ks):=by simp
 rw[e]at b5;show dS [.tup [.str "is",.tup [.str (strOf l),.str (strOf k)],.lst false (ks.map wD)]]=_;generalize strOf (jn (aP::(aE l k++gf::aL::bx ks)))=z at b5 ⊢;generalize strOf (jn (aP::aE l k++[gf,aL])++[32])=x5 at b2 b5;change _=R.ok (D.str (strOf (jn (aP::aE l k))))at b1;generalize strOf (jn (aP::aE l k))=x2 at b1 b2;generalize strOf (jn (aE l k))=y1 at b1 q1;generalize strOf (jn (bx ks))=y2 at b5 q2;generalize ks.map wD=K at q2 fk ⊢;have th:=X3;generalize strOf (jn [aP]++[32])=t1 at b1 th;unfold dS ni pq;simp_arith [gc,jz,at2,fk,n1,n2,n3,q1,q2,th,b1,iaS,b2,B3,b5]
theorem X5(hv:W v)(h:d7 l k):dS [.tup [.str "then",wD v,eV l k]]=.ok (.str (strOf (jn (cJ::v::aP::aE l k)))):=by
 obtain⟨_,_,_,_,_,_,n1,n2,n3,n4⟩:=ne_str;have r1:=fq l k;have q1:=sV h;have ov:∀w∈[v],fE w:=cL hv.ok (by simp);have ot:∀w∈[cJ],fE w:=cL (kw cJ) (by simp);have b1:dF .Add (.str (strOf (jn [cJ]++[32]))) (.str (strOf v))=.ok (.str (strOf (jn [cJ,v]))):=qO [cJ] [v] (by simp) (by simp) ot ov (by simp) (by simp);have b2:dF .Add (.str (strOf (jn [cJ,v]))) (.str (strOf [32,116,104,101,32]))=.ok (.str (strOf (jn [cJ,v,aP]++[32]))):=T6 [cJ,v] (by simp) (gb (cL (kw cJ) ov) (by simp));have b3:dF .Add (.str (strOf (jn [cJ,v,aP]++[32]))) (.str (strOf (jn (aE l k))))=.ok (.str (strOf (jn (cJ::v::aP::aE l k)))):=qO [cJ,v,aP] (aE l k) (by simp) (yu l k) (cL (kw cJ) (cL hv.ok (cL (kw aP) (by simp)))) h.ok (by simp) (by omega);show dS [.tup [.str "then",.str (strOf v),.tup [.str (strOf l),.str (strOf k)]]]=_;generalize strOf (jn (cJ::v::aP::aE l k))=z at b3 ⊢;generalize strOf (jn [cJ,v,aP]++[32])=x3 at b2 b3;generalize strOf (jn [cJ,v])=x2 at b1 b2;generalize strOf (jn (aE l k))=y1 at b3 q1;have tn:=tnS;generalize strOf (jn [cJ]++[32])=t1 at b1 tn;unfold dS ni pq;simp_arith [gc,jz,at2,n1,n2,n3,n4,q1,tn,b1,ZP,b2,b3]
theorem SM(hn:1<=n/\n<=5)(hl:l=[]\/W l)(hk:oq ks):dS [.tup [.str "parts",.int n,.bl c,wD l,.lst false (ks.map wD)]]=.ok (.str (strOf (jn (f9 n c++(ir l++bx ks))))):=by
 have hs:=szl;have q2:=rL hk;have fk:=cH ks;have qm:=XY (c:=c) hn;have ol:=pJ hk;have e0:(ao "parts"==ao "parts")=true:=by decide +kernel
 have oh:(∀w∈f9 n c,fE w)/\f9 n c≠[]/\(f9 n c).length<=3:=by
  unfold f9;split
  ·exact⟨all2 (kw mT) (fV (qN hn)),by simp,by simp⟩
  ·split
   ·exact⟨cL (kw aL) (by simp),by simp,by simp⟩
   ·exact⟨AV (kw ig) (kw f7) (fV (qN hn)),by simp,by simp⟩
 have ob:(∀w∈ir l,fE w)/\(ir l).length<=1:=by
  unfold ir;rcases hl with rfl|hl
  ·simp
  ·rw[if_neg hl.nn];exact⟨cL hl.ok (by simp),by simp⟩
 have lk:=gb hk.ok (by omega);have qr:=HK l (jn (bx ks)) hl lk;rw[XZ l ks hk]at qr;have b1:=AW (f9 n c) (gb oh.1 (by omega));have b2:=qO (f9 n c) (ir l++bx ks) oh.2.1 (fun z=>T7 hk (List.append_eq_nil_iff.mp z).2) oh.1 (sS ob.1 hk.ok) (by omega) (by rw[ak];omega);show dS [.tup [.str "parts",.int n,.bl c,.str (strOf l),.lst false (ks.map wD)]]=_;generalize strOf (jn (f9 n c++(ir l++bx ks)))=z at b2 ⊢;generalize strOf (jn (f9 n c)++[32])=x2 at b1 b2;generalize strOf (jn (f9 n c))=x1 at b1 qm;generalize strOf (jn (ir l++bx ks))=y2 at b2 qr;generalize strOf (jn (bx ks))=y1 at q2 qr;generalize ks.map wD=K at q2 fk ⊢;unfold dS ni pq;simp_arith [gc,jz,at2,BZ,Hq,e0,fk,qm,spS,b1,B3,q2,qr,b2]
theorem SN(w:Rw)(h:w.Ok):dS [bh w.val]=.ok (.str (strOf (jn w.words))):=by
 cases w with
 |parts n c l ks=>
  have q:=SM (c:=c) h.1 h.2.1 h.2.2;rw[<-cH ks]at q;exact q
 |join l k v l2 k2=>exact VJ h.1 h.2.1 h.2.2
 |size l k v a b=>
  have q:=VL h.1 h.2.1 h.2.2;show dS [.tup [.str "size",eV l k,wD v,bh (oD a),bh (oD b)]]=_;rw[mU a,mU b];exact q
 |isa l k ks=>
  have q:=X4 h.1 h.2;rw[<-cH ks]at q;exact q
 |aU v l k=>exact X5 h.1 h.2
theorem HL(ns:List Int):bS .Eq (.lst false (ns.map D.int)) (.lst true [])=.ok (.bl ns.isEmpty):=by
 rw[zd (HC fun d hd=>by obtain⟨i,_,rfl⟩:=bT.mp hd;rfl) rfl];cases ns<;>rfl
theorem X6:ao "claim on "=strOf (jn [bz,jT]++[32]):=by decide +kernel
theorem JY(a:Int)(r:List Int):bz::gI (a::r)=[bz,jT]++bx ((a::r).map aG):=by
 unfold gI;rw[if_neg (by simp)];rfl
theorem or_ne'(a:List Nat)(r:List (List Nat)):bx (a::r)≠[]:=by obtain⟨tl,e⟩:=j3 a r;rw[e];simp
theorem JZ(h:pL ns ab)(ha:ab<=12):∀w∈ns.map aG,fE w:=fun w hw=>by
 obtain⟨n,hn,rfl⟩:=bT.mp hw;exact fV (u5 h ha n hn)
theorem VM(h:pL ns ab)(ha:ab<=12):f6 [.lst false (ns.map D.int)]=.ok (.str (strOf (jn (bz::gI ns)))):=by
 have ce:=HL ns;have fi:=gv ns;cases ns with
 |nil=>
  have ce:bS .Eq (.lst false []) (.lst true [])=.ok (.bl true):=rfl;show f6 [.lst false []]=.ok (.str (strOf bz));unfold f6 lJ pB;simp_arith [ce,B7]
 |cons a r=>
  have on:=JZ h ha;have lk:=HF ((a::r).map aG) (by rw[az];exact h.l);have qc:dg (pG (.name 0)) (fun _=>.ok true) (pE [] (.blt .str (.cons (.var 0) .nil))) ((a::r).map D.int) [none]=.ok (((a::r).map aG).map wD):=by
   rw[bJ];refine gR D.int (fun O=>∃o,O=[o]) (fun n=>wD (aG n)) (a::r) _ ⟨none,rfl⟩ ?_;rintro n hn O ⟨o,rfl⟩;refine⟨[some (.int n)],rfl,⟨_,rfl⟩,?_⟩;have q:=pK (u5 h ha n hn);unfold wD;simp_arith [q]
  have qj:=uZ [32,111,114,32] ((a::r).map aG) true (by have:=h.l;rw[az];omega) (fun w hw=>by have:=(on w hw).2.2.2;omega) (by decide);rw[zj]at qj;have b:=qO [bz,jT] (bx ((a::r).map aG)) (by simp) (or_ne' _ _) (cL (kw bz) (cL (kw jT) (by simp))) (Lv _ on) (by simp) (by omega);rw[JY];have ce:bS .Eq (.lst false ((a::r).map D.int)) (.lst true [])=.ok (.bl false):=ce;have co:=X6;generalize strOf (jn ([bz,jT]++bx ((a::r).map aG)))=z at b ⊢;generalize strOf (jn (bx ((a::r).map aG)))=y at b qj;generalize strOf (jn [bz,jT]++[32])=x at b co;generalize((a::r).map aG).map wD=T at qc qj;generalize(a::r).map D.int=N at fi qc ce ⊢;unfold f6 lJ pB;simp_arith [fi,ce,co,B3,qc,qj,b]
noncomputable abbrev lD(l:List (List Nat)):D:=wD (jn l)
theorem EN(m:List D->R D)(hm:∀w:Rw,w.Ok->m [bh w.val]=.ok (.str (strOf (jn w.words))))(M:List PG)(ws:List Rw)(h:∀w∈ws,w.Ok):dg (pG (.name 0)) (fun _=>.ok true) (pE (.fn m []::M) (.call 0 (.cons (.var 0) .nil))) (aD (ws.map Rw.val)) [none]=.ok ((ws.map Rw.words).map lD):=by
 rw[frzs_map',bJ,bJ];refine gR (fun w:Rw=>bh w.val) (fun O=>∃o,O=[o]) (fun w=>lD w.words) ws _ ⟨none,rfl⟩ ?_;rintro w hw O ⟨o,rfl⟩;refine⟨[some (bh w.val)],rfl,⟨_,rfl⟩,?_⟩;have f:=CY w.val;have q:=hm w (h w hw);unfold lD wD;generalize bh w.val=v at f q ⊢;simp_arith [f,q]
noncomputable abbrev OR:bf->Fl:=dP lN 1000 l8
noncomputable abbrev J0:D->bf->R bf:=pG (.tup (.cons (.name 2) (.cons (.name 3) .nil)))
theorem T8(ls:List (List (List Nat))):cR (ls.map lD)=true:=by
 have:=kG (ls.map jn);rwa[bJ]at this
theorem FF(ls:List (List (List Nat))):aD (ls.map lD)=ls.map lD:=kQ _ (fun _=>rfl) ls
variable{p:Cl}
theorem VN(a:Option D)(ls:List (List (List Nat)))(hl:ls.length<=500)(hp:Dl i p)(hi:i<=12):OR [a,some (.lst true (ls.map lD)),some (.lst false (p.1.map D.int)),some (.lst false (aD (p.2.map Rw.val)))]=.nx [a,some (.lst true ((ls++u6 p).map lD)),some (.lst false (p.1.map D.int)),some (.lst false (aD (p.2.map Rw.val)))]:=by
 have hs:=szl;obtain⟨h1,h2,h3⟩:=hp;have q1:=VM h1 (by omega);have q2:=EN dS SN [.fn f6 []] p.2 h3;have fi:=gv p.1;have fv:=dU (p.2.map Rw.val);have ll:(ls.map lD).length=ls.length:=az _;have lr:((p.2.map Rw.words).map lD).length=p.2.length:=by rw[az,az]
 have oo:=T8 (p.2.map Rw.words);have e:(ls++u6 p).map lD=ls.map lD++[lD (bz::gI p.1)]++(p.2.map Rw.words).map lD:=by
  show(ls++((bz::gI p.1)::p.2.map Rw.words)).map lD=_;rw[cz];simp
 rw[e];have q1:f6 [.lst false (p.1.map D.int)]=.ok (.str (strOf (jn (bz::gI p.1)))):=q1;unfold lD at ll lr oo q2 ⊢;unfold wD at ll lr oo q2 ⊢;generalize strOf (jn (bz::gI p.1))=x at q1 ⊢;generalize ls.map (fun l=>D.str (strOf (jn l)))=X at ll ⊢;generalize(p.2.map Rw.words).map (fun l=>D.str (strOf (jn l)))=aa5 at lr oo q2 ⊢;generalize aD (p.2.map Rw.val)=V at fv q2 ⊢;generalize p.1.map D.int=N at fi q1 ⊢;unfold OR l8 lN;simp_arith [fi,q1];rw[kR (xs:=X) rfl (by omega) rfl];simp_arith [fv,q2];rw[El (xs:=X++[.str x]) rfl (by rw[ak,bF];omega) (by rw[oJ];exact .inr rfl)];simp_arith [oo]
theorem J2(h:Dl i p):(u6 p).length<=13:=by
 have:(u6 p).length=p.2.length+1:=by show(p.2.map Rw.words).length+1=_;rw[az]
 have:=h.2.1;omega
theorem J3(a:Option D):∀(C:List Cl) (i:Nat) (h:nF i C) (hi:i+C.length<=12) (ls:List (List (List Nat))) (hl:ls.length<=13*i) (s2 s3:Option D),∃t2 t3,forR J0 OR (C.map cF) [a,some (.lst true (ls.map lD)),s2,s3]=.nx [a,some (.lst true ((ls++lines C).map lD)),t2,t3]
|[],i,_,_,ls,hl,s2,s3=>⟨s2,s3,by show _=Fl.nx [a,some (.lst true ((ls++[]).map lD)),s2,s3];rw[eZ];rfl⟩
|p::r,i,h,hi,ls,hl,s2,s3=>by
 have hi:i+(r.length+1)<=12:=hi;have l1:=J2 h.1;obtain⟨t2,t3,q⟩:=J3 a r (i+1) h.2 (by omega) (ls++u6 p) (by rw[ak];omega) (some (.lst false (p.1.map D.int))) (some (.lst false (aD (p.2.map Rw.val))));refine⟨t2,t3,?_⟩;rw[cj,mD (σ2:=[a,some (.lst true (ls.map lD)),some (.lst false (p.1.map D.int)),some (.lst false (aD (p.2.map Rw.val)))]) rfl (VN a ls (by omega) h.1 (by omega)),q,aW];rfl
theorem LC(C:List Cl):aD (C.map cF)=C.map cF:=by rw[<-B6 C,dU]
theorem B9(C:List Cl)(h:nF 0 C)(hl:C.length<=12)(o:Bool):kB .join (.str (strOf [10])) [.lst o ((lines C).map lD)]=.ok (.str (txt C)):=by
 have ok:=Lw C 0 h (by omega);have ll:=HG C 0 h;have q:=uZ [10] ((lines C).map jn) o (by rw[az];omega) (fun w hw=>by
  obtain⟨i,hi,rfl⟩:=bT.mp hw;exact gb (ok i hi).1 (ok i hi).2) (by decide)
 rw[bJ]at q;exact q
theorem ZQ:ao "\n"=strOf [10]:=by decide +kernel
theorem VO(C:List Cl)(h:nF 0 C)(hl:C.length<=12):lO [.lst false (C.map cF)]=.ok (.str (txt C)):=by
 have fc:=LC C;obtain⟨t2,t3,q⟩:=J3 (some (.lst false (C.map cF))) C 0 h (by omega) [] (by simp) none none;have qj:=B9 C h hl false;have fl:=FF (lines C);have q:forR J0 OR (C.map cF) [some (.lst false (C.map cF)),some (.lst true []),none,none]=.nx [some (.lst false (C.map cF)),some (.lst true ((lines C).map lD)),t2,t3]:=q;generalize C.map cF=aa5 at fc q ⊢;generalize(lines C).map lD=L at q qj fl;unfold lO o9;unfold OR J0 at q;unfold lN at q ⊢;simp_arith [fc,q,fl,ZQ,qj]
theorem X7(x y:List Nat):∀r:List (List Nat),jn (bx ((x++y)::r))=x++jn (bx (y::r))
|[]=>rfl
|b::r=>by
 obtain⟨tl,e⟩:=j3 b r;show(x++y)++32::jn (oj::bx (b::r))=x++(y++32::jn (oj::bx (b::r)));rw[aW]
theorem OS(h:pL ns ab)(ha:ab<=12):∃x ds,(ns=[]\/x=strOf (jn (bz::gI ns)))/\dg (pG (.name 0)) (fun _=>.ok true) (pE jg (.bin .Add (.bin .Mult (.con (.str "claim on ")) (.blt .int (.cons (.cmp .Eq (.var 0) (.con (.int 0))) .nil))) (.blt .str (.cons (.ix (.var 1) (.var 0)) .nil)))) (je 0 ns.length) [none,some (.lst false (ns.map D.int))]=.ok ds/\kB .join (.str (strOf [32,111,114,32])) [.lst true ds]=.ok (.str x):=by
 cases ns with
 |nil=>exact⟨strOf [],[],.inl rfl,rfl,by kernel_rfl⟩
 |cons a r=>
  have on:=JZ h ha;have fi:=gv (a::r);have hc:dg (pG (.name 0)) (fun _=>.ok true) (pE jg (.bin .Add (.bin .Mult (.con (.str "claim on ")) (.blt .int (.cons (.cmp .Eq (.var 0) (.con (.int 0))) .nil))) (.blt .str (.cons (.ix (.var 1) (.var 0)) .nil)))) (je 0 (a::r).length) [none,some (.lst false ((a::r).map D.int))]=.ok ((((jn [bz,jT]++[32])++aG a)::r.map aG).map wD):=by
   unfold je;rw[gR (fun i:Nat=>D.int (0+(i:Int))) (fun O=>∃o,O=[o,some (.lst false ((a::r).map D.int))]) (fun i=>if i=0 then wD ((jn [bz,jT]++[32])++aG a)else wD (aG ((a::r).getD i 0))) (bG (a::r).length) _ ⟨none,rfl⟩ (by
    rintro i hi O ⟨o,rfl⟩;have hi:i<(a::r).length:=iF.mp hi;refine⟨[some (.int (0+(i:Int))),some (.lst false ((a::r).map D.int))],rfl,⟨_,rfl⟩,?_⟩;have hat:fC ((a::r).map D.int) (i:Int)=some (.int ((a::r).getD i 0)):=ki (by rw[bP,eB,aJ hi];rfl);have hm:(a::r).getD i 0∈a::r:=by rw[eB,aJ hi];exact gE hi
    have q:=pK (u5 h ha _ hm);have nl:=(fV (u5 h ha _ hm)).2.2.2;rw[Il];by_cases c:i=0
    ·subst c;have g:(((0:Nat):Int)==0)=true:=rfl;have b1:dF .Mult (.str (strOf (jn [bz,jT]++[32]))) (.int 1)=.ok (.str (strOf (jn [bz,jT]++[32]))):=by kernel_rfl
     have b2:=iM (jn [bz,jT]++[32]) (aG a) (by have e:(jn [bz,jT]++[32]).length=9:=rfl;have nl:(aG a).length<=40:=nl;omega);have q:jI .str [.int a]=_:=q;have hat:fC ((a::r).map D.int) 0=some (.int a):=hat;rw[if_pos rfl];show pE jg _ [some (.int 0),_]=_;unfold wD;have co:=X6;generalize strOf ((jn [bz,jT]++[32])++aG a)=z at b2 ⊢;generalize strOf (jn [bz,jT]++[32])=x at b1 b2 co;generalize(a::r).map D.int=N at fi hat ⊢;unfold jg;simp_arith [co,fi,hat,q,b1,b2]
    ·have g:((i:Int)==0)=false:=by rw[beq_eq_false_iff_ne];omega
     have b1:dF .Mult (.str (strOf (jn [bz,jT]++[32]))) (.int 0)=.ok (.str (strOf [])):=by kernel_rfl
     have b2:dF .Add (.str (strOf [])) (.str (strOf (aG ((a::r).getD i 0))))=.ok (.str (strOf (aG ((a::r).getD i 0)))):=iM [] _ (by rw[cN];omega);rw[if_neg c];unfold wD;have co:=X6;generalize strOf (aG ((a::r).getD i 0))=z at b2 q ⊢;generalize strOf (jn [bz,jT]++[32])=x at b1 co;generalize(a::r).getD i 0=n at hat q;generalize(a::r).map D.int=N at fi hat ⊢;unfold jg;simp_arith [co,fi,hat,q,g,b1,b2])]
   rw[aB,mF,cj,bJ];have e:=range_getD 0 r;refine congrArg R.ok (congrArg (Pf _) ?_);show(bG r.length).map (fun i=>wD (aG (r.getD i 0)))=(r.map aG).map wD
   conv=>rhs;rw[<-e]
   rw[bJ,bJ];rfl
  refine⟨_,_,.inr rfl,hc,?_⟩;show kB .join (.str (strOf [32,111,114,32])) [.lst true ((((jn [bz,jT]++[32])++aG a)::r.map aG).map wD)]=_;rw[uZ _ _ true (by have:=h.l;rw[aB,az];have:r.length+1<=4:=this;omega) (dj (by rw[ak];have e:(jn [bz,jT]++[32]).length=9:=rfl;have:=(on (aG a) (by simp)).2.2.2;omega) fun w hw=>by have:=(on w (by simp[hw])).2.2.2;omega) (by decide),zj,X7,JY];obtain⟨tl,e⟩:=j3 (aG a) (r.map aG);have q:=qz [bz,jT] (aG a) tl (by simp);rw[cj,e,<-q,aW];rfl
noncomputable abbrev OT:bf->Fl:=dP jg 1000 sQ
theorem SO(Q:List D)(m d:D):putIn (.lst true (Q++[m])) d (.int (-1))=some (.lst true (Q++[d])):=by
 show(gY (Q++[m]).length (-1)).map (fun k=>D.lst true ((Q++[m]).set k d))=_;rw[ak,bF,zm];show some (D.lst true ((Q++[m]).set Q.length d))=_;rw[vn _ _ (aN _),oR];rfl
theorem VP(a:Option D)(ls:List (List (List Nat)))(hl:ls.length<=500)(hp:Dl i p)(hi:i<=12):OT [a,some (.lst true (ls.map lD)),some (.lst false (p.1.map D.int)),some (.lst false (aD (p.2.map Rw.val)))]=.nx [a,some (.lst true ((ls++u6 p).map lD)),some (.lst false (p.1.map D.int)),some (.lst false (aD (p.2.map Rw.val)))]:=by
 have hs:=szl;obtain⟨h1,h2,h3⟩:=hp;have h4:=h1.l;obtain⟨x,ds,hx,q0,qj⟩:=OS h1 (by omega);have q2:=EN dR XO [] p.2 h3;have fi:=gv p.1;have fv:=dU (p.2.map Rw.val);have ce:=HL p.1;have rg:nS [.int ((p.1.map D.int).length:Int)]=.ok (je 0 p.1.length):=by
  rw[Nj ⟨by omega,by rw[az];omega⟩,az];rfl
 have ll:(ls.map lD).length=ls.length:=az _;have lr:((p.2.map Rw.words).map lD).length=p.2.length:=by rw[az,az]
 have oo:=T8 (p.2.map Rw.words);have fo:=FF (p.2.map Rw.words);have fl:=FF ls;have e:(ls++u6 p).map lD=ls.map lD++.str (strOf (jn (bz::gI p.1)))::(p.2.map Rw.words).map lD:=by
  show(ls++((bz::gI p.1)::p.2.map Rw.words)).map lD=_;rw[cz];rfl
 rw[e];have hz:p.1.isEmpty=true->strOf (jn (bz::gI p.1))=ao "claim":=fun z=>by
  rw[A_.mp z,B7];rfl
 have hz2:p.1.isEmpty=false->x=strOf (jn (bz::gI p.1)):=fun z=>hx.resolve_left fun y=>by rw[y]at z;cases z
 have cl:=SO (ls.map lD) (.str x) (.str (ao "claim"));generalize strOf (jn (bz::gI p.1))=y at hz hz2 ⊢;unfold lD at ll lr oo q2 fo fl cl ⊢;unfold wD at ll lr oo q2 fo fl cl ⊢;generalize ls.map (fun l=>D.str (strOf (jn l)))=X at ll fl cl ⊢;generalize(p.2.map Rw.words).map (fun l=>D.str (strOf (jn l)))=aa5 at lr oo q2 fo ⊢;generalize aD (p.2.map Rw.val)=V at fv q2 ⊢;generalize p.1.map D.int=N at fi q0 ce rg ⊢;generalize p.1.isEmpty=b at ce hz hz2;have fx:∀d,aD (X++[D.str d])=X++[.str d]:=fun d=>by rw[o8,fl];rfl
 have lx:∀d,(X++[D.str d]).length+aa5.length<=aa:=fun d=>by rw[ak,bF];omega
 have fin:∀b d,Fl.nx (List.set (gQ [1,3] b [a,some (.lst true (X++[D.str d])),some (.lst false N),some (.lst false V)]) 1 (some (.lst true (X++[.str d]++aa5))))=.nx [a,some (.lst true (X++.str d::aa5)),some (.lst false N),some (.lst false V)]:=fun b d=>by
  rw[show X++[.str d]++aa5=X++.str d::aa5 by simp];cases b with
  |true=>rfl
  |false=>simp_arith [fv]
 unfold OT sQ;unfold jg at q0 ⊢;simp_arith [fi,rg,q0,B3,qj];rw[kR (xs:=X) rfl (by omega) rfl];cases b with
 |true=>
  rw[hz rfl];simp_arith [fi,ce];rw[Em rfl rfl cl];have lc:=xN (o:=false) (o':=true) (lx (ao "claim"));have fc:=fx (ao "claim");simp_arith [fv,q2,fc,lc,fo,oo];exact fin _ _
 |false=>
  rw[<-hz2 rfl];have lc:=xN (o:=false) (o':=true) (lx x);have fc:=fx x;simp_arith [fi,ce,fv,q2,fc,lc,fo,oo];exact fin _ _
theorem J4(a:Option D):∀(C:List Cl) (i:Nat) (h:nF i C) (hi:i+C.length<=12) (ls:List (List (List Nat))) (hl:ls.length<=13*i) (s2 s3:Option D),∃t2 t3,forR J0 OT (C.map cF) [a,some (.lst true (ls.map lD)),s2,s3]=.nx [a,some (.lst true ((ls++lines C).map lD)),t2,t3]
|[],i,_,_,ls,hl,s2,s3=>⟨s2,s3,by show _=Fl.nx [a,some (.lst true ((ls++[]).map lD)),s2,s3];rw[eZ];rfl⟩
|p::r,i,h,hi,ls,hl,s2,s3=>by
 have hi:i+(r.length+1)<=12:=hi;have l1:=J2 h.1;obtain⟨t2,t3,q⟩:=J4 a r (i+1) h.2 (by omega) (ls++u6 p) (by rw[ak];omega) (some (.lst false (p.1.map D.int))) (some (.lst false (aD (p.2.map Rw.val))));refine⟨t2,t3,?_⟩;rw[cj,mD (σ2:=[a,some (.lst true (ls.map lD)),some (.lst false (p.1.map D.int)),some (.lst false (aD (p.2.map Rw.val)))]) rfl (VP a ls (by omega) h.1 (by omega)),q,aW];rfl
theorem VQ(C:List Cl)(h:nF 0 C)(hl:C.length<=12):tO [.lst false (C.map cF)]=.ok (.lst true ((lines C).map lD)):=by
 have fc:=LC C;obtain⟨t2,t3,q⟩:=J4 (some (.lst false (C.map cF))) C 0 h (by omega) [] (by simp) none none;have q:forR J0 OT (C.map cF) [some (.lst false (C.map cF)),some (.lst true []),none,none]=.nx [some (.lst false (C.map cF)),some (.lst true ((lines C).map lD)),t2,t3]:=q;generalize C.map cF=aa5 at fc q ⊢;generalize(lines C).map lD=L at q ⊢;unfold tO ya;unfold OT J0 at q;unfold jg at q ⊢;simp_arith [fc,q]
theorem HM:∀(ns:List Int) (n:Int),rising ns->(∀m∈ns,m<n)->rising (ns++[n])
|[],n,_,_=>trivial
|[a],n,_,h=>⟨h a ay,trivial⟩
|a::b::r,n,h,hn=>⟨h.1,HM (b::r) n h.2 fun m hm=>hn m (aj _ hm)⟩
theorem zp(d:Int)(hd:0<=d)(ab:Nat):∀(k:Nat) (j:Nat) (hj:j+k=ab) (ns:List Int) (h:pL ns (j:Int)) (x:Option D),∃ns' y,pL ns' (ab:Int)/\forR (pG (.name 3)) (dP nC 1000 kX) ((bG k).map fun i=>D.int (1+((j+i:Nat):Int))) [some (.int d),some (.int (ab:Int)),some (.lst true (ns.map D.int)),x]=.nx [some (.int d),some (.int (ab:Int)),some (.lst true (ns'.map D.int)),y]
|0,j,hj,ns,h,x=>⟨ns,x,by rw[<-hj];exact h,rfl⟩
|k+1,j,hj,ns,h,x=>by
 have hs:=szl;have fi:=gv ns;have ln:(ns.map D.int).length=ns.length:=az _;have hl:=h.l;have e:(bG (k+1)).map (fun i=>D.int (1+((j+i:Nat):Int)))=D.int (1+(j:Int))::(bG k).map fun i=>D.int (1+((j+1+i:Nat):Int)):=by
  rw[mF,cj,bJ];refine congrArg (Pf _) (iY fun i _=>?_);show D.int (1+((j+(i+1):Nat):Int))=_;rw[show j+(i+1)=j+1+i by omega]
 rw[e];have wide:pL ns ((j+1:Nat):Int):=⟨h.l,h.r,fun n hn=>by have:=h.b n hn;omega⟩;cases g1:(d / 2 ^ (1+(j:Int)).toNat%3==0)with
 |true=>
  by_cases c:ns.length<4
  ·have g2:=decide_eq_true (show(ns.length:Int)<4 by omega);obtain⟨ns',y,t1,t2⟩:=zp d hd ab k (j+1) (by omega) (ns++[1+(j:Int)]) ⟨by rw[ak,bF];omega,HM ns _ h.r fun m hm=>by have:=h.b m hm;omega,fun n hn=>by
    rcases a_.mp hn with hn|hn
    ·have:=h.b n hn;omega
    ·rw[a8.mp hn];omega⟩ (some (.int (1+(j:Int))))
   refine⟨ns',y,t1,?_⟩;have ea:ns.map D.int++[.int (1+(j:Int))]=(ns++[1+(j:Int)]).map D.int:=by rw[cz];rfl
   rw[mD (σ3:=[some (.int d),some (.int (ab:Int)),some (.lst true ((ns++[1+(j:Int)]).map D.int)),some (.int (1+(j:Int)))]) rfl (by
    rw[<-ea];unfold kX nC;simp_arith [g1,fi,ln,g2];rw[kR (xs:=ns.map D.int) rfl (by omega) rfl];simp_arith [])]
   exact t2
  ·have g2:=decide_eq_false (show ¬(ns.length:Int)<4 by omega);obtain⟨ns',y,t1,t2⟩:=zp d hd ab k (j+1) (by omega) ns wide (some (.int (1+(j:Int))));refine⟨ns',y,t1,?_⟩;rw[mD (σ3:=[some (.int d),some (.int (ab:Int)),some (.lst true (ns.map D.int)),some (.int (1+(j:Int)))]) rfl (by
    unfold kX nC;simp_arith [g1,fi,ln,g2])]
   exact t2
 |false=>
  obtain⟨ns',y,t1,t2⟩:=zp d hd ab k (j+1) (by omega) ns wide (some (.int (1+(j:Int))));refine⟨ns',y,t1,?_⟩;rw[mD (σ3:=[some (.int d),some (.int (ab:Int)),some (.lst true (ns.map D.int)),some (.int (1+(j:Int)))]) rfl (by
   unfold kX nC;simp_arith [g1,fi,ln])]
  exact t2
theorem OU(d:Int)(hd:0<=d)(ab:Nat)(ha:ab<=12):∃ns,pL ns (ab:Int)/\tN [.int d,.int (ab:Int)]=.ok (.lst true (ns.map D.int)):=by
 have hs:=szl;obtain⟨ns,y,t1,t2⟩:=zp d hd ab ab 0 (by omega) [] ⟨by simp,trivial,by simp⟩ none;refine⟨ns,t1,?_⟩;have rg:nS [.int 1,.int ((ab:Int)+1)]=.ok ((bG ab).map fun i=>D.int (1+((0+i:Nat):Int))):=by
  rw[Nk ⟨by omega,by omega,by omega,by omega,by omega⟩];unfold je;rw[show((ab:Int)+1-1).toNat=ab by omega];refine congrArg R.ok (iY fun i _=>?_);rw[oN]
 have t2:forR _ _ ((bG ab).map fun i=>D.int (1+((0+i:Nat):Int))) [some (.int d),some (.int (ab:Int)),some (.lst true []),none]=_:=t2;generalize(bG ab).map (fun i=>D.int (1+((0+i:Nat):Int)))=L at rg t2;unfold tN xZ;unfold nC at t2 ⊢;simp_arith -implicitDefEqProofs [rg,t2]
noncomputable def cO(p:Cl):D:=.tup [.lst true (p.1.map D.int),.lst true (p.2.map Rw.val)]
theorem LD:∀C:List Cl,aD (C.map cO)=C.map cF
|[]=>rfl
|p::r=>by
 show bh (cO p)::aD (r.map cO)=_;rw[LD r];show D.tup [.lst false (aD (p.1.map D.int)),.lst false (aD (p.2.map Rw.val))]::_=_;rw[gv];rfl
theorem J5:∀ws:List Rw,cR (ws.map Rw.val)=true
|[]=>rfl
|w::r=>by
 show(aX w.val&&cR (r.map Rw.val))=true;rw[B5,J5 r];rfl
theorem T9:∀C:List Cl,cR (C.map cO)=true
|[]=>rfl
|p::r=>by
 show((cR (p.1.map D.int)&&(cR (p.2.map Rw.val)&&true))&&cR (r.map cO))=true;rw[rZ,J5,T9 r];rfl
theorem nF.app:∀{C:List Cl}{i:Nat}{p:Cl},nF i C->Dl (i+C.length) p->nF i (C++[p])
|[],i,p,_,h=>⟨h,trivial⟩
|q::r,i,p,hC,h=>⟨hC.1,nF.app hC.2 (by rw[show i+1+r.length=i+(r.length+1)by omega];exact h)⟩
theorem nF.last:∀{C:List Cl}{i:Nat}{p:Cl},nF i (C++[p])->nF i C/\Dl (i+C.length) p
|[],i,p,h=>⟨trivial,h.1⟩
|q::r,i,p,h=>by
 obtain⟨h1,h2⟩:=nF.last h.2;rw[show i+1+r.length=i+(r.length+1)by omega]at h2;exact⟨⟨h.1,h1⟩,h2⟩
noncomputable abbrev yw:bf->Fl:=dP gk 1000 dh
noncomputable abbrev i_(a:Option D)(s:Int)(C:List Cl)(k c d:Option D):bf:=[a,some (.int s),some (.lst true (C.map cO)),k,c,d]
theorem SQ(Q:List D)(y:D):fC (Q++[y]) (-1)=some y:=by
 unfold fC;rw[ak,bF,zm];show(Q++[y])[Q.length]?=_;rw[cP (aN _),oR];rfl
structure HN (C:List Cl):Prop where
 ok:nF 0 C
 l:C.length<=12
 n:C≠[]
noncomputable def b1:b6->CS
|.cons a _=>a
|_=>.cont
noncomputable def bC:b6->CE
|.cons _ (.cons (.ifs c _ _) _)=>c
|_=>.con .non
noncomputable def bA:b6->b6
|.cons _ (.cons (.ifs _ a _) _)=>a
|r=>r
noncomputable def bB:b6->b6
|.cons _ (.cons (.ifs _ _ b) _)=>b
|r=>r
theorem Zt{n:Nat}{c:CE}{A B:b6}{b:Bool}(h:pT M c O=.ok b):dP M n (.cons (.ifs c A B) .nil) O=if b=true then dP M n A O else dP M n B O:=by
 rw[vN,GP,h];cases b with
 |true=>show sL (dP M n A O) _=dP M n A O;cases dP M n A O<;>rfl
 |false=>show sL (dP M n B O) _=dP M n B O;cases dP M n B O<;>rfl
theorem X8{a:CE}{k:Nat}{d x x':D}(h:sJ O o=some (k,is))(q:pE M a O=.ok d)(hd:aX d=true)(hx:O[k]?=some (some x))(ha:eF is x d=some x'):C4 M o a O=.nx (O.set k (some x')):=by
 unfold C4;rw[h];show(pE M a O).nR false _=_;rw[q,pq_thnL_ok'];simp only[hx,hd,if_true,ha];rfl
theorem SR(a:Option D)(s:Int)(hs0:0<=s)(C:List Cl)(hC:HN C)(k c:Int)(hk:0<=k/\k<=62)(d:Option D):∃C' d',HN C'/\yw (i_ a s C (some (.int k)) (some (.int c)) d)=.nx (i_ a s C' (some (.int k)) (some (.int c)) d'):=by
 have hs:=szl;obtain⟨v,v0,v1,qv⟩:=uX c (k+120) (by omega);obtain⟨hok,hl,hn⟩:=hC;obtain⟨Q,p,rfl⟩:∃Q p,C=Q++[p]:=by
  cases C with
  |nil=>exact absurd rfl hn
  |cons a r=>exact⟨(a::r).dropLast,(a::r).getLast (by simp),(List.dropLast_concat_getLast (by simp)).symm⟩
 obtain⟨hQ,hp⟩:=hok.last;rw[oN]at hp;have fc:=LD (Q++[p]);have lf:((Q++[p]).map cF).length=(Q++[p]).length:=az _;have lo:((Q++[p]).map cO).length=(Q++[p]).length:=az _;have al:fC ((Q++[p]).map cF) (-1)=some (.tup [.lst false (p.1.map D.int),.lst false (aD (p.2.map Rw.val))]):=by
  rw[cz];exact SQ _ _
 have fi:=gv p.1;have fv:=dU (p.2.map Rw.val);have lv:(aD (p.2.map Rw.val)).length=p.2.length:=by rw[jW,az]
 have e1:(Q++[p]).map cO=Q.map cO++[.tup [.lst true (p.1.map D.int),.lst true (p.2.map Rw.val)]]:=by rw[cz];rfl
 have hp2:=hp.2.1;have more:(Q++[p]).length<12->(v%6=0\/p.2.length=12)->∃C' d',HN C'/\yw (i_ a s (Q++[p]) (some (.int k)) (some (.int c)) d)=.nx (i_ a s C' (some (.int k)) (some (.int c)) d'):=by
  intro h12 hor;obtain⟨ns,t1,t2⟩:=OU (v / 6) (by omega) (Q++[p]).length (by omega);refine⟨(Q++[p])++[(ns,[])],some (.int v),⟨hok.app ⟨by rw[oN];exact t1,by simp,by simp⟩,by rw[ak,bF];omega,by simp⟩,?_⟩;have ea:((Q++[p])++[(ns,[])]).map cO=(Q++[p]).map cO++[.tup [.lst true (ns.map D.int),.lst true []]]:=by rw[cz];rfl
  have oi:=rZ ns;have g0:=decide_eq_true (show(((Q++[p]).length:Nat):Int)<12 by omega);unfold yw dh gk i_;rw[ea];generalize(Q++[p]).map cO=X at fc lo ⊢;generalize(Q++[p]).map cF=aa5 at fc lf al;generalize(Q++[p]).length=m at *;generalize aD (p.2.map Rw.val)=V at al fv lv;generalize p.1.map D.int=N at al fi;generalize ns.map D.int=NN at t2 oi ⊢;cases g1:(v%6==0)with
  |true=>
   simp_arith -implicitDefEqProofs [qv,fc,lf,g0,g1,t2];rw[kR (xs:=X) rfl (by omega) (by rw[oJ];exact .inl (by simp_arith -implicitDefEqProofs [oi]))];simp_arith -implicitDefEqProofs [oi]
  |false=>
   have g2:((p.2.length:Int)==12)=true:=by
    rw[beq_iff_eq];have:=hor.resolve_left fun z=>by rw[z]at g1;cases g1
    omega
   simp_arith -implicitDefEqProofs [qv,fc,lf,g0,g1,al,fi,fv,jz,lv,g2,t2];rw[kR (xs:=X) rfl (by omega) (by rw[oJ];exact .inl (by simp_arith -implicitDefEqProofs [oi]))];simp_arith -implicitDefEqProofs [oi]
 have rows:¬((Q++[p]).length<12/\(v%6=0\/p.2.length=12))->∃C' d',HN C'/\yw (i_ a s (Q++[p]) (some (.int k)) (some (.int c)) d)=.nx (i_ a s C' (some (.int k)) (some (.int c)) d'):=by
  intro hno;obtain⟨w,hw,qr⟩:=VD c k s ⟨hk.1,by omega⟩ hs0;have ow:=B5 w;have app:=HE (Q.map cO) (.lst true (p.1.map D.int)) (p.2.map Rw.val) (by rw[az];omega) w.val;have em:(Q++[(p.1,p.2++[w])]).map cO=Q.map cO++[.tup [.lst true (p.1.map D.int),.lst true (p.2.map Rw.val++[w.val])]]:=by
   rw[cz];show _++[D.tup [.lst true (p.1.map D.int),.lst true ((p.2++[w]).map Rw.val)]]=_;rw[cz];rfl
  rw[<-e1,<-em]at app;have test:∀M:List PG,pT M (.and (.cmp .Lt (.blt .len (.cons (.var 2) .nil)) (.con (.int 12))) (.or (.cmp .Eq (.bin .Mod (.var 5) (.con (.int 6))) (.con (.int 0))) (.cmp .Eq (.blt .len (.cons (.ix (.ix (.var 2) (.neg (.con (.int 1)))) (.con (.int 1))) .nil)) (.con (.int 12))))) (i_ a s (Q++[p]) (some (.int k)) (some (.int c)) (some (.int v)))=.ok false:=by
   intro M;unfold i_;generalize(Q++[p]).map cO=X at fc;generalize(Q++[p]).map cF=aa5 at fc lf al;generalize(Q++[p]).length=m at *;generalize aD (p.2.map Rw.val)=V at al fv lv;generalize p.1.map D.int=N at al fi;by_cases h12:m<12
   ·have g0:=decide_eq_true (show(m:Int)<12 by omega);have g1:(v%6==0)=false:=by rw[beq_eq_false_iff_ne];exact fun z=>hno ⟨h12,.inl z⟩
    have g2:((p.2.length:Int)==12)=false:=by rw[beq_eq_false_iff_ne];exact fun z=>hno ⟨h12,.inr (by omega)⟩
    simp_arith -implicitDefEqProofs [fc,lf,g0,g1,al,fi,fv,jz,lv,g2]
   ·have g0:=decide_eq_false (show ¬(m:Int)<12 by omega);simp_arith -implicitDefEqProofs [fc,lf,g0]
  have hd:pS gk 1000 (b1 dh) (i_ a s (Q++[p]) (some (.int k)) (some (.int c)) d)=.nx (i_ a s (Q++[p]) (some (.int k)) (some (.int c)) (some (.int v))):=by
   unfold b1 dh gk i_;generalize(Q++[p]).map cO=X;simp_arith -implicitDefEqProofs [qv]
  have test:pT gk (bC dh) (i_ a s (Q++[p]) (some (.int k)) (some (.int c)) (some (.int v)))=.ok false:=test _;have key:yw (i_ a s (Q++[p]) (some (.int k)) (some (.int c)) d)=dP gk 1000 (bB dh) (i_ a s (Q++[p]) (some (.int k)) (some (.int c)) (some (.int v))):=by
   show dP gk 1000 (.cons (b1 dh) (.cons (.ifs (bC dh) (bA dh) (bB dh)) .nil)) _=_;rw[vN,hd,Ek,Zt test,if_neg (by decide)]
  rw[key];by_cases hr:p.2.length<12
  ·refine⟨Q++[(p.1,p.2++[w])],some (.int v),⟨hQ.app ⟨by rw[oN];exact hp.1,by show(p.2++[w]).length<=12;rw[ak,bF];omega,fun x hx=>?_⟩,by simpa using hl,by simp⟩,?_⟩
   ·rcases a_.mp hx with hx|hx
    ·exact hp.2.2 x hx
    ·rw[a8.mp hx];exact hw
   have g:=decide_eq_true (show(p.2.length:Int)<12 by omega);unfold i_;generalize(Q++[(p.1,p.2++[w])]).map cO=X2 at app ⊢;generalize(Q++[p]).map cO=X at fc app ⊢;generalize(Q++[p]).map cF=aa5 at fc lf al;generalize aD (p.2.map Rw.val)=V at al fv lv;generalize p.1.map D.int=N at al fi;generalize w.val=z at qr ow app;unfold bB dh gk;simp_arith -implicitDefEqProofs [fc,al,fi,fv,jz,lv,g];rw[X8 (k:=2) (is:=[-1,1]) (d:=z) rfl (by simp_arith -implicitDefEqProofs [qr]) ow rfl app];simp_arith -implicitDefEqProofs []
  ·refine⟨Q++[p],some (.int v),⟨hok,hl,by simp⟩,?_⟩;have g:=decide_eq_false (show ¬(p.2.length:Int)<12 by omega);unfold i_;generalize(Q++[p]).map cO=X at fc ⊢;generalize(Q++[p]).map cF=aa5 at fc lf al;generalize aD (p.2.map Rw.val)=V at al fv lv;generalize p.1.map D.int=N at al fi;unfold bB dh gk;simp_arith -implicitDefEqProofs [fc,al,fi,fv,jz,lv,g]
 by_cases hc:(Q++[p]).length<12/\(v%6=0\/p.2.length=12)
 ·exact more hc.1 hc.2
 ·exact rows hc
noncomputable abbrev LF:D->bf->R bf:=pG (.tup (.cons (.name 3) (.cons (.name 4) .nil)))
theorem HP(a:Option D)(s:Int)(hs0:0<=s):∀(cs:List Int) (j:Nat) (hj:j+cs.length<=62) (C:List Cl) (hC:HN C) (k c d:Option D),∃C' k' c' d',HN C'/\forR LF yw (iy j (cs.map D.int)) (i_ a s C k c d)=.nx (i_ a s C' k' c' d')
|[],j,hj,C,hC,k,c,d=>⟨C,k,c,d,hC,rfl⟩
|x::cs,j,hj,C,hC,k,c,d=>by
 have hj:j+(cs.length+1)<=62:=hj;obtain⟨C1,d1,h1,e1⟩:=SR a s hs0 C hC (j:Int) x (by omega) d;obtain⟨C2,k2,c2,d2,h2,e2⟩:=HP a s hs0 cs (j+1) (by omega) C1 h1 (some (.int (j:Int))) (some (.int x)) d1;have g1:LF (.tup [.int (j:Int),.int x]) (i_ a s C k c d)=.ok (i_ a s C (some (.int (j:Int))) (some (.int x)) d):=rfl;exact⟨C2,k2,c2,d2,h2,(mD g1 e1).trans e2⟩
theorem SS(ns:List Int)(hn:ns.length<=63):∃C,HN C/\rK [nA ns]=.ok (.lst true (C.map cO)):=by
 obtain⟨c,qc⟩:=XJ ns;obtain⟨s,s0,s1,qs⟩:=uX c 1 (by omega);have fi:=gv ns;obtain⟨aa4,hM,c1⟩:∃aa4:List Int,aa4.length<=62/\cut (ns.map D.int) (some 1) (some 63)=aa4.map D.int:=by
  refine⟨ns.drop (min 1 ns.length),by rw[d_];omega,?_⟩;show cut (ns.map D.int) (some ((1:Nat):Int)) (some ((63:Nat):Int))=_;unfold cut;rw[HT.uH,HT.uH,dM (by rw[d_,az];omega),az,wU]
 unfold nA at qc ⊢;obtain⟨C,k,c',d,hC,e⟩:=HP (some (.lst false (ns.map D.int))) s s0 aa4 0 (by omega) [([],[])] ⟨⟨⟨⟨by simp,trivial,by simp⟩,by simp,by simp⟩,trivial⟩,by simp,by simp⟩ none none none;refine⟨C,hC,?_⟩;have fM:=gv aa4;have oM:=rZ aa4;have e:forR LF yw (iy 0 (aa4.map D.int)) [some (.lst false (ns.map D.int)),some (.int s),some (.lst true [.tup [.lst true [],.lst true []]]),none,none,none]=_:=e;generalize ns.map D.int=N at *;generalize aa4.map D.int=N2 at *;unfold rK vR;unfold LF yw i_ at e;unfold gk at e ⊢;have hs:=szl;simp_arith [fi,qc,qs,c1,fM,oM,e]
theorem VR(w:Rw):iC 6 (bh w.val):=by
 have kk:∀ks:List (List Nat),iC 5 (.lst false (aD (ks.map wD))):=fun ks=>⟨rfl,fun y hy=>by
  rw[cH]at hy;obtain⟨k,_,rfl⟩:=bT.mp hy;trivial⟩
 have rf:∀l k,iC 5 (bh (eV l k)):=fun l k=>all2 (p:=iC 4) trivial trivial;have od:∀o,iC 5 (bh (oD o)):=fun o=>by cases o<;>trivial
 cases w with
 |parts n c l ks=>exact dj (p:=iC 5) trivial (dj (p:=iC 5) trivial (dj (p:=iC 5) trivial (dj (p:=iC 5) trivial (dj (p:=iC 5) (kk _) (fun _ z=>nomatch z)))))
 |join l k v l2 k2=>exact dj (p:=iC 5) trivial (dj (p:=iC 5) (rf _ _) (dj (p:=iC 5) trivial (dj (p:=iC 5) (rf _ _) (fun _ z=>nomatch z))))
 |size l k v a b=>exact dj (p:=iC 5) trivial (dj (p:=iC 5) (rf _ _) (dj (p:=iC 5) trivial (dj (p:=iC 5) (od _) (dj (p:=iC 5) (od _) (fun _ z=>nomatch z)))))
 |isa l k ks=>exact dj (p:=iC 5) trivial (dj (p:=iC 5) (rf _ _) (dj (p:=iC 5) (kk _) (fun _ z=>nomatch z)))
 |aU v l k=>exact dj (p:=iC 5) trivial (dj (p:=iC 5) trivial (dj (p:=iC 5) (rf _ _) (fun _ z=>nomatch z)))
theorem X_(C:List Cl):iC 9 (.lst false (C.map cF)):=⟨rfl,fun y hy=>by
 obtain⟨p,_,rfl⟩:=bT.mp hy;exact all2 (p:=iC 7) ⟨rfl,fun z hz=>by obtain⟨i,_,rfl⟩:=bT.mp hz;trivial⟩ ⟨rfl,fun z hz=>by
  rw[frzs_map',bJ]at hz;obtain⟨w,_,rfl⟩:=bT.mp hz;exact VR w⟩⟩
theorem fin(ns:List Int)(h:ns.length<=63):Lg [nA ns]=.ok (.bl true):=by
 have hs:=szl;obtain⟨C,⟨hok,hl,hn⟩,q⟩:=SS ns h;have qw:=VO C hok hl;have ql:=VQ C hok hl;have qr:=Lx C hok hl hn;have qa:yb [.lst false (C.map cF),.lst false (C.map cF)]=.ok (.bl true):=Dm 9 _ (X_ C);have qj:=B9 C hok hl true;have fo:=LD C;have fc:=B6 C;have oo:=T9 C;have fi:=gv ns;have fl:=FF (lines C);have fy:=LC C;have eb:=beq_self_eq_true (txt C);unfold nA at q ⊢;generalize C.map cO=X at q fo oo;generalize C.map cF=aa5 at *;generalize C.map cD=Z at qr fc;generalize(lines C).map lD=L at *;generalize txt C=x at *;generalize ns.map D.int=N at *;unfold Lg Lf TU;simp_arith [fi,q,oo,fo,fy,qw,ql,fl,ZQ,qj,eb,qa,qr,fc]
end K2
end
namespace Fin
open PySem L2 L3 Tr
section
variable{P:bq}{w:bH}{K:PySem.W.Frag}{mg:Str->Option Value}
structure Hy (P:bq) (w:bH) (K:PySem.W.Frag) (mg:Str->Option Value) (a_THE:Addr) (a_KEPT_WORDS:Addr) (a_A:Addr):Prop where
 z:∀x∈BN,mg x=none
 D_law:DI K mg tR
 D_l_alike:DI K mg EC
 D_read_claims:DI K mg wH
 D_rows_in:DI K mg ED
 D_words_in:DI K mg BR
 D_takes_in:DI K mg BU
 D_taken_numbers:DI K mg tQ
 D_number_in:DI K mg z9
 D_is_figures:DI K mg yh
 D_all_within:DI K mg yg
 D_choices_in:DI K mg yi
 D_row_in:DI K mg G_
 D_row_told:DI K mg BW
 D_told_of_ref:DI K mg wF
 D_size_told:DI K mg z_
 D_bounds_told:DI K mg wA
 D_join_told:DI K mg Ab
 D_ref_told:DI K mg BV
 D_all_words:DI K mg Aa
 D_is_word:DI K mg EE
 D_is_told:DI K mg EF
 D_kinds_told:DI K mg yj
 D_count_of_words_ahead:DI K mg mz
 D_step_told:DI K mg Ac
 D_parts_told:DI K mg yk
 D_l_claims:DI K mg BY
 D_l_takes:DI K mg EG
 D_l_row:DI K mg JN
 D_l_ref:DI K mg JM
 D_l_word:DI K mg Hf
 D_l_some:DI K mg Hg
 D_l_bounds:DI K mg BX
 D_l_mixed:DI K mg EH
 D_l_cell:DI K mg Hh
 D_l_lines:DI K mg EI
 D_l_text:DI K mg Hj
 D_l_ref_text:DI K mg yl
 D_l_size_text:DI K mg wJ
 D_write_claims:DI K mg uV
 D_row_of:DI K mg Ho
 D_ref_of:DI K mg Hl
 D_bounds_of:DI K mg Ad
 D_many_of:DI K mg EJ
 D_first_row_of:DI K mg uU
 V_MOST_CLAIMS:∃u,mg "MOST_CLAIMS"=some u/\RelV (V.int 12) u
 V_MOST_FIGURES:∃u,mg "MOST_FIGURES"=some u/\RelV (V.int 30) u
 V_MOST_ROWS:∃u,mg "MOST_ROWS"=some u/\RelV (V.int 12) u
 V_THE:mg "THE"=some (.ref a_THE)/\DY K a_THE true [.str "the",.str "said"]
 V_KEPT_WORDS:mg "KEPT_WORDS"=some (.ref a_KEPT_WORDS)/\DY K a_KEPT_WORDS true [.str "a",.str "an",.str "the",.str "said",.str "claim",.str "on",.str "or",.str "then",.str "from",.str "to",.str "of",.str "at",.str "least",.str "most",.str "just",.str "is"]
 V_MOST_LETTERS:∃u,mg "MOST_LETTERS"=some u/\RelV (V.int 8) u
 V_A:mg "A"=some (.ref a_A)/\DY K a_A true [.str "a",.str "an"]
 V_MOST_KINDS:∃u,mg "MOST_KINDS"=some u/\RelV (V.int 3) u
 V_MOST_PARTS:∃u,mg "MOST_PARTS"=some u/\RelV (V.int 5) u
 C_TooBig:Oq P w K mg "TooBig" 82 [("claim",1),("row",2)] 3
 C_NoClaim:Oq P w K mg "NoClaim" 63 [("row",1)] 2
 C_BadRow:Oq P w K mg "BadRow" 44 [("row",1)] 2
variable{base:Heap}{a_THE:Addr}{a_KEPT_WORDS:Addr}{a_A:Addr} (Z:Hy P w K mg a_THE a_KEPT_WORDS a_A)
include Z
theorem Ah:∀j,fh P w K mg base (0+j) "_law_alike" (iz j)
|0=>f0 Z.D_l_alike
|j+1=>fD (k:=0+j) Z.D_l_alike Ot Z.z (gF (Ah j) gN (aN _))
theorem LG:fh P w K mg base 9 "_law_alike" yb:=Ah Z 9
theorem IL:fh P w K mg base 1 "words_in" rH:=fD (k:=0) Z.D_words_in Lh Z.z gN
theorem LH:fh P w K mg base 2 "rows_in" tM:=fD (k:=1) Z.D_rows_in Ou Z.z (gF (IL Z) gN)
theorem wK:fh P w K mg base 1 "all_within" kY:=fD (k:=0) Z.D_all_within G5 Z.z gN
theorem E3:fh P w K mg base 2 "is_figures" nX:=fD (k:=1) Z.D_is_figures G6 Z.z (gF (wK Z) (gV Z.V_MOST_FIGURES rfl gN))
theorem sW:fh P w K mg base 3 "number_in" c9:=fD (k:=2) Z.D_number_in IC Z.z (gF (E3 Z) gN)
theorem wL:fh P w K mg base 1 "choices_in" fS:=fD (k:=0) Z.D_choices_in G7 Z.z gN
theorem A2:fh P w K mg base 4 "taken_numbers" gZ:=fD (k:=3) Z.D_taken_numbers BS Z.z (gF (sW Z) (gF (wL Z) gN))
theorem IM:fh P w K mg base 5 "takes_in" nY:=fD (k:=4) Z.D_takes_in Li Z.z (gC Z.C_NoClaim (gC Z.C_BadRow (gF (A2 Z) gN)))
theorem Dn:fh P w K mg base 4 "bounds_told" cg:=fD (k:=3) Z.D_bounds_told EY Z.z (gF (sW Z) gN)
theorem HQ:fh P w K mg base 5 "size_told" jo:=fD (k:=4) Z.D_size_told ID Z.z (gF (Dn Z) gN)
theorem rM:fh P w K mg base 2 "is_word" kZ:=fD (k:=1) Z.D_is_word Ov Z.z (gT Z.V_KEPT_WORDS ⟨a_KEPT_WORDS,_,rfl,Z.V_KEPT_WORDS.2,by decide +kernel,by repeat (first|exact rfl|refine⟨_,_,rfl,⟨rfl,by decide +kernel⟩,?_⟩|refine⟨_,_,rfl,rfl,?_⟩)⟩ (gF (wK Z) (gV Z.V_MOST_LETTERS rfl gN)))
theorem yx:fh P w K mg base 3 "all_words" jq:=fD (k:=2) Z.D_all_words IE Z.z (gF (rM Z) gN)
theorem p9:fh P w K mg base 4 "ref_told" eY:=fD (k:=3) Z.D_ref_told Lj Z.z (gF (yx Z) gN)
theorem HR:fh P w K mg base 5 "join_told" jr:=fD (k:=4) Z.D_join_told IF Z.z (gF (p9 Z) gN)
theorem wM:fh P w K mg base 4 "kinds_told" gj:=fD (k:=3) Z.D_kinds_told G8 Z.z (gF (yx Z) (gV Z.V_MOST_KINDS rfl (gF (wL Z) gN)))
theorem LI:fh P w K mg base 5 "is_told" nB:=fD (k:=4) Z.D_is_told Ow Z.z (gT Z.V_A ⟨a_A,_,rfl,Z.V_A.2,by decide +kernel,by repeat (first|exact rfl|refine⟨_,_,rfl,⟨rfl,by decide +kernel⟩,?_⟩|refine⟨_,_,rfl,rfl,?_⟩)⟩ (gF (wM Z) (gF (p9 Z) gN)))
theorem tw:fh P w K mg base 3 "count_of_words_ahead" eG:=fD (k:=2) Z.D_count_of_words_ahead uy Z.z (gF (rM Z) gN)
theorem Dp:fh P w K mg base 6 "told_of_ref" di:=fD (k:=5) Z.D_told_of_ref EZ Z.z (gF (HQ Z) (gT Z.V_THE ⟨a_THE,_,rfl,Z.V_THE.2,by decide +kernel,by repeat (first|exact rfl|refine⟨_,_,rfl,⟨rfl,by decide +kernel⟩,?_⟩|refine⟨_,_,rfl,rfl,?_⟩)⟩ (gF (HR Z) (gF (p9 Z) (gF (LI Z) (gF (tw Z) gN))))))
theorem HS:fh P w K mg base 5 "step_told" ko:=fD (k:=4) Z.D_step_told IG Z.z (gF (p9 Z) (gT Z.V_THE ⟨a_THE,_,rfl,Z.V_THE.2,by decide +kernel,by repeat (first|exact rfl|refine⟨_,_,rfl,⟨rfl,by decide +kernel⟩,?_⟩|refine⟨_,_,rfl,rfl,?_⟩)⟩ (gF (rM Z) gN)))
theorem E4:fh P w K mg base 5 "parts_told" dw:=fD (k:=4) Z.D_parts_told G9 Z.z (gF (rM Z) (gF (wM Z) (gV Z.V_MOST_PARTS rfl (gF (sW Z) gN))))
theorem IP:fh P w K mg base 7 "row_told" dZ:=fD (k:=6) Z.D_row_told Lk Z.z (gT Z.V_THE ⟨a_THE,_,rfl,Z.V_THE.2,by decide +kernel,by repeat (first|exact rfl|refine⟨_,_,rfl,⟨rfl,by decide +kernel⟩,?_⟩|refine⟨_,_,rfl,rfl,?_⟩)⟩ (gF (Dp Z) (gF (HS Z) (gF (E4 Z) (gT Z.V_A ⟨a_A,_,rfl,Z.V_A.2,by decide +kernel,by repeat (first|exact rfl|refine⟨_,_,rfl,⟨rfl,by decide +kernel⟩,?_⟩|refine⟨_,_,rfl,rfl,?_⟩)⟩ gN)))))
theorem OV:fh P w K mg base 8 "row_in" vV:=fD (k:=7) Z.D_row_in Sf Z.z (gV Z.V_MOST_ROWS rfl (gC Z.C_TooBig (gC Z.C_BadRow (gF (IP Z) gN))))
theorem Dq:fh P w K mg base 9 "read_claims" jd:=fD (k:=8) Z.D_read_claims E1 Z.z (gF (LH Z) (gV Z.V_MOST_CLAIMS rfl (gC Z.C_TooBig (gF (IM Z) (gC Z.C_BadRow (gF (OV Z) gN))))))
theorem LJ:fh P w K mg base 1 "_law_takes" tN:=fD (k:=0) Z.D_l_takes Ox Z.z gN
theorem yy:fh P w K mg base 1 "_law_word" jt:=fD (k:=0) Z.D_l_word Sg Z.z gN
theorem SV:fh P w K mg base 2 "_law_ref" pe:=fD (k:=1) Z.D_l_ref Vq Z.z (gF (yy Z) gN)
theorem OW:fh P w K mg base 2 "_law_some" vW:=fD (k:=1) Z.D_l_some Sh Z.z (gF (yy Z) gN)
theorem IQ:fh P w K mg base 1 "_law_bounds" n6:=fD (k:=0) Z.D_l_bounds Ll Z.z gN
theorem B_:fh P w K mg base 1 "_law_mixed" qq:=fD (k:=0) Z.D_l_mixed Oz Z.z gN
theorem SW:fh P w K mg base 3 "_law_row" nD:=fD (k:=2) Z.D_l_row Vr Z.z (gF (SV Z) (gF (yy Z) (gF (OW Z) (gF (IQ Z) (gF (B_ Z) gN)))))
theorem OX:fh P w K mg base 1 "_law_cell" vY:=fD (k:=0) Z.D_l_cell Si Z.z gN
theorem IS:fh P w K mg base 4 "_law_claims" rK:=fD (k:=3) Z.D_l_claims Lm Z.z (gF (LJ Z) (gF (SW Z) (gF (B_ Z) (gF (OX Z) gN))))
theorem E5:fh P w K mg base 1 "_law_ref_text" fU:=fD (k:=0) Z.D_l_ref_text Hi Z.z gN
theorem Dr:fh P w K mg base 1 "_law_size_text" fW:=fD (k:=0) Z.D_l_size_text E2 Z.z gN
theorem OY:fh P w K mg base 2 "_law_text" dR:=fD (k:=1) Z.D_l_text Sj Z.z (gF (E5 Z) (gF (Dr Z) gN))
theorem LK:fh P w K mg base 3 "_law_lines" tO:=fD (k:=2) Z.D_l_lines OA Z.z (gF (OY Z) gN)
theorem OZ:fh P w K mg base 1 "ref_of" ph:=fD (k:=0) Z.D_ref_of Sk Z.z gN
theorem HU:fh P w K mg base 1 "bounds_of" gg:=fD (k:=0) Z.D_bounds_of II Z.z gN
theorem LL:fh P w K mg base 1 "many_of" nE:=fD (k:=0) Z.D_many_of OB Z.z gN
theorem O0:fh P w K mg base 2 "row_of" dS:=fD (k:=1) Z.D_row_of Sl Z.z (gF (OZ Z) (gF (HU Z) (gF (LL Z) gN)))
theorem Ca:fh P w K mg base 1 "first_row_of" f6:=fD (k:=0) Z.D_first_row_of Dc Z.z gN
theorem Cb:fh P w K mg base 3 "write_claims" lO:=fD (k:=2) Z.D_write_claims Dd Z.z (gF (O0 Z) (gF (Ca Z) gN))
theorem Yb{f:Addr}{fd:fJ}(F:qV K "law" "law" tR.s f fd):fH P w K mg base (jQ P w) 10 f fd tR.ps (Gy K Lg):=fF (d:=tR) F Zc Z.z (gF (LG Z) (gF (Dq Z) (gF (IS Z) (gF (LK Z) (gF (Cb Z) gN)))))
end
theorem walk{l:PySem.W.OpenLaw}{q:bq}{loose:List Str}{XP:(Str->Option Value)->Heap->Prop}{YP:bH->Heap->Prop}{d:O6}{K:H_->PySem.W.Frag}(hn:l.most=some 63)(hdf:d.params.defaults=[])(hdn:d.name="law")
  (hY:∀(w:bH) (h:Heap),YP w h->(K w.params).In h) (nk:∀p:H_,((K p).all fun x=>!QF x.2.cls)=true)
  (F:∀(w:bH) (mg:Str->Option Value) (h:Heap),(K w.params).In h->h.Ns dG mg->∃a_THE,∃a_KEPT_WORDS,∃a_A,Hy l.prog w (K w.params) mg a_THE a_KEPT_WORDS a_A) (bd:∀(kV doc pm:Value) (an:Option Addr) (cdv ct:Value) (u:Value),sY (PySem.W.fnOf "law" "law" (lE tR.s) (fZ tR.s) (bZ tR.s) .none kV doc pm an cdv ct) ⟨[u],[]⟩=pure [(("_law_script":Str),u)]) :
  PySem.W.WalkO q loose XP YP l.row.toRowW d [] (fun f vs=>PySem.call f vs):=
 L2.Uz (n:=63) (k:=10) (x:="_law_script") (CX:=fun _=>zK) (sp:=fun w=>(fun vs H Q E=>∃(a:Addr) (ns:List Int),vs=[.ref a]/\Rd H a (.lst (ns.map V.int))/\ns.length<=63/\∀H',Q (.bl true) H')) hn (by decide) hdf ⟨rfl,by decide,by decide⟩ hY (fun w mg fa h X G hfa=>by
  obtain⟨_,_,_,Z⟩:=F w mg h X G;rw[hdn]at hfa;obtain⟨f,fd,L,hm,hb⟩:=Z.D_law;have e:=hfa.symm.trans hm;cases e;obtain⟨_,_,kV,doc,pm,an,cdv,ct,_,rfl,_⟩:=L.ex;exact⟨_,fun s v=>.of_eq (bd _ _ _ _ _ _ v),fun base _ _=>Xq (Yb Z L) K2.fin⟩) (fun w _ a ns hl _ hS=>⟨a,ns,rfl,Zb (nk w.params) hS,hl,fun _=>rfl⟩) fun _ _ _ _ _ z=>z
end Fin
namespace PySem.W.Fast
def tw1879370954731269194 :=0
def tw17879165584194278082 :=0
def tw8461968566907037031 :=0
def tw18435383888225102295 :=0
def tw3530608575592452633 :=0
def tw5460577770695468036 :=0
def tw1360719790023676432 :=0
def tw5611952570973380405 :=0
def tw16140197880510233570 :=0
def tw1820599290364562042 :=0
def tw4290620581516044486 :=0
def tw13862726904213903857 :=0
def tw6875749844630888600 :=0
def tw1471234926739480047 :=0
def tw3019171283628735637 :=0
def tw6011796758745776200 :=0
def tw9038472270744271407 :=0
def tw8788815511103545928 :=0
def tw16565466560225999183 :=0
def tw3798548938794840458 :=0
def tw792533913038739871 :=0
def tw12071522453299304779 :=0
def tw9675721321254655878 :=0
def tw17873390121786458987 :=0
def tw17135103593875097621 :=0
def tw9368960041769198184 :=0
def tw9051786337564950416 :=0
def tw12527347683130392402 :=0
def tw7804929113963439980 :=0
def tw11146859199288661720 :=0
def tw14320045663994543212 :=0
def tw1394157136423234641 :=0
def tw14415291336963786131 :=0
def tw14929573865529566925 :=0
def tw5230742446873705760 :=0
def tw1423278490428236126 :=0
def tw2033037035255598629 :=0
def tw12688810390913345253 :=0
def tw5926753912918094341 :=0
def tw16977763235027930849 :=0
def tw2382460833607986138 :=0
def tw2061287278171601201 :=0
def tw9732842566596067577 :=0
def tw2561403537674729762 :=0
def tw14096083124460145207 :=0
def tw5273289379206471010 :=0
def tw15502060044873440534 :=0
def tw360747135434817028 :=0
def tw15961688749573947221 :=0
def tw16676871913081554444 :=0
def tw621800428308268267 :=0
def tw2535388050129478533 :=0
def tw8194560706161159317 :=0
def tw16431509923566613377 :=0
def tw6840002680143227691 :=0
def tw9149434106633233097 :=0
def tw8462396757426793935 :=0
def tw4975018996130108512 :=0
def tw10371729567474884368 :=0
def tw14372781743052956556 :=0
def tw2996377853401076268 :=0
def tw7123147293047416742 :=0
def tw6296529891392228974 :=0
def tw17395565194703200615 :=0
def tw77746216857970912 :=0
def tw8053267173039288283 :=0
def tw18334687031042801555 :=0
def tw16294704849899342777 :=0
def tw15107049733615030879 :=0
def tw3903549137971505013 :=0
def tw10394301654890717451 :=0
def tw13056548957295100082 :=0
def tw11700353895116384044 :=0
def tw16568056245071992679 :=0
def tw9599905794216379233 :=0
def tw10303938063589419734 :=0
def tw2370192864532895772 :=0
def tw3334657786262163571 :=0
def tw10441647078950958037 :=0
def tw13237197296992611222 :=0
def tw9387133574946838410 :=0
def tw712991251322058292 :=0
def tw6270673549213878670 :=0
def tw13093099953472037591 :=0
def tw14022436956223817146 :=0
def tw3371229730393323062 :=0
def tw6087147163196340465 :=0
def tw11794628739228189060 :=0
def tw11009932599167458239 :=0
def tw2103004914682398071 :=0
def tw15982976716662743506 :=0
def tw14532719882397419290 :=0
def tw8206475988772886707 :=0
def tw15697571956906497372 :=0
def tw13991359565771848006 :=0
def tw3930323573262906348 :=0
def tw17284794443047215778 :=0
def tw5793823134532096901 :=0
def tw3547565584895952884 :=0
def tw1421004822494357297 :=0
def tw6300625237053769982 :=0
def tw13882558983377634579 :=0
def tw881229007484441992 :=0
def tw3736586503994708782 :=0
def tw8034021057092823079 :=0
def tw5088226026152012210 :=0
def tw7028698419993360370 :=0
def tw12014190726876004188 :=0
def tw14992582142809485396 :=0
def tw17234549215841637215 :=0
def tw4367984648214717163 :=0
def tw18188391181599075449 :=0
def tw9692932781269915966 :=0
def tw7699831099234654445 :=0
def tw13612295849521159615 :=0
def tw10490724019667475758 :=0
def tw17049438392483824718 :=0
def tw6810800951315241599 :=0
def tw8947533891840195350 :=0
def tw1365315995259128366 :=0
def tw11290145986546308148 :=0
def tw1932774681035693303 :=0
def tw6636820036445765606 :=0
def tw10623104016370838930 :=0
def tw6494969531968285807 :=0
def tw12375548495872565398 :=0
def tw7031741295071356385 :=0
def tw13407632521786326016 :=0
def tw12628486767968966513 :=0
def tw12609496770623539207 :=0
def tw886107687923565771 :=0
def tw12112458679202554471 :=0
def tw16379791547129201474 :=0
def tw8887456567148707166 :=0
def tw3569379040742388375 :=0
def tw336119646443090695 :=0
def tw4473416894574788017 :=0
def tw9138105349597710785 :=0
def tw13610356684443753148 :=0
def tw9518440834695076847 :=0
def tw3139329921964873097 :=0
def tw17787370847802151946 :=0
def tw7144397750179938488 :=0
end PySem.W.Fast
open PySem PySem.W PyProof.Rows
set_option maxRecDepth 100000 in
set_option maxHeartbeats 0 in
open L3 Tr in
theorem PySem.Challenge.cw_claimwise_k08_claims_written_holds : PySem.Challenge.rw_claimwise_k08_claims_written.Holds := by
 w_on;o_law;k_head;(case hw=>w_witness2)
 k_fill
 refine Fin.walk (l:=PySem.Challenge.rw_claimwise_k08_claims_written) rfl rfl rfl (fun w h aa5=>PySem.W.kIn_of aa5) ?nk ?F ?b
 case nk=>intro p;first|rfl|decide +kernel|k_is|simp[L3.QF]
 case b=>intros;rfl
 case F=>
  intro w mg h KX G;have HX:=hXI (Cs:=xCs) (as:=TR) KX;have HB:=bI (B:=24) KX;exact⟨_,_,_,⟨zI KX G,
   dI KX G,
   dI KX G,
   dI KX G,
   dI KX G,
   dI KX G,
   dI KX G,
   dI KX G,
   dI KX G,
   dI KX G,
   dI KX G,
   dI KX G,
   dI KX G,
   dI KX G,
   dI KX G,
   dI KX G,
   dI KX G,
   dI KX G,
   dI KX G,
   dI KX G,
   dI KX G,
   dI KX G,
   dI KX G,
   dI KX G,
   dI KX G,
   dI KX G,
   dI KX G,
   dI KX G,
   dI KX G,
   dI KX G,
   dI KX G,
   dI KX G,
   dI KX G,
   dI KX G,
   dI KX G,
   dI KX G,
   dI KX G,
   dI KX G,
   dI KX G,
   dI KX G,
   dI KX G,
   dI KX G,
   dI KX G,
   dI KX G,
   dI KX G,
   ⟨_,iI KX G,_,rfl⟩,
   ⟨_,iI KX G,_,rfl⟩,
   ⟨_,iI KX G,_,rfl⟩,
   ⟨iI KX G,_,_,_,by k_is,rfl,rfl,rfl,by simp[dH],by repeat (first|exact Paired.nil|refine Paired.cons ⟨_,rfl⟩ ?_)⟩,
   ⟨iI KX G,_,_,_,by k_is,rfl,rfl,rfl,by simp[dH],by repeat (first|exact Paired.nil|refine Paired.cons ⟨_,rfl⟩ ?_)⟩,
   ⟨_,iI KX G,_,rfl⟩,
   ⟨iI KX G,_,_,_,by k_is,rfl,rfl,rfl,by simp[dH],by repeat (first|exact Paired.nil|refine Paired.cons ⟨_,rfl⟩ ?_)⟩,
   ⟨_,iI KX G,_,rfl⟩,
   ⟨_,iI KX G,_,rfl⟩,
   cI KX G (HX 82 (by decide)) HB Sq,
   cI KX G (HX 63 (by decide)) HB OD,
   cI KX G (HX 44 (by decide)) HB Sn⟩⟩
