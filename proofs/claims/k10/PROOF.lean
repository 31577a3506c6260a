import PyProof.Rows.All
import Wide.All
import OpenK.AllK
import Wide.FinOn
import Lean
import KE.KDictOf
import PyProof.TupleIter
import PyProof.CollectWalk
import PyProof.AttrMissHeap
import PyProof.EqAt
import PyProof.EqKinds
import PyProof.TupleCall
import KE.KSortTup
import KE.KDictSum
import PyProof.DictIter
import PyProof.ConsumeS
import PyProof.Rows.SetFrom
import PyProof.SetRoads
import PyProof.Rows.CountFlat
import PyProof.StationsW
import PyProof.ExcInit
import PyProof.ExcClass2
import PyProof.ExcBaseAll.ValueError
import PyProof.ExcAttrAll.ValueError
import KE.KIsAll
import PyProof.RulesAs
import PyProof.RulesDel
import PyProof.NeKinds
import KE.KDictList
import KE.KRevIter
import PyProof.EnumMake
import PyProof.ListRange
import PyProof.TupleOfGen
import KE.KMinBuiltin
import PyProof.Rows.CallKwBuiltin
import PyProof.ZipIter
import PyProof.Rows.ZipGen
import PyProof.Rows.FactsT2
import PyProof.DictWalks
import KE.IntTextText
import PySem.Challenge.RW_claimwise_k10_first_row_at_fault
set_option Elab.async false
set_option linter.all false
set_option maxRecDepth 100000
set_option maxHeartbeats 4000000
set_option bootstrap.genMatcherCode false
set_option compiler.extract_closed false
set_option genSizeOf false
set_option genInjectivity false
open PySem renaming sizeLine->aa,Shared->ah,wpAny_bind->ao,wpAny->az,model->aA,wpAny_pure->aX,Program->bg,World->bH,starEach->cz,Around->cJ,mainGlobals->cN,wpAny_mono->cU,cLine->dc,wpAny_Call_Name_kw->dh,cellsFrom->dz,sizeLine_eq->dM,wpAny_truthy_bool->d9,sliceBounds->eS,FuncData->eW,Scope->eZ,compareOp->fG,call_meets->fV,wpAny_loadPart_at->f6,wpAny_holding->f_,binaryOp->gn,typeIs_str->gx,wpAny_passesOwn->gM,assignEach->h_,excClassObj->ig,codeAny_mono->iF,NameKind->iG,wpAny_execs_nil->iY,Operator->ji,foldedSetIterable->ju,rawInt->jE,codeAny->jF,sysModules->jR,backTo->j3,bootBuiltins->kI,tupleKind_room_in1->kK,wpAny_call->kY,relabel->k9,wpAny_standAt->lT,behindInMarks->lU,swapsWith->mJ,holding->mK,letOwnedTupleGo->nA,CmpOp->nB,codeAny_call_builtin->nE,unbindBehindTheSuite->nG,wpAny_isSubtype_exc->nQ,callerA->oq,assign->oZ,attributeBase->pe,slot_list_getitem->pP,wpAny_pyIter_list->pR,spliced->qG,valueAt->qH,isTrue->q9,wpAny_execs_cons->q_,bindArgs->rm,wpAny_getItem_list_slice->rq,wpAny_comprehension_free->rC,tupleKind->se,PassesOwn->sf,bindL->sj,bindC->sy,atKey->sC,scanBound->sD,codeAny_builtin->sE,pushCells_keeps->sI,subscripted->tM,wpAny_field->tO,standAt->ue,pyIter->uf,getAttr->ug,wpAny_setField->um,wpAny_loadPart->uo,getitemInPython_of_ne->uq,meets_str_split_space->uv,newFunctionEnv->uw,wpAny_loadName_local->vc,sliceRange->ve,wpAny_letTemporaryGo->vf,swapsWithSole->vH,swappedStores->vI,wpAny_loadName_cell->vJ,wpAny_Tuple_spliced->vL,inplaceOp->xD,seqIndex_neg->xJ,slicePick->xM,getItem->yq,wpAny_assign_Name->yt,wpAny_newObj_type->yx,wpAny_pyIter_enum->yy,seqIndex_of->zm,GenState->z7,noFill_tuple_add->z8,wpAny_lookBehind->Ab,pastItsLine_dict->Ac,wpAny_pyIter_zip->Ad,builtinsNs->A5,wpAny_Name->A6,pyNext->A7,truthy->A8,nsFind->A9,Result->A_,typeIs_int->Bc,codeAny_of_tree->Bh,isInstance->Bk,wpAny_specialOf->Bm,wpAny_operating->Bo,call_gives->Bq,wpAny_Expr_any->Ce,recursionLimit->Cg,BindsTo->Ci,letTemporaryGo->Ck,numbered_texts->Cm,Keyword->Cn,storeName->DA,noteFrame->DC,strValues->DE,lastMarks->DF,intBits_le_64->DU,seq_tuple_add->DV,evalPart_none->DW,wpAny_attempt->DX,evalPart_some->D0,concat_meets->Gw,Params->GA,ExcBaseFacts->GC,wpAny_mkText->GD,instanceDict->GF,wpAny_nsSet1->GG,interactive->Hh,IsRangeIter->Hi,wpAny_Slice->Hq,wpAny_alloc->Hs,strsFrom_eq->Ht,setItem->II,leaving->IJ,Builtin->IK,OwnTail->IL,Model->Kc,execs->Ke,typeLookup->Kg,refuseLoop->Kq,excMatches->Kr,closureFor->Ks,IsPart->M4,DefRec->M6,cellOf->Na
open List renaming mem_cons_of_mem->ai,mem_cons_self->aq,mem_append_right->au,length_append->ay,replicate->aB,getElem?_eq_getElem->aG,length_map->aH,mem_cons->aJ,mem_append_left->aK,length_cons->aN,size_toArray->aQ,mem_singleton->aU,not_mem_nil->aW,mem_append->aZ,append_assoc->br,all_eq_true->bz,nodup_append->bF,getElem?_map->bL,replicate_succ->bM,getElem?_eq_some_iff->bN,range->bY,getElem?_set_ne->b6,nodup_cons->b7,lookup_cons->b8,length_singleton->cg,mem_map->ck,flatten_cons->cB,map_map->cE,getElem?_append_right->cL,map_append->di,take_of_length_le->dm,map_cons->dG,getD_eq_getElem?_getD->dX,getElem?_set_self->dY,getElem?_set->d_,getElem?_append_left->eE,length_drop->fC,mem_of_getElem?->fU,length_nil->fW,eq_nil_of_length_eq_zero->gb,filterMap_cons->gi,nodup_nil->gp,mem_replicate->gE,append_nil->gO,length_replicate->gP,all_map->iK,getElem_mem->iL,filterMap_cons_some->iM,filterMap_cons_none->iN,find?_cons->i9,lookup->jj,length_range->jw,mem_range->jC,length_take->jS,intercalate->jU,contains_cons->kM,drop_zero->k8,getElem?_cons_succ->lu,drop_of_length_le->lF,any_cons->lW,any_eq_true->mj,getElem?_of_mem->nH,drop_append_of_le_length->nL,all_cons->pF,any_eq_false->pN,getElem?_eq_none_iff->ql,drop_eq_getElem_cons->qm,getElem_append_right->qo,idxOf_lt_length_iff->rA,getElem?_replicate->rF,filter_cons_of_pos->rG,of_mem_zip->sA,nil_append->sG,filter->tR,set_append_right->ux,getLast?_concat->vh,dropLast_concat->vj,getElem_of_mem->vN,getElem?_range->vP,map_congr_left->vR,mem_filterMap->xE,map_replicate->xU,foldl_append->yw,cons_append->Ag,mem_filter->A4,length_set->Bb,foldl->Bd,foldl_cons->Be,range_succ->Bg,count_cons->Bj,idxOf_cons->Bp,isPrefixOf->Bs,take_left->Cp,sum_cons->D3,map_drop->D4,map_take->D5,map_nil->Gz,any_map->GI,length->Ho
open PySem.Str renaming ofString->aj,join->dU,length->fB,length_append->pV,empty->DB
open False renaming elim->ak
open Bool renaming false_ne_true->aE,and_eq_true->bx,eq_iff_iff->fY,and_eq_true_iff->nJ,and_false->om,or_true->rB,not_eq_true'->yD,or_eq_true->Bl,false_and->Cf,and_true->DZ,true_or->Gy
open PySem.Heap renaming get?_push_of_some->aF,lt_size->aP,get?_push_size->bu,get?_update_other->dZ,size_push->eU,SameBut->kJ,get?_update_self->mL
open Nat renaming le_refl->aM,ne_of_lt->bw,lt_of_lt_of_le->bE,lt_irrefl->dF,le_trans->dH,le_of_lt->iE,lt_succ_self->iJ,le_succ->jk,lt_succ_of_lt->jv,zero_le->j6,lt_trans->kN,ne_of_gt->ny,sub_self->nK,mod_eq_of_lt->rD,min_eq_left->sN,lt_of_succ_lt_succ->tP,succ_mul->xN,add_comm->xO,le_of_eq->xQ,toDigits->xS,mul_comm->GH,mul_succ->GK,repr->GL
open PySem.Value renaming ref->a8,none->c_,bool->g_,builtin->pD,int->r_,str->sd,float->zl,isStrOf->DT,isInt->Hf,bytes->Hg
open PySem.Expr.Name renaming elim->bP
open PySem.NameKind renaming free->bZ,cell->b_
open Option.some renaming inj->cH
open Ne renaming symm->cK
open PySem.Builtin.Str renaming strSliceIndices->cV,spaceWords->jl,tooLong->Kv,strSub->M_
open PySem.Expr.Call renaming elim->cY
open PySem.Calls renaming spliced_cons->dg,spliced_nil->fZ,Name_function_global->o_,callWith_builtin->tQ,docDef->M7
open True renaming intro->dS
open PyProof.Rows renaming callWith_builtin1->eF,callWith_type1->e_,envOfC->iZ,AllBare->jD,step_dedup->lq,subscriptTail->lV,step_dedup->nC,boot_isinstance->sL,subscriptTail_builtinR->tN,IntsAre->uh,slot_tuple_getitem->xK,slot_str_getitem->z9,Subscript_->Ba,tail_any->Gx,text_ofNat->GO,SetOf_congr->Hr,join_list->Hu,isTrue_and->Kf
open PyProof.Rows.F renaming plain_set_update_loop->gA,entry_set_update_loop->kL
open PySem.Txt renaming words->gD,split->iu,mul->IM
open PySem.Builtin.ObjectAttr renaming storeInOwnDict->ir,ownDictForStores->kZ,storeInDict->nF
open PySem.Builtin.List renaming listTooLong->iH,listFitsIndex->DY
open ForInStep renaming yield->i_
open PySem.Obj renaming mapSeq->jT,mapFields->ph
open List.cons renaming inj->j4
open PySem.Expr.Subscript renaming elim->j9
open PySem.Code renaming quiet_builtin->o4,isFrame->xG,frames->Hl
open Array renaming getElem?_eq_some_iff->pq,getElem?_toList->uu,length_toList->vK,toList_append->vO,toList->Gv
open Option renaming isSome_map->pQ,isSome_some->xP,getD_none->z_
open PySem.StrLaws renaming subAt_one->pU,occ_length_le->IP,lt_cons_cons->Ku,join_split->M8,split_free->M9,lt_nil_nil->Nf,occ_tight->Nh,occ_head->QV,subAt_eq->QW
open Sum renaming inl->qE,inr->qF
open PySem.PassesOwn renaming never->sJ
open PySem.Expr.Tuple renaming elim->sM
open PySem.Around renaming under_plainId->vd,under->xF
open Char renaming toNat->vg,ofNat->Br
open PySem.EntryCells renaming newEntry->vM
open PySem.Expr.Attribute renaming elim->vQ
open PySem.Heap.IsSliceOf renaming new->xH
open PySem.Expr.ListComp renaming elim->xR
open Int renaming add_zero->xT,negSucc->zp
open Iff renaming rfl->yr
open List.Pairwise renaming nil->yu
open PySem.Expr.UnaryOp renaming elim->yz
open PySem.Expr.Compare renaming elim->yC
open PySem.AutoListH renaming list___mul___list_int_3->zo
open PySem.AutoSeq1 renaming list_extend_list_list_0->Aa
open PySem.Expr.BoolOp renaming elim->Ae
open PySem.Stmt.Assign renaming elim->Af
open PySem.Builtin.Frozenset renaming updateFrom->Cj
open PySem.Stmt.Expr renaming elim->Co
open PySem.W renaming fd_plain->GB,pre_splitW->Kh,enter_call->Ko
open PySem.Stmt.If renaming elim->GJ
open PySem.Builtin.Range renaming rangeSize->GN
open PyProof renaming noPylong_small->Hj
open PySem.W.WShape renaming has->Kl
open PySem.W.Dflts renaming none->Km,noKw->Kn
open PySem.Walks renaming list->Kp
open PySem.Stmt.AugAssign renaming elim->Kw
open PySem.SeqAt.EqAt renaming int_str->M2,str_int->M3
open PySem.W.WData renaming int->M5
open PySem.Expr.Constant renaming elim->Nb
open PySem.ScopeKind renaming function->Nc
open PySem.Stmt.Continue renaming elim->Nd
open PySem.Heap.Ns1 renaming of_empty->Ng
open PySem.DictEntry renaming refKey->QU
open PySem.Stmt.Return renaming elim->QX
open PySem.Expr.BinOp renaming elim->RL
open PySem.Expr.IfExp renaming elim->RM
open PySem.Expr.Slice renaming elim->RN
open PySem.Stmt.Break renaming elim->RO
open PySem.Stmt.Raise renaming elim->RP
open PySem.Expr.List renaming elim->TZ
open PySem.Value.ref renaming inj->T3
open PySem.Stmt.For renaming elim->T4
open PySem.Stmt.Try renaming elim->T5
open Sum.inl renaming inj->Wb
open Sum.inr renaming inj->Wc
open PySem.IsRange renaming new->Wd
open PySem.W.OpenLaw renaming pre->We
open PySem.Heap.Ns renaming new->Wf
section
namespace L2
open PySem PySem.Spec PyProof.Rows
noncomputable abbrev Key:=Sum Int Str
noncomputable def xV:Key->Value->Bool
|.inl k,v=>Hf k v
|.inr x,v=>DT x v
noncomputable def XQ(w:bH):Key->Int
|.inl k=>hashInt k
|.inr x=>hashStr w x
theorem gv:∀{k:Key}{v:Value},xV k v=true->(∃i t,k=qE i/\v=r_ i t)\/(∃x t,k=qF x/\v=sd x t)
|.inl i,v,h=>by
 obtain⟨t,e⟩:=Value.isInt_shape (k:=i) (v:=v) h;exact .inl ⟨i,t,rfl,e⟩
|.inr x,v,h=>by
 obtain⟨t,e⟩:=Value.isStrOf_shape (x:=x) (v:=v) h;exact .inr ⟨x,t,rfl,e⟩
theorem Ky(i:Int)(t:Tok):xV (.inl i) (.int i t)=true:=by simp[xV,Hf]
theorem Kz(x:Str)(t:Tok):xV (.inr x) (.str x t)=true:=by simp[xV,DT]
theorem T6(a b:Int):decide ((qE a:Key)=qE b)=(a==b):=by
 by_cases e:a=b
 ·subst e;simp
 ·have h:¬(qE a:Key)=qE b:=fun q=>e (Wb q);rw[decide_eq_false h];exact(beq_eq_false_iff_ne.mpr e).symm
theorem T7(a b:Str):decide ((qF a:Key)=qF b)=decide (a=b):=by
 by_cases e:a=b
 ·subst e;simp
 ·have h:¬(qF a:Key)=qF b:=fun q=>e (Wc q);rw[decide_eq_false h,decide_eq_false e]
theorem T8(a:Int)(b:Str):decide ((qE a:Key)=qF b)=false:=decide_eq_false (fun q=>nomatch q)
theorem T9(a:Str)(b:Int):decide ((qF a:Key)=qE b)=false:=decide_eq_false (fun q=>nomatch q)
noncomputable def gj(prog:bg)(w:bH):PySem.KeyKind prog w Key where
 is:=xV
 hash:=XQ w
 inj:=fun v a b ha hb=>by
  rcases gv ha with⟨i,t,rfl,rfl⟩|⟨x,t,rfl,rfl⟩
  ·rcases gv hb with⟨j,u,rfl,e⟩|⟨y,u,rfl,e⟩
   ·injection e with e1 _;rw[e1]
   ·exact nomatch e
  ·rcases gv hb with⟨j,u,rfl,e⟩|⟨y,u,rfl,e⟩
   ·exact nomatch e
   ·injection e with e1 _;rw[e1]
 byValue:=fun k v h=>by
  rcases gv h with⟨i,t,rfl,rfl⟩|⟨x,t,rfl,rfl⟩<;>rfl
 pyHash:=fun hv h=>by
  rcases gv hv with⟨i,t,rfl,rfl⟩|⟨x,t,rfl,rfl⟩
  ·exact wpAny_pyHash_int h
  ·exact wpAny_pyHash_str h
 eqBool:=fun hu hv h=>by
  rcases gv hu with⟨i,t,rfl,rfl⟩|⟨x,t,rfl,rfl⟩
  ·rcases gv hv with⟨j,u,rfl,rfl⟩|⟨y,u,rfl,rfl⟩
   ·rw[T6]at h;exact wpAny_eqBool_int h
   ·rw[T8]at h;exact M2 i t y u _ _ _ _ h
  ·rcases gv hv with⟨j,u,rfl,rfl⟩|⟨y,u,rfl,rfl⟩
   ·rw[T9]at h;exact M3 x t j u _ _ _ _ h
   ·rw[T7]at h;exact wpAny_eqBool_str h
 «strs»:=fun k x t v h=>by
  rcases gv h with⟨i,u,rfl,e⟩|⟨y,u,rfl,e⟩
  ·exact nomatch e
  ·injection e with e1 _;subst e1;cases v<;>rfl
theorem yE(prog:bg)(w:bH)(i:Int)(t:Tok):(gj prog w).is (.inl i) (.int i t)=true:=Ky i t
theorem yF(prog:bg)(w:bH)(x:Str)(t:Tok):(gj prog w).is (.inr x) (.str x t)=true:=Kz x t
end L2
namespace L2
open PySem PySem.Spec PyProof.Rows
inductive V where
 |non|bl (b:Bool)|int (i:Int)|str (x:Str)|byt (b:Array UInt8)|flt (b:UInt64)|ref (a:Addr)|ty (n:String)
 deriving DecidableEq
def RelV:V->Value->Prop
|.non,u=>u=c_
|.bl b,u=>u=g_ b
|.int i,u=>∃t,u=r_ i t
|.str x,u=>∃t,u=sd x t
|.byt b,u=>∃t,u=Hg b t
|.flt b,u=>∃t,u=zl b t
|.ref a,u=>u=a8 a
|.ty n,u=>u=Value.type n
abbrev bh:List V->List Value->Prop:=Paired RelV
theorem bh.length{xs:List V}{us:List Value}(r:bh xs us):xs.length=us.length:=Paired.length r
theorem bh.get:∀{xs:List V}{us:List Value}{i:Nat}{x:V},bh xs us->xs[i]?=some x->∃u,us[i]?=some u/\RelV x u
|_,_,_,_,.nil,e=>by simp at e
|_,_,0,_,.cons r _,e=>by simp at e;subst e;exact⟨_,rfl,r⟩
|_,_,i+1,x,.cons _ t,e=>by
 obtain⟨u,h1,h2⟩:=bh.get (i:=i) (x:=x) t (by simpa using e);exact⟨u,by simpa using h1,h2⟩
theorem bh.set{x:V}{u:Value}(r:RelV x u):∀{xs:List V}{us:List Value} (i:Nat),bh xs us->bh (xs.set i x) (us.set i u)
|_,_,_,.nil=>.nil
|_,_,0,.cons _ t=>.cons r t
|_,_,i+1,.cons q t=>.cons q (bh.set r i t)
theorem bh.append:∀{xs ys:List V}{us ws:List Value},bh xs us->bh ys ws->bh (xs++ys) (us++ws)
|_,_,_,_,.nil,s=>s
|_,_,_,_,.cons r t,s=>.cons r (bh.append t s)
theorem bh.take:∀{xs:List V}{us:List Value} (n:Nat),bh xs us->bh (xs.take n) (us.take n)
|_,_,0,_=>.nil
|_,_,_+1,.nil=>.nil
|_,_,n+1,.cons r t=>.cons r (bh.take n t)
theorem bh.drop:∀{xs:List V}{us:List Value} (n:Nat),bh xs us->bh (xs.drop n) (us.drop n)
|_,_,0,r=>r
|_,_,_+1,.nil=>.nil
|_,_,n+1,.cons _ t=>bh.drop n t
def ki:Option V->Option Value->Prop
|some v,some u=>RelV v u
|none,none=>True
|_,_=>False
def KV{κ:Type}:List (κ×V)->List (κ×Value)->Prop:=Paired fun(p:κ×V) (q:κ×Value)=>p.1=q.1/\RelV p.2 q.2
noncomputable def kV:Key->V
|.inl i=>.int i
|.inr x=>.str x
inductive HO where
|lst (xs:List V)
|tup (xs:List V)
|dK (kvs:List (Key×V))|dT (kvs:List (List Key×V))
|set (S:Int->Bool) (n:Nat)
|ins (C dx:Addr) (fs:List (Str×V))
|own (x:Addr)
|xd (fs:List (Str×V))
|met (f x:Addr)
|rng (lo hi:Int)
|bq (o:Obj) (u:HO)
|tbl (ps:Array Value)
|ext (φ:Heap->Prop)
noncomputable abbrev Hp:=Addr->Option HO
noncomputable def upd(H:Hp)(a:Addr)(o:HO):Hp:=fun b=>if b=a then some o else H b
variable{H:Hp}{a:Addr}{o:HO}
theorem bO:upd H a o a=some o:=by unfold upd;rw[if_pos rfl]
variable{b:Addr}
theorem aS(h:b≠a):upd H a o b=H b:=by unfold upd;rw[if_neg h]
variable{u:HO}
theorem Wg(h:H a=some o)(h':H b=some u)(d:o≠u):a≠b:=by
 intro e;subst e;rw[h]at h';exact d (cH h')
theorem cj(h:H a=some o)(h':H b=none):a≠b:=by
 intro e;subst e;rw[h]at h';cases h'
section
variable(P:bg) (w:bH)
def dP(H:Hp)(h:Heap)(a:Addr):HO->Prop
|.lst xs=>xs.length<=aa/\∃(its:List Value) (n:Nat),bh xs its/\h.get? a=some { cls:=.type "list",data:=.seq its.toArray n }
|.tup xs=>xs.length<=aa/\∃its:List Value,bh xs its/\IsTup h a its.toArray
|.dK kvs=>kvs.length<=aa/\(a==jR)=false/\∃vs,KV kvs vs/\h.DictOf (gj P w) a vs
|.dT kvs=>kvs.length<=aa/\(a==jR)=false/\∃xs:List (List Key×Addr×Value),
  Paired (fun(p:List Key×V) (q:List Key×Addr×Value)=>p.1=q.1/\H q.2.1=some (.tup (p.1.map kV))/\RelV p.2 q.2.2) kvs xs /\
  ∃o es ep,h.get? a=some o/\o.ExactDict/\o.data=.dict es ep/\es.toList=xs.map (entryOfKey (se (gj P w)))/\(xs.map (·.1)).Nodup
|.set S n=>h.SetOf (intKind P w) a S n
|.ins C dx fs=>H dx=some (.own a)/\fs.length<=1000/\dx≠a/\h.get? a=some (PySem.W.instObj C dx) /\
  ∃mA,h.Ns1 dx mA/\(∀f,ki (fs.lookup f) (mA f))/\PySem.Within mA (fs.map (·.1))
|.own _=>∃o,h.get? a=some o
|.xd fs=>∃mA,h.Ns1 a mA/\∀f,ki (fs.lookup f) (mA f)
|.rng lo hi=>∃t u v,h.get? a=some { cls:=.type "range",data:=.fields #[.int lo t,.int hi u,.int 1 v] }
|.bq o u=>h.get? a=some o/\dP H h a u
|.tbl ps=>h.get? a=some { cls:=.none,data:=.fields ps }
|.met f x=>h.get? a=some (PySem.W.methodObj (.ref f) (.ref x))
|.ext φ=>φ h/\(∃o,h.get? a=some o)/\∀h1 h2:Heap,φ h1->(∀o,h1.get? a=some o->h2.get? a=some o)->φ h2
def eY(H:Hp)(h:Heap):Prop:=∀a o,H a=some o->dP P w H h a o
end
section
variable{P:bg}{w:bH}{H H':Hp}{h h':Heap}{a:Addr}{o:HO}
theorem dP.lt(x:dP P w H h a o):a<h.objs.size:=by
 cases o with
 |lst xs=>obtain⟨_,_,_,_,e⟩:=x;exact aP e
 |tup xs=>obtain⟨_,_,_,p⟩:=x;exact p.lt
 |dK kvs=>obtain⟨_,_,_,_,o,_,_,e,_⟩:=x;exact aP e
 |dT kvs=>obtain⟨_,_,_,_,o,_,_,e,_⟩:=x;exact aP e
 |set S n=>obtain⟨o,_,_,_,e,_⟩:=x;exact aP e
 |ins C dx fs=>obtain⟨_,_,_,e,_⟩:=x;exact aP e
 |own y=>obtain⟨_,e⟩:=x;exact aP e
 |xd fs=>obtain⟨_,⟨_,_,_,e,_⟩,_⟩:=x;exact aP e
 |rng lo hi=>obtain⟨_,_,_,e⟩:=x;exact aP e
 |bq ob u=>obtain⟨e,_⟩:=x;exact aP e
 |tbl ps=>exact aP (show h.get? a=some _ from x)
 |met f y=>exact aP (show h.get? a=some _ from x)
 |ext φ=>obtain⟨_,⟨_,e⟩,_⟩:=x;exact aP e
theorem Paired.Ni{α β:Type}{F G:α->β->Prop}:∀{ZD:List α}{ZE:List β},Paired F ZD ZE->(∀a b,F a b->G a b)->Paired G ZD ZE
|_,_,.nil,_=>.nil
|_,_,.cons r t,f=>.cons (f _ _ r) (Paired.Ni t f)
theorem dP.stay(x:dP P w H h a o)(k:∀b u,(b=a\/H b=some (.own a))->h.get? b=some u->h'.get? b=some u)
  (ho:∀b,H b=some (.own a)->H' b=some (.own a)) (ht:∀b xs,H b=some (.tup xs)->H' b=some (.tup xs)):dP P w H' h' a o:=by
 induction o with
 |lst xs=>obtain⟨z,its,n,r,e⟩:=x;exact⟨z,its,n,r,k _ _ (.inl rfl) e⟩
 |tup xs=>obtain⟨z,its,r,ob,e,c⟩:=x;exact⟨z,its,r,ob,k _ _ (.inl rfl) e,c⟩
 |dK kvs=>obtain⟨z,y,vs,r,ob,es,ep,e,c⟩:=x;exact⟨z,y,vs,r,ob,es,ep,k _ _ (.inl rfl) e,c⟩
 |dT kvs=>
  obtain⟨z,y,xs,r,ob,es,ep,e,c⟩:=x;exact⟨z,y,xs,Paired.Ni r fun p q z=>⟨z.1,ht _ _ z.2.1,z.2.2⟩,ob,es,ep,k _ _ (.inl rfl) e,c⟩
 |set S n=>obtain⟨ob,es,ep,t,e,c⟩:=x;exact⟨ob,es,ep,t,k _ _ (.inl rfl) e,c⟩
 |ins C dx fs=>
  obtain⟨d,z,ne,e,mA,⟨od,es,ep,e2,c⟩,r⟩:=x;exact⟨ho _ d,z,ne,k _ _ (.inl rfl) e,mA,⟨od,es,ep,k _ _ (.inr d) e2,c⟩,r⟩
 |own y=>obtain⟨ob,e⟩:=x;exact⟨ob,k _ _ (.inl rfl) e⟩
 |xd fs=>obtain⟨mA,⟨od,es,ep,e,c⟩,r⟩:=x;exact⟨mA,⟨od,es,ep,k _ _ (.inl rfl) e,c⟩,r⟩
 |rng lo hi=>obtain⟨t,u,v,e⟩:=x;exact⟨t,u,v,k _ _ (.inl rfl) e⟩
 |bq ob u ih=>obtain⟨e,q⟩:=x;exact⟨k _ _ (.inl rfl) e,ih q⟩
 |tbl ps=>
  have e:h.get? a=some { cls:=.none,data:=.fields ps }:=x;show h'.get? a=some { cls:=.none,data:=.fields ps };exact k a _ (.inl rfl) e
 |met f y=>
  have e:h.get? a=some (PySem.W.methodObj (.ref f) (.ref y)):=x;show h'.get? a=some (PySem.W.methodObj (.ref f) (.ref y));exact k a _ (.inl rfl) e
 |ext φ=>obtain⟨p,⟨o,e⟩,st⟩:=x;exact⟨st _ _ p fun o q=>k _ _ (.inl rfl) q,⟨o,k _ _ (.inl rfl) e⟩,st⟩
theorem eY.lt(x:eY P w H h)(e:H a=some o):a<h.objs.size:=(x a o e).lt
theorem eY.fresh(x:eY P w H h)(e:h.objs.size<=a):H a=none:=by
 cases q:H a with
 |none=>rfl
 |some u=>exact absurd (bE (x.lt q) e) (dF _)
theorem eY.kept(x:eY P w H h)(k:∀b u,h.get? b=some u->h'.get? b=some u):eY P w H h':=fun a o e=>
 (x a o e).stay (fun b u _ q=>k b u q) (fun _ q=>q) fun _ _ q=>q
theorem eY.laid(x:eY P w H h)(k:∀b u,h.get? b=some u->h'.get? b=some u)(hp:h.objs.size<=a)(new:dP P w (upd H a o) h' a o):eY P w (upd H a o) h':=fun b u e=>by
 have hn:=x.fresh hp;by_cases hb:b=a
 ·subst hb;rw[bO]at e;cases e;exact new
 ·rw[aS hb]at e;exact(x b u e).stay (fun c v _ q=>k c v q) (fun c q=>by rw[aS (cj q hn)];exact q) fun c xs q=>by rw[aS (cj q hn)];exact q
end
def Rd(H:Hp)(a:Addr)(u:HO):Prop:=H a=some u\/∃o,H a=some (.bq o u)
variable{h:Heap}
theorem Rd.ok{P:bg}{w:bH}(r:Rd H a u)(x:eY P w H h):dP P w H h a u:=by
 rcases r with r|⟨o,r⟩
 ·exact x a u r
 ·obtain⟨_,q⟩:=x a _ r;exact q
def KA:Option HO->Prop
|some (.lst _)=>True
|some (.dK _)=>True
|some (.dT _)=>True
|some (.set _ _)=>True
|some (.ins _ _ _)=>True
|some (.ext _)=>True
|_=>False
section
variable{P:bg}{w:bH}{H:Hp}{h h':Heap}{x e:Addr}{o':HO}
theorem eY.write(ok:eY P w H h)(mu:KA (H x))(he:e=x\/H e=some (.own x))(k:∀b u,b≠e->h.get? b=some u->h'.get? b=some u)(heo:∃u,h'.get? e=some u)
  (new:dP P w (upd H x o') h' x o'):eY P w (upd H x o') h':=fun b u q=>by
 have nown:∀c y,H c=some (.own y)->c≠x:=fun c y r z=>by subst z;rw[r]at mu;exact mu
 have ntup:∀c xs,H c=some (.tup xs)->c≠x:=fun c xs r z=>by subst z;rw[r]at mu;exact mu
 by_cases hb:b=x
 ·subst hb;rw[bO]at q;cases q;exact new
 ·rw[aS hb]at q;by_cases hbe:b=e
  ·have q':H b=some (.own x):=by
    rcases he with z|z
    ·exact absurd (hbe.trans z) hb
    ·rw[hbe];exact z
   rw[q]at q';cases q';obtain⟨v,hv⟩:=heo;exact⟨v,by rw[hbe];exact hv⟩
  ·refine(ok b u q).stay (fun c v hc r=>k c v ?_ r) (fun c r=>by rw[aS (nown c b r)];exact r) fun c xs r=>by rw[aS (ntup c xs r)];exact r
   rcases hc with rfl|hc
   ·exact hbe
   ·rintro rfl;rcases he with z|z
    ·exact nown c b hc z
    ·rw[hc]at z;cases z;exact hb rfl
end
structure Un (fs ex:List Addr) (H H':Hp) (h h':Heap):Prop where
 keep:∀b o,h.get? b=some o->H b=none->b∉fs->b∉ex->h'.get? b=some o
 slot:∀b o,h.get? b=some o->H b=none->b∈fs->b∉ex->∃sl,h'.get? b=some { o with slots:=sl }
 free:∀b o,h.get? b=some o->H b=none->b∉ex->H' b=none
 there:∀b o,h.get? b=some o->b∉ex->∃o',h'.get? b=some o'
 tups:∀b xs,H b=some (.tup xs)->H' b=some (.tup xs)
 aC:∀b o u,H b=some (.bq o u)->H' b=some (.bq o u)
 tbls:∀b ps,H b=some (.tbl ps)->∃more,H' b=some (.tbl (ps++more))
section
variable{fs fs' ex ex':List Addr}{H H1 H2:Hp}{h h1 h2 h':Heap}{a x e:Addr}{o:HO}
theorem Un.any(u:Un fs ex H H1 h h1){ob:Obj}(q:h.get? b=some ob)(n:H b=none)(hx:b∉ex):∃sl,h1.get? b=some { ob with slots:=sl }:=by
 by_cases hb:b∈fs
 ·exact u.slot b ob q n hb hx
 ·exact⟨ob.slots,u.keep b ob q n hb hx⟩
theorem Un.kept(k:∀b u,h.get? b=some u->h'.get? b=some u):Un fs ex H H h h':=
 ⟨fun b ob q _ _ _=>k b ob q,fun b ob q _ _ _=>⟨ob.slots,k b ob q⟩,fun _ _ _ n _=>n,fun b ob q _=>⟨ob,k b ob q⟩,fun _ _ q=>q,fun _ _ _ q=>q,fun _ ps q=>⟨#[],by rw[q];simp⟩⟩
theorem Un.refl:Un fs ex H H h h:=Un.kept fun _ _ q=>q
theorem Un.laid(k:∀b u,h.get? b=some u->h'.get? b=some u)(hp:h.objs.size<=a)(hn:H a=none):Un fs ex H (upd H a o) h h' where
 keep:=fun b u q _ _ _=>k b u q
 slot:=fun b u q _ _ _=>⟨u.slots,k b u q⟩
 free:=fun b u q n _=>by rw[aS (bw (bE (aP q) hp))];exact n
 there:=fun b u q _=>⟨u,k b u q⟩
 tups:=fun b xs q=>by rw[aS (cj q hn)];exact q
 aC:=fun b u xs q=>by rw[aS (cj q hn)];exact q
 tbls:=fun b ps q=>⟨#[],by rw[aS (cj q hn),q];simp⟩
theorem Un.write(mu:KA (H x))(he:e=x\/H e=some (.own x))(k:∀b u,b≠e->h.get? b=some u->h'.get? b=some u)(heo:∃u,h'.get? e=some u):Un fs ex H (upd H x o) h h':=by
 have hx:∀b,H b=none->b≠x:=fun b n z=>by subst z;rw[n]at mu;exact mu
 have hb:∀b,H b=none->b≠e:=fun b n z=>by
  subst z;rcases he with r|r
  ·exact hx b n r
  ·rw[n]at r;cases r
 have hm:∀b u,H b=some u->¬KA (some u)->b≠x:=fun b u q nm z=>by subst z;rw[q]at mu;exact nm mu
 refine⟨fun b u q n _ _=>k b u (hb b n) q,fun b u q n _ _=>⟨u.slots,k b u (hb b n) q⟩,fun b u q n _=>by rw[aS (hx b n)];exact n,fun b u q _=>?_,
  fun b xs q=>by rw[aS (hm b _ q fun z=>z)];exact q,fun b u xs q=>by rw[aS (hm b _ q fun z=>z)];exact q,fun b ps q=>⟨#[],by rw[aS (hm b _ q fun z=>z),q];simp⟩⟩
 by_cases hbe:b=e
 ·subst hbe;exact heo
 ·exact⟨u,k b u hbe q⟩
end
noncomputable def QY(h:Heap)(H:Hp):List Addr:=(bY h.objs.size).filter fun a=>(H a).isSome
noncomputable def uy(h:Heap)(H:Hp):Heap:=PySem.W.hideAll h (QY h H)
theorem KC(h:Heap)(H:Hp):(uy h H).objs.size=h.objs.size:=PySem.W.hideAll_size _ _
theorem Nj{o:Obj}(e:h.get? b=some o)(n:H b=none):(uy h H).get? b=some o:=
 PySem.W.hideAll_get _ e fun hm=>by
  have q:(H b).isSome=true:=(A4.mp hm).2;rw[n]at q;simp at q
theorem RQ{o:Obj}(e:(uy h H).get? b=some o):h.get? b=some o/\H b=none:=by
 have e':h.get? b=some o:=PySem.W.of_hideAll (QY h H) e;refine⟨e',?_⟩;cases q:H b with
 |none=>rfl
 |some x=>
  have hm:b∈QY h H:=A4.mpr ⟨jC.mpr (aP e'),by simp[q]⟩;have z:(uy h H).get? b=none:=PySem.W.hideAll_none (QY h H) hm;rw[z]at e;cases e
noncomputable def RS(g h:Heap)(Za:Addr):List (Addr×Obj):=(bY h.objs.size).filterMap fun a=>if a=Za\/(g.get? a).isSome=true then none else(h.get? a).map fun o=>(a,o)
noncomputable def rest(g h:Heap)(Za d:Addr):List (Addr×Obj):=(RS g h Za).filter fun p=>decide (p.1≠d)
end L2
namespace L2
open PySem PySem.Spec PyProof.Rows
structure Mod (K:PySem.W.Frag) (mg:Str->Option Value) (base:Heap):Prop where
 kin:K.In base
 glob:base.Ns cN mg
 blt:∃mb,base.Ns A5 mb/\∀x:Str,x≠"__name__"->mb x=kI x
 nolimit:base.NoLimit
structure Cx where
 prog:bg
 w:bH
 K:PySem.W.Frag
 mg:Str->Option Value
 base:Heap
 A:cJ
 N:List Str
 Ze:ah
 Zp:Hp
 env:Env
 outer:List Env
 stack:List Env
 ex:List Addr
 fn:Str->Bool
 calm:Bool
 pn:List (Addr×Obj)
 xe:Value->ah->Prop
noncomputable def frs(l:List Env):List Addr:=l.filterMap (·.frame)
noncomputable abbrev Cx.fs(X:Cx):List Addr:=frs X.outer
def Cq(sc:eZ)(x:Str):Prop:=sc.names.lookup x=some .local\/sc.names.lookup x=some .cell\/sc.names.lookup x=some .free
def Loc(sc:eZ)(x:Str):Prop:=sc.names.lookup x=some .local\/sc.names.lookup x=some .cell
def Look(env:Env)(h:Heap)(m:Str->Option Value)(x:Str)(u:Value):Prop:=
 (env.kindOf x=some .local/\m x=some u)\/((env.kindOf x=some .cell\/env.kindOf x=some .free)/\∃c,env.cells.lookup x=some c/\h.IsCell c (some u))
structure Cx.Ok (X:Cx):Prop where
 mod:Mod X.K X.mg X.base
 kind:X.env.scope.kind=.function
 glob:X.env.globals=cN
 blt:X.env.builtins=A5
 above:X.Ze.heap.objs.size<=X.env.locals
 inj:∀x y c,X.env.cells.lookup x=some c->X.env.cells.lookup y=some c->x=y
 has:∀x,(X.env.kindOf x=some .cell\/X.env.kindOf x=some .free)->∃c,X.env.cells.lookup x=some c
 cab:∀x c,X.fn x=true->X.env.cells.lookup x=some c->X.Ze.heap.objs.size<=c
 hd:X.calm=true->X.A.handled=none
 frames:X.A.frames=some X.stack
 stk:X.stack=X.outer\/(X.stack=X.env::X.outer/\X.env.frame=some X.env.locals)
 exf:∀b∈X.ex,b≠X.env.locals/\∀x c,X.env.cells.lookup x=some c->c≠b
 bs:∀b o,X.base.get? b=some o->X.Ze.heap.get? b=some o/\X.Zp b=none
 bsz:X.base.objs.size<=X.Ze.heap.objs.size
 noex:∀b o,X.base.get? b=some o->b∉X.ex
 exfs:∀b∈X.ex,b∉X.fs
 mO:X.Ze.heap.FunFrames X.base X.outer
 frf:∀b∈X.fs,X.Zp b=none
structure Inv (X:Cx) (pins:List (Addr×Obj)) (O:List (Option V)) (H:Hp) (s:ah):Prop where
 ok:X.Ok
 os:s.os=X.Ze.os
 bare:jD s.gens
 base:Un X.fs X.ex X.Zp H X.Ze.heap s.heap
 loc:∃m,s.heap.Ns X.env.locals m/\∀(i:Nat) (x:Str) (v:V),X.N[i]?=some x->O[i]?=some (some v)->Cq X.env.scope x->∃u,RelV v u/\Look X.env s.heap m x u
 cell:∀x c,X.env.cells.lookup x=some c->∃v,s.heap.IsCell c v
 free:H X.env.locals=none
 freeC:∀x c,X.env.cells.lookup x=some c->H c=none
 pin:∀p∈X.pn++pins,s.heap.get? p.1=some p.2/\H p.1=none/\p.1≠X.env.locals/\p.1∉X.fs/\∀v,p.2.data≠.cell v
 hok:eY X.prog X.w H s.heap
 len:O.length=X.N.length
variable{a:Addr}
variable{g':Array z7}{t':Nat}{d':Drawn}{ch:List Addr}
variable{i:Nat}{x:Str}
variable{M:Kc}{A:cJ}{E:Value->ah->Prop}{u:Value}{Q:Unit->ah->Prop}
section
variable{X:Cx}{pins:List (Addr×Obj)}{O:List (Option V)}{H H':Hp}{s:ah}{h':Heap}
theorem Cx.Ok.XR(ok:X.Ok){b:Addr}{o:Obj}(e:X.base.get? b=some o):b∉X.fs:=fun hb=>by
 have:=(ok.mO.mem hb).1;rw[e]at this;cases this
theorem Inv.bs(I:Inv X pins O H s):∀b o,X.base.get? b=some o->s.heap.get? b=some o/\H b=none:=fun b o e=>
 ⟨I.base.keep b o (I.ok.bs b o e).1 (I.ok.bs b o e).2 (I.ok.XR e) (I.ok.noex b o e),I.base.free b o (I.ok.bs b o e).1 (I.ok.bs b o e).2 (I.ok.noex b o e)⟩
theorem Inv.bk(I:Inv X pins O H s):∀b o,X.base.get? b=some o->s.heap.get? b=some o:=fun b o e=>(I.bs b o e).1
theorem Inv.mod(I:Inv X pins O H s):Mod X.K X.mg X.base:=I.ok.mod
theorem Inv.fK(I:Inv X pins O H s):X.K.In s.heap:=I.ok.mod.kin.keeps I.bk
theorem Inv.lt(I:Inv X pins O H s):X.env.locals<s.heap.objs.size:=let⟨_,hn,_⟩:=I.loc;hn.lt
theorem Inv.sz(I:Inv X pins O H s):X.Ze.heap.objs.size<=s.heap.objs.size:=dH I.ok.above (iE I.lt)
theorem Inv.XS(I:Inv X pins O H s)(h:s.heap.objs.size<=a):a∉X.fs:=fun hb=>by
 obtain⟨_,o,ho,_⟩:=I.ok.mO.mem hb;exact absurd (bE (aP ho) (dH I.sz h)) (dF _)
theorem Inv.Ah(I:Inv X pins O H s):∀x c,X.env.cells.lookup x=some c->c≠X.env.locals:=fun x c e z=>by
 obtain⟨v,o,ho,hd⟩:=I.cell x c e;obtain⟨m,⟨o',es,ep,ho',hd',_⟩,_⟩:=I.loc;rw[z,ho']at ho;cases ho;rw[hd']at hd;cases hd
theorem Inv.mO(I:Inv X pins O H s):s.heap.FunFrames X.base X.outer:=by
 have all:∀(l:List Env),(∀b∈frs l,b∈X.fs)->X.Ze.heap.FunFrames X.base l->s.heap.FunFrames X.base l:=by
  intro l;induction l with
  |nil=>intro _ _;trivial
  |cons env r ih=>
   intro hs hl;obtain⟨hk,⟨Za,o,hf,hn,ho,hd⟩,hr⟩:=hl;have hL:Za∈X.fs:=hs Za (by unfold frs;rw[gi,hf];exact aq);obtain⟨sl,e⟩:=I.base.slot Za o ho (I.ok.frf Za hL) hL fun z=>I.ok.exfs Za z hL;exact⟨hk,⟨Za,_,hf,hn,e,hd⟩,ih (fun b hb=>hs b (by unfold frs;rw[gi,hf];exact ai _ hb)) hr⟩
 exact all X.outer (fun _ hb=>hb) I.ok.mO
theorem Inv.stack(I:Inv X pins O H s):s.heap.FunFrames X.base X.stack:=by
 rcases I.ok.stk with e|⟨e,hf⟩
 ·rw[e];exact I.mO
 ·rw[e];obtain⟨m,hn,_⟩:=I.loc;refine .cons (by rw[I.ok.kind];decide) hf hn ?_ I.mO;exact Heap.get?_none_of_le (dH I.ok.bsz I.ok.above)
theorem Inv.tS(I:Inv X pins O H s):∀b∈frs X.stack,b∈X.env.locals::X.fs:=fun b hb=>by
 rcases I.ok.stk with e|⟨e,hf⟩
 ·rw[e]at hb;exact ai _ hb
 ·rw[e]at hb;unfold frs at hb;rw[gi,hf]at hb;exact hb
theorem Inv.Bt(I:Inv X pins O H s):∀b∈frs X.stack,H b=none:=fun b hb=>by
 rcases aJ.mp (I.tS b hb)with e|hb
 ·rw[e];exact I.free
 ·obtain⟨_,o,ho,_⟩:=I.ok.mO.mem hb;exact I.base.free b o ho (I.ok.frf b hb) fun z=>I.ok.exfs b z hb
theorem Inv.step(I:Inv X pins O H s)
  (hch:∀b∈ch,(b∈X.ex\/X.Ze.heap.objs.size<=b)/\b≠X.env.locals/\(∀x c,X.env.cells.lookup x=some c->c≠b)/\∀p∈X.pn++pins,p.1≠b)
  (keep:∀b o,b≠X.env.locals->b∉X.fs->b∉ch->s.heap.get? b=some o->H b=none->h'.get? b=some o)
  (slot:∀b o,b≠X.env.locals->b∈X.fs->b∉ch->s.heap.get? b=some o->H b=none->∃sl,h'.get? b=some { o with slots:=sl }) (free:∀b o,b∉ch->s.heap.get? b=some o->H b=none->H' b=none)
  (there:∀b o,b∉ch->s.heap.get? b=some o->∃o',h'.get? b=some o')
  (tups:∀b xs,H b=some (.tup xs)->H' b=some (.tup xs)) (aC:∀b o u,H b=some (.bq o u)->H' b=some (.bq o u)) (tbls:∀b ps,H b=some (.tbl ps)->∃more,H' b=some (.tbl (ps++more)))
  (ns:∀m,s.heap.Ns X.env.locals m->h'.Ns X.env.locals m) (hok:eY X.prog X.w H' h') (hg:jD g') :
  Inv X pins O H' { s with heap:=h',gens:=g',drawn:=d',toks:=t' }:=by
 have neL:∀b o,X.Ze.heap.get? b=some o->b≠X.env.locals:=fun b o e=>bw (bE (aP e) I.ok.above);have neC:∀b o,X.Ze.heap.get? b=some o->b∉X.ex->b∉ch:=fun b o e hx hb=>by
  rcases(hch b hb).1 with z|z
  ·exact hx z
  ·exact absurd (bE (aP e) z) (dF _)
 have cellK:∀x c,X.env.cells.lookup x=some c->∀v,s.heap.IsCell c v->h'.IsCell c v:=fun x c e v ⟨o,ho,hd⟩=>by
  have nch:c∉ch:=fun z=>(hch c z).2.2.1 x c e rfl;by_cases hc:c∈X.fs
  ·obtain⟨sl,q⟩:=slot c o (I.Ah x c e) hc nch ho (I.freeC x c e);exact⟨_,q,hd⟩
  ·exact⟨o,keep c o (I.Ah x c e) hc nch ho (I.freeC x c e),hd⟩
 refine⟨I.ok,I.os,hg,⟨fun b o e n hb hx=>?_,fun b o e n hb hx=>?_,fun b o e n hx=>?_,fun b o e hx=>?_,fun b xs e=>tups b xs (I.base.tups b xs e),fun b o xs e=>aC b o xs (I.base.aC b o xs e),fun b ps e=>?_⟩,?_,fun x c e=>?_,?_,fun x c e=>?_,fun p hp=>?_,hok,I.len⟩
 ·exact keep b o (neL b o e) hb (neC b o e hx) (I.base.keep b o e n hb hx) (I.base.free b o e n hx)
 ·obtain⟨sl,e1⟩:=I.base.slot b o e n hb hx;obtain⟨sl',e2⟩:=slot b _ (neL b o e) hb (neC b o e hx) e1 (I.base.free b o e n hx);exact⟨sl',e2⟩
 ·obtain⟨o',e1⟩:=I.base.there b o e hx;exact free b o' (neC b o e hx) e1 (I.base.free b o e n hx)
 ·obtain⟨o',e1⟩:=I.base.there b o e hx;exact there b o' (neC b o e hx) e1
 ·obtain⟨m1,e1⟩:=I.base.tbls b ps e;obtain⟨m2,e2⟩:=tbls b _ e1;exact⟨m1++m2,by rw[e2,Array.append_assoc]⟩
 ·obtain⟨m,hn,hl⟩:=I.loc;refine⟨m,ns m hn,fun i x v e1 e2 e3=>?_⟩;obtain⟨u,r,l⟩:=hl i x v e1 e2 e3;refine⟨u,r,?_⟩;rcases l with l|⟨k,c,e,z⟩
  ·exact .inl l
  ·exact .inr ⟨k,c,e,cellK x c e _ z⟩
 ·obtain⟨v,z⟩:=I.cell x c e;exact⟨v,cellK x c e v z⟩
 ·obtain⟨m,⟨o,_,_,ho,_⟩,_⟩:=I.loc;exact free _ o (fun z=>(hch _ z).2.1 rfl) ho I.free
 ·obtain⟨v,o,ho,hd⟩:=I.cell x c e;exact free c o (fun z=>(hch c z).2.2.1 x c e rfl) ho (I.freeC x c e)
 ·obtain⟨e,n,ne,nf,d⟩:=I.pin p hp;have nch:p.1∉ch:=fun z=>(hch p.1 z).2.2.2 p hp rfl;exact⟨keep p.1 p.2 ne nf nch e n,free p.1 p.2 nch e n,ne,nf,d⟩
theorem Inv.un(I:Inv X pins O H s)(u:Un X.fs [] H H' s.heap h')(hok:eY X.prog X.w H' h'):Inv X pins O H' { s with heap:=h',toks:=t' }:=by
 obtain⟨m,⟨o,es,ep,ho,r⟩,_⟩:=id I.loc;obtain⟨sl,hL⟩:=u.any ho I.free (by simp);exact I.step (g':=s.gens) (d':=s.drawn) (ch:=[]) (fun _ z=>nomatch z) (fun b o _ hb _ e n=>u.keep b o e n hb (by simp)) (fun b o _ hb _ e n=>u.slot b o e n hb (by simp)) (fun b o _ e n=>u.free b o e n (by simp)) (fun b o _ e=>u.there b o e (by simp)) u.tups u.aC u.tbls (fun m' hm=>by
  obtain⟨o',es',ep',ho',r'⟩:=hm;rw[ho]at ho';cases ho';exact⟨_,es',ep',hL,r'⟩) hok I.bare
theorem Inv.call(I:Inv X pins O H s)(u:Un (frs X.stack) ch H H' s.heap h')(hok:eY X.prog X.w H' h')(hg:jD g')
  (hch:∀b∈ch,(b∈X.ex\/X.Ze.heap.objs.size<=b)/\b≠X.env.locals/\(∀x c,X.env.cells.lookup x=some c->c≠b)/\∀p∈X.pn++pins,p.1≠b) :
  Inv X pins O H' { s with heap:=h',gens:=g',drawn:=d',toks:=t' }:=by
 obtain⟨m,⟨o,es,ep,ho,r⟩,_⟩:=id I.loc;obtain⟨sl,hL⟩:=u.any ho I.free fun z=>(hch _ z).2.1 rfl;exact I.step (ch:=ch) hch (fun b o hL hb hc e n=>u.keep b o e n (fun z=>(aJ.mp (I.tS b z)).elim hL hb) hc) (fun b o _ _ hc e n=>u.any e n hc) (fun b o hc e n=>u.free b o e n hc) (fun b o hc e=>u.there b o e hc) u.tups u.aC u.tbls (fun m' hm=>by
  obtain⟨o',es',ep',ho',r'⟩:=hm;rw[ho]at ho';cases ho';exact⟨_,es',ep',hL,r'⟩) hok hg
theorem Inv.turned{it:Addr}(I:Inv X pins O H s)(k:∀b o,b≠it->s.heap.get? b=some o->h'.get? b=some o)(hn:H it=none)(hL:it≠X.env.locals)
  (h1:it∈X.ex\/X.Ze.heap.objs.size<=it) (h2:∀x c,X.env.cells.lookup x=some c->c≠it) (h3:∀p∈X.pn++pins,p.1≠it):Inv X pins O H { s with heap:=h',toks:=t' }:=by
 have nit:∀b u,H b=some u->b≠it:=fun b u e z=>by rw[z,hn]at e;cases e
 refine I.step (g':=s.gens) (d':=s.drawn) (ch:=[it]) (fun b hb=>?_) (fun b o _ _ hc e _=>k b o (fun z=>hc (by simp[z])) e) (fun b o _ _ hc e _=>⟨o.slots,k b o (fun z=>hc (by simp[z])) e⟩) (fun _ _ _ _ n=>n)
  (fun b o hc e=>⟨o,k b o (fun z=>hc (by simp[z])) e⟩) (fun _ _ e=>e) (fun _ _ _ e=>e) (fun b ps e=>⟨#[],by rw[e];simp⟩) (fun m hm=>?_) (fun b u e=>?_) I.bare
 ·have e:b=it:=by simpa using hb
  subst e;exact⟨h1,hL,h2,h3⟩
 ·obtain⟨o,es,ep,ho,r⟩:=hm;exact⟨o,es,ep,k _ o (cK hL) ho,r⟩
 ·refine(I.hok b u e).stay (fun c v hc q=>k c v ?_ q) (fun _ q=>q) fun _ _ q=>q;rcases hc with z|z
  ·rw[z];exact nit b u e
  ·exact nit c _ z
theorem Inv.tok(I:Inv X pins O H s)(t:Nat):Inv X pins O H { s with toks:=t }:=I.un (h':=s.heap) (t':=t) Un.refl I.hok
theorem Inv.kept(I:Inv X pins O H s)(k:∀b u,s.heap.get? b=some u->h'.get? b=some u):Inv X pins O H { s with heap:=h',toks:=t' }:=I.un (Un.kept k) (I.hok.kept k)
theorem Inv.laid{o:HO}(I:Inv X pins O H s)(k:∀b u,s.heap.get? b=some u->h'.get? b=some u)(hp:s.heap.objs.size<=a)(new:dP X.prog X.w (upd H a o) h' a o) :
  Inv X pins O (upd H a o) { s with heap:=h',toks:=t' }:=I.un (Un.laid k hp (I.hok.fresh hp)) (I.hok.laid k hp new)
theorem Inv.write{x e:Addr}{o:HO}{t':Nat}(I:Inv X pins O H s)(mu:KA (H x))(he:e=x\/H e=some (.own x))(k:∀b u,b≠e->s.heap.get? b=some u->h'.get? b=some u)(heo:∃u,h'.get? e=some u)
  (new:dP X.prog X.w (upd H x o) h' x o):Inv X pins O (upd H x o) { s with heap:=h',toks:=t' }:=I.un (Un.write mu he k heo) (I.hok.write mu he k heo new)
theorem Inv.xW{pins':List (Addr×Obj)}(I:Inv X pins O H s)(h:∀p∈pins',s.heap.get? p.1=some p.2/\H p.1=none/\p.1≠X.env.locals/\p.1∉X.fs/\∀v,p.2.data≠.cell v):Inv X pins' O H s:=
 ⟨I.ok,I.os,I.bare,I.base,I.loc,I.cell,I.free,I.freeC,fun p hp=>(aZ.mp hp).elim (fun z=>I.pin p (aK _ z)) (h p),I.hok,I.len⟩
theorem zq{N:List Str}(hN:N.Nodup){j:Nat}(a:N[i]?=some x)(b:N[j]?=some x):i=j:=by
 obtain⟨h1,e1⟩:=bN.mp a;obtain⟨h2,e2⟩:=bN.mp b;exact(List.getElem_inj hN).mp (e1.trans e2.symm)
theorem Cr{v:V}(I:Inv X pins O H s)(hN:X.N.Nodup)(hi:X.N[i]?=some x)(hx:Loc X.env.scope x)(r:RelV v u)
  (h:∀s',Inv X pins (O.set i (some v)) H s'->(∃a,kJ a s.heap s'.heap/\(a=X.env.locals\/X.env.cells.lookup x=some a))->Q () s') (hf:X.fn x=true\/X.env.scope.names.lookup x=some .local:=by first|exact .inl rfl|exact .inr rfl|assumption):az M A (DA X.env x u) Q E s:=by
 obtain⟨m,hn,hl⟩:=id I.loc;have hcls:(X.env.scope.kind==.class||(X.env.scope.kind==.module&&X.env.locals != X.env.globals))=false:=by rw[I.ok.kind];rfl
 have ZF:i<O.length:=by rw[I.len];exact(bN.mp hi).1
 have Ah:=I.Ah;have tracked:∀{a:Addr}{h':Heap},(∃o,s.heap.get? a=some o/\H a=none)->kJ a s.heap h'->eY X.prog X.w H h':=fun{a h'} ha hs b ob e=>by
  obtain⟨_,_,hfree⟩:=ha;refine(I.hok b ob e).stay (fun c w' hc q=>(hs.2 c ?_).trans q) (fun _ q=>q) fun _ _ q=>q;rintro rfl;rcases hc with rfl|hc
  ·rw[hfree]at e;cases e
  ·rw[hfree]at hc;cases hc
 rcases hx with hk|hk
 ·refine wpAny_storeName_local hk hn (fun h' hn' hs=>?_) hcls;obtain⟨oL,_,_,hoL,_⟩:=id hn;refine h _ ⟨I.ok,I.os,I.bare,⟨fun b o e n hb hx=>?_,fun b o e n hb hx=>?_,I.base.free,fun b o e hx=>?_,I.base.tups,I.base.aC,I.base.tbls⟩,⟨_,hn',fun j y v' e1 e2 e3=>?_⟩,fun y c e=>?_,I.free,I.freeC,fun p hp=>?_,tracked ⟨oL,hoL,I.free⟩ hs,by simpa using I.len⟩ ⟨_,hs,.inl rfl⟩
  ·exact(hs.2 b (bw (bE (aP e) I.ok.above))).trans (I.base.keep b o e n hb hx)
  ·obtain⟨sl,e1⟩:=I.base.slot b o e n hb hx;exact⟨sl,(hs.2 b (bw (bE (aP e) I.ok.above))).trans e1⟩
  ·obtain⟨o',e1⟩:=I.base.there b o e hx;exact⟨o',(hs.2 b (bw (bE (aP e) I.ok.above))).trans e1⟩
  ·by_cases hj:j=i
   ·subst hj;rw[hi]at e1;cases e1;rw[dY ZF]at e2;cases e2;exact⟨u,r,.inl ⟨hk,by simp⟩⟩
   ·rw[b6 (cK hj)]at e2;obtain⟨u',r',q⟩:=hl j y v' e1 e2 e3;refine⟨u',r',?_⟩;rcases q with⟨k,e⟩|⟨k,c,e,z⟩
    ·refine .inl ⟨k,?_⟩;have:y≠x:=fun e=>hj (zq hN e1 (e▸hi));simp[this,e]
    ·exact .inr ⟨k,c,e,z.sameBut hs (Ah y c e)⟩
  ·obtain⟨w',z⟩:=I.cell y c e;exact⟨w',z.sameBut hs (Ah y c e)⟩
  ·obtain⟨e,n,ne,nf,d⟩:=I.pin p hp;exact⟨(hs.2 p.1 ne).trans e,n,ne,nf,d⟩
 ·have hfn:X.fn x=true:=by
   rcases hf with z|z
   ·exact z
   ·rw[z]at hk;cases hk
  obtain⟨c,hc⟩:=I.ok.has x (.inl hk);obtain⟨w',z⟩:=I.cell x c hc;refine wpAny_storeName_cell I.ok.kind hk hc z (fun h' hc' hs=>?_);obtain⟨oc,hoc,hocd⟩:=id z;refine h { s with heap:=h' } ⟨I.ok,I.os,I.bare,⟨fun b o e n hb hx=>?_,fun b o e n hb hx=>?_,I.base.free,fun b o e hx=>?_,I.base.tups,I.base.aC,I.base.tbls⟩,⟨m,hn.sameBut hs (cK (Ah x c hc)),fun j y v' e1 e2 e3=>?_⟩,fun y c' e=>?_,I.free,I.freeC,fun p hp=>?_,tracked ⟨oc,hoc,I.freeC x c hc⟩ hs,by simpa using I.len⟩ ⟨c,hs,.inr hc⟩
  ·exact(hs.2 b (bw (bE (aP e) (I.ok.cab x c hfn hc)))).trans (I.base.keep b o e n hb hx)
  ·obtain⟨sl,e1⟩:=I.base.slot b o e n hb hx;exact⟨sl,(hs.2 b (bw (bE (aP e) (I.ok.cab x c hfn hc)))).trans e1⟩
  ·obtain⟨o',e1⟩:=I.base.there b o e hx;exact⟨o',(hs.2 b (bw (bE (aP e) (I.ok.cab x c hfn hc)))).trans e1⟩
  ·by_cases hj:j=i
   ·subst hj;rw[hi]at e1;cases e1;rw[dY ZF]at e2;cases e2;exact⟨u,r,.inr ⟨.inl hk,c,hc,hc'⟩⟩
   ·rw[b6 (cK hj)]at e2;obtain⟨u',r',q⟩:=hl j y v' e1 e2 e3;refine⟨u',r',?_⟩;rcases q with q|⟨k,c',e,z'⟩
    ·exact .inl q
    ·refine .inr ⟨k,c',e,z'.sameBut hs ?_⟩;rintro rfl;exact hj (zq hN e1 (I.ok.inj _ _ _ e hc▸hi))
  ·by_cases hcc:c'=c
   ·subst hcc;exact⟨_,hc'⟩
   ·obtain⟨w2,z2⟩:=I.cell y c' e;exact⟨w2,z2.sameBut hs hcc⟩
  ·obtain⟨e,n,ne,nf,d⟩:=I.pin p hp;refine⟨(hs.2 p.1 ?_).trans e,n,ne,nf,d⟩;intro q;rw[q,hoc]at e;have q':oc=p.2:=cH e;exact d w' (by rw[<-q'];exact hocd)
theorem uz{v:V}(I:Inv X pins O H s)(hN:X.N.Nodup)(hi:X.N[i]?=some x)(hx:Loc X.env.scope x)(r:RelV v u)
  (h:∀s',Inv X pins (O.set i (some v)) H s'->Q () s') (hf:X.fn x=true\/X.env.scope.names.lookup x=some .local:=by first|exact .inl rfl|exact .inr rfl|assumption):az M A (DA X.env x u) Q E s:=
 Cr I hN hi hx r (fun s' I' _=>h s' I') hf
theorem Inv.call'{s':ah}(I:Inv X pins O H s)(ho:s'.os=s.os)(u:Un (frs X.stack) ch H H' s.heap s'.heap)(hok:eY X.prog X.w H' s'.heap)(hg:jD s'.gens)
  (hch:∀b∈ch,(b∈X.ex\/X.Ze.heap.objs.size<=b)/\b≠X.env.locals/\(∀x c,X.env.cells.lookup x=some c->c≠b)/\∀p∈X.pn++pins,p.1≠b):Inv X pins O H' s':=by
 obtain⟨h',g',d',t',o'⟩:=s';have e:o'=s.os:=ho;subst e;exact I.call (g':=g') (t':=t') (d':=d') u hok hg hch
end
noncomputable abbrev XK:=Value->Option Addr->Hp->Prop
noncomputable abbrev St:=List (Option V)
noncomputable abbrev VK:=V->Hp->Prop
noncomputable abbrev TE:=St->Hp->VK->Prop
noncomputable abbrev TT:=St->Hp->(Bool->Hp->Prop)->Prop
noncomputable abbrev TA:=St->Hp->(List V->Hp->Prop)->Prop
structure Ends where
 nx:St->Hp->Prop
 rt:VK
 bk:St->Hp->Prop:=fun _ _=>False
 ct:St->Hp->Prop:=fun _ _=>False
noncomputable abbrev TS:=Ends->St->Hp->Prop
def EP(X:Cx)(pins:List (Addr×Obj))(O:St)(Q:VK)(u:Value)(s':ah):Prop:=∃v H',Inv X pins O H' s'/\RelV v u/\Q v H'
def TP(X:Cx)(pins:List (Addr×Obj))(O:St)(Q:Bool->Hp->Prop)(b:Bool)(s':ah):Prop:=∃H',Inv X pins O H' s'/\Q b H'
def AP(X:Cx)(pins:List (Addr×Obj))(O:St)(Q:List V->Hp->Prop)(us:List Value)(s':ah):Prop:=∃vs H',Inv X pins O H' s'/\bh vs us/\Q vs H'
def SP(X:Cx)(pins:List (Addr×Obj))(D:Ends)(f:Flow)(s':ah):Prop:=
 match f with
 |.next=>∃Zd H',Inv X pins Zd H' s'/\D.nx Zd H'
 |.brk=>∃Zd H',Inv X pins Zd H' s'/\D.bk Zd H'
 |.cont=>∃Zd H',Inv X pins Zd H' s'/\D.ct Zd H'
 |.ret u=>∃v Zd H',Inv X pins Zd H' s'/\RelV v u/\D.rt v H'
def PE(X:Cx)(e:Expr)(t:TE):Prop:=
 ∀(pins:List (Addr×Obj)) (s:ah) (O:St) (H:Hp) (Q:VK),Inv X pins O H s->t O H Q->az (aA X.prog X.w) X.A (eval e X.env) (EP X pins O Q) X.xe s
def PT(X:Cx)(e:Expr)(t:TT):Prop:=
 ∀(pins:List (Addr×Obj)) (s:ah) (O:St) (H:Hp) (Q:Bool->Hp->Prop),Inv X pins O H s->t O H Q->az (aA X.prog X.w) X.A (q9 e X.env (eval e X.env)) (TP X pins O Q) X.xe s
def PW(X:Cx)(e:Expr)(t:TT):Prop:=
 ∀(whole:Sem Value) (pins:List (Addr×Obj)) (s:ah) (O:St) (H:Hp) (Q:Bool->Hp->Prop),Inv X pins O H s->t O H Q->az (aA X.prog X.w) X.A (q9 e X.env whole) (TP X pins O Q) X.xe s
theorem PW.pt{X:Cx}{e:Expr}{t:TT}(h:PW X e t):PT X e t:=h _
def PA(X:Cx)(es:List Expr)(t:TA):Prop:=
 ∀(pos:Pos) (pins:List (Addr×Obj)) (s:ah) (O:St) (H:Hp) (Q:List V->Hp->Prop),Inv X pins O H s->t O H Q->az (aA X.prog X.w) X.A (qG (j3 pos (cz es X.env))) (AP X pins O Q) X.xe s
def PS(X:Cx)(st:Stmt)(t:TS):Prop:=
 ∀(pins:List (Addr×Obj)) (s:ah) (O:St) (H:Hp) (D:Ends),Inv X pins O H s->t D O H->az (aA X.prog X.w) X.A (exec st X.env) (SP X pins D) X.xe s
def mP(X:Cx)(st:List Stmt)(t:TS):Prop:=
 ∀(pins:List (Addr×Obj)) (s:ah) (O:St) (H:Hp) (D:Ends),Inv X pins O H s->t D O H->az (aA X.prog X.w) X.A (Ke st X.env) (SP X pins D) X.xe s
theorem aR{α:Type}{t:Sem α}{Q Q':α->ah->Prop}{s:ah}(h:az M A t Q E s)(hQ:∀a s,Q a s->Q' a s):az M A t Q' E s:=cU h hQ fun _ _ x=>x
end L2
namespace L2
open PySem PySem.Spec PyProof.Rows
variable{pins:List (Addr×Obj)}{s:ah}{O:St}{H:Hp}
variable{x:Str}
variable{E Q:Value->ah->Prop}{u:Value}
section
variable{X:Cx}
theorem bin(ha:PE X a ta)(hb:PE X b tb){R:V->V->Hp->Prop}(I:Inv X pins O H s)(h:ta O H fun x H1=>tb O H1 fun y H2=>R x y H2)
  {α:Type}{Q:α->ah->Prop}{f:Value->Value->Sem α}
  (hf:∀v u s2 x y H2,Inv X pins O H2 s2->RelV x v->RelV y u->R x y H2->az (aA X.prog X.w) X.A (f v u) Q X.xe s2) :
  az (aA X.prog X.w) X.A (eval a X.env) (fun v Zf=>az (aA X.prog X.w) X.A (eval b X.env) (fun u Zi=>az (aA X.prog X.w) X.A (f v u) Q X.xe Zi) X.xe Zf) X.xe s:=by
 refine aR (ha pins s O H _ I h) fun v s1 ⟨x,H1,I1,r1,q1⟩=>?_;refine aR (hb pins s1 O H1 _ I1 q1) fun u s2 ⟨y,H2,I2,r2,q2⟩=>?_;exact hf v u s2 x y H2 I2 r1 r2 q2
def Nk(i:Nat):TE:=fun O H Q=>∃v,O[i]?=some (some v)/\Q v H
def tC(v:V):TE:=fun _ H Q=>Q v H
theorem Eo{i:Nat}(hN:X.N[i]?=some x)(hv:Cq X.env.scope x)(hd:(x==("__debug__":Str))=false:=by decide)(hcd:(x==("__classdict__":Str))=false:=by decide):PE X (.Name x pos) (Nk i):=by
 intro pins s O H Q I h;obtain⟨v,e,h⟩:=h;obtain⟨m,hn,hl⟩:=I.loc;obtain⟨u,r,l⟩:=hl i x v hN e hv;have fin:EP X pins O Q u s:=⟨v,H,I,r,h⟩;rcases l with⟨hk,hm⟩|⟨hk,c,hc,hcell⟩
 ·exact A6 (vc I.ok.kind hk hn hm fin) hd
 ·rcases hk with hk|hk
  ·exact A6 (vJ I.ok.kind hk hc hcell fin) hd
  ·exact A6 (wpAny_loadName_free I.ok.kind hk hc hcell fin hcd) hd
theorem KD{i j pos}:PE X (.Constant (.int i) j pos) (tC (.int i)):=fun _ _ _ H _ I h=>wpAny_Constant_int ⟨.int i,H,I.tok _,⟨_,rfl⟩,h⟩
theorem Wh{b j pos}:PE X (.Constant (.bool b) j pos) (tC (.bl b)):=fun _ _ _ H _ I h=>Constant_bool ⟨.bl b,H,I,rfl,h⟩
theorem T_{j pos}:PE X (.Constant .none j pos) (tC .non):=fun _ _ _ H _ I h=>Constant_none ⟨.non,H,I,rfl,h⟩
theorem Ua{x j pos}:PE X (.Constant (.str x) j pos) (tC (.str x)):=fun _ _ _ H _ I h=>Calls.Constant_str ⟨.str x,H,I.tok _,⟨_,rfl⟩,h⟩
def Gl(X:Cx)(x:Str):Prop:=X.env.kindOf x=some .globalImplicit
theorem nR(I:Inv X pins O H s)(hg:Gl X x)(hm:X.mg x=some u)(h:Q u s)
  (hd:(x==("__debug__":Str))=false:=by decide):az (aA X.prog X.w) X.A (eval (.Name x pos) X.env) Q E s:=
 o_ I.ok.kind hg (Calls.loadGlobal_global (by rw[I.ok.glob];exact I.mod.glob.keeps I.bk) hm h) hd
theorem kj(I:Inv X pins O H s)(hg:Gl X x)(hm:X.mg x=none)(hv:kI x=some u)(h:Q u s)
  (hn:x≠"__name__":=by decide) (hd:(x==("__debug__":Str))=false:=by decide):az (aA X.prog X.w) X.A (eval (.Name x pos) X.env) Q E s:=by
 obtain⟨mb,h1,h2⟩:=I.mod.blt;exact o_ I.ok.kind hg (Calls.loadGlobal_builtin (by rw[I.ok.glob];exact I.mod.glob.keeps I.bk) hm (by rw[I.ok.blt];exact h1.keeps I.bk) ((h2 x hn).trans hv) h) hd
theorem Bu{v:V}(hg:Gl X x)(hm:X.mg x=some u)(r:RelV v u)(hd:(x==("__debug__":Str))=false:=by decide):PE X (.Name x pos) (tC v):=
 fun _ _ _ H _ I h=>nR I hg hm ⟨v,H,I,r,h⟩ hd
variable{a b:Expr}{ta tb:TE}{pos:Pos}
variable{tA tB':TT}{rest:List Expr}
def XT(t u:TT):TT:=fun O H Q=>t O H fun c H1=>if c=true then u O H1 Q else Q false H1
def tOr(t u:TT):TT:=fun O H Q=>t O H fun c H1=>if c=true then Q true H1 else u O H1 Q
def XU(t:TT):TT:=fun O H Q=>t O H fun c H1=>Q (!c) H1
theorem pw_and1(ha:PT X a tA):PW X (.BoolOp .And [a] pos) tA:=by
 intro wh pins s O H Q I h;refine Kf (aR (ha pins s O H Q I h) fun c s1 e=>?_);cases c with
 |true=>exact isTrue_and_nil e
 |false=>exact e
theorem pw_or1(ha:PT X a tA):PW X (.BoolOp .Or [a] pos) tA:=by
 intro wh pins s O H Q I h;refine isTrue_or (aR (ha pins s O H Q I h) fun c s1 e=>?_);cases c with
 |false=>exact isTrue_or_nil e
 |true=>exact e
theorem pw_and(ha:PT X a tA)(hb:PW X (.BoolOp .And (b::rest) pos) tB'):PW X (.BoolOp .And (a::b::rest) pos) (XT tA tB'):=by
 intro wh pins s O H Q I h;refine Kf (aR (ha pins s O H _ I h) fun c s1 ⟨H1,I1,q1⟩=>?_);cases c with
 |true=>exact hb wh pins s1 O H1 Q I1 q1
 |false=>exact⟨H1,I1,q1⟩
theorem pw_or(ha:PT X a tA)(hb:PW X (.BoolOp .Or (b::rest) pos) tB'):PW X (.BoolOp .Or (a::b::rest) pos) (tOr tA tB'):=by
 intro wh pins s O H Q I h;refine isTrue_or (aR (ha pins s O H _ I h) fun c s1 ⟨H1,I1,q1⟩=>?_);cases c with
 |true=>exact⟨H1,I1,q1⟩
 |false=>exact hb wh pins s1 O H1 Q I1 q1
theorem Ub(ha:PT X a tA):PT X (.UnaryOp .Not a pos) (XU tA):=by
 intro pins s O H Q I h;exact isTrue_not (ha pins s O H (fun c H1=>Q (!c) H1) I h)
theorem KE{op}{t:TE}(h:PE X a t):PE X (.BoolOp op [a] pos) t:=fun pins s O H Q I hw=>BoolOp_one (h pins s O H Q I hw)
def tIf(t:TT)(ta tb:TE):TE:=fun O H Q=>t O H fun c H1=>if c=true then ta O H1 Q else tb O H1 Q
theorem Nl{c:Expr}(hc:PT X c tA)(ha:PE X a ta)(hb:PE X b tb):PE X (.IfExp c a b pos) (tIf tA ta tb):=by
 intro pins s O H Q I h;refine wpAny_IfExp (aR (hc pins s O H _ I h) fun d s1 ⟨H1,I1,q1⟩=>?_);cases d with
 |true=>exact ha pins s1 O H1 Q I1 q1
 |false=>exact hb pins s1 O H1 Q I1 q1
end
end L2
namespace L2
open PySem PySem.Spec PyProof.Rows
def gf(K:PySem.W.Frag)(H:Hp)(a:Addr)(xs:List V):Prop:=
 Rd H a (.lst xs) \/
  ∃(o:Obj) (its:Array Value) (n:Nat),K.lookup a=some o/\o.cls=.type "list"/\o.dict=none/\o.data=.seq its n/\its.size<=aa/\bh xs its.toList
def pH(K:PySem.W.Frag)(H:Hp)(a:Addr)(xs:List V):Prop:=
 Rd H a (.tup xs) \/
  ∃(o:Obj) (its:Array Value) (n:Nat),K.lookup a=some o/\o.cls=.type "tuple"/\o.data=.seq its n/\its.size<=aa/\bh xs its.toList
noncomputable def XW:Value->Option V
|.none=>some .non
|.bool b=>some (.bl b)
|.int i _=>some (.int i)
|.str x _=>some (.str x)
|.bytes b _=>some (.byt b)
|.float b _=>some (.flt b)
|.ref a=>some (.ref a)
|.type n=>some (.ty n)
|_=>none
variable{u:Value}
theorem RelV.abs{x:V}(r:RelV x u):XW u=some x:=by
 cases x with
 |non=>cases r;rfl
 |bl _=>cases r;rfl
 |int _=>obtain⟨t,rfl⟩:=r;rfl
 |str _=>obtain⟨t,rfl⟩:=r;rfl
 |byt _=>obtain⟨t,rfl⟩:=r;rfl
 |flt _=>obtain⟨t,rfl⟩:=r;rfl
 |ref _=>cases r;rfl
 |ty _=>cases r;rfl
theorem RelV.inj{x y:V}(r:RelV x u)(q:RelV y u):x=y:=cH (r.abs.symm.trans q.abs)
theorem bh.inj:∀{xs ys:List V}{us:List Value},bh xs us->bh ys us->xs=ys
|_,_,_,.nil,.nil=>rfl
|_,_,_,.cons r t,.cons r' t'=>by rw[r.inj r',bh.inj t t']
section
variable{X:Cx}{pins:List (Addr×Obj)}{O:St}{H:Hp}{s:ah}{a:Addr}{xs ys:List V}
theorem Inv.list(I:Inv X pins O H s)(h:gf X.K H a xs):∃its:List Value,bh xs its/\PlainL s.heap a its.toArray/\xs.length<=aa:=by
 rcases h with h|⟨o,its,n,hk,hc,hd,hs,hz,r⟩
 ·obtain⟨z,its,n,r,e⟩:=h.ok I.hok;exact⟨its,r,⟨_,n,e,rfl,rfl,rfl⟩,z⟩
 ·refine⟨its.toList,r,⟨o,n,I.fK a o hk,hc,hd,by simpa using hs⟩,?_⟩;have e:=r.length;simp only[vK]at e;omega
theorem Inv.tuple(I:Inv X pins O H s)(h:pH X.K H a xs):∃its:List Value,bh xs its/\IsTup s.heap a its.toArray/\xs.length<=aa:=by
 rcases h with h|⟨o,its,n,hk,hc,hs,hz,r⟩
 ·obtain⟨z,its,r,p⟩:=h.ok I.hok;exact⟨its,r,p,z⟩
 ·refine⟨its.toList,r,⟨o,I.fK a o hk,hc,n,by simpa using hs⟩,?_⟩;have e:=r.length;simp only[vK]at e;omega
theorem Inv.qI(I:Inv X pins O H s)(h:gf X.K H a xs)(h':gf X.K H a ys):xs=ys:=by
 obtain⟨its,r,⟨o,n,e,_,_,d⟩,_⟩:=I.list h;obtain⟨its',r',⟨o',n',e',_,_,d'⟩,_⟩:=I.list h';rw[e]at e';cases e';rw[d]at d';injection d' with d1 _;have:its=its':=by simpa using congrArg Gv d1
 subst this;exact r.inj r'
theorem Inv.Ct(I:Inv X pins O H s)(h:pH X.K H a xs)(h':pH X.K H a ys):xs=ys:=by
 obtain⟨its,r,⟨o,e,_,n,d⟩,_⟩:=I.tuple h;obtain⟨its',r',⟨o',e',_,n',d'⟩,_⟩:=I.tuple h';rw[e]at e';cases e';rw[d]at d';injection d' with d1 _;have:its=its':=by simpa using congrArg Gv d1
 subst this;exact r.inj r'
end
noncomputable abbrev Cx.ja(X:Cx)(E:Value->ah->Prop):Cx:={ X with xe:=E }
noncomputable abbrev Cx.vS(X:Cx):Cx:=X.ja fun _ _=>False
variable{X:Cx}
theorem Cx.Ok.ja(ok:X.Ok)(E:Value->ah->Prop):(X.ja E).Ok:=
 ⟨ok.mod,ok.kind,ok.glob,ok.blt,ok.above,ok.inj,ok.has,ok.cab,ok.hd,ok.frames,ok.stk,ok.exf,ok.bs,ok.bsz,ok.noex,ok.exfs,ok.mO,ok.frf⟩
variable{E:Value->ah->Prop}
theorem Cx.Ok.iw(ok:(X.ja E).Ok):X.Ok:=
 ⟨ok.mod,ok.kind,ok.glob,ok.blt,ok.above,ok.inj,ok.has,ok.cab,ok.hd,ok.frames,ok.stk,ok.exf,ok.bs,ok.bsz,ok.noex,ok.exfs,ok.mO,ok.frf⟩
section
variable{X:Cx}{pins:List (Addr×Obj)}{O:St}{H:Hp}{s:ah}{E:Value->ah->Prop}
theorem Inv.ja(I:Inv X pins O H s)(E:Value->ah->Prop):Inv (X.ja E) pins O H s:=⟨I.ok.ja E,I.os,I.bare,I.base,I.loc,I.cell,I.free,I.freeC,I.pin,I.hok,I.len⟩
theorem Inv.iw(I:Inv (X.ja E) pins O H s):Inv X pins O H s:=⟨I.ok.iw,I.os,I.bare,I.base,I.loc,I.cell,I.free,I.freeC,I.pin,I.hok,I.len⟩
theorem SP.iw{D:Ends}{f:Flow}{s':ah}(h:SP (X.ja E) pins D f s'):SP X pins D f s':=by
 cases f with
 |next=>obtain⟨Zd,H',I,q⟩:=h;exact⟨Zd,H',I.iw,q⟩
 |brk=>obtain⟨Zd,H',I,q⟩:=h;exact⟨Zd,H',I.iw,q⟩
 |cont=>obtain⟨Zd,H',I,q⟩:=h;exact⟨Zd,H',I.iw,q⟩
 |ret u=>obtain⟨v,Zd,H',I,r,q⟩:=h;exact⟨v,Zd,H',I.iw,r,q⟩
theorem mP.vS{st:List Stmt}{t:TS}(h:mP X.vS st t):mP X st t:=fun pins s O H D I hw=>
 cU (h pins s O H D (I.ja _) hw) (fun _ _ q=>q.iw) fun _ _ z=>ak z
end
variable{pins:List (Addr×Obj)}{O:St}{H:Hp}{s:ah}
variable{c:Expr}{tc:TT}
section
variable{X:Cx}{st:Stmt}{rest:List Stmt}{t u:TS}{e:Expr}{te:TE}{pos:Pos}
def Wi:TS:=fun D O H=>D.nx O H
def XX(t u:TS):TS:=fun D O H=>t { D with nx:=u D } O H
theorem Hv:mP X [] Wi:=fun _ _ O H _ I h=>iY ⟨O,H,I,h⟩
theorem uA(h1:PS X st t)(h2:mP X rest u):mP X (st::rest) (XX t u):=by
 intro pins s O H D I h;refine q_ (aR (h1 pins s O H { D with nx:=u D } I h) fun f s1 q=>?_);cases f with
 |next=>
  obtain⟨Zd,H',I',q⟩:=q;exact h2 pins s1 Zd H' D I' q
 |ret v=>exact q
 |brk=>exact q
 |cont=>exact q
def Uc:TS:=fun D O H=>D.bk O H
def Wj:TS:=fun D O H=>D.ct O H
theorem Nm:PS X (.Break pos) Uc:=fun _ _ O H _ I h=>wpAny_Break ⟨O,H,I,h⟩
theorem GP:PS X (.Continue pos) Wj:=fun _ _ O H _ I h=>wpAny_Continue ⟨O,H,I,h⟩
theorem Inv.quiet(I:Inv X pins O H s):Hh X.env=false:=by simp[Hh,I.ok.kind]
def Wk(te:TE):TS:=fun D O H=>te O H fun _ H1=>D.nx O H1
theorem RT(he:PE X e te)(hs:mJ e none pos.line X.env=pure false:=by rfl):PS X (.Expr e pos) (Wk te):=by
 intro pins s O H D I h;exact Ce (aR (he pins s O H _ I h) fun v s1 ⟨x,H1,I1,r1,q1⟩=>⟨O,H1,I1,q1⟩) I.quiet hs
def XY(te:TE):TS:=fun D O H=>te O H D.rt
theorem Ud(he:PE X e te):PS X (.Return (some e) pos) (XY te):=by
 intro pins s O H D I h;exact wpAny_Return_some (aR (he pins s O H _ I h) fun v s1 ⟨x,H1,I1,r1,q1⟩=>⟨x,O,H1,I1,r1,q1⟩)
def XZ(c:TT)(t u:TS):TS:=fun D O H=>c O H fun b H1=>if b=true then t D O H1 else u D O H1
theorem Wl{a b:List Stmt}(hc:PT X c tc)(ha:mP X a t)(hb:mP X b u):PS X (.If c a b pos) (XZ tc t u):=by
 intro pins s O H D I h;refine wpAny_If (aR (hc pins s O H _ I h) fun d s1 ⟨H1,I1,q1⟩=>?_);cases d with
 |true=>exact ha pins s1 O H1 D I1 q1
 |false=>exact hb pins s1 O H1 D I1 q1
def Ue:TS:=fun _ _ _=>False
theorem Nn:PS X st Ue:=fun _ _ _ _ _ _ h=>h.elim
end
noncomputable abbrev TG:=V->St->Hp->(St->Hp->Prop)->Prop
noncomputable abbrev yG:=List V->St->Hp->(St->Hp->Prop)->Prop
def PG(X:Cx)(target:Expr)(t:TG):Prop:=
 ∀(pins:List (Addr×Obj)) (s:ah) (O:St) (H:Hp) (v:V) (u:Value) (Q:St->Hp->Prop),Inv X pins O H s->RelV v u->t v O H Q->
  az (aA X.prog X.w) X.A (oZ target X.env u) (fun _ s'=>∃Zd H',Inv X pins Zd H' s'/\Q Zd H') X.xe s
def Ai(X:Cx)(ts:List Expr)(t:yG):Prop:=
 ∀(pins:List (Addr×Obj)) (s:ah) (O:St) (H:Hp) (vs:List V) (us:List Value) (Q:St->Hp->Prop),Inv X pins O H s->bh vs us->t vs O H Q->
  az (aA X.prog X.w) X.A (assignInOrder ((h_ ts X.env).map (·.2)) us) (fun _ s'=>∃Zd H',Inv X pins Zd H' s'/\Q Zd H') X.xe s
noncomputable abbrev Np:=V->V->V->Hp->(Hp->Prop)->Prop
def Nq(X:Cx)(t:Np):Prop:=
 ∀(pins:List (Addr×Obj)) (s:ah) (O:St) (H:Hp) (o i v:V) (ov iv u:Value) (Q:Hp->Prop),Inv X pins O H s->RelV o ov->RelV i iv->RelV v u->t o i v H Q->
  az (aA X.prog X.w) X.A (II ov iv u) (fun _ s'=>∃H',Inv X pins O H' s'/\Q H') X.xe s
noncomputable abbrev QZ:=V->V->Hp->VK->Prop
def Xp(X:Cx)(op:ji)(t:QZ):Prop:=
 ∀(pins:List (Addr×Obj)) (s:ah) (O:St) (H:Hp) (x y:V) (v u:Value) (Q:VK),Inv X pins O H s->RelV x v->RelV y u->t x y H Q->
  az (aA X.prog X.w) X.A (xD op v u) (EP X pins O Q) X.xe s
variable{i:Nat}{x:Str}
variable{e:Expr}{es:List Expr}
variable{tg:Expr}{te:TE}
section
variable{X:Cx}{pos:Pos}
def Wm(i:Nat):TG:=fun v O H Q=>Q (O.set i (some v)) H
theorem Hw(hN:X.N.Nodup)(hi:X.N[i]?=some x)(hx:Loc X.env.scope x)(hf:X.fn x=true\/X.env.scope.names.lookup x=some .local:=by first|exact .inl rfl|exact .inr rfl|assumption):PG X (.Name x pos) (Wm i):=by
 intro pins s O H v u Q I r h;exact yt (uz I hN hi hx r (fun s' I'=>⟨_,H,I',h⟩) hf)
def X3:yG:=fun vs O H Q=>vs=[]/\Q O H
def Wn(t:TG)(u:yG):yG:=fun vs O H Q=>∃v r,vs=v::r/\t v O H fun Zd H'=>u r Zd H' Q
theorem RU:Ai X [] X3:=by
 intro pins s O H vs us Q I r h;obtain⟨e,h⟩:=h;subst e;cases r;exact assignInOrder_nil ⟨O,H,I,h⟩
theorem Nr{t:TG}{u:yG}(h1:PG X e t)(h2:Ai X es u)
  (hs:(h_ (e::es) X.env).map (·.2)=oZ e X.env::(h_ es X.env).map (·.2):=by rfl):Ai X (e::es) (Wn t u):=by
 intro pins s O H vs us Q I r h;obtain⟨v,vr,e1,h⟩:=h;subst e1;cases r with
 |cons r rr=>
  rw[hs];refine assignInOrder_cons (aR (h1 pins s O H _ _ _ I r h) fun _ s1 ⟨Zl,H1,I1,q1⟩=>?_);exact h2 pins s1 Zl H1 _ _ Q I1 rr q1
def X4(K:PySem.W.Frag)(n:Nat)(t:yG):TG:=fun v O H Q=>∃a xs,v=.ref a/\pH K H a xs/\xs.length=n/\t xs O H Q
theorem Ug{k:Nat}{t:yG}{n:Nat}(hc:X.calm=true)(h:Ai X es t)
  (hn:(h_ es X.env).length=n:=by rfl) (hst:(h_ es X.env).findIdx? (·.1)=none:=by rfl):PG X (.Tuple es k pos) (X4 X.K n t):=by
 intro pins s O H v u Q I r hw;obtain⟨a,xs,e1,hq,hl,hw⟩:=hw;subst e1;cases r;obtain⟨its,rv,ht,hz⟩:=I.tuple hq;refine assign_Tuple_tuple (I.ok.hd hc) ht (by simp[hn,<-hl,rv.length]) hst fun h' hx=>?_;have I1:Inv X pins O H { s with heap:=h' }:=I.kept (t':=s.toks) fun b o e=>hx b o (bw (aP e)) e;exact h pins _ O H xs _ Q I1 (by simpa using rv) hw
def X5(to ti:TE)(t:Np):TG:=fun v O H Q=>to O H fun o H1=>ti O H1 fun i H2=>t o i v H2 fun H3=>Q O H3
theorem Uh{o i:Expr}{to ti:TE}{t:Np}(ho:PE X o to)(hi:PE X i ti)(hs:Nq X t)
  (ha:∀v,oZ (.Subscript o i pos) X.env v=(do
   let ov <-mK [v] (eval o X.env)
   let iv <-mK [v,ov] (eval i X.env)
   ue pos
   mK [v,ov,iv] (II ov iv v)
   release [v,ov,iv] []):=by intro _;rfl):PG X (.Subscript o i pos) (X5 to ti t):=by
 intro pins s O H v u Q I r h;rw[ha];refine ao (f_ (aR (ho pins s O H _ I h) fun ov s1 ⟨x,H1,I1,r1,q1⟩=>?_));refine ao (f_ (aR (hi pins s1 O H1 _ I1 q1) fun iv s2 ⟨y,H2,I2,r2,q2⟩=>?_));refine ao (lT (ao (f_ (aR (hs pins s2 O H2 x y v ov iv u _ I2 r1 r2 r q2) fun _ s3 ⟨H3,I3,q3⟩=>?_))));exact wpAny_release ⟨O,H3,I3,q3⟩
def X6(te:TE)(g:TG):TS:=fun D O H=>te O H fun x H1=>g x O H1 D.nx
theorem KG{g:TG}(he:PE X e te)(hg:PG X tg g)(hs:vH [tg] e pos.line X.env=pure false:=by rfl)(hw:vI [tg] e X.env=pure none:=by rfl)
  (h1:(h_ [tg] X.env).map (·.2)=[oZ tg X.env]:=by rfl):PS X (.Assign [tg] e pos) (X6 te g):=by
 intro pins s O H D I h;refine wpAny_Assign_stores (aR (he pins s O H _ I h) fun v s1 ⟨x,H1,I1,r1,q1⟩=>?_) hs hw;rw[h1];exact aR (hg pins s1 O H1 x v _ I1 r1 q1) fun _ s2 q=>q
def Ui(i:Nat)(te:TE)(ti:QZ):TS:=fun D O H=>∃x,O[i]?=some (some x)/\te O H fun y H1=>ti x y H1 fun z H2=>D.nx (O.set i (some z)) H2
theorem Uj{op:ji}{ti:QZ}{pos':Pos}(hN:X.N.Nodup)(hi:X.N[i]?=some x)(hx:Loc X.env.scope x)(he:PE X e te)(ho:Xp X op ti)(hf:X.fn x=true\/X.env.scope.names.lookup x=some .local:=by first|exact .inl rfl|exact .inr rfl|assumption) :
  PS X (.AugAssign (.Name x pos') op e pos) (Ui i te ti):=by
 intro pins s O H D I h;obtain⟨v,e1,h⟩:=h;obtain⟨m,hn,hl⟩:=I.loc;have vis:Cq X.env.scope x:=by rcases hx with k|k;exact .inl k;exact .inr (.inl k)
 obtain⟨u,r,l⟩:=hl i x v hi e1 vis;refine wpAny_AugAssign_Name ?_;have go:az (aA X.prog X.w) X.A (eval e X.env) (fun w Zi=>az (aA X.prog X.w) X.A (xD op u w) (fun r Zm=>az (aA X.prog X.w) X.A (DA X.env x r) (fun _=>SP X pins D .next) X.xe Zm) X.xe Zi) X.xe s:=by
  refine aR (he pins s O H _ I h) fun w s1 ⟨y,H1,I1,r1,q1⟩=>?_;refine aR (ho pins s1 O H1 v y u w _ I1 r r1 q1) fun z s2 ⟨zv,H2,I2,r2,q2⟩=>?_;exact uz I2 hN hi hx r2 (fun s3 I3=>⟨_,H2,I3,q2⟩) hf
 rcases l with⟨hk,hm⟩|⟨hk,c,hc,hcell⟩
 ·exact vc I.ok.kind hk hn hm go
 ·rcases hk with hk|hk
  ·exact vJ I.ok.kind hk hc hcell go
  ·rcases hx with k|k
   ·have:X.env.scope.names.lookup x=some .free:=hk;rw[k]at this;cases this
   ·have:X.env.scope.names.lookup x=some .free:=hk;rw[k]at this;cases this
noncomputable def Xq(f:Int->Int->Int):QZ:=fun x y H Q=>∃i j,x=.int i/\y=.int j/\Q (.int (f i j)) H
theorem Uk:Xp X .Add (Xq fun i j=>i+j):=by
 intro pins s O H x y v u Q I r1 r2 h;obtain⟨i,j,e1,e2,q⟩:=h;subst e1;subst e2;obtain⟨t,rfl⟩:=r1;obtain⟨t',rfl⟩:=r2;exact iadd_int ⟨.int _,H,I.tok _,⟨_,rfl⟩,q⟩
end
section
variable{X:Cx}{pos:Pos}
def Ul(c:TT)(tb:TS):TS:=fun D O H=>∃W:Nat->St->Hp->Prop,(∃m,W m O H)/\∀m O H,W m O H->
 c O H fun b H1=>if b=true then ∃N:St->Hp->Prop,(∀Zd H',N Zd H'->∃m',m'<m/\W m' Zd H')/\tb { D with nx:=N,ct:=N,bk:=D.nx } O H1 else D.nx O H1
theorem Nt{body:List Stmt}{tb:TS}(hp:sf (aA X.prog X.w) X.A X.env X.xe)(hc:PT X c tc)(hb:mP X body tb):PS X (.While c body [] pos) (Ul tc tb):=by
 intro pins s O H D I h;obtain⟨W,⟨m0,w0⟩,turn⟩:=h;refine wpAny_While (codeAny_whileLoop (fun n s'=>∃Zd H',Inv X pins Zd H' s'/\W n Zd H') ?_ m0 ⟨O,H,I,w0⟩);rintro n s1 ⟨Zl,H1,I1,w1⟩;refine gM hp (aR (hc pins s1 Zl H1 _ I1 (turn n Zl H1 w1)) fun b s2 ⟨H2,I2,q2⟩=>?_);cases b with
 |true=>
  obtain⟨N,hN,q2⟩:=q2;rw[if_pos rfl];refine gM hp (aR (hb pins s2 Zl H2 _ I2 q2) fun f s3 q3=>?_);cases f with
  |next=>
   obtain⟨Zh,H3,I3,n3⟩:=q3;obtain⟨m',hm,w3⟩:=hN Zh H3 n3;exact⟨m',hm,Zh,H3,I3,w3⟩
  |cont=>
   obtain⟨Zh,H3,I3,n3⟩:=q3;obtain⟨m',hm,w3⟩:=hN Zh H3 n3;exact⟨m',hm,Zh,H3,I3,w3⟩
  |brk=>exact q3
  |ret v=>exact q3
 |false=>
  rw[if_neg aE];exact iY ⟨Zl,H2,I2,q2⟩
end
structure It where
 go:Nat->Hp->Prop
 yld:Nat->Hp->V->Hp->Prop
 stop:Nat->Hp->Prop
def ly(X:Cx)(pins:List (Addr×Obj))(H:Hp)(b:Addr):Prop:=
 H b=none/\b≠X.env.locals/\b∉X.fs/\(b∈X.ex\/X.Ze.heap.objs.size<=b)/\(∀x c,X.env.cells.lookup x=some c->c≠b)/\∀p∈X.pn++pins,p.1≠b
theorem Inv.o5{H':Hp}{b:Addr}(I:Inv X pins O H s)(hb:s.heap.objs.size<=b)(hn:H' b=none):ly X pins H' b:=by
 refine⟨hn,ny (bE I.lt hb),I.XS hb,.inr (dH I.sz hb),fun x c e z=>?_,fun p hp z=>?_⟩
 ·obtain⟨v,q⟩:=I.cell x c e;exact absurd (bE q.lt (by rw[z];exact hb)) (dF _)
 ·exact absurd (bE (aP (I.pin p hp).1) (by rw[z];exact hb)) (dF _)
structure Turn (P:bg) (w:bH) (K:PySem.W.Frag) (tg:Expr) (J:It) (fp:List Addr) (it:Addr) (tn:Nat->Heap->Prop):Prop where
 mem:it∈fp
 obj:∀i h,tn i h->∀b∈fp,∃o,h.get? b=some o/\∀v,o.data≠.cell v
 keep:∀i h h',tn i h->(∀b∈fp,∀o,h.get? b=some o->h'.get? b=some o)->tn i h'
 item:∀(X:Cx),X.prog=P->X.w=w->X.K=K->X.calm=true->∀(i:Nat) (pins:List (Addr×Obj)) (s:ah) (O:St) (H:Hp) (E:Value->ah->Prop),Inv X pins O H s->(∀b∈fp,ly X pins H b)->tn i s.heap->J.go i H->
  az (aA P w) X.A (A7 (.ref it)) (fun r s1=>∃u,r=some u /\
   az (aA P w) X.A (nA tg (.ref it) u) (fun _ s2=>∃x H',Inv X pins O H' s2/\RelV x u/\J.yld i H x H'/\tn (i+1) s2.heap/\∀b∈fp,H' b=none) E s1) E s
 done:∀(X:Cx),X.prog=P->X.w=w->X.K=K->X.calm=true->∀(i:Nat) (pins:List (Addr×Obj)) (s:ah) (O:St) (H:Hp) (E:Value->ah->Prop),Inv X pins O H s->(∀b∈fp,ly X pins H b)->tn i s.heap->J.stop i H->
  az (aA P w) X.A (A7 (.ref it)) (fun r s1=>r=none/\Inv X pins O H s1) E s
 self:∀(A:cJ) (i:Nat) (s:ah) (Q:Value->ah->Prop) (E:Value->ah->Prop),tn i s.heap->Q (.ref it) s->az (aA P w) A (uf (.ref it)) Q E s
noncomputable abbrev TI:=St->Hp->(It->Hp->Prop)->Prop
def Xr(X:Cx)(pins:List (Addr×Obj))(O:St)(tg:Expr)(R:It->Hp->Prop)(itv:Value)(s2:ah):Prop:=
 ∃(it:Addr) (fp:List Addr) (tn:Nat->Heap->Prop) (J:It) (H':Hp),itv=.ref it/\Inv X pins O H' s2/\Turn X.prog X.w X.K tg J fp it tn/\tn 0 s2.heap/\(∀b∈fp,ly X pins H' b)/\R J H'
def PI(X:Cx)(tg iter:Expr)(wi:TI):Prop:=
 ∀(pins:List (Addr×Obj)) (s:ah) (O:St) (H:Hp) (R:It->Hp->Prop),Inv X pins O H s->wi O H R->
  az (aA X.prog X.w) X.A (eval iter X.env) (fun v s1=>az (aA X.prog X.w) X.A (uf v) (Xr X pins O tg R) X.xe s1) X.xe s
theorem D6{M:Kc}{A:cJ}{it:Addr}{o:Obj}{n:String}{vs:Array Value}{Q:Unit->ah->Prop}(ho:s.heap.get? it=some o)(hc:o.cls=.type n)(hd:o.data=.fields vs)
  (hn:["enumerate","zip","dict_itemiterator","dict_reverseitemiterator","odict_iterator","itertools.zip_longest","itertools.pairwise"].contains n=false) (hQ:Q () s):az M A (nA tg (.ref it) u) Q E s:=by
 unfold nA;cases tg<;>first
  |exact aX hQ
  |(cases u<;>first
    |exact aX hQ
    |(refine ao (wpAny_load ho ?_)
      rw[hc,hd];show az M A (if(["enumerate","zip","dict_itemiterator","dict_reverseitemiterator","odict_iterator","itertools.zip_longest","itertools.pairwise"].contains n&&vs[0]?==some (jE _))=true then _ else _) Q E s;rw[if_neg (by intro h;rw[hn,Cf]at h;cases h)];exact aX hQ))
noncomputable def Xs(K:PySem.W.Frag)(a:Addr):It:=
 ⟨fun i H=>∃xs x,gf K H a xs/\xs[i]?=some x,fun i H x H'=>H'=H/\∀xs,gf K H a xs->xs[i]?=some x,fun i H=>∃xs,gf K H a xs/\xs.length<=i⟩
noncomputable def Xu(K:PySem.W.Frag)(a:Addr):It:=
 ⟨fun i H=>∃xs x,pH K H a xs/\xs[i]?=some x,fun i H x H'=>H'=H/\∀xs,pH K H a xs->xs[i]?=some x,fun i H=>∃xs,pH K H a xs/\xs.length<=i⟩
noncomputable def Q0(lo:Int)(n:Nat):It:=⟨fun i _=>i<n,fun i H x H'=>H'=H/\x=.int (lo+i),fun i _=>n<=i⟩
variable{P:bg}{w:bH}{K:PySem.W.Frag}
theorem KH(a it:Addr):Turn P w K tg (Xs K a) [it] it (fun i h=>h.IsListIter it a i) where
 mem:=by simp
 obj:=fun i h st b hb=>by
  have e:b=it:=by simpa using hb
  subst e;obtain⟨o,e,c,d⟩:=st;exact⟨o,e,fun v z=>by rw[d]at z;cases z⟩
 keep:=fun i h h' st k=>st.at fun o e=>k it (by simp) o e
 item:=by
  intro X hP hw hK hc i pins s O H E I hf st hg;subst hP hw hK;obtain⟨xs,x,hq,hx⟩:=hg;obtain⟨its,rv,p,hz⟩:=I.list hq;obtain⟨u,hu,ru⟩:=rv.get hx;obtain⟨f0,f1,f2,f3,f4,f5⟩:=hf it (by simp);refine wpAny_pyNext_list_item st p.isList (x:=u) (by simpa using hu) fun h' st' sb=>?_;have I1:Inv X pins O H { s with heap:=h' }:=I.turned (t':=s.toks) (fun b o hb e=>(sb.2 b hb).trans e) f0 f1 f3 f4 f5;obtain⟨o,e,c,d⟩:=id st';exact⟨u,rfl,D6 (s:={ s with heap:=h' }) e c d (by decide) ⟨x,H,I1,ru,⟨rfl,fun ys hy=>by rw[I.qI hy hq];exact hx⟩,st',fun b hb=>(hf b hb).1⟩⟩
 done:=by
  intro X hP hw hK hc i pins s O H E I hf st hg;subst hP hw hK;obtain⟨xs,hq,hx⟩:=hg;obtain⟨its,rv,p,hz⟩:=I.list hq;obtain⟨f0,f1,f2,f3,f4,f5⟩:=hf it (by simp);have hl:=rv.length;exact wpAny_pyNext_list_end (I.ok.hd hc) st p.isList (by simp;omega) fun h' eb=>⟨rfl,I.turned (t':=s.toks) (fun b o hb e=>eb b o hb e) f0 f1 f3 f4 f5⟩
 self:=fun _ _ _ _ _ st h=>wpAny_pyIter_listiter st h
theorem IQ(a it:Addr):Turn P w K tg (Xu K a) [it] it (fun i h=>h.IsTupleIter it a i) where
 mem:=by simp
 obj:=fun i h st b hb=>by
  have e:b=it:=by simpa using hb
  subst e;obtain⟨o,e,c,d⟩:=st;exact⟨o,e,fun v z=>by rw[d]at z;cases z⟩
 keep:=fun i h h' st k=>st.at fun o e=>k it (by simp) o e
 item:=by
  intro X hP hw hK hc i pins s O H E I hf st hg;subst hP hw hK;obtain⟨xs,x,hq,hx⟩:=hg;obtain⟨its,rv,p,hz⟩:=I.tuple hq;obtain⟨u,hu,ru⟩:=rv.get hx;obtain⟨f0,f1,f2,f3,f4,f5⟩:=hf it (by simp);refine wpAny_pyNext_tuple_item st (show s.heap.IsTuple a its.toArray from p) (x:=u) (by simpa using hu) fun h' st' sb=>?_;have I1:Inv X pins O H { s with heap:=h' }:=I.turned (t':=s.toks) (fun b o hb e=>(sb.2 b hb).trans e) f0 f1 f3 f4 f5;obtain⟨o,e,c,d⟩:=id st';exact⟨u,rfl,D6 (s:={ s with heap:=h' }) e c d (by decide) ⟨x,H,I1,ru,⟨rfl,fun ys hy=>by rw[I.Ct hy hq];exact hx⟩,st',fun b hb=>(hf b hb).1⟩⟩
 done:=by
  intro X hP hw hK hc i pins s O H E I hf st hg;subst hP hw hK;obtain⟨xs,hq,hx⟩:=hg;obtain⟨its,rv,p,hz⟩:=I.tuple hq;obtain⟨f0,f1,f2,f3,f4,f5⟩:=hf it (by simp);have hl:=rv.length;exact wpAny_pyNext_tuple_end (I.ok.hd hc) st (show s.heap.IsTuple a its.toArray from p) (by simp;omega) fun h' eb=>⟨rfl,I.turned (t':=s.toks) (fun b o hb e=>eb b o hb e) f0 f1 f3 f4 f5⟩
 self:=fun _ _ _ _ _ st h=>wpAny_pyIter_tupleiter st h
theorem IS(it:Addr)(lo:Int)(n:Nat):Turn P w K tg (Q0 lo n) [it] it (fun i h=>Hi h it (lo+(i:Nat)*1) ((n:Int)-(i:Nat)) 1) where
 mem:=by simp
 obj:=fun i h st b hb=>by
  have e:b=it:=by simpa using hb
  subst e;exact⟨_,st,fun v z=>by
   have z':Data.fields _=Data.cell v:=z;cases z'⟩
 keep:=fun i h h' st k=>k it (by simp) _ st
 item:=by
  intro X hP hw hK hc i pins s O H E I hf st hg;subst hP hw hK;obtain⟨f0,f1,f2,f3,f4,f5⟩:=hf it (by simp);have W:=Walks.range (prog:=X.prog) (w:=X.w) (I.ok.hd hc) it lo 1 n;refine W.item i s _ _ hg st fun v h' tk hv st' kk=>?_;obtain⟨t,rfl⟩:=hv;have I1:Inv X pins O H { s with heap:=h',toks:=tk }:=I.turned (fun b o hb e=>kk b o (by simpa using hb) e) f0 f1 f3 f4 f5;refine⟨_,rfl,D6 (s:={ s with heap:=h',toks:=tk }) (n:="range_iterator") st' rfl rfl (by decide) ⟨.int (lo+i),H,I1,⟨t,?_⟩,⟨rfl,rfl⟩,st',fun b hb=>(hf b hb).1⟩⟩;rw[Int.mul_one]
 done:=by
  intro X hP hw hK hc i pins s O H E I hf st hg;subst hP hw hK;obtain⟨f0,f1,f2,f3,f4,f5⟩:=hf it (by simp);exact wpAny_pyNext_range_end (I.ok.hd hc) st (by have:n<=i:=hg;omega) fun h' eb=>⟨rfl,I.turned (t':=s.toks) (fun b o hb e=>eb b o hb e) f0 f1 f3 f4 f5⟩
 self:=fun _ _ _ _ _ st h=>wpAny_pyIter_rangeiter st h
end L2
namespace L2
open PySem PySem.Spec PyProof.Rows
variable{pins:List (Addr×Obj)}{O:St}{H:Hp}{s:ah}
variable{fp:List Addr}{h:Heap}
section
variable{X:Cx}{tg:Expr}
theorem Nu{R:It->Hp->Prop}{E:Value->ah->Prop}{lo hi:Int}{t u v:Tok}{tk:Nat}(I:Inv X pins O H s)(h1:-(2 ^ 62)<=lo)(h2:lo<2 ^ 62)(h3:-(2 ^ 62)<=hi)(h4:hi<2 ^ 62)
  (q:R (Q0 lo (hi-lo).toNat) H):az (aA X.prog X.w) X.A (uf (.ref s.heap.objs.size)) (Xr X pins O tg R) E { s with heap:=s.heap.push { cls:=.type "range",data:=.fields #[.int lo t,.int hi u,.int 1 v] },toks:=tk }:=by
 refine wpAny_pyIter_range (Wd ..) (small_one h1 h2 h3 h4) ?_;have I1:Inv X pins O H { s with heap:=s.heap.push { cls:=.type "range",data:=.fields #[.int lo t,.int hi u,.int 1 v] },toks:=tk }:=I.kept fun b o e=>aF _ e;refine⟨(s.heap.push { cls:=.type "range",data:=.fields #[.int lo t,.int hi u,.int 1 v] }).objs.size,[(s.heap.push { cls:=.type "range",data:=.fields #[.int lo t,.int hi u,.int 1 v] }).objs.size],_,_,H,rfl,
  I1.kept (t':=tk) fun b o e=>aF _ e,IS _ lo (hi-lo).toNat,?_,fun b hb=>?_,q⟩
 ·have e1:lo+((0:Nat):Int)*1=lo:=by simp
  have e2:(((hi-lo).toNat:Nat):Int)-((0:Nat):Int)=GN lo hi 1:=by rw[rangeSize_one];split<;>omega
  show Hi _ _ (lo+((0:Nat):Int)*1) ((((hi-lo).toNat:Nat):Int)-((0:Nat):Int)) 1;rw[e1,e2];exact bu _ rfl
 ·have e:b=(s.heap.push { cls:=.type "range",data:=.fields #[.int lo t,.int hi u,.int 1 v] }).objs.size:=by simpa using hb
  subst e;exact I1.o5 (aM _) (I1.hok.fresh (aM _))
def X7(wi:TI)(g:TG)(tb:TS):TS:=fun D O H=>wi O H fun J H1=>∃W:Nat->Nat->St->Hp->Prop,(∃m,W 0 m O H1)/\∀i m O H,W i m O H->
 (J.stop i H/\D.nx O H)\/(J.go i H/\∃N:St->Hp->Prop,(∀Zd H',N Zd H'->∃m',m'<m/\W (i+1) m' Zd H')/\∀x H',J.yld i H x H'->g x O H' fun Zg H2=>tb { D with nx:=N,ct:=N,bk:=D.nx } Zg H2)
noncomputable def vU(fp:List Addr)(h:Heap):List (Addr×Obj):=fp.filterMap fun b=>(h.get? b).map fun o=>(b,o)
theorem pW{b:Addr}{o:Obj}(hb:b∈fp)(e:h.get? b=some o):(b,o)∈vU fp h:=xE.mpr ⟨b,hb,by rw[e];rfl⟩
theorem KI{p:Addr×Obj}(hp:p∈vU fp h):p.1∈fp/\h.get? p.1=some p.2:=by
 obtain⟨b,hb,e⟩:=xE.mp hp;cases q:h.get? b with
 |none=>rw[q]at e;cases e
 |some o=>
  rw[q]at e;have e':(b,o)=p:=cH e;subst e';exact⟨hb,q⟩
theorem Inv.pinned(I:Inv X pins O H s)(hf:∀b∈fp,ly X pins H b)(ho:∀b∈fp,∃o,s.heap.get? b=some o/\∀v,o.data≠.cell v):Inv X (pins++vU fp s.heap) O H s:=
 I.xW fun p hp=>(aZ.mp hp).elim (fun z=>I.pin p (au _ z)) fun z=>by
  obtain⟨hb,e⟩:=KI z;obtain⟨f0,f1,f2,_⟩:=hf p.1 hb;obtain⟨o,e',d⟩:=ho p.1 hb;rw[e]at e';cases e';exact⟨e,f0,f1,f2,d⟩
theorem Inv.uB{pl:List (Addr×Obj)}(I:Inv X (pins++pl) O H s):Inv X pins O H s:=I.xW fun p hp=>I.pin p (au _ (aK _ hp))
theorem Um{iter:Expr}{body:List Stmt}{wi:TI}{g:TG}{tb:TS}{pos:Pos}(hp:sf (aA X.prog X.w) X.A X.env X.xe)(hc:X.calm=true)(hi:PI X tg iter wi)(hg:PG X tg g)(hb:mP X body tb)
  (hs:∀x,ju iter X.env x=pure x:=by intro _;rfl):PS X (.For tg iter body [] pos) (X7 wi g tb):=by
 intro pins s O H D I h;refine wpAny_For (aR (hi pins s O H _ I h) fun v s1 h1=>aR h1 fun itv s2 h2=>?_) hs;obtain⟨it,fp,tn,J,H2,e,I2,T,st2,f2,W,⟨m0,w0⟩,turn⟩:=h2;subst e;have stat:∀{H':Hp},(∀b∈fp,H' b=none)->∀b∈fp,ly X pins H' b:=fun hn b hb=>⟨hn b hb,(f2 b hb).2⟩;refine codeAny_forLoop_any (fun n s'=>∃i Zd H',Inv X pins Zd H' s'/\tn i s'.heap/\(∀b∈fp,H' b=none)/\W i n Zd H') ?_ m0 ⟨0,O,H2,I2,st2,fun b hb=>(f2 b hb).1,w0⟩;rintro n s3 ⟨i,Zh,H3,I3,st3,fr3,w3⟩;rcases turn i n Zh H3 w3 with⟨stop,qn⟩|⟨go,N,hN,step⟩
 ·refine gM hp (aR (T.done X rfl rfl rfl hc i pins s3 Zh H3 X.xe I3 (stat fr3) st3 stop) fun r s4 ⟨hr,I4⟩=>?_);subst hr;exact iY ⟨Zh,H3,I4,qn⟩
 ·refine gM hp (aR (T.item X rfl rfl rfl hc i pins s3 Zh H3 X.xe I3 (stat fr3) st3 go) fun r s4 ⟨u,hr,h4⟩=>?_);subst hr;refine gM hp (aR h4 fun _ s5 ⟨x,H5,I5,r5,y5,st5,fr5⟩=>?_);have I5':=I5.pinned (stat fr5) (T.obj _ _ st5);refine gM hp (aR (hg _ s5 Zh H5 x u _ I5' r5 (step x H5 y5)) fun _ s6 ⟨Zo,H6,I6,q6⟩=>?_);refine gM hp (aR (hb _ s6 Zo H6 _ I6 q6) fun f s7 q7=>?_);have again:∀{Zn:St}{H7:Hp},Inv X (pins++vU fp s5.heap) Zn H7 s7->N Zn H7->∃m,m<n/\∃i Zd H',Inv X pins Zd H' s7/\tn i s7.heap/\(∀b∈fp,H' b=none)/\W i m Zd H':=fun{Zn H7} I7 n7=>by
   obtain⟨m',hm,w7⟩:=hN Zn H7 n7;refine⟨m',hm,i+1,Zn,H7,I7.uB,T.keep _ _ _ st5 fun b hb o e=>(I7.pin (b,o) (au _ (au _ (pW hb e)))).1,fun b hb=>?_,w7⟩;obtain⟨o,e,d⟩:=T.obj _ _ st5 b hb;exact(I7.pin (b,o) (au _ (au _ (pW hb e)))).2.1
  cases f with
  |next=>obtain⟨Zn,H7,I7,n7⟩:=q7;exact again I7 n7
  |cont=>obtain⟨Zn,H7,I7,n7⟩:=q7;exact again I7 n7
  |brk=>obtain⟨Zn,H7,I7,q7⟩:=q7;exact⟨Zn,H7,I7.uB,q7⟩
  |ret v=>obtain⟨x7,Zn,H7,I7,r7,q7⟩:=q7;exact⟨x7,Zn,H7,I7.uB,r7,q7⟩
end
end L2
namespace L2
open PySem PySem.Spec PyProof.Rows
noncomputable abbrev R2:=V->V->Hp->VK->Prop
def iT(X:Cx)(f:Value->Value->Sem Value)(r:R2):Prop:=
 ∀(pins:List (Addr×Obj)) (s:ah) (O:St) (H:Hp) (x y:V) (v u:Value) (Q:VK),Inv X pins O H s->RelV x v->RelV y u->r x y H Q->
  az (aA X.prog X.w) X.A (f v u) (EP X pins O Q) X.xe s
def Xv(X:Cx)(f:Value->Sem Value)(r:V->Hp->VK->Prop):Prop:=
 ∀(pins:List (Addr×Obj)) (s:ah) (O:St) (H:Hp) (x:V) (v:Value) (Q:VK),Inv X pins O H s->RelV x v->r x H Q->
  az (aA X.prog X.w) X.A (f v) (EP X pins O Q) X.xe s
def ou(X:Cx)(f:Value)(r:List V->Hp->VK->Prop):Prop:=
 ∀(pins:List (Addr×Obj)) (s:ah) (O:St) (H:Hp) (xs:List V) (us:List Value) (Q:VK),Inv X pins O H s->bh xs us->r xs H Q->
  az (aA X.prog X.w) X.A (call f us) (EP X pins O Q) X.xe s
def Uo(X:Cx)(r:V->Hp->(Bool->Hp->Prop)->Prop):Prop:=
 ∀(pins:List (Addr×Obj)) (s:ah) (O:St) (H:Hp) (x:V) (v:Value) (Q:Bool->Hp->Prop),Inv X pins O H s->RelV x v->r x H Q->
  az (aA X.prog X.w) X.A (A8 v) (TP X pins O Q) X.xe s
def Up(r:R2)(ta tb:TE):TE:=fun O H Q=>ta O H fun x H1=>tb O H1 fun y H2=>r x y H2 Q
noncomputable def rI(C:Int->Int->Prop)(g:Int->Int->V):R2:=fun x y H Q=>∃i j,x=.int i/\y=.int j/\C i j/\Q (g i j) H
noncomputable def Cu(g:Int->Int->V):R2:=fun x y H Q=>∃i j,x=.int i/\y=.int j/\Q (g i j) H
def rU(g:Int->V):V->Hp->VK->Prop:=fun x H Q=>∃i,x=.int i/\Q (g i) H
variable{pins:List (Addr×Obj)}{s:ah}{O:St}{H:Hp}
variable{op:ji}{r:R2}
variable{x:V}{Q:VK}
variable{f:Value->Value->Sem Value}{g:Int->Int->Int}
section
variable{X:Cx}{a b c:Expr}{ta tb tc:TE}{pos:Pos}
theorem Nv(ha:PE X a ta)(hb:PE X b tb){R:V->V->Hp->Prop}(I:Inv X pins O H s)
  (h:ta O H fun x H1=>tb O H1 fun y H2=>R x y H2) {Q:Value->ah->Prop}{f:Value->Value->Sem Value}
  (hf:∀v u s2 x y H2,Inv X pins O H2 s2->RelV x v->RelV y u->R x y H2->az (aA X.prog X.w) X.A (f v u) Q X.xe s2) :
  az (aA X.prog X.w) X.A (eval a X.env) (fun v Zf=>az (aA X.prog X.w) X.A (eval b X.env) (fun u Zi=>az (aA X.prog X.w) X.A (f v u) Q X.xe Zi) X.xe Zf) X.xe s:=by
 refine aR (ha pins s O H _ I h) fun v s1 ⟨x,H1,I1,r1,q1⟩=>?_;refine aR (hb pins s1 O H1 _ I1 q1) fun u s2 ⟨y,H2,I2,r2,q2⟩=>?_;exact hf v u s2 x y H2 I2 r1 r2 q2
theorem Wo(ho:iT X (gn op) r)(ha:PE X a ta)(hb:PE X b tb):PE X (.BinOp a op b pos) (Up r ta tb):=by
 intro pins s O H Q I h;exact wpAny_BinOp (Nv ha hb I h fun v u s2 x y H2 I2 rx ry q=>ho pins s2 O H2 x y v u Q I2 rx ry q)
theorem Ep(ho:iT X (xD op) r){y:V}{v u:Value}(I:Inv X pins O H s)
  (rx:RelV x v) (ry:RelV y u) (q:r x y H Q):az (aA X.prog X.w) X.A (xD op v u) (EP X pins O Q) X.xe s:=ho pins s O H x y v u Q I rx ry q
theorem Q2{C:Int->Int->Prop}
  (rule:∀(i j:Int) (t u:Tok) (s:ah) (Q:Value->ah->Prop) (E:Value->ah->Prop),C i j->Q (.int (g i j) s.toks) { s with toks:=s.toks+1 }->az (aA X.prog X.w) X.A (f (.int i t) (.int j u)) Q E s) :
  iT X f (rI C fun i j=>.int (g i j)):=by
 intro pins s O H x y v u Q I rx ry h;obtain⟨i,j,rfl,rfl,hc,q⟩:=h;obtain⟨t,rfl⟩:=rx;obtain⟨t',rfl⟩:=ry;exact rule i j t t' s _ _ hc ⟨.int (g i j),H,I.tok _,⟨_,rfl⟩,q⟩
theorem Uq
  (rule:∀(i j:Int) (t u:Tok) (s:ah) (Q:Value->ah->Prop) (E:Value->ah->Prop),Q (.int (g i j) s.toks) { s with toks:=s.toks+1 }->az (aA X.prog X.w) X.A (f (.int i t) (.int j u)) Q E s) :
  iT X f (Cu fun i j=>.int (g i j)):=by
 intro pins s O H x y v u Q I rx ry h;obtain⟨i,j,rfl,rfl,q⟩:=h;obtain⟨t,rfl⟩:=rx;obtain⟨t',rfl⟩:=ry;exact rule i j t t' s _ _ ⟨.int (g i j),H,I.tok _,⟨_,rfl⟩,q⟩
theorem IT{g:Int->Int->Bool}
  (rule:∀(i j:Int) (t u:Tok) (s:ah) (Q:Value->ah->Prop) (E:Value->ah->Prop),Q (.bool (g i j)) s->az (aA X.prog X.w) X.A (f (.int i t) (.int j u)) Q E s) :
  iT X f (Cu fun i j=>.bl (g i j)):=by
 intro pins s O H x y v u Q I rx ry h;obtain⟨i,j,rfl,rfl,q⟩:=h;obtain⟨t,rfl⟩:=rx;obtain⟨t',rfl⟩:=ry;exact rule i j t t' s _ _ ⟨.bl (g i j),H,I,rfl,q⟩
def uC(i j:Int):Prop:=0<j/\j<1073741824
def Er(i j:Int):Prop:=0<=j/\j<=1000000/\i.natAbs<2 ^ 64
def sO(i j:Int):Prop:=(-(2 ^ 64)<i/\i<2 ^ 64)\/(-(2 ^ 64)<j/\j<2 ^ 64)
theorem sO.ok{i j:Int}(h:sO i j):IntMulOk i j:=by
 rcases h with⟨h1,h2⟩|⟨h1,h2⟩
 ·exact .of_left (DU h1 h2)
 ·exact .of_right (DU h1 h2)
theorem Ur:iT X (gn .Add) (Cu fun i j=>.int (i+j)):=Uq fun _ _ _ _ _ _ _ q=>add_int q
theorem Us:iT X (gn .Sub) (Cu fun i j=>.int (i-j)):=Uq fun _ _ _ _ _ _ _ q=>sub_int q
theorem Ut:iT X (gn .Mult) (rI sO fun i j=>.int (i*j)):=Q2 fun _ _ _ _ _ _ _ hc q=>mul_int q hc.ok
theorem RV:iT X (gn .FloorDiv) (rI uC fun i j=>.int (i / j)):=Q2 fun i j _ _ _ _ _ hc q=>by
 have h1:(0:Int)<j:=hc.1;have h2:j<1073741824:=hc.2;exact floordiv_int (by omega) (by rw[Int.fdiv_eq_ediv_of_nonneg i (by omega)];exact q) (.inl (Hj (by omega)))
theorem Uu:iT X (gn .Mod) (rI (fun _ j=>0<j) fun i j=>.int (i%j)):=Q2 fun i j _ _ _ _ _ hc q=>by
 have h1:(0:Int)<j:=hc;exact mod_int' (by omega) (by rw[Int.fmod_eq_emod_of_nonneg i (by omega)];exact q)
theorem Uv:iT X (gn .Pow) (rI Er fun i j=>.int (i ^ j.toNat)):=Q2 fun _ _ _ _ _ _ _ hc q=>pow_int_small hc.1 hc.2.1 hc.2.2 q
theorem unI{f:Value->Sem Value}{g:Int->Int}
  (rule:∀(i:Int) (t:Tok) (s:ah) (Q:Value->ah->Prop) (E:Value->ah->Prop),Q (.int (g i) s.toks) { s with toks:=s.toks+1 }->az (aA X.prog X.w) X.A (f (.int i t)) Q E s) :
  Xv X f (rU fun i=>.int (g i)):=by
 intro pins s O H x v Q I rx h;obtain⟨i,rfl,q⟩:=h;obtain⟨t,rfl⟩:=rx;exact rule i t s _ _ ⟨.int (g i),H,I.tok _,⟨_,rfl⟩,q⟩
theorem Uw:Xv X (unaryOp .USub) (rU fun i=>.int (-i)):=unI fun _ _ _ _ _ q=>neg_int q
end
variable{us:List Value}
section
variable{X:Cx}{a b c:Expr}{ta tb tc:TE}{pos:Pos}
theorem Aj{k k':Bool}(I:Inv X pins O H s)(q:Q (.bl k) H)(e:k=k'):EP X pins O Q (.bool k') s:=by
 subst e;exact⟨.bl k,H,I,rfl,q⟩
theorem Wp:iT X (fG .Lt) (Cu fun i j=>.bl (decide (i<j))):=IT fun _ _ _ _ _ _ _ q=>lt_int q
theorem Wq:iT X (fG .LtE) (Cu fun i j=>.bl (decide (i<=j))):=IT fun _ _ _ _ _ _ _ q=>le_int q
theorem Wr:iT X (fG .Gt) (Cu fun i j=>.bl (decide (j<i))):=IT fun _ _ _ _ _ _ _ q=>gt_int q
theorem Ws:iT X (fG .GtE) (Cu fun i j=>.bl (decide (j<=i))):=IT fun _ _ _ _ _ _ _ q=>ge_int q
theorem KJ:iT X (fG .Lt) (fun x y H Q=>∃i j,x=.str i/\y=.str j/\Q (.bl (decide (i.cps.toList<j.cps.toList))) H):=by
 intro pins s O H x y v u Q I rx ry h;obtain⟨i,j,rfl,rfl,q⟩:=h;obtain⟨t,rfl⟩:=rx;obtain⟨t',rfl⟩:=ry;exact lt_str (Aj I q rfl)
theorem Ux:iT X (fG .Is) (fun x y H Q=>y=.non/\Q (.bl (decide (x=.non))) H):=by
 intro pins s O H x y v u Q I rx ry h;obtain⟨rfl,q⟩:=h;cases ry;refine is_none_gen (Aj I q ?_);cases x<;>first
  |(cases rx;rfl)
  |(obtain⟨t,rfl⟩:=rx;rfl)
theorem RW:iT X (fG .IsNot) (fun x y H Q=>y=.non/\Q (.bl (!decide (x=.non))) H):=by
 intro pins s O H x y v u Q I rx ry h;obtain⟨rfl,q⟩:=h;cases ry;refine isnot_none_gen (Aj I q ?_);cases x<;>first
  |(cases rx;rfl)
  |(obtain⟨t,rfl⟩:=rx;rfl)
theorem YJ(b:Expr){op:nB}(h:op≠.In:=by decide)(h2:op≠.NotIn:=by decide):lU op b=false:=by
 have e1:(op==CmpOp.In)=false:=by cases op<;>first|rfl|exact absurd rfl h
 have e2:(op==CmpOp.NotIn)=false:=by cases op<;>first|rfl|exact absurd rfl h2
 cases b<;>simp[lU,e1,e2]
theorem RX{op:nB}(ho:iT X (fG op) r)(ha:PE X a ta)(hb:PE X b tb)(hm:lU op b=false):PE X (.Compare a [op] [b] pos) (Up r ta tb):=by
 intro pins s O H Q I h;exact wpAny_Compare1 (Nv ha hb I h fun v u s2 x y H2 I2 rx ry q=>ho pins s2 O H2 x y v u Q I2 rx ry q) hm
def X8(K:PySem.W.Frag)(x:V)(H:Hp)(k:Bool):Prop:=
 match x with
 |.non=>k=false
 |.bl b=>k=b
 |.int i=>k=(i != 0)
 |.str y=>y.length<=aa/\k=((y.length:Int) != 0)
 |.byt y=>y.size<=aa/\k=((y.size:Int) != 0)
 |.ref p=>(∃xs,gf K H p xs/\k=!xs.isEmpty)\/(∃xs,pH K H p xs/\k=!xs.isEmpty)\/∃kvs,H p=some (.dK kvs)/\k=!kvs.isEmpty
 |_=>False
theorem IU{κ:Type}{kvs:List (κ×V)}{vs:List (κ×Value)}(r:KV kvs vs):(!vs.isEmpty)=!kvs.isEmpty:=by
 cases r<;>rfl
theorem Ak{xs:List V}{its:List Value}(r:bh xs its):(!its.toArray.isEmpty)=!xs.isEmpty:=by
 cases r<;>simp
theorem qJ:(aa:Nat)<2 ^ 63:=by rw[dM];decide
theorem Uy:Uo X (fun x H Q=>∃k,X8 X.K x H k/\Q k H):=by
 intro pins s O H x v Q I rx h;obtain⟨k,e,q⟩:=h;have hl:=qJ;have hs:aa=16777216:=dM;cases x with
 |non=>
  cases rx;have e':k=false:=e;subst e';exact truthy_none ⟨H,I,q⟩
 |bl b=>
  cases rx;have e':k=b:=e;subst e';exact d9 ⟨H,I,q⟩
 |int i=>
  obtain⟨t,rfl⟩:=rx;have e':k=(i != 0):=e;subst e';exact PySem.P.truthy_int ⟨H,I,q⟩
 |str y=>
  obtain⟨t,rfl⟩:=rx;obtain⟨hy,e'⟩:y.length<=aa/\k=((y.length:Int) != 0):=e;subst e';exact PySem.P.truthy_str (by omega) ⟨H,I.tok _,q⟩
 |byt y=>
  obtain⟨t,rfl⟩:=rx;obtain⟨hy,e'⟩:y.size<=aa/\k=((y.size:Int) != 0):=e;subst e';exact PySem.W.truthy_bytes (by omega) ⟨H,I.tok _,q⟩
 |ref p=>
  cases rx;have e':(∃xs,gf X.K H p xs/\k=!xs.isEmpty)\/(∃xs,pH X.K H p xs/\k=!xs.isEmpty)\/∃kvs,H p=some (.dK kvs)/\k=!kvs.isEmpty:=e;rcases e' with⟨xs,hx,e'⟩|⟨xs,hx,e'⟩|⟨kvs,hx,e'⟩
  ·subst e';obtain⟨its,r,pl,hz⟩:=I.list hx;have hlen:=r.length;exact wpAny_truthy_list pl.isList (by simp only[aQ];omega) ⟨H,I.tok _,by rw[Ak r];exact q⟩
  ·subst e';obtain⟨its,r,pl,hz⟩:=I.tuple hx;have hlen:=r.length;exact truthy_tuple pl (by simp only[aQ];omega) ⟨H,I.tok _,by rw[Ak r];exact q⟩
  ·subst e';obtain⟨hz,hS,vs,r,m⟩:kvs.length<=aa/\(p==jR)=false/\∃vs,KV kvs vs/\s.heap.DictOf (gj X.prog X.w) p vs:=I.hok p _ hx;have hlen:kvs.length=vs.length:=Paired.length r;exact wpAny_truthy_dict hS m (by omega) ⟨H,I.tok _,by rw[IU r];exact q⟩
 |_=>exact(show False from e).elim
theorem IV:iT X (gn .Add) (fun x y H Q=>∃i j,x=.str i/\y=.str j/\i.length+j.length<=aa/\Q (.str (i++j)) H):=by
 intro pins s O H x y v u Q I rx ry h;obtain⟨i,j,rfl,rfl,hz,q⟩:=h;obtain⟨t,rfl⟩:=rx;obtain⟨t',rfl⟩:=ry;exact add_str (fun t' tk=>⟨.str (i++j),H,I.tok _,⟨_,rfl⟩,q⟩) hz
theorem vals1(r:bh [x] us):∃u,us=[u]/\RelV x u:=by
 cases r with
 |cons r1 r2=>cases r2;exact⟨_,rfl,r1⟩
theorem vals2{y:V}(r:bh [x,y] us):∃u w',us=[u,w']/\RelV x u/\RelV y w':=by
 cases r with
 |cons r1 r2=>
  cases r2 with
  |cons r3 r4=>cases r4;exact⟨_,_,rfl,r1,r3⟩
theorem Nx:ou X (.builtin "abs") (fun xs H Q=>∃i,xs=[.int i]/\Q (.int (if i<0 then -i else i)) H):=by
 intro pins s O H xs us Q I r h;obtain⟨i,rfl,q⟩:=h;obtain⟨u,rfl,t,rfl⟩:=vals1 r;exact call_abs_int fun u tk=>⟨.int (if i<0 then -i else i),H,I.tok _,⟨_,rfl⟩,q⟩
theorem KL(hc:X.calm=true):ou X (.builtin "min") (fun xs H Q=>∃i j,xs=[.int i,.int j]/\Q (.int (if j<i then j else i)) H):=by
 intro pins s O H xs us Q I r h;obtain⟨i,j,rfl,q⟩:=h;obtain⟨u,w',rfl,⟨t,rfl⟩,⟨t',rfl⟩⟩:=vals2 r;refine min_two_ints (I.ok.hd hc) fun h' tk k=>⟨_,H,I.kept k,?_,q⟩;by_cases hj:j<i
 ·rw[if_pos hj,if_pos hj];exact⟨_,rfl⟩
 ·rw[if_neg hj,if_neg hj];exact⟨_,rfl⟩
theorem Cv:ou X (.type "int") (fun xs H Q=>(∃i,xs=[.int i]/\Q (.int i) H)\/∃k,xs=[.bl k]/\Q (.int (if k then 1 else 0)) H):=by
 intro pins s O H xs us Q I r h;rcases h with⟨i,rfl,q⟩|⟨k,rfl,q⟩
 ·obtain⟨u,rfl,t,rfl⟩:=vals1 r;exact call_int_int ⟨.int i,H,I,⟨_,rfl⟩,q⟩
 ·obtain⟨u,rfl,r1⟩:=vals1 r;cases r1;exact call_int_bool ⟨.int (if k then 1 else 0),H,I.tok _,⟨_,rfl⟩,q⟩
theorem Es:ou X (.type "str") (fun xs H Q=>∃i,xs=[.int i]/\i.natAbs.log2<1920/\Q (.str (toString i)) H):=by
 intro pins s O H xs us Q I r h;obtain⟨i,rfl,hz,q⟩:=h;obtain⟨u,rfl,t,rfl⟩:=vals1 r;exact PySem.P.str_of_int hz ⟨.str _,H,I.tok _,⟨_,rfl⟩,q⟩
end
end L2
namespace L2
open PySem PySem.Spec PyProof.Rows
structure IW (h:Heap) (x dx C:Addr) (mA:Str->Option Value):Prop where
 obj:h.get? x=some (PySem.W.instObj C dx)
 ns:h.Ns1 dx mA
 ne:dx≠x
variable{h:Heap}{dx:Addr}{mA:Str->Option Value}
theorem oJ(n:h.Ns1 dx mA):∃od,h.get? dx=some od/\∀name,PySem.W.lookIn name od=some (mA name):=by
 obtain⟨o,es,ep,ho,hd,hk,_,hm⟩:=n;refine⟨o,ho,fun name=>?_⟩;have e:=hm name;unfold A9 findBy at e;rw[<-Array.find?_toList]at e;unfold PySem.W.lookIn;rw[hd];dsimp only;split
 ·rename_i y q;rw[q]at e;exact congrArg some e
 ·rename_i q;rw[q]at e;have a:es.toList.any (·.refKey)=false:=by
   rw[pN];intro y hy;obtain⟨z,t,hkey⟩:=hk y (Array.mem_toList_iff.mp hy);simp[QU,hkey]
  have a':¬es.toList.any (·.refKey)=true:=by rw[a];exact aE
  rw[if_neg a'];exact congrArg some e
variable{C:Addr}
theorem IW.look{x:Addr}(I:IW h x dx C mA):∃od,PySem.W.InstAt h x (PySem.W.instObj C dx) C (some od)/\∀name,PySem.W.lookIn name od=some (mA name):=
 let⟨od,ho,hl⟩:=oJ I.ns
 ⟨od,⟨I.obj,rfl,rfl,ho⟩,hl⟩
variable{Q:Value->ah->Prop}
section
variable{prog:bg}{w:bH}{A:cJ}{E:Value->ah->Prop}{s:ah}{K:PySem.W.Frag}{x dx C f:Addr}{mA:Str->Option Value}{name:Str}{v:Value}
theorem KN{expr:Bool}{a:Value}(X:K.In s.heap)(I:IW s.heap x dx C mA)(hg:PySem.W.plainGet K C name=true)(hh:PySem.W.hasDictIn K C=true)
  (ha:PySem.W.findIn K (.ref C) name=some (some a)) (hn:PySem.W.specialIn K a "__get__"=some none) (hc:PySem.W.copiedNames.contains name=false) (hv:mA name=none) (hv':PySem.W.handedIn a=true)
  (h:Q a { s with toks:=s.toks+1 }):az (aA prog w) A (ug (.ref x) name expr) Q E s:=by
 obtain⟨od,J,hl⟩:=I.look;exact PySem.W.get_value X J (PySem.W.plainGet_of hg).1 (PySem.W.findObj_cls hh ha hn hv' hc (by rw[hl,hv])) hv' h
end
noncomputable def gQ(f:Str)(v:V):List (Str×V)->List (Str×V)
|[]=>[(f,v)]
|(g,x)::r=>if g=f then(g,v)::r else(g,x)::gQ f v r
theorem ow(f g:Str)(v:V):∀fs:List (Str×V),(gQ f v fs).lookup g=if g=f then some v else fs.lookup g
|[]=>by
 show jj g [(f,v)]=_;by_cases h:g=f
 ·have hb:(g==f)=true:=beq_iff_eq.mpr h;simp only[jj,hb,if_pos h]
 ·have hb:(g==f)=false:=beq_eq_false_iff_ne.mpr h;simp only[jj,hb,if_neg h]
|(k,x)::r=>by
 have ih:=ow f g v r;rw[show gQ f v ((k,x)::r)=(if k=f then(k,v)::r else(k,x)::gQ f v r)from rfl];by_cases hk:k=f
 ·rw[if_pos hk];by_cases h:g=k
  ·have hb:(g==k)=true:=beq_iff_eq.mpr h;simp only[jj,hb,if_pos (h.trans hk)]
  ·have hb:(g==k)=false:=beq_eq_false_iff_ne.mpr h;simp only[jj,hb,if_neg (fun e:g=f=>h (e.trans hk.symm))]
 ·rw[if_neg hk];by_cases h:g=k
  ·have hb:(g==k)=true:=beq_iff_eq.mpr h;simp only[jj,hb,if_neg (fun e:g=f=>hk (h.symm.trans e))]
  ·have hb:(g==k)=false:=beq_eq_false_iff_ne.mpr h;simp only[jj,hb];exact ih
theorem sP(f:Str)(v:V):∀fs:List (Str×V),(gQ f v fs).length<=fs.length+1
|[]=>by simp[gQ]
|(k,x)::r=>by
 have ih:=sP f v r;rw[show gQ f v ((k,x)::r)=(if k=f then(k,v)::r else(k,x)::gQ f v r)from rfl];by_cases hk:k=f
 ·rw[if_pos hk,aN,aN];omega
 ·rw[if_neg hk,aN,aN];omega
variable{o:Option Value}
theorem ki.some_of{v:V}(r:ki (some v) o):∃u,o=some u/\RelV v u:=by
 cases o with
 |none=>exact(show False from r).elim
 |some u=>exact⟨u,rfl,r⟩
theorem ki.none_of(r:ki none o):o=none:=by
 cases o with
 |none=>rfl
 |some u=>exact(show False from r).elim
variable{u:Value}
theorem Cw{v:V}(r:RelV v u):PySem.W.handedIn u=true:=by
 cases v with
 |non=>cases(show u=c_ from r);rfl
 |bl b=>cases(show u=g_ b from r);rfl
 |int i=>obtain⟨t,e⟩:=(show ∃t,u=r_ i t from r);cases e;rfl
 |str x=>obtain⟨t,e⟩:=(show ∃t,u=sd x t from r);cases e;rfl
 |byt b=>obtain⟨t,e⟩:=(show ∃t,u=Hg b t from r);cases e;rfl
 |flt b=>obtain⟨t,e⟩:=(show ∃t,u=zl b t from r);cases e;rfl
 |ref a=>cases(show u=a8 a from r);rfl
 |ty n=>cases(show u=Value.type n from r);rfl
section
variable{P:bg}{w:bH}{H H':Hp}{h h':Heap}{a C dx:Addr}{fs fs':List (Str×V)}
theorem Hz(hok:eY P w H h)(e:H a=some (.ins C dx fs)):∃mA,IW h a dx C mA/\(∀f,ki (fs.lookup f) (mA f))/\PySem.Within mA (fs.map (·.1))/\fs.length<=1000/\H dx=some (.own a):=by
 obtain⟨d,z,ne,ob,mA,n,r,q⟩:=(show dP P w H h a (.ins C dx fs)from hok a _ e);exact⟨mA,⟨ob,n,ne⟩,r,q,z,d⟩
end
structure KO (K:PySem.W.Frag) (C:Addr):Prop where
 pg:PySem.W.plainGet K C DB=true
 hd:PySem.W.hasDictIn K C=true
 po:PySem.W.plainOver K C=true
 sa:PySem.W.findIn K (.ref C) "__setattr__"=some (some (.builtin "object.__setattr__"))
theorem KO.get{K:PySem.W.Frag}(c:KO K C)(f:Str):PySem.W.plainGet K C f=true:=c.pg
def iU(K:PySem.W.Frag)(C:Addr)(f:Str):Prop:=PySem.W.findIn K (.ref C) f=some none
structure Xw (K:PySem.W.Frag) (C:Addr) (f:Str) (v:V) (u:Value):Prop where
 at_:PySem.W.findIn K (.ref C) f=some (some u)
 rel:RelV v u
 get:PySem.W.specialIn K u "__get__"=some none
 cp:PySem.W.copiedNames.contains f=false
section
variable{X:Cx}{pins:List (Addr×Obj)}{O:St}{H:Hp}{s:ah}{a C dx:Addr}{fs:List (Str×V)}{f:Str}{v:V}{A:cJ}{E:Value->ah->Prop}
theorem KP{b:Bool}(I:Inv X pins O H s)(e:H a=some (.ins C dx fs))(c:KO X.K C)(k:Xw X.K C f v u)(l:fs.lookup f=none)
  (h:∀s',Inv X pins O H s'->Q u s'):az (aA X.prog X.w) A (ug (.ref a) f b) Q E s:=by
 obtain⟨mA,Y9,r,_,_,_⟩:=Hz I.hok e;have hn:mA f=none:=ki.none_of (by rw[<-l];exact r f);exact KN I.fK Y9 (c.get f) c.hd k.at_ k.get k.cp hn (Cw k.rel) (h _ (I.tok _))
theorem HA{prog:bg}{w:bH}{env:Env}{e:Expr}{pos:Pos}(hb:pe e f env (eval e env)=eval e env)
  (h:az (aA prog w) A (eval e env) (fun o Zf=>az (aA prog w) A (ug o f true) Q E Zf) E s):az (aA prog w) A (eval (.Attribute e f pos) env) Q E s:=
 Attribute_any_ h (by rw[arm_eval_Attribute,hb])
end
def X_(K:PySem.W.Frag)(ta:TE)(f:Str):TE:=fun O H Q=>ta O H fun x H1=>∃a C dx fs v u,x=.ref a/\H1 a=some (.ins C dx fs)/\KO K C/\Xw K C f v u/\fs.lookup f=none/\Q v H1
section
variable{X:Cx}{o e value:Expr}{f:Str}{pos pos' tpos:Pos}{ta tv:TE}
theorem KQ(he:PE X e ta)(hb:pe e f X.env (eval e X.env)=eval e X.env):PE X (.Attribute e f pos) (X_ X.K ta f):=by
 intro pins s O H Q I h;refine HA hb (aR (he pins s O H _ I h) fun u s1 ⟨x,H1,I1,rx,a,C,dx,fs,v,u0,ex,ea,c,k,l,q⟩=>?_);subst ex;obtain rfl:u=a8 a:=rx;exact KP I1 ea c k l fun s2 I2=>⟨v,H1,I2,k.rel,q⟩
end
section
variable{X:Cx}{pins:List (Addr×Obj)}{O:St}{H:Hp}{s:ah}{A:cJ}{E:Value->ah->Prop}{Q:Value->ah->Prop}{c:Value}{b:Bool}
inductive nS (K:PySem.W.Frag) (H:Hp):V->Value->Prop where
|non:nS K H .non (.type "NoneType")
|bl (x:Bool):nS K H (.bl x) (.type "bool")
|int (i:Int):nS K H (.int i) (.type "int")
|str (x:Str):nS K H (.str x) (.type "str")
|flt (x:UInt64):nS K H (.flt x) (.type "float")
|lst {a:Addr}{xs:List V} (e:H a=some (.lst xs)):nS K H (.ref a) (.type "list")
|bq {a:Addr}{o:Obj}{xs:List V} (e:H a=some (.bq o (.lst xs))):nS K H (.ref a) (.type "list")
|tup {a:Addr}{xs:List V} (e:H a=some (.tup xs)):nS K H (.ref a) (.type "tuple")
|dK {a:Addr}{kvs:List (Key×V)} (e:H a=some (.dK kvs)):nS K H (.ref a) (.type "dict")
|dT {a:Addr}{kvs:List (List Key×V)} (e:H a=some (.dT kvs)):nS K H (.ref a) (.type "dict")
|ins {a C dx:Addr}{fs:List (Str×V)} (e:H a=some (.ins C dx fs)) (cl:KO K C) (ha:PySem.W.findIn K (.ref C) "__class__"=some (some (.builtin "object.__class__")))
  (hn:PySem.W.specialIn K (.builtin "object.__class__") "__get__"=some (some (.builtin "getset_descriptor.__get__"))) (htk:PySem.W.takesIn K (.builtin "object.__class__")=some true)
  (hm:PySem.W.mroIn K C (.type "object")=some true):nS K H (.ref a) (.ref C)
theorem KR{x:V}{t:Value}(I:Inv X pins O H s)(rx:RelV x u)(ty:nS X.K H x t)(e:PySem.W.kitOne X.K t c=some b)(h:∀tk,Q (.bool b) { s with toks:=tk }) :
  az (aA X.prog X.w) A (call (.builtin "isinstance") [u,c]) Q E s:=by
 cases ty with
 |non=>cases(show u=c_ from rx);exact PySem.W.kia_one PySem.W.kitx_none I.fK dS e (fun z=>nomatch z) h
 |bl y=>cases(show u=g_ y from rx);exact PySem.W.kia_one PySem.W.kitx_bool I.fK dS e (fun z=>nomatch z) h
 |int i=>obtain⟨t,q⟩:=(show ∃t,u=r_ i t from rx);cases q;exact PySem.W.kia_one PySem.W.kitx_int I.fK dS e (fun z=>nomatch z) h
 |str y=>obtain⟨t,q⟩:=(show ∃t,u=sd y t from rx);cases q;exact PySem.W.kia_one PySem.W.kitx_str I.fK dS e (fun z=>nomatch z) h
 |flt y=>obtain⟨t,q⟩:=(show ∃t,u=zl y t from rx);cases q;exact PySem.W.kia_one PySem.W.kitx_float I.fK dS e (fun z=>nomatch z) h
 |@lst a xs ea=>
  cases(show u=a8 a from rx);obtain⟨_,_,n,_,h1⟩:=(show dP X.prog X.w H s.heap a (.lst xs)from I.hok a _ ea);exact PySem.W.kia_one PySem.W.kitx_list I.fK ⟨_,h1,rfl⟩ e (fun z=>nomatch z) h
 |@bq a ob xs ea=>
  cases(show u=a8 a from rx);obtain⟨_,_,_,n,_,h1⟩:=(show dP X.prog X.w H s.heap a (.bq ob (.lst xs))from I.hok a _ ea);exact PySem.W.kia_one PySem.W.kitx_list I.fK ⟨_,h1,rfl⟩ e (fun z=>nomatch z) h
 |@tup a xs ea=>
  cases(show u=a8 a from rx);obtain⟨_,_,_,p⟩:=(show dP X.prog X.w H s.heap a (.tup xs)from I.hok a _ ea);obtain⟨o,h1,h2,_⟩:=p;exact PySem.W.kia_one PySem.W.kitx_tuple I.fK ⟨o,h1,h2⟩ e (fun z=>nomatch z) h
 |@dK a kvs ea=>
  cases(show u=a8 a from rx);obtain⟨_,_,vs,_,p⟩:=(show dP X.prog X.w H s.heap a (.dK kvs)from I.hok a _ ea);obtain⟨o,es,ep,h1,h2,_⟩:=p;exact PySem.W.kia_one PySem.W.kitx_dict I.fK ⟨o,h1,h2.1⟩ e (fun z=>nomatch z) h
 |@dT a kvs ea=>
  cases(show u=a8 a from rx);obtain⟨_,_,xs,_,o,es,ep,h1,h2,_⟩:=(show dP X.prog X.w H s.heap a (.dT kvs)from I.hok a _ ea);exact PySem.W.kia_one PySem.W.kitx_dict I.fK ⟨o,h1,h2.1⟩ e (fun z=>nomatch z) h
 |@ins a C dx fs ea cl ha hn htk hm=>
  cases(show u=a8 a from rx);obtain⟨mA,Y9,_⟩:=Hz I.hok ea;obtain⟨od,J,_⟩:=Y9.look;exact PySem.W.kia_one (PySem.W.kitx_own (cl.get _) cl.hd ha hn htk hm) I.fK J e (fun z=>nomatch z) h
end
end L2
namespace L2
open PySem PySem.Spec PyProof.Rows
structure gy (k:Nat) (A:cJ):Prop where
 hd:A.handled=none
 dp:A.depth+3*k+5<Cg
 un:A.units+16*k+200<dc
variable{j k:Nat}{A:cJ}
theorem gy.mono(r:gy k A)(h:j<=k):gy j A:=⟨r.hd,by have:=r.dp;omega,by have:=r.un;omega⟩
theorem gy.deeper(r:gy (k+1) A)(env:Env):gy k (A.deeper env):=
 ⟨r.hd,by have:=r.dp;show A.depth+1+3*k+5<_;omega,by have:=r.un;show A.units+3+16*k+200<_;omega⟩
variable{C:Addr}{us:List Value}{kw:List (Str×Value)}
theorem IX:(A.under (.builtin "type.__call__" ⟨.ref C::us,kw⟩)).depth=A.depth+1:=by
 first|rfl|simp[xF,Code.weight,Code.isCreation,Code.isGuard,Code.isCaller,Hl,xG,guardIds]
theorem IY:(A.under (.builtin "type.__call__" ⟨.ref C::us,kw⟩)).units=A.units+1:=by
 first|rfl|simp[xF,Code.cUnits,Hl,xG]
theorem gy.make(r:gy (k+1) A)(C:Addr)(us:List Value)(kw:List (Str×Value)):gy k (A.under (.builtin "type.__call__" ⟨.ref C::us,kw⟩)):=
 ⟨r.hd,by have:=r.dp;rw[IX];omega,by have:=r.un;rw[IY];omega⟩
theorem gy.depth(r:gy k A):A.depth<Cg:=by have:=r.dp;omega
def Uz:TA:=fun _ H Q=>Q [] H
def Wt(ta:TE)(tr:TA):TA:=fun O H Q=>ta O H fun x H1=>tr O H1 fun xs H2=>Q (x::xs) H2
section
variable{X:Cx}{e:Expr}{es:List Expr}{te:TE}{t:TA}{pos:Pos}
theorem Et:PA X [] Uz:=fun _ _ _ _ H Q I h=>fZ ⟨[],H,I,.nil,h⟩
theorem Bv(ha:PE X e te)(hr:PA X es t)(hs:cz (e::es) X.env=(false,eval e X.env)::cz es X.env:=by rfl):PA X (e::es) (Wt te t):=by
 intro pos pins s O H Q I h;rw[hs];show az _ _ (qG ((false,eval e X.env)::j3 pos (cz es X.env))) _ _ s;refine dg (aR (ha pins s O H _ I h) fun u s1 ⟨x,H1,I1,r1,q1⟩=>?_);exact aR (hr pos pins s1 O H1 _ I1 q1) fun us s2 ⟨xs,H2,I2,r2,q2⟩=>⟨x::xs,H2,I2,.cons r1 r2,q2⟩
def Yb(t:TA):TE:=fun O H Q=>t O H fun xs H1=>xs.length<=aa/\∀p,H1 p=none->Q (.ref p) (upd H1 p (.tup xs))
def Yc(t:TA):TE:=fun O H Q=>t O H fun xs H1=>xs.length<=aa/\∀p,H1 p=none->Q (.ref p) (upd H1 p (.lst xs))
theorem UA{x1}(h:PA X es t):PE X (.Tuple es x1 pos) (Yb t):=by
 intro pins s O H Q I hq;refine vL (aR (h pos pins s O H _ I hq) fun us s1 ⟨xs,H1,I1,r,z,q⟩=>⟨by rw[<-r.length];exact z,?_⟩);have hf:H1 s1.heap.objs.size=none:=I1.hok.fresh (aM _);refine⟨.ref s1.heap.objs.size,upd H1 s1.heap.objs.size (.tup xs),I1.laid (t':=s1.toks) (fun b u e=>aF _ e) (aM _) ?_,rfl,q _ hf⟩;exact⟨z,us,r,⟨_,bu _ rfl,rfl,_,rfl⟩⟩
theorem UB(h:PA X es t):PE X (.List es pos) (Yc t):=by
 intro pins s O H Q I hq;refine wpAny_List_spliced (aR (h pos pins s O H _ I hq) fun us s1 ⟨xs,H1,I1,r,z,q⟩=>⟨by rw[<-r.length];exact z,?_⟩);have hf:H1 s1.heap.objs.size=none:=I1.hok.fresh (aM _);refine⟨.ref s1.heap.objs.size,upd H1 s1.heap.objs.size (.lst xs),I1.laid (t':=s1.toks) (fun b u e=>aF _ e) (aM _) ?_,rfl,q _ hf⟩;exact⟨z,us,0,r,bu _ rfl⟩
end
noncomputable abbrev Sp:=List V->Hp->VK->XK->Prop
noncomputable abbrev yH:=List Env->Hp->ah->XK->Value->ah->Prop
structure zu (P:bg) (w:bH) (K:PySem.W.Frag) (mg:Str->Option Value) (base:Heap) (A:cJ) (outer:List Env) (s:ah) (H:Hp):Prop where
 frames:A.frames=some outer
 mod:Mod K mg base
 bs:∀b o,base.get? b=some o->s.heap.get? b=some o/\H b=none
 bsz:base.objs.size<=s.heap.objs.size
 mO:s.heap.FunFrames base outer
 frf:∀b∈frs outer,H b=none
 hok:eY P w H s.heap
 bare:jD s.gens
def CE(outer:List Env)(P:bg)(w:bH)(H:Hp)(s:ah)(Q:VK)(u:Value)(s':ah):Prop:=
 ∃v H',s'.os=s.os/\jD s'.gens/\Un (frs outer) [] H H' s.heap s'.heap/\eY P w H' s'.heap/\RelV v u/\Q v H'
def CR(CX:yH)(outer:List Env)(P:bg)(w:bH)(H:Hp)(s:ah)(Q:VK)(E:XK)(r:A_)(s':ah):Prop:=
 match r with
 |.ok (.ret u)=>CE outer P w H s Q u s'
 |.ok _=>False
 |.error e=>CX outer H s E e s'
structure eV (P:bg) (w:bH) (K:PySem.W.Frag) (mg:Str->Option Value) (base:Heap) (CX:yH) (k:Nat) (f:Addr) (fd:eW) (ps:List Str) (sp:Sp):Prop where
 len:∀vs H Q E,sp vs H Q E->vs.length=ps.length
 run:∀(A:cJ) (outer:List Env) (s:ah) (H:Hp) (args:Args) (us:List Value) (vs:List V) (Q:VK) (E:XK),gy k A->zu P w K mg base A outer s H->Ci s fd args (ps.zip us)->bh vs us->sp vs H Q E->
  jF (aA P w) A (.call (.ref f) args) (CR CX outer P w H s Q E) s
variable{P:bg}{w:bH}{K:PySem.W.Frag}{mg:Str->Option Value}{base:Heap}{CX:yH}{f:Addr}{fd:eW}{ps:List Str}{sp:Sp}
theorem eV.mono(F:eV P w K mg base CX j f fd ps sp)(h:j<=k) :
  eV P w K mg base CX k f fd ps sp:=⟨F.len,fun A outer s H args us vs Q E hr=>F.run A outer s H args us vs Q E (hr.mono h)⟩
theorem eV.imp{sp':Sp}(F:eV P w K mg base CX k f fd ps sp)
  (h:∀vs H Q E,sp' vs H Q E->sp vs H Q E):eV P w K mg base CX k f fd ps sp':=
 ⟨fun vs H Q E q=>F.len vs H Q E (h _ _ _ _ q),fun A outer s H args us vs Q E hr he hb hv hs=>F.run A outer s H args us vs Q E hr he hb hv (h _ _ _ _ hs)⟩
variable{outer:List Env}{s:ah}{H:Hp}
theorem zu.make(e:zu P w K mg base A outer s H)(C:Addr)(us:List Value)(kw:List (Str×Value)) :
  zu P w K mg base (A.under (.builtin "type.__call__" ⟨.ref C::us,kw⟩)) outer s H:=⟨by first|exact e.frames|(simpa[xF,Code.envs,xG,pushEnvs]using e.frames),e.mod,e.bs,e.bsz,e.mO,e.frf,e.hok,e.bare⟩
variable{Q:VK}
section
variable{X:Cx}{pins:List (Addr×Obj)}{O:St}{H:Hp}{s s':ah}
theorem Inv.Ny(I:Inv X pins O H s):zu X.prog X.w X.K X.mg X.base X.A X.stack s H:=
 ⟨I.ok.frames,I.ok.mod,I.bs,dH I.ok.bsz I.sz,I.stack,I.Bt,I.hok,I.bare⟩
theorem Inv.after{u:Value}(I:Inv X pins O H s)(h:CE X.stack X.prog X.w H s Q u s'):EP X pins O Q u s':=by
 obtain⟨v,H',os,bare,un,hok,r,q⟩:=h;obtain⟨hh,g,d,t,os'⟩:=s';obtain rfl:os'=s.os:=os;exact⟨v,H',I.call (h':=hh) (g':=g) (d':=d) (t':=t) (ch:=[]) un hok bare (fun b z=>absurd z (by simp)),r,q⟩
end
def Q3(sp:Sp)(dvs:List V)(E:XK)(t:TA):TE:=fun O H Q=>t O H fun vs H1=>sp (vs++dvs) H1 Q E
def Binds(K:PySem.W.Frag)(fd:eW)(ps:List Str)(ds:List Value):Prop:=
 ∀(s:ah) (us:List Value),K.In s.heap->(us++ds).length=ps.length->Ci s fd ⟨us,[]⟩ (ps.zip (us++ds))
theorem Binds.all(h:∀us:List Value,us.length=ps.length->rm fd ⟨us,[]⟩=pure (ps.zip us)):Binds K fd ps []:=fun s us _ hl=>by
 rw[gO]at hl ⊢;exact .of_eq (h us hl)
def vV(CX:yH)(X:Cx)(E:XK):Prop:=∀(pins:List (Addr×Obj)) (O:St) (H:Hp) (s:ah) (e:Value) (s':ah),Inv X pins O H s->CX X.stack H s E e s'->X.xe e s'
variable{vs:List V}
section
variable{X:Cx}{CX:yH}{k:Nat}{f C:Addr}{fd:eW}{ps:List Str}{sp:Sp}{dvs:List V}{ds:List Value}{E:XK}{x m:Str}{p pos apos:Pos}{e o:Expr}{es:List Expr}{ta:TE}{t:TA}
theorem KS{pins:List (Addr×Obj)}{O:St}(F:eV X.prog X.w X.K X.mg X.base CX k f fd ps sp)(hr:gy k X.A)(hb:Binds X.K fd ps ds)(hd:bh dvs ds)(hx:vV CX X E)
  (I:Inv X pins O H s) (r:bh vs us) (h:sp (vs++dvs) H Q E):az (aA X.prog X.w) X.A (call (.ref f) us) (EP X pins O Q) X.xe s:=by
 have r2:bh (vs++dvs) (us++ds):=r.append hd;have hl:(us++ds).length=ps.length:=by rw[<-r2.length];exact F.len _ _ _ _ h
 refine kY (iF (F.run X.A X.stack s H ⟨us,[]⟩ (us++ds) (vs++dvs) Q E hr I.Ny (hb s us I.fK hl) r2 h) fun r s' hq=>?_);cases r with
 |error e=>exact hx pins O H s e s' I hq
 |ok fl=>
  cases fl with
  |ret u=>exact I.after hq
  |next=>exact ak hq
  |brk=>exact ak hq
  |cont=>exact ak hq
theorem RY(F:eV X.prog X.w X.K X.mg X.base CX k f fd ps sp)(hr:gy k X.A)(hg:Gl X x)(hm:X.mg x=some (.ref f))(hk:PySem.W.keepIn X.K (.ref f)=true)(hb:Binds X.K fd ps ds)(hd:bh dvs ds)(hx:vV CX X E)
  (ha:PA X (e::es) t) (hdb:(x==("__debug__":Str))=false:=by decide) (he:cz (e::es) X.env=(false,eval e X.env)::cz es X.env:=by rfl) (hpl:(j3 pos (cz es X.env)).any (·.1)=false:=by rfl) :
  PE X (.Call (.Name x p) (e::es) [] pos) (Q3 sp dvs E t):=by
 intro pins s O H Q I h;refine dh (nR I hg hm ?_ hdb);refine PySem.W.callWith_K (h₀:=X.base) I.ok.mod.kin hk (aR (ha pos pins s O H _ I h) fun us s1 ⟨vs,H1,I1,r,q⟩=>⟨I1.fK,?_⟩) he hpl;exact KS F hr hb hd hx I1 r q
theorem Nz(F:eV X.prog X.w X.K X.mg X.base CX k f fd ps sp)(hr:gy k X.A)(hg:Gl X x)(hm:X.mg x=some (.ref f))(hk:PySem.W.keepIn X.K (.ref f)=true)(hb:Binds X.K fd ps ds)(hd:bh dvs ds)(hx:vV CX X E)
  (hdb:(x==("__debug__":Str))=false:=by decide):PE X (.Call (.Name x p) [] [] pos) (Q3 sp dvs E Uz):=by
 intro pins s O H Q I h;refine dh (nR I hg hm ?_ hdb);exact PySem.W.callWith_K0 I.fK hk (KS (us:=[]) F hr hb hd hx I .nil h)
end
structure kO (N P:List Str) (sc:eZ):Prop where
 kind:sc.kind=.function
 co:sc.isCoroutine=false
 gen:sc.isGenerator=false
 nd:N.Nodup
 pre:N.take P.length=P
 par:∀x∈P,sc.names.lookup x=some .local\/sc.names.lookup x=some .cell
 nofree:∀y∈sc.names,y.2≠.free
variable{kindOf:Str->Option iG}{x:Str}
theorem Cy:∀{binds:List (Str×Value)}{m:Str->Option Value},(∀v,(x,v)∉binds)->sj kindOf binds m x=m x
|[],_,_=>rfl
|(n,v)::r,m,h=>by
 unfold sj;rw[Cy fun w hw=>h w (ai _ hw)];split
 ·have:x≠n:=by rintro rfl;exact h v aq
  simp[this]
 ·rfl
theorem Cz:∀{binds:List (Str×Value)}{m:Str->Option Value},(∀v,(x,v)∉binds)->sy kindOf binds m x=m x
|[],_,_=>rfl
|(n,v)::r,m,h=>by
 unfold sy;rw[Cz fun w hw=>h w (ai _ hw)];split
 ·rfl
 ·have:x≠n:=by rintro rfl;exact h v aq
  simp[this]
variable{v:Value}
theorem CA:∀{P:List Str}{vs:List Value}{i:Nat}{m:Str->Option Value},P.Nodup->P[i]?=some x->vs[i]?=some v->kindOf x=some .local->
 sj kindOf (P.zip vs) m x=some v
|[],_,_,_,_,h,_,_=>by simp at h
|_::_,[],_,_,_,_,h,_=>by simp at h
|p::P,w::vs,0,m,nd,h1,h2,hk=>by
 simp at h1 h2;subst h1;subst h2;show sj kindOf ((p,w)::P.zip vs) m p=_;unfold sj;rw[Cy fun v hv=>(b7.mp nd).1 (sA hv).1,if_pos hk];simp
|p::P,w::vs,i+1,m,nd,h1,h2,hk=>by
 show sj kindOf ((p,w)::P.zip vs) m x=_;unfold sj;exact CA (i:=i) (b7.mp nd).2 (by simpa using h1) (by simpa using h2) hk
theorem CC:∀{P:List Str}{vs:List Value}{i:Nat}{m:Str->Option Value},P.Nodup->P[i]?=some x->vs[i]?=some v->kindOf x≠some .local->
 sy kindOf (P.zip vs) m x=some v
|[],_,_,_,_,h,_,_=>by simp at h
|_::_,[],_,_,_,_,h,_=>by simp at h
|p::P,w::vs,0,m,nd,h1,h2,hk=>by
 simp at h1 h2;subst h1;subst h2;show sy kindOf ((p,w)::P.zip vs) m p=_;unfold sy;rw[Cz fun v hv=>(b7.mp nd).1 (sA hv).1,if_neg hk];simp
|p::P,w::vs,i+1,m,nd,h1,h2,hk=>by
 show sy kindOf ((p,w)::P.zip vs) m x=_;unfold sy;exact CC (i:=i) (b7.mp nd).2 (by simpa using h1) (by simpa using h2) hk
noncomputable def start(N:List Str)(vs:List V):St:=vs.map some++aB (N.length-vs.length) none
noncomputable def j7(CX:yH)(P:bg)(w:bH)(K:PySem.W.Frag)(mg:Str->Option Value)(base:Heap)(N:List Str)(qual:Str)(scope:eZ)(f:Addr)(cd:Value)(A:cJ)(outer:List Env)(s:ah)(H:Hp)(E:XK):Cx where
 prog:=P
 w:=w
 K:=K
 mg:=mg
 base:=base
 A:=A.deeper (iZ qual scope s.heap.objs.size f cd)
 N:=N
 Ze:=s
 Zp:=H
 env:=iZ qual scope s.heap.objs.size f cd
 outer:=outer
 stack:=iZ qual scope s.heap.objs.size f cd::outer
 ex:=[]
 calm:=true
 fn:=fun _=>true
 pn:=[]
 xe:=fun e s'=>az (aA P w) (A.deeper (iZ qual scope s.heap.objs.size f cd)) (IJ (iZ qual scope s.heap.objs.size f cd) e) (fun _ s''=>CX outer H s E e s'') (fun e' s''=>CX outer H s E e' s'') s'
theorem Eu{sc:eZ}{n:Nat}(h:sc.names.lookup x=some .cell):∃c,(dz n sc.names []).lookup x=some c:=by
 have q:=PySem.W.cellsFrom_some sc.names n [] (.inl h);exact Option.isSome_iff_exists.mp q
variable{qual:Str}{scope:eZ}
theorem KU{N:List Str}{cd:Value}{s1:ah}{E:XK}
  (S:kO N ps scope) (hd:A.handled=none) (e0:zu P w K mg base A outer s H) (hl:vs.length=ps.length) (r:bh vs us)
  (x:InCallC s s.heap.objs.size (sj (iZ qual scope s.heap.objs.size f cd).kindOf (ps.zip us) fun _=>none) (dz (s.heap.objs.size+1) scope.names []) (sy (iZ qual scope s.heap.objs.size f cd).kindOf (ps.zip us) fun _=>none) s1) :
  Inv (j7 CX P w K mg base N qual scope f cd A outer s H E) [] (start N vs) H s1:=by
 have hpl:ps.length<=N.length:=by have:=congrArg Ho S.pre;rw[jS]at this;omega
 obtain⟨h1,tk,rfl,hk⟩:=x.done;have noA:∀b:Addr,b∉(j7 CX P w K mg base N qual scope f cd A outer s H E).ex:=fun b z=>absurd (show b∈([]:List Addr)from z) (by simp);refine⟨⟨e0.mod,S.kind,rfl,rfl,aM _,fun y z c h1 h2=>?_,fun y hy=>?_,fun y c _ h=>?_,fun _=>hd,Around.frames_deeper e0.frames,.inr ⟨rfl,rfl⟩,fun b z=>absurd z (noA b),e0.bs,e0.bsz,fun b _ _=>noA b,fun b z=>absurd z (noA b),e0.mO,e0.frf⟩,
  rfl,e0.bare,Un.kept hk,⟨_,x.toInCall.ns,fun i y v h1 h2 h3=>?_⟩,fun y c h=>⟨_,x.cell y c h⟩,e0.hok.fresh (aM _),fun y c h=>?_,fun p hp=>absurd (show p∈([]:List (Addr×Obj))from hp) (by simp),e0.hok.kept hk,?_⟩
 ·exact name_of_addr x.apart (PySem.mem_of_lookup h1) (PySem.mem_of_lookup h2)
 ·have hy:scope.names.lookup y=some .cell\/scope.names.lookup y=some .free:=hy;rcases hy with hy|hy
  ·exact Eu hy
  ·exact absurd rfl (S.nofree _ (PySem.mem_of_lookup hy))
 ·exact iE (x.above y c (PySem.mem_of_lookup h))
 ·have hi:i<vs.length:=by
   unfold start at h2;by_cases hi:i<vs.length
   ·exact hi
   ·rw[cL (by simpa using hi)]at h2;rw[rF]at h2;split at h2<;>cases h2
  have ha:vs[i]?=some v:=by
   unfold start at h2;rw[eE (by simpa using hi),bL]at h2;cases e:vs[i]? with
   |none=>rw[e]at h2;cases h2
   |some a=>rw[e]at h2;cases h2;rfl
  obtain⟨u,hu,rv⟩:=r.get ha;have hp:ps[i]?=some y:=by
   rw[<-S.pre,List.getElem?_take_of_lt (by omega)];exact h1
  have ndP:ps.Nodup:=by rw[<-S.pre];exact S.nd.sublist (List.take_sublist _ _)
  refine⟨u,rv,?_⟩;rcases S.par y (fU hp)with k|k
  ·exact .inl ⟨k,CA ndP hp hu k⟩
  ·obtain⟨c,e⟩:=Eu (n:=s.heap.objs.size+1) k;refine .inr ⟨.inl k,c,e,?_⟩;have q:=x.cell y c e;rw[CC ndP hp hu (by show scope.names.lookup y≠_;rw[k];decide)]at q;exact q
 ·exact e0.hok.fresh (iE (x.above y c (PySem.mem_of_lookup h)))
 ·unfold start;show _=N.length;rw[ay,aH,gP];omega
theorem Q4{name:Str}{params:Arguments}{body:List Stmt}{dV kV doc pm cdv ct oc:Value}{an od:Option Addr}
  {osl:Array (Option Value)}{N ps:List Str}{sp:Sp} (lk:K.lookup f=some ⟨oc,od,.func (PySem.W.fnOf name qual params body scope dV kV doc pm an cdv ct),osl⟩) (hcd:PySem.W.codeIn K cdv qual=true) (S:kO N ps scope)
  (len:∀vs H Q E,sp vs H Q E->vs.length=ps.length)
  (hbody:∀(A:cJ) (outer:List Env) (s:ah) (H:Hp) (vs:List V) (Q:VK) (E:XK),gy k (A.deeper (iZ qual scope s.heap.objs.size f cdv))->sp vs H Q E->
   ∃t,mP (j7 CX P w K mg base N qual scope f cdv A outer s H E) body t/\t { nx:=fun _ H'=>Q .non H',rt:=Q } (start N vs) H) :
  eV P w K mg base CX (k+1) f (PySem.W.fnOf name qual params body scope dV kV doc pm an cdv ct) ps sp:=by
 refine⟨len,fun A outer s H args us vs Q E hr e0 hb r hsp=>?_⟩;have hl:=len _ _ _ _ hsp;have KX:K.In s.heap:=e0.mod.kin.keeps fun b o e=>(e0.bs b o e).1;have lim:s.heap.NoLimit:=e0.mod.nolimit.keeps fun b o e=>(e0.bs b o e).1;have hkind:∀y∈ps.zip us,scope.names.lookup y.1=some .local\/(scope.names.lookup y.1=some .cell/\((dz (s.heap.objs.size+1) scope.names []).lookup y.1).isSome=true):=fun⟨n,v⟩ hy=>by
  rcases S.par n (sA hy).1 with q|q
  ·exact .inl q
  ·exact .inr ⟨q,PySem.W.cellsFrom_some _ _ _ (.inl q)⟩
 refine codeAny_call_function hr.depth (KX _ _ lk) rfl S.co S.gen rfl (PySem.W.codeRec_of KX hcd) (hb _ _ _ _ ?_);refine wpAny_newFunctionEnv_cells S.kind hkind fun env he s1 x=>?_;subst he;refine⟨lim.keeps x.toInCall.keep,codeAny_func ?_⟩;obtain⟨t,ht,hq⟩:=hbody A outer s H vs Q E (hr.deeper _) hsp;have I:Inv (j7 CX P w K mg base N qual scope f cdv A outer s H E) [] (start N vs) H s1:=KU S hr.hd e0 hl r x;refine cU (ht [] s1 (start N vs) H _ I hq) (fun fl s' hs=>?_) fun e s' hs=>hs;have fin:∀{Zd:St}{H':Hp}{v:V}{u:Value},Inv (j7 CX P w K mg base N qual scope f cdv A outer s H E) [] Zd H' s'->RelV v u->Q v H'->CE outer P w H s Q u s':=
  fun{Zd H' v u} J rv q=>⟨v,H',J.os,J.bare,J.base,J.hok,rv,q⟩
 cases fl with
 |ret u=>
  obtain⟨v,Zd,H',J,rv,q⟩:=hs;exact fin J rv q
 |next=>
  obtain⟨Zd,H',J,q⟩:=hs;exact fin (v:=V.non) (u:=c_) J rfl q
 |brk=>
  obtain⟨_,_,_,q⟩:=hs;exact ak q
 |cont=>
  obtain⟨_,_,_,q⟩:=hs;exact ak q
end L2
end
section
namespace HT
open PySem PyProof.Rows
section
variable{prog:bg}{w:bH}{A:cJ}{E:Value->ah->Prop}{s:ah}
theorem RZ{t b:Addr}{vs ws:List Value}{Q:Value->ah->Prop}(ht:IsTup s.heap t vs.toArray)(hb:IsTup s.heap b ws.toArray)(hv:vs≠[])
  (h1:ws=[]->Q (.ref t) s) (h2:ws≠[]->Q (.ref s.heap.objs.size) { s with heap:=s.heap.push { cls:=.type "tuple",data:=.seq (vs++ws).toArray } })
  (hsz:vs.length+ws.length<=aa):az (aA prog w) A (gn .Add (.ref t) (.ref b)) Q E s:=by
 obtain⟨⟨cls,dd,data,sl⟩,ho,hc,n,hd⟩:=id ht;obtain⟨⟨cls2,dd2,data2,sl2⟩,ho2,hc2,n2,hd2⟩:=id hb;simp only at hc hd hc2 hd2;subst hc hd hc2 hd2;have e:vs.toArray++ws.toArray=(vs++ws).toArray:=by simp
 by_cases hw:ws=[]
 ·exact Gw ⟨_,ho,rfl⟩ ⟨_,ho2,rfl⟩ z8 DV PySem.F.slot_tuple_add PySem.F.entry_tuple_add (PySem.F.args_tuple_add_2 _ _)
   (tuple_addW1 t b vs.toArray ws.toArray n n2 dd dd2 sl sl2 (by simpa using hv) (by simp[hw])) ⟨ho,ho2,h1 hw⟩
 ·refine Gw ⟨_,ho,rfl⟩ ⟨_,ho2,rfl⟩ z8 DV PySem.F.slot_tuple_add PySem.F.entry_tuple_add (PySem.F.args_tuple_add_2 _ _)
   (tuple_addW2 t b vs.toArray ws.toArray n n2 dd dd2 sl sl2 (by simpa using hv) (by simpa using hw) (by rw[aQ,aQ];exact hsz)) ⟨ho,ho2,?_⟩
  rw[e];exact h2 hw
noncomputable def jG(n d:Nat):Option Int->Nat
|none=>d
|some v=>if v<0 then(v+(n:Int)).toNat else min v.toNat n
theorem zw(n d:Nat):jG n d none=d:=rfl
theorem Bw(n d k:Nat):jG n d (some (k:Int))=min k n:=by
 show(if(k:Int)<0 then((k:Int)+(n:Int)).toNat else min (k:Int).toNat n)=min k n;rw[if_neg (by omega),Int.toNat_natCast]
theorem UC(n d:Nat)(hd:d<=n)(o:Option Int):jG n d o<=n:=by
 cases o with
 |none=>exact hd
 |some v=>
  show(if v<0 then(v+(n:Int)).toNat else min v.toNat n)<=n;by_cases hv:v<0
  ·rw[if_pos hv];omega
  ·rw[if_neg hv];exact Nat.min_le_right _ _
end
end HT
namespace L2
open PySem PySem.Spec PyProof.Rows
noncomputable abbrev TO:=St->Hp->(Option Int->Hp->Prop)->Prop
def PO(X:Cx)(e:Option Expr)(t:TO):Prop:=
 ∀(pins:List (Addr×Obj)) (s:ah) (O:St) (H:Hp) (Q:Option Int->Hp->Prop),Inv X pins O H s->t O H Q->
  az (aA X.prog X.w) X.A (evalPart e X.env) (fun u s'=>∃o H',Inv X pins O H' s'/\M4 u o/\Q o H') X.xe s
noncomputable def R0:TO:=fun _ H Q=>Q none H
section
variable{X:Cx}{e:Expr}{te:TE}{lo hi:Option Expr}{tl th:TO}{pos p2:Pos}
theorem R1:PO X none R0:=by
 intro pins s O H Q I h;rw[DW];exact aX ⟨none,H,I,.none,h⟩
def UD(X:Cx)(r:V->Option Int->Option Int->Hp->VK->Prop):Prop:=
 ∀(pins:List (Addr×Obj)) (s:ah) (O:St) (H:Hp) (x:V) (v vl vu:Value) (lo hi:Option Int) (sl:Addr) (Q:VK),Inv X pins O H s->RelV x v->s.heap.IsSliceOf sl vl vu .none->M4 vl lo->M4 vu hi->r x lo hi H Q->
  ∃T id,Kg (.type T) "__getitem__"=pure (some (.builtin id))/\s.TypeIs v T/\az (aA X.prog X.w) X.A (yq v (.ref sl)) (EP X pins O Q) X.xe s
def tSl(r:V->Option Int->Option Int->Hp->VK->Prop)(te:TE)(tl th:TO):TE:=fun O H Q=>te O H fun x H1=>tl O H1 fun l H2=>th O H2 fun u H3=>r x l u H3 Q
theorem NB{r:V->Option Int->Option Int->Hp->VK->Prop}(hr:UD X r)(he:PE X e te)(hl:PO X lo tl)(hu:PO X hi th):PE X (.Subscript e (.Slice lo hi none p2) pos) (tSl r te tl th):=by
 intro pins s O H Q I h;refine Ba (aR (he pins s O H _ I h) fun v s1 ⟨x,H1,I1,r1,q1⟩=>?_);refine Hq (aR (hl pins s1 O H1 _ I1 q1) fun vl s2 ⟨l,H2,I2,pl,q2⟩=>aR (hu pins s2 O H2 _ I2 q2) fun vu s3 ⟨u,H3,I3,pu,q3⟩=>?_);rw[DW];refine aX ?_;have I4:Inv X pins O H3 { s3 with heap:=s3.heap.push { cls:=.type "slice",data:=.fields #[vl,vu,.none] } }:=I3.kept (t':=s3.toks) fun b ob q=>aF _ q;obtain⟨T,id,hT,ht,hg⟩:=hr pins { s3 with heap:=s3.heap.push { cls:=.type "slice",data:=.fields #[vl,vu,.none] } } O H3 x v vl vu l u s3.heap.objs.size Q I4 r1 (xH ..) pl pu q3;show az (aA X.prog X.w) X.A (lV e (.Slice lo hi none p2) v (.ref s3.heap.objs.size)) (EP X pins O Q) X.xe { s3 with heap:=s3.heap.push { cls:=.type "slice",data:=.fields #[vl,vu,.none] } };exact Gx (ops:=[.ref s3.heap.objs.size,v]) ht hT hg (by with_unfolding_all rfl)
noncomputable def IZ(xs:List V)(lo hi:Option Int):List V:=(xs.drop (HT.jG xs.length 0 lo)).take (HT.jG xs.length xs.length hi-HT.jG xs.length 0 lo)
theorem GQ(xs:List V)(lo hi:Option Int):(IZ xs lo hi).length<=xs.length:=by
 unfold IZ;rw[jS,fC];omega
noncomputable def Wu(K:PySem.W.Frag):R2:=fun x y H Q=>∃a b xs ys,x=.ref a/\y=.ref b/\pH K H a xs/\pH K H b ys/\xs≠[]/\xs.length+ys.length<=aa /\
 (ys=[]->Q (.ref a) H)/\(ys≠[]->∀p,H p=none->Q (.ref p) (upd H p (.tup (xs++ys))))
theorem bh.Bx{xs:List V}{us:List Value}(r:bh xs us):us=[]↔xs=[]:=by
 cases r with
 |nil=>simp
 |cons _ _=>simp
theorem R3:iT X (gn .Add) (Wu X.K):=by
 intro pins s O H x y v u Q I rx ry h;obtain⟨a,b,xs,ys,rfl,rfl,ha,hb,hx,hz,q1,q2⟩:=h;cases rx;cases ry;obtain⟨its,r1,p1,_⟩:=I.tuple ha;obtain⟨its2,r2,p2,_⟩:=I.tuple hb;refine HT.RZ p1 p2 (fun z=>hx (r1.Bx.mp z)) (fun z=>⟨.ref a,H,I,rfl,q1 (r2.Bx.mp z)⟩) (fun z=>?_) (by rw[<-r1.length,<-r2.length];exact hz);refine⟨.ref s.heap.objs.size,_,I.laid (t':=s.toks) (o:=.tup (xs++ys)) (fun b ob q=>aF _ q) (aM _) ?_,rfl,q2 (fun w=>z (r2.Bx.mpr w)) _ (I.hok.fresh (aM _))⟩;exact⟨by rw[ay];exact hz,_,r1.append r2,IsTup.new _ _⟩
end
end L2
namespace L2
open PySem PySem.Spec PyProof.Rows
noncomputable def gH(n:Nat)(i:Int):Option Nat:=if 0<=i then(if i<n then some i.toNat else none)else if -(n:Int)<=i then some (i+n).toNat else none
noncomputable def fh{α:Type}(xs:List α)(i:Int):Option α:=(gH xs.length i).bind fun j=>xs[j]?
variable{n j:Nat}{i:Int}
theorem HC(h:gH n i=some j):seqIndex? i n=some j/\j<n/\-(n:Int)<=i/\i<n:=by
 unfold gH at h;by_cases h0:0<=i
 ·rw[if_pos h0]at h;by_cases h1:i<n
  ·rw[if_pos h1]at h;have e:i.toNat=j:=cH h;exact⟨by rw[zm h0 h1,e],by omega,by omega,h1⟩
  ·rw[if_neg h1]at h;cases h
 ·rw[if_neg h0]at h;by_cases h1:-(n:Int)<=i
  ·rw[if_pos h1]at h;have e:(i+n).toNat=j:=cH h;exact⟨by rw[xJ (by omega) h1,e],by omega,h1,by omega⟩
  ·rw[if_neg h1]at h;cases h
variable{α:Type}
theorem qp{xs:List α}{v:α}(h:fh xs i=some v):∃j,seqIndex? i xs.length=some j/\xs[j]?=some v/\j<xs.length/\-(xs.length:Int)<=i/\i<xs.length:=by
 unfold fh at h;cases e:gH xs.length i with
 |none=>rw[e]at h;cases h
 |some j=>
  rw[e]at h;obtain⟨h1,h2,h3,h4⟩:=HC e;exact⟨j,h1,h,h2,h3,h4⟩
theorem kP{xs:List α}{v:α}(h:xs[j]?=some v):fh xs (j:Int)=some v:=by
 have hj:j<xs.length:=(bN.mp h).1;have e:gH xs.length (j:Int)=some j:=by
  unfold gH;rw[if_pos (by omega),if_pos (by omega)];simp
 unfold fh;rw[e];exact h
def HD(b:Expr):Prop:=∀o i,tM b false o i=operate [o,i] (yq o i)
def Ew(X:Cx)(r:R2):Prop:=
 ∀(value slice:Expr) (pins:List (Addr×Obj)) (s:ah) (O:St) (H:Hp) (x y:V) (v u:Value) (Q:VK),Inv X pins O H s->RelV x v->RelV y u->r x y H Q->
  tM slice false v u=operate [v,u] (yq v u)->az (aA X.prog X.w) X.A (lV value slice v u) (EP X pins O Q) X.xe s
def MtR(X:Cx)(id:String)(r:V->List V->Hp->VK->Prop):Prop:=
 ∀(pins:List (Addr×Obj)) (s:ah) (O:St) (H:Hp) (x:V) (xs:List V) (v:Value) (us:List Value) (Q:VK),Inv X pins O H s->RelV x v->bh xs us->r x xs H Q->
  az (aA X.prog X.w) X.A (call (.builtin id) (v::us)) (EP X pins O Q) X.xe s
variable{pins:List (Addr×Obj)}{O:St}{H:Hp}{s:ah}
section
variable{X:Cx}{a b:Expr}{ta tb:TE}{pos:Pos}
theorem Wv{r:R2}(hr:Ew X r)(ha:PE X a ta)(hb:PE X b tb)(hs:HD b):PE X (.Subscript a b pos) (Up r ta tb):=by
 intro pins s O H Q I h;exact Ba (Nv ha hb I h fun v u s2 x y H2 I2 rx ry q=>hr a b pins s2 O H2 x y v u Q I2 rx ry q (hs _ _))
noncomputable def Yd(K:PySem.W.Frag):R2:=fun x y H Q=>∃p xs i v,x=.ref p/\y=.int i/\gf K H p xs/\fh xs i=some v/\Q v H
noncomputable def Ye(K:PySem.W.Frag):R2:=fun x y H Q=>∃p xs i v,x=.ref p/\y=.int i/\pH K H p xs/\fh xs i=some v/\Q v H
noncomputable def Yg:R2:=fun x y H Q=>∃z i c,x=.str z/\y=.int i/\z.length<=aa/\fh z.cps.toList i=some c/\Q (.str ⟨#[c]⟩) H
theorem R4:Ew X (Yd X.K):=by
 intro value slice pins s O H x y v u Q I rx ry h hs;obtain⟨p,xs,i,z,rfl,rfl,hq,he,q⟩:=h;cases rx;obtain⟨t,rfl⟩:=ry;obtain⟨its,r,pl,hz⟩:=I.list hq;obtain⟨j,h1,h2,h3,h4,h5⟩:=qp he;obtain⟨w,ew,rw'⟩:=r.get h2;have hl:=r.length;have hn:=qJ;have fin:EP X pins O Q w s:=⟨z,H,I,rw',q⟩;by_cases h0:0<=i
 ·have hj:i.toNat=j:=by
   rw[zm h0 h5]at h1;exact cH h1
  exact item_listR pl.isList h0 (by omega) (by rw[hj];simpa using ew) fin hs
 ·have hj:(i+(its.toArray.size:Int)).toNat=j:=by
   rw[xJ (by omega) h4]at h1;rw[aQ,<-hl];exact cH h1
  exact tN (x:=w) pl.isList.typeIs pP.lookup
   (wpAny_getItem_list_neg (Q:=fun r s'=>r=w/\EP X pins O Q r s') pl.isList (by omega) (by rw[aQ]<;>omega) (by omega) (by rw[hj];simpa using ew) ⟨rfl,fin⟩) hs
theorem UE:Ew X (Ye X.K):=by
 intro value slice pins s O H x y v u Q I rx ry h hs;obtain⟨p,xs,i,z,rfl,rfl,hq,he,q⟩:=h;cases rx;obtain⟨t,rfl⟩:=ry;obtain⟨its,r,pl,hz⟩:=I.tuple hq;obtain⟨j,h1,h2,h3,h4,h5⟩:=qp he;obtain⟨w,ew,rw'⟩:=r.get h2;have hl:=r.length;have hn:=qJ;have fin:EP X pins O Q w s:=⟨z,H,I,rw',q⟩;exact tN (x:=w) pl.typeIs xK.lookup
  (getItem_tuple (j:=j) (Q:=fun r s'=>r=w/\EP X pins O Q r s') pl (by omega) (by omega) (by rw[aQ,<-hl];exact h1) (by simpa using ew) ⟨rfl,fin⟩) hs
theorem UG:Ew X Yg:=by
 intro value slice pins s O H x y v u Q I rx ry h hs;obtain⟨z,i,c,rfl,rfl,hz,he,q⟩:=h;obtain⟨t,rfl⟩:=rx;obtain⟨t',rfl⟩:=ry;obtain⟨j,h1,h2,h3,h4,h5⟩:=qp he;have hl:z.cps.toList.length=z.length:=by simp[fB]
 rw[hl]at h1 h4 h5;have hn:=qJ;exact Gx (gx s z t) z9.lookup (getItem_str (c:=c) (by
  have e1:decide (i < -(2 ^ 63:Int))=false:=decide_eq_false (by omega);have e2:decide (i≥2 ^ 63)=false:=decide_eq_false (by omega);rw[e1,e2,Bool.or_false]) (by rw[h1];simpa using h2) ⟨.str ⟨#[c]⟩,H,I.tok _,⟨_,rfl⟩,q⟩) hs
theorem I_(its:List Value)(n j:Nat)(u:Value):jT (·.setIfInBounds j u) { cls:=.type "list",data:=.seq its.toArray n }={ cls:=.type "list",data:=.seq (its.set j u).toArray n }:=by
 simp[jT]
theorem Inv.lst{pins:List (Addr×Obj)}{O:St}{H:Hp}{s:ah}{p:Addr}{xs:List V}(I:Inv X pins O H s)(h:H p=some (.lst xs)) :
  ∃(its:List Value) (n:Nat),bh xs its/\s.heap.get? p=some { cls:=.type "list",data:=.seq its.toArray n }/\xs.length<=aa:=by
 obtain⟨z,its,n,r,e⟩:=I.hok p _ h;exact⟨its,n,r,e,z⟩
theorem Inv.UH{p:Addr}{xs ys:List V}{its its':List Value}{n':Nat}{f:Obj->Obj}(I:Inv X pins O H s)(h:H p=some (.lst xs))
  (ho:s.heap.get? p=some { cls:=.type "list",data:=.seq its.toArray n }) (hf:f { cls:=.type "list",data:=.seq its.toArray n }={ cls:=.type "list",data:=.seq its'.toArray n' }) (r:bh ys its') (hz:ys.length<=aa) (t:Nat) :
  Inv X pins O (upd H p (.lst ys)) { s with heap:=s.heap.update p f,toks:=t }:=by
 have e:(s.heap.update p f).get? p=some { cls:=.type "list",data:=.seq its'.toArray n' }:=by
  rw[mL f ho (by rw[hf]<;>rfl),hf]
 refine I.write (x:=p) (e:=p) (by rw[h];trivial) (.inl rfl) (fun b u hb q=>(dZ _ _ (cK hb)).trans q) ⟨_,e⟩ ?_;exact⟨hz,its',n',r,e⟩
def Ww:V->V->V->Hp->(Hp->Prop)->Prop:=fun o i v H Q=>∃p xs k j,o=.ref p/\i=.int k/\H p=some (.lst xs)/\gH xs.length k=some j/\Q (upd H p (.lst (xs.set j v)))
theorem set_list:Nq X Ww:=by
 intro pins s O H o i v ov iv u Q I ro ri rv h;obtain⟨p,xs,k,j,rfl,rfl,hp,hj,q⟩:=h;cases ro;obtain⟨t,rfl⟩:=ri;obtain⟨its,n,r,ho,hz⟩:=I.lst hp;obtain⟨h1,h2,h3,h4⟩:=HC hj;have hl:=r.length;have hn:=qJ;have I':Inv X pins O (upd H p (.lst (xs.set j v))) { s with heap:=s.heap.update p (jT (·.setIfInBounds j u)) }:=
  I.UH hp ho (I_ its n j u) (r.set rv j) (by rw[Bb];exact hz) s.toks
 by_cases h0:0<=k
 ·have hk:k.toNat=j:=by
   rw[zm h0 h4]at h1;exact cH h1
  exact PySem.W.ki_setAt ho h0 (by omega) (by rw[aQ,<-hl];exact h4) (by rw[hk];exact⟨_,I',q⟩)
 ·have hk:(k+(its.toArray.size:Int)).toNat=j:=by
   rw[xJ (by omega) h3]at h1;rw[aQ,<-hl];exact cH h1
  exact PySem.W.ki_setBack ho (by omega) (by rw[aQ,<-hl];exact h3) (by omega) (by rw[hk];exact⟨_,I',q⟩)
theorem Ey(lo hi:Option Int)(n:Nat):(eS lo hi none n).1=((HT.jG n 0 lo:Nat):Int)/\(eS lo hi none n).2.1=((HT.jG n n hi:Nat):Int)/\(eS lo hi none n).2.2=1:=by
 refine⟨?_,?_,rfl⟩
 ·cases lo with
  |none=>simp[eS,HT.jG]
  |some i=>
   simp only[eS,HT.jG,z_,show(1:Int)>0 by decide,if_true];by_cases h:i<0
   ·simp only[h,if_true]<;>omega
   ·simp only[h,if_false]<;>omega
 ·cases hi with
  |none=>simp[eS,HT.jG]
  |some i=>
   simp only[eS,HT.jG,z_,show(1:Int)>0 by decide,if_true];by_cases h:i<0
   ·simp only[h,if_true]<;>omega
   ·simp only[h,if_false]<;>omega
theorem DG(its:List Value)(lo hi:Option Int):xM its.toArray lo hi none=((its.drop (HT.jG its.length 0 lo)).take (HT.jG its.length its.length hi-HT.jG its.length 0 lo)).toArray:=by
 obtain⟨h1,h2,h3⟩:=Ey lo hi its.toArray.size;unfold xM;rw[h1,h2,h3];simp only[sliceRange_one,pick_run,aQ]<;>rfl
def Yh(K:PySem.W.Frag):V->Option Int->Option Int->Hp->VK->Prop:=fun x lo hi H Q=>∃a xs,x=.ref a/\gf K H a xs/\∀p,H p=none->Q (.ref p) (upd H p (.lst (IZ xs lo hi)))
theorem R5:UD X (Yh X.K):=by
 intro pins s O H x v vl vu lo hi sl Q I rx hs pl pu h;obtain⟨a,xs,rfl,hx,q⟩:=h;cases rx;obtain⟨its,r,ht,hz⟩:=I.list hx;have hlen:=r.length;refine⟨"list",_,pP.lookup,ht.isList.typeIs,?_⟩;refine rq ht.isList hs pl pu .none (by simp) ?_ (by rw[aQ]<;>omega);rw[DG,<-hlen];refine⟨.ref s.heap.objs.size,_,I.laid (t':=s.toks) (o:=.lst (IZ xs lo hi)) (fun b ob q=>aF _ q) (aM _) ?_,rfl,q _ (I.hok.fresh (aM _))⟩;exact⟨dH (GQ xs lo hi) hz,_,0,(r.drop (HT.jG xs.length 0 lo)).take (HT.jG xs.length xs.length hi-HT.jG xs.length 0 lo),bu _ rfl⟩
theorem Ez:ou X (.builtin "len") (fun xs H Q=>∃p ys,xs=[.ref p]/\(gf X.K H p ys\/pH X.K H p ys)/\Q (.int ys.length) H):=by
 intro pins s O H xs us Q I r h;obtain⟨p,ys,rfl,hq,q⟩:=h;obtain⟨u,rfl,rx⟩:=vals1 r;cases rx;have hn:=qJ;rcases hq with hq|hq
 ·obtain⟨its,r',pl,hz⟩:=I.list hq;have hlen:=r'.length;exact Calls.call_len_list pl.isList (by simp only[aQ]<;>omega) ⟨.int ys.length,H,I.tok _,⟨s.toks+1,by rw[aQ,hlen]⟩,q⟩
 ·obtain⟨its,r',pl,hz⟩:=I.tuple hq;have hlen:=r'.length;exact len_tuple pl (by simp only[aQ]<;>omega) ⟨.int ys.length,H,I.tok _,⟨s.toks+1,by rw[aQ,hlen]⟩,q⟩
theorem EA:ou X (.builtin "len") (fun xs H Q=>∃z,xs=[.str z]/\z.length<=aa/\Q (.int z.length) H):=by
 intro pins s O H xs us Q I r h;obtain⟨z,rfl,hz,q⟩:=h;obtain⟨u,rfl,t,rfl⟩:=vals1 r;have hn:=qJ;exact len_str (by omega) ⟨.int z.length,H,I.tok _,⟨_,rfl⟩,q⟩
def rH(K:PySem.W.Frag)(T:String)(x:V)(H:Hp):Prop:=match x with
|.str _=>T="str"
|.int _=>T="int"
|.ref p=>(T="list"/\∃xs,gf K H p xs)\/(T="tuple"/\∃o,K.lookup p=some o/\o.cls=.type "tuple"/\o.dict=none) \/
  (T="dict"/\((∃kvs,H p=some (.dK kvs))\/∃kvs,H p=some (.dT kvs)))\/(T="set"/\∃S n,H p=some (.set S n))
|_=>False
theorem Al{x:V}{v:Value}(I:Inv X pins O H s)(r:RelV x v)(ty:rH X.K T x H) :
  s.TypeIs v T/\∀a,v=.ref a->∃ob,s.heap.get? a=some ob/\ob.dict=none:=by
 cases x with
 |str z=>
  obtain⟨t,rfl⟩:=r;cases(show T="str" from ty);exact⟨gx s z t,fun _ e=>nomatch e⟩
 |int i=>
  obtain⟨t,rfl⟩:=r;cases(show T="int" from ty);exact⟨Bc s i t,fun _ e=>nomatch e⟩
 |ref p=>
  cases r;rcases ty with⟨rfl,xs,hq⟩|⟨rfl,o,hk,hc,hd⟩|⟨rfl,hk⟩|⟨rfl,S,n,hk⟩
  ·obtain⟨its,_,pl,_⟩:=I.list hq;refine⟨pl.isList.typeIs,fun a e=>?_⟩;cases e;obtain⟨o,n,e,c,hd,_⟩:=pl;exact⟨o,e,hd⟩
  ·refine⟨⟨o,I.fK p o hk,hc⟩,fun a e=>?_⟩;cases e;exact⟨o,I.fK _ o hk,hd⟩
  ·have z:∃o,s.heap.get? p=some o/\o.ExactDict:=by
    rcases hk with⟨kvs,hk⟩|⟨kvs,hk⟩
    ·obtain⟨_,_,_,_,o,_,_,e,ex,_⟩:=I.hok p _ hk;exact⟨o,e,ex⟩
    ·obtain⟨_,_,_,_,o,_,_,e,ex,_⟩:=I.hok p _ hk;exact⟨o,e,ex⟩
   obtain⟨o,e,ex⟩:=z;refine⟨⟨o,e,ex.1⟩,fun a e2=>?_⟩;cases e2;exact⟨o,e,ex.2.1⟩
  ·obtain⟨o,_,_,_,e,ex,_⟩:=I.hok p _ hk;refine⟨⟨o,e,ex.1⟩,fun a e2=>?_⟩;cases e2;exact⟨o,e,ex.2.1⟩
 |_=>exact ak ty
variable{o e:Expr}{es:List Expr}{to:TE}{t:TA}{name:Str}{apos cpos:Pos}{T id:String}{r:V->List V->Hp->VK->Prop}
end
end L2
namespace L2
open PySem PySem.Spec PyProof.Rows
def Xx(X:Cx)(id:String)(r:V->List V->Hp->VK->Prop):Prop:=
 ∀(pins:List (Addr×Obj)) (s:ah) (O:St) (H:Hp) (x:V) (xs:List V) (v:Value) (us:List Value) (Q:VK),Inv X pins O H s->RelV x v->bh xs us->r x xs H Q->
  az (aA X.prog X.w) X.A (call (.builtin id) (v::us)) (EP X pins O Q) X.xe s
theorem bh.one:∀{x:V}{us:List Value},bh [x] us->∃u,us=[u]/\RelV x u
|_,_,.cons r .nil=>⟨_,rfl,r⟩
theorem bh.rep{xs:List V}{us:List Value}(h:bh xs us):∀k:Nat,bh (aB k xs).flatten (aB k us).flatten
|0=>.nil
|k+1=>by
 rw[bM,bM,cB,cB];exact bh.append h (bh.rep h k)
theorem foldl_rep(its:List Value):∀(k:Nat) (acc:List Value),
 Bd (fun x1 x2=>x1++x2) acc.toArray (aB k its.toArray)=(acc++(aB k its).flatten).toArray
|0,acc=>by simp
|k+1,acc=>by
 have e:acc.toArray++its.toArray=(acc++its).toArray:=by simp
 have e2:(acc++its)++(aB k its).flatten=acc++(aB (k+1) its).flatten:=by
  rw[bM,cB,br]
 rw[<-e2,<-foldl_rep its k (acc++its),<-e,bM,Be]
variable{its:List Value}{n t':Nat}
section
variable{X:Cx}{pins:List (Addr×Obj)}{O:St}{H:Hp}{s:ah}{l b:Addr}{xs ys zs:List V}
theorem Inv.UI{its':List Value}{f:Array Value->Array Value}(I:Inv X pins O H s)(hH:H l=some (.lst xs))
  (e:s.heap.get? l=some { cls:=.type "list",data:=.seq its.toArray n }) (hf:f its.toArray=its'.toArray) (hv:bh ys its') (hz:ys.length<=aa) :
  Inv X pins O (upd H l (.lst ys)) { s with heap:=s.heap.update l (jT f),toks:=t' }:=by
 have q:=PySem.IsL.update e f;rw[hf]at q;refine I.write (x:=l) (e:=l) (by rw[hH];exact trivial) (.inl rfl) (fun b' u hb hu=>(dZ s.heap (jT f) (cK hb)).trans hu) ⟨_,q⟩ ?_;exact⟨hz,its',_,hv,q⟩
theorem Inv.Ja(I:Inv X pins O H s)(hv:bh ys its)(hz:ys.length<=aa) :
  Inv X pins O (upd H s.heap.objs.size (.lst ys)) { s with heap:=s.heap.push { cls:=.type "list",data:=.seq its.toArray },toks:=t' }:=
 I.laid (fun _ _ q=>aF _ q) (aM _) ⟨hz,its,0,hv,bu _ rfl⟩
theorem Inv.fresh(I:Inv X pins O H s):H s.heap.objs.size=none:=I.hok.fresh (aM _)
theorem Inv.NC(I:Inv X pins O H s)(hH:H l=some (.lst xs)):xs.length<=aa/\∃(its:List Value) (n:Nat),bh xs its/\xs.length=its.length/\s.heap.get? l=some { cls:=.type "list",data:=.seq its.toArray n }:=by
 obtain⟨z,its,n,r,e⟩:=I.hok l _ hH;exact⟨z,its,n,r,r.length,e⟩
theorem EB(h:n<=aa):iH n=false:=by
 unfold iH;exact decide_eq_false (by omega)
end
section
variable{X:Cx}
def R6:V->List V->Hp->VK->Prop:=fun x vs H Q=>∃l xs y,x=.ref l/\vs=[y]/\H l=some (.lst xs)/\xs.length<aa/\Q .non (upd H l (.lst (xs++[y])))
theorem KW:Xx X "list.append" R6:=by
 intro pins s O H x vs v us Q I rx rv h;obtain⟨l,xs,y,rfl,rfl,hH,hz,q⟩:=h;cases rx;obtain⟨u,rfl,ru⟩:=rv.one;obtain⟨z,its,n,r,hl,e⟩:=I.NC hH;refine fV F.slot_list_append ⟨_,e,rfl⟩ F.entry_list_append (F.args_list_append_2 _ _) (PySem.list_append l its.toArray n u (by rw[aQ];omega)) ⟨e,?_⟩;refine⟨.non,_,I.UI (its':=its++[u]) hH e (by simp) (r.append (.cons ru .nil)) ?_,rfl,q⟩;rw[ay,cg];omega
def R7:V->List V->Hp->VK->Prop:=fun x vs H Q=>∃l b xs zs,x=.ref l/\vs=[.ref b]/\H l=some (.lst xs)/\H b=some (.lst zs)/\xs.length+zs.length<=aa/\Q .non (upd H l (.lst (xs++zs)))
theorem KY:Xx X "list.extend" R7:=by
 intro pins s O H x vs v us Q I rx rv h;obtain⟨l,b,xs,zs,rfl,rfl,hH,hB,hz,q⟩:=h;cases rx;obtain⟨u,rfl,ru⟩:=rv.one;cases ru;obtain⟨z,its,n,r,hl,e⟩:=I.NC hH;obtain⟨z2,its2,n2,r2,hl2,e2⟩:=I.NC hB;have hsz:its.toArray.size+its2.toArray.size<=aa:=by rw[aQ,aQ];omega
 have hlong:¬(!its.toArray.isEmpty&&iH (its.toArray.size+its2.toArray.size))=true:=by
  rw[EB hsz,om];exact aE
 refine fV F.slot_list_extend ⟨_,e,rfl⟩ F.entry_list_extend (F.args_list_extend_2 _ _)
  (Aa l its.toArray n b its2.toArray n2 hlong (by rw[aQ];omega) (by omega)) ⟨e,e2,?_⟩
 refine⟨.non,_,I.UI (its':=its++its2) hH e (by simp) (r.append r2) ?_,rfl,q⟩;rw[ay];omega
theorem len_rep{α:Type}(xs:List α)(k:Nat):(aB k xs).flatten.length=k*xs.length:=by
 induction k with
 |zero=>simp
 |succ k ih=>rw[bM,cB,ay,ih,xN,xO]
end
end L2
end
section
namespace L2
open PySem PySem.Spec PyProof.Rows
variable{o:Option V}
variable{y:V}{u:Value}
section
variable{κ:Type} [DecidableEq κ]
noncomputable def jK(kvs:List (κ×V))(k:κ):Option V:=(kvs.find? fun kv=>decide (kv.1=k)).map (·.2)
noncomputable def putK(kvs:List (κ×V))(k:κ)(v:V):List (κ×V):=
 if(kvs.any fun kv=>decide (kv.1=k))=true then kvs.map (fun kv=>if kv.1=k then(kv.1,v)else kv)else kvs++[(k,v)]
theorem zx{p:κ×V}{r:List (κ×V)}{k:κ}(e:p.1=k):jK (p::r) k=some p.2:=by simp[jK,i9,e]
theorem zy{p:κ×V}{r:List (κ×V)}{k:κ}(e:¬p.1=k):jK (p::r) k=jK r k:=by simp[jK,i9,e]
theorem EC(k:κ):∀kvs:List (κ×V),(kvs.any fun kv=>decide (kv.1=k))=(jK kvs k).isSome
|[]=>rfl
|p::r=>by
 rw[lW];by_cases e:p.1=k
 ·simp only[zx e,decide_eq_true e,Gy,xP]
 ·rw[zy e,decide_eq_false e,Bool.false_or];exact EC k r
theorem yI(kvs:List (κ×V))(k:κ)(v:V):(putK kvs k v).length<=kvs.length+1:=by
 unfold putK;split
 ·rw[aH];omega
 ·rw[ay,aN,fW];omega
theorem ki.oK{u:Option Value}(r:ki o u):o.isSome=u.isSome:=by
 cases o with
 |none=>cases u with
  |none=>rfl
  |some _=>exact(show False from r).elim
 |some _=>cases u with
  |none=>exact(show False from r).elim
  |some _=>rfl
theorem KV.val{kvs:List (κ×V)}{vs:List (κ×Value)}(r:KV kvs vs)(k:κ):ki (jK kvs k) (qH vs k):=by
 unfold KV at r;induction r with
 |nil=>exact dS
 |@cons p q ps qs h t ih=>
  obtain⟨h1,h2⟩:=h;by_cases e:p.1=k
  ·have e':q.1=k:=h1.symm.trans e;have b:qH (q::qs) k=some q.2:=by simp[qH,i9,e']
   rw[zx e,b];exact h2
  ·have e':¬q.1=k:=fun z=>e (h1.trans z);have b:qH (q::qs) k=qH qs k:=by simp[qH,i9,e']
   rw[zy e,b];exact ih
theorem KV.any{kvs:List (κ×V)}{vs:List (κ×Value)}(r:KV kvs vs)(k:κ):(kvs.any fun kv=>decide (kv.1=k))=vs.any fun kv=>decide (kv.1=k):=by
 unfold KV at r;induction r with
 |nil=>rfl
 |cons h t ih=>rw[lW,lW,ih,h.1]
theorem KV.repl{kvs:List (κ×V)}{vs:List (κ×Value)}(r:KV kvs vs)(k:κ)(ry:RelV y u) :
  KV (kvs.map fun kv=>if kv.1=k then(kv.1,y)else kv) (vs.map fun kv=>if kv.1=k then(kv.1,u)else kv):=by
 unfold KV at r ⊢;induction r with
 |nil=>exact .nil
 |@cons p q ps qs h t ih=>
  rw[dG,dG];refine .cons ?_ ih;obtain⟨h1,h2⟩:=h;by_cases e:p.1=k
  ·rw[if_pos e,if_pos (h1.symm.trans e)];exact⟨h1,ry⟩
  ·rw[if_neg e,if_neg (fun z=>e (h1.trans z))];exact⟨h1,h2⟩
theorem KV.put{kvs:List (κ×V)}{vs:List (κ×Value)}(r:KV kvs vs)(k:κ)(ry:RelV y u):KV (putK kvs k y) (stored vs k u):=by
 unfold putK stored;rw[r.any k];by_cases e:(vs.any fun kv=>decide (kv.1=k))=true
 ·rw[if_pos e,if_pos e];exact r.repl k ry
 ·rw[if_neg e,if_neg e];exact Paired.snoc r ⟨rfl,ry⟩
theorem KV.length{kvs:List (κ×V)}{vs:List (κ×Value)}(r:KV kvs vs):kvs.length=vs.length:=Paired.length r
end
variable{P:bg}{w:bH}
theorem xX{k:Key}(r:RelV (kV k) u):(gj P w).is k u=true:=by
 cases k with
 |inl i=>obtain⟨t,e⟩:=(show ∃t,u=r_ i t from r);subst e;exact yE P w i t
 |inr x=>obtain⟨t,e⟩:=(show ∃t,u=sd x t from r);subst e;exact yF P w x t
theorem CF:∀{ks:List Key}{us:List Value},bh (ks.map kV) us->ItemsAre (gj P w) ks us
|[],_,r=>by rw[Gz]at r;cases r;exact .nil
|k::ks,_,r=>by
 rw[dG]at r;cases r with
 |cons h t=>exact .cons (xX h) (CF t)
abbrev KT(H:Hp):List (List Key×V)->List (List Key×Addr×Value)->Prop:=Paired fun p q=>p.1=q.1/\H q.2.1=some (.tup (p.1.map kV))/\RelV p.2 q.2.2
variable{H:Hp}{kvs:List (List Key×V)}{xs:List (List Key×Addr×Value)}
theorem KT.val(r:KT H kvs xs)(k:List Key):ki (jK kvs k) ((sC xs k).map (·.2)):=by
 induction r with
 |nil=>exact dS
 |@cons p q ps qs h t ih=>
  obtain⟨h1,_,h2⟩:=h;by_cases e:p.1=k
  ·have e':q.1=k:=h1.symm.trans e;have b:sC (q::qs) k=some q.2:=by simp[sC,i9,e']
   rw[zx e,b];exact h2
  ·have e':¬q.1=k:=fun z=>e (h1.trans z);have b:sC (q::qs) k=sC qs k:=by simp[sC,i9,e']
   rw[zy e,b];exact ih
theorem KT.repl(r:KT H kvs xs)(k:List Key)(ry:RelV y u) :
  KT H (kvs.map fun kv=>if kv.1=k then(kv.1,y)else kv) (xs.map (putAt k u)):=by
 induction r with
 |nil=>exact .nil
 |@cons p q ps qs h t ih=>
  rw[dG,dG];refine .cons ?_ ih;obtain⟨h1,h2,h3⟩:=h;unfold putAt;by_cases e:p.1=k
  ·rw[if_pos e,if_pos (h1.symm.trans e)];exact⟨h1,h2,ry⟩
  ·rw[if_neg e,if_neg (fun z=>e (h1.trans z))];exact⟨h1,h2,h3⟩
theorem KT.put(r:KT H kvs xs)(k:List Key){b:Addr}(hb:H b=some (.tup (k.map kV)))(ry:RelV y u) :
  KT H (putK kvs k y) (storedH xs k b u):=by
 have e:(kvs.any fun kv=>decide (kv.1=k))=(sC xs k).isSome:=by
  rw[EC,(r.val k).oK,pQ]
 unfold putK storedH;rw[e];by_cases q:(sC xs k).isSome=true
 ·rw[if_pos q,if_pos q];exact r.repl k ry
 ·rw[if_neg q,if_neg q];exact Paired.snoc r ⟨rfl,hb,ry⟩
variable{H':Hp}
theorem KT.keeps(r:KT H kvs xs)(ht:∀b ys,H b=some (.tup ys)->H' b=some (.tup ys)):KT H' kvs xs:=
 Paired.Ni r fun _ _ z=>⟨z.1,ht _ _ z.2.1,z.2.2⟩
section
variable{P:bg}{w:bH}{H:Hp}{h:Heap}{a:Addr}
theorem Q5{u:HO}(ok:eY P w H h)(e:Rd H a u):dP P w H h a u:=e.ok ok
theorem xY{kvs:List (Key×V)}(ok:eY P w H h)(e:Rd H a (.dK kvs)):kvs.length<=aa/\(a==jR)=false/\∃vs,KV kvs vs/\h.DictOf (gj P w) a vs:=
 show dP P w H h a (.dK kvs)from Q5 ok e
theorem Wx{kvs:List (Key×V)}(ok:eY P w H h)(e:H a=some (.dK kvs)):kvs.length<=aa/\(a==jR)=false/\∃vs,KV kvs vs/\h.DictOf (gj P w) a vs:=xY ok (.inl e)
theorem vW{ks:List Key}(ok:eY P w H h)(e:H a=some (.tup (ks.map kV))):(se (gj P w)).is h ks a:=by
 obtain⟨_,its,r,o,h1,h2,n,h3⟩:=(show dP P w H h a (.tup (ks.map kV))from ok a _ e);exact⟨o,its.toArray,n,h1,h2,h3,by simpa using CF r⟩
theorem Am(ok:eY P w H h)(e:Rd H a (.dT kvs)):kvs.length<=aa/\(a==jR)=false /\
  ∃xs,KT H kvs xs/\h.DictOfH (se (gj P w)) a xs:=by
 obtain⟨z,y,xs,r,o,es,ep,h1,h2,h3,h4,h5⟩:=(show dP P w H h a (.dT kvs)from Q5 ok e);refine⟨z,y,xs,r,o,es,ep,h1,h2,h3,h4,fun x hx=>?_,h5⟩;have all:∀{l:List (List Key×V)}{m:List (List Key×Addr×Value)},KT H l m->∀x∈m,(se (gj P w)).is h x.1 x.2.1:=by
  intro l m q;induction q with
  |nil=>intro x hx;exact nomatch hx
  |@cons p q ps qs hq t ih=>
   intro x hx;rcases aJ.mp hx with e|hx
   ·subst e;exact vW ok (by rw[<-hq.1];exact hq.2.1)
   ·exact ih x hx
 exact all r x hx
theorem Wy(ok:eY P w H h)(e:H a=some (.dT kvs)):kvs.length<=aa/\(a==jR)=false /\
  ∃xs,KT H kvs xs/\h.DictOfH (se (gj P w)) a xs:=Am ok (.inl e)
end
def By(H:Hp)(a:Addr)(y:V)(r:Option V):Prop:=
 (∃kvs k,Rd H a (.dK kvs)/\y=kV k/\r=jK kvs k)\/∃kvs k b,Rd H a (.dT kvs)/\y=.ref b/\H b=some (.tup (k.map kV))/\r=jK kvs k
def Yi(H:Hp)(a:Addr)(y v:V)(H':Hp):Prop:=
 (∃kvs k,H a=some (.dK kvs)/\y=kV k/\kvs.length<aa/\H'=upd H a (.dK (putK kvs k v))) \/
 ∃kvs k b,H a=some (.dT kvs)/\y=.ref b/\H b=some (.tup (k.map kV))/\kvs.length<aa/\H'=upd H a (.dT (putK kvs k v))
variable{Q:Value->ah->Prop}
variable{h':Heap}
section
variable{X:Cx}{pins:List (Addr×Obj)}{O:St}{H:Hp}{s:ah}{a:Addr}{y v:V}{u r:Value}{o:Option V}{A:cJ}{E:Value->ah->Prop}
theorem CH(hu:A.units+1<dc)(I:Inv X pins O H s)(g:By H a y (some v))(ry:RelV y u)(h:∀w' s',Inv X pins O H s'->RelV v w'->Q w' s') :
  az (aA X.prog X.w) A (yq (.ref a) u) Q E s:=by
 rcases g with⟨kvs,k,e,ey,l⟩|⟨kvs,k,b,e,ey,eb,l⟩
 ·subst ey;obtain⟨z,hd,vs,rel,dd⟩:=xY I.hok e;obtain⟨w',hw,rw'⟩:=ki.some_of (v:=v) (o:=qH vs k) (by rw[l];exact rel.val k);exact wpAny_getItem_of (xX ry) dd.mapOf hw (h w' _ (I.tok _) rw')
 ·subst ey;cases(show u=a8 b from ry);obtain⟨z,hd,xs,rel,dd⟩:=Am I.hok e;obtain⟨w',hw,rw'⟩:=ki.some_of (v:=v) (o:=(sC xs k).map (·.2)) (by rw[l];exact rel.val k);obtain⟨p,hp,hp2⟩:=Option.map_eq_some_iff.mp hw;refine wpAny_getItem_heap (kK hu) (vW I.hok eb) dd hp ?_;rw[hp2];exact h w' _ (I.tok _) rw'
theorem Yj(hu:A.units+1<dc)(I:Inv X pins O H s)(g:By H a y o)(ry:RelV y u)(h:∀s',Inv X pins O H s'->Q (.bool o.isSome) s') :
  az (aA X.prog X.w) A (fG .In u (.ref a)) Q E s:=by
 rcases g with⟨kvs,k,e,ey,l⟩|⟨kvs,k,b,e,ey,eb,l⟩
 ·subst ey;obtain⟨z,hd,vs,rel,dd⟩:=xY I.hok e;refine wpAny_in_of (xX ry) hd dd.mapOf ?_;rw[<-(rel.val k).oK,<-l];exact h _ (I.tok _)
 ·subst ey;cases(show u=a8 b from ry);obtain⟨z,hd,xs,rel,dd⟩:=Am I.hok e;refine wpAny_in_heap (kK hu) (vW I.hok eb) hd dd ?_;have q:=(rel.val k).oK;rw[pQ]at q;rw[<-q,<-l];exact h _ (I.tok _)
theorem R8(hu:A.units+1<dc)(I:Inv X pins O H s)(g:By H a y o)(ry:RelV y u)(h:∀s',Inv X pins O H s'->Q (.bool (!o.isSome)) s') :
  az (aA X.prog X.w) A (fG .NotIn u (.ref a)) Q E s:=by
 rcases g with⟨kvs,k,e,ey,l⟩|⟨kvs,k,b,e,ey,eb,l⟩
 ·subst ey;obtain⟨z,hd,vs,rel,dd⟩:=xY I.hok e;refine wpAny_notIn_of (xX ry) hd dd.mapOf ?_;rw[<-(rel.val k).oK,<-l];exact h _ (I.tok _)
 ·subst ey;cases(show u=a8 b from ry);obtain⟨z,hd,xs,rel,dd⟩:=Am I.hok e;refine wpAny_notIn_heap (kK hu) (vW I.hok eb) hd dd ?_;have q:=(rel.val k).oK;rw[pQ]at q;rw[<-q,<-l];exact h _ (I.tok _)
theorem HE{t':Nat}{ob:HO}(I:Inv X pins O H s)(mu:KA (H a))(hs:kJ a s.heap h')(he:∃q,h'.get? a=some q)(new:dP X.prog X.w (upd H a ob) h' a ob) :
  Inv X pins O (upd H a ob) { s with heap:=h',toks:=t' }:=
 I.write (x:=a) (e:=a) mu (.inl rfl) (fun b q hb z=>(hs.2 b hb).trans z) he new
theorem UJ{kvs:List (Key×V)}{vs:List (Key×Value)}(z:kvs.length<=aa)(hd:(a==jR)=false)(rel:KV kvs vs)(dd:h'.DictOf (gj P w) a vs) :
  dP P w H' h' a (.dK kvs):=⟨z,hd,vs,rel,dd⟩
theorem CJ{Q:Unit->ah->Prop}(hu:A.units+1<dc)(I:Inv X pins O H s)(g:Yi H a y v H')(ry:RelV y u)(rv:RelV v r)(h:∀s',Inv X pins O H' s'->Q () s') :
  az (aA X.prog X.w) A (II (.ref a) u r) Q E s:=by
 rcases g with⟨kvs,k,e,ey,l,eH⟩|⟨kvs,k,b,e,ey,eb,l,eH⟩
 ·subst ey eH;obtain⟨z,hd,vs,rel,dd⟩:=Wx I.hok e;have hz:vs.length<=aa:=by rw[<-rel.length];exact z
  have hl:(putK kvs k v).length<=aa:=by have:=yI kvs k v;omega
  refine wpAny_setItem_pairs (hsz:=hz) (xX ry) dd fun h' dd' hs=>h _ ?_;have he:∃q,h'.get? a=some q:=let⟨q,_,_,hq,_⟩:=dd';⟨q,hq⟩
  exact HE I (by rw[e];exact dS) hs he (UJ hl hd (rel.put k rv) dd')
 ·subst ey eH;cases(show u=a8 b from ry);obtain⟨z,hd,xs,rel,dd⟩:=Wy I.hok e;have hz:xs.length<=aa:=by rw[<-Paired.length rel];exact z
  have hl:(putK kvs k v).length<=aa:=by have:=yI kvs k v;omega
  refine wpAny_setItem_heap (hsz:=hz) (kK hu) (vW I.hok eb) dd fun h' dd' hs=>h _ ?_;obtain⟨q,es,ep,hq,h2,h3,h4,_,h5⟩:=dd';refine HE I (by rw[e];exact dS) hs ⟨q,hq⟩ ⟨hl,hd,_,(rel.put k eb rv).keeps fun c ys ec=>?_,q,es,ep,hq,h2,h3,h4,h5⟩;rw[aS (Wg ec e (fun z=>nomatch z))];exact ec
end
section
variable{X:Cx}{pins:List (Addr×Obj)}{O:St}{H:Hp}{s:ah}{a:Addr}{kvs:List (Key×V)}{k:Key}{u:Value}{A:cJ}{E:Value->ah->Prop}
theorem Wz(I:Inv X pins O H s)(e:Rd H a (.dK kvs))(h:∀t s',Inv X pins O H s'->Q (.int kvs.length t) s'):az (aA X.prog X.w) A (call (.builtin "len") [.ref a]) Q E s:=by
 obtain⟨z,hd,vs,rel,dd⟩:=xY I.hok e;refine call_len_dict hd dd (by rw[<-rel.length];rw[dM]at z;omega) ?_;rw[<-rel.length];exact h _ _ (I.tok _)
end
theorem yJ{X:Cx}{pins:List (Addr×Obj)}{O:St}{s:ah}{a:Addr}(I:Inv X pins O H s)(g:By H a y o):s.TypeIs (.ref a) "dict":=by
 rcases g with⟨kvs,k,e,_,_⟩|⟨kvs,k,b,e,_,_,_⟩
 ·obtain⟨_,_,vs,_,dd⟩:=xY I.hok e;exact dd.typeIs
 ·obtain⟨_,_,xs,_,dd⟩:=Am I.hok e;exact dd.typeIs
end L2
end
section
namespace Att
open PySem PySem.W PySem.Calls PyProof.Rows
variable{P:GA}{h:Heap}
theorem An:∀(ns:List Int) (vs:List Value),WellAll P h vs (ns.map M5)->uh vs ns:=by
 intro ns;induction ns with
 |nil=>
  intro vs w;rw[Gz]at w;cases w;exact .nil
 |cons n ns ih=>
  intro vs w;rw[dG]at w;cases w with
  |cons a b=>
   cases a;exact .cons _ _ (ih _ b)
variable{l:OpenLaw}{n:Nat}
theorem CK(hn:l.most=some n){args:List WData}{vals:List Value}
  (hpre:l.row.toRowW.claim.pre args=true) (hwl:WellAll P h vals args) :
  ∃a vs ns,vals=[a8 a]/\args=[WData.list (ns.map M5)]/\h.get? a=some { cls:=.type "list",data:=.seq vs.toArray }/\uh vs ns/\ns.length<=n:=by
 have hsh:WShape.hasAll [] args [.list .int]=true:=(Kh hpre).1;have hc:l.pre.holds [] { args:=args }=true:=(Kh hpre).2;obtain⟨d,r,rfl,h1,h2⟩:=hasAllW_cons hsh;obtain rfl:=hasAllW_nil h2;obtain⟨xs,rfl,h3⟩:=hasW_list h1;obtain⟨ns,rfl⟩:=items_int h3;have hlen:ns.length<=n:=by
  unfold We at hc;have h4:(WTm.not (.lt (.lit (.int (n:Int))) (.len (.arg 0)))).holds [] { args:=[.list (ns.map .int)] }=true:=by
   have h4:=(holds_andW hc).1;rw[hn]at h4;exact h4
  have h5:=condW_of h4 (w_not (w_lt w_lit (w_len_list (w_arg rfl))));rw[aH]at h5;refine Nat.le_of_not_lt fun q=>?_;have q':(n:Int)<((ns.length:Nat):Int):=by omega
  first
   |(rw[decide_eq_true q']at h5;exact absurd h5 (by decide))
   |(simp at h5;omega)
 cases hwl with
 |cons w1 w2=>
  cases w2;cases w1 with
  |list ho hall=>exact⟨_,_,ns,rfl,rfl,ho,An ns _ hall,hlen⟩
theorem CL(l:OpenLaw)(args:List WData):l.row.toRowW.claim.post args (.bool true) args=true:=
 postW_of (r:=l.row.toRowW) (X:=(true==true))
  (show Kl [] (.bool true) .bool=true by first|rfl|decide|simp[Kl,WShape.arms,WShape.armsAll])
  (show(WTm.eq .res (.lit (.bool true))).value [] { args:=args,res:=some (.bool true),after:=args }=some (.bool (true==true))from w_eq_bool (w_res rfl) w_lit) rfl
variable{q:bg}{loose:List Str}{XP:(Str->Option Value)->Heap->Prop}{YP:bH->Heap->Prop}{d:M6}
theorem attach{x:Str}
  (hn:l.most=some n) (hdf:d.params.defaults=[])
  (hbind:∀pm cd doc v:Value,rm (M7 d.name d.params d.body d.scope pm cd doc) ⟨[v],[]⟩=pure [(x,v)])
  (hx:d.scope.names.lookup x=some .local\/d.scope.names.lookup x=some .cell)
  (hk:d.scope.kind=.function) (hco:d.scope.isCoroutine=false) (hgen:d.scope.isGenerator=false)
  (body:∀(w:bH) (Ze Zf s:ah) (mg mb:Str->Option Value) (fa:Addr) (o:Obj) (pm cd doc:Value) (a:Addr) (vs:List Value) (ns:List Int),
   Ground q loose [] XP w Ze mg mb Zf.heap->YP w Zf.heap->
   Zf.heap.get? fa=some o->o.data=.func (M7 d.name d.params d.body d.scope pm cd doc)->Zf.heap.CodeRec cd d.name->mg d.name=some (.ref fa)->
   Zf.heap.get? a=some { cls:=.type "list",data:=.seq vs.toArray }->uh vs ns->ns.length<=n->
   s.gens=#[]->s.os=Zf.os->
   Fr Zf.heap Zf.heap.objs.size s.heap (sj (iZ d.name d.scope Zf.heap.objs.size fa cd).kindOf [(x,.ref a)] fun _=>none)->
   Cl Zf.heap.objs.size (dz (Zf.heap.objs.size+1) d.scope.names []) s.heap (sy (iZ d.name d.scope Zf.heap.objs.size fa cd).kindOf [(x,.ref a)] fun _=>none)->
   az (aA l.prog w) (oq.deeper (iZ d.name d.scope Zf.heap.objs.size fa cd)) (Ke d.body (iZ d.name d.scope Zf.heap.objs.size fa cd))
    (fun f s'=>f=.ret (.bool true)/\OldK Zf.heap s'.heap/\s'.os=Zf.os/\jD s'.gens) (fun _ _=>False) s) :
  WalkO q loose XP YP l.row.toRowW d [] (fun f vs=>PySem.call f vs):=by
 intro w Ze Zf mg mb G Y_ fa o pm cd doc dV kV ho hd hcd hD hmg hg args vals as hpre hlay hrd hwl hlo;obtain rfl:dV=.none:=Km hD hdf;obtain rfl:kV=.none:=Kn hD;obtain⟨a,vs,ns,rfl,rfl,hobj,hints,hlen⟩:=CK hn hpre hwl;refine Ko ?_;refine call_cells_ret (o:=o) (by rw[depth_caller];decide) ho (GB hd) G.T.nolimit hcd (hbind pm cd doc (.ref a)) (fun y hy=>?_) (fun Zk tk F X=>?_) hco hgen hk
 ·obtain rfl:y=(x,a8 a):=aU.mp hy;rcases hx with e|e
  ·exact .inl e
  ·exact .inr ⟨e,cellsFrom_some _ _ _ (.inl e)⟩
 ·refine cU (body w Ze Zf { Zf with heap:=Zk,toks:=tk } mg mb fa o pm cd doc a vs ns G Y_ ho (GB hd) hcd hmg hobj hints hlen hg rfl F X) (fun f s' hq=>?_) (fun _ _ hq=>hq);obtain⟨rfl,h2,h3,h4⟩:=hq;exact⟨.inl ⟨.bool true,.bool true,[],rfl,fun _=>rfl,.bool true,CL l _,fun _=>⟨yu,fun _ hm=>(nomatch hm)⟩⟩,h2,h3,h4⟩
theorem GS
  (hn:l.most=some n) (hdf:d.params.defaults=[])
  (call:∀(w:bH) (Ze Zf:ah) (mg mb:Str->Option Value) (fa:Addr) (o:Obj) (pm cd doc:Value) (a:Addr) (vs:List Value) (ns:List Int),
   Ground q loose [] XP w Ze mg mb Zf.heap->YP w Zf.heap->
   Zf.heap.get? fa=some o->o.data=.func (M7 d.name d.params d.body d.scope pm cd doc)->Zf.heap.CodeRec cd d.name->mg d.name=some (.ref fa)->
   Zf.heap.get? a=some { cls:=.type "list",data:=.seq vs.toArray }->uh vs ns->ns.length<=n->Zf.gens=#[]->
   jF (aA l.prog w) oq (.call (.ref fa) ⟨[.ref a],[]⟩) (fun r s'=>r=.ok (.ret (.bool true))/\OldK Zf.heap s'.heap/\s'.os=Zf.os/\jD s'.gens) Zf) :
  WalkO q loose XP YP l.row.toRowW d [] (fun f vs=>PySem.call f vs):=by
 intro w Ze Zf mg mb G Y_ fa o pm cd doc dV kV ho hd hcd hD hmg hg args vals as hpre hlay hrd hwl hlo;obtain rfl:dV=.none:=Km hD hdf;obtain rfl:kV=.none:=Kn hD;obtain⟨a,vs,ns,rfl,rfl,hobj,hints,hlen⟩:=CK hn hpre hwl;refine Ko (iF (call w Ze Zf mg mb fa o pm cd doc a vs ns G Y_ ho (GB hd) hcd hmg hobj hints hlen hg) fun r s' hq=>?_);obtain⟨rfl,h2,h3,h4⟩:=hq;exact⟨.inl ⟨.bool true,.bool true,[],rfl,fun _=>rfl,.bool true,CL l _,fun _=>⟨yu,fun _ hm=>(nomatch hm)⟩⟩,h2,h3,h4⟩
section
variable{prog:bg}{w:bH}{A:cJ}{E:Value->ah->Prop}{s:ah}{K:Frag}
noncomputable def ledger(h:Heap)(Za d:Addr):List (Addr×Obj):=(bY h.objs.size).filterMap fun a=>if a=Za\/a=d then none else(h.get? a).map fun o=>(a,o)
end
end Att
namespace L2
open PySem PySem.Spec PyProof.Rows
theorem CM:∀{vs:List Value}{ns:List Int},uh vs ns->bh (ns.map V.int) vs
|_,_,.nil=>.nil
|_,_,.cons n t h=>.cons ⟨t,rfl⟩ (CM h)
def ND(H:Hp):Prop:=∀b,H b=none\/∃o xs,H b=some (.bq o (.lst xs))
theorem NF{P:bg}{w:bH}{K:PySem.W.Frag}{mg mb:Str->Option Value}{CX:yH}{k:Nat}{fa a:Addr}{fd:eW}{x:Str}{sp:Sp}{Zf:ah}{vs:List Value}{ns:List Int}
  (KX:K.In Zf.heap) (hns:Zf.heap.Ns cN mg) (hb:Zf.heap.Ns A5 mb) (hbb:∀x:Str,x≠"__name__"->mb x=kI x) (hlim:Zf.heap.NoLimit) (hg:Zf.gens=#[])
  (ha:Zf.heap.get? a=some { cls:=.type "list",data:=.seq vs.toArray }) (hi:uh vs ns) (hl:ns.length<=aa) (hr:gy k oq)
  (F:∀base:Heap,K.In base->base.Ns cN mg->eV P w K mg base CX k fa fd [x] sp) (hbind:∀(s:ah) (u:Value),Ci s fd ⟨[u],[]⟩ [(x,u)])
  (hsp:∀H:Hp,ND H->gf K H a (ns.map V.int)->sp [.ref a] H (fun v _=>v=.bl true) fun _ _ _=>False)
  (hCX:∀H e s',CX [] H Zf (fun _ _ _=>False) e s'->False) :
  jF (aA P w) oq (.call (.ref fa) ⟨[.ref a],[]⟩) (fun r s'=>r=.ok (.ret (.bool true))/\OldK Zf.heap s'.heap/\s'.os=Zf.os/\jD s'.gens) Zf:=by
 have rv:=CM hi;have sQ:=hi.length;have core:∀H:Hp,ND H->gf K H a (ns.map V.int)->eY P w H Zf.heap->(∀b,H b≠none->b=a)->(H a≠none->K.lookup a=none)->
   jF (aA P w) oq (.call (.ref fa) ⟨[.ref a],[]⟩) (fun r s'=>r=.ok (.ret (.bool true))/\OldK Zf.heap s'.heap/\s'.os=Zf.os/\jD s'.gens) Zf:=by
  intro H hO hS hok hA hK;have base_of:∀{b:Addr}{o:Obj},Zf.heap.get? b=some o->H b=none->(uy Zf.heap H).get? b=some o:=fun e n=>Nj e n;have noA:∀{b:Addr}{o:Obj}{es:Array DictEntry}{ep:Nat},Zf.heap.get? b=some o->o.data=.dict es ep->H b=none:=fun{b o es ep} e d=>by
   cases q:H b with
   |none=>rfl
   |some u=>
    have e':b=a:=hA b (by rw[q];simp);subst e';rw[ha]at e;cases e;have d':Data.seq vs.toArray _=Data.dict es ep:=d;cases d'
  have nsK:∀{b:Addr}{m:Str->Option Value},Zf.heap.Ns b m->(uy Zf.heap H).Ns b m:=fun{b m} ⟨o,es,ep,e,d,r⟩=>⟨o,es,ep,base_of e (noA e d),d,r⟩;have hKb:K.In (uy Zf.heap H):=fun b o e=>base_of (KX b o e) (by
   cases q:H b with
   |none=>rfl
   |some u=>
    have e':b=a:=hA b (by rw[q];simp);subst e';rw[hK (by rw[q];simp)]at e;cases e)
  have hM:Mod K mg (uy Zf.heap H):=⟨hKb,nsK hns,⟨mb,nsK hb,hbb⟩,let⟨mc,h1,h2⟩:=hlim;⟨mc,nsK h1,h2⟩⟩;have e0:zu P w K mg (uy Zf.heap H) oq [] Zf H:=⟨rfl,hM,fun b o e=>RQ e,xQ (KC _ _),trivial,fun b hb=>absurd (show b∈([]:List Addr)from hb) (by simp),hok,.of_eq hg⟩;refine iF ((F _ hKb (nsK hns)).run oq [] Zf H ⟨[.ref a],[]⟩ [.ref a] [.ref a] _ _ hr e0 (hbind Zf (.ref a)) (.cons rfl .nil) (hsp H hO hS)) fun r s' h=>?_;cases r with
  |error e=>exact(hCX H e s' h).elim
  |ok fl=>
   cases fl with
   |next=>exact ak h
   |brk=>exact ak h
   |cont=>exact ak h
   |ret u=>
    obtain⟨v,H',os,bare,un,hok',r',q⟩:=h;have q':v=.bl true:=q;subst q';obtain rfl:u=g_ true:=r';refine⟨rfl,OldK.of_keep fun b o e=>?_,os,bare⟩;cases q:H b with
    |none=>exact un.keep b o e q (by intro z;exact absurd (show b∈([]:List Addr)from z) (by simp)) (by simp)
    |some u=>
     rcases hO b with z|⟨ob,xs,z⟩
     ·rw[q]at z;cases z
     ·have z2:=un.aC b ob _ z;obtain⟨e1,_⟩:=hok b _ z;obtain⟨e2,_⟩:=hok' b _ z2;rw[e]at e1;cases e1;exact e2
 cases hk:K.lookup a with
 |some o=>
  have e:=KX a o hk;rw[ha]at e;cases e;refine core (fun _=>none) (fun _=>.inl rfl) (.inr ⟨_,vs.toArray,_,hk,rfl,rfl,rfl,by rw[aQ,sQ];exact hl,by simpa using rv⟩) (fun b u z=>by have z':(none:Option HO)=some u:=z;cases z') (fun b z=>absurd rfl z) fun z=>absurd rfl z
 |none=>
  refine core (fun b=>if b=a then some (.bq { cls:=.type "list",data:=.seq vs.toArray } (.lst (ns.map V.int)))else none) (fun b=>?_) (.inl (.inr ⟨{ cls:=.type "list",data:=.seq vs.toArray },if_pos rfl⟩)) (fun b u z=>?_) (fun b z=>?_) fun _=>hk
  ·by_cases hb:b=a
   ·exact .inr ⟨_,_,if_pos hb⟩
   ·exact .inl (if_neg hb)
  ·by_cases hb:b=a
   ·have z':=(if_pos hb).symm.trans z;cases z';subst hb;exact⟨ha,by rw[aH];exact hl,vs,_,rv,ha⟩
   ·have z':=(if_neg hb).symm.trans z;cases z'
  ·by_cases hb:b=a
   ·exact hb
   ·exact absurd (if_neg hb) z
end L2
namespace L2
open PySem PySem.Spec PyProof.Rows
noncomputable abbrev KOf{K:PySem.W.Frag}{h:Heap}(_:K.In h):PySem.W.Frag:=K
theorem R9{l:PySem.W.OpenLaw}{n k:Nat}{q:bg}{loose:List Str}{XP:(Str->Option Value)->Heap->Prop}{YP:bH->Heap->Prop}{d:M6}{K:GA->PySem.W.Frag}{CX:bH->yH}{sp:bH->Sp}{x:Str}
  (hn:l.most=some n) (hn2:n<=aa) (hdf:d.params.defaults=[]) (hr:gy k oq)
  (hY:∀(w:bH) (h:Heap),YP w h->(K w.params).In h)
  (F:∀(w:bH) (mg:Str->Option Value) (fa:Addr) (h:Heap),(K w.params).In h->h.Ns cN mg->mg d.name=some (.ref fa)->
   ∃fd:eW,(∀(s:ah) (u:Value),Ci s fd ⟨[u],[]⟩ [(x,u)]) /\
    ∀base:Heap,(K w.params).In base->base.Ns cN mg->eV l.prog w (K w.params) mg base (CX w) k fa fd [x] (sp w))
  (hsp:∀(w:bH) (H:Hp) (a:Addr) (ns:List Int),ns.length<=n->ND H->gf (K w.params) H a (ns.map V.int)->sp w [.ref a] H (fun v _=>v=.bl true) fun _ _ _=>False)
  (hCX:∀(w:bH) (H:Hp) (s:ah) (e:Value) (s':ah),CX w [] H s (fun _ _ _=>False) e s'->False) :
  PySem.W.WalkO q loose XP YP l.row.toRowW d [] (fun f vs=>PySem.call f vs):=by
 refine Att.GS hn hdf fun w Ze Zf mg mb fa o pm cd doc a vs ns G Y_ ho hd hcd hmg hobj hints hlen hg=>?_;have KX:=hY w _ Y_;obtain⟨fd,hb,hF⟩:=F w mg fa _ KX G.T.g hmg;exact NF KX G.T.g G.T.b G.T.builtins G.T.nolimit hg hobj hints (dH hlen hn2) hr hF hb (fun H hO hS=>hsp w H a ns hlen hO hS) fun H e s'=>hCX w H Zf e s'
end L2
namespace L2
open PySem PySem.Spec PyProof.Rows
def kQ(s:Stmt):Arguments:=match s with
|.FunctionDef _ a _ _ _ _ _ _ _ _=>a
|_=>{ posonlyargs:=[],args:=[],vararg:=none,kwonlyargs:=[],kw_defaults:=[],kwarg:=none,defaults:=[] }
def fE(s:Stmt):List Stmt:=match s with
|.FunctionDef _ _ b _ _ _ _ _ _ _=>b
|_=>[]
def bT(s:Stmt):eZ:=match s with
|.FunctionDef _ _ _ _ _ _ sc _ _ _=>sc
|_=>{ kind:=.function,names:=[],isGenerator:=false,isCoroutine:=false }
noncomputable abbrev yK:yH:=fun _ _ _ _ _ _=>False
noncomputable abbrev E0:XK:=fun _ _ _=>False
structure pJ (K:PySem.W.Frag) (x qual:Str) (st:Stmt) (f:Addr) (fd:eW):Prop where
 ex:∃(oc:Value) (od:Option Addr) (kV doc pm:Value) (an:Option Addr) (cdv ct:Value) (osl:Array (Option Value)),
  fd=PySem.W.fnOf x qual (kQ st) (fE st) (bT st) .none kV doc pm an cdv ct/\K.lookup f=some ⟨oc,od,.func fd,osl⟩/\PySem.W.codeIn K cdv qual=true
 kp:PySem.W.keepIn K (.ref f)=true
variable{x qual:Str}{st:Stmt}{f:Addr}{fd:eW}{ps:List Str}
section
variable{P:bg}{w:bH}{K:PySem.W.Frag}{mg:Str->Option Value}{base:Heap}
theorem pJ.ok{N:List Str}{k:Nat}{sp:Sp}(F:pJ K x qual st f fd)(S:kO N ps (bT st))(len:∀vs H Q E,sp vs H Q E->vs.length=ps.length)
  (hbody:∀(cdv:Value) (A:cJ) (outer:List Env) (s:ah) (H:Hp) (vs:List V) (Q:VK) (E:XK),gy k (A.deeper (iZ qual (bT st) s.heap.objs.size f cdv))->sp vs H Q E->
   ∃t,mP (j7 yK P w K mg base N qual (bT st) f cdv A outer s H E).vS (fE st) t/\t { nx:=fun _ H'=>Q .non H',rt:=Q } (start N vs) H):eV P w K mg base yK (k+1) f fd ps sp:=by
 obtain⟨oc,od,kV,doc,pm,an,cdv,ct,osl,rfl,lk,hcd⟩:=F.ex;refine Q4 lk hcd S len fun A outer s H vs Q E hr hsp=>?_;obtain⟨t,h,q⟩:=hbody cdv A outer s H vs Q E hr hsp;exact⟨t,h.vS,q⟩
theorem pJ.binds(F:pJ K x qual st f fd)
  (h:∀(kV doc pm:Value) (an:Option Addr) (cdv ct:Value) (us:List Value),us.length=ps.length->rm (PySem.W.fnOf x qual (kQ st) (fE st) (bT st) .none kV doc pm an cdv ct) ⟨us,[]⟩=pure (ps.zip us)):Binds K fd ps []:=by
 obtain⟨oc,od,kV,doc,pm,an,cdv,ct,osl,rfl,lk,hcd⟩:=F.ex;exact .all (h kV doc pm an cdv ct)
theorem fun_mk{oc:Value}{od an:Option Addr}{osl:Array (Option Value)}{kV doc pm cdv ct:Value}(l:K.lookup f=some ⟨oc,od,.func (PySem.W.fnOf x qual (kQ st) (fE st) (bT st) .none kV doc pm an cdv ct),osl⟩)
  (c:PySem.W.codeIn K cdv qual=true) (k:PySem.W.keepIn K (.ref f)=true):pJ K x qual st f (PySem.W.fnOf x qual (kQ st) (fE st) (bT st) .none kV doc pm an cdv ct):=⟨⟨oc,od,kV,doc,pm,an,cdv,ct,osl,rfl,l,c⟩,k⟩
end
def aY(H H':Hp):Prop:=∀b o,H b=some o->H' b=some o
theorem aY.refl(H:Hp):aY H H:=fun _ _ h=>h
theorem aY.trans{H H1 H2:Hp}(a:aY H H1)(b:aY H1 H2):aY H H2:=fun c o h=>b c o (a c o h)
end L2
end
section
namespace L2
open PySem PySem.W PySem.Calls PyProof.Rows
section
variable{prog:bg}{w:bH}{A:cJ}{E:Value->ah->Prop}{s:ah}
noncomputable def Yk:List Key->Value
|.inl _::_=>.type "int"
|_=>.type "str"
end
theorem rJ(ts:List Addr):∀idx:List Nat,(∀i∈idx,i<ts.length)->bh (idx.map fun i=>V.ref (ts.getD i 0)) (idx.map fun i=>(ts.map a8).getD i c_)
|[],_=>.nil
|i::r,h=>by
 refine .cons ?_ (rJ ts r fun j hj=>h j (ai _ hj));have hi:=h i aq;have e1:(ts.map a8).getD i c_=.ref (ts.getD i 0):=by
  rw[dX,dX,bL,aG hi];rfl
 show RelV (.ref (ts.getD i 0)) ((ts.map a8).getD i c_);rw[e1];exact rfl
variable{X:Cx}
section
variable{κ:Type} [DecidableEq κ] [BEq κ] [LawfulBEq κ]
noncomputable def sR(val:Nat->κ)(i:Nat):List κ:=((bY i).map val).foldl nC []
theorem vX(val:Nat->κ)(i:Nat):sR val (i+1)=nC (sR val i) (val i):=by
 unfold sR;rw[Bg,di,yw];rfl
theorem KZ(O:List κ)(v k:κ):(nC O v).any (·==k)=(O.any (·==k)||decide (k=v)):=by
 unfold nC;by_cases h:O.any (·==v)=true
 ·rw[if_pos h];by_cases e:k=v
  ·subst e;rw[h];simp
  ·simp[e]
 ·rw[if_neg h,List.any_append];by_cases e:k=v
  ·subst e;simp
  ·have hb:(v==k)=false:=by simpa[beq_iff_eq]using(fun q:v=k=>e q.symm)
   simp[hb,e]
theorem CN(O:List κ)(v:κ):(nC O v).length=if O.any (·==v)then O.length else O.length+1:=by
 unfold nC;split<;>simp
theorem BA(val:Nat->κ):∀i,(sR val i).length<=i
|0=>aM _
|i+1=>by
 have:=BA val i;rw[vX,CN];split<;>omega
variable{prog:bg}{w:bH}{A:cJ}{R:A_->ah->Prop}{I:Addr}{fp wr:List Addr}{G:Array z7->Array z7->Prop}{n:Nat}{P:Nat->Value->Prop}{St:Nat->ah->Prop}
abbrev rK(knd:KeyKind prog w κ)(h:Heap)(S:Addr)(val:Nat->κ)(i:Nat):Prop:=h.SetOf knd S (fun k'=>(sR val i).any (·==k')) (sR val i).length
theorem Ao{knd:KeyKind prog w κ}{h h':Heap}{S:Addr}{val:Nat->κ}{i:Nat}(q:rK knd h S val i)(e:∀o,h.get? S=some o->h'.get? S=some o):rK knd h' S val i:=by
 obtain⟨o,es,ep,t,ho,r⟩:=q;exact⟨o,es,ep,t,e o ho,r⟩
theorem NG(knd:KeyKind prog w κ)(W:WalksS prog w A.in1 I fp wr G n P St)(S:Addr)(hSf:S∉fp)(val:Nat->κ)(hval:∀i v,P i v->knd.is (val i) v=true/\v.scannable=true)(hb:n+1<sD) :
  ∀(k i:Nat) (s:ah),n-i=k->i<=n->St i s->rK knd s.heap S val i->(∀s',Moved (S::wr) G s s'->rK knd s'.heap S val n->R (.ok (.ret .none)) s')->
   jF (aA prog w) A (.builtin "set.update.loop" ⟨[.ref S,.ref I],[]⟩) R s:=by
 have hw:S∉wr:=fun h=>hSf (W.sub _ h);have sub:∀b∈wr,b∈S::wr:=fun b hb=>ai _ hb;intro k;induction k with
 |zero=>
  intro i s hk hi hst hS hR;obtain rfl:i=n:=by omega
  refine sE kL ?_;rw[vd gA _];show az _ A.in1 (A7 (.ref I) >>= _) _ _ s;refine ao (W.done s _ _ hst fun s' hm=>?_);show az _ A.in1 (ret c_) _ _ s';exact aX (hR s' (hm.mono sub) (Ao hS fun o e=>hm.heap S _ hw e))
 |succ k ih=>
  intro i s hk hi hst hS hR;have hlt:i<n:=by omega
  refine sE kL ?_;rw[vd gA _];show az _ A.in1 (A7 (.ref I) >>= _) _ _ s;refine ao (W.item i s _ _ hlt hst fun v s' hP hst' hm=>?_);obtain⟨hk1,hk2⟩:=hval i v hP;have hS':rK knd s'.heap S val i:=Ao hS fun o e=>hm.heap S _ hw e;show az _ A.in1 (mK [v] (setAdd S v) >>= _) _ _ s';refine ao (f_ ?_);unfold setAdd;refine f_ ?_;refine ao (knd.pyHash hk1 ?_);have hroom:(sR val i).length+1<sD:=by have:=BA val i;omega
  refine wpAny_setAddHashed_of (knd:=knd) (s:={ s' with toks:=s'.toks+1 }) hk1 hk2 hS' hroom fun h' hsb hS2=>?_;have hSi:rK knd h' S val (i+1):=Hr hS2 (fun k'=>by rw[vX,KZ]) (by rw[vX,CN]);refine aX ⟨plainId_quiet gA _,ih (i+1) _ (by omega) hlt (W.frame _ s' _ _ hst' (jk _) fun b hb o e=>?_) hSi fun s'' hm'' hS''=>?_⟩
  ·rw[hsb.2 b (fun h:b=S=>hSf (by rw[<-h];exact hb))];exact e
  ·refine hR s'' (Moved.trans W.gtrans ((hm.mono sub).then_heap (jk _) fun b o hb e=>?_) hm'') hS'';rw[hsb.2 b (fun h:b=S=>hb (by rw[h];exact aq))];exact e
end
section
variable{κ:Type} [DecidableEq κ] [BEq κ] [LawfulBEq κ] {prog:bg}{w:bH}{A:cJ}{E:Value->ah->Prop}{s:ah}
noncomputable abbrev jx(led:Bool):Obj:={ cls:=.type "set",dict:=none,data:=.set #[] 0 (.fresh 0 0 led) }
theorem DH(knd:KeyKind prog w κ){l:Addr}{items:Array Value}(val:Nat->κ){Q:Value->ah->Prop}(hh:A.handled=none)(hl:s.heap.IsList l items)
  (hval:∀(i:Nat) (v:Value),items[i]?=some v->knd.is (val i) v=true/\v.scannable=true) (hb:items.size+1<sD)
  (h:∀(h':Heap) (tk:Nat),rK knd h' s.heap.objs.size val items.size->(∀b o,b<s.heap.objs.size->s.heap.get? b=some o->h'.get? b=some o)->Q (.ref s.heap.objs.size) { s with heap:=h',toks:=tk }) :
  az (aA prog w) A (call (.type "set") [.ref l]) Q E s:=by
 obtain⟨c,tl,hmro⟩:=PySem.F.called_set.mro;have hmade:=PySem.F.called_set.made;have hsub:=PySem.F.called_set.sub;refine kY (Bh ?_);show az _ _ (callAny (.type "set") _) _ _ _;refine aX ⟨o4 _ (by decide +kernel),sE PySem.F.entry_type_call ?_⟩;rw[Around.under_plain (weight_type_call_type "set" [.ref l] []) rfl];have h1:=PySem.F.called_set.notType;have h2:=PySem.F.called_set.canCreate;have hct:=PySem.F.typeCall_set_1 (.ref l)
 repeat (any_goals (first|assumption|wp_step))
 refine iF (code_set_new_1 (.ref l) (E:=E) (Q₁:=fun obj Zf=>∃led:Bool,obj=.ref s.heap.objs.size/\Zf={ s with heap:=s.heap.push (jx led) }) fun led=>⟨led,rfl,rfl⟩) fun r Zf hr=>?_;cases r with
 |error e=>exact hr
 |ok fl=>
  cases fl with
  |ret obj=>
   obtain⟨led,rfl,rfl⟩:=hr;have hS:(s.heap.push (jx led)).get? s.heap.objs.size=some (jx led):=bu _ rfl;have hT:Shared.TypeIs { s with heap:=s.heap.push (jx led) } (.ref s.heap.objs.size) "set":=⟨_,hS,rfl⟩;have hli:=PySem.F.called_set.init.lookup;have hbi:=PySem.F.called_set.init.bind (.ref s.heap.objs.size)
   repeat (any_goals (first|assumption|wp_step))
   refine iF (nE (R:=wants (fun r Zi=>r=.none/\∃h' tk,Zi={ s with heap:=h',toks:=tk }/\rK knd h' s.heap.objs.size val items.size /\
     (∀b o,b<s.heap.objs.size->s.heap.get? b=some o->h'.get? b=some o)) E) PySem.F.called_set.init.plain PySem.F.entry_set_init (check_set_init_1 hT ?_)) fun ZL Zi ZA=>?_
   ·obtain⟨ol,hol,hcl,nl,hdl⟩:=hl;obtain⟨ocls,odict,odata,oslots⟩:=ol;simp only at hcl hdl;subst hcl;subst hdl;have hol':(s.heap.push (jx led)).get? l=some { cls:=.type "list",dict:=odict,data:=.seq items nl,slots:=oslots }:=aF _ hol;have hsls:=PySem.F.sub_list_set;have hslf:=PySem.F.sub_list_frozenset;have hne:(Value.type "list"==Value.type "dict")=false:=by decide
    have hl1:(s.heap.push (jx led)).IsList l items:=⟨_,hol',rfl,nl,rfl⟩;unfold IK.«set.__init__» noKeywords Cj;generalize hPI:uf=PI
    wp_walk
    subst hPI;refine pR hl1 ?_;refine ao (wpAny_runValue ?_);have hlS:l<s.heap.objs.size:=aP hol;have hh3:A.in1.in1.in1.handled=none:=by simp[hh]
    have hneI:l≠(s.heap.push (jx led)).objs.size:=by rw[eU];exact bw (jv hlS)
    have hSf:s.heap.objs.size∉[(s.heap.push (jx led)).objs.size,l]:=by
     rw[eU];simp only[aJ,aU,aW,or_false,not_or];exact⟨bw (iJ _),ny hlS⟩
    refine NG knd ((Kp hh3 _ l hneI items).toS) s.heap.objs.size hSf val hval hb (items.size-0) 0 _ (by omega) (j6 _) ⟨⟨_,bu _ rfl,rfl,rfl⟩,(hl1.push _)⟩ ?hS0 ?hR
    case hS0=>
     have hget:((s.heap.push (jx led)).push { cls:=.type "list_iterator",data:=.fields #[.ref l,.int 0 0] }).get? s.heap.objs.size=some (jx led):=aF _ hS;exact Hr ((setObjOf_fresh (knd:=knd) led).setOf hget (by unfold sD;omega)) (fun _=>rfl) rfl
    case hR=>
     intro s' hm hS';obtain⟨h',g',d',tk',os'⟩:=s';have eg:g'=s.gens:=hm.gens;have ed:d'=s.drawn:=hm.drawn;have eo:os'=s.os:=hm.os;subst eg;subst ed;subst eo;show az _ _ _ _ _ _;refine aX ?_;show az _ _ (ret c_) _ _ _;refine aX ⟨rfl,h',tk',rfl,hS',fun b o hb e=>?_⟩;have hb1:b≠s.heap.objs.size:=bw hb;have hb2:b≠(s.heap.push (jx led)).objs.size:=by rw[eU];exact bw (jv hb)
     exact hm.heap b o (by simp only[aJ,aU,aW,or_false,not_or];exact⟨hb1,hb2⟩) (aF _ (aF _ e))
   ·cases ZL with
    |error e=>exact ZA
    |ok ZM=>
     cases ZM with
     |ret r=>
      obtain⟨rfl,h',tk,rfl,hS',hk'⟩:=ZA
      repeat (any_goals (first|assumption|wp_step))
      exact h _ _ hS' hk'
     |_=>exact ZA
  |_=>exact hr
end
end L2
end
section
namespace L2
open PySem PySem.W PySem.Calls PyProof.Rows PySem.SeqAt
theorem zz:∀{bs:List Bool}{its:List Value},bh (bs.map V.bl) its->its=bs.map g_
|[],_,.nil=>rfl
|b::bs,_,.cons r q=>by
 rw[zz q];cases r;rfl
noncomputable def HF(k:Bool):Value->Bool
|.bool b=>b==k
|_=>false
theorem Aq(k:Bool):∀bs:List Bool,(bs.map g_).countP (HF k)=bs.count k
|[]=>rfl
|b::bs=>by
 rw[dG,List.countP_cons,Aq k bs,Bj];rfl
section
variable{prog:bg}{w:bH}{A:cJ}{E:Value->ah->Prop}{s:ah}{l:Addr}{bs:List Bool}{its:List Value}{k:Bool}{Q:Value->ah->Prop}
theorem K0{y:Value}(hy:y∈(bs.map g_).toArray):EqAt A s y (.bool k) (HF k y):=by
 have hy:y∈bs.map g_:=by simpa using hy
 obtain⟨b,_,rfl⟩:=ck.mp hy;exact EqAt.bool_bool b k
theorem GU(hl:s.heap.IsList l its.toArray)(r:bh (bs.map V.bl) its)(h:Q (.int (bs.count k:Nat) s.toks) { s with toks:=s.toks+1 }):az (aA prog w) A (call (.builtin "list.count") [.ref l,.bool k]) Q E s:=by
 obtain rfl:=zz r;obtain⟨⟨cls,dd,data,sl⟩,ho,hc,n,hd⟩:=id hl;simp only at hc hd;subst hc hd;refine fV PySem.F.slot_list_count ⟨_,ho,rfl⟩ PySem.F.entry_list_count (PySem.F.args_list_count_2 _ _) (list_countAt l _ n dd sl (.bool k) (HF k)) ⟨ho,fun y hy=>K0 hy,?_⟩;rw[show(bs.map g_).toArray.toList=bs.map g_ from rfl,Aq];exact h
theorem GV(hl:s.heap.IsList l its.toArray)(r:bh (bs.map V.bl) its)(hz:bs.length<=aa)(hk:k∈bs)(h:Q (.int (bs.idxOf k:Nat) s.toks) { s with toks:=s.toks+1 }):az (aA prog w) A (call (.builtin "list.index") [.ref l,.bool k]) Q E s:=by
 obtain rfl:=zz r;obtain⟨⟨cls,dd,data,sl⟩,ho,hc,n,hd⟩:=id hl;simp only at hc hd;subst hc hd;have hj:bs.idxOf k<bs.length:=rA.mpr hk;have hs:=dM;refine fV PySem.F.slot_list_index ⟨_,ho,rfl⟩ PySem.F.entry_list_index (PySem.F.args_list_index_2 _ _)
  (list_indexAt l _ n dd sl (.bool k) (HF k) (bs.idxOf k) (by simpa using hj) (by omega) ?_ ?_) ⟨ho,fun y hy=>K0 hy,h⟩
 ·simp[HF]
 ·intro m hm hlt;have:=List.not_of_lt_findIdx (p:=(·==k)) (xs:=bs) (i:=m) hlt;simpa[HF]using this
end
end L2
end
section
namespace L2
open PySem PySem.Spec PyProof.Rows
def Jb(m:Bool)(P:Addr->Prop)(h:Heap)(e:Addr)(fl:Value->Prop)(v:Value):Prop:=
 (m=false/\v=.none)\/∃T oT ts f,v=.ref T/\T≠e/\h.get? T=some oT/\oT.data=.fields ts/\ts[3]?=some f/\fl f/\P T
structure ExcAt (m:Bool) (P:Addr->Prop) (h:Heap) (e C:Addr) (od:Option Addr) (fl:Value->Prop):Prop where
 at_:∃oe vs v,h.get? e=some oe/\oe.cls=.ref C/\oe.dict=od/\oe.data=.fields vs/\vs.size=6/\vs[1]?=some v/\Jb m P h e fl v
 ok:P e
abbrev ED(m:Bool)(X:Cx)(pins:List (Addr×Obj))(H:Hp)(s:ah)(e C:Addr)(od:Option Addr)(fl:Value->Prop):Prop:=ExcAt m (ly X pins H) s.heap e C od fl
variable{h':Heap}
variable{h:Heap}
variable{m:Bool}{fl:Value->Prop}{Q:Unit->ah->Prop}{E:Value->ah->Prop}
section
variable{X:Cx}{pins:List (Addr×Obj)}{O:St}{H:Hp}{s:ah}{e C:Addr}{od:Option Addr}
theorem Inv.fld{t:Addr}(I:Inv X pins O H s)(f:ly X pins H t)(k:∀b o,b≠t->s.heap.get? b=some o->h'.get? b=some o):Inv X pins O H { s with heap:=h' }:=
 I.turned (t':=s.toks) k f.1 f.2.1 f.2.2.2.1 f.2.2.2.2.1 f.2.2.2.2.2
theorem Ar{a:Addr}{o:Obj}{vs:Array Value}(i:Nat)(x:Value)(ho:h.get? a=some o)(hd:o.data=.fields vs) :
  ∃o',(h.update a (ph (·.setIfInBounds i x))).get? a=some o'/\o'.cls=o.cls/\o'.dict=o.dict/\o'.data=.fields (vs.setIfInBounds i x):=by
 have hd':=Obj.data_mapFields hd (·.setIfInBounds i x);refine⟨_,mL _ ho (Obj.isFreed_of_fields hd'),Obj.cls_mapFields ..,?_,hd'⟩;obtain⟨c,d,dat,sl⟩:=o;dsimp only at hd;subst hd;rfl
theorem rL{fr:Option Addr}(I:Inv X pins O H s)(F:ED m X pins H s e C od fl)
  (h:∀s',Inv X pins O H s'->ED m X pins H s' e C od (fun v=>v=fr.elim .none fun f=>jE f)->Q () s'):az (aA X.prog X.w) X.A (setFlight (.ref e) fr) Q E s:=by
 obtain⟨⟨oe,vs,v,he,hc,hdi,hd,hz,h1,ht⟩,fe⟩:=F;unfold setFlight;refine ao (tO he hd h1 ?_);rcases ht with⟨hm,rfl⟩|⟨T,oT,ts,f,rfl,hTe,hT,hdT,h3,_,fT⟩
 ·exact aX (h s I ⟨⟨oe,vs,_,he,hc,hdi,hd,hz,h1,.inl ⟨hm,rfl⟩⟩,fe⟩)
 ·rw[if_pos (show(a8 T != c_)=true from by simp)];have hlt:3<ts.size:=(pq.mp h3).1;refine um hT hdT hlt ?_;have other:∀b,b≠T->(s.heap.update T (ph (·.setIfInBounds 3 (fr.elim .none fun f=>jE f)))).get? b=s.heap.get? b:=fun b hb=>dZ _ _ (cK hb);obtain⟨o',e1,_,_,e2⟩:=Ar 3 (fr.elim .none fun f=>jE f) hT hdT;refine h _ (I.fld fT fun b o hb q=>(other b hb).trans q) ⟨⟨oe,vs,_,(other e (cK hTe)).trans he,hc,hdi,hd,hz,h1,.inr ⟨T,o',_,_,rfl,hTe,e1,e2,?_,rfl,fT⟩⟩,fe⟩;simp[hlt]
theorem Inv.slots(I:Inv X pins O H s)(k:Heap.SlotsOnly (frs X.stack) s.heap h'):Inv X pins O H { s with heap:=h' }:=by
 refine I.call (ch:=[]) (t':=s.toks) (d':=s.drawn) (g':=s.gens) ⟨fun b o e n hb _=>(k.2.1 b hb).trans e,fun b o e n _ _=>k.2.2 b o e,fun _ _ _ n _=>n,fun b o e _=>?_,fun _ _ q=>q,fun _ _ _ q=>q,fun b ps q=>⟨#[],by rw[q];simp⟩⟩ (fun a o q=>?_) I.bare (fun _ z=>nomatch z)
 ·obtain⟨sl,q⟩:=k.2.2 b o e;exact⟨_,q⟩
 ·have hk:∀b u,(b=a\/H b=some (.own a))->s.heap.get? b=some u->h'.get? b=some u:=fun b u hb e=>by
   refine(k.2.1 b fun z=>?_).trans e;have hn:=I.Bt b z;rcases hb with rfl|hb
   ·rw[hn]at q;cases q
   ·rw[hn]at hb;cases hb
  exact(I.hok a o q).stay hk (fun _ z=>z) fun _ _ z=>z
theorem BB(hst:X.stack=X.env::X.outer)(hf:X.env.frame=some X.env.locals)(I:Inv X pins O H s)
  (F:ED m X pins H s e C od (fun f=>f=.none\/f=jE X.env.locals))
  (h:∀s',Inv X pins O H s'->ED true X pins H s' e C od (fun f=>f=jE X.env.locals)->Q () s'):az (aA X.prog X.w) X.A (DC (.ref e) X.env) Q E s:=by
 have new:∀{s:ah}{head:Value}{b:Bool},Inv X pins O H s->(∃oe vs,s.heap.get? e=some oe/\oe.cls=.ref C/\oe.dict=od/\oe.data=.fields vs/\vs.size=6)->ly X pins H e->
   az (aA X.prog X.w) X.A (do setField (.ref e) 1 (<-vM head (<-frameOf X.env) .none (jE X.env.locals) .none (<-entryPlaceOf X.env.locals b))) (fun _ s'=>Inv X pins O H s'/\ED true X pins H s' e C od (fun f=>f=jE X.env.locals)) E s:=by
  rintro s head b I ⟨oe,vs,he,hc,hdi,hd,hz⟩ fe;have hfr:X.A.frames=some (X.env::X.outer):=by rw[<-hst];exact I.ok.frames
  have hl:=I.stack;rw[hst]at hl;refine ao (wpAny_frameOf_fun hfr hl hf fun Zk ZC=>?_);rw[<-hst]at ZC;have I1:Inv X pins O H { s with heap:=Zk }:=I.slots ZC;have he1:Zk.get? e=some oe:=by
   refine(ZC.2.1 e fun z=>?_).trans he;rcases aJ.mp (I.tS e z)with z|z
   ·exact fe.2.1 z
   ·exact fe.2.2.1 z
  refine ao (wpAny_entryPlaceOf fun pl hpl=>?_);unfold vM newFields;refine ao (yx ?_ (hpl.sizeOk5 _ _ _ _ _));generalize hts:([head,a8 X.env.locals,c_,jE X.env.locals,c_]++(if pl.isEmpty then aB 6 c_ else pl)).toArray=ts;have ht3:ts[3]?=some (jE X.env.locals):=by rw[<-hts];rfl
  have I2:Inv X pins O H { s with heap:=Zk.push { cls:=.type "traceback",dict:=none,data:=.fields ts } }:=I1.kept (t':=s.toks) fun b o q=>aF _ q;have he2:=aF (h:=Zk) { cls:=.type "traceback",dict:=none,data:=.fields ts } he1;have hT2:=bu Zk (o:={ cls:=.type "traceback",dict:=none,data:=.fields ts }) rfl;have hTe:Zk.objs.size≠e:=ny (aP he1);have fT:ly X pins H Zk.objs.size:=I1.o5 (aM _) (I1.hok.fresh (aM _));refine um he2 hd (by omega) ?_;obtain⟨o',e1,e2,e3,e4⟩:=Ar 1 (.ref Zk.objs.size) he2 hd;have other:∀b,b≠e->((Zk.push { cls:=.type "traceback",dict:=none,data:=.fields ts }).update e (ph (·.setIfInBounds 1 (.ref Zk.objs.size)))).get? b=(Zk.push { cls:=.type "traceback",dict:=none,data:=.fields ts }).get? b:=fun b hb=>dZ _ _ (cK hb);refine⟨I2.fld fe fun b o hb q=>(other b hb).trans q,⟨⟨o',_,_,e1,e2.trans hc,e3.trans hdi,e4,by simpa using hz,?_,.inr ⟨_,_,ts,_,rfl,hTe,(other _ hTe).trans hT2,rfl,ht3,rfl,fT⟩⟩,fe⟩⟩;have:1<vs.size:=by omega
  simp[this]
 obtain⟨⟨oe,vs,v,he,hc,hdi,hd,hz,h1,ht⟩,fe⟩:=F;unfold DC;simp only[hf];refine ao (tO he hd h1 ?_);rcases ht with⟨hm,rfl⟩|⟨T,oT,ts,f,rfl,hTe,hT,hdT,h3,hfl,fT⟩
 ·exact aR (new (b:=_) I ⟨oe,vs,he,hc,hdi,hd,hz⟩ fe) fun _ s' q=>h s' q.1 q.2
 ·rw[if_pos (show(a8 T != c_)=true from by simp)];refine ao (tO hT hdT h3 ?_);by_cases c:f=jE X.env.locals
  ·rw[if_pos (show(f==jE X.env.locals)=true from by rw[c];simp)];exact aX (h s I ⟨⟨oe,vs,_,he,hc,hdi,hd,hz,h1,.inr ⟨T,oT,ts,f,rfl,hTe,hT,hdT,h3,c,fT⟩⟩,fe⟩)
  ·have hlt:3<ts.size:=(pq.mp h3).1;have cn:(f==jE X.env.locals)=false:=by
    rcases hfl with rfl|z
    ·rfl
    ·exact absurd z c
   rw[if_neg (by rw[cn];exact aE)];refine ao (um hT hdT hlt ?_);have other:∀b,b≠T->(s.heap.update T (ph (·.setIfInBounds 3 .none))).get? b=s.heap.get? b:=fun b hb=>dZ _ _ (cK hb);exact aR (new (b:=_) (I.fld fT fun b o hb q=>(other b hb).trans q) ⟨oe,vs,(other e (cK hTe)).trans he,hc,hdi,hd,hz⟩ fe) fun _ s' q=>h s' q.1 q.2
end
noncomputable def jH(P:bg)(w:bH):yH:=fun outer H s E v s'=>∃e C od H',v=.ref e/\s'.os=s.os/\jD s'.gens/\Un (frs outer) [] H H' s.heap s'.heap/\eY P w H' s'.heap /\
 ExcAt true (fun b=>H' b=none/\s.heap.objs.size<=b) s'.heap e C od (fun f=>f=.none)/\E (.ref C) od H'
variable{P':Addr->Prop}{e:Addr}{fl':Value->Prop}{v:Value}
theorem Jb.imp{P:Addr->Prop}(x:Jb m P h e fl v)(hp:∀b,P b->P' b)(hf:∀f,fl f->fl' f):Jb m P' h e fl' v:=by
 rcases x with x|⟨T,oT,ts,f,h1,h2,h3,h4,h5,h6,h7⟩
 ·exact .inl x
 ·exact .inr ⟨T,oT,ts,f,h1,h2,h3,h4,h5,hf f h6,hp T h7⟩
variable{C:Addr}{od:Option Addr}
theorem ExcAt.imp{P:Addr->Prop}(x:ExcAt m P h e C od fl)(hp:∀b,P b->P' b)(hf:∀f,fl f->fl' f):ExcAt m P' h e C od fl':=by
 obtain⟨⟨oe,vs,v,h1,h2,h3,h4,h5,h6,h7⟩,h8⟩:=x;exact⟨⟨oe,vs,v,h1,h2,h3,h4,h5,h6,h7.imp hp hf⟩,hp e h8⟩
def sS(X:Cx)(E:XK):Value->ah->Prop:=fun v s=>∃m e C od pins O H,v=.ref e/\Inv X pins O H s/\ED m X pins H s e C od (fun f=>f=.none\/f=jE X.env.locals)/\E (.ref C) od H
section
variable{X:Cx}{E:XK}
theorem R_:vV (jH X.prog X.w) (X.ja (sS X E)) E:=by
 rintro pins O H s v s' I ⟨e,C,od,H',rfl,os,bare,un,hok,x,q⟩;have I0:=I.iw;obtain⟨hh,g,d,t,os'⟩:=s';obtain rfl:os'=s.os:=os;have I1:Inv X pins O H' { s with heap:=hh,gens:=g,drawn:=d,toks:=t }:=I0.call (h':=hh) (g':=g) (d':=d) (t':=t) (ch:=[]) un hok bare (fun b z=>absurd z (by simp));exact⟨true,e,C,od,pins,O,H',rfl,I1,x.imp (fun b hb=>I0.o5 hb.2 hb.1) fun f hf=>.inl hf,q⟩
theorem Jc(hst:X.stack=X.env::X.outer)(hf:X.env.frame=some X.env.locals):sf (aA X.prog X.w) X.A X.env (sS X E):=by
 rintro v s ⟨m,e,C,od,pins,O,H,rfl,I,F,q⟩;refine BB hst hf I F fun s1 I1 F1=>?_;unfold cameBackBy;obtain⟨⟨oe,vs,v,he,hc,hdi,hd,hz,h1,ht⟩,fe⟩:=id F1;rcases ht with⟨hm,_⟩|⟨T,oT,ts,f,rfl,hTe,hT,hdT,h3,hfl,fT⟩
 ·cases hm
 ·refine ao (tO he hd h1 ?_);rw[if_neg (show ¬(a8 T==c_)=true from aE)];refine rL I1 F1 fun s2 I2 F2=>⟨true,e,C,od,pins,O,H,rfl,I2,F2.imp (fun _ z=>z) fun f hz=>.inr ?_,q⟩;rw[hz,hf];rfl
end
variable{P:bg}{w:bH}{K:PySem.W.Frag}{mg:Str->Option Value}{base:Heap}{N:List Str}{qual:Str}{scope:eZ}{f:Addr}{cd:Value}{A:cJ}{outer:List Env}{s:ah}{H:Hp}
theorem UK{E:XK}{s':ah}
  (h:sS (j7 (jH P w) P w K mg base N qual scope f cd A outer s H E) E v s'):(j7 (jH P w) P w K mg base N qual scope f cd A outer s H E).xe v s':=by
 obtain⟨m,e,C,od,pins,O,H1,rfl,I,F,q⟩:=h;show az (aA P w) _ (IJ _ (.ref e)) _ _ s';unfold IJ;refine ao ?_;refine BB (X:=j7 (jH P w) P w K mg base N qual scope f cd A outer s H E) rfl rfl I F fun s1 I1 F1=>?_;refine rL I1 F1 fun s2 I2 F2=>⟨e,C,od,H1,rfl,I2.os,I2.bare,I2.base,I2.hok,F2.imp (fun b hb=>⟨hb.1,?_⟩) fun _ z=>z,q⟩;rcases hb.2.2.2.1 with z|z
 ·exact absurd (show b∈([]:List Addr)from z) (by simp)
 ·exact z
variable{body:List Stmt}
theorem UL{E:XK}{t:TS}
  (h:mP ((j7 (jH P w) P w K mg base N qual scope f cd A outer s H E).ja (sS (j7 (jH P w) P w K mg base N qual scope f cd A outer s H E) E)) body t):mP (j7 (jH P w) P w K mg base N qual scope f cd A outer s H E) body t:=
 fun pins s1 O H1 D I hw=>cU (h pins s1 O H1 D (I.ja _) hw) (fun _ _ q=>q.iw) fun _ _ q=>UK q
section
variable{P:bg}{w:bH}{A:cJ}{E:Value->ah->Prop}{h:Heap}{g:Array z7}{d:Drawn}{t:Nat}{os:OsState}
variable{nm q:Str}{C N fI:Addr}{bs bm bmB:List Value}{hdct:Bool}{sn:List Str}{sub:List Value}{ab:Bool}{col:Option Bool}{dd:Option Addr}{k0 k1 k2 k3 k5:Option Value}{B newId initId:String}{us:List Value}{K:PySem.W.Frag}
noncomputable abbrev yL(C a:Addr):Obj:={ cls:=.ref C,data:=.fields #[.ref a,.none,.none,.none,.bool false,.none] }
noncomputable abbrev yM(us:List Value):Obj:={ cls:=.type "tuple",data:=.seq us.toArray }
theorem GW{Q:Fin->ah->Prop}(F:GC B newId initId bmB)(T:IL h bmB bm)
  (hC:h.get? C=some (ig nm q C N bs bm hdct sn sub ab col dd k0 k1 k2 k3 k5 newId)) (X:K.In h) (hi:PySem.W.findIn K (.ref C) "__init__"=some (some (.ref fI))) (hf:PySem.W.typeIn K (.ref fI)=some (.type "function"))
  (hl:us.length<=aa) (hq:az (aA P w) A (call (.ref fI) (.ref (h.objs.size+1)::us)) (fun r s'=>r=.none/\Q (.done (.ret (.ref (h.objs.size+1)))) s') E ⟨(h.push (yM us)).push (yL C h.objs.size),g,d,t,os⟩) :
  az (aA P w) A (IK.«type.__call__» ⟨.ref C::us,[]⟩) Q E ⟨h,g,d,t,os⟩:=by
 repeat (first
  |with_reducible refine f6 hC ?_
  |with_reducible refine wpAny_madeBy_exc hC ?_
  |wp_step)
 refine codeAny_call_builtin_code (o4 _ F.quiet) (wpAny_check_new_subT F T hC ?_);refine codeAny_exc_new_subT F T hC ?_ hl;show az _ _ _ _ _ _;have up:∀b o,h.get? b=some o->((h.push (yM us)).push (yL C h.objs.size)).get? b=some o:=fun b o e=>aF _ (aF _ e);have c1:=up _ _ hC;have X1:K.In ((h.push (yM us)).push (yL C h.objs.size)):=X.keeps up;have x1:((h.push (yM us)).push (yL C h.objs.size)).get? (h.objs.size+1)=some (yL C h.objs.size):=by heap_get
 have hcc:(a8 C::bm).contains (.ref C)=true:=by simp
 unfold Bk
 repeat (first
  |with_reducible refine f6 x1 ?_
  |(with_reducible refine nQ c1 ?_;rw[hcc])
  |wp_step)
 show az _ _ (Kg (.ref C) _) _ _ _;refine(PySem.W.looks_findIn X1 hi).at ?_;refine f_ (ao ((PySem.W.bind_fn X1 _ hf).at ?_));refine ao (cU hq (fun r s' hr=>?_) fun _ _ x=>x);obtain⟨rfl,hr⟩:=hr
 wp_walk
 exact hr
theorem UM{Q:Value->ah->Prop}(F:GC B newId initId bmB)(T:IL h bmB bm)
  (hC:h.get? C=some (ig nm q C N bs bm hdct sn sub ab col dd k0 k1 k2 k3 k5 newId)) (X:K.In h) (hi:PySem.W.findIn K (.ref C) "__init__"=some (some (.ref fI))) (hf:PySem.W.typeIn K (.ref fI)=some (.type "function"))
  (hl:us.length<=aa) (hq:az (aA P w) (A.under (.builtin "type.__call__" ⟨.ref C::us,[]⟩)) (call (.ref fI) (.ref (h.objs.size+1)::us)) (fun r s'=>r=.none/\Q (.ref (h.objs.size+1)) s') E ⟨(h.push (yM us)).push (yL C h.objs.size),g,d,t,os⟩) :
  az (aA P w) A (call (.ref C) us) Q E ⟨h,g,d,t,os⟩:=by
 have z1:=tc_lookup;have z2:=tc_bind (.ref C);have z3:(⟨h,g,d,t,os⟩:ah).TypeIs (.ref C) "type":=⟨_,hC,rfl⟩;refine kY (Bh ?_);show az _ _ (callAny (.ref C) _) _ _ _
 repeat (any_goals (first
  |assumption
  |with_reducible refine f6 hC ?_
  |wp_step))
 refine⟨rfl,?_⟩;exact codeAny_call_builtin_at (o4 _ (by decide +kernel)) entry_typeCall (wpAny_check_type_call_sub hC (GW F T hC X hi hf hl hq))
end
structure vY (K:PySem.W.Frag) (C:Addr):Prop where
 ga:PySem.W.findIn K (.ref C) "__getattribute__"=some (some (.builtin "BaseException.__getattribute__"))
 gt:PySem.W.findIn K (.ref C) "__getattr__"=some none
 sa:PySem.W.findIn K (.ref C) "__setattr__"=some (some (.builtin "object.__setattr__"))
 hd:PySem.W.hasDictIn K C=true
 sb:PySem.W.mroIn K C (.type "BaseException")=some true
 ob:PySem.W.mroIn K C (.type "object")=some true
variable{expr:Bool}{tk:Tok}
section
variable{P:bg}{w:bH}{A:cJ}{E:Value->ah->Prop}{s:ah}{K:PySem.W.Frag}{x C:Addr}{ox:Obj}{od:Option Obj}{name:Str}
theorem CP{P':Value->ah->Prop}{fill:Bool}(X:K.In s.heap)(I:PySem.W.InstAt s.heap x ox C od)(c:vY K C)(hv:PySem.W.handedIn v=true)
  (h:az (aA P w) A.in1 (IK.«object.__getattribute__» ⟨[.ref x,.str name tk],[]⟩) (fun fin s'=>fin=.done (.ret v)/\P' v s') (fun _ _=>False) s) :
  az (aA P w) A (getAttrBy (.ref x) (.str name tk) fill expr) P' E s:=by
 obtain⟨hh,g,d,t,os⟩:=s;have L0:=I.type (M:=aA P w);have L1:=PySem.W.looks_findIn (M:=aA P w) X c.ga;have L2:=PySem.W.looks_findIn (M:=aA P w) X c.gt;have hs:PySem.W.Looks (aA P w) hh (Bk (.ref x) (.type "BaseException")) true:=L0.andThen (PySem.W.looks_mroIn X c.sb);unfold getAttrBy;refine f_ (ao (L0.at (ao (L1.at ?_))));have hne:(onTheHeap (a8 C)&&pD "BaseException.__getattribute__"==pD "object.__getattribute__")=false:=by
  rw[show(pD "BaseException.__getattribute__"==pD "object.__getattribute__")=false from by decide +kernel,om]
 dsimp only;rw[hne,if_neg aE];unfold getAttrByItsOwn hookBefore;refine ao (L2.at ?_);refine ao (DX (f_ ?_));unfold callGetattribute;rw[if_neg (by cases expr<;>exact aE)];unfold boundAndCalled;rw[PySem.F.attr_ValueError.ga.bind];refine ao (aX (kY ?_));show jF (aA P w) A (.call (.builtin "BaseException.__getattribute__") ⟨[.ref x,.str name tk],[]⟩) _ _;have k1:builtinKind "BaseException.__getattribute__"=some .slot:=by decide +kernel
 have k2:splitId "BaseException.__getattribute__"=some ("BaseException","__getattribute__"):=by decide +kernel
 refine nE PySem.F.attr_ValueError.ga.plain PySem.F.entry_bexc_ga (@PySem.W.check_slot (aA P w) _ _ ⟨hh,g,d,t,os⟩ "BaseException.__getattribute__" "BaseException" "__getattribute__" (.ref x) [.str name tk] [] _ k1 k2 hs (PySem.F.args_bexc_ga (.ref x) (.str name tk)) ?_);refine cU h (fun fin s' z=>?_) fun _ _ z=>z.elim;obtain⟨rfl,z⟩:=z;show az _ _ (handedOut v) _ _ _;rw[PySem.W.handedOut_of hv];exact aX z
theorem Yl{Q:Value->ah->Prop}(X:K.In s.heap)(I:PySem.W.InstAt s.heap x ox C od)(c:vY K C)(hf:PySem.W.findObj K C od name=some (.value v))(hv:PySem.W.handedIn v=true)
  (h:Q v { s with toks:=s.toks+1 }):az (aA P w) A (ug (.ref x) name expr) Q E s:=by
 unfold ug;refine ao (GD ?_);refine CP (s:={ s with toks:=s.toks+1 }) X I c hv ?_;obtain⟨hh,g,d,t,os⟩:=s;have L0:=I.type (M:=aA P w);have L1:=PySem.W.looks_find (M:=aA P w) X I hf;refine ao (aX (ao (aX (ao (L0.at (ao (L1.at ?_)))))));exact aX ⟨rfl,h⟩
theorem UN(c:vY K C)(ha:PySem.W.findIn K (.ref C) "__class__"=some (some (.builtin "object.__class__")))
  (hn:PySem.W.specialIn K (.builtin "object.__class__") "__get__"=some (some (.builtin "getset_descriptor.__get__"))) (htk:PySem.W.takesIn K (.builtin "object.__class__")=some true) :
  PySem.W.KitX K (.ref x) (.ref C) (fun h=>PySem.W.InstAt h x ox C od) where
 ty:=fun _ _ _ I=>I.type
 it:=fun M h X _=>by
  obtain⟨cd,hc,_⟩:=PySem.W.any_some c.hd;unfold PySem.W.clsIn at hc;split at hc
  ·rename_i ho;intro A' Q' E' s' k q;unfold isType loadHead;exact ao (uo (k _ _ (X _ _ ho)) (aX q))
  ·cases hc
 ne:=fun h tp dd its n sl X htp=>by
  obtain⟨cd,hc,_⟩:=PySem.W.any_some c.hd;refine Bool.eq_false_iff.mpr fun z=>?_;cases T3 (beq_iff_eq.mp z);unfold PySem.W.clsIn at hc;split at hc
  ·rename_i ho;have z:=(X _ _ ho).symm.trans htp;cases z
  ·cases hc
 ca:=fun{P w A E Q s} X I k=>by
  have hf:PySem.W.findObj K C od "__class__"=some (.bind (.builtin "getset_descriptor.__get__") (.builtin "object.__class__")):=by
   obtain⟨cd,hc,_⟩:=PySem.W.any_some c.hd;unfold PySem.W.findObj;rw[hc,Option.bind_some,ha];simp[hn,htk]
  unfold getAttr?;refine ao (GD ?_);unfold getAttrBy?;refine ao (DX ?_);refine CP (s:={ s with toks:=s.toks+1 }) (v:=.ref C) X I c rfl ?_;obtain⟨hh,g,d,t,os⟩:=s;have L0:=I.type (M:=aA P w);have L1:=PySem.W.looks_find (M:=aA P w) X I hf;refine ao (aX (ao (aX (ao (L0.at (ao (L1.at ?_)))))));show az _ _ (mK [_] (call _ [_,.ref x,.ref C]) >>= ret) _ _ _;refine ao (f_ (kY (PySem.W.class_get (s:=⟨hh,g,d,t+1,os⟩) (ox:=ox) (od:=od) X I c.ob ?_)));exact aX ⟨rfl,aX k⟩
noncomputable def tT:List Value->Bool
|.ref _::r=>tT r
|l=>l==[.type "ValueError",.type "Exception",.type "BaseException",.type "object"]
theorem Sa(self:Value):Kq self "__setattr__" [.type "ValueError",.type "Exception",.type "BaseException",.type "object"]=pure ():=by kernel_rfl
theorem K1(self:Value):∀(l:List Value),tT l=true->Kq self "__setattr__" l=pure ():=by
 intro l;induction l with
 |nil=>intro e;cases e
 |cons v r ih=>
  intro e;unfold tT at e;split at e
  ·rename_i z;cases z;rw[refuseLoop_ref];exact ih e
  ·rw[beq_iff_eq.mp e];exact Sa self
theorem UO{R:A_->ah->Prop}(X:K.In s.heap)(I:PySem.W.InstAt s.heap x ox C od)(c:vY K C)(hm:(PySem.W.clsIn K C).any (fun cd=>tT cd.mro)=true)(hf:PySem.W.findIn K (.ref C) name=some none)
  (h:az (aA P w) A.in1 (ir (.ref x) (.ref C) (.str name tk) name v false)
   (fun fin s'=>match fin with|.done f=>R (.ok f) s'|.again c'=>c'.quiet=true/\jF (aA P w) A c' R s') (fun e s'=>R (.error e) s') s) :
  jF (aA P w) A (.call (.builtin "object.__setattr__") ⟨[.ref x,.str name tk,v],[]⟩) R s:=by
 have SF:=PySem.F.store_object;obtain⟨cd,hc,ho⟩:=PySem.W.any_some hm;have sub:PySem.W.Looks (aA P w) s.heap (Bk (.ref x) (.type "object")) true:=I.type.andThen (PySem.W.looks_mroIn X c.ob);have lm:PySem.W.Looks (aA P w) s.heap (mroOf (.ref C)) cd.mro:=(PySem.W.looks_clsIn X hc).andThen .now;refine nE SF.slot.plain SF.entry (@PySem.W.check_slot (aA P w) _ _ s "object.__setattr__" "object" "__setattr__" (.ref x) [.str name tk,v] [] _ SF.kind SF.split sub (SF.args (.ref x) (.str name tk) v) ?_);rw[PySem.W.osa_eq,refuse_eq];refine ao (ao (I.type.here (ao (lm.here ?_))));rw[K1 _ _ ho];exact aX (ao (I.type.here (ao ((PySem.W.looks_findIn X hf).here (ao (aX h))))))
end
def Q6(m:Bool)(e C:Addr)(od:Option Addr)(h:Heap):Prop:=∃oe vs,h.get? e=some oe/\oe.cls=.ref C/\oe.dict=od/\oe.data=.fields vs/\(vs.size=6/\(m=true->vs[1]?=some .none))
def UP(d:Addr)(fs:List (Str×V))(h:Heap):Prop:=∃mA,h.Ns1 d mA/\(∀f,ki (fs.lookup f) (mA f))/\PySem.Within mA (fs.map (·.1))/\fs.length<=1000
noncomputable def gz(m:Bool)(e C:Addr)(od:Option Addr):HO:=.ext (Q6 m e C od)
noncomputable def gq(d:Addr)(fs:List (Str×V)):HO:=.ext (UP d fs)
theorem EE(x:Q6 m e C od h):dP P w H h e (gz m e C od):=by
 refine⟨x,?_,?_⟩
 ·obtain⟨oe,_,h1,_⟩:=x;exact⟨oe,h1⟩
 ·rintro h1 h2 ⟨oe,vs,q1,q⟩ k;exact⟨oe,vs,k _ q1,q⟩
variable{d:Addr}{fs:List (Str×V)}
theorem EF(x:UP d fs h):dP P w H h d (gq d fs):=by
 refine⟨x,?_,?_⟩
 ·obtain⟨mA,⟨o,_,_,h1,_⟩,_⟩:=x;exact⟨o,h1⟩
 ·rintro h1 h2 ⟨mA,n,q⟩ k;exact⟨mA,n.at k,q⟩
theorem xZ(ok:eY P w H h)(q:H e=some (gz m e C od)):Q6 m e C od h:=(show dP P w H h e (gz m e C od)from ok e _ q).1
theorem D7(ok:eY P w H h)(q:H d=some (gq d fs)):UP d fs h:=(show dP P w H h d (gq d fs)from ok d _ q).1
structure tU (K:PySem.W.Frag) (C:Addr):Prop extends vY K C where
 tl:(PySem.W.clsIn K C).any (fun cd=>tT cd.mro)=true
variable{u:Value}
section
variable{X:Cx}{pins:List (Addr×Obj)}{O:St}{H:Hp}{s:ah}{e C:Addr}{f:Str}{A:cJ}{E:Value->ah->Prop}
theorem WA{y:V}(I:Inv X pins O H s)(q:H e=some (gz m e C none))(c:tU X.K C)(n:iU X.K C f)(ry:RelV y u)
  (h:∀d s',H d=none->Inv X pins O (upd (upd H d (gq d [(f,y)])) e (gz m e C (some d))) s'->Q () s'):az (aA X.prog X.w) A (setAttr (.ref e) f u) Q E s:=by
 obtain⟨oe,vs,he,hc,hdi,hd,hz⟩:=xZ I.hok q;have J:PySem.W.InstAt s.heap e oe C none:=⟨he,hc,by unfold PySem.W.notCls;rw[hd],by rw[hdi];trivial⟩;refine PySem.W.set_plain I.fK J c.sa (UO (s:={ s with toks:=s.toks+1 }) I.fK J c.tovY c.tl n ?_);obtain⟨cd,hcd,hhd⟩:=PySem.W.any_some c.hd;obtain⟨oc,odi,oda,osl⟩:=oe;dsimp only at hc hdi hd;subst hc hdi hd;unfold ir;refine ao (aX (ao ?_));unfold kZ GF;refine ao (uo he (ao (PySem.W.Looks.here (s:={ s with toks:=s.toks+1 }) (PySem.W.looks_clsIn I.fK hcd) ?_)));dsimp only;rw[hhd];refine ao (Hs ?_);have e1:(s.heap.push PySem.W.emptyDict).get? s.heap.objs.size=some PySem.W.emptyDict:=bu s.heap rfl;have e3:(s.heap.push PySem.W.emptyDict).Ns1 s.heap.objs.size (fun _=>none):=Ng ⟨PySem.W.emptyDict,#[],_,e1,rfl,(fun e he=>absurd he (by simp)),fun _=>rfl⟩;have hn:H s.heap.objs.size=none:=I.hok.fresh (aM _);have hne:e≠s.heap.objs.size:=bw (aP he);have he1:=aF (h:=s.heap) PySem.W.emptyDict he;have I1:=I.laid (a:=s.heap.objs.size) (o:=gq s.heap.objs.size []) (h':=s.heap.push PySem.W.emptyDict) (t':=s.toks+1) (fun b u q=>aF _ q) (aM _)
  (EF ⟨fun _=>none,e3,fun _=>trivial,fun y hy=>absurd rfl hy,j6 _⟩)
 refine ao (wpAny_update he1 (aX ?_));have he2:=mL (h:=s.heap.push PySem.W.emptyDict) (fun o=>{ o with dict:=some s.heap.objs.size }) he1 rfl;have other:∀b,b≠e->((s.heap.push PySem.W.emptyDict).update e fun o=>{ o with dict:=some s.heap.objs.size }).get? b=(s.heap.push PySem.W.emptyDict).get? b:=fun b hb=>dZ _ _ (cK hb);have q1:(upd H s.heap.objs.size (gq s.heap.objs.size [])) e=some (gz m e C none):=by rw[aS hne];exact q
 have I2:=I1.write (x:=e) (e:=e) (o:=gz m e C (some s.heap.objs.size)) (h':=(s.heap.push PySem.W.emptyDict).update e fun o=>{ o with dict:=some s.heap.objs.size }) (t':=s.toks+1)
  (by rw[q1];exact dS) (.inl rfl) (fun b u hb z=>(other b hb).trans z) ⟨_,he2⟩ (EE ⟨_,vs,he2,rfl,rfl,rfl,hz⟩)
 have n2:=e3.at (h':=(s.heap.push PySem.W.emptyDict).update e fun o=>{ o with dict:=some s.heap.objs.size }) fun o z=>(other _ (cK hne)).trans z;dsimp only;unfold nF;refine ao (aX (ao (GG (s:={ s with heap:=(s.heap.push PySem.W.emptyDict).update e fun o=>{ o with dict:=some s.heap.objs.size },toks:=s.toks+1 }) n2 fun h' n3 sb=>?_)));have wi:PySem.Within (fun x=>if x=f then some u else none) [f]:=fun y hy=>by
  by_cases z:y=f
  ·rw[z];exact aU.mpr rfl
  ·exact absurd (if_neg z) hy
 obtain⟨oD,esD,epD,hoD,hdD,hcD⟩:=n3.count wi;refine ao (Ab hoD (by rw[hdD];exact Ac (dH hcD (by rw[dM];simp))) ?_);refine aX (h s.heap.objs.size _ hn ?_);have q2:(upd (upd H s.heap.objs.size (gq s.heap.objs.size [])) e (gz m e C (some s.heap.objs.size))) s.heap.objs.size=some (gq s.heap.objs.size []):=by rw[aS (cK hne),bO]
 have I3:=I2.write (x:=s.heap.objs.size) (e:=s.heap.objs.size) (o:=gq s.heap.objs.size [(f,y)]) (h':=h') (t':=s.toks+2) (by rw[q2];exact dS) (.inl rfl) (fun b u hb z=>(sb.2 b hb).trans z) ⟨oD,hoD⟩
  (EF ⟨_,n3,fun g=>?_,wi,by simp⟩)
 ·have eH:upd (upd (upd H s.heap.objs.size (gq s.heap.objs.size [])) e (gz m e C (some s.heap.objs.size))) s.heap.objs.size (gq s.heap.objs.size [(f,y)])=upd (upd H s.heap.objs.size (gq s.heap.objs.size [(f,y)])) e (gz m e C (some s.heap.objs.size)):=by
   funext b;by_cases z:b=s.heap.objs.size
   ·subst z;rw[bO,aS (cK hne),bO]
   ·rw[aS z];by_cases z2:b=e
    ·subst z2;rw[bO,bO]
    ·rw[aS z2,aS z2,aS z,aS z]
  rw[eH]at I3;exact I3
 ·have:=ow f g y [];show ki ((gQ f y []).lookup g) _;rw[this];by_cases z:g=f
  ·rw[if_pos z,if_pos z];exact ry
  ·rw[if_neg z,if_neg z];trivial
theorem WB{y:V}(I:Inv X pins O H s)(q:H e=some (gz m e C (some d)))(qd:H d=some (gq d fs))(c:tU X.K C)(n:iU X.K C f)(hl:fs.length<1000)(ry:RelV y u)
  (h:∀s',Inv X pins O (upd H d (gq d (gQ f y fs))) s'->Q () s'):az (aA X.prog X.w) A (setAttr (.ref e) f u) Q E s:=by
 obtain⟨oe,vs,he,hc,hdi,hd,hz⟩:=xZ I.hok q;obtain⟨mA,n1,rl,wi,_⟩:=D7 I.hok qd;obtain⟨od,ho,_⟩:=oJ n1;have J:PySem.W.InstAt s.heap e oe C (some od):=⟨he,hc,by unfold PySem.W.notCls;rw[hd],by rw[hdi];exact ho⟩;refine PySem.W.set_plain I.fK J c.sa (UO (s:={ s with toks:=s.toks+1 }) I.fK J c.tovY c.tl n ?_);obtain⟨cd,hcd,hhd⟩:=PySem.W.any_some c.hd;obtain⟨oc,odi,oda,osl⟩:=oe;dsimp only at hc hdi hd;subst hc hdi hd;unfold ir;refine ao (aX (ao ?_));unfold kZ GF;refine ao (uo he (ao (PySem.W.Looks.here (s:={ s with toks:=s.toks+1 }) (PySem.W.looks_clsIn I.fK hcd) ?_)));dsimp only;rw[hhd];refine aX ?_;dsimp only;unfold nF;refine ao (aX (ao (GG (s:={ s with toks:=s.toks+1 }) n1 fun h' n3 sb=>?_)));obtain⟨oD,esD,epD,hoD,hdD,hcD⟩:=n3.count (PySem.Within.cons f u wi);refine ao (Ab hoD (by rw[hdD];exact Ac (dH hcD (by rw[aN,aH,dM];omega))) ?_);refine aX (h _ ?_);refine I.write (x:=d) (e:=d) (o:=gq d (gQ f y fs)) (h':=h') (t':=s.toks+2) (by rw[qd];exact dS) (.inl rfl) (fun b u hb z=>(sb.2 b hb).trans z) ⟨oD,hoD⟩ (EF ⟨_,n3,fun g=>?_,fun g hg=>?_,by have:=sP f y fs;omega⟩)
 ·rw[ow];by_cases z:g=f
  ·rw[if_pos z,if_pos z];exact ry
  ·rw[if_neg z,if_neg z];exact rl g
 ·have hg:(if g=f then some u else mA g)≠none:=hg;have key:(gQ f y fs).lookup g≠none:=by
   rw[ow];by_cases z:g=f
   ·rw[if_pos z];exact fun k=>nomatch k
   ·rw[if_neg z]at hg ⊢;intro k;have:=rl g;rw[k]at this;cases w:mA g with
    |none=>exact hg w
    |some v=>rw[w]at this;exact this
  cases k:(gQ f y fs).lookup g with
  |none=>exact absurd k key
  |some v=>exact ck.mpr ⟨(g,v),PySem.mem_of_lookup k,rfl⟩
theorem Sb{v:V}{b:Bool}{Q:Value->ah->Prop}(I:Inv X pins O H s)(q:H e=some (gz m e C (some d)))(qd:H d=some (gq d fs))(c:vY X.K C)(n:iU X.K C f)(l:fs.lookup f=some v)
  (h:∀u s',Inv X pins O H s'->RelV v u->Q u s'):az (aA X.prog X.w) A (ug (.ref e) f b) Q E s:=by
 obtain⟨oe,vs,he,hc,hdi,hd,hz⟩:=xZ I.hok q;obtain⟨mA,n1,rl,wi,_⟩:=D7 I.hok qd;obtain⟨od,ho,hlk⟩:=oJ n1;have J:PySem.W.InstAt s.heap e oe C (some od):=⟨he,hc,by unfold PySem.W.notCls;rw[hd],by rw[hdi];exact ho⟩;obtain⟨u,hu,ru⟩:=ki.some_of (v:=v) (o:=mA f) (by rw[<-l];exact rl f);exact Yl I.fK J c (PySem.W.findObj_own c.hd n rfl (by rw[hlk,hu])) (Cw ru) (h u _ (I.tok _) ru)
end
section
variable{X:Cx}{C:Addr}{f:Str}{o value:Expr}{ta tv:TE}{pos pos':Pos}
def Q7(C:Addr)(f:Str)(ta tv:TE):TS:=fun D O H=>tv O H fun y H1=>ta O H1 fun x H2=>∃m e,x=.ref e /\
 ((H2 e=some (gz m e C none)/\∀d,H2 d=none->D.nx O (upd (upd H2 d (gq d [(f,y)])) e (gz m e C (some d)))) \/
  ∃d fs,H2 e=some (gz m e C (some d))/\H2 d=some (gq d fs)/\fs.length<1000/\D.nx O (upd H2 d (gq d (gQ f y fs))))
theorem Sd(c:tU X.K C)(n:iU X.K C f)(ha:PE X o ta)(hv:PE X value tv)(hs:mJ value (some (.Attribute o f pos')) pos.line X.env=pure false):PS X (.Assign [.Attribute o f pos'] value pos) (Q7 C f ta tv):=by
 intro pins s O H D I h;refine plainObj_wpAny_Assign_Attribute (aR (hv pins s O H _ I h) fun u s1 ⟨y,H1,I1,ry,q⟩=>aR (ha pins s1 O H1 _ I1 q) fun ov s2 ⟨x,H2,I2,rx,m,e,ex,q2⟩=>?_) hs;subst ex;obtain rfl:ov=a8 e:=rx;rcases q2 with⟨q3,q4⟩|⟨d,fs,q3,q4,q5,q6⟩
 ·exact WA I2 q3 c n ry fun d s3 hd I3=>⟨O,_,I3,q4 d hd⟩
 ·exact WB I2 q3 q4 c n q5 ry fun s3 I3=>⟨O,_,I3,q6⟩
end
noncomputable def qx(N:List Str):List (Str×Nat)->List Stmt->Bool
|[],[]=>true
|(f,j)::r,.Assign [.Attribute (.Name a _) g _] (.Name b _) _::sts=>decide (N[0]?=some a)&&decide (N[j]?=some b)&&decide (f=g)&&qx N r sts
|_,_=>false
def D8(C:Addr):List (Str×Nat)->TS
|[]=>fun D O H=>D.nx O H
|(f,j)::r=>fun D O H=>Q7 C f (Nk 0) (Nk j) { D with nx:=D8 C r D } O H
variable{X:Cx}
theorem EG(c:tU X.K C)(hv:∀x∈X.N,Cq X.env.scope x/\(x==("__debug__":Str))=false/\(x==("__classdict__":Str))=false):∀(fs:List (Str×Nat)) (sts:List Stmt),(∀p∈fs,iU X.K C p.1)->qx X.N fs sts=true->mP X sts (D8 C fs)
|[],[],_,_=>Hv
|[],_::_,_,h=>by cases h
|(f,j)::r,sts,n,h=>by
 unfold qx at h;split at h
 ·rename_i h1;cases h1
 ·rename_i f' j' r' a pa g pg b pb ps sts' h1;cases h1;simp only[bx,decide_eq_true_eq]at h;obtain⟨⟨⟨h2,h3⟩,h4⟩,h5⟩:=h;subst h4;have va:=hv a (fU h2);have vb:=hv b (fU h3);exact uA (Sd c (n (f,j) aq) (Eo h2 va.1 va.2.1 va.2.2) (Eo h3 vb.1 vb.2.1 vb.2.2) rfl) (EG c hv r sts' (fun p hp=>n p (ai _ hp)) h5)
 ·cases h
noncomputable def k_:List (Str×Nat)->List V->List (Str×V)->List (Str×V)
|[],_,acc=>acc
|(f,j)::r,vs,acc=>k_ r vs (gQ f (vs.getD j .non) acc)
noncomputable def vZ(C:Addr)(fs:List (Str×Nat))(n:Nat):Sp:=fun vs H Q _=>vs.length=n/\∃e vr,vs=.ref e::vr/\H e=some (gz true e C none)/\∀d,H d=none->Q .non (upd (upd H d (gq d (k_ fs vs []))) e (gz true e C (some d)))
theorem NH{a b c:HO}(h:d≠e):upd (upd (upd H d a) e b) d c=upd (upd H d c) e b:=by
 funext x;by_cases z:x=d
 ·subst z;rw[bO,aS h,bO]
 ·rw[aS z];by_cases z2:x=e
  ·subst z2;rw[bO,bO]
  ·rw[aS z2,aS z2,aS z,aS z]
variable{O:St}{vs:List V}
theorem CQ{D:Ends}(hde:d≠e)(h0:O[0]?=some (some (.ref e))):∀(fs:List (Str×Nat)) (acc:List (Str×V)),(∀p∈fs,∃v,O[p.2]?=some (some v)/\vs.getD p.2 .non=v)->acc.length+fs.length<=1000->
 D.nx O (upd (upd H d (gq d (k_ fs vs acc))) e (gz true e C (some d)))->D8 C fs D O (upd (upd H d (gq d acc)) e (gz true e C (some d)))
|[],acc,_,_,h=>h
|(f,j)::r,acc,hv,hl,h=>by
 obtain⟨v,h1,h2⟩:=hv (f,j) aq;have h2:vs.getD j .non=v:=h2;simp only[aN]at hl;refine⟨v,h1,.ref e,h0,true,e,rfl,.inr ⟨d,acc,bO,by rw[aS hde,bO],by omega,?_⟩⟩;rw[NH hde];refine CQ hde h0 r _ (fun p hp=>hv p (ai _ hp)) ?_ ?_
 ·have:=sP f v acc;omega
 ·have h:D.nx O (upd (upd H d (gq d (k_ r vs (gQ f (vs.getD j .non) acc)))) e (gz true e C (some d))):=h;rw[h2]at h;exact h
variable{fd:eW}{ps:List Str}
theorem Se{st:Stmt}{fa:Addr}{fs:List (Str×Nat)}(F:pJ K "__init__" qual st fa fd)(S:kO ps ps (bT st))(c:tU K C)(hn:∀p∈fs,iU K C p.1)
  (hc:qx ps fs (fE st)=true) (hd:∀x∈ps,(x==("__debug__":Str))=false/\(x==("__classdict__":Str))=false) (hj:∀p∈fs,p.2<ps.length) (hl:fs.length<=900) (h0:0<fs.length):eV P w K mg base yK 1 fa fd ps (vZ C fs ps.length):=by
 refine F.ok S (fun vs H Q E h=>h.1) fun cdv A outer s H vs Q E hr hsp=>⟨D8 C fs,?_,?_⟩
 ·refine EG (X:=(j7 yK P w K mg base ps qual (bT st) fa cdv A outer s H E).vS) c (fun x hx=>⟨?_,hd x hx⟩) fs _ hn hc;rcases S.par x hx with z|z
  ·exact .inl z
  ·exact .inr (.inl z)
 ·obtain⟨hlen,e,vr,rfl,he,q⟩:=hsp;have hst:∀j,j<ps.length->∃v,(start ps (.ref e::vr))[j]?=some (some v)/\(V.ref e::vr).getD j .non=v:=fun j hj=>by
   have hj':j<(V.ref e::vr).length:=by rw[hlen];exact hj
   refine⟨(V.ref e::vr)[j],?_,?_⟩
   ·unfold start;rw[eE (by rw[aH];exact hj'),bL,aG hj'];rfl
   ·rw[dX,aG hj'];rfl
  match fs,hj,hl,h0,q with
  |(f,j)::r,hj,hl,h0,q=>
   obtain⟨v,h1,h2⟩:=hst j (hj (f,j) aq);refine⟨v,h1,.ref e,rfl,true,e,rfl,.inl ⟨he,fun d hd=>?_⟩⟩;have hde:d≠e:=fun z=>by rw[z,he]at hd;cases hd
   have q:=q d hd;simp only[k_]at q;rw[h2]at q;refine CQ (vs:=.ref e::vr) hde rfl r [(f,v)] (fun p hp=>hst p.2 (hj p (ai _ hp))) ?_ q;simp only[aN,fW]at hl ⊢;omega
noncomputable def x_(H:Hp)(b:Addr):Hp:=fun c=>if c=b then none else H c
variable{b c:Addr}
theorem lX(h:c≠b):x_ H b c=H c:=if_neg h
theorem As:x_ H b b=none:=if_pos rfl
theorem pY(h:H c=none):x_ H b c=none:=by
 unfold x_;split
 ·rfl
 ·exact h
variable{pins:List (Addr×Obj)}
theorem Inv.drop{φ:Heap->Prop}(I:Inv X pins O H s)(hx:H b=some (.ext φ)):Inv X pins O (x_ H b) s:=by
 have ne:∀c o,H c=some o->(∀ψ,o≠.ext ψ)->c≠b:=fun c o q n z=>by subst z;rw[hx]at q;cases q;exact n φ rfl
 refine⟨I.ok,I.os,I.bare,⟨I.base.keep,I.base.slot,fun c o q n x=>pY (I.base.free c o q n x),I.base.there,fun c xs q=>?_,fun c o u q=>?_,fun c ps q=>?_⟩,I.loc,I.cell,pY I.free,fun x c q=>pY (I.freeC x c q),fun p hp=>?_,fun a o q=>?_,I.len⟩
 ·have z:=I.base.tups c xs q;rw[lX (ne c _ z fun _ k=>nomatch k)];exact z
 ·have z:=I.base.aC c o u q;rw[lX (ne c _ z fun _ k=>nomatch k)];exact z
 ·obtain⟨more,z⟩:=I.base.tbls c ps q;exact⟨more,by rw[lX (ne c _ z fun _ k=>nomatch k)];exact z⟩
 ·obtain⟨h1,h2,h3⟩:=I.pin p hp;exact⟨h1,pY h2,h3⟩
 ·have hab:a≠b:=fun z=>by subst z;rw[As]at q;cases q
  rw[lX hab]at q;refine(I.hok a o q).stay (fun _ _ _ z=>z) (fun c z=>?_) fun c xs z=>?_
  ·rw[lX (ne c _ z fun _ k=>nomatch k)];exact z
  ·rw[lX (ne c _ z fun _ k=>nomatch k)];exact z
structure EH (K:PySem.W.Frag) (C fI:Addr):Prop extends tU K C where
 ini:PySem.W.findIn K (.ref C) "__init__"=some (some (.ref fI))
 fn:PySem.W.typeIn K (.ref fI)=some (.type "function")
 kp:PySem.W.keepIn K (.ref C)=true
 cls:∃nm q N bs B hdct sn sub ab col dd k0 k1 k2 k3 k5,K.lookup C=some (ig nm q C N bs (.ref B::[.type "ValueError",.type "Exception",.type "BaseException",.type "object"]) hdct sn sub ab col dd k0 k1 k2 k3 k5 "ValueError.__new__") /\
  ∃c0 dB cd sl c1 d1 es ep s1,K.lookup B=some ⟨c0,dB,.cls cd,sl⟩/\K.lookup cd.ns=some ⟨c1,d1,.dict es ep,s1⟩/\(es.all fun e=>match e.key with|.str _ _=>true|_=>false)=true/\A9 es "__init__"=none
theorem EH.at{fI:Addr}(c:EH K C fI)(X:K.In h):∃nm q N bs bm hdct sn sub ab col dd k0 k1 k2 k3 k5,h.get? C=some (ig nm q C N bs bm hdct sn sub ab col dd k0 k1 k2 k3 k5 "ValueError.__new__") /\
  IL h [.type "ValueError",.type "Exception",.type "BaseException",.type "object"] bm/\bm.contains (.type "BaseException")=true:=by
 obtain⟨nm,q,N,bs,B,hdct,sn,sub,ab,col,dd,k0,k1,k2,k3,k5,l,c0,dB,cd,sl,c1,d1,es,ep,s1,l1,l2,a,n⟩:=c.cls;refine⟨nm,q,N,bs,_,hdct,sn,sub,ab,col,dd,k0,k1,k2,k3,k5,X _ _ l,.own (mA:=fun x=>A9 es x) (X _ _ l1) ⟨_,es,ep,X _ _ l2,rfl,fun e he=>?_,fun _=>rfl⟩ n .base,by
  rw[kM,show([Value.type "ValueError",.type "Exception",.type "BaseException",.type "object"].contains (.type "BaseException"))=true from by decide +kernel,rB]⟩
 have:=Array.all_eq_true_iff_forall_mem.mp a e he;cases k:e.key with
 |str x t=>exact⟨x,t,rfl⟩
 |_=>rw[k]at this;cases this
variable{M:Kc}
variable{us:List Value}
variable{k:Nat}
variable{x:Str}{a:Expr}{as:List Expr}{ta:TA}{np pos:Pos}
section
variable{X:Cx}{C fI:Addr}
theorem UQ{env:Env}{x:Sem Value}{Q:Flow->ah->Prop}{nm q:Str}{N:Addr}{bs bm:List Value}{hdct:Bool}{sn:List Str}{sub:List Value}{ab:Bool}{col:Option Bool}{dd:Option Addr}{k0 k1 k2 k3 k5:Option Value}{newId:String}
  (hb:bm.contains (.type "BaseException")=true) (hh:A.handled=none)
  (h:az M A x (fun v Zf=>∃e od vs sl,v=.ref e/\Zf.heap.get? C=some (ig nm q C N bs bm hdct sn sub ab col dd k0 k1 k2 k3 k5 newId)/\Zf.heap.get? e=some ⟨.ref C,od,.fields vs,sl⟩/\vs[1]?=some .none/\E (.ref e) Zf) E s) :
  az M A (raiseStmt env (some x) none) Q E s:=by
 have hcB:(a8 C::bm).contains (.type "BaseException")=true:=by rw[kM,hb,rB]
 unfold raiseStmt;refine ao (cU h (fun v Zf Zk=>?_) fun _ _ x=>x);obtain⟨e,od,vs,sl,rfl,hC,he,h1,hE⟩:=Zk;obtain⟨hp,g,d,tk,os⟩:=Zf
 repeat (first
  |with_reducible refine f6 he ?_
  |with_reducible refine f6 hC ?_
  |(with_reducible refine nQ hC ?_;rw[hcB])
  |wp_step)
 rw[h1];exact aX (aX (wpAny_raiseNew_none hh hE))
theorem Inv.WC(I:Inv X pins O H s):Inv X pins O (upd H (s.heap.objs.size+1) (gz true (s.heap.objs.size+1) C none)) { s with heap:=(s.heap.push (yM us)).push (yL C s.heap.objs.size) }:=by
 have I1:Inv X pins O H { s with heap:=s.heap.push (yM us) }:=I.kept (t':=s.toks) fun b u q=>aF _ q;have e2:((s.heap.push (yM us)).push (yL C s.heap.objs.size)).get? (s.heap.objs.size+1)=some (yL C s.heap.objs.size):=by
  have:=bu (s.heap.push (yM us)) (o:=yL C s.heap.objs.size) rfl;rwa[eU]at this
 exact I1.laid (a:=s.heap.objs.size+1) (t':=s.toks) (fun b u q=>aF _ q) (xQ (eU _ _)) (EE ⟨_,_,e2,rfl,rfl,rfl,rfl,fun _=>rfl⟩)
theorem K3{fs:List (Str×Nat)}{Q:Value->ah->Prop}(c:EH X.K C fI)(F:eV X.prog X.w X.K X.mg X.base yK k fI fd ps (vZ C fs ps.length))(hr:gy (k+1) X.A)
  (hb:Binds X.K fd ps []) (I:Inv X pins O H s) (r:bh vs us) (hl:vs.length+1=ps.length) (hps:ps.length<=1000)
  (h:∀d s',H d=none->Inv X pins O (upd (upd (upd H (s.heap.objs.size+1) (gz true (s.heap.objs.size+1) C none)) d (gq d (k_ fs (.ref (s.heap.objs.size+1)::vs) []))) (s.heap.objs.size+1) (gz true (s.heap.objs.size+1) C (some d))) s'->d≠s.heap.objs.size+1->Q (.ref (s.heap.objs.size+1)) s') :
  az (aA X.prog X.w) X.A (call (.ref C) us) Q X.xe s:=by
 obtain⟨nm,q,N,bs,bm,hdct,sn,sub,ab,col,dd,k0,k1,k2,k3,k5,hC,T,hbase⟩:=c.at I.fK;have I2:=I.WC (C:=C) (us:=us);have lus:us.length=vs.length:=r.length.symm;have hz:us.length<=aa:=by
  rw[dM];omega
 obtain⟨hh,g,d,t,os⟩:=s;refine UM PySem.F.excBase_ValueError T hC I.fK c.ini c.fn hz ?_;have r2:bh (V.ref (hh.objs.size+1)::vs) (a8 (hh.objs.size+1)::us):=.cons rfl r;have hl2:(a8 (hh.objs.size+1)::us++[]).length=ps.length:=by simp;omega
 have sp:vZ C fs ps.length (V.ref (hh.objs.size+1)::vs) (upd H (hh.objs.size+1) (gz true (hh.objs.size+1) C none)) (fun v H2=>v=.non/\∃d,H d=none/\d≠hh.objs.size+1/\H2=upd (upd (upd H (hh.objs.size+1) (gz true (hh.objs.size+1) C none)) d (gq d (k_ fs (.ref (hh.objs.size+1)::vs) []))) (hh.objs.size+1) (gz true (hh.objs.size+1) C (some d))) E0:=by
  refine⟨by simp;omega,_,_,rfl,bO,fun d hd=>⟨rfl,d,?_,?_,rfl⟩⟩
  ·by_cases z:d=hh.objs.size+1
   ·subst z;rw[bO]at hd;cases hd
   ·rw[aS z]at hd;exact hd
  ·intro z;subst z;rw[bO]at hd;cases hd
 refine kY (iF (F.run _ X.stack _ _ ⟨a8 (hh.objs.size+1)::us,[]⟩ (a8 (hh.objs.size+1)::us) _ _ E0 (hr.make C us []) (I2.Ny.make C us []) (by have:=hb _ (a8 (hh.objs.size+1)::us) I2.fK hl2;rwa[gO]at this) r2 sp) fun r s' hq'=>?_);cases r with
 |error e=>exact hq'.elim
 |ok fl=>
  cases fl with
  |ret u=>
   obtain⟨v,H3,I3,rv,rfl,d,hd,hde,rfl⟩:=I2.after hq';cases(show u=c_ from rv);exact⟨rfl,h d s' hd I3 hde⟩
  |next=>exact ak hq'
  |brk=>exact ak hq'
  |cont=>exact ak hq'
theorem EI{a b:V}:∀(fs:List (Str×Nat)) (acc:List (Str×V)),(∀p∈fs,1<=p.2)->k_ fs (a::vs) acc=k_ fs (b::vs) acc
|[],_,_=>rfl
|(f,j)::r,acc,h=>by
 have hj:1<=j:=h (f,j) aq
 match j,hj with
 |j+1,_=>
  show k_ r (a::vs) (gQ f (vs.getD j .non) acc)=k_ r (b::vs) (gQ f (vs.getD j .non) acc);exact EI r _ fun p hp=>h p (ai _ hp)
def v5(C:Addr)(fs:List (Str×Nat))(n:Nat)(ta:TA)(E:XK):TS:=fun _ O H=>ta O H fun vs H1=>vs.length+1=n/\∀d,H1 d=none->E (.ref C) (some d) (upd H1 d (gq d (k_ fs (.non::vs) [])))
theorem NI{E:XK}{fs:List (Str×Nat)}{cpos:Pos}(c:EH X.K C fI)(F:eV X.prog X.w X.K X.mg X.base yK k fI fd ps (vZ C fs ps.length))(hr:gy (k+1) X.A)(hh:X.A.handled=none)
  (hb:Binds X.K fd ps []) (hps:ps.length<=1000) (hj:∀p∈fs,1<=p.2) (hg:Gl X x) (hm:X.mg x=some (.ref C)) (ha:PA (X.ja (sS X E)) (a::as) ta) (hdb:(x==("__debug__":Str))=false:=by decide)
  (he:cz (a::as) X.env=(false,eval a X.env)::cz as X.env) (hpl:(j3 cpos (cz as X.env)).any (·.1)=false) :
  PS (X.ja (sS X E)) (.Raise (some (.Call (.Name x np) (a::as) [] cpos)) none pos) (v5 C fs ps.length ta E):=by
 intro pins s O H D I h;obtain⟨nm,q,N,bs,B,hdct,sn,sub,ab,col,dd,k0,k1,k2,k3,k5,l,_⟩:=id c.cls;rw[arm_exec_Raise];refine ao (lT ?_);refine UQ (C:=C) (nm:=nm) (q:=q) (N:=N) (bs:=bs) (hdct:=hdct) (sn:=sn) (sub:=sub) (ab:=ab) (col:=col) (dd:=dd) (k0:=k0) (k1:=k1) (k2:=k2) (k3:=k3) (k5:=k5) (bm:=.ref B::[.type "ValueError",.type "Exception",.type "BaseException",.type "object"]) (newId:="ValueError.__new__")
  (by rw[kM,show([Value.type "ValueError",.type "Exception",.type "BaseException",.type "object"].contains (.type "BaseException"))=true from by decide +kernel,rB]) hh ?_
 refine ao (cU (dh (nR I hg hm ?_ hdb)) (fun v Zm Zq=>ao (lT (aX Zq))) fun _ _ x=>x);refine PySem.W.callWith_K (h₀:=X.base) I.ok.mod.kin c.kp (aR (ha cpos pins s O H _ I h) fun us s1 ⟨vs,H1,I1,r,hl,q1⟩=>⟨I1.fK,?_⟩) he hpl;refine K3 (X:=X.ja (sS X E)) c F hr hb I1 r hl hps fun d s2 hd I2 hde=>?_;obtain⟨oe,ws,g1,g2,g3,g4,g5,g6⟩:=xZ I2.hok bO;obtain⟨oc,od,oda,osl⟩:=oe;dsimp only at g2 g3 g4;subst g2 g3 g4;refine⟨_,_,ws,osl,rfl,I2.fK _ _ l,g1,g6 rfl,?_⟩;have hn:H1 (s1.heap.objs.size+1)=none:=I1.hok.fresh (jk _);have eH:x_ (upd (upd (upd H1 (s1.heap.objs.size+1) (gz true (s1.heap.objs.size+1) C none)) d (gq d (k_ fs (.ref (s1.heap.objs.size+1)::vs) []))) (s1.heap.objs.size+1) (gz true (s1.heap.objs.size+1) C (some d))) (s1.heap.objs.size+1)=upd H1 d (gq d (k_ fs (.non::vs) [])):=by
  rw[EI (b:=.non) fs [] hj];funext b;by_cases z:b=s1.heap.objs.size+1
  ·subst z;rw[As,aS (cK hde),hn]
  ·rw[lX z,aS z];by_cases z2:b=d
   ·subst z2;rw[bO,bO]
   ·rw[aS z2,aS z2,aS z]
 have I3:=I2.iw.drop (φ:=Q6 true (s1.heap.objs.size+1) C (some d)) bO;rw[eH]at I3;have hn2:(upd H1 d (gq d (k_ fs (.non::vs) []))) (s1.heap.objs.size+1)=none:=by rw[aS (cK hde)];exact hn
 exact⟨false,_,C,some d,pins,O,_,rfl,I3,⟨⟨_,ws,.none,g1,rfl,rfl,rfl,g5,g6 rfl,.inl ⟨rfl,rfl⟩⟩,I1.iw.o5 (jk _) hn2⟩,q1 d hd⟩
end
def Au(K:PySem.W.Frag)(B:Addr):Prop:=∃nm q N bs bm hdct sn sub ab col dd k0 k1 k2 k3 k5 nid,K.lookup B=some (ig nm q B N bs bm hdct sn sub ab col dd k0 k1 k2 k3 k5 nid)/\bm.contains (.type "BaseException")=true
variable{B:Addr}
theorem UR{oe:Obj}{Q:Bool->ah->Prop}(X:K.In s.heap)(b:Au K B)(he:s.heap.get? e=some oe)(hc:oe.cls=.ref C)(hs:PySem.W.mroIn K C (.ref B)=some true)(hq:Q true s) :
  az M A (Kr (.ref e) (.ref B)) Q E s:=by
 obtain⟨nm,q,N,bs,bm,hdct,sn,sub,ab,col,dd,k0,k1,k2,k3,k5,nid,l,hb⟩:=b;have hB:=X _ _ l;have hcB:(a8 B::bm).contains (.type "BaseException")=true:=by rw[kM,hb,rB]
 have f:=tc_notTuple;have Za:=PySem.W.looks_mroIn (M:=M) X hs;obtain⟨h,g,d,t,os⟩:=s;unfold Kr
 repeat (first
  |(with_reducible refine f6 he ?_;rw[hc])
  |with_reducible refine f6 hB ?_
  |(with_reducible refine nQ hB ?_;rw[hcB])
  |(with_reducible refine Za.at ?_)
  |wp_step)
 exact hq
noncomputable abbrev Cx.hand(X:Cx)(v:Value):Cx:={ X with A:=X.A.mark (some v),calm:=false,xe:=fun _ _=>False }
theorem Inv.hand(I:Inv X pins O H s)(v:Value):Inv (X.hand v) pins O H s:=
 ⟨⟨I.ok.mod,I.ok.kind,I.ok.glob,I.ok.blt,I.ok.above,I.ok.inj,I.ok.has,I.ok.cab,fun z=>(nomatch z),I.ok.frames,I.ok.stk,I.ok.exf,I.ok.bs,I.ok.bsz,I.ok.noex,I.ok.exfs,I.ok.mO,I.ok.frf⟩,I.os,I.bare,I.base,I.loc,I.cell,I.free,I.freeC,I.pin,I.hok,I.len⟩
theorem Inv.US(ok:X.Ok)(I:Inv (X.hand v) pins O H s):Inv X pins O H s:=
 ⟨ok,I.os,I.bare,I.base,I.loc,I.cell,I.free,I.freeC,I.pin,I.hok,I.len⟩
variable{sp:Sp}{dvs:List V}{ds:List Value}
variable{tb:XK->St->Hp->(Hp->Prop)->Prop}
section
variable{X:Cx}
def Jd(X:Cx)(pins:List (Addr×Obj))(O:St)(E:XK):Value->ah->Prop:=fun v s'=>∃e C od H',v=.ref e/\Inv X pins O H' s'/\ED true X pins H' s' e C od (fun f=>f=.none)/\E (.ref C) od H'
def PB(X:Cx)(body:List Stmt)(t:XK->St->Hp->(Hp->Prop)->Prop):Prop:=∀(pins:List (Addr×Obj)) (s:ah) (O:St) (H:Hp) (E:XK) (nx:Hp->Prop),Inv X pins O H s->t E O H nx->
 az (aA X.prog X.w) X.A (Ke body X.env) (fun f s'=>f=.next/\∃H',Inv X pins O H' s'/\nx H') (Jd X pins O E) s
theorem Sf{E:XK}{Q:VK}(F:eV X.prog X.w X.K X.mg X.base (jH X.prog X.w) k f fd ps sp)(hr:gy k X.A)(hb:Binds X.K fd ps ds)(hd:bh dvs ds)
  (I:Inv X pins O H s) (r:bh vs us) (h:sp (vs++dvs) H Q E):az (aA X.prog X.w) X.A (call (.ref f) us) (EP X pins O Q) (Jd X pins O E) s:=by
 have r2:bh (vs++dvs) (us++ds):=r.append hd;have hl:(us++ds).length=ps.length:=by rw[<-r2.length];exact F.len _ _ _ _ h
 refine kY (iF (F.run X.A X.stack s H ⟨us,[]⟩ (us++ds) (vs++dvs) Q E hr I.Ny (hb s us I.fK hl) r2 h) fun r s' hq=>?_);cases r with
 |error v=>
  obtain⟨e,C,od,H',rfl,os,bare,un,hok,x,q⟩:=hq;obtain⟨hh,g,d,t,os'⟩:=s';obtain rfl:os'=s.os:=os;have I1:Inv X pins O H' { s with heap:=hh,gens:=g,drawn:=d,toks:=t }:=I.call (h':=hh) (g':=g) (d':=d) (t':=t) (ch:=[]) un hok bare (fun b z=>absurd z (by simp));exact⟨e,C,od,H',rfl,I1,x.imp (fun b hb=>I.o5 hb.2 hb.1) fun _ z=>z,q⟩
 |ok fl=>
  cases fl with
  |ret u=>exact I.after hq
  |next=>exact ak hq
  |brk=>exact ak hq
  |cont=>exact ak hq
theorem Sg{p epos:Pos}(F:eV X.prog X.w X.K X.mg X.base (jH X.prog X.w) k f fd ps sp)(hr:gy k X.A)(hg:Gl X x)(hm:X.mg x=some (.ref f))(hk:PySem.W.keepIn X.K (.ref f)=true)
  (hb:Binds X.K fd ps ds) (hd:bh dvs ds) (ha:PA X.vS (a::as) ta) (hdb:(x==("__debug__":Str))=false:=by decide) (he:cz (a::as) X.env=(false,eval a X.env)::cz as X.env) (hpl:(j3 pos (cz as X.env)).any (·.1)=false) :
  PB X [.Expr (.Call (.Name x p) (a::as) [] pos) epos] (fun E O H nx=>ta O H fun vs H1=>sp (vs++dvs) H1 (fun _ H2=>nx H2) E):=by
 intro pins s O H E nx I h;refine q_ (Ce ?_ I.quiet rfl);refine cU (?_:az _ _ _ (EP X pins O fun _ H2=>nx H2) (Jd X pins O E) s) (fun v s' ⟨y,H',I',_,q⟩=>iY ⟨rfl,H',I',q⟩) fun _ _ z=>z;refine dh (nR I hg hm ?_ hdb);refine PySem.W.callWith_K (h₀:=X.base) I.ok.mod.kin hk (cU (ha pos pins s O H _ (I.ja _) h) (fun us s1 ⟨vs,H1,I1,r,q⟩=>⟨I1.fK,?_⟩) fun _ _ z=>ak z) he hpl;exact Sf F hr hb hd I1.iw r q
theorem WD{c:Expr}{a b:List Stmt}{tc:TT}{ta:XK->St->Hp->(Hp->Prop)->Prop}(hc:PT X.vS c tc)(ha:PB X a ta)(hb:PB X b tb):PB X [.If c a b pos] (fun E O H nx=>tc O H fun k H1=>if k=true then ta E O H1 nx else tb E O H1 nx):=by
 intro pins s O H E nx I h;refine q_ (wpAny_If (cU (hc pins s O H _ (I.ja _) h) (fun k s1 ⟨H1,I1,q⟩=>?_) fun _ _ z=>ak z));have fin:∀{f:Flow}{s':ah},(f=.next/\∃H',Inv X pins O H' s'/\nx H')->(match f with|.next=>az (aA X.prog X.w) X.A (Ke [] X.env) (fun f s'=>f=.next/\∃H',Inv X pins O H' s'/\nx H') (Jd X pins O E) s'|f=>(f=.next/\∃H',Inv X pins O H' s'/\nx H')):=by
  rintro f s' ⟨rfl,q⟩;exact iY ⟨rfl,q⟩
 cases k with
 |true=>exact cU (ha pins s1 O H1 E nx I1.iw q) (fun f s' z=>fin z) fun _ _ z=>z
 |false=>exact cU (hb pins s1 O H1 E nx I1.iw q) (fun f s' z=>fin z) fun _ _ z=>z
end
variable{i:Nat}{n:Str}
section
variable{X:Cx}{pins:List (Addr×Obj)}{O Zd:St}{H:Hp}{s:ah}
theorem Inv.frame{m':Str->Option Value}{t':Nat}(I:Inv X pins O H s)(hs:kJ X.env.locals s.heap h')(hn:h'.Ns X.env.locals m')(hl:Zd.length=O.length)
  (hm:∀(j:Nat) (x:Str) (v:V),X.N[j]?=some x->Zd[j]?=some (some v)->Cq X.env.scope x->∃u,RelV v u/\Look X.env h' m' x u):Inv X pins Zd H { s with heap:=h',toks:=t' }:=by
 have neL:∀b o,X.Ze.heap.get? b=some o->b≠X.env.locals:=fun b o e=>bw (bE (aP e) I.ok.above);refine⟨I.ok,I.os,I.bare,⟨fun b o e n hb hx=>(hs.2 b (neL b o e)).trans (I.base.keep b o e n hb hx),fun b o e n hb hx=>?_,I.base.free,fun b o e hx=>?_,I.base.tups,I.base.aC,I.base.tbls⟩,⟨m',hn,hm⟩,fun x c e=>?_,I.free,I.freeC,fun p hp=>?_,fun a o q=>?_,hl.trans I.len⟩
 ·obtain⟨sl,z⟩:=I.base.slot b o e n hb hx;exact⟨sl,(hs.2 b (neL b o e)).trans z⟩
 ·obtain⟨o',z⟩:=I.base.there b o e hx;exact⟨o',(hs.2 b (neL b o e)).trans z⟩
 ·obtain⟨v,o,ho,hd⟩:=I.cell x c e;exact⟨v,o,(hs.2 c (I.Ah x c e)).trans ho,hd⟩
 ·obtain⟨h1,h2,h3,h4⟩:=I.pin p hp;exact⟨(hs.2 p.1 h3).trans h1,h2,h3,h4⟩
 ·have hk:∀b u,(b=a\/H b=some (.own a))->s.heap.get? b=some u->h'.get? b=some u:=fun b u hb e=>by
   refine(hs.2 b fun z=>?_).trans e;rcases hb with z2|z2
   ·rw[<-z2,z,I.free]at q;cases q
   ·rw[z,I.free]at z2;cases z2
  exact(I.hok a o q).stay hk (fun _ z=>z) fun _ _ z=>z
theorem name_goes(I:Inv X pins O H s)(nd:X.N.Nodup)(hi:X.N[i]?=some n)(hl:X.env.scope.names.lookup n=some .local)
  (h:∀s',Inv X pins (O.set i none) H s'->Q () s'):az M A (do bindName X.env n .none;nG X.env n pos) Q E s:=by
 refine ao (wpAny_bindName (uz (v:=.non) I nd hi (.inl hl) rfl (fun s1 I1=>?_) (.inr hl)));have hk:X.env.kindOf n=some .local:=hl;obtain⟨m,hn,hlk⟩:=id I1.loc;have hlt:i<O.length:=by rw[I.len];exact(bN.mp hi).1
 obtain⟨u,ru,look⟩:=hlk i n .non hi (by rw[d_];simp[hlt]) (.inl hl);have hv:m n=some u:=by
  rcases look with⟨_,z⟩|⟨z,_⟩
  ·exact z
  ·rw[hk]at z;rcases z with z|z<;>cases z
 have hp:(X.env.scope.kind==.class||(X.env.scope.kind==.module&&X.env.locals != X.env.globals))=false:=by rw[I.ok.kind];rfl
 unfold nG;refine wpAny_onRaise (wpAny_unbindName_local hk hn hv hp fun h' w n' sb=>h _ ?_);refine I1.frame (t':=s1.toks) sb n' (by simp) fun j x v e1 e2 e3=>?_;have hji:j≠i:=fun z=>by
  subst z;rw[d_]at e2;simp[hlt]at e2
 have hxn:x≠n:=fun z=>hji (zq nd (by rw[<-z];exact e1) hi);obtain⟨u',r',look'⟩:=hlk j x v e1 (by rw[b6 (cK hji)]at e2 ⊢;exact e2) e3;refine⟨u',r',?_⟩;rcases look' with⟨z1,z2⟩|⟨z1,c,z2,o,ho,hd⟩
 ·exact .inl ⟨z1,(if_neg hxn).trans z2⟩
 ·exact .inr ⟨z1,c,z2,o,(sb.2 c (I1.Ah x c z2)).trans ho,hd⟩
theorem Inv.WE{o:HO}(I:Inv X pins O H s)(f:ly X pins H b)(ok:dP X.prog X.w (upd H b o) s.heap b o):Inv X pins O (upd H b o) s:=by
 obtain⟨f0,f1,f2,f3,f4,f5⟩:=f;have ne:∀c u,H c=some u->c≠b:=fun c u q z=>by rw[z,f0]at q;cases q
 refine⟨I.ok,I.os,I.bare,⟨I.base.keep,I.base.slot,fun c u q n x=>?_,I.base.there,fun c xs q=>?_,fun c u w q=>?_,fun c ps q=>?_⟩,I.loc,I.cell,?_,fun x c q=>?_,fun p hp=>?_,fun a u q=>?_,I.len⟩
 ·have hcb:c≠b:=fun z=>by
   subst z;rcases f3 with z|z
   ·exact x z
   ·exact absurd (bE (aP q) z) (dF _)
  rw[aS hcb];exact I.base.free c u q n x
 ·have z:=I.base.tups c xs q;rw[aS (ne c _ z)];exact z
 ·have z:=I.base.aC c u w q;rw[aS (ne c _ z)];exact z
 ·obtain⟨more,z⟩:=I.base.tbls c ps q;exact⟨more,by rw[aS (ne c _ z)];exact z⟩
 ·rw[aS (cK f1)];exact I.free
 ·rw[aS (f4 x c q)];exact I.freeC x c q
 ·obtain⟨h1,h2,h3⟩:=I.pin p hp;exact⟨h1,by rw[aS (f5 p hp)];exact h2,h3⟩
 ·by_cases z:a=b
  ·subst z;rw[bO]at q;cases q;exact ok
  ·rw[aS z]at q;exact(I.hok a u q).stay (fun _ _ _ k=>k) (fun c k=>by rw[aS (ne c _ k)];exact k) fun c xs k=>by rw[aS (ne c _ k)];exact k
def EJ(K:PySem.W.Frag)(i:Nat)(B:Addr)(tb:XK->St->Hp->(Hp->Prop)->Prop)(ts:TS):TS:=fun D O H=>
 tb (fun c od H1=>∃C,c=.ref C/\PySem.W.mroIn K C (.ref B)=some true/\∀e,H1 e=none->ts { nx:=fun Zg H2=>D.nx (Zg.set i none) H2,rt:=D.rt } (O.set i (some (.ref e))) (upd H1 e (gz false e C od))) O H (fun H1=>D.nx O H1)
theorem UT{suite:List Stmt}{ZG:Stmt}{ts:TS}{hpos:Pos}(hst:X.stack=X.env::X.outer)(hf:X.env.frame=some X.env.locals)(hb:PB X body tb)(hs:∀e,mP (X.hand (.ref e)) (ZG::suite) ts)
  (hg:Gl X x) (hm:X.mg x=some (.ref B)) (b:Au X.K B) (nd:X.N.Nodup) (hi:X.N[i]?=some n) (hl:X.env.scope.names.lookup n=some .local) (hdb:(x==("__debug__":Str))=false:=by decide) :
  PS X (.Try body [.ExceptHandler (some (.Name x np)) (some n) (ZG::suite) hpos] [] [] pos) (EJ X.K i B tb ts):=by
 intro pins s O H D I h;refine wpAny_Try_except (cU (hb pins s O H _ _ I h) (fun f s1 ⟨hf,H1,I1,q⟩=>?_) fun v s1 hx=>?_)
 ·subst hf;exact iY ⟨O,H1,I1,q⟩
 ·obtain⟨e,C,od,H1,rfl,I1,F1,C',ec,hmro,q⟩:=hx;cases ec;refine BB hst hf I1 (F1.imp (fun _ z=>z) fun _ z=>.inl z) fun s2 I2 F2=>?_;refine rL I2 F2 fun s3 I3 F3=>?_;refine wpAny_handleBy_cons (codeAny_handlers_test (nR (X:=X.hand (.ref e)) (I3.hand _) hg hm ?_ hdb)) (by intro z;cases z);obtain⟨⟨oe,vs,v,g1,g2,g3,g4,g5,g6,g7⟩,fe⟩:=id F3;refine UR I3.fK b g1 g2 hmro ?_;show jF _ _ _ _ _;refine codeAny_handlers_suite_as ?_;refine rL (X:=X.hand (.ref e)) (I3.hand _) F3 fun s4 I4 F4=>?_;obtain⟨⟨oe',vs',v',k1,k2,k3,k4,k5,k6,k7⟩,fe'⟩:=id F4;have I5:Inv (X.hand (.ref e)) pins O (upd H1 e (gz false e C od)) s4:=I4.WE fe' (EE ⟨oe',vs',k1,k2,k3,k4,k5,fun z=>nomatch z⟩);refine uz (X:=X.hand (.ref e)) (v:=.ref e) I5 nd hi (.inl hl) rfl (fun s5 I6=>?_) (.inr hl);refine cU (hs e pins s5 _ _ _ I6 (q e fe.1)) (fun f s6 hq=>?_) fun _ _ z=>ak z;show az _ _ _ _ _ _;have go:∀{Zg:St}{H2:Hp}{Q:Unit->ah->Prop},Inv (X.hand (.ref e)) pins Zg H2 s6->(∀s7,Inv X pins (Zg.set i none) H2 s7->Q () s7)->az (aA X.prog X.w) X.A (do bindName X.env n .none;nG X.env n hpos) Q X.xe s6:=fun J k=>name_goes (J.US I.ok) nd hi hl k;cases f with
  |next=>obtain⟨Zg,H2,J,z⟩:=hq;exact go J fun s7 J7=>⟨_,H2,J7,z⟩
  |ret u=>obtain⟨w,Zg,H2,J,r,z⟩:=hq;exact go J fun s7 J7=>⟨w,_,H2,J7,r,z⟩
  |brk=>obtain⟨Zg,H2,J,z⟩:=hq;exact z.elim
  |cont=>obtain⟨Zg,H2,J,z⟩:=hq;exact z.elim
end
end L2
end
section
namespace L3
open PySem PySem.Spec L2
inductive Bf where
 |len|all|any|int|str|abs|min
 deriving DecidableEq
noncomputable def Bf.name:Bf->Str
|.len=>"len"|.all=>"all"|.any=>"any"|.int=>"int"|.str=>"str"|.abs=>"abs"|.min=>"min"
inductive Mt where
 |append|startswith|split|count|index|join|extend
 deriving DecidableEq
noncomputable def Mt.name:Mt->Str
|.append=>"append"|.startswith=>"startswith"|.split=>"split"|.count=>"count"|.index=>"index"|.join=>"join"|.extend=>"extend"
inductive Ty where
 |int|bool|str|list|tuple|dict|none
 deriving DecidableEq
noncomputable def Ty.name:Ty->Str
|.int=>"int"|.bool=>"bool"|.str=>"str"|.list=>"list"|.tuple=>"tuple"|.dict=>"dict"|.none=>"NoneType"
mutual
inductive CE where
|var (i:Nat)
|con (v:V)
|glo (g:Nat)
|bin (op:ji) (a b:CE)
|neg (a:CE)
|nset (a:CE)
|not (a:CE)
|and (a b:CE)
|or (a b:CE)
|ite (c a b:CE)
|cmp (op:nB) (a b:CE)
|chain (o1 o2:nB) (a b c:CE)
|call (g:Nat) (as:ia)
|blt (f:Bf) (as:ia)
|isi (a:CE) (t:Ty)
|mth (m:Mt) (o:CE) (as:ia)
|ix (a b:CE)
|sl (a:CE) (lo hi:CO)
|lst (as:ia)
|tup (as:ia)
|comp (nl:List Str) (fr:List Nat) (elt:CE) (tg:CG) (src:CI) (cond:CO)
|isx (one:Bool) (gs:List Nat) (a:CE)
|isv (g:Nat) (a:CE)
|att (g:Nat) (a:CE) (f:Str)
|slp (a:CE) (lo hi:CO) (k:Int)
inductive ia where
|nil
|cons (a:CE) (r:ia)
inductive CO where
|none
|some (a:CE)
inductive CG where
|name (i:Nat)
|tup (gs:oM)
|sub (o i:CE)
inductive oM where
|nil
|cons (g:CG) (r:oM)
inductive CI where
|seq (a:CE)
|range (as:ia)
|enum (a:CE)
|zip (as:ia)
end
inductive CB where
|call (g:Nat) (as:ia)
|ite (c:CE) (a b:CB)
mutual
inductive CS where
|expr (e:CE)
|asg (g:CG) (e:CE)
|casg (i:Nat) (e:CE)
|aug (i:Nat) (e:CE)
|tasg (g:CG) (e:CE)
|ret (e:CE)
|ifs (c:CE) (a b:bV)
|whil (c:CE) (b:bV)
|forr (g:CG) (src:CI) (b:bV)
|brk
|cont
|never
|rais (g:Nat) (as:ia)
|tri (i g:Nat) (b:CB) (h:bV)
inductive bV where
|nil
|cons (s:CS) (r:bV)
|two (s t:CS) (r:bV)
end
noncomputable def oM.len:oM->Nat
|.nil=>0
|.cons _ r=>r.len+1
inductive G where
|val (v:V)
|tup (a:Addr) (xs:List V)
|fn (sp:Sp) (dvs:List V)
|cls (C:Addr) (fs:List (Str×Nat)) (n:Nat)
|gY (D:Addr) (Cs:List Addr)
|nM (Cs:List Addr) (as:List Str)
|exb (B:Addr) (Cs:List Addr)
|nop
noncomputable def G.hand:G->G
|.fn _ _=>.nop
|.cls _ _ _=>.nop
|g=>g
def CT(K:PySem.W.Frag)(a:Addr)(t:Bool)(xs:List V):Prop:=
 ∃(o:Obj) (its:Array Value) (n:Nat),K.lookup a=some o/\o.cls=.type (if t then "tuple" else "list")/\o.dict=none/\o.data=.seq its n/\its.size<=aa/\bh xs its.toList
noncomputable def BC(H:Hp)(a:Addr):Option (Bool×List V):=match H a with
|some (.lst xs)=>some (false,xs)
|some (.tup xs)=>some (true,xs)
|some (.bq _ (.lst xs))=>some (false,xs)
|some (.bq _ (.tup xs))=>some (true,xs)
|_=>none
def fH(K:PySem.W.Frag)(H:Hp)(a:Addr)(t:Bool)(xs:List V):Prop:=BC H a=some (t,xs)\/CT K a t xs
theorem tupS{K:PySem.W.Frag}{H:Hp}{a:Addr}{xs:List V}(h:H a=some (.tup xs)):fH K H a true xs:=.inl (by unfold BC;rw[h])
def sU(K:PySem.W.Frag)(H:Hp)(a:Addr)(k:Bool->List V->Prop):Prop:=∃t xs,fH K H a t xs/\k t xs
noncomputable def keyOf:V->Option Key
|.int i=>some (.inl i)
|.str x=>some (.inr x)
|_=>none
inductive D where
|non|bl (b:Bool)|int (i:Int)|str (x:Str)
|lst (o:Bool) (xs:List D)
|tup (xs:List D)
|cst (xs:List D)
|exc (C:Addr) (ks:List Str) (xs:List D)
mutual
noncomputable def bq:D->D
|.non=>.non
|.bl b=>.bl b
|.int i=>.int i
|.str x=>.str x
|.lst _ xs=>.lst false (aC xs)
|.tup xs=>.tup (aC xs)
|.cst xs=>.cst (aC xs)
|.exc C ks xs=>.exc C ks (aC xs)
noncomputable def aC:List D->List D
|[]=>[]
|d::r=>bq d::aC r
end
mutual
noncomputable def aT:D->Bool
|.lst o xs=>o&&dO xs
|.tup xs=>dO xs
|.cst _=>false
|.exc _ _ _=>false
|_=>true
noncomputable def dO:List D->Bool
|[]=>true
|d::r=>aT d&&dO r
end
mutual
noncomputable def jm:D->D->Bool
|.non,y=>match y with
 |.non=>true
 |_=>false
|.bl a,y=>match y with
 |.bl b=>a==b
 |.int j=>(if a then 1 else 0)==j
 |_=>false
|.int i,y=>match y with
 |.int j=>i==j
 |.bl b=>i==(if b then 1 else 0)
 |_=>false
|.str a,y=>match y with
 |.str b=>a==b
 |_=>false
|.lst _ xs,y=>match y with
 |.lst _ ys=>ko xs ys
 |_=>false
|.tup xs,y=>match y with
 |.tup ys=>ko xs ys
 |_=>false
|.cst _,_=>false
|.exc _ _ _,_=>false
noncomputable def ko:List D->List D->Bool
|[],ys=>match ys with
 |[]=>true
 |_=>false
|x::xs,ys=>match ys with
 |y::ys=>jm x y&&ko xs ys
 |[]=>false
end
mutual
noncomputable def kq:D->Nat->Bool
|.lst _ xs,n=>match n with
 |0=>false
 |n+1=>eT xs n
|.tup xs,n=>match n with
 |0=>false
 |n+1=>eT xs n
|.cst _,_=>false
|.exc _ _ _,_=>false
|_,_=>true
noncomputable def eT:List D->Nat->Bool
|[],_=>true
|d::r,n=>kq d n&&eT r n
end
noncomputable def dD(d:D):Bool:=kq d 12
noncomputable def kr(ds:List D):Bool:=eT ds 12
mutual
def aV(K:PySem.W.Frag)(H:Hp):D->V->Prop
|.non,v=>v=.non
|.bl b,v=>v=.bl b
|.int i,v=>v=.int i
|.str x,v=>v=.str x/\x.length<=aa
|.lst _ ds,v=>∃a vs,v=.ref a/\Rd H a (.lst vs)/\vs.length<=aa/\aD K H ds vs
|.tup ds,v=>∃a vs,v=.ref a/\H a=some (.tup vs)/\vs.length<=aa/\aD K H ds vs
|.cst ds,v=>∃a vs,v=.ref a/\CT K a true vs/\vs.length<=aa/\aD K H ds vs
|.exc C ks ds,v=>∃e d vs,v=.ref e/\H e=some (gz false e C (some d))/\H d=some (gq d (ks.zip vs))/\aD K H ds vs
def aD(K:PySem.W.Frag)(H:Hp):List D->List V->Prop
|[],vs=>vs=[]
|d::ds,vs=>∃v r,vs=v::r/\aV K H d v/\aD K H ds r
end
def NJ(K:PySem.W.Frag)(op:ji)(x y:V)(H:Hp)(Q:VK):Prop:=match op,x,y with
|.Add,.int i,.int j=>Q (.int (i+j)) H
|.Sub,.int i,.int j=>Q (.int (i-j)) H
|.Mult,.int i,.int j=>sO i j/\Q (.int (i*j)) H
|.FloorDiv,.int i,.int j=>uC i j/\Q (.int (i / j)) H
|.Mod,.int i,.int j=>0<j/\Q (.int (i%j)) H
|.Add,.str i,.str j=>i.length+j.length<=aa/\Q (.str (i++j)) H
|.Mult,.str i,.int j=>(0<=j/\j<2 ^ 40/\i.length*j.toNat<=aa)/\Q (.str ⟨(aB j.toNat i.cps.toList).flatten.toArray⟩) H
|.Pow,.int i,.int j=>Er i j/\Q (.int (i ^ j.toNat)) H
|.Add,.ref a,.ref b=>(∃xs ys,Rd H a (.lst xs)/\Rd H b (.lst ys)/\xs.length+ys.length<=aa/\∀p,H p=none->Q (.ref p) (upd H p (.lst (xs++ys))))
  \/ (∃xs ys,fH K H a true xs/\fH K H b true ys/\xs≠[]/\ys≠[]/\xs.length+ys.length<=aa/\∀p,H p=none->Q (.ref p) (upd H p (.tup (xs++ys))))
|.Mult,.ref a,.int k=>∃xs,Rd H a (.lst xs)/\(-(2 ^ 63)<=k/\k<2 ^ 63)/\xs.length*k.toNat<=aa/\∀p,H p=none->Q (.ref p) (upd H p (.lst (aB k.toNat xs).flatten))
|_,_,_=>False
def YL(H:Hp):V->Prop
|.ref a=>∃o,H a=some o
|_=>True
noncomputable def memD(x:D)(xs:List D):Bool:=xs.any fun y=>jm y x
def lY(K:PySem.W.Frag)(op:nB)(x y:V)(H:Hp)(Q:VK):Prop:=match op,x,y with
|.Lt,.int i,.int j=>Q (.bl (decide (i<j))) H
|.LtE,.int i,.int j=>Q (.bl (decide (i<=j))) H
|.Gt,.int i,.int j=>Q (.bl (decide (j<i))) H
|.GtE,.int i,.int j=>Q (.bl (decide (j<=i))) H
|.Lt,.str i,.str j=>Q (.bl (decide (i.cps.toList<j.cps.toList))) H
|.LtE,.str i,.str j=>Q (.bl (!decide (j.cps.toList<i.cps.toList))) H
|.Eq,x,y=>∃dx dy,aV K H dx x/\aV K H dy y/\dD dx=true/\dD dy=true/\Q (.bl (jm dx dy)) H
|.NotEq,x,y=>∃dx dy,aV K H dx x/\aV K H dy y/\dD dx=true/\dD dy=true/\Q (.bl (!jm dx dy)) H
|.Is,x,.non=>Q (.bl (decide (x=.non))) H
|.IsNot,x,.non=>Q (.bl (!decide (x=.non))) H
|.In,x,.ref a=>(∃t xs dx ds,fH K H a t xs/\aV K H dx x/\aD K H ds xs/\dD dx=true/\kr ds=true/\Q (.bl (memD dx ds)) H)
  \/ ∃kvs k,Rd H a (.dK kvs)/\x=kV k/\Q (.bl (jK kvs k).isSome) H
|.NotIn,x,.ref a=>(∃t xs dx ds,fH K H a t xs/\aV K H dx x/\aD K H ds xs/\dD dx=true/\kr ds=true/\Q (.bl (!memD dx ds)) H)
  \/ ∃kvs k,Rd H a (.dK kvs)/\x=kV k/\Q (.bl (!(jK kvs k).isSome)) H
|_,_,_=>False
def iR(K:PySem.W.Frag)(x:V)(H:Hp)(Q:Bool->Prop):Prop:=match x with
|.bl b=>Q b
|.non=>Q false
|.int i=>Q (i != 0)
|.str z=>z.length<=aa/\Q (z.length != 0)
|.ref a=>(sU K H a fun _ xs=>Q (!xs.isEmpty))\/∃kvs,H a=some (.dK kvs)/\Q (!kvs.isEmpty)
|_=>False
def EK(K:PySem.W.Frag)(x y:V)(H:Hp)(Q:VK):Prop:=match x,y with
|.str z,.int i=>z.length<=aa/\∃c,fh z.cps.toList i=some c/\Q (.str ⟨#[c]⟩) H
|.ref a,y=>(∃t xs i v,y=.int i/\fH K H a t xs/\fh xs i=some v/\Q v H)\/(∃kvs k v,Rd H a (.dK kvs)/\y=kV k/\jK kvs k=some v/\Q v H)
  \/ ∃kvs k b v,Rd H a (.dT kvs)/\y=.ref b/\H b=some (.tup (k.map kV))/\jK kvs k=some v/\Q v H
|_,_=>False
noncomputable def cut{α:Type}(xs:List α)(lo hi:Option Int):List α:=(xs.drop (HT.jG xs.length 0 lo)).take (HT.jG xs.length xs.length hi-HT.jG xs.length 0 lo)
def Q8(K:PySem.W.Frag)(x:V)(lo hi:Option Int)(H:Hp)(Q:VK):Prop:=match x with
|.str z=>z.length<=aa/\Q (.str ⟨(cut z.cps.toList lo hi).toArray⟩) H
|.ref a=>(sU K H a fun t xs=>t=false/\∀p,H p=none->Q (.ref p) (upd H p (.lst (cut xs lo hi))))
  \/ ∃(n:Nat) (xs:List V),fH K H a true xs/\lo=some (n:Int)/\hi=none/\1<=n/\n<=xs.length/\∀p,H p=none->Q (.ref p) (upd H p (.tup (xs.drop n)))
|_=>False
noncomputable def lG{α:Type}(xs:List α)(lo hi:Option Int)(k:Int):List α:=(ve (eS lo hi (some k) xs.length).1 (eS lo hi (some k) xs.length).2.1 (eS lo hi (some k) xs.length).2.2).filterMap (xs[·]?)
def NK(K:PySem.W.Frag)(x:V)(lo hi:Option Int)(k:Int)(H:Hp)(Q:VK):Prop:=match x with
|.ref a=>sU K H a fun t xs=>t=false/\(k≠0/\(lG xs lo hi k).length<=aa)/\∀p,H p=none->Q (.ref p) (upd H p (.lst (lG xs lo hi k)))
|_=>False
def wTrg(vs:List V)(H:Hp)(Q:VK):Prop:=match vs with
|[.int i,.int j]=>(-(2 ^ 62)<=i/\i<2 ^ 62/\-(2 ^ 62)<=j/\j<2 ^ 62/\(j-i).toNat<=2 ^ 24)/\∀p,H p=none->Q (.ref p) (upd H p (.tup ((bY (j-i).toNat).map fun(k:Nat)=>V.int (i+(k:Int)))))
|_=>False
noncomputable def mQ:V->Bool
|.bl true=>true
|_=>false
noncomputable def WG:V->Bool
|.bl _=>true
|_=>false
noncomputable def YM:V->Bool
|.int _=>true
|_=>false
noncomputable def ya(xs:List V):Bool:=xs.all WG
noncomputable def mR(i:Int):Str:=toString i
def zA(K:PySem.W.Frag)(f:Bf)(vs:List V)(H:Hp)(Q:VK):Prop:=match f,vs with
|.len,[.str z]=>z.length<=aa/\Q (.int z.length) H
|.len,[.ref a]=>(sU K H a fun _ xs=>Q (.int xs.length) H)\/∃kvs,Rd H a (.dK kvs)/\Q (.int kvs.length) H
|.all,[.ref a]=>sU K H a fun t xs=>t=false/\ya xs=true/\Q (.bl (xs.all mQ)) H
|.any,[.ref a]=>sU K H a fun t xs=>t=false/\ya xs=true/\Q (.bl (xs.any mQ)) H
|.int,[.int i]=>Q (.int i) H
|.int,[.bl b]=>Q (.int (if b then 1 else 0)) H
|.abs,[.int i]=>Q (.int (if i<0 then -i else i)) H
|.min,[.int i,.int j]=>Q (.int (if j<i then j else i)) H
|.int,[.str z]=>z.length<=640/\∃n,intText? z=some n/\Q (.int n) H
|.str,[.int i]=>i.natAbs.log2<1920/\Q (.str (mR i)) H
|_,_=>False
def v7(K:PySem.W.Frag)(t:Ty)(x:V)(H:Hp)(Q:Bool->Prop):Prop:=match x with
|.non=>Q false
|.bl _=>Q (decide (t=.bool)||decide (t=.int))
|.int _=>Q (decide (t=.int))
|.str _=>Q (decide (t=.str))
|.ref a=>(∃xs,Rd H a (.lst xs)/\Q (decide (t=.list)))\/(∃xs,fH K H a true xs/\Q (decide (t=.tuple)))\/∃kvs,Rd H a (.dK kvs)/\Q (decide (t=.dict))
|_=>False
noncomputable def cM(c:Nat):List Nat->List (List Nat)
|[]=>[[]]
|x::r=>if x=c then[]::cM c r else match cM c r with
 |h::t=>(x::h)::t
 |[]=>[[x]]
noncomputable def strOf(l:List Nat):Str:=⟨l.toArray⟩
def jo(H:Hp)(a:Addr):Prop:=match H a with
|some (.lst _)=>True
|_=>False
def Q9(H:Hp)(a:Addr):Prop:=match H a with
|some (.dK _)=>True
|some (.dT _)=>True
|_=>False
def rM(m:Mt)(x:V)(H:Hp):Prop:=match m,x with
|.append,.ref a=>jo H a
|.extend,.ref a=>jo H a
|.join,.str _=>True
|.startswith,.str _=>True
|.split,.str _=>True
|.count,.ref a=>∃xs,Rd H a (.lst xs)
|.index,.ref a=>∃xs,Rd H a (.lst xs)
|.count,.str _=>True
|.index,.str _=>True
|_,_=>False
def uD(K:PySem.W.Frag)(m:Mt)(x:V)(vs:List V)(H:Hp)(Q:VK):Prop:=match m,x,vs with
|.append,.ref l,[y]=>match H l with
 |some (.lst xs)=>xs.length<aa/\Q .non (upd H l (.lst (xs++[y])))
 |_=>False
|.extend,.ref l,[.ref b]=>match H l with
 |some (.lst xs)=>∃zs,H b=some (.lst zs)/\xs.length+zs.length<=aa/\Q .non (upd H l (.lst (xs++zs)))
 |_=>False
|.join,.str x,[.ref a]=>sU K H a fun t xs=>t=false/\∃ss:List Str,xs=ss.map V.str/\(ss.map (·.length)).sum+ss.length*x.length<=aa/\Q (.str (dU x ss)) H
|.startswith,.str x,[.str y]=>Q (.bl (y.cps.toList.isPrefixOf x.cps.toList)) H
|.split,.str x,[.str y]=>y.length=1/\x.length+2<=aa/\∀p,H p=none->Q (.ref p) (upd H p (.lst ((cM (y.cps.getD 0 0) x.cps.toList).map fun l=>V.str (strOf l))))
|.count,.ref l,[.bl k]=>∃bs:List Bool,Rd H l (.lst (bs.map V.bl))/\Q (.int (bs.count k)) H
|.index,.ref l,[.bl k]=>∃bs:List Bool,Rd H l (.lst (bs.map V.bl))/\k∈bs/\Q (.int (bs.idxOf k)) H
|.count,.str x,[.str y]=>y.length=1/\x.length<=aa/\Q (.int (x.cps.toList.count (y.cps.getD 0 0))) H
|.index,.str x,[.str y]=>y.length=1/\x.length<=aa/\(y.cps.getD 0 0)∈x.cps.toList/\Q (.int (x.cps.toList.idxOf (y.cps.getD 0 0))) H
|.split,.str x,[]=>(x.length<=aa/\(gD x).length<=aa)/\∀p,H p=none->Q (.ref p) (upd H p (.lst ((gD x).map V.str)))
|_,_,_=>False
inductive Item where
|v (x:V)
|tup (xs:List V)
def mkItem(it:Item)(H:Hp)(k:V->Hp->Prop):Prop:=match it with
|.v x=>k x H
|.tup xs=>∀p,H p=none->k (.ref p) (upd H p (.tup xs))
noncomputable def lI:Nat->List V->List Item
|_,[]=>[]
|n,x::r=>.tup [.int (n:Int),x]::lI (n+1) r
noncomputable def sV:List V->List V->List Item
|x::xs,y::ys=>.tup [x,y]::sV xs ys
|_,_=>[]
def Ym(x y:V)(H:Hp)(k:(Hp->Prop)->List Item->Hp->Prop):Prop:=∃a b xs ys,x=.ref a/\y=.ref b/\Rd H a (.lst xs)/\Rd H b (.lst ys)/\k (fun H'=>Rd H' a (.lst xs)/\Rd H' b (.lst ys)) (sV xs ys) H
def Je(vs:List V)(H:Hp)(k:(Hp->Prop)->List Item->Hp->Prop):Prop:=match vs with
|[x,y]=>Ym x y H k
|_=>False
noncomputable abbrev Q_:=St->Hp->((Hp->Prop)->List Item->Hp->Prop)->Prop
def forL(ok:Hp->Prop)(g:TG)(body:TS)(D:Ends):List Item->St->Hp->Prop
|[],O,H=>ok H/\D.nx O H
|it::r,O,H=>ok H/\mkItem it H fun x H1=>g x O H1 fun Zg H2=>body { D with nx:=forL ok g body D r,ct:=forL ok g body D r,bk:=D.nx } Zg H2
def pZ(ok:Hp->Prop)(g:TG)(cond:TT)(elt:TE)(k:List V->Hp->Prop):List Item->List V->St->Hp->Prop
|[],acc,_,H=>ok H/\k acc H
|it::r,acc,O,H=>ok H/\acc.length<aa/\mkItem it H fun x H1=>g x O H1 fun Zg H2=>cond Zg H2 fun b H3=>
  if b=true then elt Zg H3 fun y H4=>pZ ok g cond elt k r (acc++[y]) Zg H4 else pZ ok g cond elt k r acc Zg H3
noncomputable def chars(z:Str):List V:=z.cps.toList.map fun c=>V.str ⟨#[c]⟩
def BD(K:PySem.W.Frag)(x:V)(H:Hp)(k:(Hp->Prop)->List Item->Hp->Prop):Prop:=match x with
|.str z=>z.length<=aa/\k (fun _=>True) ((chars z).map .v) H
|.ref a=>sU K H a fun t xs=>k (fun H'=>fH K H' a t xs) (xs.map .v) H
|_=>False
def v8(vs:List V)(H:Hp)(k:(Hp->Prop)->List Item->Hp->Prop):Prop:=match vs with
|[.int j]=>(-(2 ^ 62)<=j/\j<2 ^ 62)/\k (fun _=>True) ((bY j.toNat).map fun(i:Nat)=>Item.v (.int (i:Int))) H
|[.int i,.int j]=>(-(2 ^ 62)<=i/\i<2 ^ 62/\-(2 ^ 62)<=j/\j<2 ^ 62)/\k (fun _=>True) ((bY (j-i).toNat).map fun(n:Nat)=>Item.v (.int (i+(n:Int)))) H
|_=>False
def kR(O:St)(i:Nat)(k:V->Prop):Prop:=match O[i]? with
|some (some v)=>k v
|_=>False
noncomputable def sW(Y:List G):List Nat->Option Addr->Option Bool
|[],_=>some false
|g::r,c=>match Y[g]? with
 |some (.gY D Cs)=>match c with
  |none=>sW Y r c
  |some C=>if C∈Cs then(if C=D then some true else sW Y r c)else none
 |_=>none
def yb(Y:List G):List Nat->List Addr->Prop
|[],Ds=>Ds=[]
|g::gs,Ds=>∃D r Cs,Ds=D::r/\Y[g]?=some (G.gY D Cs)/\yb Y gs r
def NL(H:Hp)(e:Addr)(k:Addr->List (Str×V)->Prop):Prop:=∃m C d fs,H e=some (gz m e C (some d))/\H d=some (gq d fs)/\k C fs
def EL(Y:List G)(gs:List Nat)(x:V)(H:Hp)(Q:Bool->Prop):Prop:=gs≠[]/\gs.length<=1000/\(∃Ds,yb Y gs Ds)/\match x with
|.non=>∃b,sW Y gs none=some b/\Q b
|.ref e=>NL H e fun C _=>∃b,sW Y gs (some C)=some b/\Q b
|_=>False
def BE(Y:List G)(g:Nat)(x:V)(H:Hp)(Q:Bool->Prop):Prop:=match Y[g]? with
|some (.nM Cs _)=>match x with
 |.non=>Q false
 |.ref e=>NL H e fun C _=>C∈Cs/\Q true
 |_=>False
|_=>False
def EM(Y:List G)(g:Nat)(f:Str)(x:V)(H:Hp)(Q:VK):Prop:=match Y[g]? with
|some (.nM Cs as)=>match x with
 |.ref e=>NL H e fun C fs=>(C∈Cs/\f∈as)/\∃v,fs.lookup f=some v/\Q v H
 |_=>False
|_=>False
noncomputable def mS(ss:List Str):List Str:=ss.foldl lq []
def Ra(x:V)(H:Hp)(Q:VK):Prop:=∃b ss,x=.ref b/\Rd H b (.lst (ss.map V.str))/\ss.length<4000/\Q (.int (mS ss).length) H
mutual
def wE(K:PySem.W.Frag)(Y:List G)(E:XK):CE->TE
|.var i=>fun O H Q=>kR O i fun v=>Q v H
|.con v=>fun _ H Q=>Q v H
|.glo g=>fun _ H Q=>match Y[g]? with
 |some (.val v)=>Q v H
 |some (.tup a _)=>Q (.ref a) H
 |_=>False
|.bin op a b=>fun O H Q=>wE K Y E a O H fun x H1=>wE K Y E b O H1 fun y H2=>NJ K op x y H2 Q
|.nset a=>fun O H Q=>wE K Y E a O H fun x H1=>Ra x H1 Q
|.neg a=>fun O H Q=>wE K Y E a O H fun x H1=>match x with
 |.int i=>Q (.int (-i)) H1
 |_=>False
|.not a=>fun O H Q=>wE K Y E a O H fun x H1=>iR K x H1 fun b=>Q (.bl (!b)) H1
|.and a b=>fun O H Q=>wE K Y E a O H fun x H1=>match x with
 |.bl c=>if c=true then wE K Y E b O H1 Q else Q (.bl false) H1
 |_=>False
|.or a b=>fun O H Q=>wE K Y E a O H fun x H1=>match x with
 |.bl c=>if c=true then Q (.bl true) H1 else wE K Y E b O H1 Q
 |_=>False
|.ite c a b=>fun O H Q=>wT K Y E c O H fun k H1=>if k=true then wE K Y E a O H1 Q else wE K Y E b O H1 Q
|.cmp op a b=>fun O H Q=>wE K Y E a O H fun x H1=>wE K Y E b O H1 fun y H2=>lY K op x y H2 Q
|.chain o1 o2 a b c=>fun O H Q=>wE K Y E a O H fun x H1=>wE K Y E b O H1 fun y H2=>lY K o1 x y H2 fun z H3=>match z with
 |.bl k=>if k=true then wE K Y E c O H3 fun u H4=>lY K o2 y u H4 Q else Q (.bl false) H3
 |_=>False
|.call g as=>fun O H Q=>match Y[g]? with
 |some (.fn sp dvs)=>wEs K Y E as O H fun vs H1=>sp (vs++dvs) H1 Q E
 |_=>False
|.blt f as=>fun O H Q=>wEs K Y E as O H fun vs H1=>zA K f vs H1 Q
|.isi a t=>fun O H Q=>wE K Y E a O H fun x H1=>v7 K t x H1 fun b=>Q (.bl b) H1
|.mth m o as=>fun O H Q=>wE K Y E o O H fun x H1=>rM m x H1/\wEs K Y E as O H1 fun vs H2=>uD K m x vs H2 Q
|.ix a b=>fun O H Q=>wE K Y E a O H fun x H1=>wE K Y E b O H1 fun y H2=>EK K x y H2 Q
|.sl a lo hi=>fun O H Q=>wE K Y E a O H fun x H1=>wO K Y E lo O H1 fun l H2=>wO K Y E hi O H2 fun h H3=>Q8 K x l h H3 Q
|.lst as=>fun O H Q=>wEs K Y E as O H fun vs H1=>vs.length<=aa/\∀p,H1 p=none->Q (.ref p) (upd H1 p (.lst vs))
|.tup as=>fun O H Q=>wEs K Y E as O H fun vs H1=>vs.length<=aa/\∀p,H1 p=none->Q (.ref p) (upd H1 p (.tup vs))
|.comp nl fr elt tg src cond=>fun O H Q=>wI K Y E src O H fun ok items H1=>
  pZ ok (wG K Y E0 tg) (wC K Y E0 cond) (wE K Y E0 elt) (fun vs H2=>∀p,H2 p=none->Q (.ref p) (upd H2 p (.lst vs))) items [] (nl.map (fun _=>none)++fr.map (fun i=>O.getD i none)) H1
|.isx _ gs a=>fun O H Q=>wE K Y E a O H fun x H1=>EL Y gs x H1 fun b=>Q (.bl b) H1
|.isv g a=>fun O H Q=>wE K Y E a O H fun x H1=>BE Y g x H1 fun b=>Q (.bl b) H1
|.att g a f=>fun O H Q=>wE K Y E a O H fun x H1=>EM Y g f x H1 Q
|.slp a lo hi k=>fun O H Q=>wE K Y E a O H fun x H1=>wO K Y E lo O H1 fun l H2=>wO K Y E hi O H2 fun h H3=>NK K x l h k H3 Q
def wT(K:PySem.W.Frag)(Y:List G)(E:XK):CE->TT
|.not a=>fun O H Q=>wT K Y E a O H fun b H1=>Q (!b) H1
|.and a b=>fun O H Q=>wT K Y E a O H fun c H1=>if c=true then wT K Y E b O H1 Q else Q false H1
|.or a b=>fun O H Q=>wT K Y E a O H fun c H1=>if c=true then Q true H1 else wT K Y E b O H1 Q
|.ite c a b=>fun O H Q=>wT K Y E c O H fun k H1=>if k=true then wT K Y E a O H1 Q else wT K Y E b O H1 Q
|.cmp op a b=>fun O H Q=>wE K Y E a O H fun x H1=>wE K Y E b O H1 fun y H2=>lY K op x y H2 fun z H3=>match z with
 |.bl k=>Q k H3
 |_=>False
|.chain o1 o2 a b c=>fun O H Q=>wE K Y E a O H fun x H1=>wE K Y E b O H1 fun y H2=>lY K o1 x y H2 fun z H3=>match z with
 |.bl k=>if k=true then wE K Y E c O H3 fun u H4=>lY K o2 y u H4 fun z H5=>match z with
  |.bl k=>Q k H5
  |_=>False
  else Q false H3
 |_=>False
|.var i=>fun O H Q=>kR O i fun v=>iR K v H fun b=>Q b H
|.ix a b=>fun O H Q=>wE K Y E a O H fun x H1=>wE K Y E b O H1 fun y H2=>EK K x y H2 fun v H3=>iR K v H3 fun b=>Q b H3
|.call g as=>fun O H Q=>match Y[g]? with
 |some (.fn sp dvs)=>wEs K Y E as O H fun vs H1=>sp (vs++dvs) H1 (fun x H2=>iR K x H2 fun b=>Q b H2) E
 |_=>False
|.blt f as=>fun O H Q=>wEs K Y E as O H fun vs H1=>zA K f vs H1 fun x H2=>iR K x H2 fun b=>Q b H2
|.isi a t=>fun O H Q=>wE K Y E a O H fun x H1=>v7 K t x H1 fun b=>iR K (.bl b) H1 fun b=>Q b H1
|.mth m o as=>fun O H Q=>wE K Y E o O H fun x H1=>rM m x H1/\wEs K Y E as O H1 fun vs H2=>uD K m x vs H2 fun y H3=>iR K y H3 fun b=>Q b H3
|.isx _ gs a=>fun O H Q=>wE K Y E a O H fun x H1=>EL Y gs x H1 fun b=>iR K (.bl b) H1 fun b=>Q b H1
|.isv g a=>fun O H Q=>wE K Y E a O H fun x H1=>BE Y g x H1 fun b=>iR K (.bl b) H1 fun b=>Q b H1
|_=>fun _ _ _=>False
def wEs(K:PySem.W.Frag)(Y:List G)(E:XK):ia->TA
|.nil=>fun _ H Q=>Q [] H
|.cons a r=>fun O H Q=>wE K Y E a O H fun x H1=>wEs K Y E r O H1 fun xs H2=>Q (x::xs) H2
def wO(K:PySem.W.Frag)(Y:List G)(E:XK):CO->St->Hp->(Option Int->Hp->Prop)->Prop
|.none=>fun _ H Q=>Q none H
|.some a=>fun O H Q=>wE K Y E a O H fun x H1=>match x with
 |.int i=>Q (some i) H1
 |_=>False
def wC(K:PySem.W.Frag)(Y:List G)(E:XK):CO->TT
|.none=>fun _ H Q=>Q true H
|.some a=>wT K Y E a
def wG(K:PySem.W.Frag)(Y:List G)(E:XK):CG->TG
|.name i=>fun v O H Q=>Q (O.set i (some v)) H
|.tup gs=>fun v O H Q=>match v with
 |.ref a=>sU K H a fun t xs=>t=true/\xs.length=gs.len/\HG K Y E gs xs O H Q
 |_=>False
|.sub o i=>fun v O H Q=>wE K Y E o O H fun x H1=>wE K Y E i O H1 fun y H2=>match x with
 |.ref a=>match H2 a with
  |some (.lst xs)=>∃k j,y=.int k/\gH xs.length k=some j/\Q O (upd H2 a (.lst (xs.set j v)))
  |some (.dK kvs)=>∃k,y=kV k/\kvs.length<aa/\Q O (upd H2 a (.dK (putK kvs k v)))
  |some (.dT kvs)=>∃k b,y=.ref b/\H2 b=some (.tup (k.map kV))/\kvs.length<aa/\Q O (upd H2 a (.dT (putK kvs k v)))
  |_=>False
 |_=>False
def HG(K:PySem.W.Frag)(Y:List G)(E:XK):oM->yG
|.nil=>fun vs O H Q=>match vs with
 |[]=>Q O H
 |_=>False
|.cons g r=>fun vs O H Q=>match vs with
 |v::vr=>wG K Y E g v O H fun Zd H'=>HG K Y E r vr Zd H' Q
 |_=>False
def wI(K:PySem.W.Frag)(Y:List G)(E:XK):CI->Q_
|.seq a=>fun O H k=>wE K Y E a O H fun x H1=>BD K x H1 k
|.range as=>fun O H k=>wEs K Y E as O H fun vs H1=>v8 vs H1 k
|.zip as=>fun O H k=>wEs K Y E as O H fun vs H1=>Je vs H1 k
|.enum a=>fun O H k=>wE K Y E a O H fun x H1=>match x with
 |.ref b=>∃xs,Rd H1 b (.lst xs)/\k (fun H'=>Rd H' b (.lst xs)) (lI 0 xs) H1
 |_=>False
end
def wB(K:PySem.W.Frag)(Y:List G):CB->XK->St->Hp->(Hp->Prop)->Prop
|.call g as=>fun E O H nx=>match Y[g]? with
 |some (.fn sp dvs)=>wEs K Y E0 as O H fun vs H1=>sp (vs++dvs) H1 (fun _ H2=>nx H2) E
 |_=>False
|.ite c a b=>fun E O H nx=>wT K Y E0 c O H fun k H1=>if k=true then wB K Y a E O H1 nx else wB K Y b E O H1 nx
mutual
def wS(K:PySem.W.Frag)(Y:List G)(E:XK):CS->TS
|.expr e=>fun D O H=>wE K Y E e O H fun _ H1=>D.nx O H1
|.asg g e=>fun D O H=>wE K Y E e O H fun x H1=>wG K Y E g x O H1 D.nx
|.casg i e=>fun D O H=>wE K Y E e O H fun x H1=>D.nx (O.set i (some x)) H1
|.aug i e=>L2.Ui i (wE K Y E e) (L2.Xq fun i j=>i+j)
|.tasg g e=>fun D O H=>wE K Y E e O H fun x H1=>wG K Y E g x O H1 D.nx
|.ret e=>fun D O H=>wE K Y E e O H D.rt
|.ifs c a b=>fun D O H=>wT K Y E c O H fun k H1=>if k=true then wSs K Y E a D O H1 else wSs K Y E b D O H1
|.whil c b=>fun D O H=>∃W:Nat->St->Hp->Prop,(∃m,W m O H)/\∀m O H,W m O H->
  wT K Y E c O H fun k H1=>if k=true then ∃N:St->Hp->Prop,(∀Zd H',N Zd H'->∃m',m'<m/\W m' Zd H')/\wSs K Y E b { D with nx:=N,ct:=N,bk:=D.nx } O H1 else D.nx O H1
|.forr g src b=>fun D O H=>wI K Y E src O H fun ok items H1=>forL ok (wG K Y E g) (wSs K Y E b) D items O H1
|.brk=>fun D O H=>D.bk O H
|.cont=>fun D O H=>D.ct O H
|.never=>fun _ _ _=>False
|.rais g as=>fun D O H=>match Y[g]? with
 |some (.cls C fs n)=>v5 C fs n (wEs K Y E as) E D O H
 |_=>False
|.tri i g b h=>fun D O H=>match Y[g]? with
 |some (.exb B _)=>EJ K i B (wB K Y b) (wSs K (Y.map G.hand) E0 h) D O H
 |_=>False
def wSs(K:PySem.W.Frag)(Y:List G)(E:XK):bV->TS
|.nil=>fun D O H=>D.nx O H
|.cons s r=>fun D O H=>wS K Y E s { D with nx:=wSs K Y E r D } O H
|.two s t r=>fun D O H=>wS K Y E s { D with nx:=wS K Y E t { D with nx:=wSs K Y E r D } } O H
end
end L3
end
section
namespace L3
open PySem PySem.Spec PyProof.Rows L2
variable{K:PySem.W.Frag}{H:Hp}{a:Addr}{xs:List V}
theorem fH.sq{t:Bool}(h:fH K H a t xs):(t=false/\gf K H a xs)\/(t=true/\pH K H a xs):=by
 rcases h with h|⟨o,its,n,hk,hc,hd,hs,hz,r⟩
 ·unfold BC at h;split at h<;>first|(cases h)|skip
  ·exact .inl ⟨rfl,.inl (.inl (by assumption))⟩
  ·exact .inr ⟨rfl,.inl (.inl (by assumption))⟩
  ·exact .inl ⟨rfl,.inl (.inr ⟨_,by assumption⟩)⟩
  ·exact .inr ⟨rfl,.inl (.inr ⟨_,by assumption⟩)⟩
 ·cases t with
  |false=>exact .inl ⟨rfl,.inr ⟨o,its,n,hk,hc,hd,hs,hz,r⟩⟩
  |true=>exact .inr ⟨rfl,.inr ⟨o,its,n,hk,hc,hs,hz,r⟩⟩
theorem fH.oN(h:fH K H a true xs):pH K H a xs:=by
 rcases h.sq with⟨z,_⟩|⟨_,z⟩
 ·cases z
 ·exact z
theorem fH.HH(h:fH K H a false xs):gf K H a xs:=by
 rcases h.sq with⟨_,z⟩|⟨z,_⟩
 ·exact z
 ·cases z
variable{pins:List (Addr×Obj)}{O:L2.St}{s:ah}
variable{A:cJ}
variable{b:Addr}{its its2:List Value}{ds es:List D}
variable{h:Heap}
variable{dx:D}
section
variable{X:Cx}
theorem toList_replicate(j:Nat)(x:Str):(⟨(aB j x.cps).foldl (·++·) #[]⟩:Str)=⟨(aB j x.cps.toList).flatten.toArray⟩:=by
 have h:∀(j:Nat) (acc:Array Nat),((aB j x.cps).foldl (·++·) acc)=acc++(aB j x.cps.toList).flatten.toArray:=by
  intro j;induction j with
  |zero=>intro acc;simp
  |succ j ih=>
   intro acc;rw[bM,Be,ih,bM,cB];apply Array.ext';simp
 rw[h];simp
theorem Jf:iT X (gn .Mult) (fun x y H Q=>∃i j,x=.str i/\y=.int j/\(0<=j/\j<2 ^ 40/\i.length*j.toNat<=aa)/\Q (.str ⟨(aB j.toNat i.cps.toList).flatten.toArray⟩) H):=by
 intro pins s O H x y v u Q I rx ry h;obtain⟨i,j,rfl,rfl,⟨h0,h1,h2⟩,q⟩:=h;obtain⟨t,rfl⟩:=rx;obtain⟨t',rfl⟩:=ry;have hs:aa=16777216:=dM;refine SB.mul ⟨?_,fun hn hc=>?_,fun hn hc=>?_⟩ fun t' k=>⟨.str (IM i j),H,I.tok _,⟨_,rfl⟩,?_⟩
 ·have e1:decide (j < -(2 ^ 63:Int))=false:=decide_eq_false (by omega);have e2:decide (j≥2 ^ 63)=false:=decide_eq_false (by omega);rw[e1,e2];rfl
 ·have hj:0<j:=by omega
  intro hgt;have h3:(2 ^ 63-1) / j<(i.length:Int):=hgt;have h4:(2 ^ 63-1:Int)<(i.length:Int)*j:=(Int.ediv_lt_iff_lt_mul hj).mp h3;have h5:((i.length*j.toNat:Nat):Int)=(i.length:Int)*j:=by
   rw[Int.natCast_mul,Int.toNat_of_nonneg h0]
  omega
 ·unfold Kv;simp only[decide_eq_false_iff_not];omega
 ·have e:IM i j=⟨(aB j.toNat i.cps.toList).flatten.toArray⟩:=by
   unfold IM;by_cases h3:j<1
   ·have:j.toNat=0:=by omega
    rw[if_pos h3,this];rfl
   ·rw[if_neg h3];by_cases h4:(j==1||i.length==0)=true
    ·rw[if_pos h4];rw[Bl]at h4;rcases h4 with h4|h4
     ·have:j=1:=by simpa using h4
      subst this;simp
     ·have h5:i.length=0:=by simpa using h4
      have h6:i.cps.toList=[]:=by
       apply gb;simpa[fB]using h5
      rw[h6];cases i with
      |mk c=>
       simp at h6;subst h6;simp
    ·rw[if_neg h4,toList_replicate]
  rw[e];exact q
theorem Inv.UU{l:Addr}(I:L2.Inv X pins O H s)(hH:Rd H l (.lst xs)):xs.length<=aa/\∃(its:List Value) (n:Nat),bh xs its/\xs.length=its.length/\s.heap.get? l=some { cls:=.type "list",data:=.seq its.toArray n }:=by
 obtain⟨z,its,n,r,e⟩:=hH.ok I.hok;exact⟨z,its,n,r,r.length,e⟩
theorem op_cat':iT X (gn .Add) (fun x y H Q=>∃l b xs zs,x=.ref l/\y=.ref b/\Rd H l (.lst xs)/\Rd H b (.lst zs)/\xs.length+zs.length<=aa/\∀p,H p=none->Q (.ref p) (upd H p (.lst (xs++zs)))):=by
 intro pins s O H x y v u Q I rx ry h;obtain⟨l,b,xs,zs,rfl,rfl,hH,hB,hz,q⟩:=h;cases rx;cases ry;obtain⟨z,its,n,r,hl,e⟩:=Inv.UU I hH;obtain⟨z2,its2,n2,r2,hl2,e2⟩:=Inv.UU I hB;refine PySem.P.add_list e e2 ?_ (by rw[aQ,aQ];omega);have ea:its.toArray++its2.toArray=(its++its2).toArray:=by simp
 rw[ea];exact⟨.ref _,_,I.Ja (t':=s.toks) (r.append r2) (by rw[ay];omega),rfl,q _ I.fresh⟩
theorem op_rep':iT X (gn .Mult) (fun x y H Q=>∃l k xs,x=.ref l/\y=.int k/\Rd H l (.lst xs)/\-(2 ^ 63)<=k/\k<2 ^ 63/\xs.length*k.toNat<=aa/\∀p,H p=none->Q (.ref p) (upd H p (.lst (aB k.toNat xs).flatten))):=by
 intro pins s O H x y v u Q I rx ry h;obtain⟨l,k,xs,rfl,rfl,hH,h1,h2,hz,q⟩:=h;cases rx;obtain⟨t,rfl⟩:=ry;obtain⟨z,its,n,r,hl,e⟩:=Inv.UU I hH;have hlen:its.toArray.size*k.toNat<=aa:=by rw[aQ,<-hl];exact hz
 have hcap:¬its.toArray.size*k.toNat>(2 ^ 63-1) / 8:=by
  have:(aa:Nat)<=(2 ^ 63-1) / 8:=by decide
  omega
 have hfit:¬(!DY k)=true:=by
  rw[fitsIndex_both h1 h2];exact aE
 have hlong:¬iH (its.toArray.size*k.toNat)=true:=by
  rw[EB hlen];exact aE
 have hnew:Bd (fun x1 x2=>x1++x2) #[] (aB (if its.toArray.isEmpty=true then 0 else k.toNat) its.toArray)=(aB k.toNat its).flatten.toArray:=by
  have f0:∀m:Nat,Bd (fun x1 x2=>x1++x2) #[] (aB m its.toArray)=(aB m its).flatten.toArray:=fun m=>by
   have:=foldl_rep its m [];rw[sG]at this;exact this
  rw[f0];cases its with
  |nil=>simp
  |cons a r'=>rw[if_neg (by simp)]
 refine wpAny_binaryOp_repeat_ref (T:="list") (U:="int") (by decide) ⟨_,e,rfl⟩ (fun s'=>Bc s' k t) noFill_list_mul F.fills_int_mul F.slot_int_rmul repeat_list F.slot_int_index.lookup
  (fV F.slot_int_rmul (Bc s k t) F.entry_int_rmul (F.args_int_rmul_2 _ _) (int___rmul___int_list k t l its.toArray n)
   ⟨e,rfl,⟨_,e,rfl⟩,fV F.slot_list_mul ⟨_,e,rfl⟩ F.entry_list_mul (F.args_list_mul_2 _ _) (zo l its.toArray n k t hfit hcap hlong) ⟨e,?_⟩⟩)
 rw[hnew];exact⟨.ref _,_,I.Ja (t':=s.toks) (r.rep k.toNat) (by rw[len_rep,GH];exact hz),rfl,q _ I.fresh⟩
theorem WH(op:ji):iT X (gn op) (NJ X.K op):=by
 intro pins s O H x y v u Q I rx ry h;cases op<;>first|(cases x<;>first|exact ak h|(cases y<;>exact ak h))|skip
 case Add=>
  cases x<;>first|exact ak h|(cases y<;>first|exact ak h|skip)
  ·exact Ur pins s O H _ _ v u Q I rx ry ⟨_,_,rfl,rfl,h⟩
  ·exact IV pins s O H _ _ v u Q I rx ry ⟨_,_,rfl,rfl,h⟩
  ·rcases h with⟨xs,ys,h1,h2,h3,h4⟩|⟨xs,ys,h1,h2,h3,h4,h5,h6⟩
   ·exact op_cat' pins s O H _ _ v u Q I rx ry ⟨_,_,xs,ys,rfl,rfl,h1,h2,h3,h4⟩
   ·have t1:=h1.oN;have t2:=h2.oN;exact R3 pins s O H _ _ v u Q I rx ry ⟨_,_,xs,ys,rfl,rfl,t1,t2,h3,h5,fun z=>absurd z h4,fun _=>h6⟩
 case Sub=>
  cases x<;>first|exact ak h|(cases y<;>first|exact ak h|skip)
  ·exact Us pins s O H _ _ v u Q I rx ry ⟨_,_,rfl,rfl,h⟩
 case Mult=>
  cases x<;>first|exact ak h|(cases y<;>first|exact ak h|skip)
  ·exact Ut pins s O H _ _ v u Q I rx ry ⟨_,_,rfl,rfl,h⟩
  ·exact Jf pins s O H _ _ v u Q I rx ry ⟨_,_,rfl,rfl,h⟩
  ·obtain⟨xs,h1,⟨h2,h3⟩,h4,h5⟩:=h;exact op_rep' pins s O H _ _ v u Q I rx ry ⟨_,_,xs,rfl,rfl,h1,h2,h3,h4,h5⟩
 case FloorDiv=>
  cases x<;>first|exact ak h|(cases y<;>first|exact ak h|skip)
  ·exact RV pins s O H _ _ v u Q I rx ry ⟨_,_,rfl,rfl,h⟩
 case Mod=>
  cases x<;>first|exact ak h|(cases y<;>first|exact ak h|skip)
  ·exact Uu pins s O H _ _ v u Q I rx ry ⟨_,_,rfl,rfl,h⟩
 case Pow=>
  cases x<;>first|exact ak h|(cases y<;>first|exact ak h|skip)
  ·exact Uv pins s O H _ _ v u Q I rx ry ⟨_,_,rfl,rfl,h⟩
theorem K4:iT X (fG .LtE) (fun x y H Q=>∃i j,x=.str i/\y=.str j/\Q (.bl (!decide (j.cps.toList<i.cps.toList))) H):=by
 intro pins s O H x y v u Q I rx ry h;obtain⟨i,j,rfl,rfl,q⟩:=h;obtain⟨t,rfl⟩:=rx;obtain⟨t',rfl⟩:=ry;exact PySem.P.le_str (Aj I q rfl)
section
open PySem.SeqAt
variable{pins:List (Addr×Obj)}{O:L2.St}{H:Hp}{s:ah}
theorem aD.len':∀{ds:List D}{vs:List V},aD K H ds vs->vs.length=ds.length
|[],_,h=>by cases h;rfl
|d::ds,_,h=>by
 obtain⟨v,r,rfl,_,h3⟩:=h;simp[aD.len' h3]
theorem Rd.o6(h:Rd H a (.lst xs)):gf K H a xs:=.inl h
mutual
theorem BF(I:L2.Inv X pins O H s):∀(dx dy:D) (v:V) (n m:Nat),kq dx n=true->kq dy m=true->aV X.K H dx v->aV X.K H dy v->jm dx dy=true
|.non,dy,v,n,m,hn,hm,r,q=>by
 cases r;cases dy with
 |non=>rfl
 |str z=>cases q.1
 |lst o es=>obtain⟨a,vs,z,_⟩:=q;cases z
 |tup es=>obtain⟨a,vs,z,_⟩:=q;cases z
 |cst es=>cases hm
 |exc C ks es=>cases hm
 |_=>cases q
|.bl b,dy,v,n,m,hn,hm,r,q=>by
 cases r;cases dy with
 |bl c=>cases q;simp[jm]
 |str z=>cases q.1
 |lst o es=>obtain⟨a,vs,z,_⟩:=q;cases z
 |tup es=>obtain⟨a,vs,z,_⟩:=q;cases z
 |cst es=>cases hm
 |exc C ks es=>cases hm
 |_=>cases q
|.int b,dy,v,n,m,hn,hm,r,q=>by
 cases r;cases dy with
 |int c=>cases q;simp[jm]
 |str z=>cases q.1
 |lst o es=>obtain⟨a,vs,z,_⟩:=q;cases z
 |tup es=>obtain⟨a,vs,z,_⟩:=q;cases z
 |cst es=>cases hm
 |exc C ks es=>cases hm
 |_=>cases q
|.str b,dy,v,n,m,hn,hm,r,q=>by
 obtain⟨rfl,_⟩:=r;cases dy with
 |str c=>cases q.1;simp[jm]
 |lst o es=>obtain⟨a,vs,z,_⟩:=q;cases z
 |tup es=>obtain⟨a,vs,z,_⟩:=q;cases z
 |cst es=>cases hm
 |exc C ks es=>cases hm
 |_=>cases q
|.lst o ds,dy,v,n,m,hn,hm,r,q=>by
 obtain⟨a,vs,rfl,h2,h3,h4⟩:=r;cases n with
 |zero=>cases hn
 |succ n=>
 cases dy with
 |lst o' es=>
  obtain⟨a',us,e,k2,k3,k4⟩:=q;cases e;cases m with
  |zero=>cases hm
  |succ m=>
  have e:=I.qI (Rd.o6 h2) (Rd.o6 k2);subst e;exact zB I ds es vs n m hn hm h4 k4
 |tup es=>
  obtain⟨a',us,e,k2,k3,k4⟩:=q;cases e;obtain⟨its,_,⟨o1,n1,e1,c1,_⟩,_⟩:=I.list (Rd.o6 h2);obtain⟨its2,_,⟨o2,e2,c2,_⟩,_⟩:=I.tuple (tupS k2).oN;rw[e1]at e2;cases e2;rw[c1]at c2;exact absurd c2 (by decide)
 |str z=>cases q.1
 |cst es=>cases hm
 |exc C ks es=>cases hm
 |_=>cases q
|.tup ds,dy,v,n,m,hn,hm,r,q=>by
 obtain⟨a,vs,rfl,h2,h3,h4⟩:=r;cases n with
 |zero=>cases hn
 |succ n=>
 cases dy with
 |tup es=>
  obtain⟨a',us,e,k2,k3,k4⟩:=q;cases e;cases m with
  |zero=>cases hm
  |succ m=>
  have e:=I.Ct (tupS h2).oN (tupS k2).oN;subst e;exact zB I ds es vs n m hn hm h4 k4
 |lst o es=>
  obtain⟨a',us,e,k2,k3,k4⟩:=q;cases e;obtain⟨its,_,⟨o1,n1,e1,c1,_⟩,_⟩:=I.list (Rd.o6 k2);obtain⟨its2,_,⟨o2,e2,c2,_⟩,_⟩:=I.tuple (tupS h2).oN;rw[e1]at e2;cases e2;rw[c1]at c2;exact absurd c2 (by decide)
 |str z=>cases q.1
 |cst es=>cases hm
 |exc C ks es=>cases hm
 |_=>cases q
|.cst _,dy,v,n,m,hn,hm,r,q=>by cases hn
|.exc _ _ _,dy,v,n,m,hn,hm,r,q=>by cases hn
theorem zB(I:L2.Inv X pins O H s):∀(ds es:List D) (vs:List V) (n m:Nat),eT ds n=true->eT es m=true->aD X.K H ds vs->aD X.K H es vs->ko ds es=true
|[],es,vs,n,m,hn,hm,r,q=>by
 cases r;cases es with
 |nil=>rfl
 |cons e es=>obtain⟨_,_,z,_⟩:=q;cases z
|d::ds,es,vs,n,m,hn,hm,r,q=>by
 obtain⟨v,r',rfl,r1,r2⟩:=r;cases es with
 |nil=>cases q
 |cons e es=>
  obtain⟨w,q',z,q1,q2⟩:=q;cases z;have hn':kq d n=true/\eT ds n=true:=by simpa[eT]using hn
  have hm':kq e m=true/\eT es m=true:=by simpa[eT]using hm
  show(jm d e&&ko ds es)=true;rw[BF I d e v n m hn'.1 hm'.1 r1 q1,zB I ds es r' n m hn'.2 hm'.2 r2 q2];rfl
end
structure Eqs (A:cJ) (s:ah) (v u:Value) (b:Bool):Prop where
 eq:EqAt A s v u b
 rc:RcAt A s v u b
 ne:RcNeAt A s v u (!b)
def nT(A:cJ)(s:ah):List D->List D->List Value->List Value->Prop
|d::ds,e::es,v::vs,u::us=>EqAt A s v u (jm d e)/\nT A s ds es vs us
|_,_,_,_=>True
theorem nT.get:∀{ds es:List D}{vs us:List Value} (j:Nat) {d e:D}{v u:Value},nT A s ds es vs us->ds[j]?=some d->es[j]?=some e->vs[j]?=some v->us[j]?=some u->EqAt A s v u (jm d e)
|d::ds,e::es,v::vs,u::us,0,_,_,_,_,h,a,b,c,f=>by
 simp at a b c f;subst a b c f;exact h.1
|d::ds,e::es,v::vs,u::us,j+1,_,_,_,_,h,a,b,c,f=>nT.get j h.2 (by simpa using a) (by simpa using b) (by simpa using c) (by simpa using f)
|[],_,_,_,j,_,_,_,_,_,a,_,_,_=>by simp at a
|_::_,[],_,_,j,_,_,_,_,_,_,b,_,_=>by simp at b
|_::_,_::_,[],_,j,_,_,_,_,_,_,_,c,_=>by simp at c
|_::_,_::_,_::_,[],j,_,_,_,_,_,_,_,_,f=>by simp at f
noncomputable def eqAt'(ds es:List D)(j:Nat):Bool:=match ds[j]?,es[j]? with
|some d,some e=>jm d e
|_,_=>true
theorem zC:∀(ds es:List D),ds.length=es.length->(bY ds.length).all (eqAt' ds es)=ko ds es
|[],[],_=>rfl
|d::ds,e::es,h=>by
 have ih:=zC ds es (by simpa using h);rw[aN,List.range_succ_eq_map,pF,iK];show(jm d e&&(bY ds.length).all (eqAt' (d::ds) (e::es)∘Nat.succ))=(jm d e&&ko ds es);rw[<-ih];congr 1
|[],_::_,h=>by simp at h
|_::_,[],h=>by simp at h
theorem zD:∀(ds es:List D),ds.length≠es.length->ko ds es=false
|[],[],h=>absurd rfl h
|[],_::_,_=>rfl
|_::_,[],_=>rfl
|d::ds,e::es,h=>by
 show(jm d e&&ko ds es)=false;rw[zD ds es (fun z=>h (by simp[z]))];simp
theorem K5(hl:s.heap.IsList a its.toArray)(hb:s.heap.IsList b its2.toArray)(l1:its.length=ds.length)(l2:its2.length=es.length)(hu:A.units<dc)(he:nT A.in1 s ds es its its2) :
  RcAt A s (.ref a) (.ref b) (ko ds es)/\RcNeAt A s (.ref a) (.ref b) (!ko ds es):=by
 by_cases hz:ds.length=es.length
 ·have hsz:its.toArray.size=its2.toArray.size:=by simp;omega
  have he':∀j (h1:j<its.toArray.size) (h2:j<its2.toArray.size),EqAt A.in1 s its.toArray[j] its2.toArray[j] (eqAt' ds es j):=by
   intro j h1 h2;have g1:j<its.length:=by simpa using h1
   have g2:j<its2.length:=by simpa using h2
   have e1:=aG (l:=ds) (i:=j) (by omega);have e2:=aG (l:=es) (i:=j) (by omega);have:=he.get j e1 e2 (aG g1) (aG g2);unfold eqAt';rw[e1,e2];simpa using this
  have r1:=RcAt.lists hl hb hsz hu he';have r2:=RcNeAt.lists hl hb hsz hu he';have ez:its.toArray.size=ds.length:=by simp;omega
  rw[ez,zC ds es hz]at r1 r2;exact⟨r1,r2⟩
 ·have hsz:(its.toArray.size != its2.toArray.size)=true:=by simp;omega
  rw[zD ds es hz];exact⟨RcAt.lists_lengths hl hb hsz hu,RcNeAt.lists_lengths hl hb hsz hu⟩
theorem Jg(hl:s.heap.IsTuple a its.toArray)(hb:s.heap.IsTuple b its2.toArray)(l1:its.length=ds.length)(l2:its2.length=es.length)(hu:A.units<dc)(he:nT A.in1 s ds es its its2) :
  RcAt A s (.ref a) (.ref b) (ko ds es)/\RcNeAt A s (.ref a) (.ref b) (!ko ds es):=by
 have he':∀j (h1:j<its.toArray.size) (h2:j<its2.toArray.size),EqAt A.in1 s its.toArray[j] its2.toArray[j] (eqAt' ds es j):=by
  intro j h1 h2;have g1:j<its.length:=by simpa using h1
  have g2:j<its2.length:=by simpa using h2
  have e1:=aG (l:=ds) (i:=j) (by omega);have e2:=aG (l:=es) (i:=j) (by omega);have:=he.get j e1 e2 (aG g1) (aG g2);unfold eqAt';rw[e1,e2];simpa using this
 have r1:=RcAt.tuples hl hb hu he';have r2:=RcNeAt.tuples hl hb hu he';have key:((bY (min its.toArray.size its2.toArray.size)).all (eqAt' ds es)&&its.toArray.size==its2.toArray.size)=ko ds es:=by
  by_cases hz:ds.length=es.length
  ·have e1:min its.toArray.size its2.toArray.size=ds.length:=by simp;omega
   have e2:(its.toArray.size==its2.toArray.size)=true:=by simp;omega
   rw[e1,e2,zC ds es hz,DZ]
  ·have e2:(its.toArray.size==its2.toArray.size)=false:=by simp;omega
   rw[e2,om,zD ds es hz]
 rw[key]at r1 r2;exact⟨r1,r2⟩
theorem PlainL.is{its:Array Value}(p:PlainL h a its):h.IsList a its:=by
 obtain⟨o,n,e,c,_,d⟩:=p;exact⟨o,e,c,n,d⟩
theorem IsTup.is{its:Array Value}(p:IsTup h a its):h.IsTuple a its:=p
mutual
theorem D9(I:L2.Inv X pins O H s):∀(dx dy:D) (n m:Nat) (x y:V) (v u:Value) (A:cJ),kq dx n=true->kq dy m=true->aV X.K H dx x->L2.RelV x v->aV X.K H dy y->L2.RelV y u->A.units+n<dc->Eqs A s v u (jm dx dy)
|.non,dy,n,m,x,y,v,u,A,hn,hm,r,rv,q,qu,hu=>by
 have hu':A.units<dc:=by omega
 cases r;cases rv;cases dy with
 |non=>cases q;cases qu;exact⟨EqAt.same _,RcAt.none_none,RcNeAt.none_none⟩
 |bl b=>cases q;cases qu;exact⟨EqAt.none_bool b,RcAt.none_bool b,RcNeAt.none_bool b⟩
 |int i=>cases q;obtain⟨t,rfl⟩:=qu;exact⟨EqAt.none_int i t,RcAt.none_int i t,RcNeAt.none_int i t⟩
 |str z=>obtain⟨rfl,_⟩:=q;obtain⟨t,rfl⟩:=qu;exact⟨EqAt.none_str z t,RcAt.none_str z t,RcNeAt.none_str z t⟩
 |lst o es=>
  obtain⟨b,us,rfl,k2,k3,k4⟩:=q;cases qu;obtain⟨its,_,p,_⟩:=I.list (Rd.o6 k2);exact⟨EqAt.none_list (PlainL.is p) hu',RcAt.none_list (PlainL.is p) hu',RcNeAt.none_list (PlainL.is p) hu'⟩
 |tup es=>
  obtain⟨b,us,rfl,k2,k3,k4⟩:=q;cases qu;obtain⟨its,_,p,_⟩:=I.tuple (tupS k2).oN;exact⟨EqAt.none_tuple (IsTup.is p) hu',RcAt.none_tuple (IsTup.is p) hu',RcNeAt.none_tuple (IsTup.is p) hu'⟩
 |cst _=>cases hm
 |exc _ _ _=>cases hm
|.bl a,dy,n,m,x,y,v,u,A,hn,hm,r,rv,q,qu,hu=>by
 have hu':A.units<dc:=by omega
 cases r;cases rv;cases dy with
 |non=>cases q;cases qu;exact⟨EqAt.bool_none a,RcAt.bool_none a,RcNeAt.bool_none a⟩
 |bl b=>cases q;cases qu;exact⟨EqAt.bool_bool a b,RcAt.bool_bool a b,RcNeAt.bool_bool a b⟩
 |int i=>cases q;obtain⟨t,rfl⟩:=qu;exact⟨EqAt.bool_int a i t,RcAt.bool_int a i t,RcNeAt.bool_int a i t⟩
 |str z=>obtain⟨rfl,_⟩:=q;obtain⟨t,rfl⟩:=qu;exact⟨EqAt.bool_str a z t,RcAt.bool_str a z t,RcNeAt.bool_str a z t⟩
 |lst o es=>
  obtain⟨b,us,rfl,k2,k3,k4⟩:=q;cases qu;obtain⟨its,_,p,_⟩:=I.list (Rd.o6 k2);exact⟨EqAt.bool_list a (PlainL.is p) hu',RcAt.bool_list a (PlainL.is p) hu',RcNeAt.bool_list a (PlainL.is p) hu'⟩
 |tup es=>
  obtain⟨b,us,rfl,k2,k3,k4⟩:=q;cases qu;obtain⟨its,_,p,_⟩:=I.tuple (tupS k2).oN;exact⟨EqAt.bool_tuple a (IsTup.is p) hu',RcAt.bool_tuple a (IsTup.is p) hu',RcNeAt.bool_tuple a (IsTup.is p) hu'⟩
 |cst _=>cases hm
 |exc _ _ _=>cases hm
|.int a,dy,n,m,x,y,v,u,A,hn,hm,r,rv,q,qu,hu=>by
 have hu':A.units<dc:=by omega
 cases r;obtain⟨tt,rfl⟩:=rv;cases dy with
 |non=>cases q;cases qu;exact⟨EqAt.int_none a tt,RcAt.int_none a tt,RcNeAt.int_none a tt⟩
 |bl b=>cases q;cases qu;exact⟨EqAt.int_bool a tt b,RcAt.int_bool a tt b,RcNeAt.int_bool a tt b⟩
 |int i=>cases q;obtain⟨t,rfl⟩:=qu;exact⟨EqAt.int_int a tt i t,RcAt.int_int a tt i t,RcNeAt.int_int a tt i t⟩
 |str z=>obtain⟨rfl,_⟩:=q;obtain⟨t,rfl⟩:=qu;exact⟨EqAt.int_str a tt z t,RcAt.int_str a tt z t,RcNeAt.int_str a tt z t⟩
 |lst o es=>
  obtain⟨b,us,rfl,k2,k3,k4⟩:=q;cases qu;obtain⟨its,_,p,_⟩:=I.list (Rd.o6 k2);exact⟨EqAt.int_list a tt (PlainL.is p) hu',RcAt.int_list a tt (PlainL.is p) hu',RcNeAt.int_list a tt (PlainL.is p) hu'⟩
 |tup es=>
  obtain⟨b,us,rfl,k2,k3,k4⟩:=q;cases qu;obtain⟨its,_,p,_⟩:=I.tuple (tupS k2).oN;exact⟨EqAt.int_tuple a tt (IsTup.is p) hu',RcAt.int_tuple a tt (IsTup.is p) hu',RcNeAt.int_tuple a tt (IsTup.is p) hu'⟩
 |cst _=>cases hm
 |exc _ _ _=>cases hm
|.str a,dy,n,m,x,y,v,u,A,hn,hm,r,rv,q,qu,hu=>by
 have hu':A.units<dc:=by omega
 obtain⟨rfl,_⟩:=r;obtain⟨tt,rfl⟩:=rv;cases dy with
 |non=>cases q;cases qu;exact⟨EqAt.str_none a tt,RcAt.str_none a tt,RcNeAt.str_none a tt⟩
 |bl b=>cases q;cases qu;exact⟨EqAt.str_bool a tt b,RcAt.str_bool a tt b,RcNeAt.str_bool a tt b⟩
 |int i=>cases q;obtain⟨t,rfl⟩:=qu;exact⟨EqAt.str_int a tt i t,RcAt.str_int a tt i t,RcNeAt.str_int a tt i t⟩
 |str z=>obtain⟨rfl,_⟩:=q;obtain⟨t,rfl⟩:=qu;exact⟨EqAt.str_str a tt z t,RcAt.str_str a tt z t,RcNeAt.str_str a tt z t⟩
 |lst o es=>
  obtain⟨b,us,rfl,k2,k3,k4⟩:=q;cases qu;obtain⟨its,_,p,_⟩:=I.list (Rd.o6 k2);exact⟨EqAt.str_list a tt (PlainL.is p) hu',RcAt.str_list a tt (PlainL.is p) hu',RcNeAt.str_list a tt (PlainL.is p) hu'⟩
 |tup es=>
  obtain⟨b,us,rfl,k2,k3,k4⟩:=q;cases qu;obtain⟨its,_,p,_⟩:=I.tuple (tupS k2).oN;exact⟨EqAt.str_tuple a tt (IsTup.is p) hu',RcAt.str_tuple a tt (IsTup.is p) hu',RcNeAt.str_tuple a tt (IsTup.is p) hu'⟩
 |cst _=>cases hm
 |exc _ _ _=>cases hm
|.lst o ds,dy,n,m,x,y,v,u,A,hn,hm,r,rv,q,qu,hu=>by
 have hu':A.units<dc:=by omega
 have hr:=r;obtain⟨a,vs,rfl,h2,h3,h4⟩:=r;cases rv;obtain⟨its,rits,p,_⟩:=I.list (Rd.o6 h2);have hn0:=hn;cases n with
 |zero=>cases hn
 |succ n=>
 cases dy with
 |non=>cases q;cases qu;exact⟨EqAt.list_none (PlainL.is p) hu',RcAt.list_none (PlainL.is p) hu',RcNeAt.list_none (PlainL.is p) hu'⟩
 |bl b=>cases q;cases qu;exact⟨EqAt.list_bool b (PlainL.is p) hu',RcAt.list_bool b (PlainL.is p) hu',RcNeAt.list_bool b (PlainL.is p) hu'⟩
 |int i=>cases q;obtain⟨t,rfl⟩:=qu;exact⟨EqAt.list_int i t (PlainL.is p) hu',RcAt.list_int i t (PlainL.is p) hu',RcNeAt.list_int i t (PlainL.is p) hu'⟩
 |str z=>obtain⟨rfl,_⟩:=q;obtain⟨t,rfl⟩:=qu;exact⟨EqAt.list_str z t (PlainL.is p) hu',RcAt.list_str z t (PlainL.is p) hu',RcNeAt.list_str z t (PlainL.is p) hu'⟩
 |lst o' es=>
  have hq:=q;obtain⟨b,us,rfl,k2,k3,k4⟩:=q;cases qu;obtain⟨its2,rits2,p2,_⟩:=I.list (Rd.o6 k2);have hm0:=hm;cases m with
  |zero=>cases hm
  |succ m=>
  obtain⟨r1,r2⟩:=K5 (A:=A) (ds:=ds) (es:=es) (PlainL.is p) (PlainL.is p2) (by rw[<-rits.length,aD.len' h4]) (by rw[<-rits2.length,aD.len' k4]) hu' (EN I ds es n m vs us its its2 A.in1 hn hm h4 rits k4 rits2 (by show A.units+1+n<dc;omega));refine⟨?_,r1,r2⟩;by_cases e:a=b
  ·subst e;have z:=BF I (.lst o ds) (.lst o' es) (.ref a) (n+1) (m+1) hn0 hm0 hr hq;rw[z];exact EqAt.same _
  ·exact EqAt.of_refs e r1
 |tup es=>
  obtain⟨b,us,rfl,k2,k3,k4⟩:=q;cases qu;obtain⟨its2,_,p2,_⟩:=I.tuple (tupS k2).oN;exact⟨EqAt.list_tuple (PlainL.is p) (IsTup.is p2) hu',RcAt.list_tuple (PlainL.is p) (IsTup.is p2) hu',RcNeAt.list_tuple (PlainL.is p) (IsTup.is p2) hu'⟩
 |cst _=>cases hm
 |exc _ _ _=>cases hm
|.tup ds,dy,n,m,x,y,v,u,A,hn,hm,r,rv,q,qu,hu=>by
 have hu':A.units<dc:=by omega
 have hr:=r;obtain⟨a,vs,rfl,h2,h3,h4⟩:=r;cases rv;obtain⟨its,rits,p,_⟩:=I.tuple (tupS h2).oN;have hn0:=hn;cases n with
 |zero=>cases hn
 |succ n=>
 cases dy with
 |non=>cases q;cases qu;exact⟨EqAt.tuple_none (IsTup.is p) hu',RcAt.tuple_none (IsTup.is p) hu',RcNeAt.tuple_none (IsTup.is p) hu'⟩
 |bl b=>cases q;cases qu;exact⟨EqAt.tuple_bool b (IsTup.is p) hu',RcAt.tuple_bool b (IsTup.is p) hu',RcNeAt.tuple_bool b (IsTup.is p) hu'⟩
 |int i=>cases q;obtain⟨t,rfl⟩:=qu;exact⟨EqAt.tuple_int i t (IsTup.is p) hu',RcAt.tuple_int i t (IsTup.is p) hu',RcNeAt.tuple_int i t (IsTup.is p) hu'⟩
 |str z=>obtain⟨rfl,_⟩:=q;obtain⟨t,rfl⟩:=qu;exact⟨EqAt.tuple_str z t (IsTup.is p) hu',RcAt.tuple_str z t (IsTup.is p) hu',RcNeAt.tuple_str z t (IsTup.is p) hu'⟩
 |tup es=>
  have hq:=q;obtain⟨b,us,rfl,k2,k3,k4⟩:=q;cases qu;obtain⟨its2,rits2,p2,_⟩:=I.tuple (tupS k2).oN;have hm0:=hm;cases m with
  |zero=>cases hm
  |succ m=>
  obtain⟨r1,r2⟩:=Jg (A:=A) (ds:=ds) (es:=es) (IsTup.is p) (IsTup.is p2) (by rw[<-rits.length,aD.len' h4]) (by rw[<-rits2.length,aD.len' k4]) hu' (EN I ds es n m vs us its its2 A.in1 hn hm h4 rits k4 rits2 (by show A.units+1+n<dc;omega));refine⟨?_,r1,r2⟩;by_cases e:a=b
  ·subst e;have z:=BF I (.tup ds) (.tup es) (.ref a) (n+1) (m+1) hn0 hm0 hr hq;rw[z];exact EqAt.same _
  ·exact EqAt.of_refs e r1
 |lst o es=>
  obtain⟨b,us,rfl,k2,k3,k4⟩:=q;cases qu;obtain⟨its2,_,p2,_⟩:=I.list (Rd.o6 k2);exact⟨EqAt.tuple_list (IsTup.is p) (PlainL.is p2) hu',RcAt.tuple_list (IsTup.is p) (PlainL.is p2) hu',RcNeAt.tuple_list (IsTup.is p) (PlainL.is p2) hu'⟩
 |cst _=>cases hm
 |exc _ _ _=>cases hm
|.cst _,dy,n,m,x,y,v,u,A,hn,hm,r,rv,q,qu,hu=>by cases hn
|.exc _ _ _,dy,n,m,x,y,v,u,A,hn,hm,r,rv,q,qu,hu=>by cases hn
theorem EN(I:L2.Inv X pins O H s):∀(ds es:List D) (n m:Nat) (vs us:List V) (its its2:List Value) (A:cJ),eT ds n=true->eT es m=true->aD X.K H ds vs->bh vs its->aD X.K H es us->bh us its2->A.units+n<dc->nT A s ds es its its2
|[],es,n,m,vs,us,its,its2,A,hn,hm,r,rv,q,qu,hu=>by cases its<;>trivial
|d::ds,[],n,m,vs,us,its,its2,A,hn,hm,r,rv,q,qu,hu=>by cases its<;>trivial
|d::ds,e::es,n,m,vs,us,its,its2,A,hn,hm,r,rv,q,qu,hu=>by
 have hn':kq d n=true/\eT ds n=true:=by simpa[eT]using hn
 have hm':kq e m=true/\eT es m=true:=by simpa[eT]using hm
 obtain⟨x,vr,rfl,r1,r2⟩:=r;obtain⟨y,ur,rfl,q1,q2⟩:=q;cases rv with
 |cons rv1 rv2=>
  cases qu with
  |cons qu1 qu2=>
   exact⟨(D9 I d e n m x y _ _ A hn'.1 hm'.1 r1 rv1 q1 qu1 hu).eq,EN I ds es n m vr ur _ _ A hn'.2 hm'.2 r2 rv2 q2 qu2 hu⟩
end
end
theorem WI(hu:X.A.units+60<dc):iT X (fG .Eq) (fun x y H Q=>∃dx dy,aV X.K H dx x/\aV X.K H dy y/\dD dx=true/\dD dy=true/\Q (.bl (jm dx dy)) H):=by
 intro pins s O H x y v u Q I rx ry h;obtain⟨dx,dy,h1,h2,h3,h4,q⟩:=h;exact(D9 I dx dy 12 12 x y v u X.A h3 h4 h1 rx h2 ry (by omega)).rc X.prog X.w X.xe _ ⟨.bl (jm dx dy),H,I,rfl,q⟩
theorem WJ(hu:X.A.units+60<dc):iT X (fG .NotEq) (fun x y H Q=>∃dx dy,aV X.K H dx x/\aV X.K H dy y/\dD dx=true/\dD dy=true/\Q (.bl (!jm dx dy)) H):=by
 intro pins s O H x y v u Q I rx ry h;obtain⟨dx,dy,h1,h2,h3,h4,q⟩:=h;exact(D9 I dx dy 12 12 x y v u X.A h3 h4 h1 rx h2 ry (by omega)).ne X.prog X.w X.xe _ ⟨.bl (!jm dx dy),H,I,rfl,q⟩
theorem Av{x:Value}:∀(ds:List D) (its:List Value),its.length=ds.length->(∀(j:Nat) d v,ds[j]?=some d->its[j]?=some v->PySem.SeqAt.EqAt A s v x (jm d dx))->
  ∃e:Value->Bool,(∀y,y∈its.toArray->PySem.SeqAt.EqAt A s y x (e y))/\its.toArray.any e=memD dx ds:=by
 intro ds its hl he
 classical
 refine⟨fun v=>decide (∃(j:Nat) (d:D),its[j]?=some v/\ds[j]?=some d/\jm d dx=true),fun y hy=>?_,?_⟩
 ·have hy:y∈its:=by simpa using hy
  obtain⟨j,hj,ej⟩:=vN hy;dsimp only;by_cases h:∃(j:Nat) (d:D),its[j]?=some y/\ds[j]?=some d/\jm d dx=true
  ·rw[decide_eq_true h];obtain⟨k,d,h1,h2,h3⟩:=h;have:=he k d y h2 h1;rw[h3]at this;exact this
  ·rw[decide_eq_false h];have e1:ds[j]?=some ds[j]:=aG (by omega);have e2:its[j]?=some y:=by rw[aG hj,ej]
   have:=he j _ y e1 e2;cases q:jm ds[j] dx with
   |true=>exact absurd ⟨j,_,e2,e1,q⟩ h
   |false=>rw[q]at this;exact this
 ·rw[fY];unfold memD;simp only[List.any_toArray,mj,decide_eq_true_eq];constructor
  ·rintro⟨v,_,j,d,h1,h2,h3⟩;exact⟨d,fU h2,h3⟩
  ·rintro⟨d,hd,h3⟩;obtain⟨j,hj,ej⟩:=vN hd;have g1:its[j]?=some its[j]:=aG (by omega);exact⟨its[j],iL _,j,d,g1,by rw[aG hj,ej],h3⟩
theorem qK(hu:X.A.units+60<dc)(I:L2.Inv X pins O H s){x:V}{v:Value}(rx:aV X.K H dx x)(rv:L2.RelV x v)(hx:kq dx 12=true) :
 ∀{ds:List D}{xs:List V}{its:List Value},aD X.K H ds xs->bh xs its->eT ds 12=true->∀(j:Nat) d w,ds[j]?=some d->its[j]?=some w->PySem.SeqAt.EqAt X.A.in1 s w v (jm d dx)
|[],_,_,_,_,_,j,d,w,h,_=>by simp at h
|e::ds,_,_,r,rr,ho,j,d,w,h1,h2=>by
 obtain⟨y,ys,rfl,r1,r2⟩:=r;have ho':kq e 12=true/\eT ds 12=true:=by simpa[eT]using ho
 cases rr with
 |cons ra rb=>
  cases j with
  |zero=>
   simp at h1 h2;subst h1 h2;exact(D9 I e dx 12 12 y x _ v X.A.in1 ho'.1 hx r1 ra rx rv (by show X.A.units+1+12<dc;omega)).eq
  |succ j=>exact qK hu I rx rv hx r2 rb ho'.2 j d w (by simpa using h1) (by simpa using h2)
theorem yc(hu:X.A.units+60<dc)(op:nB):iT X (fG op) (lY X.K op):=by
 intro pins s O H x y v u Q I rx ry h;unfold lY at h;split at h
 ·exact Wp pins s O H _ _ v u Q I rx ry ⟨_,_,rfl,rfl,h⟩
 ·exact Wq pins s O H _ _ v u Q I rx ry ⟨_,_,rfl,rfl,h⟩
 ·exact Wr pins s O H _ _ v u Q I rx ry ⟨_,_,rfl,rfl,h⟩
 ·exact Ws pins s O H _ _ v u Q I rx ry ⟨_,_,rfl,rfl,h⟩
 ·exact KJ pins s O H _ _ v u Q I rx ry ⟨_,_,rfl,rfl,h⟩
 ·exact K4 pins s O H _ _ v u Q I rx ry ⟨_,_,rfl,rfl,h⟩
 ·exact WI hu pins s O H _ _ v u Q I rx ry h
 ·exact WJ hu pins s O H _ _ v u Q I rx ry h
 ·exact Ux pins s O H _ _ v u Q I rx ry ⟨rfl,h⟩
 ·exact RW pins s O H _ _ v u Q I rx ry ⟨rfl,h⟩
 ·rename_i a;cases(show u=a8 a from ry);rcases h with⟨t,xs,dx,ds,hx,h1,h2,h3,h4,q⟩|⟨kvs,k,hk,rfl,q⟩
  ·cases t with
   |false=>
    obtain⟨its,r,p,_⟩:=I.list hx.HH;obtain⟨e,e1,e2⟩:=Av (A:=X.A.in1) (s:=s) (x:=v) (dx:=dx) ds its (by rw[<-r.length,aD.len' h2]) (qK hu I h1 rx h3 h2 r h4);exact PySem.SeqAt.in_listAt e (PlainL.is p) e1 ⟨.bl (its.toArray.any e),H,I,rfl,by rw[e2];exact q⟩
   |true=>
    obtain⟨its,r,p,_⟩:=I.tuple hx.oN;obtain⟨e,e1,e2⟩:=Av (A:=X.A.in1) (s:=s) (x:=v) (dx:=dx) ds its (by rw[<-r.length,aD.len' h2]) (qK hu I h1 rx h3 h2 r h4);exact PySem.SeqAt.in_tupleAt e (IsTup.is p) e1 ⟨.bl (its.toArray.any e),H,I,rfl,by rw[e2];exact q⟩
  ·exact Yj (by omega) I (.inl ⟨kvs,k,hk,rfl,rfl⟩) rx fun s3 I3=>⟨.bl (jK kvs k).isSome,H,I3,rfl,q⟩
 ·rename_i a;cases(show u=a8 a from ry);rcases h with⟨t,xs,dx,ds,hx,h1,h2,h3,h4,q⟩|⟨kvs,k,hk,rfl,q⟩
  ·cases t with
   |false=>
    obtain⟨its,r,p,_⟩:=I.list hx.HH;obtain⟨e,e1,e2⟩:=Av (A:=X.A.in1) (s:=s) (x:=v) (dx:=dx) ds its (by rw[<-r.length,aD.len' h2]) (qK hu I h1 rx h3 h2 r h4);exact PySem.SeqAt.notIn_listAt e (PlainL.is p) e1 ⟨.bl (!its.toArray.any e),H,I,rfl,by rw[e2];exact q⟩
   |true=>
    obtain⟨its,r,p,_⟩:=I.tuple hx.oN;obtain⟨e,e1,e2⟩:=Av (A:=X.A.in1) (s:=s) (x:=v) (dx:=dx) ds its (by rw[<-r.length,aD.len' h2]) (qK hu I h1 rx h3 h2 r h4);exact PySem.SeqAt.notIn_tupleAt e (IsTup.is p) e1 ⟨.bl (!its.toArray.any e),H,I,rfl,by rw[e2];exact q⟩
  ·exact R8 (by omega) I (.inl ⟨kvs,k,hk,rfl,rfl⟩) rx fun s3 I3=>⟨.bl (!(jK kvs k).isSome),H,I3,rfl,q⟩
 ·exact h.elim
theorem Rb:Uo X (fun x H Q=>iR X.K x H fun b=>Q b H):=by
 intro pins s O H x v Q I rx h;refine Uy pins s O H x v Q I rx ?_;cases x with
 |bl b=>exact⟨b,rfl,h⟩
 |non=>exact⟨false,rfl,h⟩
 |int i=>exact⟨_,rfl,h⟩
 |str z=>
  obtain⟨hz,h⟩:=h;refine⟨_,⟨hz,rfl⟩,?_⟩;have e:((z.length:Int) != 0)=(z.length != 0):=by
   rw[fY];simp
  rw[e];exact h
 |ref a=>
  rcases h with⟨t,xs,hx,h⟩|⟨kvs,hk,h⟩
  ·refine⟨_,?_,h⟩;rcases hx.sq with⟨_,z⟩|⟨_,z⟩
   ·exact .inl ⟨xs,z,rfl⟩
   ·exact .inr (.inl ⟨xs,z,rfl⟩)
  ·exact⟨_,.inr (.inr ⟨kvs,hk,rfl⟩),h⟩
 |_=>exact ak h
theorem Sh(hu:X.A.units+60<dc):Ew X (fun x y H Q=>∃a kvs k v,x=.ref a/\Rd H a (.dK kvs)/\y=kV k/\jK kvs k=some v/\Q v H):=by
 intro value slice pins s O H x y v u Q I rx ry h hs;obtain⟨a,kvs,k,z,rfl,hk,rfl,e,q⟩:=h;cases(show v=a8 a from rx);have g:By H a (kV k) (some z):=.inl ⟨kvs,k,hk,rfl,e.symm⟩;have hT:=yJ I g;unfold lV;refine ao ?_;rw[uq hT.not_modules];refine ao (Bm hT PySem.F.slot_dict_getitem.lookup ?_);have fin:az (aA X.prog X.w) X.A (tM slice false (.ref a) u) (fun r Zm=>az (aA X.prog X.w) X.A (Ck value (.ref a) r >>= fun _=>pure r) (EP X pins O Q) X.xe Zm) X.xe s:=by
  rw[hs];exact Bo (cU (CH (by omega) I g ry fun w' s3 I3 rw'=>(⟨z,H,I3,rw',q⟩:EP X pins O Q w' s3)) (fun r Zm Zq=>ao (vf (aX Zq))) fun _ _ x=>x)
 first
  |exact aX (ao fin)
  |exact ao (aX (ao fin))
  |exact ao fin
theorem NN(hu:X.A.units+60<dc):Ew X (fun x y H Q=>∃a kvs k b v,x=.ref a/\Rd H a (.dT kvs)/\y=.ref b/\H b=some (.tup (k.map kV))/\jK kvs k=some v/\Q v H):=by
 intro value slice pins s O H x y v u Q I rx ry h hs;obtain⟨a,kvs,k,b,z,rfl,hk,rfl,hb,e,q⟩:=h;cases(show v=a8 a from rx);have g:By H a (.ref b) (some z):=.inr ⟨kvs,k,b,hk,rfl,hb,e.symm⟩;have hT:=yJ I g;unfold lV;refine ao ?_;rw[uq hT.not_modules];refine ao (Bm hT PySem.F.slot_dict_getitem.lookup ?_);have fin:az (aA X.prog X.w) X.A (tM slice false (.ref a) u) (fun r Zm=>az (aA X.prog X.w) X.A (Ck value (.ref a) r >>= fun _=>pure r) (EP X pins O Q) X.xe Zm) X.xe s:=by
  rw[hs];exact Bo (cU (CH (by omega) I g ry fun w' s3 I3 rw'=>(⟨z,H,I3,rw',q⟩:EP X pins O Q w' s3)) (fun r Zm Zq=>ao (vf (aX Zq))) fun _ _ x=>x)
 first
  |exact aX (ao fin)
  |exact ao (aX (ao fin))
  |exact ao fin
theorem Yn(hu:X.A.units+60<dc):Ew X (EK X.K):=by
 intro value slice pins s O H x y v u Q I rx ry h;unfold EK at h;split at h
 ·obtain⟨hz,c,e,q⟩:=h;exact UG value slice pins s O H _ _ v u Q I rx ry ⟨_,_,c,rfl,rfl,hz,e,q⟩
 ·rcases h with⟨t,xs,i,w,rfl,hx,e,q⟩|⟨kvs,k,w,hk,rfl,e,q⟩|⟨kvs,k,b,w,hk,rfl,hb,e,q⟩
  ·rcases hx.sq with⟨_,z⟩|⟨_,z⟩
   ·exact R4 value slice pins s O H _ _ v u Q I rx ry ⟨_,xs,_,w,rfl,rfl,z,e,q⟩
   ·exact UE value slice pins s O H _ _ v u Q I rx ry ⟨_,xs,_,w,rfl,rfl,z,e,q⟩
  ·exact Sh hu value slice pins s O H _ _ v u Q I rx ry ⟨_,kvs,k,w,rfl,hk,rfl,e,q⟩
  ·exact NN hu value slice pins s O H _ _ v u Q I rx ry ⟨_,kvs,k,b,w,rfl,hk,rfl,hb,e,q⟩
 ·exact h.elim
end
theorem D_(n d:Nat)(v:Int):max 0 (min (if v<0 then v+(n:Int)else v) (n:Int))=((HT.jG n d (some v):Nat):Int):=by
 show max 0 (min (if v<0 then v+(n:Int)else v) (n:Int))=(((if v<0 then(v+(n:Int)).toNat else min v.toNat n):Nat):Int);by_cases hv:v<0
 ·simp only[if_pos hv];omega
 ·simp only[if_neg hv];omega
theorem BG(a b:Nat):ve (a:Int) (b:Int) 1=(bY (b-a)).map fun m=>a+m:=by
 unfold ve;have h1:(1:Int)>0:=by omega
 simp only[h1,if_true];have e3:(if(a:Int)<(b:Int)then((b:Int)-(a:Int)+1-1) / 1 else 0).toNat=b-a:=by
  split<;>omega
 rw[e3];congr 1;funext k;omega
theorem idx_eq(lo hi:Option Int)(n:Nat):cV lo hi 1 n=(bY (HT.jG n n hi-HT.jG n 0 lo)).map fun m=>HT.jG n 0 lo+m:=by
 rw[<-BG];have h1:(1:Int)>0:=by omega
 unfold cV;simp only[h1,if_true];cases lo with
 |none=>cases hi with
  |none=>rfl
  |some v=>simp only[D_ n n v];rfl
 |some w=>cases hi with
  |none=>simp only[D_ n 0 w];rfl
  |some v=>simp only[D_ n n v,D_ n 0 w]
variable{α:Type}
theorem Jh(l:List α)(i:Nat):∀k:Nat,((bY k).map fun(m:Nat)=>i+m).filterMap (l[·]?)=(l.drop i).take k:=by
 intro k;induction k with
 |zero=>simp
 |succ k ih=>
  rw[Bg,di,List.filterMap_append,ih,List.map_singleton,gi,List.filterMap_nil];cases h:l[i+k]? with
  |none=>
   have hl:l.length<=i+k:=ql.mp h;simp only[gO];rw[dm (by rw[fC];omega),dm (by rw[fC];omega)]
  |some c=>
   rw[List.take_succ,List.getElem?_drop,h];rfl
theorem EO(a:Array Nat):∀is:List Nat,is.filterMap (a[·]?)=is.filterMap (a.toList[·]?)
|[]=>rfl
|i::r=>by
 rw[gi,gi,EO a r,uu]
theorem ER(x:Str)(lo hi:Option Int):(cV lo hi 1 x.length).filterMap (x.cps[·]?)=cut x.cps.toList lo hi:=by
 have len:x.cps.toList.length=x.length:=by simp[fB]
 rw[EO,idx_eq,Jh];unfold cut;rw[len]
theorem UW(l:List α)(lo hi:Option Int):(cut l lo hi).length<=l.length:=by
 unfold cut;rw[jS,fC];omega
theorem Si(x:Str)(lo hi:Option Int)(h:(cV lo hi 1 x.length).length=x.length):cut x.cps.toList lo hi=x.cps.toList:=by
 have len:x.cps.toList.length=x.length:=by simp[fB]
 rw[idx_eq,aH,jw]at h;have h2:=HT.UC x.length x.length (aM _) hi;unfold cut;rw[len];by_cases hz:x.length=0
 ·have:x.cps.toList=[]:=gb (by omega);rw[this];simp
 ·have e0:HT.jG x.length 0 lo=0:=by omega
  rw[e0,k8,dm (by omega)]
section
variable{X:Cx}
theorem Yo:UD X (Q8 X.K):=by
 intro pins s O H x v vl vu lo hi sl Q I rx hs pl pu h;unfold Q8 at h;split at h
 ·rename_i z;obtain⟨hz,q⟩:=h;obtain⟨t,rfl⟩:=rx;refine⟨"str",_,z9.lookup,gx s z t,?_⟩;have key:∀l u:Option (Int×Tok),vl=partValue l->vu=partValue u->l.map (·.1)=lo->u.map (·.1)=hi->az (aA X.prog X.w) X.A (yq (.str z t) (.ref sl)) (EP X pins O Q) X.xe s:=by
   rintro l u rfl rfl rfl rfl;have hs':s.heap.IsSlice sl l u none:=hs;refine wpAny_getItem_str_slice (st:=none) hs' rfl ?_;have len:z.cps.toList.length=z.length:=by simp[fB]
   have hle:=UW z.cps.toList (l.map (·.1)) (u.map (·.1));have ec:=ER z (l.map (·.1)) (u.map (·.1));have fin:∀t' k,EP X pins O Q (.str ⟨(cut z.cps.toList (l.map (·.1)) (u.map (·.1))).toArray⟩ t') { s with toks:=k }:=fun t' k=>⟨V.str ⟨(cut z.cps.toList (l.map (·.1)) (u.map (·.1))).toArray⟩,H,I.tok _,⟨t',rfl⟩,q⟩;show(if((1:Int)==1&&(cV (l.map (·.1)) (u.map (·.1)) 1 z.length).length==z.length)=true then Made.val (.str z t)else Made.str ⟨((cV (l.map (·.1)) (u.map (·.1)) 1 z.length).filterMap (z.cps[·]?)).toArray⟩).post (EP X pins O Q) s;rw[ec];by_cases hc:((1:Int)==1&&(cV (l.map (·.1)) (u.map (·.1)) 1 z.length).length==z.length)=true
   ·rw[if_pos hc];have hall:cut z.cps.toList (l.map (·.1)) (u.map (·.1))=z.cps.toList:=Si z _ _ (by
     rw[bx]at hc;simpa using hc.2)
    have f:=fin t s.toks;rw[hall]at f;exact f
   ·rw[if_neg hc];exact⟨by show(List.toArray _).size<=aa;rw[aQ];omega,fin _ _⟩
  cases pl with
  |none=>cases pu with
   |none=>exact key none none rfl rfl rfl rfl
   |int j tj=>exact key none (some (j,tj)) rfl rfl rfl rfl
  |int i ti=>cases pu with
   |none=>exact key (some (i,ti)) none rfl rfl rfl rfl
   |int j tj=>exact key (some (i,ti)) (some (j,tj)) rfl rfl rfl rfl
 ·rcases h with⟨t,xs,hx,ht,q⟩|⟨n,xs,hx,rfl,rfl,h1,h2,q⟩
  ·rcases hx.sq with⟨_,z⟩|⟨hf,z⟩
   ·exact R5 pins s O H _ v vl vu lo hi sl Q I rx hs pl pu ⟨_,xs,rfl,z,q⟩
   ·rw[ht]at hf;cases hf
  ·cases rx;obtain⟨its,r,pt,hz⟩:=I.tuple hx.oN;have hlen:=r.length;cases pl with
   |int _ tl=>
    cases pu;refine⟨"tuple",_,xK.lookup,IsTup.typeIs pt,?_⟩;refine getItem_tuple_from pt hs h1 (by rw[aQ];omega) ?_ (by rw[aQ];omega);refine⟨.ref s.heap.objs.size,_,I.laid (t':=s.toks) (o:=.tup (xs.drop n)) (fun b ob q=>aF _ q) (aM _) ⟨by rw[fC];omega,its.drop n,r.drop n,IsTup.new _ _⟩,rfl,q _ (I.hok.fresh (aM _))⟩
 ·exact h.elim
theorem CU:∀{xs:List V}{its:List Value}{i:Nat} (r:bh xs its) (h:i<xs.length) (h':i<its.length),RelV xs[i] its[i]
|_,_,_,.nil,h,_=>absurd h (Nat.not_lt_zero _)
|_,_,0,.cons r1 _,_,_=>r1
|_,_,i+1,.cons _ r2,h,h'=>CU r2 (tP h) (tP h')
theorem v9(r:bh xs its):∀is:List Nat,bh (is.filterMap (xs[·]?)) (is.filterMap (its[·]?))
|[]=>.nil
|i::is=>by
 have hl:=r.length;by_cases h:i<xs.length
 ·have h':i<its.length:=by omega
  rw[iM (aG h),iM (aG h')];exact .cons (CU r h h') (v9 r is)
 ·rw[iN (by simp;omega),iN (by simp;omega)];exact v9 r is
theorem UX{e:Expr}{te:TE}{lo hi:Option Expr}{tl th:TO}{k:Int}{j:Nat}{kp p2 pos:Pos}(he:PE X e te)(hl:PO X lo tl)(hu:PO X hi th):PE X (.Subscript e (.Slice lo hi (some (.Constant (.int k) j kp)) p2) pos) (fun O H Q=>te O H fun x H1=>tl O H1 fun l H2=>th O H2 fun u H3=>NK X.K x l u k H3 Q):=by
 intro pins s O H Q I h;refine Ba (aR (he pins s O H _ I h) fun v s1 ⟨x,H1,I1,r1,q1⟩=>?_);refine Hq (aR (hl pins s1 O H1 _ I1 q1) fun vl s2 ⟨l,H2,I2,pl,q2⟩=>aR (hu pins s2 O H2 _ I2 q2) fun vu s3 ⟨u,H3,I3,pu,q3⟩=>?_);rw[D0];refine aR (KD (X:=X) pins s3 O H3 (fun y H'=>y=.int k/\H'=H3) I3 ⟨rfl,rfl⟩) fun vk s4 ⟨y,H4,I4,r4,ey,eH⟩=>?_;subst ey eH;obtain⟨tk,rfl⟩:=r4;have I5:L2.Inv X pins O H4 { s4 with heap:=s4.heap.push { cls:=.type "slice",data:=.fields #[vl,vu,.int k tk] } }:=I4.kept (t':=s4.toks) fun b ob q=>aF _ q;cases x with
 |ref a=>
  cases(show v=a8 a from r1);obtain⟨t,xs,hx,ht,⟨hk,hz⟩,q⟩:=q3;subst ht;obtain⟨its,r,ht,hz'⟩:=I5.list hx.HH;have hlen:=r.length;show az (aA X.prog X.w) X.A (lV e (.Slice lo hi (some (.Constant (.int k) j kp)) p2) (.ref a) (.ref s4.heap.objs.size)) (EP X pins O Q) X.xe { s4 with heap:=s4.heap.push { cls:=.type "slice",data:=.fields #[vl,vu,.int k tk] } };refine Gx (ops:=[.ref a,.ref s4.heap.objs.size]) ht.isList.typeIs pP.lookup ?_ (by with_unfolding_all rfl);refine rq ht.isList (xH ..) pl pu (.int k tk) (by simpa using hk) ?_ (by rw[aQ];omega);have e1:xM its.toArray l u (some k)=(lG its l u k).toArray:=by
   unfold xM lG;simp
  rw[e1];refine⟨.ref _,_,I5.laid (t':=s4.toks) (o:=.lst (lG xs l u k)) (fun b ob q=>aF _ q) (aM _) ?_,rfl,q _ (I5.hok.fresh (aM _))⟩;refine⟨hz,_,0,?_,bu _ rfl⟩;have:=v9 r (ve (eS l u (some k) xs.length).1 (eS l u (some k) xs.length).2.1 (eS l u (some k) xs.length).2.2);unfold lG;rw[<-hlen];exact this
 |_=>exact ak q3
end
noncomputable def Bf.val:Bf->Value
|.len=>.builtin "len"|.all=>.builtin "all"|.any=>.builtin "any"|.int=>.type "int"|.str=>.type "str"|.abs=>.builtin "abs"|.min=>.builtin "min"
theorem Bf.boot:∀f:Bf,kI f.name=some f.val:=by
 intro f;cases f<;>decide +kernel
theorem Bf.ok(f:Bf):f.name≠"__name__"/\(f.name==("__debug__":Str))=false:=by
 cases f<;>decide +kernel
variable{p:Nat->Bool}
section
variable{X:Cx}
theorem Aw{Q:Value->ah->Prop}{E:Value->ah->Prop}(hc:X.calm=true)(I:L2.Inv X pins O H s)(hx:gf X.K H a xs)
  (h:∀(its:List Value),bh xs its->xs.length<=aa->∀Zi:ah,Zi={ s with heap:=s.heap.push { cls:=.type "list_iterator",data:=.fields #[.ref a,.int 0 0] } }->
   Walks X.prog X.w X.A.in1 s.heap.objs.size [s.heap.objs.size,a] [s.heap.objs.size] its.toArray.size (fun i v=>its.toArray[i]?=some v) (fun i h=>h.IsListIter s.heap.objs.size a i/\h.IsList a its.toArray)->
   (Zi.heap.IsListIter s.heap.objs.size a 0/\Zi.heap.IsList a its.toArray)->(∀b∈[s.heap.objs.size,a],b<Zi.heap.objs.size)->
   (∀h' tk,(∀b o,b∉[s.heap.objs.size]->Zi.heap.get? b=some o->h'.get? b=some o)->L2.Inv X pins O H { Zi with heap:=h',toks:=tk })->Q (.ref s.heap.objs.size) Zi) :
  az (aA X.prog X.w) X.A.in1 (uf (.ref a)) Q E s:=by
 obtain⟨its,r,pl,hz⟩:=I.list hx;have hlt:a<s.heap.objs.size:=by obtain⟨o,n,e,_⟩:=pl;exact aP e
 refine pR pl.isList ?_;have hh:X.A.in1.handled=none:=I.ok.hd hc;refine h its r hz _ rfl (Kp hh s.heap.objs.size a (bw hlt) its.toArray) ⟨⟨_,bu _ rfl,rfl,rfl⟩,pl.isList.push _⟩ (fun b hb=>?_) fun h' tk k=>?_
 ·show b<(s.heap.push _).objs.size;rw[eU];rcases aJ.mp hb with rfl|hb
  ·exact iJ _
  ·rw[aU.mp hb];exact jv hlt
 ·exact I.kept fun b o e=>k b o (fun z=>absurd (aP e) (by rw[aU.mp z];exact dF _)) (aF _ e)
theorem range_all(f:V->Bool)(h:∀i x,xs[i]?=some x->p i=f x):(bY xs.length).all p=xs.all f:=by
 rw[fY,bz,bz];constructor
 ·intro q x hx;obtain⟨i,hi⟩:=nH hx;rw[<-h i x hi];exact q i (jC.mpr (bN.mp hi).1)
 ·intro q i hi;have hi:=jC.mp hi;rw[h i xs[i] (aG hi)];exact q _ (iL hi)
theorem DJ(hc:X.calm=true):ou X (.builtin "all") (fun vs H Q=>∃a xs,vs=[.ref a]/\gf X.K H a xs/\ya xs=true/\Q (.bl (xs.all mQ)) H):=by
 intro pins s O H vs us Q I r h;obtain⟨a,xs,rfl,hx,hb,q⟩:=h;obtain⟨u,rfl,ru⟩:=vals1 r;cases ru;refine call_all_walk (Aw hc I hx fun its rv hz Zi e W st hfp fin=>⟨_,_,_,_,_,_,fun i=>(xs[i]?.map mQ).getD false,rfl,W,st,?_,fun h' tk k=>?_⟩)
 ·intro i v s' Q' E' hP hQ;have hi:its[i]?=some v:=by simpa using hP
  have hlen:=rv.length;have hl:i<xs.length:=by
   have:=(bN.mp hi).1;omega
  have hxi:xs[i]?=some xs[i]:=aG hl;obtain⟨u,hu,ru⟩:=rv.get hxi;rw[hi]at hu;cases hu;have hQ:Q' ((xs[i]?.map mQ).getD false) s':=hQ;rw[hxi]at hQ;have hbl:∃b,xs[i]=.bl b:=by
   have:=bz.mp hb _ (iL hl);revert this;cases xs[i]<;>intro this<;>first|exact⟨_,rfl⟩|(exact absurd (show false=true from this) aE)
  obtain⟨b,eb⟩:=hbl;rw[eb]at ru hQ;cases ru;refine d9 ?_;cases b<;>exact hQ
 ·have e1:its.toArray.size=xs.length:=by rw[aQ];exact rv.length.symm
  rw[e1];have e2:=range_all (p:=fun i=>(xs[i]?.map mQ).getD false) (xs:=xs) mQ (fun i x hi=>by rw[hi];rfl);rw[e2];exact⟨.bl _,H,fin h' tk k,rfl,q⟩
theorem range_any(f:V->Bool)(h:∀i x,xs[i]?=some x->p i=f x):(bY xs.length).any p=xs.any f:=by
 rw[fY,mj,mj];constructor
 ·rintro⟨i,hi,q⟩;have hi:=jC.mp hi;rw[h i xs[i] (aG hi)]at q;exact⟨_,iL hi,q⟩
 ·rintro⟨x,hx,q⟩;obtain⟨i,hi⟩:=nH hx;rw[<-h i x hi]at q;exact⟨i,jC.mpr (bN.mp hi).1,q⟩
theorem DK(hc:X.calm=true):ou X (.builtin "any") (fun vs H Q=>∃a xs,vs=[.ref a]/\gf X.K H a xs/\ya xs=true/\Q (.bl (xs.any mQ)) H):=by
 intro pins s O H vs us Q I r h;obtain⟨a,xs,rfl,hx,hb,q⟩:=h;obtain⟨u,rfl,ru⟩:=vals1 r;cases ru;refine call_any_walk (Aw hc I hx fun its rv hz Zi e W st hfp fin=>⟨_,_,_,_,_,_,fun i=>(xs[i]?.map mQ).getD false,rfl,W,st,?_,fun h' tk k=>?_⟩)
 ·intro i v s' Q' E' hP hQ;have hi:its[i]?=some v:=by simpa using hP
  have hlen:=rv.length;have hl:i<xs.length:=by
   have:=(bN.mp hi).1;omega
  have hxi:xs[i]?=some xs[i]:=aG hl;obtain⟨u,hu,ru⟩:=rv.get hxi;rw[hi]at hu;cases hu;have hQ:Q' ((xs[i]?.map mQ).getD false) s':=hQ;rw[hxi]at hQ;have hbl:∃b,xs[i]=.bl b:=by
   have:=bz.mp hb _ (iL hl);revert this;cases xs[i]<;>intro this<;>first|exact⟨_,rfl⟩|(exact absurd (show false=true from this) aE)
  obtain⟨b,eb⟩:=hbl;rw[eb]at ru hQ;cases ru;refine d9 ?_;cases b<;>exact hQ
 ·have e1:its.toArray.size=xs.length:=by rw[aQ];exact rv.length.symm
  rw[e1];have e2:=range_any (p:=fun i=>(xs[i]?.map mQ).getD false) (xs:=xs) mQ (fun i x hi=>by rw[hi];rfl);rw[e2];exact⟨.bl _,H,fin h' tk k,rfl,q⟩
theorem ES:ou X (.type "int") (fun vs H Q=>∃z n,vs=[.str z]/\z.length<=640/\intText? z=some n/\Q (.int n) H):=by
 intro pins s O H vs us Q I r h;obtain⟨z,n,rfl,hz,hn,q⟩:=h;obtain⟨u,rfl,ru⟩:=vals1 r;obtain⟨t,rfl⟩:=ru;exact PySem.W.KIN.call_text hn hz ⟨.int n,H,I.tok _,⟨_,rfl⟩,q⟩
theorem xX{P:bg}{w:bH}{k:Key}{u:Value}(h:RelV (kV k) u):(gj P w).is k u=true:=by
 cases k with
 |inl i=>obtain⟨t,rfl⟩:=h;exact yE P w i t
 |inr x=>obtain⟨t,rfl⟩:=h;exact yF P w x t
theorem WK(hc:X.calm=true)(hu:X.A.units+60<dc)(f:Bf):ou X f.val (zA X.K f):=by
 intro pins s O H vs us Q I r h;cases f<;>cases vs<;>first|exact ak h|skip
 case len.cons y w=>
  cases y<;>first|exact ak h|(cases w<;>first|exact ak h|skip)
  ·obtain⟨hz,q⟩:=h;exact EA pins s O H _ us Q I r ⟨_,rfl,hz,q⟩
  ·rcases h with⟨t,xs,hx,q⟩|⟨kvs,hk,q⟩
   ·refine Ez pins s O H _ us Q I r ⟨_,xs,rfl,?_,q⟩;rcases hx.sq with⟨_,z⟩|⟨_,z⟩
    ·exact .inl z
    ·exact .inr z
   ·obtain⟨u,rfl,ru⟩:=vals1 r;cases ru;exact Wz I hk fun t s' I'=>⟨.int kvs.length,H,I',⟨t,rfl⟩,q⟩
 case all.cons y w=>
  cases y<;>first|exact ak h|(cases w<;>first|exact ak h|skip)
  ·obtain⟨t,xs,hx,ht,hb,q⟩:=h;subst ht;exact DJ hc pins s O H _ us Q I r ⟨_,xs,rfl,hx.HH,hb,q⟩
 case any.cons y w=>
  cases y<;>first|exact ak h|(cases w<;>first|exact ak h|skip)
  ·obtain⟨t,xs,hx,ht,hb,q⟩:=h;subst ht;exact DK hc pins s O H _ us Q I r ⟨_,xs,rfl,hx.HH,hb,q⟩
 case int.cons y w=>
  cases y<;>first|exact ak h|(cases w<;>first|exact ak h|skip)
  ·exact Cv pins s O H _ us Q I r (.inr ⟨_,rfl,h⟩)
  ·exact Cv pins s O H _ us Q I r (.inl ⟨_,rfl,h⟩)
  ·obtain⟨hz,n,hn,q⟩:=h;exact ES pins s O H _ us Q I r ⟨_,n,rfl,hz,hn,q⟩
 case str.cons y w=>
  cases y<;>first|exact ak h|(cases w<;>first|exact ak h|skip)
  ·exact Es pins s O H _ us Q I r ⟨_,rfl,h.1,h.2⟩
 case abs.cons y w=>
  cases y<;>first|exact ak h|(cases w<;>first|exact ak h|skip)
  ·exact Nx pins s O H _ us Q I r ⟨_,rfl,h⟩
 case min.cons y w=>
  cases y<;>first|exact ak h|(cases w<;>first|exact ak h|skip)
  rename_i y w;cases y<;>first|exact ak h|(cases w<;>first|exact ak h|skip)
  ·exact KL hc pins s O H _ us Q I r ⟨_,_,rfl,h⟩
end
end L3
end
section
namespace L3
open PySem PySem.Spec PyProof.Rows L2
open PySem.Builtin PySem.Builtin.Str
variable{y:Str}
theorem Ax(h:y.length=1):y=⟨#[y.cps.getD 0 0]⟩:=by
 obtain⟨a⟩:=y;have h:a.size=1:=h;obtain⟨l⟩:=a
 match l,h with
 |[c],_=>rfl
theorem K6(x:Str)(c:Nat):(occurrences x ⟨#[c]⟩ 0 x.length (x.length+1)).length=x.cps.toList.count c:=by
 obtain⟨f,hG,hn⟩:=Nh x ⟨#[c]⟩ (aM 1);have h:=chain_count x c _ 0 f hG hn;rw[k8]at h;have cnt_eq:∀l:List Nat,cnt c l=(l.count c:Nat):=by
  intro l;induction l with
  |nil=>rfl
  |cons n r ih=>
   rw[cnt_cons,ih,Bj];by_cases e:n=c
   ·subst e;simp;omega
   ·simp[e]
 rw[cnt_eq]at h;have h2:((x.cps.toList.count c:Nat):Int)=((occurrences x ⟨#[c]⟩ 0 x.length (x.length+1)).length:Nat):=h;omega
theorem ET(c:Nat):∀(l:List Nat) (a:Nat),l[a]?=some c->l.idxOf c<=a
|[],a,h=>by simp at h
|n::r,0,h=>by
 have e:n=c:=by simpa using h
 rw[Bp,e];simp
|n::r,a+1,h=>by
 have ih:=ET c r a (by simpa using h);rw[Bp];cases n==c<;>simp<;>omega
theorem K7(x:Str)(c:Nat)(hm:c∈x.cps.toList):∃rest,occurrences x ⟨#[c]⟩ 0 x.length 1=x.cps.toList.idxOf c::rest:=by
 rcases QV x ⟨#[c]⟩ 1 (aM 1)with⟨h1,h2⟩|⟨a,r,h1,h2,h3⟩
 ·exfalso;obtain⟨i,hi⟩:=nH hm;exact h2 i ((pU x c i).mpr hi)
 ·refine⟨r,?_⟩;rw[h1];congr 1;have ha:x.cps.toList[a]?=some c:=(pU x c a).mp h2;have hlt:x.cps.toList.idxOf c<x.cps.toList.length:=rA.mpr hm;have hg:x.cps.toList[x.cps.toList.idxOf c]?=some c:=by
   rw[aG hlt,List.getElem_idxOf hlt]
  have h4:¬x.cps.toList.idxOf c<a:=fun q=>h3 _ q ((pU x c _).mpr hg);have h5:=ET c _ _ ha;omega
theorem K8(x y:Str):(decide (0+y.length<=x.length)&&subAt x y 0)=y.cps.toList.isPrefixOf x.cps.toList:=by
 rw[fY,List.isPrefixOf_iff_prefix,QW,bx,beq_iff_eq,k8];have l1:y.cps.toList.length=y.length:=by simp[fB]
 have l2:x.cps.toList.length=x.length:=by simp[fB]
 constructor
 ·rintro⟨_,h⟩;rw[<-h];exact List.take_prefix _ _
 ·intro h;refine⟨?_,?_⟩
  ·have:=h.length_le;simp only[decide_eq_true_eq];omega
  ·rw[List.prefix_iff_eq_take]at h;rw[<-l1];exact h.symm
theorem yN(c:Nat):∀l:List Nat,c∉l->cM c l=[l]
|[],_=>rfl
|x::r,hp=>by
 have hx:¬x=c:=fun z=>hp (by rw[z];exact aq);have hr:c∉r:=fun z=>hp (ai _ z);unfold cM;rw[if_neg hx,yN c r hr]
theorem uE(c:Nat):∀(p l:List Nat),c∉p->cM c (p++c::l)=p::cM c l
|[],l,_=>by
 show cM c (c::l)=_;rw[cM,if_pos rfl]
|x::r,l,hp=>by
 have hx:¬x=c:=fun z=>hp (by rw[z];exact aq);have hr:c∉r:=fun z=>hp (ai _ z);show cM c (x::(r++c::l))=_;rw[cM,if_neg hx,uE c r l hr]
theorem oz(c:Nat):∀(ps:List (List Nat)) (l:List Nat),ps≠[]->(∀p∈ps,c∉p)->l=[c].intercalate ps->cM c l=ps
|[],_,h,_,_=>absurd rfl h
|[p],l,_,hp,e=>by
 have e:l=p:=by simpa[jU]using e
 subst e;have hp:=hp l aq;exact yN c l hp
|p::q::ps,l,_,hp,e=>by
 have e:l=p++c::[c].intercalate (q::ps):=by
  rw[e];simp[jU]
 have hpp:=hp p aq;have ih:=oz c (q::ps) _ (by simp) (fun z hz=>hp z (ai _ hz)) rfl;subst e;rw[uE c p _ hpp,ih]
theorem join_list(c:Nat):∀ps:List Str,ps≠[]->(dU ⟨#[c]⟩ ps).cps.toList=[c].intercalate (ps.map fun p=>p.cps.toList)
|[],h=>absurd rfl h
|[p],_=>by
 show p.cps.toList=_;simp[jU]
|p::q::r,_=>by
 have ih:=join_list c (q::r) (by simp);show(p++⟨#[c]⟩++dU ⟨#[c]⟩ (q::r)).cps.toList=_;have e:(p++⟨#[c]⟩++dU ⟨#[c]⟩ (q::r)).cps=p.cps++#[c]++(dU ⟨#[c]⟩ (q::r)).cps:=rfl;rw[e,vO,vO,ih];simp[jU]
theorem NO(x:Str)(c:Nat):iu x ⟨#[c]⟩=(cM c x.cps.toList).map strOf:=by
 have h1:=M8 x ⟨#[c]⟩;have h2:=M9 x c;have hne:iu x ⟨#[c]⟩≠[]:=by
  have z:=split_len x c;have z2:(0:Int)<=cnt c x.cps.toList:=by
   have:∀l:List Nat,(0:Int)<=cnt c l:=by
    intro l;induction l with
    |nil=>exact Int.le_refl 0
    |cons n r ih=>rw[cnt_cons];split<;>omega
   exact this _
  intro e;rw[e]at z;have z:(0:Int)=1+cnt c x.cps.toList:=z;omega
 have h3:=oz c ((iu x ⟨#[c]⟩).map fun p=>p.cps.toList) x.cps.toList (by simpa using hne) (fun p hp=>by
  obtain⟨q,hq,rfl⟩:=ck.mp hp;exact h2 q hq) (by rw[<-join_list c _ hne,h1])
 rw[h3,cE];have:∀l:List Str,l.map (strOf∘fun p=>p.cps.toList)=l:=by
  intro l;induction l with
  |nil=>rfl
  |cons a r ih=>rw[dG,ih];rfl
 rw[this]
variable{t:Tok}{Q:Value->ah->Prop}
section
variable{prog:bg}{w:bH}{A:cJ}{E:Value->ah->Prop}{s:ah}
theorem Ji{x:Str}{u:Tok}(hy:(y.length==0)=false)(hsz:x.length+2<=aa)
  (h:∀l tk,l.map (·.1)=iu x y->Q (.ref s.heap.objs.size) { s with heap:=s.heap.push { cls:=.type "list",data:=.seq (DE l).toArray },toks:=tk }) :
  az (aA prog w) A (call (.builtin "str.split") [.str x t,.str y u]) Q E s:=by
 have F0:Fr s.heap s.heap.objs.size { s.heap with objs:=s.heap.objs } (fun _=>none)->True:=fun _=>trivial;have hn:(partsBetween x (occurrences x y 0 x.length (x.length+1)) y.length).length<=aa:=by
  have e1:=IP x y 0 x.length (x.length+1);rw[length_partsBetween];omega
 cases h1:(decide (x.length<y.length)||decide (strKind x<strKind y))
 ·cases hf:(occurrences x y 0 x.length (x.length+1)).isEmpty
  ·refine fV F.slot_str_split (gx _ _ _) F.entry_str_split (F.args_str_split_2 _ _) (meets_str_split_sep x y t u h1 hy hf (by omega) hn) ?_;rw[Ht];refine h (numbered s.toks _) _ ((Cm _ _).trans ?_);unfold iu;simp[h1,hf]
  ·refine fV F.slot_str_split (gx _ _ _) F.entry_str_split (F.args_str_split_2 _ _) (meets_str_split_not_found x y t u h1 hy hf) ?_;refine h [(x,t)] s.toks ?_;unfold iu;simp[h1,hf]
 ·refine fV F.slot_str_split (gx _ _ _) F.entry_str_split (F.args_str_split_2 _ _) (meets_str_split_cannot_occur x y t u h1) ?_;refine h [(x,t)] s.toks ?_;unfold iu;simp[h1]
theorem GX{x:Str}(hx:x.length<=aa)(hn:(gD x).length<=aa)
  (h:∀l tk,l.map (·.1)=gD x->Q (.ref s.heap.objs.size) { s with heap:=s.heap.push { cls:=.type "list",data:=.seq (DE l).toArray },toks:=tk }) :
  az (aA prog w) A (call (.builtin "str.split") [.str x t]) Q E s:=by
 by_cases hc:(jl x (x.length+1)==[(0,x.length)])=true
 ·have e1:gD x=[x]:=by unfold gD;rw[if_pos hc]
  have hn':(jl x (x.length+1)).length<=aa:=by
   rw[eq_of_beq hc];show 1<=aa;decide
  refine fV F.slot_str_split (gx _ _ _) F.entry_str_split (F.args_str_split_1 _) (uv x t hx hn') ?_;rw[if_pos hc];exact h [(x,t)] s.toks e1.symm
 ·have e1:gD x=(jl x (x.length+1)).map fun p=>M_ x p.1 p.2:=by unfold gD;rw[if_neg hc];rfl
  have hn':(jl x (x.length+1)).length<=aa:=by
   rw[e1,aH]at hn;exact hn
  refine fV F.slot_str_split (gx _ _ _) F.entry_str_split (F.args_str_split_1 _) (uv x t hx hn') ?_;rw[if_neg hc,Ht];exact h (numbered s.toks _) _ ((Cm _ _).trans (by rw[e1];rfl))
theorem v_:∀(l:List (Str×Tok)),bh ((l.map (·.1)).map V.str) (DE l)
|[]=>.nil
|(x,t)::r=>.cons ⟨t,rfl⟩ (v_ r)
end
variable{x:V}{pins:List (Addr×Obj)}{O:L2.St}{H:Hp}{s:ah}{m:Mt}{v:Value}
section
variable{X:Cx}
noncomputable def Ea:Mt->V->String
|_,.str _=>"str"
|_,_=>"list"
noncomputable def Jj:Mt->V->String
|.append,_=>"list.append"
|.extend,_=>"list.extend"
|.join,.str _=>"str.join"
|.startswith,_=>"str.startswith"
|.split,_=>"str.split"
|.count,.str _=>"str.count"
|.index,.str _=>"str.index"
|.count,_=>"list.count"
|.index,_=>"list.index"
|_,_=>""
structure Sj (T:String) (m:Mt) (id:String):Prop where
 pa:PlainAttrs T
 slot:Slot T m.name id
 ty:typeOf (.builtin id)=pure (.type "method_descriptor")
theorem EU(m:Mt)(x:V)(H:Hp)(h:rM m x H):Sj (Ea m x) m (Jj m x):=by
 cases m<;>cases x<;>first
  |exact ak h
  |exact⟨F.plainAttrs_list,F.slot_list_append,F.type_list_append⟩
  |exact⟨F.plainAttrs_list,F.slot_list_insert,F.type_list_insert⟩
  |exact⟨F.plainAttrs_str,F.slot_str_startswith,F.type_str_startswith⟩
  |exact⟨F.plainAttrs_str,F.slot_str_split,F.type_str_split⟩
  |exact⟨F.plainAttrs_str,F.slot_str_count,F.type_str_count⟩
  |exact⟨F.plainAttrs_str,F.slot_str_index,F.type_str_index⟩
  |exact⟨F.plainAttrs_str,F.slot_str_join,F.type_str_join⟩
  |exact⟨F.plainAttrs_dict,F.slot_dict_get,F.type_dict_get⟩
  |exact⟨F.plainAttrs_list,F.slot_list_pop,F.type_list_pop⟩
  |exact⟨F.plainAttrs_list,F.slot_list_count,F.type_list_count⟩
  |exact⟨F.plainAttrs_list,F.slot_list_index,F.type_list_index⟩
  |exact⟨F.plainAttrs_list,F.slot_list_extend,F.type_list_extend⟩
  |exact⟨F.plainAttrs_list,F.slot_list_clear,F.type_list_clear⟩
theorem HJ(I:L2.Inv X pins O H s)(r:RelV x v)(h:rM m x H) :
  s.TypeIs v (Ea m x)/\∀a,v=.ref a->∃ob,s.heap.get? a=some ob/\ob.dict=none:=by
 have hl:∀a,x=.ref a->jo H a->rH X.K "list" x H:=by
  rintro a rfl h;unfold jo at h;split at h
  ·exact .inl ⟨rfl,_,.inl (.inl (by assumption))⟩
  ·exact h.elim
 have hd:∀a,x=.ref a->Q9 H a->rH X.K "dict" x H:=by
  rintro a rfl h;unfold Q9 at h;split at h
  ·exact .inr (.inr (.inl ⟨rfl,.inl ⟨_,by assumption⟩⟩))
  ·exact .inr (.inr (.inl ⟨rfl,.inr ⟨_,by assumption⟩⟩))
  ·exact h.elim
 have hr:∀a,x=.ref a->(∃xs,Rd H a (.lst xs))->rH X.K "list" x H:=by
  rintro a rfl ⟨xs,h⟩;exact .inl ⟨rfl,xs,.inl h⟩
 cases m<;>cases x<;>first|exact ak h|exact Al I r (hl _ rfl h)|exact Al I r (hr _ rfl h)|exact Al I r rfl|exact Al I r (hd _ rfl h)
theorem EV:∀{ss:List Str}{its:List Value},bh (ss.map V.str) its->StrsAre its ss
|[],_,h=>by cases h;first|exact .nil|trivial|rfl
|x::ss,_,h=>by
 cases h with
 |cons a b=>
  obtain⟨t,rfl⟩:=a;exact .cons x t (EV b)
theorem HK{vs:List V}{us:List Value}{Q:VK}(hu:X.A.units+60<dc)(I:L2.Inv X pins O H s)(rx:RelV x v)(rv:bh vs us)(h:uD X.K m x vs H Q) :
  az (aA X.prog X.w) X.A (call (.builtin (Jj m x)) (v::us)) (EP X pins O Q) X.xe s:=by
 cases m<;>cases x<;>first|exact ak h|skip
 case append.ref l=>
  cases vs<;>first|exact ak h|skip
  rename_i y r;cases r<;>first|exact ak h|skip
  ·dsimp only[uD]at h;split at h
   ·exact KW pins s O H _ _ v us Q I rx rv ⟨_,_,_,rfl,rfl,by assumption,h.1,h.2⟩
   ·exact h.elim
 case startswith.str z=>
  cases vs<;>first|exact ak h|skip
  rename_i c r;cases c<;>first|exact ak h|(cases r<;>first|exact ak h|skip)
  rename_i y
  ·obtain⟨u,rfl,ru⟩:=vals1 rv;obtain⟨t,rfl⟩:=rx;obtain⟨t',rfl⟩:=ru;show az _ _ (call (.builtin "str.startswith") _) _ _ _;refine Bq F.slot_str_startswith (gx s _ t) F.entry_str_startswith (F.args_str_startswith_2 _ _) (gives_str_startswith _ _ t t') ?_;replace h:Q (.bl (y.cps.toList.isPrefixOf z.cps.toList)) H:=h;rw[<-K8]at h;exact⟨.bl _,H,I,rfl,h⟩
 case split.str z=>
  cases vs with
  |nil=>
   obtain⟨⟨h1,h2⟩,h⟩:=h;cases rv;obtain⟨t,rfl⟩:=rx;show az _ _ (call (.builtin "str.split") _) _ _ _;refine GX h1 h2 fun l tk el=>?_;rw[<-el]at h h2;exact⟨.ref s.heap.objs.size,_,I.Ja (v_ l) (by rw[aH];exact h2),rfl,h _ (I.hok.fresh (aM _))⟩
  |cons c r=>
   cases c<;>first|exact ak h|(cases r<;>first|exact ak h|skip)
   rename_i y;obtain⟨h1,h2,h⟩:=h;obtain⟨u,rfl,ru⟩:=vals1 rv;obtain⟨t,rfl⟩:=rx;obtain⟨t',rfl⟩:=ru;show az _ _ (call (.builtin "str.split") _) _ _ _;refine Ji (by rw[h1];rfl) h2 fun l tk el=>?_;have e1:((cM (y.cps.getD 0 0) z.cps.toList).map fun l=>V.str (strOf l))=(l.map (·.1)).map V.str:=by
    rw[el];have e2:iu z y=iu z ⟨#[y.cps.getD 0 0]⟩:=by rw[<-Ax h1]
    rw[e2,NO,cE];rfl
   rw[e1]at h;have hz:((l.map (·.1)).map V.str).length<=aa:=by
    rw[aH,el];have e2:iu z y=iu z ⟨#[y.cps.getD 0 0]⟩:=by rw[<-Ax h1]
    rw[e2];have:=split_weight z ⟨#[y.cps.getD 0 0]⟩ (aM 1);omega
   exact⟨.ref s.heap.objs.size,_,I.Ja (v_ l) hz,rfl,h _ (I.hok.fresh (aM _))⟩
 case count.str z=>
  cases vs<;>first|exact ak h|skip
  rename_i c r;cases c<;>first|exact ak h|(cases r<;>first|exact ak h|skip)
  rename_i y
  ·obtain⟨h1,h2,h⟩:=h;obtain⟨u,rfl,ru⟩:=vals1 rv;obtain⟨t,rfl⟩:=rx;obtain⟨t',rfl⟩:=ru;show az _ _ (call (.builtin "str.count") _) _ _ _;refine Bq F.slot_str_count (gx s _ t) F.entry_str_count (F.args_str_count_2 _ _) (gives_str_count _ _ t t') ?_;rw[<-K6,<-Ax h1]at h;exact⟨.int _,H,I.tok _,⟨_,rfl⟩,h⟩
 case index.str z=>
  cases vs<;>first|exact ak h|skip
  rename_i c r;cases c<;>first|exact ak h|(cases r<;>first|exact ak h|skip)
  rename_i y
  ·obtain⟨h1,h2,h3,h⟩:=h;obtain⟨u,rfl,ru⟩:=vals1 rv;obtain⟨t,rfl⟩:=rx;obtain⟨t',rfl⟩:=ru;obtain⟨rest,e⟩:=K7 z _ h3;rw[<-Ax h1]at e;show az _ _ (call (.builtin "str.index") _) _ _ _;exact Bq F.slot_str_index (gx s _ t) F.entry_str_index (F.args_str_index_2 _ _) (gives_str_index _ _ t t' _ rest e) ⟨.int _,H,I.tok _,⟨_,rfl⟩,h⟩
 case count.ref l=>
  cases vs<;>first|exact ak h|skip
  rename_i c r;cases c<;>first|exact ak h|(cases r<;>first|exact ak h|skip)
  rename_i k
  ·obtain⟨bs,hx,q⟩:=h;obtain⟨u,rfl,ru⟩:=vals1 rv;cases rx;cases ru;obtain⟨its,r,p,_⟩:=I.list (.inl hx:gf X.K H l _);exact GU (PlainL.is p) r ⟨.int _,H,I.tok _,⟨_,rfl⟩,q⟩
 case index.ref l=>
  cases vs<;>first|exact ak h|skip
  rename_i c r;cases c<;>first|exact ak h|(cases r<;>first|exact ak h|skip)
  rename_i k
  ·obtain⟨bs,hx,hk,q⟩:=h;obtain⟨u,rfl,ru⟩:=vals1 rv;cases rx;cases ru;obtain⟨its,r,p,hz⟩:=I.list (.inl hx:gf X.K H l _);exact GV (PlainL.is p) r (by rw[aH]at hz;exact hz) hk ⟨.int _,H,I.tok _,⟨_,rfl⟩,q⟩
 case join.str z=>
  cases vs<;>first|exact ak h|skip
  rename_i c r;cases c<;>first|exact ak h|(cases r<;>first|exact ak h|skip)
  rename_i a
  ·obtain⟨t,xs,hx,ht,ss,rfl,hz,q⟩:=h;subst ht;obtain⟨u,rfl,ru⟩:=vals1 rv;obtain⟨tt,rfl⟩:=rx;cases ru;obtain⟨its,r,p,_⟩:=I.list hx.HH;refine Hu (PlainL.is p) (EV r) (by have:=dM;omega) fun t' k=>⟨.str _,H,I.tok _,⟨_,rfl⟩,?_⟩;have e:∀(a:Str) (b:List Str),PySem.Txt.join a b=dU a b:=fun a b=>PySem.StrLaws.glued_eq_join a b
   first|(rw[e];exact q)|exact(e _ _▸q)
 case extend.ref l=>
  cases vs<;>first|exact ak h|skip
  rename_i c r;cases c<;>first|exact ak h|(cases r<;>first|exact ak h|skip)
  rename_i b
  ·dsimp only[uD]at h;split at h
   ·obtain⟨zs,h1,h2,h3⟩:=h;exact KY pins s O H _ _ v us Q I rx rv ⟨_,_,_,zs,rfl,rfl,by assumption,h1,h2,h3⟩
   ·exact h.elim
noncomputable def Ty.val:Ty->Value
|.int=>.type "int"|.bool=>.type "bool"|.str=>.type "str"|.list=>.type "list"|.tuple=>.type "tuple"|.dict=>.type "dict"|.none=>.type "NoneType"
theorem Ty.boot:∀t:Ty,t≠.none->kI t.name=some t.val:=by
 intro t h;cases t<;>first|decide +kernel|exact absurd rfl h
theorem UY{ty:Ty}{Q:Bool->Prop}(I:L2.Inv X pins O H s)(rx:RelV x v)(h:v7 X.K ty x H Q)(ht:ty≠.none) :
  az (aA X.prog X.w) X.A (call (.builtin "isinstance") [v,ty.val]) (EP X pins O fun u H'=>H'=H/\∃b,u=.bl b/\Q b) X.xe s:=by
 have key:∀(t:Value) (b:Bool),nS X.K H x t->PySem.W.kitOne X.K t ty.val=some b->Q b->az (aA X.prog X.w) X.A (call (.builtin "isinstance") [v,ty.val]) (EP X pins O fun u H'=>H'=H/\∃b,u=.bl b/\Q b) X.xe s:=
  fun t b h1 h2 h3=>KR I rx h1 h2 fun tk=>⟨.bl b,H,I.tok _,rfl,rfl,b,rfl,h3⟩
 cases x with
 |non=>exact key _ false .non (by cases ty<;>first|rfl|exact absurd rfl ht) h
 |bl b=>
  cases ty with
  |bool=>exact key _ true (.bl b) rfl h
  |int=>exact key _ true (.bl b) rfl h
  |none=>exact absurd rfl ht
  |_=>exact key _ false (.bl b) rfl h
 |int i=>
  cases ty with
  |int=>exact key _ true (.int i) rfl h
  |none=>exact absurd rfl ht
  |_=>exact key _ false (.int i) rfl h
 |str z=>
  cases ty with
  |str=>exact key _ true (.str z) rfl h
  |none=>exact absurd rfl ht
  |_=>exact key _ false (.str z) rfl h
 |ref a=>
  rcases h with⟨xs,hx,h⟩|⟨xs,hx,h⟩|⟨kvs,hk,h⟩
  ·rcases hx with e|⟨o,e⟩
   ·cases ty with
    |list=>exact key _ true (.lst e) rfl h
    |none=>exact absurd rfl ht
    |_=>exact key _ false (.lst e) rfl h
   ·cases ty with
    |list=>exact key _ true (.bq e) rfl h
    |none=>exact absurd rfl ht
    |_=>exact key _ false (.bq e) rfl h
  ·obtain⟨its,_,⟨o,h1,h2,_⟩,_⟩:=I.tuple hx.oN;cases(show v=a8 a from rx);have key2:∀b:Bool,PySem.W.kitOne X.K (.type "tuple") ty.val=some b->Q b->az (aA X.prog X.w) X.A (call (.builtin "isinstance") [.ref a,ty.val]) (EP X pins O fun u H'=>H'=H/\∃b,u=.bl b/\Q b) X.xe s:=
    fun b e q=>PySem.W.kia_one PySem.W.kitx_tuple I.fK ⟨o,h1,h2⟩ e (fun z=>nomatch z) fun tk=>⟨.bl b,H,I.tok _,rfl,rfl,b,rfl,q⟩
   cases ty with
   |tuple=>exact key2 true rfl h
   |none=>exact absurd rfl ht
   |_=>exact key2 false rfl h
  ·rcases hk with hk|⟨ob,hk⟩
   ·cases ty with
    |dict=>exact key _ true (.dK hk) rfl h
    |none=>exact absurd rfl ht
    |_=>exact key _ false (.dK hk) rfl h
   ·cases(show v=a8 a from rx);obtain⟨_,_,_,vs,_,o,es,ep,h1,h2,_⟩:=(show dP X.prog X.w H s.heap a (.bq ob (.dK kvs))from I.hok a _ hk);have key2:∀b:Bool,PySem.W.kitOne X.K (.type "dict") ty.val=some b->Q b->az (aA X.prog X.w) X.A (call (.builtin "isinstance") [.ref a,ty.val]) (EP X pins O fun u H'=>H'=H/\∃b,u=.bl b/\Q b) X.xe s:=
     fun b e q=>PySem.W.kia_one PySem.W.kitx_dict I.fK ⟨o,h1,h2.1⟩ e (fun z=>nomatch z) fun tk=>⟨.bl b,H,I.tok _,rfl,rfl,b,rfl,q⟩
    cases ty with
    |dict=>exact key2 true rfl h
    |none=>exact absurd rfl ht
    |_=>exact key2 false rfl h
 |_=>exact ak h
end
end L3
end
section
namespace L3
open PySem PySem.Spec PyProof.Rows L2
noncomputable def Rc(z:Str):It:=⟨fun i _=>i<z.length,fun i H x H'=>H'=H/\∃c,z.cps[i]?=some c/\x=.str ⟨#[c]⟩,fun i _=>z.length<=i⟩
variable{P:bg}{w:bH}{K:PySem.W.Frag}
theorem NQ{tg:Expr}(it:Addr)(z:Str)(t:Tok)(T:String)(hT:T="str_ascii_iterator"\/T="str_iterator") :
  Turn P w K tg (Rc z) [it] it (fun i h=>h.IsStrIter it T z t i) where
 mem:=by simp
 obj:=fun i h st b hb=>by
  have e:b=it:=by simpa using hb
  subst e;obtain⟨o,e,c,d⟩:=st;exact⟨o,e,fun v z=>by rw[d]at z;cases z⟩
 keep:=fun i h h' st k=>let⟨o,ho,r⟩:=st;⟨o,k it (by simp) o ho,r⟩
 item:=by
  intro X hP hw hK hc i pins s O H E I hf st hg;subst hP hw hK;obtain⟨f0,f1,f2,f3,f4,f5⟩:=hf it (by simp);have hh:X.A.handled=none:=I.ok.hd hc;have W:Walks X.prog X.w X.A it [it] [it] z.cps.size (SignAt z) (fun i h=>h.IsStrIter it T z t i):=by
   rcases hT with rfl|rfl
   ·exact Walks.strAscii hh it z t
   ·exact Walks.strWide hh it z t
  refine W.item i s _ _ hg st fun v h' tk hv st' kk=>?_;obtain⟨c,u,hc,rfl⟩:=hv;have I1:L2.Inv X pins O H { s with heap:=h',toks:=tk }:=I.turned (fun b o hb e=>kk b o (by simpa using hb) e) f0 f1 f3 f4 f5;obtain⟨o,e,c',d⟩:=id st';refine⟨_,rfl,D6 (s:={ s with heap:=h',toks:=tk }) (n:=T) e c' d (by rcases hT with rfl|rfl<;>decide) ⟨.str ⟨#[c]⟩,H,I1,⟨u,rfl⟩,⟨rfl,c,hc,rfl⟩,st',fun b hb=>(hf b hb).1⟩⟩
 done:=by
  intro X hP hw hK hc i pins s O H E I hf st hg;subst hP hw hK;obtain⟨f0,f1,f2,f3,f4,f5⟩:=hf it (by simp);have hg:z.cps.size<=i:=hg;have hn:z.cps[i]?=none:=Array.getElem?_eq_none_iff.mpr hg;rcases hT with rfl|rfl
  ·exact wpAny_pyNext_ascii_end (I.ok.hd hc) st hn fun h' eb=>⟨rfl,I.turned (t':=s.toks) (fun b o hb e=>eb b o hb e) f0 f1 f3 f4 f5⟩
  ·exact wpAny_pyNext_wide_end (I.ok.hd hc) st hn fun h' eb=>⟨rfl,I.turned (t':=s.toks) (fun b o hb e=>eb b o hb e) f0 f1 f3 f4 f5⟩
 self:=fun _ _ _ _ _ st h=>by
  rcases hT with rfl|rfl
  ·exact wpAny_pyIter_striter_ascii st h
  ·exact wpAny_pyIter_striter_wide st h
variable{X:Cx}{pins:List (Addr×Obj)}{O:L2.St}{H:Hp}{s:ah}
theorem Inv.yd{H':Hp}{h':Heap}{t':Nat}{ch:List Addr}(I:L2.Inv X pins O H s)(hf:∀b∈ch,ly X pins H b)(k:∀b o,b∉ch->s.heap.get? b=some o->h'.get? b=some o)
  (free:∀b o,b∉ch->s.heap.get? b=some o->H b=none->H' b=none) (grow:∀b o,H b=some o->H' b=some o) (hok:eY X.prog X.w H' h'):L2.Inv X pins O H' { s with heap:=h',toks:=t' }:=by
 refine I.step (g':=s.gens) (d':=s.drawn) (ch:=ch) (fun b hb=>?_) (fun b o _ _ hc e _=>k b o hc e) (fun b o _ _ hc e _=>⟨o.slots,k b o hc e⟩) free
  (fun b o hc e=>⟨o,k b o hc e⟩) (fun _ _ e=>grow _ _ e) (fun _ _ _ e=>grow _ _ e) (fun b ps e=>⟨#[],by rw[grow _ _ e];simp⟩) (fun m hm=>?_) hok I.bare
 ·obtain⟨f0,f1,f2,f3,f4,f5⟩:=hf b hb;exact⟨f3,f1,f4,f5⟩
 ·obtain⟨o,es,ep,ho,r⟩:=hm;exact⟨o,es,ep,k _ o (fun z=>(hf _ z).2.1 rfl) ho,r⟩
theorem p5{X:Cx}{pins:List (Addr×Obj)}{H:Hp}{h h':Heap}{ch:List Addr}(x:eY X.prog X.w H h)(hf:∀b∈ch,H b=none)(k:∀b o,b∉ch->h.get? b=some o->h'.get? b=some o):eY X.prog X.w H h':=fun b u e=>by
 refine(x b u e).stay (fun c v hc q=>k c v (fun z=>?_) q) (fun _ q=>q) fun _ _ q=>q;rcases hc with rfl|hc
 ·rw[hf c z]at e;cases e
 ·rw[hf c z]at hc;cases hc
noncomputable def UZ(a:Addr):It:=
 ⟨fun i H=>∃xs x,Rd H a (.lst xs)/\xs[i]?=some x,fun i H x H'=>∃p v,H p=none/\x=.ref p/\H'=upd H p (.tup [.int (i:Int),v])/\∀xs,Rd H a (.lst xs)->xs[i]?=some v,fun i H=>∃xs,Rd H a (.lst xs)/\xs.length<=i⟩
variable{elts:List Expr}{pos:Pos}
theorem K9{x1}(a e it:Addr)(hne:e≠it):Turn P w K (.Tuple elts x1 pos) (UZ a) [e,it] e (fun i h=>(∃old,IsEnum h e it (i:Int) old)/\h.IsListIter it a i) where
 mem:=by simp
 obj:=fun i h st b hb=>by
  obtain⟨⟨old,st1⟩,st2⟩:=st;have hb:b=e\/b=it:=by simpa using hb
  rcases hb with rfl|rfl
  ·exact⟨_,st1,fun v z=>by cases z⟩
  ·obtain⟨o,e,c,d⟩:=st2;exact⟨o,e,fun v z=>by rw[d]at z;cases z⟩
 keep:=fun i h h' st k=>by
  obtain⟨⟨old,st1⟩,st2⟩:=st;exact⟨⟨old,k e (by simp) _ st1⟩,st2.at fun o q=>k it (by simp) o q⟩
 item:=by
  intro X hP hw hK hc i pins s O H E I hf st hg;subst hP hw hK;obtain⟨⟨old,st1⟩,st2⟩:=st;obtain⟨xs,x,hq,hx⟩:=hg;obtain⟨its,rv,p,hz⟩:=I.list (.inl hq:gf X.K H a xs);obtain⟨u,hu,ru⟩:=rv.get hx;refine wpAny_pyNext_enum_item st1 st2 p.isList (x:=u) (by simpa using hu) hne fun h1 heo hit1 ht1 hz1 hk1=>?_;refine⟨_,rfl,wpAny_letOwnedTupleGo_enum (s:={ s with heap:=h1,toks:=s.toks+1 }) heo fun h2 he2 hs2=>?_⟩;have hs2:kJ e h1 h2:=hs2;have lee:e<s.heap.objs.size:=aP st1;have ne_e:s.heap.objs.size≠e:=ny lee;have ht2:h2.get? s.heap.objs.size=some { cls:=.type "tuple",data:=.seq #[.int i s.toks,u] }:=(hs2.2 _ ne_e).trans ht1;have hk2:∀b o,b∉[e,it]->s.heap.get? b=some o->h2.get? b=some o:=fun b o hb q=>by
   have hb:b≠e/\b≠it:=by simpa using hb
   exact(hs2.2 b hb.1).trans (hk1 b o hb.1 hb.2 q)
  have hn:H s.heap.objs.size=none:=I.hok.fresh (aM _);have hfr:∀b∈[e,it],H b=none:=fun b hb=>(hf b hb).1;have hok2:eY X.prog X.w (upd H s.heap.objs.size (.tup [.int (i:Int),x])) h2:=by
   have h0:eY X.prog X.w H h2:=p5 (X:=X) (pins:=pins) I.hok hfr hk2;intro b o q;by_cases hb:b=s.heap.objs.size
   ·subst hb;rw[bO]at q;cases q;refine⟨by show(2:Nat)<=_;have:=dM;omega,[.int (i:Int) s.toks,u],.cons ⟨_,rfl⟩ (.cons ru .nil),⟨_,ht2,rfl,_,rfl⟩⟩
   ·rw[aS hb]at q;exact(h0 b o q).stay (fun _ _ _ r=>r) (fun c r=>by rw[aS (cj r hn)];exact r) fun c ys r=>by rw[aS (cj r hn)];exact r
  have I2:L2.Inv X pins O (upd H s.heap.objs.size (.tup [.int (i:Int),x])) { s with heap:=h2,toks:=s.toks+1 }:=
   Inv.yd (ch:=[e,it]) I hf hk2 (fun b o hb q n=>by rw[aS (bw (aP q))];exact n) (fun b o q=>by rw[aS (cj q hn)];exact q) hok2
  refine⟨.ref s.heap.objs.size,_,I2,rfl,⟨_,x,hn,rfl,rfl,fun ys hy=>by rw[I.qI (.inl hy) (.inl hq:gf X.K H a xs)];exact hx⟩,⟨⟨u,?_⟩,?_⟩,fun b hb=>?_⟩
  ·have:((i:Int)+1)=((i+1:Nat):Int):=by omega
   rw[<-this];exact he2
  ·exact hit1.at fun o q=>(hs2.2 it (cK hne)).trans q
  ·have hlt:b<s.heap.objs.size:=by
    have hb:b=e\/b=it:=by simpa using hb
    rcases hb with rfl|rfl
    ·exact lee
    ·obtain⟨o,q,_⟩:=st2;exact aP q
   rw[aS (bw hlt)];exact hfr b hb
 done:=by
  intro X hP hw hK hc i pins s O H E I hf st hg;subst hP hw hK;obtain⟨⟨old,st1⟩,st2⟩:=st;obtain⟨xs,hq,hx⟩:=hg;obtain⟨its,rv,p,hz⟩:=I.list (.inl hq:gf X.K H a xs);have hl:=rv.length;have hfr:∀b∈[e,it],H b=none:=fun b hb=>(hf b hb).1;refine wpAny_pyNext_enum_end (I.ok.hd hc) st1 st2 p.isList (by simp;omega) fun h' eb=>⟨rfl,?_⟩;have hk:∀b o,b∉[e,it]->s.heap.get? b=some o->h'.get? b=some o:=fun b o hb q=>eb b o (fun z=>hb (by simp[z])) q;exact Inv.yd (t':=s.toks) (ch:=[e,it]) I hf hk (fun _ _ _ _ n=>n) (fun _ _ q=>q) (p5 (X:=X) (pins:=pins) I.hok hfr hk)
 self:=fun _ _ _ _ _ st h=>by
  obtain⟨⟨old,st1⟩,_⟩:=st;exact yy st1 h
structure nU (J:It) (ok:Hp->Prop) (items:List Item):Prop where
 go:∀i H it,ok H->items[i]?=some it->J.go i H
 yld:∀i H it x H',ok H->items[i]?=some it->J.yld i H x H'->∀k,mkItem it H k->k x H'
 stop:∀i H,ok H->items.length<=i->J.stop i H
variable{a:Addr}{xs:List V}
theorem K_:nU (Xs K a) (fun H=>gf K H a xs) (xs.map .v) where
 go:=fun i H it ok hi=>by
  rw[bL]at hi;cases e:xs[i]? with
  |none=>rw[e]at hi;cases hi
  |some x=>exact⟨xs,x,ok,e⟩
 yld:=fun i H it x H' ok hi hy k hk=>by
  obtain⟨rfl,hy⟩:=hy;rw[bL,hy xs ok]at hi;cases hi;exact hk
 stop:=fun i H ok hi=>⟨xs,ok,by rw[aH]at hi;exact hi⟩
theorem wc:∀(xs:List V) (n i:Nat),(lI n xs)[i]?=(xs[i]?).map fun x=>Item.tup [.int ((n+i:Nat):Int),x]
|[],n,i=>by simp[lI]
|x::r,n,0=>by simp[lI]
|x::r,n,i+1=>by
 simp only[lI,lu,wc r (n+1) i];have:n+1+i=n+(i+1):=by omega
 rw[this]
theorem CV:∀(xs:List V) (n:Nat),(lI n xs).length=xs.length
|[],_=>rfl
|x::r,n=>by simp[lI,CV r (n+1)]
theorem La:nU (UZ a) (fun H=>Rd H a (.lst xs)) (lI 0 xs) where
 go:=fun i H it ok hi=>by
  rw[wc]at hi;cases e:xs[i]? with
  |none=>rw[e]at hi;cases hi
  |some x=>exact⟨xs,x,ok,e⟩
 yld:=fun i H it x H' ok hi hy k hk=>by
  obtain⟨p,v,hp,rfl,rfl,hy⟩:=hy;rw[wc,hy xs ok,Nat.zero_add]at hi;cases hi;exact hk p hp
 stop:=fun i H ok hi=>⟨xs,ok,by rw[CV]at hi;exact hi⟩
theorem NR:nU (Xu K a) (fun H=>pH K H a xs) (xs.map .v) where
 go:=fun i H it ok hi=>by
  rw[bL]at hi;cases e:xs[i]? with
  |none=>rw[e]at hi;cases hi
  |some x=>exact⟨xs,x,ok,e⟩
 yld:=fun i H it x H' ok hi hy k hk=>by
  obtain⟨rfl,hy⟩:=hy;rw[bL,hy xs ok]at hi;cases hi;exact hk
 stop:=fun i H ok hi=>⟨xs,ok,by rw[aH]at hi;exact hi⟩
theorem NS{z:Str}:nU (Rc z) (fun _=>True) ((chars z).map .v) where
 go:=fun i H it ok hi=>by
  have:=(bN.mp hi).1;have:i<z.length:=by simpa[chars,fB]using this
  exact this
 yld:=fun i H it x H' ok hi hy k hk=>by
  obtain⟨rfl,c,hc,rfl⟩:=hy;unfold chars at hi;rw[cE,bL,uu,hc]at hi;cases hi;exact hk
 stop:=fun i H ok hi=>by
  have:z.length<=i:=by simpa[chars,fB]using hi
  exact this
variable{lo:Int}{n:Nat}
theorem Jk:nU (Q0 lo n) (fun _=>True) ((bY n).map fun(i:Nat)=>Item.v (.int (lo+(i:Int)))) where
 go:=fun i H it ok hi=>by
  have:=(bN.mp hi).1;have:i<n:=by simpa using this
  exact this
 yld:=fun i H it x H' ok hi hy k hk=>by
  obtain⟨rfl,rfl⟩:=hy;have hl:=(bN.mp hi).1;have hl:i<n:=by simpa using hl
  rw[bL,vP hl]at hi;cases hi;exact hk
 stop:=fun i H ok hi=>by
  have:n<=i:=by simpa using hi
  exact this
variable{J:It}{ok:Hp->Prop}{items:List Item}
theorem nU.mono{ok':Hp->Prop}(h:nU J ok items)(m:∀H,ok' H->ok H):nU J ok' items:=
 ⟨fun i H it o=>h.go i H it (m H o),fun i H it x H' o=>h.yld i H it x H' (m H o),fun i H o=>h.stop i H (m H o)⟩
theorem NU{g:TG}{body:TS}{D:Ends}(hJ:nU J ok items)(h:forL ok g body D items O H) :
  ∃W:Nat->Nat->L2.St->Hp->Prop,(∃m,W 0 m O H)/\∀i m O H,W i m O H->
   (J.stop i H/\D.nx O H)\/(J.go i H/\∃N:L2.St->Hp->Prop,(∀Zd H',N Zd H'->∃m',m'<m/\W (i+1) m' Zd H')/\∀x H',J.yld i H x H'->g x O H' fun Zg H2=>body { D with nx:=N,ct:=N,bk:=D.nx } Zg H2):=by
 refine⟨fun i m O H=>m=items.length-i/\i<=items.length/\forL ok g body D (items.drop i) O H,⟨items.length,by simp,j6 _,by simpa using h⟩,?_⟩;rintro i m O H ⟨rfl,hi,p⟩;by_cases hlt:i<items.length
 ·rw[qm hlt]at p;obtain⟨hok,p⟩:=p;have e:items[i]?=some items[i]:=aG hlt;refine .inr ⟨hJ.go i H _ hok e,forL ok g body D (items.drop (i+1)),fun Zd H' p'=>⟨items.length-(i+1),by omega,rfl,hlt,p'⟩,fun x H' y=>?_⟩;exact hJ.yld i H _ x H' hok e y _ p
 ·rw[lF (by omega)]at p;obtain⟨hok,p⟩:=p;exact .inl ⟨hJ.stop i H hok (by omega),p⟩
variable{iter:Expr}
variable{e:Expr}{te:TE}
variable{E:Value->ah->Prop}
variable{tp p:Pos}
variable{es:List Expr}
section
variable{X:Cx}{tg:Expr}
def NV(X:Cx)(pins:List (Addr×Obj))(O:L2.St)(tg:Expr)(k:(Hp->Prop)->List Item->Hp->Prop)(itv:Value)(s2:ah):Prop:=
 ∃(it:Addr) (fp:List Addr) (tn:Nat->Heap->Prop) (J:It) (H':Hp),itv=.ref it/\L2.Inv X pins O H' s2/\Turn X.prog X.w X.K tg J fp it tn/\tn 0 s2.heap/\(∀b∈fp,ly X pins H' b)/\∃ok items,nU J ok items/\k ok items H'
def CW(X:Cx)(tg iter:Expr)(wi:Q_):Prop:=
 ∀(pins:List (Addr×Obj)) (s:ah) (O:L2.St) (H:Hp) (k:(Hp->Prop)->List Item->Hp->Prop),L2.Inv X pins O H s->wi O H k->
  az (aA X.prog X.w) X.A (eval iter X.env) (fun v s1=>az (aA X.prog X.w) X.A (uf v) (NV X pins O tg k) X.xe s1) X.xe s
theorem WL{body:List Stmt}{wi:Q_}{g:TG}{tb:TS}(hp:sf (aA X.prog X.w) X.A X.env X.xe)(hc:X.calm=true)(hi:CW X tg iter wi)(hg:PG X tg g)(hb:mP X body tb)
  (hs:∀x,ju iter X.env x=pure x):PS X (.For tg iter body [] pos) (fun D O H=>wi O H fun ok items H1=>forL ok g tb D items O H1):=by
 intro pins s O H D I h;have hI:PI X tg iter (fun Zv H0 R=>wi Zv H0 (fun ok items H1=>forL ok g tb D items O H1)/\∀ok items H1 J,forL ok g tb D items O H1->nU J ok items->R J H1):=by
  intro pins' s' Zd H' R I' h';refine aR (hi pins' s' Zd H' _ I' h'.1) fun v s1 h1=>aR h1 fun itv s2 h2=>?_;obtain⟨it,fp,tn,J,H2,e,I2,T,st,hf,ok,items,hJ,hk⟩:=h2;exact⟨it,fp,tn,J,H2,e,I2,T,st,hf,h'.2 ok items H2 J hk hJ⟩
 exact Um hp hc hI hg hb hs pins s O H D I ⟨h,fun ok items H1 J hk hJ=>NU hJ hk⟩
theorem Sk(he:PE X e te):CW X tg e (fun O H k=>te O H fun x H1=>BD X.K x H1 k):=by
 intro pins s O H k I h;refine aR (he pins s O H _ I h) fun v s1 ⟨x,H1,I1,r1,q1⟩=>?_;cases x with
 |str z=>
  obtain⟨t,rfl⟩:=r1;obtain⟨hz,q⟩:=q1;have fin:∀T,T="str_ascii_iterator"\/T="str_iterator"->NV X pins O tg k (.ref s1.heap.objs.size) { s1 with heap:=s1.heap.push { cls:=.type T,data:=.fields #[.str z t,.int 0 0] } }:=fun T hT=>by
   refine⟨s1.heap.objs.size,[s1.heap.objs.size],_,_,H1,rfl,I1.kept (t':=s1.toks) fun b o e=>aF _ e,NQ s1.heap.objs.size z t T hT,⟨_,bu _ rfl,rfl,rfl⟩,fun b hb=>?_,_,_,NS,q⟩;have e:b=s1.heap.objs.size:=by simpa using hb
   subst e;exact I1.o5 (aM _) (I1.hok.fresh (aM _))
  cases ha:z.cps.all (·<128)
  ·exact wpAny_pyIter_wide ha (fin _ (.inr rfl))
  ·exact wpAny_pyIter_ascii ha (fin _ (.inl rfl))
 |ref a=>
  obtain⟨t,xs,hx,q⟩:=q1;cases r1;rcases hx.sq with⟨rfl,z⟩|⟨rfl,z⟩
  ·obtain⟨its,rv,p,hz⟩:=I1.list z;refine pR p.isList ?_;refine⟨s1.heap.objs.size,[s1.heap.objs.size],_,_,H1,rfl,I1.kept (t':=s1.toks) fun b o e=>aF _ e,KH a _,⟨_,bu _ rfl,rfl,rfl⟩,fun b hb=>?_,fun H'=>fH X.K H' a false xs,_,K_.mono fun H' o=>?_,q⟩
   ·have e:b=s1.heap.objs.size:=by simpa using hb
    subst e;exact I1.o5 (aM _) (I1.hok.fresh (aM _))
   ·rcases o.sq with⟨_,z⟩|⟨hf,_⟩
    ·exact z
    ·cases hf
  ·obtain⟨its,rv,p,hz⟩:=I1.tuple z;refine wpAny_pyIter_tuple (show s1.heap.IsTuple a its.toArray from p) ?_;refine⟨s1.heap.objs.size,[s1.heap.objs.size],_,_,H1,rfl,I1.kept (t':=s1.toks) fun b o e=>aF _ e,IQ a _,⟨_,bu _ rfl,rfl,rfl⟩,fun b hb=>?_,fun H'=>fH X.K H' a true xs,_,NR.mono fun H' o=>?_,q⟩
   ·have e:b=s1.heap.objs.size:=by simpa using hb
    subst e;exact I1.o5 (aM _) (I1.hok.fresh (aM _))
   ·rcases o.sq with⟨hf,_⟩|⟨_,z⟩
    ·cases hf
    ·exact z
 |_=>exact ak q1
theorem range_it'{k:(Hp->Prop)->List Item->Hp->Prop}{hi:Int}{t u v:Tok}{tk:Nat}(I:L2.Inv X pins O H s)(h1:-(2 ^ 62)<=lo)(h2:lo<2 ^ 62)(h3:-(2 ^ 62)<=hi)(h4:hi<2 ^ 62)
  (q:k (fun _=>True) ((bY (hi-lo).toNat).map fun(i:Nat)=>Item.v (.int (lo+(i:Int)))) H) :
  az (aA X.prog X.w) X.A (uf (.ref s.heap.objs.size)) (NV X pins O tg k) E { s with heap:=s.heap.push { cls:=.type "range",data:=.fields #[.int lo t,.int hi u,.int 1 v] },toks:=tk }:=by
 refine aR (Nu (tg:=tg) (R:=fun J H'=>J=Q0 lo (hi-lo).toNat/\H'=H) I h1 h2 h3 h4 ⟨rfl,rfl⟩) fun itv s2 h=>?_;obtain⟨it,fp,tn,J,H',e,I2,T,st,hf,rfl,rfl⟩:=h;exact⟨it,fp,tn,_,H',e,I2,T,st,hf,_,_,Jk,q⟩
theorem NW{x1:Nat}(hg:Gl X "enumerate")(hm:X.mg "enumerate"=none)(he:PE X e te)(hs:cz [e] X.env=[(false,eval e X.env)]) :
  CW X (.Tuple elts x1 tp) (.Call (.Name "enumerate" p) [e] [] pos) (fun O H k=>te O H fun x H1=>match x with
   |.ref b=>∃xs,Rd H1 b (.lst xs)/\k (fun H'=>Rd H' b (.lst xs)) (lI 0 xs) H1
   |_=>False):=by
 intro pins s O H k I h;have ha:=Bv he Et hs;refine Call_ (kj I hg hm boot_enumerate (e_ (aR (ha pos pins s O H (fun vs H1=>match vs with
   |[x]=>(match x with
    |.ref b=>∃xs,Rd H1 b (.lst xs)/\k (fun H'=>Rd H' b (.lst xs)) (lI 0 xs) H1
    |_=>False)
   |_=>False) I h) fun us s1 ⟨vs,H1,I1,r1,q⟩=>?_) hs rfl))
 match vs,r1,q with
 |[],r1,q=>exact q.elim
 |_::_::_,r1,q=>exact q.elim
 |[x],r1,q=>
  obtain⟨u,rfl,ru⟩:=vals1 r1;cases x with
  |ref b=>
   cases ru;obtain⟨xs,hx,q⟩:=q;obtain⟨its,rv,pl,hz⟩:=I1.list (.inl hx:gf X.K H1 b xs);refine call_enumerate_list pl.isList fun h' he' hi' hz' hk'=>?_;refine yy (s:={ s1 with heap:=h' }) he' ?_;refine⟨s1.heap.objs.size+1,[s1.heap.objs.size+1,s1.heap.objs.size],_,_,H1,rfl,I1.kept (t':=s1.toks) hk',K9 b _ _ (Nat.succ_ne_self _),⟨⟨_,he'⟩,hi'⟩,fun c hc=>?_,_,_,La,q⟩;have hc:c=s1.heap.objs.size+1\/c=s1.heap.objs.size:=by simpa using hc
   rcases hc with rfl|rfl
   ·exact I1.o5 (jk _) (I1.hok.fresh (jk _))
   ·exact I1.o5 (aM _) (I1.hok.fresh (aM _))
  |_=>exact ak q
theorem Lb{ta:TA}(hg:Gl X "range")(hm:X.mg "range"=none)(ha:PA X (e::es) ta)(he:cz (e::es) X.env=(false,eval e X.env)::cz es X.env)(hpl:(j3 pos (cz es X.env)).any (·.1)=false) :
  CW X tg (.Call (.Name "range" p) (e::es) [] pos) (fun O H k=>ta O H fun vs H1=>v8 vs H1 k):=by
 intro pins s O H k I h;refine Call_ (kj I hg hm boot_range (e_ (aR (ha pos pins s O H _ I h) fun us s1 ⟨vs,H1,I1,r1,q⟩=>?_) he hpl));have q:v8 vs H1 k:=q;unfold v8 at q;split at q
 ·obtain⟨⟨q1,q2⟩,q⟩:=q;obtain⟨u,rfl,ru⟩:=vals1 r1;obtain⟨t,rfl⟩:=ru;refine call_range_1 (range_it' I1 (by omega) (by omega) q1 q2 ?_);simpa using q
 ·obtain⟨⟨q1,q2,q3,q4⟩,q⟩:=q;obtain⟨u,u',rfl,ru,ru'⟩:=vals2 r1;obtain⟨t,rfl⟩:=ru;obtain⟨t',rfl⟩:=ru';exact call_range_2 (range_it' I1 q1 q2 q3 q4 q)
 ·exact q.elim
end
section
variable{P:bg}{w:bH}{H:Hp}{h h':Heap}{a:Addr}{o:HO}
theorem Lc(x:eY P w H h)(hn:H a=none)(new:dP P w (upd H a o) h a o):eY P w (upd H a o) h:=fun b u e=>by
 by_cases hb:b=a
 ·subst hb;rw[bO]at e;cases e;exact new
 ·rw[aS hb]at e;exact(x b u e).stay (fun c v _ q=>q) (fun c q=>by rw[aS (cj q hn)];exact q) fun c xs q=>by rw[aS (cj q hn)];exact q
end
noncomputable def nV(cells:List (Str×Addr)):List (Str×iG)->List (Str×Addr)->List (Str×Addr)
|[],acc=>acc
|(n,k)::r,acc=>if(k==.free)=true then(match cells.lookup n with|some c=>nV cells r ((n,c)::acc)|none=>nV cells r acc)else nV cells r acc
variable{env:Env}
theorem uF:∀(names:List (Str×iG)) (acc:List (Str×Addr)),(∀n,(n,bZ)∈names->∃c,env.cells.lookup n=some c)->
 (forIn names acc fun(x:Str×iG) (r:List (Str×Addr))=>(match x with
  |(name,kind)=>if(kind==.free)=true then(do let a <-Na env name;pure (i_ ((name,a)::r)))else pure (i_ r):Sem (ForInStep (List (Str×Addr)))))=pure (nV env.cells names acc)
|[],acc,_=>rfl
|(n,k)::r,acc,hn=>by
 rw[List.forIn_cons];have hr:∀m,(m,bZ)∈r->∃c,env.cells.lookup m=some c:=fun m hm=>hn m (ai _ hm);unfold nV;by_cases hk:(k==bZ)=true
 ·have e:k=.free:=by simpa using hk
  subst e;obtain⟨c,hc⟩:=hn n aq;have hco:Na env n=pure c:=by unfold Na;rw[hc]
  simp only[hc,hco,beq_self_eq_true,if_true];exact uF r _ hr
 ·simp only[hk,if_false];exact uF r _ hr
variable{scope:eZ}
theorem vm(h:∀n,(n,bZ)∈scope.names->∃c,env.cells.lookup n=some c):Ks scope env=pure (nV env.cells scope.names []):=by
 have e:=uF (env:=env) scope.names [] h;unfold Ks;exact Eq.trans (congrArg (fun t=>t >>= fun cs=>pure cs) e) rfl
variable{cells:List (Str×Addr)}
theorem uG:∀(names:List (Str×iG)) (acc:List (Str×Addr)),(∀x c,acc.lookup x=some c->cells.lookup x=some c)->∀x c,(nV cells names acc).lookup x=some c->cells.lookup x=some c
|[],acc,h=>h
|(n,k)::r,acc,h=>by
 unfold nV;by_cases hk:(k==bZ)=true
 ·simp only[hk,if_true];cases hc:cells.lookup n with
  |none=>exact uG r acc h
  |some c=>
   refine uG r _ fun x d hx=>?_;rw[b8]at hx;cases e:x==n with
   |true=>
    rw[e]at hx;have:x=n:=by simpa using e
    subst this;cases hx;exact hc
   |false=>rw[e]at hx;exact h x d hx
 ·simp only[hk,if_false];exact uG r acc h
theorem qL:∀(names:List (Str×iG)) (acc:List (Str×Addr)) (x:Str),((∃c,acc.lookup x=some c)\/((x,bZ)∈names/\∃c,cells.lookup x=some c))->∃c,(nV cells names acc).lookup x=some c
|[],acc,x,h=>by
 rcases h with h|⟨h,_⟩
 ·exact h
 ·cases h
|(n,k)::r,acc,x,h=>by
 unfold nV;by_cases hk:(k==bZ)=true
 ·simp only[hk,if_true];have ek:k=.free:=by simpa using hk
  subst ek;cases hc:cells.lookup n with
  |none=>
   refine qL r acc x ?_;rcases h with h|⟨h,h2⟩
   ·exact .inl h
   ·rcases aJ.mp h with e|h
    ·cases e;obtain⟨c,hc2⟩:=h2;rw[hc]at hc2;cases hc2
    ·exact .inr ⟨h,h2⟩
  |some c=>
   refine qL r _ x ?_;by_cases e:x=n
   ·subst e;exact .inl ⟨c,by rw[b8];simp⟩
   ·rcases h with⟨d,h⟩|⟨h,h2⟩
    ·exact .inl ⟨d,by rw[b8,beq_eq_false_iff_ne.mpr e];exact h⟩
    ·rcases aJ.mp h with q|h
     ·cases q;exact absurd rfl e
     ·exact .inr ⟨h,h2⟩
 ·simp only[hk,if_false];refine qL r acc x ?_;rcases h with h|⟨h,h2⟩
  ·exact .inl h
  ·rcases aJ.mp h with e|h
   ·cases e;exact absurd rfl hk
   ·exact .inr ⟨h,h2⟩
variable{α:Type}{x:Str}
theorem mT{m:Str}{n c:α}{acc:List (Str×α)}(h:((m,n)::acc).lookup x=some c):(x=m/\c=n)\/((x=m->False)/\acc.lookup x=some c):=by
 rw[b8]at h;cases e:x==m with
 |true=>
  rw[e]at h;exact .inl ⟨by simpa using e,(cH h).symm⟩
 |false=>
  rw[e]at h;exact .inr ⟨fun z=>by rw[z]at e;simp at e,h⟩
theorem uH:∀(names:List (Str×iG)) (n:Nat) (acc:List (Str×Addr)) (x:Str) (c:Addr),(dz n names acc).lookup x=some c->(n<=c/\(x,b_)∈names)\/((x,b_)∉names/\acc.lookup x=some c)
|[],_,_,_,_,h=>.inr ⟨(fun z=>nomatch z),h⟩
|(m,k)::r,n,acc,x,c,h=>by
 unfold dz at h;by_cases hk:(k==b_)=true
 ·rw[if_pos hk]at h;have ek:k=.cell:=by simpa using hk
  subst ek;rcases uH r (n+1) _ x c h with⟨h1,h2⟩|⟨h1,h2⟩
  ·exact .inl ⟨by omega,ai _ h2⟩
  ·rcases mT h2 with⟨e1,e2⟩|⟨e1,e2⟩
   ·subst e1;subst e2;exact .inl ⟨aM _,aq⟩
   ·refine .inr ⟨fun z=>?_,e2⟩;rcases aJ.mp z with q|q
    ·cases q;exact e1 rfl
    ·exact h1 q
 ·rw[if_neg hk]at h;rcases uH r n acc x c h with⟨h1,h2⟩|⟨h1,h2⟩
  ·exact .inl ⟨h1,ai _ h2⟩
  ·refine .inr ⟨fun z=>?_,h2⟩;rcases aJ.mp z with q|q
   ·cases q;exact hk rfl
   ·exact h1 q
theorem zE:∀(names:List (Str×iG)) (n:Nat) (acc:List (Str×Addr)) (x:Str),(x,b_)∉names->(dz n names acc).lookup x=acc.lookup x
|[],_,_,_,_=>rfl
|(m,k)::r,n,acc,x,h=>by
 unfold dz;by_cases hk:(k==b_)=true
 ·rw[if_pos hk,zE r _ _ x fun z=>h (ai _ z),b8];have ek:k=.cell:=by simpa using hk
  have ne:(x==m)=false:=beq_eq_false_iff_ne.mpr fun z=>h (by rw[z,ek];exact aq);rw[ne]
 ·rw[if_neg hk];exact zE r _ _ x fun z=>h (ai _ z)
theorem BH:∀(names:List (Str×iG)) (n:Nat) (acc:List (Str×Addr)) (x:Str),(x,b_)∈names\/(∃c,acc.lookup x=some c)->∃c,(dz n names acc).lookup x=some c
|[],_,_,_,h=>by
 rcases h with h|h
 ·cases h
 ·exact h
|(m,k)::r,n,acc,x,h=>by
 unfold dz;by_cases hk:(k==b_)=true
 ·rw[if_pos hk];refine BH r _ _ x ?_;by_cases e:x=m
  ·subst e;exact .inr ⟨n,by rw[b8];simp⟩
  ·rcases h with h|⟨c,h⟩
   ·rcases aJ.mp h with q|q
    ·cases q;exact absurd rfl e
    ·exact .inl q
   ·exact .inr ⟨c,by rw[b8,beq_eq_false_iff_ne.mpr e];exact h⟩
 ·rw[if_neg hk];refine BH r _ _ x ?_;rcases h with h|h
  ·rcases aJ.mp h with q|q
   ·cases q;exact absurd rfl hk
   ·exact .inl q
  ·exact .inr h
theorem BI:∀(names:List (Str×iG)) (n:Nat) (acc:List (Str×Addr)),(∀x c,acc.lookup x=some c->c<n)->(∀x y c,acc.lookup x=some c->acc.lookup y=some c->x=y)->∀x y c,(dz n names acc).lookup x=some c->(dz n names acc).lookup y=some c->x=y
|[],_,_,_,h=>h
|(m,k)::r,n,acc,hb,h=>by
 unfold dz;by_cases hk:(k==b_)=true
 ·rw[if_pos hk];refine BI r _ _ (fun x c hx=>?_) fun x y c hx hy=>?_
  ·rcases mT hx with⟨_,e⟩|⟨_,e⟩
   ·rw[e];exact iJ _
   ·exact jv (hb x c e)
  ·rcases mT hx with⟨e1,e2⟩|⟨_,e2⟩<;>rcases mT hy with⟨e3,e4⟩|⟨_,e4⟩
   ·rw[e1,e3]
   ·exact absurd (hb y c e4) (by rw[e2];exact dF _)
   ·exact absurd (hb x c e2) (by rw[e4];exact dF _)
   ·exact h x y c e2 e4
 ·rw[if_neg hk];exact BI r n acc hb h
theorem zF:∀(names:List (Str×iG)) (h:Heap) (acc:List (Str×Addr)) (x:Str) (c:Addr),(dz h.objs.size names acc).lookup x=some c->(pushCells h names).IsCell c none\/acc.lookup x=some c
|[],_,_,_,_,e=>.inr e
|(m,k)::r,h,acc,x,c,e=>by
 unfold dz at e;unfold pushCells;by_cases hk:(k==b_)=true
 ·rw[if_pos hk]at e ⊢;have e':(dz (h.push { cls:=.type "cell",data:=.cell none }).objs.size r ((m,h.objs.size)::acc)).lookup x=some c:=by rw[eU];exact e
  rcases zF r _ _ x c e' with q|q
  ·exact .inl q
  ·rcases mT q with⟨_,e2⟩|⟨_,e2⟩
   ·subst e2;exact .inl ⟨_,sI r _ _ _ (bu _ rfl),rfl⟩
   ·exact .inr e2
 ·rw[if_neg hk]at e ⊢;exact zF r h acc x c e
theorem NX{M:Kc}{A:cJ}{closure:List (Str×Addr)}{Q:Env->ah->Prop}
  (hQ:∀h',h'.Ns s.heap.objs.size (fun _=>none)->(∀b o,s.heap.get? b=some o->h'.get? b=some o)->(∀x c,(dz (s.heap.objs.size+1) scope.names closure).lookup x=some c->h'.IsCell c none\/closure.lookup x=some c)->
   Q { scope,locals:=s.heap.objs.size,globals:=env.globals,cells:=dz (s.heap.objs.size+1) scope.names closure,qual:=env.qual,func:=none,code:=env.code,frame:=env.frame,builtins:=env.builtins } { s with heap:=h' }) :
  az M A (uw scope env.globals closure [] env.qual none .none (some env)) Q E s:=by
 simp only[uw,xP,if_true];refine ao (Hs ?_);refine ao (wpAny_layCells _ (fun name kind cells=>by cases hkc:kind==b_<;>simp[hkc]) _ _ _ _ ?_);have hc:=zF scope.names (s.heap.push { cls:=.type "dict",data:=.dict #[] }) closure;rw[eU]at hc;rw[show({ s with heap:=s.heap.push { cls:=.type "dict",data:=.dict #[] } }:ah).heap.objs.size=s.heap.objs.size+1 from eU ..];rw[List.forIn_nil];exact ao (aX (aX (hQ _ ((Wf s.heap (.type "dict")).keeps (sI _ _)) (fun b o e=>sI _ _ b o (aF _ e)) hc)))
noncomputable def ku(X:Cx)(N:List Str)(scope:eZ)(C:Addr)(Ze:ah)(Zp:Hp)(ex:List Addr):Cx where
 prog:=X.prog
 w:=X.w
 K:=X.K
 mg:=X.mg
 base:=X.base
 A:=X.A
 N:=N
 Ze:=Ze
 Zp:=Zp
 env:=compEnvC scope (dz (C+1) scope.names (nV X.env.cells scope.names [])) C X.env
 outer:=X.stack
 stack:=X.stack
 ex:=ex
 fn:=fun x=>scope.names.lookup x==some .cell
 calm:=X.calm
 pn:=[]
 xe:=fun _ _=>False
def HL(X:Cx)(ifs:List Expr)(t:TT):Prop:=
 ∀(pins:List (Addr×Obj)) (s:ah) (O:L2.St) (H:Hp) (Q:Bool->Hp->Prop),L2.Inv X pins O H s->t O H Q->
  az (aA X.prog X.w) X.A (forIn ifs true fun c r=>if r=true then do let ok <-q9 c X.env (eval c X.env);pure (i_ ok)else pure (i_ r)) (TP X pins O Q) X.xe s
theorem Sl:HL X [] (fun _ H Q=>Q true H):=fun _ _ _ H _ I h=>wpAny_tests_nil ⟨H,I,h⟩
variable{c:Expr}
theorem Sm{t:TT}(h:PT X c t):HL X [c] t:=fun pins s O H Q I q=>wpAny_tests_one (h pins s O H Q I q)
section
variable{prog:bg}{w:bH}{A:cJ}{R:A_->ah->Prop}{s:ah}
theorem Ld{elt target:Expr}{ifs:List Expr}{it acc:Value}(I:Nat->ah->Prop)
  (turn:∀n s,I n s->az (aA prog w) A (A7 it) (fun r Zf=>match r with
   |none=>R (.ok .next) Zf
   |some v=>az (aA prog w) A (nA target it v) (fun _ Zi=>az (aA prog w) A (oZ target env v) (fun _ Zm=>
     az (aA prog w) A (forIn ifs true fun c r=>if r=true then do let ok <-q9 c env (eval c env);pure (i_ ok)else pure (i_ r))
      (fun ok Zr=>if ok=true then az (aA prog w) A (eval elt env) (fun x ZH=>az (aA prog w) A (call (.builtin "list.append") [acc,x]) (fun _ ZI=>∃m,m<n/\I m ZI) (fun _ _=>False) ZH) (fun _ _=>False) Zr
       else ∃m,m<n/\I m Zr) (fun _ _=>False) Zm) (fun _ _=>False) Zi) (fun _ _=>False) Zf) (fun _ _=>False) s)
  (n:Nat) (h:I n s):jF (aA prog w) A (.compLoop (.ListComp elt [⟨target,iter,ifs,0⟩] scope pos) 0 it acc env) R s:=by
 refine codeAny_loop rfl I (fun n s hI=>?_) n h;show az _ A ((compTurn (.ListComp elt [⟨target,iter,ifs,0⟩] scope pos) 0 it acc env).onRaise (fun x=>do DC x env;theTreesLotGoes x)) _ _ s;refine wpAny_noted (wpAny_noRaise ?_);rw[compTurn_list];refine ao (lT (ao (aR (turn n s hI) fun r Zf Zk=>?_)));cases r with
 |none=>exact aX Zk
 |some v=>
  refine ao (aR Zk fun _ Zi Zs=>ao (aR Zs fun _ Zm Zq=>ao (aR Zq fun ok Zr ZJ=>?_)));cases ok with
  |false=>exact aX ⟨rfl,ZJ⟩
  |true=>exact ao (ao (aR ZJ fun x ZH ZN=>ao (aR ZN fun _ ZI ZO=>aX (aX ⟨rfl,ZO⟩))))
end
noncomputable abbrev nW(its:List Value)(n:Nat):Obj:={ cls:=.type "list",data:=.seq its.toArray n }
section
variable{X:Cx}{pins:List (Addr×Obj)}{O:L2.St}{H:Hp}{Zi:ah}{tgt iter elt:Expr}{ifs:List Expr}{scope:eZ}{pos:Pos}{N:List Str}{Zd:L2.St}{it:Addr}{fp:List Addr}{tn:Nat->Heap->Prop}{J:It}
 {ok:Hp->Prop}{items:List Item}{g:TG}{cond:TT}{te:TE}{k:List V->Hp->Prop}{E:Value->ah->Prop}{RR:Value->Addr->A_->ah->Prop}
theorem Ay(hc:X.calm=true)(I:L2.Inv X pins O H Zi)(T:Turn X.prog X.w X.K tgt J fp it tn)(st:tn 0 Zi.heap)(hf:∀b∈fp,ly X pins H b)(hJ:nU J ok items)
  (hcell:∀y∈scope.names,y.2=.free->(y.1,b_)∉scope.names) (hkind:scope.kind=.function) (hfree:∀n,(n,bZ)∈scope.names->∃c,X.env.cells.lookup n=some c) (hlen:Zd.length=N.length)
  (Zt:∀(i:Nat) (x:Str) (v:V),N[i]?=some x->Zd[i]?=some (some v)->(x,bZ)∈scope.names/\(k9 scope X.env).names.lookup x≠some .local/\∃c u,X.env.cells.lookup x=some c/\RelV v u/\Zi.heap.IsCell c (some u))
  (hvis:∀x,(k9 scope X.env).names.lookup x=some .cell\/(k9 scope X.env).names.lookup x=some .free->(x,bZ)∈scope.names\/(x,b_)∈scope.names)
  (hg:∀(C:Addr) (Ze:ah) (ex:List Addr),PG (ku X N scope C Ze H ex) tgt g)
  (ht:∀(C:Addr) (Ze:ah) (ex:List Addr),HL (ku X N scope C Ze H ex) ifs cond)
  (he:∀(C:Addr) (Ze:ah) (ex:List Addr),PE (ku X N scope C Ze H ex) elt te)
  (h:pZ ok g cond te k items [] Zd H)
  (hRR:∀D C s' H2 vs,H2 D=none->k vs H2->L2.Inv X pins O (upd H2 D (.lst vs)) s'->ly X pins (upd H2 D (.lst vs)) C->(∃m,s'.heap.Ns C m)->RR (.ref D) C (.ok .next) s') :
  az (aA X.prog X.w) X.A (newList []) (fun acc Zm=>az (aA X.prog X.w) X.A (uw scope X.env.globals (nV X.env.cells scope.names []) [] X.env.qual none .none (some X.env)) (fun cenv Zr=>
   jF (aA X.prog X.w) X.A (.compStart (.ListComp elt [⟨tgt,iter,ifs,0⟩] scope pos) 0 (.ref it) acc { cenv with scope:=k9 scope X.env }) (RR acc cenv.locals) Zr) E Zm) E Zi:=by
 refine yx (NX fun Zk Zw Zx Zy=>?_);dsimp only at Zw Zx Zy ⊢;generalize Zu:({ Zi with heap:=Zi.heap.push { cls:=.type "list",dict:=none,data:=.seq ([]:List Value).toArray } }:ah)=Ze at Zw Zx Zy ⊢;have Zz:Ze.heap=Zi.heap.push { cls:=.type "list",dict:=none,data:=.seq ([]:List Value).toArray }:=by rw[<-Zu]
 have hH2:Zi.heap.push { cls:=.type "list",dict:=none,data:=.seq ([]:List Value).toArray }=Ze.heap:=Zz.symm;have eos:Ze.os=Zi.os:=by rw[<-Zu]
 have egn:Ze.gens=Zi.gens:=by rw[<-Zu]
 have etk:Ze.toks=Zi.toks:=by rw[<-Zu]
 rw[hH2]at Zw Zx Zy ⊢;have hsz:Ze.heap.objs.size=Zi.heap.objs.size+1:=by rw[Zz,eU]
 generalize hD:Zi.heap.objs.size=D at *;generalize hC:Ze.heap.objs.size=C at *;have hDC:D≠C:=by rw[hsz];exact bw (iJ _)
 have up:∀b o,Zi.heap.get? b=some o->Ze.heap.get? b=some o:=fun b o e=>by rw[Zz];exact aF _ e
 have lt2:∀b o,Zi.heap.get? b=some o->b<D:=fun b o e=>by rw[<-hD];exact aP e
 have up1:∀b o,Ze.heap.get? b=some o->Zk.get? b=some o:=Zx;have ZP:Ze.heap.get? D=some (nW [] 0):=by rw[Zz,<-hD];exact bu _ rfl
 have fpD:∀b∈fp,b<D:=fun b hb=>by obtain⟨o,e,_⟩:=T.obj 0 _ st b hb;exact lt2 b o e
 have cellD:∀x c,X.env.cells.lookup x=some c->c<D:=fun x c e=>by obtain⟨v,q⟩:=I.cell x c e;obtain⟨o,ho,_⟩:=q;exact lt2 c o ho
 have DltC:D<C:=by rw[hsz];exact iJ _
 have fpC:∀b∈fp,b≠C:=fun b hb=>bw (kN (fpD b hb) DltC);have fpnD:∀b∈fp,b≠D:=fun b hb=>bw (fpD b hb);have freshH:∀b,D<=b->H b=none:=fun b hb=>I.hok.fresh (by rw[hD];exact hb)
 let ex:=D::fp
 let X':=ku X N scope C Ze H ex
 have clsub0:∀x c,(nV X.env.cells scope.names []).lookup x=some c->X.env.cells.lookup x=some c:=uG _ _ (fun x c e=>by simp at e);have clsub:∀x c,X'.env.cells.lookup x=some c->C<c\/X.env.cells.lookup x=some c:=fun x c e=>by
  rcases uH _ _ _ _ _ e with⟨q,_⟩|⟨_,q⟩
  ·exact .inl q
  ·exact .inr (clsub0 x c q)
 have neD:∀x c,X'.env.cells.lookup x=some c->c≠D:=fun x c e z=>by
  rcases clsub x c e with q|q
  ·rw[z]at q;exact dF _ (kN q DltC)
  ·exact bw (cellD x c q) z
 have neF:∀x c,X'.env.cells.lookup x=some c->∀b∈fp,c≠b:=fun x c e b hb z=>by
  rcases clsub x c e with q|q
  ·rw[z]at q;exact dF _ (kN (kN q (fpD b hb)) DltC)
  ·exact(hf b hb).2.2.2.2.1 x c q z
 have stkD:∀b∈frs X.stack,b<D:=fun b hb=>by
  rcases aJ.mp (I.tS b hb)with e|hb
  ·rw[e,<-hD];exact I.lt
  ·obtain⟨_,o,ho,_⟩:=I.mO.mem hb;exact lt2 b o ho
 have ok':X'.Ok:=by
  refine⟨I.ok.mod,?_,I.ok.glob,I.ok.blt,xQ hC,BI _ _ _ (fun x c e=>jv (kN (cellD x c (clsub0 x c e)) DltC)) fun x y c h1 h2=>I.ok.inj x y c (clsub0 x c h1) (clsub0 y c h2),fun x hx=>?_,fun x c hx=>?_,I.ok.hd,I.ok.frames,.inl rfl,fun b hb=>?_,fun b o e=>?_,?_,fun b o e hb=>?_,fun b hb z=>?_,?_,I.Bt⟩
  ·exact hkind
  ·refine BH _ _ _ x ?_;rcases hvis x hx with q|q
   ·obtain⟨c,hc'⟩:=hfree x q;exact .inr (qL _ _ x (.inr ⟨q,c,hc'⟩))
   ·exact .inl q
  ·intro hx2;have hm:(x,b_)∈scope.names:=PySem.mem_of_lookup (by simpa using(show(scope.names.lookup x==some .cell)=true from hx));rcases uH _ _ _ _ _ hx2 with⟨q,_⟩|⟨q,_⟩
   ·show Ze.heap.objs.size<=c;rw[hC];exact iE q
   ·exact absurd hm q
  ·rcases aJ.mp hb with e|hb
   ·subst e;exact⟨hDC,neD⟩
   ·refine⟨?_,fun x c e=>neF x c e b hb⟩;exact fpC b hb
  ·exact⟨up b o (I.bs b o e).1,(I.bs b o e).2⟩
  ·show X.base.objs.size<=Ze.heap.objs.size;refine dH (dH I.ok.bsz I.sz) ?_;rw[hD,hC];exact iE DltC
  ·have hbD:b<D:=lt2 b o (I.bk b o e);rcases aJ.mp hb with q|hb
   ·exact bw hbD q
   ·rcases(hf b hb).2.2.2.1 with q|q
    ·exact I.ok.noex b o e q
    ·have h1:=aP (I.ok.bs b o e).1;exact absurd (bE h1 q) (dF _)
  ·rcases aJ.mp hb with q|hb
   ·exact bw (stkD b z) q
   ·obtain⟨_,f1,f2,_⟩:=hf b hb;rcases aJ.mp (I.tS b z)with q|q
    ·exact f1 q
    ·exact f2 q
  ·have hfr:=I.stack;have keepF:∀l:List Env,Zi.heap.FunFrames X.base l->Ze.heap.FunFrames X.base l:=by
    intro l;induction l with
    |nil=>intro _;trivial
    |cons env r ih=>
     intro hl;obtain⟨hk,⟨Za,o,hf',hn,ho,hd⟩,hr⟩:=hl;exact⟨hk,⟨Za,o,hf',hn,up Za o ho,hd⟩,ih hr⟩
   exact keepF _ hfr
 have fpok:∀(H':Hp) (its:List Value) (n:Nat),(∀b∈fp,H' b=none)->∀b∈fp,ly X' [(D,nW its n)] H' b:=fun H' its n hn b hb=>by
  refine⟨hn b hb,?_,?_,.inl (ai _ hb),fun x c e=>neF x c e b hb,fun p hp=>?_⟩
  ·exact fpC b hb
  ·intro z;obtain⟨_,f1,f2,_⟩:=hf b hb;rcases aJ.mp (I.tS b z)with q|q
   ·exact f1 q
   ·exact f2 q
  ·have hp:p∈[(D,nW its n)]:=hp;have e:p=(D,nW its n):=by simpa using hp
   subst e;exact cK (fpnD b hb)
 have pinD:∀(s:ah) (H':Hp) (its:List Value) (n:Nat),s.heap.get? D=some (nW its n)->H' D=none->∀p∈[(D,nW its n)],s.heap.get? p.1=some p.2/\H' p.1=none/\p.1≠X'.env.locals/\p.1∉X'.fs/\∀v,p.2.data≠.cell v:=by
  intro s H' its n e hn p hp;have q:p=(D,nW its n):=by simpa using hp
  subst q;refine⟨e,hn,hDC,fun z=>?_,fun v z=>nomatch z⟩;exact dF _ (stkD D z)
 let Iv:Nat->ah->Prop:=fun n s=>∃(i:Nat) (acc:List V) (its:List Value) (m:Nat) (Zl:L2.St) (H1:Hp),n=items.length+1-i/\i<=items.length/\L2.Inv X' [(D,nW its m)] Zl H1 s/\tn i s.heap/\(∀b∈fp,H1 b=none)/\bh acc its/\acc.length<=aa /\
  pZ ok g cond te k (items.drop i) acc Zl H1
 have start:∀tk,L2.Inv X' [(D,nW [] 0)] Zd H { Ze with heap:=Zk,toks:=tk }:=fun tk=>by
  refine⟨ok',rfl,by show jD Ze.gens;rw[egn];exact I.bare,Un.kept up1,⟨_,Zw,fun i x v h1 h2 h3=>?_⟩,fun x c e=>?_,freshH C (iE DltC),fun x c e=>?_,fun p hp=>?_,?_,hlen⟩
  ·obtain⟨hx,hnl,c,u,hcu,ru,cellu⟩:=Zt i x v h1 h2;refine⟨u,ru,.inr ⟨?_,?_⟩⟩
   ·rcases h3 with q|q|q
    ·exact absurd q hnl
    ·exact .inl q
    ·exact .inr q
   ·obtain⟨c',hc'⟩:=qL (cells:=X.env.cells) scope.names [] x (.inr ⟨hx,c,hcu⟩);have e1:=clsub0 x c' hc';rw[hcu]at e1;cases e1;obtain⟨o,ho,hd⟩:=cellu;exact⟨c,(zE _ _ _ x (hcell _ hx rfl)).trans hc',o,up1 _ _ (up _ _ ho),hd⟩
  ·rcases Zy x c e with q|q
   ·exact⟨none,q⟩
   ·obtain⟨v,o,ho,hd⟩:=I.cell x c (clsub0 x c q);exact⟨v,o,up1 _ _ (up _ _ ho),hd⟩
  ·rcases clsub x c e with q|q
   ·exact freshH c (iE (kN DltC q))
   ·exact I.freeC x c q
  ·exact pinD { Ze with heap:=Zk,toks:=tk } H [] 0 (up1 _ _ ZP) (freshH D (aM _)) p hp
  ·have hk:eY X.prog X.w H Zk:=I.hok.kept fun b u e=>up1 b u (up b u e);exact hk
 have loop:∀tk,jF (aA X.prog X.w) X.A (.compLoop (.ListComp elt [⟨tgt,iter,ifs,0⟩] scope pos) 0 (.ref it) (.ref D) X'.env) (RR (.ref D) C) { Ze with heap:=Zk,toks:=tk }:=fun tk=>by
  refine Ld Iv ?_ (items.length+1) ⟨0,[],[],0,Zd,H,rfl,j6 _,start tk,T.keep 0 _ _ st fun b hb o e=>up1 b o (up b o e),fun b hb=>(hf b hb).1,.nil,j6 _,by simpa using h⟩;rintro n s ⟨i,acc,its,m,Zl,H1,rfl,hi,J1,st1,fr1,rv,hz,q⟩;by_cases hlt:i<items.length
  ·rw[qm hlt]at q;obtain⟨hok,hz1,q⟩:=q;have ei:items[i]?=some items[i]:=aG hlt;refine aR (T.item X' rfl rfl rfl hc i _ s Zl H1 _ J1 (fpok H1 its m fr1) st1 (hJ.go i H1 _ hok ei)) fun r s4 ⟨u,hr,h4⟩=>?_;subst hr;refine aR h4 fun _ s5 ⟨x,H5,I5,r5,y5,st5,fr5⟩=>?_;have I5':=I5.pinned (fpok H5 its m fr5) (T.obj _ _ st5);refine aR (hg C Ze ex _ s5 Zl H5 x u _ I5' r5 (hJ.yld i H1 _ x H5 hok ei y5 _ q)) fun _ s6 ⟨Zo,H6,I6,q6⟩=>?_;refine aR (ht C Ze ex _ s6 Zo H6 _ I6 q6) fun b s7 ⟨H7,I7,q7⟩=>?_;have keepT:∀{ZK:L2.St}{H8:Hp}{s8:ah},L2.Inv X' ([(D,nW its m)]++vU fp s5.heap) ZK H8 s8->tn (i+1) s8.heap/\(∀b∈fp,H8 b=none):=fun{ZK H8 s8} I8=>by
    refine⟨T.keep _ _ _ st5 fun b hb o e=>(I8.pin (b,o) (au _ (au _ (pW hb e)))).1,fun b hb=>?_⟩;obtain⟨o,e,_⟩:=T.obj _ _ st5 b hb;exact(I8.pin (b,o) (au _ (au _ (pW hb e)))).2.1
   cases b with
   |false=>
    have q7:=(if_neg aE)▸q7;obtain⟨t1,t2⟩:=keepT I7;exact⟨items.length+1-(i+1),by omega,i+1,acc,its,m,Zo,H7,rfl,hlt,I7.uB,t1,t2,rv,hz,by simpa using q7⟩
   |true=>
    have q7:te Zo H7 (fun y H4=>pZ ok g cond te k (items.drop (i+1)) (acc++[y]) Zo H4):=by simpa using q7
    refine aR (he C Ze ex _ s7 Zo H7 _ I7 q7) fun yv s8 ⟨y,H8,I8,r8,q8⟩=>?_;obtain⟨t1,t2⟩:=keepT I8;have hD8:=I8.pin (D,nW its m) (au _ (aK _ (aU.mpr rfl)));obtain⟨e8,n8,_⟩:=hD8;have hl:=rv.length;refine fV F.slot_list_append ⟨_,e8,rfl⟩ F.entry_list_append (F.args_list_append_2 _ _) (PySem.list_append D its.toArray m yv (by rw[aQ];omega)) ⟨e8,?_⟩;have I9:L2.Inv X' [] Zo H8 s8:=I8.xW fun p hp=>nomatch hp
    have kk:∀b o,b≠D->s8.heap.get? b=some o->(s8.heap.update D (jT fun x=>x.push yv)).get? b=some o:=fun b o hb e=>(dZ _ _ (cK hb)).trans e;have I10:L2.Inv X' [] Zo H8 { s8 with heap:=s8.heap.update D (jT fun x=>x.push yv),toks:=s8.toks }:=
     I9.turned kk n8 hDC (.inl aq) neD (fun p hp=>nomatch hp)
    have e9:=PySem.IsL.update e8 (fun x=>x.push yv);rw[List.push_toArray]at e9;obtain⟨m',e10⟩:∃m',({ s8 with heap:=s8.heap.update D (jT fun x=>x.push yv),toks:=s8.toks }:ah).heap.get? D=some (nW (its++[yv]) m'):=⟨_,e9⟩;refine⟨items.length+1-(i+1),by omega,i+1,acc++[y],its++[yv],m',Zo,H8,rfl,hlt,I10.xW (pinD _ H8 _ m' e10 n8),?_,t2,rv.append (.cons r8 .nil),by rw[ay,cg];omega,q8⟩;exact T.keep _ _ _ t1 fun b hb o e=>kk b o (fpnD b hb) e
  ·rw[lF (by omega)]at q;obtain⟨hok,q⟩:=q;refine aR (T.done X' rfl rfl rfl hc i _ s Zl H1 _ J1 (fpok H1 its m fr1) st1 (hJ.stop i H1 hok (by omega))) fun r s4 ⟨hr,I4⟩=>?_;subst hr;obtain⟨e4,n4,_⟩:=I4.pin (D,nW its m) (au _ (aU.mpr rfl));obtain⟨mC,hnC,_⟩:=I4.loc;have hCn:H1 C=none:=I4.free;have exD:∀b,b<D->b∉fp->b∉X'.ex:=fun b hb hn z=>by
    rcases aJ.mp z with q|q
    ·exact bw hb q
    ·exact hn q
   have hok':eY X.prog X.w (upd H1 D (.lst acc)) s4.heap:=Lc I4.hok n4 ⟨hz,its,m,rv,e4⟩;have hU:Un (frs X.stack) fp H (upd H1 D (.lst acc)) Zi.heap s4.heap:=by
    have b4:=I4.base;refine⟨fun b o e n hb hx=>?_,fun b o e n hb hx=>?_,fun b o e n hx=>?_,fun b o e hx=>?_,fun b xs e=>?_,fun b o u e=>?_,fun b ps e=>?_⟩
    ·exact b4.keep b o (up b o e) n hb (exD b (lt2 b o e) hx)
    ·exact b4.slot b o (up b o e) n hb (exD b (lt2 b o e) hx)
    ·rw[aS (bw (lt2 b o e))];exact b4.free b o (up b o e) n (exD b (lt2 b o e) hx)
    ·exact b4.there b o (up b o e) (exD b (lt2 b o e) hx)
    ·have z:=b4.tups b xs e;rw[aS (cj z n4)];exact z
    ·have z:=b4.aC b o u e;rw[aS (cj z n4)];exact z
    ·obtain⟨more,z⟩:=b4.tbls b ps e;exact⟨more,by rw[aS (cj z n4)];exact z⟩
   have I5:L2.Inv X pins O (upd H1 D (.lst acc)) s4:=I.call' (ch:=fp) (I4.os.trans eos) hU hok' I4.bare fun b hb=>by
    obtain⟨f0,f1,f2,f3,f4,f5⟩:=hf b hb;exact⟨f3,f1,f4,f5⟩
   refine hRR D C s4 H1 acc n4 q I5 ?_ ⟨mC,hnC⟩;have hle:Zi.heap.objs.size<=C:=by rw[hD];exact iE DltC
   have z:=I.o5 (H':=upd H1 D (.lst acc)) (b:=C) hle (by rw[aS (cK hDC)];exact hCn);exact z
 subst Zu;exact codeAny_compStart_list (loop _) (T.self _ 0 _ _ _ (T.keep 0 _ _ st fun b hb o e=>up1 b o (up b o e)) (loop _))
end
noncomputable def jq(N nl:List Str)(fr:List Nat):List Str:=nl++fr.map fun i=>N.getD i DB
noncomputable def ye(nl:List Str)(fr:List Nat)(O:L2.St):L2.St:=nl.map (fun _=>none)++fr.map fun i=>O.getD i none
structure tV (sc:eZ) (N:List Str) (scope:eZ) (nl:List Str) (fr:List Nat):Prop where
 kind:scope.kind=.function
 cell:∀y∈scope.names,y.2=.free->(y.1,b_)∉scope.names
 names:∀x∈scope.names,x.2=.local->scope.names.lookup x.1=some .local
 free:∀n,(n,bZ)∈scope.names->sc.names.lookup n=some .cell\/sc.names.lookup n=some .free
 fr:∀i∈fr,∃x,N[i]?=some x/\scope.names.lookup x=some .free
theorem we(x:Str)(h:(k9 scope env).names.lookup x=some .cell\/(k9 scope env).names.lookup x=some .free):(x,bZ)∈scope.names\/(x,b_)∈scope.names:=by
 have key:∃k,(x,k)∈(k9 scope env).names/\(k=.cell\/k=.free):=by
  rcases h with h|h
  ·exact⟨_,PySem.mem_of_lookup h,.inl rfl⟩
  ·exact⟨_,PySem.mem_of_lookup h,.inr rfl⟩
 obtain⟨k,hm,hk⟩:=key;unfold k9 at hm;simp only[ck]at hm;obtain⟨⟨n,k0⟩,h0,e⟩:=hm;simp only at e;split at e
 ·rename_i hc;have:k0=.free:=by
   simp only[bx,beq_iff_eq]at hc;exact hc.1.1
  subst this;cases e;exact .inl h0
 ·cases e;rcases hk with rfl|rfl
  ·exact .inr h0
  ·exact .inl h0
theorem wg{env:Env}:∀{names:List (Str×iG)}{x:Str},names.lookup x=some .free->
 (names.map fun(n,k)=>if(k==bZ&&env.scope.kind==.function&&env.kindOf n==some .cell)then(n,b_)else(n,k)).lookup x≠some .local
|[],_,h=>by simp at h
|(n,k)::r,x,h=>by
 have ih:=@wg env r x;show jj x ((if(k==bZ&&env.scope.kind==.function&&env.kindOf n==some .cell)=true then(n,b_)else(n,k))::_)≠_;cases hx:x==n with
 |true=>
  simp only[b8,hx]at h;cases h;by_cases hc:(bZ==bZ&&env.scope.kind==.function&&env.kindOf n==some .cell)=true
  ·rw[if_pos hc];simp only[b8,hx];decide
  ·rw[if_neg hc];simp only[b8,hx];decide
 |false=>
  simp only[b8,hx]at h;by_cases hc:(k==bZ&&env.scope.kind==.function&&env.kindOf n==some .cell)=true
  ·rw[if_pos hc];simp only[b8,hx];exact ih h
  ·rw[if_neg hc];simp only[b8,hx];exact ih h
variable{i:Nat}{y:Str}{py:Pos}
section
variable{X:Cx}{tgt iter elt:Expr}{ifs:List Expr}{scope:eZ}{pos:Pos}{nl:List Str}{fr:List Nat}{wi:Q_}{g:TG}{cond:TT}{te:TE}
theorem Az(S:tV X.env.scope X.N scope nl fr)(I:L2.Inv X pins O H s)(i:Nat)(x:Str)(v:V)(h1:(jq X.N nl fr)[i]?=some x)(h2:(ye nl fr O)[i]?=some (some v)) :
  (x,bZ)∈scope.names/\(k9 scope X.env).names.lookup x≠some .local/\∃c u,X.env.cells.lookup x=some c/\RelV v u/\s.heap.IsCell c (some u):=by
 unfold jq at h1;unfold ye at h2;by_cases hi:i<nl.length
 ·rw[eE (by simpa using hi),bL,aG hi]at h2;cases h2
 ·rw[cL (by omega)]at h1;rw[cL (by simp;omega)]at h2;rw[bL]at h1 h2;rw[aH]at h2;cases e:fr[i-nl.length]? with
  |none=>rw[e]at h1;cases h1
  |some j=>
   rw[e]at h1 h2;have h1:X.N.getD j DB=x:=cH h1;have h2:O.getD j none=some v:=cH h2;obtain⟨y,hy,hf⟩:=S.fr j (fU e);have exy:y=x:=by
    rw[<-h1];simp[hy]
   subst exy;have Zt:O[j]?=some (some v):=by
    cases q:O[j]? with
    |none=>simp[q]at h2
    |some o=>
     simp[q]at h2;rw[h2]
   have hm:=PySem.mem_of_lookup hf;refine⟨hm,wg hf,?_⟩;obtain⟨m,hn,hl⟩:=I.loc;have hk:=S.free y hm;obtain⟨u,ru,l⟩:=hl j y v hy Zt (by rcases hk with q|q;exact .inr (.inl q);exact .inr (.inr q));rcases l with⟨l,_⟩|⟨_,c,hc,hcell⟩
   ·exfalso;have l:X.env.scope.names.lookup y=some .local:=l;rcases hk with q|q<;>rw[q]at l<;>cases l
   ·exact⟨c,u,hc,ru,hcell⟩
theorem rN(S:tV X.env.scope X.N scope nl fr)(I:L2.Inv X pins O H s):∀n,(n,bZ)∈scope.names->∃c,X.env.cells.lookup n=some c:=fun n hn=>I.ok.has n (S.free n hn)
theorem Sn(hc:X.calm=true)(S:tV X.env.scope X.N scope nl fr)(hi:CW X tgt iter wi)(hs:∀x,ju iter X.env x=pure x)
  (hg:∀(C:Addr) (Ze:ah) (H:Hp) (ex:List Addr),PG (ku X (jq X.N nl fr) scope C Ze H ex) tgt g)
  (ht:∀(C:Addr) (Ze:ah) (H:Hp) (ex:List Addr),HL (ku X (jq X.N nl fr) scope C Ze H ex) ifs cond)
  (he:∀(C:Addr) (Ze:ah) (H:Hp) (ex:List Addr),PE (ku X (jq X.N nl fr) scope C Ze H ex) elt te) :
  PE X (.ListComp elt [⟨tgt,iter,ifs,0⟩] scope pos) (fun O H Q=>wi O H fun ok items H1=>pZ ok g cond te (fun vs H2=>∀p,H2 p=none->Q (.ref p) (upd H2 p (.lst vs))) items [] (ye nl fr O) H1):=by
 intro pins s O H Q I h;rw[eval_ListComp];refine rC (use:=none) rfl hs (vm (rN S I)) S.kind S.names (aR (hi pins s O H _ I h) fun v Zf Zk=>aR Zk fun itv Zi Zs=>?_);obtain⟨it,fp,tn,J,H2,e,I2,T,st,hf,ok,items,hJ,hk⟩:=Zs;subst e;refine Ay (RR:=fun acc C=>compPost (aA X.prog X.w) X.A X.xe none (EP X pins O Q) acc C) hc I2 T st hf hJ S.cell S.kind (rN S I2) ?_ (Az S I2) we
  (fun C Ze ex=>hg C Ze H2 ex) (fun C Ze ex=>ht C Ze H2 ex) (fun C Ze ex=>he C Ze H2 ex) hk fun D C s' H3 vs hD q I3 f3 hn=>?_
 ·unfold ye jq;simp
 ·obtain⟨m,hn⟩:=hn;obtain⟨f0,f1,f2,f3,f4,f5⟩:=f3;refine⟨m,hn,fun h' hsb=>⟨.ref D,_,I3.turned (t':=s'.toks) (fun b o hb e=>hsb.extBut b o hb e) f0 f1 f3 f4 f5,rfl,q D hD⟩⟩
theorem So{spos:Pos}(hc:X.calm=true)(hN:X.N.Nodup)(hiy:X.N[i]?=some y)(hy:X.env.scope.names.lookup y=some .local)(S:tV X.env.scope X.N scope nl fr)(hi:CW X tgt iter wi)(hs:∀x,ju iter X.env x=pure x)
  (hsw:mJ (.ListComp elt [⟨tgt,iter,ifs,0⟩] scope pos) (some (.Name y py)) spos.line X.env=pure true)
  (hg:∀(C:Addr) (Ze:ah) (H:Hp) (ex:List Addr),PG (ku X (jq X.N nl fr) scope C Ze H ex) tgt g)
  (ht:∀(C:Addr) (Ze:ah) (H:Hp) (ex:List Addr),HL (ku X (jq X.N nl fr) scope C Ze H ex) ifs cond)
  (he:∀(C:Addr) (Ze:ah) (H:Hp) (ex:List Addr),PE (ku X (jq X.N nl fr) scope C Ze H ex) elt te) :
  PS X (.Assign [.Name y py] (.ListComp elt [⟨tgt,iter,ifs,0⟩] scope pos) spos) (fun D O H=>wi O H fun ok items H1=>pZ ok g cond te (fun vs H2=>∀p,H2 p=none->D.nx (O.set i (some (.ref p))) (upd H2 p (.lst vs))) items [] (ye nl fr O) H1):=by
 intro pins s O H D I h;rw[PySem.exec_Assign_Name_used _ _ _ _ hsw];refine ao (lT (ao ?_));show az _ X.A (do let _ <-comprehension (.ListComp elt [⟨tgt,iter,ifs,0⟩] scope pos) scope X.env _ (newList []) false (eval iter X.env) (some (oZ (.Name y py) X.env))) _ _ s;refine ao (cU (rC (use:=some (oZ (.Name y py) X.env)) (Q:=fun _ s'=>SP X pins D .next s') rfl hs (vm (rN S I)) S.kind S.names
  (aR (hi pins s O H _ I h) fun v Zf Zk=>aR Zk fun itv Zi Zs=>?_)) (fun _ s' hq=>aX (aX hq)) fun _ _ e=>e)
 obtain⟨it,fp,tn,J,H2,e,I2,T,st,hf,ok,items,hJ,hk⟩:=Zs;subst e;refine Ay (RR:=fun acc C=>compPost (aA X.prog X.w) X.A X.xe (some (oZ (.Name y py) X.env)) (fun _ s'=>SP X pins D .next s') acc C) hc I2 T st hf hJ S.cell S.kind (rN S I2) ?_ (Az S I2) we
  (fun C Ze ex=>hg C Ze H2 ex) (fun C Ze ex=>ht C Ze H2 ex) (fun C Ze ex=>he C Ze H2 ex) hk fun DD C s' H3 vs hD q I3 f3 hn=>?_
 ·unfold ye jq;simp
 ·obtain⟨m,hn⟩:=hn;obtain⟨f0,f1,f2,f3,f4,f5⟩:=f3;refine yt (Cr (v:=.ref DD) (u:=.ref DD) I3 hN hiy (.inl hy) rfl (fun s'' I4 hsame=>?_) (.inr hy));obtain⟨a,hs',ha⟩:=hsame;have hCa:C≠a:=by
   rcases ha with q|q
   ·rw[q];exact f1
   ·exact fun z=>f4 y a q z.symm
  refine⟨m,hn.sameBut hs' hCa,fun h' hsb=>⟨_,_,I4.turned (t':=s''.toks) (fun b o hb e=>hsb.extBut b o hb e) f0 f1 f3 f4 f5,q DD hD⟩⟩
end
structure Tab where
 N:List Str
 sc:eZ
 gl:List Str
 bn:List Str
 own:Str->Bool
 calm:Bool
noncomputable def NY(sc:eZ)(x:Str):Bool:=match sc.names.lookup x with
|some .local=>true
|some .cell=>true
|some .free=>true
|_=>false
noncomputable def NZ(T:Tab)(x:Str):Bool:=match T.sc.names.lookup x with
|some .local=>true
|some .cell=>T.own x
|_=>false
noncomputable def nN(sc:eZ)(x:Str):Bool:=decide (sc.names.lookup x=some .globalImplicit)
noncomputable def noStar:Expr->Bool
|.Starred ..=>false
|_=>true
noncomputable def bD(es:List Expr):Bool:=es.all noStar
noncomputable def uJ:Expr->Bool
|.Call (.Name id _) [] [] _=>!(id==("super":Str))
|_=>true
noncomputable def uK:Expr->Bool
|.Slice ..=>false
|_=>true
noncomputable def EW:Expr->Bool
|.Set ..=>false
|_=>true
noncomputable def qy:Expr->Bool
|.ListComp ..=>false
|.SetComp ..=>false
|.DictComp ..=>false
|_=>true
noncomputable def notTuple:Expr->Bool
|.Tuple ..=>false
|.List ..=>false
|_=>true
noncomputable def N1:V->Const->Bool
|.int i,.int j=>decide (i=j)
|.bl a,.bool b=>decide (a=b)
|.str a,.str b=>decide (a=b)
|.non,.none=>true
|_,_=>false
noncomputable def CY(scope sc:eZ):eZ:=
 { scope with names:=scope.names.map fun(n,k)=>if(k==.free&&sc.kind==.function&&sc.names.lookup n==some .cell)then(n,.cell)else(n,k) }
noncomputable def Eb(T:Tab)(scope:eZ)(nl:List Str)(fr:List Nat):Tab:={ N:=jq T.N nl fr,sc:=CY scope T.sc,gl:=T.gl,bn:=T.bn,own:=(fun x=>scope.names.lookup x==some .cell),calm:=T.calm }
noncomputable def qz(sc:eZ)(N:List Str)(scope:eZ)(nl:List Str)(fr:List Nat):Bool:=
 decide (scope.kind=.function)&&scope.names.all (fun y=>decide (y.2=.free->(y.1,b_)∉scope.names))&&scope.names.all (fun x=>decide (x.2=.local->scope.names.lookup x.1=some .local))
 && scope.names.all (fun x=>decide (x.2=.free->sc.names.lookup x.1=some .cell\/sc.names.lookup x.1=some .free))&&fr.all (fun i=>match N[i]? with|some x=>decide (scope.names.lookup x=some .free)|none=>false)
 && decide (jq N nl fr).Nodup
noncomputable def N2:CI->Expr->Bool
|.enum _,e=>match e with
 |.Tuple ..=>true
 |_=>false
|.zip _,e=>match e with
 |.Tuple ..=>true
 |_=>false
|_,_=>true
noncomputable def N3(sc:eZ):Expr->Bool
|.Name y _=>!decide (sc.names.lookup y=some .local)
|_=>true
noncomputable def Ec(sc scope:eZ)(t:Str)(pos vpos:Pos):Bool:=decide (sc.names.lookup t=some .local)&&decide (pos.line=vpos.line)&&!(scope.names.any fun(n,k)=>n==t&&(k==.local||k==.cell))
noncomputable def p6(T:Tab)(g:Nat):Expr->Bool
|.Name y _=>decide (T.gl[g]?=some y)&&nN T.sc y&&!(y==("__debug__":Str))
|_=>false
noncomputable def oA(T:Tab):List Nat->List Expr->Bool
|[],es=>es.isEmpty
|g::gs,es=>match es with
 |e::er=>p6 T g e&&oA T gs er
 |_=>false
noncomputable def Jl(T:Tab)(one:Bool)(gs:List Nat)(e:Expr):Bool:=match one with
|true=>match gs with
 |[g]=>p6 T g e
 |_=>false
|false=>match e with
 |.Tuple es _ _=>bD es&&oA T gs es
 |_=>false
noncomputable def fI(k:Nat):Expr->Bool
|.Call f _ _ _=>f.ctorIdx==k
|_=>false
noncomputable def nI:Expr->Bool
|.Call _ [c] _ _=>c.ctorIdx==16&&fI 23 c
|_=>false
noncomputable def aI:Expr->Bool
|.Call _ [_,c] _ _=>c.ctorIdx==23
|_=>false
noncomputable def uI:Expr->Bool
|.Subscript _ r _=>r.ctorIdx==26
|_=>false
noncomputable def gI2:Stmt->Bool
|.AugAssign t _ _ _=>t.ctorIdx==23
|_=>false
noncomputable def cI2:Stmt->Bool
|.Assign (t::_) e _=>t.ctorIdx==23&&e.ctorIdx==8
|_=>false
noncomputable def rI:Stmt->Bool
|.Raise (some e) _ _=>e.ctorIdx==16&&fI 23 e
|_=>false
noncomputable def tI:Stmt->Bool
|.Try _ (.ExceptHandler (some a) _ _ _::_) _ _ _=>a.ctorIdx==23
|_=>false
noncomputable def bI1:List Stmt->Bool
|s::_=>s.ctorIdx==24&&match s with
 |.Expr e _=>e.ctorIdx==16&&fI 23 e
 |_=>false
|_=>false
noncomputable def bI2:List Stmt->Bool
|s::_=>s.ctorIdx==12
|_=>false
noncomputable def WM:List (Str×Int)->List (Option Expr)->List Expr->Bool
|[],ks,vs=>ks.isEmpty&&vs.isEmpty
|p::r,ks,vs=>match ks,vs with
 |some (.Constant (.str x) _ _)::ks,.Constant (.int i) _ _::vs=>decide (x=p.1/\i=p.2)&&WM r ks vs
 |_,_=>false
mutual
noncomputable def cO(T:Tab):CE->Expr->Bool
|.var i,e=>e.ctorIdx==23&&match e with
 |.Name x _=>decide (T.N[i]?=some x)&&NY T.sc x&&!(x==("__debug__":Str))&&!(x==("__classdict__":Str))
 |_=>false
|.con v,e=>e.ctorIdx==19&&match e with
 |.Constant c _ _=>N1 v c
 |_=>false
|.glo g,e=>e.ctorIdx==23&&match e with
 |.Name x _=>decide (T.gl[g]?=some x)&&nN T.sc x&&!(x==("__debug__":Str))
 |_=>false
|.bin op a b,e=>e.ctorIdx==2&&match e with
 |.BinOp l o r _=>decide (op=o)&&cO T a l&&cO T b r
 |_=>false
|.nset a,e=>e.ctorIdx==16&&(fI 23 e&&(nI e&&match e with
 |.Call (.Name x _) [.Call (.Name y _) [l] [] _] [] _=>T.calm&&(decide (x=("len":Str))&&nN T.sc x&&T.bn.contains x&&decide (y=("set":Str))&&nN T.sc y&&T.bn.contains y&&noStar l&&cO T a l)
 |_=>false))
|.neg a,e=>e.ctorIdx==3&&match e with
 |.UnaryOp .USub l _=>cO T a l
 |_=>false
|.not a,e=>e.ctorIdx==3&&match e with
 |.UnaryOp .Not l _=>cO T a l
 |_=>false
|.and a b,e=>e.ctorIdx==0&&match e with
 |.BoolOp .And [x,y] _=>cO T a x&&cO T b y
 |.BoolOp .And (x::y::z::r) pos=>cO T a x&&cO T b (.BoolOp .And (y::z::r) pos)
 |_=>false
|.or a b,e=>e.ctorIdx==0&&match e with
 |.BoolOp .Or [x,y] _=>cO T a x&&cO T b y
 |.BoolOp .Or (x::y::z::r) pos=>cO T a x&&cO T b (.BoolOp .Or (y::z::r) pos)
 |_=>false
|.ite c a b,e=>e.ctorIdx==5&&match e with
 |.IfExp t x y _=>cO T c t&&cO T a x&&cO T b y
 |_=>false
|.cmp op a b,e=>e.ctorIdx==15&&match e with
 |.Compare l [o] [r] _=>decide (op=o)&&!lU o r&&cO T a l&&cO T b r
 |_=>false
|.chain o1 o2 a b c,e=>e.ctorIdx==15&&match e with
 |.Compare l [p1,p2] [m,r] _=>decide (o1=p1)&&decide (o2=p2)&&!DF [p1,p2] [m,r]&&cO T a l&&cO T b m&&cO T c r
 |_=>false
|.call g as,e=>e.ctorIdx==16&&(fI 23 e&&match e with
 |.Call (.Name x _) es [] _=>decide (T.gl[g]?=some x)&&nN T.sc x&&!(x==("__debug__":Str))&&bD es&&lJ T as es
 |_=>false)
|.blt f as,e=>e.ctorIdx==16&&(fI 23 e&&match e with
 |.Call (.Name x _) es [] _=>T.calm&&(decide (x=f.name)&&nN T.sc x&&T.bn.contains x&&bD es&&!es.isEmpty&&lJ T as es)
 |_=>false)
|.isi a t,e=>e.ctorIdx==16&&(fI 23 e&&(aI e&&match e with
 |.Call (.Name x _) [l,.Name y _] [] _=>decide (x=("isinstance":Str))&&nN T.sc x&&T.bn.contains x&&decide (y=t.name)&&decide (t≠.none)&&nN T.sc y&&T.bn.contains y&&noStar l&&cO T a l
 |_=>false))
|.mth m o as,e=>e.ctorIdx==16&&(fI 20 e&&match e with
 |.Call (.Attribute l nm apos) es [] cpos=>decide (nm=m.name)&&uJ l&&(apos.endLine==cpos.line)&&bD es&&decide (es.length<30)&&cO T o l&&lJ T as es
 |_=>false)
|.ix a b,e=>e.ctorIdx==21&&match e with
 |.Subscript l r _=>uK r&&cO T a l&&cO T b r
 |_=>false
|.sl a lo hi,e=>e.ctorIdx==21&&(uI e&&match e with
 |.Subscript l (.Slice x y none _) _=>cO T a l&&EX T lo x&&EX T hi y
 |_=>false)
|.lst as,e=>e.ctorIdx==24&&match e with
 |.List es _=>bD es&&lJ T as es
 |_=>false
|.tup as,e=>e.ctorIdx==25&&match e with
 |.Tuple es _ _=>bD es&&lJ T as es
 |_=>false
|.comp nl fr elt tg src cond,e=>e.ctorIdx==8&&match e with
 |.ListComp l [⟨t,it,ifs,0⟩] sc _=>T.calm&&(qz T.sc T.N sc nl fr&&(EW it&&N2 src t)&&N4 T src it&&zG (Eb T sc nl fr) tg t&&U0 (Eb T sc nl fr) cond ifs&&cO (Eb T sc nl fr) elt l)
 |_=>false
|.isx one gs a,e=>e.ctorIdx==16&&(fI 23 e&&match e with
 |.Call (.Name x _) [l,c] [] _=>decide (x=("isinstance":Str))&&nN T.sc x&&T.bn.contains x&&noStar l&&Jl T one gs c&&cO T a l
 |_=>false)
|.isv g a,e=>e.ctorIdx==16&&(fI 23 e&&(aI e&&match e with
 |.Call (.Name x _) [l,.Name y _] [] _=>decide (x=("isinstance":Str))&&nN T.sc x&&T.bn.contains x&&decide (y=("ValueError":Str))&&nN T.sc y&&T.bn.contains y&&noStar l&&cO T a l&&decide (g<T.gl.length)
 |_=>false))
|.slp a lo hi k,e=>match e with
 |.Subscript l (.Slice x y (some (.Constant c _ _)) _) _=>N1 (.int k) c&&cO T a l&&EX T lo x&&EX T hi y
 |_=>false
|.att g a f,e=>e.ctorIdx==20&&match e with
 |.Attribute l nm _=>decide (nm=f)&&uJ l&&cO T a l&&decide (g<T.gl.length)
 |_=>false
noncomputable def lJ(T:Tab):ia->List Expr->Bool
|.nil,es=>match es with
 |[]=>true
 |_=>false
|.cons a r,es=>match es with
 |e::er=>cO T a e&&lJ T r er
 |_=>false
noncomputable def EX(T:Tab):CO->Option Expr->Bool
|.none,e=>match e with
 |none=>true
 |_=>false
|.some a,e=>match e with
 |some x=>cO T a x
 |_=>false
noncomputable def U0(T:Tab):CO->List Expr->Bool
|.none,es=>match es with
 |[]=>true
 |_=>false
|.some a,es=>match es with
 |[x]=>cO T a x
 |_=>false
noncomputable def zG(T:Tab):CG->Expr->Bool
|.name i,e=>e.ctorIdx==23&&match e with
 |.Name x _=>decide (T.N[i]?=some x)&&NZ T x
 |_=>false
|.tup gs,e=>e.ctorIdx==25&&match e with
 |.Tuple es _ _=>T.calm&&(bD es&&Ed T gs es)
 |_=>false
|.sub o i,e=>e.ctorIdx==21&&match e with
 |.Subscript l r _=>uK r&&cO T o l&&cO T i r
 |_=>false
noncomputable def Ed(T:Tab):oM->List Expr->Bool
|.nil,es=>match es with
 |[]=>true
 |_=>false
|.cons g r,es=>match es with
 |e::er=>zG T g e&&Ed T r er
 |_=>false
noncomputable def N4(T:Tab):CI->Expr->Bool
|.seq a,e=>cO T a e
|.range as,e=>e.ctorIdx==16&&(fI 23 e&&match e with
 |.Call (.Name x _) es [] _=>decide (x=("range":Str))&&nN T.sc x&&T.bn.contains x&&bD es&&!es.isEmpty&&lJ T as es
 |_=>false)
|.zip as,e=>e.ctorIdx==16&&(fI 23 e&&match e with
 |.Call (.Name x _) es [] _=>decide (x=("zip":Str))&&nN T.sc x&&T.bn.contains x&&bD es&&!es.isEmpty&&lJ T as es
 |_=>false)
|.enum a,e=>e.ctorIdx==16&&(fI 23 e&&match e with
 |.Call (.Name x _) [l] [] _=>decide (x=("enumerate":Str))&&nN T.sc x&&T.bn.contains x&&noStar l&&cO T a l
 |_=>false)
end
noncomputable def Jm(T:Tab):CB->List Stmt->Bool
|.call g as,sts=>bI1 sts&&match sts with
 |[.Expr (.Call (.Name x _) es [] _) _]=>decide (T.gl[g]?=some x)&&nN T.sc x&&!(x==("__debug__":Str))&&bD es&&!es.isEmpty&&lJ T as es
 |_=>false
|.ite c a b,sts=>bI2 sts&&match sts with
 |[.If t x y _]=>cO T c t&&Jm T a x&&Jm T b y
 |_=>false
noncomputable def Jo(T:Tab):Tab:={ T with calm:=false }
mutual
noncomputable def Jp(T:Tab):CS->Stmt->Bool
|.expr c,st=>st.ctorIdx==24&&match st with
 |.Expr e _=>qy e&&cO T c e
 |_=>false
|.asg g c,st=>st.ctorIdx==5&&match st with
 |.Assign [t] e _=>(qy e||N3 T.sc t)&&notTuple t&&zG T g t&&cO T c e
 |_=>false
|.aug i c,st=>st.ctorIdx==7&&(gI2 st&&match st with
 |.AugAssign (.Name x _) .Add e _=>decide (T.N[i]?=some x)&&decide (T.sc.names.lookup x=some .local)&&cO T c e
 |_=>false)
|.casg i c,st=>st.ctorIdx==5&&(cI2 st&&match st with
 |.Assign [.Name y py] (.ListComp l gs sc vpos) _=>T.calm&&(decide (T.N[i]?=some y)&&Ec T.sc sc y py vpos&&cO T c (.ListComp l gs sc vpos))
 |_=>false)
|.tasg g c,st=>match st with
 |.Assign [t] e _=>qy e&&notTuple e&&zG T g t&&cO T c e
 |_=>false
|.ret c,st=>st.ctorIdx==3&&match st with
 |.Return (some e) _=>cO T c e
 |_=>false
|.ifs c a b,st=>st.ctorIdx==12&&match st with
 |.If t x y _=>cO T c t&&mU T a x&&mU T b y
 |_=>false
|.whil c b,st=>match st with
 |.While t x [] _=>cO T c t&&mU T b x
 |_=>false
|.forr g src b,st=>st.ctorIdx==9&&match st with
 |.For t it x [] _=>T.calm&&((EW it&&N2 src t)&&N4 T src it&&zG T g t&&mU T b x)
 |_=>false
|.brk,st=>st.ctorIdx==26&&match st with
 |.Break _=>true
 |_=>false
|.cont,st=>st.ctorIdx==27&&match st with
 |.Continue _=>true
 |_=>false
|.never,_=>true
|.rais g as,st=>st.ctorIdx==16&&(rI st&&match st with
 |.Raise (some (.Call (.Name x _) es [] _)) none _=>T.calm&&(decide (T.gl[g]?=some x)&&nN T.sc x&&!(x==("__debug__":Str))&&bD es&&!es.isEmpty&&lJ T as es)
 |_=>false)
|.tri i g b h,st=>st.ctorIdx==17&&(tI st&&match st with
 |.Try body [.ExceptHandler (some (.Name x _)) (some n) (s0::sr) _] [] [] _=>T.calm&&(decide (T.gl[g]?=some x)&&nN T.sc x&&!(x==("__debug__":Str))&&decide (T.N[i]?=some n)&&decide (T.sc.names.lookup n=some .local)&&Jm T b body&&mU (Jo T) h (s0::sr))
 |_=>false)
noncomputable def mU(T:Tab):bV->List Stmt->Bool
|.nil,sts=>match sts with
 |[]=>true
 |_=>false
|.cons s r,sts=>match sts with
 |st::sr=>Jp T s st&&mU T r sr
 |_=>false
|.two s t r,sts=>match sts with
 |st::su::sr=>Jp T s st&&(Jp T t su&&mU T r sr)
 |_=>false
end
structure sX (K:PySem.W.Frag) (C:Addr):Prop extends vY K C where
 ha:PySem.W.findIn K (.ref C) "__class__"=some (some (.builtin "object.__class__"))
 hn:PySem.W.specialIn K (.builtin "object.__class__") "__get__"=some (some (.builtin "getset_descriptor.__get__"))
 htk:PySem.W.takesIn K (.builtin "object.__class__")=some true
def gw(K:PySem.W.Frag)(D:Addr)(Cs:List Addr):Prop:=PySem.W.kitOne K (.type "NoneType") (.ref D)=some false/\∀C∈Cs,sX K C/\PySem.W.kitOne K (.ref C) (.ref D)=some (decide (C=D))
def rO(K:PySem.W.Frag)(Cs:List Addr)(as:List Str):Prop:=PySem.W.kitOne K (.type "NoneType") (.type "ValueError")=some false/\∀C∈Cs,sX K C/\PySem.W.kitOne K (.ref C) (.type "ValueError")=some true/\∀f∈as,iU K C f
def Ef(P:bg)(w:bH)(K:PySem.W.Frag)(mg:Str->Option Value)(base:Heap)(k:Nat)(C:Addr)(fs:List (Str×Nat))(n:Nat):Prop:=
 ∃(fI:Addr) (fd:eW) (ps:List Str),EH K C fI/\eV P w K mg base yK k fI fd ps (vZ C fs ps.length)/\Binds K fd ps []/\ps.length<=1000/\(∀p∈fs,1<=p.2)/\ps.length=n
def GOk(X:Cx)(E:XK)(x:Str):G->Prop
|.val v=>∃u,X.mg x=some u/\RelV v u
|.tup a xs=>X.mg x=some (.ref a)/\CT X.K a true xs
|.fn sp dvs=>∃(k:Nat) (f:Addr) (fd:eW) (ps:List Str) (ds:List Value),eV X.prog X.w X.K X.mg X.base (jH X.prog X.w) k f fd ps sp/\gy k X.A/\X.mg x=some (.ref f)/\PySem.W.keepIn X.K (.ref f)=true/\Binds X.K fd ps ds/\bh dvs ds /\
  vV (jH X.prog X.w) X E
|.cls C fs n=>X.mg x=some (.ref C)/\∃k,gy (k+1) X.A/\Ef X.prog X.w X.K X.mg X.base k C fs n
|.gY D Cs=>X.mg x=some (.ref D)/\gw X.K D Cs
|.nM Cs as=>rO X.K Cs as
|.exb B _=>X.mg x=some (.ref B)/\Au X.K B
|.nop=>True
theorem N5{outer:List Env}{e:Value}{s':ah}(h:jH P w outer H s E0 e s'):False:=by
 obtain⟨_,_,_,_,_,_,_,_,_,_,q⟩:=h;exact q
structure Ok (X:Cx) (T:Tab) (Y:List G) (E:XK):Prop where
 N:X.N=T.N
 nd:X.N.Nodup
 sc:X.env.scope=T.sc
 kind:X.env.scope.kind=.function
 gl:∀(i:Nat) (x:Str) (g:G),T.gl[i]?=some x->Y[i]?=some g->GOk X E x g
 bn:∀x∈T.bn,X.mg x=none
 own:∀x,T.own x=true->X.fn x=true
 calm:T.calm=true->X.calm=true
 po:sf (aA X.prog X.w) X.A X.env X.xe
 room:X.A.units+60<dc
variable{T:Tab}{Y:List G}{sc:eZ}{nl:List Str}{fr:List Nat}
theorem nX{E:XK}(ok:Ok X T Y E)(h:qz T.sc T.N sc nl fr=true)(C:Addr)(Ze:ah)(H:Hp)(ex:List Addr) :
  Ok (ku X (jq X.N nl fr) sc C Ze H ex) (Eb T sc nl fr) Y E0:=by
 unfold qz at h;simp only[bx,decide_eq_true_eq]at h;obtain⟨⟨⟨⟨⟨h1,h2⟩,h3⟩,h4⟩,h5⟩,h6⟩:=h;refine⟨?_,?_,?_,h1,fun i x g hx hg=>?_,ok.bn,fun x z=>z,ok.calm,sJ,ok.room⟩
 ·show jq X.N nl fr=jq T.N nl fr;rw[ok.N]
 ·show(jq X.N nl fr).Nodup;rw[ok.N];exact h6
 ·show k9 sc X.env=CY sc T.sc;rw[<-ok.sc];rfl
 ·have q:=ok.gl i x g hx hg;cases g with
  |val v=>exact q
  |tup a xs=>exact q
  |fn sp dvs=>
   obtain⟨k,f,fd,ps,ds,q1,q2,q3,q4,q5,q6,q7⟩:=q;exact⟨k,f,fd,ps,ds,q1,q2,q3,q4,q5,q6,fun pins O H s e s' I z=>(N5 z).elim⟩
  |_=>exact q
variable{N:List Str}
theorem Le(h:qz sc N scope nl fr=true):tV sc N scope nl fr:=by
 unfold qz at h;simp only[bx,decide_eq_true_eq]at h;obtain⟨⟨⟨⟨⟨h1,h2⟩,h3⟩,h4⟩,h5⟩,h6⟩:=h;refine⟨h1,fun y hy=>of_decide_eq_true (bz.mp h2 y hy),fun x hx=>of_decide_eq_true (bz.mp h3 x hx),fun n hn=>?_,fun i hi=>?_⟩
 ·exact of_decide_eq_true (bz.mp h4 (n,.free) hn) rfl
 ·have q:=bz.mp h5 i hi;revert q;cases N[i]? with
  |none=>intro q;exact absurd q aE
  |some x=>intro q;exact⟨x,rfl,of_decide_eq_true q⟩
variable{o:Expr}
variable{b:Expr}
section
variable{env:Env}
theorem dw(h:noStar e=true):cz (e::es) env=(false,eval e env)::cz es env:=by
 cases e<;>first|rfl|exact absurd (show false=true from h) aE
theorem zH:∀{es:List Expr},bD es=true->cz es env=es.map fun e=>(false,eval e env)
|[],_=>rfl
|e::es,h=>by
 have h':noStar e=true/\bD es=true:=by simpa[bD]using h
 rw[dw h'.1,zH h'.2];rfl
theorem kT(h:bD es=true):(j3 pos (cz es env)).any (·.1)=false:=by
 rw[zH h];unfold j3;rw[cE,GI];rw[pN];intro x _;simp
theorem N6(h:bD es=true)(hl:es.length<30) :
  ((j3 pos (cz es env)).all (fun x=>!x.1)&&(backToKw pos (keywordEach [] env)).all (fun x=>x.1.isSome)&&decide (es.length+([]:List Cn).length+(if([]:List Cn).isEmpty then 0 else 1)<30))=true:=by
 rw[zH h];unfold j3;rw[cE,iK];have e1:(es.all ((fun x:Bool×Sem Value=>!x.1)∘(fun x:Bool×Sem Value=>(x.1,if x.1 then do let v <-x.2;ue pos;pure v else x.2))∘fun e=>(false,eval e env)))=true:=by
  rw[bz];intro x _;rfl
 have e2:decide (es.length+([]:List Cn).length+(if([]:List Cn).isEmpty then 0 else 1)<30)=true:=by
  simpa using hl
 rw[e2,DZ];exact nJ.mpr ⟨e1,rfl⟩
theorem BJ{nm:Str}{whole:Sem Value}(h:uJ o=true):pe o nm env whole=whole:=by
 unfold pe;split
 ·rename_i id p pos;have:(id==("super":Str))=false:=by simpa[uJ]using h
  have h2:(id != ("super":Str))=true:=by simp[bne,this]
  simp only[h2,Gy,if_true]
 ·rfl
theorem Jq(h:uK b=true):HD b:=by
 intro o i;cases b<;>first|rfl|exact absurd (show false=true from h) aE
theorem wj(h:EW e=true):∀x,ju e env x=pure x:=by
 intro x;cases e<;>first|rfl|exact absurd (show false=true from h) aE
theorem AA{t:Option Expr}(h:qy e=true):mJ e t n env=pure false:=by
 cases e<;>first|rfl|exact absurd (show false=true from h) aE
theorem U1(h:NY env.scope x=true):Cq env.scope x:=by
 unfold NY at h;unfold Cq;split at h
 ·exact .inl (by assumption)
 ·exact .inr (.inl (by assumption))
 ·exact .inr (.inr (by assumption))
 ·exact absurd h aE
theorem oB(h:noStar e=true):h_ (e::es) env=(false,oZ e env)::h_ es env:=by
 cases e<;>first|rfl|exact absurd (show false=true from h) aE
theorem uL:∀{es:List Expr},bD es=true->(h_ es env).length=es.length/\(h_ es env).findIdx? (·.1)=none
|[],_=>⟨rfl,rfl⟩
|e::es,h=>by
 have h':noStar e=true/\bD es=true:=by simpa[bD]using h
 obtain⟨a,b⟩:=uL h'.2;rw[oB h'.1];refine⟨by simp[a],?_⟩;rw[List.findIdx?_cons];simp[b]
end
variable{rest:List Expr}
variable{op op':nB}
variable{er:List Expr}
section
variable{X:Cx}{a b c:Expr}{ta tb tc:TE}{pos:Pos}{o:Expr}{to:TE}{es:List Expr}{t:TA}{apos cpos:Pos}{m:Mt}
theorem pe_and'(ha:PE X a ta)(hb:PE X (.BoolOp .And (b::rest) pos) tb):PE X (.BoolOp .And (a::b::rest) pos) (fun O H Q=>ta O H fun x H1=>match x with
  |.bl c=>if c=true then tb O H1 Q else Q (.bl false) H1
  |_=>False):=by
 intro pins s O H Q I h;refine BoolOp_and (aR (ha pins s O H _ I h) fun v s1 ⟨x,H1,I1,r1,q1⟩=>?_);cases x with
 |bl c=>
  cases r1;refine d9 ?_;cases c with
  |true=>exact hb pins s1 O H1 Q I1 q1
  |false=>exact⟨.bl false,H1,I1,rfl,q1⟩
 |_=>exact ak q1
theorem pe_or'(ha:PE X a ta)(hb:PE X (.BoolOp .Or (b::rest) pos) tb):PE X (.BoolOp .Or (a::b::rest) pos) (fun O H Q=>ta O H fun x H1=>match x with
  |.bl c=>if c=true then Q (.bl true) H1 else tb O H1 Q
  |_=>False):=by
 intro pins s O H Q I h;refine BoolOp_or (aR (ha pins s O H _ I h) fun v s1 ⟨x,H1,I1,r1,q1⟩=>?_);cases x with
 |bl c=>
  cases r1;refine d9 ?_;cases c with
  |false=>exact hb pins s1 O H1 Q I1 q1
  |true=>exact⟨.bl true,H1,I1,rfl,q1⟩
 |_=>exact ak q1
theorem pe_not'(ha:PE X a ta):PE X (.UnaryOp .Not a pos) (fun O H Q=>ta O H fun x H1=>iR X.K x H1 fun b=>Q (.bl (!b)) H1):=by
 intro pins s O H Q I h;refine UnaryOp_ (aR (ha pins s O H _ I h) fun v s1 ⟨x,H1,I1,r1,q1⟩=>?_);refine not_of (aR (Rb pins s1 O H1 x v (fun b H2=>Q (.bl (!b)) H2) I1 r1 ?_) fun b s2 ⟨H2,I2,q2⟩=>⟨.bl (!b),H2,I2,rfl,q2⟩);exact q1
theorem pe_neg'(ha:PE X a ta):PE X (.UnaryOp .USub a pos) (fun O H Q=>ta O H fun x H1=>match x with
  |.int i=>Q (.int (-i)) H1
  |_=>False):=by
 intro pins s O H Q I h;refine UnaryOp_ (aR (ha pins s O H _ I h) fun v s1 ⟨x,H1,I1,r1,q1⟩=>?_);cases x with
 |int i=>exact Uw pins s1 O H1 (.int i) v Q I1 r1 ⟨i,rfl,q1⟩
 |_=>exact ak q1
theorem pe_chain'(hu:X.A.units+60<dc)(ha:PE X a ta)(hb:PE X b tb)(hc:PE X c tc)(hm:DF [op,op'] [b,c]=false):PE X (.Compare a [op,op'] [b,c] pos) (fun O H Q=>ta O H fun x H1=>tb O H1 fun y H2=>lY X.K op x y H2 fun z H3=>match z with
  |.bl k=>if k=true then tc O H3 fun u H4=>lY X.K op' y u H4 Q else Q (.bl false) H3
  |_=>False):=by
 intro pins s O H Q I h;refine Compare_chain (aR (ha pins s O H _ I h) fun v s1 ⟨x,H1,I1,r1,q1⟩=>chain_link (aR (hb pins s1 O H1 _ I1 q1) fun u s2 ⟨y,H2,I2,r2,q2⟩=>
  aR (yc hu op pins s2 O H2 x y v u _ I2 r1 r2 q2) fun d s3 ⟨z,H3,I3,r3,q3⟩=>?_)) hm
 cases z with
 |bl k=>
  cases r3;refine d9 ?_;cases k with
  |false=>exact ite_ff ⟨.bl false,H3,I3,rfl,q3⟩
  |true=>exact ite_tt (chain_last (aR (hc pins s3 O H3 _ I3 q3) fun w' s4 ⟨z',H4,I4,r4,q4⟩=>yc hu op' pins s4 O H4 y z' u w' Q I4 r2 r4 q4))
 |_=>exact ak q3
theorem pt_chain'(hu:X.A.units+60<dc)(ha:PE X a ta)(hb:PE X b tb)(hc:PE X c tc)(hm:DF [op,op'] [b,c]=false):PT X (.Compare a [op,op'] [b,c] pos) (fun O H Q=>ta O H fun x H1=>tb O H1 fun y H2=>lY X.K op x y H2 fun z H3=>match z with
  |.bl k=>if k=true then tc O H3 fun u H4=>lY X.K op' y u H4 fun z H5=>match z with
   |.bl k=>Q k H5
   |_=>False
   else Q false H3
  |_=>False):=by
 intro pins s O H Q I h;refine isTrue_chain (aR (ha pins s O H _ I h) fun v s1 ⟨x,H1,I1,r1,q1⟩=>test_link (aR (hb pins s1 O H1 _ I1 q1) fun u s2 ⟨y,H2,I2,r2,q2⟩=>
  aR (yc hu op pins s2 O H2 x y v u _ I2 r1 r2 q2) fun d s3 ⟨z,H3,I3,r3,q3⟩=>?_)) hm
 cases z with
 |bl k=>
  cases r3;refine d9 ?_;cases k with
  |false=>exact ite_ff ⟨H3,I3,q3⟩
  |true=>
   refine ite_tt (test_last (aR (hc pins s3 O H3 _ I3 q3) fun w' s4 ⟨z',H4,I4,r4,q4⟩=>aR (yc hu op' pins s4 O H4 y z' u w' _ I4 r2 r4 q4) fun d' s5 ⟨z2,H5,I5,r5,q5⟩=>?_));cases z2 with
   |bl k2=>
    cases r5;exact d9 ⟨H5,I5,q5⟩
   |_=>exact ak q5
 |_=>exact ak q3
theorem pt_cmp'(hu:X.A.units+60<dc)(ha:PE X a ta)(hb:PE X b tb)(hm:lU op b=false):PT X (.Compare a [op] [b] pos) (fun O H Q=>ta O H fun x H1=>tb O H1 fun y H2=>lY X.K op x y H2 fun z H3=>match z with
  |.bl k=>Q k H3
  |_=>False):=by
 intro pins s O H Q I h;refine wpAny_isTrue_Compare1 (aR (ha pins s O H _ I h) fun v s1 ⟨x,H1,I1,r1,q1⟩=>aR (hb pins s1 O H1 _ I1 q1) fun u s2 ⟨y,H2,I2,r2,q2⟩=>aR (yc hu op pins s2 O H2 x y v u _ I2 r1 r2 q2) fun d s3 ⟨z,H3,I3,r3,q3⟩=>?_) hm;cases z with
 |bl k=>
  cases r3;exact d9 ⟨H3,I3,q3⟩
 |_=>exact ak q3
theorem pt_val'(ha:PE X a ta)(he:∀whole,q9 a X.env whole=(do let v <-whole;ue a.pos;mK [v] (A8 v))):PT X a (fun O H Q=>ta O H fun x H1=>iR X.K x H1 fun b=>Q b H1):=by
 intro pins s O H Q I h;exact isTrue_plain (aR (ha pins s O H _ I h) fun v s1 ⟨x,H1,I1,r1,q1⟩=>Rb pins s1 O H1 x v Q I1 r1 q1) (he _)
theorem U3(hu:X.A.units+60<dc)(ho:PE X o to)(ha:PA X (e::er) t)(hb:uJ o=true)(hl:(apos.endLine==cpos.line)=true)(hs:bD (e::er)=true)(hf:(e::er).length<30) :
  PE X (.Call (.Attribute o m.name apos) (e::er) [] cpos) (fun O H Q=>to O H fun x H1=>rM m x H1/\t O H1 fun vs H2=>uD X.K m x vs H2 Q):=by
 intro pins s O H Q I h;refine wpAny_Call_method_late (BJ hb) (N6 hs hf) hl rfl (aR (ho pins s O H _ I h) fun v s1 ⟨x,H1,I1,r1,hr,q1⟩=>?_);obtain⟨h1,h2⟩:=HJ I1 r1 hr;have fx:=EU m x H1 hr;refine⟨Ea m x,Jj m x,fx.pa,fx.slot,fx.ty,h1,h2,?_⟩;have run:=aR (ha cpos pins s1 O H1 _ I1 q1) fun us s2 ⟨vs,H2,I2,r2,q2⟩=>HK hu I2 r1 r2 q2;have hs':noStar e=true/\bD er=true:=by simpa[bD]using hs
 rw[dw hs'.1]at run ⊢;exact tQ (by show(false||(j3 cpos (cz er X.env)).any (·.1))=false;rw[kT hs'.2]<;>rfl) (Calls.evalArgs_plain run)
theorem Sq(hu:X.A.units+60<dc)(ho:PE X o to)(hb:uJ o=true)(hl:(apos.endLine==cpos.line)=true) :
  PE X (.Call (.Attribute o m.name apos) [] [] cpos) (fun O H Q=>to O H fun x H1=>rM m x H1/\uD X.K m x [] H1 Q):=by
 intro pins s O H Q I h;refine wpAny_Call_method0_late (BJ hb) hl (aR (ho pins s O H _ I h) fun v s1 ⟨x,H1,I1,r1,hr,q1⟩=>?_);obtain⟨h1,h2⟩:=HJ I1 r1 hr;have fx:=EU m x H1 hr;exact⟨Ea m x,Jj m x,fx.pa,fx.slot,fx.ty,h1,h2,tQ rfl (PySem.evalArgs_none (HK (us:=[]) hu I1 r1 .nil q1))⟩
theorem U4{ty:Ty}(hg:Gl X x)(hx:x="isinstance")(hm:X.mg x=none)(hgy:Gl X y)(hy:y=ty.name)(hty:ty≠.none)(hmy:X.mg y=none)(ha:PE X a ta)(hs:noStar a=true) :
  PE X (.Call (.Name x p) [a,.Name y py] [] pos) (fun O H Q=>ta O H fun v H1=>v7 X.K ty v H1 fun b=>Q (.bl b) H1):=by
 subst hx hy;intro pins s O H Q I h;refine dh (kj I hg hm sL ?_);have hst:cz [a,.Name ty.name py] X.env=[(false,eval a X.env),(false,eval (.Name ty.name py) X.env)]:=by rw[dw hs];rfl
 refine eF ?_ (by rw[hst];rfl) rfl;rw[hst];show az _ _ (qG ((false,eval a X.env)::[(false,eval (.Name ty.name py) X.env)])) _ _ s;refine dg (aR (ha pins s O H _ I h) fun u s1 ⟨v,H1,I1,r1,q1⟩=>?_);have hn:ty.name≠("__name__":Str):=by cases ty<;>decide +kernel
 have hd:(ty.name==("__debug__":Str))=false:=by cases ty<;>decide +kernel
 refine dg (kj I1 hgy hmy (Ty.boot ty hty) (fZ ?_) hn hd);refine aR (UY I1 r1 q1 hty) fun w s2 ⟨z,H2,I2,r2,e,b,ez,qb⟩=>?_;subst e ez;exact⟨.bl b,_,I2,r2,qb⟩
theorem Bf.Ss(f:Bf):(∃id,f.val=.builtin id)\/∃T,f.val=.type T:=by
 cases f<;>first|exact .inl ⟨_,rfl⟩|exact .inr ⟨_,rfl⟩
theorem U5{f:Bf}(hc:X.calm=true)(hu:X.A.units+60<dc)(hg:Gl X x)(hx:x=f.name)(hm:X.mg x=none)(ha:PA X (e::er) t)(hs:bD (e::er)=true):PE X (.Call (.Name x p) (e::er) [] pos) (fun O H Q=>t O H fun vs H1=>zA X.K f vs H1 Q):=by
 subst hx;have hs':noStar e=true/\bD er=true:=by simpa[bD]using hs
 intro pins s O H Q I h;refine dh (kj I hg hm f.boot ?_ f.ok.1 f.ok.2);have run:=aR (ha pos pins s O H _ I h) fun us s1 ⟨vs,H1,I1,r1,q1⟩=>WK hc hu f pins s1 O H1 vs us Q I1 r1 q1;rcases f.Ss with⟨id,ev⟩|⟨T,ev⟩
 ·rw[ev]at run ⊢;exact eF run (dw hs'.1) (kT hs'.2)
 ·rw[ev]at run ⊢;exact e_ run (dw hs'.1) (kT hs'.2)
end
variable{g:Nat}
variable{gs:List Nat}
variable{one:Bool}
section
variable{X:Cx}{T:Tab}{Y:List G}{E:XK}{a:Expr}{ta:TE}{pos:Pos}
theorem Ok.vS(ok:Ok X T Y E):Ok X.vS T Y E0:=by
 refine⟨ok.N,ok.nd,ok.sc,ok.kind,fun i x g hx hg=>?_,ok.bn,ok.own,ok.calm,sJ,ok.room⟩;have q:=ok.gl i x g hx hg;cases g with
 |fn sp dvs=>
  obtain⟨k,f,fd,ps,ds,q1,q2,q3,q4,q5,q6,q7⟩:=q;exact⟨k,f,fd,ps,ds,q1,q2,q3,q4,q5,q6,fun pins O H s e s' I z=>(N5 z).elim⟩
 |_=>exact q
theorem Ok.hand(ok:Ok X T Y E)(v:Value):Ok (X.hand v) (Jo T) (Y.map G.hand) E0:=by
 refine⟨ok.N,ok.nd,ok.sc,ok.kind,fun i x g hx hg=>?_,ok.bn,ok.own,(fun z=>nomatch z),sJ,ok.room⟩;rw[bL]at hg;cases e:Y[i]? with
 |none=>rw[e]at hg;cases hg
 |some g0=>
  rw[e]at hg;cases hg;have q:=ok.gl i x g0 hx e;cases g0 with
  |fn sp dvs=>exact dS
  |cls C fs n=>exact dS
  |_=>exact q
noncomputable def rH:Option Addr->Value
|none=>.type "NoneType"
|some C=>.ref C
theorem AB{c:Option Addr}:∀(gs:List Nat) (b:Bool),(∀g∈gs,∀(D:Addr) (Cs:List Addr),Y[g]?=some (G.gY D Cs)->gw K D Cs)->sW Y gs c=some b->∀Ds,yb Y gs Ds->PySem.W.kitAny K (rH c) (Ds.map a8)=some b
|[],b,hK,h,Ds,hD=>by
 cases h;cases(show Ds=[]from hD);rfl
|g::gs,b,hK,h,Ds,hD=>by
 obtain⟨D,r,Cs,rfl,hg,hr⟩:=hD;have hK':=fun g' (hg':g'∈gs)=>hK g' (ai _ hg');unfold sW at h;rw[hg]at h;obtain⟨k1,k2⟩:=hK g aq D Cs hg;show(match PySem.W.kitOne K (rH c) (.ref D)with|some true=>some true|some false=>PySem.W.kitAny K (rH c) (r.map a8)|none=>none)=some b;cases c with
 |none=>
  rw[show PySem.W.kitOne K (rH none) (.ref D)=some false from k1];exact AB gs b hK' h r hr
 |some C=>
  dsimp only at h;split at h
  ·rename_i hC;rw[show PySem.W.kitOne K (rH (some C)) (.ref D)=some (decide (C=D))from(k2 C hC).2];split at h
   ·rename_i hD;rw[decide_eq_true hD];exact h
   ·rename_i hD;rw[decide_eq_false hD];exact AB gs b hK' h r hr
  ·cases h
theorem HM{x:V}{u cv:Value}{Q:Bool->Prop}(I:L2.Inv X pins O H s)(rx:RelV x u)(h:EL Y gs x H Q)(hK:∀g∈gs,∀(D:Addr) (Cs:List Addr),Y[g]?=some (G.gY D Cs)->gw X.K D Cs)
  (run:∀(c:Option Addr) (b:Bool) (Hx:Heap->Prop),PySem.W.KitX X.K u (rH c) Hx->Hx s.heap->(u=.builtin "__main__.__loader__#opaque"->False)->sW Y gs c=some b->Q b->
   az (aA X.prog X.w) X.A (call (.builtin "isinstance") [u,cv]) (EP X pins O fun y H'=>H'=H/\∃b,y=.bl b/\Q b) X.xe s) :
  az (aA X.prog X.w) X.A (call (.builtin "isinstance") [u,cv]) (EP X pins O fun y H'=>H'=H/\∃b,y=.bl b/\Q b) X.xe s:=by
 obtain⟨hne,_,_,h⟩:=h;cases x with
 |non=>
  cases(show u=c_ from rx);obtain⟨b,h1,h2⟩:=h;exact run none b _ PySem.W.kitx_none dS (fun z=>nomatch z) h1 h2
 |ref e=>
  cases(show u=a8 e from rx);obtain⟨m,C,d,fs,he,hd,b,h1,h2⟩:=h;obtain⟨oe,vs,g1,g2,g3,g4,g5⟩:=xZ I.hok he;obtain⟨mA,n1,_⟩:=D7 I.hok hd;obtain⟨od,ho,_⟩:=oJ n1;have J:PySem.W.InstAt s.heap e oe C (some od):=⟨g1,g2,by unfold PySem.W.notCls;rw[g4],by rw[g3];exact ho⟩;have xk:sX X.K C:=by
   cases gs with
   |nil=>exact absurd rfl hne
   |cons g gs=>
    unfold sW at h1;split at h1
    ·rename_i D Cs hg;split at h1
     ·rename_i z;cases z
     ·rename_i C' z;cases z;split at h1
      ·rename_i hC;exact((hK g aq D Cs hg).2 C hC).1
      ·cases h1
    ·cases h1
  exact run (some C) b _ (UN xk.tovY xk.ha xk.hn xk.htk) J (fun z=>nomatch z) h1 h2
 |_=>exact h.elim
theorem Ok.gY(ok:Ok X T Y E):∀{gs:List Nat}{es:List Expr},oA T gs es=true->∀g∈gs,∀(D:Addr) (Cs:List Addr),Y[g]?=some (G.gY D Cs)->gw X.K D Cs
|[],es,h,g,hg=>absurd hg aW
|g::gs,[],h,_,_=>absurd (show false=true from h) aE
|g::gs,e::er,h,g',hg=>by
 have h':p6 T g e=true/\oA T gs er=true:=by simpa[oA]using h
 rcases aJ.mp hg with rfl|hg
 ·intro D Cs e1;obtain⟨h1,_⟩:=h';unfold p6 at h1;split at h1
  ·simp only[bx,decide_eq_true_eq]at h1;exact(ok.gl g' _ _ h1.1.1 e1).2
  ·exact absurd h1 aE
 ·exact ok.gY h'.2 g' hg
theorem Rf(ok:Ok X T Y E){D:Addr}{Cs:List Addr}(h:p6 T g e=true)(hg:Y[g]?=some (G.gY D Cs)):∃y p,e=.Name y p/\Gl X y/\X.mg y=some (.ref D)/\(y==("__debug__":Str))=false:=by
 unfold p6 at h;split at h
 ·rename_i y p;simp only[bx,decide_eq_true_eq]at h;refine⟨y,p,rfl,?_,(ok.gl g y _ h.1.1 hg).1,by simpa using h.2⟩;have h2:=of_decide_eq_true h.1.2;rw[<-ok.sc]at h2;exact h2
 ·exact absurd h aE
theorem Lf(ok:Ok X T Y E):∀(gs:List Nat) (es:List Expr),oA T gs es=true->PA X es (fun _ H Q=>∃Ds,yb Y gs Ds/\Q (Ds.map V.ref) H)
|[],es,h=>by
 cases es with
 |nil=>
  intro pos pins s O H Q I q;obtain⟨Ds,e,q⟩:=q;cases(show Ds=[]from e);exact Et pos pins s O H Q I q
 |cons e er=>exact absurd (show false=true from h) aE
|g::gs,[],h=>absurd (show false=true from h) aE
|g::gs,e::er,h=>by
 have h':p6 T g e=true/\oA T gs er=true:=by simpa[oA]using h
 intro pos pins s O H Q I q;obtain⟨_,⟨D,r,Cs,rfl,hg,hr⟩,q⟩:=q;obtain⟨y,p,rfl,z1,z2,z3⟩:=Rf ok h'.1 hg;exact Bv (Bu (v:=.ref D) z1 z2 rfl z3) (Lf ok gs er h'.2) rfl pos pins s O H Q I ⟨r,hr,q⟩
theorem rJ:∀(Ds:List Addr) (us:List Value),bh (Ds.map V.ref) us->us=Ds.map a8
|[],us,h=>by cases h;rfl
|D::Ds,us,h=>by
 cases h with
 |cons h1 h2=>rw[rJ Ds _ h2,show _=a8 D from h1];rfl
theorem U6(ok:Ok X T Y E)(hg:Gl X x)(hx:x="isinstance")(hm:X.mg x=none)(ha:PE X a ta)(hs:noStar a=true)(hc:Jl T one gs c=true) :
  PE X (.Call (.Name x p) [a,c] [] pos) (fun O H Q=>ta O H fun v H1=>EL Y gs v H1 fun b=>Q (.bl b) H1):=by
 subst hx;intro pins s O H Q I h;refine dh (kj I hg hm sL ?_);have hn:noStar c=true:=by
  cases one with
  |true=>cases gs with
   |nil=>exact absurd (show false=true from hc) aE
   |cons g gs=>cases gs with
    |nil=>cases c<;>first|rfl|exact absurd (show false=true from hc) aE
    |cons g' gs=>exact absurd (show false=true from hc) aE
  |false=>cases c<;>first|rfl|exact absurd (show false=true from hc) aE
 have hst:cz [a,c] X.env=[(false,eval a X.env),(false,eval c X.env)]:=by rw[dw hs,dw hn];rfl
 refine eF ?_ (dw hs) (kT (by simp[bD,hn]));rw[hst];show az _ _ (qG ((false,eval a X.env)::[(false,if false=true then _ else eval c X.env)])) _ _ s;refine dg (aR (ha pins s O H _ I h) fun u s1 ⟨v,H1,I1,r1,q1⟩=>?_);have fin:∀{s2:ah}{cv:Value},L2.Inv X pins O H1 s2->(az (aA X.prog X.w) X.A (call (.builtin "isinstance") [u,cv]) (EP X pins O fun y H'=>H'=H1/\∃b,y=.bl b/\Q (.bl b) H1) X.xe s2)->az (aA X.prog X.w) X.A (call (.builtin "isinstance") [u,cv]) (EP X pins O Q) X.xe s2:=
  fun I2 z=>aR z fun w s3 ⟨y,H3,I3,r3,e3,b,e4,qb⟩=>by subst e3 e4;exact⟨.bl b,_,I3,r3,qb⟩
 obtain⟨hne,hl,⟨Ds,hD⟩,_⟩:=id q1;cases one with
 |true=>
  cases gs with
  |nil=>exact absurd rfl hne
  |cons g gs=>cases gs with
   |cons g' gs=>exact absurd (show false=true from hc) aE
   |nil=>
    obtain⟨D,r,Cs,rfl,e1,hr⟩:=hD;obtain⟨y,py,rfl,z1,z2,z3⟩:=Rf ok (show p6 T g c=true from hc) e1;refine dg (nR I1 z1 z2 (fZ ?_) z3);have hK:=ok.gY (gs:=[g]) (es:=[.Name y py]) (by simpa[oA]using(show p6 T g (.Name y py)=true from hc));refine fin I1 (HM I1 r1 q1 hK fun c b Hx Z p hx e2 hq=>?_);have k:=AB [g] b hK e2 [D] ⟨D,[],Cs,rfl,e1,rfl⟩;have k1:PySem.W.kitOne X.K (rH c) (.ref D)=some b:=by
     have k:(match PySem.W.kitOne X.K (rH c) (.ref D)with|some true=>some true|some false=>some false|none=>none)=some b:=k;cases z:PySem.W.kitOne X.K (rH c) (.ref D)with
     |none=>rw[z]at k;cases k
     |some b'=>rw[z]at k;cases b'<;>exact k
    exact PySem.W.kia_one Z I1.fK p k1 hx fun tk=>⟨.bl b,H1,I1.tok _,rfl,rfl,b,rfl,hq⟩
 |false=>
  cases c<;>first|exact absurd (show false=true from hc) aE|skip
  rename_i es k tpos;have hc':bD es=true/\oA T gs es=true:=by simpa[Jl]using hc
  have hlD:∀{Ds:List Addr}{gs:List Nat},yb Y gs Ds->Ds.length=gs.length:=by
   intro Ds gs;induction gs generalizing Ds with
   |nil=>intro z;cases(show Ds=[]from z);rfl
   |cons g gs ih=>rintro⟨D,r,Cs,rfl,_,z⟩;simp[ih z]
  refine dg (vL (x1:=k) (aR (Lf ok gs es hc'.2 tpos pins s1 O H1 (fun xs H2=>H2=H1/\xs=Ds.map V.ref) I1 ⟨Ds,hD,rfl,rfl⟩) fun us s2 ⟨xs,H2,I2,r,eH,ex⟩=>?_));subst eH ex;have eu:=rJ Ds us r;subst eu;refine⟨by rw[aH,hlD hD,dM];omega,fZ ?_⟩;have I3:L2.Inv X pins O H2 { s2 with heap:=s2.heap.push (yM (Ds.map a8)) }:=I2.kept (t':=s2.toks) fun b u q=>aF _ q;have hK:=ok.gY hc'.2;refine fin I3 (HM I3 r1 q1 hK fun c b Hx Z p hx e2 hq=>?_);exact PySem.W.kia_tup Z I3.fK p (bu _ rfl) (AB gs b hK e2 Ds hD) hx fun tk=>⟨.bl b,H2,I3.tok _,rfl,rfl,b,rfl,hq⟩
theorem Su:kI ("ValueError":Str)=some (.type "ValueError"):=by decide +kernel
theorem U7(hK:∀Cs as,Y[g]?=some (G.nM Cs as)->rO X.K Cs as)(hg:Gl X x)(hx:x="isinstance")(hm:X.mg x=none)(hgy:Gl X y)(hy:y="ValueError")(hmy:X.mg y=none)(ha:PE X a ta)(hs:noStar a=true) :
  PE X (.Call (.Name x p) [a,.Name y py] [] pos) (fun O H Q=>ta O H fun v H1=>BE Y g v H1 fun b=>Q (.bl b) H1):=by
 subst hx hy;intro pins s O H Q I h;refine dh (kj I hg hm sL ?_);have hst:cz [a,.Name ("ValueError":Str) py] X.env=[(false,eval a X.env),(false,eval (.Name ("ValueError":Str) py) X.env)]:=by rw[dw hs];rfl
 refine eF ?_ (by rw[hst];rfl) rfl;rw[hst];show az _ _ (qG ((false,eval a X.env)::[(false,eval (.Name ("ValueError":Str) py) X.env)])) _ _ s;refine dg (aR (ha pins s O H _ I h) fun u s1 ⟨v,H1,I1,r1,q1⟩=>?_);refine dg (kj I1 hgy hmy Su (fZ ?_));unfold BE at q1;split at q1
 ·rename_i Cs as e1;obtain⟨k1,k2⟩:=hK Cs as e1;split at q1
  ·cases(show u=c_ from r1);exact PySem.W.kia_one PySem.W.kitx_none I1.fK dS k1 (fun z=>nomatch z) fun tk=>⟨.bl false,H1,I1.tok _,rfl,q1⟩
  ·rename_i e;cases(show u=a8 e from r1);obtain⟨m,C,d,fs,he,hd,hC,q⟩:=q1;obtain⟨oe,vs,g1,g2,g3,g4,g5⟩:=xZ I1.hok he;obtain⟨mA,n1,_⟩:=D7 I1.hok hd;obtain⟨od,ho,_⟩:=oJ n1;have J:PySem.W.InstAt s1.heap e oe C (some od):=⟨g1,g2,by unfold PySem.W.notCls;rw[g4],by rw[g3];exact ho⟩;have xk:=(k2 C hC).1;exact PySem.W.kia_one (UN xk.tovY xk.ha xk.hn xk.htk) I1.fK J (k2 C hC).2.1 (fun z=>nomatch z) fun tk=>⟨.bl true,H1,I1.tok _,rfl,q⟩
  ·exact q1.elim
 ·exact q1.elim
theorem U8{f:Str}(hK:∀Cs as,Y[g]?=some (G.nM Cs as)->rO X.K Cs as)(ha:PE X a ta)(hb:uJ a=true):PE X (.Attribute a f pos) (fun O H Q=>ta O H fun v H1=>EM Y g f v H1 Q):=by
 intro pins s O H Q I h;refine HA (BJ hb) (aR (ha pins s O H _ I h) fun u s1 ⟨v,H1,I1,r1,q1⟩=>?_);unfold EM at q1;split at q1
 ·rename_i Cs as e1;split at q1
  ·rename_i e;cases(show u=a8 e from r1);obtain⟨m,C,d,fs,he,hd,⟨hC,hf⟩,v,l,q⟩:=q1;have k:=(hK Cs as e1).2 C hC;exact Sb I1 he hd k.1.tovY (k.2.2 f hf) l fun u' s2 I2 ru=>⟨v,H1,I2,ru,q⟩
  ·exact q1.elim
 ·exact q1.elim
end
theorem range_getD(d:α)(ss:List α):(bY ss.length).map (fun i=>ss.getD i d)=ss:=by
 apply List.ext_getElem
 ·simp
 ·intro i h1 h2;simp[dX,h2]
theorem CZ(ss:List Str):sR (fun i=>ss.getD i ⟨#[]⟩) ss.length=mS ss:=by
 unfold sR mS;rw[range_getD]
theorem yO:∀{ss:List Str}{its:List Value},bh (ss.map V.str) its->∀(i:Nat) (v:Value),its[i]?=some v->∃t,v=.str (ss.getD i ⟨#[]⟩) t
|[],_,.nil,i,v,h=>by simp at h
|s::ss,_,.cons r q,0,v,h=>by
 obtain⟨t,e⟩:=r;exact⟨t,by rw[List.getElem?_cons_zero]at h;rw[<-cH h,e];rfl⟩
|s::ss,_,.cons r q,i+1,v,h=>by
 rw[lu]at h;obtain⟨t,e⟩:=yO q i v h;exact⟨t,by rw[e];rfl⟩
section
variable{X:Cx}
theorem Sv{p1 p2 p3:Pos}(hc:X.calm=true)(hg1:Gl X "len")(hm1:X.mg "len"=none)(hg2:Gl X "set")(hm2:X.mg "set"=none)(he:PE X e te)(hs:noStar e=true) :
  PE X (.Call (.Name "len" p1) [.Call (.Name "set" p2) [e] [] p3] [] pos) (fun O H Q=>te O H fun x H1=>Ra x H1 Q):=by
 intro pins s O H Q I h;refine dh (kj I hg1 hm1 (Bf.boot .len) ?_ (Bf.ok .len).1 (Bf.ok .len).2);refine eF ?_ rfl rfl;show az _ _ (qG ((false,eval (.Call (.Name "set" p2) [e] [] p3) X.env)::j3 pos (cz [] X.env))) _ _ s;refine dg (dh (kj I hg2 hm2 (u:=.type "set") (by decide +kernel) ?_ (by decide) (by decide)));refine e_ ?_ (dw hs) rfl;rw[dw hs];show az _ _ (qG ((false,eval e X.env)::j3 p3 (cz [] X.env))) _ _ s;refine dg (aR (he pins s O H _ I h) fun u s1 ⟨x,H1,I1,r1,b,ss,ex,hx,hl,q⟩=>?_);refine fZ ?_;subst ex;cases r1;obtain⟨its,r,p,_⟩:=I1.list (Rd.o6 hx);have hlen:its.length=ss.length:=by rw[<-r.length,aH]
 have hsz:its.toArray.size=ss.length:=by rw[aQ,hlen]
 refine DH (strKind X.prog X.w) (fun i=>ss.getD i ⟨#[]⟩) (I1.ok.hd hc) (PlainL.is p) (fun i v hv=>?_) (by rw[hsz];unfold sD;omega) fun h' tk hS keep=>?_
 ·obtain⟨t,rfl⟩:=yO r i v (by simpa using hv);exact⟨strKind_is _ _ _ _,rfl⟩
 ·refine fZ ?_;have hS:h'.SetOf (strKind X.prog X.w) s1.heap.objs.size _ (sR (fun i=>ss.getD i ⟨#[]⟩) its.toArray.size).length:=hS;rw[hsz,CZ]at hS;obtain⟨o,es,ep,t,ho,hex,hd,hel,hmem,hb,hf,hn⟩:=hS;refine call_len_set ho hex hd hf (by rw[hn];have:(mS ss).length<=ss.length:=(by rw[<-CZ];exact BA _ _);omega) ⟨.int _,H1,(I1.kept (t':=tk) fun b u e=>keep b u (aP e) e).tok _,⟨_,rfl⟩,?_⟩;rw[hn];exact q
end
theorem zJ:∀(xs ys:List V) (i:Nat) (it:Item),(sV xs ys)[i]?=some it->∃x y,xs[i]?=some x/\ys[i]?=some y/\it=.tup [x,y]
|x::xs,y::ys,0,it,h=>by cases h;exact⟨x,y,rfl,rfl,rfl⟩
|x::xs,y::ys,i+1,it,h=>by
 have h:(sV xs ys)[i]?=some it:=h;obtain⟨a,b,h1,h2,h3⟩:=zJ xs ys i it h;exact⟨a,b,h1,h2,h3⟩
|[],ys,i,it,h=>by cases ys<;>cases h
|_::_,[],i,it,h=>by cases h
theorem EY:∀(xs ys:List V),(sV xs ys).length=min xs.length ys.length
|x::xs,y::ys=>by
 show(sV xs ys).length+1=min (xs.length+1) (ys.length+1);rw[EY xs ys];omega
|[],ys=>by cases ys<;>simp[sV]
|_::_,[]=>by simp[sV]
noncomputable def U9(a b:Addr):It:=
 ⟨fun i H=>∃xs ys x y,Rd H a (.lst xs)/\Rd H b (.lst ys)/\xs[i]?=some x/\ys[i]?=some y,
fun i H v H'=>∃p x y,H p=none/\v=.ref p/\H'=upd H p (.tup [x,y])/\(∀xs,Rd H a (.lst xs)->xs[i]?=some x)/\∀ys,Rd H b (.lst ys)->ys[i]?=some y,
fun i H=>∃xs ys,Rd H a (.lst xs)/\Rd H b (.lst ys)/\(xs.length<=i\/ys.length<=i)⟩
theorem N7{b:Addr}{ys:List V}:nU (U9 a b) (fun H=>Rd H a (.lst xs)/\Rd H b (.lst ys)) (sV xs ys) where
 go:=fun i H it ok hi=>by
  obtain⟨x,y,h1,h2,_⟩:=zJ xs ys i it hi;exact⟨xs,ys,x,y,ok.1,ok.2,h1,h2⟩
 yld:=fun i H it x H' ok hi hy k hk=>by
  obtain⟨x,y,h1,h2,rfl⟩:=zJ xs ys i it hi;obtain⟨p,u,v,hp,rfl,rfl,k1,k2⟩:=hy;have e1:=k1 xs ok.1;have e2:=k2 ys ok.2;rw[h1]at e1;rw[h2]at e2;cases e1;cases e2;exact hk p hp
 stop:=fun i H ok hi=>⟨xs,ys,ok.1,ok.2,by rw[EY]at hi;omega⟩
def WN(a b z t1 t2 i1 i2:Addr)(i:Nat)(h:Heap):Prop:=IsZip h z t1 t2 .none/\IsPair h t1 (.ref i1) (.ref i2)/\(∃u v,IsPair h t2 u v)/\h.IsListIter i1 a i/\h.IsListIter i2 b i
theorem N8{x1}(a b z t1 t2 i1 i2:Addr)(D:ZipApart z t1 t2 i1 i2 a b):Turn P w K (.Tuple elts x1 pos) (U9 a b) [z,t1,t2,i1,i2] z (WN a b z t1 t2 i1 i2) where
 mem:=by simp
 obj:=fun i h st c hc=>by
  obtain⟨s1,s2,⟨u,v,s3⟩,s4,s5⟩:=st;have hc:c=z\/c=t1\/c=t2\/c=i1\/c=i2:=by simpa using hc
  rcases hc with rfl|rfl|rfl|rfl|rfl
  ·exact⟨_,s1,fun v z=>by cases z⟩
  ·exact⟨_,s2,fun v z=>by cases z⟩
  ·exact⟨_,s3,fun v z=>by cases z⟩
  ·obtain⟨o,e,c,d⟩:=s4;exact⟨o,e,fun v z=>by rw[d]at z;cases z⟩
  ·obtain⟨o,e,c,d⟩:=s5;exact⟨o,e,fun v z=>by rw[d]at z;cases z⟩
 keep:=fun i h h' st k=>by
  obtain⟨s1,s2,⟨u,v,s3⟩,s4,s5⟩:=st;exact⟨k z (by simp) _ s1,k t1 (by simp) _ s2,⟨u,v,k t2 (by simp) _ s3⟩,s4.at fun o q=>k i1 (by simp) o q,s5.at fun o q=>k i2 (by simp) o q⟩
 item:=by
  intro X hP hw hK hc i pins s O H E I hf st hg;subst hP hw hK;obtain⟨s1,s2,⟨u0,v0,s3⟩,s4,s5⟩:=st;obtain⟨xs,ys,x,y,hq,hr,hx,hy⟩:=hg;obtain⟨its,rv,p,hz⟩:=I.list (.inl hq:gf X.K H a xs);obtain⟨its',rv',p',hz'⟩:=I.list (.inl hr:gf X.K H b ys);obtain⟨u,hu,ru⟩:=rv.get hx;obtain⟨v,hv,rw'⟩:=rv'.get hy;refine wpAny_pyNext_zip_item D s1 s2 s3 s4 s5 p.isList p'.isList (x:=u) (y:=v) (by simpa using hu) (by simpa using hv) fun h1 hz1 ho1 hi1 hi2 hn1 hsz hk1=>?_;refine⟨_,rfl,wpAny_letOwnedTupleGo_zip (s:={ s with heap:=h1 }) hz1 fun h2 hz2 hs2=>?_⟩;have hs2:kJ z h1 h2:=hs2;have lee:z<s.heap.objs.size:=aP s1;have ne_e:s.heap.objs.size≠z:=ny lee;have ht2:h2.get? s.heap.objs.size=some { cls:=.type "tuple",data:=.seq #[u,v] }:=(hs2.2 _ ne_e).trans hn1;have hk2:∀c o,c∉[z,t1,t2,i1,i2]->s.heap.get? c=some o->h2.get? c=some o:=fun c o hc q=>by
   have hc:c≠z/\c≠t1/\c≠t2/\c≠i1/\c≠i2:=by simpa using hc
   exact(hs2.2 c hc.1).trans (hk1 c o hc.1 hc.2.2.1 hc.2.2.2.1 hc.2.2.2.2 q)
  have hn:H s.heap.objs.size=none:=I.hok.fresh (aM _);have hfr:∀c∈[z,t1,t2,i1,i2],H c=none:=fun c hc=>(hf c hc).1;have hok2:eY X.prog X.w (upd H s.heap.objs.size (.tup [x,y])) h2:=by
   have h0:eY X.prog X.w H h2:=p5 (X:=X) (pins:=pins) I.hok hfr hk2;intro c o q;by_cases hb:c=s.heap.objs.size
   ·subst hb;rw[bO]at q;cases q;refine⟨by show(2:Nat)<=_;have:=dM;omega,[u,v],.cons ru (.cons rw' .nil),⟨_,ht2,rfl,_,rfl⟩⟩
   ·rw[aS hb]at q;exact(h0 c o q).stay (fun _ _ _ r=>r) (fun c r=>by rw[aS (cj r hn)];exact r) fun c ys r=>by rw[aS (cj r hn)];exact r
  have I2:L2.Inv X pins O (upd H s.heap.objs.size (.tup [x,y])) { s with heap:=h2,toks:=s.toks }:=
   Inv.yd (ch:=[z,t1,t2,i1,i2]) I hf hk2 (fun c o hb q n=>by rw[aS (bw (aP q))];exact n) (fun c o q=>by rw[aS (cj q hn)];exact q) hok2
  refine⟨.ref s.heap.objs.size,_,I2,rfl,⟨_,x,y,hn,rfl,rfl,fun zs hy'=>by rw[I.qI (.inl hy') (.inl hq:gf X.K H a xs)];exact hx,fun zs hy'=>by rw[I.qI (.inl hy') (.inl hr:gf X.K H b ys)];exact hy⟩,⟨hz2,?_,⟨u,v,?_⟩,?_,?_⟩,fun c hc=>?_⟩
  ·exact(hs2.2 _ D.TIz).trans (hk1 _ _ D.TIz D.TITO D.TIi1 D.TIi2 s2)
  ·exact(hs2.2 _ D.TOz).trans ho1
  ·exact hi1.at fun o q=>(hs2.2 i1 D.i1z).trans q
  ·exact hi2.at fun o q=>(hs2.2 i2 D.i2z).trans q
  ·have hlt:c<s.heap.objs.size:=by
    have hc:c=z\/c=t1\/c=t2\/c=i1\/c=i2:=by simpa using hc
    rcases hc with rfl|rfl|rfl|rfl|rfl
    ·exact lee
    ·exact aP s2
    ·exact aP s3
    ·obtain⟨o,q,_⟩:=s4;exact aP q
    ·obtain⟨o,q,_⟩:=s5;exact aP q
   rw[aS (bw hlt)];exact hfr c hc
 done:=by
  intro X hP hw hK hc i pins s O H E I hf st hg;subst hP hw hK;obtain⟨s1,s2,⟨u0,v0,s3⟩,s4,s5⟩:=st;obtain⟨xs,ys,hq,hr,hx⟩:=hg;obtain⟨its,rv,p,hz⟩:=I.list (.inl hq:gf X.K H a xs);obtain⟨its',rv',p',hz'⟩:=I.list (.inl hr:gf X.K H b ys);have hl:=rv.length;have hl':=rv'.length;have hfr:∀c∈[z,t1,t2,i1,i2],H c=none:=fun c hc=>(hf c hc).1;refine wpAny_pyNext_zip_end (I.ok.hd hc) D s1 s2 s3 s4 s5 p.isList p'.isList ?_ fun h' eb=>⟨rfl,?_⟩
  ·rcases hx with hx|hx
   ·exact .inl (by simp;omega)
   ·exact .inr (by simp;omega)
  ·have hk:∀c o,c∉[z,t1,t2,i1,i2]->s.heap.get? c=some o->h'.get? c=some o:=fun c o hb q=>by
    have hc:c≠z/\c≠t1/\c≠t2/\c≠i1/\c≠i2:=by simpa using hb
    exact eb c o hc.1 hc.2.2.1 hc.2.2.2.1 hc.2.2.2.2 q
   exact Inv.yd (t':=s.toks) (ch:=[z,t1,t2,i1,i2]) I hf hk (fun _ _ _ _ n=>n) (fun _ _ q=>q) (p5 (X:=X) (pins:=pins) I.hok hfr hk)
 self:=fun _ _ _ _ _ st h=>Ad st.1 h
section
variable{X:Cx}
theorem Sw{x1:Nat}{t:TA}(hg:Gl X "zip")(hm:X.mg "zip"=none)(ha:PA X (e::er) t)(n1:noStar e=true)(n2:bD er=true) :
  CW X (.Tuple elts x1 tp) (.Call (.Name "zip" p) (e::er) [] pos) (fun O H k=>t O H fun vs H1=>Je vs H1 k):=by
 intro pins s O H k I h;refine Call_ (kj I hg hm boot_zip (e_ (aR (ha pos pins s O H (fun vs H1=>Je vs H1 k) I h) fun us s1 ⟨vs,H1,I1,r1,q⟩=>?_) (dw n1) (kT n2)))
 match vs,r1,q with
 |[],r1,q=>exact q.elim
 |[_],r1,q=>exact q.elim
 |_::_::_::_,r1,q=>exact q.elim
 |[x,y],r1,q=>
  obtain⟨u,v,rfl,ru,rv⟩:=vals2 r1;obtain⟨a,b,xs,ys,rfl,rfl,hx,hy,q⟩:=q;cases ru;cases rv;obtain⟨its,r1,p1,_⟩:=I1.list (.inl hx:gf X.K H1 a xs);obtain⟨its',r2,p2,_⟩:=I1.list (.inl hy:gf X.K H1 b ys);have l1:a<s1.heap.objs.size:=by obtain⟨_,e,_⟩:=p1.isList;exact aP e
  have l2:b<s1.heap.objs.size:=by obtain⟨_,e,_⟩:=p2.isList;exact aP e
  refine call_zip_2 p1.isList p2.isList fun h' z1 z2 z3 z4 z5 hsz hk=>?_;refine Ad (s:={ s1 with heap:=h' }) z1 ?_;refine⟨s1.heap.objs.size+4,[s1.heap.objs.size+4,s1.heap.objs.size+2,s1.heap.objs.size+3,s1.heap.objs.size,s1.heap.objs.size+1],_,_,H1,rfl,I1.kept (t':=s1.toks) hk,N8 a b _ _ _ _ _ (zipApart_new l1 l2),⟨z1,z2,⟨_,_,z3⟩,z4,z5⟩,fun c hc=>?_,_,_,N7,q⟩;have hle:s1.heap.objs.size<=c:=by
   have hc:c=s1.heap.objs.size+4\/c=s1.heap.objs.size+2\/c=s1.heap.objs.size+3\/c=s1.heap.objs.size\/c=s1.heap.objs.size+1:=by simpa using hc
   rcases hc with rfl|rfl|rfl|rfl|rfl<;>first|exact Nat.le_add_right _ _|exact aM _
  exact I1.o5 hle (I1.hok.fresh hle)
end
theorem band{a b:Bool}(h:(a&&b)=true):a=true/\b=true:=by simpa using h
variable{x1 x2 x3:Bool}
theorem mV(h:(x1&&x2&&x3)=true):(x1=true/\x2=true)/\x3=true:=⟨band (band h).1,(band h).2⟩
variable{x4:Bool}
theorem uM(h:(x1&&x2&&x3&&x4)=true):((x1=true/\x2=true)/\x3=true)/\x4=true:=⟨mV (band h).1,(band h).2⟩
variable{x5:Bool}
theorem Eg(h:(x1&&x2&&x3&&x4&&x5)=true):(((x1=true/\x2=true)/\x3=true)/\x4=true)/\x5=true:=⟨uM (band h).1,(band h).2⟩
variable{x6:Bool}
theorem oE(h:(x1&&x2&&x3&&x4&&x5&&x6)=true):((((x1=true/\x2=true)/\x3=true)/\x4=true)/\x5=true)/\x6=true:=⟨Eg (band h).1,(band h).2⟩
variable{x7:Bool}
theorem Eh(h:(x1&&x2&&x3&&x4&&x5&&x6&&x7)=true):(((((x1=true/\x2=true)/\x3=true)/\x4=true)/\x5=true)/\x6=true)/\x7=true:=⟨oE (band h).1,(band h).2⟩
variable{x8:Bool}
theorem WO(h:(x1&&x2&&x3&&x4&&x5&&x6&&x7&&x8)=true):((((((x1=true/\x2=true)/\x3=true)/\x4=true)/\x5=true)/\x6=true)/\x7=true)/\x8=true:=⟨Eh (band h).1,(band h).2⟩
theorem Rg{x9:Bool}(h:(x1&&x2&&x3&&x4&&x5&&x6&&x7&&x8&&x9)=true):(((((((x1=true/\x2=true)/\x3=true)/\x4=true)/\x5=true)/\x6=true)/\x7=true)/\x8=true)/\x9=true:=⟨WO (band h).1,(band h).2⟩
theorem qM{a:Bool}(h:(!a)=true):a=false:=by simpa using h
theorem no{P:Prop}(h:false=true):P:=absurd h aE
variable{k:Nat}
variable{as:ia}
section
variable{X:Cx}{T:Tab}{Y:List G}{E:XK}
theorem Ok.jr(ok:Ok X T Y E)(h:nN T.sc x=true):Gl X x:=by
 have h:=of_decide_eq_true h;rw[<-ok.sc]at h;exact h
theorem Ok.mW(ok:Ok X T Y E)(h:T.bn.contains x=true):X.mg x=none:=ok.bn x (by simpa using h)
theorem Ok.EZ(ok:Ok X T Y E)(h:decide (T.N[i]?=some x)=true):X.N[i]?=some x:=by rw[ok.N];exact of_decide_eq_true h
theorem Ok.AD(ok:Ok X T Y E)(h:qz T.sc T.N scope nl fr=true):tV X.env.scope X.N scope nl fr:=by rw[ok.sc,ok.N];exact Le h
theorem KQ{v:V}{c:Const}{j:Nat}(h:N1 v c=true):PE X (.Constant c j pos) (fun _ H Q=>Q v H):=by
 cases v<;>cases c<;>first|exact no h|skip
 ·exact T_
 ·have e:=of_decide_eq_true h;subst e;exact Wh
 ·have e:=of_decide_eq_true h;subst e;exact KD
 ·have e:=of_decide_eq_true h;subst e;exact Ua
theorem Sx(hN:X.N[i]?=some x)(hv:Cq X.env.scope x)(h1:(x==("__debug__":Str))=false)(h2:(x==("__classdict__":Str))=false):PE X (.Name x p) (fun O H Q=>kR O i fun v=>Q v H):=by
 intro pins s O H Q I h;refine Eo hN hv h1 h2 pins s O H Q I ?_;unfold kR at h;split at h
 ·exact⟨_,by assumption,h⟩
 ·exact h.elim
theorem U_(ok:Ok X T Y E)(hx:T.gl[g]?=some x)(hg:Gl X x)(hd:(x==("__debug__":Str))=false):PE X (.Name x p) (fun _ H Q=>match Y[g]? with
  |some (.val v)=>Q v H
  |some (.tup a _)=>Q (.ref a) H
  |_=>False):=by
 intro pins s O H Q I h;split at h
 ·rename_i v e;obtain⟨u,hm,r⟩:=ok.gl g x _ hx e;exact Bu hg hm r hd pins s O H Q I h
 ·rename_i a xs e;obtain⟨hm,_⟩:=ok.gl g x _ hx e;exact Bu (v:=.ref a) hg hm rfl hd pins s O H Q I h
 ·exact h.elim
theorem WQ{t:TA}(ok:Ok X T Y E)(hx:T.gl[g]?=some x)(hg:Gl X x)(hd:(x==("__debug__":Str))=false)(ha:PA X es t)(hn:es=[]->t=fun _ H Q=>Q [] H)(hs:bD es=true) :
  PE X (.Call (.Name x p) es [] pos) (fun O H Q=>match Y[g]? with
   |some (.fn sp dvs)=>t O H fun vs H1=>sp (vs++dvs) H1 Q E
   |_=>False):=by
 intro pins s O H Q I h;split at h
 ·rename_i sp dvs e;obtain⟨k,f,fd,ps,ds,q1,q2,q3,q4,q5,q6,q7⟩:=ok.gl g x _ hx e;cases es with
  |nil=>
   have e:=hn rfl;subst e;exact Nz q1 q2 hg q3 q4 q5 q6 q7 hd pins s O H Q I h
  |cons e er=>
   have hs':noStar e=true/\bD er=true:=by simpa[bD]using hs
   exact RY q1 q2 hg q3 q4 q5 q6 q7 ha hd (dw hs'.1) (kT hs'.2) pins s O H Q I h
 ·exact h.elim
theorem Sy(ok:Ok X T Y E)(hi:X.N[i]?=some x)(hl:NZ T x=true):PG X (.Name x p) (fun v O H Q=>Q (O.set i (some v)) H):=by
 unfold NZ at hl;have hsc:=ok.sc;split at hl
 ·rename_i e;rw[<-hsc]at e;exact Hw ok.nd hi (.inl e) (.inr e)
 ·rename_i e;rw[<-hsc]at e;exact Hw ok.nd hi (.inr e) (.inl (ok.own x hl))
 ·exact no hl
theorem pg_tup'{gs:oM}{t:yG}(hc:X.calm=true)(h:Ai X es t)(hn:es.length=gs.len)(hs:bD es=true):PG X (.Tuple es k pos) (fun v O H Q=>match v with
  |.ref a=>sU X.K H a fun t' xs=>t'=true/\xs.length=gs.len/\t xs O H Q
  |_=>False):=by
 intro pins s O H v u Q I r hw;cases v with
 |ref a=>
  obtain⟨t',xs,hx,ht,hl,hw⟩:=hw;subst ht;rcases hx.sq with⟨hf,_⟩|⟨_,z⟩
  ·cases hf
  ·exact Ug (n:=es.length) hc h (uL hs).1 (uL hs).2 pins s O H _ u Q I r ⟨a,xs,rfl,z,by omega,hw⟩
 |_=>exact ak hw
theorem pg_sub'{i:Expr}{to ti:TE}(hu:X.A.units+60<dc)(hp:uK i=true)(ho:PE X o to)(hi:PE X i ti):PG X (.Subscript o i pos) (fun v O H Q=>to O H fun x H1=>ti O H1 fun y H2=>match x with
  |.ref a=>match H2 a with
   |some (.lst xs)=>∃k j,y=.int k/\gH xs.length k=some j/\Q O (upd H2 a (.lst (xs.set j v)))
   |some (.dK kvs)=>∃k,y=kV k/\kvs.length<aa/\Q O (upd H2 a (.dK (putK kvs k v)))
   |some (.dT kvs)=>∃k b,y=.ref b/\H2 b=some (.tup (k.map kV))/\kvs.length<aa/\Q O (upd H2 a (.dT (putK kvs k v)))
   |_=>False
  |_=>False):=by
 have hS:Nq X (fun x y v H2 Q=>match x with
  |.ref a=>match H2 a with
   |some (.lst xs)=>∃k j,y=.int k/\gH xs.length k=some j/\Q (upd H2 a (.lst (xs.set j v)))
   |some (.dK kvs)=>∃k,y=kV k/\kvs.length<aa/\Q (upd H2 a (.dK (putK kvs k v)))
   |some (.dT kvs)=>∃k b,y=.ref b/\H2 b=some (.tup (k.map kV))/\kvs.length<aa/\Q (upd H2 a (.dT (putK kvs k v)))
   |_=>False
  |_=>False):=by
  intro pins s O H o i v ov iv u Q I ro ri rv h;split at h
  ·split at h
   ·obtain⟨k,j,rfl,hj,q⟩:=h;exact set_list pins s O H _ _ v ov iv u Q I ro ri rv ⟨_,_,_,j,rfl,rfl,by assumption,hj,q⟩
   ·rename_i a _ kvs hk;obtain⟨k,rfl,hl,q⟩:=h;cases(show ov=a8 a from ro);exact CJ (by omega) I (.inl ⟨kvs,k,hk,rfl,hl,rfl⟩) ri rv fun s' I'=>⟨_,I',q⟩
   ·rename_i a _ kvs hk;obtain⟨k,b,rfl,hb,hl,q⟩:=h;cases(show ov=a8 a from ro);exact CJ (by omega) I (.inr ⟨kvs,k,b,hk,rfl,hb,hl,rfl⟩) ri rv fun s' I'=>⟨_,I',q⟩
   ·exact h.elim
  ·exact h.elim
 intro pins s O H v u Q I r h;refine Uh ho hi hS (fun _=>by cases i<;>first|rfl|exact no hp) pins s O H v u Q I r ?_;exact h
theorem iy:PT X e (fun _ _ _=>False):=fun _ _ _ _ _ _ h=>h.elim
theorem Va{a:Expr}{tc ta tb:TT}(hc:PT X c tc)(ha:PT X a ta)(hb:PT X b tb):PT X (.IfExp c a b pos) (fun O H Q=>tc O H fun k H1=>if k=true then ta O H1 Q else tb O H1 Q):=by
 intro pins s O H Q I h;refine isTrue_IfExp (aR (hc pins s O H _ I h) fun d s1 ⟨H1,I1,q1⟩=>?_);cases d with
 |true=>exact ha pins s1 O H1 Q I1 q1
 |false=>exact hb pins s1 O H1 Q I1 q1
theorem HN{Q:Bool->Hp->Prop}:wT K Y E (.call g as) O H Q=wE K Y E (.call g as) O H (fun x H2=>iR K x H2 fun b=>Q b H2):=by
 show(match Y[g]? with
  |some (.fn sp dvs)=>wEs K Y E as O H fun vs H1=>sp (vs++dvs) H1 (fun x H2=>iR K x H2 fun b=>Q b H2) E
  |_=>False)=(match Y[g]? with
  |some (.fn sp dvs)=>wEs K Y E as O H fun vs H1=>sp (vs++dvs) H1 (fun x H2=>iR K x H2 fun b=>Q b H2) E
  |_=>False)
 rfl
theorem Sz(ok:Ok X T Y E)(h:PE X e (wE X.K Y E (.call g as)))(he:∀whole,q9 e X.env whole=(do let v <-whole;ue e.pos;mK [v] (A8 v))):PT X e (wT X.K Y E (.call g as)):=by
 have z:=pt_val' h he;intro pins s O H Q I q;rw[HN]at q;exact z pins s O H Q I q
theorem po_some'(h:PE X e te):PO X (some e) (fun O H Q=>te O H fun x H1=>match x with
  |.int i=>Q (some i) H1
  |_=>False):=by
 intro pins s O H Q I q;rw[D0];refine aR (h pins s O H _ I q) fun v s1 ⟨x,H1,I1,r1,q1⟩=>?_;cases x with
 |int i=>
  obtain⟨t,rfl⟩:=r1;exact⟨some i,H1,I1,.int i t,q1⟩
 |_=>exact ak q1
theorem pgs_nil':Ai X [] (fun vs O H Q=>match vs with
  |[]=>Q O H
  |_=>False):=by
 intro pins s O H vs us Q I r h;cases vs with
 |nil=>exact RU pins s O H [] us Q I r ⟨rfl,h⟩
 |cons v vr=>exact ak h
theorem pgs_cons'{t:TG}{u:yG}(h1:PG X e t)(h2:Ai X es u)(hs:noStar e=true):Ai X (e::es) (fun vs O H Q=>match vs with
  |v::vr=>t v O H fun Zd H'=>u vr Zd H' Q
  |_=>False):=by
 intro pins s O H vs us Q I r h;cases vs with
 |nil=>exact ak h
 |cons v vr=>exact Nr h1 h2 (by rw[oB hs];rfl) pins s O H (v::vr) us Q I r ⟨v,vr,rfl,h⟩
theorem Rh:∀(gs:oM) (es:List Expr),Ed T gs es=true->es.length=gs.len
|.nil,es,h=>by
 cases es with
 |nil=>rfl
 |cons e er=>exact no h
|.cons g r,es,h=>by
 cases es with
 |nil=>exact no h
 |cons e er=>
  obtain⟨_,h2⟩:=band h;show er.length+1=r.len+1;rw[Rh r er h2]
theorem Ri(as:ia)(es:List Expr)(h:lJ T as es=true):es=[]->wEs X.K Y E as=fun _ H Q=>Q [] H:=by
 rintro rfl;cases as with
 |nil=>rfl
 |cons a r=>exact no h
theorem Vb{a:CE}(h:PE X e (wE X.K Y E (.isx one gs a)))(he:∀whole,q9 e X.env whole=(do let v <-whole;ue e.pos;mK [v] (A8 v))):PT X e (wT X.K Y E (.isx one gs a)):=pt_val' h he
theorem Vc{a:CE}(h:PE X e (wE X.K Y E (.isv g a)))(he:∀whole,q9 e X.env whole=(do let v <-whole;ue e.pos;mK [v] (A8 v))):PT X e (wT X.K Y E (.isv g a)):=pt_val' h he
theorem Ok.nM(ok:Ok X T Y E)(h:decide (g<T.gl.length)=true):∀Cs as,Y[g]?=some (G.nM Cs as)->rO X.K Cs as:=fun Cs as e=>by
 have hl:=of_decide_eq_true h;exact ok.gl g (T.gl[g]) _ (aG hl) e
theorem hid{G:α->Prop}{e:α}(h:∀P:α->Prop,(∀x,G x->P x)->P e):G e:=h G fun _ h=>h
mutual
theorem cP:∀(c:CE) (e:Expr) {X:Cx}{T:Tab}{E:XK},Ok X T Y E->cO T c e=true->PE X e (wE X.K Y E c)/\PT X e (wT X.K Y E c)/\∀op vs p,e=.BoolOp op vs p->PW X e (wT X.K Y E c)
|.var i,e,X,T,E,ok,h=>by
 obtain⟨h0,h⟩:=band h;revert h;refine bP e (eq_of_beq h0) ?_;intro x p h;obtain⟨⟨⟨h1,h2⟩,h3⟩,h4⟩:=uM h;rw[<-ok.sc]at h2;have z':PE X (.Name x p) (wE X.K Y E (.var i)):=Sx (ok.EZ h1) (U1 h2) (qM h3) (qM h4);exact⟨z',pt_val' z' (fun _=>rfl),fun _ _ _ z=>nomatch z⟩
|.con v,e,X,T,E,ok,h=>by
 obtain⟨h0,h⟩:=band h;revert h;refine Nb e (eq_of_beq h0) ?_;intro _ _ _ h;exact⟨KQ h,iy,fun _ _ _ z=>nomatch z⟩
|.glo g,e,X,T,E,ok,h=>by
 obtain⟨h0,h⟩:=band h;revert h;refine bP e (eq_of_beq h0) ?_;intro x p h;obtain⟨⟨h1,h2⟩,h3⟩:=mV h;exact⟨U_ ok (of_decide_eq_true h1) (ok.jr h2) (qM h3),iy,fun _ _ _ z=>nomatch z⟩
|.bin op a b,e,X,T,E,ok,h=>by
 obtain⟨h0,h⟩:=band h;revert h;refine RL e (eq_of_beq h0) ?_;intro l o r p h;obtain⟨⟨h1,h2⟩,h3⟩:=mV h;have e:=of_decide_eq_true h1;subst e;exact⟨Wo (WH op) (cP a l ok h2).1 (cP b r ok h3).1,iy,fun _ _ _ z=>nomatch z⟩
|.nset a,e,X,T,E,ok,h=>by
 obtain⟨h0,h⟩:=band h;obtain⟨hf,h⟩:=band h;obtain⟨ha,h⟩:=band h;revert hf ha h;refine cY e (eq_of_beq h0) ?_;intro fn es kw p hf ha h;revert h;refine bP fn (eq_of_beq hf) ?_;intro x px h
 match es,ha,h with
 |[],ha,h=>exact no ha
 |_::_::_,ha,h=>exact no ha
 |[c],ha,h=>
  obtain⟨hb,ha⟩:=band ha;revert h ha;refine cY c (eq_of_beq hb) ?_;intro f2 es2 kw2 p2 h ha;revert h;refine bP f2 (eq_of_beq ha) ?_;intro y py h
  match es2,kw2,kw,h with
  |[],_,_,h=>exact no h
  |_::_::_,_,_,h=>exact no h
  |[_],_::_,_,h=>exact no h
  |[_],[],_::_,h=>exact no h
  |[l],[],[],h=>
   obtain⟨hcm,h⟩:=band h;obtain⟨h,h8⟩:=band h;obtain⟨⟨⟨⟨⟨⟨h1,h2⟩,h3⟩,h4⟩,h5⟩,h6⟩,h7⟩:=Eh h;have e1:=of_decide_eq_true h1;have e2:=of_decide_eq_true h4;subst e1 e2;exact⟨Sv (ok.calm hcm) (ok.jr h2) (ok.mW h3) (ok.jr h5) (ok.mW h6) (cP a l ok h8).1 h7,iy,fun _ _ _ z=>nomatch z⟩
|.neg a,e,X,T,E,ok,h=>by
 obtain⟨h0,h⟩:=band h;revert h;refine yz e (eq_of_beq h0) ?_;intro op l p h;cases op<;>first|exact no h|skip
 exact⟨pe_neg' (cP a l ok h).1,iy,fun _ _ _ z=>nomatch z⟩
|.not a,e,X,T,E,ok,h=>by
 obtain⟨h0,h⟩:=band h;revert h;refine yz e (eq_of_beq h0) ?_;intro op l p h;cases op<;>first|exact no h|skip
 exact⟨pe_not' (cP a l ok h).1,Ub (cP a l ok h).2.1,fun _ _ _ z=>nomatch z⟩
|.and a b,e,X,T,E,ok,h=>by
 obtain⟨h0,h⟩:=band h;revert h;refine Ae e (eq_of_beq h0) ?_;intro op vs p h;cases op<;>first|exact no h|skip
 match vs,h with
 |[x,y],h=>
  obtain⟨h1,h2⟩:=band h;have w:=pw_and (pos:=p) (cP a x ok h1).2.1 (pw_and1 (cP b y ok h2).2.1);exact⟨pe_and' (cP a x ok h1).1 (KE (cP b y ok h2).1),w.pt,fun _ _ _ _=>w⟩
 |x::y::z::r,h=>
  obtain⟨h1,h2⟩:=band h;have w:=pw_and (cP a x ok h1).2.1 ((cP b _ ok h2).2.2 _ _ _ rfl);exact⟨pe_and' (cP a x ok h1).1 (cP b _ ok h2).1,w.pt,fun _ _ _ _=>w⟩
 |[],h=>exact no h
 |[x],h=>exact no h
|.or a b,e,X,T,E,ok,h=>by
 obtain⟨h0,h⟩:=band h;revert h;refine Ae e (eq_of_beq h0) ?_;intro op vs p h;cases op<;>first|exact no h|skip
 match vs,h with
 |[x,y],h=>
  obtain⟨h1,h2⟩:=band h;have w:=pw_or (pos:=p) (cP a x ok h1).2.1 (pw_or1 (cP b y ok h2).2.1);exact⟨pe_or' (cP a x ok h1).1 (KE (cP b y ok h2).1),w.pt,fun _ _ _ _=>w⟩
 |x::y::z::r,h=>
  obtain⟨h1,h2⟩:=band h;have w:=pw_or (cP a x ok h1).2.1 ((cP b _ ok h2).2.2 _ _ _ rfl);exact⟨pe_or' (cP a x ok h1).1 (cP b _ ok h2).1,w.pt,fun _ _ _ _=>w⟩
 |[],h=>exact no h
 |[x],h=>exact no h
|.ite c a b,e,X,T,E,ok,h=>by
 obtain⟨h0,h⟩:=band h;revert h;refine RM e (eq_of_beq h0) ?_;intro t x y p h;obtain⟨⟨h1,h2⟩,h3⟩:=mV h;exact⟨Nl (cP c t ok h1).2.1 (cP a x ok h2).1 (cP b y ok h3).1,Va (cP c t ok h1).2.1 (cP a x ok h2).2.1 (cP b y ok h3).2.1,fun _ _ _ z=>nomatch z⟩
|.cmp op a b,e,X,T,E,ok,h=>by
 obtain⟨h0,h⟩:=band h;revert h;refine yC e (eq_of_beq h0) ?_;intro l os rs p h
 match os,rs,h with
 |[o],[r],h=>
  obtain⟨⟨⟨h1,h2⟩,h3⟩,h4⟩:=uM h;have e:=of_decide_eq_true h1;subst e;exact⟨RX (yc ok.room op) (cP a l ok h3).1 (cP b r ok h4).1 (qM h2),pt_cmp' ok.room (cP a l ok h3).1 (cP b r ok h4).1 (qM h2),fun _ _ _ z=>nomatch z⟩
 |[],_,h=>exact no h
 |_::_::_,_,h=>exact no h
 |[_],[],h=>exact no h
 |[_],_::_::_,h=>exact no h
|.chain o1 o2 a b c,e,X,T,E,ok,h=>by
 obtain⟨h0,h⟩:=band h;revert h;refine yC e (eq_of_beq h0) ?_;intro l os rs p h
 match os,rs,h with
 |[p1,p2],[m,r],h=>
  obtain⟨⟨⟨⟨⟨h1,h2⟩,h3⟩,h4⟩,h5⟩,h6⟩:=oE h;have e1:=of_decide_eq_true h1;have e2:=of_decide_eq_true h2;subst e1 e2;exact⟨pe_chain' ok.room (cP a l ok h4).1 (cP b m ok h5).1 (cP c r ok h6).1 (qM h3),pt_chain' ok.room (cP a l ok h4).1 (cP b m ok h5).1 (cP c r ok h6).1 (qM h3),fun _ _ _ z=>nomatch z⟩
 |[],_,h=>exact no h
 |[_],_,h=>exact no h
 |_::_::_::_,_,h=>exact no h
 |[_,_],[],h=>exact no h
 |[_,_],[_],h=>exact no h
 |[_,_],_::_::_::_,h=>exact no h
|.call g as,e,X,T,E,ok,h=>by
 obtain⟨h0,h⟩:=band h;obtain⟨hf,h⟩:=band h;revert hf h;refine cY e (eq_of_beq h0) ?_;intro f es kw p hf h;revert h;refine bP f (eq_of_beq hf) ?_;intro x px h;cases kw<;>first|exact no h|skip
 obtain⟨⟨⟨⟨h1,h2⟩,h3⟩,h4⟩,h5⟩:=Eg h;have z':PE X (.Call (.Name x px) es [] p) (wE X.K Y E (.call g as)):=WQ ok (of_decide_eq_true h1) (ok.jr h2) (qM h3) (sY as es ok h4 h5) (Ri as es h5) h4;exact⟨z',Sz ok z' (fun _=>rfl),fun _ _ _ z=>nomatch z⟩
|.blt f as,e,X,T,E,ok,h=>by
 obtain⟨h0,h⟩:=band h;obtain⟨hf,h⟩:=band h;revert hf h;refine cY e (eq_of_beq h0) ?_;intro fn es kw p hf h;revert h;refine bP fn (eq_of_beq hf) ?_;intro x px h;cases kw<;>first|exact no h|skip
 obtain⟨hcm,h⟩:=band h;obtain⟨⟨⟨⟨⟨h1,h2⟩,h3⟩,h4⟩,h5⟩,h6⟩:=oE h;cases es with
 |nil=>exact no h5
 |cons e er=>
  have z':PE X (.Call (.Name x px) (e::er) [] p) (wE X.K Y E (.blt f as)):=U5 (ok.calm hcm) ok.room (ok.jr h2) (of_decide_eq_true h1) (ok.mW h3) (sY as _ ok h4 h6) h4;exact⟨z',pt_val' z' (fun _=>rfl),fun _ _ _ z=>nomatch z⟩
|.isi a t,e,X,T,E,ok,h=>by
 obtain⟨h0,h⟩:=band h;obtain⟨hf,h⟩:=band h;obtain⟨ha,h⟩:=band h;revert hf ha h;refine cY e (eq_of_beq h0) ?_;intro fn es kw p hf ha h;revert h;refine bP fn (eq_of_beq hf) ?_;intro x px h
 match es,ha,h with
 |[],ha,h=>exact no ha
 |[_],ha,h=>exact no ha
 |_::_::_::_,ha,h=>exact no ha
 |[l,c],ha,h=>
  revert h;refine bP c (eq_of_beq ha) ?_;intro y py h;cases kw<;>first|exact no h|skip
  obtain⟨⟨⟨⟨⟨⟨⟨⟨h1,h2⟩,h3⟩,h4⟩,h5⟩,h6⟩,h7⟩,h8⟩,h9⟩:=Rg h;have z':PE X (.Call (.Name x px) [l,.Name y py] [] p) (wE X.K Y E (.isi a t)):=U4 (ok.jr h2) (of_decide_eq_true h1) (ok.mW h3) (ok.jr h6) (of_decide_eq_true h4) (of_decide_eq_true h5) (ok.mW h7) (cP a l ok h9).1 h8;exact⟨z',pt_val' z' (fun _=>rfl),fun _ _ _ z=>nomatch z⟩
|.mth m o as,e,X,T,E,ok,h=>by
 obtain⟨h0,h⟩:=band h;obtain⟨hf,h⟩:=band h;revert hf h;refine cY e (eq_of_beq h0) ?_;intro fn es kw p hf h;revert h;refine vQ fn (eq_of_beq hf) ?_;intro l nm ap h;cases kw<;>first|exact no h|skip
 obtain⟨⟨⟨⟨⟨⟨h1,h2⟩,h3⟩,h4⟩,h5⟩,h6⟩,h7⟩:=Eh h;have e:=of_decide_eq_true h1;subst e;have ho:=(cP o l ok h6).1;have ha:=sY as es ok h4 h7;cases es with
 |nil=>
  have q:=Ri (X:=X) (Y:=Y) (E:=E) as [] h7 rfl;have z:=Sq ok.room (m:=m) (apos:=ap) (cpos:=p) ho h2 h3;have z':PE X (.Call (.Attribute l m.name ap) [] [] p) (wE X.K Y E (.mth m o as)):=by
   show PE X _ (fun O H Q=>wE X.K Y E o O H fun x H1=>rM m x H1/\wEs X.K Y E as O H1 fun vs H2=>uD X.K m x vs H2 Q);rw[q];exact z
  exact⟨z',pt_val' z' (fun _=>rfl),fun _ _ _ z=>nomatch z⟩
 |cons e er=>
  have z':PE X (.Call (.Attribute l m.name ap) (e::er) [] p) (wE X.K Y E (.mth m o as)):=U3 ok.room ho ha h2 h3 h4 (of_decide_eq_true h5);exact⟨z',pt_val' z' (fun _=>rfl),fun _ _ _ z=>nomatch z⟩
|.ix a b,e,X,T,E,ok,h=>by
 obtain⟨h0,h⟩:=band h;revert h;refine j9 e (eq_of_beq h0) ?_;intro l r p h;obtain⟨⟨h1,h2⟩,h3⟩:=mV h;have z':PE X (.Subscript l r p) (wE X.K Y E (.ix a b)):=Wv (Yn ok.room) (cP a l ok h2).1 (cP b r ok h3).1 (Jq h1);exact⟨z',pt_val' z' (fun _=>rfl),fun _ _ _ z=>nomatch z⟩
|.sl a lo hi,e,X,T,E,ok,h=>by
 obtain⟨h0,h⟩:=band h;obtain⟨hf,h⟩:=band h;revert hf h;refine j9 e (eq_of_beq h0) ?_;intro l r p hf h;revert h;refine RN r (eq_of_beq hf) ?_;intro x y st ps h;cases st<;>first|exact no h|skip
 obtain⟨⟨h1,h2⟩,h3⟩:=mV h;exact⟨NB Yo (cP a l ok h1).1 (Rj lo x ok h2) (Rj hi y ok h3),iy,fun _ _ _ z=>nomatch z⟩
|.lst as,e,X,T,E,ok,h=>by
 obtain⟨h0,h⟩:=band h;revert h;refine TZ e (eq_of_beq h0) ?_;intro _ _ h;obtain⟨h1,h2⟩:=band h;exact⟨UB (sY as _ ok h1 h2),iy,fun _ _ _ z=>nomatch z⟩
|.tup as,e,X,T,E,ok,h=>by
 obtain⟨h0,h⟩:=band h;revert h;refine sM e (eq_of_beq h0) ?_;intro _ _ _ h;obtain⟨h1,h2⟩:=band h;exact⟨UA (sY as _ ok h1 h2),iy,fun _ _ _ z=>nomatch z⟩
|.comp nl fr elt tg src cond,e,X,T,E,ok,h=>by
 obtain⟨h0,h⟩:=band h;revert h;refine xR e (eq_of_beq h0) ?_;intro l gs sc p h
 match gs,h with
 |[],h=>exact no h
 |⟨_,_,_,.ofNat 0⟩::_::_,h=>exact no h
 |⟨_,_,_,.ofNat (n+1)⟩::_,h=>exact no h
 |⟨_,_,_,.negSucc n⟩::_,h=>exact no h
 |[⟨t,it,ifs,.ofNat 0⟩],h=>
  obtain⟨hcm,h⟩:=band h;obtain⟨⟨⟨⟨⟨h2,h3⟩,h4⟩,h5⟩,h6⟩,h7⟩:=oE h;obtain⟨h3,h3'⟩:=band h3;exact⟨Sn (ok.calm hcm) (ok.AD h2) (Vd src it h3' ok h4) (wj h3) (fun C Ze H ex=>HP tg t (nX ok h2 C Ze H ex) h5) (fun C Ze H ex=>Xy cond ifs (nX ok h2 C Ze H ex) h6)
   (fun C Ze H ex=>(cP elt l (nX ok h2 C Ze H ex) h7).1),iy,fun _ _ _ z=>nomatch z⟩
|.isx one gs a,e,X,T,E,ok,h=>by
 obtain⟨h0,h⟩:=band h;obtain⟨hf,h⟩:=band h;revert hf h;refine cY e (eq_of_beq h0) ?_;intro fn es kw p hf h;revert h;refine bP fn (eq_of_beq hf) ?_;intro x px h
 match es,h with
 |[],h=>exact no h
 |[_],h=>exact no h
 |_::_::_::_,h=>exact no h
 |[l,c],h=>
  cases kw<;>first|exact no h|skip
  obtain⟨⟨⟨⟨⟨h1,h2⟩,h3⟩,h4⟩,h5⟩,h6⟩:=oE h;have z':PE X (.Call (.Name x px) [l,c] [] p) (wE X.K Y E (.isx one gs a)):=U6 ok (ok.jr h2) (of_decide_eq_true h1) (ok.mW h3) (cP a l ok h6).1 h4 h5;exact⟨z',Vb z' (fun _=>rfl),fun _ _ _ z=>nomatch z⟩
|.isv g a,e,X,T,E,ok,h=>by
 obtain⟨h0,h⟩:=band h;obtain⟨hf,h⟩:=band h;obtain⟨ha,h⟩:=band h;revert hf ha h;refine cY e (eq_of_beq h0) ?_;intro fn es kw p hf ha h;revert h;refine bP fn (eq_of_beq hf) ?_;intro x px h
 match es,ha,h with
 |[],ha,h=>exact no ha
 |[_],ha,h=>exact no ha
 |_::_::_::_,ha,h=>exact no ha
 |[l,c],ha,h=>
  revert h;refine bP c (eq_of_beq ha) ?_;intro y py h;cases kw<;>first|exact no h|skip
  obtain⟨⟨⟨⟨⟨⟨⟨⟨h1,h2⟩,h3⟩,h4⟩,h5⟩,h6⟩,h7⟩,h8⟩,h9⟩:=Rg h;have z':PE X (.Call (.Name x px) [l,.Name y py] [] p) (wE X.K Y E (.isv g a)):=U7 (ok.nM h9) (ok.jr h2) (of_decide_eq_true h1) (ok.mW h3) (ok.jr h5) (of_decide_eq_true h4) (ok.mW h6) (cP a l ok h8).1 h7;exact⟨z',Vc z' (fun _=>rfl),fun _ _ _ z=>nomatch z⟩
|.slp a lo hi k,e,X,T,E,ok,h=>by
 cases e<;>first|exact no h|skip
 rename_i l r p;cases r<;>first|exact no h|skip
 rename_i x y st p2;cases st<;>first|exact no h|skip
 rename_i st;cases st<;>first|exact no h|skip
 rename_i c j kp
 ·skip
  obtain⟨⟨⟨h1,h2⟩,h3⟩,h4⟩:=uM h;cases c<;>first|exact no h1|skip
  have e:=of_decide_eq_true h1;subst e;exact⟨UX (cP a l ok h2).1 (Rj lo x ok h3) (Rj hi y ok h4),iy,fun _ _ _ z=>nomatch z⟩
|.att g a f,e,X,T,E,ok,h=>by
 obtain⟨h0,h⟩:=band h;revert h;refine vQ e (eq_of_beq h0) ?_;intro l nm p h
 ·skip
  obtain⟨⟨⟨h1,h2⟩,h3⟩,h4⟩:=uM h;have e:=of_decide_eq_true h1;subst e;exact⟨U8 (ok.nM h4) (cP a l ok h3).1 h2,iy,fun _ _ _ z=>nomatch z⟩
theorem sY:∀(cs:ia) (es:List Expr) {X:Cx}{T:Tab}{E:XK},Ok X T Y E->bD es=true->lJ T cs es=true->PA X es (wEs X.K Y E cs)
|.nil,es,X,T,E,ok,hs,h=>by
 cases es with
 |nil=>exact Et
 |cons e er=>exact no h
|.cons a r,es,X,T,E,ok,hs,h=>by
 cases es with
 |nil=>exact no h
 |cons e er=>
  obtain⟨h1,h2⟩:=band h;have hs':noStar e=true/\bD er=true:=by simpa[bD]using hs
  exact Bv (cP a e ok h1).1 (sY r er ok hs'.2 h2) (dw hs'.1)
theorem Rj:∀(c:CO) (e:Option Expr) {X:Cx}{T:Tab}{E:XK},Ok X T Y E->EX T c e=true->PO X e (wO X.K Y E c)
|.none,e,X,T,E,ok,h=>by
 cases e with
 |none=>exact R1
 |some x=>exact no h
|.some a,e,X,T,E,ok,h=>by
 cases e with
 |none=>exact no h
 |some x=>exact po_some' (cP a x ok h).1
theorem Xy:∀(c:CO) (es:List Expr) {X:Cx}{T:Tab}{E:XK},Ok X T Y E->U0 T c es=true->HL X es (wC X.K Y E c)
|.none,es,X,T,E,ok,h=>by
 cases es with
 |nil=>exact Sl
 |cons x r=>exact no h
|.some a,es,X,T,E,ok,h=>by
 match es,h with
 |[x],h=>exact Sm (cP a x ok h).2.1
 |[],h=>exact no h
 |_::_::_,h=>exact no h
theorem HP:∀(c:CG) (e:Expr) {X:Cx}{T:Tab}{E:XK},Ok X T Y E->zG T c e=true->PG X e (wG X.K Y E c)
|.name i,e,X,T,E,ok,h=>by
 obtain⟨h0,h⟩:=band h;revert h;refine bP e (eq_of_beq h0) ?_;intro _ _ h;obtain⟨h1,h2⟩:=band h;exact Sy ok (ok.EZ h1) h2
|.tup gs,e,X,T,E,ok,h=>by
 obtain⟨h0,h⟩:=band h;revert h;refine sM e (eq_of_beq h0) ?_;intro _ _ _ h;obtain⟨hcm,h⟩:=band h;obtain⟨h1,h2⟩:=band h;exact pg_tup' (ok.calm hcm) (Ve gs _ ok h1 h2) (Rh gs _ h2) h1
|.sub o i,e,X,T,E,ok,h=>by
 obtain⟨h0,h⟩:=band h;revert h;refine j9 e (eq_of_beq h0) ?_;intro _ _ _ h;obtain⟨⟨h1,h2⟩,h3⟩:=mV h;exact pg_sub' ok.room h1 (cP o _ ok h2).1 (cP i _ ok h3).1
theorem Ve:∀(cs:oM) (es:List Expr) {X:Cx}{T:Tab}{E:XK},Ok X T Y E->bD es=true->Ed T cs es=true->Ai X es (HG X.K Y E cs)
|.nil,es,X,T,E,ok,hs,h=>by
 cases es with
 |nil=>exact pgs_nil'
 |cons e er=>exact no h
|.cons g r,es,X,T,E,ok,hs,h=>by
 cases es with
 |nil=>exact no h
 |cons e er=>
  obtain⟨h1,h2⟩:=band h;have hs':noStar e=true/\bD er=true:=by simpa[bD]using hs
  exact pgs_cons' (HP g e ok h1) (Ve r er ok hs'.2 h2) hs'.1
theorem Vd:∀(c:CI) (e:Expr) {tg:Expr}{X:Cx}{T:Tab}{E:XK},N2 c tg=true->Ok X T Y E->N4 T c e=true->CW X tg e (wI X.K Y E c)
|.seq a,e,tg,X,T,E,_,ok,h=>Sk (cP a e ok h).1
|.range as,e,tg,X,T,E,_,ok,h=>by
 obtain⟨h0,h⟩:=band h;obtain⟨hf,h⟩:=band h;revert hf h;refine cY e (eq_of_beq h0) ?_;intro fn es kw p hf h;revert h;refine bP fn (eq_of_beq hf) ?_;intro x px h;cases kw<;>first|exact no h|skip
 ·skip
  obtain⟨⟨⟨⟨⟨h1,h2⟩,h3⟩,h4⟩,h5⟩,h6⟩:=oE h;have e:=of_decide_eq_true h1;subst e;cases es with
  |nil=>exact no h5
  |cons e er=>
   have hs':noStar e=true/\bD er=true:=by simpa[bD]using h4
   exact Lb (ok.jr h2) (ok.mW h3) (sY as _ ok h4 h6) (dw hs'.1) (kT hs'.2)
|.zip as,e,tg,X,T,E,tb,ok,h=>by
 cases tg<;>first|exact no tb|skip
 obtain⟨h0,h⟩:=band h;obtain⟨hf,h⟩:=band h;revert hf h;refine cY e (eq_of_beq h0) ?_;intro fn es kw p hf h;revert h;refine bP fn (eq_of_beq hf) ?_;intro x px h;cases kw<;>first|exact no h|skip
 obtain⟨⟨⟨⟨⟨h1,h2⟩,h3⟩,h4⟩,h5⟩,h6⟩:=oE h;have e:=of_decide_eq_true h1;subst e;cases es with
 |nil=>exact no h5
 |cons e er=>
  have hs':noStar e=true/\bD er=true:=by simpa[bD]using h4
  exact Sw (ok.jr h2) (ok.mW h3) (sY as _ ok h4 h6) hs'.1 hs'.2
|.enum a,e,tg,X,T,E,tb,ok,h=>by
 cases tg<;>first|exact no tb|skip
 obtain⟨h0,h⟩:=band h;obtain⟨hf,h⟩:=band h;revert hf h;refine cY e (eq_of_beq h0) ?_;intro fn es kw p hf h;revert h;refine bP fn (eq_of_beq hf) ?_;intro x px h
 match es,h with
 |[],h=>exact no h
 |_::_::_,h=>exact no h
 |[l],h=>
  cases kw<;>first|exact no h|skip
  obtain⟨⟨⟨⟨h1,h2⟩,h3⟩,h4⟩,h5⟩:=Eg h;have e:=of_decide_eq_true h1;subst e;exact NW (ok.jr h2) (ok.mW h3) (cP a l ok h5).1 (by rw[dw h4];rfl)
end
end
theorem SA{l:Expr}{gs:List Comprehension}{vpos:Pos}(hk:env.scope.kind=.function)(h:Ec env.scope sc y py vpos=true):mJ (.ListComp l gs sc vpos) (some (.Name y py)) n env=pure true:=by
 unfold Ec at h;simp only[bx,decide_eq_true_eq]at h;obtain⟨⟨h1,h2⟩,h3⟩:=h;have hb:env.blockKind=.function:=by
  unfold Env.blockKind;rw[hk];rfl
 show pure (env.blockKind==.function&&env.kindOf y==some .local&&py.line==vpos.line&&!(sc.names.any fun(n,k)=>n==y&&(k==.local||k==.cell)))=pure true;have e1:(env.blockKind==Nc)=true:=by rw[hb];rfl
 have e2:(env.kindOf y==some NameKind.local)=true:=by
  have:env.kindOf y=some .local:=h1;rw[this];rfl
 have e3:(py.line==vpos.line)=true:=by rw[h2];simp
 rw[e1,e2,e3,h3];rfl
variable{t:Expr}
theorem wk(h:notTuple t=true\/notTuple e=true):vI [t] e env=pure none:=by
 unfold vI;rcases h with h|h
 ·cases t<;>first|rfl|exact no h
 ·cases t<;>first|rfl|(cases e<;>first|rfl|exact no h)
theorem C0(h:qy e=true):vH [t] e n env=pure false:=AA h
theorem N9(hs:env.scope=sc)(h:(qy e||N3 sc t)=true):vH [t] e n env=pure false:=by
 rcases Bool.or_eq_true_iff.mp h with h|h
 ·exact C0 h
 ·subst hs;show mJ e (some t) n env=pure false;unfold mJ;split
  ·cases t with
   |Name y p=>
    have e2:(env.kindOf y==some NameKind.local)=false:=by
     have:¬env.scope.names.lookup y=some .local:=by simpa[N3]using h
     exact beq_eq_false_iff_ne.mpr this
    simp only[e2,om,Cf]
   |_=>rfl
  ·rfl
structure HQ (X:Cx) (T:Tab) (Y:List G) (E:XK):Prop extends Ok X T Y E where
 rz:T.calm=true->∃X0:Cx,X=X0.ja (sS X0 E)/\X.stack=X.env::X.outer/\X.env.frame=some X.env.locals/\X.A.handled=none
theorem HQ.hand{E:XK}(ok:HQ X T Y E)(v:Value):HQ (X.hand v) (Jo T) (Y.map G.hand) E0:={ ok.toOk.hand v with rz:=fun z=>nomatch z }
theorem E1{g:CG}(h:zG T g t=true):noStar t=true:=by
 cases g with
 |name i=>exact bP t (eq_of_beq (band h).1) fun _ _=>rfl
 |tup gs=>exact sM t (eq_of_beq (band h).1) fun _ _ _=>rfl
 |sub o i=>exact j9 t (eq_of_beq (band h).1) fun _ _ _=>rfl
theorem dW:∀(b:CB) (sts:List Stmt) {X:Cx}{T:Tab}{E:XK},Ok X T Y E->Jm T b sts=true->PB X sts (wB X.K Y b)
|.call g as,sts,X,T,E,ok,h=>by
 obtain⟨hf,h⟩:=band h
 match sts,hf,h with
 |[],hf,h=>exact no hf
 |st::sr,hf,h=>
  obtain⟨hf,hg⟩:=band hf;revert h hg;refine Co st (eq_of_beq hf) ?_;intro e p h hg;obtain⟨hg,hh⟩:=band hg;revert h hh;refine cY e (eq_of_beq hg) ?_;intro fn es kw pc h hh;revert h;refine bP fn (eq_of_beq hh) ?_;intro x px h;cases kw<;>first|exact no h|skip
  cases sr<;>first|exact no h|skip
  obtain⟨⟨⟨⟨⟨h1,h2⟩,h3⟩,h4⟩,h5⟩,h6⟩:=oE h;cases es with
  |nil=>exact no h5
  |cons e er=>
   have hs':noStar e=true/\bD er=true:=by simpa[bD]using h4
   intro pins s O H E' nx I q;unfold wB at q;split at q
   ·rename_i sp dvs e1;obtain⟨k,f,fd,ps,ds,q1,q2,q3,q4,q5,q6,q7⟩:=ok.gl g x _ (of_decide_eq_true h1) e1;exact Sg q1 q2 (ok.jr h2) q3 q4 q5 q6 (sY as (e::er) ok.vS h4 h6) (qM h3) (dw hs'.1) (kT hs'.2) pins s O H E' nx I q
   ·exact q.elim
|.ite c a b,sts,X,T,E,ok,h=>by
 obtain⟨hf,h⟩:=band h
 match sts,hf,h with
 |[],hf,h=>exact no hf
 |st::sr,hf,h=>
  revert h;refine GJ st (eq_of_beq hf) ?_;intro t x y p h;cases sr<;>first|exact no h|skip
  obtain⟨⟨h1,h2⟩,h3⟩:=mV h;exact WD (cP c t ok.vS h1).2.1 (dW a x ok h2) (dW b y ok h3)
section
mutual
theorem Vf:∀{Y:List G} (c:CS) (st:Stmt) {X:Cx}{T:Tab}{E:XK},HQ X T Y E->Jp T c st=true->PS X st (wS X.K Y E c)
|Y,.expr c,st,X,T,E,ok,h=>by
 obtain⟨h0,h⟩:=band h;revert h;refine Co st (eq_of_beq h0) ?_;intro _ _ h;obtain⟨h1,h2⟩:=band h;exact RT (cP c _ ok.toOk h2).1 (AA h1)
|Y,.asg g c,st,X,T,E,ok,h=>by
 obtain⟨h0,h⟩:=band h;revert h;refine Af st (eq_of_beq h0) ?_;intro ts e p h
 match ts,h with
 |[],h=>exact no h
 |_::_::_,h=>exact no h
 |[t],h=>
  obtain⟨⟨⟨h1,h2⟩,h3⟩,h4⟩:=uM h;exact KG (cP c e ok.toOk h4).1 (HP g t ok.toOk h3) (N9 ok.sc h1) (wk (.inl h2)) (by rw[oB (E1 h3)];rfl)
|Y,.tasg g c,st,X,T,E,ok,h=>by
 apply hid (e:=st);intro P zk;cases st<;>first|exact no h|skip
 rename_i ts e p
 match ts,h with
 |[],h=>exact no h
 |_::_::_,h=>exact no h
 |[t],h=>
  obtain⟨⟨⟨h1,h2⟩,h3⟩,h4⟩:=uM h;refine zk _ ?_;exact KG (cP c e ok.toOk h4).1 (HP g t ok.toOk h3) (C0 h1) (wk (.inr h2)) (by rw[oB (E1 h3)];rfl)
|Y,.aug i c,st,X,T,E,ok,h=>by
 obtain⟨h0,h⟩:=band h;obtain⟨hf,h⟩:=band h;revert hf h;refine Kw st (eq_of_beq h0) ?_;intro t op e p hf h;revert h;refine bP t (eq_of_beq hf) ?_;intro y py h;cases op<;>first|exact no h|skip
 obtain⟨⟨h1,h2⟩,h3⟩:=mV h;have hl:X.env.scope.names.lookup y=some .local:=by rw[ok.sc];exact of_decide_eq_true h2
 exact Uj ok.nd (ok.toOk.EZ h1) (.inl hl) (cP c e ok.toOk h3).1 Uk (.inr hl)
|Y,.casg i c,st,X,T,E,ok,h=>by
 obtain⟨h0,h⟩:=band h;obtain⟨hf,h⟩:=band h;revert hf h;refine Af st (eq_of_beq h0) ?_;intro ts e p hf h
 match ts,hf,h with
 |[],hf,h=>exact no hf
 |t::tr,hf,h=>
  obtain⟨hf,hg⟩:=band hf;revert h;refine bP t (eq_of_beq hf) ?_;intro y py h;cases tr<;>first|exact no h|skip
  revert h;refine xR e (eq_of_beq hg) ?_;intro l gs sc vpos h;have hcm:=(band h).1;replace h:=(band h).2;obtain⟨⟨h1,h2⟩,h3⟩:=mV h;cases c<;>first|exact no h3|skip
  rename_i nl fr elt tg src cond _ _ _
  match gs,h3 with
  |[],h=>exact no h
  |⟨_,_,_,.ofNat 0⟩::_::_,h=>exact no h
  |⟨_,_,_,.ofNat (n+1)⟩::_,h=>exact no h
  |⟨_,_,_,.negSucc n⟩::_,h=>exact no h
  |[⟨t,it,ifs,.ofNat 0⟩],h3=>
   replace h3:=(band (band h3).2).2;obtain⟨⟨⟨⟨⟨k2,k3⟩,k4⟩,k5⟩,k6⟩,k7⟩:=oE h3;obtain⟨k3,k3'⟩:=band k3;have hl:X.env.scope.names.lookup y=some .local:=by
    unfold Ec at h2;simp only[bx,decide_eq_true_eq]at h2;rw[ok.sc];exact h2.1.1
   exact So (ok.calm hcm) ok.nd (ok.toOk.EZ h1) hl (ok.toOk.AD k2) (Vd src it k3' ok.toOk k4) (wj k3) (SA ok.kind (by rw[ok.sc];exact h2)) (fun C Ze H ex=>HP tg t (nX ok.toOk k2 C Ze H ex) k5) (fun C Ze H ex=>Xy cond ifs (nX ok.toOk k2 C Ze H ex) k6)
    (fun C Ze H ex=>(cP elt _ (nX ok.toOk k2 C Ze H ex) k7).1)
|Y,.ret c,st,X,T,E,ok,h=>by
 obtain⟨h0,h⟩:=band h;revert h;refine QX st (eq_of_beq h0) ?_;intro e p h;cases e<;>first|exact no h|skip
 ·exact Ud (cP c _ ok.toOk h).1
|Y,.ifs c a b,st,X,T,E,ok,h=>by
 obtain⟨h0,h⟩:=band h;revert h;refine GJ st (eq_of_beq h0) ?_;intro _ _ _ _ h;obtain⟨⟨h1,h2⟩,h3⟩:=mV h;exact Wl (cP c _ ok.toOk h1).2.1 (wm a _ ok h2) (wm b _ ok h3)
|Y,.whil c b,st,X,T,E,ok,h=>by
 apply hid (e:=st);intro P zk;cases st<;>first|exact no h|skip
 rename_i e x l p;cases l<;>first|exact no h|skip
 ·obtain⟨h1,h2⟩:=band h;refine zk _ ?_;exact Nt ok.po (cP c _ ok.toOk h1).2.1 (wm b _ ok h2)
|Y,.forr g src b,st,X,T,E,ok,h=>by
 obtain⟨h0,h⟩:=band h;revert h;refine T4 st (eq_of_beq h0) ?_;intro t it x l p h;cases l<;>first|exact no h|skip
 ·obtain⟨hcm,h⟩:=band h;obtain⟨⟨⟨⟨h1,h1'⟩,h2⟩,h3⟩,h4⟩:=Eg h;exact WL ok.po (ok.calm hcm) (Vd src _ h1' ok.toOk h2) (HP g _ ok.toOk h3) (wm b _ ok h4) (wj h1)
|Y,.brk,st,X,T,E,ok,h=>by
 obtain⟨h0,h⟩:=band h;revert h;refine RO st (eq_of_beq h0) ?_;intro _ h;exact Nm
|Y,.cont,st,X,T,E,ok,h=>by
 obtain⟨h0,h⟩:=band h;revert h;refine Nd st (eq_of_beq h0) ?_;intro _ h;exact GP
|Y,.never,st,X,T,E,ok,h=>Nn
|Y,.rais g as,st,X,T,E,ok,h=>by
 obtain⟨h0,h⟩:=band h;obtain⟨hf,h⟩:=band h;revert hf h;refine RP st (eq_of_beq h0) ?_;intro e f p hf h;cases e with
 |none=>exact no hf
 |some e=>
 obtain⟨hf,hg⟩:=band hf;revert h hg;refine cY e (eq_of_beq hf) ?_;intro fn es kw pc h hg;revert h;refine bP fn (eq_of_beq hg) ?_;intro x px h;cases kw<;>first|exact no h|skip
 cases f<;>first|exact no h|skip
 ·skip
  obtain⟨hcm,h⟩:=band h;obtain⟨⟨⟨⟨⟨h1,h2⟩,h3⟩,h4⟩,h5⟩,h6⟩:=oE h;cases es with
  |nil=>exact no h5
  |cons e er=>
   have hs':noStar e=true/\bD er=true:=by simpa[bD]using h4
   intro pins s O H D I q;replace q:(match Y[g]? with
    |some (.cls C fs n)=>v5 C fs n (wEs X.K Y E as) E D O H
    |_=>False):=q
   split at q
   ·rename_i C fs n e1;obtain⟨hm,k,hr,fI,fd,ps,c1,c2,c3,c4,c5,rfl⟩:=ok.gl g x _ (of_decide_eq_true h1) e1;obtain⟨X0,eX,hst,hf,hh⟩:=ok.rz hcm;have pa:=sY as (e::er) ok.toOk h4 h6;have gl:=ok.toOk.jr h2;subst eX;exact NI (X:=X0) c1 c2 hr hh c3 c4 c5 gl hm pa (qM h3) (dw hs'.1) (kT hs'.2) pins s O H D I q
   ·exact q.elim
|Y,.tri i g b hd,st,X,T,E,ok,h=>by
 obtain⟨h0,h⟩:=band h;obtain⟨hf,h⟩:=band h;revert hf h;refine T5 st (eq_of_beq h0) ?_;intro body hs oe fe p hf h
 match hs,hf,h with
 |[],hf,h=>exact no hf
 |.ExceptHandler a b c d::hr,hf,h=>
  cases a with
  |none=>exact no hf
  |some a=>
  revert h;refine bP a (eq_of_beq hf) ?_;intro x px h;cases b<;>first|exact no h|skip
  rename_i n;cases c<;>first|exact no h|skip
  rename_i s0 sr;cases hr<;>first|exact no h|skip
  cases oe<;>first|exact no h|skip
  cases fe<;>first|exact no h|skip
  obtain⟨hcm,h⟩:=band h;obtain⟨⟨⟨⟨⟨⟨h1,h2⟩,h3⟩,h4⟩,h5⟩,h6⟩,h7⟩:=Eh h;intro pins s O H D I q;replace q:(match Y[g]? with
   |some (.exb B _)=>EJ X.K i B (wB X.K Y b) (wSs X.K (Y.map G.hand) E0 hd) D O H
   |_=>False):=q
  split at q
  ·rename_i B Cs e1;obtain⟨hm,hB⟩:=ok.gl g x _ (of_decide_eq_true h1) e1;obtain⟨X0,eX,hst,hf,hh⟩:=ok.rz hcm;have hl:=of_decide_eq_true h5;rw[<-ok.sc]at hl;exact UT hst hf (dW b body ok.toOk h6) (fun e=>wm hd (s0::sr) (ok.hand (.ref e)) h7) (ok.toOk.jr h2) hm hB ok.nd (ok.toOk.EZ h4) hl (qM h3) pins s O H D I q
  ·exact q.elim
theorem wm:∀{Y:List G} (cs:bV) (sts:List Stmt) {X:Cx}{T:Tab}{E:XK},HQ X T Y E->mU T cs sts=true->mP X sts (wSs X.K Y E cs)
|Y,.nil,sts,X,T,E,ok,h=>by
 cases sts with
 |nil=>exact Hv
 |cons s r=>exact no h
|Y,.cons c r,sts,X,T,E,ok,h=>by
 cases sts with
 |nil=>exact no h
 |cons s sr=>
  obtain⟨h1,h2⟩:=band h;exact uA (Vf c s ok h1) (wm r sr ok h2)
|Y,.two c d r,sts,X,T,E,ok,h=>by
 cases sts with
 |nil=>exact no h
 |cons s sr=>
  cases sr with
  |nil=>exact no h
  |cons s' sr=>
   obtain⟨h1,h2⟩:=band h;obtain⟨h2,h3⟩:=band h2;exact uA (Vf c s ok h1) (uA (Vf d s' ok h2) (wm r sr ok h3))
end
end
def E2(P:bg)(w:bH)(K:PySem.W.Frag)(mg:Str->Option Value)(base:Heap)(k:Nat)(x:Str):G->Prop
|.val v=>∃u,mg x=some u/\RelV v u
|.tup a xs=>mg x=some (.ref a)/\CT K a true xs
|.fn sp dvs=>∃(f:Addr) (fd:eW) (ps:List Str) (ds:List Value),eV P w K mg base (jH P w) k f fd ps sp/\mg x=some (.ref f)/\PySem.W.keepIn K (.ref f)=true/\Binds K fd ps ds/\bh dvs ds
|.cls C fs n=>mg x=some (.ref C)/\∃j,j+1<=k/\Ef P w K mg base j C fs n
|.gY D Cs=>mg x=some (.ref D)/\gw K D Cs
|.nM Cs as=>rO K Cs as
|.exb B _=>mg x=some (.ref B)/\Au K B
|.nop=>True
def zK(P:bg)(w:bH)(K:PySem.W.Frag)(mg:Str->Option Value)(base:Heap)(k:Nat):List Str->List G->Prop
|x::xs,g::gs=>E2 P w K mg base k x g/\zK P w K mg base k xs gs
|_,_=>True
theorem zK.get{mg:Str->Option Value}{base:Heap}:∀{xs:List Str}{gs:List G},zK P w K mg base k xs gs->∀(i:Nat) x g,xs[i]?=some x->gs[i]?=some g->E2 P w K mg base k x g
|[],_,_,i,x,g,h,_=>by simp at h
|_::_,[],_,i,x,g,_,h=>by simp at h
|x::xs,g::gs,a,0,y,g',h1,h2=>by
 simp at h1 h2;subst h1 h2;exact a.1
|x::xs,g::gs,a,i+1,y,g',h1,h2=>zK.get a.2 i y g' (by simpa using h1) (by simpa using h2)
variable{qual:Str}{st:Stmt}{f:Addr}{fd:eW}{ps:List Str}{sp:Sp}
section
variable{P:bg}{w:bH}{K:PySem.W.Frag}{mg:Str->Option Value}{base:Heap}
theorem pJ.okE(F:pJ K x qual st f fd)(S:kO N ps (bT st))(len:∀vs H Q E,sp vs H Q E->vs.length=ps.length)
  (hbody:∀(cdv:Value) (A:cJ) (outer:List Env) (s:ah) (H:Hp) (vs:List V) (Q:VK) (E:XK),gy k (A.deeper (iZ qual (bT st) s.heap.objs.size f cdv))->sp vs H Q E->
   ∃t,mP ((j7 (jH P w) P w K mg base N qual (bT st) f cdv A outer s H E).ja (sS (j7 (jH P w) P w K mg base N qual (bT st) f cdv A outer s H E) E)) (fE st) t/\t { nx:=fun _ H'=>Q .non H',rt:=Q } (start N vs) H):eV P w K mg base (jH P w) (k+1) f fd ps sp:=by
 obtain⟨oc,od,kV,doc,pm,an,cdv,ct,osl,rfl,lk,hcd⟩:=F.ex;refine Q4 lk hcd S len fun A outer s H vs Q E hr hsp=>?_;obtain⟨t,h,q⟩:=hbody cdv A outer s H vs Q E hr hsp;exact⟨t,UL h,q⟩
theorem Vg{gl bn:List Str}(c:bV)(F:pJ K x qual st f fd)(S:kO N ps (bT st))(hc:mU ⟨N,bT st,gl,bn,(fun _=>true),true⟩ c (fE st)=true)
  (hg:zK P w K mg base k gl Y) (hb:∀x∈bn,mg x=none) (len:∀vs H Q E,sp vs H Q E->vs.length=ps.length)
  (h:∀vs H Q E,sp vs H Q E->wSs K Y E c { nx:=fun _ H'=>Q .non H',rt:=Q } (start N vs) H):eV P w K mg base (jH P w) (k+1) f fd ps sp:=by
 refine pJ.okE F S len fun cdv A outer s H vs Q E hr hsp=>⟨wSs K Y E c,?_,h vs H Q E hsp⟩;have ok:HQ ((j7 (jH P w) P w K mg base N qual (bT st) f cdv A outer s H E).ja (sS (j7 (jH P w) P w K mg base N qual (bT st) f cdv A outer s H E) E)) ⟨N,bT st,gl,bn,(fun _=>true),true⟩ Y E:=by
  refine⟨⟨rfl,S.nd,rfl,S.kind,fun i x g hx hg'=>?_,hb,fun _ _=>rfl,fun _=>rfl,Jc (X:=j7 (jH P w) P w K mg base N qual (bT st) f cdv A outer s H E) rfl rfl,by have:=hr.un;show(A.deeper (iZ qual (bT st) s.heap.objs.size f cdv)).units+60<dc;omega⟩,fun _=>⟨_,rfl,rfl,rfl,hr.hd⟩⟩;have q:=hg.get i x g hx hg';cases g with
  |fn sp dvs=>
   obtain⟨f,fd,ps,ds,q1,q2,q3,q4,q5⟩:=q;exact⟨k,f,fd,ps,ds,q1,hr,q2,q3,q4,q5,R_⟩
  |cls C fs n=>
   obtain⟨q1,j,q2,q3⟩:=q;exact⟨q1,j,hr.mono q2,q3⟩
  |_=>exact q
 exact wm c _ ok hc
theorem eV.calm(F:eV P w K mg base (jH P w) k f fd ps sp):eV P w K mg base yK k f fd ps (fun vs H Q _=>sp vs H Q E0):=
 ⟨fun vs H Q E h=>F.len vs H Q E0 h,fun A outer s H args us vs Q E hr he hb hv hs=>iF (F.run A outer s H args us vs Q E0 hr he hb hv hs) fun r s' q=>by
  cases r with
  |error v=>exact(N5 q).elim
  |ok fl=>cases fl<;>exact q⟩
end
end L3
end
section
namespace L3
open PySem L2
theorem Xz(a c:Nat):decide ([c]<[a])=decide (c<a):=by
 rw[Ku,Nf];simp
theorem len_str(x:Str):x.cps.toList.length=x.length:=by simp[fB]
mutual
def bK(K:PySem.W.Frag)(H F:Hp):D->V->List Addr->Prop
|.non,v,fp=>v=.non/\fp=[]
|.bl b,v,fp=>v=.bl b/\fp=[]
|.int i,v,fp=>v=.int i/\fp=[]
|.str x,v,fp=>(v=.str x/\x.length<=aa)/\fp=[]
|.lst o ds,v,fp=>if o=true then ∃a vs fs,v=.ref a/\H a=some (.lst vs)/\vs.length<=aa/\a7 K H F ds vs fs/\fp=a::fs else aV K F (.lst o ds) v/\fp=[]
|.tup ds,v,fp=>∃a vs,v=.ref a/\F a=some (.tup vs)/\vs.length<=aa/\a7 K H F ds vs fp
|.cst ds,v,fp=>aV K F (.cst ds) v/\fp=[]
|.exc C ks ds,v,fp=>aV K F (.exc C ks ds) v/\fp=[]
def a7(K:PySem.W.Frag)(H F:Hp):List D->List V->List Addr->Prop
|[],vs,fp=>vs=[]/\fp=[]
|d::ds,vs,fp=>∃v r f1 f2,vs=v::r/\fp=f1++f2/\bK K H F d v f1/\a7 K H F ds r f2
end
variable{d:D}{v:V}{fp:List Addr}
section
variable{K:PySem.W.Frag}{H H' F F':Hp}
theorem fH.same'{a:Addr}{t:Bool}{xs:List V}(e:aY H H')(h:fH K H a t xs):fH K H' a t xs:=by
 rcases h with h|h
 ·refine .inl ?_;unfold BC at h ⊢;cases q:H a with
  |none=>rw[q]at h;cases h
  |some o=>rw[q]at h;rw[e a o q];exact h
 ·exact .inr h
theorem Rd.same{a:Addr}{u:HO}(e:aY H H')(h:Rd H a u):Rd H' a u:=by
 rcases h with h|⟨o,h⟩
 ·exact .inl (e _ _ h)
 ·exact .inr ⟨o,e _ _ h⟩
theorem Rd.seq{a:Addr}{xs:List V}(h:Rd H a (.lst xs)):fH K H a false xs:=by
 refine .inl ?_;unfold BC;rcases h with h|⟨o,h⟩<;>rw[h]
mutual
theorem aV.mono(e:aY H H'):∀(d:D) (v:V),aV K H d v->aV K H' d v
|.non,v,h=>h
|.bl b,v,h=>h
|.int i,v,h=>h
|.str x,v,h=>h
|.lst o ds,v,h=>by
 obtain⟨a,vs,h1,h2,h3,h4⟩:=h;exact⟨a,vs,h1,Rd.same e h2,h3,aD.mono e ds vs h4⟩
|.tup ds,v,h=>by
 obtain⟨a,vs,h1,h2,h3,h4⟩:=h;exact⟨a,vs,h1,e _ _ h2,h3,aD.mono e ds vs h4⟩
|.cst ds,v,h=>by
 obtain⟨a,vs,h1,h2,h3,h4⟩:=h;exact⟨a,vs,h1,h2,h3,aD.mono e ds vs h4⟩
|.exc C ks ds,v,h=>by
 obtain⟨a,d,vs,h1,h2,h3,h4⟩:=h;exact⟨a,d,vs,h1,e _ _ h2,e _ _ h3,aD.mono e ds vs h4⟩
theorem aD.mono(e:aY H H'):∀(ds:List D) (vs:List V),aD K H ds vs->aD K H' ds vs
|[],vs,h=>h
|d::ds,vs,h=>by
 obtain⟨v,r,h1,h2,h3⟩:=h;exact⟨v,r,h1,aV.mono e d v h2,aD.mono e ds r h3⟩
end
mutual
theorem aV.bq:∀(d:D) (v:V),aV K F (bq d) v↔aV K F d v
|.non,v=>yr
|.bl b,v=>yr
|.int i,v=>yr
|.str x,v=>yr
|.lst o ds,v=>by
 constructor
 ·rintro⟨a,vs,h1,h2,h3,h4⟩;exact⟨a,vs,h1,h2,h3,(aD.aC ds vs).mp h4⟩
 ·rintro⟨a,vs,h1,h2,h3,h4⟩;exact⟨a,vs,h1,h2,h3,(aD.aC ds vs).mpr h4⟩
|.tup ds,v=>by
 constructor
 ·rintro⟨a,vs,h1,h2,h3,h4⟩;exact⟨a,vs,h1,h2,h3,(aD.aC ds vs).mp h4⟩
 ·rintro⟨a,vs,h1,h2,h3,h4⟩;exact⟨a,vs,h1,h2,h3,(aD.aC ds vs).mpr h4⟩
|.cst ds,v=>by
 constructor
 ·rintro⟨a,vs,h1,h2,h3,h4⟩;exact⟨a,vs,h1,h2,h3,(aD.aC ds vs).mp h4⟩
 ·rintro⟨a,vs,h1,h2,h3,h4⟩;exact⟨a,vs,h1,h2,h3,(aD.aC ds vs).mpr h4⟩
|.exc C ks ds,v=>by
 constructor
 ·rintro⟨a,d,vs,h1,h2,h3,h4⟩;exact⟨a,d,vs,h1,h2,h3,(aD.aC ds vs).mp h4⟩
 ·rintro⟨a,d,vs,h1,h2,h3,h4⟩;exact⟨a,d,vs,h1,h2,h3,(aD.aC ds vs).mpr h4⟩
theorem aD.aC:∀(ds:List D) (vs:List V),aD K F (aC ds) vs↔aD K F ds vs
|[],vs=>yr
|d::ds,vs=>by
 constructor
 ·rintro⟨v,r,h1,h2,h3⟩;exact⟨v,r,h1,(aV.bq d v).mp h2,(aD.aC ds r).mp h3⟩
 ·rintro⟨v,r,h1,h2,h3⟩;exact⟨v,r,h1,(aV.bq d v).mpr h2,(aD.aC ds r).mpr h3⟩
end
mutual
theorem aV.yP:∀(d:D) (v:V),aV K F d v->bK K H F (bq d) v []
|.non,v,h=>⟨h,rfl⟩
|.bl b,v,h=>⟨h,rfl⟩
|.int i,v,h=>⟨h,rfl⟩
|.str x,v,h=>⟨h,rfl⟩
|.lst o ds,v,h=>⟨(aV.bq (.lst o ds) v).mpr h,rfl⟩
|.tup ds,v,h=>by
 obtain⟨a,vs,h1,h2,h3,h4⟩:=h;exact⟨a,vs,h1,h2,h3,aD.yP ds vs h4⟩
|.cst ds,v,h=>⟨(aV.bq (.cst ds) v).mpr h,rfl⟩
|.exc C ks ds,v,h=>⟨(aV.bq (.exc C ks ds) v).mpr h,rfl⟩
theorem aD.yP:∀(ds:List D) (vs:List V),aD K F ds vs->a7 K H F (aC ds) vs []
|[],vs,h=>⟨h,rfl⟩
|d::ds,vs,h=>by
 obtain⟨v,r,h1,h2,h3⟩:=h;exact⟨v,r,[],[],h1,rfl,aV.yP d v h2,aD.yP ds r h3⟩
end
mutual
theorem bK.mono(e:aY F F'):∀(d:D) (v:V) (fp:List Addr),(∀a∈fp,H' a=H a)->bK K H F d v fp->bK K H' F' d v fp
|.non,v,fp,_,h=>h
|.bl b,v,fp,_,h=>h
|.int i,v,fp,_,h=>h
|.str x,v,fp,_,h=>h
|.lst o ds,v,fp,s,h=>by
 unfold bK at h ⊢;split at h
 ·rename_i ho;rw[if_pos ho];obtain⟨a,vs,fs,h1,h2,h3,h4,rfl⟩:=h;exact⟨a,vs,fs,h1,by rw[s a aq];exact h2,h3,a7.mono e ds vs fs (fun b hb=>s b (ai _ hb)) h4,rfl⟩
 ·rename_i ho;rw[if_neg ho];exact⟨aV.mono e _ v h.1,h.2⟩
|.tup ds,v,fp,s,h=>by
 obtain⟨a,vs,h1,h2,h3,h4⟩:=h;exact⟨a,vs,h1,e _ _ h2,h3,a7.mono e ds vs fp s h4⟩
|.cst ds,v,fp,s,h=>⟨aV.mono e _ v h.1,h.2⟩
|.exc C ks ds,v,fp,s,h=>⟨aV.mono e _ v h.1,h.2⟩
theorem a7.mono(e:aY F F'):∀(ds:List D) (vs:List V) (fp:List Addr),(∀a∈fp,H' a=H a)->a7 K H F ds vs fp->a7 K H' F' ds vs fp
|[],vs,fp,_,h=>h
|d::ds,vs,fp,s,h=>by
 obtain⟨v,r,f1,f2,h1,rfl,h3,h4⟩:=h;exact⟨v,r,f1,f2,h1,rfl,bK.mono e d v f1 (fun b hb=>s b (aK _ hb)) h3,a7.mono e ds r f2 (fun b hb=>s b (au _ hb)) h4⟩
end
mutual
theorem bK.fix(e:aY F F'):∀(d:D) (v:V) (fp:List Addr),(∀a∈fp,F' a=H a)->bK K H F d v fp->aV K F' d v
|.non,v,fp,_,h=>h.1
|.bl b,v,fp,_,h=>h.1
|.int i,v,fp,_,h=>h.1
|.str x,v,fp,_,h=>h.1
|.lst o ds,v,fp,s,h=>by
 unfold bK at h;split at h
 ·obtain⟨a,vs,fs,h1,h2,h3,h4,rfl⟩:=h;exact⟨a,vs,h1,.inl (by rw[s a aq];exact h2),h3,a7.fix e ds vs fs (fun b hb=>s b (ai _ hb)) h4⟩
 ·exact aV.mono e _ v h.1
|.tup ds,v,fp,s,h=>by
 obtain⟨a,vs,h1,h2,h3,h4⟩:=h;exact⟨a,vs,h1,e _ _ h2,h3,a7.fix e ds vs fp s h4⟩
|.cst ds,v,fp,s,h=>aV.mono e _ v h.1
|.exc C ks ds,v,fp,s,h=>aV.mono e _ v h.1
theorem a7.fix(e:aY F F'):∀(ds:List D) (vs:List V) (fp:List Addr),(∀a∈fp,F' a=H a)->a7 K H F ds vs fp->aD K F' ds vs
|[],vs,fp,_,h=>h.1
|d::ds,vs,fp,s,h=>by
 obtain⟨v,r,f1,f2,h1,rfl,h3,h4⟩:=h;exact⟨v,r,h1,bK.fix e d v f1 (fun b hb=>s b (aK _ hb)) h3,a7.fix e ds r f2 (fun b hb=>s b (au _ hb)) h4⟩
end
def E3:HO->Prop
|.lst _=>True
|.dK _=>True
|.dT _=>True
|_=>False
def zL(F' F:Hp):Prop:=∀b o,F' b=some o->F b=some o\/E3 o
theorem zL.tup{a:Addr}{xs:List V}(e:zL F' F)(h:F' a=some (.tup xs)):F a=some (.tup xs):=by
 rcases e a _ h with z|z
 ·exact z
 ·exact z.elim
mutual
theorem bK.less(e:zL F' F):∀(d:D) (v:V) (fp:List Addr),aT d=true->bK K H F' d v fp->bK K H F d v fp
|.non,v,fp,_,h=>h
|.bl b,v,fp,_,h=>h
|.int i,v,fp,_,h=>h
|.str x,v,fp,_,h=>h
|.lst o ds,v,fp,s,h=>by
 have s':o=true/\dO ds=true:=by simpa[aT]using s
 unfold bK at h ⊢;rw[if_pos s'.1]at h ⊢;obtain⟨a,vs,fs,h1,h2,h3,h4,rfl⟩:=h;exact⟨a,vs,fs,h1,h2,h3,a7.less e ds vs fs s'.2 h4,rfl⟩
|.tup ds,v,fp,s,h=>by
 obtain⟨a,vs,h1,h2,h3,h4⟩:=h;exact⟨a,vs,h1,e.tup h2,h3,a7.less e ds vs fp s h4⟩
|.cst ds,v,fp,s,h=>by cases s
|.exc C ks ds,v,fp,s,h=>by cases s
theorem a7.less(e:zL F' F):∀(ds:List D) (vs:List V) (fp:List Addr),dO ds=true->a7 K H F' ds vs fp->a7 K H F ds vs fp
|[],vs,fp,_,h=>h
|d::ds,vs,fp,s,h=>by
 have s':aT d=true/\dO ds=true:=by simpa[dO]using s
 obtain⟨v,r,f1,f2,h1,rfl,h3,h4⟩:=h;exact⟨v,r,f1,f2,h1,rfl,bK.less e d v f1 s'.1 h3,a7.less e ds r f2 s'.2 h4⟩
end
theorem aD.len:∀{ds:List D}{vs:List V},aD K H ds vs->vs.length=ds.length
|[],_,h=>by cases h;rfl
|d::ds,_,h=>by
 obtain⟨v,r,rfl,_,h3⟩:=h;simp[aD.len h3]
theorem a7.len:∀{ds:List D}{vs:List V}{fp:List Addr},a7 K H F ds vs fp->vs.length=ds.length
|[],_,_,h=>by cases h.1;rfl
|d::ds,_,_,h=>by
 obtain⟨v,r,_,_,rfl,_,_,h3⟩:=h;simp[a7.len h3]
theorem aD.get:∀{ds:List D}{vs:List V} (i:Nat) {d:D},aD K H ds vs->ds[i]?=some d->∃v,vs[i]?=some v/\aV K H d v
|[],_,i,_,_,e=>by simp at e
|d::ds,_,0,_,h,e=>by
 obtain⟨v,r,rfl,h2,_⟩:=h;simp at e;subst e;exact⟨v,rfl,h2⟩
|d::ds,_,i+1,_,h,e=>by
 obtain⟨v,r,rfl,_,h3⟩:=h;obtain⟨w,e1,e2⟩:=aD.get i h3 (by simpa using e);exact⟨w,by simpa using e1,e2⟩
theorem aD.app:∀{ds ds':List D}{vs vs':List V},aD K H ds vs->aD K H ds' vs'->aD K H (ds++ds') (vs++vs')
|[],_,_,_,h,h'=>by cases h;exact h'
|d::ds,_,_,_,h,h'=>by
 obtain⟨v,r,rfl,h2,h3⟩:=h;exact⟨v,_,rfl,h2,aD.app h3 h'⟩
theorem a7.app:∀{ds ds':List D}{vs vs':List V}{f f':List Addr},a7 K H F ds vs f->a7 K H F ds' vs' f'->a7 K H F (ds++ds') (vs++vs') (f++f')
|[],_,_,_,_,_,h,h'=>by obtain⟨rfl,rfl⟩:=h;exact h'
|d::ds,_,_,_,_,_,h,h'=>by
 obtain⟨v,r,f1,f2,rfl,rfl,h2,h3⟩:=h;exact⟨v,_,f1,_,rfl,by simp,h2,a7.app h3 h'⟩
theorem a7.one(h:bK K H F d v fp):a7 K H F [d] [v] fp:=⟨v,[],fp,[],rfl,by simp,h,rfl,rfl⟩
end
inductive R (α:Type) where
|ok (a:α)|ex (x:D)|bad
noncomputable def R.bind{α β:Type}:R α->(α->R β)->R β
|.ok a,f=>f a
|.ex x,_=>.ex x
|.bad,_=>.bad
noncomputable def R.opt{α:Type}:Option α->R α
|some a=>.ok a
|none=>.bad
noncomputable def R.eN{α:Type}:R α->R α
|.ok a=>.ok a
|_=>.bad
noncomputable def R.be{α:Type}(b:Bool)(r:R α):R α:=match b with
|true=>r
|false=>.bad
instance (i j:Int):Decidable (sO i j):=by unfold sO;infer_instance
instance (i j:Int):Decidable (uC i j):=by unfold uC;infer_instance
instance (i j:Int):Decidable (Er i j):=by unfold Er;infer_instance
noncomputable def Vh:D->Option Key
|.int i=>some (.inl i)
|.str x=>some (.inr x)
|_=>none
noncomputable def Rk:List D->Option (List Key)
|[]=>some []
|d::r=>(Vh d).bind fun k=>(Rk r).map (k::·)
noncomputable def Yk:D->Option (List Key)
|.tup xs=>Rk xs
|_=>none
noncomputable def Yp{κ:Type}[DecidableEq κ]:List κ->List D->κ->Option D
|k::ks,d::ds,q=>if k=q then some d else Yp ks ds q
|_,_,_=>none
noncomputable def AE(z:Str)(n:Nat):Str:=⟨(aB n z.cps.toList).flatten.toArray⟩
noncomputable def iV:D->Bool
|.non=>true
|_=>false
noncomputable def lM:D->Bool
|.bl _=>true
|_=>false
noncomputable def mX:D->Bool
|.bl true=>true
|_=>false
noncomputable def YV:D->Bool
|.int _=>true
|_=>false
noncomputable def jL:List D->Option (List Str)
|[]=>some []
|.str x::r=>(jL r).map (x::·)
|_::_=>none
noncomputable def sZ:List D->Option (List Bool)
|[]=>some []
|.bl b::r=>(sZ r).map (b::·)
|_::_=>none
noncomputable def Jr(m:Mt)(xs:List D)(k:Bool):R D:=match m with
|.count=>(R.opt (sZ xs)).bind fun bs=>.ok (.int (bs.count k))
|.index=>(R.opt (sZ xs)).bind fun bs=>.be (decide (k∈bs)) (.ok (.int (bs.idxOf k)))
|_=>.bad
noncomputable def eG(op:ji)(x y:D):R D:=match x,y with
|.int i,.int j=>match op with
 |.Add=>.ok (.int (i+j))
 |.Sub=>.ok (.int (i-j))
 |.Mult=>.be (decide (sO i j)) (.ok (.int (i*j)))
 |.FloorDiv=>.be (decide (uC i j)) (.ok (.int (i / j)))
 |.Mod=>.be (decide (0<j)) (.ok (.int (i%j)))
 |.Pow=>.be (decide (Er i j)) (.ok (.int (i ^ j.toNat)))
 |_=>.bad
|.str i,.str j=>match op with
 |.Add=>.be (decide (i.length+j.length<=aa)) (.ok (.str (i++j)))
 |_=>.bad
|.str i,.int j=>match op with
 |.Mult=>.be (decide (0<=j/\j<2 ^ 40/\i.length*j.toNat<=aa)) (.ok (.str (AE i j.toNat)))
 |_=>.bad
|.lst _ xs,.lst _ ys=>match op with
 |.Add=>.be (decide (xs.length+ys.length<=aa)) (.ok (.lst true (aC xs++aC ys)))
 |_=>.bad
|.tup xs,.tup ys=>match op with
 |.Add=>.be (!xs.isEmpty&&!ys.isEmpty&&decide (xs.length+ys.length<=aa)) (.ok (.tup (aC xs++aC ys)))
 |_=>.bad
|.lst _ xs,.int k=>match op with
 |.Mult=>.be (decide ((-(2 ^ 63)<=k/\k<2 ^ 63)/\xs.length*k.toNat<=aa)) (.ok (.lst true (aB k.toNat (aC xs)).flatten))
 |_=>.bad
|_,_=>.bad
noncomputable def Vi(op:nB)(x y:D):R D:=match x,y with
|.int i,.int j=>match op with
 |.Lt=>.ok (.bl (decide (i<j)))
 |.LtE=>.ok (.bl (decide (i<=j)))
 |.Gt=>.ok (.bl (decide (j<i)))
 |.GtE=>.ok (.bl (decide (j<=i)))
 |_=>.bad
|.str i,.str j=>match op with
 |.Lt=>.ok (.bl (decide (i.cps.toList<j.cps.toList)))
 |.LtE=>.ok (.bl (!decide (j.cps.toList<i.cps.toList)))
 |_=>.bad
|_,_=>.bad
noncomputable def inD(x y:D):R Bool:=match y with
|.lst _ ys=>.be (dD x&&kr ys) (.ok (memD x ys))
|.tup ys=>.be (dD x&&kr ys) (.ok (memD x ys))
|.cst ys=>.be (dD x&&kr ys) (.ok (memD x ys))
|_=>.bad
noncomputable def bQ(op:nB)(x y:D):R D:=match op with
|.Eq=>.be (dD x&&dD y) (.ok (.bl (jm x y)))
|.NotEq=>.be (dD x&&dD y) (.ok (.bl (!jm x y)))
|.Is=>.be (iV y) (.ok (.bl (iV x)))
|.IsNot=>.be (iV y) (.ok (.bl (!iV x)))
|.In=>(inD x y).bind fun b=>.ok (.bl b)
|.NotIn=>(inD x y).bind fun b=>.ok (.bl (!b))
|op=>Vi op x y
noncomputable def gR:D->R Bool
|.bl b=>.ok b
|.non=>.ok false
|.int i=>.ok (i != 0)
|.str z=>.ok (z.length != 0)
|.lst _ xs=>.ok (!xs.isEmpty)
|.tup xs=>.ok (!xs.isEmpty)
|.cst _=>.bad
|.exc _ _ _=>.bad
noncomputable def rP(x y:D):R D:=match x with
|.str z=>match y with
 |.int i=>(R.opt (fh z.cps.toList i)).bind fun c=>.ok (.str ⟨#[c]⟩)
 |_=>.bad
|.lst _ xs=>match y with
 |.int i=>(R.opt (fh xs i)).bind fun d=>.ok (bq d)
 |_=>.bad
|.tup xs=>match y with
 |.int i=>(R.opt (fh xs i)).bind fun d=>.ok (bq d)
 |_=>.bad
|_=>.bad
noncomputable def HR(x:D)(lo hi:Option Int):R D:=match x with
|.str z=>.ok (.str ⟨(cut z.cps.toList lo hi).toArray⟩)
|.lst _ xs=>.ok (.lst true (aC (cut xs lo hi)))
|.tup xs=>match lo,hi with
 |some n,none=>.be (decide (1<=n/\n<=xs.length)) (.ok (.tup (aC (xs.drop n.toNat))))
 |_,_=>.bad
|_=>.bad
noncomputable def N_(x:D)(lo hi:Option Int)(k:Int):R D:=match x with
|.lst _ xs=>.be (decide (k≠0)&&decide ((lG xs lo hi k).length<=aa)) (.ok (.lst true (aC (lG xs lo hi k))))
|_=>.bad
noncomputable def pairD:D->Option (Key×D)
|.tup [k,v]=>(Vh k).map fun q=>(q,v)
|_=>none
noncomputable def jy(f:Bf)(vs:List D):R D:=match vs with
|[x]=>match f with
 |.len=>match x with
  |.str z=>.ok (.int z.length)
  |.lst _ xs=>.ok (.int xs.length)
  |.tup xs=>.ok (.int xs.length)
  |_=>.bad
 |.all=>match x with
  |.lst _ xs=>.be (xs.all lM) (.ok (.bl (xs.all mX)))
  |_=>.bad
 |.any=>match x with
  |.lst _ xs=>.be (xs.all lM) (.ok (.bl (xs.any mX)))
  |_=>.bad
 |.int=>match x with
  |.int i=>.ok (.int i)
  |.bl b=>.ok (.int (if b then 1 else 0))
  |.str z=>.be (decide (z.length<=640)) ((R.opt (intText? z)).bind fun n=>.ok (.int n))
  |_=>.bad
 |.str=>match x with
  |.int i=>.be (decide (i.natAbs.log2<1920)&&decide ((mR i).length<=aa)) (.ok (.str (mR i)))
  |_=>.bad
 |.abs=>match x with
  |.int i=>.ok (.int (if i<0 then -i else i))
  |_=>.bad
 |_=>.bad
|[x,y]=>match x,y with
 |.int i,.int j=>match f with
  |.min=>.ok (.int (if j<i then j else i))
  |_=>.bad
 |_,_=>.bad
|_=>.bad
noncomputable def uN(t:Ty):D->Bool
|.non=>false
|.bl _=>decide (t=.bool)||decide (t=.int)
|.int _=>decide (t=.int)
|.str _=>decide (t=.str)
|.lst _ _=>decide (t=.list)
|.tup _=>decide (t=.tuple)
|.cst _=>decide (t=.tuple)
|.exc _ _ _=>false
noncomputable def oO:D->Bool
|.exc _ _ _=>false
|_=>true
noncomputable def qN(c:Nat)(l:List Nat):List D:=(cM c l).map fun p=>D.str (strOf p)
noncomputable def lz(m:Mt)(x:D)(vs:List D):R D:=match x with
|.str z=>match vs with
 |[y]=>match y with
  |.str q=>match m with
   |.startswith=>.ok (.bl (q.cps.toList.isPrefixOf z.cps.toList))
   |.split=>.be (decide (q.length=1)&&decide (z.length+2<=aa)) (.ok (.lst true (qN (q.cps.getD 0 0) z.cps.toList)))
   |.count=>.be (decide (q.length=1)) (.ok (.int (z.cps.toList.count (q.cps.getD 0 0))))
   |.index=>.be (decide (q.length=1)&&decide ((q.cps.getD 0 0)∈z.cps.toList)) (.ok (.int (z.cps.toList.idxOf (q.cps.getD 0 0))))
   |_=>.bad
  |.lst _ ys=>match m with
   |.join=>(R.opt (jL ys)).bind fun ss=>.be (decide ((ss.map (·.length)).sum+ss.length*z.length<=aa)) (.ok (.str (dU z ss)))
   |_=>.bad
  |_=>.bad
 |[]=>match m with
  |.split=>.be (decide ((gD z).length<=aa)&&(gD z).all fun w=>decide (w.length<=aa)) (.ok (.lst true ((gD z).map D.str)))
  |_=>.bad
 |_=>.bad
|.lst _ xs=>match vs with
 |[y]=>match y with
  |.bl k=>Jr m xs k
  |_=>.bad
 |_=>.bad
|_=>.bad
noncomputable abbrev a_:=List (Option D)
inductive PG where
|val (d:D)
|fn (m:List D->R D) (dds:List D)
|cls (C:Addr) (fs:List (Str×Nat)) (n:Nat)
|gY (D:Addr) (Cs:List Addr)
|nM (Cs:List Addr) (as:List Str)
|exb (Cs:List Addr)
|nop
inductive Fl where
|nx (O:a_)|rt (d:D)|bk (O:a_)|ct (O:a_)|ex (x:D)|bad
noncomputable def R.aR{α:Type}:R α->(α->Fl)->Fl
|.ok a,f=>f a
|.ex x,_=>.ex x
|.bad,_=>.bad
noncomputable def R.nY{α:Type}(b:Bool):R α->(α->Fl)->Fl
|.ok a,f=>f a
|.ex x,_=>match b with
 |true=>.ex x
 |false=>.bad
|.bad,_=>.bad
noncomputable def PG.hand:PG->PG
|.fn _ _=>.nop
|.cls _ _ _=>.nop
|p=>p
noncomputable def wo:V->R D
|.non=>.ok .non
|.bl b=>.ok (.bl b)
|.int i=>.ok (.int i)
|.str x=>.ok (.str x)
|_=>.bad
noncomputable def tW(z:Str):List D:=z.cps.toList.map fun c=>D.str ⟨#[c]⟩
noncomputable def oQ(lo:Int)(n:Nat):List D:=(bY n).map fun(i:Nat)=>D.int (lo+(i:Int))
noncomputable def s9:List D->List D->List D
|x::xs,y::ys=>.tup [x,y]::s9 xs ys
|_,_=>[]
noncomputable def uO:List D->R (Bool×List D)
|[.lst _ xs,.lst _ ys]=>.ok (false,s9 (aC xs) (aC ys))
|_=>.bad
noncomputable def iO:Nat->List D->List D
|_,[]=>[]
|n,x::r=>.tup [.int (n:Int),x]::iO (n+1) r
noncomputable def o7:D->R (List D)
|.str z=>.ok (tW z)
|.lst _ xs=>.ok (aC xs)
|.tup xs=>.ok (aC xs)
|_=>.bad
noncomputable def qO:List D->R (List D)
|[.int j]=>.be (decide (-(2 ^ 62)<=j/\j.toNat<=aa)) (.ok (oQ 0 j.toNat))
|[.int i,.int j]=>.be (decide (-(2 ^ 62)<=i/\i<2 ^ 62/\-(2 ^ 62)<=j/\j<2 ^ 62/\(j-i).toNat<=aa)) (.ok (oQ i (j-i).toNat))
|_=>.bad
noncomputable def cZ(g:D->a_->R a_)(c:a_->R Bool)(e:a_->R D):List D->a_->R (List D)
|[],_=>.ok []
|d::r,O=>(g d O).bind fun Zg=>(c Zg).bind fun b=>if b=true then(e Zg).bind fun y=>(cZ g c e r Zg).bind fun ys=>.ok (y::ys)else cZ g c e r Zg
noncomputable def forR(g:D->a_->R a_)(b:a_->Fl):List D->a_->Fl
|[],O=>.nx O
|d::r,O=>(g d O).aR fun Zg=>match b Zg with
 |.nx Zh=>forR g b r Zh
 |.ct Zh=>forR g b r Zh
 |.bk Zh=>.nx Zh
 |.rt d=>.rt d
 |.ex x=>.ex x
 |.bad=>.bad
noncomputable def s_(c:a_->R Bool)(b:a_->Fl):Nat->a_->Fl
|0,_=>.bad
|n+1,O=>(c O).aR fun k=>if k=true then match b O with
 |.nx Zh=>s_ c b n Zh
 |.ct Zh=>s_ c b n Zh
 |.bk Zh=>.nx Zh
 |.rt d=>.rt d
 |.ex x=>.ex x
 |.bad=>.bad
 else .nx O
noncomputable def BK(Y:List PG):List Nat->Option Addr->Option Bool
|[],_=>some false
|g::r,c=>match Y[g]? with
 |some (.gY D Cs)=>match c with
  |none=>BK Y r c
  |some C=>if C∈Cs then(if C=D then some true else BK Y r c)else none
 |_=>none
noncomputable def Oa(Y:List PG)(gs:List Nat):Bool:=gs.all fun g=>match Y[g]? with
|some (.gY _ _)=>true
|_=>false
noncomputable def wu(Y:List PG)(gs:List Nat)(x:D):R Bool:=.be (!gs.isEmpty&&decide (gs.length<=1000)&&Oa Y gs) (match x with
|.non=>R.opt (BK Y gs none)
|.exc C _ _=>R.opt (BK Y gs (some C))
|_=>.bad)
noncomputable def wx(Y:List PG)(g:Nat)(x:D):R Bool:=match Y[g]? with
|some (.nM Cs _)=>match x with
 |.non=>.ok false
 |.exc C _ _=>.be (decide (C∈Cs)) (.ok true)
 |_=>.bad
|_=>.bad
noncomputable def Js:List Str->List D->Str->Option D
|k::ks,d::ds,f=>if f=k then some d else Js ks ds f
|_,_,_=>none
noncomputable def BL(Y:List PG)(g:Nat)(f:Str)(x:D):R D:=match Y[g]? with
|some (.nM Cs as)=>match x with
 |.exc C ks xs=>.be (decide (C∈Cs)&&decide (f∈as)) ((R.opt (Js ks xs f)).bind fun d=>.ok (bq d))
 |_=>.bad
|_=>.bad
noncomputable def AF:D->R D
|.lst _ ds=>match jL ds with
 |some ss=>.be (decide (ss.length<4000)) (.ok (.int (mS ss).length))
 |none=>.bad
|_=>.bad
mutual
noncomputable def pE(Y:List PG):CE->a_->R D
|.var i=>fun O=>match O[i]? with
 |some (some d)=>.ok (bq d)
 |_=>.bad
|.con v=>fun _=>wo v
|.glo g=>fun _=>match Y[g]? with
 |some (.val d)=>.ok (bq d)
 |_=>.bad
|.bin op a b=>fun O=>(pE Y a O).bind fun x=>(pE Y b O).bind fun y=>eG op x y
|.nset a=>fun O=>(pE Y a O).bind fun x=>AF x
|.neg a=>fun O=>(pE Y a O).bind fun x=>match x with
 |.int i=>.ok (.int (-i))
 |_=>.bad
|.not a=>fun O=>(pE Y a O).bind fun x=>(gR x).bind fun b=>.ok (.bl (!b))
|.and a b=>fun O=>(pE Y a O).bind fun x=>match x with
 |.bl c=>if c=true then pE Y b O else .ok (.bl false)
 |_=>.bad
|.or a b=>fun O=>(pE Y a O).bind fun x=>match x with
 |.bl c=>if c=true then .ok (.bl true)else pE Y b O
 |_=>.bad
|.ite c a b=>fun O=>(pT Y c O).bind fun k=>if k=true then pE Y a O else pE Y b O
|.cmp op a b=>fun O=>(pE Y a O).bind fun x=>(pE Y b O).bind fun y=>bQ op x y
|.chain o1 o2 a b c=>fun O=>(pE Y a O).bind fun x=>(pE Y b O).bind fun y=>(bQ o1 x y).bind fun z=>match z with
 |.bl k=>if k=true then(pE Y c O).bind fun u=>bQ o2 y u else .ok (.bl false)
 |_=>.bad
|.call g as=>fun O=>match Y[g]? with
 |some (.fn m dds)=>(dJ Y as O).bind fun ds=>m (aC ds++dds)
 |_=>.bad
|.blt f as=>fun O=>(dJ Y as O).bind fun ds=>jy f ds
|.isi a t=>fun O=>(pE Y a O).bind fun x=>.be (oO x) (.ok (.bl (uN t x)))
|.mth m o as=>fun O=>(pE Y o O).bind fun x=>(dJ Y as O).eN.bind fun ds=>lz m x ds
|.ix a b=>fun O=>(pE Y a O).bind fun x=>(pE Y b O).bind fun y=>rP x y
|.sl a lo hi=>fun O=>(pE Y a O).bind fun x=>(pO Y lo O).bind fun l=>(pO Y hi O).bind fun h=>HR x l h
|.lst as=>fun O=>(dJ Y as O).bind fun ds=>.be (decide (ds.length<=aa)) (.ok (.lst true ds))
|.tup as=>fun O=>(dJ Y as O).bind fun ds=>.be (decide (ds.length<=aa)) (.ok (.tup ds))
|.comp nl fr elt tg src cond=>fun O=>(pI Y src O).bind fun items=>(cZ (pG tg) (pC Y cond) (pE Y elt) items.2 (nl.map (fun _=>none)++fr.map (fun i=>O.getD i none))).eN.bind fun ds=>.ok (.lst true ds)
|.isx _ gs a=>fun O=>(pE Y a O).bind fun x=>(wu Y gs x).bind fun b=>.ok (.bl b)
|.isv g a=>fun O=>(pE Y a O).bind fun x=>(wx Y g x).bind fun b=>.ok (.bl b)
|.att g a f=>fun O=>(pE Y a O).bind fun x=>BL Y g f x
|.slp a lo hi k=>fun O=>(pE Y a O).bind fun x=>(pO Y lo O).bind fun l=>(pO Y hi O).bind fun h=>N_ x l h k
noncomputable def pT(Y:List PG):CE->a_->R Bool
|.not a=>fun O=>(pT Y a O).bind fun b=>.ok (!b)
|.and a b=>fun O=>(pT Y a O).bind fun c=>if c=true then pT Y b O else .ok false
|.or a b=>fun O=>(pT Y a O).bind fun c=>if c=true then .ok true else pT Y b O
|.ite c a b=>fun O=>(pT Y c O).bind fun k=>if k=true then pT Y a O else pT Y b O
|.cmp op a b=>fun O=>(pE Y a O).bind fun x=>(pE Y b O).bind fun y=>(bQ op x y).bind fun z=>match z with
 |.bl k=>.ok k
 |_=>.bad
|.chain o1 o2 a b c=>fun O=>(pE Y a O).bind fun x=>(pE Y b O).bind fun y=>(bQ o1 x y).bind fun z=>match z with
 |.bl k=>if k=true then(pE Y c O).bind fun u=>(bQ o2 y u).bind fun z=>match z with
  |.bl k=>.ok k
  |_=>.bad
  else .ok false
 |_=>.bad
|.var i=>fun O=>match O[i]? with
 |some (some d)=>gR d
 |_=>.bad
|.ix a b=>fun O=>((pE Y a O).bind fun x=>(pE Y b O).bind fun y=>rP x y).bind gR
|.call g as=>fun O=>match Y[g]? with
 |some (.fn m dds)=>((dJ Y as O).bind fun ds=>m (aC ds++dds)).bind gR
 |_=>.bad
|.blt f as=>fun O=>((dJ Y as O).bind fun ds=>jy f ds).bind gR
|.isi a t=>fun O=>(pE Y a O).bind fun x=>.be (oO x) (.ok (uN t x))
|.mth m o as=>fun O=>(pE Y o O).bind fun x=>(dJ Y as O).eN.bind fun ds=>(lz m x ds).bind gR
|.isx _ gs a=>fun O=>(pE Y a O).bind fun x=>wu Y gs x
|.isv g a=>fun O=>(pE Y a O).bind fun x=>wx Y g x
|_=>fun _=>.bad
noncomputable def dJ(Y:List PG):ia->a_->R (List D)
|.nil=>fun _=>.ok []
|.cons a r=>fun O=>(pE Y a O).bind fun x=>(dJ Y r O).bind fun xs=>.ok (x::xs)
noncomputable def pO(Y:List PG):CO->a_->R (Option Int)
|.none=>fun _=>.ok none
|.some a=>fun O=>(pE Y a O).bind fun x=>match x with
 |.int i=>.ok (some i)
 |_=>.bad
noncomputable def pC(Y:List PG):CO->a_->R Bool
|.none=>fun _=>.ok true
|.some a=>pT Y a
noncomputable def pG:CG->D->a_->R a_
|.name i=>fun d O=>.ok (O.set i (some d))
|.tup gs=>fun d O=>match d with
 |.tup ds=>.be (decide (ds.length=gs.len)) (vn gs ds O)
 |_=>.bad
|.sub _ _=>fun _ _=>.bad
noncomputable def vn:oM->List D->a_->R a_
|.nil=>fun ds O=>match ds with
 |[]=>.ok O
 |_=>.bad
|.cons g r=>fun ds O=>match ds with
 |d::dr=>(pG g d O).bind fun Zd=>vn r dr Zd
 |_=>.bad
noncomputable def pI(Y:List PG):CI->a_->R (Bool×List D)
|.seq a=>fun O=>(pE Y a O).bind fun x=>(o7 x).bind fun ds=>.ok (aT x,ds)
|.range as=>fun O=>(dJ Y as O).bind fun xs=>(qO xs).bind fun ds=>.ok (true,ds)
|.zip as=>fun O=>(dJ Y as O).bind fun xs=>uO xs
|.enum a=>fun O=>(pE Y a O).bind fun x=>match x with
 |.lst _ xs=>.ok (aT x,iO 0 (aC xs))
 |_=>.bad
end
mutual
noncomputable def cG:CE->Bool
|.con v=>match v with
 |.str x=>decide (x.length<=aa)
 |_=>true
|.bin _ a b=>cG a&&cG b
|.nset a=>cG a
|.neg a=>cG a
|.not a=>cG a
|.and a b=>cG a&&cG b
|.or a b=>cG a&&cG b
|.ite c a b=>cG c&&(cG a&&cG b)
|.cmp _ a b=>cG a&&cG b
|.chain _ _ a b c=>cG a&&(cG b&&cG c)
|.call _ as=>jb as
|.blt _ as=>jb as
|.isi a _=>cG a
|.mth _ o as=>cG o&&jb as
|.ix a b=>cG a&&cG b
|.sl a lo hi=>cG a&&(E4 lo&&E4 hi)
|.lst as=>jb as
|.tup as=>jb as
|.comp _ _ elt _ src cond=>cG elt&&(ltI src&&E4 cond)
|.isx _ _ a=>cG a
|.isv _ a=>cG a
|.att _ a _=>cG a
|.slp a lo hi _=>cG a&&(E4 lo&&E4 hi)
|_=>true
noncomputable def jb:ia->Bool
|.nil=>true
|.cons a r=>cG a&&jb r
noncomputable def E4:CO->Bool
|.none=>true
|.some a=>cG a
noncomputable def ltI:CI->Bool
|.seq a=>cG a
|.range as=>jb as
|.zip as=>jb as
|.enum a=>cG a
end
noncomputable def sQ:Bf->ia->Bool
|.len,.cons (.var _) .nil=>true
|_,_=>false
mutual
noncomputable def b5:CE->List Nat
|.var i=>[i]
|.con _=>[]
|.glo _=>[]
|.bin _ a b=>b5 a++b5 b
|.nset a=>b5 a
|.neg a=>b5 a
|.not a=>b5 a
|.and a b=>b5 a++b5 b
|.or a b=>b5 a++b5 b
|.ite c a b=>b5 c++(b5 a++b5 b)
|.cmp _ a b=>b5 a++b5 b
|.chain _ _ a b c=>b5 a++(b5 b++b5 c)
|.call _ as=>jM as
|.blt f as=>if sQ f as=true then[]else jM as
|.isi a _=>b5 a
|.mth _ o as=>b5 o++jM as
|.ix a b=>b5 a++b5 b
|.sl a lo hi=>b5 a++(E5 lo++E5 hi)
|.lst as=>jM as
|.tup as=>jM as
|.comp _ fr _ _ src _=>tX src++fr
|.isx _ _ a=>b5 a
|.isv _ a=>b5 a
|.att _ a _=>b5 a
|.slp a lo hi _=>b5 a++(E5 lo++E5 hi)
noncomputable def jM:ia->List Nat
|.nil=>[]
|.cons a r=>b5 a++jM r
noncomputable def E5:CO->List Nat
|.none=>[]
|.some a=>b5 a
noncomputable def tX:CI->List Nat
|.seq a=>b5 a
|.range as=>jM as
|.zip as=>jM as
|.enum a=>b5 a
end
def NT:Option HO->Prop
|none=>True
|some (.tup _)=>True
|_=>False
theorem NT.of{o:Option HO}(h:o=none):NT o:=by rw[h];trivial
theorem NT.own{o:Option HO}{u:HO}(h:NT o)(e:o=some u)(k:E3 u):False:=by
 subst e;cases u<;>first|exact h.elim|exact k.elim
structure bJ (F H F' H':Hp):Prop where
 h:aY H H'
 f:aY F F'
 s:aY F' H'
 n:∀b o,F' b=some o->F b=none->NT (H b)
structure fL (fp:List Addr) (H F':Hp):Prop where
 nd:fp.Nodup
 nh:∀a∈fp,H a=none
 nf:∀a∈fp,F' a=none
variable{ds:List D}{vs:List V}
variable{f1 f2:List Addr}
variable{p:Addr}
section
variable{K:PySem.W.Frag}{H H1 H2 F F1 F2:Hp}
theorem bJ.refl(s:aY F H):bJ F H F H:=⟨aY.refl _,aY.refl _,s,fun b o h h'=>by rw[h]at h';cases h'⟩
theorem aY.none(e:aY H H1){a:Addr}(h:H1 a=none):H a=none:=by
 cases q:H a with
 |none=>rfl
 |some o=>rw[e a o q]at h;cases h
theorem NT.back(e:aY H H1){a:Addr}(h:NT (H1 a)):NT (H a):=by
 cases q:H a with
 |none=>trivial
 |some o=>rw[e a o q]at h;exact h
theorem bJ.trans(g:bJ F H F1 H1)(g':bJ F1 H1 F2 H2):bJ F H F2 H2:=⟨g.h.trans g'.h,g.f.trans g'.f,g'.s,fun b o h h'=>by
 cases q:F1 b with
 |none=>exact NT.back g.h (g'.n b o h q)
 |some u=>exact g.n b u q h'⟩
theorem fL.nil:fL [] H F:=⟨gp,fun _ h=>absurd h aW,fun _ h=>absurd h aW⟩
mutual
theorem bK.ex:∀(d:D) (v:V) (fp:List Addr),bK K H F d v fp->∀a∈fp,∃o,H a=some o/\E3 o
|.non,v,fp,h=>by rw[h.2];intro a ha;cases ha
|.bl b,v,fp,h=>by rw[h.2];intro a ha;cases ha
|.int i,v,fp,h=>by rw[h.2];intro a ha;cases ha
|.str x,v,fp,h=>by rw[h.2];intro a ha;cases ha
|.lst o ds,v,fp,h=>by
 unfold bK at h;split at h
 ·obtain⟨a,vs,fs,h1,h2,h3,h4,rfl⟩:=h;intro b hb;rcases aJ.mp hb with rfl|hb
  ·exact⟨_,h2,trivial⟩
  ·exact a7.ex ds vs fs h4 b hb
 ·rw[h.2];intro a ha;cases ha
|.tup ds,v,fp,h=>by
 obtain⟨a,vs,h1,h2,h3,h4⟩:=h;exact a7.ex ds vs fp h4
|.cst ds,v,fp,h=>by rw[h.2];intro a ha;cases ha
|.exc C ks ds,v,fp,h=>by rw[h.2];intro a ha;cases ha
theorem a7.ex:∀(ds:List D) (vs:List V) (fp:List Addr),a7 K H F ds vs fp->∀a∈fp,∃o,H a=some o/\E3 o
|[],vs,fp,h=>by rw[h.2];intro a ha;cases ha
|d::ds,vs,fp,h=>by
 obtain⟨v,r,f1,f2,h1,rfl,h3,h4⟩:=h;intro a ha;rcases aZ.mp ha with ha|ha
 ·exact bK.ex d v f1 h3 a ha
 ·exact a7.ex ds r f2 h4 a ha
end
noncomputable def adopt(F H:Hp)(fp:List Addr):Hp:=fun b=>if b∈fp then H b else F b
theorem jc{a:Addr}(h:a∈fp):adopt F H fp a=H a:=if_pos h
theorem jI{a:Addr}(h:a∉fp):adopt F H fp a=F a:=if_neg h
theorem cS(s:aY F H):aY F (adopt F H fp):=fun b o h=>by
 by_cases q:b∈fp
 ·rw[jc q];exact s b o h
 ·rw[jI q];exact h
theorem dN(s:aY F H):aY (adopt F H fp) H:=fun b o h=>by
 by_cases q:b∈fp
 ·rw[jc q]at h;exact h
 ·rw[jI q]at h;exact s b o h
theorem p7(g:bJ F H F1 H1)(n:∀a∈fp,H a=none):bJ F H (adopt F1 H1 fp) H1:=⟨g.h,g.f.trans (cS g.s),dN g.s,fun b o h h'=>by
 by_cases q:b∈fp
 ·exact .of (n b q)
 ·rw[jI q]at h;exact g.n b o h h'⟩
theorem Ob(g:bJ F H F1 H1)(fr:fL fp H F1)(r:bK K H1 F1 d v fp):∃F2,bJ F H F2 H1/\aY F1 F2/\aV K F2 d v:=
 ⟨adopt F1 H1 fp,p7 g fr.nh,cS g.s,bK.fix (cS g.s) d v fp (fun _ ha=>jc ha) r⟩
theorem yf(g:bJ F H F1 H1)(fr:fL fp H F1)(r:a7 K H1 F1 ds vs fp):∃F2,bJ F H F2 H1/\aY F1 F2/\aD K F2 ds vs:=
 ⟨adopt F1 H1 fp,p7 g fr.nh,cS g.s,a7.fix (cS g.s) ds vs fp (fun _ ha=>jc ha) r⟩
theorem carry(g:bJ F1 H1 F2 H2)(fr:fL fp H F1)(r:bK K H1 F1 d v fp):bK K H2 F2 d v fp/\(∀a∈fp,F2 a=none):=by
 refine⟨bK.mono g.f d v fp (fun a ha=>?_) r,fun a ha=>?_⟩
 ·obtain⟨o,e,_⟩:=bK.ex d v fp r a ha;rw[e,g.h a o e]
 ·obtain⟨o,e,k⟩:=bK.ex d v fp r a ha;cases q:F2 a with
  |none=>rfl
  |some u=>exact((g.n a u q (fr.nf a ha)).own e k).elim
theorem Vj(g:bJ F1 H1 F2 H2)(fr:fL fp H F1)(r:a7 K H1 F1 ds vs fp):a7 K H2 F2 ds vs fp/\(∀a∈fp,F2 a=none):=by
 refine⟨a7.mono g.f ds vs fp (fun a ha=>?_) r,fun a ha=>?_⟩
 ·obtain⟨o,e,_⟩:=a7.ex ds vs fp r a ha;rw[e,g.h a o e]
 ·obtain⟨o,e,k⟩:=a7.ex ds vs fp r a ha;cases q:F2 a with
  |none=>rfl
  |some u=>exact((g.n a u q (fr.nf a ha)).own e k).elim
theorem fL.app(s:aY H H1)(a1:fL f1 H F1)(e1:∀a∈f1,∃o,H1 a=some o)(k1:∀a∈f1,F2 a=none)(a2:fL f2 H1 F2):fL (f1++f2) H F2:=by
 refine⟨bF.mpr ⟨a1.nd,a2.nd,fun a h1 b h2 z=>?_⟩,fun a ha=>?_,fun a ha=>?_⟩
 ·subst z;obtain⟨o,e⟩:=e1 a h1;rw[a2.nh a h2]at e;cases e
 ·rcases aZ.mp ha with h|h
  ·exact a1.nh a h
  ·exact aY.none s (a2.nh a h)
 ·rcases aZ.mp ha with h|h
  ·exact k1 a h
  ·exact a2.nf a h
theorem newList{p:Addr}{vs:List V}{o:HO}(s:aY F H)(hp:H p=none):bJ F H F (upd H p o)/\F p=none:=by
 have hf:F p=none:=aY.none s hp;refine⟨⟨fun b u q=>by rw[aS (cj q hp)];exact q,aY.refl _,fun b u q=>by rw[aS (cj q hf)];exact s b u q,fun b o h h'=>by rw[h]at h';cases h'⟩,hf⟩
theorem tY{o:HO}(s:aY F H)(hp:H p=none):bJ F H (upd F p o) (upd H p o):=by
 have hf:F p=none:=aY.none s hp;refine⟨fun b u q=>by rw[aS (cj q hp)];exact q,fun b u q=>by rw[aS (cj q hf)];exact q,fun b u q=>?_,fun b u q q'=>?_⟩
 ·by_cases e:b=p
  ·subst e;rw[bO]at q ⊢;exact q
  ·rw[aS e]at q ⊢;exact s b u q
 ·by_cases e:b=p
  ·subst e;exact .of hp
  ·rw[aS e]at q;rw[q]at q';cases q'
end
class Ex where
 E:XK
def iz[Ex](K:PySem.W.Frag)(F H:Hp)(x:D):Prop:=match x with
|.exc C ks xs=>∀F' H' d vs,bJ F H F' H'->F' d=some (gq d (ks.zip vs))->aD K F' xs vs->Ex.E (.ref C) (some d) H'
|_=>False
variable{K:PySem.W.Frag}{F H F1 H1:Hp}{x:D}
theorem iz.grow[Ex](h:iz K F H x)(g:bJ F H F1 H1):iz K F1 H1 x:=by
 cases x with
 |exc C ks xs=>exact fun F' H' d vs g'=>h F' H' d vs (g.trans g')
 |_=>exact h
def PV[Ex](K:PySem.W.Frag)(F H:Hp)(r:R D)(Q:VK):Prop:=match r with
|.ok d=>∀F' H' v fp,bJ F H F' H'->fL fp H F'->bK K H' F' d v fp->Q v H'
|.ex x=>iz K F H x
|.bad=>False
def wy[Ex](K:PySem.W.Frag)(F H:Hp)(r:R (List D))(Q:List V->Hp->Prop):Prop:=match r with
|.ok ds=>∀F' H' vs fp,bJ F H F' H'->fL fp H F'->a7 K H' F' ds vs fp->Q vs H'
|.ex x=>iz K F H x
|.bad=>False
def PB[Ex]{α:Type}(K:PySem.W.Frag)(F H:Hp)(r:R α)(Q:α->Hp->Prop):Prop:=match r with
|.ok b=>∀F' H',bJ F H F' H'->Q b H'
|.ex x=>iz K F H x
|.bad=>False
def Vk(K:PySem.W.Frag)(F:Hp)(d:D):Item->Prop
|.v x=>aV K F d x
|.tup xs=>∃ds,d=.tup ds/\aD K F ds xs/\xs.length<=aa
def kB(K:PySem.W.Frag)(F:Hp):List D->List Item->Prop
|[],its=>its=[]
|d::ds,its=>∃it r,its=it::r/\Vk K F d it/\kB K F ds r
noncomputable def minus(F:Hp)(A:List Addr):Hp:=fun b=>if b∈A then none else F b
noncomputable def p8(own:Bool)(F:Hp)(A:List Addr):Hp:=if own=true then minus F A else F
def PI'[Ex](K:PySem.W.Frag)(A:List Addr)(F H:Hp)(r:R (Bool×List D))(k:(Hp->Prop)->List Item->Hp->Prop):Prop:=match r with
|.ok ds=>∀F' H' ok its,bJ F H F' H'->(∀H'',aY (p8 ds.1 F' A) H''->ok H'')->kB K (p8 ds.1 F' A) ds.2 its->ds.2.length<=aa->k ok its H'
|.ex x=>iz K F H x
|.bad=>False
def Vl(K:PySem.W.Frag)(H:Hp)(L:a_)(O:L2.St):Prop:=∀(k:Nat) d,L[k]?=some (some d)->∃v F',O[k]?=some (some v)/\aY F' H/\aV K F' d v
structure iA (K:PySem.W.Frag) (F H:Hp) (is:List Nat) (L:a_) (O:L2.St):Prop where
 e:∀i∈is,∀d,L[i]?=some (some d)->∃v,O[i]?=some (some v)/\aV K F d v
 n:Vl K H L O
noncomputable def E6(K:PySem.W.Frag)(m:List D->R D):Sp:=fun vs H Q E=>∃F ds,aY F H/\aC ds=ds/\aD K F ds vs/\@PV ⟨E⟩ K F H (m ds) Q
def Oc(K:PySem.W.Frag):PG->G->Prop
|.val d,.val v=>aV K (fun _=>none) d v
|.val d,.tup a _=>aV K (fun _=>none) d (.ref a)
|.fn m dds,.fn sp dvs=>(∀vs H Q E,E6 K m vs H Q E->sp vs H Q E)/\aC dds=dds/\aD K (fun _=>none) dds dvs
|.cls C fs n,.cls C' fs' n'=>C=C'/\fs=fs'/\n=n'
|.gY D Cs,.gY D' Cs'=>D=D'/\Cs=Cs'
|.nM Cs as,.nM Cs' as'=>Cs=Cs'/\as=as'
|.exb Cs,.exb B Cs'=>Cs=Cs'/\∀C∈Cs,PySem.W.mroIn K C (.ref B)=some true
|.nop,.nop=>True
|_,_=>False
def cu(K:PySem.W.Frag):List PG->List G->Prop
|p::ps,gs=>∃g r,gs=g::r/\Oc K p g/\cu K ps r
|[],_=>True
theorem cu.hand:∀{ps:List PG}{gs:List G},cu K ps gs->cu K (ps.map PG.hand) (gs.map G.hand)
|[],_,_=>trivial
|p::ps,_,h=>by
 obtain⟨g,r,rfl,h2,h3⟩:=h;refine⟨_,_,rfl,?_,cu.hand h3⟩;cases p<;>cases g<;>first|exact h2|exact trivial|exact h2.elim
theorem cu.get:∀{ps:List PG}{gs:List G} (i:Nat) {p:PG},cu K ps gs->ps[i]?=some p->∃g,gs[i]?=some g/\Oc K p g
|[],_,i,_,_,e=>by simp at e
|p::ps,_,0,_,h,e=>by
 obtain⟨g,r,rfl,h2,_⟩:=h;simp at e;subst e;exact⟨g,rfl,h2⟩
|p::ps,_,i+1,_,h,e=>by
 obtain⟨g,r,rfl,_,h3⟩:=h;obtain⟨w,e1,e2⟩:=cu.get i h3 (by simpa using e);exact⟨w,by simpa using e1,e2⟩
variable{A:List Addr}
theorem eO{b:Addr}(h:b∉A):minus F A b=F b:=if_neg h
theorem zM{b:Addr}(h:b∈A):minus F A b=none:=if_pos h
theorem C1(F:Hp):minus F []=F:=by funext b;exact eO aW
theorem Lg(o:Bool)(F:Hp):p8 o F []=F:=by unfold p8;rw[C1];split<;>rfl
theorem jJ(F:Hp)(A:List Addr):aY (minus F A) F:=fun b o h=>by
 by_cases q:b∈A
 ·rw[zM q]at h;cases h
 ·rw[eO q]at h;exact h
theorem C2(o:Bool)(F:Hp)(A:List Addr):aY (p8 o F A) F:=by
 unfold p8;split
 ·exact jJ F A
 ·exact aY.refl F
def mq(H:Hp)(A:List Addr):Prop:=∀a∈A,∃o,H a=some o/\E3 o
theorem jN(s:aY F H)(h:mq H A):zL F (minus F A):=fun b o q=>by
 by_cases z:b∈A
 ·obtain⟨u,e,k⟩:=h b z;rw[s b o q]at e;cases e;exact .inr k
 ·exact .inl (by rw[eO z];exact q)
variable{H':Hp}
theorem mq.mono(s:aY H H')(h:mq H A):mq H' A:=fun a ha=>by
 obtain⟨o,e,k⟩:=h a ha;exact⟨o,s a o e,k⟩
theorem Vm(hA:mq H A)(g:bJ F H F1 H1)(fr:fL fp H F1)(r:bK K H1 F1 d v fp):∃F2,bJ F H F2 H1/\aV K (p8 (aT d) F2 A) d v:=by
 have g2:=p7 g fr.nh;refine⟨adopt F1 H1 fp,g2,?_⟩;unfold p8;by_cases ho:aT d=true
 ·rw[if_pos ho];have r2:=bK.less (jN g.s (hA.mono g.h)) d v fp ho r;refine bK.fix (F':=minus (adopt F1 H1 fp) A) ?_ d v fp ?_ r2
  ·intro b o q;by_cases z:b∈A
   ·rw[zM z]at q;cases q
   ·rw[eO z]at q ⊢;exact cS g.s b o q
  ·intro a ha;have z:a∉A:=fun z=>by
    obtain⟨o,e,_⟩:=hA a z;rw[fr.nh a ha]at e;cases e
   rw[eO z,jc ha]
 ·rw[if_neg ho];exact bK.fix (cS g.s) d v fp (fun _ ha=>jc ha) r
variable{b:Bool}
variable{F':Hp}{Q:VK}
variable{α:Type}
section
variable{K:PySem.W.Frag}{H H1 F F1:Hp}{L:a_}{O:L2.St}
theorem iA.l{a b:List Nat}(h:iA K F H (a++b) L O):iA K F H a L O:=⟨fun i hi=>h.e i (aK _ hi),h.n⟩
theorem iA.r{a b:List Nat}(h:iA K F H (a++b) L O):iA K F H b L O:=⟨fun i hi=>h.e i (au _ hi),h.n⟩
theorem iA.mono{a:List Nat}(h:iA K F H a L O)(g:bJ F H F1 H1):iA K F1 H1 a L O:=⟨fun i hi d hd=>by
 obtain⟨v,h1,h2⟩:=h.e i hi d hd;exact⟨v,h1,aV.mono g.f d v h2⟩,fun k d e=>by
 obtain⟨v,F',h1,h2,h3⟩:=h.n k d e;exact⟨v,F',h1,h2.trans g.h,h3⟩⟩
theorem PV.int[Ex]{n:Int}(h:PV K F H (.ok (.int n)) Q)(s:aY F H):PV K F' H (.ok (.int n)) Q:=fun F2 H2 v fp g fr r=>by
 obtain⟨rfl,rfl⟩:=r;exact h F H2 _ [] ⟨g.h,aY.refl _,s.trans g.h,fun b o q q'=>by rw[q]at q';cases q'⟩ .nil ⟨rfl,rfl⟩
theorem PV.grow[Ex]{r:R D}(h:PV K F H r Q)(g:bJ F H F1 H1):PV K F1 H1 r Q:=by
 cases r with
 |ok d=>exact fun F' H' v fp g' fr rx=>h F' H' v fp (g.trans g') ⟨fr.nd,fun a ha=>aY.none g.h (fr.nh a ha),fr.nf⟩ rx
 |ex x=>exact iz.grow (K:=K) (x:=x) h g
 |bad=>exact h
theorem PB.grow[Ex]{r:R α}{Q:α->Hp->Prop}(h:PB K F H r Q)(g:bJ F H F1 H1):PB K F1 H1 r Q:=by
 cases r with
 |ok d=>exact fun F' H' g'=>h F' H' (g.trans g')
 |ex x=>exact iz.grow (K:=K) (x:=x) h g
 |bad=>exact h
theorem PV.here[Ex](h:PV K F H (.ok (bq d)) Q)(s:aY F H)(r:aV K F d v):Q v H:=h F H v [] (bJ.refl s) .nil (aV.yP d v r)
theorem PV.flat[Ex](h:PV K F H (.ok d) Q)(s:aY F H)(r:bK K H F d v []):Q v H:=h F H v [] (bJ.refl s) .nil r
theorem gZ{r:R α}{a:α}(h:R.be b r=.ok a):b=true/\r=.ok a:=by
 cases b with
 |true=>exact⟨rfl,h⟩
 |false=>cases h
theorem PV.be[Ex]{r:R D}(h:PV K F H (R.be b r) Q):b=true/\PV K F H r Q:=by
 cases b with
 |true=>exact⟨rfl,h⟩
 |false=>exact h.elim
theorem PB.be[Ex]{r:R α}{Q:α->Hp->Prop}(h:PB K F H (R.be b r) Q):b=true/\PB K F H r Q:=by
 cases b with
 |true=>exact⟨rfl,h⟩
 |false=>exact h.elim
end
theorem szl:aa=16777216:=by unfold aa;rfl
theorem tZ(x:Str):x.cps.toList.length=x.length:=by simp[fB]
theorem iB(l:List Nat):(⟨l.toArray⟩:Str).length=l.length:=by simp[fB]
theorem Lh(l:List Nat):(strOf l).length=l.length:=by simp[strOf,fB]
theorem E7(z:Str):∀ss:List Str,(dU z ss).length<=(ss.map (·.length)).sum+ss.length*z.length
|[]=>by show(0:Nat)<=_;omega
|[x]=>by simp[dU]
|x::y::r=>by
 have ih:=E7 z (y::r);show(x++z++dU z (y::r)).length<=_;rw[pV,pV];simp only[dG,D3,aN,xN]at ih ⊢;omega
theorem Jt(z:Str)(n:Nat):(AE z n).length=z.length*n:=by
 unfold AE;rw[iB];induction n with
 |zero=>simp
 |succ n ih=>rw[bM,cB,ay,ih,tZ,GK,xO]
theorem HS(l:List α)(lo hi:Option Int):(cut l lo hi).length<=l.length:=by
 unfold cut;rw[jS,fC];omega
theorem p9(c:Nat):∀(l:List Nat),(∀p∈cM c l,p.length<=l.length)/\(cM c l).length<=l.length+1
|[]=>by
 constructor
 ·intro p hp;simp[cM]at hp;subst hp;simp
 ·simp[cM]
|x::r=>by
 obtain⟨h1,h2⟩:=p9 c r;unfold cM;by_cases e:x=c
 ·rw[if_pos e];constructor
  ·intro p hp;rcases aJ.mp hp with rfl|hp
   ·simp
   ·have:=h1 p hp;simp;omega
  ·simp;omega
 ·rw[if_neg e];cases q:cM c r with
  |nil=>simp
  |cons h t=>
   rw[q]at h1 h2;constructor
   ·intro p hp;rcases aJ.mp hp with rfl|hp
    ·have:=h1 h aq;simp;omega
    ·have:=h1 p (ai _ hp);simp;omega
   ·simp at h2 ⊢;omega
variable{i:Int}
theorem qp{xs:List α}{x:α}(h:fh xs i=some x):∃j,gH xs.length i=some j/\xs[j]?=some x:=by
 unfold fh at h;cases q:gH xs.length i with
 |none=>rw[q]at h;cases h
 |some j=>rw[q]at h;exact⟨j,rfl,h⟩
theorem AG{xs:List α}{j:Nat}{x:α}(h:gH xs.length i=some j)(e:xs[j]?=some x):fh xs i=some x:=by
 unfold fh;rw[h];exact e
def R.a9{α:Type}(r:R α):Prop:=∀x,r≠.ex x
theorem a9.ok{a:α}:(R.ok a).a9:=fun _ h=>by cases h
theorem a9.bad:(R.bad:R α).a9:=fun _ h=>by cases h
theorem a9.opt{o:Option α}:(R.opt o).a9:=fun _ h=>by cases o<;>cases h
theorem a9.be{r:R α}(n:r.a9):(R.be b r).a9:=fun x h=>by
 cases b with
 |true=>exact n x h
 |false=>cases h
variable{β:Type}
theorem a9.bind{r:R α}{f:α->R β}(n:r.a9)(k:∀a,(f a).a9):(r.bind f).a9:=fun x h=>by
 cases r with
 |ok a=>exact k a x h
 |ex y=>exact n y rfl
 |bad=>cases h
theorem a9.eN(r:R α):r.eN.a9:=fun x h=>by cases r<;>cases h
theorem HU(x y:D):(inD x y).a9:=by unfold inD;(repeat' (first|exact a9.ok|exact a9.bad|exact a9.opt|exact a9.eN _|refine a9.be ?_|(refine a9.bind ?_ fun _=>?_)|split))
theorem uP(x:D):(gR x).a9:=by unfold gR;(repeat' (first|exact a9.ok|exact a9.bad|exact a9.opt|exact a9.eN _|refine a9.be ?_|(refine a9.bind ?_ fun _=>?_)|split))
theorem BO(x y:D):(rP x y).a9:=by unfold rP;(repeat' (first|exact a9.ok|exact a9.bad|exact a9.opt|exact a9.eN _|refine a9.be ?_|(refine a9.bind ?_ fun _=>?_)|split))
theorem Od(x:D):(o7 x).a9:=by unfold o7;(repeat' (first|exact a9.ok|exact a9.bad|exact a9.opt|exact a9.eN _|refine a9.be ?_|(refine a9.bind ?_ fun _=>?_)|split))
theorem Oe(xs:List D):(qO xs).a9:=by unfold qO;(repeat' (first|exact a9.ok|exact a9.bad|exact a9.opt|exact a9.eN _|refine a9.be ?_|(refine a9.bind ?_ fun _=>?_)|split))
theorem Of(m:Mt)(xs:List D)(k:Bool):(Jr m xs k).a9:=by unfold Jr;(repeat' (first|exact a9.ok|exact a9.bad|exact a9.opt|exact a9.eN _|refine a9.be ?_|(refine a9.bind ?_ fun _=>?_)|split))
theorem qP(m:Mt)(x:D)(ds:List D):(lz m x ds).a9:=by unfold lz;(repeat' (first|exact Of _ _ _|exact a9.ok|exact a9.bad|exact a9.opt|exact a9.eN _|refine a9.be ?_|(refine a9.bind ?_ fun _=>?_)|split))
variable{u:V}
variable{op:nB}
variable{lo hi:Option Int}
variable{t:Ty}
variable{m:Mt}
section
variable{K:PySem.W.Frag}{H H0 F F0:Hp}
theorem C3(r:aV K F x v):decide (v=.non)=iV x:=by
 cases x with
 |non=>rw[show v=.non from r];rfl
 |bl b=>rw[show v=.bl b from r];rfl
 |int i=>rw[show v=.int i from r];rfl
 |str z=>rw[show v=.str z from r.1];rfl
 |lst o ds=>obtain⟨a,vs,rfl,_⟩:=r;rfl
 |tup ds=>obtain⟨a,vs,rfl,_⟩:=r;rfl
 |cst ds=>obtain⟨a,vs,rfl,_⟩:=r;rfl
 |exc C ks ds=>obtain⟨a,d,vs,rfl,_⟩:=r;rfl
theorem Li(r:aV K F x v)(h:iV x=true):v=.non:=by
 cases x<;>first|exact r|(cases h)
theorem nZ:∀(xs ys:List D),aC (xs++ys)=aC xs++aC ys
|[],_=>rfl
|x::r,ys=>by show bq x::aC (r++ys)=_;rw[nZ r ys];rfl
theorem iC:∀xs:List D,(aC xs).length=xs.length
|[]=>rfl
|x::r=>by show(aC r).length+1=_;rw[iC r];rfl
theorem PV.lst[Ex]{ds:List D}{vs:List V}{Q:VK}{p:Addr}(h:PV K F H (.ok (.lst true (aC ds))) Q)(s:aY F H)(r:aD K F ds vs)(hl:vs.length<=aa)(hp:H p=none):Q (.ref p) (upd H p (.lst vs)):=by
 obtain⟨g,hf⟩:=newList (vs:=vs) (o:=.lst vs) s hp;refine h F _ (.ref p) [p] g ⟨by simp,?_,?_⟩ ?_
 ·intro a ha;rw[aU.mp ha];exact hp
 ·intro a ha;rw[aU.mp ha];exact hf
 ·unfold bK;rw[if_pos rfl];exact⟨p,vs,[],rfl,bO,hl,aD.yP ds vs r,rfl⟩
theorem PV.tup[Ex]{ds:List D}{vs:List V}{Q:VK}{p:Addr}(h:PV K F H (.ok (.tup (aC ds))) Q)(s:aY F H)(r:aD K F ds vs)(hl:vs.length<=aa)(hp:H p=none):Q (.ref p) (upd H p (.tup vs)):=by
 have g:=tY (o:=.tup vs) s hp;refine h _ _ (.ref p) [] g .nil ?_;exact⟨p,vs,rfl,bO,hl,aD.yP ds vs (aD.mono g.f ds vs r)⟩
theorem E8:∀(n:Nat) {ds:List D}{vs:List V},aD K F ds vs->aD K F (aB n ds).flatten (aB n vs).flatten
|0,_,_,_=>rfl
|n+1,ds,vs,r=>by
 rw[bM,bM,cB,cB];exact aD.app r (E8 n r)
theorem Og(n:Nat)(xs:List D):(aB n (aC xs)).flatten=aC (aB n xs).flatten:=by
 induction n with
 |zero=>rfl
 |succ n ih=>rw[bM,bM,cB,cB,nZ,ih]
theorem WR[Ex]{op:ji}{y:D}(s:aY F H)(rx:aV K F x v)(ry:aV K F y u)(h:PV K F H (eG op x y) Q):NJ K op v u H Q:=by
 cases x with
 |int i=>
  cases rx;cases y with
  |int j=>
   cases ry;cases op<;>first|exact h.elim|exact h.flat s ⟨rfl,rfl⟩|(obtain⟨c,h⟩:=h.be;exact⟨of_decide_eq_true c,h.flat s ⟨rfl,rfl⟩⟩)
  |_=>exact h.elim
 |str z=>
  obtain⟨rfl,hz⟩:=rx;cases y with
  |int j=>
   cases ry;cases op<;>first|exact h.elim|skip
   obtain⟨c,h⟩:=h.be;have c:=of_decide_eq_true c;exact⟨c,h.flat s ⟨⟨rfl,by rw[Jt];exact c.2.2⟩,rfl⟩⟩
  |str q=>
   obtain⟨rfl,hq⟩:=ry;cases op<;>first|exact h.elim|skip
   obtain⟨c,h⟩:=h.be;have c:=of_decide_eq_true c;exact⟨c,h.flat s ⟨⟨rfl,by rw[pV];exact c⟩,rfl⟩⟩
  |_=>exact h.elim
 |lst o xs=>
  obtain⟨a,vs,rfl,h2,h3,h4⟩:=rx;cases y with
  |lst o' ys=>
   obtain⟨b,us,rfl,k2,k3,k4⟩:=ry;cases op<;>first|exact h.elim|skip
   obtain⟨c,h⟩:=h.be;have c:=of_decide_eq_true c;rw[<-h4.len,<-k4.len]at c;rw[<-nZ]at h;exact .inl ⟨vs,us,Rd.same s h2,Rd.same s k2,c,fun p hp=>h.lst s (h4.app k4) (by rw[ay];exact c) hp⟩
  |int k=>
   cases ry;cases op<;>first|exact h.elim|skip
   obtain⟨c,h⟩:=h.be;have c:=of_decide_eq_true c;rw[<-h4.len]at c;rw[Og]at h;refine⟨vs,Rd.same s h2,c.1,c.2,fun p hp=>h.lst s (E8 _ h4) ?_ hp⟩;have z:∀n,(aB n vs).flatten.length=vs.length*n:=by
    intro n;induction n with
    |zero=>rfl
    |succ n ih=>rw[bM,cB,ay,ih,GK,xO]
   rw[z];exact c.2
  |_=>exact h.elim
 |tup xs=>
  obtain⟨a,vs,rfl,h2,h3,h4⟩:=rx;cases y with
  |tup ys=>
   obtain⟨b,us,rfl,k2,k3,k4⟩:=ry;cases op<;>first|exact h.elim|skip
   obtain⟨c,h⟩:=h.be;simp only[bx,decide_eq_true_eq,yD,List.isEmpty_eq_false_iff]at c;obtain⟨⟨c1,c2⟩,c3⟩:=c;rw[<-h4.len,<-k4.len]at c3;rw[<-nZ]at h;refine .inr ⟨vs,us,(tupS h2).same' s,(tupS k2).same' s,?_,?_,c3,fun p hp=>h.tup s (h4.app k4) (by rw[ay];exact c3) hp⟩
   ·rintro rfl;exact c1 (gb (by rw[<-h4.len];rfl))
   ·rintro rfl;exact c2 (gb (by rw[<-k4.len];rfl))
  |_=>exact h.elim
 |_=>exact h.elim
theorem okIn{y:D}(s:aY F H)(rx:aV K F x v)(ry:aV K F y u)(h:inD x y=.ok b){Q:Bool->Prop}(q:Q b):∃a,u=.ref a/\((∃t xs dx ds,fH K H a t xs/\aV K H dx v/\aD K H ds xs/\dD dx=true/\kr ds=true/\Q (memD dx ds))\/∃kvs k,Rd H a (.dK kvs)/\v=kV k/\Q (jK kvs k).isSome):=by
 cases y with
 |lst o ys=>
  obtain⟨a,us,rfl,k2,k3,k4⟩:=ry;obtain⟨c,e⟩:=gZ h;cases e;have c:dD x=true/\kr ys=true:=by simpa using c
  exact⟨a,rfl,.inl ⟨false,us,x,ys,(Rd.seq k2).same' s,aV.mono s _ _ rx,aD.mono s _ _ k4,c.1,c.2,q⟩⟩
 |tup ys=>
  obtain⟨a,us,rfl,k2,k3,k4⟩:=ry;obtain⟨c,e⟩:=gZ h;cases e;have c:dD x=true/\kr ys=true:=by simpa using c
  exact⟨a,rfl,.inl ⟨true,us,x,ys,(tupS k2).same' s,aV.mono s _ _ rx,aD.mono s _ _ k4,c.1,c.2,q⟩⟩
 |cst ys=>
  obtain⟨a,us,rfl,k2,k3,k4⟩:=ry;obtain⟨c,e⟩:=gZ h;cases e;have c:dD x=true/\kr ys=true:=by simpa using c
  exact⟨a,rfl,.inl ⟨true,us,x,ys,.inr k2,aV.mono s _ _ rx,aD.mono s _ _ k4,c.1,c.2,q⟩⟩
 |_=>cases h
theorem yg[Ex]{y:D}(s:aY F H)(rx:aV K F x v)(ry:aV K F y u)(h:PV K F H (bQ op x y) Q):lY K op v u H Q:=by
 have ord:(op=.Lt\/op=.LtE\/op=.Gt\/op=.GtE)->PV K F H (Vi op x y) Q->lY K op v u H Q:=by
  intro ho h;cases x with
  |int i=>
   cases rx;cases y with
   |int j=>
    cases ry;rcases ho with rfl|rfl|rfl|rfl<;>exact h.flat s ⟨rfl,rfl⟩
   |_=>exact h.elim
  |str z=>
   obtain⟨rfl,_⟩:=rx;cases y with
   |str j=>
    obtain⟨rfl,_⟩:=ry;rcases ho with rfl|rfl|rfl|rfl<;>first|exact h.flat s ⟨rfl,rfl⟩|exact h.elim
   |_=>exact h.elim
  |_=>exact h.elim
 cases op with
 |Lt=>exact ord (.inl rfl) h
 |LtE=>exact ord (.inr (.inl rfl)) h
 |Gt=>exact ord (.inr (.inr (.inl rfl))) h
 |GtE=>exact ord (.inr (.inr (.inr rfl))) h
 |Eq=>
  obtain⟨c,h⟩:=h.be;have c:dD x=true/\dD y=true:=by simpa using c
  exact⟨x,y,aV.mono s _ _ rx,aV.mono s _ _ ry,c.1,c.2,h.flat s ⟨rfl,rfl⟩⟩
 |NotEq=>
  obtain⟨c,h⟩:=h.be;have c:dD x=true/\dD y=true:=by simpa using c
  exact⟨x,y,aV.mono s _ _ rx,aV.mono s _ _ ry,c.1,c.2,h.flat s ⟨rfl,rfl⟩⟩
 |Is=>
  obtain⟨c,h⟩:=h.be;rw[Li ry c];show Q (.bl (decide (v=.non))) H;rw[C3 rx];exact h.flat s ⟨rfl,rfl⟩
 |IsNot=>
  obtain⟨c,h⟩:=h.be;rw[Li ry c];show Q (.bl (!decide (v=.non))) H;rw[C3 rx];exact h.flat s ⟨rfl,rfl⟩
 |In=>
  have h:PV K F H ((inD x y).bind fun b=>.ok (.bl b)) Q:=h;cases e:inD x y with
  |ok b=>
   rw[e]at h;obtain⟨a,rfl,z⟩:=okIn s rx ry e (Q:=fun b=>Q (.bl b) H) (h.flat s ⟨rfl,rfl⟩);exact z
  |ex z=>exact absurd e (HU x y z)
  |bad=>rw[e]at h;exact h.elim
 |NotIn=>
  have h:PV K F H ((inD x y).bind fun b=>.ok (.bl (!b))) Q:=h;cases e:inD x y with
  |ok b=>
   rw[e]at h;obtain⟨a,rfl,z⟩:=okIn s rx ry e (Q:=fun b=>Q (.bl (!b)) H) (h.flat s ⟨rfl,rfl⟩);exact z
  |ex z=>exact absurd e (HU x y z)
  |bad=>rw[e]at h;exact h.elim
theorem yQ{xs:List α}{ys:List β}(h:xs.length=ys.length):xs.isEmpty=ys.isEmpty:=by
 cases xs<;>cases ys<;>first|rfl|(simp at h)
theorem Ju{Q:Bool->Prop}(s:aY F H)(rx:aV K F x v)(h:gR x=.ok b)(q:Q b):iR K v H Q:=by
 cases x with
 |non=>cases rx;cases h;exact q
 |bl k=>cases rx;cases h;exact q
 |int i=>cases rx;cases h;exact q
 |str z=>obtain⟨rfl,hz⟩:=rx;cases h;exact⟨hz,q⟩
 |lst o ds=>
  obtain⟨a,vs,rfl,h2,h3,h4⟩:=rx;cases h;exact .inl ⟨false,vs,(Rd.seq h2).same' s,by show Q (!vs.isEmpty);rw[yQ h4.len];exact q⟩
 |tup ds=>
  obtain⟨a,vs,rfl,h2,h3,h4⟩:=rx;cases h;exact .inl ⟨true,vs,(tupS h2).same' s,by show Q (!vs.isEmpty);rw[yQ h4.len];exact q⟩
 |cst ds=>cases h
 |exc C ks ds=>cases h
theorem bW{r:R α}{f:α->R β}{b:β}(h:r.bind f=.ok b):∃a,r=.ok a/\f a=.ok b:=by
 cases r with
 |ok a=>exact⟨a,rfl,h⟩
 |ex x=>cases h
 |bad=>cases h
theorem mY{o:Option α}{a:α}(h:R.opt o=.ok a):o=some a:=by
 cases o with
 |none=>cases h
 |some b=>cases h;rfl
theorem PV.some[Ex]{r:R D}(h:PV K F H r Q)(n:r.a9):∃d,r=.ok d:=by
 cases r with
 |ok d=>exact⟨d,rfl⟩
 |ex x=>exact absurd rfl (n x)
 |bad=>exact h.elim
theorem Vn[Ex]{y:D}(s:aY F H)(rx:aV K F x v)(ry:aV K F y u)(h:PV K F H (rP x y) Q):EK K v u H Q:=by
 obtain⟨d,e⟩:=h.some (by first|exact BO _ _|exact qP _ _ _|(repeat' (first|exact a9.ok|exact a9.bad|exact a9.opt|exact a9.eN _|refine a9.be ?_|(refine a9.bind ?_ fun _=>?_)|split)));rw[e]at h;have hs:=szl;cases x with
 |str z=>
  obtain⟨rfl,hz⟩:=rx;cases y with
  |int i=>
   cases ry;obtain⟨c,e1,e2⟩:=bW e;cases e2;exact⟨hz,c,mY e1,h.flat s ⟨⟨rfl,by show(1:Nat)<=_;omega⟩,rfl⟩⟩
  |_=>cases e
 |lst o ds=>
  obtain⟨a,vs,rfl,h2,h3,h4⟩:=rx;cases y with
  |int i=>
   cases ry;obtain⟨c,e1,e2⟩:=bW e;cases e2;obtain⟨j,i1,i2⟩:=qp (mY e1);obtain⟨w,w1,w2⟩:=h4.get j i2;exact .inl ⟨false,vs,i,w,rfl,(Rd.seq h2).same' s,AG (by rw[h4.len];exact i1) w1,h.here s w2⟩
  |_=>cases e
 |tup ds=>
  obtain⟨a,vs,rfl,h2,h3,h4⟩:=rx;cases y with
  |int i=>
   cases ry;obtain⟨c,e1,e2⟩:=bW e;cases e2;obtain⟨j,i1,i2⟩:=qp (mY e1);obtain⟨w,w1,w2⟩:=h4.get j i2;exact .inl ⟨true,vs,i,w,rfl,(tupS h2).same' s,AG (by rw[h4.len];exact i1) w1,h.here s w2⟩
  |_=>cases e
 |_=>cases e
theorem aD.cut:∀{ds:List D}{vs:List V},aD K F ds vs->∀lo hi,aD K F (L3.cut ds lo hi) (L3.cut vs lo hi):=by
 have dr:∀(n:Nat) {ds:List D}{vs:List V},aD K F ds vs->aD K F (ds.drop n) (vs.drop n):=by
  intro n;induction n with
  |zero=>intro ds vs h;exact h
  |succ n ih=>
   intro ds vs h;cases ds with
   |nil=>cases h;exact rfl
   |cons d ds=>
    obtain⟨v,r,rfl,_,h3⟩:=h;exact ih h3
 have tk:∀(n:Nat) {ds:List D}{vs:List V},aD K F ds vs->aD K F (ds.take n) (vs.take n):=by
  intro n;induction n with
  |zero=>intro ds vs h;exact rfl
  |succ n ih=>
   intro ds vs h;cases ds with
   |nil=>cases h;exact rfl
   |cons d ds=>
    obtain⟨v,r,rfl,h2,h3⟩:=h;exact⟨v,_,rfl,h2,ih h3⟩
 intro ds vs h lo hi;unfold L3.cut;rw[h.len];exact tk _ (dr _ h)
theorem Yq[Ex](s:aY F H)(rx:aV K F x v)(h:PV K F H (HR x lo hi) Q):Q8 K v lo hi H Q:=by
 cases x with
 |str z=>
  obtain⟨rfl,hz⟩:=rx;refine⟨hz,h.flat s ⟨⟨rfl,?_⟩,rfl⟩⟩;rw[iB];have:=HS z.cps.toList lo hi;rw[tZ]at this;omega
 |lst o ds=>
  obtain⟨a,vs,rfl,h2,h3,h4⟩:=rx;exact .inl ⟨false,vs,(Rd.seq h2).same' s,rfl,fun p hp=>h.lst s (h4.cut lo hi) (dH (HS _ _ _) h3) hp⟩
 |tup ds=>
  obtain⟨a,vs,rfl,h2,h3,h4⟩:=rx;cases lo with
  |none=>exact h.elim
  |some n=>
   cases hi with
   |some _=>exact h.elim
   |none=>
    obtain⟨c,h⟩:=h.be;have c:=of_decide_eq_true c;have en:((n.toNat:Nat):Int)=n:=by omega
    have dr:∀(n:Nat) {ds:List D}{vs:List V},aD K F ds vs->aD K F (ds.drop n) (vs.drop n):=by
     intro n;induction n with
     |zero=>intro ds vs h;exact h
     |succ n ih=>
      intro ds vs h;cases ds with
      |nil=>cases h;exact rfl
      |cons d ds=>
       obtain⟨v,r,rfl,_,h3⟩:=h;exact ih h3
    have hl:=h4.len;exact .inr ⟨n.toNat,vs,(tupS h2).same' s,by rw[en],rfl,by omega,by omega,fun p hp=>h.tup s (dr n.toNat h4) (by rw[fC];omega) hp⟩
 |_=>exact h.elim
theorem aD.pick(h:aD K F ds vs):∀is:List Nat,aD K F (is.filterMap (ds[·]?)) (is.filterMap (vs[·]?))
|[]=>rfl
|i::is=>by
 have hl:=h.len;cases e:ds[i]? with
 |none=>
  have:vs[i]?=none:=by
   rw[ql]at e ⊢;omega
  rw[iN e,iN this];exact aD.pick h is
 |some d=>
  obtain⟨v,e1,e2⟩:=h.get i e;rw[iM e,iM e1];exact⟨v,_,rfl,e2,aD.pick h is⟩
theorem WS[Ex]{k:Int}(s:aY F H)(rx:aV K F x v)(h:PV K F H (N_ x lo hi k) Q):NK K v lo hi k H Q:=by
 cases x with
 |lst o ds=>
  obtain⟨a,vs,rfl,h2,h3,h4⟩:=rx;obtain⟨c,h⟩:=h.be;simp only[bx,decide_eq_true_eq]at c;have r:aD K F (lG ds lo hi k) (lG vs lo hi k):=by
   unfold lG;rw[h4.len];exact h4.pick _
  have hz:(lG vs lo hi k).length<=aa:=by rw[r.len];exact c.2
  exact⟨false,vs,(Rd.seq h2).same' s,rfl,⟨c.1,hz⟩,fun p hp=>h.lst s r hz hp⟩
 |_=>exact h.elim
theorem wz:∀{ds:List D}{vs:List V},aD K F ds vs->ds.all lM=true->ya vs=true/\vs.all mQ=ds.all mX/\vs.any mQ=ds.any mX
|[],_,h,_=>by cases h;exact⟨rfl,rfl,rfl⟩
|d::ds,_,h,e=>by
 obtain⟨v,r,rfl,h2,h3⟩:=h;have e':lM d=true/\ds.all lM=true:=by simpa using e
 obtain⟨i1,i2,i3⟩:=wz h3 e'.2;cases d with
 |bl b=>
  cases h2;refine⟨by show(true&&ya r)=true;rw[i1];rfl,?_,?_⟩
  ·rw[pF,pF,i2];cases b<;>rfl
  ·rw[lW,lW,i3];cases b<;>rfl
 |_=>exact absurd e'.1 aE
theorem Jv[Ex]{f:Bf}(s:aY F H)(r:aD K F ds vs)(h:PV K F H (jy f ds) Q):zA K f vs H Q:=by
 match ds,r,h with
 |[],_,h=>exact h.elim
 |[x],r,h=>
  obtain⟨v,r',rfl,rx,e⟩:=r;cases e;cases f with
  |len=>
   cases x with
   |str z=>obtain⟨rfl,hz⟩:=rx;exact⟨hz,h.flat s ⟨rfl,rfl⟩⟩
   |lst o ds=>
    obtain⟨a,vs,rfl,h2,h3,h4⟩:=rx;exact .inl ⟨false,vs,(Rd.seq h2).same' s,by show Q (.int vs.length) H;rw[h4.len];exact h.flat s ⟨rfl,rfl⟩⟩
   |tup ds=>
    obtain⟨a,vs,rfl,h2,h3,h4⟩:=rx;exact .inl ⟨true,vs,(tupS h2).same' s,by show Q (.int vs.length) H;rw[h4.len];exact h.flat s ⟨rfl,rfl⟩⟩
   |_=>exact h.elim
  |all=>
   cases x with
   |lst o ds=>
    obtain⟨a,vs,rfl,h2,h3,h4⟩:=rx;obtain⟨c,h⟩:=h.be;obtain⟨i1,i2,i3⟩:=wz h4 c;exact⟨false,vs,(Rd.seq h2).same' s,rfl,i1,by rw[i2];exact h.flat s ⟨rfl,rfl⟩⟩
   |_=>exact h.elim
  |any=>
   cases x with
   |lst o ds=>
    obtain⟨a,vs,rfl,h2,h3,h4⟩:=rx;obtain⟨c,h⟩:=h.be;obtain⟨i1,i2,i3⟩:=wz h4 c;exact⟨false,vs,(Rd.seq h2).same' s,rfl,i1,by rw[i3];exact h.flat s ⟨rfl,rfl⟩⟩
   |_=>exact h.elim
  |int=>
   cases x with
   |int i=>cases rx;exact h.flat s ⟨rfl,rfl⟩
   |bl b=>cases rx;exact h.flat s ⟨rfl,rfl⟩
   |str z=>
    obtain⟨rfl,hz⟩:=rx;obtain⟨c,h⟩:=h.be;obtain⟨d,e⟩:=h.some (by first|exact BO _ _|exact qP _ _ _|(repeat' (first|exact a9.ok|exact a9.bad|exact a9.opt|exact a9.eN _|refine a9.be ?_|(refine a9.bind ?_ fun _=>?_)|split)));obtain⟨n,e1,e2⟩:=bW e;rw[e]at h;cases e2;exact⟨of_decide_eq_true c,n,mY e1,h.flat s ⟨rfl,rfl⟩⟩
   |_=>exact h.elim
  |str=>
   cases x with
   |int i=>
    cases rx;obtain⟨c,h⟩:=h.be;have c:i.natAbs.log2<1920/\(mR i).length<=aa:=by simpa using c
    exact⟨c.1,h.flat s ⟨⟨rfl,c.2⟩,rfl⟩⟩
   |_=>exact h.elim
  |abs=>
   cases x with
   |int i=>cases rx;exact h.flat s ⟨rfl,rfl⟩
   |_=>exact h.elim
  |_=>exact h.elim
 |[x,y],r,h=>
  obtain⟨v,r',rfl,rx,u,r2,rfl,ry,e⟩:=r;cases e;cases x with
  |int i=>
   cases rx;cases y with
   |int j=>
    cases ry;cases f<;>first|exact h.elim|exact h.flat s ⟨rfl,rfl⟩
   |_=>exact h.elim
  |_=>exact h.elim
 |_::_::_::_,_,h=>exact h.elim
theorem Rl{Q:Bool->Prop}(s:aY F H)(rx:aV K F x v)(hn:oO x=true)(q:Q (uN t x)):v7 K t v H Q:=by
 cases x with
 |non=>cases rx;exact q
 |bl k=>cases rx;exact q
 |int i=>cases rx;exact q
 |str z=>obtain⟨rfl,hz⟩:=rx;exact q
 |lst o ds=>
  obtain⟨a,vs,rfl,h2,h3,h4⟩:=rx;exact .inl ⟨vs,Rd.same s h2,q⟩
 |tup ds=>
  obtain⟨a,vs,rfl,h2,h3,h4⟩:=rx;exact .inr (.inl ⟨vs,(tupS h2).same' s,q⟩)
 |cst ds=>
  obtain⟨a,vs,rfl,h2,h3,h4⟩:=rx;exact .inr (.inl ⟨vs,.inr h2,q⟩)
 |exc C ks ds=>cases hn
theorem wA:∀{ds:List D}{vs:List V}{ss:List Str},aD K F ds vs->jL ds=some ss->vs=ss.map V.str
|[],_,_,h,e=>by cases h;cases e;rfl
|d::ds,_,ss,h,e=>by
 obtain⟨v,r,rfl,h2,h3⟩:=h;cases d with
 |str z=>
  have e:(jL ds).map (z::·)=some ss:=e;cases q:jL ds with
  |none=>rw[q]at e;cases e
  |some s2=>
   rw[q]at e;cases e;rw[wA h3 q,h2.1];rfl
 |_=>cases e
theorem Jw(c:Nat)(l:List Nat)(hl:l.length<=aa):aD K F (qN c l) ((cM c l).map fun p=>V.str (strOf p)):=by
 obtain⟨h1,_⟩:=p9 c l;unfold qN;revert h1;generalize cM c l=ps;intro h1;induction ps with
 |nil=>exact rfl
 |cons p r ih=>
  refine⟨_,_,rfl,⟨rfl,?_⟩,ih fun q hq=>h1 q (ai _ hq)⟩;rw[Lh];have:=h1 p aq;omega
theorem wF:∀ps:List (List Nat),aC (ps.map fun p=>D.str (strOf p))=ps.map fun p=>D.str (strOf p)
|[]=>rfl
|p::r=>by show D.str (strOf p)::aC _=_;rw[wF r];rfl
theorem zN:∀{ds:List D}{vs:List V}{bs:List Bool},aD K F ds vs->sZ ds=some bs->vs=bs.map V.bl
|[],_,_,h,e=>by cases h;cases e;rfl
|d::ds,_,bs,h,e=>by
 obtain⟨v,r,rfl,h2,h3⟩:=h;cases d<;>first|(cases e;done)|skip
 rename_i b;have e:(sZ ds).map (b::·)=some bs:=e;cases q:sZ ds with
 |none=>rw[q]at e;cases e
 |some cs=>
  rw[q]at e;cases e;rw[zN h3 q];cases h2;rfl
theorem Lj(s:aY F H)(rx:aV K F x v)(h:lz m x ds=.ok d):rM m v H:=by
 cases x with
 |str z=>
  obtain⟨rfl,_⟩:=rx
  match ds,h with
  |[y],h=>
   cases y with
   |str q=>cases m<;>first|exact trivial|(cases h)
   |lst o ys=>cases m<;>first|exact trivial|(cases h)
   |_=>cases h
  |[],h=>cases m<;>first|exact trivial|(cases h)
  |_::_::_,h=>cases h
 |lst o xs=>
  obtain⟨a,us,rfl,h2,_⟩:=rx
  match ds,h with
  |[y],h=>
   cases y<;>first|(cases h;done)|skip
   cases m<;>first|exact⟨us,Rd.same s h2⟩|(cases h)
  |[],h=>cases h
  |_::_::_,h=>cases h
 |_=>cases h
theorem frzs_strs':∀ws:List Str,aC (ws.map D.str)=ws.map D.str
|[]=>rfl
|w::r=>by show D.str w::aC (r.map D.str)=_;rw[frzs_strs' r];rfl
theorem Rm[Ex](s:aY F H)(rx:aV K F x v)(r:aD K F ds vs)(h:PV K F H (lz m x ds) Q):uD K m v vs H Q:=by
 cases x with
 |str z=>
  obtain⟨rfl,hz⟩:=rx
  match ds,r,h with
  |[y],r,h=>
   obtain⟨u,r',rfl,ry,e⟩:=r;cases e;cases y with
   |str q=>
    obtain⟨rfl,hq⟩:=ry;cases m with
    |startswith=>
     exact h.flat s ⟨rfl,rfl⟩
    |split=>
     obtain⟨c,h⟩:=h.be;have c:q.length=1/\z.length+2<=aa:=by simpa using c
     refine⟨c.1,c.2,fun p hp=>?_⟩;have r:=Jw (K:=K) (F:=F) (q.cps.getD 0 0) z.cps.toList (by rw[tZ];exact hz);have h':PV K F H (.ok (.lst true (aC (qN (q.cps.getD 0 0) z.cps.toList)))) Q:=by
      unfold qN at h ⊢;rw[wF];exact h
     refine h'.lst s r ?_ hp;rw[aH];have:=(p9 (q.cps.getD 0 0) z.cps.toList).2;rw[tZ]at this;omega
    |count=>
     obtain⟨c,h⟩:=h.be;exact⟨of_decide_eq_true c,hz,h.flat s ⟨rfl,rfl⟩⟩
    |index=>
     obtain⟨c,h⟩:=h.be;have c:q.length=1/\(q.cps.getD 0 0)∈z.cps.toList:=by simpa only[bx,decide_eq_true_eq]using c
     exact⟨c.1,hz,c.2,h.flat s ⟨rfl,rfl⟩⟩
    |_=>exact h.elim
   |lst o ys=>
    obtain⟨a,us,rfl,h2,h3,h4⟩:=ry;cases m with
    |join=>
     obtain⟨d,e⟩:=h.some (by first|exact BO _ _|exact qP _ _ _|(repeat' (first|exact a9.ok|exact a9.bad|exact a9.opt|exact a9.eN _|refine a9.be ?_|(refine a9.bind ?_ fun _=>?_)|split)));obtain⟨ss,e1,e2⟩:=bW (show((R.opt (jL ys)).bind fun ss=>R.be (decide ((ss.map (·.length)).sum+ss.length*z.length<=aa)) (.ok (.str (dU z ss))))=.ok d from e);obtain⟨c,e3⟩:=gZ e2;rw[e]at h;cases e3;exact⟨false,us,(Rd.seq h2).same' s,rfl,ss,wA h4 (mY e1),of_decide_eq_true c,h.flat s ⟨⟨rfl,dH (E7 z ss) (of_decide_eq_true c)⟩,rfl⟩⟩
    |_=>exact h.elim
   |_=>exact h.elim
  |[],r,h=>
   cases m with
   |split=>
    cases r;obtain⟨c,h⟩:=h.be;simp only[bx,decide_eq_true_eq]at c;refine⟨⟨hz,c.1⟩,fun p hp=>?_⟩;have r:∀ws:List Str,(ws.all fun w=>decide (w.length<=aa))=true->aD K F (ws.map D.str) (ws.map V.str):=by
     intro ws;induction ws with
     |nil=>intro _;exact rfl
     |cons w ws ih=>
      intro hc;obtain⟨c1,c2⟩:=nJ.mp hc;exact⟨_,_,rfl,⟨rfl,of_decide_eq_true c1⟩,ih c2⟩
    have h':PV K F H (.ok (.lst true (aC ((gD z).map D.str)))) Q:=by
     rw[frzs_strs'];exact h
    exact h'.lst s (r _ c.2) (by rw[aH];exact c.1) hp
   |_=>exact h.elim
  |_::_::_,_,h=>exact h.elim
 |lst o xs=>
  obtain⟨a,us,rfl,h2,h3,h4⟩:=rx
  match ds,r,h with
  |[y],r,h=>
   obtain⟨u,r',rfl,ry,e⟩:=r;cases e;cases y<;>first|exact h.elim|skip
   rename_i k;cases ry;have h:PV K F H (Jr m xs k) Q:=h;cases m<;>first|exact h.elim|skip
   ·have h:PV K F H ((R.opt (sZ xs)).bind fun bs=>.ok (.int (bs.count k))) Q:=h;cases q:sZ xs with
    |none=>rw[q]at h;exact h.elim
    |some bs=>
     rw[q]at h;have e:=zN h4 q;subst e;exact⟨bs,Rd.same s h2,PV.flat (d:=.int (bs.count k)) h s ⟨rfl,rfl⟩⟩
   ·have h:PV K F H ((R.opt (sZ xs)).bind fun bs=>.be (decide (k∈bs)) (.ok (.int (bs.idxOf k)))) Q:=h;cases q:sZ xs with
    |none=>rw[q]at h;exact h.elim
    |some bs=>
     rw[q]at h;have e:=zN h4 q;subst e;obtain⟨c,h⟩:=PV.be (show PV K F H (.be (decide (k∈bs)) (.ok (.int (bs.idxOf k)))) Q from h);exact⟨bs,Rd.same s h2,of_decide_eq_true c,h.flat s ⟨rfl,rfl⟩⟩
  |[],_,h=>exact h.elim
  |_::_::_,_,h=>exact h.elim
 |_=>exact h.elim
end
variable{Q':List V->Hp->Prop}
variable{L:a_}{is:List Nat}
variable{E:XK}
variable{nl:List Str}{fr:List Nat}
section
variable{K:PySem.W.Frag}{Zb:List PG}{Y:List G}
theorem PV.bind[Ex]{r:R D}{f:D->R D}{Q':VK}(h:PV K F H (r.bind f) Q)(k:∀x F1 H1 v,bJ F H F1 H1->aV K F1 x v->PV K F1 H1 (f x) Q->Q' v H1):PV K F H r Q':=by
 cases r with
 |ok x=>
  intro F1 H1 v fp g fr rx;obtain⟨F2,g2,s2,rf⟩:=Ob g fr rx;exact k x F2 H1 v g2 rf (PV.grow h g2)
 |ex x=>exact h
 |bad=>exact h.elim
theorem PB.j_[Ex]{r:R D}{f:D->R α}{Q:α->Hp->Prop}{Q':VK}(h:PB K F H (r.bind f) Q)(k:∀x F1 H1 v,bJ F H F1 H1->aV K F1 x v->PB K F1 H1 (f x) Q->Q' v H1):PV K F H r Q':=by
 cases r with
 |ok x=>
  intro F1 H1 v fp g fr rx;obtain⟨F2,g2,s2,rf⟩:=Ob g fr rx;exact k x F2 H1 v g2 rf (PB.grow h g2)
 |ex x=>exact h
 |bad=>exact h.elim
theorem PB.bindB[Ex]{r:R β}{f:β->R α}{Q:α->Hp->Prop}{Q':β->Hp->Prop}(h:PB K F H (r.bind f) Q)(k:∀x F1 H1,bJ F H F1 H1->PB K F1 H1 (f x) Q->Q' x H1):PB K F H r Q':=by
 cases r with
 |ok x=>exact fun F1 H1 g=>k x F1 H1 g (PB.grow h g)
 |ex x=>exact h
 |bad=>exact h.elim
theorem PV.bindB[Ex]{r:R β}{f:β->R D}{Q':β->Hp->Prop}(h:PV K F H (r.bind f) Q)(k:∀x F1 H1,bJ F H F1 H1->PV K F1 H1 (f x) Q->Q' x H1):PB K F H r Q':=by
 cases r with
 |ok x=>exact fun F1 H1 g=>k x F1 H1 g (PV.grow h g)
 |ex x=>exact h
 |bad=>exact h.elim
theorem wy.Ei[Ex]{r:R (List D)}{f:List D->R D}(h:PV K F H (r.bind f) Q)(k:∀xs F1 H1 vs,bJ F H F1 H1->aD K F1 xs vs->PV K F1 H1 (f xs) Q->Q' vs H1):wy K F H r Q':=by
 cases r with
 |ok x=>
  intro F1 H1 v fp g fr rx;obtain⟨F2,g2,s2,rf⟩:=yf g fr rx;exact k x F2 H1 v g2 rf (PV.grow h g2)
 |ex x=>exact h
 |bad=>exact h.elim
theorem PB.Vo[Ex]{r:R (List D)}{f:List D->R α}{Q:α->Hp->Prop}(h:PB K F H (r.bind f) Q)(k:∀xs F1 H1 vs,bJ F H F1 H1->aD K F1 xs vs->PB K F1 H1 (f xs) Q->Q' vs H1):wy K F H r Q':=by
 cases r with
 |ok x=>
  intro F1 H1 v fp g fr rx;obtain⟨F2,g2,s2,rf⟩:=yf g fr rx;exact k x F2 H1 v g2 rf (PB.grow h g2)
 |ex x=>exact h
 |bad=>exact h.elim
theorem PV.Vp[Ex](h:PV K F H (.ok (.lst true ds)) Q)(g:bJ F H F1 H1)(fr:fL fp H F1)(r:a7 K H1 F1 ds vs fp)(hl:vs.length<=aa)(hp:H1 p=none):Q (.ref p) (upd H1 p (.lst vs)):=by
 obtain⟨g2,hf⟩:=newList (vs:=vs) (o:=.lst vs) g.s hp;have np:p∉fp:=fun z=>by
  obtain⟨o,e,_⟩:=a7.ex ds vs fp r p z;rw[hp]at e;cases e
 refine h F1 _ (.ref p) (p::fp) (g.trans g2) ⟨b7.mpr ⟨np,fr.nd⟩,?_,?_⟩ ?_
 ·intro a ha;rcases aJ.mp ha with rfl|ha
  ·exact aY.none g.h hp
  ·exact fr.nh a ha
 ·intro a ha;rcases aJ.mp ha with rfl|ha
  ·exact hf
  ·exact fr.nf a ha
 ·unfold bK;rw[if_pos rfl];exact⟨p,vs,fp,rfl,bO,hl,a7.mono (aY.refl _) ds vs fp (fun a ha=>aS (fun z=>np (by rw[<-z];exact ha))) r,rfl⟩
theorem PV.Yr[Ex](h:PV K F H (.ok (.tup ds)) Q)(g:bJ F H F1 H1)(fr:fL fp H F1)(r:a7 K H1 F1 ds vs fp)(hl:vs.length<=aa)(hp:H1 p=none):Q (.ref p) (upd H1 p (.tup vs)):=by
 have g2:=tY (o:=.tup vs) g.s hp;have np:p∉fp:=fun z=>by
  obtain⟨o,e,_⟩:=a7.ex ds vs fp r p z;rw[hp]at e;cases e
 refine h _ _ (.ref p) fp (g.trans g2) ⟨fr.nd,fr.nh,fun a ha=>?_⟩ ?_
 ·rw[aS (fun z=>np (by rw[<-z];exact ha))];exact fr.nf a ha
 ·exact⟨p,vs,rfl,bO,hl,a7.mono g2.f ds vs fp (fun a ha=>aS (fun z=>np (by rw[<-z];exact ha))) r⟩
theorem Lk(z:Str):kB K F (tW z) ((chars z).map .v):=by
 unfold tW chars;have hs:=szl;induction z.cps.toList with
 |nil=>exact rfl
 |cons c r ih=>exact⟨_,_,rfl,⟨rfl,by show(1:Nat)<=_;omega⟩,ih⟩
theorem wH:∀{ds:List D}{vs:List V},aD K F ds vs->kB K F (aC ds) (vs.map .v)
|[],_,h=>by cases h;exact rfl
|d::ds,_,h=>by
 obtain⟨v,r,rfl,h2,h3⟩:=h;exact⟨_,_,rfl,(aV.bq d v).mpr h2,wH h3⟩
theorem HV:∀{ds es:List D}{vs us:List V},aD K F ds vs->aD K F es us->kB K F (s9 (aC ds) (aC es)) (sV vs us)
|[],_,_,_,h,h'=>by cases h;exact rfl
|d::ds,[],_,_,h,h'=>by
 obtain⟨v,r,rfl,h2,h3⟩:=h;cases h';exact rfl
|d::ds,e::es,_,_,h,h'=>by
 obtain⟨v,r,rfl,h2,h3⟩:=h;obtain⟨v',r',rfl,h2',h3'⟩:=h';have hs:=szl;exact⟨_,_,rfl,⟨_,rfl,⟨_,_,rfl,(aV.bq d v).mpr h2,_,_,rfl,(aV.bq e v').mpr h2',rfl⟩,by show(2:Nat)<=_;omega⟩,HV h3 h3'⟩
theorem E9:∀(ds es:List D),(s9 ds es).length<=ds.length
|[],es=>by cases es<;>exact aM _
|d::ds,[]=>j6 _
|d::ds,e::es=>Nat.succ_le_succ (E9 ds es)
theorem E_:∀{ds:List D}{vs:List V} (n:Nat),aD K F ds vs->kB K F (iO n (aC ds)) (lI n vs)
|[],_,n,h=>by cases h;exact rfl
|d::ds,_,n,h=>by
 obtain⟨v,r,rfl,h2,h3⟩:=h;have hs:=szl;exact⟨_,_,rfl,⟨_,rfl,⟨_,_,rfl,rfl,_,_,rfl,(aV.bq d v).mpr h2,rfl⟩,by show(2:Nat)<=_;omega⟩,E_ (n+1) h3⟩
theorem C4(lo:Int)(n:Nat):kB K F (oQ lo n) ((bY n).map fun(i:Nat)=>Item.v (.int (lo+(i:Int)))):=by
 unfold oQ;induction bY n with
 |nil=>exact rfl
 |cons c r ih=>exact⟨_,_,rfl,rfl,ih⟩
theorem C5:∀(ds:List D) (n:Nat),(iO n ds).length=ds.length
|[],n=>rfl
|d::r,n=>by show(iO (n+1) r).length+1=_;rw[C5 r];rfl
theorem kB.mono(e:aY F F'):∀{ds:List D}{its:List Item},kB K F ds its->kB K F' ds its
|[],_,h=>h
|d::ds,_,h=>by
 obtain⟨it,r,h1,h2,h3⟩:=h;refine⟨it,r,h1,?_,kB.mono e h3⟩;cases it with
 |v x=>exact aV.mono e d x h2
 |tup xs=>obtain⟨es,q1,q2,q3⟩:=h2;exact⟨es,q1,aD.mono e es xs q2,q3⟩
theorem C6{it:Item}{k:V->Hp->Prop}(s:aY F H)(r:Vk K F d it)(h:∀F1 H1 v,bJ F H F1 H1->aV K F1 d v->k v H1):mkItem it H k:=by
 cases it with
 |v x=>exact h F H x (bJ.refl s) r
 |tup xs=>
  obtain⟨ds,rfl,r2,r3⟩:=r;intro p hp;have g:=tY (o:=.tup xs) s hp;exact h _ _ _ g ⟨p,xs,rfl,bO,r3,aD.mono g.f ds xs r2⟩
def lA(K:PySem.W.Frag)(F:Hp)(L:a_)(O:L2.St):Prop:=∀(i:Nat) d,L[i]?=some (some d)->∃v,O[i]?=some (some v)/\aV K F d v
theorem lA.env{O:L2.St}(h:lA K F L O)(s:aY F H):iA K F H is L O:=⟨fun i _ d e=>h i d e,fun k d e=>let⟨v,h1,h2⟩:=h k d e;⟨v,F,h1,s,h2⟩⟩
theorem lA.mono{O:L2.St}(h:lA K F L O)(e:aY F F'):lA K F' L O:=fun i d q=>by
 obtain⟨v,h1,h2⟩:=h i d q;exact⟨v,h1,aV.mono e d v h2⟩
theorem lA.set{O:L2.St}{i:Nat}(h:lA K F L O)(hl:L.length=O.length)(r:aV K F d v):lA K F (L.set i (some d)) (O.set i (some v)):=fun j e q=>by
 by_cases hij:i=j
 ·subst hij;rw[d_]at q;by_cases hi:i<L.length
  ·simp[hi]at q;subst q;exact⟨v,by rw[d_];simp[<-hl,hi],r⟩
  ·simp[hi]at q
 ·rw[b6 hij]at q;obtain⟨w,h1,h2⟩:=h j e q;exact⟨w,by rw[b6 hij];exact h1,h2⟩
mutual
theorem XA:∀(g:CG) {d:D}{v:V}{L Zj:a_}{O:L2.St}{F H:Hp}{Q:L2.St->Hp->Prop},lA K F L O->L.length=O.length->aY F H->aV K F d v->pG g d L=.ok Zj->(∀Zd,lA K F Zj Zd->Zj.length=Zd.length->Q Zd H)->wG K Y E g v O H Q
|.name i,d,v,L,Zj,O,F,H,Q,a,hl,s,r,e,h=>by
 cases e;exact h _ (a.set hl r) (by simp[hl])
|.tup gs,d,v,L,Zj,O,F,H,Q,a,hl,s,r,e,h=>by
 cases d with
 |tup ds=>
  obtain⟨b,vs,rfl,h2,h3,h4⟩:=r;obtain⟨c,e⟩:=gZ e;exact⟨true,vs,(tupS h2).same' s,rfl,by rw[h4.len];exact of_decide_eq_true c,Vq gs a hl s h4 e h⟩
 |_=>cases e
|.sub _ _,d,v,L,Zj,O,F,H,Q,a,hl,s,r,e,h=>by cases e
theorem Vq:∀(g:oM) {ds:List D}{vs:List V}{L Zj:a_}{O:L2.St}{F H:Hp}{Q:L2.St->Hp->Prop},lA K F L O->L.length=O.length->aY F H->aD K F ds vs->vn g ds L=.ok Zj->(∀Zd,lA K F Zj Zd->Zj.length=Zd.length->Q Zd H)->HG K Y E g vs O H Q
|.nil,ds,vs,L,Zj,O,F,H,Q,a,hl,s,r,e,h=>by
 cases ds with
 |nil=>cases r;cases e;exact h O a hl
 |cons d dr=>cases e
|.cons g gr,ds,vs,L,Zj,O,F,H,Q,a,hl,s,r,e,h=>by
 cases ds with
 |nil=>cases e
 |cons d dr=>
  obtain⟨v,vr,rfl,r1,r2⟩:=r;obtain⟨Zg,e1,e2⟩:=bW e;exact XA g a hl s r1 e1 fun Zd a' hl'=>Vq gr a' hl' s r2 e2 h
end
theorem Ll{O:L2.St}(h:iA K F H fr L O):lA K F (nl.map (fun _=>none)++fr.map (fun i=>L.getD i none)) (nl.map (fun _=>none)++fr.map (fun i=>O.getD i none)):=by
 intro i d e;by_cases hi:i<nl.length
 ·rw[eE (by simpa using hi)]at e;rw[bL]at e;cases q:nl[i]? with
  |none=>rw[q]at e;cases e
  |some x=>rw[q]at e;cases e
 ·rw[cL (by simpa using hi)]at e ⊢;simp only[aH,bL]at e ⊢;cases q:fr[i-nl.length]? with
  |none=>rw[q]at e;cases e
  |some j=>
   rw[q]at e;have e:L.getD j none=some d:=by simpa using e
   have e':L[j]?=some (some d):=by
    rw[dX]at e;cases z:L[j]? with
    |none=>rw[z]at e;cases e
    |some o=>rw[z]at e;simp at e;rw[e]
   obtain⟨v,h1,h2⟩:=h.e j (fU q) d e';refine⟨v,?_,h2⟩;simp[dX,h1]
theorem Lm{O:L2.St}:(nl.map (fun _=>(none:Option D))++fr.map (fun i=>L.getD i none)).length=(nl.map (fun _=>(none:Option V))++fr.map (fun i=>O.getD i none)).length:=by simp
theorem Fb[Ex]{E:XK}{tg:CG}{cond:CO}{elt:CE}{k:List V->Hp->Prop}
 (hc:∀{L:a_}{O:L2.St}{F H:Hp}{Q:Bool->Hp->Prop},lA K F L O->aY F H->PB K F H (pC Zb cond L) Q->wC K Y E cond O H Q)
 (he:∀{L:a_}{O:L2.St}{F H:Hp}{Q:VK},lA K F L O->aY F H->PV K F H (pE Zb elt L) Q->wE K Y E elt O H Q) (ok:Hp->Prop) (H0:Hp) (F0:Hp) :
 ∀(ds:List D) (its:List Item) (acc:List D) (vacc:List V) (fp:List Addr) (L:a_) (O:L2.St) (F H:Hp),lA K F L O->L.length=O.length->bJ F0 H0 F H->kB K F ds its->(∀H'',aY F H''->ok H'')->acc.length+ds.length<=aa->
  a7 K H F acc vacc fp->fL fp H0 F->
  (∀ys,cZ (pG tg) (pC Zb cond) (pE Zb elt) ds L=.ok ys->∀F' H' vs fp',bJ F0 H0 F' H'->a7 K H' F' (acc++ys) vs fp'->fL fp' H0 F'->k vs H')->(∃ys,cZ (pG tg) (pC Zb cond) (pE Zb elt) ds L=.ok ys)->
  pZ ok (wG K Y E tg) (wC K Y E cond) (wE K Y E elt) k its vacc O H
|[],its,acc,vacc,fp,L,O,F,H,a,hl,g,hi,hok,hz,ra,fr,hk,hy=>by
 cases hi;refine⟨hok H g.s,hk [] rfl F H vacc fp g (by rw[gO];exact ra) fr⟩
|d::ds,its,acc,vacc,fp,L,O,F,H,a,hl,g,hi,hok,hz,ra,fr,hk,hy=>by
 obtain⟨it,r,rfl,i1,i2⟩:=hi;obtain⟨ys,ey⟩:=hy;obtain⟨Zg,e1,e2⟩:=bW ey;obtain⟨b,e3,e4⟩:=bW e2;simp only[aN]at hz;refine⟨hok H g.s,by rw[ra.len];omega,C6 g.s i1 fun F1 H1 v g1 r1=>?_⟩;have fresh1:∀{F' H':Hp},bJ F H F' H'->a7 K H' F' acc vacc fp/\fL fp H0 F':=fun g'=>by
  obtain⟨c1,c2⟩:=Vj g' fr ra;exact⟨c1,fr.nd,fr.nh,c2⟩
 refine XA tg (a.mono g1.f) hl g1.s r1 e1 fun Zd a' hl'=>?_;refine hc a' g1.s ?_;rw[e3];intro F2 H2 g2;have g12:=g1.trans g2;have hok2:∀{F' H':Hp},bJ F H F' H'->∀H'',aY F' H''->ok H'':=fun g' H'' s''=>hok H'' (g'.f.trans s'');cases b with
 |false=>
  rw[if_neg aE];have e4:cZ (pG tg) (pC Zb cond) (pE Zb elt) ds Zg=.ok ys:=e4;obtain⟨c1,c2⟩:=fresh1 g12;refine Fb hc he ok H0 F0 ds r acc vacc fp Zg Zd F2 H2 (a'.mono g2.f) hl' (g.trans g12) (kB.mono g12.f i2) (hok2 g12) (by omega) c1 c2 (fun zs ez=>?_) ⟨ys,e4⟩;refine hk zs ?_;simp only[cZ,e1,R.bind,e3,Bool.false_eq_true,if_false];exact ez
 |true=>
  rw[if_pos rfl];have e4:((pE Zb elt Zg).bind fun y=>(cZ (pG tg) (pC Zb cond) (pE Zb elt) ds Zg).bind fun ys=>.ok (y::ys))=.ok ys:=e4;obtain⟨y,e5,e6⟩:=bW e4;obtain⟨zs,e7,e8⟩:=bW e6;refine he (a'.mono g2.f) g2.s ?_;rw[e5];intro F3 H3 w f3 g3 fr3 r3;have g123:=g12.trans g3;obtain⟨c1,c2⟩:=fresh1 g123;have hx:∀a∈fp,∃o,H a=some o:=fun a ha=>by
   obtain⟨o,e,_⟩:=a7.ex acc vacc fp ra a ha;exact⟨o,e⟩
  have fr':fL (fp++f3) H0 F3:=fL.app (H1:=H) g.h fr hx c2.nf ⟨fr3.nd,fun a ha=>aY.none g12.h (fr3.nh a ha),fr3.nf⟩;refine Fb hc he ok H0 F0 ds r (acc++[y]) (vacc++[w]) (fp++f3) Zg Zd F3 H3 (a'.mono (g2.f.trans g3.f)) hl' (g.trans g123) (kB.mono g123.f i2) (hok2 g123) (by simp;omega) (a7.app c1 (a7.one r3)) fr' (fun zs' ez=>?_) ⟨zs,e7⟩;rw[br];refine hk (y::zs') ?_;simp only[cZ,e1,R.bind,e3,e5,ez,if_true]
end
variable{k:(Hp->Prop)->List Item->Hp->Prop}
variable{g:Nat}
variable{as:ia}
section
variable{K:PySem.W.Frag}{Zb:List PG}{Y:List G}
mutual
theorem HW:∀d:D,bq (bq d)=bq d
|.non=>rfl
|.bl _=>rfl
|.int _=>rfl
|.str _=>rfl
|.lst o xs=>by show D.lst false (aC (aC xs))=_;rw[f7 xs];rfl
|.tup xs=>by show D.tup (aC (aC xs))=_;rw[f7 xs];rfl
|.cst xs=>by show D.cst (aC (aC xs))=_;rw[f7 xs];rfl
|.exc C ks xs=>by show D.exc C ks (aC (aC xs))=_;rw[f7 xs];rfl
theorem f7:∀ds:List D,aC (aC ds)=aC ds
|[]=>rfl
|d::r=>by show bq (bq d)::aC (aC r)=_;rw[HW d,f7 r];rfl
end
theorem PV.isOk[Ex]{r:R D}(h:PV K F H r Q)(n:r.a9):∃d,r=.ok d:=h.some n
theorem PI'.isOk[Ex]{r:R (Bool×List D)}(h:PI' K A F H r k)(n:r.a9):∃d,r=.ok d:=by
 cases r with
 |ok d=>exact⟨d,rfl⟩
 |ex x=>exact absurd rfl (n x)
 |bad=>exact h.elim
theorem PB.isOk[Ex]{r:R α}{Q:α->Hp->Prop}(h:PB K F H r Q)(n:r.a9):∃d,r=.ok d:=by
 cases r with
 |ok d=>exact⟨d,rfl⟩
 |ex x=>exact absurd rfl (n x)
 |bad=>exact h.elim
theorem BP{r:R α}{a:α}(h:r.eN=.ok a):r=.ok a:=by
 cases r with
 |ok b=>exact h
 |ex x=>cases h
 |bad=>cases h
theorem AH(Zc:cu K Zb Y){c:Option Addr}:∀(gs:List Nat) {b:Bool},BK Zb gs c=some b->sW Y gs c=some b
|[],b,h=>h
|g::gs,b,h=>by
 unfold BK at h;unfold sW;cases q:Zb[g]? with
 |none=>rw[q]at h;cases h
 |some p=>
  obtain⟨g',e1,e2⟩:=Zc.get g q;rw[q]at h;rw[e1];cases p<;>first|cases h|skip
  cases g'<;>first|exact e2.elim|skip
  obtain⟨rfl,rfl⟩:=e2;cases c with
  |none=>exact AH Zc gs h
  |some C=>
   dsimp only at h ⊢;split at h
   ·rename_i hC;rw[if_pos hC];split at h
    ·rename_i hD;rw[if_pos hD];exact h
    ·rename_i hD;rw[if_neg hD];exact AH Zc gs h
   ·cases h
theorem HY(Zc:cu K Zb Y):∀(gs:List Nat),Oa Zb gs=true->∃Ds,yb Y gs Ds
|[],_=>⟨[],rfl⟩
|g::gs,h=>by
 unfold Oa at h;rw[pF]at h;obtain⟨h1,h2⟩:=nJ.mp h;obtain⟨Ds,hD⟩:=HY Zc gs h2;cases q:Zb[g]? with
 |none=>rw[q]at h1;cases h1
 |some p=>
  obtain⟨g',e1,e2⟩:=Zc.get g q;rw[q]at h1;cases p<;>first|cases h1|skip
  cases g'<;>first|exact e2.elim|skip
  rename_i D Cs _ _;obtain⟨rfl,rfl⟩:=e2;exact⟨_,_,_,_,rfl,e1,hD⟩
theorem Fc(Zb:List PG)(gs:List Nat)(x:D):(wu Zb gs x).a9:=by unfold wu;(repeat' (first|exact a9.ok|exact a9.bad|exact a9.opt|exact a9.eN _|refine a9.be ?_|(refine a9.bind ?_ fun _=>?_)|split))
theorem Fd(Zb:List PG)(g:Nat)(x:D):(wx Zb g x).a9:=by unfold wx;(repeat' (first|exact a9.ok|exact a9.bad|exact a9.opt|exact a9.eN _|refine a9.be ?_|(refine a9.bind ?_ fun _=>?_)|split))
theorem Oh(Zb:List PG)(g:Nat)(f:Str)(x:D):(BL Zb g f x).a9:=by unfold BL;(repeat' (first|exact a9.ok|exact a9.bad|exact a9.opt|exact a9.eN _|refine a9.be ?_|(refine a9.bind ?_ fun _=>?_)|split))
theorem Rn(Zc:cu K Zb Y){gs:List Nat}{Q:Bool->Prop}(s:aY F H)(r:aV K F x v)(e:wu Zb gs x=.ok b)(q:Q b):EL Y gs v H Q:=by
 unfold wu at e;obtain⟨c,e⟩:=gZ e;simp only[bx,decide_eq_true_eq]at c;obtain⟨⟨c1,c2⟩,c3⟩:=c;refine⟨(fun z=>by subst z;cases c1),c2,HY Zc gs c3,?_⟩;cases x<;>first|cases e|skip
 ·cases r;exact⟨b,AH Zc gs (mY e),q⟩
 ·obtain⟨a,d,vs,rfl,h2,h3,h4⟩:=r;exact⟨false,_,d,_,s _ _ h2,s _ _ h3,b,AH Zc gs (mY e),q⟩
theorem Ro(Zc:cu K Zb Y){Q:Bool->Prop}(s:aY F H)(r:aV K F x v)(e:wx Zb g x=.ok b)(q:Q b):BE Y g v H Q:=by
 unfold wx at e;unfold BE;cases z:Zb[g]? with
 |none=>rw[z]at e;cases e
 |some p=>
  obtain⟨g',e1,e2⟩:=Zc.get g z;rw[z]at e;rw[e1];cases p<;>first|cases e|skip
  cases g'<;>first|exact e2.elim|skip
  obtain⟨rfl,rfl⟩:=e2;cases x<;>first|cases e|skip
  ·cases r;exact q
  ·obtain⟨a,d,vs,rfl,h2,h3,h4⟩:=r;obtain⟨c,e⟩:=gZ e;cases e;exact⟨false,_,d,_,s _ _ h2,s _ _ h3,of_decide_eq_true c,q⟩
theorem HZ{f:Str}:∀{ks:List Str}{ds:List D}{vs:List V},aD K F ds vs->Js ks ds f=some d->∃v,(ks.zip vs).lookup f=some v/\aV K F d v
|[],_,_,_,e=>by cases e
|k::ks,[],_,_,e=>by cases e
|k::ks,x::ds,_,h,e=>by
 obtain⟨v,r,rfl,h2,h3⟩:=h;unfold Js at e;rw[List.zip_cons_cons,b8];by_cases z:f=k
 ·rw[if_pos z]at e;cases e;rw[show(f==k)=true from by simp[z]];exact⟨v,rfl,h2⟩
 ·rw[if_neg z]at e;rw[show(f==k)=false from by simp[z]];exact HZ h3 e
theorem WT[Ex](Zc:cu K Zb Y){f:Str}(s:aY F H)(r:aV K F x v)(h:PV K F H (BL Zb g f x) Q):EM Y g f v H Q:=by
 obtain⟨y,e⟩:=h.isOk (Oh Zb g f x);rw[e]at h;unfold BL at e;unfold EM;cases z:Zb[g]? with
 |none=>rw[z]at e;cases e
 |some p=>
  obtain⟨g',e1,e2⟩:=Zc.get g z;rw[z]at e;rw[e1];cases p<;>first|cases e|skip
  cases g'<;>first|exact e2.elim|skip
  obtain⟨rfl,rfl⟩:=e2;cases x<;>first|cases e|skip
  obtain⟨a,d,vs,rfl,h2,h3,h4⟩:=r;obtain⟨c,e⟩:=gZ e;obtain⟨y',e3,e4⟩:=bW e;cases e4;obtain⟨w,k1,k2⟩:=HZ h4 (mY e3);simp only[bx,decide_eq_true_eq]at c;exact⟨false,_,d,_,s _ _ h2,s _ _ h3,c,w,k1,h.here s k2⟩
theorem PB.Rp[Ex]{r:R D}{Q:Bool->Hp->Prop}(h:PB K F H (r.bind gR) Q):PV K F H r (fun x H1=>iR K x H1 fun b=>Q b H1):=by
 refine h.j_ fun x F1 H1 v g r hb=>?_;obtain⟨b,e⟩:=hb.isOk (uP x);rw[e]at hb;exact Ju g.s r e (hb F1 H1 (bJ.refl g.s))
theorem rQ(F:Hp):aY (fun _=>none) F:=fun b o h=>by cases h
theorem Oi(r:aV K F x v)(h:o7 x=.ok ds):ds.length<=aa:=by
 cases x with
 |str z=>cases h;unfold tW;rw[aH,tZ];exact r.2
 |lst o xs=>cases h;obtain⟨a,vs,_,_,h3,h4⟩:=r;rw[iC,<-h4.len];exact h3
 |tup xs=>cases h;obtain⟨a,vs,_,_,h3,h4⟩:=r;rw[iC,<-h4.len];exact h3
 |_=>cases h
theorem WU{G:Hp}(s:aY G H)(r:aV K G x v)(e:o7 x=.ok ds)(h:∀ok its,(∀H'',aY G H''->ok H'')->kB K G ds its->ds.length<=aa->k ok its H):BD K v H k:=by
 have hl:=Oi r e;cases x with
 |str z=>cases e;obtain⟨rfl,hz⟩:=r;exact⟨hz,h _ _ (fun _ _=>trivial) (Lk z) hl⟩
 |lst o xs=>
  cases e;obtain⟨a,vs,rfl,h2,h3,h4⟩:=r;exact⟨false,vs,(Rd.seq h2).same' s,h _ _ (fun _ s'=>(Rd.seq h2).same' s') (wH h4) hl⟩
 |tup xs=>
  cases e;obtain⟨a,vs,rfl,h2,h3,h4⟩:=r;exact⟨true,vs,(tupS h2).same' s,h _ _ (fun _ s'=>(tupS h2).same' s') (wH h4) hl⟩
 |_=>cases e
theorem WV{is:List D}(r:aD K F ds vs)(e:qO ds=.ok is)(h:∀its,(∀G,kB K G is its)->is.length<=aa->k (fun _=>True) its H):v8 vs H k:=by
 have hs:=szl
 match ds,r,e with
 |[x],r,e=>
  obtain⟨v,r',rfl,rx,er⟩:=r;cases er;cases x with
  |int j=>
   cases rx;obtain⟨c,e2⟩:=gZ e;cases e2;have c:=of_decide_eq_true c;refine⟨⟨c.1,by omega⟩,h _ (fun G=>?_) (by unfold oQ;rw[aH,jw];exact c.2)⟩;have q:=C4 (K:=K) (F:=G) 0 j.toNat;simpa using q
  |_=>cases e
 |[x,y],r,e=>
  obtain⟨v,r',rfl,rx,u,r2,rfl,ry,er⟩:=r;cases er;cases x with
  |int i=>
   cases rx;cases y with
   |int j=>
    cases ry;obtain⟨c,e2⟩:=gZ e;cases e2;have c:=of_decide_eq_true c;exact⟨⟨c.1,c.2.1,c.2.2.1,c.2.2.2.1⟩,h _ (fun G=>C4 i _) (by unfold oQ;rw[aH,jw];exact c.2.2.2.2)⟩
   |_=>cases e
  |_=>cases e
 |[],_,e=>cases e
 |_::_::_::_,_,e=>
  unfold qO at e;split at e<;>first|(cases e)|(rename_i z;cases z)
theorem band'{a:Bool}(h:(a&&b)=true):a=true/\b=true:=by simpa using h
theorem WW[Ex](h:PV K F H (jy .len [x]) Q)(s:aY F H):PV K F' H (jy .len [x]) Q:=by
 cases x<;>first|exact PV.int h s|exact h.elim
theorem Rq[Ex]{f:Bf}{O:L2.St}(n:Vl K H L O)(s:aY F H)(hl:sQ f as=true)(h:PV K F H ((dJ Zb as L).bind fun ds=>jy f ds) Q):wEs K Y Ex.E as O H fun vs H1=>zA K f vs H1 Q:=by
 unfold sQ at hl;split at hl
 ·rename_i k;have h:PV K F H (((match L[k]? with
   |some (some d)=>R.ok (bq d)
   |_=>.bad).bind fun x=>(R.ok []).bind fun xs=>.ok (x::xs)).bind fun ds=>jy .len ds) Q:=h
  show kR O k fun v=>zA K .len [v] H Q;unfold kR;cases q:L[k]? with
  |none=>rw[q]at h;exact h.elim
  |some o=>
   cases o with
   |none=>rw[q]at h;exact h.elim
   |some d=>
    rw[q]at h;obtain⟨v,F',h1,h2,h3⟩:=n k d q;rw[h1];exact Jv h2 (show aD K F' [bq d] [v]from⟨v,[],rfl,(aV.bq d v).mpr h3,rfl⟩) (WW (show PV K F H (jy .len [bq d]) Q from h) s)
 ·cases hl
theorem Ln(Zc:cu K Zb Y)[Ex]{O:L2.St}(hE:∀QA:List V->Hp->Prop,wy K F H (dJ Zb as L) QA->wEs K Y Ex.E as O H QA)(h:PV K F H (pE Zb (.call g as) L) Q):wE K Y Ex.E (.call g as) O H Q:=by
 have h:PV K F H (match Zb[g]? with
  |some (.fn m dds)=>(dJ Zb as L).bind fun ds=>m (aC ds++dds)
  |_=>.bad) Q:=h
 show(match Y[g]? with
  |some (.fn sp dvs)=>wEs K Y Ex.E as O H fun vs H1=>sp (vs++dvs) H1 Q Ex.E
  |_=>False)
 cases q:Zb[g]? with
 |none=>rw[q]at h;exact h.elim
 |some p=>
  obtain⟨g',e1,e2⟩:=Zc.get g q;rw[q]at h;rw[e1];cases p<;>first|exact h.elim|skip
  ·rename_i m dds;cases g'<;>first|exact e2.elim|skip
   ·rename_i sp dvs;refine hE _ (wy.Ei (show PV K F H ((dJ Zb as L).bind fun ds=>m (aC ds++dds)) Q from h) fun ds F1 H1 vs g1 r1 h1=>?_);exact e2.1 _ _ _ _ ⟨F1,aC ds++dds,g1.s,by rw[nZ,f7,e2.2.1],aD.app ((aD.aC ds vs).mpr r1) (aD.mono (rQ F1) dds dvs e2.2.2),h1⟩
mutual
theorem eK(Zc:cu K Zb Y)[Ex]:∀(e:CE) {L:a_}{O:L2.St}{F H:Hp}{Q:VK},iA K F H (b5 e) L O->aY F H->cG e=true->PV K F H (pE Zb e L) Q->wE K Y Ex.E e O H Q
|.var i,L,O,F,H,Q,env,s,lt,h=>by
 have h:PV K F H (match L[i]? with
  |some (some d)=>.ok (bq d)
  |_=>.bad) Q:=h
 show kR O i fun v=>Q v H;unfold kR;cases q:L[i]? with
 |none=>rw[q]at h;exact h.elim
 |some o=>
  cases o with
  |none=>rw[q]at h;exact h.elim
  |some d=>
   rw[q]at h;obtain⟨v,h1,h2⟩:=env.e i (aU.mpr rfl) d q;rw[h1];exact h.here s h2
|.con v,L,O,F,H,Q,env,s,lt,h=>by
 have h:PV K F H (wo v) Q:=h;show Q v H;unfold wo at h;cases v<;>first|exact h.elim|exact h.flat s ⟨rfl,rfl⟩|exact h.flat s ⟨⟨rfl,of_decide_eq_true lt⟩,rfl⟩
|.glo g,L,O,F,H,Q,env,s,lt,h=>by
 have h:PV K F H (match Zb[g]? with
  |some (.val d)=>.ok (bq d)
  |_=>.bad) Q:=h
 show(match Y[g]? with
  |some (.val v)=>Q v H
  |some (.tup a _)=>Q (.ref a) H
  |_=>False)
 cases q:Zb[g]? with
 |none=>rw[q]at h;exact h.elim
 |some p=>
  obtain⟨g',e1,e2⟩:=Zc.get g q;rw[q]at h;rw[e1];cases p with
  |val d=>
   cases g' with
   |val v=>exact h.here s (aV.mono (rQ F) d v e2)
   |tup a xs=>exact h.here s (aV.mono (rQ F) d _ e2)
   |_=>exact e2.elim
  |_=>exact h.elim
|.bin op a b,L,O,F,H,Q,env,s,lt,h=>by
 obtain⟨l1,l2⟩:=band' lt;refine eK Zc a env.l s l1 (PV.bind (show PV K F H ((pE Zb a L).bind fun x=>(pE Zb b L).bind fun y=>eG op x y) Q from h) fun x F1 H1 v g1 r1 h1=>?_);refine eK Zc b (env.r.mono g1) g1.s l2 (h1.bind fun y F2 H2 u g2 r2 h2=>?_);exact WR g2.s (aV.mono g2.f x v r1) r2 h2
|.nset a,L,O,F,H,Q,env,s,lt,h=>by
 refine eK Zc a env s lt (PV.bind (show PV K F H ((pE Zb a L).bind fun x=>AF x) Q from h) fun x F1 H1 v g1 r1 h1=>?_);cases x with
 |lst o ds=>
  have h1:PV K F1 H1 (match jL ds with
   |some ss=>.be (decide (ss.length<4000)) (.ok (.int (mS ss).length))
   |none=>.bad) Q:=h1
  split at h1
  ·rename_i ss e1;obtain⟨c,h1⟩:=PV.be h1;obtain⟨b,us,rfl,k2,k3,k4⟩:=r1;have e2:=wA k4 e1;subst e2;exact⟨b,ss,rfl,Rd.same g1.s k2,of_decide_eq_true c,h1.flat g1.s ⟨rfl,rfl⟩⟩
  ·exact h1.elim
 |_=>exact h1.elim
|.neg a,L,O,F,H,Q,env,s,lt,h=>by
 refine eK Zc a env s lt (PV.bind (show PV K F H ((pE Zb a L).bind fun x=>match x with|.int i=>.ok (.int (-i))|_=>.bad) Q from h) fun x F1 H1 v g1 r1 h1=>?_);cases x with
 |int i=>cases r1;exact h1.flat g1.s ⟨rfl,rfl⟩
 |_=>exact h1.elim
|.not a,L,O,F,H,Q,env,s,lt,h=>by
 refine eK Zc a env s lt (PV.bind (show PV K F H ((pE Zb a L).bind fun x=>(gR x).bind fun b=>.ok (.bl (!b))) Q from h) fun x F1 H1 v g1 r1 h1=>?_);obtain⟨d,e⟩:=h1.isOk (a9.bind (uP x) fun _=>a9.ok);obtain⟨b,e1,e2⟩:=bW e;rw[e1]at h1;exact Ju g1.s r1 e1 (h1.flat g1.s ⟨rfl,rfl⟩)
|.and a b,L,O,F,H,Q,env,s,lt,h=>by
 obtain⟨l1,l2⟩:=band' lt;refine eK Zc a env.l s l1 (PV.bind (show PV K F H ((pE Zb a L).bind fun x=>match x with|.bl c=>if c=true then pE Zb b L else .ok (.bl false)|_=>.bad) Q from h) fun x F1 H1 v g1 r1 h1=>?_);cases x with
 |bl c=>
  cases r1;cases c with
  |true=>exact eK Zc b (env.r.mono g1) g1.s l2 h1
  |false=>exact h1.flat g1.s ⟨rfl,rfl⟩
 |_=>exact h1.elim
|.or a b,L,O,F,H,Q,env,s,lt,h=>by
 obtain⟨l1,l2⟩:=band' lt;refine eK Zc a env.l s l1 (PV.bind (show PV K F H ((pE Zb a L).bind fun x=>match x with|.bl c=>if c=true then .ok (.bl true)else pE Zb b L|_=>.bad) Q from h) fun x F1 H1 v g1 r1 h1=>?_);cases x with
 |bl c=>
  cases r1;cases c with
  |false=>exact eK Zc b (env.r.mono g1) g1.s l2 h1
  |true=>exact h1.flat g1.s ⟨rfl,rfl⟩
 |_=>exact h1.elim
|.ite c a b,L,O,F,H,Q,env,s,lt,h=>by
 obtain⟨l1,l2⟩:=band' lt;obtain⟨l2,l3⟩:=band' l2;refine vo Zc c env.l s l1 (PV.bindB (K:=K) (show PV K F H ((pT Zb c L).bind fun k=>if k=true then pE Zb a L else pE Zb b L) Q from h) fun k F1 H1 g1 h1=>?_);cases k with
 |true=>exact eK Zc a (env.r.l.mono g1) g1.s l2 h1
 |false=>exact eK Zc b (env.r.r.mono g1) g1.s l3 h1
|.cmp op a b,L,O,F,H,Q,env,s,lt,h=>by
 obtain⟨l1,l2⟩:=band' lt;refine eK Zc a env.l s l1 (PV.bind (show PV K F H ((pE Zb a L).bind fun x=>(pE Zb b L).bind fun y=>bQ op x y) Q from h) fun x F1 H1 v g1 r1 h1=>?_);refine eK Zc b (env.r.mono g1) g1.s l2 (h1.bind fun y F2 H2 u g2 r2 h2=>?_);exact yg g2.s (aV.mono g2.f x v r1) r2 h2
|.chain o1 o2 a b c,L,O,F,H,Q,env,s,lt,h=>by
 obtain⟨l1,l2⟩:=band' lt;obtain⟨l2,l3⟩:=band' l2;refine eK Zc a env.l s l1 (PV.bind (show PV K F H ((pE Zb a L).bind fun x=>(pE Zb b L).bind fun y=>(bQ o1 x y).bind fun z=>match z with|.bl k=>if k=true then(pE Zb c L).bind fun u=>bQ o2 y u else .ok (.bl false)|_=>.bad) Q from h) fun x F1 H1 v g1 r1 h1=>?_);refine eK Zc b (env.r.l.mono g1) g1.s l2 (h1.bind fun y F2 H2 u g2 r2 h2=>?_);refine yg g2.s (aV.mono g2.f x v r1) r2 (h2.bind fun z F3 H3 w g3 r3 h3=>?_);cases z with
 |bl k=>
  cases r3;cases k with
  |true=>exact eK Zc c (env.r.r.mono (g1.trans (g2.trans g3))) g3.s l3 (PV.bind (show PV K F3 H3 ((pE Zb c L).bind fun u=>bQ o2 y u) Q from h3) fun z F4 H4 w g4 r4 h4=>yg g4.s (aV.mono (g3.f.trans g4.f) y u r2) r4 h4)
  |false=>exact h3.flat g3.s ⟨rfl,rfl⟩
 |_=>exact h3.elim
|.call g as,L,O,F,H,Q,env,s,lt,h=>Ln Zc (fun _ h=>lZ Zc as env s lt h) h
|.blt f as,L,O,F,H,Q,env,s,lt,h=>by
 by_cases hl:sQ f as=true
 ·exact Rq env.n s hl h
 have env:iA K F H (jM as) L O:=by
  have e:iA K F H (if sQ f as=true then[]else jM as) L O:=env;rw[if_neg hl]at e;exact e
 refine lZ Zc as env s lt (wy.Ei (show PV K F H ((dJ Zb as L).bind fun ds=>jy f ds) Q from h) fun ds F1 H1 vs g1 r1 h1=>Jv g1.s r1 h1)
|.isi a t,L,O,F,H,Q,env,s,lt,h=>by
 refine eK Zc a env s lt (PV.bind (show PV K F H ((pE Zb a L).bind fun x=>.be (oO x) (.ok (.bl (uN t x)))) Q from h) fun x F1 H1 v g1 r1 h1=>?_);obtain⟨hn,h1⟩:=h1.be;exact Rl g1.s r1 hn (h1.flat g1.s ⟨rfl,rfl⟩)
|.mth m o as,L,O,F,H,Q,env,s,lt,h=>by
 obtain⟨l1,l2⟩:=band' lt;refine eK Zc o env.l s l1 (PV.bind (show PV K F H ((pE Zb o L).bind fun x=>(dJ Zb as L).eN.bind fun ds=>lz m x ds) Q from h) fun x F1 H1 v g1 r1 h1=>?_);obtain⟨d,e⟩:=h1.isOk (a9.bind (a9.eN _) fun _=>qP _ _ _);obtain⟨ds,e1,e2⟩:=bW e;have e1':=BP e1;rw[e1,<-e1']at h1;refine⟨Lj g1.s r1 e2,lZ Zc as (env.r.mono g1) g1.s l2 (wy.Ei h1 fun ds F2 H2 vs g2 r2 h2=>?_)⟩;exact Rm g2.s (aV.mono g2.f x v r1) r2 h2
|.ix a b,L,O,F,H,Q,env,s,lt,h=>by
 obtain⟨l1,l2⟩:=band' lt;refine eK Zc a env.l s l1 (PV.bind (show PV K F H ((pE Zb a L).bind fun x=>(pE Zb b L).bind fun y=>rP x y) Q from h) fun x F1 H1 v g1 r1 h1=>?_);refine eK Zc b (env.r.mono g1) g1.s l2 (h1.bind fun y F2 H2 u g2 r2 h2=>?_);exact Vn g2.s (aV.mono g2.f x v r1) r2 h2
|.sl a lo hi,L,O,F,H,Q,env,s,lt,h=>by
 obtain⟨l1,l2⟩:=band' lt;obtain⟨l2,l3⟩:=band' l2;refine eK Zc a env.l s l1 (PV.bind (show PV K F H ((pE Zb a L).bind fun x=>(pO Zb lo L).bind fun l=>(pO Zb hi L).bind fun h=>HR x l h) Q from h) fun x F1 H1 v g1 r1 h1=>?_);refine Rr Zc lo (env.r.l.mono g1) g1.s l2 (h1.bindB fun l F2 H2 g2 h2=>?_);refine Rr Zc hi (env.r.r.mono (g1.trans g2)) g2.s l3 (h2.bindB fun l' F3 H3 g3 h3=>?_);exact Yq g3.s (aV.mono (g2.f.trans g3.f) x v r1) h3
|.lst as,L,O,F,H,Q,env,s,lt,h=>by
 have h:PV K F H ((dJ Zb as L).bind fun ds=>.be (decide (ds.length<=aa)) (.ok (.lst true ds))) Q:=h;refine lZ Zc as env s lt ?_;cases e1:dJ Zb as L with
 |ex x=>rw[e1]at h;exact h
 |bad=>rw[e1]at h;exact h.elim
 |ok ds=>
 rw[e1]at h;obtain⟨c,h⟩:=PV.be h;intro F1 H1 vs fp g fr r;have hl:vs.length<=aa:=by rw[r.len];exact of_decide_eq_true c
 exact⟨hl,fun p hp=>h.Vp g fr r hl hp⟩
|.tup as,L,O,F,H,Q,env,s,lt,h=>by
 have h:PV K F H ((dJ Zb as L).bind fun ds=>.be (decide (ds.length<=aa)) (.ok (.tup ds))) Q:=h;refine lZ Zc as env s lt ?_;cases e1:dJ Zb as L with
 |ex x=>rw[e1]at h;exact h
 |bad=>rw[e1]at h;exact h.elim
 |ok ds=>
 rw[e1]at h;obtain⟨c,h⟩:=PV.be h;intro F1 H1 vs fp g fr r;have hl:vs.length<=aa:=by rw[r.len];exact of_decide_eq_true c
 exact⟨hl,fun p hp=>h.Yr g fr r hl hp⟩
|.comp nl fr elt tg src cond,L,O,F,H,Q,env,s,lt,h=>by
 obtain⟨l1,l2⟩:=band' lt;obtain⟨l2,l3⟩:=band' l2;have h:PV K F H ((pI Zb src L).bind fun items=>(cZ (pG tg) (pC Zb cond) (pE Zb elt) items.2 (nl.map (fun _=>none)++fr.map (fun i=>L.getD i none))).eN.bind fun ds=>.ok (.lst true ds)) Q:=h;refine Vr Zc src [] env.l s (fun _ h=>absurd h aW) l2 ?_;cases e1:pI Zb src L with
 |ex x=>rw[e1]at h;exact h
 |bad=>rw[e1]at h;exact h.elim
 |ok items=>
 rw[e1]at h;have h:PV K F H ((cZ (pG tg) (pC Zb cond) (pE Zb elt) items.2 (nl.map (fun _=>none)++fr.map (fun i=>L.getD i none))).eN.bind fun ds=>.ok (.lst true ds)) Q:=h;obtain⟨d,e⟩:=h.isOk (a9.bind (a9.eN _) fun _=>a9.ok);obtain⟨ys,e3,e4⟩:=bW e;rw[e]at h;cases e4;replace e3:=BP e3;intro F1 H1 ok its g1 hok hi hl;rw[Lg]at hok hi;refine@Fb K Zb Y ⟨E0⟩ E0 tg cond elt _ (fun a s' hb=>@ruC Zc ⟨E0⟩ cond _ _ _ _ _ (a.env s') s' l3 hb) (fun a s' hv=>@eK Zc ⟨E0⟩ elt _ _ _ _ _ (a.env s') s' l1 hv) ok H1 F1 items.2 its [] [] [] _ _ F1 H1 (Ll (env.r.mono g1)) Lm (bJ.refl g1.s) hi hok (by simpa using hl) ⟨rfl,rfl⟩ .nil (fun zs ez F' H' vs fp' g' r' fr' p hp=>?_) ⟨ys,e3⟩;rw[e3]at ez;cases ez;have hz:vs.length<=aa:=by
  rw[r'.len,sG];have:∀(ds:List D) (L:a_) (ys:List D),cZ (pG tg) (pC Zb cond) (pE Zb elt) ds L=.ok ys->ys.length<=ds.length:=by
   intro ds;induction ds with
   |nil=>intro L ys h;cases h;exact aM _
   |cons d ds ih=>
    intro L ys h;obtain⟨Zg,i1,i2⟩:=bW h;obtain⟨b,i3,i4⟩:=bW i2;cases b with
    |false=>have:=ih Zg ys i4;simp;omega
    |true=>
     obtain⟨y,i5,i6⟩:=bW (show((pE Zb elt Zg).bind fun y=>(cZ (pG tg) (pC Zb cond) (pE Zb elt) ds Zg).bind fun ys=>.ok (y::ys))=.ok ys from i4);obtain⟨zs,i7,i8⟩:=bW i6;cases i8;have:=ih Zg zs i7;simp;omega
  have:=this items.2 _ ys e3;omega
 refine h.Vp (g1.trans g') ⟨fr'.nd,fun a ha=>aY.none g1.h (fr'.nh a ha),fr'.nf⟩ r' hz hp
|.isx one gs a,L,O,F,H,Q,env,s,lt,h=>by
 refine eK Zc a env s lt (PV.bind (show PV K F H ((pE Zb a L).bind fun x=>(wu Zb gs x).bind fun b=>.ok (.bl b)) Q from h) fun x F1 H1 v g1 r1 h1=>?_);obtain⟨d,e⟩:=h1.isOk (a9.bind (Fc _ _ _) fun _=>a9.ok);obtain⟨b,e1,e2⟩:=bW e;rw[e1]at h1;exact Rn Zc g1.s r1 e1 (h1.flat g1.s ⟨rfl,rfl⟩)
|.isv g a,L,O,F,H,Q,env,s,lt,h=>by
 refine eK Zc a env s lt (PV.bind (show PV K F H ((pE Zb a L).bind fun x=>(wx Zb g x).bind fun b=>.ok (.bl b)) Q from h) fun x F1 H1 v g1 r1 h1=>?_);obtain⟨d,e⟩:=h1.isOk (a9.bind (Fd _ _ _) fun _=>a9.ok);obtain⟨b,e1,e2⟩:=bW e;rw[e1]at h1;exact Ro Zc g1.s r1 e1 (h1.flat g1.s ⟨rfl,rfl⟩)
|.slp a lo hi k,L,O,F,H,Q,env,s,lt,h=>by
 obtain⟨l1,l2⟩:=band' lt;obtain⟨l2,l3⟩:=band' l2;refine eK Zc a env.l s l1 (PV.bind (show PV K F H ((pE Zb a L).bind fun x=>(pO Zb lo L).bind fun l=>(pO Zb hi L).bind fun h=>N_ x l h k) Q from h) fun x F1 H1 v g1 r1 h1=>?_);refine Rr Zc lo (env.r.l.mono g1) g1.s l2 (h1.bindB fun l F2 H2 g2 h2=>?_);refine Rr Zc hi (env.r.r.mono (g1.trans g2)) g2.s l3 (h2.bindB fun l' F3 H3 g3 h3=>?_);exact WS g3.s (aV.mono (g2.f.trans g3.f) x v r1) h3
|.att g a f,L,O,F,H,Q,env,s,lt,h=>by
 exact eK Zc a env s lt (PV.bind (show PV K F H ((pE Zb a L).bind fun x=>BL Zb g f x) Q from h) fun x F1 H1 v g1 r1 h1=>WT Zc g1.s r1 h1)
theorem vo(Zc:cu K Zb Y)[Ex]:∀(e:CE) {L:a_}{O:L2.St}{F H:Hp}{Q:Bool->Hp->Prop},iA K F H (b5 e) L O->aY F H->cG e=true->PB K F H (pT Zb e L) Q->wT K Y Ex.E e O H Q
|.not a,L,O,F,H,Q,env,s,lt,h=>by
 exact vo Zc a env s lt (PB.bindB (show PB K F H ((pT Zb a L).bind fun b=>.ok (!b)) Q from h) fun b F1 H1 g1 h1=>h1 F1 H1 (bJ.refl g1.s))
|.and a b,L,O,F,H,Q,env,s,lt,h=>by
 obtain⟨l1,l2⟩:=band' lt;refine vo Zc a env.l s l1 (PB.bindB (show PB K F H ((pT Zb a L).bind fun c=>if c=true then pT Zb b L else .ok false) Q from h) fun c F1 H1 g1 h1=>?_);cases c with
 |true=>exact vo Zc b (env.r.mono g1) g1.s l2 h1
 |false=>exact h1 F1 H1 (bJ.refl g1.s)
|.or a b,L,O,F,H,Q,env,s,lt,h=>by
 obtain⟨l1,l2⟩:=band' lt;refine vo Zc a env.l s l1 (PB.bindB (show PB K F H ((pT Zb a L).bind fun c=>if c=true then .ok true else pT Zb b L) Q from h) fun c F1 H1 g1 h1=>?_);cases c with
 |false=>exact vo Zc b (env.r.mono g1) g1.s l2 h1
 |true=>exact h1 F1 H1 (bJ.refl g1.s)
|.ite c a b,L,O,F,H,Q,env,s,lt,h=>by
 obtain⟨l1,l2⟩:=band' lt;obtain⟨l2,l3⟩:=band' l2;refine vo Zc c env.l s l1 (PB.bindB (show PB K F H ((pT Zb c L).bind fun k=>if k=true then pT Zb a L else pT Zb b L) Q from h) fun k F1 H1 g1 h1=>?_);cases k with
 |true=>exact vo Zc a (env.r.l.mono g1) g1.s l2 h1
 |false=>exact vo Zc b (env.r.r.mono g1) g1.s l3 h1
|.cmp op a b,L,O,F,H,Q,env,s,lt,h=>by
 obtain⟨l1,l2⟩:=band' lt;refine eK Zc a env.l s l1 (PB.j_ (show PB K F H ((pE Zb a L).bind fun x=>(pE Zb b L).bind fun y=>(bQ op x y).bind fun z=>match z with|.bl k=>.ok k|_=>.bad) Q from h) fun x F1 H1 v g1 r1 h1=>?_);refine eK Zc b (env.r.mono g1) g1.s l2 (h1.j_ fun y F2 H2 u g2 r2 h2=>?_);refine yg g2.s (aV.mono g2.f x v r1) r2 (h2.j_ fun z F3 H3 w g3 r3 h3=>?_);cases z with
 |bl k=>cases r3;exact h3 F3 H3 (bJ.refl g3.s)
 |_=>exact h3.elim
|.chain o1 o2 a b c,L,O,F,H,Q,env,s,lt,h=>by
 obtain⟨l1,l2⟩:=band' lt;obtain⟨l2,l3⟩:=band' l2;refine eK Zc a env.l s l1 (PB.j_ (show PB K F H ((pE Zb a L).bind fun x=>(pE Zb b L).bind fun y=>(bQ o1 x y).bind fun z=>match z with|.bl k=>if k=true then(pE Zb c L).bind fun u=>(bQ o2 y u).bind fun z=>match z with|.bl k=>.ok k|_=>.bad else .ok false|_=>.bad) Q from h) fun x F1 H1 v g1 r1 h1=>?_);refine eK Zc b (env.r.l.mono g1) g1.s l2 (h1.j_ fun y F2 H2 u g2 r2 h2=>?_);refine yg g2.s (aV.mono g2.f x v r1) r2 (h2.j_ fun z F3 H3 w g3 r3 h3=>?_);cases z with
 |bl k=>
  cases r3;cases k with
  |true=>
   refine eK Zc c (env.r.r.mono (g1.trans (g2.trans g3))) g3.s l3 (PB.j_ (show PB K F3 H3 ((pE Zb c L).bind fun u=>(bQ o2 y u).bind fun z=>match z with|.bl k=>.ok k|_=>.bad) Q from h3) fun z F4 H4 w g4 r4 h4=>?_);refine yg g4.s (aV.mono (g3.f.trans g4.f) y u r2) r4 (h4.j_ fun z F5 H5 w g5 r5 h5=>?_);cases z with
   |bl k=>cases r5;exact h5 F5 H5 (bJ.refl g5.s)
   |_=>exact h5.elim
  |false=>exact h3 F3 H3 (bJ.refl g3.s)
 |_=>exact h3.elim
|.var i,L,O,F,H,Q,env,s,lt,h=>by
 have h:PB K F H (match L[i]? with
  |some (some d)=>gR d
  |_=>.bad) Q:=h
 show kR O i fun v=>iR K v H fun b=>Q b H;unfold kR;cases q:L[i]? with
 |none=>rw[q]at h;exact h.elim
 |some o=>
  cases o with
  |none=>rw[q]at h;exact h.elim
  |some d=>
   rw[q]at h;obtain⟨v,h1,h2⟩:=env.e i (aU.mpr rfl) d q;rw[h1];obtain⟨b,e⟩:=h.isOk (uP d);rw[e]at h;exact Ju s h2 e (h F H (bJ.refl s))
|.call g as,L,O,F,H,Q,env,s,lt,h=>by
 rw[HN];have h':PB K F H ((pE Zb (.call g as) L).bind gR) Q:=by
  revert h;show PB K F H (match Zb[g]? with
   |some (.fn m dds)=>((dJ Zb as L).bind fun ds=>m (aC ds++dds)).bind gR
   |_=>.bad) Q->PB K F H ((match Zb[g]? with
   |some (.fn m dds)=>(dJ Zb as L).bind fun ds=>m (aC ds++dds)
   |_=>.bad).bind gR) Q
  cases Zb[g]? with
  |none=>exact fun h=>h
  |some p=>cases p<;>exact fun h=>h
 have hv:=PB.Rp (K:=K) h';exact Ln Zc (fun _ h=>lZ Zc as env s lt h) hv
|.blt f as,L,O,F,H,Q,env,s,lt,h=>by
 have hv:=PB.Rp (K:=K) (show PB K F H (((dJ Zb as L).bind fun ds=>jy f ds).bind gR) Q from h);by_cases hl:sQ f as=true
 ·exact Rq (Q:=fun x H2=>iR K x H2 fun b=>Q b H2) env.n s hl hv
 have env:iA K F H (jM as) L O:=by
  have e:iA K F H (if sQ f as=true then[]else jM as) L O:=env;rw[if_neg hl]at e;exact e
 exact lZ Zc as env s lt (wy.Ei hv fun ds F1 H1 vs g1 r1 h1=>Jv g1.s r1 h1)
|.isi a t,L,O,F,H,Q,env,s,lt,h=>by
 refine eK Zc a env s lt (PB.j_ (show PB K F H ((pE Zb a L).bind fun x=>.be (oO x) (.ok (uN t x))) Q from h) fun x F1 H1 v g1 r1 h1=>?_);obtain⟨hn,h1⟩:=h1.be;exact Rl g1.s r1 hn (show iR K (.bl (uN t x)) H1 fun b=>Q b H1 from h1 F1 H1 (bJ.refl g1.s))
|.mth m o as,L,O,F,H,Q,env,s,lt,h=>by
 obtain⟨l1,l2⟩:=band' lt;refine eK Zc o env.l s l1 (PB.j_ (show PB K F H ((pE Zb o L).bind fun x=>(dJ Zb as L).eN.bind fun ds=>(lz m x ds).bind gR) Q from h) fun x F1 H1 v g1 r1 h1=>?_);obtain⟨d,e⟩:=h1.isOk (a9.bind (a9.eN _) fun _=>a9.bind (qP _ _ _) fun _=>uP _);obtain⟨ds,e1,e2⟩:=bW e;have e1':=BP e1;rw[e1,<-e1']at h1;obtain⟨d',e3,e4⟩:=bW e2;refine⟨Lj g1.s r1 e3,lZ Zc as (env.r.mono g1) g1.s l2 (PB.Vo h1 fun ds F2 H2 vs g2 r2 h2=>?_)⟩;exact Rm g2.s (aV.mono g2.f x v r1) r2 (PB.Rp h2)
|.con v,L,O,F,H,Q,env,s,lt,h=>h.elim
|.glo g,L,O,F,H,Q,env,s,lt,h=>h.elim
|.bin op a b,L,O,F,H,Q,env,s,lt,h=>h.elim
|.nset a,L,O,F,H,Q,env,s,lt,h=>h.elim
|.neg a,L,O,F,H,Q,env,s,lt,h=>h.elim
|.ix a b,L,O,F,H,Q,env,s,lt,h=>by
 obtain⟨l1,l2⟩:=band' lt;have hv:=PB.Rp (K:=K) (show PB K F H (((pE Zb a L).bind fun x=>(pE Zb b L).bind fun y=>rP x y).bind gR) Q from h);refine eK Zc a env.l s l1 (PV.bind hv fun x F1 H1 v g1 r1 h1=>?_);refine eK Zc b (env.r.mono g1) g1.s l2 (h1.bind fun y F2 H2 u g2 r2 h2=>?_);exact Vn g2.s (aV.mono g2.f x v r1) r2 h2
|.sl a lo hi,L,O,F,H,Q,env,s,lt,h=>h.elim
|.lst as,L,O,F,H,Q,env,s,lt,h=>h.elim
|.tup as,L,O,F,H,Q,env,s,lt,h=>h.elim
|.comp nl fr elt tg src cond,L,O,F,H,Q,env,s,lt,h=>h.elim
|.att g a f,L,O,F,H,Q,env,s,lt,h=>h.elim
|.slp a lo hi k,L,O,F,H,Q,env,s,lt,h=>h.elim
|.isx one gs a,L,O,F,H,Q,env,s,lt,h=>by
 refine eK Zc a env s lt (PB.j_ (show PB K F H ((pE Zb a L).bind fun x=>wu Zb gs x) Q from h) fun x F1 H1 v g1 r1 h1=>?_);obtain⟨b,e1⟩:=h1.isOk (Fc _ _ _);rw[e1]at h1;exact Rn Zc g1.s r1 e1 (show iR K (.bl b) H1 fun b=>Q b H1 from h1 F1 H1 (bJ.refl g1.s))
|.isv g a,L,O,F,H,Q,env,s,lt,h=>by
 refine eK Zc a env s lt (PB.j_ (show PB K F H ((pE Zb a L).bind fun x=>wx Zb g x) Q from h) fun x F1 H1 v g1 r1 h1=>?_);obtain⟨b,e1⟩:=h1.isOk (Fd _ _ _);rw[e1]at h1;exact Ro Zc g1.s r1 e1 (show iR K (.bl b) H1 fun b=>Q b H1 from h1 F1 H1 (bJ.refl g1.s))
theorem lZ(Zc:cu K Zb Y)[Ex]:∀(as:ia) {L:a_}{O:L2.St}{F H:Hp}{Q:List V->Hp->Prop},iA K F H (jM as) L O->aY F H->jb as=true->wy K F H (dJ Zb as L) Q->wEs K Y Ex.E as O H Q
|.nil,L,O,F,H,Q,env,s,lt,h=>(show wy K F H (.ok []) Q from h) F H [] [] (bJ.refl s) .nil ⟨rfl,rfl⟩
|.cons a r,L,O,F,H,Q,env,s,lt,h=>by
 obtain⟨l1,l2⟩:=band' lt;have h:wy K F H ((pE Zb a L).bind fun x=>(dJ Zb r L).bind fun xs=>.ok (x::xs)) Q:=h;refine eK Zc a env.l s l1 ?_;cases e1:pE Zb a L with
 |ex x=>rw[e1]at h;exact h
 |bad=>rw[e1]at h;exact h.elim
 |ok x=>
  cases e2:dJ Zb r L with
  |ex x=>
   rw[e1]at h;simp only[R.bind,e2]at h;intro F1 H1 v f1 g1 fr1 r1;refine lZ Zc r (env.r.mono g1) g1.s l2 ?_;rw[e2];exact iz.grow (K:=K) (x:=x) h g1
  |bad=>rw[e1]at h;simp only[R.bind,e2]at h;exact h.elim
  |ok xs=>
   rw[e1]at h;simp only[R.bind,e2]at h;intro F1 H1 v f1 g1 fr1 r1;refine lZ Zc r (env.r.mono g1) g1.s l2 ?_;rw[e2];intro F2 H2 vs f2 g2 fr2 r2;obtain⟨c1,c2⟩:=carry g2 fr1 r1;refine h F2 H2 (v::vs) (f1++f2) (g1.trans g2) (fL.app g1.h fr1 (fun a ha=>?_) c2 fr2) ⟨v,vs,f1,f2,rfl,rfl,c1,r2⟩;obtain⟨o,e,_⟩:=bK.ex x v f1 r1 a ha;exact⟨o,e⟩
theorem Rr(Zc:cu K Zb Y)[Ex]:∀(c:CO) {L:a_}{O:L2.St}{F H:Hp}{Q:Option Int->Hp->Prop},iA K F H (E5 c) L O->aY F H->E4 c=true->PB K F H (pO Zb c L) Q->wO K Y Ex.E c O H Q
|.none,L,O,F,H,Q,env,s,lt,h=>(show PB K F H (.ok none) Q from h) F H (bJ.refl s)
|.some a,L,O,F,H,Q,env,s,lt,h=>by
 refine eK Zc a env s lt (PB.j_ (show PB K F H ((pE Zb a L).bind fun x=>match x with|.int i=>.ok (some i)|_=>.bad) Q from h) fun x F1 H1 v g1 r1 h1=>?_);cases x with
 |int i=>cases r1;exact h1 F1 H1 (bJ.refl g1.s)
 |_=>exact h1.elim
theorem ruC(Zc:cu K Zb Y)[Ex]:∀(c:CO) {L:a_}{O:L2.St}{F H:Hp}{Q:Bool->Hp->Prop},iA K F H (E5 c) L O->aY F H->E4 c=true->PB K F H (pC Zb c L) Q->wC K Y Ex.E c O H Q
|.none,L,O,F,H,Q,env,s,lt,h=>(show PB K F H (.ok true) Q from h) F H (bJ.refl s)
|.some a,L,O,F,H,Q,env,s,lt,h=>vo Zc a env s lt h
theorem Vr(Zc:cu K Zb Y)[Ex]:∀(c:CI) (A:List Addr) {L:a_}{O:L2.St}{F H:Hp}{k:(Hp->Prop)->List Item->Hp->Prop},iA K F H (tX c) L O->aY F H->mq H A->ltI c=true->PI' K A F H (pI Zb c L) k->wI K Y Ex.E c O H k
|.seq a,A,L,O,F,H,k,env,s,hA,lt,h=>by
 have h:PI' K A F H ((pE Zb a L).bind fun x=>(o7 x).bind fun ds=>.ok (aT x,ds)) k:=h;refine eK Zc a env s lt ?_;cases e1:pE Zb a L with
 |ex x=>rw[e1]at h;exact h
 |bad=>rw[e1]at h;exact h.elim
 |ok x=>
 rw[e1]at h;have h:PI' K A F H ((o7 x).bind fun ds=>.ok (aT x,ds)) k:=h;obtain⟨o,e⟩:=h.isOk (a9.bind (Od x) fun _=>a9.ok);obtain⟨ds,e3,e4⟩:=bW (show((o7 x).bind fun ds=>R.ok (aT x,ds))=.ok o from e);rw[e]at h;cases e4;intro F1 H1 v fp g fr r;obtain⟨F2,g2,r2⟩:=Vm hA g fr r;exact WU ((C2 _ _ _).trans g2.s) r2 e3 fun ok its h1 h2 h3=>h F2 H1 ok its g2 h1 h2 h3
|.range as,A,L,O,F,H,k,env,s,hA,lt,h=>by
 have h:PI' K A F H ((dJ Zb as L).bind fun xs=>(qO xs).bind fun ds=>.ok (true,ds)) k:=h;refine lZ Zc as env s lt ?_;cases e1:dJ Zb as L with
 |ex x=>rw[e1]at h;exact h
 |bad=>rw[e1]at h;exact h.elim
 |ok xs=>
 rw[e1]at h;have h:PI' K A F H ((qO xs).bind fun ds=>.ok (true,ds)) k:=h;obtain⟨o,e⟩:=h.isOk (a9.bind (Oe xs) fun _=>a9.ok);obtain⟨ds,e3,e4⟩:=bW (show((qO xs).bind fun ds=>R.ok (true,ds))=.ok o from e);rw[e]at h;cases e4;intro F1 H1 vs fp g fr r;obtain⟨F2,g2,_,r2⟩:=yf g fr r;exact WV r2 e3 fun its h1 h2=>h F2 H1 _ its g2 (fun _ _=>trivial) (h1 _) h2
|.zip as,A,L,O,F,H,k,env,s,hA,lt,h=>by
 have h:PI' K A F H ((dJ Zb as L).bind fun xs=>uO xs) k:=h;refine lZ Zc as env s lt ?_;cases e1:dJ Zb as L with
 |ex x=>rw[e1]at h;exact h
 |bad=>rw[e1]at h;exact h.elim
 |ok xs=>
 rw[e1]at h;have h:PI' K A F H (uO xs) k:=h;unfold uO at h;split at h
 ·rename_i o1 xs o2 ys;intro F1 H1 vs fp g fr r;obtain⟨F2,g2,_,r2⟩:=yf g fr r;obtain⟨v,r',rfl,⟨b,us,rfl,h2,h3,h4⟩,v',r'',rfl,⟨b',us',rfl,h2',h3',h4'⟩,hr⟩:=r2;cases hr;exact⟨b,b',us,us',rfl,rfl,Rd.same g2.s h2,Rd.same g2.s h2',h F2 H1 _ _ g2 (fun _ s'=>⟨Rd.same s' h2,Rd.same s' h2'⟩) (HV h4 h4') (dH (E9 _ _) (by rw[iC,<-h4.len];exact h3))⟩
 ·exact h.elim
|.enum a,A,L,O,F,H,k,env,s,hA,lt,h=>by
 have h:PI' K A F H ((pE Zb a L).bind fun x=>match x with|.lst _ xs=>.ok (aT x,iO 0 (aC xs))|_=>.bad) k:=h;refine eK Zc a env s lt ?_;cases e1:pE Zb a L with
 |ex x=>rw[e1]at h;exact h
 |bad=>rw[e1]at h;exact h.elim
 |ok x=>
 rw[e1]at h;intro F1 H1 v fp g fr r;obtain⟨F2,g2,r2⟩:=Vm hA g fr r;cases x with
 |lst o xs=>
  have s2:=(C2 (aT (.lst o xs)) F2 A).trans g2.s;obtain⟨b,vs,rfl,h2,h3,h4⟩:=r2;exact⟨vs,Rd.same s2 h2,h F2 H1 _ _ g2 (fun _ s'=>Rd.same s' h2) (E_ 0 h4) (by rw[C5,iC,<-h4.len];exact h3)⟩
 |_=>exact h.elim
end
end
noncomputable def l5:Nat->a_->a_
|_,[]=>[]
|0,o::r=>o.map bq::r
|n+1,o::r=>o::l5 n r
noncomputable def lN:List Nat->a_->a_
|[],O=>O
|i::is,O=>lN is (l5 i O)
noncomputable def gJ(is:List Nat)(o:Bool)(O:a_):a_:=match o with
|true=>O
|false=>lN is O
noncomputable def Jx:CE->Option Nat
|.var i=>some i
|_=>none
noncomputable def jz(Y:List PG):ia->a_->R (List D)
|.nil=>fun _=>.ok []
|.cons a r=>fun O=>match Jx a with
 |some i=>match O[i]? with
  |some (some d)=>(jz Y r (O.set i none)).bind fun ds=>.ok (d::ds)
  |_=>.bad
 |none=>(pE Y a O).bind fun d=>.be (aT d) ((jz Y r O).bind fun ds=>.ok (d::ds))
noncomputable def R.alt{α β:Type}(x:R α)(f:α->R β)(y:R β):R β:=match x with
|.ok a=>f a
|_=>y
noncomputable def pM(Y:List PG)(e:CE)(O:a_):R D:=match e with
|.var i=>match O[i]? with
 |some (some d)=>.ok d
 |_=>.bad
|.tup as=>(jz Y as O).alt (fun ds=>.be (decide (ds.length<=aa)) (.ok (.tup ds))) (pE Y (.tup as) O)
|e=>pE Y e O
noncomputable def mZ:Option (Option D)->Bool
|some (some (.lst true _))=>true
|_=>false
noncomputable def BQ(O:a_):CE->Option Int
|.var j=>match O[j]? with
 |some (some (.int n))=>some n
 |_=>none
|.con (.int n)=>some n
|.neg (.con (.int n))=>some (-n)
|_=>none
noncomputable def tu(O:a_):CE->Option (Nat×List Int)
|.var k=>some (k,[])
|.ix o i=>(tu O o).bind fun p=>(BQ O i).map fun n=>(p.1,p.2++[n])
|_=>none
noncomputable def eL:List Int->D->D->Option D
|[],x,d=>match x with
 |.lst true xs=>if xs.length<aa then some (.lst true (xs++[d]))else none
 |_=>none
|i::r,x,d=>match x with
 |.lst true xs=>(gH xs.length i).bind fun n=>(xs[n]?).bind fun y=>(eL r y d).map fun y'=>.lst true (xs.set n y')
 |.tup xs=>(gH xs.length i).bind fun n=>(xs[n]?).bind fun y=>(eL r y d).map fun y'=>.tup (xs.set n y')
 |_=>none
noncomputable def iP:List Int->D->Option D
|[],x=>some x
|i::r,x=>match x with
 |.lst true xs=>(gH xs.length i).bind fun n=>(xs[n]?).bind fun y=>iP r y
 |.tup xs=>(gH xs.length i).bind fun n=>(xs[n]?).bind fun y=>iP r y
 |_=>none
noncomputable def Oj(Y:List PG)(o a:CE)(O:a_):Fl:=match tu O o with
|some p=>(pE Y a O).nY false fun d=>match O[p.1]? with
 |some (some x)=>if aT d=true then(R.opt (eL p.2 x d)).aR fun x'=>.nx (O.set p.1 (some x'))else .bad
 |_=>.bad
|none=>.bad
noncomputable def BR(k:Nat)(is:List Nat)(d:D)(O:a_):Fl:=match d with
|.lst true ys=>match O[k]? with
 |some (some (.lst true xs))=>if(decide (xs.length+ys.length<=aa)&&(aT d||!is.contains k))=true then .nx ((gJ is (aT d) O).set k (some (.lst true (xs++ys))))else .bad
 |_=>.bad
|_=>.bad
noncomputable def pX(Y:List PG)(e:CE)(O:a_):Fl:=match e with
|.mth m (.var k) as=>match m with
 |.append=>match as with
  |.cons a .nil=>(pE Y a O).nY (mZ O[k]?) fun d=>match O[k]? with
   |some (some (.lst true xs))=>if(decide (xs.length<aa)&&(aT d||!(b5 a).contains k))=true then .nx ((gJ (b5 a) (aT d) O).set k (some (.lst true (xs++[d]))))else .bad
   |_=>.bad
  |_=>.bad
 |.extend=>match as with
  |.cons a .nil=>(pE Y a O).nY (mZ O[k]?) fun d=>BR k (b5 a) d O
  |_=>.bad
 |_=>(pE Y e O).aR fun _=>.nx O
|.mth m (.ix o i) as=>match m with
 |.append=>match as with
  |.cons a .nil=>Oj Y (.ix o i) a O
  |_=>.bad
 |_=>(pE Y e O).aR fun _=>.nx O
|e=>(pE Y e O).aR fun _=>.nx O
mutual
noncomputable def Jy:D->Bool
|.lst _ _=>false
|.cst _=>false
|.exc _ _ _=>false
|.tup xs=>oR xs
|_=>true
noncomputable def oR:List D->Bool
|[]=>true
|d::r=>Jy d&&oR r
end
noncomputable def putL(xs:List D)(d j:D):Option D:=match j with
|.int j=>(gH xs.length j).map fun n=>.lst true (xs.set n d)
|_=>none
noncomputable def putIn(x d j:D):Option D:=match x with
|.lst true xs=>putL xs d j
|_=>none
noncomputable def pA(Y:List PG)(g:CG)(e:CE)(O:a_):Fl:=match g with
|.name i=>(pE Y e O).aR fun d=>.nx ((gJ (b5 e) (aT d) O).set i (some d))
|.tup gs=>(pE Y e O).aR fun d=>(pG (.tup gs) d (gJ (b5 e) (aT d) O)).aR .nx
|.sub o i=>match o with
 |.var k=>(pE Y e O).aR fun d=>(pE Y i (gJ (b5 e) (aT d) O)).nY false fun j=>match O[k]? with
  |some (some x)=>if(aT d||!(b5 e).contains k)=true then(R.opt (putIn x d j)).aR fun x'=>.nx ((gJ (b5 e) (aT d) O).set k (some x'))else .bad
  |_=>.bad
 |_=>.bad
noncomputable def pB(Y:List PG):CB->a_->R D
|.call g as=>fun O=>match Y[g]? with
 |some (.fn m dds)=>(dJ Y as O).eN.bind fun ds=>m (aC ds++dds)
 |_=>.bad
|.ite c a b=>fun O=>(pT Y c O).eN.bind fun k=>if k=true then pB Y a O else pB Y b O
noncomputable def ltB:CB->Bool
|.call _ as=>jb as
|.ite c a b=>cG c&&(ltB a&&ltB b)
noncomputable def Fe(i:Nat):Fl->Fl
|.nx O=>.nx (O.set i none)
|.rt d=>.rt d
|_=>.bad
noncomputable def AI(C:Addr)(fs:List (Str×Nat))(ds:List D):D:=.exc C (fs.map (·.1)) (fs.map fun p=>bq ((D.non::ds).getD p.2 .non))
noncomputable def BS(Y:List PG)(k:Nat)(is:List Int)(j:Nat)(a:CE)(O:a_):Fl:=match O[k]? with
|some (some x)=>match iP is x with
 |some (.lst true ys)=>if j<O.length then(pE Y a (O.set j (some (.lst true ys)))).aR fun d=>if aT d=true then(R.opt (eL is x d)).aR fun x'=>.nx ((O.set k (some x')).set j none)else .bad else .bad
 |_=>.bad
|_=>.bad
noncomputable def uQ(Y:List PG)(s t:CS)(O:a_):Fl:=match s,t with
|.asg (.name j) o,.expr (.mth .append (.var i) (.cons a .nil))=>if i=j then(match tu O o with|some p=>BS Y p.1 p.2 j a O|none=>.bad)else .bad
|_,_=>.bad
noncomputable def Ep(i:Nat)(a:Int)(O:a_):D->Fl
|.int b=>.nx (O.set i (some (.int (a+b))))
|_=>.bad
mutual
noncomputable def pS(Y:List PG)(n:Nat):CS->a_->Fl
|.expr e=>fun O=>pX Y e O
|.asg g e=>fun O=>pA Y g e O
|.aug i e=>fun O=>match O[i]? with
 |some (some (.int a))=>(pE Y e O).aR fun d=>Ep i a O d
 |_=>.bad
|.casg i e=>fun O=>(pE Y e O).aR fun d=>.nx ((gJ (b5 e) (aT d) O).set i (some d))
|.tasg g e=>fun O=>pA Y g e O
|.ret e=>fun O=>(pM Y e O).aR .rt
|.ifs c a b=>fun O=>(pT Y c O).aR fun k=>if k=true then cQ Y n a O else cQ Y n b O
|.whil c b=>fun O=>s_ (pT Y c) (cQ Y n b) n O
|.forr g src b=>fun O=>(pI Y src O).aR fun items=>forR (pG g) (cQ Y n b) items.2 (gJ (tX src) items.1 O)
|.brk=>fun O=>.bk O
|.cont=>fun O=>.ct O
|.never=>fun _=>.bad
|.rais g as=>fun O=>match Y[g]? with
 |some (.cls C fs k)=>(dJ Y as O).aR fun ds=>if(decide (ds.length+1=k)&&decide (fs.map (·.1)).Nodup)=true then .ex (AI C fs ds)else .bad
 |_=>.bad
|.tri i g b h=>fun O=>match Y[g]? with
 |some (.exb Cs)=>match pB Y b O with
  |.ok _=>.nx O
  |.ex (.exc C ks xs)=>if(decide (C∈Cs)&&oR xs)=true then Fe i (cQ (Y.map PG.hand) n h (O.set i (some (.exc C ks xs))))else .bad
  |_=>.bad
 |_=>.bad
noncomputable def cQ(Y:List PG)(n:Nat):bV->a_->Fl
|.nil=>fun O=>.nx O
|.cons s r=>fun O=>match pS Y n s O with
 |.nx Zd=>cQ Y n r Zd
 |x=>x
|.two s t r=>fun O=>match uQ Y s t O with
 |.nx Zd=>cQ Y n r Zd
 |x=>x
end
noncomputable def t6(N:List Str)(ds:List D):a_:=ds.map some++aB (N.length-ds.length) none
noncomputable def zO:Fl->R D
|.nx _=>.ok .non
|.rt d=>.ok d
|.ex x=>.ex x
|_=>.bad
noncomputable def Ff(Y:List PG)(n:Nat)(N:List Str)(c:bV)(ds:List D):R D:=zO (cQ Y n c (t6 N ds))
mutual
noncomputable def C7:CS->Bool
|.expr e=>cG e
|.asg g e=>Vs g&&cG e
|.aug _ e=>cG e
|.casg _ e=>cG e
|.tasg g e=>Vs g&&cG e
|.ret e=>cG e
|.ifs c a b=>cG c&&(j8 a&&j8 b)
|.whil c b=>cG c&&j8 b
|.forr _ src b=>ltI src&&j8 b
|.rais _ as=>jb as
|.tri _ _ b h=>ltB b&&j8 h
|_=>true
noncomputable def j8:bV->Bool
|.nil=>true
|.cons s r=>C7 s&&j8 r
|.two s t r=>C7 s&&(C7 t&&j8 r)
noncomputable def Vs:CG->Bool
|.sub o i=>cG o&&cG i
|_=>true
end
structure bf (K:PySem.W.Frag) (F0 H0:Hp) (L:a_) (O:L2.St) (F H:Hp) (fp:Nat->List Addr):Prop where
 g:bJ F0 H0 F H
 len:L.length=O.length
 rep:∀(i:Nat) d,L[i]?=some (some d)->∃v,O[i]?=some (some v)/\bK K H F d v (fp i)
 ex:∀i,mq H (fp i)
 nd:∀i,(fp i).Nodup
 nf:∀i a,a∈fp i->F a=none
 nh:∀i a,a∈fp i->H0 a=none
 dis:∀i j a,a∈fp i->a∈fp j->i=j
structure jA (K:PySem.W.Frag) (H0 F H:Hp) (fp:Nat->List Addr) (d:D) (v:V) (f:List Addr):Prop where
 r:bK K H F d v f
 nd:f.Nodup
 nf:∀a∈f,F a=none
 nh:∀a∈f,H0 a=none
 dis:∀i a,a∈f->a∉fp i
variable{f:List Addr}
section
variable{K:PySem.W.Frag}{F0 H0 F H:Hp}{L:a_}{O:L2.St}{fp:Nat->List Addr}
theorem zP:∀(n:Nat) (O:a_) (i:Nat),(l5 n O)[i]?=if i=n then(O[i]?).map (Option.map bq)else O[i]?
|n,[],i=>by cases n<;>simp[l5]
|0,o::r,0=>by simp[l5]
|0,o::r,i+1=>by simp[l5]
|n+1,o::r,0=>by simp[l5]
|n+1,o::r,i+1=>by
 simp only[l5,lu,zP n r i];by_cases h:i=n
 ·simp[h]
 ·simp[h]
theorem Fg:∀(n:Nat) (O:a_),(l5 n O).length=O.length
|n,[]=>by cases n<;>rfl
|0,o::r=>rfl
|n+1,o::r=>by simp[l5,Fg n r]
theorem C8:∀(is:List Nat) (O:a_),(lN is O).length=O.length
|[],O=>rfl
|i::is,O=>by rw[lN,C8 is,Fg]
noncomputable def ownAt(fp:Nat->List Addr)(is:List Nat):List Addr:=is.flatMap fp
theorem d7{a:Addr}:a∈ownAt fp is↔∃i∈is,a∈fp i:=by simp[ownAt,List.mem_flatMap]
theorem bf.lists(I:bf K F0 H0 L O F H fp)(is:List Nat):mq H (ownAt fp is):=fun a ha=>by
 obtain⟨i,_,h⟩:=d7.mp ha;exact I.ex i a h
theorem bf.env(I:bf K F0 H0 L O F H fp)(is:List Nat):iA K (adopt F H (ownAt fp is)) H is L O:=⟨fun i hi d e=>by
 obtain⟨v,h1,h2⟩:=I.rep i d e;exact⟨v,h1,bK.fix (cS I.g.s) d v _ (fun a ha=>jc (d7.mpr ⟨i,hi,ha⟩)) h2⟩,fun k d e=>by
 obtain⟨v,h1,h2⟩:=I.rep k d e;exact⟨v,adopt F H (ownAt fp [k]),h1,dN I.g.s,bK.fix (cS I.g.s) d v _ (fun a ha=>jc (d7.mpr ⟨k,aU.mpr rfl,ha⟩)) h2⟩⟩
theorem bf.Rt(I:bf K F0 H0 L O F H fp)(g:bJ (adopt F H (ownAt fp is)) H F' H'){i:Nat}{a:Addr}(ha:a∈fp i)(hn:a∉ownAt fp is):F' a=none:=by
 obtain⟨o,e,k⟩:=I.ex i a ha;cases q:F' a with
 |none=>rfl
 |some u=>exact((g.n a u q (by rw[jI hn];exact I.nf i a ha)).own e k).elim
theorem bf.Ru(I:bf K F0 H0 L O F H fp)(g:bJ (adopt F H (ownAt fp is)) H F' H'):bJ F0 H0 F' H':=by
 refine⟨I.g.h.trans g.h,(I.g.f.trans (cS I.g.s)).trans g.f,g.s,fun b o h h'=>?_⟩;cases q:adopt F H (ownAt fp is) b with
 |none=>exact NT.back I.g.h (g.n b o h q)
 |some u=>
  by_cases z:b∈ownAt fp is
  ·obtain⟨i,_,hb⟩:=d7.mp z;exact .of (I.nh i b hb)
  ·rw[jI z]at q;exact I.g.n b u q h'
theorem bf.back(I:bf K F0 H0 L O F H fp)(g:bJ (adopt F H (ownAt fp is)) H F' H'):bf K F0 H0 L O (minus F' (ownAt fp is)) H' fp where
 g:=by
  have g0:=I.Ru g;refine⟨g0.h,fun b o h=>?_,(jJ _ _).trans g0.s,fun b o h h'=>g0.n b o (jJ _ _ b o h) h'⟩;have hn:b∉ownAt fp is:=fun z=>by
   obtain⟨i,_,hb⟩:=d7.mp z;have:=I.nf i b hb;rw[I.g.f b o h]at this;cases this
  rw[eO hn];exact g0.f b o h
 len:=I.len
 rep:=fun i d e=>by
  obtain⟨v,h1,h2⟩:=I.rep i d e;refine⟨v,h1,bK.mono ?_ d v _ (fun a ha=>?_) h2⟩
  ·intro b o h;have hn:b∉ownAt fp is:=fun z=>by
    obtain⟨i,_,hb⟩:=d7.mp z;have:=I.nf i b hb;rw[h]at this;cases this
   rw[eO hn];exact g.f b o (cS I.g.s b o h)
  ·obtain⟨o,e,_⟩:=I.ex i a ha;rw[e,g.h a o e]
 ex:=fun i=>(I.ex i).mono g.h
 nd:=I.nd
 nf:=fun i a ha=>by
  by_cases hn:a∈ownAt fp is
  ·exact zM hn
  ·rw[eO hn];exact I.Rt g ha hn
 nh:=I.nh
 dis:=I.dis
theorem Lo:∀(is:List Nat) (O:a_) (i:Nat),(lN is O)[i]?=some (some d)->∃d',O[i]?=some (some d')/\((i∈is/\d=bq d')\/(i∉is/\d=d')):=by
 have ff:∀d:D,L3.bq (L3.bq d)=L3.bq d:=HW;intro is;induction is with
 |nil=>intro O i h;exact⟨d,h,.inr ⟨aW,rfl⟩⟩
 |cons j is ih=>
  intro O i h;obtain⟨d1,e1,e2⟩:=ih (l5 j O) i h;rw[zP]at e1;by_cases hj:i=j
  ·rw[if_pos hj]at e1;cases q:O[i]? with
   |none=>rw[q]at e1;cases e1
   |some o=>
    cases o with
    |none=>rw[q]at e1;cases e1
    |some d'=>
     rw[q]at e1;cases e1;refine⟨d',rfl,.inl ⟨by rw[hj];exact aq,?_⟩⟩;rcases e2 with⟨_,rfl⟩|⟨_,rfl⟩
     ·exact ff d'
     ·rfl
  ·rw[if_neg hj]at e1;refine⟨d1,e1,?_⟩;rcases e2 with⟨h1,h2⟩|⟨h1,h2⟩
   ·exact .inl ⟨ai _ h1,h2⟩
   ·exact .inr ⟨fun z=>by rcases aJ.mp z with z|z;exact hj z;exact h1 z,h2⟩
theorem bf.Vt(I:bf K F0 H0 L O F H fp)(g:bJ (adopt F H (ownAt fp is)) H F' H'):bf K F0 H0 (lN is L) O F' H' (fun i=>if i∈is then[]else fp i) where
 g:=I.Ru g
 len:=by rw[C8];exact I.len
 rep:=fun i d e=>by
  obtain⟨d',e1,e2⟩:=Lo is L i e;rcases e2 with⟨h1,rfl⟩|⟨h1,rfl⟩
  ·obtain⟨v,q1,q2⟩:=(I.env is).e i h1 d' e1;exact⟨v,q1,by rw[if_pos h1];exact aV.yP d' v (aV.mono g.f d' v q2)⟩
  ·obtain⟨v,q1,q2⟩:=I.rep i d e1;refine⟨v,q1,?_⟩;rw[if_neg h1];refine bK.mono ((cS I.g.s).trans g.f) d v _ (fun a ha=>?_) q2;obtain⟨o,e,_⟩:=I.ex i a ha;rw[e,g.h a o e]
 ex:=fun i=>by
  by_cases h:i∈is
  ·rw[if_pos h];exact fun a ha=>absurd ha aW
  ·rw[if_neg h];exact(I.ex i).mono g.h
 nd:=fun i=>by
  by_cases h:i∈is
  ·rw[if_pos h];exact gp
  ·rw[if_neg h];exact I.nd i
 nf:=fun i a ha=>by
  by_cases h:i∈is
  ·rw[if_pos h]at ha;exact absurd ha aW
  ·rw[if_neg h]at ha;refine I.Rt g ha fun z=>?_;obtain⟨j,hj,hb⟩:=d7.mp z;have:=I.dis i j a ha hb;subst this;exact h hj
 nh:=fun i a ha=>by
  by_cases h:i∈is
  ·rw[if_pos h]at ha;exact absurd ha aW
  ·rw[if_neg h]at ha;exact I.nh i a ha
 dis:=fun i j a ha hb=>by
  by_cases h:i∈is
  ·rw[if_pos h]at ha;exact absurd ha aW
  ·by_cases h':j∈is
   ·rw[if_pos h']at hb;exact absurd hb aW
   ·rw[if_neg h]at ha;rw[if_neg h']at hb;exact I.dis i j a ha hb
theorem bf.told(I:bf K F0 H0 L O F H fp)(g:bJ (adopt F H (ownAt fp is)) H F' H')(fr:fL f H F')(r:bK K H' F' d v f) :
  ∃F1 fp1,bf K F0 H0 (gJ is (aT d) L) O F1 H' fp1/\jA K H0 F1 H' fp1 d v f/\(aT d=true->fp1=fp)/\∀i,i∉is->fp1 i=fp i:=by
 have nn:∀i a,a∈f->a∉fp i:=fun i a ha hb=>by
  obtain⟨o,e,_⟩:=I.ex i a hb;rw[fr.nh a ha]at e;cases e
 cases ho:aT d with
 |true=>
  refine⟨_,fp,I.back g,⟨bK.less (jN g.s ((I.lists is).mono g.h)) d v f ho r,fr.nd,fun a ha=>?_,fun a ha=>aY.none I.g.h (fr.nh a ha),nn⟩,fun _=>rfl,fun _ _=>rfl⟩;exact aY.none (jJ _ _) (fr.nf a ha)
 |false=>
  refine⟨_,_,I.Vt g,⟨r,fr.nd,fr.nf,fun a ha=>aY.none I.g.h (fr.nh a ha),fun i a ha hb=>?_⟩,(fun z=>nomatch z),fun i hi=>if_neg hi⟩;by_cases h:i∈is
  ·rw[if_pos h]at hb;exact absurd hb aW
  ·rw[if_neg h]at hb;exact nn i a ha hb
theorem bf.set(I:bf K F0 H0 L O F H fp)(V:jA K H0 F H fp d v f)(k:Nat):bf K F0 H0 (L.set k (some d)) (O.set k (some v)) F H (fun i=>if i=k then f else fp i) where
 g:=I.g
 len:=by simp[I.len]
 rep:=fun i d' e=>by
  by_cases h:i=k
  ·subst h;rw[if_pos rfl];rw[d_]at e;by_cases hi:i<L.length
   ·simp[hi]at e;subst e;exact⟨v,by rw[d_];simp[<-I.len,hi],V.r⟩
   ·simp[hi]at e
  ·rw[if_neg h];rw[b6 (cK h)]at e;obtain⟨w,h1,h2⟩:=I.rep i d' e;exact⟨w,by rw[b6 (cK h)];exact h1,h2⟩
 ex:=fun i=>by
  by_cases h:i=k
  ·rw[if_pos h];exact bK.ex d v f V.r
  ·rw[if_neg h];exact I.ex i
 nd:=fun i=>by
  by_cases h:i=k
  ·rw[if_pos h];exact V.nd
  ·rw[if_neg h];exact I.nd i
 nf:=fun i a ha=>by
  by_cases h:i=k
  ·rw[if_pos h]at ha;exact V.nf a ha
  ·rw[if_neg h]at ha;exact I.nf i a ha
 nh:=fun i a ha=>by
  by_cases h:i=k
  ·rw[if_pos h]at ha;exact V.nh a ha
  ·rw[if_neg h]at ha;exact I.nh i a ha
 dis:=fun i j a ha hb=>by
  by_cases h:i=k
  ·rw[if_pos h]at ha;by_cases h':j=k
   ·rw[h,h']
   ·rw[if_neg h']at hb;exact absurd hb (V.dis j a ha)
  ·rw[if_neg h]at ha;by_cases h':j=k
   ·rw[if_pos h']at hb;exact absurd ha (V.dis i a hb)
   ·rw[if_neg h']at hb;exact I.dis i j a ha hb
theorem bf.put{k:Nat}{a:Addr}{o:HO}(I:bf K F0 H0 L O F H fp)(ha:a∈fp k)(hv:O[k]?=some (some v))(hr:bK K (upd H a o) F d v f)(nd:f.Nodup)(nf:∀b∈f,F b=none)(nh:∀b∈f,H0 b=none)(dis:∀i,i≠k->∀b∈f,b∉fp i) :
  bf K F0 H0 (L.set k (some d)) O F (upd H a o) (fun i=>if i=k then f else fp i):=by
 have hF:=I.nf k a ha;have hH0:=I.nh k a ha;have hne:∀i,i≠k->∀b∈fp i,b≠a:=fun i hi b hb z=>by
  subst z;exact hi (I.dis i k b hb ha)
 refine⟨⟨fun b u q=>by rw[aS (cj q hH0)];exact I.g.h b u q,I.g.f,fun b u q=>by rw[aS (cj q hF)];exact I.g.s b u q,I.g.n⟩,by simp[I.len],fun i d' e=>?_,fun i=>?_,fun i=>?_,fun i b hb=>?_,fun i b hb=>?_,fun i j b hb hc=>?_⟩
 ·by_cases h:i=k
  ·subst h;rw[if_pos rfl];rw[d_]at e;by_cases hi:i<L.length
   ·simp[hi]at e;subst e;exact⟨v,hv,hr⟩
   ·simp[hi]at e
  ·rw[if_neg h];rw[b6 (cK h)]at e;obtain⟨w,h1,h2⟩:=I.rep i d' e;exact⟨w,h1,bK.mono (aY.refl _) d' w _ (fun b hb=>aS (hne i h b hb)) h2⟩
 ·by_cases h:i=k
  ·rw[if_pos h];exact bK.ex d v f hr
  ·rw[if_neg h];intro b hb;obtain⟨u,e,q⟩:=I.ex i b hb;exact⟨u,by rw[aS (hne i h b hb)];exact e,q⟩
 ·by_cases h:i=k
  ·rw[if_pos h];exact nd
  ·rw[if_neg h];exact I.nd i
 ·by_cases h:i=k
  ·rw[if_pos h]at hb;exact nf b hb
  ·rw[if_neg h]at hb;exact I.nf i b hb
 ·by_cases h:i=k
  ·rw[if_pos h]at hb;exact nh b hb
  ·rw[if_neg h]at hb;exact I.nh i b hb
 ·by_cases h:i=k
  ·rw[if_pos h]at hb;by_cases h':j=k
   ·rw[h,h']
   ·rw[if_neg h']at hc;exact absurd hc (dis j h' b hb)
  ·rw[if_neg h]at hb;by_cases h':j=k
   ·rw[if_pos h']at hc;exact absurd hb (dis i h b hc)
   ·rw[if_neg h']at hc;exact I.dis i j b hb hc
theorem bf.rebase(I:bf K F0 H0 L O F H fp):bf K F H0 L O F H fp:=⟨⟨I.g.h,aY.refl _,I.g.s,fun b o h h'=>by rw[h]at h';cases h'⟩,I.len,I.rep,I.ex,I.nd,I.nf,I.nh,I.dis⟩
theorem bf.Fi(g0:bJ F0 H0 F1 H1)(I:bf K F1 H0 L O F H fp):bf K F0 H0 L O F H fp:=⟨⟨I.g.h,g0.f.trans I.g.f,I.g.s,fun b o h h'=>by
 cases q:F1 b with
 |none=>exact I.g.n b o h q
 |some u=>exact g0.n b u q h'⟩,I.len,I.rep,I.ex,I.nd,I.nf,I.nh,I.dis⟩
end
def cC[Ex](K:PySem.W.Frag)(F0 H0:Hp)(fl:Fl)(X:Ends):Prop:=match fl with
|.nx L=>∀O F H fp,bf K F0 H0 L O F H fp->X.nx O H
|.bk L=>∀O F H fp,bf K F0 H0 L O F H fp->X.bk O H
|.ct L=>∀O F H fp,bf K F0 H0 L O F H fp->X.ct O H
|.rt d=>∀v F H f,bJ F0 H0 F H->fL f H0 F->bK K H F d v f->X.rt v H
|.ex x=>iz K F0 H0 x
|.bad=>False
variable{o:Bool}
variable{e:CE}
variable{f0:List Addr}
section
variable{K:PySem.W.Frag}{Zb:List PG}{Y:List G}{F0 H0 F H:Hp}{L:a_}{O:L2.St}{fp:Nat->List Addr}{X:Ends}
theorem H9(g0:bJ F0 H0 F1 H1)(g:bJ F1 H0 F H):bJ F0 H0 F H:=⟨g.h,g0.f.trans g.f,g.s,fun b o h h'=>by
 cases q:F1 b with
 |none=>exact g.n b o h q
 |some u=>exact g0.n b u q h'⟩
theorem cC.rebase[Ex]{fl:Fl}(g0:bJ F0 H0 F1 H1)(h:cC K F0 H0 fl X):cC K F1 H0 fl X:=by
 cases fl with
 |nx L=>exact fun O F H fp I=>h O F H fp (I.Fi g0)
 |bk L=>exact fun O F H fp I=>h O F H fp (I.Fi g0)
 |ct L=>exact fun O F H fp I=>h O F H fp (I.Fi g0)
 |rt d=>exact fun v F H f g fr r=>h v F H f (H9 g0 g) fr r
 |ex x=>
  cases x with
  |exc C ks xs=>exact fun F' H' d vs g=>h F' H' d vs (H9 g0 g)
  |_=>exact h
 |bad=>exact h
theorem Fj[Ex]{r:R α}{f:α->Fl}(h:cC K F0 H0 (r.aR f) X)(n:r.a9):∃a,r=.ok a/\cC K F0 H0 (f a) X:=by
 cases r with
 |ok a=>exact⟨a,rfl,h⟩
 |ex x=>exact absurd rfl (n x)
 |bad=>exact h.elim
theorem jV[Ex]{r:R α}{f:α->Fl}(h:cC K F0 H0 (r.aR f) X):(∃x,r=.ex x/\iz K F0 H0 x)\/∃a,r=.ok a/\cC K F0 H0 (f a) X:=by
 cases r with
 |ok a=>exact .inr ⟨a,rfl,h⟩
 |ex x=>exact .inl ⟨x,rfl,h⟩
 |bad=>exact h.elim
theorem BU[Ex]{r:R α}{f:α->Fl}(h:cC K F0 H0 (r.nY b f) X):(b=true/\∃x,r=.ex x/\iz K F0 H0 x)\/∃a,r=.ok a/\cC K F0 H0 (f a) X:=by
 cases r with
 |ok a=>exact .inr ⟨a,rfl,h⟩
 |ex x=>
  cases b with
  |true=>exact .inl ⟨rfl,x,rfl,h⟩
  |false=>exact h.elim
 |bad=>exact h.elim
theorem H_[Ex]{r:R α}{f:α->Fl}(h:cC K F0 H0 (r.nY false f) X):∃a,r=.ok a/\cC K F0 H0 (f a) X:=by
 rcases BU h with⟨z,_⟩|z
 ·cases z
 ·exact z
mutual
theorem Fk:∀(g:CG) (d:D) (O:a_),(pG g d O).a9
|.name i,d,O=>a9.ok
|.tup gs,d,O=>by
 cases d<;>first|exact a9.bad|skip
 exact a9.be (Ia gs _ O)
|.sub _ _,d,O=>a9.bad
theorem Ia:∀(g:oM) (ds:List D) (O:a_),(vn g ds O).a9
|.nil,ds,O=>by cases ds<;>first|exact a9.ok|exact a9.bad
|.cons g r,ds,O=>by
 cases ds with
 |nil=>exact a9.bad
 |cons d dr=>exact a9.bind (Fk g d O) fun Zd=>Ia r dr Zd
end
theorem Lp(F H:Hp):adopt F H []=F:=by funext b;exact jI aW
theorem bf.grow(I:bf K F0 H0 L O F H fp)(g:bJ F H F1 H1):bf K F0 H0 L O F1 H1 fp:=by
 have e:ownAt fp []=[]:=rfl;have q:=I.back (is:=[]) (F':=F1) (H':=H1) (by rw[e,Lp];exact g);rw[e,C1]at q;exact q
theorem jA.Vu(r:aV K F d v):jA K H0 F H fp (bq d) v []:=⟨aV.yP d v r,gp,fun _ h=>absurd h aW,fun _ h=>absurd h aW,fun _ _ h=>absurd h aW⟩
mutual
theorem ruG':∀(g:CG) {d:D}{v:V}{L Zj:a_}{O:L2.St}{fp:Nat->List Addr}{Q:L2.St->Hp->Prop},bf K F0 H0 L O F H fp->aV K F d v->pG g (bq d) L=.ok Zj->(∀Zd fp',bf K F0 H0 Zj Zd F H fp'->Q Zd H)->wG K Y E g v O H Q
|.name i,d,v,L,Zj,O,fp,Q,I,r,e,h=>by
 cases e;exact h _ _ (I.set (jA.Vu r) i)
|.tup gs,d,v,L,Zj,O,fp,Q,I,r,e,h=>by
 cases d with
 |tup ds=>
  obtain⟨b,vs,rfl,h2,h3,h4⟩:=r;obtain⟨c,e⟩:=gZ (show R.be (decide ((aC ds).length=gs.len)) (vn gs (aC ds) L)=.ok Zj from e);have c:=of_decide_eq_true c;rw[iC]at c;exact⟨true,vs,(tupS h2).same' I.g.s,rfl,by rw[h4.len];exact c,ruGs' gs I h4 e h⟩
 |_=>cases e
|.sub _ _,d,v,L,Zj,O,fp,Q,I,r,e,h=>by cases e
theorem ruGs':∀(g:oM) {ds:List D}{vs:List V}{L Zj:a_}{O:L2.St}{fp:Nat->List Addr}{Q:L2.St->Hp->Prop},bf K F0 H0 L O F H fp->aD K F ds vs->vn g (aC ds) L=.ok Zj->(∀Zd fp',bf K F0 H0 Zj Zd F H fp'->Q Zd H)->HG K Y E g vs O H Q
|.nil,ds,vs,L,Zj,O,fp,Q,I,r,e,h=>by
 cases ds with
 |nil=>cases r;cases e;exact h O fp I
 |cons d dr=>cases e
|.cons g gr,ds,vs,L,Zj,O,fp,Q,I,r,e,h=>by
 cases ds with
 |nil=>cases e
 |cons d dr=>
  obtain⟨v,vr,rfl,r1,r2⟩:=r;obtain⟨Zg,e1,e2⟩:=bW (show((pG g (bq d) L).bind fun Zd=>vn gr (aC dr) Zd)=.ok Zj from e);exact ruG' g I r1 e1 fun Zd fp' I'=>ruGs' gr I' r2 e2 h
end
mutual
theorem Vv:∀(g:CG) {d:D}{v:V}{L Zj:a_}{O:L2.St}{fp:Nat->List Addr}{f:List Addr}{Q:L2.St->Hp->Prop},bf K F0 H0 L O F H fp->jA K H0 F H fp d v f->pG g d L=.ok Zj->
 (∀Zd fp',bf K F0 H0 Zj Zd F H fp'->(∀i a,a∈fp' i->a∈f\/a∈fp i)->Q Zd H)->wG K Y E g v O H Q
|.name i,d,v,L,Zj,O,fp,f,Q,I,V,e,h=>by
 cases e;refine h _ _ (I.set V i) fun j a ha=>?_;by_cases c:j=i
 ·rw[if_pos c]at ha;exact .inl ha
 ·rw[if_neg c]at ha;exact .inr ha
|.tup gs,d,v,L,Zj,O,fp,f,Q,I,V,e,h=>by
 cases d with
 |tup ds=>
  obtain⟨b,vs,rfl,h2,h3,h4⟩:=V.r;obtain⟨c,e⟩:=gZ e;exact⟨true,vs,(tupS h2).same' I.g.s,rfl,by rw[h4.len];exact of_decide_eq_true c,Rv gs I h4 V.nd V.nf V.nh V.dis e h⟩
 |_=>cases e
|.sub _ _,d,v,L,Zj,O,fp,f,Q,I,V,e,h=>by cases e
theorem Rv:∀(g:oM) {ds:List D}{vs:List V}{L Zj:a_}{O:L2.St}{fp:Nat->List Addr}{f:List Addr}{Q:L2.St->Hp->Prop},bf K F0 H0 L O F H fp->a7 K H F ds vs f->f.Nodup->(∀a∈f,F a=none)->(∀a∈f,H0 a=none)->
 (∀i a,a∈f->a∉fp i)->vn g ds L=.ok Zj->(∀Zd fp',bf K F0 H0 Zj Zd F H fp'->(∀i a,a∈fp' i->a∈f\/a∈fp i)->Q Zd H)->HG K Y E g vs O H Q
|.nil,ds,vs,L,Zj,O,fp,f,Q,I,r,nd,nf,nh,dis,e,h=>by
 cases ds with
 |nil=>
  obtain⟨rfl,_⟩:=r;cases e;exact h O fp I fun _ _ z=>.inr z
 |cons d dr=>cases e
|.cons g gr,ds,vs,L,Zj,O,fp,f,Q,I,r,nd,nf,nh,dis,e,h=>by
 cases ds with
 |nil=>cases e
 |cons d dr=>
  obtain⟨v,vr,f1,f2,rfl,rfl,r1,r2⟩:=r;obtain⟨Zg,e1,e2⟩:=bW e;obtain⟨n1,n2,n3⟩:=bF.mp nd;refine Vv g I ⟨r1,n1,fun a ha=>nf a (aK _ ha),fun a ha=>nh a (aK _ ha),fun i a ha=>dis i a (aK _ ha)⟩ e1 fun Zd fp' I' sub=>?_;refine Rv gr I' r2 n2 (fun a ha=>nf a (au _ ha)) (fun a ha=>nh a (au _ ha)) (fun i a ha z=>?_) e2 fun Zh fp3 I3 sub3=>h Zh fp3 I3 fun i a ha=>?_
  ·rcases sub i a z with q|q
   ·exact n3 a q a ha rfl
   ·exact dis i a (au _ ha) q
  ·rcases sub3 i a ha with q|q
   ·exact .inl (au _ q)
   ·rcases sub i a q with q|q
    ·exact .inl (aK _ q)
    ·exact .inr q
end
theorem zQ[Ex](Zc:cu K Zb Y)(I:bf K F0 H0 L O F H fp)(lt:cG e=true)(he:pE Zb e L=.ok d)
  (h:∀v F1 H1 fp1 f,bf K F0 H0 (gJ (b5 e) (aT d) L) O F1 H1 fp1->jA K H0 F1 H1 fp1 d v f->Q v H1):wE K Y Ex.E e O H Q:=by
 refine eK Zc e (I.env (b5 e)) (dN I.g.s) lt ?_;rw[he];intro F' H' v f g fr r;obtain⟨F1,fp1,I1,V1,_,_⟩:=I.told g fr r;exact h v F1 H' fp1 f I1 V1
theorem runD'[Ex](Zc:cu K Zb Y)(I:bf K F0 H0 L O F H fp)(lt:cG e=true)(he:pE Zb e L=.ok d)
  (h:∀v F1 H1,bf K F0 H0 L O F1 H1 fp->aY H H1->(aT d=true->∃f,jA K H0 F1 H1 fp d v f)->Q v H1):wE K Y Ex.E e O H Q:=by
 refine eK Zc e (I.env (b5 e)) (dN I.g.s) lt ?_;rw[he];intro F' H' v f g fr r;refine h v _ H' (I.back g) g.h fun ho=>?_;refine⟨f,bK.less (jN g.s ((I.lists _).mono g.h)) d v f ho r,fr.nd,fun a ha=>aY.none (jJ _ _) (fr.nf a ha),fun a ha=>aY.none I.g.h (fr.nh a ha),fun i a ha hb=>?_⟩;obtain⟨o,e,_⟩:=I.ex i a hb;rw[fr.nh a ha]at e;cases e
theorem jA.back(I:bf K F0 H0 L O F H fp)(V:jA K H0 F H fp d v f)(g:bJ (adopt F H (ownAt fp is)) H F' H'):jA K H0 (minus F' (ownAt fp is)) H' fp d v f:=by
 have hn:∀a∈f,a∉ownAt fp is:=fun a ha z=>by
  obtain⟨i,_,hb⟩:=d7.mp z;exact V.dis i a ha hb
 have hx:=bK.ex d v f V.r;refine⟨bK.mono ?_ d v f (fun a ha=>?_) V.r,V.nd,fun a ha=>?_,V.nh,V.dis⟩
 ·intro b o h;have hb:b∉ownAt fp is:=fun z=>by
   obtain⟨i,_,hb⟩:=d7.mp z;have:=I.nf i b hb;rw[h]at this;cases this
  rw[eO hb];exact g.f b o (cS I.g.s b o h)
 ·obtain⟨o,e,_⟩:=hx a ha;rw[e,g.h a o e]
 ·rw[eO (hn a ha)];obtain⟨o,e,k⟩:=hx a ha;cases q:F' a with
  |none=>rfl
  |some u=>exact((g.n a u q (by rw[jI (hn a ha)];exact V.nf a ha)).own e k).elim
structure lO (K:PySem.W.Frag) (H0 F H:Hp) (fp:Nat->List Addr) (ds:List D) (vs:List V) (f:List Addr):Prop where
 r:a7 K H F ds vs f
 nd:f.Nodup
 nf:∀a∈f,F a=none
 nh:∀a∈f,H0 a=none
 dis:∀i a,a∈f->a∉fp i
theorem lO.back(I:bf K F0 H0 L O F H fp){d:List D}{v:List V}(V:lO K H0 F H fp d v f)(g:bJ (adopt F H (ownAt fp is)) H F' H'):lO K H0 (minus F' (ownAt fp is)) H' fp d v f:=by
 have hn:∀a∈f,a∉ownAt fp is:=fun a ha z=>by
  obtain⟨i,_,hb⟩:=d7.mp z;exact V.dis i a ha hb
 have hx:=a7.ex d v f V.r;refine⟨a7.mono ?_ d v f (fun a ha=>?_) V.r,V.nd,fun a ha=>?_,V.nh,V.dis⟩
 ·intro b o h;have hb:b∉ownAt fp is:=fun z=>by
   obtain⟨i,_,hb⟩:=d7.mp z;have:=I.nf i b hb;rw[h]at this;cases this
  rw[eO hb];exact g.f b o (cS I.g.s b o h)
 ·obtain⟨o,e,_⟩:=hx a ha;rw[e,g.h a o e]
 ·rw[eO (hn a ha)];obtain⟨o,e,k⟩:=hx a ha;cases q:F' a with
  |none=>rfl
  |some u=>exact((g.n a u q (by rw[jI (hn a ha)];exact V.nf a ha)).own e k).elim
theorem lO.snoc{f':List Addr}(V:lO K H0 F H fp ds vs f)(W:jA K H0 F H fp d v f')(hd:∀a∈f,a∉f'):lO K H0 F H fp (ds++[d]) (vs++[v]) (f++f'):=by
 refine⟨V.r.app ⟨v,[],f',[],rfl,by simp,W.r,rfl,rfl⟩,bF.mpr ⟨V.nd,W.nd,fun a ha b hb z=>hd a ha (by rw[z];exact hb)⟩,fun a ha=>?_,fun a ha=>?_,fun i a ha=>?_⟩
 ·rcases aZ.mp ha with q|q
  ·exact V.nf a q
  ·exact W.nf a q
 ·rcases aZ.mp ha with q|q
  ·exact V.nh a q
  ·exact W.nh a q
 ·rcases aZ.mp ha with q|q
  ·exact V.dis i a q
  ·exact W.dis i a q
theorem runN[Ex](Zc:cu K Zb Y)(I:bf K F0 H0 L O F H fp)(V0:lO K H0 F H fp ds vs f0)(lt:cG e=true)(he:pE Zb e L=.ok d)(ho:aT d=true)
  (h:∀v F1 H1 f,bf K F0 H0 L O F1 H1 fp->lO K H0 F1 H1 fp (ds++[d]) (vs++[v]) f->Q v H1):wE K Y Ex.E e O H Q:=by
 refine eK Zc e (I.env (b5 e)) (dN I.g.s) lt ?_;rw[he];intro F' H' v f g fr r;refine h v _ H' _ (I.back g) ((V0.back I g).snoc (f':=f) ⟨bK.less (jN g.s ((I.lists _).mono g.h)) d v f ho r,fr.nd,fun a ha=>aY.none (jJ _ _) (fr.nf a ha),fun a ha=>aY.none I.g.h (fr.nh a ha),fun i a ha hb=>?_⟩ fun a ha hb=>?_)
 ·obtain⟨o,e,_⟩:=I.ex i a hb;rw[fr.nh a ha]at e;cases e
 ·obtain⟨o,e,_⟩:=a7.ex ds vs f0 V0.r a ha;rw[fr.nh a hb]at e;cases e
theorem bf.WX(I:bf K F0 H0 L O F H fp)(k:Nat):bf K F0 H0 (L.set k none) O F H (fun i=>if i=k then[]else fp i):=by
 have sub:∀i a,a∈(if i=k then[]else fp i)->a∈fp i:=fun i a ha=>by
  by_cases c:i=k
  ·rw[if_pos c]at ha;cases ha
  ·rw[if_neg c]at ha;exact ha
 refine⟨I.g,by simp[I.len],fun i d e=>?_,fun i a ha=>I.ex i a (sub i a ha),fun i=>?_,fun i a ha=>I.nf i a (sub i a ha),fun i a ha=>I.nh i a (sub i a ha),fun i j a ha hb=>I.dis i j a (sub i a ha) (sub j a hb)⟩
 ·by_cases c:i=k
  ·subst c;rw[d_]at e;by_cases hi:i<L.length
   ·simp[hi]at e
   ·simp[hi]at e
  ·rw[b6 (cK c)]at e;rw[if_neg c];exact I.rep i d e
 ·by_cases c:i=k
  ·rw[if_pos c];exact gp
  ·rw[if_neg c];exact I.nd i
theorem Ys[Ex](Zc:cu K Zb Y){d0:D}{v0:V}(I:bf K F0 H0 L O F H fp)(V0:jA K H0 F H fp d0 v0 f0)(lt:cG e=true)(he:pE Zb e L=.ok d)
  (h:∀v F1 H1,bf K F0 H0 L O F1 H1 fp->jA K H0 F1 H1 fp d0 v0 f0->(∀{x:D},d=x->aT x=true->aV K H1 x v)->Q v H1):wE K Y Ex.E e O H Q:=by
 refine eK Zc e (I.env (b5 e)) (dN I.g.s) lt ?_;rw[he];intro F' H' v f g fr r;refine h v _ H' (I.back g) (V0.back I g) fun z ho=>?_;subst z;obtain⟨F2,g2,s2,rf⟩:=Ob g fr r;exact aV.mono g2.s d v rf
theorem Ol[Ex](Zc:cu K Zb Y){Q:Bool->Hp->Prop}(I:bf K F0 H0 L O F H fp)(lt:cG e=true)(he:pT Zb e L=.ok b)
  (h:∀F1 H1,bf K F0 H0 L O F1 H1 fp->Q b H1):wT K Y Ex.E e O H Q:=by
 refine vo Zc e (I.env (b5 e)) (dN I.g.s) lt ?_;rw[he];exact fun F' H' g=>h _ H' (I.back g)
theorem bf.own(I:bf K F0 H0 L O F H fp)(is:List Nat):bJ F0 H0 (adopt F H (ownAt fp is)) H:=p7 I.g fun a ha=>by
 obtain⟨i,_,hi⟩:=d7.mp ha;exact I.nh i a hi
theorem uR[Ex](Zc:cu K Zb Y)(I:bf K F0 H0 L O F H fp)(lt:cG e=true)(he:pE Zb e L=.ex x)(h:iz K F0 H0 x):wE K Y Ex.E e O H Q:=by
 refine eK Zc e (I.env (b5 e)) (dN I.g.s) lt ?_;rw[he];exact iz.grow (K:=K) (x:=x) h (I.own (b5 e))
theorem Rx[Ex](Zc:cu K Zb Y){Q:Bool->Hp->Prop}(I:bf K F0 H0 L O F H fp)(lt:cG e=true)(he:pT Zb e L=.ex x)(h:iz K F0 H0 x):wT K Y Ex.E e O H Q:=by
 refine vo Zc e (I.env (b5 e)) (dN I.g.s) lt ?_;rw[he];exact iz.grow (K:=K) (x:=x) h (I.own (b5 e))
theorem WY[Ex](Zc:cu K Zb Y){c:CI}(I:bf K F0 H0 L O F H fp)(lt:ltI c=true)(he:pI Zb c L=.ex x)(h:iz K F0 H0 x):wI K Y Ex.E c O H k:=by
 refine Vr Zc c (ownAt fp (tX c)) (I.env (tX c)) (dN I.g.s) (I.lists _) lt ?_;rw[he];exact iz.grow (K:=K) (x:=x) h (I.own (tX c))
theorem WZ[Ex](Zc:cu K Zb Y){c:ia}{Q:List V->Hp->Prop}(I:bf K F0 H0 L O F H fp)(lt:jb c=true)(he:dJ Zb c L=.ex x)(h:iz K F0 H0 x):wEs K Y Ex.E c O H Q:=by
 refine lZ Zc c (I.env (jM c)) (dN I.g.s) lt ?_;rw[he];exact iz.grow (K:=K) (x:=x) h (I.own (jM c))
theorem BV{O:a_}{k:Nat}(h:(o||!is.contains k)=true):(gJ is o O)[k]?=O[k]?:=by
 cases o with
 |true=>rfl
 |false=>
  have hk:k∉is:=by simpa using h
  show(lN is O)[k]?=_;clear h;induction is generalizing O with
  |nil=>rfl
  |cons i is ih=>
   rw[lN,ih (fun z=>hk (ai _ z)),zP,if_neg (fun z=>hk (by rw[z];exact aq))]
theorem bf.lst{k:Nat}{xs:List D}(I:bf K F0 H0 L O F H fp)(e:L[k]?=some (some (.lst true xs))):∃a vs fs,O[k]?=some (some (.ref a))/\H a=some (.lst vs)/\vs.length<=aa/\a7 K H F xs vs fs/\fp k=a::fs:=by
 obtain⟨v,h1,h2⟩:=I.rep k _ e;unfold bK at h2;rw[if_pos rfl]at h2;obtain⟨a,vs,fs,rfl,q⟩:=h2;exact⟨a,vs,fs,h1,q⟩
theorem slot_of{i:Nat}{k:V->Prop}(h:O[i]?=some (some v))(q:k v):kR O i k:=by
 unfold kR;rw[h];exact q
theorem a7.set:∀{ds:List D}{vs:List V}{fs f:List Addr} (n:Nat) {d:D}{v:V},a7 K H F ds vs fs->bK K H F d v f->(fs++f).Nodup->∃fs',a7 K H F (ds.set n d) (vs.set n v) fs'/\fs'.Nodup/\∀b∈fs',b∈fs\/b∈f
|[],_,_,_,n,_,_,h,_,nd=>by
 obtain⟨rfl,rfl⟩:=h;exact⟨[],⟨rfl,rfl⟩,gp,fun b hb=>absurd hb aW⟩
|e::ds,_,_,f,0,d,v,h,hd,nd=>by
 obtain⟨w,r,f1,f2,rfl,rfl,h3,h4⟩:=h;refine⟨f++f2,⟨v,r,f,f2,rfl,rfl,hd,h4⟩,?_,?_⟩
 ·simp only[br,bF,aZ]at nd ⊢;obtain⟨n1,⟨n2,n3,n4⟩,n5⟩:=nd;exact⟨n3,n2,fun a ha b hb z=>n4 b hb a ha z.symm⟩
 ·intro b hb;rcases aZ.mp hb with hb|hb
  ·exact .inr hb
  ·exact .inl (au _ hb)
|e::ds,_,_,f,n+1,d,v,h,hd,nd=>by
 obtain⟨w,r,f1,f2,rfl,rfl,h3,h4⟩:=h;have nd':(f2++f).Nodup/\f1.Nodup/\∀a∈f1,∀b,(b∈f2\/b∈f)->a≠b:=by
  rw[br]at nd;obtain⟨n1,n2,n3⟩:=bF.mp nd;exact⟨n2,n1,fun a ha b hb=>n3 a ha b (aZ.mpr hb)⟩
 obtain⟨fs',q1,q2,q3⟩:=a7.set n h4 hd nd'.1;refine⟨f1++fs',⟨w,_,f1,fs',rfl,rfl,h3,q1⟩,bF.mpr ⟨nd'.2.1,q2,fun a ha b hb=>nd'.2.2 a ha b (q3 b hb)⟩,?_⟩;intro b hb;rcases aZ.mp hb with hb|hb
 ·exact .inl (aK _ hb)
 ·rcases q3 b hb with z|z
  ·exact .inl (au _ z)
  ·exact .inr z
theorem bf.Fo{k:Nat}{xs xs':List D}{a:Addr}{vs vs':List V}{fs fs' f:List Addr}{d:D}{v:V}(I:bf K F0 H0 L O F H fp)(V:jA K H0 F H fp d v f)(Zt:O[k]?=some (some (.ref a)))(hk:fp k=a::fs)(hl:vs'.length<=aa)
  (hr:∀{H':Hp},(∀b∈fs,H' b=H b)->(∀b∈f,H' b=H b)->a7 K H' F xs' vs' fs') (nd:fs'.Nodup) (sub:∀b∈fs',b∈fs\/b∈f) :
  ∃fp',bf K F0 H0 (L.set k (some (.lst true xs'))) O F (upd H a (.lst vs')) fp':=by
 have hak:a∈fp k:=by rw[hk];exact aq
 have nda:a∉fs/\fs.Nodup:=by have:=I.nd k;rw[hk]at this;exact b7.mp this
 have haf:a∉f:=fun z=>V.dis k a z hak;have hs:∀b∈fs',b∈fp k\/b∈f:=fun b hb=>by
  rcases sub b hb with z|z
  ·exact .inl (by rw[hk];exact ai _ z)
  ·exact .inr z
 refine⟨_,I.put hak Zt (d:=.lst true xs') (f:=a::fs') ?_ ?_ ?_ ?_ ?_⟩
 ·unfold bK;rw[if_pos rfl];refine⟨a,vs',fs',rfl,bO,hl,hr (fun b hb=>aS (fun z=>nda.1 (by rw[<-z];exact hb))) (fun b hb=>aS (fun z=>haf (by rw[<-z];exact hb))),rfl⟩
 ·refine b7.mpr ⟨fun z=>?_,nd⟩;rcases sub a z with z|z
  ·exact nda.1 z
  ·exact haf z
 ·intro b hb;rcases aJ.mp hb with rfl|hb
  ·exact I.nf k b hak
  ·rcases hs b hb with z|z
   ·exact I.nf k b z
   ·exact V.nf b z
 ·intro b hb;rcases aJ.mp hb with rfl|hb
  ·exact I.nh k b hak
  ·rcases hs b hb with z|z
   ·exact I.nh k b z
   ·exact V.nh b z
 ·intro i hi b hb hc;rcases aJ.mp hb with rfl|hb
  ·exact hi (I.dis i k b hc hak)
  ·rcases hs b hb with z|z
   ·exact hi (I.dis i k b hc z)
   ·exact V.dis i b z hc
end
variable{a:CE}
variable{f3:List Addr}
variable{src:CI}
variable{n:Nat}
section
variable{K:PySem.W.Frag}{Zb:List PG}{Y:List G}{F0 H0 F H:Hp}{L:a_}{O:L2.St}{fp:Nat->List Addr}{X:Ends}
theorem Om[Ex](Zc:cu K Zb Y):∀(as:ia) {ds acc:List D}{av:List V}{af:List Addr}{L:a_}{F H:Hp}{fp:Nat->List Addr}{Q:List V->Hp->Prop},bf K F0 H0 L O F H fp->lO K H0 F H fp acc av af->jb as=true->jz Zb as L=.ok ds->
 (∀vs F1 H1 Zl fp1 f,bf K F0 H0 Zl O F1 H1 fp1->lO K H0 F1 H1 fp1 (acc++ds) (av++vs) f->Q vs H1)->wEs K Y Ex.E as O H Q
|.nil,ds,acc,av,af,L,F,H,fp,Q,I,V,lt,e,h=>by
 cases e;exact h [] F H L fp af I (by rw[gO,gO];exact V)
|.cons a r,ds,acc,av,af,L,F,H,fp,Q,I,V,lt,e,h=>by
 obtain⟨l1,l2⟩:=band' lt;have e:(match Jx a with
  |some i=>match L[i]? with
   |some (some d)=>(jz Zb r (L.set i none)).bind fun ds=>.ok (d::ds)
   |_=>.bad
  |none=>(pE Zb a L).bind fun d=>.be (aT d) ((jz Zb r L).bind fun ds=>.ok (d::ds)))=R.ok ds:=e
 cases va:Jx a with
 |some i=>
  have ea:a=.var i:=by cases a<;>first|(cases va;rfl)|(cases va)
  subst ea;rw[va]at e;simp only at e;cases q:L[i]? with
  |none=>rw[q]at e;cases e
  |some o=>
   cases o with
   |none=>rw[q]at e;cases e
   |some d=>
    rw[q]at e;obtain⟨ds',e1,e2⟩:=bW (show((jz Zb r (L.set i none)).bind fun ds=>.ok (d::ds))=R.ok ds from e);cases e2;obtain⟨v,h1,h2⟩:=I.rep i d q;have V1:lO K H0 F H (fun j=>if j=i then[]else fp j) (acc++[d]) (av++[v]) (af++fp i):=by
     refine lO.snoc ⟨V.r,V.nd,V.nf,V.nh,fun j a ha=>?_⟩ ⟨h2,I.nd i,I.nf i,I.nh i,fun j a ha=>?_⟩ fun a ha hb=>V.dis i a ha hb
     ·by_cases c:j=i
      ·rw[if_pos c];exact aW
      ·rw[if_neg c];exact V.dis j a ha
     ·by_cases c:j=i
      ·rw[if_pos c];exact aW
      ·rw[if_neg c];exact fun z=>c (I.dis j i a z ha)
    refine slot_of h1 (Om Zc r (I.WX i) V1 l2 e1 fun vs F1 H1 Zl fp1 f I1 W=>h (v::vs) F1 H1 Zl fp1 f I1 ?_);rw[br,br]at W;exact W
 |none=>
  rw[va]at e;simp only at e;obtain⟨d,e1,e2⟩:=bW e;obtain⟨ho,e2⟩:=gZ e2;obtain⟨ds',e3,e4⟩:=bW e2;cases e4;refine runN Zc I V l1 e1 ho fun v F1 H1 f I1 V1=>?_;refine Om Zc r I1 V1 l2 e3 fun vs F2 H2 Zg fp2 f2 I2 W=>h (v::vs) F2 H2 Zg fp2 f2 I2 ?_;rw[br,br]at W;exact W
theorem W0[Ex](Zc:cu K Zb Y)(I:bf K F0 H0 L O F H fp)(lt:cG e=true)(h:cC K F0 H0 ((pM Zb e L).aR .rt) X):wE K Y Ex.E e O H X.rt:=by
 rcases jV h with⟨x,e1,hx⟩|⟨d,e1,h'⟩
 ·have gen:pE Zb e L=.ex x->wE K Y Ex.E e O H X.rt:=fun he=>uR Zc I lt he hx;cases e with
  |var i=>
   have e1:(match L[i]? with|some (some d)=>R.ok d|_=>.bad)=.ex x:=e1;split at e1<;>cases e1
  |tup as=>
   have e1:(jz Zb as L).alt (fun ds=>.be (decide (ds.length<=aa)) (.ok (.tup ds))) (pE Zb (.tup as) L)=.ex x:=e1;unfold R.alt at e1;split at e1
   ·exact absurd e1 (a9.be a9.ok x)
   ·exact gen e1
  |_=>exact gen e1
 clear h;have gen:pE Zb e L=.ok d->wE K Y Ex.E e O H X.rt:=fun he=>zQ Zc I lt he fun v F1 H1 fp1 f I1 V1=>h' v F1 H1 f I1.g ⟨V1.nd,V1.nh,V1.nf⟩ V1.r;cases e with
 |var i=>
  have e1:(match L[i]? with|some (some d)=>R.ok d|_=>.bad)=.ok d:=e1;cases q:L[i]? with
  |none=>rw[q]at e1;cases e1
  |some o=>
   cases o with
   |none=>rw[q]at e1;cases e1
   |some d'=>
    rw[q]at e1;cases e1;obtain⟨v,h1,h2⟩:=I.rep i d q;exact slot_of h1 (h' v F H (fp i) I.g ⟨I.nd i,I.nh i,I.nf i⟩ h2)
 |tup as=>
  have e1:(jz Zb as L).alt (fun ds=>.be (decide (ds.length<=aa)) (.ok (.tup ds))) (pE Zb (.tup as) L)=.ok d:=e1;cases e2:jz Zb as L with
  |ok ds=>
   rw[e2]at e1;obtain⟨c3,e4⟩:=gZ e1;cases e4;refine Om Zc as I (acc:=[]) (av:=[]) (af:=[]) ⟨⟨rfl,rfl⟩,gp,fun _ z=>absurd z aW,fun _ z=>absurd z aW,fun _ _ z=>absurd z aW⟩ lt e2 fun vs F1 H1 Zl fp1 f I1 V=>?_;have hr:a7 K H1 F1 ds vs f:=V.r;have hl:vs.length<=aa:=by rw[hr.len];exact of_decide_eq_true c3
   refine⟨hl,fun p hp=>?_⟩;have g2:=tY (o:=.tup vs) I1.g.s hp;have I2:=I1.grow g2;have np:∀a∈f,a≠p:=fun a ha z=>by
    obtain⟨o,e,_⟩:=a7.ex ds vs f hr a ha;rw[z,hp]at e;cases e
   exact h' (.ref p) _ _ f I2.g ⟨V.nd,V.nh,fun a ha=>by rw[aS (np a ha)];exact V.nf a ha⟩ ⟨p,vs,rfl,bO,hl,a7.mono g2.f ds vs f (fun a ha=>aS (np a ha)) hr⟩
  |_=>
   rw[e2]at e1;exact gen e1
 |_=>exact gen e1
theorem AJ{g:List Addr}(nd:(f1++(f2++f3)).Nodup)(g3:∀b∈g,b∈f2\/b∈f)(g2:g.Nodup)(df:∀a∈f,a∉f1++(f2++f3)):(f1++(g++f3)).Nodup:=by
 obtain⟨n1,n23,n4⟩:=bF.mp nd;obtain⟨n2,n3,n5⟩:=bF.mp n23;refine bF.mpr ⟨n1,bF.mpr ⟨g2,n3,fun a ha b hb z=>?_⟩,fun a ha b hb z=>?_⟩
 ·rcases g3 a ha with q|q
  ·exact n5 a q b hb z
  ·exact df a q (by rw[z];exact au _ (au _ hb))
 ·rcases aZ.mp hb with hb|hb
  ·rcases g3 b hb with q|q
   ·exact n4 a ha b (aK _ q) z
   ·exact df b q (by rw[<-z];exact aK _ ha)
  ·exact n4 a ha b (au _ hb) z
theorem zR{g:List Addr}(g3:∀b∈g,b∈f2\/b∈f):∀b∈f1++(g++f3),b∈f1++(f2++f3)\/b∈f:=fun b hb=>by
 rcases aZ.mp hb with z|z
 ·exact .inl (aK _ z)
 ·rcases aZ.mp z with z|z
  ·rcases g3 b z with q|q
   ·exact .inl (au _ (aK _ q))
   ·exact .inr q
  ·exact .inl (au _ (au _ z))
theorem Lq{a:Addr}{g:List Addr}(nd:(a::(f1++(f2++f3))).Nodup)(g3:∀b∈g,b∈f2\/b∈f)(g2:g.Nodup)(df:∀b∈f,b∉a::(f1++(f2++f3))):(a::(f1++(g++f3))).Nodup:=by
 have nd':=b7.mp nd;refine b7.mpr ⟨fun z=>?_,AJ nd'.2 g3 g2 fun b hb z=>df b hb (ai _ z)⟩;rcases zR g3 a z with q|q
 ·exact nd'.1 q
 ·exact df a q aq
theorem SD{a:Addr}{g:List Addr}(g3:∀b∈g,b∈f2\/b∈f):∀b∈a::(f1++(g++f3)),b∈a::(f1++(f2++f3))\/b∈f:=fun b hb=>by
 rcases aJ.mp hb with rfl|hb
 ·exact .inl aq
 ·rcases zR g3 b hb with q|q
  ·exact .inl (ai _ q)
  ·exact .inr q
def Reach(K:PySem.W.Frag)(H:Hp):V->List Int->V->Prop
|v,[],w=>v=w
|v,i::r,w=>∃a t xs u,v=.ref a/\fH K H a t xs/\fh xs i=some u/\Reach K H u r w
theorem Reach.snoc:∀{is:List Int}{v w:V}{n:Int},Reach K H v (is++[n]) w->∃x,Reach K H v is x/\Reach K H x [n] w
|[],v,w,n,h=>⟨v,rfl,h⟩
|i::r,v,w,n,h=>by
 obtain⟨a,t,xs,u,e1,e2,e3,h⟩:=h;obtain⟨x,q1,q2⟩:=Reach.snoc h;exact⟨x,⟨a,t,xs,u,e1,e2,e3,q1⟩,q2⟩
theorem Oo[Ex](I:bf K F0 H0 L O F H fp):∀(o:CE) {k:Nat}{is:List Int}{v w:V}{Q:VK},tu L o=some (k,is)->O[k]?=some (some v)->Reach K H v is w->Q w H->wE K Y Ex.E o O H Q
|.var j,k,is,v,w,Q,e,hv,hr,q=>by
 cases e;cases hr;exact slot_of hv q
|.ix o i,k,is,v,w,Q,e,hv,hr,q=>by
 have e:((tu L o).bind fun p=>(BQ L i).map fun n=>(p.1,p.2++[n]))=some (k,is):=e;cases e1:tu L o with
 |none=>rw[e1]at e;cases e
 |some p=>
  rw[e1]at e;cases e2:BQ L i with
  |none=>
   have e:((BQ L i).map fun n=>(p.1,p.2++[n]))=some (k,is):=e;rw[e2]at e;cases e
  |some n=>
   have e:((BQ L i).map fun n=>(p.1,p.2++[n]))=some (k,is):=e;rw[e2]at e;cases e;obtain⟨x,q1,a,t,xs,u,rfl,q2,q3,q4⟩:=Reach.snoc hr;cases q4;refine Oo I o e1 hv q1 (show wE K Y Ex.E i O H fun y H2=>EK K (.ref a) y H2 Q from ?_);have fin:EK K (.ref a) (.int n) H Q:=.inl ⟨t,xs,n,_,rfl,q2,q3,q⟩;unfold BQ at e2;split at e2
   ·split at e2
    ·rename_i j _ m hj;cases e2;obtain⟨v',h1,h2⟩:=I.rep _ _ hj;obtain⟨rfl,_⟩:=h2;exact slot_of h1 fin
    ·cases e2
   ·cases e2;exact fin
   ·cases e2;exact fin
   ·cases e2
|.con _,k,is,v,w,Q,e,hv,hr,q=>by cases e
|.glo _,k,is,v,w,Q,e,hv,hr,q=>by cases e
|.bin _ _ _,k,is,v,w,Q,e,hv,hr,q=>by cases e
|.nset _,k,is,v,w,Q,e,hv,hr,q=>by cases e
|.neg _,k,is,v,w,Q,e,hv,hr,q=>by cases e
|.not _,k,is,v,w,Q,e,hv,hr,q=>by cases e
|.and _ _,k,is,v,w,Q,e,hv,hr,q=>by cases e
|.or _ _,k,is,v,w,Q,e,hv,hr,q=>by cases e
|.ite _ _ _,k,is,v,w,Q,e,hv,hr,q=>by cases e
|.cmp _ _ _,k,is,v,w,Q,e,hv,hr,q=>by cases e
|.chain _ _ _ _ _,k,is,v,w,Q,e,hv,hr,q=>by cases e
|.call _ _,k,is,v,w,Q,e,hv,hr,q=>by cases e
|.blt _ _,k,is,v,w,Q,e,hv,hr,q=>by cases e
|.isi _ _,k,is,v,w,Q,e,hv,hr,q=>by cases e
|.mth _ _ _,k,is,v,w,Q,e,hv,hr,q=>by cases e
|.sl _ _ _,k,is,v,w,Q,e,hv,hr,q=>by cases e
|.lst _,k,is,v,w,Q,e,hv,hr,q=>by cases e
|.tup _,k,is,v,w,Q,e,hv,hr,q=>by cases e
|.comp _ _ _ _ _ _,k,is,v,w,Q,e,hv,hr,q=>by cases e
|.isx _ _ _,k,is,v,w,Q,e,hv,hr,q=>by cases e
|.isv _ _,k,is,v,w,Q,e,hv,hr,q=>by cases e
|.att _ _ _,k,is,v,w,Q,e,hv,hr,q=>by cases e
|.slp _ _ _ _,k,is,v,w,Q,e,hv,hr,q=>by cases e
theorem a7.at:∀{ds:List D}{vs:List V}{fs:List Addr} (n:Nat) {y:D},a7 K H F ds vs fs->ds[n]?=some y->
 ∃w f1 f2 f3,vs[n]?=some w/\fs=f1++(f2++f3)/\bK K H F y w f2/\∀{F1 H':Hp}{y':D}{g:List Addr},aY F F1->(∀b∈f1,H' b=H b)->(∀b∈f3,H' b=H b)->bK K H' F1 y' w g->a7 K H' F1 (ds.set n y') vs (f1++(g++f3))
|[],_,_,n,y,h,e=>by simp at e
|d::ds,_,_,0,y,h,e=>by
 obtain⟨v,r,g1,g2,rfl,rfl,h1,h2⟩:=h;simp at e;subst e;exact⟨v,[],g1,g2,rfl,rfl,h1,fun s1 _ h3 hr=>⟨v,r,_,g2,rfl,rfl,hr,a7.mono s1 _ _ _ h3 h2⟩⟩
|d::ds,_,_,n+1,y,h,e=>by
 obtain⟨v,r,g1,g2,rfl,rfl,h1,h2⟩:=h;obtain⟨w,f1,f2,f3,e1,rfl,q1,q2⟩:=a7.at n h2 (by simpa using e);refine⟨w,g1++f1,f2,f3,by simpa using e1,by simp,q1,fun s1 h3 h4 hr=>⟨v,r,g1,_,rfl,by simp,bK.mono s1 _ _ _ (fun b hb=>h3 b (aK _ hb)) h1,q2 s1 (fun b hb=>h3 b (au _ hb)) h4 hr⟩⟩
theorem Ib:∀(is:List Int) {x x' d:D},eL is x d=some x'->∃ys,iP is x=some (.lst true ys)
|[],x,x',d,e=>by
 unfold eL at e;split at e
 ·exact⟨_,rfl⟩
 ·cases e
|i::r,x,x',d,e=>by
 unfold eL at e;have key:∀(xs:List D) (f:D->D),(((gH xs.length i).bind fun n=>(xs[n]?).bind fun y=>(eL r y d).map fun y'=>f (.lst true (xs.set n y')))=some x'\/((gH xs.length i).bind fun n=>(xs[n]?).bind fun y=>(eL r y d).map fun y'=>f (.tup (xs.set n y')))=some x')->∃ys,((gH xs.length i).bind fun n=>(xs[n]?).bind fun y=>iP r y)=some (.lst true ys):=by
  intro xs f e;cases e1:gH xs.length i with
  |none=>rw[e1]at e;rcases e with e|e<;>cases e
  |some n=>
   rw[e1]at e;show ∃ys,((xs[n]?).bind fun y=>iP r y)=some (.lst true ys);cases e2:xs[n]? with
   |none=>simp[e2]at e
   |some y=>
    show ∃ys,iP r y=some (.lst true ys);cases e3:eL r y d with
    |none=>simp[e2,e3]at e
    |some y'=>exact Ib r e3
 unfold iP;split at e
 ·exact key _ id (.inl e)
 ·exact key _ id (.inr e)
 ·cases e
theorem uS:∀(is:List Int) {x:D}{ys:List D}{v:V}{fs:List Addr},aY F H->bK K H F x v fs->iP is x=some (.lst true ys)->fs.Nodup->
 ∃c ws f2,c∈fs/\H c=some (.lst ws)/\Reach K H v is (.ref c)/\bK K H F (.lst true ys) (.ref c) f2/\(∀b∈f2,b∈fs)/\∀{d x':D},eL is x d=some x'->ws.length<aa /\
  ∀{F1 H':Hp}{u:V}{f:List Addr},aY F F1->bK K H' F1 d u f->f.Nodup->(∀a∈f,a∉fs)->(∀b∈fs,b≠c->H' b=H b)->H' c=some (.lst (ws++[u]))->∃fs',bK K H' F1 x' v fs'/\fs'.Nodup/\∀b∈fs',b∈fs\/b∈f
|[],x,ys,v,fs,s,r,e,nd=>by
 cases e;have r0:=r;unfold bK at r;rw[if_pos rfl]at r;obtain⟨a,vs,f1,rfl,r2,r3,r4,rfl⟩:=r;have nd':=b7.mp nd;refine⟨a,vs,a::f1,aq,r2,rfl,r0,fun b hb=>hb,fun{d x'} e=>?_⟩;unfold eL at e;have e:(if ys.length<aa then some (D.lst true (ys++[d]))else none)=some x':=e;split at e
 ·rename_i hl;cases e;refine⟨by rw[r4.len];exact hl,fun{F1 H' u f} s1 rd nf df h1 h2=>⟨a::(f1++f),?_,?_,?_⟩⟩
  ·unfold bK;rw[if_pos rfl];exact⟨a,vs++[u],f1++f,rfl,h2,by rw[ay,r4.len];exact hl,a7.app (a7.mono s1 _ _ _ (fun b hb=>h1 b (ai _ hb) fun z=>nd'.1 (by rw[<-z];exact hb)) r4) (a7.one rd),rfl⟩
  ·refine b7.mpr ⟨fun z=>?_,bF.mpr ⟨nd'.2,nf,fun p hp q hq z=>df q hq (by rw[<-z];exact ai _ hp)⟩⟩;rcases aZ.mp z with z|z
   ·exact nd'.1 z
   ·exact df a z aq
  ·intro b hb;rcases aJ.mp hb with rfl|hb
   ·exact .inl aq
   ·rcases aZ.mp hb with z|z
    ·exact .inl (ai _ z)
    ·exact .inr z
 ·cases e
|i::r,x,ys,v,fs,s,rx,e,nd=>by
 unfold iP at e;split at e
 ·rename_i xs;cases e1:gH xs.length i with
  |none=>rw[e1]at e;cases e
  |some n=>
   rw[e1]at e;have e:((xs[n]?).bind fun y=>iP r y)=some (.lst true ys):=e;cases e2:xs[n]? with
   |none=>rw[e2]at e;cases e
   |some y=>
    rw[e2]at e;have e:iP r y=some (.lst true ys):=e;unfold bK at rx;rw[if_pos rfl]at rx;obtain⟨a,vs,f0,rfl,r2,r3,r4,rfl⟩:=rx;obtain⟨w,f1,f2,f3,w1,rfl,w2,w3⟩:=a7.at n r4 e2;have nd':=b7.mp nd;obtain⟨n1,n23,n4⟩:=bF.mp nd'.2;obtain⟨n2,n3,n5⟩:=bF.mp n23;obtain⟨c,ws,f4,c1,c2,c4,c6,c7,c5⟩:=uS r s w2 e n2;have cf:c∈f1++(f2++f3):=au _ (aK _ c1);refine⟨c,ws,f4,ai _ cf,c2,⟨a,false,vs,w,rfl,.inl (by unfold BC;rw[r2]),AG (by rw[r4.len];exact e1) w1,c4⟩,c6,fun b hb=>ai _ (au _ (aK _ (c7 b hb))),fun{d x'} e3=>?_⟩;have e3:((gH xs.length i).bind fun n=>(xs[n]?).bind fun y=>(eL r y d).map fun y'=>D.lst true (xs.set n y'))=some x':=e3;rw[e1]at e3;have e3:((xs[n]?).bind fun y=>(eL r y d).map fun y'=>D.lst true (xs.set n y'))=some x':=e3;rw[e2]at e3;have e3:((eL r y d).map fun y'=>D.lst true (xs.set n y'))=some x':=e3;cases e4:eL r y d with
    |none=>rw[e4]at e3;cases e3
    |some y'=>
     rw[e4]at e3;cases e3;obtain⟨c3,c5⟩:=c5 e4;refine⟨c3,fun{F1 H' u f} s1 rd nf df h1 h2=>?_⟩;obtain⟨g,g1,g2,g3⟩:=c5 s1 rd nf (fun b hb z=>df b hb (ai _ (au _ (aK _ z)))) (fun b hb hc=>h1 b (ai _ (au _ (aK _ hb))) hc) h2;refine⟨a::(f1++(g++f3)),?_,?_,?_⟩
     ·unfold bK;rw[if_pos rfl];refine⟨a,vs,_,rfl,by rw[h1 a aq fun z=>nd'.1 (by rw[z];exact cf)];exact r2,r3,w3 s1 (fun b hb=>h1 b (ai _ (aK _ hb)) fun z=>n4 b hb c (aK _ c1) z) (fun b hb=>h1 b (ai _ (au _ (au _ hb))) fun z=>n5 c c1 b hb z.symm) g1,rfl⟩
     ·exact Lq nd (fun b hb=>g3 b hb) g2 df
     ·exact SD g3
 ·rename_i xs;cases e1:gH xs.length i with
  |none=>rw[e1]at e;cases e
  |some n=>
   rw[e1]at e;have e:((xs[n]?).bind fun y=>iP r y)=some (.lst true ys):=e;cases e2:xs[n]? with
   |none=>rw[e2]at e;cases e
   |some y=>
    rw[e2]at e;have e:iP r y=some (.lst true ys):=e;obtain⟨a,vs,rfl,r2,r3,r4⟩:=rx;obtain⟨w,f1,f2,f3,w1,rfl,w2,w3⟩:=a7.at n r4 e2;obtain⟨n1,n23,n4⟩:=bF.mp nd;obtain⟨n2,n3,n5⟩:=bF.mp n23;obtain⟨c,ws,f4,c1,c2,c4,c6,c7,c5⟩:=uS r s w2 e n2;refine⟨c,ws,f4,au _ (aK _ c1),c2,⟨a,true,vs,w,rfl,tupS (s _ _ r2),AG (by rw[r4.len];exact e1) w1,c4⟩,c6,fun b hb=>au _ (aK _ (c7 b hb)),fun{d x'} e3=>?_⟩;have e3:((gH xs.length i).bind fun n=>(xs[n]?).bind fun y=>(eL r y d).map fun y'=>D.tup (xs.set n y'))=some x':=e3;rw[e1]at e3;have e3:((xs[n]?).bind fun y=>(eL r y d).map fun y'=>D.tup (xs.set n y'))=some x':=e3;rw[e2]at e3;have e3:((eL r y d).map fun y'=>D.tup (xs.set n y'))=some x':=e3;cases e4:eL r y d with
    |none=>rw[e4]at e3;cases e3
    |some y'=>
     rw[e4]at e3;cases e3;obtain⟨c3,c5⟩:=c5 e4;refine⟨c3,fun{F1 H' u f} s1 rd nf df h1 h2=>?_⟩;obtain⟨g,g1,g2,g3⟩:=c5 s1 rd nf (fun b hb z=>df b hb (au _ (aK _ z))) (fun b hb hc=>h1 b (au _ (aK _ hb)) hc) h2;refine⟨f1++(g++f3),⟨a,vs,rfl,s1 _ _ r2,r3,w3 s1 (fun b hb=>h1 b (aK _ hb) fun z=>n4 b hb c (aK _ c1) z) (fun b hb=>h1 b (au _ (au _ hb)) fun z=>n5 c c1 b hb z.symm) g1⟩,?_,?_⟩
     ·exact AJ nd (fun b hb=>g3 b hb) g2 df
     ·exact zR g3
 ·cases e
theorem Yt[Ex](Zc:cu K Zb Y)(I:bf K F0 H0 L O F H fp)(lt:cG e=true)(he:pE Zb e L=.ok d)
  (h:∀v F1 H1,bf K F0 H0 L O F1 H1 fp->aY F F1->aY H H1->(aT d=true->∃f,jA K H0 F1 H1 fp d v f)->Q v H1):wE K Y Ex.E e O H Q:=by
 refine eK Zc e (I.env (b5 e)) (dN I.g.s) lt ?_;rw[he];intro F' H' v f g fr r;refine h v _ H' (I.back g) (fun b o q=>?_) g.h fun ho=>?_
 ·have hb:b∉ownAt fp (b5 e):=fun z=>by
   obtain⟨i,_,hb⟩:=d7.mp z;rw[I.nf i b hb]at q;cases q
  rw[eO hb];exact g.f b o (cS I.g.s b o q)
 refine⟨f,bK.less (jN g.s ((I.lists _).mono g.h)) d v f ho r,fr.nd,fun a ha=>aY.none (jJ _ _) (fr.nf a ha),fun a ha=>aY.none I.g.h (fr.nh a ha),fun i a ha hb=>?_⟩;obtain⟨o,e,_⟩:=I.ex i a hb;rw[fr.nh a ha]at e;cases e
theorem W1[Ex](Zc:cu K Zb Y){o:CE}(I:bf K F0 H0 L O F H fp)(la:cG a=true)(h:cC K F0 H0 (Oj Zb o a L) X):wE K Y Ex.E (.mth .append o (.cons a .nil)) O H fun _ H1=>X.nx O H1:=by
 unfold Oj at h;split at h
 ·rename_i p ep;obtain⟨d,e1,h⟩:=H_ h;split at h
  ·rename_i x ex;split at h
   ·rename_i ho;cases e3:eL p.2 x d with
    |none=>rw[e3]at h;exact h.elim
    |some x'=>
     rw[e3]at h;have h:cC K F0 H0 (.nx (L.set p.1 (some x'))) X:=h;obtain⟨v,hv,rx⟩:=I.rep _ _ ex;obtain⟨ys,eg⟩:=Ib p.2 e3;obtain⟨c,ws,f2,c1,c2,c4,_,_,c5⟩:=uS p.2 I.g.s rx eg (I.nd _);obtain⟨c3,c5⟩:=c5 e3;refine Oo I o (show tu L o=some (p.1,p.2)from ep) hv c4 ⟨?_,?_⟩
     ·show jo H c;unfold jo;rw[c2];trivial
     ·simp only[wEs];refine Yt Zc I la e1 fun u F1 H1 I1 sF sH V1=>?_;obtain⟨f,V1⟩:=V1 ho;show(match H1 c with|some (.lst xs)=>xs.length<aa/\X.nx O (upd H1 c (.lst (xs++[u])))|_=>False);rw[sH _ _ c2];refine⟨c3,?_⟩;have hcf:c∉f:=fun z=>V1.dis p.1 c z c1;obtain⟨fs',g1,g2,g3⟩:=c5 (H':=upd H1 c (.lst (ws++[u]))) sF (bK.mono (aY.refl _) _ _ _ (fun b hb=>aS fun z=>hcf (by rw[<-z];exact hb)) V1.r) V1.nd (fun b hb=>V1.dis p.1 b hb) (fun b hb hc=>by
       rw[aS hc];obtain⟨o,eo,_⟩:=I.ex p.1 b hb;rw[eo,sH b o eo]) bO
      refine h O F1 _ _ (I1.put c1 hv g1 g2 (fun b hb=>?_) (fun b hb=>?_) fun i hi b hb z=>?_)
      ·rcases g3 b hb with q|q
       ·exact I1.nf p.1 b q
       ·exact V1.nf b q
      ·rcases g3 b hb with q|q
       ·exact I1.nh p.1 b q
       ·exact V1.nh b q
      ·rcases g3 b hb with q|q
       ·exact hi (I1.dis i p.1 b z q)
       ·exact V1.dis i b q z
   ·exact h.elim
  ·exact h.elim
 ·exact h.elim
theorem okX[Ex](Zc:cu K Zb Y)(I:bf K F0 H0 L O F H fp)(lt:cG e=true)(h:cC K F0 H0 (pX Zb e L) X):wE K Y Ex.E e O H fun _ H1=>X.nx O H1:=by
 have gen:cC K F0 H0 ((pE Zb e L).aR fun _=>.nx L) X->wE K Y Ex.E e O H fun _ H1=>X.nx O H1:=fun h=>by
  rcases jV h with⟨x,e1,hx⟩|⟨d,e1,h⟩
  ·exact uR Zc I lt e1 hx
  exact runD' Zc I lt e1 fun v F1 H1 I1 _ _=>h O F1 H1 fp I1
 cases e with
 |mth m o as=>
  cases o with
  |var k=>
   obtain⟨_,lt2⟩:=band' (show(cG (.var k)&&jb as)=true from lt);cases m with
   |append=>
    cases as with
    |nil=>exact h.elim
    |cons a r=>
     cases r with
     |cons _ _=>exact h.elim
     |nil=>
      obtain⟨la,_⟩:=band' (show(cG a&&jb .nil)=true from lt2);rcases BU (show cC K F0 H0 ((pE Zb a L).nY (mZ L[k]?) fun d=>match L[k]? with|some (some (.lst true xs))=>if(decide (xs.length<aa)&&(aT d||!(b5 a).contains k))=true then .nx ((gJ (b5 a) (aT d) L).set k (some (.lst true (xs++[d]))))else .bad|_=>.bad) X from h)with⟨hb,x,e1,hx⟩|⟨d,e1,h⟩
      ·unfold mZ at hb;split at hb
       ·rename_i xs q;obtain⟨a0,us,fs,s1,s2,s3,s4,s5⟩:=I.lst q;refine slot_of s1 ⟨?_,?_⟩
        ·show jo H a0;unfold jo;rw[s2];trivial
        ·simp only[wEs];exact uR Zc I la e1 hx
       ·cases hb
      split at h
      ·rename_i xs q;split at h
       ·rename_i c;obtain⟨c1,c2⟩:=band' c;have c1:=of_decide_eq_true c1;obtain⟨a0,us,fs,s1,s2,s3,s4,s5⟩:=I.lst q;refine slot_of s1 ⟨?_,?_⟩
        ·show jo H a0;unfold jo;rw[s2];trivial
        ·simp only[wEs];refine zQ Zc I la e1 fun v F1 H1 fp1 f I1 V1=>?_;obtain⟨a1,us1,fs1,t1,t2,t3,t4,t5⟩:=I1.lst (k:=k) (xs:=xs) (by rw[BV c2];exact q);rw[s1]at t1;cases t1;show(match H1 a0 with|some (.lst xs)=>xs.length<aa/\X.nx O (upd H1 a0 (.lst (xs++[v])))|_=>False);rw[t2];refine⟨by rw[t4.len];exact c1,?_⟩;have nd1:(fs1++f).Nodup:=by
          have n:=I1.nd k;rw[t5]at n;refine bF.mpr ⟨(b7.mp n).2,V1.nd,fun a ha b hb z=>?_⟩;subst z;exact V1.dis k a hb (by rw[t5];exact ai _ ha)
         obtain⟨fp',I'⟩:=I1.Fo (xs:=xs) (xs':=xs++[d]) (vs:=us1) (vs':=us1++[v]) (fs:=fs1) (fs':=fs1++f) V1 s1 t5 (by rw[ay,t4.len];simp;omega)
          (fun h1 h2=>a7.app (a7.mono (aY.refl _) _ _ _ h1 t4) (a7.one (bK.mono (aY.refl _) _ _ _ h2 V1.r))) nd1 (fun b hb=>aZ.mp hb)
         exact h O F1 _ fp' I'
       ·exact h.elim
      ·exact h.elim
   |extend=>
    cases as with
    |nil=>exact h.elim
    |cons a r=>
     cases r with
     |cons _ _=>exact h.elim
     |nil=>
      obtain⟨la,_⟩:=band' (show(cG a&&jb .nil)=true from lt2);rcases BU (show cC K F0 H0 ((pE Zb a L).nY (mZ L[k]?) fun d=>BR k (b5 a) d L) X from h)with⟨hb,x,e1,hx⟩|⟨d,e1,h⟩
      ·unfold mZ at hb;split at hb
       ·rename_i xs q;obtain⟨a0,us,fs,s1,s2,s3,s4,s5⟩:=I.lst q;refine slot_of s1 ⟨?_,?_⟩
        ·show jo H a0;unfold jo;rw[s2];trivial
        ·simp only[wEs];exact uR Zc I la e1 hx
       ·cases hb
      unfold BR at h;split at h
      ·rename_i ys;split at h
       ·rename_i xs q;split at h
        ·rename_i c;obtain⟨c1,c2⟩:=band' c;have c1:=of_decide_eq_true c1;obtain⟨a0,us,fs,s1,s2,s3,s4,s5⟩:=I.lst q;refine slot_of s1 ⟨?_,?_⟩
         ·show jo H a0;unfold jo;rw[s2];trivial
         ·simp only[wEs];refine zQ Zc I la e1 fun v F1 H1 fp1 f I1 V1=>?_;obtain⟨a1,us1,fs1,t1,t2,t3,t4,t5⟩:=I1.lst (k:=k) (xs:=xs) (by rw[BV c2];exact q);rw[s1]at t1;cases t1;have rv:=V1.r;unfold bK at rv;rw[if_pos rfl]at rv;obtain⟨b,ws,f2,rfl,k2,k3,k4,rfl⟩:=rv;show(match H1 a0 with|some (.lst xs)=>∃zs,H1 b=some (.lst zs)/\xs.length+zs.length<=aa/\X.nx O (upd H1 a0 (.lst (xs++zs)))|_=>False);rw[t2];refine⟨ws,k2,by rw[t4.len,k4.len];exact c1,?_⟩;have nd2:=b7.mp V1.nd;have nd1:(fs1++f2).Nodup:=by
           have n:=I1.nd k;rw[t5]at n;refine bF.mpr ⟨(b7.mp n).2,nd2.2,fun a ha b hb z=>?_⟩;subst z;exact V1.dis k a (ai _ hb) (by rw[t5];exact ai _ ha)
          obtain⟨fp',I'⟩:=I1.Fo (xs:=xs) (xs':=xs++ys) (vs:=us1) (vs':=us1++ws) (fs:=fs1) (fs':=fs1++f2) V1 s1 t5 (by rw[ay,t4.len,k4.len];exact c1)
           (fun h1 h2=>a7.app (a7.mono (aY.refl _) _ _ _ h1 t4) (a7.mono (aY.refl _) _ _ _ (fun b hb=>h2 b (ai _ hb)) k4)) nd1 (fun b hb=>by
            rcases aZ.mp hb with z|z
            ·exact .inl z
            ·exact .inr (ai _ z))
          exact h O F1 _ fp' I'
        ·exact h.elim
       ·exact h.elim
      ·exact h.elim
   |_=>exact gen h
  |ix o i=>
   obtain⟨_,lt2⟩:=band' (show(cG (.ix o i)&&jb as)=true from lt);cases m with
   |append=>
    cases as with
    |nil=>exact h.elim
    |cons a r=>
     cases r with
     |cons _ _=>exact h.elim
     |nil=>
      obtain⟨la,_⟩:=band' (show(cG a&&jb .nil)=true from lt2);exact W1 Zc I la h
   |_=>exact gen h
  |_=>exact gen h
 |_=>exact gen h
theorem Vw[Ex](Zc:cu K Zb Y){g:CG}(I:bf K F0 H0 L O F H fp)(lg:Vs g=true)(lt:cG e=true)(h:cC K F0 H0 (pA Zb g e L) X):wE K Y Ex.E e O H fun x H1=>wG K Y Ex.E g x O H1 X.nx:=by
 cases g with
 |name i=>
  rcases jV (show cC K F0 H0 ((pE Zb e L).aR fun d=>.nx ((gJ (b5 e) (aT d) L).set i (some d))) X from h)with⟨x,e1,hx⟩|⟨d,e1,h⟩
  ·exact uR Zc I lt e1 hx
  exact zQ Zc I lt e1 fun v F1 H1 fp1 f I1 V1=>h _ F1 H1 _ (I1.set V1 i)
 |tup gs=>
  rcases jV (show cC K F0 H0 ((pE Zb e L).aR fun d=>(pG (.tup gs) d (gJ (b5 e) (aT d) L)).aR .nx) X from h)with⟨x,e1,hx⟩|⟨d,e1,h⟩
  ·exact uR Zc I lt e1 hx
  obtain⟨Zg,e2,h⟩:=Fj h (Fk _ _ _);refine zQ Zc I lt e1 fun v F1 H1 fp1 f I1 V1=>?_;exact Vv (.tup gs) I1 V1 e2 fun Zd fp' I' _=>h Zd _ H1 fp' I'
 |sub o i=>
  obtain⟨_,li⟩:=band' (show(cG o&&cG i)=true from lg);cases o with
  |var k=>
   rcases jV (show cC K F0 H0 ((pE Zb e L).aR fun d=>(pE Zb i (gJ (b5 e) (aT d) L)).nY false fun j=>match L[k]? with
    |some (some x)=>if(aT d||!(b5 e).contains k)=true then(R.opt (putIn x d j)).aR fun x'=>.nx ((gJ (b5 e) (aT d) L).set k (some x'))else .bad
    |_=>.bad) X from h)with⟨x,e1,hx⟩|⟨d,e1,h⟩
   ·exact uR Zc I lt e1 hx
   obtain⟨j,e2,h⟩:=H_ h;cases q:L[k]? with
   |none=>simp only[q]at h;exact h.elim
   |some o=>
    cases o with
    |none=>simp only[q]at h;exact h.elim
    |some x=>
     simp only[q]at h;by_cases c:(aT d||!(b5 e).contains k)=true
     ·rw[if_pos c]at h;obtain⟨x',e3,h⟩:=Fj h a9.opt;have e3:=mY e3;refine zQ Zc I lt e1 fun v F1 H1 fp1 f I1 V1=>?_;show kR O k fun x=>wE K Y Ex.E i O H1 fun y H2=>match x with
       |.ref a=>match H2 a with
        |some (.lst xs)=>∃k j,y=.int k/\gH xs.length k=some j/\X.nx O (upd H2 a (.lst (xs.set j v)))
        |some (.dK kvs)=>∃k,y=kV k/\kvs.length<aa/\X.nx O (upd H2 a (.dK (putK kvs k v)))
        |some (.dT kvs)=>∃k b,y=.ref b/\H2 b=some (.tup (k.map kV))/\kvs.length<aa/\X.nx O (upd H2 a (.dT (putK kvs k v)))
        |_=>False
       |_=>False
      have nd1:∀{F2 H2:Hp}{a0:Addr}{fs1:List Addr},bf K F0 H0 (gJ (b5 e) (aT d) L) O F2 H2 fp1->jA K H0 F2 H2 fp1 d v f->fp1 k=a0::fs1->(fs1++f).Nodup:=fun I2 V2 t5=>by
       have n:=I2.nd k;rw[t5]at n;refine bF.mpr ⟨(b7.mp n).2,V2.nd,fun a ha b hb z=>?_⟩;subst z;exact V2.dis k a hb (by rw[t5];exact ai _ ha)
      have q1:(gJ (b5 e) (aT d) L)[k]?=some (some x):=by rw[BV c];exact q
      cases x with
      |lst o xs=>
       cases o with
       |false=>cases e3
       |true=>
        cases j with
        |int j=>
         have e3:(gH xs.length j).map (fun n=>D.lst true (xs.set n d))=some x':=e3;cases en:gH xs.length j with
         |none=>rw[en]at e3;cases e3
         |some n=>
          rw[en]at e3;cases e3;obtain⟨a0,us,fs,s1,s2,s3,s4,s5⟩:=I1.lst q1;refine slot_of s1 (Ys Zc I1 V1 li e2 fun w F2 H2 I2 V2 rj=>?_);have rj:w=.int j:=rj rfl rfl;subst rj;obtain⟨a1,us1,fs1,t1,t2,t3,t4,t5⟩:=I2.lst q1;rw[s1]at t1;cases t1;simp only[t2];refine⟨j,n,rfl,by rw[t4.len];exact en,?_⟩;obtain⟨fs',q1,q2,q3⟩:=a7.set n t4 V2.r (nd1 I2 V2 t5);obtain⟨fp',I'⟩:=I2.Fo (xs:=xs) (xs':=xs.set n d) (vs:=us1) (vs':=us1.set n v) (fs:=fs1) (fs':=fs') V2 s1 t5 (by rw[Bb];exact t3)
           (fun h1 h2=>a7.mono (aY.refl _) _ _ _ (fun b hb=>by
            rcases q3 b hb with z|z
            ·exact h1 b z
            ·exact h2 b z) q1) q2 q3
          exact h O F2 _ fp' I'
        |_=>cases e3
      |_=>cases e3
     ·rw[if_neg c]at h;exact h.elim
  |_=>exact h.elim
theorem jd(f:α->D)(h:∀a,bq (f a)=f a):∀l:List α,aC (l.map f)=l.map f
|[]=>rfl
|a::r=>by show bq (f a)::aC (r.map f)=_;rw[h a,jd f h r];rfl
theorem Fp:∀(ds es:List D),aC ds=ds->aC es=es->aC (s9 ds es)=s9 ds es
|[],es,_,_=>by cases es<;>rfl
|d::r,[],_,_=>rfl
|d::r,e::t,h,h'=>by
 have h:bq d::aC r=d::r:=h;have h':bq e::aC t=e::t:=h';injection h with h1 h2;injection h' with h3 h4;show D.tup [bq d,bq e]::aC (s9 r t)=_;rw[h1,h3,Fp r t h2 h4];rfl
theorem C9:∀(ds:List D) (n:Nat),aC ds=ds->aC (iO n ds)=iO n ds
|[],_,_=>rfl
|d::r,n,h=>by
 have h':bq d::aC r=d::r:=h;injection h' with h1 h2;show D.tup [.int (n:Int),bq d]::aC (iO (n+1) r)=_;rw[h1,C9 r (n+1) h2];rfl
theorem Vx{items:Bool×List D}(h:pI Zb src L=.ok items):aC items.2=items.2:=by
 cases src with
 |seq a=>
  obtain⟨x,e1,e2⟩:=bW h;obtain⟨ds,e3,e4⟩:=bW e2;cases e4;cases x with
  |str z=>cases e3;exact jd _ (fun _=>rfl) _
  |lst o xs=>cases e3;exact f7 xs
  |tup xs=>cases e3;exact f7 xs
  |_=>cases e3
 |range as=>
  obtain⟨x,e1,e2⟩:=bW h;obtain⟨ds,e3,e4⟩:=bW e2;cases e4;unfold qO at e3;split at e3
  ·obtain⟨_,e5⟩:=gZ e3;cases e5;exact jd _ (fun _=>rfl) _
  ·obtain⟨_,e5⟩:=gZ e3;cases e5;exact jd _ (fun _=>rfl) _
  ·cases e3
 |zip as=>
  obtain⟨xs,e1,e2⟩:=bW h;unfold uO at e2;split at e2
  ·cases e2;exact Fp _ _ (f7 _) (f7 _)
  ·cases e2
 |enum a=>
  obtain⟨x,e1,e2⟩:=bW h;cases x with
  |lst o xs=>cases e2;exact C9 _ 0 (f7 xs)
  |_=>cases e2
theorem Jz[Ex]{g:CG}{b:bV}{B:Hp}{ok:Hp->Prop}(hok:∀H'',aY B H''->ok H'')
 (hb:∀{L:a_}{O:L2.St}{F H:Hp}{fp:Nat->List Addr}{X:Ends},bf K B H0 L O F H fp->cC K B H0 (cQ Zb n b L) X->wSs K Y Ex.E b X O H) :
 ∀(ds:List D) (its:List Item) {L:a_}{O:L2.St}{F H:Hp}{fp:Nat->List Addr},bf K B H0 L O F H fp->kB K B ds its->cC K B H0 (forR (pG g) (cQ Zb n b) (aC ds) L) X->forL ok (wG K Y Ex.E g) (wSs K Y Ex.E b) X its O H
|[],its,L,O,F,H,fp,I,hi,h=>by
 cases hi;exact⟨hok H (I.g.f.trans I.g.s),h O F H fp I⟩
|d::ds,its,L,O,F,H,fp,I,hi,h=>by
 obtain⟨it,r,rfl,i1,i2⟩:=hi;have hit:Vk K F d it:=by
  cases it with
  |v x=>exact aV.mono I.g.f d x i1
  |tup xs=>obtain⟨es,q1,q2,q3⟩:=i1;exact⟨es,q1,aD.mono I.g.f es xs q2,q3⟩
 refine⟨hok H (I.g.f.trans I.g.s),C6 I.g.s hit fun F1 H1 v g1 r1=>?_⟩;obtain⟨Zg,e1,h⟩:=Fj (show cC K B H0 ((pG g (bq d) L).aR fun Zg=>match cQ Zb n b Zg with
  |.nx Zh=>forR (pG g) (cQ Zb n b) (aC ds) Zh
  |.ct Zh=>forR (pG g) (cQ Zb n b) (aC ds) Zh
  |.bk Zh=>.nx Zh
  |.rt d=>.rt d
  |.ex x=>.ex x
  |.bad=>.bad) X from h) (Fk _ _ _)
 refine ruG' g (I.grow g1) r1 e1 fun Zd fp' I'=>?_;refine hb I' ?_;cases q:cQ Zb n b Zg with
 |nx Zh=>simp only[q]at h;exact fun O F H fp I3=>Jz hok hb ds r I3 i2 h
 |ct Zh=>simp only[q]at h;exact fun O F H fp I3=>Jz hok hb ds r I3 i2 h
 |bk Zh=>simp only[q]at h;exact h
 |rt d=>simp only[q]at h;exact h
 |ex x=>simp only[q]at h;exact h
 |bad=>simp only[q]at h;exact h.elim
end
theorem Ic:∀(fs:List (Str×Nat)) (acc:List (Str×V)),(acc.map (·.1)++fs.map (·.1)).Nodup->k_ fs vs acc=acc++fs.map fun p=>(p.1,vs.getD p.2 .non)
|[],acc,_=>by simp[k_]
|(f,j)::r,acc,h=>by
 have hp:∀(acc:List (Str×V)) (v:V),f∉acc.map (·.1)->gQ f v acc=acc++[(f,v)]:=by
  intro acc v;induction acc with
  |nil=>intro _;rfl
  |cons p acc ih=>
   obtain⟨g,x⟩:=p;intro hn;simp only[dG,aJ,not_or]at hn;show(if g=f then(g,v)::acc else(g,x)::gQ f v acc)=_;rw[if_neg (fun z=>hn.1 z.symm),ih hn.2];rfl
 have hf:f∉acc.map (·.1):=fun z=>by
  have:=(bF.mp h).2.2 f z f (by simp);exact this rfl
 show k_ r vs (gQ f (vs.getD j .non) acc)=_;rw[hp acc _ hf,Ic r (acc++[(f,vs.getD j .non)]) (by simpa[br]using h)];simp[br]
theorem aD.getD:∀{ds:List D}{vs:List V} (j:Nat),aD K F ds vs->aV K F (bq (ds.getD j .non)) (vs.getD j .non)
|[],_,j,h=>by cases h;rfl
|d::ds,_,0,h=>by
 obtain⟨v,r,rfl,h2,_⟩:=h;exact(aV.bq d v).mpr h2
|d::ds,_,j+1,h=>by
 obtain⟨v,r,rfl,_,h3⟩:=h;exact aD.getD j h3
theorem Fq(h:aD K F ds vs):∀fs:List (Str×Nat),aD K F (fs.map fun p=>bq (ds.getD p.2 .non)) (fs.map fun p=>vs.getD p.2 .non)
|[]=>rfl
|p::fs=>⟨_,_,rfl,aD.getD p.2 h,Fq h fs⟩
mutual
theorem aV.AK(e:zL F' F):∀(d:D) (v:V),Jy d=true->aV K F' d v->aV K F d v
|.non,v,_,h=>h
|.bl b,v,_,h=>h
|.int i,v,_,h=>h
|.str x,v,_,h=>h
|.lst _ _,v,s,h=>by cases s
|.exc _ _ _,v,s,h=>by cases s
|.tup ds,v,s,h=>by
 obtain⟨a,vs,h1,h2,h3,h4⟩:=h;exact⟨a,vs,h1,e.tup h2,h3,aD.AK e ds vs s h4⟩
theorem aD.AK(e:zL F' F):∀(ds:List D) (vs:List V),oR ds=true->aD K F' ds vs->aD K F ds vs
|[],vs,_,h=>h
|d::ds,vs,s,h=>by
 obtain⟨s1,s2⟩:=band' (show(Jy d&&oR ds)=true from s);obtain⟨v,r,h1,h2,h3⟩:=h;exact⟨v,r,h1,aV.AK e d v s1 h2,aD.AK e ds r s2 h3⟩
end
variable{F0 H0:Hp}
theorem bf.drop{O:L2.St}{fp:Nat->List Addr}{i:Nat}{w:Option V}(I:bf K F0 H0 L O F H fp):bf K F0 H0 (L.set i none) (O.set i w) F H fp where
 g:=I.g
 len:=by simp[I.len]
 rep:=fun j d e=>by
  by_cases hij:i=j
  ·subst hij;rw[d_]at e;split at e
   ·split at e<;>cases e
   ·rename_i z;exact absurd rfl z
  ·rw[b6 hij]at e ⊢;exact I.rep j d e
 ex:=I.ex
 nd:=I.nd
 nf:=I.nf
 nh:=I.nh
 dis:=I.dis
variable{Zb:List PG}{X:Ends}{s:CS}
theorem W2[Ex]{Y:List G}{O:L2.St}{fp:Nat->List Addr}(Zc:cu K Zb Y){t:CS}(I:bf K F0 H0 L O F H fp)(lt:C7 t=true)(h:cC K F0 H0 (uQ Zb s t L) X):wS K Y Ex.E s { X with nx:=wS K Y Ex.E t X } O H:=by
 unfold uQ at h;split at h
 ·rename_i j o i a;split at h
  ·rename_i hij;subst hij;split at h
   ·rename_i p ep;unfold BS at h;split at h
    ·rename_i x ex;split at h
     ·rename_i ys eg;split at h
      ·rename_i hl;have hi:i<O.length:=by rw[<-I.len];exact hl
       obtain⟨v,hv,rx⟩:=I.rep _ _ ex;obtain⟨c,ws,f2,c1,c2,c4,c6,c7,c5⟩:=uS p.2 I.g.s rx eg (I.nd _);obtain⟨_,lt2⟩:=band' (show(cG (.var i)&&jb (.cons a .nil))=true from lt);obtain⟨la,_⟩:=band' (show(cG a&&jb .nil)=true from lt2);show wE K Y Ex.E o O H fun v H1=>wE K Y Ex.E (.mth .append (.var i) (.cons a .nil)) (O.set i (some v)) H1 fun _ H2=>X.nx (O.set i (some v)) H2;refine Oo I o (show tu L o=some (p.1,p.2)from ep) hv c4 ?_;refine slot_of (dY hi) ⟨?_,?_⟩
       ·show jo H c;unfold jo;rw[c2];trivial
       ·simp only[wEs];have env:iA K (adopt F H (ownAt fp (p.1::b5 a))) H (b5 a) (L.set i (some (.lst true ys))) (O.set i (some (.ref c))):=⟨fun b hb d e=>by
         by_cases hbi:b=i
         ·subst hbi;rw[dY hl]at e;cases e;exact⟨.ref c,dY hi,bK.fix (cS I.g.s) _ _ f2 (fun a ha=>jc (d7.mpr ⟨p.1,aq,c7 a ha⟩)) c6⟩
         ·rw[b6 (cK hbi)]at e ⊢;exact(I.env (p.1::b5 a)).e b (ai _ hb) d e,fun b d e=>by
         by_cases hbi:b=i
         ·subst hbi;rw[dY hl]at e;cases e;exact⟨.ref c,adopt F H (ownAt fp (p.1::b5 a)),dY hi,dN I.g.s,bK.fix (cS I.g.s) _ _ f2 (fun a ha=>jc (d7.mpr ⟨p.1,aq,c7 a ha⟩)) c6⟩
         ·rw[b6 (cK hbi)]at e ⊢;exact(I.env []).n b d e⟩
        refine eK Zc a env (dN I.g.s) la ?_;rcases jV h with⟨x0,e1,hx⟩|⟨d,e1,h⟩
        ·rw[e1];exact iz.grow (K:=K) (x:=x0) hx (I.own (p.1::b5 a))
        ·rw[e1];intro F' H' u f g fr r;split at h
         ·rename_i ho;cases e3:eL p.2 x d with
          |none=>rw[e3]at h;exact h.elim
          |some x'=>
           rw[e3]at h;have h:cC K F0 H0 (.nx ((L.set p.1 (some x')).set i none)) X:=h;obtain⟨c3,c5⟩:=c5 e3;have I1:=I.back g;have V1:jA K H0 (minus F' (ownAt fp (p.1::b5 a))) H' fp d u f:=⟨bK.less (jN g.s ((I.lists _).mono g.h)) d u f ho r,fr.nd,fun a ha=>aY.none (jJ _ _) (fr.nf a ha),fun a ha=>aY.none I.g.h (fr.nh a ha),fun i a ha hb=>by
            obtain⟨o,e,_⟩:=I.ex i a hb;rw[fr.nh a ha]at e;cases e⟩
           have sF:aY F (minus F' (ownAt fp (p.1::b5 a))):=fun b o q=>by
            have hb:b∉ownAt fp (p.1::b5 a):=fun z=>by
             obtain⟨i,_,hb⟩:=d7.mp z;rw[I.nf i b hb]at q;cases q
            rw[eO hb];exact g.f b o (cS I.g.s b o q)
           show(match H' c with|some (.lst xs)=>xs.length<aa/\X.nx (O.set i (some (.ref c))) (upd H' c (.lst (xs++[u])))|_=>False);rw[g.h _ _ c2];refine⟨c3,?_⟩;have hcf:c∉f:=fun z=>V1.dis p.1 c z c1;obtain⟨fs',g1,g2,g3⟩:=c5 (H':=upd H' c (.lst (ws++[u]))) sF (bK.mono (aY.refl _) _ _ _ (fun b hb=>aS fun z=>hcf (by rw[<-z];exact hb)) V1.r) V1.nd (fun b hb=>V1.dis p.1 b hb) (fun b hb hc=>by
            rw[aS hc];obtain⟨o,eo,_⟩:=I.ex p.1 b hb;rw[eo,g.h b o eo]) bO
           refine h _ _ _ _ (I1.put c1 hv g1 g2 (fun b hb=>?_) (fun b hb=>?_) fun i hi b hb z=>?_).drop
           ·rcases g3 b hb with q|q
            ·exact I1.nf p.1 b q
            ·exact V1.nf b q
           ·rcases g3 b hb with q|q
            ·exact I1.nh p.1 b q
            ·exact V1.nh b q
           ·rcases g3 b hb with q|q
            ·exact hi (I1.dis i p.1 b z q)
            ·exact V1.dis i b q z
         ·exact h.elim
      ·exact h.elim
     ·exact h.elim
    ·exact h.elim
   ·exact h.elim
  ·exact h.elim
 ·exact h.elim
theorem okB'{Y:List G}(Zc:cu K Zb Y){E':XK}{nx:Hp->Prop}{O:L2.St}{fp:Nat->List Addr}:∀(b:CB) {F H:Hp},bf K F0 H0 L O F H fp->ltB b=true->
 (∀d,pB Zb b L=.ok d->∀F1 H1,bf K F0 H0 L O F1 H1 fp->nx H1)->
 (∀x,pB Zb b L=.ex x->∃C ks xs,x=.exc C ks xs/\oR xs=true/\∀F1 H1 d vs,bf K F0 H0 L O F1 H1 fp->F1 d=some (gq d (ks.zip vs))->aD K F1 xs vs->E' (.ref C) (some d) H1)->
 (pB Zb b L=.bad->False)->wB K Y b E' O H nx
|.call g as,F,H,I,lt,h1,h2,h3=>by
 unfold wB;have ep:pB Zb (.call g as) L=(match Zb[g]? with|some (.fn m dds)=>(dJ Zb as L).eN.bind fun ds=>m (aC ds++dds)|_=>.bad):=rfl;rw[ep]at h1 h2 h3;cases q:Zb[g]? with
 |none=>rw[q]at h3;exact(h3 rfl).elim
 |some p=>
  obtain⟨g',e1,e2⟩:=Zc.get g q;rw[q]at h1 h2 h3;rw[e1];cases p<;>first|exact(h3 rfl).elim|skip
  cases g'<;>first|exact e2.elim|skip
  rename_i m dds sp dvs;dsimp only at h1 h2 h3 ⊢;refine@lZ K Zb Y Zc ⟨E0⟩ as L O (adopt F H (ownAt fp (jM as))) H _ (I.env (jM as)) (dN I.g.s) lt ?_;cases e3:dJ Zb as L with
  |ex x=>rw[e3]at h3;exact(h3 rfl).elim
  |bad=>rw[e3]at h3;exact(h3 rfl).elim
  |ok ds=>
   rw[e3]at h1 h2 h3;intro F1 H1 vs f g1 fr r;obtain⟨F2,g2,_,rf⟩:=yf g1 fr r;refine e2.1 _ _ _ _ ⟨F2,aC ds++dds,g2.s,by rw[nZ,f7,e2.2.1],aD.app ((aD.aC ds vs).mpr rf) (aD.mono (rQ F2) dds dvs e2.2.2),?_⟩;have h1:∀d,m (aC ds++dds)=.ok d->∀F1 H1,bf K F0 H0 L O F1 H1 fp->nx H1:=h1;have h2:∀x,m (aC ds++dds)=.ex x->_:=h2;have h3:m (aC ds++dds)=.bad->False:=h3;cases em:m (aC ds++dds)with
   |bad=>exact(h3 em).elim
   |ok d=>exact fun F3 H3 v f3 g3 _ _=>h1 d em _ H3 (I.back (g2.trans g3))
   |ex x=>
    obtain⟨C,ks,xs,rfl,hf,hx⟩:=h2 x em;intro F3 H3 d vs3 g3 hd hr;have gg:=g2.trans g3;refine hx _ H3 d vs3 (I.back gg) ?_ (aD.AK (jN gg.s ((I.lists _).mono gg.h)) xs vs3 hf hr);rw[eO,hd];intro z;obtain⟨o,e,k⟩:=I.lists _ d z;have e':=gg.h _ _ e;rw[gg.s _ _ hd]at e';cases e';rcases k with⟨_,k⟩|⟨_,k⟩<;>cases k
|.ite c a b,F,H,I,lt,h1,h2,h3=>by
 obtain⟨l1,l2⟩:=band' (show(cG c&&(ltB a&&ltB b))=true from lt);obtain⟨l2,l3⟩:=band' l2;unfold wB;have ep:pB Zb (.ite c a b) L=(pT Zb c L).eN.bind fun k=>if k=true then pB Zb a L else pB Zb b L:=rfl
 rw[ep]at h1 h2 h3;cases e3:pT Zb c L with
 |ex x=>rw[e3]at h3;exact(h3 rfl).elim
 |bad=>rw[e3]at h3;exact(h3 rfl).elim
 |ok k=>
  rw[e3]at h1 h2 h3
  letI:Ex:=⟨E0⟩
  refine L3.Ol Zc I l1 e3 fun F1 H1 I1=>?_;cases k with
  |true=>exact okB' Zc a I1 l2 h1 h2 h3
  |false=>exact okB' Zc b I1 l3 h1 h2 h3
theorem Vy[Ex]{Y:List G}(Zc:cu K Zb Y){O:L2.St}{fp:Nat->List Addr}(I:bf K F0 H0 L O F H fp)(lt:jb as=true)(h:cC K F0 H0 (pS Zb n (.rais g as) L) X):wS K Y Ex.E (.rais g as) X O H:=by
 have h:cC K F0 H0 (match Zb[g]? with
  |some (.cls C fs k)=>(dJ Zb as L).aR fun ds=>if(decide (ds.length+1=k)&&decide (fs.map (·.1)).Nodup)=true then .ex (AI C fs ds)else .bad
  |_=>.bad) X:=h
 show(match Y[g]? with
  |some (.cls C fs n)=>v5 C fs n (wEs K Y Ex.E as) Ex.E X O H
  |_=>False)
 cases q:Zb[g]? with
 |none=>rw[q]at h;exact h.elim
 |some p=>
  obtain⟨g',e1,e2⟩:=Zc.get g q;rw[q]at h;rw[e1];cases p<;>first|exact h.elim|skip
  cases g'<;>first|exact e2.elim|skip
  rename_i C fs k _ _ _;obtain⟨rfl,rfl,rfl⟩:=e2;dsimp only at h ⊢;unfold v5;rcases jV h with⟨x,e3,hx⟩|⟨ds,e3,h⟩
  ·exact WZ Zc I lt e3 hx
  split at h
  ·rename_i c;obtain⟨c1,c2⟩:=band' c;refine lZ Zc as (I.env (jM as)) (dN I.g.s) lt ?_;rw[e3];intro F1 H1 vs fp1 g1 fr r;obtain⟨F2,g2,_,rf⟩:=yf g1 fr r;refine⟨by rw[rf.len];exact of_decide_eq_true c1,fun d hd=>?_⟩;have h:iz K F0 H0 (AI C fs ds):=h;have g3:=tY (o:=gq d (k_ fs (.non::vs) [])) g2.s hd;have eq:k_ fs (.non::vs) []=(fs.map (·.1)).zip (fs.map fun p=>(V.non::vs).getD p.2 .non):=by
    rw[Ic fs [] (by simpa using of_decide_eq_true c2),sG,List.zip_map']
   refine h (upd F2 d (gq d (k_ fs (.non::vs) []))) _ d (fs.map fun p=>(V.non::vs).getD p.2 .non) (((I.own _).trans g2).trans g3) (by rw[bO,eq]) ?_;have hn:aD K (upd F2 d (gq d (k_ fs (.non::vs) []))) (D.non::ds) (V.non::vs):=⟨_,_,rfl,rfl,aD.mono g3.f ds vs rf⟩;exact Fq hn fs
  ·exact h.elim
theorem W3[Ex]{Y:List G}(Zc:cu K Zb Y){i:Nat}{O:L2.St}{fp:Nat->List Addr}(I:bf K F0 H0 L O F H fp)(lt:cG e=true)(h:cC K F0 H0 (pS Zb n (.aug i e) L) X):wS K Y Ex.E (.aug i e) X O H:=by
 have h:cC K F0 H0 (match L[i]? with
  |some (some (.int a))=>(pE Zb e L).aR fun d=>Ep i a L d
  |_=>.bad) X:=h
 show ∃x,O[i]?=some (some x)/\wE K Y Ex.E e O H fun y H1=>∃i' j,x=.int i'/\y=.int j/\X.nx (O.set i (some (.int (i'+j)))) H1;split at h
 ·rename_i a q;obtain⟨v,h1,h2⟩:=(I.env [i]).e i (aU.mpr rfl) (.int a) q;obtain rfl:v=.int a:=h2;refine⟨.int a,h1,?_⟩;rcases jV h with⟨x,e1,hx⟩|⟨d,e1,h⟩
  ·exact uR Zc I lt e1 hx
  unfold Ep at h;split at h
  ·rename_i b;refine runD' Zc I lt e1 fun w F1 H1 I1 _ V1=>?_;obtain⟨f0,V1⟩:=V1 rfl;obtain⟨rfl,_⟩:=V1.r;exact⟨a,b,rfl,rfl,h _ F1 H1 _ (I1.set (jA.Vu (d:=.int (a+b)) (show aV K F1 (.int (a+b)) (.int (a+b))from rfl)) i)⟩
  ·exact h.elim
 ·exact h.elim
mutual
theorem ruS{K:PySem.W.Frag}{Zb:List PG}{Y:List G}(Zc:cu K Zb Y)[Ex]{n:Nat}:∀(c:CS) {F0 H0 F H:Hp}{L:a_}{O:L2.St}{fp:Nat->List Addr}{X:Ends},bf K F0 H0 L O F H fp->C7 c=true->cC K F0 H0 (pS Zb n c L) X->wS K Y Ex.E c X O H
|.expr e,F0,H0,F,H,L,O,fp,X,I,lt,h=>okX Zc I lt h
|.asg g e,F0,H0,F,H,L,O,fp,X,I,lt,h=>Vw Zc I (band' lt).1 (band' lt).2 h
|.aug i e,F0,H0,F,H,L,O,fp,X,I,lt,h=>W3 Zc I lt h
|.casg i e,F0,H0,F,H,L,O,fp,X,I,lt,h=>by
 rcases jV (show cC K F0 H0 ((pE Zb e L).aR fun d=>.nx ((gJ (b5 e) (aT d) L).set i (some d))) X from h)with⟨x,e1,hx⟩|⟨d,e1,h⟩
 ·exact uR Zc I lt e1 hx
 exact zQ Zc I lt e1 fun v F1 H1 fp1 f I1 V1=>h _ F1 H1 _ (I1.set V1 i)
|.tasg g e,F0,H0,F,H,L,O,fp,X,I,lt,h=>Vw Zc I (band' lt).1 (band' lt).2 h
|.ret e,F0,H0,F,H,L,O,fp,X,I,lt,h=>W0 Zc I lt h
|.ifs c a b,F0,H0,F,H,L,O,fp,X,I,lt,h=>by
 obtain⟨l1,l2⟩:=band' (show(cG c&&(j8 a&&j8 b))=true from lt);obtain⟨l2,l3⟩:=band' l2;rcases jV (show cC K F0 H0 ((pT Zb c L).aR fun k=>if k=true then cQ Zb n a L else cQ Zb n b L) X from h)with⟨x,e1,hx⟩|⟨k,e1,h⟩
 ·exact Rx Zc I l1 e1 hx
 refine Ol Zc I l1 e1 fun F1 H1 I1=>?_;cases k with
 |true=>exact wJ Zc a I1 l2 h
 |false=>exact wJ Zc b I1 l3 h
|.whil c b,F0,H0,F,H,L,O,fp,X,I,lt,h=>by
 obtain⟨l1,l2⟩:=band' (show(cG c&&j8 b)=true from lt);refine⟨fun m O H=>∃L F fp,bf K F0 H0 L O F H fp/\cC K F0 H0 (s_ (pT Zb c) (cQ Zb n b) m L) X,⟨n,L,F,fp,I,h⟩,?_⟩;rintro m O H ⟨L,F,fp,I,h⟩;cases m with
 |zero=>exact h.elim
 |succ m=>
  rcases jV (show cC K F0 H0 ((pT Zb c L).aR fun k=>if k=true then match cQ Zb n b L with
   |.nx Zh=>s_ (pT Zb c) (cQ Zb n b) m Zh
   |.ct Zh=>s_ (pT Zb c) (cQ Zb n b) m Zh
   |.bk Zh=>.nx Zh
   |.rt d=>.rt d
   |.ex x=>.ex x
   |.bad=>.bad
   else .nx L) X from h)with⟨x,e1,hx⟩|⟨k,e1,h⟩
  ·exact Rx Zc I l1 e1 hx
  refine Ol Zc I l1 e1 fun F1 H1 I1=>?_;cases k with
  |false=>
   rw[if_neg aE]at h;rw[if_neg aE];exact h O F1 H1 fp I1
  |true=>
   rw[if_pos rfl]at h;rw[if_pos rfl];refine⟨fun O H=>∃L F fp,bf K F0 H0 L O F H fp/\cC K F0 H0 (s_ (pT Zb c) (cQ Zb n b) m L) X,fun Zd H' z=>⟨m,iJ m,z⟩,?_⟩;refine wJ (n:=n) Zc b I1 l2 ?_;cases q:cQ Zb n b L with
   |nx Zh=>simp only[q]at h;exact fun O F H fp I3=>⟨Zh,F,fp,I3,h⟩
   |ct Zh=>simp only[q]at h;exact fun O F H fp I3=>⟨Zh,F,fp,I3,h⟩
   |bk Zh=>simp only[q]at h;exact h
   |rt d=>simp only[q]at h;exact h
   |ex x=>simp only[q]at h;exact h
   |bad=>simp only[q]at h;exact h.elim
|.forr g src b,F0,H0,F,H,L,O,fp,X,I,lt,h=>by
 obtain⟨l1,l2⟩:=band' (show(ltI src&&j8 b)=true from lt);rcases jV (show cC K F0 H0 ((pI Zb src L).aR fun items=>forR (pG g) (cQ Zb n b) items.2 (gJ (tX src) items.1 L)) X from h)with⟨x,e1,hx⟩|⟨items,e1,h⟩
 ·exact WY Zc I l1 e1 hx
 refine Vr Zc src (ownAt fp (tX src)) (I.env (tX src)) (dN I.g.s) (I.lists _) l1 ?_;rw[e1];intro F' H' ok its g1 hok hi hl;obtain⟨fp',I'⟩:∃fp',bf K F0 H0 (gJ (tX src) items.1 L) O (p8 items.1 F' (ownAt fp (tX src))) H' fp':=by
  cases items.1 with
  |true=>exact⟨fp,I.back g1⟩
  |false=>exact⟨_,I.Vt g1⟩
 have hf:aC items.2=items.2:=Vx e1;have h:=cC.rebase I'.g h;rw[<-hf]at h;exact Jz hok (fun I3 h3=>wJ Zc b I3 l2 h3) items.2 its I'.rebase hi h
|.brk,F0,H0,F,H,L,O,fp,X,I,lt,h=>h O F H fp I
|.cont,F0,H0,F,H,L,O,fp,X,I,lt,h=>h O F H fp I
|.never,F0,H0,F,H,L,O,fp,X,I,lt,h=>h.elim
|.rais g as,F0,H0,F,H,L,O,fp,X,I,lt,h=>Vy Zc I lt h
|.tri i g b hd,F0,H0,F,H,L,O,fp,X,I,lt,h=>by
 obtain⟨l1,l2⟩:=band' (show(ltB b&&j8 hd)=true from lt);have h:cC K F0 H0 (match Zb[g]? with
  |some (.exb Cs)=>match pB Zb b L with
   |.ok _=>.nx L
   |.ex (.exc C ks xs)=>if(decide (C∈Cs)&&oR xs)=true then Fe i (cQ (Zb.map PG.hand) n hd (L.set i (some (.exc C ks xs))))else .bad
   |_=>.bad
  |_=>.bad) X:=h
 show(match Y[g]? with
  |some (.exb B _)=>EJ K i B (wB K Y b) (wSs K (Y.map G.hand) E0 hd) X O H
  |_=>False)
 cases q:Zb[g]? with
 |none=>rw[q]at h;exact h.elim
 |some p=>
  obtain⟨g',e1,e2⟩:=Zc.get g q;rw[q]at h;rw[e1];cases p<;>first|exact h.elim|skip
  cases g'<;>first|exact e2.elim|skip
  rename_i Cs B _;obtain⟨rfl,hmro⟩:=e2;dsimp only at h ⊢;unfold EJ;refine okB' Zc b I l1 (fun d e F1 H1 I1=>?_) (fun x e=>?_) (fun e=>?_)
  ·rw[e]at h;exact h O F1 H1 fp I1
  ·rw[e]at h;cases x<;>first|exact h.elim|skip
   rename_i C ks xs;dsimp only at h;split at h
   ·rename_i c;obtain⟨c1,c2⟩:=band' c;refine⟨C,ks,xs,rfl,c2,fun F1 H1 d vs I1 hd' hr=>⟨C,rfl,hmro C (of_decide_eq_true c1),fun e he=>?_⟩⟩;have g2:=tY (o:=gz false e C (some d)) I1.g.s he;have I2:=I1.grow g2;have V2:jA K H0 (upd F1 e (gz false e C (some d))) (upd H1 e (gz false e C (some d))) fp (.exc C ks xs) (.ref e) []:=
     ⟨⟨⟨e,d,vs,rfl,bO,g2.f _ _ hd',aD.mono g2.f xs vs hr⟩,rfl⟩,gp,fun _ z=>absurd z aW,fun _ z=>absurd z aW,fun _ _ z=>absurd z aW⟩
    refine@wJ K (Zb.map PG.hand) (Y.map G.hand) Zc.hand ⟨E0⟩ n hd _ _ _ _ _ _ _ _ (I2.set V2 i) l2 ?_;cases q2:cQ (Zb.map PG.hand) n hd (L.set i (some (.exc C ks xs)))with
    |nx Zg=>rw[q2]at h;exact fun O F H fp I3=>h _ F H fp I3.drop
    |rt d=>rw[q2]at h;exact h
    |bk Zg=>rw[q2]at h;exact h.elim
    |ct Zg=>rw[q2]at h;exact h.elim
    |ex x=>rw[q2]at h;exact h.elim
    |bad=>rw[q2]at h;exact h.elim
   ·exact h.elim
  ·rw[e]at h;exact h.elim
theorem wJ{K:PySem.W.Frag}{Zb:List PG}{Y:List G}(Zc:cu K Zb Y)[Ex]{n:Nat}:∀(c:bV) {F0 H0 F H:Hp}{L:a_}{O:L2.St}{fp:Nat->List Addr}{X:Ends},bf K F0 H0 L O F H fp->j8 c=true->cC K F0 H0 (cQ Zb n c L) X->wSs K Y Ex.E c X O H
|.nil,F0,H0,F,H,L,O,fp,X,I,lt,h=>h O F H fp I
|.cons s r,F0,H0,F,H,L,O,fp,X,I,lt,h=>by
 obtain⟨l1,l2⟩:=band' (show(C7 s&&j8 r)=true from lt);have h:cC K F0 H0 (match pS Zb n s L with|.nx Zd=>cQ Zb n r Zd|x=>x) X:=h;refine ruS (n:=n) Zc s I l1 ?_;cases q:pS Zb n s L with
 |nx Zd=>simp only[q]at h;exact fun O F H fp I'=>wJ Zc r I' l2 h
 |bk Zd=>simp only[q]at h;exact h
 |ct Zd=>simp only[q]at h;exact h
 |rt d=>simp only[q]at h;exact h
 |ex x=>simp only[q]at h;exact h
 |bad=>simp only[q]at h;exact h.elim
|.two s t r,F0,H0,F,H,L,O,fp,X,I,lt,h=>by
 obtain⟨l1,l2⟩:=band' (show(C7 s&&(C7 t&&j8 r))=true from lt);obtain⟨l2,l3⟩:=band' l2;have h:cC K F0 H0 (match uQ Zb s t L with|.nx Zd=>cQ Zb n r Zd|x=>x) X:=h;show wS K Y Ex.E s { X with nx:=wS K Y Ex.E t { X with nx:=wSs K Y Ex.E r X } } O H;refine W2 (X:={ X with nx:=wSs K Y Ex.E r X }) Zc I l2 ?_;cases q:uQ Zb s t L with
 |nx Zd=>simp only[q]at h;exact fun O F H fp I'=>wJ Zc r I' l3 h
 |bk Zd=>simp only[q]at h;exact h
 |ct Zd=>simp only[q]at h;exact h
 |rt d=>simp only[q]at h;exact h
 |ex x=>simp only[q]at h;exact h
 |bad=>simp only[q]at h;exact h.elim
end
theorem SE[Ex]{K:PySem.W.Frag}{Zb:List PG}{Y:List G}(Zc:cu K Zb Y){n:Nat}{N:List Str}{c:bV}(lt:j8 c=true){m:List D->R D}{vs:List V}{H:Hp}{Q:VK}(hm:∀ds,m ds≠.bad->ds.length<=N.length/\Ff Zb n N c ds=m ds)
  (h:∃F ds,aY F H/\aC ds=ds/\aD K F ds vs/\PV K F H (m ds) Q):wSs K Y Ex.E c { nx:=fun _ H'=>Q .non H',rt:=Q } (vs.map some++aB (N.length-vs.length) none) H:=by
 obtain⟨F,ds,s,hz,r,h⟩:=h;have hb:m ds≠.bad:=fun z=>by rw[z]at h;exact h
 obtain⟨hl,hr⟩:=hm ds hb;rw[<-hr]at h;have I:bf K F H (t6 N ds) (vs.map some++aB (N.length-vs.length) none) F H (fun _=>[]):=by
  refine⟨bJ.refl s,?_,fun i d' q=>?_,fun _ _ ha=>absurd ha aW,fun _=>gp,fun _ _ ha=>absurd ha aW,fun _ _ ha=>absurd ha aW,fun _ _ _ ha=>absurd ha aW⟩
  ·unfold t6;simp[r.len]
  ·unfold t6 at q;by_cases hi:i<ds.length
   ·rw[eE (by simpa using hi),bL]at q;cases z:ds[i]? with
    |none=>rw[z]at q;cases q
    |some d2=>
     rw[z]at q;cases q;obtain⟨v,e1,e2⟩:=r.get i z;have hf:bq d'=d':=by
      have:∀(l:List D) (i:Nat) (x:D),aC l=l->l[i]?=some x->bq x=x:=by
       intro l;induction l with
       |nil=>intro i x _ h;simp at h
       |cons y l ih=>
        intro i x h1 h2;have h1:bq y::aC l=y::l:=h1;injection h1 with h3 h4;cases i with
        |zero=>simp at h2;subst h2;exact h3
        |succ i=>exact ih i x h4 (by simpa using h2)
      exact this ds i d' hz z
     refine⟨v,?_,?_⟩
     ·rw[eE (by simp[r.len,hi]),bL,e1];rfl
     ·have:=aV.yP (H:=H) d' v e2;rw[hf]at this;exact this
   ·rw[cL (by simpa using hi)]at q;rw[rF]at q;split at q<;>cases q
 refine wJ (n:=n) Zc c I lt ?_;unfold Ff at h;cases q:cQ Zb n c (t6 N ds)with
 |nx O=>rw[q]at h;exact fun O F' H' fp I'=>h F' H' .non [] I'.g .nil ⟨rfl,rfl⟩
 |rt d'=>rw[q]at h;exact fun v F' H' f g fr rx=>h F' H' v f g fr rx
 |ex x=>rw[q]at h;exact h
 |bk O=>rw[q]at h;exact h.elim
 |ct O=>rw[q]at h;exact h.elim
 |bad=>rw[q]at h;exact h.elim
def Ej(K:PySem.W.Frag)(mg:Str->Option Value)(x:Str)(st:Stmt)(ps:List Str):Prop:=
 ∃(f:Addr) (fd:eW),pJ K x x st f fd/\mg x=some (.ref f)/\Binds K fd ps []
variable{P:bg}{w:bH}{mg:Str->Option Value}{base:Heap}{st:Stmt}{ps:List Str}
theorem Ej.has{k:Nat}{x:Str}{sp:Sp}(D:Ej K mg x st ps)
  (hok:∀f fd,pJ K x x st f fd->eV P w K mg base (jH P w) k f fd ps sp):E2 P w K mg base k x (.fn sp []):=by
 obtain⟨f,fd,F,hm,hb⟩:=D;exact⟨f,fd,ps,[],hok f fd F,hm,F.kp,hb,.nil⟩
noncomputable def cX(Zb:List PG)(n:Nat)(N:List Str)(k:Nat)(c:bV)(ds:List D):R D:=if ds.length=k then Ff Zb n N c ds else .bad
variable{qual:Str}{fd:eW}
section
variable{P:bg}{w:bH}{K:PySem.W.Frag}{mg:Str->Option Value}{base:Heap}
theorem W4{x:Str}{f:Addr}{N gl bn:List Str}{k:Nat}{Y:List G}(c:bV)(F:pJ K x qual st f fd)(S:kO N ps (bT st))(hc:mU ⟨N,bT st,gl,bn,(fun _=>true),true⟩ c (fE st)=true)
  (hg:zK P w K mg base k gl Y) (Zc:cu K Zb Y) (lt:j8 c=true) (hb:∀x∈bn,mg x=none) (hN:ps.length<=N.length):eV P w K mg base (jH P w) (k+1) f fd ps (E6 K (cX Zb n N ps.length c)):=by
 have hm:∀ds,cX Zb n N ps.length c ds≠.bad->ds.length=ps.length/\Ff Zb n N c ds=cX Zb n N ps.length c ds:=by
  intro ds h;unfold cX at h ⊢;by_cases e:ds.length=ps.length
  ·rw[if_pos e];exact⟨e,rfl⟩
  ·rw[if_neg e]at h;exact absurd rfl h
 refine Vg c F S hc hg hb ?_ ?_
 ·rintro vs H Q E ⟨Fh,ds,s,hz,r,h⟩;rw[r.len];exact(hm ds fun z=>by rw[z]at h;exact h).1
 ·intro vs H Q E h;exact@SE ⟨E⟩ K Zb Y Zc n N c lt _ vs H Q (fun ds e=>⟨by rw[(hm ds e).1];exact hN,(hm ds e).2⟩) h
end
noncomputable def Oq:Value->Bool
|.type n=>n=="list"
|_=>false
theorem W5{a:Addr}{xs:List V}(nk:(K.all fun p=>!Oq p.2.cls)=true)(h:gf K H a xs):Rd H a (.lst xs):=by
 rcases h with h|⟨o,its,n,hk,hc,_⟩
 ·exact h
 ·exfalso;have hm:∀(K:PySem.W.Frag),K.lookup a=some o->(a,o)∈K:=by
   intro K;induction K with
   |nil=>intro z;cases z
   |cons p r ih=>
    intro z;obtain⟨b,u⟩:=p;rw[b8]at z;split at z
    ·rename_i e;have e:=eq_of_beq e;cases z;subst e;exact aq
    ·exact ai _ (ih z)
  have q:=bz.mp nk _ (hm K hk);rw[hc]at q;exact absurd q (by decide)
noncomputable def mw(ns:List Int):D:=.lst false (ns.map D.int)
theorem C_:∀ns:List Int,aD K H (ns.map D.int) (ns.map V.int)
|[]=>rfl
|n::r=>⟨_,_,rfl,rfl,C_ r⟩
theorem Dc:∀ns:List Int,aC (ns.map D.int)=ns.map D.int
|[]=>rfl
|n::r=>by show D.int n::aC (r.map D.int)=_;rw[Dc r];rfl
theorem Vz{k:Nat}{f:Addr}{m:List D->R D}(F:eV P w K mg base (jH P w) k f fd ps (E6 K m))
  (h:∀ns:List Int,ns.length<=63->m [mw ns]=.ok (.bl true)):eV P w K mg base yK k f fd ps (fun vs H Q E=>∃(a:Addr) (ns:List Int),vs=[.ref a]/\Rd H a (.lst (ns.map V.int))/\ns.length<=63/\∀H',Q (.bl true) H'):=by
 refine(L3.eV.calm F).imp ?_;rintro vs H Q E ⟨a,ns,rfl,hS,hl,q⟩;have hs:=szl;refine⟨H,[mw ns],aY.refl H,?_,⟨_,_,rfl,⟨a,ns.map V.int,rfl,hS,by rw[aH];omega,C_ ns⟩,rfl⟩,?_⟩
 ·show[D.lst false (aC (ns.map D.int))]=_;rw[Dc];rfl
 ·rw[h ns hl];intro F' H' v fp g fr r;obtain⟨rfl,_⟩:=r;exact q H'
theorem Dd{a:α}{f:α->R β}:(R.ok a).bind f=f a:=rfl
theorem pq_thn_ok'{a:α}{f:α->Fl}:(R.ok a).aR f=f a:=rfl
theorem Lr{f:α->Fl}:(R.ex x:R α).aR f=Fl.ex x:=rfl
theorem pq_thnL_ok'{a:α}{f:α->Fl}:(R.ok a).nY b f=f a:=rfl
theorem Ls{a:α}:(R.ok a).eN=R.ok a:=rfl
variable{xs:List D}
theorem SG:mZ (some (some (.lst true xs)))=true:=rfl
theorem yR{a:α}:R.opt (some a)=R.ok a:=rfl
theorem Ot{r:R α}:R.be true r=r:=rfl
theorem Lu{r:R α}(h:n<=aa):R.be (decide (n<=aa)) r=r:=by
 rw[decide_eq_true h];rfl
variable{j:Int}
theorem Ou:eG .Add (.int i) (.int j)=.ok (.int (i+j)):=rfl
theorem Ov:eG .Sub (.int i) (.int j)=.ok (.int (i-j)):=rfl
theorem Ow(h:sO i j):eG .Mult (.int i) (.int j)=.ok (.int (i*j)):=by
 show R.be (decide (sO i j)) _=_;rw[decide_eq_true h];rfl
theorem Ox(h:uC i j):eG .FloorDiv (.int i) (.int j)=.ok (.int (i / j)):=by
 show R.be (decide (uC i j)) _=_;rw[decide_eq_true h];rfl
theorem Oz(h:0<j):eG .Mod (.int i) (.int j)=.ok (.int (i%j)):=by
 show R.be (decide (0<j)) _=_;rw[decide_eq_true h];rfl
variable{y:Str}
theorem Ft{x:Str}(h:x.length+y.length<=aa):eG .Add (.str x) (.str y)=.ok (.str (x++y)):=by
 show R.be (decide (x.length+y.length<=aa)) _=_;rw[decide_eq_true h];rfl
theorem Fv{x:Str}(h:0<=j/\j<2 ^ 40/\x.length*j.toNat<=aa):eG .Mult (.str x) (.int j)=.ok (.str (AE x j.toNat)):=by
 show R.be (decide (0<=j/\j<2 ^ 40/\x.length*j.toNat<=aa)) _=_;rw[decide_eq_true h];rfl
variable{ys:List D}
theorem Lv{o':Bool}(h:xs.length+ys.length<=aa):eG .Add (.lst o xs) (.lst o' ys)=.ok (.lst true (aC xs++aC ys)):=by
 show R.be (decide (xs.length+ys.length<=aa)) _=_;rw[decide_eq_true h];rfl
theorem SH:bQ .Lt (.int i) (.int j)=.ok (.bl (decide (i<j))):=rfl
theorem OA:bQ .LtE (.int i) (.int j)=.ok (.bl (decide (i<=j))):=rfl
theorem SI:bQ .Gt (.int i) (.int j)=.ok (.bl (decide (j<i))):=rfl
theorem OB:bQ .GtE (.int i) (.int j)=.ok (.bl (decide (j<=i))):=rfl
theorem Lw{x:Str}:bQ .LtE (.str x) (.str y)=.ok (.bl (!decide (y.cps.toList<x.cps.toList))):=rfl
theorem Lx:bQ .Eq (.int i) (.int j)=.ok (.bl (i==j)):=rfl
theorem Ly:bQ .NotEq (.int i) (.int j)=.ok (.bl (!(i==j))):=rfl
theorem Lz{x:Str}:bQ .Eq (.str x) (.str y)=.ok (.bl (x==y)):=rfl
theorem LA{x:Str}:bQ .NotEq (.str x) (.str y)=.ok (.bl (!(x==y))):=rfl
theorem SJ:bQ .Is x .non=.ok (.bl (iV x)):=rfl
theorem JA:bQ .IsNot x .non=.ok (.bl (!iV x)):=rfl
theorem n6{y:D}(h:dD x=true)(h':dD y=true):bQ .Eq x y=.ok (.bl (jm x y)):=by
 show R.be (dD x&&dD y) _=_;rw[h,h'];rfl
theorem SK:gR (.bl b)=.ok b:=rfl
variable{z:Str}
theorem OC:rP (.str z) (.int i)=(R.opt (fh z.cps.toList i)).bind fun c=>.ok (.str ⟨#[c]⟩):=rfl
theorem OD:rP (.lst o xs) (.int i)=(R.opt (fh xs i)).bind fun d=>.ok (bq d):=rfl
theorem OE:rP (.tup xs) (.int i)=(R.opt (fh xs i)).bind fun d=>.ok (bq d):=rfl
theorem OF:HR (.str z) lo hi=.ok (.str ⟨(cut z.cps.toList lo hi).toArray⟩):=rfl
theorem OG:HR (.lst o xs) lo hi=.ok (.lst true (aC (cut xs lo hi))):=rfl
theorem LB:jy .len [.str z]=.ok (.int z.length):=rfl
theorem LC:jy .len [.lst o xs]=.ok (.int xs.length):=rfl
theorem OH:jy .all [.lst o xs]=R.be (xs.all lM) (.ok (.bl (xs.all mX))):=rfl
variable{q:Str}
theorem GY:lz .startswith (.str z) [.str q]=.ok (.bl (q.cps.toList.isPrefixOf z.cps.toList)):=rfl
theorem JB(h:q.length=1)(h':z.length+2<=aa):lz .split (.str z) [.str q]=.ok (.lst true (qN (q.cps.getD 0 0) z.cps.toList)):=by
 show R.be (decide (q.length=1)&&decide (z.length+2<=aa)) _=_;rw[decide_eq_true h,decide_eq_true h'];rfl
theorem De:lz .join (.str z) [.lst o ys]=(R.opt (jL ys)).bind fun ss=>R.be (decide ((ss.map (·.length)).sum+ss.length*z.length<=aa)) (.ok (.str (dU z ss))):=rfl
theorem OI:o7 (.str z)=.ok (tW z):=rfl
theorem OJ:o7 (.lst o xs)=.ok (aC xs):=rfl
theorem OL:o7 (.tup xs)=.ok (aC xs):=rfl
theorem VA(h:-(2 ^ 62)<=j/\j.toNat<=aa):qO [.int j]=.ok (oQ 0 j.toNat):=by
 show R.be (decide (-(2 ^ 62)<=j/\j.toNat<=aa)) _=_;rw[decide_eq_true h];rfl
theorem OM:wo .non=.ok .non:=rfl
theorem SM:wo (.bl b)=.ok (.bl b):=rfl
theorem ON:wo (.int i)=.ok (.int i):=rfl
theorem OO{x:Str}:wo (.str x)=.ok (.str x):=rfl
theorem OP:bq .non=.non:=rfl
theorem SN:bq (.bl b)=.bl b:=rfl
theorem OQ:bq (.int i)=.int i:=rfl
theorem OR{x:Str}:bq (.str x)=.str x:=rfl
theorem OS:bq (.lst o xs)=.lst false (aC xs):=rfl
theorem OT:bq (.tup xs)=.tup (aC xs):=rfl
theorem LD:aC []=[]:=rfl
theorem JC{r:List D}:aC (d::r)=bq d::aC r:=rfl
theorem OU:aT .non=true:=rfl
theorem SO:aT (.bl b)=true:=rfl
theorem OV:aT (.int i)=true:=rfl
theorem OW{x:Str}:aT (.str x)=true:=rfl
theorem OX:aT (.lst o xs)=(o&&dO xs):=rfl
theorem OY:aT (.tup xs)=dO xs:=rfl
theorem LF:dO []=true:=rfl
theorem JD{r:List D}:dO (d::r)=(aT d&&dO r):=rfl
variable{O:a_}
theorem VB:gJ is true O=O:=rfl
theorem VC:gJ is false O=lN is O:=rfl
theorem LG:lN [] O=O:=rfl
theorem JE{i:Nat}:lN (i::is) O=lN is (l5 i O):=rfl
theorem SQ{o:Option D}{r:a_}:l5 0 (o::r)=o.map bq::r:=rfl
theorem SR{o:Option D}{r:a_}:l5 (n+1) (o::r)=o::l5 n r:=rfl
theorem SS:zO (.ex x)=.ex x:=rfl
theorem SV:zO (.rt d)=.ok d:=rfl
theorem LH:uN t (.lst o xs)=decide (t=.list):=rfl
theorem LI:uN t (.tup xs)=decide (t=.tuple):=rfl
noncomputable def Ek(O:a_)(i:Nat):R D:=match O[i]? with
|some (some d)=>.ok (bq d)
|_=>.bad
noncomputable def yh(O:a_)(i:Nat):R D:=match O[i]? with
|some (some d)=>.ok d
|_=>.bad
noncomputable def o8(x:Fl)(f:a_->Fl):Fl:=match x with
|.nx O=>f O
|x=>x
noncomputable def JF(Y:List PG)(g:Nat):R D:=match Y[g]? with
|some (.val d)=>.ok (bq d)
|_=>.bad
noncomputable def zS(Y:List PG)(g:Nat)(r:R (List D)):R D:=match Y[g]? with
|some (.fn m dds)=>r.bind fun ds=>m (aC ds++dds)
|_=>.bad
noncomputable def JG{α:Type}(c:R Bool)(a b:R α):R α:=c.bind fun k=>if k=true then a else b
noncomputable def XC(c:R Bool)(a b:Fl):Fl:=c.aR fun k=>if k=true then a else b
noncomputable def VD(x:D)(b:R D):R D:=match x with
|.bl c=>if c=true then b else .ok (.bl false)
|_=>.bad
noncomputable def XD(x:D)(b:R D):R D:=match x with
|.bl c=>if c=true then .ok (.bl true)else b
|_=>.bad
noncomputable def VE:D->R D
|.int i=>.ok (.int (-i))
|_=>.bad
noncomputable def VF:D->R (Option Int)
|.int i=>.ok (some i)
|_=>.bad
noncomputable def XE(z:D)(r:R D):R D:=match z with
|.bl k=>if k=true then r else .ok (.bl false)
|_=>.bad
noncomputable def XF(z:D)(r:R Bool):R Bool:=match z with
|.bl k=>if k=true then r else .ok false
|_=>.bad
noncomputable def VG:D->R Bool
|.bl k=>.ok k
|_=>.bad
noncomputable def XG:D->R (Bool×List D)
|.lst o xs=>.ok (aT (.lst o xs),iO 0 (aC xs))
|_=>.bad
noncomputable def OZ(k:Nat)(vs:List Nat)(O:a_)(d:D):Fl:=match O[k]? with
|some (some (.lst true xs))=>if(decide (xs.length<aa)&&(aT d||!vs.contains k))=true then .nx ((gJ vs (aT d) O).set k (some (.lst true (xs++[d]))))else .bad
|_=>.bad
noncomputable def gQ(k:Nat)(vs:List Nat)(O:a_)(d j:D):Fl:=match O[k]? with
|some (some x)=>if(aT d||!vs.contains k)=true then(R.opt (putIn x d j)).aR fun x'=>.nx ((gJ vs (aT d) O).set k (some x'))else .bad
|_=>.bad
noncomputable def JH(Y:List PG)(g:Nat)(r:R (List D)):Fl:=match Y[g]? with
|some (.cls C fs k)=>r.aR fun ds=>if(decide (ds.length+1=k)&&decide (fs.map (·.1)).Nodup)=true then .ex (AI C fs ds)else .bad
|_=>.bad
noncomputable def Yu(Y:List PG)(n i g:Nat)(h:bV)(O:a_)(r:R D):Fl:=match Y[g]? with
|some (.exb Cs)=>match r with
 |.ok _=>.nx O
 |.ex (.exc C ks xs)=>if(decide (C∈Cs)&&oR xs)=true then Fe i (cQ (Y.map PG.hand) n h (O.set i (some (.exc C ks xs))))else .bad
 |_=>.bad
|_=>.bad
theorem O0{r:a_}:Ek (some d::r) 0=.ok (bq d):=rfl
theorem O1{o:Option D}{r:a_}:Ek (o::r) (n+1)=Ek r n:=rfl
theorem LJ{r:a_}:yh (some d::r) 0=.ok d:=rfl
theorem LK{o:Option D}{r:a_}:yh (o::r) (n+1)=yh r n:=rfl
theorem Df{f:a_->Fl}:o8 (.nx O) f=f O:=rfl
theorem LL{f:a_->Fl}:o8 (.rt d) f=.rt d:=rfl
theorem LM{f:a_->Fl}:o8 (.ex x) f=.ex x:=rfl
theorem LN{f:a_->Fl}:o8 (.ct O) f=.ct O:=rfl
variable{r:List PG}
theorem SW:JF (.val d::r) 0=.ok (bq d):=rfl
theorem SX{o:PG}:JF (o::r) (n+1)=JF r n:=rfl
theorem SY{m:List D->R D}{dds:List D}{x:R (List D)}:zS (.fn m dds::r) 0 x=x.bind fun ds=>m (aC ds++dds):=rfl
theorem S0{o:PG}{x:R (List D)}:zS (o::r) (n+1) x=zS r n x:=rfl
theorem LO{k:Bool}{a b:R α}:JG (.ok k) a b=if k=true then a else b:=rfl
theorem O2{k:Bool}{a b:Fl}:XC (.ok k) a b=if k=true then a else b:=rfl
theorem LP{c:Bool}{b:R D}:VD (.bl c) b=if c=true then b else .ok (.bl false):=rfl
theorem O3{c:Bool}{b:R D}:XD (.bl c) b=if c=true then .ok (.bl true)else b:=rfl
theorem O4:VE (.int i)=.ok (.int (-i)):=rfl
theorem O5:VF (.int i)=.ok (some i):=rfl
theorem O6{k:Bool}{r:R D}:XE (.bl k) r=if k=true then r else .ok (.bl false):=rfl
theorem LQ{k:Bool}{r:R Bool}:XF (.bl k) r=if k=true then r else .ok false:=rfl
theorem O7{k:Bool}:VG (.bl k)=.ok k:=rfl
theorem S1:XG (.lst o xs)=.ok (aT (.lst o xs),iO 0 (aC xs)):=rfl
variable{Y:List PG}
theorem O8{i:Nat}:pE Y (.var i) O=Ek O i:=rfl
theorem O9:pE Y (.con v) O=wo v:=rfl
theorem O_:pE Y (.glo g) O=JF Y g:=rfl
theorem Pa{op:ji}{b:CE}:pE Y (.bin op a b) O=(pE Y a O).bind fun x=>(pE Y b O).bind fun y=>eG op x y:=rfl
theorem Ie{ss:List Str}(h:jL ds=some ss)(h2:ss.length<4000):AF (.lst o ds)=.ok (.int (mS ss).length):=by
 show(match jL ds with|some ss=>R.be (decide (ss.length<4000)) (R.ok (D.int (mS ss).length))|none=>.bad)=_;rw[h];show R.be (decide _) _=_;rw[decide_eq_true h2];rfl
theorem LR:pE Y (.nset a) O=(pE Y a O).bind AF:=rfl
theorem Pb:pE Y (.neg a) O=(pE Y a O).bind VE:=by
 show(pE Y a O).bind _=_;congr
theorem Pc:pE Y (.not a) O=(pE Y a O).bind fun x=>(gR x).bind fun b=>.ok (.bl (!b)):=rfl
theorem Pd{b:CE}:pE Y (.and a b) O=(pE Y a O).bind fun x=>VD x (pE Y b O):=rfl
theorem S2{b:CE}:pE Y (.or a b) O=(pE Y a O).bind fun x=>XD x (pE Y b O):=rfl
variable{c:CE}
theorem Pe{b:CE}:pE Y (.ite c a b) O=JG (pT Y c O) (pE Y a O) (pE Y b O):=rfl
theorem Pf{b:CE}:pE Y (.cmp op a b) O=(pE Y a O).bind fun x=>(pE Y b O).bind fun y=>bQ op x y:=rfl
variable{o1 o2:nB}
theorem JI{b:CE}:pE Y (.chain o1 o2 a b c) O=(pE Y a O).bind fun x=>(pE Y b O).bind fun y=>(bQ o1 x y).bind fun z=>XE z ((pE Y c O).bind fun u=>bQ o2 y u):=rfl
theorem LS:pE Y (.call g as) O=zS Y g (dJ Y as O):=rfl
theorem Pg{f:Bf}:pE Y (.blt f as) O=(dJ Y as O).bind (jy f):=rfl
theorem Ph{o:CE}:pE Y (.mth m o as) O=(pE Y o O).bind fun x=>(dJ Y as O).eN.bind fun ds=>lz m x ds:=rfl
theorem S3{b:CE}:pE Y (.ix a b) O=(pE Y a O).bind fun x=>(pE Y b O).bind fun y=>rP x y:=rfl
theorem S4{lo hi:CO}:pE Y (.sl a lo hi) O=(pE Y a O).bind fun x=>(pO Y lo O).bind fun l=>(pO Y hi O).bind fun h=>HR x l h:=rfl
theorem Pj:pE Y (.lst as) O=(dJ Y as O).bind fun ds=>R.be (decide (ds.length<=aa)) (.ok (.lst true ds)):=by
 rfl
theorem Pk:pE Y (.tup as) O=(dJ Y as O).bind fun ds=>R.be (decide (ds.length<=aa)) (.ok (.tup ds)):=by
 rfl
variable{elt:CE}{tg:CG}{cond:CO}
theorem LU:pE Y (.comp nl fr elt tg src cond) O=(pI Y src O).bind fun items=>(cZ (pG tg) (pC Y cond) (pE Y elt) items.2 (nl.map (fun _=>none)++fr.map (fun i=>O.getD i none))).eN.bind fun ds=>.ok (.lst true ds):=rfl
theorem Pn:pT Y (.not a) O=(pT Y a O).bind fun b=>.ok (!b):=rfl
theorem Po{b:CE}:pT Y (.and a b) O=JG (pT Y a O) (pT Y b O) (.ok false):=rfl
theorem S5{b:CE}:pT Y (.or a b) O=JG (pT Y a O) (.ok true) (pT Y b O):=rfl
theorem Pp{b:CE}:pT Y (.cmp op a b) O=(pE Y a O).bind fun x=>(pE Y b O).bind fun y=>(bQ op x y).bind VG:=rfl
theorem JJ{b:CE}:pT Y (.chain o1 o2 a b c) O=(pE Y a O).bind fun x=>(pE Y b O).bind fun y=>(bQ o1 x y).bind fun z=>XF z ((pE Y c O).bind fun u=>(bQ o2 y u).bind VG):=rfl
theorem LV:pT Y (.call g as) O=(zS Y g (dJ Y as O)).bind gR:=by
 show(match Y[g]? with|some (.fn m dds)=>((dJ Y as O).bind fun ds=>m (aC ds++dds)).bind gR|_=>.bad)=_;unfold zS;cases Y[g]? with
 |none=>rfl
 |some p=>cases p<;>rfl
theorem S6{b:CE}:pT Y (.ix a b) O=((pE Y a O).bind fun x=>(pE Y b O).bind fun y=>rP x y).bind gR:=rfl
theorem Pq{f:Bf}:pT Y (.blt f as) O=((dJ Y as O).bind (jy f)).bind gR:=rfl
theorem Pr:pT Y (.isi a t) O=(pE Y a O).bind fun x=>R.be (oO x) (.ok (uN t x)):=rfl
theorem Pu{o:CE}:pT Y (.mth m o as) O=(pE Y o O).bind fun x=>(dJ Y as O).eN.bind fun ds=>(lz m x ds).bind gR:=rfl
theorem LW:dJ Y .nil O=.ok []:=rfl
theorem JK{r:ia}:dJ Y (.cons a r) O=(pE Y a O).bind fun x=>(dJ Y r O).bind fun xs=>.ok (x::xs):=rfl
theorem LX:pO Y .none O=.ok none:=rfl
theorem LY:pO Y (.some a) O=(pE Y a O).bind VF:=rfl
theorem LZ:pC Y .none=fun _=>.ok true:=rfl
theorem L4:pC Y (.some a)=pT Y a:=rfl
theorem L5{i:Nat}:pG (.name i) d O=.ok (O.set i (some d)):=rfl
variable{gs:oM}
theorem Pw:pG (.tup gs) (.tup ds) O=R.be (decide (ds.length=gs.len)) (vn gs ds O):=rfl
theorem L6:vn .nil [] O=.ok O:=rfl
theorem JL{g:CG}{r:oM}{dr:List D}:vn (.cons g r) (d::dr) O=(pG g d O).bind fun Zd=>vn r dr Zd:=rfl
theorem Px:pI Y (.seq a) O=(pE Y a O).bind fun x=>(o7 x).bind fun ds=>.ok (aT x,ds):=rfl
theorem JM:pI Y (.range as) O=(dJ Y as O).bind fun xs=>(qO xs).bind fun ds=>.ok (true,ds):=rfl
theorem Py:pI Y (.zip as) O=(dJ Y as O).bind uO:=rfl
theorem S7{p:Bool}:uO [.lst o xs,.lst p ys]=.ok (false,s9 (aC xs) (aC ys)):=rfl
theorem L7:pI Y (.enum a) O=(pE Y a O).bind XG:=by
 show(pE Y a O).bind _=_;congr 1;funext x;cases x<;>rfl
theorem L8:cQ Y n .nil O=.nx O:=rfl
theorem uT{r:bV}:cQ Y n (.cons s r) O=o8 (pS Y n s O) (cQ Y n r):=by
 show(match pS Y n s O with|.nx Zd=>cQ Y n r Zd|x=>x)=_;unfold o8;cases pS Y n s O<;>rfl
theorem Pz{k:Nat}:pS Y n (.expr (.mth .append (.var k) (.cons a .nil))) O=(pE Y a O).nY (mZ O[k]?) (OZ k (b5 a) O):=rfl
theorem PC{i:Nat}:pS Y n (.asg (.name i) e) O=(pE Y e O).aR fun d=>.nx ((gJ (b5 e) (aT d) O).set i (some d)):=rfl
theorem PD{k:Nat}{i:CE}:pS Y n (.asg (.sub (.var k) i) e) O=(pE Y e O).aR fun d=>(pE Y i (gJ (b5 e) (aT d) O)).nY false fun j=>gQ k (b5 e) O d j:=rfl
theorem PF{i:Nat}:pS Y n (.aug i e) O=(match O[i]? with|some (some (.int a))=>(pE Y e O).aR fun d=>Ep i a O d|_=>.bad):=rfl
theorem L_{i:Nat}:pS Y n (.casg i e) O=(pE Y e O).aR fun d=>.nx ((gJ (b5 e) (aT d) O).set i (some d)):=rfl
theorem Ma:pS Y n (.tasg (.tup gs) e) O=(pE Y e O).aR fun d=>(pG (.tup gs) d (gJ (b5 e) (aT d) O)).aR .nx:=rfl
theorem PJ:pS Y n (.ret e) O=(pM Y e O).aR .rt:=rfl
theorem Fw{a b:bV}:pS Y n (.ifs c a b) O=XC (pT Y c O) (cQ Y n a O) (cQ Y n b O):=rfl
theorem Mb{b:bV}:pS Y n (.whil c b) O=s_ (pT Y c) (cQ Y n b) n O:=rfl
theorem Mc{g:CG}{b:bV}:pS Y n (.forr g src b) O=(pI Y src O).aR fun items=>forR (pG g) (cQ Y n b) items.2 (gJ (tX src) items.1 O):=rfl
theorem Me:pS Y n (.rais g as) O=JH Y g (dJ Y as O):=rfl
variable{C:Addr}{fs:List (Str×Nat)}
theorem S8{k:Nat}{x:R (List D)}:JH (.cls C fs k::r) 0 x=x.aR fun ds=>if(decide (ds.length+1=k)&&decide (fs.map (·.1)).Nodup)=true then .ex (AI C fs ds)else .bad:=rfl
theorem S9{o:PG}{x:R (List D)}:JH (o::r) (n+1) x=JH r n x:=rfl
theorem PK{i:Nat}{b:CB}{h:bV}:pS Y n (.tri i g b h) O=Yu Y n i g h O (pB Y b O):=rfl
theorem Mf:pB Y (.call g as) O=zS Y g (dJ Y as O).eN:=rfl
theorem Mg:iV .non=true:=rfl
theorem Mh:iV (.int i)=false:=rfl
theorem Mi:oO (.lst o xs)=true:=rfl
theorem Mj:iV (.lst o xs)=false:=rfl
theorem Mk:oO (.tup xs)=true:=rfl
theorem Ml:iV (.tup xs)=false:=rfl
theorem Mm:pS Y n .cont O=.ct O:=rfl
theorem PL{i:Nat}:pM Y (.var i) O=yh O i:=rfl
theorem PM:pM Y (.con v) O=pE Y (.con v) O:=rfl
theorem PN{op:ji}{b:CE}:pM Y (.bin op a b) O=pE Y (.bin op a b) O:=rfl
theorem PR{b:CE}:pM Y (.and a b) O=pE Y (.and a b) O:=rfl
theorem S_{b:CE}:pM Y (.or a b) O=pE Y (.or a b) O:=rfl
theorem PU{b:CE}:pM Y (.cmp op a b) O=pE Y (.cmp op a b) O:=rfl
theorem Mn:pM Y (.call g as) O=pE Y (.call g as) O:=rfl
theorem PX{f:Bf}:pM Y (.blt f as) O=pE Y (.blt f as) O:=rfl
theorem PY{o:CE}:pM Y (.mth m o as) O=pE Y (.mth m o as) O:=rfl
theorem Tc{b:CE}:pM Y (.ix a b) O=pE Y (.ix a b) O:=rfl
theorem PZ:pM Y (.lst as) O=pE Y (.lst as) O:=rfl
theorem Mp:pM Y (.comp nl fr elt tg src cond) O=pE Y (.comp nl fr elt tg src cond) O:=rfl
theorem P0:pM Y (.tup as) O=(jz Y as O).alt (fun ds=>R.be (decide (ds.length<=aa)) (.ok (.tup ds))) (pE Y (.tup as) O):=by
 rfl
theorem Mq:jz Y .nil O=.ok []:=rfl
theorem Mr{i:Nat}{r:ia}:jz Y (.cons (.var i) r) O=(yh O i).bind fun d=>(jz Y r (O.set i none)).bind fun ds=>.ok (d::ds):=by
 show(match O[i]? with|some (some d)=>(jz Y r (O.set i none)).bind fun ds=>.ok (d::ds)|_=>.bad)=_;unfold yh;cases O[i]? with
 |none=>rfl
 |some o=>cases o<;>rfl
theorem Ms{a:α}{f:α->R β}{y:R β}:(R.ok a:R α).alt f y=f a:=rfl
theorem P_{k:Nat}:pS Y n (.expr (.mth .extend (.var k) (.cons a .nil))) O=(pE Y a O).nY (mZ O[k]?) fun d=>BR k (b5 a) d O:=rfl
theorem Dg{k:Nat}{vs:List Nat}(h:O[k]?=some (some (.lst true xs)))(h1:xs.length+ys.length<=aa)(h2:(aT (.lst true ys)||!vs.contains k)=true):BR k vs (.lst true ys) O=.nx ((gJ vs (aT (.lst true ys)) O).set k (some (.lst true (xs++ys)))):=by
 unfold BR;simp only[h];rw[decide_eq_true h1,h2];rfl
theorem Mu{r:ia}:jz Y (.cons (.con v) r) O=(pE Y (.con v) O).bind fun d=>R.be (aT d) ((jz Y r O).bind fun ds=>.ok (d::ds)):=rfl
theorem JN{r:ia}:jz Y (.cons (.call g as) r) O=(pE Y (.call g as) O).bind fun d=>R.be (aT d) ((jz Y r O).bind fun ds=>.ok (d::ds)):=rfl
theorem Qa{b:CE}{r:ia}:jz Y (.cons (.ix a b) r) O=(pE Y (.ix a b) O).bind fun d=>R.be (aT d) ((jz Y r O).bind fun ds=>.ok (d::ds)):=rfl
theorem Mv{r:ia}:jz Y (.cons (.lst as) r) O=(pE Y (.lst as) O).bind fun d=>R.be (aT d) ((jz Y r O).bind fun ds=>.ok (d::ds)):=rfl
theorem Mw{op:ji}{b:CE}{r:ia}:jz Y (.cons (.bin op a b) r) O=(pE Y (.bin op a b) O).bind fun d=>R.be (aT d) ((jz Y r O).bind fun ds=>.ok (d::ds)):=rfl
theorem Mx{b:CE}{r:ia}:jz Y (.cons (.cmp op a b) r) O=(pE Y (.cmp op a b) O).bind fun d=>R.be (aT d) ((jz Y r O).bind fun ds=>.ok (d::ds)):=rfl
theorem Fx:jy .min [.int i,.int j]=.ok (.int (if j<i then j else i)):=rfl
theorem Qc{k:Int}(h:(-(2 ^ 63)<=k/\k<2 ^ 63)/\xs.length*k.toNat<=aa):eG .Mult (.lst o xs) (.int k)=.ok (.lst true (aB k.toNat (aC xs)).flatten):=by
 show R.be (decide ((-(2 ^ 63)<=k/\k<2 ^ 63)/\xs.length*k.toNat<=aa)) _=_;rw[decide_eq_true h];rfl
theorem mz{k:Nat}{vs:List Nat}(h:O[k]?=some (some (.lst true xs)))(h1:xs.length<aa)(h2:(aT d||!vs.contains k)=true):OZ k vs O d=.nx ((gJ vs (aT d) O).set k (some (.lst true (xs++[d])))):=by
 unfold OZ;simp only[h];rw[decide_eq_true h1,h2];rfl
theorem Dh{k:Nat}{vs:List Nat}{j x':D}(h:O[k]?=some (some x))(h1:(aT d||!vs.contains k)=true)(h2:putIn x d j=some x'):gQ k vs O d j=.nx ((gJ vs (aT d) O).set k (some x')):=by
 unfold gQ;simp only[h];rw[h1,h2];rfl
theorem frzs_map'(f:α->D)(h:∀a,bq (f a)=f a)(l:List α):aC (l.map f)=l.map f:=jd f h l
theorem ic{g:D->a_->R a_}{e:a_->R D}(enc:β->D)(I:a_->Prop)(f:β->D):∀(xs:List β) (O:a_),I O->(∀x∈xs,∀O,I O->∃Zg,g (enc x) O=.ok Zg/\I Zg/\e Zg=.ok (f x))->cZ g (fun _=>.ok true) e (xs.map enc) O=.ok (xs.map f)
|[],O,_,_=>rfl
|x::r,O,hi,h=>by
 obtain⟨Zg,h1,h2,h3⟩:=h x aq O hi;have ih:=ic enc I f r Zg h2 fun y hy=>h y (ai _ hy);show(g (enc x) O).bind _=_;rw[h1];simp only[R.bind,if_true,h3,ih];rfl
theorem kC{g:D->a_->R a_}{c:a_->R Bool}{e:a_->R D}(enc:β->D)(I:a_->Prop)(p:β->Bool)(f:β->D):∀(xs:List β) (O:a_),I O->(∀x∈xs,∀O,I O->∃Zg,g (enc x) O=.ok Zg/\I Zg/\c Zg=.ok (p x)/\e Zg=.ok (f x))->cZ g c e (xs.map enc) O=.ok ((xs.filter p).map f)
|[],O,_,_=>rfl
|x::r,O,hi,h=>by
 obtain⟨Zg,h1,h2,h3,h4⟩:=h x aq O hi;have ih:=kC enc I p f r Zg h2 fun y hy=>h y (ai _ hy);show(g (enc x) O).bind _=_;rw[h1];simp only[R.bind,h3];cases q:p x with
 |true=>rw[if_pos rfl,rG q,h4];simp only[R.bind,ih];rfl
 |false=>rw[if_neg (by decide),List.filter_cons_of_neg (by simp[q])];exact ih
noncomputable def El(K:PySem.W.Frag)(C:Addr)(as:List Str):Bool:=
 (PySem.W.findIn K (.ref C) "__getattribute__"==some (some (.builtin "BaseException.__getattribute__")))&&(PySem.W.findIn K (.ref C) "__getattr__"==some none)&&(PySem.W.findIn K (.ref C) "__setattr__"==some (some (.builtin "object.__setattr__")))
 && PySem.W.hasDictIn K C&&(PySem.W.mroIn K C (.type "BaseException")==some true)&&(PySem.W.mroIn K C (.type "object")==some true)&&(PySem.W.clsIn K C).any (fun cd=>tT cd.mro)
 && (PySem.W.findIn K (.ref C) "__class__"==some (some (.builtin "object.__class__")))&&as.all (fun f=>PySem.W.findIn K (.ref C) f==some none)
theorem Td{as:List Str}(h:El K C as=true)(hn:PySem.W.specialIn K (.builtin "object.__class__") "__get__"=some (some (.builtin "getset_descriptor.__get__")))(htk:PySem.W.takesIn K (.builtin "object.__class__")=some true) :
  tU K C/\sX K C/\∀f∈as,iU K C f:=by
 unfold El at h;simp only[bx,beq_iff_eq,bz]at h;obtain⟨⟨⟨⟨⟨⟨⟨⟨h1,h2⟩,h3⟩,h4⟩,h5⟩,h6⟩,h7⟩,h8⟩,h9⟩:=h;have c:vY K C:=⟨h1,h2,h3,h4,h5,h6⟩;exact⟨{ c with tl:=h7 },{ c with ha:=h8,hn:=hn,htk:=htk },h9⟩
variable{Cs:List Addr}
theorem Qd{as:List Str}(h:(Cs.all fun C=>El K C as)=true)(hn:PySem.W.specialIn K (.builtin "object.__class__") "__get__"=some (some (.builtin "getset_descriptor.__get__")))(htk:PySem.W.takesIn K (.builtin "object.__class__")=some true) :
  ∀C∈Cs,tU K C/\sX K C/\∀f∈as,iU K C f:=fun C hC=>Td (bz.mp h C hC) hn htk
theorem iW{D:Addr}{as:List Str}(hx:∀C∈Cs,tU K C/\sX K C/\∀f∈as,iU K C f)(h0:PySem.W.kitOne K (.type "NoneType") (.ref D)=some false)(h:(Cs.all fun C=>PySem.W.kitOne K (.ref C) (.ref D)==some (decide (C=D)))=true):gw K D Cs:=
 ⟨h0,fun C hC=>⟨(hx C hC).2.1,by simpa using bz.mp h C hC⟩⟩
theorem VH{as:List Str}(hx:∀C∈Cs,tU K C/\sX K C/\∀f∈as,iU K C f)(h0:PySem.W.kitOne K (.type "NoneType") (.type "ValueError")=some false)(h:(Cs.all fun C=>PySem.W.kitOne K (.ref C) (.type "ValueError")==some true)=true):rO K Cs as:=
 ⟨h0,fun C hC=>⟨(hx C hC).2.1,by simpa using bz.mp h C hC,(hx C hC).2.2⟩⟩
variable{B:Addr}
theorem VI(h:(Cs.all fun C=>PySem.W.mroIn K C (.ref B)==some true)=true):∀C∈Cs,PySem.W.mroIn K C (.ref B)=some true:=fun C hC=>by simpa using bz.mp h C hC
def Fy(K:PySem.W.Frag)(B:Addr):Prop:=∃c0 dB cd sl c1 d1 es ep s1,K.lookup B=some ⟨c0,dB,.cls cd,sl⟩/\K.lookup cd.ns=some ⟨c1,d1,.dict es ep,s1⟩/\(es.all fun e=>match e.key with|.str _ _=>true|_=>false)=true/\A9 es "__init__"=none
theorem VJ{fI N:Addr}{as:List Str}{nm:Str}{bs:List Value}{hdct:Bool}{sn:List Str}{sub:List Value}{ab:Bool}{col:Option Bool}{dd:Option Addr}{k0 k1 k2 k3 k5:Option Value}
  (hx:tU K C/\sX K C/\∀f∈as,iU K C f) (xi:PySem.W.findIn K (.ref C) "__init__"=some (some (.ref fI))) (xf:PySem.W.typeIn K (.ref fI)=some (.type "function")) (xk:PySem.W.keepIn K (.ref C)=true)
  (xl:K.lookup C=some (ig nm q C N bs (.ref B::[.type "ValueError",.type "Exception",.type "BaseException",.type "object"]) hdct sn sub ab col dd k0 k1 k2 k3 k5 "ValueError.__new__")) (xb:Fy K B) (F:pJ K "__init__" qual st fI fd) (hb:Binds K fd ps []) (S:kO ps ps (bT st))
  (ha:∀p∈fs,p.1∈as) (hc:qx ps fs (fE st)=true) (hd:∀x∈ps,(x==("__debug__":Str))=false/\(x==("__classdict__":Str))=false) (hj:∀p∈fs,p.2<ps.length/\1<=p.2) (hl:fs.length<=900) (h0:0<fs.length) (hp:ps.length<=1000):Ef P w K mg base 1 C fs ps.length:=
 ⟨fI,fd,ps,{ hx.1 with ini:=xi,fn:=xf,kp:=xk,cls:=⟨_,_,_,_,_,_,_,_,_,_,_,_,_,_,_,_,xl,xb⟩ },Se F S hx.1 (fun p hp=>hx.2.2 p.1 (ha p hp)) hc hd (fun p hp=>(hj p hp).1) hl h0,hb,hp,fun p hp=>(hj p hp).2,rfl⟩
end L3
end
local macro_rules | `(tactic| simp_arith $c:optConfig [$ls,*]) => do let q <- ("Dd pq_thn_ok' Lr pq_thnL_ok' Ls SG yR Ot Lu Ou Ov Ow Ox Oz Ft Fv Lv SH OA SI OB Lw Lx Ly Lz LA SJ JA n6 SK OC OD OE OF OG LB LC OH GY JB De OI OJ OL VA OM SM ON OO OP SN OQ OR OS OT LD JC OU SO OV OW OX OY LF JD VB VC LG JE SQ SR SS SV LH LI O0 O1 LJ LK Df LL LM LN SW SX SY S0 LO O2 LP O3 O4 O5 O6 LQ O7 S1 O8 O9 O_ Pa Ie LR Pb Pc Pd S2 Pe Pf JI LS Pg Ph S3 S4 Pj Pk LU Pn Po S5 Pp JJ LV S6 Pq Pr Pu LW JK LX LY LZ L4 L5 Pw L6 JL Px JM Py S7 L7 L8 uT Pz PC PD PF L_ Ma PJ Fw Mb Mc Me S8 S9 PK Mf Mg Mh Mi Mj Mk Ml Mm PL PM PN PR S_ PU Mn PX PY Tc PZ Mp P0 Mq Mr Ms P_ Dg Mu JN Qa Mv Mw Mx Fx Qc mz Dh cX Ff sQ b5 jM E5 tX t6 oM.len dG Gz aN fW aH Ag sG gO bM List.replicate_zero List.getElem?_cons_zero lu List.set_cons_zero List.set_cons_succ List.getD_cons_zero List.getD_cons_succ Nat.reduceAdd Nat.reduceSub Nat.zero_add nK Nat.reduceBEq b7 aJ aW gp Nat.reduceEqDiff or_false true_or false_or not_false_eq_true and_self and_true true_and and_false false_and decide_true decide_false Bool.not_true Bool.not_false Gy Bool.or_false Bool.false_or DZ Bool.true_and om Cf if_true if_false Bool.false_eq_true reduceCtorEq Option.map_some beq_self_eq_true Int.cast_ofNat_Int Int.reduceLE Int.reduceLT Int.reduceBEq Int.reduceSub Int.reduceAdd".splitOn " ").toArray.mapM fun x => `(Lean.Parser.Tactic.simpLemma| $(Lean.mkIdent x.toName):ident); `(tactic| simp $c:optConfig (disch := first | assumption | (with_reducible rfl) | (show L3.dD _ = true; rfl) | omega | (unfold L2.sO; omega) | (unfold L2.uC; omega) | (simp only [aN, fW, aH, ay]; omega)) only [$q,*, $ls,*])
section
namespace L3
open PySem L2
structure FD where
 n:Str
 s:Stmt
 N:List Str
 k:Nat
 gl:List Str
def FD.ps(d:FD):List Str:=d.N.take d.k
noncomputable def Ry(N P:List Str)(sc:eZ):Bool:=(match sc.kind with|.function=>true|_=>false)&&(!sc.isCoroutine&&(!sc.isGenerator&&(decide N.Nodup&&(decide (N.take P.length=P)&&(decide (∀x∈P,sc.names.lookup x=some .local\/sc.names.lookup x=some .cell)&&decide (∀y∈sc.names,y.2≠.free))))))
theorem AD{N P:List Str}{sc:eZ}(h:Ry N P sc=true):kO N P sc:=by
 unfold Ry at h;simp only[bx,decide_eq_true_eq,yD]at h;obtain⟨h1,h2,h3,h4,h5,h6,h7⟩:=h;refine⟨?_,h2,h3,h4,h5,h6,h7⟩;revert h1;cases sc.kind<;>intro h1<;>first|rfl|cases h1
noncomputable def FD.dW(bn:List Str)(d:FD)(c:bV):Bool:=mU ⟨d.N,bT d.s,d.gl,bn,(fun _=>true),true⟩ c (fE d.s)&&(Ry d.N d.ps (bT d.s)&&(j8 c&&(d.ps.length==d.k)))
def DI(K:PySem.W.Frag)(mg:Str->Option Value)(d:FD):Prop:=Ej K mg d.n d.s d.ps
variable{k:Nat}
variable{n:Nat}
variable{Cs:List Addr}
variable{as:List Str}
variable{B:Addr}
variable{bn:List Str}{d:FD}{f:Addr}{Zb:List PG}{c:bV}
variable{oc kV doc pm cdv ct:Value}{od an:Option Addr}{osl:Array (Option Value)}
variable{x:Str}
variable{N:Addr}{nm q:Str}{bs:List Value}{sn:List Str}{ab:Bool}{dd:Option Addr}{k0 k1 k2 k3 k5:Option Value}
section
variable{P:bg}{w:bH}{K:PySem.W.Frag}{mg:Str->Option Value}{base:Heap}
abbrev fM(P:bg)(w:bH)(K:PySem.W.Frag)(mg:Str->Option Value)(base:Heap)(k:Nat)(x:Str)(m:List D->R D):Prop:=E2 P w K mg base k x (.fn (E6 K m) [])
def GR(P:bg)(w:bH)(K:PySem.W.Frag)(mg:Str->Option Value)(base:Heap)(k:Nat)(gl:List Str)(Zb:List PG):Prop:=∃Y,zK P w K mg base k gl Y/\cu K Zb Y
theorem gN:GR P w K mg base k [] []:=⟨[],trivial,trivial⟩
section
variable{k:Nat}{x:Str}{gl:List Str}{Zb:List PG}
theorem gG{p:PG}(g:G)(h:E2 P w K mg base k x g)(e:Oc K p g)(r:GR P w K mg base k gl Zb):GR P w K mg base k (x::gl) (p::Zb):=by
 obtain⟨Y,a,b⟩:=r;exact⟨g::Y,⟨h,a⟩,⟨_,_,rfl,e,b⟩⟩
theorem gF{j:Nat}{m:List D->R D}(h:fM P w K mg base j x m)(r:GR P w K mg base k gl Zb)(l:j<=k:=by decide):GR P w K mg base k (x::gl) (.fn m []::Zb):=by
 obtain⟨f,fd,ps,ds,F,q⟩:=h;exact gG (.fn (E6 K m) []) ⟨f,fd,ps,ds,F.mono l,q⟩ ⟨fun _ _ _ _ h=>h,rfl,rfl⟩ r
def My(P:bg)(w:bH)(K:PySem.W.Frag)(mg:Str->Option Value)(x:Str)(C:Addr)(fs:List (Str×Nat))(n:Nat):Prop:=mg x=some (.ref C)/\∀base,Ef P w K mg base 1 C fs n
theorem gC{C:Addr}{fs:List (Str×Nat)}(h:My P w K mg x C fs n)(r:GR P w K mg base k gl Zb)(l:2<=k:=by decide):GR P w K mg base k (x::gl) (.cls C fs n::Zb):=gG (.cls C fs n) ⟨h.1,1,l,h.2 base⟩ ⟨rfl,rfl,rfl⟩ r
theorem gI{D:Addr}(h:mg x=some (.ref D)/\gw K D Cs)(r:GR P w K mg base k gl Zb):GR P w K mg base k (x::gl) (.gY D Cs::Zb):=gG (.gY D Cs) h ⟨rfl,rfl⟩ r
theorem gX(h:rO K Cs as)(r:GR P w K mg base k gl Zb):GR P w K mg base k (x::gl) (.nM Cs as::Zb):=gG (.nM Cs as) h ⟨rfl,rfl⟩ r
def VL(K:PySem.W.Frag)(mg:Str->Option Value)(x:Str)(B:Addr)(Cs:List Addr):Prop:=(mg x=some (.ref B)/\Au K B)/\∀C∈Cs,PySem.W.mroIn K C (.ref B)=some true
theorem gB(h:VL K mg x B Cs)(r:GR P w K mg base k gl Zb):GR P w K mg base k (x::gl) (.exb Cs::Zb):=gG (.exb B Cs) h.1 ⟨rfl,h.2⟩ r
theorem gV{d:D}{v:V}(h:∃u,mg x=some u/\RelV v u)(e:aV K (fun _=>none) d v)(r:GR P w K mg base k gl Zb):GR P w K mg base k (x::gl) (.val d::Zb):=gG (.val v) h e r
theorem gT{d:D}{a:Addr}{xs:List V}(h:mg x=some (.ref a)/\CT K a true xs)(e:aV K (fun _=>none) d (.ref a))(r:GR P w K mg base k gl Zb):GR P w K mg base k (x::gl) (.val d::Zb):=gG (.tup a xs) h e r
end
theorem fF{fd:eW}(F:pJ K d.n d.n d.s f fd)(h:d.dW bn c=true)(hb:∀x∈bn,mg x=none)(r:GR P w K mg base k d.gl Zb):eV P w K mg base (jH P w) (k+1) f fd d.ps (E6 K (cX Zb n d.N d.k c)):=by
 obtain⟨Y,a,b⟩:=r;unfold FD.dW at h;simp only[bx,beq_iff_eq]at h;obtain⟨h1,h2,h3,h4⟩:=h;rw[<-h4];refine W4 (Y:=Y) c F (AD h2) h1 a b h3 hb ?_;unfold FD.ps;rw[jS];omega
theorem fD(D:DI K mg d)(h:d.dW bn c=true)(hb:∀x∈bn,mg x=none)(r:GR P w K mg base k d.gl Zb):fM P w K mg base (k+1) d.n (cX Zb n d.N d.k c):=
 Ej.has D fun _ _ F=>fF F h hb r
variable{h:Heap}
theorem dI(X:K.In h)(G:h.Ns cN mg)(a:PySem.W.nsIn K cN d.n=some (some (.ref f)):=by k_is)
  (l:K.lookup f=some ⟨oc,od,.func (PySem.W.fnOf d.n d.n (kQ d.s) (fE d.s) (bT d.s) .none kV doc pm an cdv ct),osl⟩:=by k_is) (c:PySem.W.codeIn K cdv d.n=true:=by k_is) (k:PySem.W.keepIn K (.ref f)=true:=by k_is)
  (b:∀(kV doc pm:Value) (an:Option Addr) (cdv ct:Value) (us:List Value),us.length=d.ps.length->rm (PySem.W.fnOf d.n d.n (kQ d.s) (fE d.s) (bT d.s) .none kV doc pm an cdv ct) ⟨us,[]⟩=pure (d.ps.zip us):=by(intro _ _ _ _ _ _ us hl;rcases us with _|⟨_,_|⟨_,_|⟨_,_|⟨_,_|⟨_,_|⟨_,_⟩⟩⟩⟩⟩⟩<;>first|rfl|cases hl)):DI K mg d:=
 ⟨_,_,fun_mk l c k,PySem.W.mg_of X G a,(fun_mk l c k).binds b⟩
theorem iI{v:Value}(X:K.In h)(G:h.Ns cN mg)(a:PySem.W.nsIn K cN x=some (some v):=by k_is):mg x=some v:=PySem.W.mg_of X G a
noncomputable def Yv:Option (Option Value)->Bool
|some none=>true
|_=>false
theorem zI(X:K.In h)(G:h.Ns cN mg)(a:(bn.all fun x=>Yv (PySem.W.nsIn K cN x))=true:=by kernel_rfl):∀x∈bn,mg x=none:=fun x hx=>PySem.W.mg_none_of X G (by
 have q:=bz.mp a x hx;revert q;rcases PySem.W.nsIn K cN x with _|_|_<;>intro q<;>first|rfl|cases q)
theorem hXI(X:K.In h)(a:(Cs.all fun C=>El K C as)=true:=by kernel_rfl)(hn:PySem.W.specialIn K (.builtin "object.__class__") "__get__"=some (some (.builtin "getset_descriptor.__get__")):=by k_is)(htk:PySem.W.takesIn K (.builtin "object.__class__")=some true:=by k_is) :
  ∀C∈Cs,tU K C/\sX K C/\∀f∈as,iU K C f:=Qd a hn htk
structure CD where
 n:Str
 C:Addr
 s:Stmt
 ps:List Str
 fs:List (Str×Nat)
noncomputable def CD.dW(as:List Str)(d:CD):Bool:=qx d.ps d.fs (fE d.s)&&(Ry d.ps d.ps (bT d.s)&&(decide (∀p∈d.fs,p.1∈as)&&(decide (∀x∈d.ps,(x==("__debug__":Str))=false/\(x==("__classdict__":Str))=false)&&(decide (∀p∈d.fs,p.2<d.ps.length/\1<=p.2)&&decide (d.fs.length<=900/\0<d.fs.length/\d.ps.length<=1000)))))
theorem cI{d:CD}{fI:Addr}{hdct:Bool}{sub:List Value}{col:Option Bool}
  (X:K.In h) (G:h.Ns cN mg) (hx:tU K d.C/\sX K d.C/\∀f∈as,iU K d.C f) (xb:Fy K B) (o:d.dW as=true) (a:PySem.W.nsIn K cN d.n=some (some (.ref d.C)):=by k_is) (xi:PySem.W.findIn K (.ref d.C) "__init__"=some (some (.ref fI)):=by k_is) (xf:PySem.W.typeIn K (.ref fI)=some (.type "function"):=by k_is) (xk:PySem.W.keepIn K (.ref d.C)=true:=by k_is)
  (xl:K.lookup d.C=some (ig nm q d.C N bs (.ref B::[.type "ValueError",.type "Exception",.type "BaseException",.type "object"]) hdct sn sub ab col dd k0 k1 k2 k3 k5 "ValueError.__new__"):=by k_is)
  (l:K.lookup fI=some ⟨oc,od,.func (PySem.W.fnOf "__init__" (d.n++".__init__") (kQ d.s) (fE d.s) (bT d.s) .none kV doc pm an cdv ct),osl⟩:=by k_is) (c:PySem.W.codeIn K cdv (d.n++".__init__")=true:=by k_is) (k:PySem.W.keepIn K (.ref fI)=true:=by k_is)
  (b:∀(kV doc pm:Value) (an:Option Addr) (cdv ct:Value) (us:List Value),us.length=d.ps.length->rm (PySem.W.fnOf "__init__" (d.n++".__init__") (kQ d.s) (fE d.s) (bT d.s) .none kV doc pm an cdv ct) ⟨us,[]⟩=pure (d.ps.zip us):=by(intro _ _ _ _ _ _ us hl;rcases us with _|⟨_,_|⟨_,_|⟨_,_|⟨_,_|⟨_,_|⟨_,_⟩⟩⟩⟩⟩⟩<;>first|rfl|cases hl)):My P w K mg d.n d.C d.fs d.ps.length:=by
 refine⟨PySem.W.mg_of X G a,fun base=>?_⟩;unfold CD.dW at o;simp only[bx,decide_eq_true_eq]at o;obtain⟨h1,h2,h3,h4,h5,h6,h7,h8⟩:=o;exact VJ hx xi xf xk xl xb (fun_mk l c k) ((fun_mk l c k).binds b) (AD h2) h3 h1 h4 h5 h6 h7 h8
theorem eI{bm:List Value}{hd:Bool}{sb:List Value}{cl:Option Bool}{ni:String}(X:K.In h)(G:h.Ns cN mg)(a:PySem.W.nsIn K cN x=some (some (.ref B)):=by k_is)
  (l:K.lookup B=some (ig nm q B N bs bm hd sn sb ab cl dd k0 k1 k2 k3 k5 ni):=by k_is) (c:bm.contains (.type "BaseException")=true:=by kernel_rfl) (m:(Cs.all fun C=>PySem.W.mroIn K C (.ref B)==some true)=true:=by kernel_rfl):VL K mg x B Cs:=
 ⟨⟨PySem.W.mg_of X G a,_,_,_,_,_,_,_,_,_,_,_,_,_,_,_,_,_,l,c⟩,VI m⟩
theorem bI{c0:Value}{d0:Option Addr}{cd:ClassData}{s0:Array (Option Value)}{c1:Value}{d1:Option Addr}{es:Array DictEntry}{ep:Nat}{s1:Array (Option Value)}(X:K.In h)(l:K.lookup B=some ⟨c0,d0,.cls cd,s0⟩:=by k_is)(q:cd.ns=N:=by rfl)(n:K.lookup N=some ⟨c1,d1,.dict es ep,s1⟩:=by k_is)
  (a:(es.all fun e=>match e.key with|.str _ _=>true|_=>false)=true:=by kernel_rfl) (f:A9 es "__init__"=none:=by kernel_rfl):Fy K B:=⟨_,_,_,_,_,_,_,_,_,l,by rw[q];exact n,a,f⟩
end
end L3
end
section
namespace Tr
open PySem L2 L3
def top(i:Nat):Stmt:=PySem.Challenge.pw_claimwise_k10_first_row_at_fault.main.body.getD i (.Pass ⟨0,0,0,0⟩)
abbrev Di:List Str:=["text"]
noncomputable def wK:bV:=
 (.cons (.ifs (.not (.chain .LtE .LtE (.con (.int 1)) (.blt .len (.cons (.var 0) .nil)) (.glo 2)))
  (.cons (.ret (.con (.bl false)))
 .nil)
  .nil)
 (.cons (.ret (.and (.call 1 (.cons (.var 0) (.cons (.con (.str "a")) (.cons (.con (.str "z")) .nil)))) (.cmp .NotIn (.var 0) (.glo 0))))
 .nil))
abbrev yS:List Str:=["text","figures"]
noncomputable def oF:bV:=
 (.cons (.asg (.name 1) (.ite (.mth .startswith (.var 0) (.cons (.con (.str "-")) .nil)) (.sl (.var 0) (.some (.con (.int 1))) .none) (.var 0)))
 (.cons (.ifs (.or (.not (.call 0 (.cons (.var 1) .nil))) (.cmp .Eq (.var 0) (.con (.str "-0"))))
  (.cons (.ret (.con .non))
 .nil)
  .nil)
 (.cons (.ret (.blt .int (.cons (.var 0) .nil)))
 .nil)))
abbrev wL:List Str:=["text"]
noncomputable def qQ:bV:=
 (.cons (.ifs (.or (.not (.chain .LtE .LtE (.con (.int 1)) (.blt .len (.cons (.var 0) .nil)) (.glo 1))) (.not (.call 0 (.cons (.var 0) (.cons (.con (.str "0")) (.cons (.con (.str "9")) .nil))))))
  (.cons (.ret (.con (.bl false)))
 .nil)
  .nil)
 (.cons (.ret (.or (.cmp .Eq (.var 0) (.con (.str "0"))) (.not (.mth .startswith (.var 0) (.cons (.con (.str "0")) .nil)))))
 .nil))
abbrev wM:List Str:=["text","first","last"]
noncomputable def qR:bV:=
 (.cons (.ret (.blt .all (.cons (.comp ["sign"] [1,2] (.chain .LtE .LtE (.var 1) (.var 0) (.var 2)) (.name 0) (.seq (.var 0)) .none) .nil)))
 .nil)
abbrev Dj:List Str:=["text"]
noncomputable def wN:bV:=
 (.cons (.ret (.comp ["row"] [] (.call 0 (.cons (.var 0) .nil)) (.name 0) (.seq (.mth .split (.var 0) (.cons (.con (.str "\n")) .nil))) .none))
 .nil)
abbrev AL:List Str:=["row"]
noncomputable def uU:bV:=
 (.cons (.ret (.comp ["word"] [] (.var 0) (.name 0) (.seq (.mth .split (.var 0) (.cons (.con (.str " ")) .nil))) (.some (.cmp .NotEq (.var 0) (.con (.str ""))))))
 .nil)
abbrev vp:List Str:=["text","claims","row","words","takes","rows"]
noncomputable def gk:bV:=
 (.cons (.ifs (.cmp .Eq (.var 3) (.lst .nil))
  (.cons (.cont)
 .nil)
  .nil)
 (.cons (.ifs (.cmp .Eq (.ix (.var 3) (.con (.int 0))) (.con (.str "claim")))
  (.cons (.asg (.name 4) (.call 3 (.cons (.var 3) (.cons (.var 2) (.cons (.blt .len (.cons (.var 1) .nil)) .nil)))))
 (.cons (.ifs (.cmp .GtE (.blt .len (.cons (.var 1) .nil)) (.glo 1))
  (.cons (.rais 2 (.cons (.con (.int 0)) (.cons (.var 2) .nil)))
 .nil)
  .nil)
 (.cons (.expr (.mth .append (.var 1) (.cons (.tup (.cons (.var 4) (.cons (.lst .nil) .nil))) .nil)))
 .nil)))
  (.cons (.ifs (.cmp .Eq (.var 1) (.lst .nil))
  (.cons (.rais 4 (.cons (.var 2) .nil))
 .nil)
  (.two (.asg (.name 5) (.ix (.ix (.var 1) (.neg (.con (.int 1)))) (.con (.int 1))))
 (.expr (.mth .append (.var 5) (.cons (.call 5 (.cons (.var 3) (.cons (.var 2) (.cons (.blt .len (.cons (.var 5) .nil)) .nil)))) .nil)))
 .nil))
 .nil))
 .nil))
noncomputable def o9:bV:=
 (.cons (.asg (.name 1) (.lst .nil))
 (.cons (.forr (.tup (.cons (.name 2) (.cons (.name 3) .nil))) (.enum (.call 0 (.cons (.var 0) .nil))) gk)
 (.cons (.ret (.var 1))
 .nil)))
abbrev AM:List Str:=["words","row","above","takes","number"]
noncomputable def lP:bV:=
 (.cons (.ifs (.not (.chain .LtE .LtE (.con (.int 1)) (.var 4) (.var 2)))
  (.cons (.rais 0 (.cons (.var 1) .nil))
 .nil)
  .nil)
 .nil)
noncomputable def uV:bV:=
 (.cons (.asg (.name 3) (.call 2 (.cons (.sl (.var 0) (.some (.con (.int 1))) .none) .nil)))
 (.cons (.ifs (.cmp .Is (.var 3) (.con .non))
  (.cons (.rais 1 (.cons (.var 1) .nil))
 .nil)
  .nil)
 (.cons (.forr (.name 4) (.seq (.var 3)) lP)
 (.cons (.ret (.var 3))
 .nil))))
abbrev Fz:List Str:=["words","row","above","told"]
noncomputable def uW:bV:=
 (.cons (.asg (.name 3) (.call 3 (.cons (.var 0) .nil)))
 (.cons (.ifs (.cmp .Is (.var 3) (.con .non))
  (.cons (.rais 2 (.cons (.var 1) .nil))
 .nil)
  .nil)
 (.cons (.ifs (.cmp .GtE (.var 2) (.glo 0))
  (.cons (.rais 1 (.cons (.con (.int 0)) (.cons (.var 1) .nil)))
 .nil)
  .nil)
 (.cons (.ret (.var 3))
 .nil))))
abbrev rR:List Str:=["words","chosen","numbers","one","other"]
noncomputable def oS:bV:=
 (.cons (.ifs (.cmp .GtE (.var 3) (.var 4))
  (.cons (.ret (.con .non))
 .nil)
  .nil)
 .nil)
noncomputable def kc:bV:=
 (.cons (.ifs (.cmp .Eq (.var 0) (.lst .nil))
  (.cons (.ret (.lst .nil))
 .nil)
  .nil)
 (.cons (.asg (.name 1) (.call 1 (.cons (.sl (.var 0) (.some (.con (.int 1))) .none) .nil)))
 (.cons (.ifs (.or (.cmp .NotEq (.ix (.var 0) (.con (.int 0))) (.con (.str "on"))) (.cmp .Is (.var 1) (.con .non)))
  (.cons (.ret (.con .non))
 .nil)
  .nil)
 (.cons (.casg 2 (.comp ["word"] [] (.call 0 (.cons (.var 0) .nil)) (.name 0) (.seq (.var 1)) .none))
 (.cons (.ifs (.or (.cmp .In (.con .non) (.var 2)) (.cmp .Lt (.ix (.var 2) (.con (.int 0))) (.con (.int 0))))
  (.cons (.ret (.con .non))
 .nil)
  .nil)
 (.cons (.forr (.tup (.cons (.name 3) (.cons (.name 4) .nil))) (.zip (.cons (.var 2) (.cons (.sl (.var 2) (.some (.con (.int 1))) .none) .nil))) oS)
 (.cons (.ret (.var 2))
 .nil)))))))
abbrev wQ:List Str:=["words"]
noncomputable def wR:bV:=
 (.cons (.ifs (.cmp .Eq (.bin .Mod (.blt .len (.cons (.var 0) .nil)) (.con (.int 2))) (.con (.int 0)))
  (.cons (.ret (.con .non))
 .nil)
  .nil)
 (.cons (.ifs (.blt .any (.cons (.comp ["word"] [] (.cmp .NotEq (.var 0) (.con (.str "or"))) (.name 0) (.seq (.slp (.var 0) (.some (.con (.int 1))) .none 2)) .none) .nil))
  (.cons (.ret (.con .non))
 .nil)
  .nil)
 (.cons (.ret (.slp (.var 0) (.some (.con (.int 0))) .none 2))
 .nil)))
abbrev AN:List Str:=["words"]
noncomputable def jO:bV:=
 (.cons (.ifs (.cmp .In (.ix (.var 0) (.con (.int 0))) (.glo 4))
  (.cons (.ret (.call 3 (.cons (.con (.bl false)) (.cons (.bin .Add (.lst (.cons (.con (.str "1")) .nil)) (.sl (.var 0) (.some (.con (.int 1))) .none)) .nil))))
 .nil)
  .nil)
 (.cons (.ifs (.cmp .Eq (.sl (.var 0) .none (.some (.con (.int 2)))) (.lst (.cons (.con (.str "at")) (.cons (.con (.str "least")) .nil))))
  (.cons (.ret (.call 3 (.cons (.con (.bl false)) (.cons (.sl (.var 0) (.some (.con (.int 2))) .none) .nil))))
 .nil)
  .nil)
 (.cons (.ifs (.cmp .Eq (.ix (.var 0) (.con (.int 0))) (.con (.str "just")))
  (.cons (.ret (.call 3 (.cons (.con (.bl true)) (.cons (.sl (.var 0) (.some (.con (.int 1))) .none) .nil))))
 .nil)
  .nil)
 (.cons (.ifs (.cmp .Eq (.ix (.var 0) (.con (.int 0))) (.con (.str "then")))
  (.cons (.ret (.call 2 (.cons (.sl (.var 0) (.some (.con (.int 1))) .none) .nil)))
 .nil)
  .nil)
 (.cons (.ifs (.cmp .In (.ix (.var 0) (.con (.int 0))) (.glo 0))
  (.cons (.ret (.call 1 (.cons (.sl (.var 0) (.some (.con (.int 1))) .none) .nil)))
 .nil)
  .nil)
 (.cons (.ret (.con .non))
 .nil))))))
abbrev wU:List Str:=["closed","words","many","label","kinds"]
noncomputable def kD:bV:=
 (.cons (.ifs (.cmp .Lt (.blt .len (.cons (.var 1) .nil)) (.con (.int 2)))
  (.cons (.ret (.con .non))
 .nil)
  .nil)
 (.cons (.asg (.name 2) (.call 3 (.cons (.ix (.var 1) (.con (.int 0))) .nil)))
 (.cons (.ifs (.or (.cmp .Is (.var 2) (.con .non)) (.not (.chain .LtE .LtE (.con (.int 1)) (.var 2) (.glo 2))))
  (.cons (.ret (.con .non))
 .nil)
  .nil)
 (.cons (.asg (.name 3) (.ite (.and (.cmp .Gt (.blt .len (.cons (.var 1) .nil)) (.con (.int 2))) (.cmp .NotEq (.ix (.var 1) (.con (.int 2))) (.con (.str "or")))) (.ix (.var 1) (.con (.int 1))) (.con (.str ""))))
 (.cons (.asg (.name 4) (.call 1 (.cons (.ite (.cmp .Eq (.var 3) (.con (.str ""))) (.sl (.var 1) (.some (.con (.int 1))) .none) (.sl (.var 1) (.some (.con (.int 2))) .none)) .nil)))
 (.cons (.ifs (.or (.cmp .Is (.var 4) (.con .non)) (.not (.or (.cmp .Eq (.var 3) (.con (.str ""))) (.call 0 (.cons (.var 3) .nil)))))
  (.cons (.ret (.con .non))
 .nil)
  .nil)
 (.cons (.ret (.tup (.cons (.con (.str "parts")) (.cons (.var 2) (.cons (.var 0) (.cons (.var 3) (.cons (.var 4) .nil)))))))
 .nil)))))))
abbrev wV:List Str:=["words","kinds"]
noncomputable def qS:bV:=
 (.cons (.asg (.name 1) (.call 2 (.cons (.var 0) .nil)))
 (.cons (.ifs (.or (.cmp .Is (.var 1) (.con .non)) (.cmp .Gt (.blt .len (.cons (.var 1) .nil)) (.glo 1)))
  (.cons (.ret (.con .non))
 .nil)
  .nil)
 (.cons (.ifs (.or (.not (.call 0 (.cons (.var 1) .nil))) (.cmp .NotEq (.nset (.var 1)) (.blt .len (.cons (.var 1) .nil))))
  (.cons (.ret (.con .non))
 .nil)
  .nil)
 (.cons (.ret (.var 1))
 .nil))))
abbrev yT:List Str:=["words","ref"]
noncomputable def tw:bV:=
 (.cons (.ifs (.or (.cmp .Lt (.blt .len (.cons (.var 0) .nil)) (.con (.int 2))) (.or (.not (.call 2 (.cons (.ix (.var 0) (.con (.int 0))) .nil))) (.cmp .NotIn (.ix (.var 0) (.con (.int 1))) (.glo 1))))
  (.cons (.ret (.con .non))
 .nil)
  .nil)
 (.cons (.asg (.name 1) (.call 0 (.cons (.sl (.var 0) (.some (.con (.int 2))) .none) .nil)))
 (.cons (.ifs (.cmp .Is (.var 1) (.con .non))
  (.cons (.ret (.con .non))
 .nil)
  .nil)
 (.cons (.ret (.tup (.cons (.con (.str "then")) (.cons (.ix (.var 0) (.con (.int 0))) (.cons (.var 1) .nil)))))
 .nil))))
abbrev AO:List Str:=["words","label"]
noncomputable def p_:bV:=
 (.cons (.ifs (.or (.not (.chain .LtE .LtE (.con (.int 1)) (.blt .len (.cons (.var 0) .nil)) (.con (.int 2)))) (.not (.call 0 (.cons (.var 0) .nil))))
  (.cons (.ret (.con .non))
 .nil)
  .nil)
 (.cons (.asg (.name 1) (.ite (.cmp .Eq (.blt .len (.cons (.var 0) .nil)) (.con (.int 2))) (.ix (.var 0) (.con (.int 0))) (.con (.str ""))))
 (.cons (.ret (.tup (.cons (.var 1) (.cons (.ix (.var 0) (.neg (.con (.int 1)))) .nil))))
 .nil)))
abbrev vq:List Str:=["words","count","behind","ref"]
noncomputable def jW:bV:=
 (.cons (.asg (.name 1) (.call 5 (.cons (.var 0) .nil)))
 (.cons (.ifs (.cmp .Eq (.var 1) (.blt .len (.cons (.var 0) .nil)))
  (.cons (.ret (.con .non))
 .nil)
  .nil)
 (.cons (.asg (.name 2) (.sl (.var 0) (.some (.var 1)) .none))
 (.cons (.ifs (.cmp .Eq (.ix (.var 2) (.con (.int 0))) (.con (.str "is")))
  (.cons (.ret (.call 4 (.cons (.sl (.var 0) .none (.some (.var 1))) (.cons (.sl (.var 2) (.some (.con (.int 1))) .none) .nil))))
 .nil)
  .nil)
 (.cons (.ifs (.cmp .Lt (.var 1) (.con (.int 2)))
  (.cons (.ret (.con .non))
 .nil)
  .nil)
 (.cons (.asg (.name 3) (.call 3 (.cons (.sl (.var 0) .none (.some (.bin .Sub (.var 1) (.con (.int 1))))) .nil)))
 (.cons (.ifs (.cmp .Is (.var 3) (.con .non))
  (.cons (.ret (.con .non))
 .nil)
  .nil)
 (.cons (.ifs (.cmp .In (.ix (.var 2) (.con (.int 0))) (.glo 1))
  (.cons (.ret (.call 2 (.cons (.var 3) (.cons (.ix (.var 0) (.bin .Sub (.var 1) (.con (.int 1)))) (.cons (.sl (.var 2) (.some (.con (.int 1))) .none) .nil)))))
 .nil)
  .nil)
 (.cons (.ret (.call 0 (.cons (.var 3) (.cons (.ix (.var 0) (.bin .Sub (.var 1) (.con (.int 1)))) (.cons (.var 2) .nil)))))
 .nil)))))))))
abbrev lB:List Str:=["words","count"]
noncomputable def kg:bV:=
 (.cons (.aug 1 (.con (.int 1)))
 .nil)
noncomputable def je:bV:=
 (.cons (.asg (.name 1) (.con (.int 0)))
 (.cons (.whil (.and (.cmp .Lt (.var 1) (.blt .len (.cons (.var 0) .nil))) (.call 0 (.cons (.ix (.var 0) (.var 1)) .nil))) kg)
 (.cons (.ret (.var 1))
 .nil)))
abbrev Dk:List Str:=["ref_words","words","ref","kinds"]
noncomputable def wW:bV:=
 (.cons (.asg (.name 2) (.call 2 (.cons (.var 0) .nil)))
 (.cons (.asg (.name 3) (.call 1 (.cons (.sl (.var 1) (.some (.con (.int 1))) .none) .nil)))
 (.cons (.ifs (.or (.cmp .Is (.var 2) (.con .non)) (.or (.cmp .Is (.var 3) (.con .non)) (.cmp .NotIn (.ix (.var 1) (.con (.int 0))) (.glo 0))))
  (.cons (.ret (.con .non))
 .nil)
  .nil)
 (.cons (.ret (.tup (.cons (.con (.str "is")) (.cons (.var 2) (.cons (.var 3) .nil)))))
 .nil))))
abbrev yU:List Str:=["ref","word","words","other"]
noncomputable def tB:bV:=
 (.cons (.asg (.name 3) (.call 0 (.cons (.var 2) .nil)))
 (.cons (.ifs (.cmp .Is (.var 3) (.con .non))
  (.cons (.ret (.con .non))
 .nil)
  .nil)
 (.cons (.ret (.tup (.cons (.con (.str "join")) (.cons (.var 0) (.cons (.var 1) (.cons (.var 3) .nil))))))
 .nil)))
abbrev yV:List Str:=["ref","word","words","bounds"]
noncomputable def tD:bV:=
 (.cons (.asg (.name 3) (.call 0 (.cons (.var 2) .nil)))
 (.cons (.ifs (.cmp .Is (.var 3) (.con .non))
  (.cons (.ret (.con .non))
 .nil)
  .nil)
 (.cons (.ret (.tup (.cons (.con (.str "size")) (.cons (.var 0) (.cons (.var 1) (.cons (.ix (.var 3) (.con (.int 0))) (.cons (.ix (.var 3) (.con (.int 1))) .nil)))))))
 .nil)))
abbrev vt:List Str:=["words","form","numbers"]
noncomputable def iS:bV:=
 (.cons (.casg 1 (.comp ["word"] [] (.ite (.cmp .Is (.call 0 (.cons (.var 0) .nil)) (.con .non)) (.var 0) (.con (.str ""))) (.name 0) (.seq (.var 0)) .none))
 (.cons (.casg 2 (.comp ["word"] [] (.call 0 (.cons (.var 0) .nil)) (.name 0) (.seq (.var 0)) (.some (.cmp .IsNot (.call 0 (.cons (.var 0) .nil)) (.con .non)))))
 (.cons (.ifs (.cmp .Eq (.var 1) (.lst (.cons (.con (.str "of")) (.cons (.con (.str "")) .nil))))
  (.cons (.ret (.tup (.cons (.ix (.var 2) (.con (.int 0))) (.cons (.ix (.var 2) (.con (.int 0))) .nil))))
 .nil)
  .nil)
 (.cons (.ifs (.cmp .Eq (.var 1) (.lst (.cons (.con (.str "at")) (.cons (.con (.str "least")) (.cons (.con (.str "")) .nil)))))
  (.cons (.ret (.tup (.cons (.ix (.var 2) (.con (.int 0))) (.cons (.con .non) .nil))))
 .nil)
  .nil)
 (.cons (.ifs (.cmp .Eq (.var 1) (.lst (.cons (.con (.str "at")) (.cons (.con (.str "most")) (.cons (.con (.str "")) .nil)))))
  (.cons (.ret (.tup (.cons (.con .non) (.cons (.ix (.var 2) (.con (.int 0))) .nil))))
 .nil)
  .nil)
 (.cons (.ifs (.and (.cmp .Eq (.var 1) (.lst (.cons (.con (.str "from")) (.cons (.con (.str "")) (.cons (.con (.str "to")) (.cons (.con (.str "")) .nil)))))) (.cmp .LtE (.ix (.var 2) (.con (.int 0))) (.ix (.var 2) (.con (.int 1)))))
  (.cons (.ret (.tup (.cons (.ix (.var 2) (.con (.int 0))) (.cons (.ix (.var 2) (.con (.int 1))) .nil))))
 .nil)
  .nil)
 (.cons (.ret (.con .non))
 .nil)))))))
abbrev yW:List Str:=["words"]
noncomputable def tE:bV:=
 (.cons (.ret (.blt .all (.cons (.comp ["word"] [] (.call 0 (.cons (.var 0) .nil)) (.name 0) (.seq (.var 0)) .none) .nil)))
 .nil)
abbrev FA:List Str:=["_law_script","_law_k"]
noncomputable def zT:bV:=
 (.cons (.ifs (.cmp .Lt (.var 1) (.blt .len (.cons (.var 0) .nil)))
  (.cons (.ret (.ix (.var 0) (.var 1)))
 .nil)
  .nil)
 (.cons (.ret (.bin .Mult (.con (.int 2377)) (.bin .Add (.var 1) (.con (.int 1)))))
 .nil))
abbrev Dl:List Str:=["_law_cell_here","_law_k","_law_once"]
noncomputable def wX:bV:=
 (.cons (.asg (.name 2) (.bin .Mod (.bin .Mult (.bin .Add (.bin .Add (.bin .Mod (.var 0) (.con (.int 2147483647))) (.bin .Mult (.con (.int 7919)) (.var 1))) (.con (.int 1))) (.con (.int 48271))) (.con (.int 2147483647))))
 (.cons (.ret (.bin .FloorDiv (.bin .Mod (.bin .Mult (.var 2) (.bin .Add (.bin .Mod (.var 2) (.con (.int 1009))) (.con (.int 1)))) (.con (.int 2147483629))) (.con (.int 3))))
 .nil))
abbrev FE:List Str:=["_law_seed","_law_which","_law_letters","_law_size","_law_rest","_law_spot","_law_sign"]
noncomputable def zU:bV:=
 (.cons (.asg (.name 2) (.con (.str "abcdefghijklmnopqrstuvwxyz")))
 (.cons (.asg (.name 3) (.bin .Add (.con (.int 1)) (.bin .Mod (.var 0) (.con (.int 8)))))
 (.cons (.ifs (.cmp .Eq (.var 3) (.con (.int 1)))
  (.cons (.ret (.ix (.var 2) (.bin .Add (.con (.int 1)) (.bin .Mod (.bin .Add (.bin .FloorDiv (.var 0) (.con (.int 8))) (.bin .Mult (.con (.int 3)) (.var 1))) (.con (.int 25))))))
 .nil)
  .nil)
 (.cons (.asg (.name 4) (.ix (.con (.str "bgkpqvwxyz")) (.bin .Mod (.bin .FloorDiv (.var 0) (.con (.int 8))) (.con (.int 10)))))
 (.cons (.asg (.name 5) (.bin .Mod (.bin .FloorDiv (.var 0) (.con (.int 80))) (.var 3)))
 (.cons (.asg (.name 6) (.ix (.var 2) (.bin .Mod (.bin .Add (.bin .FloorDiv (.var 0) (.con (.int 640))) (.bin .Mult (.con (.int 5)) (.var 1))) (.con (.int 26)))))
 (.cons (.ret (.bin .Add (.bin .Add (.bin .Mult (.var 4) (.var 5)) (.var 6)) (.bin .Mult (.var 4) (.bin .Sub (.bin .Sub (.var 3) (.con (.int 1))) (.var 5)))))
 .nil)))))))
abbrev Ig:List Str:=["_law_seed","_law_d","_law_label"]
noncomputable def yi:bV:=
 (.cons (.asg (.name 2) (.con (.str "")))
 (.cons (.ifs (.cmp .Eq (.bin .Mod (.var 1) (.con (.int 2))) (.con (.int 1)))
  (.cons (.asg (.name 2) (.call 0 (.cons (.var 0) (.cons (.bin .Mod (.bin .FloorDiv (.var 1) (.con (.int 2))) (.con (.int 26))) .nil))))
 .nil)
  .nil)
 (.cons (.ret (.tup (.cons (.var 2) (.cons (.call 0 (.cons (.var 0) (.cons (.bin .Mod (.bin .FloorDiv (.var 1) (.con (.int 52))) (.con (.int 26))) .nil))) .nil))))
 .nil)))
abbrev FF:List Str:=["_law_seed","_law_d"]
noncomputable def zV:bV:=
 (.cons (.ret (.comp ["_law_k"] [0,1] (.call 0 (.cons (.var 1) (.cons (.bin .Add (.bin .Mod (.bin .FloorDiv (.var 2) (.con (.int 3))) (.con (.int 26))) (.var 0)) .nil))) (.name 0) (.range (.cons (.bin .Add (.con (.int 1)) (.bin .Mod (.var 1) (.con (.int 3)))) .nil)) .none))
 .nil)
abbrev AQ:List Str:=["_law_cell_here","_law_d","_law_low","_law_high"]
noncomputable def qa:bV:=
 (.cons (.asg (.name 2) (.ix (.lst (.cons (.bin .Sub (.bin .Mod (.var 1) (.con (.int 5))) (.con (.int 2))) (.cons (.bin .Mod (.var 0) (.bin .Pow (.con (.int 10)) (.con (.int 30)))) (.cons (.bin .Sub (.con (.int 0)) (.bin .Mod (.var 0) (.bin .Pow (.con (.int 10)) (.con (.int 30))))) .nil)))) (.bin .Mod (.bin .FloorDiv (.var 1) (.con (.int 5))) (.con (.int 3)))))
 (.cons (.asg (.name 3) (.bin .Add (.var 2) (.ix (.lst (.cons (.con (.int 0)) (.cons (.bin .Add (.con (.int 1)) (.bin .Mod (.bin .FloorDiv (.var 1) (.con (.int 15))) (.con (.int 7)))) (.cons (.bin .Mod (.var 0) (.bin .Pow (.con (.int 10)) (.con (.int 20)))) .nil)))) (.bin .Mod (.bin .FloorDiv (.var 1) (.con (.int 105))) (.con (.int 3))))))
 (.cons (.ifs (.cmp .Gt (.blt .abs (.cons (.var 3) .nil)) (.bin .Sub (.bin .Pow (.con (.int 10)) (.con (.int 30))) (.con (.int 1))))
  (.cons (.asg (.name 3) (.var 2))
 .nil)
  .nil)
 (.cons (.ifs (.cmp .Eq (.bin .Mod (.bin .FloorDiv (.var 1) (.con (.int 315))) (.con (.int 4))) (.con (.int 0)))
  (.cons (.ret (.tup (.cons (.var 2) (.cons (.con .non) .nil))))
 .nil)
  .nil)
 (.cons (.ifs (.cmp .Eq (.bin .Mod (.bin .FloorDiv (.var 1) (.con (.int 315))) (.con (.int 4))) (.con (.int 1)))
  (.cons (.ret (.tup (.cons (.con .non) (.cons (.var 3) .nil))))
 .nil)
  .nil)
 (.cons (.ret (.tup (.cons (.var 2) (.cons (.var 3) .nil))))
 .nil))))))
abbrev Ih:List Str:=["_law_cell_here","_law_k","_law_seed","_law_d","_law_e","_law_f","_law_label","_law_many","_law_low","_law_high"]
noncomputable def n9:bV:=
 (.cons (.asg (.name 3) (.call 4 (.cons (.var 0) (.cons (.var 1) .nil))))
 (.cons (.asg (.name 4) (.call 4 (.cons (.var 0) (.cons (.bin .Add (.var 1) (.con (.int 40))) .nil))))
 (.cons (.asg (.name 5) (.call 4 (.cons (.var 0) (.cons (.bin .Add (.var 1) (.con (.int 80))) .nil))))
 (.cons (.ifs (.cmp .Lt (.bin .Mod (.var 3) (.con (.int 7))) (.con (.int 3)))
  (.cons (.asg (.name 6) (.ix (.lst (.cons (.con (.str "")) (.cons (.call 1 (.cons (.var 2) (.cons (.bin .Mod (.bin .FloorDiv (.var 4) (.con (.int 78))) (.con (.int 26))) .nil))) .nil))) (.bin .Mod (.bin .FloorDiv (.var 3) (.con (.int 7))) (.con (.int 2)))))
 (.cons (.asg (.name 7) (.ix (.lst (.cons (.con (.int 1)) (.cons (.bin .Add (.con (.int 1)) (.bin .Mod (.var 5) (.con (.int 5)))) (.cons (.bin .Add (.con (.int 1)) (.bin .Mod (.var 5) (.con (.int 5)))) .nil)))) (.bin .Mod (.var 3) (.con (.int 7)))))
 (.cons (.ret (.tup (.cons (.con (.str "parts")) (.cons (.var 7) (.cons (.cmp .Eq (.bin .Mod (.var 3) (.con (.int 7))) (.con (.int 2))) (.cons (.var 6) (.cons (.call 2 (.cons (.var 2) (.cons (.var 4) .nil))) .nil)))))))
 .nil)))
  .nil)
 (.cons (.ifs (.cmp .Eq (.bin .Mod (.var 3) (.con (.int 7))) (.con (.int 3)))
  (.cons (.ret (.tup (.cons (.con (.str "join")) (.cons (.call 0 (.cons (.var 2) (.cons (.var 4) .nil))) (.cons (.call 1 (.cons (.var 2) (.cons (.bin .Mod (.bin .FloorDiv (.var 3) (.con (.int 7))) (.con (.int 26))) .nil))) (.cons (.call 0 (.cons (.var 2) (.cons (.var 5) .nil))) .nil))))))
 .nil)
  .nil)
 (.cons (.ifs (.cmp .Eq (.bin .Mod (.var 3) (.con (.int 7))) (.con (.int 4)))
  (.cons (.tasg (.tup (.cons (.name 8) (.cons (.name 9) .nil))) (.call 3 (.cons (.var 0) (.cons (.var 5) .nil))))
 (.cons (.ret (.tup (.cons (.con (.str "size")) (.cons (.call 0 (.cons (.var 2) (.cons (.var 4) .nil))) (.cons (.call 1 (.cons (.var 2) (.cons (.bin .Mod (.bin .FloorDiv (.var 3) (.con (.int 7))) (.con (.int 26))) .nil))) (.cons (.var 8) (.cons (.var 9) .nil)))))))
 .nil))
  .nil)
 (.cons (.ifs (.cmp .Eq (.bin .Mod (.var 3) (.con (.int 7))) (.con (.int 5)))
  (.cons (.ret (.tup (.cons (.con (.str "is")) (.cons (.call 0 (.cons (.var 2) (.cons (.var 4) .nil))) (.cons (.call 2 (.cons (.var 2) (.cons (.var 5) .nil))) .nil)))))
 .nil)
  .nil)
 (.cons (.ret (.tup (.cons (.con (.str "then")) (.cons (.call 1 (.cons (.var 2) (.cons (.bin .Mod (.bin .FloorDiv (.var 3) (.con (.int 7))) (.con (.int 26))) .nil))) (.cons (.call 0 (.cons (.var 2) (.cons (.var 4) .nil))) .nil)))))
 .nil))))))))
abbrev wY:List Str:=["_law_ref_here"]
noncomputable def qT:bV:=
 (.cons (.ret (.mth .join (.con (.str " ")) (.cons (.comp ["_law_word_here"] [] (.var 0) (.name 0) (.seq (.tup (.cons (.con (.str "the")) (.cons (.ix (.var 0) (.con (.int 0))) (.cons (.ix (.var 0) (.con (.int 1))) .nil))))) (.some (.cmp .NotEq (.var 0) (.con (.str ""))))) .nil)))
 .nil)
abbrev vv:List Str:=["_law_low","_law_high"]
noncomputable def jX:bV:=
 (.cons (.ifs (.cmp .Is (.var 1) (.con .non))
  (.cons (.ret (.bin .Add (.con (.str "at least ")) (.blt .str (.cons (.var 0) .nil))))
 .nil)
  .nil)
 (.cons (.ifs (.cmp .Is (.var 0) (.con .non))
  (.cons (.ret (.bin .Add (.con (.str "at most ")) (.blt .str (.cons (.var 1) .nil))))
 .nil)
  .nil)
 (.cons (.ifs (.cmp .Eq (.var 0) (.var 1))
  (.cons (.ret (.bin .Add (.con (.str "of ")) (.blt .str (.cons (.var 0) .nil))))
 .nil)
  .nil)
 (.cons (.ret (.bin .Add (.bin .Add (.bin .Add (.con (.str "from ")) (.blt .str (.cons (.var 0) .nil))) (.con (.str " to "))) (.blt .str (.cons (.var 1) .nil))))
 .nil))))
abbrev FG:List Str:=["_law_row_here","_law_head_here"]
noncomputable def l6:bV:=
 (.cons (.ifs (.cmp .Eq (.ix (.var 0) (.con (.int 0))) (.con (.str "parts")))
  (.cons (.asg (.name 1) (.bin .Add (.con (.str "at least ")) (.blt .str (.cons (.ix (.var 0) (.con (.int 1))) .nil))))
 (.cons (.ifs (.cmp .Eq (.ix (.var 0) (.con (.int 1))) (.con (.int 1)))
  (.cons (.asg (.name 1) (.con (.str "a")))
 .nil)
  .nil)
 (.cons (.ifs (.ix (.var 0) (.con (.int 2)))
  (.cons (.asg (.name 1) (.bin .Add (.con (.str "just ")) (.blt .str (.cons (.ix (.var 0) (.con (.int 1))) .nil))))
 .nil)
  .nil)
 (.cons (.ret (.mth .join (.con (.str " ")) (.cons (.comp ["_law_word_here"] [] (.var 0) (.name 0) (.seq (.tup (.cons (.var 1) (.cons (.ix (.var 0) (.con (.int 3))) (.cons (.mth .join (.con (.str " or ")) (.cons (.ix (.var 0) (.con (.int 4))) .nil)) .nil))))) (.some (.cmp .NotEq (.var 0) (.con (.str ""))))) .nil)))
 .nil))))
  .nil)
 (.cons (.ifs (.cmp .Eq (.ix (.var 0) (.con (.int 0))) (.con (.str "join")))
  (.cons (.ret (.bin .Add (.bin .Add (.bin .Add (.bin .Add (.call 0 (.cons (.ix (.var 0) (.con (.int 1))) .nil)) (.con (.str " "))) (.ix (.var 0) (.con (.int 2)))) (.con (.str " "))) (.call 0 (.cons (.ix (.var 0) (.con (.int 3))) .nil))))
 .nil)
  .nil)
 (.cons (.ifs (.cmp .Eq (.ix (.var 0) (.con (.int 0))) (.con (.str "size")))
  (.cons (.ret (.bin .Add (.bin .Add (.bin .Add (.bin .Add (.call 0 (.cons (.ix (.var 0) (.con (.int 1))) .nil)) (.con (.str " "))) (.ix (.var 0) (.con (.int 2)))) (.con (.str " "))) (.call 1 (.cons (.ix (.var 0) (.con (.int 3))) (.cons (.ix (.var 0) (.con (.int 4))) .nil)))))
 .nil)
  .nil)
 (.cons (.ifs (.cmp .Eq (.ix (.var 0) (.con (.int 0))) (.con (.str "is")))
  (.cons (.ret (.bin .Add (.bin .Add (.call 0 (.cons (.ix (.var 0) (.con (.int 1))) .nil)) (.con (.str " is a "))) (.mth .join (.con (.str " or ")) (.cons (.ix (.var 0) (.con (.int 2))) .nil))))
 .nil)
  .nil)
 (.cons (.ret (.bin .Add (.bin .Add (.bin .Add (.con (.str "then ")) (.ix (.var 0) (.con (.int 1)))) (.con (.str " "))) (.call 0 (.cons (.ix (.var 0) (.con (.int 2))) .nil))))
 .nil)))))
abbrev yX:List Str:=["_law_text_here","_law_told","_law_e","_law_kinds","_law_others"]
noncomputable def tF:bV:=
 (.cons (.asg (.name 1) (.con .non))
 (.cons (.tri 2 0 (.call 1 (.cons (.var 0) .nil))
  (.cons (.asg (.name 3) (.lst (.cons (.isx true [16] (.var 2)) (.cons (.isx true [15] (.var 2)) (.cons (.isx true [14] (.var 2)) .nil)))))
 (.cons (.asg (.name 4) (.isx false [7,8,9,10,11,12,13] (.var 2)))
 (.cons (.asg (.name 4) (.or (.var 4) (.or (.isx false [3,4,5,6] (.var 2)) (.not (.isv 2 (.var 2))))))
 (.cons (.ifs (.and (.cmp .Eq (.mth .count (.var 3) (.cons (.con (.bl true)) .nil)) (.con (.int 1))) (.not (.var 4)))
  (.cons (.asg (.name 1) (.tup (.cons (.ix (.lst (.cons (.con (.str "row")) (.cons (.con (.str "claim")) (.cons (.con (.str "big")) .nil)))) (.mth .index (.var 3) (.cons (.con (.bl true)) .nil))) (.cons (.att 2 (.var 2) "row") .nil))))
 (.cons (.ifs (.and (.ix (.var 3) (.con (.int 2))) (.cmp .NotEq (.att 2 (.var 2) "claim") (.con (.int 0))))
  (.cons (.asg (.name 1) (.con .non))
 .nil)
  .nil)
 .nil))
  .nil)
 .nil)))))
 (.cons (.ret (.var 1))
 .nil)))
abbrev FH:List Str:=["_law_d","_law_claims_here","_law_number"]
noncomputable def gm:bV:=
 (.cons (.asg (.name 2) (.bin .Add (.con (.int 1)) (.bin .Mod (.bin .FloorDiv (.var 0) (.con (.int 4))) (.bin .Add (.var 1) (.con (.int 1))))))
 (.cons (.ifs (.or (.cmp .Eq (.bin .Mod (.var 0) (.con (.int 4))) (.con (.int 0))) (.and (.cmp .Eq (.var 1) (.con (.int 0))) (.cmp .Gt (.bin .Mod (.var 0) (.con (.int 9))) (.con (.int 0)))))
  (.cons (.ret (.tup (.cons (.con (.str "claim")) (.cons (.lst .nil) .nil))))
 .nil)
  .nil)
 (.cons (.ifs (.cmp .Eq (.bin .Mod (.var 0) (.con (.int 29))) (.con (.int 0)))
  (.cons (.asg (.name 2) (.ix (.lst (.cons (.con (.int 0)) (.cons (.bin .Add (.var 1) (.con (.int 1))) (.cons (.bin .Add (.var 1) (.con (.int 2))) (.cons (.bin .Pow (.con (.int 10)) (.con (.int 29))) .nil))))) (.bin .Mod (.bin .FloorDiv (.var 0) (.con (.int 29))) (.con (.int 4)))))
 .nil)
  (.cons (.ifs (.cmp .Gt (.var 2) (.var 1))
  (.cons (.asg (.name 2) (.con (.int 1)))
 .nil)
  .nil)
 .nil))
 (.cons (.ifs (.and (.cmp .Eq (.bin .Mod (.var 0) (.con (.int 4))) (.con (.int 1))) (.cmp .Lt (.var 2) (.var 1)))
  (.cons (.ret (.tup (.cons (.bin .Add (.bin .Add (.bin .Add (.con (.str "claim on ")) (.blt .str (.cons (.var 2) .nil))) (.con (.str " or "))) (.blt .str (.cons (.var 1) .nil))) (.cons (.lst (.cons (.var 2) (.cons (.var 1) .nil))) .nil))))
 .nil)
  .nil)
 (.cons (.ret (.tup (.cons (.bin .Add (.con (.str "claim on ")) (.blt .str (.cons (.var 2) .nil))) (.cons (.lst (.cons (.var 2) .nil)) .nil))))
 .nil)))))
abbrev Dm:List Str:=["_law_script","_law_seed","_law_often","_law_items_here","_law_heads","_law_k","_law_cell_here","_law_d","_law_text_here","_law_takes_here","_law_row_here","_law_many"]
noncomputable def bX:bV:=
 (.cons (.asg (.name 7) (.call 4 (.cons (.var 6) (.cons (.bin .Add (.var 5) (.con (.int 120))) .nil))))
 (.cons (.ifs (.or (.and (.cmp .Eq (.var 3) (.lst .nil)) (.cmp .Gt (.bin .Mod (.var 7) (.con (.int 13))) (.con (.int 0)))) (.cmp .Lt (.bin .Mod (.var 7) (.con (.int 8))) (.ix (.lst (.cons (.con (.int 2)) (.cons (.con (.int 6)) (.cons (.con (.int 1)) (.cons (.con (.int 3)) .nil))))) (.var 2))))
  (.cons (.tasg (.tup (.cons (.name 8) (.cons (.name 9) .nil))) (.call 0 (.cons (.bin .FloorDiv (.var 7) (.con (.int 104))) (.cons (.var 4) .nil))))
 (.cons (.expr (.mth .append (.var 3) (.cons (.tup (.cons (.con (.str "claim")) (.cons (.var 8) (.cons (.var 9) .nil)))) .nil)))
 (.cons (.asg (.name 4) (.bin .Add (.var 4) (.con (.int 1))))
 .nil)))
  (.cons (.ifs (.and (.cmp .Eq (.bin .Mod (.var 7) (.con (.int 8))) (.con (.int 7))) (.cmp .Eq (.bin .Mod (.bin .FloorDiv (.var 7) (.con (.int 8))) (.con (.int 13))) (.con (.int 0))))
  (.cons (.expr (.mth .append (.var 3) (.cons (.tup (.cons (.con (.str "odd")) (.cons (.bin .Add (.con (.str "the ")) (.call 1 (.cons (.var 1) (.cons (.bin .Mod (.var 7) (.con (.int 26))) .nil)))) (.cons (.lst .nil) .nil)))) .nil)))
 .nil)
  (.cons (.ifs (.cmp .Eq (.bin .Mod (.var 7) (.con (.int 8))) (.con (.int 7)))
  (.cons (.expr (.mth .append (.var 3) (.cons (.tup (.cons (.con (.str "none")) (.cons (.bin .Mult (.con (.str " ")) (.bin .Mod (.bin .FloorDiv (.var 7) (.con (.int 8))) (.con (.int 3)))) (.cons (.lst .nil) .nil)))) .nil)))
 .nil)
  (.cons (.asg (.name 10) (.call 2 (.cons (.call 3 (.cons (.var 6) (.cons (.var 5) (.cons (.var 1) .nil)))) .nil)))
 (.cons (.asg (.name 11) (.ix (.lst (.cons (.con (.int 1)) (.cons (.con (.int 1)) (.cons (.con (.int 2)) (.cons (.bin .Add (.con (.int 1)) (.bin .Mod (.bin .FloorDiv (.var 7) (.con (.int 8))) (.con (.int 14)))) .nil))))) (.bin .Mod (.bin .FloorDiv (.var 7) (.con (.int 112))) (.con (.int 4)))))
 (.cons (.expr (.mth .extend (.var 3) (.cons (.bin .Mult (.lst (.cons (.tup (.cons (.con (.str "row")) (.cons (.var 10) (.cons (.lst .nil) .nil)))) .nil)) (.blt .min (.cons (.var 11) (.cons (.bin .Sub (.con (.int 130)) (.blt .len (.cons (.var 3) .nil))) .nil)))) .nil)))
 .nil))))
 .nil))
 .nil))
 .nil))
noncomputable def wZ:bV:=
 (.cons (.asg (.name 1) (.call 4 (.cons (.call 5 (.cons (.var 0) (.cons (.con (.int 0)) .nil))) (.cons (.con (.int 1)) .nil))))
 (.cons (.asg (.name 2) (.bin .Mod (.call 4 (.cons (.call 5 (.cons (.var 0) (.cons (.con (.int 0)) .nil))) (.cons (.con (.int 2)) .nil))) (.con (.int 4))))
 (.cons (.asg (.name 3) (.lst .nil))
 (.cons (.asg (.name 4) (.con (.int 0)))
 (.cons (.forr (.tup (.cons (.name 5) (.cons (.name 6) .nil))) (.enum (.sl (.var 0) .none (.some (.con (.int 63))))) bX)
 (.cons (.ret (.var 3))
 .nil))))))
abbrev Ii:List Str:=["_law_items_here","_law_claims_here","_law_at","_law_item"]
noncomputable def jP:bV:=
 (.cons (.ifs (.or (.cmp .Eq (.ix (.var 3) (.con (.int 0))) (.con (.str "odd"))) (.and (.cmp .Eq (.ix (.var 3) (.con (.int 0))) (.con (.str "row"))) (.cmp .Eq (.var 1) (.lst .nil))))
  (.cons (.ret (.tup (.cons (.con (.str "row")) (.cons (.var 2) .nil))))
 .nil)
  .nil)
 (.cons (.ifs (.cmp .Eq (.ix (.var 3) (.con (.int 0))) (.con (.str "claim")))
  (.cons (.ifs (.not (.blt .all (.cons (.comp ["_law_number"] [1] (.chain .LtE .LtE (.con (.int 1)) (.var 0) (.blt .len (.cons (.var 1) .nil))) (.name 0) (.seq (.ix (.var 3) (.con (.int 2)))) .none) .nil)))
  (.cons (.ret (.tup (.cons (.con (.str "claim")) (.cons (.var 2) .nil))))
 .nil)
  .nil)
 (.cons (.ifs (.cmp .Eq (.blt .len (.cons (.var 1) .nil)) (.con (.int 12)))
  (.cons (.ret (.tup (.cons (.con (.str "big")) (.cons (.var 2) .nil))))
 .nil)
  .nil)
 (.cons (.expr (.mth .append (.var 1) (.cons (.con (.int 0)) .nil)))
 .nil)))
  .nil)
 (.cons (.ifs (.cmp .Eq (.ix (.var 3) (.con (.int 0))) (.con (.str "row")))
  (.cons (.ifs (.cmp .Eq (.ix (.var 1) (.neg (.con (.int 1)))) (.con (.int 12)))
  (.cons (.ret (.tup (.cons (.con (.str "big")) (.cons (.var 2) .nil))))
 .nil)
  .nil)
 (.cons (.asg (.sub (.var 1) (.neg (.con (.int 1)))) (.bin .Add (.ix (.var 1) (.neg (.con (.int 1)))) (.con (.int 1))))
 .nil))
  .nil)
 .nil)))
noncomputable def BW:bV:=
 (.cons (.asg (.name 1) (.lst .nil))
 (.cons (.forr (.tup (.cons (.name 2) (.cons (.name 3) .nil))) (.enum (.var 0)) jP)
 (.cons (.ret (.var 1))
 .nil)))
abbrev Rz:List Str:=["_law_script","_law_items_here","_law_text_here","_law_due_here"]
noncomputable def JO:bV:=
 (.cons (.asg (.name 1) (.call 3 (.cons (.var 0) .nil)))
 (.cons (.asg (.name 2) (.mth .join (.con (.str "\n")) (.cons (.comp ["_law_item"] [] (.ix (.var 0) (.con (.int 1))) (.name 0) (.seq (.var 1)) .none) .nil)))
 (.cons (.asg (.name 3) (.call 2 (.cons (.var 1) .nil)))
 (.cons (.ifs (.isi (.var 3) .tuple)
  (.cons (.ret (.cmp .Eq (.call 1 (.cons (.var 2) .nil)) (.var 3)))
 .nil)
  .nil)
 (.cons (.ret (.cmp .Eq (.comp ["_law_takes_here","_law_rows"] [] (.blt .len (.cons (.var 1) .nil)) (.tup (.cons (.name 0) (.cons (.name 1) .nil))) (.seq (.call 0 (.cons (.var 2) .nil))) .none) (.var 3)))
 .nil)))))
noncomputable def g8:List Addr:=[44,101,139]
noncomputable def Ij:List Str:=["row","claim","word"]
noncomputable def cR:List D:=[(.str "a"),(.str "an"),(.str "the"),(.str "said"),(.str "claim"),(.str "on"),(.str "or"),(.str "then"),(.str "from"),(.str "to"),(.str "of"),(.str "at"),(.str "least"),(.str "most"),(.str "just"),(.str "is")]
noncomputable def Dn:List D:=[(.str "a"),(.str "an")]
noncomputable def uX:List D:=[(.str "the"),(.str "said")]
noncomputable def AR:List PG:=[]
noncomputable def qg:List D->R D:=cX AR 1000 AL 1 uU
noncomputable def Dp:List PG:=[.fn qg []]
noncomputable def rS:List D->R D:=cX Dp 1000 Dj 1 wN
noncomputable def w4:List PG:=[]
noncomputable def kE:List D->R D:=cX w4 1000 wM 3 qR
noncomputable def w5:List PG:=[.fn kE [],.val (.int 30)]
noncomputable def m6:List D->R D:=cX w5 1000 wL 1 qQ
noncomputable def tG:List PG:=[.fn m6 []]
noncomputable def cW:List D->R D:=cX tG 1000 yS 1 oF
noncomputable def FI:List PG:=[]
noncomputable def fN:List D->R D:=cX FI 1000 wQ 1 wR
noncomputable def fO:List PG:=[.fn cW [],.fn fN []]
noncomputable def ee:List D->R D:=cX fO 1000 rR 1 kc
noncomputable def m9:List PG:=[.cls 101 [("row",1)] 2,.cls 44 [("row",1)] 2,.fn ee []]
noncomputable def m_:List D->R D:=cX m9 1000 AM 3 uV
noncomputable def gS:List PG:=[.fn cW []]
noncomputable def b9:List D->R D:=cX gS 1000 vt 1 iS
noncomputable def yY:List PG:=[.fn b9 []]
noncomputable def jf:List D->R D:=cX yY 1000 yV 3 tD
noncomputable def Dq:List PG:=[.val (.cst cR),.fn kE [],.val (.int 8)]
noncomputable def kF:List D->R D:=cX Dq 1000 Di 1 wK
noncomputable def yZ:List PG:=[.fn kF []]
noncomputable def jg:List D->R D:=cX yZ 1000 yW 1 tE
noncomputable def uY:List PG:=[.fn jg []]
noncomputable def eB:List D->R D:=cX uY 1000 AO 1 p_
noncomputable def y9:List PG:=[.fn eB []]
noncomputable def jh:List D->R D:=cX y9 1000 yU 3 tB
noncomputable def w6:List PG:=[.fn jg [],.val (.int 3),.fn fN []]
noncomputable def fP:List D->R D:=cX w6 1000 wV 1 qS
noncomputable def Dr:List PG:=[.val (.cst Dn),.fn fP [],.fn eB []]
noncomputable def mD:List D->R D:=cX Dr 1000 Dk 2 wW
noncomputable def lC:List PG:=[.fn kF []]
noncomputable def dj:List D->R D:=cX lC 1000 lB 1 je
noncomputable def lQ:List PG:=[.fn jf [],.val (.cst uX),.fn jh [],.fn eB [],.fn mD [],.fn dj []]
noncomputable def cA:List D->R D:=cX lQ 1000 vq 1 jW
noncomputable def y_:List PG:=[.fn eB [],.val (.cst uX),.fn kF []]
noncomputable def j5:List D->R D:=cX y_ 1000 yT 1 tw
noncomputable def nc:List PG:=[.fn kF [],.fn fP [],.val (.int 5),.fn cW []]
noncomputable def c8:List D->R D:=cX nc 1000 wU 2 kD
noncomputable def kU:List PG:=[.val (.cst uX),.fn cA [],.fn j5 [],.fn c8 [],.val (.cst Dn)]
noncomputable def cT:List D->R D:=cX kU 1000 AN 1 jO
noncomputable def zW:List PG:=[.val (.int 12),.cls 139 [("claim",1),("row",2)] 3,.cls 44 [("row",1)] 2,.fn cT []]
noncomputable def l7:List D->R D:=cX zW 1000 Fz 3 uW
noncomputable def f9:List PG:=[.fn rS [],.val (.int 12),.cls 139 [("claim",1),("row",2)] 3,.fn m_ [],.cls 44 [("row",1)] 2,.fn l7 []]
noncomputable def fq:List D->R D:=cX f9 1000 vp 1 o9
noncomputable def za:List PG:=[.exb g8,.fn fq [],.nM g8 Ij,.gY 227 g8,.gY 239 g8,.gY 251 g8,.gY 263 g8,.gY 63 g8,.gY 82 g8,.gY 120 g8,.gY 158 g8,.gY 177 g8,.gY 196 g8,.gY 215 g8,.gY 139 g8,.gY 101 g8,.gY 44 g8]
noncomputable def lD:List D->R D:=cX za 1000 yX 1 tF
noncomputable def mE:List PG:=[]
noncomputable def mF:List D->R D:=cX mE 1000 Ii 1 BW
noncomputable def zX:List PG:=[]
noncomputable def kG:List D->R D:=cX zX 1000 FH 2 gm
noncomputable def FJ:List PG:=[]
noncomputable def gU:List D->R D:=cX FJ 1000 FE 2 zU
noncomputable def w9:List PG:=[]
noncomputable def fj:List D->R D:=cX w9 1000 wY 1 qT
noncomputable def lR:List PG:=[]
noncomputable def fu:List D->R D:=cX lR 1000 vv 2 jX
noncomputable def jQ:List PG:=[.fn fj [],.fn fu []]
noncomputable def dQ:List D->R D:=cX jQ 1000 FG 1 l6
noncomputable def BX:List PG:=[.fn gU []]
noncomputable def n_:List D->R D:=cX BX 1000 Ig 2 yi
noncomputable def FL:List PG:=[.fn gU []]
noncomputable def uZ:List D->R D:=cX FL 1000 FF 2 zV
noncomputable def u5:List PG:=[]
noncomputable def ng:List D->R D:=cX u5 1000 AQ 2 qa
noncomputable def Dt:List PG:=[]
noncomputable def oU:List D->R D:=cX Dt 1000 Dl 2 wX
noncomputable def qA:List PG:=[.fn n_ [],.fn gU [],.fn uZ [],.fn ng [],.fn oU []]
noncomputable def mG:List D->R D:=cX qA 1000 Ih 3 n9
noncomputable def FN:List PG:=[]
noncomputable def u6:List D->R D:=cX FN 1000 FA 2 zT
noncomputable def d8:List PG:=[.fn kG [],.fn gU [],.fn dQ [],.fn mG [],.fn oU [],.fn u6 []]
noncomputable def oV:List D->R D:=cX d8 1000 Dm 1 wZ
noncomputable def JP:List PG:=[.fn fq [],.fn lD [],.fn mF [],.fn oV []]
noncomputable def JQ:List D->R D:=cX JP 1000 Rz 1 JO
noncomputable def BN:List Str:=["ValueError","abs","all","any","enumerate","int","isinstance","len","min","range","set","str","tuple","zip"]
def AS:FD:=⟨"words_in",top 25,AL,1,[]⟩
theorem JR:AS.dW BN uU=true:=by decide +kernel
def Du:FD:=⟨"rows_in",top 24,Dj,1,["words_in"]⟩
theorem Mz:Du.dW BN wN=true:=by decide +kernel
def w_:FD:=⟨"all_within",top 23,wM,3,[]⟩
theorem FO:w_.dW BN qR=true:=by decide +kernel
def xg:FD:=⟨"is_figures",top 22,wL,1,["all_within","MOST_FIGURES"]⟩
theorem FP:xg.dW BN qQ=true:=by decide +kernel
def zb:FD:=⟨"number_in",top 21,yS,1,["is_figures"]⟩
theorem GZ:zb.dW BN oF=true:=by decide +kernel
def xh:FD:=⟨"choices_in",top 37,wQ,1,[]⟩
theorem FQ:xh.dW BN wR=true:=by decide +kernel
def rT:FD:=⟨"taken_numbers",top 36,rR,1,["number_in","choices_in"]⟩
theorem AU:rT.dW BN kc=true:=by decide +kernel
def AV:FD:=⟨"takes_in",top 34,AM,3,["NoClaim","BadRow","taken_numbers"]⟩
theorem JS:AV.dW BN uV=true:=by decide +kernel
def vz:FD:=⟨"bounds_told",top 48,vt,1,["number_in"]⟩
theorem DL:vz.dW BN iS=true:=by decide +kernel
def zc:FD:=⟨"size_told",top 47,yV,3,["bounds_told"]⟩
theorem G0:zc.dW BN tD=true:=by decide +kernel
def Dv:FD:=⟨"is_word",top 20,Di,1,["KEPT_WORDS","all_within","MOST_LETTERS"]⟩
theorem MA:Dv.dW BN wK=true:=by decide +kernel
def zd:FD:=⟨"all_words",top 49,yW,1,["is_word"]⟩
theorem G1:zd.dW BN tE=true:=by decide +kernel
def AW:FD:=⟨"ref_told",top 42,AO,1,["all_words"]⟩
theorem JT:AW.dW BN p_=true:=by decide +kernel
def ze:FD:=⟨"join_told",top 46,yU,3,["ref_told"]⟩
theorem G2:ze.dW BN tB=true:=by decide +kernel
def xj:FD:=⟨"kinds_told",top 40,wV,1,["all_words","MOST_KINDS","choices_in"]⟩
theorem FT:xj.dW BN qS=true:=by decide +kernel
def Dw:FD:=⟨"is_told",top 45,Dk,2,["A","kinds_told","ref_told"]⟩
theorem MB:Dw.dW BN wW=true:=by decide +kernel
def lE:FD:=⟨"count_of_words_ahead",top 44,lB,1,["is_word"]⟩
theorem tH:lE.dW BN je=true:=by decide +kernel
def vA:FD:=⟨"told_of_ref",top 43,vq,1,["size_told","THE","join_told","ref_told","is_told","count_of_words_ahead"]⟩
theorem DM:vA.dW BN jW=true:=by decide +kernel
def zf:FD:=⟨"step_told",top 41,yT,1,["ref_told","THE","is_word"]⟩
theorem G3:zf.dW BN tw=true:=by decide +kernel
def xm:FD:=⟨"parts_told",top 39,wU,2,["is_word","kinds_told","MOST_PARTS","number_in"]⟩
theorem FU:xm.dW BN kD=true:=by decide +kernel
def AX:FD:=⟨"row_told",top 38,AN,1,["THE","told_of_ref","step_told","parts_told","A"]⟩
theorem JU:AX.dW BN jO=true:=by decide +kernel
def FW:FD:=⟨"row_in",top 35,Fz,3,["MOST_ROWS","TooBig","BadRow","row_told"]⟩
theorem Qe:FW.dW BN uW=true:=by decide +kernel
def vB:FD:=⟨"read_claims",top 33,vp,1,["rows_in","MOST_CLAIMS","TooBig","takes_in","BadRow","row_in"]⟩
theorem DN:vB.dW BN o9=true:=by decide +kernel
def zg:FD:=⟨"_law_refusal",top 64,yX,1,["ClaimError","read_claims","$x","TooMany","NoFit","NoChange","NotOwn","Twice","NoPart","NoKind","NotUnder","NoRange","NoGround","TwoGrounds","TooBig","NoClaim","BadRow"]⟩
theorem G4:zg.dW BN tF=true:=by decide +kernel
def Ik:FD:=⟨"_law_due",top 67,Ii,1,[]⟩
theorem Te:Ik.dW BN BW=true:=by decide +kernel
def FY:FD:=⟨"_law_head",top 65,FH,2,[]⟩
theorem Qf:FY.dW BN gm=true:=by decide +kernel
def FZ:FD:=⟨"_law_word",top 53,FE,2,[]⟩
theorem Qg:FZ.dW BN zU=true:=by decide +kernel
def xo:FD:=⟨"_law_ref_text",top 60,wY,1,[]⟩
theorem F6:xo.dW BN qT=true:=by decide +kernel
def vC:FD:=⟨"_law_size_text",top 61,vv,2,[]⟩
theorem DO:vC.dW BN jX=true:=by decide +kernel
def F7:FD:=⟨"_law_text",top 62,FG,1,["_law_ref_text","_law_size_text"]⟩
theorem Qh:F7.dW BN l6=true:=by decide +kernel
def Il:FD:=⟨"_law_ref",top 54,Ig,2,["_law_word"]⟩
theorem Tf:Il.dW BN yi=true:=by decide +kernel
def F8:FD:=⟨"_law_some",top 55,FF,2,["_law_word"]⟩
theorem Qi:F8.dW BN zV=true:=by decide +kernel
def AY:FD:=⟨"_law_bounds",top 56,AQ,2,[]⟩
theorem JV:AY.dW BN qa=true:=by decide +kernel
def Dy:FD:=⟨"_law_mixed",top 52,Dl,2,[]⟩
theorem MC:Dy.dW BN wX=true:=by decide +kernel
def Im:FD:=⟨"_law_row",top 57,Ih,3,["_law_ref","_law_word","_law_some","_law_bounds","_law_mixed"]⟩
theorem Tg:Im.dW BN n9=true:=by decide +kernel
def F9:FD:=⟨"_law_cell",top 51,FA,2,[]⟩
theorem Qj:F9.dW BN zT=true:=by decide +kernel
def Dz:FD:=⟨"_law_items",top 66,Dm,1,["_law_head","_law_word","_law_text","_law_row","_law_mixed","_law_cell"]⟩
theorem MD:Dz.dW BN wZ=true:=by decide +kernel
def rV:FD:=⟨"law",top 68,Rz,1,["read_claims","_law_refusal","_law_due","_law_items"]⟩
theorem W6:rV.dW BN JO=true:=by decide +kernel
def BY(s:Stmt):List Stmt:=match s with
|.ClassDef _ _ _ b _ _ _ _ _ _ _=>b
|_=>[]
def Qk:CD:=⟨"BadRow",44,(BY (top 2)).getD 0 (.Pass ⟨0,0,0,0⟩),["self","row"],[("row",1)]⟩
theorem Ql:Qk.dW Ij=true:=by decide +kernel
def ME:CD:=⟨"NoClaim",101,(BY (top 5)).getD 0 (.Pass ⟨0,0,0,0⟩),["self","row"],[("row",1)]⟩
theorem MF:ME.dW Ij=true:=by decide +kernel
def Qm:CD:=⟨"TooBig",139,(BY (top 7)).getD 0 (.Pass ⟨0,0,0,0⟩),["self","claim","row"],[("claim",1),("row",2)]⟩
theorem Qn:Qm.dW Ij=true:=by decide +kernel
end Tr
end
section
namespace K2
open PySem L2 L3
noncomputable def wordsOf(l:List Nat):List (List Nat):=(cM 32 l).filter fun w=>!w.isEmpty
theorem JW(c:Nat)(l:List Nat):cM c (c::l)=[]::cM c l:=by
 show(if c=c then _ else _)=_;rw[if_pos rfl]
theorem DP(l:List Nat):wordsOf (32::l)=wordsOf l:=by
 unfold wordsOf;rw[JW];rfl
theorem G5(n:Nat)(l:List Nat):wordsOf (aB n 32++l)=wordsOf l:=by
 induction n with
 |zero=>rfl
 |succ n ih=>rw[bM,Ag,DP,ih]
theorem xq(w l:List Nat)(hw:w≠[])(h:32∉w):wordsOf (w++32::l)=w::wordsOf l:=by
 unfold wordsOf;rw[uE 32 w l h,rG];cases w with
 |nil=>exact absurd rfl hw
 |cons a b=>rfl
noncomputable def rep(n:Int)(c:Nat):List Nat:=aB n.toNat c
theorem bS(a:Int){b:Int}(h:0<b):0<=a%b/\a%b<b:=⟨Int.emod_nonneg _ (by omega),Int.emod_lt_of_pos _ h⟩
noncomputable def oG:List (List Nat):=[[97],[97,110],[116,104,101],[115,97,105,100],[99,108,97,105,109],[111,110],[111,114],[116,104,101,110],[102,114,111,109],[116,111],[111,102],[97,116],[108,101,97,115,116],[109,111,115,116],[106,117,115,116],[105,115]]
end K2
end
section
namespace K2
open PySem L2 L3 Tr
theorem kW(l:List Int):aC (l.map D.int)=l.map D.int:=jd _ (fun _=>rfl) l
theorem yj:∀l:List Int,dO (l.map D.int)=true
|[]=>rfl
|_::r=>yj r
variable{α:Type}
theorem l8(l:List α)(k:Nat):cut l none (some (k:Int))=l.take k:=by
 unfold cut;rw[HT.Bw,HT.zw,k8,Nat.sub_zero];by_cases h:k<=l.length
 ·rw[sN h]
 ·rw[Nat.min_eq_right (by omega),dm (aM _),dm (by omega)]
theorem dR(l:List α)(k:Nat)(h:k<=l.length):cut l (some (k:Int)) none=l.drop k:=by
 unfold cut;rw[HT.Bw,HT.zw,sN h,dm (by rw[fC];omega)]
theorem oi(a b:List Nat):strOf a++strOf b=strOf (a++b):=by
 have h:∀x y:Str,x.cps=y.cps->x=y:=fun x y e=>by cases x;cases y;cases e;rfl
 refine h _ _ ?_;show a.toArray++b.toArray=(a++b).toArray;simp
theorem Th(n:Nat)(c:Nat):(⟨(aB n [c]).flatten.toArray⟩:Str)=strOf (aB n c):=by
 have e:(aB n [c]).flatten=aB n c:=by
  induction n with
  |zero=>rfl
  |succ n ih=>rw[bM,cB,ih];rfl
 rw[e];rfl
theorem iB(l:List Nat):(strOf l).length=l.length:=by
 rw[<-len_str];rfl
theorem BZ(c:Nat)(j:Int)(h:0<=j/\j<100):eG .Mult (.str ⟨#[c]⟩) (.int j)=.ok (.str (strOf (rep j c))):=by
 have hs:=szl;have e:(⟨#[c]⟩:Str).length=1:=rfl;rw[Fv ⟨h.1,by omega,by rw[e];omega⟩];show R.ok (D.str ⟨(aB j.toNat [c]).flatten.toArray⟩)=_;rw[Th];rfl
theorem B0(j:Int)(c:Nat):(rep j c).length=j.toNat:=by unfold rep;rw[gP]
theorem jY(a b:List Nat)(h:a.length+b.length<=16777216):eG .Add (.str (strOf a)) (.str (strOf b))=.ok (.str (strOf (a++b))):=by
 have hs:=szl;rw[Ft (by rw[iB,iB,hs];exact h),oi]
theorem fm(x:α)(r:List α):fh (x::r) 0=some x:=kP (j:=0) rfl
theorem nO(x y:α)(r:List α):fh (x::y::r) 1=some y:=kP (j:=1) rfl
theorem at2(x y z:α)(r:List α):fh (x::y::z::r) 2=some z:=kP (j:=2) rfl
theorem F_(x y z u:α)(r:List α):fh (x::y::z::u::r) 3=some u:=kP (j:=3) rfl
theorem MG(x y z u v:α)(r:List α):fh (x::y::z::u::v::r) 4=some v:=kP (j:=4) rfl
noncomputable def wD(w:List Nat):D:=.str (strOf w)
noncomputable def bU(r:List (List Nat)):D:=.lst false (r.map wD)
theorem c9(r:List (List Nat)):aC (r.map wD)=r.map wD:=jd wD (fun _=>rfl) r
theorem qU(r:List (List Nat)):bq (bU r)=bU r:=by
 show D.lst false (aC (r.map wD))=_;rw[c9];rfl
theorem XH:aj " "=⟨#[32]⟩:=by decide +kernel
theorem str_beq(x y:Str):(x==y)=decide (x=y):=by
 rw[fY];simp
theorem xr{a b:List Nat}(h:strOf a=strOf b):a=b:=by
 have:=congrArg (fun z:Str=>z.cps.toList) h;simpa[strOf]using this
theorem kH(a b:List Nat):(strOf a==strOf b)=decide (a=b):=by
 rw[str_beq];by_cases h:a=b
 ·subst h;simp
 ·rw[decide_eq_false h,decide_eq_false fun z=>h (xr z)]
noncomputable def nj(a b:Nat)(x:Str):Bool:=x.cps.toList.all fun c=>decide (a<=c)&&decide (c<=b)
theorem xu(x:Str)(a b:Nat):kE [.str x,.str ⟨#[a]⟩,.str ⟨#[b]⟩]=.ok (.bl (nj a b x)):=by
 unfold kE qR w4;simp_arith [];unfold tW;rw[ic (fun c:Nat=>D.str ⟨#[c]⟩) (fun O=>∃o,O=[o,some (D.str ⟨#[a]⟩),some (D.str ⟨#[b]⟩)]) (fun c=>D.bl (decide (a<=c)&&decide (c<=b))) x.cps.toList _ ⟨none,rfl⟩ (by
  rintro c _ O ⟨o,rfl⟩;refine⟨_,rfl,⟨_,rfl⟩,?_⟩;simp_arith [];rw[Xz,Xz];by_cases h1:c<a
  ·rw[decide_eq_true h1,decide_eq_false (show ¬a<=c by omega)];rfl
  ·rw[decide_eq_false h1,decide_eq_true (show a<=c by omega)];have e2:(!decide (b<c))=decide (c<=b):=by rw[fY];simp
   rw[e2];rfl)]
 simp_arith [];have e1:(x.cps.toList.map (fun c=>D.bl (decide (a<=c)&&decide (c<=b)))).all lM=true:=by rw[iK];simp[lM]
 have e2:(x.cps.toList.map (fun c=>D.bl (decide (a<=c)&&decide (c<=b)))).all mX=nj a b x:=by
  rw[iK];unfold nj;congr 1;funext c;show mX (D.bl (decide (a<=c)&&decide (c<=b)))=_;cases(decide (a<=c)&&decide (c<=b))<;>rfl
 rw[e1,e2];simp_arith []
noncomputable def isWord(x:Str):Bool:=decide (1<=x.length)&&decide (x.length<=8)&&nj 97 122 x&&!memD (.str x) cR
theorem oW(x:Str):kF [.str x]=.ok (.bl (isWord x)):=by
 unfold kF wK Dq;simp_arith [];have ea:(aj "a")=⟨#[97]⟩:=by decide +kernel
 have ez:(aj "z")=⟨#[122]⟩:=by decide +kernel
 rw[ea,ez];unfold isWord;by_cases h1:1<=x.length
 ·by_cases h2:x.length<=8
  ·rw[decide_eq_true (show(1:Int)<=(x.length:Int)by omega),decide_eq_true (show(x.length:Int)<=8 by omega),decide_eq_true h1,decide_eq_true h2];simp_arith [];rw[xu];simp_arith [];have hk:kr cR=true:=by decide +kernel
   have hz:aC cR=cR:=by rfl
   cases nj 97 122 x with
   |false=>simp_arith []
   |true=>
    have e:bQ .NotIn (.str x) (bq (D.cst cR))=.ok (.bl (!memD (.str x) cR)):=by
     have e0:bq (D.cst cR)=D.cst cR:=by
      show D.cst (aC cR)=_;rw[hz]
     rw[e0];show(R.be (dD (.str x)&&kr cR) (.ok (memD (.str x) cR))).bind (fun b=>R.ok (D.bl (!b)))=_;rw[hk];rfl
    rw[e];simp_arith []
  ·rw[decide_eq_true (show(1:Int)<=(x.length:Int)by omega),decide_eq_false (show ¬(x.length:Int)<=8 by omega),decide_eq_true h1,decide_eq_false h2];simp_arith []
 ·rw[decide_eq_false (show ¬(1:Int)<=(x.length:Int)by omega),decide_eq_false h1];simp_arith []
theorem Ga(f:α->Str)(x:Str)(l:List α):memD (.str x) (l.map fun a=>D.str (f a))=l.any fun a=>f a==x:=by
 unfold memD;rw[GI];rfl
theorem Io:cR=oG.map fun w=>D.str (strOf w):=by
 have e1:cR=(["a","an","the","said","claim","on","or","then","from","to","of","at","least","most","just","is"]:List Str).map D.str:=rfl;have e2:(["a","an","the","said","claim","on","or","then","from","to","of","at","least","most","just","is"]:List Str)=oG.map strOf:=by decide +kernel
 rw[e1,e2,cE];rfl
noncomputable def wl(x:Str):List (List Nat):=wordsOf x.cps.toList
theorem MH(x:Str):(cM 32 x.cps.toList).filter (fun p=>!(strOf p==aj ""))=wl x:=by
 unfold wl wordsOf;congr 1;funext p;have e:aj ""=strOf []:=by decide +kernel
 cases p with
 |nil=>rw[e];simp
 |cons a b=>
  rw[e,str_beq,decide_eq_false (fun h=>by cases xr h)];rfl
theorem g32:(#[32]:Array Nat).getD 0 0=32:=rfl
theorem g10:(#[10]:Array Nat).getD 0 0=10:=rfl
theorem Gb(c:Nat)(l:List Nat):aC (qN c l)=(cM c l).map wD:=wF _
theorem JX(x:Str)(hx:x.length+2<=aa):qg [.str x]=.ok (.lst true ((wl x).map wD)):=by
 have sp1l:(⟨#[32]⟩:Str).length=1:=rfl;unfold qg uU AR;simp_arith [XH,g32,Gb];rw[kC wD (fun O=>∃o,O=[o]) (fun p=>!(strOf p==aj "")) wD (cM 32 x.cps.toList) _ ⟨none,rfl⟩ (by
  rintro p _ O ⟨o,rfl⟩;refine⟨[some (wD p)],rfl,⟨_,rfl⟩,?_,?_⟩
  ·unfold wD;simp_arith []
  ·unfold wD;simp_arith []),MH]
 simp_arith []
noncomputable def B3(r:List (List Nat)):D:=.lst true (r.map wD)
noncomputable def l9(x:Str):List (List (List Nat)):=(cM 10 x.cps.toList).map wordsOf
theorem MI(x:Str)(hx:x.length+2<=aa):rS [.str x]=.ok (.lst true ((l9 x).map B3)):=by
 have nll:(⟨#[10]⟩:Str).length=1:=rfl;have nl:aj "\n"=⟨#[10]⟩:=by decide +kernel
 unfold rS wN Dp;simp_arith [nl,g10,Gb];rw[ic wD (fun O=>∃o,O=[o]) (fun p=>B3 (wordsOf p)) (cM 10 x.cps.toList) _ ⟨none,rfl⟩ (by
  rintro p hp O ⟨o,rfl⟩;have hpl:=(p9 10 x.cps.toList).1 p hp;have q:=JX (strOf p) (by rw[iB];have:x.length=x.cps.toList.length:=(len_str x).symm;omega);refine⟨[some (wD p)],rfl,⟨_,rfl⟩,?_⟩;unfold wD;simp_arith [q];rfl)]
 simp_arith [];unfold l9;rw[cE];rfl
end K2
end
section
namespace K2
open PySem L2 L3 Tr
open PySem.NumText
noncomputable def fQ:Nat->Nat->List Nat
|0,m=>[48+m%10]
|k+1,m=>if m<10 then[48+m]else fQ k (m / 10)++[48+m%10]
theorem Qo(l:List Nat)(c:Nat):digitsVal (l++[c])=digitsVal l*10+(c-48):=by
 unfold digitsVal;rw[yw];rfl
theorem yk:∀(k m:Nat),m<10 ^ (k+1)->AllDigits (fQ k m)/\fQ k m≠[]/\(fQ k m).length<=k+1/\digitsVal (fQ k m)=m/\(m≠0->∀r,fQ k m≠48::r)/\(m=0->fQ k m=[48])
|0,m,h=>by
 have h:m<10:=by simpa using h
 show AllDigits [48+m%10]/\_;rw[rD h];refine⟨fun c hc=>by rw[aU.mp hc];omega,by simp[fQ],by simp[fQ],?_,?_,?_⟩
 ·show digitsVal [48+m%10]=m;rw[rD h];show 0*10+(48+m-48)=m;omega
 ·intro hm r e;have e:[48+m%10]=48::r:=e;rw[rD h]at e;have:=(j4 e).1;omega
 ·rintro rfl;rfl
|k+1,m,h=>by
 unfold fQ;by_cases c:m<10
 ·rw[if_pos c];refine⟨fun c hc=>by rw[aU.mp hc];omega,by simp,by simp,?_,?_,?_⟩
  ·show 0*10+(48+m-48)=m;omega
  ·intro hm r e;have:=(j4 e).1;omega
  ·rintro rfl;rfl
 ·rw[if_neg c];obtain⟨h1,h2,h3,h4,h5,_⟩:=yk k (m / 10) (by
   have e:10 ^ (k+1+1)=10*10 ^ (k+1):=by rw[Nat.pow_succ,GH]
   rw[e]at h;exact Nat.div_lt_of_lt_mul h)
  refine⟨fun c hc=>?_,by simp,by simp;omega,?_,?_,fun z=>by omega⟩
  ·rcases aZ.mp hc with hc|hc
   ·exact h1 c hc
   ·rw[aU.mp hc];omega
  ·rw[Qo,h4];omega
  ·intro _ r e;cases q:fQ k (m / 10)with
   |nil=>exact h2 q
   |cons a b=>
    rw[q]at e;have:=(j4 e).1;subst this;exact h5 (by omega) b q
variable{c:Nat}
theorem JY(h:48<=c/\c<=57):(Br c).toNat=c:=by
 obtain⟨h1,h2⟩:=h;have:∀k:Nat,k<10->(Br (48+k)).toNat=48+k:=by decide
 have q:=this (c-48) (by omega);rw[show 48+(c-48)=c by omega]at q;exact q
theorem zh:∀{l:List Nat},AllDigits l->(l.map Br).map vg=l
|[],_=>rfl
|c::r,h=>by
 rw[dG,dG,JY h.head,zh h.tail]
theorem RA(m:Nat)(h:m<10 ^ 30):(xS 10 m).map vg=fQ 29 m:=by
 obtain⟨h1,h2,h3,h4,h5,h6⟩:=yk 29 m h;have e:=toDigits_all (fQ 29 m) h1;rw[h4]at e;rw[e];by_cases hm:m=0
 ·rw[h6 hm];decide
 ·cases q:fQ 29 m with
  |nil=>exact absurd q h2
  |cons c r=>
   have hc:c≠48:=fun z=>h5 hm r (by rw[q,z]);rw[List.dropWhile_cons,if_neg (by simpa using hc)];have z:=zh h1;rw[q]at z;exact z
theorem Gc(m:Nat)(h:m<10 ^ 30):mR (m:Int)=strOf (fQ 29 m):=by
 have e:mR (m:Int)=⟨((xS 10 m).map vg).toArray⟩:=GO m;rw[e,RA m h];rfl
theorem Gd(m:Nat)(h0:0<m)(h:m<10 ^ 30):mR (-(m:Int))=strOf (45::fQ 29 m):=by
 obtain⟨k,rfl⟩:∃k,m=k+1:=⟨m-1,by omega⟩;have e4:=RA (k+1) h;have e1:(-((k+1:Nat):Int))=zp k:=rfl;have e3:∀s:String,(aj s).cps=(s.toList.map vg).toArray:=fun s=>by
  rw[Str.ofString_eq_toList]
 have e5:(GL (k+1)).toList=xS 10 (k+1):=by
  unfold GL;simp
 rw[e1];have e2:toString (zp k)="-"++GL (k+1):=rfl;have:(aj (toString (zp k))).cps=(strOf (45::fQ 29 (k+1))).cps:=by
  rw[e2,e3,String.toList_append,di,e5,e4];rfl
 exact Str.ext' this
noncomputable def t7(x:Str):Bool:=decide (1<=x.length)&&decide (x.length<=30)&&nj 48 57 x&&(x==aj "0"||!([48].isPrefixOf x.cps.toList))
theorem nq(x:Str):m6 [.str x]=.ok (.bl (t7 x)):=by
 have e0:(aj "0")=⟨#[48]⟩:=by decide +kernel
 have e9:(aj "9")=⟨#[57]⟩:=by decide +kernel
 have q:=xu x 48 57;unfold t7;unfold m6 qQ w5;by_cases h1:1<=x.length
 ·by_cases h2:x.length<=30
  ·have g1:=decide_eq_true (show(1:Int)<=(x.length:Int)by omega);have g2:=decide_eq_true (show(x.length:Int)<=30 by omega);rw[decide_eq_true h1,decide_eq_true h2];simp_arith [g1,g2,e0,e9,q];cases nj 48 57 x with
   |false=>simp_arith []
   |true=>
    cases hc:(x==(⟨#[48]⟩:Str))with
    |false=>simp_arith [hc]
    |true=>simp_arith [hc]
  ·have g1:=decide_eq_true (show(1:Int)<=(x.length:Int)by omega);have g2:=decide_eq_false (show ¬(x.length:Int)<=30 by omega);rw[decide_eq_true h1,decide_eq_false h2];simp_arith [g1,g2]
 ·have g1:=decide_eq_false (show ¬(1:Int)<=(x.length:Int)by omega);rw[decide_eq_false h1];simp_arith [g1]
noncomputable def oX(x:Str):Str:=if[45].isPrefixOf x.cps.toList then⟨(cut x.cps.toList (some 1) none).toArray⟩else x
theorem Y4(x:Str)(h:t7 (oX x)=false):cW [.str x]=.ok .non:=by
 have em:(aj "-").cps.toList=[45]:=by decide +kernel
 unfold oX at h;unfold cW oF tG;cases c:[45].isPrefixOf x.cps.toList with
 |false=>
  rw[c,if_neg aE]at h;have q:=nq x;rw[h]at q;simp_arith [em,c,q]
 |true=>
  rw[c,if_pos rfl]at h;have q:=nq ⟨(cut x.cps.toList (some 1) none).toArray⟩;rw[h]at q;simp_arith [em,c,q]
theorem Ip(x:Str)(n:Int)(h:t7 (oX x)=true)(h0:(x==aj "-0")=false)(hl:x.length<=640)(hn:intText? x=some n):cW [.str x]=.ok (.int n):=by
 have em:(aj "-").cps.toList=[45]:=by decide +kernel
 have hi:jy .int [.str x]=.ok (.int n):=by
  show R.be (decide (x.length<=640)) ((R.opt (intText? x)).bind fun n=>R.ok (D.int n))=_;rw[decide_eq_true hl,hn];rfl
 unfold oX at h;unfold cW oF tG;cases c:[45].isPrefixOf x.cps.toList with
 |false=>
  rw[c,if_neg aE]at h;have q:=nq x;rw[h]at q;simp_arith [em,c,q,h0,hi]
 |true=>
  rw[c,if_pos rfl]at h;have q:=nq ⟨(cut x.cps.toList (some 1) none).toArray⟩;rw[h]at q;simp_arith [em,c,q,h0,hi]
variable{l:List Nat}
theorem Qp(h:AllDigits l):nj 48 57 (strOf l)=true:=by
 unfold nj;rw[bz];intro c hc;have:=h c hc;simp[this.1,this.2]
theorem MJ(h:∀r,l≠c::r):[c].isPrefixOf l=false:=by
 cases l with
 |nil=>rfl
 |cons a r=>
  have:a≠c:=fun z=>h r (by rw[z]);simp[Bs,cK this]
theorem Iq(m:Nat)(h:m<10 ^ 30):t7 (strOf (fQ 29 m))=true:=by
 obtain⟨h1,h2,h3,h4,h5,h6⟩:=yk 29 m h;have l1:(strOf (fQ 29 m)).length=(fQ 29 m).length:=iB _;have l2:1<=(fQ 29 m).length:=List.length_pos_iff.mpr h2;unfold t7;rw[l1,decide_eq_true l2,decide_eq_true h3,Qp h1];by_cases hm:m=0
 ·rw[h6 hm];have:(strOf [48]==aj "0")=true:=by decide +kernel
  rw[this];rfl
 ·have:[48].isPrefixOf (strOf (fQ 29 m)).cps.toList=false:=MJ (h5 hm);rw[this];simp
theorem RB{x:Str}(h:x=strOf l)(hl:l≠[45,48]):(x==aj "-0")=false:=by
 have e:aj "-0"=strOf [45,48]:=by decide +kernel
 rw[h,e,str_beq,decide_eq_false fun z=>hl (xr z)]
theorem W7(n:Int)(h0:-(10 ^ 30)<n)(h1:n<10 ^ 30):cW [.str (mR n)]=.ok (.int n):=by
 by_cases hn:0<=n
 ·obtain⟨m,rfl⟩:∃m:Nat,n=(m:Int):=⟨n.toNat,by omega⟩;have hm:m<10 ^ 30:=by
   have:((10 ^ 30:Nat):Int)=10 ^ 30:=by decide
   omega
  obtain⟨d1,d2,d3,d4,d5,d6⟩:=yk 29 m hm;have l1:(strOf (fQ 29 m)).length=(fQ 29 m).length:=iB _;have ef:oX (strOf (fQ 29 m))=strOf (fQ 29 m):=by
   unfold oX;rw[if_neg];rw[show(strOf (fQ 29 m)).cps.toList=fQ 29 m from rfl,MJ fun r e=>by
    have:=d1 45 (by rw[e];simp);omega]
   decide
  rw[Gc m hm];refine Ip _ _ (by rw[ef];exact Iq m hm) (RB rfl fun e=>?_) (by omega) ?_
  ·have:=d1 45 (by rw[e];simp);omega
  ·have q:=intText_digits (x:=strOf (fQ 29 m)) d1 d2 (by omega);rw[q];show some ((digitsVal (fQ 29 m):Nat):Int)=_;rw[d4]
 ·obtain⟨m,rfl,hp⟩:∃m:Nat,n=-(m:Int)/\0<m:=⟨(-n).toNat,by omega,by omega⟩;have hm:m<10 ^ 30:=by
   have:((10 ^ 30:Nat):Int)=10 ^ 30:=by decide
   omega
  obtain⟨d1,d2,d3,d4,d5,d6⟩:=yk 29 m hm;have l1:(strOf (45::fQ 29 m)).length=(fQ 29 m).length+1:=iB _;have ef:oX (strOf (45::fQ 29 m))=strOf (fQ 29 m):=by
   unfold oX;rw[if_pos (by show[45].isPrefixOf (45::fQ 29 m)=true;simp[Bs])];show strOf (cut (45::fQ 29 m) (some ((1:Nat):Int)) none)=_;unfold cut;rw[HT.Bw,HT.zw,sN (by simp),List.drop_succ_cons,k8,dm (by simp)]
  rw[Gd m hp hm];refine Ip _ _ (by rw[ef];exact Iq m hm) (RB rfl fun e=>?_) (by omega) ?_
  ·have e2:=(j4 e).2;exact d5 (by omega) [] e2
  ·have q:=intText_neg (x:=strOf (45::fQ 29 m)) rfl d1 d2 (by omega);rw[q,d4]
end K2
end
section
namespace K2
open PySem L2 L3 Tr
abbrev W(w:List Nat):Prop:=isWord (strOf w)=true
noncomputable def iQ:List Nat:=[111,114]
noncomputable def aL:List Nat:=[97]
noncomputable def bG:List Nat:=[116,104,101]
noncomputable def ie:List Nat:=[97,116]
noncomputable def fR:List Nat:=[108,101,97,115,116]
noncomputable def nt:List Nat:=[109,111,115,116]
noncomputable def nu:List Nat:=[106,117,115,116]
noncomputable def fS:List Nat:=[116,104,101,110]
noncomputable def iD:List Nat:=[105,115]
noncomputable def oY:List Nat:=[111,102]
noncomputable def gc:List Nat:=[102,114,111,109]
noncomputable def toL:List Nat:=[116,111]
noncomputable def bR:List Nat:=[99,108,97,105,109]
noncomputable def jB:List Nat:=[111,110]
theorem XI:aj "or"=strOf iQ:=by decide +kernel
theorem qV:aj ""=strOf []:=by decide +kernel
variable{w v:List Nat}
theorem W.nk(h:W w)(hv:v∈oG):(strOf w==strOf v)=false:=by
 rw[kH,decide_eq_false];rintro rfl;unfold W isWord at h;rw[Io,Ga]at h;have:(oG.any fun a=>strOf a==strOf w)=true:=mj.mpr ⟨w,hv,by simp⟩;rw[this]at h;simp at h
theorem W.ne(h:W w):(strOf w==strOf [])=false:=by
 rw[kH,decide_eq_false];rintro rfl;revert h;decide +kernel
theorem tK(ws:List (List Nat))(o:Bool):jg [.lst o (ws.map wD)]=.ok (.bl (ws.all fun w=>isWord (strOf w))):=by
 have fr:=c9 ws;unfold jg tE yZ;simp_arith [fr];rw[ic wD (fun O=>∃o,O=[o]) (fun w=>D.bl (isWord (strOf w))) ws _ ⟨none,rfl⟩ (by
  rintro w _ O ⟨o,rfl⟩;refine⟨[some (wD w)],rfl,⟨_,rfl⟩,?_⟩;have q:=oW (strOf w);unfold wD;simp_arith [q])]
 simp_arith [];have e1:(ws.map fun w=>D.bl (isWord (strOf w))).all lM=true:=by rw[iK];simp[lM]
 have e2:(ws.map fun w=>D.bl (isWord (strOf w))).all mX=ws.all fun w=>isWord (strOf w):=by
  rw[iK];congr 1;funext w;show mX (D.bl (isWord (strOf w)))=_;cases isWord (strOf w)<;>rfl
 rw[e1,e2];simp_arith []
noncomputable def a6(l k:List Nat):List (List Nat):=if l=[]then[k]else[l,k]
noncomputable def fJ(l k:List Nat):D:=.tup [wD l,wD k]
def fy(l k:List Nat):Prop:=(l=[]\/W l)/\W k
theorem W.nn(h:W w):w≠[]:=by
 rintro rfl;revert h;decide +kernel
variable{l k:List Nat}
theorem Em(h:fy l k):eB [bU (a6 l k)]=.ok (fJ l k):=by
 have hs:=szl;obtain⟨hl,hk⟩:=h;rcases hl with rfl|hl
 ·have q:jg [.lst false [.str (strOf k)]]=.ok (.bl true):=by
   have q:=tK [k] false;rw[show([k].all fun w=>isWord (strOf w))=true by simp[hk]]at q;exact q
  show eB [.lst false [.str (strOf k)]]=.ok (.tup [.str (strOf []),.str (strOf k)]);have e:fh [D.str (strOf k)] (-1)=some (.str (strOf k)):=rfl;unfold eB p_ uY;simp_arith [q,e,qV]
 ·have q:jg [.lst false [.str (strOf l),.str (strOf k)]]=.ok (.bl true):=by
   have q:=tK [l,k] false;rw[show([l,k].all fun w=>isWord (strOf w))=true by simp[hk,hl]]at q;exact q
  have e:fh [D.str (strOf l),.str (strOf k)] (-1)=some (.str (strOf k)):=rfl;unfold a6;rw[if_neg hl.nn];show eB [.lst false [.str (strOf l),.str (strOf k)]]=.ok (.tup [.str (strOf l),.str (strOf k)]);unfold eB p_ uY;simp_arith [q,e,fm]
noncomputable def cy:List (List Nat)->List (List Nat)
|[]=>[]
|[a]=>[a]
|a::r=>a::iQ::cy r
theorem XJ(a:List Nat):fN [bU [a]]=.ok (.lst true [wD a]):=by kernel_rfl
theorem XM(a b:List Nat):fN [bU [a,iQ,b]]=.ok (.lst true [wD a,wD b]):=by kernel_rfl
theorem ch3(a b c:List Nat):fN [bU [a,iQ,b,iQ,c]]=.ok (.lst true [wD a,wD b,wD c]):=by kernel_rfl
def qW(ks:List (List Nat)):Prop:=(∀w∈ks,W w)/\(1<=ks.length/\ks.length<=3)/\(mS (ks.map strOf)).length=ks.length
theorem MK(ks:List (List Nat))(h:1<=ks.length/\ks.length<=3):fN [bU (cy ks)]=.ok (.lst true (ks.map wD)):=by
 rcases ks with _|⟨a,_|⟨b,_|⟨c,_|⟨d,r⟩⟩⟩⟩
 ·exact absurd h.1 (by decide)
 ·exact XJ a
 ·exact XM a b
 ·exact ch3 a b c
 ·exact absurd h.2 (by simp only[aN];omega)
theorem lS:∀l:List (List Nat),dO (l.map wD)=true
|[]=>rfl
|_::r=>lS r
variable{ks:List (List Nat)}
theorem B4(h:qW ks):fP [bU (cy ks)]=.ok (.lst true (ks.map wD)):=by
 have hs:=szl;obtain⟨h1,h2,h3⟩:=h;have q:=MK ks h2;have q2:=tK ks false;rw[show(ks.all fun w=>isWord (strOf w))=true from bz.mpr h1]at q2;have fr:=qU (cy ks);have fk:=c9 ks;have hl:decide (3<(ks.length:Int))=false:=decide_eq_false (by omega);have hn:AF (.lst false (ks.map wD))=.ok (.int (ks.length:Int)):=by
  rw[Ie (ss:=ks.map strOf) (by
   have:∀l:List (List Nat),jL (l.map wD)=some (l.map strOf):=fun l=>by
    induction l with
    |nil=>rfl
    |cons a r ih=>
     show(jL (r.map wD)).map (strOf a::·)=_;rw[ih];rfl
   exact this ks) (by rw[aH];omega),h3]
 have ho:=lS ks;unfold fP qS w6;generalize bU (cy ks)=d at q fr ⊢;simp_arith [q,q2,fr,fk,hl,hn,ho]
theorem u7(k:List Nat)(r:List (List Nat)):∃tl,cy (k::r)=k::tl:=by
 cases r with
 |nil=>exact⟨_,rfl⟩
 |cons=>exact⟨_,rfl⟩
noncomputable def qX(n:Int)(c:Bool)(l:List Nat)(ks:List (List Nat)):D:=.tup [.str "parts",.int n,.bl c,wD l,.lst true (ks.map wD)]
theorem Ti(c:Bool)(u l:List Nat)(n:Int)(hu:cW [.str (strOf u)]=.ok (.int n))(h1:1<=n)(h5:n<=5)(hk:qW ks)(hl:W l):c8 [.bl c,bU (u::l::cy ks)]=.ok (qX n c l ks):=by
 have hs:=szl;have qk:=B4 hk;obtain⟨k1,k2,k3⟩:=hk;have ho:=lS ks;have fk:=c9 ks;obtain⟨k,tl,e,hw⟩:∃k tl,cy ks=k::tl/\W k:=by
  cases ks with
  |nil=>exact absurd k2.1 (by decide)
  |cons k r=>obtain⟨tl,e⟩:=u7 k r;exact⟨k,tl,e,k1 k aq⟩
 rw[e]at qk ⊢;have ft:=c9 tl;have g1:=hw.nk (v:=iQ) (by decide);have g2:=hl.ne;have g3:=decide_eq_true h1;have g4:=decide_eq_true h5;have g5:=oW (strOf l);rw[hl]at g5;unfold qX;show c8 [.bl c,.lst false (.str (strOf u)::.str (strOf l)::.str (strOf k)::tl.map wD)]=.ok (.tup [.str "parts",.int n,.bl c,.str (strOf l),.lst true (ks.map wD)]);have qk:fP [.lst false (.str (strOf k)::tl.map wD)]=_:=qk;generalize tl.map wD=t at ft qk ⊢;have c2:cut (D.str (strOf u)::.str (strOf l)::.str (strOf k)::t) (some 2) none=.str (strOf k)::t:=dR _ 2 (by simp);have l2:decide (((t.length+1+1+1:Nat):Int)<2)=false:=decide_eq_false (by omega);have l3:decide (2<((t.length+1+1+1:Nat):Int))=true:=decide_eq_true (by omega);unfold c8 kD nc;simp_arith [ft,fm,nO,at2,hu,l2,l3,g1,g2,g3,g4,g5,c2,qk,XI,qV,fk,ho]
theorem Tj(c:Bool)(u:List Nat)(n:Int)(hu:cW [.str (strOf u)]=.ok (.int n))(h1:1<=n)(h5:n<=5)(hk:qW ks):c8 [.bl c,bU (u::cy ks)]=.ok (qX n c [] ks):=by
 have hs:=szl;have qk:=B4 hk;obtain⟨k1,k2,k3⟩:=hk;have ho:=lS ks;have fk:=c9 ks;have g3:=decide_eq_true h1;have g4:=decide_eq_true h5;unfold qX;rcases ks with _|⟨a,_|⟨b,r⟩⟩
 ·exact absurd k2.1 (by decide)
 ·have qk:fP [.lst false [.str (strOf a)]]=.ok (.lst true [.str (strOf a)]):=qk;show c8 [.bl c,.lst false [.str (strOf u),.str (strOf a)]]=.ok (.tup [.str "parts",.int n,.bl c,.str (strOf []),.lst true [.str (strOf a)]]);have c2:cut [D.str (strOf u),.str (strOf a)] (some 1) none=[.str (strOf a)]:=dR _ 1 (by simp);unfold c8 kD nc;simp_arith [fm,nO,at2,hu,g3,g4,c2,qk,qV]
 ·obtain⟨tl,e⟩:∃tl,cy (a::b::r)=a::iQ::tl:=⟨_,rfl⟩;rw[e]at qk ⊢;have ft:=c9 tl;show c8 [.bl c,.lst false (.str (strOf u)::.str (strOf a)::.str (strOf iQ)::tl.map wD)]=.ok (.tup [.str "parts",.int n,.bl c,.str (strOf []),.lst true ((a::b::r).map wD)]);have qk:fP [.lst false (.str (strOf a)::.str (strOf iQ)::tl.map wD)]=_:=qk;generalize tl.map wD=t at ft qk ⊢;generalize(a::b::r).map wD=ks at fk ho qk ⊢;have c2:cut (D.str (strOf u)::.str (strOf a)::.str (strOf iQ)::t) (some 1) none=.str (strOf a)::.str (strOf iQ)::t:=dR _ 1 (by simp);have l2:decide (((t.length+1+1+1:Nat):Int)<2)=false:=decide_eq_false (by omega);have l3:decide (2<((t.length+1+1+1:Nat):Int))=true:=decide_eq_true (by omega);unfold c8 kD nc;simp_arith [ft,fm,nO,at2,hu,l2,l3,g3,g4,c2,qk,XI,qV,fk,ho]
theorem VM(o:nB):bQ .NotIn (.str (strOf bG)) (bq (.cst uX))=.ok (.bl false):=by kernel_rfl
theorem Yw:bQ .NotIn (.str (strOf aL)) (bq (.cst Dn))=.ok (.bl false):=by kernel_rfl
theorem VN(hv:W v)(h:fy l k):j5 [bU (v::bG::a6 l k)]=.ok (.tup [.str "then",wD v,fJ l k]):=by
 have hs:=szl;have q:=Em h;have g:=oW (strOf v);rw[hv]at g;have gt:=VM .In;have ft:=c9 (a6 l k);have q:eB [.lst false ((a6 l k).map wD)]=.ok (.tup [.str (strOf l),.str (strOf k)]):=q;show j5 [.lst false (.str (strOf v)::.str (strOf bG)::(a6 l k).map wD)]=.ok (.tup [.str "then",.str (strOf v),.tup [.str (strOf l),.str (strOf k)]]);generalize(a6 l k).map wD=t at q ft ⊢;have c2:cut (D.str (strOf v)::.str (strOf bG)::t) (some 2) none=t:=dR _ 2 (by simp);have l2:decide (((t.length+1+1:Nat):Int)<2)=false:=decide_eq_false (by omega);unfold j5 tw y_;simp_arith [ft,fm,nO,l2,g,gt,c2,q]
theorem Yx(h:fy l k)(hk:qW ks):mD [bU (a6 l k),bU (aL::cy ks)]=.ok (.tup [.str "is",fJ l k,.lst true (ks.map wD)]):=by
 have hs:=szl;have q:=Em h;have qk:=B4 hk;have ga:=Yw;have fr:=c9 (a6 l k);have ft:=c9 (cy ks);have ho:=lS ks;have fk:=c9 ks;have q:eB [.lst false ((a6 l k).map wD)]=.ok (.tup [.str (strOf l),.str (strOf k)]):=q;have qk:fP [.lst false ((cy ks).map wD)]=_:=qk;show mD [.lst false ((a6 l k).map wD),.lst false (.str (strOf aL)::(cy ks).map wD)]=.ok (.tup [.str "is",.tup [.str (strOf l),.str (strOf k)],.lst true (ks.map wD)]);generalize(a6 l k).map wD=r at q fr ⊢;generalize(cy ks).map wD=t at qk ft ⊢;have c2:cut (D.str (strOf aL)::t) (some 1) none=t:=dR _ 1 (by simp);unfold mD wW Dr;simp_arith [ft,fr,fm,ga,c2,q,qk,fk,ho]
variable{l2 k2:List Nat}
theorem VO(h:fy l2 k2):jh [fJ l k,wD v,bU (a6 l2 k2)]=.ok (.tup [.str "join",fJ l k,wD v,fJ l2 k2]):=by
 have hs:=szl;have q:=Em h;have fr:=c9 (a6 l2 k2);have q:eB [.lst false ((a6 l2 k2).map wD)]=.ok (.tup [.str (strOf l2),.str (strOf k2)]):=q;show jh [.tup [.str (strOf l),.str (strOf k)],.str (strOf v),.lst false ((a6 l2 k2).map wD)]=.ok (.tup [.str "join",.tup [.str (strOf l),.str (strOf k)],.str (strOf v),.tup [.str (strOf l2),.str (strOf k2)]]);generalize(a6 l2 k2).map wD=r at q fr ⊢;unfold jh tB y9;simp_arith [fr,q]
noncomputable def oD:Option Int->D
|some n=>.int n
|none=>.non
abbrev l_(u:List Nat)(o:Option Int):Prop:=cW [wD u]=.ok (oD o)
theorem ML(o:Option Int):iV (oD o)=o.isNone:=by cases o<;>rfl
theorem rW(o:Option Int):bq (oD o)=oD o:=by cases o<;>rfl
noncomputable abbrev NP:=List Nat×Option Int
noncomputable def VP(p:NP):D:=if p.2.isNone=true then wD p.1 else .str (strOf [])
theorem rX(ps:List NP)(h:∀p∈ps,l_ p.1 p.2):cZ (pG (.name 0)) (fun _=>.ok true) (pE gS (.ite (.cmp .Is (.call 0 (.cons (.var 0) .nil)) (.con .non)) (.var 0) (.con (.str (strOf []))))) (ps.map fun p=>wD p.1) [none]=.ok (ps.map VP):=by
 refine ic (fun p:NP=>wD p.1) (fun O=>∃o,O=[o]) VP ps _ ⟨none,rfl⟩ ?_;rintro p hp O ⟨o,rfl⟩;refine⟨[some (wD p.1)],rfl,⟨_,rfl⟩,?_⟩;have q:=h p hp;have e:=ML p.2;unfold VP;unfold l_ wD at q;unfold gS wD;cases hn:p.2.isNone with
 |false=>rw[hn]at e;simp_arith [q,e]
 |true=>rw[hn]at e;simp_arith [q,e]
theorem rY(ps:List NP)(h:∀p∈ps,l_ p.1 p.2):cZ (pG (.name 0)) (pT gS (.cmp .IsNot (.call 0 (.cons (.var 0) .nil)) (.con .non))) (pE gS (.call 0 (.cons (.var 0) .nil))) (ps.map fun p=>wD p.1) [none]=.ok ((ps.filter fun p=>!p.2.isNone).map fun p=>oD p.2):=by
 refine kC (fun p:NP=>wD p.1) (fun O=>∃o,O=[o]) (fun p=>!p.2.isNone) (fun p=>oD p.2) ps _ ⟨none,rfl⟩ ?_;rintro p hp O ⟨o,rfl⟩;have q:=h p hp;have e:=ML p.2;unfold l_ wD at q;refine⟨[some (wD p.1)],rfl,⟨_,rfl⟩,?_,?_⟩
 ·unfold gS wD;simp_arith [q,e]
 ·unfold gS wD;simp_arith [q,e]
noncomputable def aO(n:Int):List Nat:=(mR n).cps.toList
theorem B5(n:Int):strOf (aO n)=mR n:=by
 show(⟨(mR n).cps.toList.toArray⟩:Str)=_;rw[Array.toArray_toList]
def Num(n:Int):Prop:=-(10 ^ 30)<n/\n<10 ^ 30
variable{n:Int}
theorem u9(h:Num n):l_ (aO n) (some n):=by
 show cW [.str (strOf (aO n))]=_;rw[B5];exact W7 n h.1 h.2
noncomputable def pK:Option Int->Option Int->List (List Nat)
|some a,none=>[ie,fR,aO a]
|none,some b=>[ie,nt,aO b]
|some a,some b=>if a=b then[oY,aO a]else[gc,aO a,toL,aO b]
|_,_=>[]
def tL:Option Int->Option Int->Prop
|some a,none=>Num a
|none,some b=>Num b
|some a,some b=>Num a/\Num b/\a<=b
|_,_=>False
theorem W8:l_ oY none:=by kernel_rfl
theorem RC:l_ ie none:=by kernel_rfl
theorem W9:l_ fR none:=by kernel_rfl
theorem W_:l_ nt none:=by kernel_rfl
theorem Xa:l_ gc none:=by kernel_rfl
theorem Xb:l_ toL none:=by kernel_rfl
variable{α:Type}
theorem all2{p:α->Prop}{a b:α}(h1:p a)(h2:p b):∀x∈[a,b],p x:=by simp[h1,h2]
theorem zY{p:α->Prop}{a b c:α}(h1:p a)(h2:p b)(h3:p c):∀x∈[a,b,c],p x:=by simp[h1,h2,h3]
theorem Qq{p:α->Prop}{a b c d:α}(h1:p a)(h2:p b)(h3:p c)(h4:p d):∀x∈[a,b,c,d],p x:=by simp[h1,h2,h3,h4]
theorem Tn{a:Int}(h:Num a):b9 [bU [oY,aO a]]=.ok (.tup [.int a,.int a]):=by
 have hs:=szl;have A:∀p∈([(oY,none),(aO a,some a)]:List NP),l_ p.1 p.2:=all2 W8 (u9 h);have f:cZ _ _ _ [D.str (strOf oY),.str (strOf (aO a))] [none]=R.ok [D.str (strOf oY),.str (strOf [])]:=rX _ A;have g:cZ _ _ _ [D.str (strOf oY),.str (strOf (aO a))] [none]=R.ok [D.int a]:=rY _ A;have e:bQ .Eq (.lst false [D.str (strOf oY),.str (strOf [])]) (.lst true [.str "of",.str (strOf [])])=.ok (.bl true):=by kernel_rfl
 show b9 [.lst false [.str (strOf oY),.str (strOf (aO a))]]=_;unfold b9 iS;simp_arith [qV,f,g,e,fm]
theorem To{a:Int}(h:Num a):b9 [bU [ie,fR,aO a]]=.ok (.tup [.int a,.non]):=by
 have hs:=szl;have A:∀p∈([(ie,none),(fR,none),(aO a,some a)]:List NP),l_ p.1 p.2:=zY RC W9 (u9 h);have f:cZ _ _ _ [D.str (strOf ie),.str (strOf fR),.str (strOf (aO a))] [none]=R.ok [D.str (strOf ie),.str (strOf fR),.str (strOf [])]:=rX _ A;have g:cZ _ _ _ [D.str (strOf ie),.str (strOf fR),.str (strOf (aO a))] [none]=R.ok [D.int a]:=rY _ A;have e:bQ .Eq (.lst false [D.str (strOf ie),.str (strOf fR),.str (strOf [])]) (.lst true [.str "of",.str (strOf [])])=.ok (.bl false):=by kernel_rfl
 have e2:bQ .Eq (.lst false [D.str (strOf ie),.str (strOf fR),.str (strOf [])]) (.lst true [.str "at",.str "least",.str (strOf [])])=.ok (.bl true):=by kernel_rfl
 show b9 [.lst false [.str (strOf ie),.str (strOf fR),.str (strOf (aO a))]]=_;unfold b9 iS;simp_arith [qV,f,g,e,e2,fm]
theorem Tp{a:Int}(h:Num a):b9 [bU [ie,nt,aO a]]=.ok (.tup [.non,.int a]):=by
 have hs:=szl;have A:∀p∈([(ie,none),(nt,none),(aO a,some a)]:List NP),l_ p.1 p.2:=zY RC W_ (u9 h);have f:cZ _ _ _ [D.str (strOf ie),.str (strOf nt),.str (strOf (aO a))] [none]=R.ok [D.str (strOf ie),.str (strOf nt),.str (strOf [])]:=rX _ A;have g:cZ _ _ _ [D.str (strOf ie),.str (strOf nt),.str (strOf (aO a))] [none]=R.ok [D.int a]:=rY _ A;have e:bQ .Eq (.lst false [D.str (strOf ie),.str (strOf nt),.str (strOf [])]) (.lst true [.str "of",.str (strOf [])])=.ok (.bl false):=by kernel_rfl
 have e2:bQ .Eq (.lst false [D.str (strOf ie),.str (strOf nt),.str (strOf [])]) (.lst true [.str "at",.str "least",.str (strOf [])])=.ok (.bl false):=by kernel_rfl
 have e3:bQ .Eq (.lst false [D.str (strOf ie),.str (strOf nt),.str (strOf [])]) (.lst true [.str "at",.str "most",.str (strOf [])])=.ok (.bl true):=by kernel_rfl
 show b9 [.lst false [.str (strOf ie),.str (strOf nt),.str (strOf (aO a))]]=_;unfold b9 iS;simp_arith [qV,f,g,e,e2,e3,fm]
theorem Tq{a b:Int}(h:Num a)(h2:Num b)(hab:a<=b):b9 [bU [gc,aO a,toL,aO b]]=.ok (.tup [.int a,.int b]):=by
 have hs:=szl;have A:∀p∈([(gc,none),(aO a,some a),(toL,none),(aO b,some b)]:List NP),l_ p.1 p.2:=Qq Xa (u9 h) Xb (u9 h2);have f:cZ _ _ _ [D.str (strOf gc),.str (strOf (aO a)),.str (strOf toL),.str (strOf (aO b))] [none]=R.ok [D.str (strOf gc),.str (strOf []),.str (strOf toL),.str (strOf [])]:=rX _ A;have g:cZ _ _ _ [D.str (strOf gc),.str (strOf (aO a)),.str (strOf toL),.str (strOf (aO b))] [none]=R.ok [D.int a,.int b]:=rY _ A;have e:bQ .Eq (.lst false [D.str (strOf gc),.str (strOf []),.str (strOf toL),.str (strOf [])]) (.lst true [.str "of",.str (strOf [])])=.ok (.bl false):=by kernel_rfl
 have e2:bQ .Eq (.lst false [D.str (strOf gc),.str (strOf []),.str (strOf toL),.str (strOf [])]) (.lst true [.str "at",.str "least",.str (strOf [])])=.ok (.bl false):=by kernel_rfl
 have e3:bQ .Eq (.lst false [D.str (strOf gc),.str (strOf []),.str (strOf toL),.str (strOf [])]) (.lst true [.str "at",.str "most",.str (strOf [])])=.ok (.bl false):=by kernel_rfl
 have e4:bQ .Eq (.lst false [D.str (strOf gc),.str (strOf []),.str (strOf toL),.str (strOf [])]) (.lst true [.str "from",.str (strOf []),.str "to",.str (strOf [])])=.ok (.bl true):=by kernel_rfl
 have le:=decide_eq_true hab;show b9 [.lst false [.str (strOf gc),.str (strOf (aO a)),.str (strOf toL),.str (strOf (aO b))]]=_;unfold b9 iS;simp_arith [qV,f,g,e,e2,e3,e4,fm,nO,le]
variable{a b:Option Int}
theorem Qs(h:tL a b):b9 [bU (pK a b)]=.ok (.tup [oD a,oD b]):=by
 rcases a with _|a<;>rcases b with _|b
 ·exact h.elim
 ·exact Tp h
 ·exact To h
 ·obtain⟨h1,h2,h3⟩:=h;show b9 [bU (if a=b then[oY,aO a]else[gc,aO a,toL,aO b])]=_;by_cases e:a=b
  ·subst e;rw[if_pos rfl];exact Tn h1
  ·rw[if_neg e];exact Tq h1 h2 h3
theorem VQ(h:tL a b):jf [fJ l k,wD v,bU (pK a b)]=.ok (.tup [.str "size",fJ l k,wD v,oD a,oD b]):=by
 have hs:=szl;have q:=Qs h;have fa:=rW a;have fb:=rW b;have fr:=c9 (pK a b);have q:b9 [.lst false ((pK a b).map wD)]=.ok (.tup [oD a,oD b]):=q;show jf [.tup [.str (strOf l),.str (strOf k)],.str (strOf v),.lst false ((pK a b).map wD)]=.ok (.tup [.str "size",.tup [.str (strOf l),.str (strOf k)],.str (strOf v),oD a,oD b]);generalize(pK a b).map wD=r at q fr ⊢;have oa:aT (oD a)=true:=by cases a<;>rfl
 have ob:aT (oD b)=true:=by cases b<;>rfl
 unfold jf tD yY;simp_arith [fr,q,fa,fb,fm,nO,oa,ob]
theorem Xc{c:a_->R Bool}{b:a_->Fl}(O:Nat->a_)(Zv:a_)(h0:O 0=Zv)(n N:Nat)(h:∀i<n,c (O i)=.ok true/\b (O i)=.nx (O (i+1)))(h2:c (O n)=.ok false)(hN:n<N):s_ c b N Zv=.nx (O n):=by
 subst h0;have go:∀k i N,i+k=n->k<N->s_ c b N (O i)=.nx (O n):=by
  intro k;induction k with
  |zero=>
   intro i N e hN;obtain⟨N,rfl⟩:∃m,N=m+1:=⟨N-1,by omega⟩;have e:i=n:=by omega
   subst e;show(c (O i)).aR _=_;rw[h2];rfl
  |succ k ih=>
   intro i N e hN;obtain⟨N,rfl⟩:∃m,N=m+1:=⟨N-1,by omega⟩;show(c (O i)).aR _=_;rw[(h i (by omega)).1];have q:=ih (i+1) N (by omega) (by omega);simp only[R.aR,(h i (by omega)).2,if_true];exact q
 exact go n 0 N (by omega) hN
theorem Qt(r:List (List Nat))(i:Nat)(h:i<r.length):fh (r.map wD) (i:Int)=some (.str (strOf r[i])):=kP (by rw[bL,aG h];rfl)
theorem B6(ws t:List (List Nat))(hw:∀w∈ws,W w)(ht:∀x r,t=x::r->isWord (strOf x)=false)(hl:ws.length<900):dj [bU (ws++t)]=.ok (.int (ws.length:Int)):=by
 have hs:=szl;have fr:=c9 (ws++t);have ln:((ws++t).map wD).length=ws.length+t.length:=by rw[aH,ay]
 have hat:∀i<ws.length,∃w,W w/\fh ((ws++t).map wD) (i:Int)=some (.str (strOf w)):=fun i hi=>⟨ws[i],hw _ (iL hi),by
  rw[Qt _ i (by rw[ay];omega),List.getElem_append_left hi]⟩
 have hend:∀x r,t=x::r->fh ((ws++t).map wD) (ws.length:Int)=some (.str (strOf x)):=fun x r e=>by
  subst e;rw[Qt _ ws.length (by simp),qo (aM _)];simp
 unfold dj je kg lC bU;generalize(ws++t).map wD=R at fr ln hat hend;simp_arith [fr];rw[Xc (fun i=>[some (.lst false R),some (.int (i:Int))]) [some (.lst false R),some (.int 0)] rfl ws.length 1000 (fun i hi=>by
  obtain⟨w,h1,h2⟩:=hat i hi;have q:=oW (strOf w);rw[h1]at q;have g:decide ((i:Int)<(R.length:Int))=true:=decide_eq_true (by omega);constructor
  ·simp_arith [fr,g,h2,q]
  ·simp_arith [];rfl) (by
  cases t with
  |nil=>
   have g:decide ((ws.length:Int)<(R.length:Int))=false:=decide_eq_false (by rw[ln];simp);simp_arith [fr,g]
  |cons x r=>
   have g:decide ((ws.length:Int)<(R.length:Int))=true:=decide_eq_true (by rw[ln];simp;omega);have h2:=hend x r rfl;have q:=oW (strOf x);rw[ht x r rfl]at q;simp_arith [fr,g,h2,q]) (by omega)]
 simp_arith []
theorem k_is:isWord (strOf iD)=false:=by decide +kernel
theorem Xd:isWord (strOf bG)=false:=by decide +kernel
theorem Yy:isWord (strOf oY)=false:=by decide +kernel
theorem Yz:isWord (strOf ie)=false:=by decide +kernel
theorem VR:isWord (strOf gc)=false:=by decide +kernel
theorem VS:aj "is"=strOf iD:=by decide +kernel
theorem Ge(h:fy l k):∀w∈a6 l k,W w:=by
 unfold a6;obtain⟨h1,h2⟩:=h;split
 ·intro w hw;rw[aU.mp hw];exact h2
 ·rename_i e;rcases h1 with h1|h1
  ·exact absurd h1 e
  ·intro w hw;rcases aJ.mp hw with rfl|hw
   ·exact h1
   ·rw[aU.mp hw];exact h2
theorem gW(l k:List Nat):1<=(a6 l k).length/\(a6 l k).length<=2:=by
 unfold a6;split<;>simp
theorem Qu(h:W w):cA [bU [w]]=.ok .non:=by
 have q:=B6 [w] [] (by simpa using h) (by intro x r e;cases e) (by simp);have q:dj [.lst false [.str (strOf w)]]=.ok (.int 1):=q;show cA [.lst false [.str (strOf w)]]=_;unfold cA jW lQ;simp_arith [q]
theorem Tt(h:fy l k)(hk:qW ks):cA [bU (a6 l k++iD::aL::cy ks)]=.ok (.tup [.str "is",fJ l k,.lst true (ks.map wD)]):=by
 have q:=B6 (a6 l k) (iD::aL::cy ks) (Ge h) (by intro x r e;cases e;exact k_is) (by have:=gW l k;omega);have qi:=Yx h hk;have fr:=c9 (a6 l k++iD::aL::cy ks);have f1:=c9 (a6 l k);have f2:=c9 (iD::aL::cy ks);have ho:=lS (iD::aL::cy ks);have c1:cut ((a6 l k++iD::aL::cy ks).map wD) (some ((a6 l k).length:Int)) none=(iD::aL::cy ks).map wD:=by
  rw[dR _ _ (by simp),<-D4,nL (aM _),List.drop_length];rfl
 have c2:cut ((a6 l k++iD::aL::cy ks).map wD) none (some ((a6 l k).length:Int))=(a6 l k).map wD:=by
  rw[l8,<-D5,Cp]
 have c3:cut ((iD::aL::cy ks).map wD) (some 1) none=(aL::cy ks).map wD:=dR _ 1 (by simp);have i0:fh ((iD::aL::cy ks).map wD) 0=some (.str (strOf iD)):=fm _ _;have ne:(((a6 l k).length:Int)==(((a6 l k++iD::aL::cy ks).map wD).length:Int))=false:=by
  rw[beq_eq_false_iff_ne,aH,ay,aN];omega
 have f3:=c9 (aL::cy ks);have q:dj [.lst false ((a6 l k++iD::aL::cy ks).map wD)]=_:=q;have qi:mD [.lst false ((a6 l k).map wD),.lst false ((aL::cy ks).map wD)]=_:=qi;show cA [.lst false ((a6 l k++iD::aL::cy ks).map wD)]=_;generalize(a6 l k++iD::aL::cy ks).map wD=X at *;generalize(iD::aL::cy ks).map wD=Y_ at *;generalize(a6 l k).map wD=Z at *;generalize(aL::cy ks).map wD=U at *;generalize(a6 l k).length=n at *;unfold cA jW lQ;simp_arith [q,fr,ne,c1,f2,i0,VS,c2,c3,f1,f3,qi,ho]
theorem Gf{x:List Nat}{t:List (List Nat)}{r:D}{J:Bool}(h:fy l k)(hv:W v)(hx:isWord (strOf x)=false)(hi:(strOf x==strOf iD)=false)(hJ:bQ .In (.str (strOf x)) (bq (.cst uX))=.ok (.bl J))
  (q1:J=true->jh [fJ l k,wD v,bU t]=.ok r) (q2:J=false->jf [fJ l k,wD v,bU (x::t)]=.ok r):cA [bU (a6 l k++v::x::t)]=.ok r:=by
 have hs:=szl;have hl:=gW l k;have q:=B6 (a6 l k++[v]) (x::t) (fun w hw=>by
  rcases aZ.mp hw with hw|hw
  ·exact Ge h w hw
  ·rw[aU.mp hw];exact hv) (by intro x r e;cases e;exact hx) (by rw[ay,cg];omega)
 have e:a6 l k++[v]++x::t=a6 l k++v::x::t:=by simp
 rw[e,ay,cg]at q;have qr:=Em h;have fr:=c9 (a6 l k++v::x::t);have f1:=c9 (a6 l k);have o1:=lS (x::t);have f2:=c9 t;have c1:cut ((a6 l k++v::x::t).map wD) (some (((a6 l k).length+1:Nat):Int)) none=.str (strOf x)::t.map wD:=by
  rw[dR _ _ (by simp),<-D4,<-e,nL (by simp),lF (by simp)];rfl
 have c2:cut ((a6 l k++v::x::t).map wD) none (some ((((a6 l k).length+1:Nat):Int)-1))=(a6 l k).map wD:=by
  rw[show(((a6 l k).length+1:Nat):Int)-1=((a6 l k).length:Int)by omega,l8,<-D5,Cp]
 have i1:fh ((a6 l k++v::x::t).map wD) ((((a6 l k).length+1:Nat):Int)-1)=some (.str (strOf v)):=by
  rw[show(((a6 l k).length+1:Nat):Int)-1=((a6 l k).length:Int)by omega,Qt _ _ (by simp),qo (aM _)];simp
 have c3:cut (D.str (strOf x)::t.map wD) (some 1) none=t.map wD:=dR _ 1 (by simp);have ne:((((a6 l k).length+1:Nat):Int)==(((a6 l k++v::x::t).map wD).length:Int))=false:=by
  rw[beq_eq_false_iff_ne,aH,ay,aN,aN];omega
 have lt:decide ((((a6 l k).length+1:Nat):Int)<2)=false:=decide_eq_false (by omega);have q:dj [.lst false ((a6 l k++v::x::t).map wD)]=_:=q;have qr:eB [.lst false ((a6 l k).map wD)]=.ok (.tup [.str (strOf l),.str (strOf k)]):=qr;have o1:dO (t.map wD)=true:=o1;have q1:J=true->jh [.tup [.str (strOf l),.str (strOf k)],.str (strOf v),.lst false (t.map wD)]=.ok r:=q1;have q2:J=false->jf [.tup [.str (strOf l),.str (strOf k)],.str (strOf v),.lst false (.str (strOf x)::t.map wD)]=.ok r:=q2;show cA [.lst false ((a6 l k++v::x::t).map wD)]=_;generalize(a6 l k++v::x::t).map wD=X at fr c1 c2 i1 ne q ⊢;generalize t.map wD=Y_ at o1 f2 c1 c3 q1 q2 ⊢;generalize(a6 l k).map wD=Z at f1 c2 qr ⊢;generalize(((a6 l k).length+1:Nat):Int)=n at q c1 c2 i1 ne lt ⊢;unfold cA jW lQ;cases J with
 |true=>
  have q1:=q1 rfl;simp_arith [q,fr,ne,c1,f2,o1,fm,VS,hi,lt,c2,f1,qr,hJ,i1,c3,q1]
 |false=>
  have q2:=q2 rfl;simp_arith [q,fr,ne,c1,f2,o1,fm,VS,hi,lt,c2,f1,qr,hJ,i1,c3,q2]
theorem MM(h:fy l k)(hv:W v)(h2:fy l2 k2):cA [bU (a6 l k++v::bG::a6 l2 k2)]=.ok (.tup [.str "join",fJ l k,wD v,fJ l2 k2]):=
 Gf (J:=true) h hv Xd (by decide +kernel) (by kernel_rfl) (fun _=>VO h2) (by intro z;cases z)
theorem MN(h:fy l k)(hv:W v)(h2:tL a b):cA [bU (a6 l k++v::pK a b)]=.ok (.tup [.str "size",fJ l k,wD v,oD a,oD b]):=by
 have q:=VQ (l:=l) (k:=k) (v:=v) h2;have key:∀x t,pK a b=x::t->x∈[oY,ie,gc]->cA [bU (a6 l k++v::pK a b)]=.ok (.tup [.str "size",fJ l k,wD v,oD a,oD b]):=by
  intro x t e hx;rw[e]at q ⊢;have hh:isWord (strOf x)=false/\(strOf x==strOf iD)=false/\bQ .In (.str (strOf x)) (bq (.cst uX))=.ok (.bl false):=by
   rcases aJ.mp hx with rfl|hx
   ·exact⟨Yy,by decide +kernel,by kernel_rfl⟩
   ·rcases aJ.mp hx with rfl|hx
    ·exact⟨Yz,by decide +kernel,by kernel_rfl⟩
    ·rw[aU.mp hx];exact⟨VR,by decide +kernel,by kernel_rfl⟩
  exact Gf (J:=false) h hv hh.1 hh.2.1 hh.2.2 (by intro z;cases z) fun _=>q
 rcases a with _|a<;>rcases b with _|b
 ·exact h2.elim
 ·exact key _ _ rfl (by decide)
 ·exact key _ _ rfl (by decide)
 ·by_cases e:a=b
  ·exact key oY [aO a] (by show(if a=b then _ else _)=_;rw[if_pos e]) (by decide)
  ·exact key gc [aO a,toL,aO b] (by show(if a=b then _ else _)=_;rw[if_neg e]) (by decide)
section
variable{t:List D}{y:List Nat}{r:D} (ft:aC t=t)
include ft
theorem Xe(hl:t.length<=100)(q:c8 [.bl false,.lst false (.str (strOf [49])::t)]=.ok r):cT [.lst false (.str (strOf aL)::t)]=.ok r:=by
 have hs:=szl;have e1:bQ .In (.str (strOf aL)) (bq (.cst Dn))=.ok (.bl true):=by kernel_rfl
 have n1:aj "1"=strOf [49]:=by decide +kernel
 have c1:cut (D.str (strOf aL)::t) (some 1) none=t:=dR _ 1 (by simp);unfold cT jO kU;simp_arith [ft,fm,e1,c1,n1,q]
theorem VT(q:c8 [.bl false,.lst false t]=.ok r):cT [.lst false (.str (strOf ie)::.str (strOf fR)::t)]=.ok r:=by
 have hs:=szl;have e1:bQ .In (.str (strOf ie)) (bq (.cst Dn))=.ok (.bl false):=by kernel_rfl
 have c0:cut (D.str (strOf ie)::.str (strOf fR)::t) none (some 2)=[.str (strOf ie),.str (strOf fR)]:=l8 _ 2;have c1:cut (D.str (strOf ie)::.str (strOf fR)::t) (some 2) none=t:=dR _ 2 (by simp);have e2:bQ .Eq (.lst true [D.str (strOf ie),.str (strOf fR)]) (.lst true [.str "at",.str "least"])=.ok (.bl true):=by kernel_rfl
 unfold cT jO kU;simp_arith [ft,fm,e1,c0,e2,c1,q]
theorem Qv(q:c8 [.bl true,.lst false (.str (strOf y)::t)]=.ok r):cT [.lst false (.str (strOf nu)::.str (strOf y)::t)]=.ok r:=by
 have hs:=szl;have e1:bQ .In (.str (strOf nu)) (bq (.cst Dn))=.ok (.bl false):=by kernel_rfl
 have c0:cut (D.str (strOf nu)::.str (strOf y)::t) none (some 2)=[.str (strOf nu),.str (strOf y)]:=l8 _ 2;have c1:cut (D.str (strOf nu)::.str (strOf y)::t) (some 1) none=.str (strOf y)::t:=dR _ 1 (by simp);have e2:bQ .Eq (.lst true [D.str (strOf nu),.str (strOf y)]) (.lst true [.str "at",.str "least"])=.ok (.bl false):=by kernel_rfl
 have e3:(strOf nu==aj "just")=true:=by decide +kernel
 unfold cT jO kU;simp_arith [ft,fm,e1,c0,e2,e3,c1,q]
theorem Qw(q:j5 [.lst false (.str (strOf y)::t)]=.ok r):cT [.lst false (.str (strOf fS)::.str (strOf y)::t)]=.ok r:=by
 have hs:=szl;have e1:bQ .In (.str (strOf fS)) (bq (.cst Dn))=.ok (.bl false):=by kernel_rfl
 have c0:cut (D.str (strOf fS)::.str (strOf y)::t) none (some 2)=[.str (strOf fS),.str (strOf y)]:=l8 _ 2;have c1:cut (D.str (strOf fS)::.str (strOf y)::t) (some 1) none=.str (strOf y)::t:=dR _ 1 (by simp);have e2:bQ .Eq (.lst true [D.str (strOf fS),.str (strOf y)]) (.lst true [.str "at",.str "least"])=.ok (.bl false):=by kernel_rfl
 have e3:(strOf fS==aj "just")=false:=by decide +kernel
 have e4:(strOf fS==aj "then")=true:=by decide +kernel
 unfold cT jO kU;simp_arith [ft,fm,e1,c0,e2,e3,e4,c1,q]
theorem Ir(q:cA [.lst false (.str (strOf y)::t)]=.ok r):cT [.lst false (.str (strOf bG)::.str (strOf y)::t)]=.ok r:=by
 have hs:=szl;have e1:bQ .In (.str (strOf bG)) (bq (.cst Dn))=.ok (.bl false):=by kernel_rfl
 have c0:cut (D.str (strOf bG)::.str (strOf y)::t) none (some 2)=[.str (strOf bG),.str (strOf y)]:=l8 _ 2;have c1:cut (D.str (strOf bG)::.str (strOf y)::t) (some 1) none=.str (strOf y)::t:=dR _ 1 (by simp);have e2:bQ .Eq (.lst true [D.str (strOf bG),.str (strOf y)]) (.lst true [.str "at",.str "least"])=.ok (.bl false):=by kernel_rfl
 have e3:(strOf bG==aj "just")=false:=by decide +kernel
 have e4:(strOf bG==aj "then")=false:=by decide +kernel
 have e5:bQ .In (.str (strOf bG)) (bq (.cst uX))=.ok (.bl true):=by kernel_rfl
 unfold cT jO kU;simp_arith [ft,fm,e1,c0,e2,e3,e4,e5,c1,q]
end
inductive Rw where
|parts (n:Int) (c:Bool) (l:List Nat) (ks:List (List Nat))
|join (l k v l2 k2:List Nat)
|size (l k v:List Nat) (a b:Option Int)
|isa (l k:List Nat) (ks:List (List Nat))
|aR (v l k:List Nat)
noncomputable def iX(n:Int)(c:Bool):List (List Nat):=if c=true then[nu,aO n]else if n=1 then[aL]else[ie,fR,aO n]
noncomputable def kh(l:List Nat):List (List Nat):=if l=[]then[]else[l]
noncomputable def Rw.words:Rw->List (List Nat)
|.parts n c l ks=>iX n c++(kh l++cy ks)
|.join l k v l2 k2=>bG::(a6 l k++v::bG::a6 l2 k2)
|.size l k v a b=>bG::(a6 l k++v::pK a b)
|.isa l k ks=>bG::(a6 l k++iD::aL::cy ks)
|.aR v l k=>fS::v::bG::a6 l k
noncomputable def Rw.val:Rw->D
|.parts n c l ks=>qX n c l ks
|.join l k v l2 k2=>.tup [.str "join",fJ l k,wD v,fJ l2 k2]
|.size l k v a b=>.tup [.str "size",fJ l k,wD v,oD a,oD b]
|.isa l k ks=>.tup [.str "is",fJ l k,.lst true (ks.map wD)]
|.aR v l k=>.tup [.str "then",wD v,fJ l k]
def Rw.Ok:Rw->Prop
|.parts n _ l ks=>(1<=n/\n<=5)/\(l=[]\/W l)/\qW ks
|.join l k v l2 k2=>fy l k/\W v/\fy l2 k2
|.size l k v a b=>fy l k/\W v/\tL a b
|.isa l k ks=>fy l k/\qW ks
|.aR v l k=>W v/\fy l k
theorem t8(h:qW ks):(cy ks).length<=5:=by
 obtain⟨_,⟨_,h⟩,_⟩:=h;rcases ks with _|⟨a,_|⟨b,_|⟨c,_|⟨d,r⟩⟩⟩⟩
 ·simp[cy]
 ·simp[cy]
 ·simp[cy]
 ·simp[cy]
 ·exact absurd h (by simp only[aN];omega)
theorem zZ(h:1<=n/\n<=5):Num n:=by
 have:(5:Int)<10 ^ 30:=by decide
 exact⟨by omega,by omega⟩
theorem xw(c:Bool)(u l:List Nat)(n:Int)(hu:cW [.str (strOf u)]=.ok (.int n))(h:1<=n/\n<=5)(hk:qW ks)(hl:l=[]\/W l):c8 [.bl c,.lst false (.str (strOf u)::(kh l++cy ks).map wD)]=.ok (qX n c l ks):=by
 unfold kh;rcases hl with rfl|hl
 ·exact Tj c u n hu h.1 h.2 hk
 ·rw[if_neg hl.nn];exact Ti c u l n hu h.1 h.2 hk hl
theorem xx(l k:List Nat)(t:List (List Nat)):∃y s,a6 l k++t=y::s:=by
 unfold a6;split<;>exact⟨_,_,rfl⟩
variable{ws:List (List Nat)}
theorem B7{r:D}(hne:∃y s,ws=y::s)(q:cA [bU ws]=.ok r):cT [bU (bG::ws)]=.ok r:=by
 obtain⟨y,s,rfl⟩:=hne;exact Ir (c9 s) q
theorem Xf(w:Rw)(h:w.Ok):cT [bU w.words]=.ok w.val:=by
 cases w with
 |parts n c l ks=>
  obtain⟨h1,h2,h3⟩:=h;have hl:((kh l++cy ks).map wD).length<=100:=by
   have:=t8 h3;rw[aH,ay];unfold kh;split<;>simp<;>omega
  have ft:=c9 (kh l++cy ks);have hu:cW [.str (strOf (aO n))]=.ok (.int n):=u9 (zZ h1);show cT [bU (iX n c++(kh l++cy ks))]=.ok (qX n c l ks);unfold iX;cases c with
  |true=>exact Qv ft (xw true _ l n hu h1 h3 h2)
  |false=>
   rw[if_neg (by decide)];by_cases e:n=1
   ·subst e;rw[if_pos rfl];exact Xe ft hl (xw false [49] l 1 (by kernel_rfl) h1 h3 h2)
   ·rw[if_neg e];exact VT (c9 (aO n::(kh l++cy ks))) (xw false _ l n hu h1 h3 h2)
 |join l k v l2 k2=>exact B7 (xx l k _) (MM h.1 h.2.1 h.2.2)
 |size l k v a b=>exact B7 (xx l k _) (MN h.1 h.2.1 h.2.2)
 |isa l k ks=>exact B7 (xx l k _) (Tt h.1 h.2)
 |aR v l k=>exact Qw (c9 (bG::a6 l k)) (VN h.1 h.2)
theorem MO(h:W w):cT [bU [bG,w]]=.ok .non:=Ir rfl (Qu h)
section
variable{g:D->a_->R a_}{b:a_->Fl}{d:D}{r:List D}{O Zg Zh:a_} (h1:g d O=.ok Zg)
include h1
theorem xy(h2:b Zg=.nx Zh):forR g b (d::r) O=forR g b r Zh:=by
 show(g d O).aR _=_;rw[h1];simp only[R.aR,h2]
theorem VU(h2:b Zg=.ct Zh):forR g b (d::r) O=forR g b r Zh:=by
 show(g d O).aR _=_;rw[h1];simp only[R.aR,h2]
theorem VV{x:D}(h2:b Zg=.rt x):forR g b (d::r) O=.rt x:=by
 show(g d O).aR _=_;rw[h1];simp only[R.aR,h2]
theorem MP{x:D}(h2:b Zg=.ex x):forR g b (d::r) O=.ex x:=by
 show(g d O).aR _=_;rw[h1];simp only[R.aR,h2]
end
variable{O:a_}
theorem Iu{g:D->a_->R a_}{b:a_->Fl}:forR g b [] O=.nx O:=rfl
noncomputable def JZ(row:Int):D:=.exc 44 ["row"] [.int row]
noncomputable def J0(row:Int):D:=.exc 101 ["row"] [.int row]
noncomputable def Qx(row:Int):D:=.exc 139 ["claim","row"] [.int 0,.int row]
noncomputable def jZ:List Int->List (List Nat)
|[]=>[]
|[a]=>[jB,aO a]
|a::b::_=>[jB,aO a,iQ,aO b]
def B8:List Int->Prop
|[]=>True
|[a]=>0<=a/\Num a
|[a,b]=>0<=a/\a<b/\Num b
|_=>False
theorem XN:aj "on"=strOf jB:=by decide +kernel
theorem Gg(ns:List Int)(h:∀n∈ns,Num n):cZ (pG (.name 0)) (fun _=>.ok true) (pE fO (.call 0 (.cons (.var 0) .nil))) (ns.map fun n=>wD (aO n)) [none]=.ok (ns.map D.int):=by
 refine ic (fun n=>wD (aO n)) (fun O=>∃o,O=[o]) D.int ns _ ⟨none,rfl⟩ ?_;rintro n hn O ⟨o,rfl⟩;refine⟨[some (wD (aO n))],rfl,⟨_,rfl⟩,?_⟩;have q:cW [.str (strOf (aO n))]=.ok (.int n):=u9 (h n hn);unfold fO wD;simp_arith [q]
variable{ns:List Int}
theorem Tu(h:B8 ns):ee [bU (jZ ns)]=.ok (.lst false (ns.map D.int))\/(ns=[]/\ee [bU (jZ ns)]=.ok (.lst true [])):=by
 have hs:=szl;rcases ns with _|⟨a,_|⟨b,_|⟨c,r⟩⟩⟩
 ·exact .inr ⟨rfl,by kernel_rfl⟩
 ·left;obtain⟨h0,h1⟩:=h;have qc:fN [.lst false [.str (strOf (aO a))]]=.ok (.lst true [.str (strOf (aO a))]):=XJ (aO a);have q:cZ _ _ _ [D.str (strOf (aO a))] [none]=_:=Gg [a] (by simpa using h1);have n0:bQ .Eq (.lst false [.str (strOf jB),.str (strOf (aO a))]) (.lst true [])=.ok (.bl false):=rfl;have c1:cut [D.str (strOf jB),.str (strOf (aO a))] (some 1) none=[.str (strOf (aO a))]:=dR _ 1 (by simp);have m0:bQ .In .non (.lst false [.int a])=.ok (.bl false):=rfl;have l0:decide (a<0)=false:=decide_eq_false (by omega);have c2:cut [D.int a] (some 1) none=[]:=dR _ 1 (by simp);have z:s9 [.int a] []=[]:=rfl;unfold fO at q;show ee [.lst false [.str (strOf jB),.str (strOf (aO a))]]=.ok (.lst false [.int a]);unfold ee kc fO;simp_arith [n0,fm,XN,c1,qc,q,m0,l0,c2,z,Iu]
 ·left;obtain⟨h0,h1,h2⟩:=h;have qc:fN [.lst false [.str (strOf (aO a)),.str (strOf iQ),.str (strOf (aO b))]]=.ok (.lst true [.str (strOf (aO a)),.str (strOf (aO b))]):=XM (aO a) (aO b);have q:cZ _ _ _ [D.str (strOf (aO a)),.str (strOf (aO b))] [none]=_:=Gg [a,b] (all2 (show Num a from⟨by have:=h2.1;omega,by have:=h2.2;omega⟩) h2);have n0:bQ .Eq (.lst false [.str (strOf jB),.str (strOf (aO a)),.str (strOf iQ),.str (strOf (aO b))]) (.lst true [])=.ok (.bl false):=rfl;have c1:cut [D.str (strOf jB),.str (strOf (aO a)),.str (strOf iQ),.str (strOf (aO b))] (some 1) none=[.str (strOf (aO a)),.str (strOf iQ),.str (strOf (aO b))]:=dR _ 1 (by simp);have m0:bQ .In .non (.lst false [.int a,.int b])=.ok (.bl false):=rfl;have l0:decide (a<0)=false:=decide_eq_false (by omega);have l1:decide (b<=a)=false:=decide_eq_false (by omega);have c2:cut [D.int a,.int b] (some 1) none=[.int b]:=dR _ 1 (by simp);have z:s9 [.int a,.int b] [.int b]=[.tup [.int a,.int b]]:=rfl;unfold fO at q;show ee [.lst false [.str (strOf jB),.str (strOf (aO a)),.str (strOf iQ),.str (strOf (aO b))]]=.ok (.lst false [.int a,.int b]);unfold ee kc fO;simp_arith [n0,fm,XN,c1,qc,q,m0,l0,c2,z];rw[xy rfl (by
   unfold oS;simp_arith [l1];rfl)]
  simp_arith [Iu]
 ·exact h.elim
theorem AZ(row ab:Int)(w t:Option D):∀(ns:List Int) (x:Option D),∃y,forR (pG (.name 4)) (cQ m9 1000 lP) (ns.map D.int) [w,some (.int row),some (.int ab),t,x]=if(∀n∈ns,1<=n/\n<=ab)then .nx [w,some (.int row),some (.int ab),t,y]else .ex (J0 row)
|[],x=>⟨x,by rw[if_pos (by simp)];rfl⟩
|n::r,x=>by
 obtain⟨y,q⟩:=AZ row ab w t r (some (.int n));refine⟨y,?_⟩;rw[dG];by_cases h:1<=n/\n<=ab
 ·have g1:=decide_eq_true h.1;have g2:=decide_eq_true h.2;rw[xy (Zh:=[w,some (.int row),some (.int ab),t,some (.int n)]) rfl (by
   unfold lP m9;simp_arith [g1,g2]),q]
  by_cases h2:∀n∈r,1<=n/\n<=ab
  ·rw[if_pos h2,if_pos (by simpa[h]using h2)]
  ·rw[if_neg h2,if_neg fun z=>h2 fun m hm=>z m (ai _ hm)]
 ·rw[if_neg fun z=>h (z n aq)];refine MP rfl ?_;unfold lP m9;by_cases h1:1<=n
  ·have g1:=decide_eq_true h1;have g2:=decide_eq_false (show ¬n<=ab from fun z=>h ⟨h1,z⟩);simp_arith [g1,g2];rfl
  ·have g1:=decide_eq_false h1;simp_arith [g1];rfl
theorem Tv(h:B8 ns)(row ab:Int):m_ [bU (bR::jZ ns),.int row,.int ab]=if(∀n∈ns,1<=n/\n<=ab)then .ok (.lst false (ns.map D.int))else .ex (J0 row):=by
 have hs:=szl;have fr:=c9 (jZ ns);have fi:=kW ns;have q:∃o,ee [.lst false ((jZ ns).map wD)]=.ok (.lst o (ns.map D.int)):=by
  rcases Tu h with q|⟨rfl,q⟩
  ·exact⟨false,q⟩
  ·exact⟨true,q⟩
 obtain⟨o,q⟩:=q;have c1:cut (D.str (strOf bR)::(jZ ns).map wD) (some 1) none=(jZ ns).map wD:=dR _ 1 (by simp);show m_ [.lst false (.str (strOf bR)::(jZ ns).map wD),.int row,.int ab]=_;generalize(jZ ns).map wD=T at fr q c1 ⊢;have hl:=fun w t=>AZ row ab w t ns none;unfold m_ uV;unfold m9 at hl ⊢;have ho:=yj ns;cases o with
 |true=>
  simp_arith [fr,c1,q,fi,ho];obtain⟨y,hl⟩:=hl (some (.lst false (.str (strOf bR)::T))) (some (.lst false (ns.map D.int)));rw[hl];split
  ·simp_arith []
  ·simp_arith []
 |false=>
  simp_arith [fr,c1,q,fi,ho];obtain⟨y,hl⟩:=hl (some (.lst false (.str (strOf bR)::T))) (some (.lst false (ns.map D.int)));rw[hl];split
  ·simp_arith []
  ·simp_arith []
structure XO (v:D):Prop where
 o:aT v=true
 n:iV (bq v)=false
 e:kq (bq v) 9=true
variable{r:List (List Nat)}
theorem Qy{v:D}(q:cT [bU r]=.ok v)(hv:XO v)(row ab:Int):l7 [bU r,.int row,.int ab]=if 12<=ab then .ex (Qx row)else .ok v:=by
 have fr:=qU r;have hn:=hv.n;have ho:=hv.o;have cr:(decide ¬aj "claim"=aj "row")=true:=by decide +kernel
 unfold l7 uW zW;generalize bU r=d at q fr ⊢;by_cases h:12<=ab
 ·have g:=decide_eq_true h;rw[if_pos h];simp_arith [q,fr,hn,ho,g,cr];rfl
 ·have g:=decide_eq_false h;rw[if_neg h];simp_arith [q,fr,hn,ho,g]
theorem Qz(q:cT [bU r]=.ok .non)(row ab:Int):l7 [bU r,.int row,.int ab]=.ex (JZ row):=by
 have fr:=qU r;unfold l7 uW zW;generalize bU r=d at q fr ⊢;simp_arith [q,fr];rfl
inductive It where
|c (ns:List Int)
|o (w:List Nat)
|n (k:Nat)
|r (w:Rw)
noncomputable def It.words:It->List (List Nat)
|.c ns=>bR::jZ ns
|.o w=>[bG,w]
|.n _=>[]
|.r w=>w.words
def It.Ok:It->Prop
|.c ns=>B8 ns
|.o w=>W w
|.n k=>k<=2
|.r w=>w.Ok
inductive Kd where
|row|claim|big
noncomputable def RD:Kd->Int->D
|.row=>JZ
|.claim=>J0
|.big=>Qx
noncomputable def stp(cs:List Nat):It->Sum Kd (List Nat)
|.c ns=>if(∀n∈ns,1<=n/\n<=(cs.length:Int))then(if 12<=cs.length then .inl .big else .inr (cs++[0]))else .inl .claim
|.o _=>.inl .row
|.n _=>.inr cs
|.r _=>match cs.getLast? with
 |none=>.inl .row
 |some m=>if 12<=m then .inl .big else .inr (cs.dropLast++[m+1])
noncomputable def rn:List It->Nat->List Nat->Sum (Kd×Nat) (List Nat)
|[],_,cs=>.inr cs
|i::r,k,cs=>match stp cs i with
 |.inl x=>.inl (x,k)
 |.inr cs'=>rn r (k+1) cs'
noncomputable abbrev Cl:=List Int×List D
noncomputable def cD(p:Cl):D:=.tup [.lst false (p.1.map D.int),.lst true p.2]
noncomputable def cF(p:Cl):D:=.tup [.lst false (p.1.map D.int),.lst false (aC p.2)]
noncomputable def rZ(C:List Cl):List Nat:=C.map fun p=>p.2.length
def yl(C:List Cl):Prop:=C.length<=12/\∀p∈C,p.2.length<=12/\∀v∈p.2,kq (bq v) 9=true
theorem En:∀C:List Cl,aC (C.map cD)=C.map cF
|[]=>rfl
|p::r=>by
 show bq (cD p)::aC (r.map cD)=_;rw[En r];show D.tup [.lst false (aC (p.1.map D.int)),.lst false (aC p.2)]::_=_;rw[kW];rfl
theorem qB(n:Nat):∀l:List D,(∀d∈l,kq d n=true)->eT l n=true
|[],_=>rfl
|d::r,h=>by
 show(kq d n&&eT r n)=true;rw[h d aq,qB n r fun x hx=>h x (ai _ hx)];rfl
theorem t9{o:Bool}{l:List D}(h:∀d∈l,kq d 11=true):dD (.lst o l)=true:=qB 11 l h
theorem frzs_map':∀l:List D,aC l=l.map bq
|[]=>rfl
|d::r=>by
 show bq d::aC r=_;rw[frzs_map' r];rfl
theorem Xg{C:List Cl}(h:yl C)(hn:C≠[]):bQ .Eq (.lst false (C.map cF)) (.lst true [])=.ok (.bl false):=by
 rw[n6 (t9 (l:=C.map cF) fun d hd=>by
  obtain⟨p,hp,rfl⟩:=ck.mp hd;show(eT (p.1.map D.int) 9&&(eT (aC p.2) 9&&true))=true;rw[qB _ _ (fun d hd=>by obtain⟨i,_,rfl⟩:=ck.mp hd;rfl),qB _ _ (fun d hd=>by
   rw[frzs_map']at hd;obtain⟨v,hv,rfl⟩:=ck.mp hd;exact(h.2 p hp).2 v hv)]
  rfl) rfl]
 cases C with
 |nil=>exact absurd rfl hn
 |cons=>rfl
theorem Gh(a:List Nat)(r:List (List Nat)):bQ .Eq (bU (a::r)) (.lst true [])=.ok (.bl false):=by
 rw[n6 (show dD (bU (a::r))=true from t9 fun d hd=>by obtain⟨i,_,rfl⟩:=ck.mp hd;rfl) rfl];rfl
theorem Gi(a:List Nat)(r:List (List Nat)):rP (bU (a::r)) (.int 0)=.ok (.str (strOf a)):=by
 show(R.opt (fh ((a::r).map wD) 0)).bind _=_;rw[show fh ((a::r).map wD) 0=some (wD a)from kP (j:=0) rfl];rfl
theorem t_:aj "claim"=strOf bR:=by decide +kernel
noncomputable abbrev nP(tx:Option D)(C:List Cl)(k:Int)(ws:List (List Nat))(tk:Option D):a_:=[tx,some (.lst true (C.map cD)),some (.int k),some (bU ws),tk,none]
noncomputable abbrev pL:a_->Fl:=cQ f9 1000 gk
section
variable(tx tk:Option D) (C:List Cl) (hC:yl C) (k:Int)
theorem Tw:pL (nP tx C k [] tk)=.ct (nP tx C k [] tk):=by
 have nr:bQ .Eq (bU []) (.lst true [])=.ok (.bl true):=rfl;have fr:=qU [];unfold pL gk f9 nP;generalize bU []=d at nr fr ⊢;simp_arith [nr,fr]
include hC
theorem QB(h:B8 ns):pL (nP tx C k (bR::jZ ns) tk)=if(∀n∈ns,1<=n/\n<=(C.length:Int))then(if 12<=C.length then .ex (Qx k)else .nx (nP tx (C++[(ns,[])]) k (bR::jZ ns) (some (.lst false (ns.map D.int)))))else .ex (J0 k):=by
 have hs:=szl;have nr:=Gh bR (jZ ns);have fr:=qU (bR::jZ ns);have h0:=Gi bR (jZ ns);have q:=Tv h k (C.length:Int);have fi:=kW ns;have fc:=En C;have hl:=hC.1;have cl:(C.map cD).length=C.length:=aH _;have cf:(C.map cF).length=C.length:=aH _;have eb:=beq_self_eq_true (strOf bR);have ea:C.map cD++[.tup [.lst false (ns.map D.int),.lst true []]]=(C++[(ns,[])]).map cD:=by rw[di];rfl
 have cr:(decide ¬strOf bR=aj "row")=true:=by decide +kernel
 unfold pL gk f9 nP;rw[<-ea];generalize bU (bR::jZ ns)=d at nr fr h0 q ⊢;generalize C.map cD=X at fc cl ⊢;generalize C.map cF=Y_ at fc cf ⊢;by_cases h1:∀n∈ns,1<=n/\n<=(C.length:Int)
 ·rw[if_pos h1]at q ⊢;by_cases h2:12<=C.length
  ·have g:=decide_eq_true (show(12:Int)<=(C.length:Int)by omega);rw[if_pos h2];simp_arith [nr,fr,h0,t_,eb,fc,cf,q,fi,g,cr];rfl
  ·have g:=decide_eq_false (show ¬(12:Int)<=(C.length:Int)by omega);rw[if_neg h2];simp_arith [nr,fr,h0,t_,eb,fc,cf,q,fi,g];rw[mz (xs:=X) rfl (by omega) rfl];simp_arith [fi]
 ·rw[if_neg h1]at q ⊢;simp_arith [nr,fr,h0,t_,eb,fc,cf,q,fi]
end
variable{Y:List PG}
theorem VW{n:Nat}{s t:CS}{r:bV}:cQ Y n (.two s t r) O=o8 (uQ Y s t O) (cQ Y n r):=by
 show(match uQ Y s t O with|.nx Zd=>cQ Y n r Zd|x=>x)=_;unfold o8;cases uQ Y s t O<;>rfl
variable{j:Nat}
theorem VX{k:Nat}{is:List Int}{o a:CE}(h:tu O o=some (k,is)):uQ Y (.asg (.name j) o) (.expr (.mth .append (.var j) (.cons a .nil))) O=BS Y k is j a O:=by
 show(if j=j then(match tu O o with|some p=>BS Y p.1 p.2 j a O|none=>.bad)else .bad)=_;rw[if_pos rfl,h]
theorem ym(n:Nat):gH (n+1) (-1)=some n:=by
 unfold gH;simp;omega
theorem QC(Q:List D)(y:D)(r:List Int):iP (-1::r) (.lst true (Q++[y]))=iP r y:=by
 show((gH (Q++[y]).length (-1)).bind fun n=>((Q++[y])[n]?).bind fun y=>iP r y)=_;rw[ay,cg,ym _];show((Q++[y])[Q.length]?).bind _=_;rw[cL (aM _),nK];rfl
theorem QD(Q:List D)(p:Cl)(hz:p.2.length<=1000)(z:D):eL [-1,1] (.lst true (Q++[cD p])) z=some (.lst true (Q++[cD (p.1,p.2++[z])])):=by
 have hs:=szl;have e:eL [1] (cD p) z=some (cD (p.1,p.2++[z])):=by
  show(if p.2.length<aa then some (D.lst true (p.2++[z]))else none).map (fun y'=>D.tup [.lst false (p.1.map D.int),y'])=_;rw[if_pos (by omega)];rfl
 show((gH (Q++[cD p]).length (-1)).bind fun n=>((Q++[cD p])[n]?).bind fun y=>(eL [1] y z).map fun y'=>D.lst true ((Q++[cD p]).set n y'))=_;rw[ay,cg,ym _];show((Q++[cD p])[Q.length]?).bind _=_;rw[cL (aM _),nK];show(eL [1] (cD p) z).map _=_;rw[e];show some (D.lst true ((Q++[cD p]).set Q.length (cD (p.1,p.2++[z]))))=_;rw[ux _ _ (aM _),nK];rfl
theorem Xh{a:CE}(s0 s2 s3 s4:Option D)(Q:List D)(p:Cl):BS Y 1 [-1,1] 5 a [s0,some (.lst true (Q++[cD p])),s2,s3,s4,none]=(pE Y a [s0,some (.lst true (Q++[cD p])),s2,s3,s4,some (.lst true p.2)]).aR fun d=>if aT d=true then(R.opt (eL [-1,1] (.lst true (Q++[cD p])) d)).aR fun x'=>.nx [s0,some x',s2,s3,s4,none]else .bad:=by
 unfold BS;show(match iP [-1,1] (.lst true (Q++[cD p]))with
  |some (.lst true ys)=>if 5<6 then(pE Y a [s0,some (.lst true (Q++[cD p])),s2,s3,s4,some (.lst true ys)]).aR fun d=>if aT d=true then(R.opt (eL [-1,1] (.lst true (Q++[cD p])) d)).aR fun x'=>.nx [s0,some x',s2,s3,s4,none]else .bad else .bad
  |_=>.bad)=_
 rw[QC];rfl
section
variable(tx tk:Option D) (k:Int) (a:List Nat) (r:List (List Nat)) (ha:(strOf a==strOf bR)=false)
include ha
theorem Gj:pL (nP tx [] k (a::r) tk)=.ex (JZ k):=by
 have nr:=Gh a r;have fr:=qU (a::r);have h0:=Gi a r;have e:bQ .Eq (.lst false []) (.lst true [])=.ok (.bl true):=rfl;unfold pL gk f9 nP;generalize bU (a::r)=d at nr fr h0 ⊢;simp_arith [nr,fr,h0,t_,ha,e];rfl
theorem MQ(Q:List Cl)(p:Cl)(hC:yl (Q++[p]))(x:R D)(hx:l7 [bU (a::r),.int k,.int (p.2.length:Int)]=x):pL (nP tx (Q++[p]) k (a::r) tk)=x.aR fun d=>if aT d=true then .nx (nP tx (Q++[(p.1,p.2++[d])]) k (a::r) tk)else .bad:=by
 have hs:=szl;have nr:=Gh a r;have fr:=qU (a::r);have h0:=Gi a r;have e:=Xg hC (by simp);have fc:=En (Q++[p]);have fl:(aC p.2).length=p.2.length:=iC _;have hz:p.2.length<=12:=(hC.2 p (by simp)).1;have e1:∀p,(Q++[p]).map cD=Q.map cD++[cD p]:=fun p=>by rw[di];rfl
 unfold pL gk f9 nP;rw[e1]at fc ⊢;generalize bU (a::r)=d at nr fr h0 hx ⊢;generalize(Q++[p]).map cF=Y_ at fc e ⊢;simp_arith [nr,fr,h0,t_,ha,fc,e,VW];rw[VX (k:=1) (is:=[-1,1]) rfl,Xh,show pE _ _ _=x by
  simp_arith [fr,fl,hx]]
 cases x with
 |ok d=>
  rw[pq_thn_ok',pq_thn_ok'];by_cases o:aT d=true
  ·rw[if_pos o,if_pos o,QD _ _ (by omega),e1];simp_arith []
  ·rw[if_neg o,if_neg o];rfl
 |ex y=>rfl
 |bad=>rfl
end
theorem YA(w:Rw):∃a r,w.words=a::r/\(strOf a==strOf bR)=false:=by
 cases w with
 |parts n c l ks=>
  show ∃a r,iX n c++_=a::r/\_;unfold iX;split
  ·exact⟨_,_,rfl,by decide +kernel⟩
  ·split
   ·exact⟨_,_,rfl,by decide +kernel⟩
   ·exact⟨_,_,rfl,by decide +kernel⟩
 |join=>exact⟨_,_,rfl,by decide +kernel⟩
 |size=>exact⟨_,_,rfl,by decide +kernel⟩
 |isa=>exact⟨_,_,rfl,by decide +kernel⟩
 |aR=>exact⟨_,_,rfl,by decide +kernel⟩
theorem RE(ks:List (List Nat))(n:Nat):eT (ks.map wD) n=true:=qB _ _ fun d hd=>by obtain⟨i,_,rfl⟩:=ck.mp hd;rfl
theorem Xi(w:Rw):XO w.val:=by
 cases w with
 |parts n c l ks=>
  refine⟨?_,rfl,?_⟩
  ·show(dO (ks.map wD)&&true)=true;rw[lS];rfl
  ·show(eT (aC (ks.map wD)) 7&&true)=true;rw[c9,RE];rfl
 |join=>exact⟨rfl,rfl,rfl⟩
 |size l k v a b=>rcases a with _|a<;>rcases b with _|b<;>exact⟨rfl,rfl,rfl⟩
 |isa l k ks=>
  refine⟨?_,rfl,?_⟩
  ·show(dO (ks.map wD)&&true)=true;rw[lS];rfl
  ·show(eT (aC (ks.map wD)) 7&&true)=true;rw[c9,RE];rfl
 |aR=>exact⟨rfl,rfl,rfl⟩
theorem B9(Q:List Cl)(p:Cl):rZ (Q++[p])=rZ Q++[p.2.length]:=by
 unfold rZ;rw[di];rfl
theorem Tz(C:List Cl):(rZ C).length=C.length:=aH _
theorem xA(l:List α):l=[]\/∃Q p,l=Q++[p]:=by
 cases l with
 |nil=>exact .inl rfl
 |cons a r=>exact .inr ⟨(a::r).dropLast,(a::r).getLast (by simp),(List.dropLast_concat_getLast (by simp)).symm⟩
def Turn(tx tk:Option D)(C:List Cl)(k:Int)(ws:List (List Nat)):Sum Kd (List Nat)->Prop
|.inl x=>pL (nP tx C k ws tk)=.ex (RD x k)
|.inr cs=>∃C' tk',(pL (nP tx C k ws tk)=.nx (nP tx C' k ws tk')\/pL (nP tx C k ws tk)=.ct (nP tx C' k ws tk'))/\rZ C'=cs/\yl C'
theorem TF(tx tk:Option D)(C:List Cl)(hC:yl C)(k:Int)(i:It)(hi:i.Ok):Turn tx tk C k i.words (stp (rZ C) i):=by
 cases i with
 |c ns=>
  have q:=QB tx tk C hC k (ns:=ns) hi;show Turn tx tk C k (bR::jZ ns) (if(∀n∈ns,1<=n/\n<=((rZ C).length:Int))then _ else _);rw[Tz];by_cases h1:∀n∈ns,1<=n/\n<=(C.length:Int)
  ·rw[if_pos h1]at q ⊢;by_cases h2:12<=C.length
   ·rw[if_pos h2]at q ⊢;exact q
   ·rw[if_neg h2]at q ⊢;refine⟨_,_,.inl q,B9 C _,by rw[ay,cg];omega,fun p hp=>?_⟩;rcases aZ.mp hp with hp|hp
    ·exact hC.2 p hp
    ·rw[aU.mp hp];exact⟨by simp,by simp⟩
  ·rw[if_neg h1]at q ⊢;exact q
 |o w=>
  show pL (nP tx C k [bG,w] tk)=.ex (JZ k);have ht:(strOf bG==strOf bR)=false:=by decide +kernel
  rcases xA C with rfl|⟨Q,p,rfl⟩
  ·exact Gj tx tk k bG [w] ht
  ·exact MQ tx tk k bG [w] ht Q p hC _ (Qz (MO hi) k _)
 |n j=>exact⟨C,tk,.inr (Tw tx tk C k),rfl,hC⟩
 |r w=>
  obtain⟨a,r,e,ha⟩:=YA w;have q:=Xf w hi;have hv:=Xi w;show Turn tx tk C k w.words (match (rZ C).getLast? with|none=>_|some m=>_);rw[e]at q ⊢;rcases xA C with rfl|⟨Q,p,rfl⟩
  ·exact Gj tx tk k a r ha
  ·have qr:=Qy q hv k (p.2.length:Int);have z:=MQ tx tk k a r ha Q p hC _ qr;rw[B9,vh,vj];show Turn _ _ _ _ _ (if 12<=p.2.length then _ else _);by_cases h:12<=p.2.length
   ·rw[if_pos (show(12:Int)<=(p.2.length:Int)by omega)]at z;rw[if_pos h];exact z
   ·rw[if_neg (show ¬(12:Int)<=(p.2.length:Int)by omega),pq_thn_ok',if_pos hv.o]at z;rw[if_neg h];refine⟨_,_,.inl z,by rw[B9,ay];rfl,by have:=hC.1;simpa using this,fun p' hp=>?_⟩;rcases aZ.mp hp with hp|hp
    ·exact hC.2 p' (aK _ hp)
    ·rw[aU.mp hp];refine⟨by rw[ay,cg];show p.2.length+1<=12;omega,fun v hv'=>?_⟩;rcases aZ.mp hv' with hv'|hv'
     ·exact(hC.2 p (by simp)).2 v hv'
     ·rw[aU.mp hv'];exact hv.e
noncomputable abbrev zj:D->a_->R a_:=pG (.tup (.cons (.name 2) (.cons (.name 3) .nil)))
def Loop(tx:Option D)(x:Fl):Sum (Kd×Nat) (List Nat)->Prop
|.inl (x',j)=>x=.ex (RD x' (j:Int))
|.inr cs=>∃C' s2 s3 s4,x=.nx [tx,some (.lst true (C'.map cD)),s2,s3,s4,none]/\rZ C'=cs
theorem Iw(tx:Option D):∀(its:List It) (h:∀i∈its,i.Ok) (j:Nat) (C:List Cl) (hC:yl C) (s2 s3 s4:Option D),Loop tx (forR zj pL (iO j (its.map fun i=>bU i.words)) [tx,some (.lst true (C.map cD)),s2,s3,s4,none]) (rn its j (rZ C))
|[],_,j,C,hC,s2,s3,s4=>⟨C,s2,s3,s4,rfl,rfl⟩
|i::r,h,j,C,hC,s2,s3,s4=>by
 have q:=TF tx s4 C hC (j:Int) i (h i aq);have g1:zj (.tup [.int (j:Int),bU i.words]) [tx,some (.lst true (C.map cD)),s2,s3,s4,none]=.ok (nP tx C (j:Int) i.words s4):=rfl;show Loop tx (forR zj pL (.tup [.int (j:Int),bU i.words]::iO (j+1) (r.map fun i=>bU i.words)) _) (match stp (rZ C) i with|.inl x=>.inl (x,j)|.inr cs'=>rn r (j+1) cs');cases e:stp (rZ C) i with
 |inl x=>
  rw[e]at q;exact MP g1 q
 |inr cs=>
  rw[e]at q;obtain⟨C',tk',q,e2,hC'⟩:=q;have ih:=Iw tx r (fun i hi=>h i (ai _ hi)) (j+1) C' hC' (some (.int (j:Int))) (some (bU i.words)) tk';rw[e2]at ih;rcases q with q|q
  ·rw[xy g1 q];exact ih
  ·rw[VU g1 q];exact ih
def Read(x:R D):Sum (Kd×Nat) (List Nat)->Prop
|.inl (x',j)=>x=.ex (RD x' (j:Int))
|.inr cs=>∃C',x=.ok (.lst true (C'.map cD))/\rZ C'=cs
theorem MR(its:List It)(h:∀i∈its,i.Ok)(x:Str)(hx:l9 x=its.map It.words)(hl:x.length+2<=aa):Read (fq [.str x]) (rn its 0 []):=by
 have hs:=szl;have q:=MI x hl;have l:=Iw (some (.str x)) its h 0 [] ⟨by simp,by simp⟩ none none none;have e:aC ((l9 x).map B3)=its.map fun i=>bU i.words:=by
  rw[hx,cE];refine(frzs_map' _).trans ?_;rw[cE];refine vR fun i _=>?_;show D.lst false (aC (i.words.map wD))=_;rw[c9];rfl
 have ho:dO ((l9 x).map B3)=true:=by
  have:∀l:List (List (List Nat)),dO (l.map B3)=true:=fun l=>by
   induction l with
   |nil=>rfl
   |cons a r ih=>show((true&&dO (a.map wD))&&dO (r.map B3))=true;rw[ih,lS];rfl
  exact this _
 have key:fq [.str x]=zO (o8 (forR zj pL (iO 0 (its.map fun i=>bU i.words)) [some (.str x),some (.lst true (([]:List Cl).map cD)),none,none,none,none]) (cQ f9 1000 (.cons (.ret (.var 1)) .nil))):=by
  unfold fq o9 f9;simp_arith [q,e,ho];rfl
 rw[key];change Loop _ _ (rn its 0 [])at l;generalize rn its 0 []=z at l ⊢;rcases z with⟨x',j⟩|cs
 ·show _=_;rw[show forR zj pL _ _=_ from l];rfl
 ·obtain⟨C',s2,s3,s4,l,e2⟩:=l;refine⟨C',?_,e2⟩;rw[l];simp_arith []
noncomputable def RG:Kd->Str
|.row=>"row"
|.claim=>"claim"
|.big=>"big"
noncomputable def vD(x:Kd)(k:Int):D:=.tup [.str (RG x),.int k]
noncomputable def jn:List (List Nat)->List Nat
|[]=>[]
|[w]=>w
|w::r=>w++32::jn r
noncomputable def It.text:It->List Nat
|.n k=>aB k 32
|i=>jn i.words
noncomputable def It.name:It->Str
|.c _=>"claim"
|.o _=>"odd"
|.n _=>"none"
|.r _=>"row"
noncomputable def It.takes:It->List Int
|.c ns=>ns
|_=>[]
noncomputable def gu(i:It):D:=.tup [.str i.name,.str (strOf i.text),.lst false (i.takes.map D.int)]
theorem J2(i:It):bq (gu i)=gu i:=by
 show D.tup [.str i.name,.str (strOf i.text),.lst false (aC (i.takes.map D.int))]=_;rw[kW];rfl
noncomputable abbrev nD(n:Nat):D:=.int (n:Int)
theorem J3(l:List Nat):aC (l.map nD)=l.map nD:=jd _ (fun _=>rfl) l
noncomputable abbrev mH:a_->Fl:=cQ mE 1000 jP
noncomputable abbrev xB(a:Option D)(cs:List Nat)(k:Int)(d:D):a_:=[a,some (.lst true (cs.map nD)),some (.int k),some d]
theorem TH(Q:List Nat)(m:Nat):fh ((Q++[m]).map nD) (-1)=some (nD m):=by
 have:(Q++[m]).map nD=Q.map nD++[nD m]:=by rw[di];rfl
 rw[this];unfold fh;rw[ay,cg,ym];show(Q.map nD++[nD m])[(Q.map nD).length]?=_;rw[cL (aM _),nK];rfl
theorem QE(Q:List Nat)(m:Nat)(n:Int):putIn (.lst true ((Q++[m]).map nD)) (.int n) (.int (-1))=some (.lst true (Q.map nD++[.int n])):=by
 have:(Q++[m]).map nD=Q.map nD++[nD m]:=by rw[di];rfl
 rw[this];show(gH (Q.map nD++[nD m]).length (-1)).map (fun k=>D.lst true ((Q.map nD++[nD m]).set k (.int n)))=_;rw[ay,cg,ym];show some (D.lst true ((Q.map nD++[nD m]).set (Q.map nD).length (.int n)))=_;rw[ux _ _ (aM _),nK];rfl
section
variable(a:Option D) (cs:List Nat) (hc:cs.length<=12/\∀m∈cs,m<=12) (k:Int)
include hc
theorem YB(ns:List Int):mH (xB a cs k (gu (.c ns)))=if(∀n∈ns,1<=n/\n<=(cs.length:Int))then(if 12<=cs.length then .rt (vD .big k)else .nx (xB a (cs++[0]) k (gu (.c ns))))else .rt (vD .claim k):=by
 have hs:=szl;have fi:=kW ns;have fn:=J3 cs;have e1:(aj "claim"==aj "odd")=false:=by decide +kernel
 have e2:(aj "claim"==aj "row")=false:=by decide +kernel
 have ln:(cs.map nD).length=cs.length:=aH _;have qc:∀ns:List Int,cZ (pG (.name 0)) (fun _=>.ok true) (pE [] (.chain .LtE .LtE (.con (.int 1)) (.var 0) (.blt .len (.cons (.var 1) .nil)))) (ns.map D.int) [none,some (.lst true (cs.map nD))]=.ok (ns.map fun n=>.bl (decide (1<=n/\n<=(cs.length:Int)))):=fun ns=>by
  refine ic D.int (fun O=>∃o,O=[o,some (.lst true (cs.map nD))]) _ ns _ ⟨none,rfl⟩ ?_;rintro n _ O ⟨o,rfl⟩;refine⟨[some (.int n),some (.lst true (cs.map nD))],rfl,⟨_,rfl⟩,?_⟩;by_cases h1:1<=n
  ·have g1:=decide_eq_true h1;have g2:decide (1<=n/\n<=(cs.length:Int))=decide (n<=(cs.length:Int)):=by
    by_cases h:n<=(cs.length:Int)
    ·rw[decide_eq_true h,decide_eq_true ⟨h1,h⟩]
    ·rw[decide_eq_false h,decide_eq_false fun z=>h z.2]
   rw[g2];simp_arith [fn,ln,g1]
  ·have g1:=decide_eq_false h1;rw[decide_eq_false (fun z:1<=n/\n<=(cs.length:Int)=>h1 z.1)];simp_arith [fn,ln,g1]
 have qc:=qc ns;have b1:(ns.map fun n=>D.bl (decide (1<=n/\n<=(cs.length:Int)))).all lM=true:=by rw[iK];simp[lM]
 have b2:(ns.map fun n=>D.bl (decide (1<=n/\n<=(cs.length:Int)))).all mX=decide (∀n∈ns,1<=n/\n<=(cs.length:Int)):=by
  rw[iK,fY,bz,decide_eq_true_eq];refine forall_congr' fun n=>forall_congr' fun _=>?_;show mX (D.bl (decide (1<=n/\n<=(cs.length:Int))))=true↔_;by_cases h:1<=n/\n<=(cs.length:Int)
  ·rw[decide_eq_true h];exact⟨fun _=>h,fun _=>rfl⟩
  ·rw[decide_eq_false h];exact⟨fun z=>(by cases z),fun z=>absurd z h⟩
 have ea:cs.map nD++[.int 0]=(cs++[0]).map nD:=by rw[di];rfl
 have hl:=hc.1;show mH [a,some (.lst true (cs.map nD)),some (.int k),some (.tup [.str "claim",.str (strOf (It.c ns).text),.lst false (ns.map D.int)])]=if _ then(if _ then .rt (.tup [.str "big",.int k])else .nx [a,some (.lst true ((cs++[0]).map nD)),some (.int k),some (.tup [.str "claim",.str (strOf (It.c ns).text),.lst false (ns.map D.int)])])else .rt (.tup [.str "claim",.int k])
 rw[<-ea];generalize strOf (It.c ns).text=tx;unfold mH jP mE;by_cases h1:∀n∈ns,1<=n/\n<=(cs.length:Int)
 ·rw[if_pos h1];rw[decide_eq_true h1]at b2;by_cases h2:12<=cs.length
  ·rw[if_pos h2];have g:((cs.length:Int)==12)=true:=by rw[beq_iff_eq];omega
   simp_arith [fm,at2,e1,e2,fi,fn,qc,b1,b2,ln,g]
  ·rw[if_neg h2];have g:((cs.length:Int)==12)=false:=by rw[beq_eq_false_iff_ne];omega
   simp_arith [fm,at2,e1,e2,fi,fn,qc,b1,b2,ln,g];rw[mz (xs:=cs.map nD) rfl (by rw[ln];omega) rfl];simp_arith [fm,e2]
 ·rw[if_neg h1];rw[decide_eq_false h1]at b2;simp_arith [fm,at2,e1,e2,fi,fn,qc,b1,b2]
end
section
variable(a:Option D) (cs:List Nat) (k:Int)
theorem YC(w:List Nat):mH (xB a cs k (gu (.o w)))=.rt (vD .row k):=by
 have hs:=szl;have e1:(aj "odd"==aj "odd")=true:=by decide +kernel
 show mH [a,some (.lst true (cs.map nD)),some (.int k),some (.tup [.str "odd",.str (strOf (It.o w).text),.lst false []])]=.rt (.tup [.str "row",.int k]);generalize strOf (It.o w).text=tx;unfold mH jP mE;simp_arith [fm,e1]
theorem YD(j:Nat):mH (xB a cs k (gu (.n j)))=.nx (xB a cs k (gu (.n j))):=by
 have e1:(aj "none"==aj "odd")=false:=by decide +kernel
 have e2:(aj "none"==aj "row")=false:=by decide +kernel
 have e3:(aj "none"==aj "claim")=false:=by decide +kernel
 show mH [a,some (.lst true (cs.map nD)),some (.int k),some (.tup [.str "none",.str (strOf (It.n j).text),.lst false []])]=.nx [a,some (.lst true (cs.map nD)),some (.int k),some (.tup [.str "none",.str (strOf (It.n j).text),.lst false []])];generalize strOf (It.n j).text=tx;unfold mH jP mE;simp_arith [fm,e1,e2,e3]
theorem Xj(w:Rw):mH (xB a [] k (gu (.r w)))=.rt (vD .row k):=by
 have hs:=szl;have e1:(aj "row"==aj "odd")=false:=by decide +kernel
 have e:bQ .Eq (.lst false []) (.lst true [])=.ok (.bl true):=rfl;show mH [a,some (.lst true []),some (.int k),some (.tup [.str "row",.str (strOf (It.r w).text),.lst false []])]=.rt (.tup [.str "row",.int k]);generalize strOf (It.r w).text=tx;unfold mH jP mE;simp_arith [fm,e1,e]
theorem YE(Q:List Nat)(m:Nat)(hm:m<=12)(w:Rw):mH (xB a (Q++[m]) k (gu (.r w)))=if 12<=m then .rt (vD .big k)else .nx (xB a (Q++[m+1]) k (gu (.r w))):=by
 have hs:=szl;have e1:(aj "row"==aj "odd")=false:=by decide +kernel
 have e2:(aj "row"==aj "claim")=false:=by decide +kernel
 have e:bQ .Eq (.lst false ((Q++[m]).map nD)) (.lst true [])=.ok (.bl false):=by
  rw[n6 (t9 fun d hd=>by obtain⟨i,_,rfl⟩:=ck.mp hd;rfl) rfl];cases Q<;>rfl
 have fn:=J3 (Q++[m]);have al:=TH Q m;have pl:=QE Q m ((m:Int)+1);have ea:Q.map nD++[.int ((m:Int)+1)]=(Q++[m+1]).map nD:=by rw[di];rfl
 show mH [a,some (.lst true ((Q++[m]).map nD)),some (.int k),some (.tup [.str "row",.str (strOf (It.r w).text),.lst false []])]=if _ then .rt (.tup [.str "big",.int k])else .nx [a,some (.lst true ((Q++[m+1]).map nD)),some (.int k),some (.tup [.str "row",.str (strOf (It.r w).text),.lst false []])]
 rw[<-ea];generalize strOf (It.r w).text=tx;generalize(Q++[m]).map nD=X at *;generalize Q.map nD++[.int ((m:Int)+1)]=Y_ at *;unfold mH jP mE;by_cases h:12<=m
 ·have g:((m:Int)==12)=true:=by rw[beq_iff_eq];omega
  rw[if_pos h];simp_arith [fm,e1,e2,e,fn,al,g]
 ·have g:((m:Int)==12)=false:=by rw[beq_eq_false_iff_ne];omega
  rw[if_neg h];simp_arith [fm,e1,e2,e,fn,al,g];rw[Dh rfl rfl pl];simp_arith []
end
def QF(cs:List Nat):Prop:=cs.length<=12/\∀m∈cs,m<=12
def Due(x:Fl)(a:Option D)(k:Nat)(d:D):Sum Kd (List Nat)->Prop
|.inl y=>x=.rt (vD y k)
|.inr cs=>x=.nx (xB a cs k d)/\QF cs
theorem TJ(a:Option D)(cs:List Nat)(hc:QF cs)(k:Nat)(i:It):Due (mH (xB a cs k (gu i))) a k (gu i) (stp cs i):=by
 cases i with
 |c ns=>
  have q:=YB a cs hc k ns;show Due _ _ _ _ (if(∀n∈ns,1<=n/\n<=(cs.length:Int))then _ else _);by_cases h1:∀n∈ns,1<=n/\n<=(cs.length:Int)
  ·rw[if_pos h1]at q ⊢;by_cases h2:12<=cs.length
   ·rw[if_pos h2]at q ⊢;exact q
   ·rw[if_neg h2]at q ⊢;refine⟨q,by rw[ay,cg];omega,fun m hm=>?_⟩;rcases aZ.mp hm with hm|hm
    ·exact hc.2 m hm
    ·rw[aU.mp hm];omega
  ·rw[if_neg h1]at q ⊢;exact q
 |o w=>exact YC a cs k w
 |n j=>exact⟨YD a cs k j,hc⟩
 |r w=>
  show Due _ _ _ _ (match cs.getLast? with|none=>_|some m=>_);rcases xA cs with rfl|⟨Q,m,rfl⟩
  ·exact Xj a k w
  ·have q:=YE a k Q m (hc.2 m (by simp)) w;rw[vh,vj];show Due _ _ _ _ (if 12<=m then _ else _);by_cases h:12<=m
   ·rw[if_pos h]at q ⊢;exact q
   ·rw[if_neg h]at q ⊢;refine⟨q,by have:=hc.1;simpa using this,fun j hj=>?_⟩;rcases aZ.mp hj with hj|hj
    ·exact hc.2 j (aK _ hj)
    ·rw[aU.mp hj];omega
def VY(x:Fl)(a:Option D):Sum (Kd×Nat) (List Nat)->Prop
|.inl (y,j)=>x=.rt (vD y (j:Int))
|.inr cs=>∃s2 s3,x=.nx [a,some (.lst true (cs.map nD)),s2,s3]
theorem Iz(a:Option D):∀(its:List It) (j:Nat) (cs:List Nat) (hc:QF cs) (s2 s3:Option D),VY (forR zj mH (iO j (its.map gu)) [a,some (.lst true (cs.map nD)),s2,s3]) a (rn its j cs)
|[],j,cs,hc,s2,s3=>⟨s2,s3,rfl⟩
|i::r,j,cs,hc,s2,s3=>by
 have q:=TJ a cs hc j i;have g1:zj (.tup [.int (j:Int),gu i]) [a,some (.lst true (cs.map nD)),s2,s3]=.ok (xB a cs j (gu i)):=rfl;show VY (forR zj mH (.tup [.int (j:Int),gu i]::iO (j+1) (r.map gu)) _) a (match stp cs i with|.inl x=>.inl (x,j)|.inr cs'=>rn r (j+1) cs');cases e:stp cs i with
 |inl x=>
  rw[e]at q;exact VV g1 q
 |inr cs'=>
  rw[e]at q;rw[xy g1 q.1];exact Iz a r (j+1) cs' q.2 _ _
noncomputable def YF:Sum (Kd×Nat) (List Nat)->D
|.inl (y,j)=>vD y (j:Int)
|.inr cs=>.lst true (cs.map nD)
theorem Xk(its:List It):mF [.lst false (its.map gu)]=.ok (YF (rn its 0 [])):=by
 have fz:aC (its.map gu)=its.map gu:=jd _ J2 its;have l:=Iz (some (.lst false (its.map gu))) its 0 [] ⟨by simp,by simp⟩ none none;have key:mF [.lst false (its.map gu)]=zO (o8 (forR zj mH (iO 0 (its.map gu)) [some (.lst false (its.map gu)),some (.lst true (([]:List Nat).map nD)),none,none]) (cQ mE 1000 (.cons (.ret (.var 1)) .nil))):=by
  unfold mF BW;simp_arith [fz]
 rw[key];generalize rn its 0 []=z at l ⊢;rcases z with⟨y,j⟩|cs
 ·rw[show forR zj mH _ _=_ from l];rfl
 ·obtain⟨s2,s3,l⟩:=l;rw[l];simp_arith [];rfl
theorem MS(x:Str)(y:Kd)(k:Int)(q:fq [.str x]=.ex (RD y k)):lD [.str x]=.ok (vD y k):=by
 unfold lD tF za;cases y with
 |row=>
  simp_arith [q];kernel_rfl
 |claim=>
  simp_arith [q];kernel_rfl
 |big=>
  simp_arith [q];kernel_rfl
theorem VZ(ns:List Int):∃c:Int,u6 [mw ns,.int 0]=.ok (.int c):=by
 have fi:=kW ns;unfold u6 zT FN mw;cases ns with
 |nil=>
  exact⟨2377,by kernel_rfl⟩
 |cons a r=>
  refine⟨a,?_⟩;have l:decide ((0:Int)<((((a::r).map D.int).length:Nat):Int))=true:=decide_eq_true (by simp);have h0:fh ((a::r).map D.int) 0=some (.int a):=fm _ _;generalize(a::r).map D.int=X at fi l h0 ⊢;simp_arith [fi,l,h0]
theorem qC(c k:Int)(hk:0<=k/\k<=300):∃m:Int,0<=m/\m<800000000/\oU [.int c,.int k]=.ok (.int m):=by
 have b1:=bS c (b:=2147483647) (by decide);obtain⟨o,ho⟩:∃o,o=(c%2147483647+7919*k+1)*48271%2147483647:=⟨_,rfl⟩;have b2:=bS ((c%2147483647+7919*k+1)*48271) (b:=2147483647) (by decide);rw[<-ho]at b2;have b3:=bS o (b:=1009) (by decide);have b4:=bS (o*(o%1009+1)) (b:=2147483629) (by decide);refine⟨o*(o%1009+1)%2147483629 / 3,by omega,by omega,?_⟩;unfold oU wX Dt;simp_arith [];rw[<-ho]
noncomputable def r6(s:Int):Nat:=[98,103,107,112,113,118,119,120,121,122].getD (s / 8%10).toNat 98
noncomputable def lw(s w:Int):List Nat:=if s%8=0 then[97+(1+(s / 8+3*w)%25).toNat]else rep (s / 80%(1+s%8)) (r6 s)++(97+((s / 640+5*w)%26).toNat)::rep (s%8-s / 80%(1+s%8)) (r6 s)
theorem RH(i:Int)(h0:0<=i)(h1:i<26):fh (aj "abcdefghijklmnopqrstuvwxyz").cps.toList i=some (97+i.toNat):=by
 have e:(aj "abcdefghijklmnopqrstuvwxyz").cps.toList=(bY 26).map (97+·):=by decide +kernel
 have hi:i=(i.toNat:Int):=by omega
 have q:=kP (xs:=(bY 26).map (97+·)) (j:=i.toNat) (v:=97+i.toNat) (by
  rw[bL,vP (by omega)];rfl)
 rw[e];rw[<-hi]at q;exact q
theorem TL(s:Int)(h0:0<=s):fh (aj "bgkpqvwxyz").cps.toList (s / 8%10)=some (r6 s):=by
 have e:(aj "bgkpqvwxyz").cps.toList=[98,103,107,112,113,118,119,120,121,122]:=by decide +kernel
 have b:=bS (s / 8) (b:=10) (by decide);rw[e];unfold r6;generalize s / 8%10=i at b ⊢;obtain⟨n,rfl,hn⟩:∃n:Nat,i=(n:Int)/\n<10:=⟨i.toNat,by omega,by omega⟩;have q:∀n<10,([98,103,107,112,113,118,119,120,121,122]:List Nat)[n]?=some ([98,103,107,112,113,118,119,120,121,122].getD n 98):=by decide
 exact kP (q n hn)
theorem TM(s:Int):r6 s∈[98,103,107,112,113,118,119,120,121,122]:=by
 have b:=bS (s / 8) (b:=10) (by decide);have q:∀n<10,([98,103,107,112,113,118,119,120,121,122]:List Nat).getD n 98∈[98,103,107,112,113,118,119,120,121,122]:=by decide
 exact q _ (by omega)
theorem B_(s w:Int)(h0:0<=s)(hw:0<=w):W (lw s w):=by
 have r:=TM s;have m8:=bS s (b:=8) (by decide);have hl:1<=(lw s w).length/\(lw s w).length<=8:=by
  unfold lw;split
  ·simp
  ·have msp:=bS (s / 80) (b:=1+s%8) (by omega);simp only[ay,aN,B0];omega
 have ha:∀c∈lw s w,97<=c/\c<=122:=by
  have hr:97<=r6 s/\r6 s<=122:=by
   revert r;generalize r6 s=x;revert x;simp
  have m25:=bS (s / 8+3*w) (b:=25) (by decide);have m26:=bS (s / 640+5*w) (b:=26) (by decide);intro c hc;unfold lw at hc;split at hc
  ·rw[aU.mp hc];omega
  ·rcases aZ.mp hc with h|h
   ·rw[(gE.mp h).2];omega
   ·rcases aJ.mp h with rfl|h
    ·omega
    ·rw[(gE.mp h).2];omega
 have hk:lw s w∉oG:=by
  intro h;have m25:=bS (s / 8+3*w) (b:=25) (by decide);have q1:∀w∈oG,∀c∈[98,103,107,112,113,118,119,120,121,122],c∉w:=by decide
  have q3:∀w∈oG,∀a,w=[a]->a=97:=by
   intro w hw a e;have h2:∀w∈oG,(match w with|[a]=>decide (a=97)|_=>true)=true:=by decide
   have:=h2 w hw;rw[e]at this;simpa using this
  by_cases c:s%8=0
  ·unfold lw at h;rw[if_pos c]at h;have:=q3 _ h _ rfl;omega
  ·refine q1 _ h _ r ?_;have msp:=bS (s / 80) (b:=1+s%8) (by omega);unfold lw;rw[if_neg c,aZ,aJ];by_cases z:0<s / 80%(1+s%8)
   ·exact .inl (gE.mpr ⟨by omega,rfl⟩)
   ·exact .inr (.inr (gE.mpr ⟨by omega,rfl⟩))
 unfold W isWord;rw[iB,decide_eq_true hl.1,decide_eq_true hl.2];have h1:nj 97 122 (strOf (lw s w))=true:=by
  unfold nj;rw[bz];intro c hc;have:=ha c hc;rw[decide_eq_true this.1,decide_eq_true this.2];rfl
 have h2:memD (.str (strOf (lw s w))) cR=false:=by
  rw[Io,Ga,pN];intro v hv h;rw[kH,decide_eq_true_eq]at h;exact hk (h▸hv)
 rw[h1,h2];rfl
theorem ua(s w:Int)(h0:0<=s)(hw:0<=w/\w<1000):gU [.int s,.int w]=.ok (wD (lw s w)):=by
 have hs:=szl;have m8:=bS s (b:=8) (by decide);have m25:=bS (s / 8+3*w) (b:=25) (by decide);have m26:=bS (s / 640+5*w) (b:=26) (by decide);have msp:=bS (s / 80) (b:=1+s%8) (by omega);have l1:=RH (1+(s / 8+3*w)%25) (by omega) (by omega);have l2:=RH ((s / 640+5*w)%26) m26.1 m26.2;have l3:=TL s h0;have e1:1+s%8-1-s / 80%(1+s%8)=s%8-s / 80%(1+s%8):=by omega
 have hd:∀j:Int,0<j->j<10000->uC s j:=fun j h1 h2=>⟨h1,by omega⟩;have d1:=hd 8 (by decide) (by decide);have d2:=hd 80 (by decide) (by decide);have d3:=hd 640 (by decide) (by decide);unfold wD lw;unfold gU zU FJ;by_cases c:s%8=0
 ·have g:((1+s%8:Int)==1)=true:=by rw[beq_iff_eq];omega
  rw[if_pos c];simp_arith [g,l1];rfl
 ·have g:((1+s%8:Int)==1)=false:=by rw[beq_eq_false_iff_ne];omega
  rw[if_neg c];simp_arith [g,l2,l3];rw[BZ _ _ (by omega),e1];simp_arith [];rw[BZ _ _ (by omega),show(⟨#[97+((s / 640+5*w)%26).toNat]⟩:Str)=strOf [97+((s / 640+5*w)%26).toNat]from rfl,jY _ _ (by simp only[B0,aN,fW];omega)];simp_arith [];rw[jY _ _ (by simp only[B0,aN,fW,ay];omega)];simp_arith [];rw[br];rfl
theorem J4(s w:Int)(j:Int)(hj:j=1\/j=2)(h:lw s w=lw s (w+j)):False:=by
 unfold lw at h;by_cases c:s%8=0
 ·rw[if_pos c,if_pos c]at h;have a:=bS (s / 8+3*w) (b:=25) (by decide);have b:=bS (s / 8+3*(w+j)) (b:=25) (by decide);have:=(j4 h).1;omega
 ·rw[if_neg c,if_neg c]at h;have a:=bS (s / 640+5*w) (b:=26) (by decide);have b:=bS (s / 640+5*(w+j)) (b:=26) (by decide);have:=(j4 (List.append_cancel_left h)).1;omega
noncomputable def g9(s d:Int):List (List Nat):=(bY (1+d%3).toNat).map fun(i:Nat)=>lw s (d / 3%26+(i:Int))
theorem Gk(s d:Int)(h0:0<=s)(hd:0<=d):qW (g9 s d):=by
 have m3:=bS d (b:=3) (by decide);have m26:=bS (d / 3) (b:=26) (by decide);refine⟨fun w hw=>?_,⟨?_,?_⟩,?_⟩
 ·obtain⟨i,_,rfl⟩:=ck.mp hw;exact B_ _ _ h0 (by omega)
 ·unfold g9;rw[aH,jw];omega
 ·unfold g9;rw[aH,jw];omega
 ·have n1:=J4 s (d / 3%26) 1 (.inl rfl);have n2:=J4 s (d / 3%26) 2 (.inr rfl);have n3:=J4 s (d / 3%26+1) 1 (.inl rfl);rw[show d / 3%26+1+1=d / 3%26+2 by omega]at n3;have e:g9 s d=if d%3=0 then[lw s (d / 3%26)]else if d%3=1 then[lw s (d / 3%26),lw s (d / 3%26+1)]else[lw s (d / 3%26),lw s (d / 3%26+1),lw s (d / 3%26+2)]:=by
   unfold g9;by_cases c0:d%3=0
   ·rw[c0,if_pos rfl];show[lw s (d / 3%26+0)]=_;rw[xT]
   ·rw[if_neg c0];by_cases c1:d%3=1
    ·rw[c1,if_pos rfl];show[lw s (d / 3%26+0),lw s (d / 3%26+1)]=_;rw[xT]
    ·rw[if_neg c1,show d%3=2 by omega];show[lw s (d / 3%26+0),lw s (d / 3%26+1),lw s (d / 3%26+2)]=_;rw[xT]
  rw[e];have b1:(strOf (lw s (d / 3%26))==strOf (lw s (d / 3%26+1)))=false:=by rw[kH,decide_eq_false n1]
  have b2:(strOf (lw s (d / 3%26))==strOf (lw s (d / 3%26+2)))=false:=by rw[kH,decide_eq_false n2]
  have b3:(strOf (lw s (d / 3%26+1))==strOf (lw s (d / 3%26+2)))=false:=by rw[kH,decide_eq_false n3]
  generalize lw s (d / 3%26)=x at b1 b2 ⊢;generalize lw s (d / 3%26+1)=y at b1 b3 ⊢;generalize lw s (d / 3%26+2)=z at b2 b3 ⊢;split
  ·rfl
  ·split
   ·simp[mS,lq,b1]
   ·simp[mS,lq,b1,b2,b3]
theorem MT(s d:Int)(h0:0<=s)(hd:0<=d/\d<800000000):uZ [.int s,.int d]=.ok (.lst true ((g9 s d).map wD)):=by
 have hs:=szl;have m3:=bS d (b:=3) (by decide);have m26:=bS (d / 3) (b:=26) (by decide);unfold uZ zV FL g9;simp_arith [];unfold oQ;rw[ic (fun i:Nat=>D.int (0+(i:Int))) (fun O=>∃o,O=[o,some (.int s),some (.int d)]) (fun i=>wD (lw s (d / 3%26+(i:Int)))) (bY (1+d%3).toNat) _ ⟨none,rfl⟩ (by
  rintro i hi O ⟨o,rfl⟩;have hi:=jC.mp hi;have q:=ua s (d / 3%26+(i:Int)) h0 (by omega);refine⟨[some (.int (0+(i:Int))),some (.int s),some (.int d)],rfl,⟨_,rfl⟩,?_⟩;rw[Int.zero_add];simp_arith [q])]
 simp_arith [];rw[cE];rfl
theorem IA(s d:Int)(h0:0<=s)(hd:0<=d/\d<800000000):∃l k,fy l k/\n_ [.int s,.int d]=.ok (fJ l k):=by
 have hs:=szl;have m1:=bS (d / 2) (b:=26) (by decide);have m2:=bS (d / 52) (b:=26) (by decide);have q1:gU [.int s,.int (d / 2%26)]=.ok (.str _):=ua s (d / 2%26) h0 (by omega);have q2:gU [.int s,.int (d / 52%26)]=.ok (.str _):=ua s (d / 52%26) h0 (by omega);have w1:=B_ s (d / 2%26) h0 (by omega);have w2:=B_ s (d / 52%26) h0 (by omega);by_cases c:d%2=1
 ·refine⟨_,_,⟨.inr w1,w2⟩,?_⟩;have g:(d%2==1)=true:=by rw[beq_iff_eq];exact c
  unfold n_ yi BX fJ wD;simp_arith [g,q1,q2]
 ·refine⟨[],_,⟨.inl rfl,w2⟩,?_⟩;have g:(d%2==1)=false:=by rw[beq_eq_false_iff_ne];exact c
  unfold n_ yi BX fJ wD;simp_arith [g,q2,qV]
theorem J5(x y z i:Int)(h:0<=i/\i<3):fh [D.int x,.int y,.int z] i=some (.int (if i=0 then x else if i=1 then y else z)):=by
 obtain⟨h0,h1⟩:=h;by_cases c0:i=0
 ·rw[if_pos c0,c0];exact fm _ _
 ·rw[if_neg c0];by_cases c1:i=1
  ·rw[if_pos c1,c1];exact nO _ _ _
  ·rw[if_neg c1,show i=2 by omega];exact at2 _ _ _ _
theorem J6(c d:Int)(hd:0<=d/\d<800000000):∃a b,tL a b/\ng [.int c,.int d]=.ok (.tup [oD a,oD b]):=by
 have hs:=szl;have p30:eG .Pow (.int 10) (.int 30)=.ok (.int 1000000000000000000000000000000):=by kernel_rfl
 have p20:eG .Pow (.int 10) (.int 20)=.ok (.int 100000000000000000000):=by kernel_rfl
 have m3:=bS (d / 5) (b:=3) (by decide);have m5:=bS d (b:=5) (by decide);have m7:=bS (d / 15) (b:=7) (by decide);have n3:=bS (d / 105) (b:=3) (by decide);have c30:=bS c (b:=1000000000000000000000000000000) (by decide);have c20:=bS c (b:=100000000000000000000) (by decide);have a1:=J5 (d%5-2) (c%1000000000000000000000000000000) (0-c%1000000000000000000000000000000) (d / 5%3) m3;have a2:=J5 0 (1+d / 15%7) (c%100000000000000000000) (d / 105%3) n3;obtain⟨lo,elo⟩:∃lo,(if d / 5%3=0 then d%5-2 else if d / 5%3=1 then c%1000000000000000000000000000000 else 0-c%1000000000000000000000000000000)=lo:=⟨_,rfl⟩;obtain⟨up,eup⟩:∃up,(if d / 105%3=0 then 0 else if d / 105%3=1 then 1+d / 15%7 else c%100000000000000000000)=up:=⟨_,rfl⟩;rw[elo]at a1;rw[eup]at a2;have hlo:-1000000000000000000000000000000<lo/\lo<1000000000000000000000000000000:=by
  rw[<-elo];split
  ·omega
  ·split<;>omega
 have hup:0<=up:=by
  rw[<-eup];split
  ·omega
  ·split<;>omega
 clear elo eup;have T:(10:Int) ^ 30=1000000000000000000000000000000:=by decide
 obtain⟨hi,ehi,hhi⟩:∃hi,(if(999999999999999999999999999999:Int)<((lo+up).natAbs:Int)then lo else lo+up)=hi/\Num hi/\lo<=hi:=by
  refine⟨_,rfl,?_⟩;unfold Num;rw[T];split
  ·exact⟨⟨by omega,by omega⟩,by omega⟩
  ·exact⟨⟨by omega,by omega⟩,by omega⟩
 have nlo:Num lo:=by unfold Num;rw[T];omega
 have e9:(1000000000000000000000000000000-1:Int)=999999999999999999999999999999:=rfl;have ab:jy .abs [.int (lo+up)]=.ok (.int ((lo+up).natAbs:Int)):=by
  rw[show((lo+up).natAbs:Int)=if lo+up<0 then -(lo+up)else lo+up by split<;>omega];rfl
 have hfin:∀h:Int,hi=h->∃a b,tL a b/\zO (cQ [] 1000 (.cons (.ifs (.cmp .Eq (.bin .Mod (.bin .FloorDiv (.var 1) (.con (.int 315))) (.con (.int 4))) (.con (.int 0)))
  (.cons (.ret (.tup (.cons (.var 2) (.cons (.con .non) .nil))))
 .nil)
  .nil)
 (.cons (.ifs (.cmp .Eq (.bin .Mod (.bin .FloorDiv (.var 1) (.con (.int 315))) (.con (.int 4))) (.con (.int 1)))
  (.cons (.ret (.tup (.cons (.con .non) (.cons (.var 3) .nil))))
 .nil)
  .nil)
 (.cons (.ret (.tup (.cons (.var 2) (.cons (.var 3) .nil))))
 .nil))) [some (.int c),some (.int d),some (.int lo),some (.int h)])=.ok (.tup [oD a,oD b]):=by
  rintro _ rfl;cases g0:(d / 315%4==0)with
  |true=>exact⟨some lo,none,nlo,by simp_arith [g0];rfl⟩
  |false=>
   cases g1:(d / 315%4==1)with
   |true=>exact⟨none,some hi,hhi.1,by simp_arith [g0,g1];rfl⟩
   |false=>exact⟨some lo,some hi,⟨nlo,hhi.1,hhi.2⟩,by simp_arith [g0,g1];rfl⟩
 by_cases cc:(999999999999999999999999999999:Int)<((lo+up).natAbs:Int)
 ·rw[if_pos cc]at ehi;obtain⟨a,b,h1,h2⟩:=hfin lo ehi.symm;refine⟨a,b,h1,?_⟩;have g:=decide_eq_true cc;rw[<-h2];unfold ng qa u5;simp_arith [p30,p20,a1,a2,ab,e9,g]
 ·rw[if_neg cc]at ehi;obtain⟨a,b,h1,h2⟩:=hfin (lo+up) ehi.symm;refine⟨a,b,h1,?_⟩;have g:=decide_eq_false cc;rw[<-h2];unfold ng qa u5;simp_arith [p30,p20,a1,a2,ab,e9,g]
theorem Xl(x y:D)(i:Int)(h:0<=i/\i<2):fh [x,y] i=some (if i=0 then x else y):=by
 by_cases c0:i=0
 ·rw[if_pos c0,c0];exact fm _ _
 ·rw[if_neg c0,show i=1 by omega];exact nO _ _ _
theorem TN(c k s:Int)(hk:0<=k/\k<=63)(h0:0<=s):∃w:Rw,w.Ok/\mG [.int c,.int k,.int s]=.ok w.val:=by
 have hs:=szl;obtain⟨d,d0,d1,qd⟩:=qC c k (by omega);obtain⟨e,e0,e1,qe⟩:=qC c (k+40) (by omega);obtain⟨f,f0,f1,qf⟩:=qC c (k+80) (by omega);have m7:=bS d (b:=7) (by decide);have m26:=bS (d / 7) (b:=26) (by decide);have qv:gU [.int s,.int (d / 7%26)]=.ok (.str _):=ua s (d / 7%26) h0 (by omega);have wv:=B_ s (d / 7%26) h0 (by omega);obtain⟨l1,k1,r1,q1⟩:=IA s e h0 ⟨e0,e1⟩;obtain⟨l2,k2,r2,q2⟩:=IA s f h0 ⟨f0,f1⟩;have q1:n_ [.int s,.int e]=.ok (.tup [.str (strOf l1),.str (strOf k1)]):=q1;have q2:n_ [.int s,.int f]=.ok (.tup [.str (strOf l2),.str (strOf k2)]):=q2;by_cases c3:d%7<3
 ·have m2:=bS (d / 7) (b:=2) (by decide);have m5:=bS f (b:=5) (by decide);have n26:=bS (e / 78) (b:=26) (by decide);have qw:gU [.int s,.int (e / 78%26)]=.ok (.str _):=ua s (e / 78%26) h0 (by omega);have ww:=B_ s (e / 78%26) h0 (by omega);have qs:=MT s e h0 ⟨e0,e1⟩;have hk:=Gk s e h0 e0;have g:=decide_eq_true c3;have a1:=J5 1 (1+f%5) (1+f%5) (d%7) ⟨m7.1,c3⟩;obtain⟨n,en⟩:∃n,(if d%7=0 then 1 else if d%7=1 then 1+f%5 else 1+f%5)=n:=⟨_,rfl⟩;rw[en]at a1;have hn:1<=n/\n<=5:=by
   rw[<-en];split
   ·omega
   ·split<;>omega
  obtain⟨l,hl,al⟩:∃l,(l=[]\/W l)/\fh [D.str (strOf []),.str (strOf (lw s (e / 78%26)))] (d / 7%2)=some (.str (strOf l)):=by
   have a2:=Xl (.str (strOf [])) (.str (strOf (lw s (e / 78%26)))) (d / 7%2) m2;by_cases c0:d / 7%2=0
   ·rw[if_pos c0]at a2;exact⟨_,.inl rfl,a2⟩
   ·rw[if_neg c0]at a2;exact⟨_,.inr ww,a2⟩
  refine⟨.parts n (d%7==2) l (g9 s e),⟨hn,hl,hk⟩,?_⟩;have fk:=c9 (g9 s e);have ok:=lS (g9 s e);show _=R.ok (D.tup [.str "parts",.int n,.bl (d%7==2),.str (strOf l),.lst true ((g9 s e).map wD)]);unfold mG n9 qA;generalize(g9 s e).map wD=K at qs fk ok ⊢;simp_arith [qd,qe,qf,g,qw,qV,al,a1,qs,fk,ok]
 ·have g:=decide_eq_false c3;cases g3:(d%7==3)with
  |true=>
   refine⟨.join l1 k1 _ l2 k2,⟨r1,wv,r2⟩,?_⟩;show _=R.ok (D.tup [.str "join",.tup [.str (strOf l1),.str (strOf k1)],.str (strOf _),.tup [.str (strOf l2),.str (strOf k2)]]);unfold mG n9 qA;simp_arith [qd,qe,qf,g,g3,q1,q2,qv]
  |false=>
   cases g4:(d%7==4)with
   |true=>
    obtain⟨a,b,hb,qb⟩:=J6 c f ⟨f0,f1⟩;refine⟨.size l1 k1 _ a b,⟨r1,wv,hb⟩,?_⟩;have fa:=rW a;have fb:=rW b;have oa:aT (oD a)=true:=by cases a<;>rfl
    have ob:aT (oD b)=true:=by cases b<;>rfl
    show _=R.ok (D.tup [.str "size",.tup [.str (strOf l1),.str (strOf k1)],.str (strOf _),oD a,oD b]);unfold mG n9 qA;simp_arith [qd,qe,qf,g,g3,g4,q1,qv,qb,fa,fb,oa,ob]
   |false=>
    cases g5:(d%7==5)with
    |true=>
     have qs:=MT s f h0 ⟨f0,f1⟩;have hk:=Gk s f h0 f0;have fk:=c9 (g9 s f);have ok:=lS (g9 s f);refine⟨.isa l1 k1 _,⟨r1,hk⟩,?_⟩;show _=R.ok (D.tup [.str "is",.tup [.str (strOf l1),.str (strOf k1)],.lst true ((g9 s f).map wD)]);unfold mG n9 qA;generalize(g9 s f).map wD=K at qs fk ok ⊢;simp_arith [qd,qe,qf,g,g3,g4,g5,q1,qs,fk,ok]
    |false=>
     refine⟨.aR _ l1 k1,⟨wv,r1⟩,?_⟩;show _=R.ok (D.tup [.str "then",.str (strOf _),.tup [.str (strOf l1),.str (strOf k1)]]);unfold mG n9 qA;simp_arith [qd,qe,qf,g,g3,g4,g5,q1,qv]
theorem qD(w x:List Nat)(r:List (List Nat)):jn (w::x::r)=w++32::jn (x::r):=rfl
theorem Ca:∀ws:List (List Nat),dU (strOf [32]) (ws.map strOf)=strOf (jn ws)
|[]=>rfl
|[_]=>rfl
|w::x::r=>by
 show strOf w++strOf [32]++dU (strOf [32]) ((x::r).map strOf)=_;rw[Ca (x::r),oi,oi,qD,br];rfl
theorem IB:∀ws:List (List Nat),dU (strOf [32,111,114,32]) (ws.map strOf)=strOf (jn (cy ws))
|[]=>rfl
|[_]=>rfl
|w::x::r=>by
 show strOf w++strOf [32,111,114,32]++dU (strOf [32,111,114,32]) ((x::r).map strOf)=_;rw[IB (x::r),oi,oi];show _=strOf (jn (w::iQ::cy (x::r)));obtain⟨tl,e⟩:=u7 x r;rw[e,qD,qD,br];rfl
theorem uc:∀(a:List (List Nat)) (y:List Nat) (b:List (List Nat)),a≠[]->jn a++32::jn (y::b)=jn (a++y::b)
|[],_,_,h=>absurd rfl h
|[w],y,b,_=>rfl
|w::x::r,y,b,_=>by
 have ih:=uc (x::r) y b (by simp);show(w++32::jn (x::r))++32::jn (y::b)=w++32::jn (x::(r++y::b));rw[br,Ag,ih];rfl
def gK(w:List Nat):Prop:=w≠[]/\32∉w/\10∉w/\w.length<=40
theorem u_:∀ws:List (List Nat),(∀w∈ws,gK w)->wordsOf (jn ws)=ws
|[],_=>rfl
|[w],h=>by
 obtain⟨h1,h2,_⟩:=h w aq;have q:=xq w [] h1 h2;show wordsOf w=[w];have e:cM 32 w=[w]:=oz 32 [w] w (by simp) (by simpa using h2) (by simp[jU]);unfold wordsOf;rw[e];cases w with
 |nil=>exact absurd rfl h1
 |cons=>rfl
|w::x::r,h=>by
 obtain⟨h1,h2,_⟩:=h w aq;rw[qD,xq w _ h1 h2,u_ (x::r) fun y hy=>h y (ai _ hy)]
theorem RI:∀ws:List (List Nat),(∀w∈ws,gK w)->10∉jn ws
|[],_=>by simp[jn]
|[w],h=>(h w aq).2.2.1
|w::x::r,h=>by
 have ih:=RI (x::r) fun y hy=>h y (ai _ hy);rw[qD,aZ,aJ];rintro(q|q|q)
 ·exact(h w aq).2.2.1 q
 ·exact absurd q (by decide)
 ·exact ih q
theorem MU:∀ws:List (List Nat),(∀w∈ws,gK w)->(jn ws).length<=41*ws.length
|[],_=>by simp[jn]
|[w],h=>by have:=(h w aq).2.2.2;show w.length<=41*1;omega
|w::x::r,h=>by
 have ih:=MU (x::r) fun y hy=>h y (ai _ hy);have:=(h w aq).2.2.2;rw[qD,ay,aN,aN];omega
theorem W.ok(h:W w):gK w:=by
 unfold W isWord at h;simp only[bx,decide_eq_true_eq]at h;obtain⟨⟨⟨h1,h2⟩,h3⟩,_⟩:=h;rw[iB]at h1 h2;have h3:∀c∈w,97<=c/\c<=122:=fun c hc=>by
  have:=bz.mp h3 c hc;simpa using this
 exact⟨fun e=>by rw[e]at h1;simp at h1,fun hc=>by have:=h3 _ hc;omega,fun hc=>by have:=h3 _ hc;omega,by omega⟩
theorem V3(h:Num n):∃m,m<10 ^ 30/\(aO n=fQ 29 m\/aO n=45::fQ 29 m):=by
 obtain⟨h1,h2⟩:=h;have T:((10 ^ 30:Nat):Int)=10 ^ 30:=by decide
 by_cases hn:0<=n
 ·obtain⟨m,rfl⟩:∃m:Nat,n=(m:Int):=⟨n.toNat,by omega⟩;have hm:m<10 ^ 30:=by omega
  exact⟨m,hm,.inl (by unfold aO;rw[Gc m hm];rfl)⟩
 ·obtain⟨m,rfl,hp⟩:∃m:Nat,n=-(m:Int)/\0<m:=⟨(-n).toNat,by omega,by omega⟩;have hm:m<10 ^ 30:=by omega
  exact⟨m,hm,.inr (by unfold aO;rw[Gd m hp hm];rfl)⟩
theorem gh(h:Num n):gK (aO n):=by
 obtain⟨m,hm,e⟩:=V3 h;obtain⟨d1,d2,d3,_⟩:=yk 29 m hm;rcases e with e|e<;>rw[e]
 ·exact⟨d2,fun hc=>by have:=d1 _ hc;omega,fun hc=>by have:=d1 _ hc;omega,by omega⟩
 ·refine⟨by simp,fun hc=>?_,fun hc=>?_,by simp;omega⟩
  ·rcases aJ.mp hc with q|q
   ·exact absurd q (by decide)
   ·have:=d1 _ q;omega
  ·rcases aJ.mp hc with q|q
   ·exact absurd q (by decide)
   ·have:=d1 _ q;omega
theorem oj(h:Num n):jy .str [.int n]=.ok (.str (strOf (aO n))):=by
 have hs:=szl;have hl:(mR n).length<=40:=by rw[<-B5,iB];exact(gh h).2.2.2
 have h1:n.natAbs<10 ^ 30:=by
  obtain⟨a,b⟩:=h;have:((10 ^ 30:Nat):Int)=10 ^ 30:=by decide
  omega
 have h2:n.natAbs.log2<1920:=by
  by_cases hz:n.natAbs=0
  ·rw[hz];decide
  ·exact(Nat.log2_lt hz).mpr (bE h1 (by decide +kernel))
 rw[B5];show R.be (decide (n.natAbs.log2<1920)&&decide ((mR n).length<=aa)) (R.ok (D.str (mR n)))=_;rw[decide_eq_true h2,decide_eq_true (by omega)];rfl
theorem yo:∀w∈oG,gK w:=by
 unfold gK;decide +kernel
theorem qW.ok(h:qW ks):∀w∈cy ks,gK w:=by
 have hw:=h.1;have:∀ks:List (List Nat),(∀w∈ks,W w)->∀w∈cy ks,gK w:=by
  intro ks;induction ks with
  |nil=>intro _ w h;cases h
  |cons a r ih=>
   intro h w hw;cases r with
   |nil=>rw[aU.mp hw];exact(h a aq).ok
   |cons b t=>
    have hw:w∈a::iQ::cy (b::t):=hw;rcases aJ.mp hw with rfl|hw
    ·exact(h w aq).ok
    ·rcases aJ.mp hw with rfl|hw
     ·exact yo _ (by decide)
     ·exact ih (fun x hx=>h x (ai _ hx)) w hw
 exact this ks hw
theorem fy.ok(h:fy l k):∀w∈a6 l k,gK w:=fun w hw=>(Ge h w hw).ok
theorem RJ(h:tL a b):∀w∈pK a b,gK w:=by
 have k:=yo;rcases a with _|a<;>rcases b with _|b
 ·exact h.elim
 ·exact zY (k _ (by decide)) (k _ (by decide)) (gh h)
 ·exact zY (k _ (by decide)) (k _ (by decide)) (gh h)
 ·show ∀w∈(if a=b then[oY,aO a]else[gc,aO a,toL,aO b]),gK w;split
  ·exact all2 (k _ (by decide)) (gh h.1)
  ·exact Qq (k _ (by decide)) (gh h.1) (k _ (by decide)) (gh h.2.1)
theorem MV(n:Nat):∀l:List Nat,(∀x∈l,x<=n)->l.sum<=l.length*n
|[],_=>by simp
|a::r,h=>by
 have:=MV n r fun x hx=>h x (ai _ hx);have:=h a aq;rw[D3,aN,xN];omega
theorem IC:∀l:List (List Nat),jL (l.map wD)=some (l.map strOf)
|[]=>rfl
|a::r=>by
 show(jL (r.map wD)).map (strOf a::·)=_;rw[IC r];rfl
theorem A0(sep:List Nat)(ws:List (List Nat))(o:Bool)(hl:ws.length<=1000)(hw:∀w∈ws,w.length<=1000)(hp:sep.length<=10):lz .join (.str (strOf sep)) [.lst o (ws.map wD)]=.ok (.str (dU (strOf sep) (ws.map strOf))):=by
 have hs:=szl;rw[De,IC,yR,Dd];have h1:=MV 1000 ((ws.map strOf).map (·.length)) (fun x hx=>by
  rw[cE]at hx;obtain⟨w,h,rfl⟩:=ck.mp hx;show(strOf w).length<=_;rw[iB];exact hw w h)
 rw[aH,aH]at h1;have h2:ws.length*1000<=1000*1000:=Nat.mul_le_mul_right _ hl;have h3:ws.length*sep.length<=1000*10:=Nat.mul_le_mul hl hp;rw[decide_eq_true (by rw[aH,iB];omega)];rfl
theorem spS:aj " "=strOf [32]:=by decide +kernel
theorem ID:aj " or "=strOf [32,111,114,32]:=by decide +kernel
theorem nv(h:fy l k):fj [fJ l k]=.ok (.str (strOf (jn (bG::a6 l k)))):=by
 have hs:=szl;have fe:[bG,l,k].filter (fun w=>!(strOf w==strOf []))=bG::a6 l k:=by
  have e0:(strOf bG==strOf [])=false:=by decide +kernel
  have e2:=h.2.ne;unfold a6;rcases h.1 with rfl|hl
  ·have e1:=beq_self_eq_true (strOf []);simp[tR,e0,e1,e2]
  ·rw[if_neg hl.nn];simp[tR,e0,hl.ne,e2]
 have theS:aj "the"=strOf bG:=by decide +kernel
 have q:cZ (pG (.name 0)) (pT [] (.cmp .NotEq (.var 0) (.con (.str (strOf []))))) (pE [] (.var 0)) [D.str (strOf bG),.str (strOf l),.str (strOf k)] [none]=.ok ((bG::a6 l k).map wD):=by
  rw[<-fe];refine kC wD (fun O=>∃o,O=[o]) (fun w=>!(strOf w==strOf [])) wD [bG,l,k] _ ⟨none,rfl⟩ ?_;rintro p _ O ⟨o,rfl⟩;refine⟨[some (wD p)],rfl,⟨_,rfl⟩,?_,?_⟩
  ·unfold wD;simp_arith []
  ·rfl
 have qj:=A0 [32] (bG::a6 l k) true (by have:=gW l k;rw[aN];omega) (fun w hw=>by
  rcases aJ.mp hw with rfl|hw
  ·decide
  ·have:=(h.ok w hw).2.2.2;omega) (by decide)
 rw[Ca]at qj;show fj [.tup [.str (strOf l),.str (strOf k)]]=_;generalize(bG::a6 l k).map wD=X at q qj;unfold fj qT w9;simp_arith [spS,qV,theS,fm,nO,q,qj]
theorem G6(h:tL a b):fu [oD a,oD b]=.ok (.str (strOf (jn (pK a b)))):=by
 have e1:aj "at least "=strOf [97,116,32,108,101,97,115,116,32]:=by decide +kernel
 have e2:aj "at most "=strOf [97,116,32,109,111,115,116,32]:=by decide +kernel
 have e3:aj "of "=strOf [111,102,32]:=by decide +kernel
 have e4:aj "from "=strOf [102,114,111,109,32]:=by decide +kernel
 have e5:aj " to "=strOf [32,116,111,32]:=by decide +kernel
 have C:∀(x:List Nat) (n:Int),Num n->x.length<=100->eG .Add (.str (strOf x)) (.str (strOf (aO n)))=.ok (.str (strOf (x++aO n))):=fun x n hn hx=>jY _ _ (by have:=(gh hn).2.2.2;omega);rcases a with _|a<;>rcases b with _|b
 ·exact h.elim
 ·have q:=oj (n:=b) h;have c1:=C [97,116,32,109,111,115,116,32] b h (by decide);show fu [.non,.int b]=.ok (.str (strOf ([97,116,32,109,111,115,116,32]++aO b)));unfold fu jX lR;simp_arith [e1,e2,e3,e4,e5,q,c1]
 ·have q:=oj (n:=a) h;have c1:=C [97,116,32,108,101,97,115,116,32] a h (by decide);show fu [.int a,.non]=.ok (.str (strOf ([97,116,32,108,101,97,115,116,32]++aO a)));unfold fu jX lR;simp_arith [e1,e2,e3,e4,e5,q,c1]
 ·obtain⟨h1,h2,h3⟩:=h;have q:=oj h1;have q2:=oj h2;show fu [.int a,.int b]=.ok (.str (strOf (jn (if a=b then[oY,aO a]else[gc,aO a,toL,aO b]))));unfold fu jX lR;by_cases e:a=b
  ·have g:(a==b)=true:=by rw[beq_iff_eq];exact e
   rw[if_pos e];have c1:=C [111,102,32] a h1 (by decide);simp_arith [g,e1,e2,e3,e4,e5,q,c1];rfl
  ·have g:(a==b)=false:=by rw[beq_eq_false_iff_ne];exact e
   rw[if_neg e];have la:=(gh h1).2.2.2;have c1:=C [102,114,111,109,32] a h1 (by decide);have c2:=jY ([102,114,111,109,32]++aO a) [32,116,111,32] (by simp;omega);have c3:=C ([102,114,111,109,32]++aO a++[32,116,111,32]) b h2 (by simp;omega);have e6:[102,114,111,109,32]++aO a++[32,116,111,32]++aO b=jn [gc,aO a,toL,aO b]:=by
    rw[br,br];rfl
   rw[e6]at c3;generalize[102,114,111,109,32]++aO a++[32,116,111,32]=X at c2 c3;generalize[102,114,111,109,32]++aO a=Y_ at c1 c2;generalize jn [gc,aO a,toL,aO b]=Z at c3 ⊢;simp_arith [g,e1,e2,e3,e4,e5,q,q2,c1,c2,c3]
theorem QG(A:List (List Nat))(h:(jn A).length<=1000):eG .Add (.str (strOf (jn A))) (.str (strOf [32]))=.ok (.str (strOf (jn A++[32]))):=jY _ _ (by simp;omega)
theorem IE(A:List (List Nat))(y:List Nat)(B:List (List Nat))(hA:A≠[])(h:(jn A).length<=1000)(h2:(jn (y::B)).length<=1000):eG .Add (.str (strOf (jn A++[32]))) (.str (strOf (jn (y::B))))=.ok (.str (strOf (jn (A++y::B)))):=by
 rw[jY _ _ (by simp;omega),<-uc A y B hA,br];rfl
theorem Rw.Gm{w:Rw}(h:w.Ok):(∀x∈w.words,gK x)/\w.words.length<=12:=by
 have k:=yo;have app:∀{a b:List (List Nat)},(∀x∈a,gK x)->(∀x∈b,gK x)->∀x∈a++b,gK x:=fun ha hb x hx=>by
  rcases aZ.mp hx with hx|hx
  ·exact ha x hx
  ·exact hb x hx
 have cns:∀{a:List Nat}{b:List (List Nat)},gK a->(∀x∈b,gK x)->∀x∈a::b,gK x:=fun ha hb x hx=>by
  rcases aJ.mp hx with rfl|hx
  ·exact ha
  ·exact hb x hx
 cases w with
 |parts n c l ks=>
  obtain⟨h1,h2,h3⟩:=h;have hl:=t8 h3;refine⟨app ?_ (app ?_ h3.ok),?_⟩
  ·unfold iX;split
   ·exact all2 (k _ (by decide)) (gh (zZ h1))
   ·split
    ·exact cns (k _ (by decide)) (by simp)
    ·exact zY (k _ (by decide)) (k _ (by decide)) (gh (zZ h1))
  ·unfold kh;rcases h2 with rfl|h2
   ·simp
   ·rw[if_neg h2.nn];exact cns h2.ok (by simp)
  ·show(iX n c++(kh l++cy ks)).length<=12;have a1:(iX n c).length<=3:=by
    unfold iX;split
    ·simp
    ·split<;>simp
   have a2:(kh l).length<=1:=by unfold kh;split<;>simp
   rw[ay,ay];omega
 |join l x v l2 x2=>
  obtain⟨h1,h2,h3⟩:=h;refine⟨cns (k _ (by decide)) (app h1.ok (cns h2.ok (cns (k _ (by decide)) h3.ok))),?_⟩;have a1:=gW l x;have a2:=gW l2 x2;show(bG::(a6 l x++v::bG::a6 l2 x2)).length<=12;simp only[aN,ay];omega
 |size l x v a b=>
  obtain⟨h1,h2,h3⟩:=h;refine⟨cns (k _ (by decide)) (app h1.ok (cns h2.ok (RJ h3))),?_⟩;have a1:=gW l x;have a2:(pK a b).length<=4:=by
   rcases a with _|a<;>rcases b with _|b
   ·exact h3.elim
   ·exact jk 3
   ·exact jk 3
   ·show(if a=b then[oY,aO a]else[gc,aO a,toL,aO b]).length<=4;split<;>simp
  show(bG::(a6 l x++v::pK a b)).length<=12;simp only[aN,ay];omega
 |isa l x ks=>
  obtain⟨h1,h2⟩:=h;refine⟨cns (k _ (by decide)) (app h1.ok (cns (k _ (by decide)) (cns (k _ (by decide)) h2.ok))),?_⟩;have a1:=gW l x;have a2:=t8 h2;show(bG::(a6 l x++iD::aL::cy ks)).length<=12;simp only[aN,ay];omega
 |aR v l x=>
  obtain⟨h1,h2⟩:=h;refine⟨cns (k _ (by decide)) (cns h1.ok (cns (k _ (by decide)) h2.ok)),?_⟩;have a1:=gW l x;show(fS::v::bG::a6 l x).length<=12;simp only[aN];omega
theorem kX(h:∀w∈ws,gK w)(hl:ws.length<=12):(jn ws).length<=1000:=by
 have:=MU ws h;omega
theorem j0{a:List Nat}{b:List (List Nat)}(ha:gK a)(hb:∀x∈b,gK x):∀x∈a::b,gK x:=fun x hx=>by
 rcases aJ.mp hx with rfl|hx
 ·exact ha
 ·exact hb x hx
theorem MW{a b:List (List Nat)}(ha:∀x∈a,gK x)(hb:∀x∈b,gK x):∀x∈a++b,gK x:=fun x hx=>by
 rcases aZ.mp hx with hx|hx
 ·exact ha x hx
 ·exact hb x hx
theorem kw(w:List Nat)(h:w∈oG:=by decide):gK w:=yo w h
theorem ne_str:(aj "join"==aj "parts")=false/\(aj "size"==aj "parts")=false/\(aj "size"==aj "join")=false/\(aj "is"==aj "parts")=false/\(aj "is"==aj "join")=false/\(aj "is"==aj "size")=false/\(aj "then"==aj "parts")=false/\(aj "then"==aj "join")=false/\(aj "then"==aj "size")=false/\(aj "then"==aj "is")=false:=by decide +kernel
theorem V4{y:List Nat}{B:List (List Nat)}(h:fy l k)(hv:W v)(hB:∀w∈y::B,gK w)(hl:(y::B).length<=6) :
  ∃x2 x3 x4,eG .Add (.str (strOf (jn (bG::a6 l k)))) (.str (strOf [32]))=.ok (.str x2)/\eG .Add (.str x2) (.str (strOf v))=.ok (.str x3)/\eG .Add (.str x3) (.str (strOf [32]))=.ok (.str x4)/\eG .Add (.str x4) (.str (strOf (jn (y::B))))=.ok (.str (strOf (jn (bG::(a6 l k++v::y::B))))):=by
 have a1:=gW l k;have o1:=j0 (kw bG) h.ok;have o2:∀w∈[v],gK w:=j0 hv.ok (by simp);have o3:=MW o1 o2;have l1:=kX o1 (by rw[aN];omega);have l3:=kX o3 (by simp only[ay,aN,fW];omega);refine⟨_,_,_,QG _ l1,IE _ v [] (by simp) l1 (kX o2 (by simp)),QG _ l3,?_⟩;have q:=IE (bG::a6 l k++[v]) y B (by simp) l3 (kX hB (by omega));rw[br]at q;exact q
theorem QH(h:fy l k)(hv:W v)(h2:fy l2 k2):dQ [.tup [.str "join",fJ l k,wD v,fJ l2 k2]]=.ok (.str (strOf (jn (bG::(a6 l k++v::bG::a6 l2 k2))))):=by
 obtain⟨n1,_⟩:=ne_str;obtain⟨x2,x3,x4,b1,b2,b3,b4⟩:=V4 (y:=bG) h hv (j0 (kw bG) h2.ok) (by have:=gW l2 k2;rw[aN];omega);have q1:fj [.tup [.str (strOf l),.str (strOf k)]]=_:=nv h;have q2:fj [.tup [.str (strOf l2),.str (strOf k2)]]=_:=nv h2;show dQ [.tup [.str "join",.tup [.str (strOf l),.str (strOf k)],.str (strOf v),.tup [.str (strOf l2),.str (strOf k2)]]]=_;generalize strOf (jn (bG::a6 l k))=x1 at b1 q1;generalize strOf (jn (bG::a6 l2 k2))=y1 at b4 q2;generalize strOf (jn (bG::(a6 l k++v::bG::a6 l2 k2)))=z at b4 ⊢;unfold dQ l6 jQ;simp_arith [fm,nO,at2,F_,n1,q1,q2,spS,b1,b2,b3,b4]
theorem TQ(h:tL a b):∃y B,pK a b=y::B/\(y::B).length<=6:=by
 rcases a with _|a<;>rcases b with _|b
 ·exact h.elim
 ·exact⟨_,_,rfl,by simp⟩
 ·exact⟨_,_,rfl,by simp⟩
 ·by_cases e:a=b
  ·exact⟨oY,[aO a],by show(if a=b then _ else _)=_;rw[if_pos e],by simp⟩
  ·exact⟨gc,[aO a,toL,aO b],by show(if a=b then _ else _)=_;rw[if_neg e],by simp⟩
theorem QI(h:fy l k)(hv:W v)(h2:tL a b):dQ [.tup [.str "size",fJ l k,wD v,oD a,oD b]]=.ok (.str (strOf (jn (bG::(a6 l k++v::pK a b))))):=by
 obtain⟨_,n1,n2,_⟩:=ne_str;obtain⟨y,B,e,hB⟩:=TQ h2;have o:=RJ h2;have q2:=G6 h2;rw[e]at o q2 ⊢;obtain⟨x2,x3,x4,b1,b2,b3,b4⟩:=V4 h hv o hB;have q1:fj [.tup [.str (strOf l),.str (strOf k)]]=_:=nv h;have fa:=rW a;have fb:=rW b;show dQ [.tup [.str "size",.tup [.str (strOf l),.str (strOf k)],.str (strOf v),oD a,oD b]]=_;generalize strOf (jn (bG::a6 l k))=x1 at b1 q1;generalize strOf (jn (y::B))=y1 at b4 q2;generalize strOf (jn (bG::(a6 l k++v::y::B)))=z at b4 ⊢;unfold dQ l6 jQ;simp_arith [fm,nO,at2,F_,MG,fa,fb,n1,n2,q1,q2,spS,b1,b2,b3,b4]
theorem QJ(hv:W v)(h:fy l k):dQ [.tup [.str "then",wD v,fJ l k]]=.ok (.str (strOf (jn (fS::v::bG::a6 l k)))):=by
 obtain⟨_,_,_,_,_,_,n1,n2,n3,n4⟩:=ne_str;have q1:fj [.tup [.str (strOf l),.str (strOf k)]]=_:=nv h;have e1:aj "then "=strOf (jn [fS]++[32]):=by decide +kernel
 have a1:=gW l k;have o2:∀w∈[v],gK w:=j0 hv.ok (by simp);have o3:∀w∈[fS,v],gK w:=j0 (kw fS) o2;have l3:=kX o3 (by simp);have b1:eG .Add (.str (strOf (jn [fS]++[32]))) (.str (strOf v))=_:=IE [fS] v [] (by simp) (by decide) (kX o2 (by simp));have b2:=QG _ l3;have b3:=IE [fS,v] bG (a6 l k) (by simp) l3 (kX (j0 (kw bG) h.ok) (by rw[aN];omega));show dQ [.tup [.str "then",.str (strOf v),.tup [.str (strOf l),.str (strOf k)]]]=.ok (.str (strOf (jn ([fS,v]++bG::a6 l k))));generalize strOf (jn [fS]++[32])=x0 at e1 b1;change eG .Add (.str x0) (.str (strOf v))=.ok (.str (strOf (jn [fS,v])))at b1;generalize strOf (jn (bG::a6 l k))=x1 at b3 q1;generalize strOf (jn ([fS,v]++bG::a6 l k))=z at b3 ⊢;generalize strOf (jn [fS,v]++[32])=x2 at b2 b3;generalize strOf (jn [fS,v])=x3 at b1 b2;unfold dQ l6 jQ;simp_arith [fm,nO,at2,n1,n2,n3,n4,e1,q1,spS,b1,b2,b3]
theorem A1(h:qW ks):lz .join (.str (strOf [32,111,114,32])) [.lst false (ks.map wD)]=.ok (.str (strOf (jn (cy ks)))):=by
 rw[A0 _ ks false (by have:=h.2.1.2;omega) (fun w hw=>by have:=(h.1 w hw).ok.2.2.2;omega) (by decide),IB]
theorem QK(h:fy l k)(hk:qW ks):dQ [.tup [.str "is",fJ l k,.lst false (ks.map wD)]]=.ok (.str (strOf (jn (bG::(a6 l k++iD::aL::cy ks))))):=by
 obtain⟨_,_,_,n1,n2,n3,_⟩:=ne_str;have q1:fj [.tup [.str (strOf l),.str (strOf k)]]=_:=nv h;have q2:=A1 hk;have e1:aj " is a "=strOf [32,105,115,32,97,32]:=by decide +kernel
 have a1:=gW l k;have o1:=j0 (kw bG) h.ok;have o2:=MW o1 (j0 (kw iD) (j0 (kw aL) (by simp:∀w∈[],gK w)));have l1:=kX o1 (by rw[aN];omega);have l2:=kX o2 (by simp only[ay,aN,fW];omega);have b1:eG .Add (.str (strOf (jn (bG::a6 l k)))) (.str (strOf [32,105,115,32,97,32]))=.ok (.str (strOf (jn (bG::a6 l k++[iD,aL])++[32]))):=by
  rw[jY _ _ (by simp;omega),<-uc (bG::a6 l k) iD [aL] (by simp),br];rfl
 have b2:eG .Add (.str (strOf (jn (bG::a6 l k++[iD,aL])++[32]))) (.str (strOf (jn (cy ks))))=.ok (.str (strOf (jn (bG::(a6 l k++iD::aL::cy ks))))):=by
  have ok:=hk.ok;have ol:=t8 hk;obtain⟨y,B,e⟩:∃y B,cy ks=y::B:=by
   cases ks with
   |nil=>exact absurd hk.2.1.1 (by decide)
   |cons a r=>obtain⟨tl,e⟩:=u7 a r;exact⟨_,_,e⟩
  rw[e]at ok ol ⊢;have q:=IE (bG::a6 l k++[iD,aL]) y B (by simp) l2 (kX ok (by omega));rw[br]at q;exact q
 have fk:=c9 ks;show dQ [.tup [.str "is",.tup [.str (strOf l),.str (strOf k)],.lst false (ks.map wD)]]=_;generalize strOf (jn (bG::(a6 l k++iD::aL::cy ks)))=z at b2 ⊢;generalize strOf (jn (bG::a6 l k++[iD,aL])++[32])=x2 at b1 b2;generalize strOf (jn (bG::a6 l k))=x1 at b1 q1;generalize strOf (jn (cy ks))=y1 at b2 q2;generalize ks.map wD=K at q2 fk ⊢;unfold dQ l6 jQ;simp_arith [fm,nO,at2,fk,n1,n2,n3,q1,e1,b1,ID,q2,b2]
theorem yp{p:α->Prop}{a:α}{b:List α}(ha:p a)(hb:∀x∈b,p x):∀x∈a::b,p x:=fun x hx=>by
 rcases aJ.mp hx with rfl|hx
 ·exact ha
 ·exact hb x hx
theorem QL{c:Bool}(hn:1<=n/\n<=5)(hl:l=[]\/W l)(hk:qW ks):dQ [.tup [.str "parts",.int n,.bl c,wD l,.lst false (ks.map wD)]]=.ok (.str (strOf (jn (iX n c++(kh l++cy ks))))):=by
 have hs:=szl;have q2:=A1 hk;have fk:=c9 ks;have qn:=oj (zZ hn);have nl:=(gh (zZ hn)).2.2.2;have e1:aj "at least "=strOf [97,116,32,108,101,97,115,116,32]:=by decide +kernel
 have e2:aj "a"=strOf aL:=by decide +kernel
 have e3:aj "just "=strOf [106,117,115,116,32]:=by decide +kernel
 have e0:(aj "parts"==aj "parts")=true:=by decide +kernel
 have b1:eG .Add (.str (strOf [97,116,32,108,101,97,115,116,32])) (.str (strOf (aO n)))=.ok (.str (strOf (jn [ie,fR,aO n]))):=jY _ _ (by simp;omega);have b2:eG .Add (.str (strOf [106,117,115,116,32])) (.str (strOf (aO n)))=.ok (.str (strOf (jn [nu,aO n]))):=jY _ _ (by simp;omega);have oh:(∀w∈iX n c,gK w)/\∃a r,iX n c=a::r/\r.length<=2:=by
  unfold iX;split
  ·exact⟨all2 (kw nu) (gh (zZ hn)),_,_,rfl,by simp⟩
  ·split
   ·exact⟨j0 (kw aL) (by simp),_,_,rfl,by simp⟩
   ·exact⟨zY (kw ie) (kw fR) (gh (zZ hn)),_,_,rfl,by simp⟩
 obtain⟨oh,ha,hr,eh,hlr⟩:=oh;have hH:jn (iX n c)≠[]:=by
  intro z;have:=u_ _ oh;rw[z,eh]at this;cases this
 obtain⟨y,B,ek⟩:∃y B,cy ks=y::B:=by
  cases ks with
  |nil=>exact absurd hk.2.1.1 (by decide)
  |cons a r=>obtain⟨tl,e⟩:=u7 a r;exact⟨_,_,e⟩
 have hK:jn (cy ks)≠[]:=by
  intro z;have:=u_ _ hk.ok;rw[z,ek]at this;cases this
 have ne:∀{w:List Nat},w≠[]->(strOf w==strOf [])=false:=fun h=>by rw[kH,decide_eq_false h]
 have fe:[jn (iX n c),l,jn (cy ks)].filter (fun w=>!(strOf w==strOf []))=jn (iX n c)::(kh l++[jn (cy ks)]):=by
  unfold kh;rcases hl with rfl|hl
  ·have e1:=beq_self_eq_true (strOf []);simp[tR,ne hH,ne hK,e1]
  ·rw[if_neg hl.nn];simp[tR,ne hH,ne hK,hl.ne]
 have lH:=kX oh (by rw[eh,aN];omega);have lK:=kX hk.ok (by have:=t8 hk;omega);have ej:jn (jn (iX n c)::(kh l++[jn (cy ks)]))=jn (iX n c++(kh l++cy ks)):=by
  have hne:iX n c≠[]:=by rw[eh];simp
  unfold kh;rw[ek];rcases hl with rfl|hl
  ·rw[if_pos rfl];exact uc (iX n c) y B hne
  ·rw[if_neg hl.nn];show jn (iX n c)++32::(l++32::jn (y::B))=_;exact uc (iX n c) l (y::B) hne
 have q:cZ (pG (.name 0)) (pT jQ (.cmp .NotEq (.var 0) (.con (.str (strOf []))))) (pE jQ (.var 0)) [D.str (strOf (jn (iX n c))),.str (strOf l),.str (strOf (jn (cy ks)))] [none]=.ok ((jn (iX n c)::(kh l++[jn (cy ks)])).map wD):=by
  rw[<-fe];refine kC wD (fun O=>∃o,O=[o]) (fun w=>!(strOf w==strOf [])) wD [jn (iX n c),l,jn (cy ks)] _ ⟨none,rfl⟩ ?_;rintro p _ O ⟨o,rfl⟩;refine⟨[some (wD p)],rfl,⟨_,rfl⟩,?_,?_⟩
  ·unfold wD;simp_arith []
  ·rfl
 have ll:l.length<=40:=by
  rcases hl with rfl|hl
  ·simp
  ·exact hl.ok.2.2.2
 have qj:=A0 [32] (jn (iX n c)::(kh l++[jn (cy ks)])) true (by unfold kh;split<;>simp) (yp lH (by
  unfold kh;split
  ·exact yp lK (by simp)
  ·exact yp (by omega) (yp lK (by simp)))) (by decide)
 rw[Ca,ej]at qj;unfold jQ at q;show dQ [.tup [.str "parts",.int n,.bl c,.str (strOf l),.lst false (ks.map wD)]]=_;generalize strOf (jn (iX n c++(kh l++cy ks)))=z at qj ⊢;generalize(jn (iX n c)::(kh l++[jn (cy ks)])).map wD=X at q qj;generalize strOf (jn (cy ks))=y1 at q q2;generalize ks.map wD=K at q2 fk ⊢;unfold dQ l6 jQ;unfold iX at q;cases c with
 |true=>
  rw[if_pos rfl]at q;generalize strOf (jn [nu,aO n])=x1 at b2 q;cases g:(n==1)with
  |true=>simp_arith [fm,nO,at2,F_,MG,e0,e1,e2,e3,qn,b1,b2,g,fk,ID,q2,qV,q,spS,qj]
  |false=>simp_arith [fm,nO,at2,F_,MG,e0,e1,e2,e3,qn,b1,b2,g,fk,ID,q2,qV,q,spS,qj]
 |false=>
  rw[if_neg (by decide)]at q;by_cases g:n=1
  ·rw[if_pos g]at q;have g:(n==1)=true:=by rw[beq_iff_eq];exact g
   have q:cZ _ _ _ [D.str (strOf aL),_,_] _=_:=q;simp_arith [fm,nO,at2,F_,MG,e0,e1,e2,e3,qn,b1,b2,g,fk,ID,q2,qV,q,spS,qj]
  ·rw[if_neg g]at q;have g:(n==1)=false:=by rw[beq_eq_false_iff_ne];exact g
   generalize strOf (jn [ie,fR,aO n])=x1 at b1 q;simp_arith [fm,nO,at2,F_,MG,e0,e1,e2,e3,qn,b1,b2,g,fk,ID,q2,qV,q,spS,qj]
theorem V5(w:Rw)(h:w.Ok):dQ [bq w.val]=.ok (.str (strOf (jn w.words))):=by
 cases w with
 |parts n c l ks=>
  have q:=QL (c:=c) h.1 h.2.1 h.2.2;rw[<-c9 ks]at q;exact q
 |join l k v l2 k2=>exact QH h.1 h.2.1 h.2.2
 |size l k v a b=>
  have q:=QI h.1 h.2.1 h.2.2;show dQ [.tup [.str "size",fJ l k,wD v,bq (oD a),bq (oD b)]]=_;rw[rW a,rW b];exact q
 |isa l k ks=>
  have q:=QK h.1 h.2;rw[<-c9 ks]at q;exact q
 |aR v l k=>exact QJ h.1 h.2
theorem Gn(x y z u i:Int)(h:0<=i/\i<4):fh [D.int x,.int y,.int z,.int u] i=some (.int (if i=0 then x else if i=1 then y else if i=2 then z else u)):=by
 obtain⟨h0,h1⟩:=h;by_cases c0:i=0
 ·rw[if_pos c0,c0];exact fm _ _
 ·rw[if_neg c0];by_cases c1:i=1
  ·rw[if_pos c1,c1];exact nO _ _ _
  ·rw[if_neg c1];by_cases c2:i=2
   ·rw[if_pos c2,c2];exact at2 _ _ _ _
   ·rw[if_neg c2,show i=3 by omega];exact F_ _ _ _ _ _
noncomputable def headD(ns:List Int):D:=.tup [.str (strOf (jn (bR::jZ ns))),.lst true (ns.map D.int)]
noncomputable def Gp:bV->bV
|.cons _ (.cons _ (.cons _ r))=>r
|r=>r
noncomputable def V6(r:bV):bV->bV
|.cons a (.cons b (.cons c _))=>.cons a (.cons b (.cons c r))
|r=>r
theorem QM(d:Int)(h:Nat)(hh:h<=100)(n:Int)(n0:0<=n)(n1:n<1000000000000000000000000000000):∃ns,B8 ns/\cQ [] 1000 (Gp gm) [some (.int d),some (.int (h:Int)),some (.int n)]=.rt (headD ns):=by
 have hs:=szl;have T:(10:Int) ^ 30=1000000000000000000000000000000:=by decide
 have hn:Num n:=by unfold Num;rw[T];omega
 have hc:Num (h:Int):=by unfold Num;rw[T];omega
 have q1:=oj hn;have q2:=oj hc;have l1:=(gh hn).2.2.2;have l2:=(gh hc).2.2.2;have e1:aj "claim on "=strOf [99,108,97,105,109,32,111,110,32]:=by decide +kernel
 have b1:eG .Add (.str (strOf [99,108,97,105,109,32,111,110,32])) (.str (strOf (aO n)))=.ok (.str (strOf (jn [bR,jB,aO n]))):=jY _ _ (by simp;omega);by_cases c:d%4=1/\n<(h:Int)
 ·refine⟨[n,(h:Int)],⟨n0,c.2,hc⟩,?_⟩;have g1:(d%4==1)=true:=by rw[beq_iff_eq];exact c.1
  have g2:=decide_eq_true c.2;have b2:eG .Add (.str (strOf (jn [bR,jB,aO n]))) (.str (strOf [32,111,114,32]))=.ok (.str (strOf (jn [bR,jB,aO n,iQ]++[32]))):=by
   have l3:(jn [bR,jB,aO n]).length<=1000:=by
    show([99,108,97,105,109,32,111,110,32]++aO n).length<=1000;rw[ay];simp;omega
   rw[jY _ _ (by simp;omega),show jn [bR,jB,aO n,iQ]=jn [bR,jB,aO n]++32::jn [iQ]from(uc [bR,jB,aO n] iQ [] (by simp)).symm,br];rfl
  have b3:=IE [bR,jB,aO n,iQ] (aO (h:Int)) [] (by simp) (by
   show([99,108,97,105,109,32,111,110,32]++(aO n++[32,111,114])).length<=1000;rw[ay,ay];simp;omega) (by show(aO (h:Int)).length<=1000;omega)
  show _=Fl.rt (D.tup [.str (strOf (jn [bR,jB,aO n,iQ,aO (h:Int)])),.lst true [.int n,.int (h:Int)]]);have b3:eG .Add (.str (strOf (jn [bR,jB,aO n,iQ]++[32]))) (.str (strOf (aO (h:Int))))=.ok (.str (strOf (jn [bR,jB,aO n,iQ,aO (h:Int)]))):=b3;generalize strOf (jn [bR,jB,aO n,iQ,aO (h:Int)])=z at b3 ⊢;generalize strOf (jn [bR,jB,aO n,iQ]++[32])=x3 at b2 b3;generalize strOf (jn [bR,jB,aO n])=x2 at b1 b2;unfold gm Gp;simp_arith [g1,g2,e1,q1,b1,ID,b2,q2,b3]
 ·refine⟨[n],⟨n0,hn⟩,?_⟩;show _=Fl.rt (D.tup [.str (strOf (jn [bR,jB,aO n])),.lst true [.int n]]);generalize strOf (jn [bR,jB,aO n])=x2 at b1;unfold gm Gp;cases g1:(d%4==1)with
  |false=>simp_arith [g1,e1,q1,b1]
  |true=>
   have g2:decide (n<(h:Int))=false:=decide_eq_false fun z=>c ⟨by rw[beq_iff_eq]at g1;exact g1,z⟩;simp_arith [g1,g2,e1,q1,b1]
theorem V7(d:Int)(hd:0<=d/\d<800000000)(h:Nat)(hh:h<=100):∃ns,B8 ns/\kG [.int d,.int (h:Int)]=.ok (headD ns):=by
 have hs:=szl;have mh:=bS (d / 4) (b:=(h:Int)+1) (by omega);have m4:=bS (d / 29) (b:=4) (by decide);have p29:eG .Pow (.int 10) (.int 29)=.ok (.int 100000000000000000000000000000):=by kernel_rfl
 have a1:=Gn 0 ((h:Int)+1) ((h:Int)+2) 100000000000000000000000000000 (d / 29%4) m4;obtain⟨p,ep⟩:∃p,(if d / 29%4=0 then 0 else if d / 29%4=1 then(h:Int)+1 else if d / 29%4=2 then(h:Int)+2 else 100000000000000000000000000000)=p:=⟨_,rfl⟩;rw[ep]at a1;have hp:0<=p/\p<1000000000000000000000000000000:=by
  rw[<-ep];split
  ·omega
  ·split
   ·omega
   ·split<;>omega
 clear ep;have first:(d%4=0\/((h:Int)=0/\0<d%9))->kG [.int d,.int (h:Int)]=.ok (headD []):=by
  intro c;have e0:headD []=.tup [.str "claim",.lst true []]:=by
   show D.tup [.str (strOf bR),.lst true []]=_;rw[<-t_]
  rw[e0];unfold kG gm zX;cases g1:(d%4==0)with
  |true=>simp_arith [g1]
  |false=>
   have c2:(h:Int)=0/\0<d%9:=c.resolve_left fun z=>by rw[z]at g1;cases g1
   have g2:((h:Int)==0)=true:=by rw[beq_iff_eq];exact c2.1
   have g3:=decide_eq_true c2.2;simp_arith [g1,g2,g3]
 by_cases c:d%4=0\/((h:Int)=0/\0<d%9)
 ·exact⟨[],trivial,first c⟩
 ·have g1:(d%4==0)=false:=by rw[beq_eq_false_iff_ne];exact fun z=>c (.inl z)
  have mid:∃n,0<=n/\n<1000000000000000000000000000000/\kG [.int d,.int (h:Int)]=zO (cQ [] 1000 (Gp gm) [some (.int d),some (.int (h:Int)),some (.int n)]):=by
   have e:gm=V6 (Gp gm) gm:=rfl;unfold kG;rw[e];generalize Gp gm=r;have e2:Gp (V6 r gm)=r:=rfl;rw[e2];unfold V6 gm zX;cases g4:(d%29==0)with
   |true=>
    refine⟨p,hp.1,hp.2,?_⟩;cases g2:((h:Int)==0)with
    |false=>simp_arith [g1,g2,g4,p29,a1]
    |true=>
     have g3:decide (0<d%9)=false:=decide_eq_false fun z=>c (.inr ⟨by rw[beq_iff_eq]at g2;exact g2,z⟩);simp_arith [g1,g2,g3,g4,p29,a1]
   |false=>
    by_cases c5:(h:Int)<1+d / 4%((h:Int)+1)
    ·have g5:=decide_eq_true c5;refine⟨1,by decide,by decide,?_⟩;cases g2:((h:Int)==0)with
     |false=>simp_arith [g1,g2,g4,g5]
     |true=>
      have g3:decide (0<d%9)=false:=decide_eq_false fun z=>c (.inr ⟨by rw[beq_iff_eq]at g2;exact g2,z⟩);simp_arith [g1,g2,g3,g4,g5]
    ·have g5:=decide_eq_false c5;refine⟨1+d / 4%((h:Int)+1),by omega,by omega,?_⟩;cases g2:((h:Int)==0)with
     |false=>simp_arith [g1,g2,g4,g5]
     |true=>
      have g3:decide (0<d%9)=false:=decide_eq_false fun z=>c (.inr ⟨by rw[beq_iff_eq]at g2;exact g2,z⟩);simp_arith [g1,g2,g3,g4,g5]
  obtain⟨n,n0,n1,e⟩:=mid;obtain⟨ns,h1,h2⟩:=QM d h hh n n0 n1;exact⟨ns,h1,by rw[e,h2];rfl⟩
noncomputable abbrev qY(a:Option D)(s q:Int)(X:List D)(h:Nat)(k c d t tk r m:Option D):a_:=[a,some (.int s),some (.int q),some (.lst true X),some (.int (h:Int)),k,c,d,t,tk,r,m]
noncomputable def b1:bV->CS
|.cons a _=>a
|_=>.cont
noncomputable def bC:bV->CE
|.cons _ (.cons (.ifs c _ _) _)=>c
|_=>.con .non
noncomputable def bA:bV->bV
|.cons _ (.cons (.ifs _ a _) _)=>a
|r=>r
noncomputable def bB:bV->bV
|.cons _ (.cons (.ifs _ _ b) _)=>b
|r=>r
theorem Xm{n:Nat}{c:CE}{A B:bV}{b:Bool}(h:pT Y c O=.ok b):cQ Y n (.cons (.ifs c A B) .nil) O=if b=true then cQ Y n A O else cQ Y n B O:=by
 rw[uT,Fw,h];cases b with
 |true=>show o8 (cQ Y n A O) _=cQ Y n A O;cases cQ Y n A O<;>rfl
 |false=>show o8 (cQ Y n B O) _=cQ Y n B O;cases cQ Y n B O<;>rfl
structure jt (its:List It) (X:List D):Prop where
 f:aC X=its.map gu
 o:∀i∈its,i.Ok
variable{its:List It}{X:List D}
theorem jt.len(h:jt its X):X.length=its.length:=by
 have:=congrArg Ho h.f;rwa[iC,aH]at this
theorem jt.eq(h:jt its X):bQ .Eq (.lst false (aC X)) (.lst true [])=.ok (.bl its.isEmpty):=by
 rw[h.f,n6 (t9 fun d hd=>by
  obtain⟨i,_,rfl⟩:=ck.mp hd;show(eT (i.takes.map D.int) 9&&true)=true;rw[qB _ _ fun d hd=>by obtain⟨i,_,rfl⟩:=ck.mp hd;rfl];rfl) rfl]
 cases its<;>rfl
variable{i:It}
theorem jt.add(h:jt its X){d:D}(e:bq d=gu i)(o:i.Ok):jt (its++aB j i) (X++aB j d):=by
 refine⟨?_,fun y hy=>?_⟩
 ·rw[frzs_map',di,<-frzs_map',h.f,di,xU,xU,e]
 ·rcases aZ.mp hy with hy|hy
  ·exact h.o y hy
  ·rw[(gE.mp hy).2];exact o
def IF(x:Fl)(a:Option D)(s q:Int)(its:List It)(h:Nat):Prop:=∃its' X' h' k c d t tk r m,x=.nx (qY a s q X' h' k c d t tk r m)/\jt its' X'/\its'.length<=its.length+14/\h'<=h+1
theorem A2{x:Fl}{a:Option D}{s q:Int}{h:Nat}(hX:jt its X){y:D}(e:bq y=gu i)(o:i.Ok)(hj:j<=14){h':Nat}(hh:h'<=h+1)(k c d t tk r m:Option D)(hx:x=.nx (qY a s q (X++aB j y) h' k c d t tk r m)):IF x a s q its h:=
 ⟨_,_,_,_,_,_,_,_,_,_,hx,hX.add e o,by rw[ay,gP];omega,hh⟩
section
variable(a:Option D) (s q:Int) (hs0:0<=s) (hq:0<=q/\q<4) (its:List It) (X:List D) (hX:jt its X) (hL:its.length<=1000) (h:Nat) (hh:h<=100) (k c:Int) (hk:0<=k/\k<=63) (d:Int) (hd:0<=d/\d<800000000) (t tk r m:Option D)
include hX hL
theorem QN(hh:h<=100)(hd:0<=d/\d<800000000):IF (cQ d8 1000 (bA bX) (qY a s q X h (some (.int k)) (some (.int c)) (some (.int d)) t tk r m)) a s q its h:=by
 have hs:=szl;obtain⟨ns,h1,h2⟩:=V7 (d / 104) (by omega) h hh;have h2:kG [.int (d / 104),.int (h:Int)]=.ok (.tup [.str (strOf (jn (bR::jZ ns))),.lst true (ns.map D.int)]):=h2;have l:=hX.len;have fi:=kW ns;have ho:=yj ns;have e:bq (.tup [.str "claim",.str (strOf (jn (bR::jZ ns))),.lst false (ns.map D.int)])=gu (.c ns):=by
  show D.tup [.str "claim",.str (strOf (jn (bR::jZ ns))),.lst false (aC (ns.map D.int))]=_;rw[fi];rfl
 refine A2 hX (j:=1) e h1 (by decide) (h':=h+1) (by omega) (some (.int k)) (some (.int c)) (some (.int d)) (some (.str (strOf (jn (bR::jZ ns))))) (some (.lst false (ns.map D.int))) r m ?_;generalize strOf (jn (bR::jZ ns))=x at h2 ⊢;generalize ns.map D.int=N at h2 fi ho ⊢;unfold bA bX d8;simp_arith [h2,fi,ho];rw[mz (xs:=X) rfl (by omega) rfl];simp_arith [fi];rfl
theorem V8(hs0:0<=s)(g1:(d%8==7)=true)(g2:(d / 8%13==0)=true):IF (cQ d8 1000 (bB bX) (qY a s q X h (some (.int k)) (some (.int c)) (some (.int d)) t tk r m)) a s q its h:=by
 have hs:=szl;have m26:=bS d (b:=26) (by decide);have qw:gU [.int s,.int (d%26)]=.ok (.str _):=ua s (d%26) hs0 (by omega);have ww:=B_ s (d%26) hs0 (by omega);have l:=hX.len;have e1:aj "the "=strOf [116,104,101,32]:=by decide +kernel
 have b1:eG .Add (.str (strOf [116,104,101,32])) (.str (strOf (lw s (d%26))))=.ok (.str (strOf (jn [bG,lw s (d%26)]))):=jY _ _ (by have:=ww.ok.2.2.2;simp;omega);refine A2 hX (j:=1) (y:=.tup [.str "odd",.str (strOf (jn [bG,lw s (d%26)])),.lst true []]) (i:=.o (lw s (d%26))) rfl ww (by decide) (h':=h) (by omega) (some (.int k)) (some (.int c)) (some (.int d)) t tk r m ?_;generalize strOf (jn [bG,lw s (d%26)])=x at b1 ⊢;generalize strOf (lw s (d%26))=y at b1 qw;unfold bB bX d8;simp_arith [g1,g2,e1,qw,b1];rw[mz (xs:=X) rfl (by omega) rfl];simp_arith []
theorem TR(g1:(d%8==7)=true)(g2:(d / 8%13==0)=false):IF (cQ d8 1000 (bB bX) (qY a s q X h (some (.int k)) (some (.int c)) (some (.int d)) t tk r m)) a s q its h:=by
 have hs:=szl;have m3:=bS (d / 8) (b:=3) (by decide);have l:=hX.len;have b1:eG .Mult (.str ⟨#[32]⟩) (.int (d / 8%3))=.ok (.str (strOf (aB (d / 8%3).toNat 32))):=BZ 32 (d / 8%3) (by omega);refine A2 hX (j:=1) (y:=.tup [.str "none",.str (strOf (aB (d / 8%3).toNat 32)),.lst true []]) (i:=.n (d / 8%3).toNat) rfl (by show _<=2;omega) (by decide) (h':=h) (by omega) (some (.int k)) (some (.int c)) (some (.int d)) t tk r m ?_;generalize strOf (aB (d / 8%3).toNat 32)=x at b1 ⊢;unfold bB bX d8;simp_arith [g1,g2,XH,b1];rw[mz (xs:=X) rfl (by omega) rfl];simp_arith []
end
theorem z0(d:D):∀n:Nat,(aB n [d]).flatten=aB n d
|0=>rfl
|n+1=>by rw[bM,cB,z0 d n];rfl
section
variable(a:Option D) (s q:Int) (its:List It) (X:List D) (hX:jt its X) (hL:its.length<=1000) (h:Nat) (k c:Int) (d:Int) (t tk r m:Option D)
include hX hL
theorem V9(hs0:0<=s)(hk:0<=k/\k<=63)(hd:0<=d/\d<800000000)(g1:(d%8==7)=false):IF (cQ d8 1000 (bB bX) (qY a s q X h (some (.int k)) (some (.int c)) (some (.int d)) t tk r m)) a s q its h:=by
 have hs:=szl;obtain⟨w,hw,qr⟩:=TN c k s hk hs0;have qt:=V5 w hw;have l:=hX.len;have m14:=bS (d / 8) (b:=14) (by decide);have m4:=bS (d / 112) (b:=4) (by decide);have a1:=Gn 1 1 2 (1+d / 8%14) (d / 112%4) m4;obtain⟨n,en⟩:∃n,(if d / 112%4=0 then 1 else if d / 112%4=1 then 1 else if d / 112%4=2 then 2 else 1+d / 8%14)=n:=⟨_,rfl⟩;rw[en]at a1;have hn:1<=n/\n<=14:=by
  rw[<-en];split
  ·omega
  ·split
   ·omega
   ·split<;>omega
 clear en;obtain⟨j,ej,hj⟩:∃j:Int,(if 130-(X.length:Int)<n then 130-(X.length:Int)else n)=j/\(-1000<=j/\j<=14):=⟨_,rfl,by split<;>omega⟩;refine A2 hX (j:=j.toNat) (y:=.tup [.str "row",.str (strOf (jn w.words)),.lst false []]) (i:=.r w) rfl hw (by omega) (h':=h) (by omega) (some (.int k)) (some (.int c)) (some (.int d)) t tk (some (.str (strOf (jn w.words)))) (some (.int n)) ?_;rw[<-z0];generalize strOf (jn w.words)=x at qt ⊢;generalize w.val=v at qr qt;have fl:(aB j.toNat [D.tup [.str (aj "row"),.str x,.lst false []]]).flatten.length<=14:=by rw[z0,gP];omega
 have mn:jy .min [.int n,.int (130-(X.length:Int))]=.ok (.int j):=by rw[Fx,ej]
 have fx:(aC X).length=X.length:=iC X;unfold bB bX d8;simp_arith [g1,qr,qt,a1,mn,fx];rw[Dg (xs:=X) rfl (by omega) (by rw[Bl];exact .inr rfl)];generalize aT (.lst true _)=b;cases b with
 |true=>simp_arith []
 |false=>simp_arith []
end
theorem TU(a:Option D)(s q:Int)(hq:0<=q/\q<4)(its:List It)(X:List D)(hX:jt its X)(h:Nat)(d:Int)(k c t tk r m:Option D):∃b,pT d8 (bC bX) (qY a s q X h k c (some (.int d)) t tk r m)=.ok b:=by
 have hs:=szl;have e:=hX.eq;have a1:=Gn 2 6 1 3 q hq;generalize(if q=0 then 2 else if q=1 then 6 else if q=2 then 1 else 3:Int)=n at a1;unfold bC bX d8;generalize its.isEmpty=z at e;cases z with
 |true=>
  cases g:decide (0<d%13)with
  |true=>exact⟨true,by simp_arith [e,g]⟩
  |false=>exact⟨_,by simp_arith [e,g,a1];rfl⟩
 |false=>exact⟨_,by simp_arith [e,a1];rfl⟩
theorem TV(a:Option D)(s q:Int)(hs0:0<=s)(hq:0<=q/\q<4)(its:List It)(X:List D)(hX:jt its X)(hL:its.length<=1000)(h:Nat)(hh:h<=100)(k c:Int)(hk:0<=k/\k<=62)(d t tk r m:Option D):IF (cQ d8 1000 bX (qY a s q X h (some (.int k)) (some (.int c)) d t tk r m)) a s q its h:=by
 obtain⟨v,v0,v1,qv⟩:=qC c (k+120) (by omega);obtain⟨b,hb⟩:=TU a s q hq its X hX h v (some (.int k)) (some (.int c)) t tk r m;have e:bX=.cons (b1 bX) (.cons (.ifs (bC bX) (bA bX) (bB bX)) .nil):=rfl;have h1:pS d8 1000 (b1 bX) (qY a s q X h (some (.int k)) (some (.int c)) d t tk r m)=.nx (qY a s q X h (some (.int k)) (some (.int c)) (some (.int v)) t tk r m):=by
  unfold b1 bX d8;simp_arith [qv]
 rw[e,uT,h1,Df,Xm hb];cases b with
 |true=>exact QN a s q its X hX hL h k c v t tk r m hh ⟨v0,v1⟩
 |false=>
  rw[if_neg (by decide)];cases g1:(v%8==7)with
  |false=>exact V9 a s q its X hX hL h k c v t tk r m hs0 ⟨hk.1,by omega⟩ ⟨v0,v1⟩ g1
  |true=>
   cases g2:(v / 8%13==0)with
   |true=>exact V8 a s q its X hX hL h k c v t tk r m hs0 g1 g2
   |false=>exact TR a s q its X hX hL h k c v t tk r m g1 g2
noncomputable abbrev V_:D->a_->R a_:=pG (.tup (.cons (.name 5) (.cons (.name 6) .nil)))
theorem IG(a:Option D)(s q:Int)(hs0:0<=s)(hq:0<=q/\q<4):∀(cs:List Int) (j:Nat) (hj:j+cs.length<=63) (its:List It) (X:List D) (hX:jt its X) (hL:its.length<=14*j) (h:Nat) (hh:h<=j) (k c d t tk r m:Option D),∃its' X' h' k' c' d' t' tk' r' m',forR V_ (cQ d8 1000 bX) (iO j (cs.map D.int)) (qY a s q X h k c d t tk r m)=.nx (qY a s q X' h' k' c' d' t' tk' r' m')/\jt its' X'/\its'.length<=900
|[],j,hj,its,X,hX,hL,h,hh,k,c,d,t,tk,r,m=>⟨its,X,h,k,c,d,t,tk,r,m,rfl,hX,by simp at hj;omega⟩
|x::cs,j,hj,its,X,hX,hL,h,hh,k,c,d,t,tk,r,m=>by
 have hj:j+(cs.length+1)<=63:=hj;obtain⟨its',X',h',k',c',d',t',tk',r',m',e,hX',hl',hh'⟩:=TV a s q hs0 hq its X hX (by omega) h (by omega) (j:Int) x (by omega) d t tk r m;have g1:V_ (.tup [.int (j:Int),.int x]) (qY a s q X h k c d t tk r m)=.ok (qY a s q X h (some (.int (j:Int))) (some (.int x)) d t tk r m):=rfl;obtain⟨i2,X2,h2,k2,c2,d2,t2,tk2,r2,m2,e2,f2⟩:=IG a s q hs0 hq cs (j+1) (by omega) its' X' hX' (by omega) h' (by omega) k' c' d' t' tk' r' m';exact⟨i2,X2,h2,k2,c2,d2,t2,tk2,r2,m2,(xy g1 e).trans e2,f2⟩
theorem TX(ns:List Int)(hn:ns.length<=63):∃its X,jt its X/\its.length<=900/\oV [mw ns]=.ok (.lst true X):=by
 obtain⟨c,qc⟩:=VZ ns;obtain⟨s,s0,s1,qs⟩:=qC c 1 (by omega);obtain⟨v,v0,v1,qv⟩:=qC c 2 (by omega);have m4:=bS v (b:=4) (by decide);have fi:=kW ns;have c1:cut (ns.map D.int) none (some 63)=ns.map D.int:=by
  have:=l8 (ns.map D.int) 63;rw[dm (by rw[aH];exact hn)]at this;exact this
 unfold mw at qc ⊢;obtain⟨its,X,h,k,c',d,t,tk,r,m,e,hX,hl⟩:=IG (some (.lst false (ns.map D.int))) s (v%4) s0 m4 ns 0 (by omega) [] [] ⟨rfl,by simp⟩ (by simp) 0 (by omega) none none none none none none none;refine⟨its,X,hX,hl,?_⟩;unfold oV wZ;unfold d8 at e ⊢;unfold V_ qY at e;have ho:=yj ns;rw[show((0:Nat):Int)=0 from rfl]at e;simp_arith [fi,qc,qs,qv,c1,ho];rw[show forR _ _ _ _=_ from e];simp_arith []
theorem It.Gm(h:i.Ok):wordsOf i.text=i.words/\10∉i.text/\i.text.length<=1000:=by
 have key:∀ws:List (List Nat),(∀w∈ws,gK w)->ws.length<=12->wordsOf (jn ws)=ws/\10∉jn ws/\(jn ws).length<=1000:=fun ws h hl=>⟨u_ ws h,RI ws h,kX h hl⟩;cases i with
 |c ns=>
  refine key _ ?_ ?_
  ·rcases ns with _|⟨a,_|⟨b,_|⟨c,r⟩⟩⟩
   ·exact j0 (kw bR) (by simp[jZ])
   ·exact zY (kw bR) (kw jB) (gh h.2)
   ·exact j0 (kw bR) (Qq (kw jB) (gh ⟨by have:=h.1;have:=h.2.2.1;omega,by have:=h.2.1;have:=h.2.2.2;omega⟩) (kw iQ) (gh h.2.2))
   ·exact h.elim
  ·rcases ns with _|⟨a,_|⟨b,_|⟨c,r⟩⟩⟩<;>simp[It.words,jZ]
 |o w=>exact key _ (all2 (kw bG) h.ok) (by simp[It.words])
 |n k=>
  refine⟨?_,fun hc=>?_,?_⟩
  ·have:=G5 k [];rw[gO]at this;exact this
  ·have:=(gE.mp hc).2;exact absurd this (by decide)
  ·show(aB k 32).length<=1000;have h:k<=2:=h;rw[gP];omega
 |r w=>exact key _ (Rw.Gm h).1 (Rw.Gm h).2
noncomputable def txt(its:List It):Str:=dU (strOf [10]) ((its.map It.text).map strOf)
theorem TY(ls:List (List Nat))(h:∀l∈ls,l.length<=1000):∃l,dU (strOf [10]) (ls.map strOf)=strOf l/\l.length<=1001*ls.length:=by
 induction ls with
 |nil=>exact⟨[],rfl,by simp⟩
 |cons a r ih=>
  obtain⟨l,e,hl⟩:=ih fun x hx=>h x (ai _ hx);have ha:=h a aq;cases r with
  |nil=>exact⟨a,rfl,by simp;omega⟩
  |cons b t=>
   refine⟨a++[10]++l,?_,by simp only[ay,aN,fW]at hl ⊢;omega⟩;show strOf a++strOf [10]++dU (strOf [10]) ((b::t).map strOf)=_;rw[e,oi,oi]
theorem QO(its:List It)(h:∀i∈its,i.Ok)(hn:its≠[]):l9 (txt its)=its.map It.words:=by
 have q:=oz 10 (((its.map It.text).map strOf).map fun p:Str=>p.cps.toList) (txt its).cps.toList (by simpa using hn) (by
  intro p hp;rw[cE,cE]at hp;obtain⟨i,hi,rfl⟩:=ck.mp hp;exact(It.Gm (h i hi)).2.1) (join_list 10 _ (by simpa using hn))
 unfold l9;rw[q,cE,cE,cE];exact vR fun i hi=>(It.Gm (h i hi)).1
theorem J8(its:List It)(h:∀i∈its,i.Ok)(hl:its.length<=900):Read (fq [.str (txt its)]) (rn its 0 []):=by
 have hs:=szl;have hb:(txt its).length+2<=aa:=by
  obtain⟨l,e,hl2⟩:=TY (its.map It.text) fun l hl=>by
   obtain⟨i,hi,rfl⟩:=ck.mp hl;exact(It.Gm (h i hi)).2.2
  unfold txt;rw[e,iB];rw[aH]at hl2;omega
 by_cases hn:its=[]
 ·subst hn;exact MR [.n 0] (by intro i hi;rw[aU.mp hi];exact j6 2) _ (by decide +kernel) hb
 ·exact MR its h _ (QO its h hn) hb
theorem RK:∀l:List Nat,dO (l.map nD)=true
|[]=>rfl
|_::r=>RK r
theorem Xn(y:Kd)(k:Int):bQ .Eq (vD y k) (vD y k)=.ok (.bl true):=by
 rw[n6 rfl rfl];show R.ok (D.bl ((RG y==RG y)&&((k==k)&&true)))=_;rw[beq_self_eq_true,beq_self_eq_true];rfl
theorem Xo(cs:List Nat):ko (cs.map nD) (cs.map nD)=true:=by
 induction cs with
 |nil=>rfl
 |cons a r ih=>
  show(((a:Int)==(a:Int))&&ko (r.map nD) (r.map nD))=true;rw[ih,beq_self_eq_true];rfl
theorem fin(ns:List Int)(h:ns.length<=63):JQ [mw ns]=.ok (.bl true):=by
 have hs:=szl;obtain⟨its,X,hX,hl,qi⟩:=TX ns h;have qr:=J8 its hX.o hl;have qd:=Xk its;have fX:=hX.f;have fi:=kW ns;have ft:aC (its.map gu)=its.map gu:=jd _ J2 its;have qc:cZ (pG (.name 0)) (fun _=>.ok true) (pE JP (.ix (.var 0) (.con (.int 1)))) (its.map gu) [none]=.ok ((its.map It.text).map wD):=by
  rw[cE];refine ic gu (fun O=>∃o,O=[o]) (fun i=>wD i.text) its _ ⟨none,rfl⟩ ?_;rintro i _ O ⟨o,rfl⟩;refine⟨[some (gu i)],rfl,⟨_,rfl⟩,?_⟩;have f:=J2 i;have e:rP (gu i) (.int 1)=.ok (wD i.text):=rfl;generalize gu i=d at f e ⊢;simp_arith [f,e]
 have qj:lz .join (.str (strOf [10])) [.lst true ((its.map It.text).map wD)]=.ok (.str (txt its)):=A0 [10] (its.map It.text) true (by rw[aH];omega) (fun w hw=>by
  obtain⟨i,hi,rfl⟩:=ck.mp hw;exact(It.Gm (hX.o i hi)).2.2) (by decide)
 have nl:aj "\n"=strOf [10]:=by decide +kernel
 have ob:∀b,gJ [0] b [some (.lst false (ns.map D.int)),none,none,none]=[some (.lst false (ns.map D.int)),none,none,none]:=by
  intro b;cases b with
  |true=>rfl
  |false=>simp_arith [fi]
 unfold mw at qi ⊢;generalize(its.map It.text).map wD=T at qc qj;generalize its.map gu=Y_ at qd qc fX ft;generalize txt its=x at qj qr;generalize rn its 0 []=z at qd qr;unfold JQ JO;unfold JP at qc ⊢;rcases z with⟨y,j⟩|cs
 ·have qd:mF [.lst false Y_]=.ok (.tup [.str (RG y),.int (j:Int)]):=qd;have qf:=MS x y (j:Int) qr;have ek:=Xn y (j:Int);unfold vD at qf ek;simp_arith [fi,qi,ob,fX,ft,qc,nl,qj,qd,qf,ek]
 ·obtain⟨C,qr,ec⟩:=qr;have qd:mF [.lst false Y_]=.ok (.lst true (cs.map nD)):=qd;have fc:=En C;have fn:=J3 cs;have on:=RK cs;have qq:cZ (pG (.tup (.cons (.name 0) (.cons (.name 1) .nil)))) (fun _=>.ok true) (pE [.fn fq [],.fn lD [],.fn mF [],.fn oV []] (.blt .len (.cons (.var 1) .nil))) (C.map cF) [none,none]=.ok (cs.map nD):=by
   rw[<-ec];unfold rZ;rw[cE];refine ic cF (fun O=>∃o o',O=[o,o']) (fun p=>nD p.2.length) C _ ⟨none,none,rfl⟩ ?_;rintro p _ O ⟨o,o',rfl⟩;have fl:(aC (aC p.2)).length=p.2.length:=by rw[iC,iC]
   refine⟨[some (.lst false (p.1.map D.int)),some (.lst false (aC p.2))],rfl,⟨_,_,rfl⟩,?_⟩;simp_arith [fl]
  have en:bQ .Eq (.lst true (cs.map nD)) (.lst false (cs.map nD))=.ok (.bl true):=by
   rw[n6 (t9 fun d hd=>by obtain⟨i,_,rfl⟩:=ck.mp hd;rfl) (t9 fun d hd=>by obtain⟨i,_,rfl⟩:=ck.mp hd;rfl)];show R.ok (D.bl (ko (cs.map nD) (cs.map nD)))=_;rw[Xo]
  generalize cs.map nD=N at qd fn on qq en;generalize C.map cD=Z at qr fc;generalize C.map cF=Z2 at qq fc;simp_arith [fi,qi,ob,fX,ft,qc,nl,qj,qd,qr,fc,fn,on,qq,en]
end K2
end
namespace Fin
open PySem L2 L3 Tr
section
variable{P:bg}{w:bH}{K:PySem.W.Frag}{mg:Str->Option Value}
structure Hy (P:bg) (w:bH) (K:PySem.W.Frag) (mg:Str->Option Value) (a_THE:Addr) (a_KEPT_WORDS:Addr) (a_A:Addr):Prop where
 z:∀x∈BN,mg x=none
 D_law:DI K mg rV
 D_read_claims:DI K mg vB
 D_rows_in:DI K mg Du
 D_words_in:DI K mg AS
 D_takes_in:DI K mg AV
 D_taken_numbers:DI K mg rT
 D_number_in:DI K mg zb
 D_is_figures:DI K mg xg
 D_all_within:DI K mg w_
 D_choices_in:DI K mg xh
 D_row_in:DI K mg FW
 D_row_told:DI K mg AX
 D_told_of_ref:DI K mg vA
 D_size_told:DI K mg zc
 D_bounds_told:DI K mg vz
 D_join_told:DI K mg ze
 D_ref_told:DI K mg AW
 D_all_words:DI K mg zd
 D_is_word:DI K mg Dv
 D_is_told:DI K mg Dw
 D_kinds_told:DI K mg xj
 D_count_of_words_ahead:DI K mg lE
 D_step_told:DI K mg zf
 D_parts_told:DI K mg xm
 D_l_refusal:DI K mg zg
 D_l_due:DI K mg Ik
 D_l_items:DI K mg Dz
 D_l_head:DI K mg FY
 D_l_word:DI K mg FZ
 D_l_text:DI K mg F7
 D_l_ref_text:DI K mg xo
 D_l_size_text:DI K mg vC
 D_l_row:DI K mg Im
 D_l_ref:DI K mg Il
 D_l_some:DI K mg F8
 D_l_bounds:DI K mg AY
 D_l_mixed:DI K mg Dy
 D_l_cell:DI K mg F9
 V_MOST_CLAIMS:∃u,mg "MOST_CLAIMS"=some u/\RelV (V.int 12) u
 V_MOST_FIGURES:∃u,mg "MOST_FIGURES"=some u/\RelV (V.int 30) u
 V_MOST_ROWS:∃u,mg "MOST_ROWS"=some u/\RelV (V.int 12) u
 V_THE:mg "THE"=some (.ref a_THE)/\CT K a_THE true [.str "the",.str "said"]
 V_KEPT_WORDS:mg "KEPT_WORDS"=some (.ref a_KEPT_WORDS)/\CT K a_KEPT_WORDS true [.str "a",.str "an",.str "the",.str "said",.str "claim",.str "on",.str "or",.str "then",.str "from",.str "to",.str "of",.str "at",.str "least",.str "most",.str "just",.str "is"]
 V_MOST_LETTERS:∃u,mg "MOST_LETTERS"=some u/\RelV (V.int 8) u
 V_A:mg "A"=some (.ref a_A)/\CT K a_A true [.str "a",.str "an"]
 V_MOST_KINDS:∃u,mg "MOST_KINDS"=some u/\RelV (V.int 3) u
 V_MOST_PARTS:∃u,mg "MOST_PARTS"=some u/\RelV (V.int 5) u
 C_TooBig:My P w K mg "TooBig" 139 [("claim",1),("row",2)] 3
 C_NoClaim:My P w K mg "NoClaim" 101 [("row",1)] 2
 C_BadRow:My P w K mg "BadRow" 44 [("row",1)] 2
 I_TooMany:mg "TooMany"=some (.ref 227)/\gw K 227 g8
 I_NoFit:mg "NoFit"=some (.ref 239)/\gw K 239 g8
 I_NoChange:mg "NoChange"=some (.ref 251)/\gw K 251 g8
 I_NotOwn:mg "NotOwn"=some (.ref 263)/\gw K 263 g8
 I_Twice:mg "Twice"=some (.ref 63)/\gw K 63 g8
 I_NoPart:mg "NoPart"=some (.ref 82)/\gw K 82 g8
 I_NoKind:mg "NoKind"=some (.ref 120)/\gw K 120 g8
 I_NotUnder:mg "NotUnder"=some (.ref 158)/\gw K 158 g8
 I_NoRange:mg "NoRange"=some (.ref 177)/\gw K 177 g8
 I_NoGround:mg "NoGround"=some (.ref 196)/\gw K 196 g8
 I_TwoGrounds:mg "TwoGrounds"=some (.ref 215)/\gw K 215 g8
 I_TooBig:mg "TooBig"=some (.ref 139)/\gw K 139 g8
 I_NoClaim:mg "NoClaim"=some (.ref 101)/\gw K 101 g8
 I_BadRow:mg "BadRow"=some (.ref 44)/\gw K 44 g8
 X_0:rO K g8 Ij
 B_ClaimError:VL K mg "ClaimError" 24 g8
variable{base:Heap}{a_THE:Addr}{a_KEPT_WORDS:Addr}{a_A:Addr} (Z:Hy P w K mg a_THE a_KEPT_WORDS a_A)
include Z
theorem G7:fM P w K mg base 1 "words_in" qg:=fD (k:=0) Z.D_words_in JR Z.z gN
theorem J9:fM P w K mg base 2 "rows_in" rS:=fD (k:=1) Z.D_rows_in Mz Z.z (gF (G7 Z) gN)
theorem vE:fM P w K mg base 1 "all_within" kE:=fD (k:=0) Z.D_all_within FO Z.z gN
theorem DQ:fM P w K mg base 2 "is_figures" m6:=fD (k:=1) Z.D_is_figures FP Z.z (gF (vE Z) (gV Z.V_MOST_FIGURES rfl gN))
theorem qZ:fM P w K mg base 3 "number_in" cW:=fD (k:=2) Z.D_number_in GZ Z.z (gF (DQ Z) gN)
theorem vF:fM P w K mg base 1 "choices_in" fN:=fD (k:=0) Z.D_choices_in FQ Z.z gN
theorem z6:fM P w K mg base 4 "taken_numbers" ee:=fD (k:=3) Z.D_taken_numbers AU Z.z (gF (qZ Z) (gF (vF Z) gN))
theorem G8:fM P w K mg base 5 "takes_in" m_:=fD (k:=4) Z.D_takes_in JS Z.z (gC Z.C_NoClaim (gC Z.C_BadRow (gF (z6 Z) gN)))
theorem Cb:fM P w K mg base 4 "bounds_told" b9:=fD (k:=3) Z.D_bounds_told DL Z.z (gF (qZ Z) gN)
theorem Gq:fM P w K mg base 5 "size_told" jf:=fD (k:=4) Z.D_size_told G0 Z.z (gF (Cb Z) gN)
theorem qh:fM P w K mg base 2 "is_word" kF:=fD (k:=1) Z.D_is_word MA Z.z (gT Z.V_KEPT_WORDS ⟨a_KEPT_WORDS,_,rfl,Z.V_KEPT_WORDS.2,by decide +kernel,by repeat (first|exact rfl|refine⟨_,_,rfl,⟨rfl,by decide +kernel⟩,?_⟩|refine⟨_,_,rfl,rfl,?_⟩)⟩ (gF (vE Z) (gV Z.V_MOST_LETTERS rfl gN)))
theorem xC:fM P w K mg base 3 "all_words" jg:=fD (k:=2) Z.D_all_words G1 Z.z (gF (qh Z) gN)
theorem oH:fM P w K mg base 4 "ref_told" eB:=fD (k:=3) Z.D_ref_told JT Z.z (gF (xC Z) gN)
theorem Gr:fM P w K mg base 5 "join_told" jh:=fD (k:=4) Z.D_join_told G2 Z.z (gF (oH Z) gN)
theorem vG:fM P w K mg base 4 "kinds_told" fP:=fD (k:=3) Z.D_kinds_told FT Z.z (gF (xC Z) (gV Z.V_MOST_KINDS rfl (gF (vF Z) gN)))
theorem J_:fM P w K mg base 5 "is_told" mD:=fD (k:=4) Z.D_is_told MB Z.z (gT Z.V_A ⟨a_A,_,rfl,Z.V_A.2,by decide +kernel,by repeat (first|exact rfl|refine⟨_,_,rfl,⟨rfl,by decide +kernel⟩,?_⟩|refine⟨_,_,rfl,rfl,?_⟩)⟩ (gF (vG Z) (gF (oH Z) gN)))
theorem rE:fM P w K mg base 3 "count_of_words_ahead" dj:=fD (k:=2) Z.D_count_of_words_ahead tH Z.z (gF (qh Z) gN)
theorem Cc:fM P w K mg base 6 "told_of_ref" cA:=fD (k:=5) Z.D_told_of_ref DM Z.z (gF (Gq Z) (gT Z.V_THE ⟨a_THE,_,rfl,Z.V_THE.2,by decide +kernel,by repeat (first|exact rfl|refine⟨_,_,rfl,⟨rfl,by decide +kernel⟩,?_⟩|refine⟨_,_,rfl,rfl,?_⟩)⟩ (gF (Gr Z) (gF (oH Z) (gF (J_ Z) (gF (rE Z) gN))))))
theorem Gs:fM P w K mg base 5 "step_told" j5:=fD (k:=4) Z.D_step_told G3 Z.z (gF (oH Z) (gT Z.V_THE ⟨a_THE,_,rfl,Z.V_THE.2,by decide +kernel,by repeat (first|exact rfl|refine⟨_,_,rfl,⟨rfl,by decide +kernel⟩,?_⟩|refine⟨_,_,rfl,rfl,?_⟩)⟩ (gF (qh Z) gN)))
theorem DR:fM P w K mg base 5 "parts_told" c8:=fD (k:=4) Z.D_parts_told FU Z.z (gF (qh Z) (gF (vG Z) (gV Z.V_MOST_PARTS rfl (gF (qZ Z) gN))))
theorem G9:fM P w K mg base 7 "row_told" cT:=fD (k:=6) Z.D_row_told JU Z.z (gT Z.V_THE ⟨a_THE,_,rfl,Z.V_THE.2,by decide +kernel,by repeat (first|exact rfl|refine⟨_,_,rfl,⟨rfl,by decide +kernel⟩,?_⟩|refine⟨_,_,rfl,rfl,?_⟩)⟩ (gF (Cc Z) (gF (Gs Z) (gF (DR Z) (gT Z.V_A ⟨a_A,_,rfl,Z.V_A.2,by decide +kernel,by repeat (first|exact rfl|refine⟨_,_,rfl,⟨rfl,by decide +kernel⟩,?_⟩|refine⟨_,_,rfl,rfl,?_⟩)⟩ gN)))))
theorem MX:fM P w K mg base 8 "row_in" l7:=fD (k:=7) Z.D_row_in Qe Z.z (gV Z.V_MOST_ROWS rfl (gC Z.C_TooBig (gC Z.C_BadRow (gF (G9 Z) gN))))
theorem ud:fM P w K mg base 9 "read_claims" fq:=fD (k:=8) Z.D_read_claims DN Z.z (gF (J9 Z) (gV Z.V_MOST_CLAIMS rfl (gC Z.C_TooBig (gF (G8 Z) (gC Z.C_BadRow (gF (MX Z) gN))))))
theorem Gu:fM P w K mg base 10 "_law_refusal" lD:=fD (k:=9) Z.D_l_refusal G4 Z.z (gB Z.B_ClaimError (gF (ud Z) (gX Z.X_0 (gI Z.I_TooMany (gI Z.I_NoFit (gI Z.I_NoChange (gI Z.I_NotOwn (gI Z.I_Twice (gI Z.I_NoPart (gI Z.I_NoKind (gI Z.I_NotUnder (gI Z.I_NoRange (gI Z.I_NoGround (gI Z.I_TwoGrounds (gI Z.I_TooBig (gI Z.I_NoClaim (gI Z.I_BadRow gN)))))))))))))))))
theorem QR:fM P w K mg base 1 "_law_due" mF:=fD (k:=0) Z.D_l_due Te Z.z gN
theorem MY:fM P w K mg base 1 "_law_head" kG:=fD (k:=0) Z.D_l_head Qf Z.z gN
theorem r9:fM P w K mg base 1 "_law_word" gU:=fD (k:=0) Z.D_l_word Qg Z.z gN
theorem DS:fM P w K mg base 1 "_law_ref_text" fj:=fD (k:=0) Z.D_l_ref_text F6 Z.z gN
theorem Cd:fM P w K mg base 1 "_law_size_text" fu:=fD (k:=0) Z.D_l_size_text DO Z.z gN
theorem MZ:fM P w K mg base 2 "_law_text" dQ:=fD (k:=1) Z.D_l_text Qh Z.z (gF (DS Z) (gF (Cd Z) gN))
theorem QS:fM P w K mg base 2 "_law_ref" n_:=fD (k:=1) Z.D_l_ref Tf Z.z (gF (r9 Z) gN)
theorem M0:fM P w K mg base 2 "_law_some" uZ:=fD (k:=1) Z.D_l_some Qi Z.z (gF (r9 Z) gN)
theorem G_:fM P w K mg base 1 "_law_bounds" ng:=fD (k:=0) Z.D_l_bounds JV Z.z gN
theorem A3:fM P w K mg base 1 "_law_mixed" oU:=fD (k:=0) Z.D_l_mixed MC Z.z gN
theorem QT:fM P w K mg base 3 "_law_row" mG:=fD (k:=2) Z.D_l_row Tg Z.z (gF (QS Z) (gF (r9 Z) (gF (M0 Z) (gF (G_ Z) (gF (A3 Z) gN)))))
theorem M1:fM P w K mg base 1 "_law_cell" u6:=fD (k:=0) Z.D_l_cell Qj Z.z gN
theorem Ka:fM P w K mg base 4 "_law_items" oV:=fD (k:=3) Z.D_l_items MD Z.z (gF (MY Z) (gF (r9 Z) (gF (MZ Z) (gF (QT Z) (gF (A3 Z) (gF (M1 Z) gN))))))
theorem Wa{f:Addr}{fd:eW}(F:pJ K "law" "law" rV.s f fd):eV P w K mg base (jH P w) 11 f fd rV.ps (E6 K JQ):=fF (d:=rV) F W6 Z.z (gF (ud Z) (gF (Gu Z) (gF (QR Z) (gF (Ka Z) gN))))
end
theorem walk{l:PySem.W.OpenLaw}{q:bg}{loose:List Str}{XP:(Str->Option Value)->Heap->Prop}{YP:bH->Heap->Prop}{d:M6}{K:GA->PySem.W.Frag}(hn:l.most=some 63)(hdf:d.params.defaults=[])(hdn:d.name="law")
  (hY:∀(w:bH) (h:Heap),YP w h->(K w.params).In h) (nk:∀p:GA,((K p).all fun x=>!Oq x.2.cls)=true)
  (F:∀(w:bH) (mg:Str->Option Value) (h:Heap),(K w.params).In h->h.Ns cN mg->∃a_THE,∃a_KEPT_WORDS,∃a_A,Hy l.prog w (K w.params) mg a_THE a_KEPT_WORDS a_A) (bd:∀(kV doc pm:Value) (an:Option Addr) (cdv ct:Value) (u:Value),rm (PySem.W.fnOf "law" "law" (kQ rV.s) (fE rV.s) (bT rV.s) .none kV doc pm an cdv ct) ⟨[u],[]⟩=pure [(("_law_script":Str),u)]) :
  PySem.W.WalkO q loose XP YP l.row.toRowW d [] (fun f vs=>PySem.call f vs):=
 L2.R9 (n:=63) (k:=11) (x:="_law_script") (CX:=fun _=>yK) (sp:=fun w=>(fun vs H Q E=>∃(a:Addr) (ns:List Int),vs=[.ref a]/\Rd H a (.lst (ns.map V.int))/\ns.length<=63/\∀H',Q (.bl true) H')) hn (by decide) hdf ⟨rfl,by decide,by decide⟩ hY (fun w mg fa h X G hfa=>by
  obtain⟨_,_,_,Z⟩:=F w mg h X G;rw[hdn]at hfa;obtain⟨f,fd,Za,hm,hb⟩:=Z.D_law;have e:=hfa.symm.trans hm;cases e;obtain⟨_,_,kV,doc,pm,an,cdv,ct,_,rfl,_⟩:=Za.ex;exact⟨_,fun s v=>.of_eq (bd _ _ _ _ _ _ v),fun base _ _=>Vz (Wa Z Za) K2.fin⟩) (fun w _ a ns hl _ hS=>⟨a,ns,rfl,W5 (nk w.params) hS,hl,fun _=>rfl⟩) fun _ _ _ _ _ z=>z
end Fin
namespace PySem.W.Fast
def tw4819286257447078332 :=0
def tw819943023470893249 :=0
def tw16127374509791769759 :=0
def tw7194708008873485997 :=0
def tw7666858855217342688 :=0
def tw15864386224410865724 :=0
def tw14153656619903852532 :=0
def tw5061862682418319716 :=0
def tw1295084438793287002 :=0
def tw8219697030854823758 :=0
def tw2815895723333983319 :=0
def tw1316449235599441403 :=0
def tw11242513903574874869 :=0
def tw11990349157617229072 :=0
def tw13768437451523128722 :=0
def tw16980434622316968728 :=0
def tw600927634144137702 :=0
def tw3038222902722911642 :=0
def tw855659169818057086 :=0
def tw6693701502763832947 :=0
def tw1806646296229311022 :=0
def tw8158917943224925019 :=0
def tw1373498739892378008 :=0
def tw12205634624517725823 :=0
def tw4844920263509290430 :=0
def tw4667636183734888469 :=0
def tw11701900637344017904 :=0
def tw4317902566417008266 :=0
def tw888154563371069788 :=0
def tw16720463712210141159 :=0
def tw1085220943369328418 :=0
def tw13034479608180768220 :=0
def tw5744019390636918078 :=0
def tw12239613424694014303 :=0
def tw15458740471512241686 :=0
def tw3548740909814213114 :=0
def tw2172504107160784159 :=0
def tw12622495950117517630 :=0
def tw14910718452684678576 :=0
def tw9997562786198408339 :=0
def tw15484990428640472489 :=0
def tw9186021667064771495 :=0
def tw8006345922324373277 :=0
def tw13040633931288228278 :=0
def tw9541291751184803650 :=0
def tw17474768373128077079 :=0
def tw6741220906336301557 :=0
def tw10430104970017226994 :=0
def tw9231000572037231549 :=0
def tw4019033866088701550 :=0
def tw10480425267099850789 :=0
def tw10452371806484584494 :=0
def tw17362579089577971827 :=0
def tw1219610399716937580 :=0
def tw13038231966414439756 :=0
def tw2212143018096392931 :=0
def tw5023370940748064509 :=0
def tw9241339548756033690 :=0
def tw3084141124220312603 :=0
def tw17385583040481268445 :=0
def tw16670309793765332788 :=0
def tw15910529778002326260 :=0
def tw14591952879581805759 :=0
def tw11727029851638161908 :=0
def tw18154039417979989827 :=0
def tw2535296374100330067 :=0
def tw13797390666677364569 :=0
def tw3192736082752650114 :=0
def tw9382210098486593404 :=0
def tw11016984362745652386 :=0
def tw14088260433818917016 :=0
def tw1341233253878256482 :=0
def tw15468540574523613567 :=0
def tw9651979869811932486 :=0
def tw5413123870115593118 :=0
def tw14886077705035253001 :=0
def tw14135156939383465264 :=0
def tw4203370900176227231 :=0
def tw9879734925499674924 :=0
def tw6866432562819620099 :=0
def tw11286237705160808937 :=0
def tw12786501531782964991 :=0
def tw7058232762228344268 :=0
def tw2563372086421566914 :=0
def tw5224159033219071807 :=0
def tw11419518400416402258 :=0
def tw7942790098891208762 :=0
def tw5569806332096167180 :=0
def tw12534967441479636053 :=0
def tw6902128923008634445 :=0
def tw3494456075634911274 :=0
def tw11315502881901539331 :=0
def tw4841474904339266129 :=0
def tw18209648190407702206 :=0
def tw6210617878207482354 :=0
def tw858608364909223517 :=0
def tw11541870258366807486 :=0
def tw13797737279113900461 :=0
def tw9154323374060796394 :=0
def tw9413903986688659724 :=0
def tw15824143563440574477 :=0
def tw11250985084960851330 :=0
def tw4027939448075358471 :=0
def tw3300646774999376871 :=0
def tw3978918959371344227 :=0
def tw5355408371626291034 :=0
def tw2282822683858967282 :=0
def tw3076589373315860432 :=0
def tw13600971449866033975 :=0
def tw5258918591681037746 :=0
def tw5703553684042851933 :=0
def tw17282977184917553724 :=0
def tw17386169087767444682 :=0
def tw11132184935815774718 :=0
def tw10523438746368633501 :=0
def tw10985216312927427612 :=0
def tw15688957817705106828 :=0
def tw2834652552047799187 :=0
def tw1819394932176501583 :=0
def tw8558593309512263813 :=0
def tw2277593820439890439 :=0
def tw252268860252632438 :=0
def tw14647750265304483684 :=0
def tw5719861831708938066 :=0
def tw1014472572062156443 :=0
def tw8300688527590565312 :=0
def tw13130156425295186026 :=0
def tw11983670775658549802 :=0
def tw5025720438575881194 :=0
def tw8293894579718203687 :=0
def tw7886580092003114451 :=0
def tw4108095982432181303 :=0
def tw1531523943111505102 :=0
def tw11423551816258109305 :=0
def tw11563752364824833551 :=0
def tw8922488819713159520 :=0
def tw11435748614755969622 :=0
def tw9908749103419946720 :=0
def tw16466531509118010637 :=0
def tw13464163772706230486 :=0
def tw14124564597931212854 :=0
def tw10065205039111517771 :=0
def tw10906361430163900031 :=0
def tw9130052342594676857 :=0
def tw6551790554455271318 :=0
def tw7202227622894038245 :=0
def tw9068659768528870557 :=0
def tw16438287381431503877 :=0
def tw1046330241287679652 :=0
def tw8623002515544735284 :=0
def tw9865666589412388133 :=0
def tw12946436988313927033 :=0
def tw5295808172451439771 :=0
def tw13313422687123448958 :=0
def tw2298852779754405172 :=0
def tw4972248801651470460 :=0
def tw14555965153103179829 :=0
def tw17190483412468536632 :=0
def tw5698277333545205157 :=0
def tw11128091713226285407 :=0
def tw3413000782418134993 :=0
def tw11478924268119133293 :=0
def tw15189158318608461616 :=0
def tw8745161480786606341 :=0
def tw10823068268158026001 :=0
def tw2499285579361103108 :=0
def tw18180286930746956929 :=0
def tw13185667991181733565 :=0
def tw4610828268659046613 :=0
def tw12777707382729731268 :=0
def tw5334025093360308717 :=0
def tw17596276545561116513 :=0
def tw5269515911202364716 :=0
def tw17429038095756235362 :=0
def tw17257594595796992083 :=0
def tw8897689674218017687 :=0
def tw2968314595259201058 :=0
def tw12492323485381047511 :=0
def tw6798297978027905394 :=0
def tw11318890743901986117 :=0
def tw15051981748485328211 :=0
def tw17776780333085360757 :=0
def tw13028693258437226903 :=0
def tw4333182487212045519 :=0
def tw2674372783544826637 :=0
def tw913678026912694424 :=0
def tw129837738593699450 :=0
def tw17033453963354830118 :=0
def tw9149934748921115822 :=0
def tw7881152429052415835 :=0
def tw9047172217892380062 :=0
def tw3981507447779888670 :=0
def tw6967219667684766428 :=0
def tw13793653740723683126 :=0
def tw637033008166758700 :=0
def tw17920841852727058390 :=0
def tw10106453728179456522 :=0
def tw11212928554358260552 :=0
def tw13229843058141406155 :=0
def tw16095563058519176963 :=0
def tw8979959307634420033 :=0
def tw15844289748930732670 :=0
def tw9553574056947776212 :=0
def tw13624222940500691057 :=0
def tw17143158187323480184 :=0
def tw11004453453331817525 :=0
def tw9180253897920337393 :=0
def tw3518789360492231404 :=0
def tw12040765242618295869 :=0
def tw10116400323841852892 :=0
def tw787291094837979507 :=0
def tw3092176718206990563 :=0
def tw17859209145791676808 :=0
def tw12939083599453532937 :=0
def tw6562349300668965826 :=0
def tw9829271500515432682 :=0
def tw3732589530420334567 :=0
def tw2774663082511746773 :=0
def tw17577928559116266114 :=0
def tw14410371655840005188 :=0
def tw5835576104460028954 :=0
def tw17898757908220510770 :=0
def tw2145202431802849478 :=0
def tw3776849154936998848 :=0
def tw15285389738055837577 :=0
def tw12281032401952938635 :=0
end PySem.W.Fast
open PySem PySem.W PyProof.Rows
set_option maxRecDepth 100000 in
set_option maxHeartbeats 0 in
open L3 Tr in
theorem PySem.Challenge.cw_claimwise_k10_first_row_at_fault_holds : PySem.Challenge.rw_claimwise_k10_first_row_at_fault.Holds := by
 w_on;o_law;k_head;(case hw=>w_witness2)
 k_fill
 refine Fin.walk (l:=PySem.Challenge.rw_claimwise_k10_first_row_at_fault) rfl rfl rfl (fun w h Y_=>PySem.W.kIn_of Y_) ?nk ?F ?b
 case nk=>intro p;first|rfl|decide +kernel|k_is|simp[L3.Oq]
 case b=>intros;rfl
 case F=>
  intro w mg h KX G;have HX:=hXI (Cs:=g8) (as:=Ij) KX;have HB:=bI (B:=24) KX;exact⟨_,_,_,⟨zI KX G,
   dI KX G,
   dI KX G,
   dI KX G,
   dI KX G,
   dI KX G,
   dI KX G,
   dI KX G,
   dI KX G,
   dI KX G,
   dI KX G,
   dI KX G,
   dI KX G,
   dI KX G,
   dI KX G,
   dI KX G,
   dI KX G,
   dI KX G,
   dI KX G,
   dI KX G,
   dI KX G,
   dI KX G,
   dI KX G,
   dI KX G,
   dI KX G,
   dI KX G,
   dI KX G,
   dI KX G,
   dI KX G,
   dI KX G,
   dI KX G,
   dI KX G,
   dI KX G,
   dI KX G,
   dI KX G,
   dI KX G,
   dI KX G,
   dI KX G,
   dI KX G,
   ⟨_,iI KX G,_,rfl⟩,
   ⟨_,iI KX G,_,rfl⟩,
   ⟨_,iI KX G,_,rfl⟩,
   ⟨iI KX G,_,_,_,by k_is,rfl,rfl,rfl,by simp[dM],by repeat (first|exact Paired.nil|refine Paired.cons ⟨_,rfl⟩ ?_)⟩,
   ⟨iI KX G,_,_,_,by k_is,rfl,rfl,rfl,by simp[dM],by repeat (first|exact Paired.nil|refine Paired.cons ⟨_,rfl⟩ ?_)⟩,
   ⟨_,iI KX G,_,rfl⟩,
   ⟨iI KX G,_,_,_,by k_is,rfl,rfl,rfl,by simp[dM],by repeat (first|exact Paired.nil|refine Paired.cons ⟨_,rfl⟩ ?_)⟩,
   ⟨_,iI KX G,_,rfl⟩,
   ⟨_,iI KX G,_,rfl⟩,
   cI KX G (HX 139 (by decide)) HB Qn,
   cI KX G (HX 101 (by decide)) HB MF,
   cI KX G (HX 44 (by decide)) HB Ql,
   ⟨iI KX G,iW HX (by kernel_rfl) (by kernel_rfl)⟩,
   ⟨iI KX G,iW HX (by kernel_rfl) (by kernel_rfl)⟩,
   ⟨iI KX G,iW HX (by kernel_rfl) (by kernel_rfl)⟩,
   ⟨iI KX G,iW HX (by kernel_rfl) (by kernel_rfl)⟩,
   ⟨iI KX G,iW HX (by kernel_rfl) (by kernel_rfl)⟩,
   ⟨iI KX G,iW HX (by kernel_rfl) (by kernel_rfl)⟩,
   ⟨iI KX G,iW HX (by kernel_rfl) (by kernel_rfl)⟩,
   ⟨iI KX G,iW HX (by kernel_rfl) (by kernel_rfl)⟩,
   ⟨iI KX G,iW HX (by kernel_rfl) (by kernel_rfl)⟩,
   ⟨iI KX G,iW HX (by kernel_rfl) (by kernel_rfl)⟩,
   ⟨iI KX G,iW HX (by kernel_rfl) (by kernel_rfl)⟩,
   ⟨iI KX G,iW HX (by kernel_rfl) (by kernel_rfl)⟩,
   ⟨iI KX G,iW HX (by kernel_rfl) (by kernel_rfl)⟩,
   ⟨iI KX G,iW HX (by kernel_rfl) (by kernel_rfl)⟩,
   VH HX (by kernel_rfl) (by kernel_rfl),
   eI KX G⟩⟩
