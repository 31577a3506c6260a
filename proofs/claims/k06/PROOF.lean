import PyProof.Rows.All
import Wide.All
import OpenK.AllK
import Wide.FinOn
import Lean
import PyProof.EqAt
import PyProof.EqKinds
import PyProof.TupleCall
import PyProof.StationsW
import PyProof.ExcInit
import PyProof.ExcClass2
import PyProof.ExcBaseAll.ValueError
import PyProof.ExcAttrAll.ValueError
import KE.KIsAll
import PyProof.RulesAs
import PyProof.RulesDel
import KE.KDictOf
import PyProof.TupleIter
import PyProof.CollectWalk
import PyProof.AttrMissHeap
import KE.KSortTup
import KE.KDictSum
import PyProof.DictIter
import PyProof.NeKinds
import KE.KDictList
import KE.KRevIter
import PyProof.EnumMake
import PyProof.ListRange
import PyProof.TupleOfGen
import PyProof.ConsumeS
import KE.KMinBuiltin
import PyProof.Rows.CallKwBuiltin
import PyProof.DictWalks
import KE.IntTextText
import KE.KWords
import PySem.Challenge.RW_claimwise_k06_things_refused
set_option Elab.async false
set_option linter.all false
set_option maxRecDepth 100000
set_option maxHeartbeats 4000000
set_option bootstrap.genMatcherCode false
set_option compiler.extract_closed false
set_option genSizeOf false
set_option genInjectivity false
open PySem renaming sizeLine->aa,Shared->aj,wpAny_bind->aq,model->aH,wpAny->aJ,wpAny_pure->a9,Program->bJ,World->bS,mainGlobals->cX,starEach->cY,Around->dh,wpAny_mono->dJ,cLine->dM,cellsFrom->dZ,wpAny_truthy_bool->eV,wpAny_Call_Name_kw->fy,FuncData->fM,Scope->fP,sizeLine_eq->fX,compareOp->gf,wpAny_loadPart_at->gA,binaryOp->gR,sysModules->g8,sliceBounds->g_,tupleKind_room_in1->ig,assignEach->iL,call_meets->iM,excClassObj->iT,NameKind->jf,wpAny_holding->jr,typeIs_str->jA,foldedSetIterable->jL,rawInt->jX,codeAny->kM,wpAny_execs_nil->kU,wpAny_passesOwn->kW,bootBuiltins->lH,codeAny_mono->lI,relabel->l8,backTo->mF,wpAny_standAt->mQ,behindInMarks->mR,tupleKind->nv,swapsWith->ny,letOwnedTupleGo->nZ,CmpOp->n9,wpAny_call->n_,unbindBehindTheSuite->oi,wpAny_isSubtype_exc->oA,holding->o6,callerA->o7,assign->qp,attributeBase->qB,valueAt->rM,isTrue->sR,wpAny_execs_cons->sS,Operator->sU,bindArgs->sV,call_meetsIn->sW,wpAny_comprehension_free->sZ,bindL->uh,bindC->um,atKey->uu,pushCells_keeps->uw,subscripted->uR,wpAny_field->uT,standAt->vq,pyIter->vt,getAttr->vz,wpAny_setField->vB,wpAny_loadPart->vD,getitemInPython_of_ne->vE,meets_str_split_space->vG,newFunctionEnv->vH,codeAny_call_builtin->wM,wpAny_letTemporaryGo->wN,swapsWithSole->xh,swappedStores->xj,wpAny_Tuple_spliced->xm,PassesOwn->yz,seqIndex_neg->yE,preSum->yL,spliced->ze,getItem->zf,wpAny_assign_Name->zh,slot_list_getitem->zk,wpAny_newObj_type->zm,wpAny_pyIter_list->zo,wpAny_pyIter_enum->zp,seqIndex_of->zY,noFill_tuple_add->AK,wpAny_lookBehind->AN,pastItsLine_dict->AO,builtinsNs->BR,wpAny_Name->BS,truthy->BU,nsFind->BV,typeIs_int->BW,isInstance->BY,sliceRange->BZ,wpAny_specialOf->B0,wpAny_operating->B3,wpAny_Expr_any->CU,recursionLimit->CV,BindsTo->CW,fitsIndex_both->CY,letTemporaryGo->CZ,numbered_texts->C0,Keyword->C1,intText_digits->C4,noteFrame->Et,strValues->Eu,lastMarks->Ew,intBits_le_64->EI,seq_tuple_add->EJ,evalPart_none->EK,call_list_seq->EL,wpAny_attempt->EN,Result->GY,concat_meets->GZ,Params->G1,ExcBaseFacts->G3,wpAny_mkText->G4,instanceDict->G5,wpAny_nsSet1->G6,interactive->HG,IsRangeIter->HH,wpAny_alloc->HM,strsFrom_eq->HN,intText_neg->HR,setItem->Jb,leaving->Jc,OwnTail->Jd,Model->KL,execs->KN,typeLookup->KP,refuseLoop->KZ,excMatches->K0,closureFor->K4,pyNext->NW,IsPart->NX,stored->NZ,DefRec->N2,cellOf->N7
open List renaming length_map->ah,mem_cons_of_mem->ai,mem_cons_self->ao,mem_append_right->ay,getElem?_eq_getElem->aA,not_mem_nil->aB,mem_cons->aC,length_append->aE,replicate->aF,mem_singleton->aG,mem_append_left->aL,size_toArray->aS,mem_append->aT,map_cons->aV,length_cons->aW,getElem?_map->aX,map_append->a7,nodup_append->bx,all_eq_true->bE,getElem?_eq_some_iff->bN,append_assoc->bQ,replicate_succ->bV,nodup_cons->bX,append_nil->bY,mem_map->b_,length_singleton->cg,take_of_length_le->cy,getElem?_set_ne->cE,lookup_cons->cF,range->cW,getElem?_append_right->cZ,flatten_cons->c8,map_map->c9,length_nil->dm,nil_append->dw,length_take->dH,filter_cons_of_pos->dQ,mem_replicate->dW,length_drop->dX,getElem?_set->d7,getElem?_append_left->eZ,mem_of_getElem?->fH,find?_cons->fQ,any_cons->f6,getD_eq_getElem?_getD->f7,getElem_mem->gb,length_replicate->gh,any_eq_false->gz,eq_nil_of_length_eq_zero->gM,filter_cons_of_neg->gP,filterMap_cons->gQ,any_eq_true->gS,nodup_nil->gU,getElem?_set_self->g9,all_map->ir,lookup->jH,map_nil->jY,drop_zero->j0,getElem?_of_mem->kG,all_cons->kJ,contains_cons->lM,filter_append->lN,mem_range->lZ,getElem?_cons_succ->l_,drop_of_length_le->mG,intercalate->m5,cons_append->m6,eq_nil_or_concat->nC,concat_eq_append->nD,any_map->oq,mem_map_of_mem->oE,drop_succ_cons->oF,sum_cons->qH,length_range->qN,flatMap_cons->qR,extract_eq_take_drop->rA,drop_eq_getElem_cons->rB,mapIdx_eq_zipIdx_map->rC,take_length->sY,map->s9,zipIdx_cons->tB,getElem?_replicate->tD,mem_filter->ug,of_mem_zip->uo,foldl_cons->uq,take_succ->vF,getElem?_eq_none->vI,getElem?_zipIdx->wU,getElem_of_mem->xq,getElem?_range->xr,mem_filterMap->yy,take_sublist->zj,foldl_append->zx,isEmpty_iff->AS,foldl->BX,range_succ->B5,isPrefixOf->B7,map_take->ER,length->HL,range'->HQ
open Bool renaming false_ne_true->ak,and_eq_true->bq,eq_iff_iff->dz,and_true->gK,and_eq_true_iff->iN,or_true->sX,false_and->vv,and_false->vC,not_eq_true'->zv,false_or->EM,true_or->G0
open False renaming elim->au
open PySem.Str renaming ofString->aK,join->fB,length->fZ,length_append->qQ,empty->Es
open PySem.Heap renaming get?_push_of_some->aM,lt_size->be,get?_push_size->bU,get?_update_other->eO,size_push->iZ,get?_update_self->nA,SameBut->nY
open Nat renaming le_refl->aP,lt_of_lt_of_le->bO,ne_of_lt->b8,lt_irrefl->d8,le_trans->d9,zero_le->gu,le_of_lt->je,lt_trans->jZ,min_eq_left->kX,lt_succ_self->mZ,lt_succ_of_lt->qO,mod_eq_of_lt->s_,sub_self->tu,le_succ->uU,ne_of_gt->yx,succ_mul->yG,add_comm->yH,le_of_eq->yJ,toDigits->yO,min_eq_right->AQ,mul_comm->G7,mul_succ->G_,repr->Hf
open PySem.Value renaming ref->a6,none->eL,int->nu,builtin->qF,str->uf,bool->wL,float->zX,isStrOf->EH,isInt->HE,bytes->HF
open PySem.NameKind renaming free->cC,cell->cK
open PySem.Expr.Name renaming elim->cG
open Ne renaming symm->cT
open Option.some renaming inj->cV
open True renaming intro->dc
open Int renaming emod_lt_of_pos->di,emod_nonneg->ed,toNat_natCast->iJ,emod_eq_of_lt->zy,negSucc->z4
open PySem.Builtin.Str renaming strSliceIndices->dO,spaceWords->jI,tooLong->K6,strSub->N6
open PySem.Txt renaming words->eW,split->iV,mul->Je
open PySem.Calls renaming spliced_cons->fq,spliced_nil->jM,Name_function_global->qA,callWith_builtin->uV,docDef->N3
open PySem.Expr.Call renaming elim->fJ
open PyProof.Rows renaming callWith_builtin1->gy,envOfC->jz,AllBare->jW,callWith_type1->j9,subscriptTail->qC,boot_isinstance->uy,subscriptTail_builtinR->uS,IntsAre->vA,slot_tuple_getitem->yF,slot_str_getitem->AL,text_ofNat->Hh,join_list->HP,isTrue_and->KO,Subscript_->KQ
open PySem.Builtin.ObjectAttr renaming storeInOwnDict->iU,ownDictForStores->l0,storeInDict->oh
open ForInStep renaming yield->jB
open PySem.Obj renaming mapSeq->kF,mapFields->qD
open List.cons renaming inj->kK
open PySem.Expr.Subscript renaming elim->kP
open PySem.Builtin.List renaming listTooLong->lK,listFitsIndex->qG
open Array renaming getElem?_toList->nB,toArray_toList->oj,length_toList->oz,toList_append->oB,getElem?_eq_some_iff->qE,toList_extract->wQ,toList->GX,ext'->K1
open Option renaming isSome_map->qM,isSome_some->yI,getD_none->AM
open Sum renaming inl->rK,inr->rL
open PySem.PassesOwn renaming never->ux
open PySem.Expr.Tuple renaming elim->uz
open PySem.Unicode renaming isSpace->uA
open Sum.inr renaming inj->uQ
open Char renaming toNat->wR,ofNat->B6
open PySem.KWd renaming step->wV
open PySem.EntryCells renaming newEntry->xo
open PySem.Expr.Attribute renaming elim->xu
open PySem.Around renaming under->yC
open PySem.Code renaming isFrame->yD,quiet_builtin->yK,frames->HK
open PySem.AutoListH renaming list_insert_list_int_val_1->yM,list___mul___list_int_3->zZ
open PySem.Expr.ListComp renaming elim->yN
open Iff renaming rfl->zg
open List.Pairwise renaming nil->zl
open PySem.Expr.UnaryOp renaming elim->zq
open PySem.Expr.Compare renaming elim->zu
open List.Sublist renaming refl->zw,append->K7
open PySem.Expr.BoolOp renaming elim->AU
open PySem.Stmt.Assign renaming elim->AV
open PySem.Expr.Dict renaming elim->C2
open PySem.Stmt.Expr renaming elim->C3
open PySem.Stmt.For renaming elim->EO
open PySem.W renaming fd_plain->G2,pre_splitW->KR,enter_call->KY
open Eq renaming trans->G8
open PySem.Stmt.If renaming elim->G9
open PySem.Builtin.Range renaming rangeSize->Hg
open PyProof renaming noPylong_small->HJ
open PySem.StrLaws renaming occ_length_le->Jf,lt_cons_cons->K5,join_split->N4,split_free->N5,lt_nil_nil->Oa,subAt_eq->RQ
open PySem.W.WShape renaming has->KS
open PySem.W.Dflts renaming none->KU,noKw->KW
open PySem.SeqAt.EqAt renaming int_str->NU,str_int->NV
open PySem.Heap.IsSliceOf renaming new->NY
open PySem.W.WData renaming int->N1
open PySem.Expr.Constant renaming elim->N8
open PySem.ScopeKind renaming function->N9
open PySem.Stmt.Continue renaming elim->N_
open PySem.Heap.Ns1 renaming of_empty->Ob
open PySem.DictEntry renaming refKey->RP
open PySem.Stmt.Return renaming elim->RS
open PySem.Heap.DictOf renaming new->Sy
open PySem.Expr.BinOp renaming elim->Sz
open PySem.Expr.IfExp renaming elim->SA
open PySem.Expr.Slice renaming elim->SD
open PySem.Stmt.Break renaming elim->SE
open PySem.Stmt.Raise renaming elim->SG
open PySem.Expr.List renaming elim->UU
open PySem.Value.ref renaming inj->UW
open PySem.Stmt.Try renaming elim->UX
open Sum.inl renaming inj->W0
open PySem.IsRange renaming new->W1
open PySem.W.OpenLaw renaming pre->W2
open PySem.Heap.Ns renaming new->W3
section
namespace L2
open PySem PySem.Spec PyProof.Rows
noncomputable abbrev Key:=Sum Int Str
noncomputable def yP:Key->Value->Bool
|.inl k,v=>HE k v
|.inr x,v=>EH x v
noncomputable def Yq(w:bS):Key->Int
|.inl k=>hashInt k
|.inr x=>hashStr w x
theorem fS:∀{k:Key}{v:Value},yP k v=true->(∃i t,k=rK i/\v=nu i t)\/(∃x t,k=rL x/\v=uf x t)
|.inl i,v,h=>by
 obtain⟨t,e⟩:=Value.isInt_shape (k:=i) (v:=v) h;exact .inl ⟨i,t,rfl,e⟩
|.inr x,v,h=>by
 obtain⟨t,e⟩:=Value.isStrOf_shape (x:=x) (v:=v) h;exact .inr ⟨x,t,rfl,e⟩
theorem K8(i:Int)(t:Tok):yP (.inl i) (.int i t)=true:=by simp[yP,HE]
theorem K9(x:Str)(t:Tok):yP (.inr x) (.str x t)=true:=by simp[yP,EH]
theorem UY(a b:Int):decide ((rK a:Key)=rK b)=(a==b):=by
 by_cases e:a=b
 ·subst e;simp
 ·have h:¬(rK a:Key)=rK b:=fun q=>e (W0 q);rw[decide_eq_false h];exact(beq_eq_false_iff_ne.mpr e).symm
theorem UZ(a b:Str):decide ((rL a:Key)=rL b)=decide (a=b):=by
 by_cases e:a=b
 ·subst e;simp
 ·have h:¬(rL a:Key)=rL b:=fun q=>e (uQ q);rw[decide_eq_false h,decide_eq_false e]
theorem U0(a:Int)(b:Str):decide ((rK a:Key)=rL b)=false:=decide_eq_false (fun q=>nomatch q)
theorem U1(a:Str)(b:Int):decide ((rL a:Key)=rK b)=false:=decide_eq_false (fun q=>nomatch q)
noncomputable def c_(prog:bJ)(w:bS):PySem.KeyKind prog w Key where
 is:=yP
 hash:=Yq w
 inj:=fun v a b ha hb=>by
  rcases fS ha with⟨i,t,rfl,rfl⟩|⟨x,t,rfl,rfl⟩
  ·rcases fS hb with⟨j,u,rfl,e⟩|⟨y,u,rfl,e⟩
   ·injection e with e1 _;rw[e1]
   ·exact nomatch e
  ·rcases fS hb with⟨j,u,rfl,e⟩|⟨y,u,rfl,e⟩
   ·exact nomatch e
   ·injection e with e1 _;rw[e1]
 byValue:=fun k v h=>by
  rcases fS h with⟨i,t,rfl,rfl⟩|⟨x,t,rfl,rfl⟩<;>rfl
 pyHash:=fun hv h=>by
  rcases fS hv with⟨i,t,rfl,rfl⟩|⟨x,t,rfl,rfl⟩
  ·exact wpAny_pyHash_int h
  ·exact wpAny_pyHash_str h
 eqBool:=fun hu hv h=>by
  rcases fS hu with⟨i,t,rfl,rfl⟩|⟨x,t,rfl,rfl⟩
  ·rcases fS hv with⟨j,u,rfl,rfl⟩|⟨y,u,rfl,rfl⟩
   ·rw[UY]at h;exact wpAny_eqBool_int h
   ·rw[U0]at h;exact NU i t y u _ _ _ _ h
  ·rcases fS hv with⟨j,u,rfl,rfl⟩|⟨y,u,rfl,rfl⟩
   ·rw[U1]at h;exact NV x t j u _ _ _ _ h
   ·rw[UZ]at h;exact wpAny_eqBool_str h
 «strs»:=fun k x t v h=>by
  rcases fS h with⟨i,u,rfl,e⟩|⟨y,u,rfl,e⟩
  ·exact nomatch e
  ·injection e with e1 _;subst e1;cases v<;>rfl
theorem zz(prog:bJ)(w:bS)(i:Int)(t:Tok):(c_ prog w).is (.inl i) (.int i t)=true:=K8 i t
theorem zA(prog:bJ)(w:bS)(x:Str)(t:Tok):(c_ prog w).is (.inr x) (.str x t)=true:=K9 x t
end L2
namespace L2
open PySem PySem.Spec PyProof.Rows
inductive V where
 |non|bl (b:Bool)|int (i:Int)|str (x:Str)|byt (b:Array UInt8)|flt (b:UInt64)|ref (a:Addr)|ty (n:String)
 deriving DecidableEq
def RelV:V->Value->Prop
|.non,u=>u=eL
|.bl b,u=>u=wL b
|.int i,u=>∃t,u=nu i t
|.str x,u=>∃t,u=uf x t
|.byt b,u=>∃t,u=HF b t
|.flt b,u=>∃t,u=zX b t
|.ref a,u=>u=a6 a
|.ty n,u=>u=Value.type n
abbrev bK:List V->List Value->Prop:=Paired RelV
theorem bK.length{xs:List V}{us:List Value}(r:bK xs us):xs.length=us.length:=Paired.length r
theorem bK.get:∀{xs:List V}{us:List Value}{i:Nat}{x:V},bK xs us->xs[i]?=some x->∃u,us[i]?=some u/\RelV x u
|_,_,_,_,.nil,e=>by simp at e
|_,_,0,_,.cons r _,e=>by simp at e;subst e;exact⟨_,rfl,r⟩
|_,_,i+1,x,.cons _ t,e=>by
 obtain⟨u,h1,h2⟩:=bK.get (i:=i) (x:=x) t (by simpa using e);exact⟨u,by simpa using h1,h2⟩
theorem bK.set{x:V}{u:Value}(r:RelV x u):∀{xs:List V}{us:List Value} (i:Nat),bK xs us->bK (xs.set i x) (us.set i u)
|_,_,_,.nil=>.nil
|_,_,0,.cons _ t=>.cons r t
|_,_,i+1,.cons q t=>.cons q (bK.set r i t)
theorem bK.append:∀{xs ys:List V}{us ws:List Value},bK xs us->bK ys ws->bK (xs++ys) (us++ws)
|_,_,_,_,.nil,s=>s
|_,_,_,_,.cons r t,s=>.cons r (bK.append t s)
theorem bK.take:∀{xs:List V}{us:List Value} (n:Nat),bK xs us->bK (xs.take n) (us.take n)
|_,_,0,_=>.nil
|_,_,_+1,.nil=>.nil
|_,_,n+1,.cons r t=>.cons r (bK.take n t)
theorem bK.drop:∀{xs:List V}{us:List Value} (n:Nat),bK xs us->bK (xs.drop n) (us.drop n)
|_,_,0,r=>r
|_,_,_+1,.nil=>.nil
|_,_,n+1,.cons _ t=>bK.drop n t
def j_:Option V->Option Value->Prop
|some v,some u=>RelV v u
|none,none=>True
|_,_=>False
def KV{κ:Type}:List (κ×V)->List (κ×Value)->Prop:=Paired fun(p:κ×V) (q:κ×Value)=>p.1=q.1/\RelV p.2 q.2
noncomputable def kV:Key->V
|.inl i=>.int i
|.inr x=>.str x
inductive HO where
|lst (xs:List V)
|tup (xs:List V)
|dK (kvs:List (Key×V))|dT (kvs:List (List Key×V))
|set (S:Int->Bool) (n:Nat)
|ins (C dx:Addr) (fs:List (Str×V))
|own (x:Addr)
|xd (fs:List (Str×V))
|met (f x:Addr)
|rng (lo hi:Int)
|bC (o:Obj) (u:HO)
|tbl (ps:Array Value)
|ext (φ:Heap->Prop)
noncomputable abbrev Hp:=Addr->Option HO
noncomputable def upd(H:Hp)(a:Addr)(o:HO):Hp:=fun b=>if b=a then some o else H b
variable{H:Hp}{a:Addr}{o:HO}
theorem bD:upd H a o a=some o:=by unfold upd;rw[if_pos rfl]
variable{b:Addr}
theorem aO(h:b≠a):upd H a o b=H b:=by unfold upd;rw[if_neg h]
variable{u:HO}
theorem W4(h:H a=some o)(h':H b=some u)(d:o≠u):a≠b:=by
 intro e;subst e;rw[h]at h';exact d (cV h')
theorem cQ(h:H a=some o)(h':H b=none):a≠b:=by
 intro e;subst e;rw[h]at h';cases h'
section
variable(P:bJ) (w:bS)
def dj(H:Hp)(h:Heap)(a:Addr):HO->Prop
|.lst xs=>xs.length<=aa/\∃(its:List Value) (n:Nat),bK xs its/\h.get? a=some { cls:=.type "list",data:=.seq its.toArray n }
|.tup xs=>xs.length<=aa/\∃its:List Value,bK xs its/\IsTup h a its.toArray
|.dK kvs=>kvs.length<=aa/\(a==g8)=false/\∃vs,KV kvs vs/\h.DictOf (c_ P w) a vs
|.dT kvs=>kvs.length<=aa/\(a==g8)=false/\∃xs:List (List Key×Addr×Value),
  Paired (fun(p:List Key×V) (q:List Key×Addr×Value)=>p.1=q.1/\H q.2.1=some (.tup (p.1.map kV))/\RelV p.2 q.2.2) kvs xs /\
  ∃o es ep,h.get? a=some o/\o.ExactDict/\o.data=.dict es ep/\es.toList=xs.map (entryOfKey (nv (c_ P w)))/\(xs.map (·.1)).Nodup
|.set S n=>h.SetOf (intKind P w) a S n
|.ins C dx fs=>H dx=some (.own a)/\fs.length<=1000/\dx≠a/\h.get? a=some (PySem.W.instObj C dx) /\
  ∃mA,h.Ns1 dx mA/\(∀f,j_ (fs.lookup f) (mA f))/\PySem.Within mA (fs.map (·.1))
|.own _=>∃o,h.get? a=some o
|.xd fs=>∃mA,h.Ns1 a mA/\∀f,j_ (fs.lookup f) (mA f)
|.rng lo hi=>∃t u v,h.get? a=some { cls:=.type "range",data:=.fields #[.int lo t,.int hi u,.int 1 v] }
|.bC o u=>h.get? a=some o/\dj H h a u
|.tbl ps=>h.get? a=some { cls:=.none,data:=.fields ps }
|.met f x=>h.get? a=some (PySem.W.methodObj (.ref f) (.ref x))
|.ext φ=>φ h/\(∃o,h.get? a=some o)/\∀h1 h2:Heap,φ h1->(∀o,h1.get? a=some o->h2.get? a=some o)->φ h2
def fU(H:Hp)(h:Heap):Prop:=∀a o,H a=some o->dj P w H h a o
end
section
variable{P:bJ}{w:bS}{H H':Hp}{h h':Heap}{a:Addr}{o:HO}
theorem dj.lt(x:dj P w H h a o):a<h.objs.size:=by
 cases o with
 |lst xs=>obtain⟨_,_,_,_,e⟩:=x;exact be e
 |tup xs=>obtain⟨_,_,_,p⟩:=x;exact p.lt
 |dK kvs=>obtain⟨_,_,_,_,o,_,_,e,_⟩:=x;exact be e
 |dT kvs=>obtain⟨_,_,_,_,o,_,_,e,_⟩:=x;exact be e
 |set S n=>obtain⟨o,_,_,_,e,_⟩:=x;exact be e
 |ins C dx fs=>obtain⟨_,_,_,e,_⟩:=x;exact be e
 |own y=>obtain⟨_,e⟩:=x;exact be e
 |xd fs=>obtain⟨_,⟨_,_,_,e,_⟩,_⟩:=x;exact be e
 |rng lo hi=>obtain⟨_,_,_,e⟩:=x;exact be e
 |bC ob u=>obtain⟨e,_⟩:=x;exact be e
 |tbl ps=>exact be (show h.get? a=some _ from x)
 |met f y=>exact be (show h.get? a=some _ from x)
 |ext φ=>obtain⟨_,⟨_,e⟩,_⟩:=x;exact be e
theorem Paired.Oc{α β:Type}{F G:α->β->Prop}:∀{ZZ:List α}{Z0:List β},Paired F ZZ Z0->(∀a b,F a b->G a b)->Paired G ZZ Z0
|_,_,.nil,_=>.nil
|_,_,.cons r t,f=>.cons (f _ _ r) (Paired.Oc t f)
theorem dj.stay(x:dj P w H h a o)(k:∀b u,(b=a\/H b=some (.own a))->h.get? b=some u->h'.get? b=some u)
  (ho:∀b,H b=some (.own a)->H' b=some (.own a)) (ht:∀b xs,H b=some (.tup xs)->H' b=some (.tup xs)):dj P w H' h' a o:=by
 induction o with
 |lst xs=>obtain⟨z,its,n,r,e⟩:=x;exact⟨z,its,n,r,k _ _ (.inl rfl) e⟩
 |tup xs=>obtain⟨z,its,r,ob,e,c⟩:=x;exact⟨z,its,r,ob,k _ _ (.inl rfl) e,c⟩
 |dK kvs=>obtain⟨z,y,vs,r,ob,es,ep,e,c⟩:=x;exact⟨z,y,vs,r,ob,es,ep,k _ _ (.inl rfl) e,c⟩
 |dT kvs=>
  obtain⟨z,y,xs,r,ob,es,ep,e,c⟩:=x;exact⟨z,y,xs,Paired.Oc r fun p q z=>⟨z.1,ht _ _ z.2.1,z.2.2⟩,ob,es,ep,k _ _ (.inl rfl) e,c⟩
 |set S n=>obtain⟨ob,es,ep,t,e,c⟩:=x;exact⟨ob,es,ep,t,k _ _ (.inl rfl) e,c⟩
 |ins C dx fs=>
  obtain⟨d,z,ne,e,mA,⟨od,es,ep,e2,c⟩,r⟩:=x;exact⟨ho _ d,z,ne,k _ _ (.inl rfl) e,mA,⟨od,es,ep,k _ _ (.inr d) e2,c⟩,r⟩
 |own y=>obtain⟨ob,e⟩:=x;exact⟨ob,k _ _ (.inl rfl) e⟩
 |xd fs=>obtain⟨mA,⟨od,es,ep,e,c⟩,r⟩:=x;exact⟨mA,⟨od,es,ep,k _ _ (.inl rfl) e,c⟩,r⟩
 |rng lo hi=>obtain⟨t,u,v,e⟩:=x;exact⟨t,u,v,k _ _ (.inl rfl) e⟩
 |bC ob u ih=>obtain⟨e,q⟩:=x;exact⟨k _ _ (.inl rfl) e,ih q⟩
 |tbl ps=>
  have e:h.get? a=some { cls:=.none,data:=.fields ps }:=x;show h'.get? a=some { cls:=.none,data:=.fields ps };exact k a _ (.inl rfl) e
 |met f y=>
  have e:h.get? a=some (PySem.W.methodObj (.ref f) (.ref y)):=x;show h'.get? a=some (PySem.W.methodObj (.ref f) (.ref y));exact k a _ (.inl rfl) e
 |ext φ=>obtain⟨p,⟨o,e⟩,st⟩:=x;exact⟨st _ _ p fun o q=>k _ _ (.inl rfl) q,⟨o,k _ _ (.inl rfl) e⟩,st⟩
theorem fU.lt(x:fU P w H h)(e:H a=some o):a<h.objs.size:=(x a o e).lt
theorem fU.fresh(x:fU P w H h)(e:h.objs.size<=a):H a=none:=by
 cases q:H a with
 |none=>rfl
 |some u=>exact absurd (bO (x.lt q) e) (d8 _)
theorem fU.kept(x:fU P w H h)(k:∀b u,h.get? b=some u->h'.get? b=some u):fU P w H h':=fun a o e=>
 (x a o e).stay (fun b u _ q=>k b u q) (fun _ q=>q) fun _ _ q=>q
theorem fU.laid(x:fU P w H h)(k:∀b u,h.get? b=some u->h'.get? b=some u)(hp:h.objs.size<=a)(new:dj P w (upd H a o) h' a o):fU P w (upd H a o) h':=fun b u e=>by
 have hn:=x.fresh hp;by_cases hb:b=a
 ·subst hb;rw[bD]at e;cases e;exact new
 ·rw[aO hb]at e;exact(x b u e).stay (fun c v _ q=>k c v q) (fun c q=>by rw[aO (cQ q hn)];exact q) fun c xs q=>by rw[aO (cQ q hn)];exact q
end
def Rd(H:Hp)(a:Addr)(u:HO):Prop:=H a=some u\/∃o,H a=some (.bC o u)
variable{h:Heap}
theorem Rd.ok{P:bJ}{w:bS}(r:Rd H a u)(x:fU P w H h):dj P w H h a u:=by
 rcases r with r|⟨o,r⟩
 ·exact x a u r
 ·obtain⟨_,q⟩:=x a _ r;exact q
def K_:Option HO->Prop
|some (.lst _)=>True
|some (.dK _)=>True
|some (.dT _)=>True
|some (.set _ _)=>True
|some (.ins _ _ _)=>True
|some (.ext _)=>True
|_=>False
section
variable{P:bJ}{w:bS}{H:Hp}{h h':Heap}{x e:Addr}{o':HO}
theorem fU.write(ok:fU P w H h)(mu:K_ (H x))(he:e=x\/H e=some (.own x))(k:∀b u,b≠e->h.get? b=some u->h'.get? b=some u)(heo:∃u,h'.get? e=some u)
  (new:dj P w (upd H x o') h' x o'):fU P w (upd H x o') h':=fun b u q=>by
 have nown:∀c y,H c=some (.own y)->c≠x:=fun c y r z=>by subst z;rw[r]at mu;exact mu
 have ntup:∀c xs,H c=some (.tup xs)->c≠x:=fun c xs r z=>by subst z;rw[r]at mu;exact mu
 by_cases hb:b=x
 ·subst hb;rw[bD]at q;cases q;exact new
 ·rw[aO hb]at q;by_cases hbe:b=e
  ·have q':H b=some (.own x):=by
    rcases he with z|z
    ·exact absurd (hbe.trans z) hb
    ·rw[hbe];exact z
   rw[q]at q';cases q';obtain⟨v,hv⟩:=heo;exact⟨v,by rw[hbe];exact hv⟩
  ·refine(ok b u q).stay (fun c v hc r=>k c v ?_ r) (fun c r=>by rw[aO (nown c b r)];exact r) fun c xs r=>by rw[aO (ntup c xs r)];exact r
   rcases hc with rfl|hc
   ·exact hbe
   ·rintro rfl;rcases he with z|z
    ·exact nown c b hc z
    ·rw[hc]at z;cases z;exact hb rfl
end
structure Un (fs ex:List Addr) (H H':Hp) (h h':Heap):Prop where
 keep:∀b o,h.get? b=some o->H b=none->b∉fs->b∉ex->h'.get? b=some o
 slot:∀b o,h.get? b=some o->H b=none->b∈fs->b∉ex->∃sl,h'.get? b=some { o with slots:=sl }
 free:∀b o,h.get? b=some o->H b=none->b∉ex->H' b=none
 there:∀b o,h.get? b=some o->b∉ex->∃o',h'.get? b=some o'
 tups:∀b xs,H b=some (.tup xs)->H' b=some (.tup xs)
 az:∀b o u,H b=some (.bC o u)->H' b=some (.bC o u)
 tbls:∀b ps,H b=some (.tbl ps)->∃more,H' b=some (.tbl (ps++more))
section
variable{fs fs' ex ex':List Addr}{H H1 H2:Hp}{h h1 h2 h':Heap}{a x e:Addr}{o:HO}
theorem Un.any(u:Un fs ex H H1 h h1){ob:Obj}(q:h.get? b=some ob)(n:H b=none)(hx:b∉ex):∃sl,h1.get? b=some { ob with slots:=sl }:=by
 by_cases hb:b∈fs
 ·exact u.slot b ob q n hb hx
 ·exact⟨ob.slots,u.keep b ob q n hb hx⟩
theorem Un.kept(k:∀b u,h.get? b=some u->h'.get? b=some u):Un fs ex H H h h':=
 ⟨fun b ob q _ _ _=>k b ob q,fun b ob q _ _ _=>⟨ob.slots,k b ob q⟩,fun _ _ _ n _=>n,fun b ob q _=>⟨ob,k b ob q⟩,fun _ _ q=>q,fun _ _ _ q=>q,fun _ ps q=>⟨#[],by rw[q];simp⟩⟩
theorem Un.refl:Un fs ex H H h h:=Un.kept fun _ _ q=>q
theorem Un.laid(k:∀b u,h.get? b=some u->h'.get? b=some u)(hp:h.objs.size<=a)(hn:H a=none):Un fs ex H (upd H a o) h h' where
 keep:=fun b u q _ _ _=>k b u q
 slot:=fun b u q _ _ _=>⟨u.slots,k b u q⟩
 free:=fun b u q n _=>by rw[aO (b8 (bO (be q) hp))];exact n
 there:=fun b u q _=>⟨u,k b u q⟩
 tups:=fun b xs q=>by rw[aO (cQ q hn)];exact q
 az:=fun b u xs q=>by rw[aO (cQ q hn)];exact q
 tbls:=fun b ps q=>⟨#[],by rw[aO (cQ q hn),q];simp⟩
theorem Un.write(mu:K_ (H x))(he:e=x\/H e=some (.own x))(k:∀b u,b≠e->h.get? b=some u->h'.get? b=some u)(heo:∃u,h'.get? e=some u):Un fs ex H (upd H x o) h h':=by
 have hx:∀b,H b=none->b≠x:=fun b n z=>by subst z;rw[n]at mu;exact mu
 have hb:∀b,H b=none->b≠e:=fun b n z=>by
  subst z;rcases he with r|r
  ·exact hx b n r
  ·rw[n]at r;cases r
 have hm:∀b u,H b=some u->¬K_ (some u)->b≠x:=fun b u q nm z=>by subst z;rw[q]at mu;exact nm mu
 refine⟨fun b u q n _ _=>k b u (hb b n) q,fun b u q n _ _=>⟨u.slots,k b u (hb b n) q⟩,fun b u q n _=>by rw[aO (hx b n)];exact n,fun b u q _=>?_,
  fun b xs q=>by rw[aO (hm b _ q fun z=>z)];exact q,fun b u xs q=>by rw[aO (hm b _ q fun z=>z)];exact q,fun b ps q=>⟨#[],by rw[aO (hm b _ q fun z=>z),q];simp⟩⟩
 by_cases hbe:b=e
 ·subst hbe;exact heo
 ·exact⟨u,k b u hbe q⟩
end
noncomputable def RT(h:Heap)(H:Hp):List Addr:=(cW h.objs.size).filter fun a=>(H a).isSome
noncomputable def vJ(h:Heap)(H:Hp):Heap:=PySem.W.hideAll h (RT h H)
theorem La(h:Heap)(H:Hp):(vJ h H).objs.size=h.objs.size:=PySem.W.hideAll_size _ _
theorem Od{o:Obj}(e:h.get? b=some o)(n:H b=none):(vJ h H).get? b=some o:=
 PySem.W.hideAll_get _ e fun hm=>by
  have q:(H b).isSome=true:=(ug.mp hm).2;rw[n]at q;simp at q
theorem SH{o:Obj}(e:(vJ h H).get? b=some o):h.get? b=some o/\H b=none:=by
 have e':h.get? b=some o:=PySem.W.of_hideAll (RT h H) e;refine⟨e',?_⟩;cases q:H b with
 |none=>rfl
 |some x=>
  have hm:b∈RT h H:=ug.mpr ⟨lZ.mpr (be e'),by simp[q]⟩;have z:(vJ h H).get? b=none:=PySem.W.hideAll_none (RT h H) hm;rw[z]at e;cases e
noncomputable def SI(g h:Heap)(Zy:Addr):List (Addr×Obj):=(cW h.objs.size).filterMap fun a=>if a=Zy\/(g.get? a).isSome=true then none else(h.get? a).map fun o=>(a,o)
noncomputable def rest(g h:Heap)(Zy d:Addr):List (Addr×Obj):=(SI g h Zy).filter fun p=>decide (p.1≠d)
end L2
namespace L2
open PySem PySem.Spec PyProof.Rows
structure Mod (K:PySem.W.Frag) (mg:Str->Option Value) (base:Heap):Prop where
 kin:K.In base
 glob:base.Ns cX mg
 blt:∃mb,base.Ns BR mb/\∀x:Str,x≠"__name__"->mb x=lH x
 nolimit:base.NoLimit
structure Cx where
 prog:bJ
 w:bS
 K:PySem.W.Frag
 mg:Str->Option Value
 base:Heap
 A:dh
 N:List Str
 ZD:aj
 ZO:Hp
 env:Env
 outer:List Env
 stack:List Env
 ex:List Addr
 fn:Str->Bool
 calm:Bool
 pn:List (Addr×Obj)
 xe:Value->aj->Prop
noncomputable def frs(l:List Env):List Addr:=l.filterMap (·.frame)
noncomputable abbrev Cx.fs(X:Cx):List Addr:=frs X.outer
def E8(sc:fP)(x:Str):Prop:=sc.names.lookup x=some .local\/sc.names.lookup x=some .cell\/sc.names.lookup x=some .free
def Loc(sc:fP)(x:Str):Prop:=sc.names.lookup x=some .local\/sc.names.lookup x=some .cell
def Look(env:Env)(h:Heap)(m:Str->Option Value)(x:Str)(u:Value):Prop:=
 (env.kindOf x=some .local/\m x=some u)\/((env.kindOf x=some .cell\/env.kindOf x=some .free)/\∃c,env.cells.lookup x=some c/\h.IsCell c (some u))
structure Cx.Ok (X:Cx):Prop where
 mod:Mod X.K X.mg X.base
 kind:X.env.scope.kind=.function
 glob:X.env.globals=cX
 blt:X.env.builtins=BR
 above:X.ZD.heap.objs.size<=X.env.locals
 inj:∀x y c,X.env.cells.lookup x=some c->X.env.cells.lookup y=some c->x=y
 has:∀x,(X.env.kindOf x=some .cell\/X.env.kindOf x=some .free)->∃c,X.env.cells.lookup x=some c
 cab:∀x c,X.fn x=true->X.env.cells.lookup x=some c->X.ZD.heap.objs.size<=c
 hd:X.calm=true->X.A.handled=none
 frames:X.A.frames=some X.stack
 stk:X.stack=X.outer\/(X.stack=X.env::X.outer/\X.env.frame=some X.env.locals)
 exf:∀b∈X.ex,b≠X.env.locals/\∀x c,X.env.cells.lookup x=some c->c≠b
 bs:∀b o,X.base.get? b=some o->X.ZD.heap.get? b=some o/\X.ZO b=none
 bsz:X.base.objs.size<=X.ZD.heap.objs.size
 noex:∀b o,X.base.get? b=some o->b∉X.ex
 exfs:∀b∈X.ex,b∉X.fs
 nE:X.ZD.heap.FunFrames X.base X.outer
 frf:∀b∈X.fs,X.ZO b=none
structure Inv (X:Cx) (pins:List (Addr×Obj)) (O:List (Option V)) (H:Hp) (s:aj):Prop where
 ok:X.Ok
 os:s.os=X.ZD.os
 bare:jW s.gens
 base:Un X.fs X.ex X.ZO H X.ZD.heap s.heap
 loc:∃m,s.heap.Ns X.env.locals m/\∀(i:Nat) (x:Str) (v:V),X.N[i]?=some x->O[i]?=some (some v)->E8 X.env.scope x->∃u,RelV v u/\Look X.env s.heap m x u
 cell:∀x c,X.env.cells.lookup x=some c->∃v,s.heap.IsCell c v
 free:H X.env.locals=none
 freeC:∀x c,X.env.cells.lookup x=some c->H c=none
 pin:∀p∈X.pn++pins,s.heap.get? p.1=some p.2/\H p.1=none/\p.1≠X.env.locals/\p.1∉X.fs/\∀v,p.2.data≠.cell v
 hok:fU X.prog X.w H s.heap
 len:O.length=X.N.length
variable{a:Addr}
variable{g':Array GenState}{t':Nat}{d':Drawn}{ch:List Addr}
variable{i:Nat}{x:Str}
variable{M:KL}{A:dh}{E:Value->aj->Prop}{u:Value}{Q:Unit->aj->Prop}
section
variable{X:Cx}{pins:List (Addr×Obj)}{O:List (Option V)}{H H':Hp}{s:aj}{h':Heap}
theorem Cx.Ok.Yr(ok:X.Ok){b:Addr}{o:Obj}(e:X.base.get? b=some o):b∉X.fs:=fun hb=>by
 have:=(ok.nE.mem hb).1;rw[e]at this;cases this
theorem Inv.bs(I:Inv X pins O H s):∀b o,X.base.get? b=some o->s.heap.get? b=some o/\H b=none:=fun b o e=>
 ⟨I.base.keep b o (I.ok.bs b o e).1 (I.ok.bs b o e).2 (I.ok.Yr e) (I.ok.noex b o e),I.base.free b o (I.ok.bs b o e).1 (I.ok.bs b o e).2 (I.ok.noex b o e)⟩
theorem Inv.bk(I:Inv X pins O H s):∀b o,X.base.get? b=some o->s.heap.get? b=some o:=fun b o e=>(I.bs b o e).1
theorem Inv.mod(I:Inv X pins O H s):Mod X.K X.mg X.base:=I.ok.mod
theorem Inv.gn(I:Inv X pins O H s):X.K.In s.heap:=I.ok.mod.kin.keeps I.bk
theorem Inv.lt(I:Inv X pins O H s):X.env.locals<s.heap.objs.size:=let⟨_,hn,_⟩:=I.loc;hn.lt
theorem Inv.sz(I:Inv X pins O H s):X.ZD.heap.objs.size<=s.heap.objs.size:=d9 I.ok.above (je I.lt)
theorem Inv.Ys(I:Inv X pins O H s)(h:s.heap.objs.size<=a):a∉X.fs:=fun hb=>by
 obtain⟨_,o,ho,_⟩:=I.ok.nE.mem hb;exact absurd (bO (be ho) (d9 I.sz h)) (d8 _)
theorem Inv.AW(I:Inv X pins O H s):∀x c,X.env.cells.lookup x=some c->c≠X.env.locals:=fun x c e z=>by
 obtain⟨v,o,ho,hd⟩:=I.cell x c e;obtain⟨m,⟨o',es,ep,ho',hd',_⟩,_⟩:=I.loc;rw[z,ho']at ho;cases ho;rw[hd']at hd;cases hd
theorem Inv.nE(I:Inv X pins O H s):s.heap.FunFrames X.base X.outer:=by
 have all:∀(l:List Env),(∀b∈frs l,b∈X.fs)->X.ZD.heap.FunFrames X.base l->s.heap.FunFrames X.base l:=by
  intro l;induction l with
  |nil=>intro _ _;trivial
  |cons env r ih=>
   intro hs hl;obtain⟨hk,⟨Zy,o,hf,hn,ho,hd⟩,hr⟩:=hl;have hL:Zy∈X.fs:=hs Zy (by unfold frs;rw[gQ,hf];exact ao);obtain⟨sl,e⟩:=I.base.slot Zy o ho (I.ok.frf Zy hL) hL fun z=>I.ok.exfs Zy z hL;exact⟨hk,⟨Zy,_,hf,hn,e,hd⟩,ih (fun b hb=>hs b (by unfold frs;rw[gQ,hf];exact ai _ hb)) hr⟩
 exact all X.outer (fun _ hb=>hb) I.ok.nE
theorem Inv.stack(I:Inv X pins O H s):s.heap.FunFrames X.base X.stack:=by
 rcases I.ok.stk with e|⟨e,hf⟩
 ·rw[e];exact I.nE
 ·rw[e];obtain⟨m,hn,_⟩:=I.loc;refine .cons (by rw[I.ok.kind];decide) hf hn ?_ I.nE;exact Heap.get?_none_of_le (d9 I.ok.bsz I.ok.above)
theorem Inv.uW(I:Inv X pins O H s):∀b∈frs X.stack,b∈X.env.locals::X.fs:=fun b hb=>by
 rcases I.ok.stk with e|⟨e,hf⟩
 ·rw[e]at hb;exact ai _ hb
 ·rw[e]at hb;unfold frs at hb;rw[gQ,hf]at hb;exact hb
theorem Inv.B8(I:Inv X pins O H s):∀b∈frs X.stack,H b=none:=fun b hb=>by
 rcases aC.mp (I.uW b hb)with e|hb
 ·rw[e];exact I.free
 ·obtain⟨_,o,ho,_⟩:=I.ok.nE.mem hb;exact I.base.free b o ho (I.ok.frf b hb) fun z=>I.ok.exfs b z hb
theorem Inv.step(I:Inv X pins O H s)
  (hch:∀b∈ch,(b∈X.ex\/X.ZD.heap.objs.size<=b)/\b≠X.env.locals/\(∀x c,X.env.cells.lookup x=some c->c≠b)/\∀p∈X.pn++pins,p.1≠b)
  (keep:∀b o,b≠X.env.locals->b∉X.fs->b∉ch->s.heap.get? b=some o->H b=none->h'.get? b=some o)
  (slot:∀b o,b≠X.env.locals->b∈X.fs->b∉ch->s.heap.get? b=some o->H b=none->∃sl,h'.get? b=some { o with slots:=sl }) (free:∀b o,b∉ch->s.heap.get? b=some o->H b=none->H' b=none)
  (there:∀b o,b∉ch->s.heap.get? b=some o->∃o',h'.get? b=some o')
  (tups:∀b xs,H b=some (.tup xs)->H' b=some (.tup xs)) (az:∀b o u,H b=some (.bC o u)->H' b=some (.bC o u)) (tbls:∀b ps,H b=some (.tbl ps)->∃more,H' b=some (.tbl (ps++more)))
  (ns:∀m,s.heap.Ns X.env.locals m->h'.Ns X.env.locals m) (hok:fU X.prog X.w H' h') (hg:jW g') :
  Inv X pins O H' { s with heap:=h',gens:=g',drawn:=d',toks:=t' }:=by
 have neL:∀b o,X.ZD.heap.get? b=some o->b≠X.env.locals:=fun b o e=>b8 (bO (be e) I.ok.above);have neC:∀b o,X.ZD.heap.get? b=some o->b∉X.ex->b∉ch:=fun b o e hx hb=>by
  rcases(hch b hb).1 with z|z
  ·exact hx z
  ·exact absurd (bO (be e) z) (d8 _)
 have cellK:∀x c,X.env.cells.lookup x=some c->∀v,s.heap.IsCell c v->h'.IsCell c v:=fun x c e v ⟨o,ho,hd⟩=>by
  have nch:c∉ch:=fun z=>(hch c z).2.2.1 x c e rfl;by_cases hc:c∈X.fs
  ·obtain⟨sl,q⟩:=slot c o (I.AW x c e) hc nch ho (I.freeC x c e);exact⟨_,q,hd⟩
  ·exact⟨o,keep c o (I.AW x c e) hc nch ho (I.freeC x c e),hd⟩
 refine⟨I.ok,I.os,hg,⟨fun b o e n hb hx=>?_,fun b o e n hb hx=>?_,fun b o e n hx=>?_,fun b o e hx=>?_,fun b xs e=>tups b xs (I.base.tups b xs e),fun b o xs e=>az b o xs (I.base.az b o xs e),fun b ps e=>?_⟩,?_,fun x c e=>?_,?_,fun x c e=>?_,fun p hp=>?_,hok,I.len⟩
 ·exact keep b o (neL b o e) hb (neC b o e hx) (I.base.keep b o e n hb hx) (I.base.free b o e n hx)
 ·obtain⟨sl,e1⟩:=I.base.slot b o e n hb hx;obtain⟨sl',e2⟩:=slot b _ (neL b o e) hb (neC b o e hx) e1 (I.base.free b o e n hx);exact⟨sl',e2⟩
 ·obtain⟨o',e1⟩:=I.base.there b o e hx;exact free b o' (neC b o e hx) e1 (I.base.free b o e n hx)
 ·obtain⟨o',e1⟩:=I.base.there b o e hx;exact there b o' (neC b o e hx) e1
 ·obtain⟨m1,e1⟩:=I.base.tbls b ps e;obtain⟨m2,e2⟩:=tbls b _ e1;exact⟨m1++m2,by rw[e2,Array.append_assoc]⟩
 ·obtain⟨m,hn,hl⟩:=I.loc;refine⟨m,ns m hn,fun i x v e1 e2 e3=>?_⟩;obtain⟨u,r,l⟩:=hl i x v e1 e2 e3;refine⟨u,r,?_⟩;rcases l with l|⟨k,c,e,z⟩
  ·exact .inl l
  ·exact .inr ⟨k,c,e,cellK x c e _ z⟩
 ·obtain⟨v,z⟩:=I.cell x c e;exact⟨v,cellK x c e v z⟩
 ·obtain⟨m,⟨o,_,_,ho,_⟩,_⟩:=I.loc;exact free _ o (fun z=>(hch _ z).2.1 rfl) ho I.free
 ·obtain⟨v,o,ho,hd⟩:=I.cell x c e;exact free c o (fun z=>(hch c z).2.2.1 x c e rfl) ho (I.freeC x c e)
 ·obtain⟨e,n,ne,nf,d⟩:=I.pin p hp;have nch:p.1∉ch:=fun z=>(hch p.1 z).2.2.2 p hp rfl;exact⟨keep p.1 p.2 ne nf nch e n,free p.1 p.2 nch e n,ne,nf,d⟩
theorem Inv.un(I:Inv X pins O H s)(u:Un X.fs [] H H' s.heap h')(hok:fU X.prog X.w H' h'):Inv X pins O H' { s with heap:=h',toks:=t' }:=by
 obtain⟨m,⟨o,es,ep,ho,r⟩,_⟩:=id I.loc;obtain⟨sl,hL⟩:=u.any ho I.free (by simp);exact I.step (g':=s.gens) (d':=s.drawn) (ch:=[]) (fun _ z=>nomatch z) (fun b o _ hb _ e n=>u.keep b o e n hb (by simp)) (fun b o _ hb _ e n=>u.slot b o e n hb (by simp)) (fun b o _ e n=>u.free b o e n (by simp)) (fun b o _ e=>u.there b o e (by simp)) u.tups u.az u.tbls (fun m' hm=>by
  obtain⟨o',es',ep',ho',r'⟩:=hm;rw[ho]at ho';cases ho';exact⟨_,es',ep',hL,r'⟩) hok I.bare
theorem Inv.call(I:Inv X pins O H s)(u:Un (frs X.stack) ch H H' s.heap h')(hok:fU X.prog X.w H' h')(hg:jW g')
  (hch:∀b∈ch,(b∈X.ex\/X.ZD.heap.objs.size<=b)/\b≠X.env.locals/\(∀x c,X.env.cells.lookup x=some c->c≠b)/\∀p∈X.pn++pins,p.1≠b) :
  Inv X pins O H' { s with heap:=h',gens:=g',drawn:=d',toks:=t' }:=by
 obtain⟨m,⟨o,es,ep,ho,r⟩,_⟩:=id I.loc;obtain⟨sl,hL⟩:=u.any ho I.free fun z=>(hch _ z).2.1 rfl;exact I.step (ch:=ch) hch (fun b o hL hb hc e n=>u.keep b o e n (fun z=>(aC.mp (I.uW b z)).elim hL hb) hc) (fun b o _ _ hc e n=>u.any e n hc) (fun b o hc e n=>u.free b o e n hc) (fun b o hc e=>u.there b o e hc) u.tups u.az u.tbls (fun m' hm=>by
  obtain⟨o',es',ep',ho',r'⟩:=hm;rw[ho]at ho';cases ho';exact⟨_,es',ep',hL,r'⟩) hok hg
theorem Inv.turned{it:Addr}(I:Inv X pins O H s)(k:∀b o,b≠it->s.heap.get? b=some o->h'.get? b=some o)(hn:H it=none)(hL:it≠X.env.locals)
  (h1:it∈X.ex\/X.ZD.heap.objs.size<=it) (h2:∀x c,X.env.cells.lookup x=some c->c≠it) (h3:∀p∈X.pn++pins,p.1≠it):Inv X pins O H { s with heap:=h',toks:=t' }:=by
 have nit:∀b u,H b=some u->b≠it:=fun b u e z=>by rw[z,hn]at e;cases e
 refine I.step (g':=s.gens) (d':=s.drawn) (ch:=[it]) (fun b hb=>?_) (fun b o _ _ hc e _=>k b o (fun z=>hc (by simp[z])) e) (fun b o _ _ hc e _=>⟨o.slots,k b o (fun z=>hc (by simp[z])) e⟩) (fun _ _ _ _ n=>n)
  (fun b o hc e=>⟨o,k b o (fun z=>hc (by simp[z])) e⟩) (fun _ _ e=>e) (fun _ _ _ e=>e) (fun b ps e=>⟨#[],by rw[e];simp⟩) (fun m hm=>?_) (fun b u e=>?_) I.bare
 ·have e:b=it:=by simpa using hb
  subst e;exact⟨h1,hL,h2,h3⟩
 ·obtain⟨o,es,ep,ho,r⟩:=hm;exact⟨o,es,ep,k _ o (cT hL) ho,r⟩
 ·refine(I.hok b u e).stay (fun c v hc q=>k c v ?_ q) (fun _ q=>q) fun _ _ q=>q;rcases hc with z|z
  ·rw[z];exact nit b u e
  ·exact nit c _ z
theorem Inv.tok(I:Inv X pins O H s)(t:Nat):Inv X pins O H { s with toks:=t }:=I.un (h':=s.heap) (t':=t) Un.refl I.hok
theorem Inv.kept(I:Inv X pins O H s)(k:∀b u,s.heap.get? b=some u->h'.get? b=some u):Inv X pins O H { s with heap:=h',toks:=t' }:=I.un (Un.kept k) (I.hok.kept k)
theorem Inv.laid{o:HO}(I:Inv X pins O H s)(k:∀b u,s.heap.get? b=some u->h'.get? b=some u)(hp:s.heap.objs.size<=a)(new:dj X.prog X.w (upd H a o) h' a o) :
  Inv X pins O (upd H a o) { s with heap:=h',toks:=t' }:=I.un (Un.laid k hp (I.hok.fresh hp)) (I.hok.laid k hp new)
theorem Inv.write{x e:Addr}{o:HO}{t':Nat}(I:Inv X pins O H s)(mu:K_ (H x))(he:e=x\/H e=some (.own x))(k:∀b u,b≠e->s.heap.get? b=some u->h'.get? b=some u)(heo:∃u,h'.get? e=some u)
  (new:dj X.prog X.w (upd H x o) h' x o):Inv X pins O (upd H x o) { s with heap:=h',toks:=t' }:=I.un (Un.write mu he k heo) (I.hok.write mu he k heo new)
theorem Inv.yQ{pins':List (Addr×Obj)}(I:Inv X pins O H s)(h:∀p∈pins',s.heap.get? p.1=some p.2/\H p.1=none/\p.1≠X.env.locals/\p.1∉X.fs/\∀v,p.2.data≠.cell v):Inv X pins' O H s:=
 ⟨I.ok,I.os,I.bare,I.base,I.loc,I.cell,I.free,I.freeC,fun p hp=>(aT.mp hp).elim (fun z=>I.pin p (aL _ z)) (h p),I.hok,I.len⟩
theorem z5{N:List Str}(hN:N.Nodup){j:Nat}(a:N[i]?=some x)(b:N[j]?=some x):i=j:=by
 obtain⟨h1,e1⟩:=bN.mp a;obtain⟨h2,e2⟩:=bN.mp b;exact(List.getElem_inj hN).mp (e1.trans e2.symm)
theorem C5{v:V}(I:Inv X pins O H s)(hN:X.N.Nodup)(hi:X.N[i]?=some x)(hx:Loc X.env.scope x)(r:RelV v u)
  (h:∀s',Inv X pins (O.set i (some v)) H s'->(∃a,nY a s.heap s'.heap/\(a=X.env.locals\/X.env.cells.lookup x=some a))->Q () s') (hf:X.fn x=true\/X.env.scope.names.lookup x=some .local:=by first|exact .inl rfl|exact .inr rfl|assumption):aJ M A (storeName X.env x u) Q E s:=by
 obtain⟨m,hn,hl⟩:=id I.loc;have hcls:(X.env.scope.kind==.class||(X.env.scope.kind==.module&&X.env.locals != X.env.globals))=false:=by rw[I.ok.kind];rfl
 have Z1:i<O.length:=by rw[I.len];exact(bN.mp hi).1
 have AW:=I.AW;have tracked:∀{a:Addr}{h':Heap},(∃o,s.heap.get? a=some o/\H a=none)->nY a s.heap h'->fU X.prog X.w H h':=fun{a h'} ha hs b ob e=>by
  obtain⟨_,_,hfree⟩:=ha;refine(I.hok b ob e).stay (fun c w' hc q=>(hs.2 c ?_).trans q) (fun _ q=>q) fun _ _ q=>q;rintro rfl;rcases hc with rfl|hc
  ·rw[hfree]at e;cases e
  ·rw[hfree]at hc;cases hc
 rcases hx with hk|hk
 ·refine wpAny_storeName_local hk hn (fun h' hn' hs=>?_) hcls;obtain⟨oL,_,_,hoL,_⟩:=id hn;refine h _ ⟨I.ok,I.os,I.bare,⟨fun b o e n hb hx=>?_,fun b o e n hb hx=>?_,I.base.free,fun b o e hx=>?_,I.base.tups,I.base.az,I.base.tbls⟩,⟨_,hn',fun j y v' e1 e2 e3=>?_⟩,fun y c e=>?_,I.free,I.freeC,fun p hp=>?_,tracked ⟨oL,hoL,I.free⟩ hs,by simpa using I.len⟩ ⟨_,hs,.inl rfl⟩
  ·exact(hs.2 b (b8 (bO (be e) I.ok.above))).trans (I.base.keep b o e n hb hx)
  ·obtain⟨sl,e1⟩:=I.base.slot b o e n hb hx;exact⟨sl,(hs.2 b (b8 (bO (be e) I.ok.above))).trans e1⟩
  ·obtain⟨o',e1⟩:=I.base.there b o e hx;exact⟨o',(hs.2 b (b8 (bO (be e) I.ok.above))).trans e1⟩
  ·by_cases hj:j=i
   ·subst hj;rw[hi]at e1;cases e1;rw[g9 Z1]at e2;cases e2;exact⟨u,r,.inl ⟨hk,by simp⟩⟩
   ·rw[cE (cT hj)]at e2;obtain⟨u',r',q⟩:=hl j y v' e1 e2 e3;refine⟨u',r',?_⟩;rcases q with⟨k,e⟩|⟨k,c,e,z⟩
    ·refine .inl ⟨k,?_⟩;have:y≠x:=fun e=>hj (z5 hN e1 (e▸hi));simp[this,e]
    ·exact .inr ⟨k,c,e,z.sameBut hs (AW y c e)⟩
  ·obtain⟨w',z⟩:=I.cell y c e;exact⟨w',z.sameBut hs (AW y c e)⟩
  ·obtain⟨e,n,ne,nf,d⟩:=I.pin p hp;exact⟨(hs.2 p.1 ne).trans e,n,ne,nf,d⟩
 ·have hfn:X.fn x=true:=by
   rcases hf with z|z
   ·exact z
   ·rw[z]at hk;cases hk
  obtain⟨c,hc⟩:=I.ok.has x (.inl hk);obtain⟨w',z⟩:=I.cell x c hc;refine wpAny_storeName_cell I.ok.kind hk hc z (fun h' hc' hs=>?_);obtain⟨oc,hoc,hocd⟩:=id z;refine h { s with heap:=h' } ⟨I.ok,I.os,I.bare,⟨fun b o e n hb hx=>?_,fun b o e n hb hx=>?_,I.base.free,fun b o e hx=>?_,I.base.tups,I.base.az,I.base.tbls⟩,⟨m,hn.sameBut hs (cT (AW x c hc)),fun j y v' e1 e2 e3=>?_⟩,fun y c' e=>?_,I.free,I.freeC,fun p hp=>?_,tracked ⟨oc,hoc,I.freeC x c hc⟩ hs,by simpa using I.len⟩ ⟨c,hs,.inr hc⟩
  ·exact(hs.2 b (b8 (bO (be e) (I.ok.cab x c hfn hc)))).trans (I.base.keep b o e n hb hx)
  ·obtain⟨sl,e1⟩:=I.base.slot b o e n hb hx;exact⟨sl,(hs.2 b (b8 (bO (be e) (I.ok.cab x c hfn hc)))).trans e1⟩
  ·obtain⟨o',e1⟩:=I.base.there b o e hx;exact⟨o',(hs.2 b (b8 (bO (be e) (I.ok.cab x c hfn hc)))).trans e1⟩
  ·by_cases hj:j=i
   ·subst hj;rw[hi]at e1;cases e1;rw[g9 Z1]at e2;cases e2;exact⟨u,r,.inr ⟨.inl hk,c,hc,hc'⟩⟩
   ·rw[cE (cT hj)]at e2;obtain⟨u',r',q⟩:=hl j y v' e1 e2 e3;refine⟨u',r',?_⟩;rcases q with q|⟨k,c',e,z'⟩
    ·exact .inl q
    ·refine .inr ⟨k,c',e,z'.sameBut hs ?_⟩;rintro rfl;exact hj (z5 hN e1 (I.ok.inj _ _ _ e hc▸hi))
  ·by_cases hcc:c'=c
   ·subst hcc;exact⟨_,hc'⟩
   ·obtain⟨w2,z2⟩:=I.cell y c' e;exact⟨w2,z2.sameBut hs hcc⟩
  ·obtain⟨e,n,ne,nf,d⟩:=I.pin p hp;refine⟨(hs.2 p.1 ?_).trans e,n,ne,nf,d⟩;intro q;rw[q,hoc]at e;have q':oc=p.2:=cV e;exact d w' (by rw[<-q'];exact hocd)
theorem z6{v:V}(I:Inv X pins O H s)(hN:X.N.Nodup)(hi:X.N[i]?=some x)(hx:Loc X.env.scope x)(r:RelV v u)
  (h:∀s',Inv X pins (O.set i (some v)) H s'->Q () s') (hf:X.fn x=true\/X.env.scope.names.lookup x=some .local:=by first|exact .inl rfl|exact .inr rfl|assumption):aJ M A (storeName X.env x u) Q E s:=
 C5 I hN hi hx r (fun s' I' _=>h s' I') hf
theorem Inv.call'{s':aj}(I:Inv X pins O H s)(ho:s'.os=s.os)(u:Un (frs X.stack) ch H H' s.heap s'.heap)(hok:fU X.prog X.w H' s'.heap)(hg:jW s'.gens)
  (hch:∀b∈ch,(b∈X.ex\/X.ZD.heap.objs.size<=b)/\b≠X.env.locals/\(∀x c,X.env.cells.lookup x=some c->c≠b)/\∀p∈X.pn++pins,p.1≠b):Inv X pins O H' s':=by
 obtain⟨h',g',d',t',o'⟩:=s';have e:o'=s.os:=ho;subst e;exact I.call (g':=g') (t':=t') (d':=d') u hok hg hch
end
noncomputable abbrev XK:=Value->Option Addr->Hp->Prop
noncomputable abbrev St:=List (Option V)
noncomputable abbrev VK:=V->Hp->Prop
noncomputable abbrev TE:=St->Hp->VK->Prop
noncomputable abbrev TT:=St->Hp->(Bool->Hp->Prop)->Prop
noncomputable abbrev TA:=St->Hp->(List V->Hp->Prop)->Prop
structure Ends where
 nx:St->Hp->Prop
 rt:VK
 bk:St->Hp->Prop:=fun _ _=>False
 ct:St->Hp->Prop:=fun _ _=>False
noncomputable abbrev TS:=Ends->St->Hp->Prop
def EP(X:Cx)(pins:List (Addr×Obj))(O:St)(Q:VK)(u:Value)(s':aj):Prop:=∃v H',Inv X pins O H' s'/\RelV v u/\Q v H'
def TP(X:Cx)(pins:List (Addr×Obj))(O:St)(Q:Bool->Hp->Prop)(b:Bool)(s':aj):Prop:=∃H',Inv X pins O H' s'/\Q b H'
def AP(X:Cx)(pins:List (Addr×Obj))(O:St)(Q:List V->Hp->Prop)(us:List Value)(s':aj):Prop:=∃vs H',Inv X pins O H' s'/\bK vs us/\Q vs H'
def SP(X:Cx)(pins:List (Addr×Obj))(D:Ends)(f:Flow)(s':aj):Prop:=
 match f with
 |.next=>∃ZC H',Inv X pins ZC H' s'/\D.nx ZC H'
 |.brk=>∃ZC H',Inv X pins ZC H' s'/\D.bk ZC H'
 |.cont=>∃ZC H',Inv X pins ZC H' s'/\D.ct ZC H'
 |.ret u=>∃v ZC H',Inv X pins ZC H' s'/\RelV v u/\D.rt v H'
def PE(X:Cx)(e:Expr)(t:TE):Prop:=
 ∀(pins:List (Addr×Obj)) (s:aj) (O:St) (H:Hp) (Q:VK),Inv X pins O H s->t O H Q->aJ (aH X.prog X.w) X.A (eval e X.env) (EP X pins O Q) X.xe s
def PT(X:Cx)(e:Expr)(t:TT):Prop:=
 ∀(pins:List (Addr×Obj)) (s:aj) (O:St) (H:Hp) (Q:Bool->Hp->Prop),Inv X pins O H s->t O H Q->aJ (aH X.prog X.w) X.A (sR e X.env (eval e X.env)) (TP X pins O Q) X.xe s
def PW(X:Cx)(e:Expr)(t:TT):Prop:=
 ∀(whole:Sem Value) (pins:List (Addr×Obj)) (s:aj) (O:St) (H:Hp) (Q:Bool->Hp->Prop),Inv X pins O H s->t O H Q->aJ (aH X.prog X.w) X.A (sR e X.env whole) (TP X pins O Q) X.xe s
theorem PW.pt{X:Cx}{e:Expr}{t:TT}(h:PW X e t):PT X e t:=h _
def PA(X:Cx)(es:List Expr)(t:TA):Prop:=
 ∀(pos:Pos) (pins:List (Addr×Obj)) (s:aj) (O:St) (H:Hp) (Q:List V->Hp->Prop),Inv X pins O H s->t O H Q->aJ (aH X.prog X.w) X.A (ze (mF pos (cY es X.env))) (AP X pins O Q) X.xe s
def PS(X:Cx)(st:Stmt)(t:TS):Prop:=
 ∀(pins:List (Addr×Obj)) (s:aj) (O:St) (H:Hp) (D:Ends),Inv X pins O H s->t D O H->aJ (aH X.prog X.w) X.A (exec st X.env) (SP X pins D) X.xe s
def m9(X:Cx)(st:List Stmt)(t:TS):Prop:=
 ∀(pins:List (Addr×Obj)) (s:aj) (O:St) (H:Hp) (D:Ends),Inv X pins O H s->t D O H->aJ (aH X.prog X.w) X.A (KN st X.env) (SP X pins D) X.xe s
theorem aY{α:Type}{t:Sem α}{Q Q':α->aj->Prop}{s:aj}(h:aJ M A t Q E s)(hQ:∀a s,Q a s->Q' a s):aJ M A t Q' E s:=dJ h hQ fun _ _ x=>x
end L2
namespace L2
open PySem PySem.Spec PyProof.Rows
variable{pins:List (Addr×Obj)}{s:aj}{O:St}{H:Hp}
variable{x:Str}
variable{E Q:Value->aj->Prop}{u:Value}
section
variable{X:Cx}
theorem bin(ha:PE X a ta)(hb:PE X b tb){R:V->V->Hp->Prop}(I:Inv X pins O H s)(h:ta O H fun x H1=>tb O H1 fun y H2=>R x y H2)
  {α:Type}{Q:α->aj->Prop}{f:Value->Value->Sem α}
  (hf:∀v u s2 x y H2,Inv X pins O H2 s2->RelV x v->RelV y u->R x y H2->aJ (aH X.prog X.w) X.A (f v u) Q X.xe s2) :
  aJ (aH X.prog X.w) X.A (eval a X.env) (fun v ZF=>aJ (aH X.prog X.w) X.A (eval b X.env) (fun u ZH=>aJ (aH X.prog X.w) X.A (f v u) Q X.xe ZH) X.xe ZF) X.xe s:=by
 refine aY (ha pins s O H _ I h) fun v s1 ⟨x,H1,I1,r1,q1⟩=>?_;refine aY (hb pins s1 O H1 _ I1 q1) fun u s2 ⟨y,H2,I2,r2,q2⟩=>?_;exact hf v u s2 x y H2 I2 r1 r2 q2
def Oe(i:Nat):TE:=fun O H Q=>∃v,O[i]?=some (some v)/\Q v H
def tC(v:V):TE:=fun _ H Q=>Q v H
theorem E9{i:Nat}(hN:X.N[i]?=some x)(hv:E8 X.env.scope x)(hd:(x==("__debug__":Str))=false:=by decide)(hcd:(x==("__classdict__":Str))=false:=by decide):PE X (.Name x pos) (Oe i):=by
 intro pins s O H Q I h;obtain⟨v,e,h⟩:=h;obtain⟨m,hn,hl⟩:=I.loc;obtain⟨u,r,l⟩:=hl i x v hN e hv;have fin:EP X pins O Q u s:=⟨v,H,I,r,h⟩;rcases l with⟨hk,hm⟩|⟨hk,c,hc,hcell⟩
 ·exact BS (wpAny_loadName_local I.ok.kind hk hn hm fin) hd
 ·rcases hk with hk|hk
  ·exact BS (wpAny_loadName_cell I.ok.kind hk hc hcell fin) hd
  ·exact BS (wpAny_loadName_free I.ok.kind hk hc hcell fin hcd) hd
theorem Lb{i j pos}:PE X (.Constant (.int i) j pos) (tC (.int i)):=fun _ _ _ H _ I h=>wpAny_Constant_int ⟨.int i,H,I.tok _,⟨_,rfl⟩,h⟩
theorem W5{b j pos}:PE X (.Constant (.bool b) j pos) (tC (.bl b)):=fun _ _ _ H _ I h=>Constant_bool ⟨.bl b,H,I,rfl,h⟩
theorem U3{j pos}:PE X (.Constant .none j pos) (tC .non):=fun _ _ _ H _ I h=>Constant_none ⟨.non,H,I,rfl,h⟩
theorem Lc{x j pos}:PE X (.Constant (.str x) j pos) (tC (.str x)):=fun _ _ _ H _ I h=>Calls.Constant_str ⟨.str x,H,I.tok _,⟨_,rfl⟩,h⟩
def Gl(X:Cx)(x:Str):Prop:=X.env.kindOf x=some .globalImplicit
theorem oG(I:Inv X pins O H s)(hg:Gl X x)(hm:X.mg x=some u)(h:Q u s)
  (hd:(x==("__debug__":Str))=false:=by decide):aJ (aH X.prog X.w) X.A (eval (.Name x pos) X.env) Q E s:=
 qA I.ok.kind hg (Calls.loadGlobal_global (by rw[I.ok.glob];exact I.mod.glob.keeps I.bk) hm h) hd
theorem pU(I:Inv X pins O H s)(hg:Gl X x)(hm:X.mg x=none)(hv:lH x=some u)(h:Q u s)
  (hn:x≠"__name__":=by decide) (hd:(x==("__debug__":Str))=false:=by decide):aJ (aH X.prog X.w) X.A (eval (.Name x pos) X.env) Q E s:=by
 obtain⟨mb,h1,h2⟩:=I.mod.blt;exact qA I.ok.kind hg (Calls.loadGlobal_builtin (by rw[I.ok.glob];exact I.mod.glob.keeps I.bk) hm (by rw[I.ok.blt];exact h1.keeps I.bk) ((h2 x hn).trans hv) h) hd
theorem B9{v:V}(hg:Gl X x)(hm:X.mg x=some u)(r:RelV v u)(hd:(x==("__debug__":Str))=false:=by decide):PE X (.Name x pos) (tC v):=
 fun _ _ _ H _ I h=>oG I hg hm ⟨v,H,I,r,h⟩ hd
variable{a b:Expr}{ta tb:TE}{pos:Pos}
variable{tA tB':TT}{rest:List Expr}
def Yt(t u:TT):TT:=fun O H Q=>t O H fun c H1=>if c=true then u O H1 Q else Q false H1
def tOr(t u:TT):TT:=fun O H Q=>t O H fun c H1=>if c=true then Q true H1 else u O H1 Q
def Yu(t:TT):TT:=fun O H Q=>t O H fun c H1=>Q (!c) H1
theorem pw_and1(ha:PT X a tA):PW X (.BoolOp .And [a] pos) tA:=by
 intro wh pins s O H Q I h;refine KO (aY (ha pins s O H Q I h) fun c s1 e=>?_);cases c with
 |true=>exact isTrue_and_nil e
 |false=>exact e
theorem pw_or1(ha:PT X a tA):PW X (.BoolOp .Or [a] pos) tA:=by
 intro wh pins s O H Q I h;refine isTrue_or (aY (ha pins s O H Q I h) fun c s1 e=>?_);cases c with
 |false=>exact isTrue_or_nil e
 |true=>exact e
theorem pw_and(ha:PT X a tA)(hb:PW X (.BoolOp .And (b::rest) pos) tB'):PW X (.BoolOp .And (a::b::rest) pos) (Yt tA tB'):=by
 intro wh pins s O H Q I h;refine KO (aY (ha pins s O H _ I h) fun c s1 ⟨H1,I1,q1⟩=>?_);cases c with
 |true=>exact hb wh pins s1 O H1 Q I1 q1
 |false=>exact⟨H1,I1,q1⟩
theorem pw_or(ha:PT X a tA)(hb:PW X (.BoolOp .Or (b::rest) pos) tB'):PW X (.BoolOp .Or (a::b::rest) pos) (tOr tA tB'):=by
 intro wh pins s O H Q I h;refine isTrue_or (aY (ha pins s O H _ I h) fun c s1 ⟨H1,I1,q1⟩=>?_);cases c with
 |true=>exact⟨H1,I1,q1⟩
 |false=>exact hb wh pins s1 O H1 Q I1 q1
theorem U4(ha:PT X a tA):PT X (.UnaryOp .Not a pos) (Yu tA):=by
 intro pins s O H Q I h;exact isTrue_not (ha pins s O H (fun c H1=>Q (!c) H1) I h)
theorem Ld{op}{t:TE}(h:PE X a t):PE X (.BoolOp op [a] pos) t:=fun pins s O H Q I hw=>BoolOp_one (h pins s O H Q I hw)
def tIf(t:TT)(ta tb:TE):TE:=fun O H Q=>t O H fun c H1=>if c=true then ta O H1 Q else tb O H1 Q
theorem Of{c:Expr}(hc:PT X c tA)(ha:PE X a ta)(hb:PE X b tb):PE X (.IfExp c a b pos) (tIf tA ta tb):=by
 intro pins s O H Q I h;refine wpAny_IfExp (aY (hc pins s O H _ I h) fun d s1 ⟨H1,I1,q1⟩=>?_);cases d with
 |true=>exact ha pins s1 O H1 Q I1 q1
 |false=>exact hb pins s1 O H1 Q I1 q1
end
end L2
namespace L2
open PySem PySem.Spec PyProof.Rows
def jt(K:PySem.W.Frag)(H:Hp)(a:Addr)(xs:List V):Prop:=
 Rd H a (.lst xs) \/
  ∃(o:Obj) (its:Array Value) (n:Nat),K.lookup a=some o/\o.cls=.type "list"/\o.dict=none/\o.data=.seq its n/\its.size<=aa/\bK xs its.toList
def pV(K:PySem.W.Frag)(H:Hp)(a:Addr)(xs:List V):Prop:=
 Rd H a (.tup xs) \/
  ∃(o:Obj) (its:Array Value) (n:Nat),K.lookup a=some o/\o.cls=.type "tuple"/\o.data=.seq its n/\its.size<=aa/\bK xs its.toList
noncomputable def Yv:Value->Option V
|.none=>some .non
|.bool b=>some (.bl b)
|.int i _=>some (.int i)
|.str x _=>some (.str x)
|.bytes b _=>some (.byt b)
|.float b _=>some (.flt b)
|.ref a=>some (.ref a)
|.type n=>some (.ty n)
|_=>none
variable{u:Value}
theorem RelV.abs{x:V}(r:RelV x u):Yv u=some x:=by
 cases x with
 |non=>cases r;rfl
 |bl _=>cases r;rfl
 |int _=>obtain⟨t,rfl⟩:=r;rfl
 |str _=>obtain⟨t,rfl⟩:=r;rfl
 |byt _=>obtain⟨t,rfl⟩:=r;rfl
 |flt _=>obtain⟨t,rfl⟩:=r;rfl
 |ref _=>cases r;rfl
 |ty _=>cases r;rfl
theorem RelV.inj{x y:V}(r:RelV x u)(q:RelV y u):x=y:=cV (r.abs.symm.trans q.abs)
theorem bK.inj:∀{xs ys:List V}{us:List Value},bK xs us->bK ys us->xs=ys
|_,_,_,.nil,.nil=>rfl
|_,_,_,.cons r t,.cons r' t'=>by rw[r.inj r',bK.inj t t']
section
variable{X:Cx}{pins:List (Addr×Obj)}{O:St}{H:Hp}{s:aj}{a:Addr}{xs ys:List V}
theorem Inv.list(I:Inv X pins O H s)(h:jt X.K H a xs):∃its:List Value,bK xs its/\PlainL s.heap a its.toArray/\xs.length<=aa:=by
 rcases h with h|⟨o,its,n,hk,hc,hd,hs,hz,r⟩
 ·obtain⟨z,its,n,r,e⟩:=h.ok I.hok;exact⟨its,r,⟨_,n,e,rfl,rfl,rfl⟩,z⟩
 ·refine⟨its.toList,r,⟨o,n,I.gn a o hk,hc,hd,by simpa using hs⟩,?_⟩;have e:=r.length;simp only[oz]at e;omega
theorem Inv.tuple(I:Inv X pins O H s)(h:pV X.K H a xs):∃its:List Value,bK xs its/\IsTup s.heap a its.toArray/\xs.length<=aa:=by
 rcases h with h|⟨o,its,n,hk,hc,hs,hz,r⟩
 ·obtain⟨z,its,r,p⟩:=h.ok I.hok;exact⟨its,r,p,z⟩
 ·refine⟨its.toList,r,⟨o,I.gn a o hk,hc,n,by simpa using hs⟩,?_⟩;have e:=r.length;simp only[oz]at e;omega
theorem Inv.z7(I:Inv X pins O H s)(h:jt X.K H a xs)(h':jt X.K H a ys):xs=ys:=by
 obtain⟨its,r,⟨o,n,e,_,_,d⟩,_⟩:=I.list h;obtain⟨its',r',⟨o',n',e',_,_,d'⟩,_⟩:=I.list h';rw[e]at e';cases e';rw[d]at d';injection d' with d1 _;have:its=its':=by simpa using congrArg GX d1
 subst this;exact r.inj r'
theorem Inv.C6(I:Inv X pins O H s)(h:pV X.K H a xs)(h':pV X.K H a ys):xs=ys:=by
 obtain⟨its,r,⟨o,e,_,n,d⟩,_⟩:=I.tuple h;obtain⟨its',r',⟨o',e',_,n',d'⟩,_⟩:=I.tuple h';rw[e]at e';cases e';rw[d]at d';injection d' with d1 _;have:its=its':=by simpa using congrArg GX d1
 subst this;exact r.inj r'
end
noncomputable abbrev Cx.jC(X:Cx)(E:Value->aj->Prop):Cx:={ X with xe:=E }
noncomputable abbrev Cx.xw(X:Cx):Cx:=X.jC fun _ _=>False
variable{X:Cx}
theorem Cx.Ok.jC(ok:X.Ok)(E:Value->aj->Prop):(X.jC E).Ok:=
 ⟨ok.mod,ok.kind,ok.glob,ok.blt,ok.above,ok.inj,ok.has,ok.cab,ok.hd,ok.frames,ok.stk,ok.exf,ok.bs,ok.bsz,ok.noex,ok.exfs,ok.nE,ok.frf⟩
variable{E:Value->aj->Prop}
theorem Cx.Ok.i0(ok:(X.jC E).Ok):X.Ok:=
 ⟨ok.mod,ok.kind,ok.glob,ok.blt,ok.above,ok.inj,ok.has,ok.cab,ok.hd,ok.frames,ok.stk,ok.exf,ok.bs,ok.bsz,ok.noex,ok.exfs,ok.nE,ok.frf⟩
section
variable{X:Cx}{pins:List (Addr×Obj)}{O:St}{H:Hp}{s:aj}{E:Value->aj->Prop}
theorem Inv.jC(I:Inv X pins O H s)(E:Value->aj->Prop):Inv (X.jC E) pins O H s:=⟨I.ok.jC E,I.os,I.bare,I.base,I.loc,I.cell,I.free,I.freeC,I.pin,I.hok,I.len⟩
theorem Inv.i0(I:Inv (X.jC E) pins O H s):Inv X pins O H s:=⟨I.ok.i0,I.os,I.bare,I.base,I.loc,I.cell,I.free,I.freeC,I.pin,I.hok,I.len⟩
theorem SP.i0{D:Ends}{f:Flow}{s':aj}(h:SP (X.jC E) pins D f s'):SP X pins D f s':=by
 cases f with
 |next=>obtain⟨ZC,H',I,q⟩:=h;exact⟨ZC,H',I.i0,q⟩
 |brk=>obtain⟨ZC,H',I,q⟩:=h;exact⟨ZC,H',I.i0,q⟩
 |cont=>obtain⟨ZC,H',I,q⟩:=h;exact⟨ZC,H',I.i0,q⟩
 |ret u=>obtain⟨v,ZC,H',I,r,q⟩:=h;exact⟨v,ZC,H',I.i0,r,q⟩
theorem m9.xw{st:List Stmt}{t:TS}(h:m9 X.xw st t):m9 X st t:=fun pins s O H D I hw=>
 dJ (h pins s O H D (I.jC _) hw) (fun _ _ q=>q.i0) fun _ _ z=>au z
end
variable{pins:List (Addr×Obj)}{O:St}{H:Hp}{s:aj}
section
variable{X:Cx}{st:Stmt}{rest:List Stmt}{t u:TS}{e:Expr}{te:TE}{pos:Pos}
def W6:TS:=fun D O H=>D.nx O H
def Yw(t u:TS):TS:=fun D O H=>t { D with nx:=u D } O H
theorem HS:m9 X [] W6:=fun _ _ O H _ I h=>kU ⟨O,H,I,h⟩
theorem vK(h1:PS X st t)(h2:m9 X rest u):m9 X (st::rest) (Yw t u):=by
 intro pins s O H D I h;refine sS (aY (h1 pins s O H { D with nx:=u D } I h) fun f s1 q=>?_);cases f with
 |next=>
  obtain⟨ZC,H',I',q⟩:=q;exact h2 pins s1 ZC H' D I' q
 |ret v=>exact q
 |brk=>exact q
 |cont=>exact q
def U5:TS:=fun D O H=>D.bk O H
def W7:TS:=fun D O H=>D.ct O H
theorem Og:PS X (.Break pos) U5:=fun _ _ O H _ I h=>wpAny_Break ⟨O,H,I,h⟩
theorem Hi:PS X (.Continue pos) W7:=fun _ _ O H _ I h=>wpAny_Continue ⟨O,H,I,h⟩
theorem Inv.quiet(I:Inv X pins O H s):HG X.env=false:=by simp[HG,I.ok.kind]
def W8(te:TE):TS:=fun D O H=>te O H fun _ H1=>D.nx O H1
theorem SJ(he:PE X e te)(hs:ny e none pos.line X.env=pure false:=by rfl):PS X (.Expr e pos) (W8 te):=by
 intro pins s O H D I h;exact CU (aY (he pins s O H _ I h) fun v s1 ⟨x,H1,I1,r1,q1⟩=>⟨O,H1,I1,q1⟩) I.quiet hs
def Yx(te:TE):TS:=fun D O H=>te O H D.rt
theorem U6(he:PE X e te):PS X (.Return (some e) pos) (Yx te):=by
 intro pins s O H D I h;exact wpAny_Return_some (aY (he pins s O H _ I h) fun v s1 ⟨x,H1,I1,r1,q1⟩=>⟨x,O,H1,I1,r1,q1⟩)
def Yy(c:TT)(t u:TS):TS:=fun D O H=>c O H fun b H1=>if b=true then t D O H1 else u D O H1
theorem W9{c:Expr}{a b:List Stmt}{tc:TT}(hc:PT X c tc)(ha:m9 X a t)(hb:m9 X b u):PS X (.If c a b pos) (Yy tc t u):=by
 intro pins s O H D I h;refine wpAny_If (aY (hc pins s O H _ I h) fun d s1 ⟨H1,I1,q1⟩=>?_);cases d with
 |true=>exact ha pins s1 O H1 D I1 q1
 |false=>exact hb pins s1 O H1 D I1 q1
def U7:TS:=fun _ _ _=>False
theorem Oh:PS X st U7:=fun _ _ _ _ _ _ h=>h.elim
end
noncomputable abbrev TG:=V->St->Hp->(St->Hp->Prop)->Prop
noncomputable abbrev zB:=List V->St->Hp->(St->Hp->Prop)->Prop
def PG(X:Cx)(target:Expr)(t:TG):Prop:=
 ∀(pins:List (Addr×Obj)) (s:aj) (O:St) (H:Hp) (v:V) (u:Value) (Q:St->Hp->Prop),Inv X pins O H s->RelV v u->t v O H Q->
  aJ (aH X.prog X.w) X.A (qp target X.env u) (fun _ s'=>∃ZC H',Inv X pins ZC H' s'/\Q ZC H') X.xe s
def AX(X:Cx)(ts:List Expr)(t:zB):Prop:=
 ∀(pins:List (Addr×Obj)) (s:aj) (O:St) (H:Hp) (vs:List V) (us:List Value) (Q:St->Hp->Prop),Inv X pins O H s->bK vs us->t vs O H Q->
  aJ (aH X.prog X.w) X.A (assignInOrder ((iL ts X.env).map (·.2)) us) (fun _ s'=>∃ZC H',Inv X pins ZC H' s'/\Q ZC H') X.xe s
noncomputable abbrev Oi:=V->V->V->Hp->(Hp->Prop)->Prop
def Oj(X:Cx)(t:Oi):Prop:=
 ∀(pins:List (Addr×Obj)) (s:aj) (O:St) (H:Hp) (o i v:V) (ov iv u:Value) (Q:Hp->Prop),Inv X pins O H s->RelV o ov->RelV i iv->RelV v u->t o i v H Q->
  aJ (aH X.prog X.w) X.A (Jb ov iv u) (fun _ s'=>∃H',Inv X pins O H' s'/\Q H') X.xe s
variable{e:Expr}{es:List Expr}
variable{tg:Expr}
section
variable{X:Cx}{pos:Pos}
def W_(i:Nat):TG:=fun v O H Q=>Q (O.set i (some v)) H
theorem HU{i:Nat}{x:Str}(hN:X.N.Nodup)(hi:X.N[i]?=some x)(hx:Loc X.env.scope x)(hf:X.fn x=true\/X.env.scope.names.lookup x=some .local:=by first|exact .inl rfl|exact .inr rfl|assumption):PG X (.Name x pos) (W_ i):=by
 intro pins s O H v u Q I r h;exact zh (z6 I hN hi hx r (fun s' I'=>⟨_,H,I',h⟩) hf)
def Yz:zB:=fun vs O H Q=>vs=[]/\Q O H
def Xa(t:TG)(u:zB):zB:=fun vs O H Q=>∃v r,vs=v::r/\t v O H fun ZC H'=>u r ZC H' Q
theorem SK:AX X [] Yz:=by
 intro pins s O H vs us Q I r h;obtain⟨e,h⟩:=h;subst e;cases r;exact assignInOrder_nil ⟨O,H,I,h⟩
theorem Ol{t:TG}{u:zB}(h1:PG X e t)(h2:AX X es u)
  (hs:(iL (e::es) X.env).map (·.2)=qp e X.env::(iL es X.env).map (·.2):=by rfl):AX X (e::es) (Xa t u):=by
 intro pins s O H vs us Q I r h;obtain⟨v,vr,e1,h⟩:=h;subst e1;cases r with
 |cons r rr=>
  rw[hs];refine assignInOrder_cons (aY (h1 pins s O H _ _ _ I r h) fun _ s1 ⟨ZK,H1,I1,q1⟩=>?_);exact h2 pins s1 ZK H1 _ _ Q I1 rr q1
def YA(K:PySem.W.Frag)(n:Nat)(t:zB):TG:=fun v O H Q=>∃a xs,v=.ref a/\pV K H a xs/\xs.length=n/\t xs O H Q
theorem U8{k:Nat}{t:zB}{n:Nat}(hc:X.calm=true)(h:AX X es t)
  (hn:(iL es X.env).length=n:=by rfl) (hst:(iL es X.env).findIdx? (·.1)=none:=by rfl):PG X (.Tuple es k pos) (YA X.K n t):=by
 intro pins s O H v u Q I r hw;obtain⟨a,xs,e1,hq,hl,hw⟩:=hw;subst e1;cases r;obtain⟨its,rv,ht,hz⟩:=I.tuple hq;refine assign_Tuple_tuple (I.ok.hd hc) ht (by simp[hn,<-hl,rv.length]) hst fun h' hx=>?_;have I1:Inv X pins O H { s with heap:=h' }:=I.kept (t':=s.toks) fun b o e=>hx b o (b8 (be e)) e;exact h pins _ O H xs _ Q I1 (by simpa using rv) hw
def YB(to ti:TE)(t:Oi):TG:=fun v O H Q=>to O H fun o H1=>ti O H1 fun i H2=>t o i v H2 fun H3=>Q O H3
theorem U9{o i:Expr}{to ti:TE}{t:Oi}(ho:PE X o to)(hi:PE X i ti)(hs:Oj X t)
  (ha:∀v,qp (.Subscript o i pos) X.env v=(do
   let ov <-o6 [v] (eval o X.env)
   let iv <-o6 [v,ov] (eval i X.env)
   vq pos
   o6 [v,ov,iv] (Jb ov iv v)
   release [v,ov,iv] []):=by intro _;rfl):PG X (.Subscript o i pos) (YB to ti t):=by
 intro pins s O H v u Q I r h;rw[ha];refine aq (jr (aY (ho pins s O H _ I h) fun ov s1 ⟨x,H1,I1,r1,q1⟩=>?_));refine aq (jr (aY (hi pins s1 O H1 _ I1 q1) fun iv s2 ⟨y,H2,I2,r2,q2⟩=>?_));refine aq (mQ (aq (jr (aY (hs pins s2 O H2 x y v ov iv u _ I2 r1 r2 r q2) fun _ s3 ⟨H3,I3,q3⟩=>?_))));exact wpAny_release ⟨O,H3,I3,q3⟩
def YC(te:TE)(g:TG):TS:=fun D O H=>te O H fun x H1=>g x O H1 D.nx
theorem U_{te:TE}{g:TG}(he:PE X e te)(hg:PG X tg g)(hs:xh [tg] e pos.line X.env=pure false:=by rfl)(hw:xj [tg] e X.env=pure none:=by rfl)
  (h1:(iL [tg] X.env).map (·.2)=[qp tg X.env]:=by rfl):PS X (.Assign [tg] e pos) (YC te g):=by
 intro pins s O H D I h;refine wpAny_Assign_stores (aY (he pins s O H _ I h) fun v s1 ⟨x,H1,I1,r1,q1⟩=>?_) hs hw;rw[h1];exact aY (hg pins s1 O H1 x v _ I1 r1 q1) fun _ s2 q=>q
end
structure It where
 go:Nat->Hp->Prop
 yld:Nat->Hp->V->Hp->Prop
 stop:Nat->Hp->Prop
def mh(X:Cx)(pins:List (Addr×Obj))(H:Hp)(b:Addr):Prop:=
 H b=none/\b≠X.env.locals/\b∉X.fs/\(b∈X.ex\/X.ZD.heap.objs.size<=b)/\(∀x c,X.env.cells.lookup x=some c->c≠b)/\∀p∈X.pn++pins,p.1≠b
theorem Inv.qq{H':Hp}{b:Addr}(I:Inv X pins O H s)(hb:s.heap.objs.size<=b)(hn:H' b=none):mh X pins H' b:=by
 refine⟨hn,yx (bO I.lt hb),I.Ys hb,.inr (d9 I.sz hb),fun x c e z=>?_,fun p hp z=>?_⟩
 ·obtain⟨v,q⟩:=I.cell x c e;exact absurd (bO q.lt (by rw[z];exact hb)) (d8 _)
 ·exact absurd (bO (be (I.pin p hp).1) (by rw[z];exact hb)) (d8 _)
structure Turn (P:bJ) (w:bS) (K:PySem.W.Frag) (tg:Expr) (J:It) (fp:List Addr) (it:Addr) (tn:Nat->Heap->Prop):Prop where
 mem:it∈fp
 obj:∀i h,tn i h->∀b∈fp,∃o,h.get? b=some o/\∀v,o.data≠.cell v
 keep:∀i h h',tn i h->(∀b∈fp,∀o,h.get? b=some o->h'.get? b=some o)->tn i h'
 item:∀(X:Cx),X.prog=P->X.w=w->X.K=K->X.calm=true->∀(i:Nat) (pins:List (Addr×Obj)) (s:aj) (O:St) (H:Hp) (E:Value->aj->Prop),Inv X pins O H s->(∀b∈fp,mh X pins H b)->tn i s.heap->J.go i H->
  aJ (aH P w) X.A (NW (.ref it)) (fun r s1=>∃u,r=some u /\
   aJ (aH P w) X.A (nZ tg (.ref it) u) (fun _ s2=>∃x H',Inv X pins O H' s2/\RelV x u/\J.yld i H x H'/\tn (i+1) s2.heap/\∀b∈fp,H' b=none) E s1) E s
 done:∀(X:Cx),X.prog=P->X.w=w->X.K=K->X.calm=true->∀(i:Nat) (pins:List (Addr×Obj)) (s:aj) (O:St) (H:Hp) (E:Value->aj->Prop),Inv X pins O H s->(∀b∈fp,mh X pins H b)->tn i s.heap->J.stop i H->
  aJ (aH P w) X.A (NW (.ref it)) (fun r s1=>r=none/\Inv X pins O H s1) E s
 self:∀(A:dh) (i:Nat) (s:aj) (Q:Value->aj->Prop) (E:Value->aj->Prop),tn i s.heap->Q (.ref it) s->aJ (aH P w) A (vt (.ref it)) Q E s
noncomputable abbrev TI:=St->Hp->(It->Hp->Prop)->Prop
def X7(X:Cx)(pins:List (Addr×Obj))(O:St)(tg:Expr)(R:It->Hp->Prop)(itv:Value)(s2:aj):Prop:=
 ∃(it:Addr) (fp:List Addr) (tn:Nat->Heap->Prop) (J:It) (H':Hp),itv=.ref it/\Inv X pins O H' s2/\Turn X.prog X.w X.K tg J fp it tn/\tn 0 s2.heap/\(∀b∈fp,mh X pins H' b)/\R J H'
def PI(X:Cx)(tg iter:Expr)(wi:TI):Prop:=
 ∀(pins:List (Addr×Obj)) (s:aj) (O:St) (H:Hp) (R:It->Hp->Prop),Inv X pins O H s->wi O H R->
  aJ (aH X.prog X.w) X.A (eval iter X.env) (fun v s1=>aJ (aH X.prog X.w) X.A (vt v) (X7 X pins O tg R) X.xe s1) X.xe s
theorem AY{M:KL}{A:dh}{it:Addr}{o:Obj}{n:String}{vs:Array Value}{Q:Unit->aj->Prop}(ho:s.heap.get? it=some o)(hc:o.cls=.type n)(hd:o.data=.fields vs)
  (hn:["enumerate","zip","dict_itemiterator","dict_reverseitemiterator","odict_iterator","itertools.zip_longest","itertools.pairwise"].contains n=false) (hQ:Q () s):aJ M A (nZ tg (.ref it) u) Q E s:=by
 unfold nZ;cases tg<;>first
  |exact a9 hQ
  |(cases u<;>first
    |exact a9 hQ
    |(refine aq (wpAny_load ho ?_)
      rw[hc,hd];show aJ M A (if(["enumerate","zip","dict_itemiterator","dict_reverseitemiterator","odict_iterator","itertools.zip_longest","itertools.pairwise"].contains n&&vs[0]?==some (jX _))=true then _ else _) Q E s;rw[if_neg (by intro h;rw[hn,vv]at h;cases h)];exact a9 hQ))
noncomputable def X8(K:PySem.W.Frag)(a:Addr):It:=
 ⟨fun i H=>∃xs x,jt K H a xs/\xs[i]?=some x,fun i H x H'=>H'=H/\∀xs,jt K H a xs->xs[i]?=some x,fun i H=>∃xs,jt K H a xs/\xs.length<=i⟩
noncomputable def X_(K:PySem.W.Frag)(a:Addr):It:=
 ⟨fun i H=>∃xs x,pV K H a xs/\xs[i]?=some x,fun i H x H'=>H'=H/\∀xs,pV K H a xs->xs[i]?=some x,fun i H=>∃xs,pV K H a xs/\xs.length<=i⟩
noncomputable def RU(lo:Int)(n:Nat):It:=⟨fun i _=>i<n,fun i H x H'=>H'=H/\x=.int (lo+i),fun i _=>n<=i⟩
variable{P:bJ}{w:bS}{K:PySem.W.Frag}
theorem Le(a it:Addr):Turn P w K tg (X8 K a) [it] it (fun i h=>h.IsListIter it a i) where
 mem:=by simp
 obj:=fun i h st b hb=>by
  have e:b=it:=by simpa using hb
  subst e;obtain⟨o,e,c,d⟩:=st;exact⟨o,e,fun v z=>by rw[d]at z;cases z⟩
 keep:=fun i h h' st k=>st.at fun o e=>k it (by simp) o e
 item:=by
  intro X hP hw hK hc i pins s O H E I hf st hg;subst hP hw hK;obtain⟨xs,x,hq,hx⟩:=hg;obtain⟨its,rv,p,hz⟩:=I.list hq;obtain⟨u,hu,ru⟩:=rv.get hx;obtain⟨f0,f1,f2,f3,f4,f5⟩:=hf it (by simp);refine wpAny_pyNext_list_item st p.isList (x:=u) (by simpa using hu) fun h' st' sb=>?_;have I1:Inv X pins O H { s with heap:=h' }:=I.turned (t':=s.toks) (fun b o hb e=>(sb.2 b hb).trans e) f0 f1 f3 f4 f5;obtain⟨o,e,c,d⟩:=id st';exact⟨u,rfl,AY (s:={ s with heap:=h' }) e c d (by decide) ⟨x,H,I1,ru,⟨rfl,fun ys hy=>by rw[I.z7 hy hq];exact hx⟩,st',fun b hb=>(hf b hb).1⟩⟩
 done:=by
  intro X hP hw hK hc i pins s O H E I hf st hg;subst hP hw hK;obtain⟨xs,hq,hx⟩:=hg;obtain⟨its,rv,p,hz⟩:=I.list hq;obtain⟨f0,f1,f2,f3,f4,f5⟩:=hf it (by simp);have hl:=rv.length;exact wpAny_pyNext_list_end (I.ok.hd hc) st p.isList (by simp;omega) fun h' eb=>⟨rfl,I.turned (t':=s.toks) (fun b o hb e=>eb b o hb e) f0 f1 f3 f4 f5⟩
 self:=fun _ _ _ _ _ st h=>wpAny_pyIter_listiter st h
theorem Jg(a it:Addr):Turn P w K tg (X_ K a) [it] it (fun i h=>h.IsTupleIter it a i) where
 mem:=by simp
 obj:=fun i h st b hb=>by
  have e:b=it:=by simpa using hb
  subst e;obtain⟨o,e,c,d⟩:=st;exact⟨o,e,fun v z=>by rw[d]at z;cases z⟩
 keep:=fun i h h' st k=>st.at fun o e=>k it (by simp) o e
 item:=by
  intro X hP hw hK hc i pins s O H E I hf st hg;subst hP hw hK;obtain⟨xs,x,hq,hx⟩:=hg;obtain⟨its,rv,p,hz⟩:=I.tuple hq;obtain⟨u,hu,ru⟩:=rv.get hx;obtain⟨f0,f1,f2,f3,f4,f5⟩:=hf it (by simp);refine wpAny_pyNext_tuple_item st (show s.heap.IsTuple a its.toArray from p) (x:=u) (by simpa using hu) fun h' st' sb=>?_;have I1:Inv X pins O H { s with heap:=h' }:=I.turned (t':=s.toks) (fun b o hb e=>(sb.2 b hb).trans e) f0 f1 f3 f4 f5;obtain⟨o,e,c,d⟩:=id st';exact⟨u,rfl,AY (s:={ s with heap:=h' }) e c d (by decide) ⟨x,H,I1,ru,⟨rfl,fun ys hy=>by rw[I.C6 hy hq];exact hx⟩,st',fun b hb=>(hf b hb).1⟩⟩
 done:=by
  intro X hP hw hK hc i pins s O H E I hf st hg;subst hP hw hK;obtain⟨xs,hq,hx⟩:=hg;obtain⟨its,rv,p,hz⟩:=I.tuple hq;obtain⟨f0,f1,f2,f3,f4,f5⟩:=hf it (by simp);have hl:=rv.length;exact wpAny_pyNext_tuple_end (I.ok.hd hc) st (show s.heap.IsTuple a its.toArray from p) (by simp;omega) fun h' eb=>⟨rfl,I.turned (t':=s.toks) (fun b o hb e=>eb b o hb e) f0 f1 f3 f4 f5⟩
 self:=fun _ _ _ _ _ st h=>wpAny_pyIter_tupleiter st h
theorem Jh(it:Addr)(lo:Int)(n:Nat):Turn P w K tg (RU lo n) [it] it (fun i h=>HH h it (lo+(i:Nat)*1) ((n:Int)-(i:Nat)) 1) where
 mem:=by simp
 obj:=fun i h st b hb=>by
  have e:b=it:=by simpa using hb
  subst e;exact⟨_,st,fun v z=>by
   have z':Data.fields _=Data.cell v:=z;cases z'⟩
 keep:=fun i h h' st k=>k it (by simp) _ st
 item:=by
  intro X hP hw hK hc i pins s O H E I hf st hg;subst hP hw hK;obtain⟨f0,f1,f2,f3,f4,f5⟩:=hf it (by simp);have W:=Walks.range (prog:=X.prog) (w:=X.w) (I.ok.hd hc) it lo 1 n;refine W.item i s _ _ hg st fun v h' tk hv st' kk=>?_;obtain⟨t,rfl⟩:=hv;have I1:Inv X pins O H { s with heap:=h',toks:=tk }:=I.turned (fun b o hb e=>kk b o (by simpa using hb) e) f0 f1 f3 f4 f5;refine⟨_,rfl,AY (s:={ s with heap:=h',toks:=tk }) (n:="range_iterator") st' rfl rfl (by decide) ⟨.int (lo+i),H,I1,⟨t,?_⟩,⟨rfl,rfl⟩,st',fun b hb=>(hf b hb).1⟩⟩;rw[Int.mul_one]
 done:=by
  intro X hP hw hK hc i pins s O H E I hf st hg;subst hP hw hK;obtain⟨f0,f1,f2,f3,f4,f5⟩:=hf it (by simp);exact wpAny_pyNext_range_end (I.ok.hd hc) st (by have:n<=i:=hg;omega) fun h' eb=>⟨rfl,I.turned (t':=s.toks) (fun b o hb e=>eb b o hb e) f0 f1 f3 f4 f5⟩
 self:=fun _ _ _ _ _ st h=>wpAny_pyIter_rangeiter st h
end L2
namespace L2
open PySem PySem.Spec PyProof.Rows
variable{pins:List (Addr×Obj)}{O:St}{H:Hp}{s:aj}
variable{fp:List Addr}{h:Heap}
section
variable{X:Cx}{tg:Expr}
theorem Om{R:It->Hp->Prop}{E:Value->aj->Prop}{lo hi:Int}{t u v:Tok}{tk:Nat}(I:Inv X pins O H s)(h1:-(2 ^ 62)<=lo)(h2:lo<2 ^ 62)(h3:-(2 ^ 62)<=hi)(h4:hi<2 ^ 62)
  (q:R (RU lo (hi-lo).toNat) H):aJ (aH X.prog X.w) X.A (vt (.ref s.heap.objs.size)) (X7 X pins O tg R) E { s with heap:=s.heap.push { cls:=.type "range",data:=.fields #[.int lo t,.int hi u,.int 1 v] },toks:=tk }:=by
 refine wpAny_pyIter_range (W1 ..) (small_one h1 h2 h3 h4) ?_;have I1:Inv X pins O H { s with heap:=s.heap.push { cls:=.type "range",data:=.fields #[.int lo t,.int hi u,.int 1 v] },toks:=tk }:=I.kept fun b o e=>aM _ e;refine⟨(s.heap.push { cls:=.type "range",data:=.fields #[.int lo t,.int hi u,.int 1 v] }).objs.size,[(s.heap.push { cls:=.type "range",data:=.fields #[.int lo t,.int hi u,.int 1 v] }).objs.size],_,_,H,rfl,
  I1.kept (t':=tk) fun b o e=>aM _ e,Jh _ lo (hi-lo).toNat,?_,fun b hb=>?_,q⟩
 ·have e1:lo+((0:Nat):Int)*1=lo:=by simp
  have e2:(((hi-lo).toNat:Nat):Int)-((0:Nat):Int)=Hg lo hi 1:=by rw[rangeSize_one];split<;>omega
  show HH _ _ (lo+((0:Nat):Int)*1) ((((hi-lo).toNat:Nat):Int)-((0:Nat):Int)) 1;rw[e1,e2];exact bU _ rfl
 ·have e:b=(s.heap.push { cls:=.type "range",data:=.fields #[.int lo t,.int hi u,.int 1 v] }).objs.size:=by simpa using hb
  subst e;exact I1.qq (aP _) (I1.hok.fresh (aP _))
def YD(wi:TI)(g:TG)(tb:TS):TS:=fun D O H=>wi O H fun J H1=>∃W:Nat->Nat->St->Hp->Prop,(∃m,W 0 m O H1)/\∀i m O H,W i m O H->
 (J.stop i H/\D.nx O H)\/(J.go i H/\∃N:St->Hp->Prop,(∀ZC H',N ZC H'->∃m',m'<m/\W (i+1) m' ZC H')/\∀x H',J.yld i H x H'->g x O H' fun ZE H2=>tb { D with nx:=N,ct:=N,bk:=D.nx } ZE H2)
noncomputable def xx(fp:List Addr)(h:Heap):List (Addr×Obj):=fp.filterMap fun b=>(h.get? b).map fun o=>(b,o)
theorem qT{b:Addr}{o:Obj}(hb:b∈fp)(e:h.get? b=some o):(b,o)∈xx fp h:=yy.mpr ⟨b,hb,by rw[e];rfl⟩
theorem Lf{p:Addr×Obj}(hp:p∈xx fp h):p.1∈fp/\h.get? p.1=some p.2:=by
 obtain⟨b,hb,e⟩:=yy.mp hp;cases q:h.get? b with
 |none=>rw[q]at e;cases e
 |some o=>
  rw[q]at e;have e':(b,o)=p:=cV e;subst e';exact⟨hb,q⟩
theorem Inv.pinned(I:Inv X pins O H s)(hf:∀b∈fp,mh X pins H b)(ho:∀b∈fp,∃o,s.heap.get? b=some o/\∀v,o.data≠.cell v):Inv X (pins++xx fp s.heap) O H s:=
 I.yQ fun p hp=>(aT.mp hp).elim (fun z=>I.pin p (ay _ z)) fun z=>by
  obtain⟨hb,e⟩:=Lf z;obtain⟨f0,f1,f2,_⟩:=hf p.1 hb;obtain⟨o,e',d⟩:=ho p.1 hb;rw[e]at e';cases e';exact⟨e,f0,f1,f2,d⟩
theorem Inv.vL{pl:List (Addr×Obj)}(I:Inv X (pins++pl) O H s):Inv X pins O H s:=I.yQ fun p hp=>I.pin p (ay _ (aL _ hp))
theorem Va{iter:Expr}{body:List Stmt}{wi:TI}{g:TG}{tb:TS}{pos:Pos}(hp:yz (aH X.prog X.w) X.A X.env X.xe)(hc:X.calm=true)(hi:PI X tg iter wi)(hg:PG X tg g)(hb:m9 X body tb)
  (hs:∀x,jL iter X.env x=pure x:=by intro _;rfl):PS X (.For tg iter body [] pos) (YD wi g tb):=by
 intro pins s O H D I h;refine wpAny_For (aY (hi pins s O H _ I h) fun v s1 h1=>aY h1 fun itv s2 h2=>?_) hs;obtain⟨it,fp,tn,J,H2,e,I2,T,st2,f2,W,⟨m0,w0⟩,turn⟩:=h2;subst e;have stat:∀{H':Hp},(∀b∈fp,H' b=none)->∀b∈fp,mh X pins H' b:=fun hn b hb=>⟨hn b hb,(f2 b hb).2⟩;refine codeAny_forLoop_any (fun n s'=>∃i ZC H',Inv X pins ZC H' s'/\tn i s'.heap/\(∀b∈fp,H' b=none)/\W i n ZC H') ?_ m0 ⟨0,O,H2,I2,st2,fun b hb=>(f2 b hb).1,w0⟩;rintro n s3 ⟨i,ZG,H3,I3,st3,fr3,w3⟩;rcases turn i n ZG H3 w3 with⟨stop,qn⟩|⟨go,N,hN,step⟩
 ·refine kW hp (aY (T.done X rfl rfl rfl hc i pins s3 ZG H3 X.xe I3 (stat fr3) st3 stop) fun r s4 ⟨hr,I4⟩=>?_);subst hr;exact kU ⟨ZG,H3,I4,qn⟩
 ·refine kW hp (aY (T.item X rfl rfl rfl hc i pins s3 ZG H3 X.xe I3 (stat fr3) st3 go) fun r s4 ⟨u,hr,h4⟩=>?_);subst hr;refine kW hp (aY h4 fun _ s5 ⟨x,H5,I5,r5,y5,st5,fr5⟩=>?_);have I5':=I5.pinned (stat fr5) (T.obj _ _ st5);refine kW hp (aY (hg _ s5 ZG H5 x u _ I5' r5 (step x H5 y5)) fun _ s6 ⟨ZN,H6,I6,q6⟩=>?_);refine kW hp (aY (hb _ s6 ZN H6 _ I6 q6) fun f s7 q7=>?_);have again:∀{ZL:St}{H7:Hp},Inv X (pins++xx fp s5.heap) ZL H7 s7->N ZL H7->∃m,m<n/\∃i ZC H',Inv X pins ZC H' s7/\tn i s7.heap/\(∀b∈fp,H' b=none)/\W i m ZC H':=fun{ZL H7} I7 n7=>by
   obtain⟨m',hm,w7⟩:=hN ZL H7 n7;refine⟨m',hm,i+1,ZL,H7,I7.vL,T.keep _ _ _ st5 fun b hb o e=>(I7.pin (b,o) (ay _ (ay _ (qT hb e)))).1,fun b hb=>?_,w7⟩;obtain⟨o,e,d⟩:=T.obj _ _ st5 b hb;exact(I7.pin (b,o) (ay _ (ay _ (qT hb e)))).2.1
  cases f with
  |next=>obtain⟨ZL,H7,I7,n7⟩:=q7;exact again I7 n7
  |cont=>obtain⟨ZL,H7,I7,n7⟩:=q7;exact again I7 n7
  |brk=>obtain⟨ZL,H7,I7,q7⟩:=q7;exact⟨ZL,H7,I7.vL,q7⟩
  |ret v=>obtain⟨x7,ZL,H7,I7,r7,q7⟩:=q7;exact⟨x7,ZL,H7,I7.vL,r7,q7⟩
end
end L2
namespace L2
open PySem PySem.Spec PyProof.Rows
noncomputable abbrev R2:=V->V->Hp->VK->Prop
def jJ(X:Cx)(f:Value->Value->Sem Value)(r:R2):Prop:=
 ∀(pins:List (Addr×Obj)) (s:aj) (O:St) (H:Hp) (x y:V) (v u:Value) (Q:VK),Inv X pins O H s->RelV x v->RelV y u->r x y H Q->
  aJ (aH X.prog X.w) X.A (f v u) (EP X pins O Q) X.xe s
def Yb(X:Cx)(f:Value->Sem Value)(r:V->Hp->VK->Prop):Prop:=
 ∀(pins:List (Addr×Obj)) (s:aj) (O:St) (H:Hp) (x:V) (v:Value) (Q:VK),Inv X pins O H s->RelV x v->r x H Q->
  aJ (aH X.prog X.w) X.A (f v) (EP X pins O Q) X.xe s
def mH(X:Cx)(f:Value)(r:List V->Hp->VK->Prop):Prop:=
 ∀(pins:List (Addr×Obj)) (s:aj) (O:St) (H:Hp) (xs:List V) (us:List Value) (Q:VK),Inv X pins O H s->bK xs us->r xs H Q->
  aJ (aH X.prog X.w) X.A (call f us) (EP X pins O Q) X.xe s
def Vb(X:Cx)(r:V->Hp->(Bool->Hp->Prop)->Prop):Prop:=
 ∀(pins:List (Addr×Obj)) (s:aj) (O:St) (H:Hp) (x:V) (v:Value) (Q:Bool->Hp->Prop),Inv X pins O H s->RelV x v->r x H Q->
  aJ (aH X.prog X.w) X.A (BU v) (TP X pins O Q) X.xe s
def Vc(r:R2)(ta tb:TE):TE:=fun O H Q=>ta O H fun x H1=>tb O H1 fun y H2=>r x y H2 Q
noncomputable def rI(C:Int->Int->Prop)(g:Int->Int->V):R2:=fun x y H Q=>∃i j,x=.int i/\y=.int j/\C i j/\Q (g i j) H
noncomputable def C7(g:Int->Int->V):R2:=fun x y H Q=>∃i j,x=.int i/\y=.int j/\Q (g i j) H
def rU(g:Int->V):V->Hp->VK->Prop:=fun x H Q=>∃i,x=.int i/\Q (g i) H
variable{pins:List (Addr×Obj)}{s:aj}{O:St}{H:Hp}
variable{r:R2}
variable{f:Value->Value->Sem Value}{g:Int->Int->Int}
section
variable{X:Cx}{a b c:Expr}{ta tb tc:TE}{pos:Pos}
theorem Oo(ha:PE X a ta)(hb:PE X b tb){R:V->V->Hp->Prop}(I:Inv X pins O H s)
  (h:ta O H fun x H1=>tb O H1 fun y H2=>R x y H2) {Q:Value->aj->Prop}{f:Value->Value->Sem Value}
  (hf:∀v u s2 x y H2,Inv X pins O H2 s2->RelV x v->RelV y u->R x y H2->aJ (aH X.prog X.w) X.A (f v u) Q X.xe s2) :
  aJ (aH X.prog X.w) X.A (eval a X.env) (fun v ZF=>aJ (aH X.prog X.w) X.A (eval b X.env) (fun u ZH=>aJ (aH X.prog X.w) X.A (f v u) Q X.xe ZH) X.xe ZF) X.xe s:=by
 refine aY (ha pins s O H _ I h) fun v s1 ⟨x,H1,I1,r1,q1⟩=>?_;refine aY (hb pins s1 O H1 _ I1 q1) fun u s2 ⟨y,H2,I2,r2,q2⟩=>?_;exact hf v u s2 x y H2 I2 r1 r2 q2
theorem Xb{op:sU}(ho:jJ X (gR op) r)(ha:PE X a ta)(hb:PE X b tb):PE X (.BinOp a op b pos) (Vc r ta tb):=by
 intro pins s O H Q I h;exact wpAny_BinOp (Oo ha hb I h fun v u s2 x y H2 I2 rx ry q=>ho pins s2 O H2 x y v u Q I2 rx ry q)
theorem RV{C:Int->Int->Prop}
  (rule:∀(i j:Int) (t u:Tok) (s:aj) (Q:Value->aj->Prop) (E:Value->aj->Prop),C i j->Q (.int (g i j) s.toks) { s with toks:=s.toks+1 }->aJ (aH X.prog X.w) X.A (f (.int i t) (.int j u)) Q E s) :
  jJ X f (rI C fun i j=>.int (g i j)):=by
 intro pins s O H x y v u Q I rx ry h;obtain⟨i,j,rfl,rfl,hc,q⟩:=h;obtain⟨t,rfl⟩:=rx;obtain⟨t',rfl⟩:=ry;exact rule i j t t' s _ _ hc ⟨.int (g i j),H,I.tok _,⟨_,rfl⟩,q⟩
theorem Vd
  (rule:∀(i j:Int) (t u:Tok) (s:aj) (Q:Value->aj->Prop) (E:Value->aj->Prop),Q (.int (g i j) s.toks) { s with toks:=s.toks+1 }->aJ (aH X.prog X.w) X.A (f (.int i t) (.int j u)) Q E s) :
  jJ X f (C7 fun i j=>.int (g i j)):=by
 intro pins s O H x y v u Q I rx ry h;obtain⟨i,j,rfl,rfl,q⟩:=h;obtain⟨t,rfl⟩:=rx;obtain⟨t',rfl⟩:=ry;exact rule i j t t' s _ _ ⟨.int (g i j),H,I.tok _,⟨_,rfl⟩,q⟩
theorem Ji{g:Int->Int->Bool}
  (rule:∀(i j:Int) (t u:Tok) (s:aj) (Q:Value->aj->Prop) (E:Value->aj->Prop),Q (.bool (g i j)) s->aJ (aH X.prog X.w) X.A (f (.int i t) (.int j u)) Q E s) :
  jJ X f (C7 fun i j=>.bl (g i j)):=by
 intro pins s O H x y v u Q I rx ry h;obtain⟨i,j,rfl,rfl,q⟩:=h;obtain⟨t,rfl⟩:=rx;obtain⟨t',rfl⟩:=ry;exact rule i j t t' s _ _ ⟨.bl (g i j),H,I,rfl,q⟩
def vM(i j:Int):Prop:=0<j/\j<1073741824
def vN(i j:Int):Prop:=0<=j/\j<=1000000/\i.natAbs<2 ^ 64
def uB(i j:Int):Prop:=(-(2 ^ 64)<i/\i<2 ^ 64)\/(-(2 ^ 64)<j/\j<2 ^ 64)
theorem uB.ok{i j:Int}(h:uB i j):IntMulOk i j:=by
 rcases h with⟨h1,h2⟩|⟨h1,h2⟩
 ·exact .of_left (EI h1 h2)
 ·exact .of_right (EI h1 h2)
theorem Ve:jJ X (gR .Add) (C7 fun i j=>.int (i+j)):=Vd fun _ _ _ _ _ _ _ q=>add_int q
theorem Vf:jJ X (gR .Sub) (C7 fun i j=>.int (i-j)):=Vd fun _ _ _ _ _ _ _ q=>sub_int q
theorem Vg:jJ X (gR .Mult) (rI uB fun i j=>.int (i*j)):=RV fun _ _ _ _ _ _ _ hc q=>mul_int q hc.ok
theorem SM:jJ X (gR .FloorDiv) (rI vM fun i j=>.int (i / j)):=RV fun i j _ _ _ _ _ hc q=>by
 have h1:(0:Int)<j:=hc.1;have h2:j<1073741824:=hc.2;exact floordiv_int (by omega) (by rw[Int.fdiv_eq_ediv_of_nonneg i (by omega)];exact q) (.inl (HJ (by omega)))
theorem Vh:jJ X (gR .Mod) (rI (fun _ j=>0<j) fun i j=>.int (i%j)):=RV fun i j _ _ _ _ _ hc q=>by
 have h1:(0:Int)<j:=hc;exact mod_int' (by omega) (by rw[Int.fmod_eq_emod_of_nonneg i (by omega)];exact q)
theorem Vi:jJ X (gR .Pow) (rI vN fun i j=>.int (i ^ j.toNat)):=RV fun _ _ _ _ _ _ _ hc q=>pow_int_small hc.1 hc.2.1 hc.2.2 q
theorem unI{f:Value->Sem Value}{g:Int->Int}
  (rule:∀(i:Int) (t:Tok) (s:aj) (Q:Value->aj->Prop) (E:Value->aj->Prop),Q (.int (g i) s.toks) { s with toks:=s.toks+1 }->aJ (aH X.prog X.w) X.A (f (.int i t)) Q E s) :
  Yb X f (rU fun i=>.int (g i)):=by
 intro pins s O H x v Q I rx h;obtain⟨i,rfl,q⟩:=h;obtain⟨t,rfl⟩:=rx;exact rule i t s _ _ ⟨.int (g i),H,I.tok _,⟨_,rfl⟩,q⟩
theorem Vj:Yb X (unaryOp .USub) (rU fun i=>.int (-i)):=unI fun _ _ _ _ _ q=>neg_int q
end
variable{op:n9}
variable{us:List Value}
section
variable{X:Cx}{a b c:Expr}{ta tb tc:TE}{pos:Pos}
theorem AZ{Q:VK}{k k':Bool}(I:Inv X pins O H s)(q:Q (.bl k) H)(e:k=k'):EP X pins O Q (.bool k') s:=by
 subst e;exact⟨.bl k,H,I,rfl,q⟩
theorem Xc:jJ X (gf .Lt) (C7 fun i j=>.bl (decide (i<j))):=Ji fun _ _ _ _ _ _ _ q=>lt_int q
theorem Xd:jJ X (gf .LtE) (C7 fun i j=>.bl (decide (i<=j))):=Ji fun _ _ _ _ _ _ _ q=>le_int q
theorem Xe:jJ X (gf .Gt) (C7 fun i j=>.bl (decide (j<i))):=Ji fun _ _ _ _ _ _ _ q=>gt_int q
theorem Xf:jJ X (gf .GtE) (C7 fun i j=>.bl (decide (j<=i))):=Ji fun _ _ _ _ _ _ _ q=>ge_int q
theorem Lg:jJ X (gf .Lt) (fun x y H Q=>∃i j,x=.str i/\y=.str j/\Q (.bl (decide (i.cps.toList<j.cps.toList))) H):=by
 intro pins s O H x y v u Q I rx ry h;obtain⟨i,j,rfl,rfl,q⟩:=h;obtain⟨t,rfl⟩:=rx;obtain⟨t',rfl⟩:=ry;exact lt_str (AZ I q rfl)
theorem Vk:jJ X (gf .Is) (fun x y H Q=>y=.non/\Q (.bl (decide (x=.non))) H):=by
 intro pins s O H x y v u Q I rx ry h;obtain⟨rfl,q⟩:=h;cases ry;refine is_none_gen (AZ I q ?_);cases x<;>first
  |(cases rx;rfl)
  |(obtain⟨t,rfl⟩:=rx;rfl)
theorem SN:jJ X (gf .IsNot) (fun x y H Q=>y=.non/\Q (.bl (!decide (x=.non))) H):=by
 intro pins s O H x y v u Q I rx ry h;obtain⟨rfl,q⟩:=h;cases ry;refine isnot_none_gen (AZ I q ?_);cases x<;>first
  |(cases rx;rfl)
  |(obtain⟨t,rfl⟩:=rx;rfl)
theorem Y_(b:Expr)(h:op≠.In:=by decide)(h2:op≠.NotIn:=by decide):mR op b=false:=by
 have e1:(op==CmpOp.In)=false:=by cases op<;>first|rfl|exact absurd rfl h
 have e2:(op==CmpOp.NotIn)=false:=by cases op<;>first|rfl|exact absurd rfl h2
 cases b<;>simp[mR,e1,e2]
theorem SO(ho:jJ X (gf op) r)(ha:PE X a ta)(hb:PE X b tb)(hm:mR op b=false):PE X (.Compare a [op] [b] pos) (Vc r ta tb):=by
 intro pins s O H Q I h;exact wpAny_Compare1 (Oo ha hb I h fun v u s2 x y H2 I2 rx ry q=>ho pins s2 O H2 x y v u Q I2 rx ry q) hm
def YE(K:PySem.W.Frag)(x:V)(H:Hp)(k:Bool):Prop:=
 match x with
 |.non=>k=false
 |.bl b=>k=b
 |.int i=>k=(i != 0)
 |.str y=>y.length<=aa/\k=((y.length:Int) != 0)
 |.byt y=>y.size<=aa/\k=((y.size:Int) != 0)
 |.ref p=>(∃xs,jt K H p xs/\k=!xs.isEmpty)\/(∃xs,pV K H p xs/\k=!xs.isEmpty)\/∃kvs,H p=some (.dK kvs)/\k=!kvs.isEmpty
 |_=>False
theorem Jj{κ:Type}{kvs:List (κ×V)}{vs:List (κ×Value)}(r:KV kvs vs):(!vs.isEmpty)=!kvs.isEmpty:=by
 cases r<;>rfl
theorem A0{xs:List V}{its:List Value}(r:bK xs its):(!its.toArray.isEmpty)=!xs.isEmpty:=by
 cases r<;>simp
theorem rN:(aa:Nat)<2 ^ 63:=by rw[fX];decide
theorem Vl:Vb X (fun x H Q=>∃k,YE X.K x H k/\Q k H):=by
 intro pins s O H x v Q I rx h;obtain⟨k,e,q⟩:=h;have hl:=rN;have hs:aa=16777216:=fX;cases x with
 |non=>
  cases rx;have e':k=false:=e;subst e';exact truthy_none ⟨H,I,q⟩
 |bl b=>
  cases rx;have e':k=b:=e;subst e';exact eV ⟨H,I,q⟩
 |int i=>
  obtain⟨t,rfl⟩:=rx;have e':k=(i != 0):=e;subst e';exact PySem.P.truthy_int ⟨H,I,q⟩
 |str y=>
  obtain⟨t,rfl⟩:=rx;obtain⟨hy,e'⟩:y.length<=aa/\k=((y.length:Int) != 0):=e;subst e';exact PySem.P.truthy_str (by omega) ⟨H,I.tok _,q⟩
 |byt y=>
  obtain⟨t,rfl⟩:=rx;obtain⟨hy,e'⟩:y.size<=aa/\k=((y.size:Int) != 0):=e;subst e';exact PySem.W.truthy_bytes (by omega) ⟨H,I.tok _,q⟩
 |ref p=>
  cases rx;have e':(∃xs,jt X.K H p xs/\k=!xs.isEmpty)\/(∃xs,pV X.K H p xs/\k=!xs.isEmpty)\/∃kvs,H p=some (.dK kvs)/\k=!kvs.isEmpty:=e;rcases e' with⟨xs,hx,e'⟩|⟨xs,hx,e'⟩|⟨kvs,hx,e'⟩
  ·subst e';obtain⟨its,r,pl,hz⟩:=I.list hx;have hlen:=r.length;exact wpAny_truthy_list pl.isList (by simp only[aS];omega) ⟨H,I.tok _,by rw[A0 r];exact q⟩
  ·subst e';obtain⟨its,r,pl,hz⟩:=I.tuple hx;have hlen:=r.length;exact truthy_tuple pl (by simp only[aS];omega) ⟨H,I.tok _,by rw[A0 r];exact q⟩
  ·subst e';obtain⟨hz,hS,vs,r,m⟩:kvs.length<=aa/\(p==g8)=false/\∃vs,KV kvs vs/\s.heap.DictOf (c_ X.prog X.w) p vs:=I.hok p _ hx;have hlen:kvs.length=vs.length:=Paired.length r;exact wpAny_truthy_dict hS m (by omega) ⟨H,I.tok _,by rw[Jj r];exact q⟩
 |_=>exact(show False from e).elim
theorem Jk:jJ X (gR .Add) (fun x y H Q=>∃i j,x=.str i/\y=.str j/\i.length+j.length<=aa/\Q (.str (i++j)) H):=by
 intro pins s O H x y v u Q I rx ry h;obtain⟨i,j,rfl,rfl,hz,q⟩:=h;obtain⟨t,rfl⟩:=rx;obtain⟨t',rfl⟩:=ry;exact add_str (fun t' tk=>⟨.str (i++j),H,I.tok _,⟨_,rfl⟩,q⟩) hz
theorem vals1{x:V}(r:bK [x] us):∃u,us=[u]/\RelV x u:=by
 cases r with
 |cons r1 r2=>cases r2;exact⟨_,rfl,r1⟩
theorem vals2{x y:V}(r:bK [x,y] us):∃u w',us=[u,w']/\RelV x u/\RelV y w':=by
 cases r with
 |cons r1 r2=>
  cases r2 with
  |cons r3 r4=>cases r4;exact⟨_,_,rfl,r1,r3⟩
theorem Lh(hc:X.calm=true):mH X (.builtin "max") (fun xs H Q=>∃i j,xs=[.int i,.int j]/\Q (.int (if j>i then j else i)) H):=by
 intro pins s O H xs us Q I r h;obtain⟨i,j,rfl,q⟩:=h;obtain⟨u,w',rfl,⟨t,rfl⟩,⟨t',rfl⟩⟩:=vals2 r;refine max_two_ints (I.ok.hd hc) fun h' tk k=>⟨_,H,I.kept k,?_,q⟩;by_cases hj:j>i
 ·rw[if_pos hj,if_pos hj];exact⟨_,rfl⟩
 ·rw[if_neg hj,if_neg hj];exact⟨_,rfl⟩
theorem C8:mH X (.type "int") (fun xs H Q=>(∃i,xs=[.int i]/\Q (.int i) H)\/∃k,xs=[.bl k]/\Q (.int (if k then 1 else 0)) H):=by
 intro pins s O H xs us Q I r h;rcases h with⟨i,rfl,q⟩|⟨k,rfl,q⟩
 ·obtain⟨u,rfl,t,rfl⟩:=vals1 r;exact call_int_int ⟨.int i,H,I,⟨_,rfl⟩,q⟩
 ·obtain⟨u,rfl,r1⟩:=vals1 r;cases r1;exact call_int_bool ⟨.int (if k then 1 else 0),H,I.tok _,⟨_,rfl⟩,q⟩
theorem E_:mH X (.type "str") (fun xs H Q=>∃i,xs=[.int i]/\i.natAbs.log2<1920/\Q (.str (toString i)) H):=by
 intro pins s O H xs us Q I r h;obtain⟨i,rfl,hz,q⟩:=h;obtain⟨u,rfl,t,rfl⟩:=vals1 r;exact PySem.P.str_of_int hz ⟨.str _,H,I.tok _,⟨_,rfl⟩,q⟩
end
end L2
namespace L2
open PySem PySem.Spec PyProof.Rows
structure Jl (h:Heap) (x dx C:Addr) (mA:Str->Option Value):Prop where
 obj:h.get? x=some (PySem.W.instObj C dx)
 ns:h.Ns1 dx mA
 ne:dx≠x
variable{h:Heap}{dx:Addr}{mA:Str->Option Value}
theorem pW(n:h.Ns1 dx mA):∃od,h.get? dx=some od/\∀name,PySem.W.lookIn name od=some (mA name):=by
 obtain⟨o,es,ep,ho,hd,hk,_,hm⟩:=n;refine⟨o,ho,fun name=>?_⟩;have e:=hm name;unfold BV findBy at e;rw[<-Array.find?_toList]at e;unfold PySem.W.lookIn;rw[hd];dsimp only;split
 ·rename_i y q;rw[q]at e;exact congrArg some e
 ·rename_i q;rw[q]at e;have a:es.toList.any (·.refKey)=false:=by
   rw[gz];intro y hy;obtain⟨z,t,hkey⟩:=hk y (Array.mem_toList_iff.mp hy);simp[RP,hkey]
  have a':¬es.toList.any (·.refKey)=true:=by rw[a];exact ak
  rw[if_neg a'];exact congrArg some e
variable{C:Addr}
theorem Jl.look{x:Addr}(I:Jl h x dx C mA):∃od,PySem.W.InstAt h x (PySem.W.instObj C dx) C (some od)/\∀name,PySem.W.lookIn name od=some (mA name):=
 let⟨od,ho,hl⟩:=pW I.ns
 ⟨od,⟨I.obj,rfl,rfl,ho⟩,hl⟩
variable{Q:Value->aj->Prop}
section
variable{prog:bJ}{w:bS}{A:dh}{E:Value->aj->Prop}{s:aj}{K:PySem.W.Frag}{x dx C f:Addr}{mA:Str->Option Value}{name:Str}{v:Value}
theorem Li{expr:Bool}{a:Value}(X:K.In s.heap)(I:Jl s.heap x dx C mA)(hg:PySem.W.plainGet K C name=true)(hh:PySem.W.hasDictIn K C=true)
  (ha:PySem.W.findIn K (.ref C) name=some (some a)) (hn:PySem.W.specialIn K a "__get__"=some none) (hc:PySem.W.copiedNames.contains name=false) (hv:mA name=none) (hv':PySem.W.handedIn a=true)
  (h:Q a { s with toks:=s.toks+1 }):aJ (aH prog w) A (vz (.ref x) name expr) Q E s:=by
 obtain⟨od,J,hl⟩:=I.look;exact PySem.W.get_value X J (PySem.W.plainGet_of hg).1 (PySem.W.findObj_cls hh ha hn hv' hc (by rw[hl,hv])) hv' h
end
noncomputable def iy(f:Str)(v:V):List (Str×V)->List (Str×V)
|[]=>[(f,v)]
|(g,x)::r=>if g=f then(g,v)::r else(g,x)::iy f v r
theorem o8(f g:Str)(v:V):∀fs:List (Str×V),(iy f v fs).lookup g=if g=f then some v else fs.lookup g
|[]=>by
 show jH g [(f,v)]=_;by_cases h:g=f
 ·have hb:(g==f)=true:=beq_iff_eq.mpr h;simp only[jH,hb,if_pos h]
 ·have hb:(g==f)=false:=beq_eq_false_iff_ne.mpr h;simp only[jH,hb,if_neg h]
|(k,x)::r=>by
 have ih:=o8 f g v r;rw[show iy f v ((k,x)::r)=(if k=f then(k,v)::r else(k,x)::iy f v r)from rfl];by_cases hk:k=f
 ·rw[if_pos hk];by_cases h:g=k
  ·have hb:(g==k)=true:=beq_iff_eq.mpr h;simp only[jH,hb,if_pos (h.trans hk)]
  ·have hb:(g==k)=false:=beq_eq_false_iff_ne.mpr h;simp only[jH,hb,if_neg (fun e:g=f=>h (e.trans hk.symm))]
 ·rw[if_neg hk];by_cases h:g=k
  ·have hb:(g==k)=true:=beq_iff_eq.mpr h;simp only[jH,hb,if_neg (fun e:g=f=>hk (h.symm.trans e))]
  ·have hb:(g==k)=false:=beq_eq_false_iff_ne.mpr h;simp only[jH,hb];exact ih
theorem uC(f:Str)(v:V):∀fs:List (Str×V),(iy f v fs).length<=fs.length+1
|[]=>by simp[iy]
|(k,x)::r=>by
 have ih:=uC f v r;rw[show iy f v ((k,x)::r)=(if k=f then(k,v)::r else(k,x)::iy f v r)from rfl];by_cases hk:k=f
 ·rw[if_pos hk,aW,aW];omega
 ·rw[if_neg hk,aW,aW];omega
variable{o:Option Value}
theorem j_.some_of{v:V}(r:j_ (some v) o):∃u,o=some u/\RelV v u:=by
 cases o with
 |none=>exact(show False from r).elim
 |some u=>exact⟨u,rfl,r⟩
theorem j_.none_of(r:j_ none o):o=none:=by
 cases o with
 |none=>rfl
 |some u=>exact(show False from r).elim
variable{u:Value}
theorem C9{v:V}(r:RelV v u):PySem.W.handedIn u=true:=by
 cases v with
 |non=>cases(show u=eL from r);rfl
 |bl b=>cases(show u=wL b from r);rfl
 |int i=>obtain⟨t,e⟩:=(show ∃t,u=nu i t from r);cases e;rfl
 |str x=>obtain⟨t,e⟩:=(show ∃t,u=uf x t from r);cases e;rfl
 |byt b=>obtain⟨t,e⟩:=(show ∃t,u=HF b t from r);cases e;rfl
 |flt b=>obtain⟨t,e⟩:=(show ∃t,u=zX b t from r);cases e;rfl
 |ref a=>cases(show u=a6 a from r);rfl
 |ty n=>cases(show u=Value.type n from r);rfl
section
variable{P:bJ}{w:bS}{H H':Hp}{h h':Heap}{a C dx:Addr}{fs fs':List (Str×V)}
theorem HV(hok:fU P w H h)(e:H a=some (.ins C dx fs)):∃mA,Jl h a dx C mA/\(∀f,j_ (fs.lookup f) (mA f))/\PySem.Within mA (fs.map (·.1))/\fs.length<=1000/\H dx=some (.own a):=by
 obtain⟨d,z,ne,ob,mA,n,r,q⟩:=(show dj P w H h a (.ins C dx fs)from hok a _ e);exact⟨mA,⟨ob,n,ne⟩,r,q,z,d⟩
end
structure Lj (K:PySem.W.Frag) (C:Addr):Prop where
 pg:PySem.W.plainGet K C Es=true
 hd:PySem.W.hasDictIn K C=true
 po:PySem.W.plainOver K C=true
 sa:PySem.W.findIn K (.ref C) "__setattr__"=some (some (.builtin "object.__setattr__"))
theorem Lj.get{K:PySem.W.Frag}(c:Lj K C)(f:Str):PySem.W.plainGet K C f=true:=c.pg
def ju(K:PySem.W.Frag)(C:Addr)(f:Str):Prop:=PySem.W.findIn K (.ref C) f=some none
structure Yc (K:PySem.W.Frag) (C:Addr) (f:Str) (v:V) (u:Value):Prop where
 at_:PySem.W.findIn K (.ref C) f=some (some u)
 rel:RelV v u
 get:PySem.W.specialIn K u "__get__"=some none
 cp:PySem.W.copiedNames.contains f=false
section
variable{X:Cx}{pins:List (Addr×Obj)}{O:St}{H:Hp}{s:aj}{a C dx:Addr}{fs:List (Str×V)}{f:Str}{v:V}{A:dh}{E:Value->aj->Prop}
theorem Lk{b:Bool}(I:Inv X pins O H s)(e:H a=some (.ins C dx fs))(c:Lj X.K C)(k:Yc X.K C f v u)(l:fs.lookup f=none)
  (h:∀s',Inv X pins O H s'->Q u s'):aJ (aH X.prog X.w) A (vz (.ref a) f b) Q E s:=by
 obtain⟨mA,Zw,r,_,_,_⟩:=HV I.hok e;have hn:mA f=none:=j_.none_of (by rw[<-l];exact r f);exact Li I.gn Zw (c.get f) c.hd k.at_ k.get k.cp hn (C9 k.rel) (h _ (I.tok _))
theorem HW{prog:bJ}{w:bS}{env:Env}{e:Expr}{pos:Pos}(hb:qB e f env (eval e env)=eval e env)
  (h:aJ (aH prog w) A (eval e env) (fun o ZF=>aJ (aH prog w) A (vz o f true) Q E ZF) E s):aJ (aH prog w) A (eval (.Attribute e f pos) env) Q E s:=
 Attribute_any_ h (by rw[arm_eval_Attribute,hb])
end
def YF(K:PySem.W.Frag)(ta:TE)(f:Str):TE:=fun O H Q=>ta O H fun x H1=>∃a C dx fs v u,x=.ref a/\H1 a=some (.ins C dx fs)/\Lj K C/\Yc K C f v u/\fs.lookup f=none/\Q v H1
section
variable{X:Cx}{o e value:Expr}{f:Str}{pos pos' tpos:Pos}{ta tv:TE}
theorem Ll(he:PE X e ta)(hb:qB e f X.env (eval e X.env)=eval e X.env):PE X (.Attribute e f pos) (YF X.K ta f):=by
 intro pins s O H Q I h;refine HW hb (aY (he pins s O H _ I h) fun u s1 ⟨x,H1,I1,rx,a,C,dx,fs,v,u0,ex,ea,c,k,l,q⟩=>?_);subst ex;obtain rfl:u=a6 a:=rx;exact Lk I1 ea c k l fun s2 I2=>⟨v,H1,I2,k.rel,q⟩
end
section
variable{X:Cx}{pins:List (Addr×Obj)}{O:St}{H:Hp}{s:aj}{A:dh}{E:Value->aj->Prop}{Q:Value->aj->Prop}{c:Value}{b:Bool}
inductive oH (K:PySem.W.Frag) (H:Hp):V->Value->Prop where
|non:oH K H .non (.type "NoneType")
|bl (x:Bool):oH K H (.bl x) (.type "bool")
|int (i:Int):oH K H (.int i) (.type "int")
|str (x:Str):oH K H (.str x) (.type "str")
|flt (x:UInt64):oH K H (.flt x) (.type "float")
|lst {a:Addr}{xs:List V} (e:H a=some (.lst xs)):oH K H (.ref a) (.type "list")
|bC {a:Addr}{o:Obj}{xs:List V} (e:H a=some (.bC o (.lst xs))):oH K H (.ref a) (.type "list")
|tup {a:Addr}{xs:List V} (e:H a=some (.tup xs)):oH K H (.ref a) (.type "tuple")
|dK {a:Addr}{kvs:List (Key×V)} (e:H a=some (.dK kvs)):oH K H (.ref a) (.type "dict")
|dT {a:Addr}{kvs:List (List Key×V)} (e:H a=some (.dT kvs)):oH K H (.ref a) (.type "dict")
|ins {a C dx:Addr}{fs:List (Str×V)} (e:H a=some (.ins C dx fs)) (cl:Lj K C) (ha:PySem.W.findIn K (.ref C) "__class__"=some (some (.builtin "object.__class__")))
  (hn:PySem.W.specialIn K (.builtin "object.__class__") "__get__"=some (some (.builtin "getset_descriptor.__get__"))) (htk:PySem.W.takesIn K (.builtin "object.__class__")=some true)
  (hm:PySem.W.mroIn K C (.type "object")=some true):oH K H (.ref a) (.ref C)
theorem Lm{x:V}{t:Value}(I:Inv X pins O H s)(rx:RelV x u)(ty:oH X.K H x t)(e:PySem.W.kitOne X.K t c=some b)(h:∀tk,Q (.bool b) { s with toks:=tk }) :
  aJ (aH X.prog X.w) A (call (.builtin "isinstance") [u,c]) Q E s:=by
 cases ty with
 |non=>cases(show u=eL from rx);exact PySem.W.kia_one PySem.W.kitx_none I.gn dc e (fun z=>nomatch z) h
 |bl y=>cases(show u=wL y from rx);exact PySem.W.kia_one PySem.W.kitx_bool I.gn dc e (fun z=>nomatch z) h
 |int i=>obtain⟨t,q⟩:=(show ∃t,u=nu i t from rx);cases q;exact PySem.W.kia_one PySem.W.kitx_int I.gn dc e (fun z=>nomatch z) h
 |str y=>obtain⟨t,q⟩:=(show ∃t,u=uf y t from rx);cases q;exact PySem.W.kia_one PySem.W.kitx_str I.gn dc e (fun z=>nomatch z) h
 |flt y=>obtain⟨t,q⟩:=(show ∃t,u=zX y t from rx);cases q;exact PySem.W.kia_one PySem.W.kitx_float I.gn dc e (fun z=>nomatch z) h
 |@lst a xs ea=>
  cases(show u=a6 a from rx);obtain⟨_,_,n,_,h1⟩:=(show dj X.prog X.w H s.heap a (.lst xs)from I.hok a _ ea);exact PySem.W.kia_one PySem.W.kitx_list I.gn ⟨_,h1,rfl⟩ e (fun z=>nomatch z) h
 |@bC a ob xs ea=>
  cases(show u=a6 a from rx);obtain⟨_,_,_,n,_,h1⟩:=(show dj X.prog X.w H s.heap a (.bC ob (.lst xs))from I.hok a _ ea);exact PySem.W.kia_one PySem.W.kitx_list I.gn ⟨_,h1,rfl⟩ e (fun z=>nomatch z) h
 |@tup a xs ea=>
  cases(show u=a6 a from rx);obtain⟨_,_,_,p⟩:=(show dj X.prog X.w H s.heap a (.tup xs)from I.hok a _ ea);obtain⟨o,h1,h2,_⟩:=p;exact PySem.W.kia_one PySem.W.kitx_tuple I.gn ⟨o,h1,h2⟩ e (fun z=>nomatch z) h
 |@dK a kvs ea=>
  cases(show u=a6 a from rx);obtain⟨_,_,vs,_,p⟩:=(show dj X.prog X.w H s.heap a (.dK kvs)from I.hok a _ ea);obtain⟨o,es,ep,h1,h2,_⟩:=p;exact PySem.W.kia_one PySem.W.kitx_dict I.gn ⟨o,h1,h2.1⟩ e (fun z=>nomatch z) h
 |@dT a kvs ea=>
  cases(show u=a6 a from rx);obtain⟨_,_,xs,_,o,es,ep,h1,h2,_⟩:=(show dj X.prog X.w H s.heap a (.dT kvs)from I.hok a _ ea);exact PySem.W.kia_one PySem.W.kitx_dict I.gn ⟨o,h1,h2.1⟩ e (fun z=>nomatch z) h
 |@ins a C dx fs ea cl ha hn htk hm=>
  cases(show u=a6 a from rx);obtain⟨mA,Zw,_⟩:=HV I.hok ea;obtain⟨od,J,_⟩:=Zw.look;exact PySem.W.kia_one (PySem.W.kitx_own (cl.get _) cl.hd ha hn htk hm) I.gn J e (fun z=>nomatch z) h
end
end L2
namespace L2
open PySem PySem.Spec PyProof.Rows
structure h_ (k:Nat) (A:dh):Prop where
 hd:A.handled=none
 dp:A.depth+3*k+5<CV
 un:A.units+16*k+200<dM
variable{j k:Nat}{A:dh}
theorem h_.mono(r:h_ k A)(h:j<=k):h_ j A:=⟨r.hd,by have:=r.dp;omega,by have:=r.un;omega⟩
theorem h_.deeper(r:h_ (k+1) A)(env:Env):h_ k (A.deeper env):=
 ⟨r.hd,by have:=r.dp;show A.depth+1+3*k+5<_;omega,by have:=r.un;show A.units+3+16*k+200<_;omega⟩
variable{C:Addr}{us:List Value}{kw:List (Str×Value)}
theorem Jm:(A.under (.builtin "type.__call__" ⟨.ref C::us,kw⟩)).depth=A.depth+1:=by
 first|rfl|simp[yC,Code.weight,Code.isCreation,Code.isGuard,Code.isCaller,HK,yD,guardIds]
theorem Jo:(A.under (.builtin "type.__call__" ⟨.ref C::us,kw⟩)).units=A.units+1:=by
 first|rfl|simp[yC,Code.cUnits,HK,yD]
theorem h_.make(r:h_ (k+1) A)(C:Addr)(us:List Value)(kw:List (Str×Value)):h_ k (A.under (.builtin "type.__call__" ⟨.ref C::us,kw⟩)):=
 ⟨r.hd,by have:=r.dp;rw[Jm];omega,by have:=r.un;rw[Jo];omega⟩
theorem h_.depth(r:h_ k A):A.depth<CV:=by have:=r.dp;omega
def Vm:TA:=fun _ H Q=>Q [] H
def Xg(ta:TE)(tr:TA):TA:=fun O H Q=>ta O H fun x H1=>tr O H1 fun xs H2=>Q (x::xs) H2
section
variable{X:Cx}{e:Expr}{es:List Expr}{te:TE}{t:TA}{pos:Pos}
theorem Fb:PA X [] Vm:=fun _ _ _ _ H Q I h=>jM ⟨[],H,I,.nil,h⟩
theorem B_(ha:PE X e te)(hr:PA X es t)(hs:cY (e::es) X.env=(false,eval e X.env)::cY es X.env:=by rfl):PA X (e::es) (Xg te t):=by
 intro pos pins s O H Q I h;rw[hs];show aJ _ _ (ze ((false,eval e X.env)::mF pos (cY es X.env))) _ _ s;refine fq (aY (ha pins s O H _ I h) fun u s1 ⟨x,H1,I1,r1,q1⟩=>?_);exact aY (hr pos pins s1 O H1 _ I1 q1) fun us s2 ⟨xs,H2,I2,r2,q2⟩=>⟨x::xs,H2,I2,.cons r1 r2,q2⟩
def YG(t:TA):TE:=fun O H Q=>t O H fun xs H1=>xs.length<=aa/\∀p,H1 p=none->Q (.ref p) (upd H1 p (.tup xs))
def YH(t:TA):TE:=fun O H Q=>t O H fun xs H1=>xs.length<=aa/\∀p,H1 p=none->Q (.ref p) (upd H1 p (.lst xs))
theorem Vn{x1}(h:PA X es t):PE X (.Tuple es x1 pos) (YG t):=by
 intro pins s O H Q I hq;refine xm (aY (h pos pins s O H _ I hq) fun us s1 ⟨xs,H1,I1,r,z,q⟩=>⟨by rw[<-r.length];exact z,?_⟩);have hf:H1 s1.heap.objs.size=none:=I1.hok.fresh (aP _);refine⟨.ref s1.heap.objs.size,upd H1 s1.heap.objs.size (.tup xs),I1.laid (t':=s1.toks) (fun b u e=>aM _ e) (aP _) ?_,rfl,q _ hf⟩;exact⟨z,us,r,⟨_,bU _ rfl,rfl,_,rfl⟩⟩
theorem Vo(h:PA X es t):PE X (.List es pos) (YH t):=by
 intro pins s O H Q I hq;refine wpAny_List_spliced (aY (h pos pins s O H _ I hq) fun us s1 ⟨xs,H1,I1,r,z,q⟩=>⟨by rw[<-r.length];exact z,?_⟩);have hf:H1 s1.heap.objs.size=none:=I1.hok.fresh (aP _);refine⟨.ref s1.heap.objs.size,upd H1 s1.heap.objs.size (.lst xs),I1.laid (t':=s1.toks) (fun b u e=>aM _ e) (aP _) ?_,rfl,q _ hf⟩;exact⟨z,us,0,r,bU _ rfl⟩
end
noncomputable abbrev Sp:=List V->Hp->VK->XK->Prop
noncomputable abbrev zC:=List Env->Hp->aj->XK->Value->aj->Prop
structure z8 (P:bJ) (w:bS) (K:PySem.W.Frag) (mg:Str->Option Value) (base:Heap) (A:dh) (outer:List Env) (s:aj) (H:Hp):Prop where
 frames:A.frames=some outer
 mod:Mod K mg base
 bs:∀b o,base.get? b=some o->s.heap.get? b=some o/\H b=none
 bsz:base.objs.size<=s.heap.objs.size
 nE:s.heap.FunFrames base outer
 frf:∀b∈frs outer,H b=none
 hok:fU P w H s.heap
 bare:jW s.gens
def CE(outer:List Env)(P:bJ)(w:bS)(H:Hp)(s:aj)(Q:VK)(u:Value)(s':aj):Prop:=
 ∃v H',s'.os=s.os/\jW s'.gens/\Un (frs outer) [] H H' s.heap s'.heap/\fU P w H' s'.heap/\RelV v u/\Q v H'
def CR(CX:zC)(outer:List Env)(P:bJ)(w:bS)(H:Hp)(s:aj)(Q:VK)(E:XK)(r:GY)(s':aj):Prop:=
 match r with
 |.ok (.ret u)=>CE outer P w H s Q u s'
 |.ok _=>False
 |.error e=>CX outer H s E e s'
structure fK (P:bJ) (w:bS) (K:PySem.W.Frag) (mg:Str->Option Value) (base:Heap) (CX:zC) (k:Nat) (f:Addr) (fd:fM) (ps:List Str) (sp:Sp):Prop where
 len:∀vs H Q E,sp vs H Q E->vs.length=ps.length
 run:∀(A:dh) (outer:List Env) (s:aj) (H:Hp) (args:Args) (us:List Value) (vs:List V) (Q:VK) (E:XK),h_ k A->z8 P w K mg base A outer s H->CW s fd args (ps.zip us)->bK vs us->sp vs H Q E->
  kM (aH P w) A (.call (.ref f) args) (CR CX outer P w H s Q E) s
variable{P:bJ}{w:bS}{K:PySem.W.Frag}{mg:Str->Option Value}{base:Heap}{CX:zC}{f:Addr}{fd:fM}{ps:List Str}{sp:Sp}
theorem fK.mono(F:fK P w K mg base CX j f fd ps sp)(h:j<=k) :
  fK P w K mg base CX k f fd ps sp:=⟨F.len,fun A outer s H args us vs Q E hr=>F.run A outer s H args us vs Q E (hr.mono h)⟩
theorem fK.imp{sp':Sp}(F:fK P w K mg base CX k f fd ps sp)
  (h:∀vs H Q E,sp' vs H Q E->sp vs H Q E):fK P w K mg base CX k f fd ps sp':=
 ⟨fun vs H Q E q=>F.len vs H Q E (h _ _ _ _ q),fun A outer s H args us vs Q E hr he hb hv hs=>F.run A outer s H args us vs Q E hr he hb hv (h _ _ _ _ hs)⟩
variable{outer:List Env}{s:aj}{H:Hp}
theorem z8.make(e:z8 P w K mg base A outer s H)(C:Addr)(us:List Value)(kw:List (Str×Value)) :
  z8 P w K mg base (A.under (.builtin "type.__call__" ⟨.ref C::us,kw⟩)) outer s H:=⟨by first|exact e.frames|(simpa[yC,Code.envs,yD,pushEnvs]using e.frames),e.mod,e.bs,e.bsz,e.nE,e.frf,e.hok,e.bare⟩
variable{Q:VK}
section
variable{X:Cx}{pins:List (Addr×Obj)}{O:St}{H:Hp}{s s':aj}
theorem Inv.Oq(I:Inv X pins O H s):z8 X.prog X.w X.K X.mg X.base X.A X.stack s H:=
 ⟨I.ok.frames,I.ok.mod,I.bs,d9 I.ok.bsz I.sz,I.stack,I.B8,I.hok,I.bare⟩
theorem Inv.after{u:Value}(I:Inv X pins O H s)(h:CE X.stack X.prog X.w H s Q u s'):EP X pins O Q u s':=by
 obtain⟨v,H',os,bare,un,hok,r,q⟩:=h;obtain⟨hh,g,d,t,os'⟩:=s';obtain rfl:os'=s.os:=os;exact⟨v,H',I.call (h':=hh) (g':=g) (d':=d) (t':=t) (ch:=[]) un hok bare (fun b z=>absurd z (by simp)),r,q⟩
end
def RW(sp:Sp)(dvs:List V)(E:XK)(t:TA):TE:=fun O H Q=>t O H fun vs H1=>sp (vs++dvs) H1 Q E
def Binds(K:PySem.W.Frag)(fd:fM)(ps:List Str)(ds:List Value):Prop:=
 ∀(s:aj) (us:List Value),K.In s.heap->(us++ds).length=ps.length->CW s fd ⟨us,[]⟩ (ps.zip (us++ds))
theorem Binds.all(h:∀us:List Value,us.length=ps.length->sV fd ⟨us,[]⟩=pure (ps.zip us)):Binds K fd ps []:=fun s us _ hl=>by
 rw[bY]at hl ⊢;exact .of_eq (h us hl)
def xy(CX:zC)(X:Cx)(E:XK):Prop:=∀(pins:List (Addr×Obj)) (O:St) (H:Hp) (s:aj) (e:Value) (s':aj),Inv X pins O H s->CX X.stack H s E e s'->X.xe e s'
variable{vs:List V}
section
variable{X:Cx}{CX:zC}{k:Nat}{f C:Addr}{fd:fM}{ps:List Str}{sp:Sp}{dvs:List V}{ds:List Value}{E:XK}{x m:Str}{p pos apos:Pos}{e o:Expr}{es:List Expr}{ta:TE}{t:TA}
theorem Ln{pins:List (Addr×Obj)}{O:St}(F:fK X.prog X.w X.K X.mg X.base CX k f fd ps sp)(hr:h_ k X.A)(hb:Binds X.K fd ps ds)(hd:bK dvs ds)(hx:xy CX X E)
  (I:Inv X pins O H s) (r:bK vs us) (h:sp (vs++dvs) H Q E):aJ (aH X.prog X.w) X.A (call (.ref f) us) (EP X pins O Q) X.xe s:=by
 have r2:bK (vs++dvs) (us++ds):=r.append hd;have hl:(us++ds).length=ps.length:=by rw[<-r2.length];exact F.len _ _ _ _ h
 refine n_ (lI (F.run X.A X.stack s H ⟨us,[]⟩ (us++ds) (vs++dvs) Q E hr I.Oq (hb s us I.gn hl) r2 h) fun r s' hq=>?_);cases r with
 |error e=>exact hx pins O H s e s' I hq
 |ok fl=>
  cases fl with
  |ret u=>exact I.after hq
  |next=>exact au hq
  |brk=>exact au hq
  |cont=>exact au hq
theorem SQ(F:fK X.prog X.w X.K X.mg X.base CX k f fd ps sp)(hr:h_ k X.A)(hg:Gl X x)(hm:X.mg x=some (.ref f))(hk:PySem.W.keepIn X.K (.ref f)=true)(hb:Binds X.K fd ps ds)(hd:bK dvs ds)(hx:xy CX X E)
  (ha:PA X (e::es) t) (hdb:(x==("__debug__":Str))=false:=by decide) (he:cY (e::es) X.env=(false,eval e X.env)::cY es X.env:=by rfl) (hpl:(mF pos (cY es X.env)).any (·.1)=false:=by rfl) :
  PE X (.Call (.Name x p) (e::es) [] pos) (RW sp dvs E t):=by
 intro pins s O H Q I h;refine fy (oG I hg hm ?_ hdb);refine PySem.W.callWith_K (h₀:=X.base) I.ok.mod.kin hk (aY (ha pos pins s O H _ I h) fun us s1 ⟨vs,H1,I1,r,q⟩=>⟨I1.gn,?_⟩) he hpl;exact Ln F hr hb hd hx I1 r q
theorem Ot(F:fK X.prog X.w X.K X.mg X.base CX k f fd ps sp)(hr:h_ k X.A)(hg:Gl X x)(hm:X.mg x=some (.ref f))(hk:PySem.W.keepIn X.K (.ref f)=true)(hb:Binds X.K fd ps ds)(hd:bK dvs ds)(hx:xy CX X E)
  (hdb:(x==("__debug__":Str))=false:=by decide):PE X (.Call (.Name x p) [] [] pos) (RW sp dvs E Vm):=by
 intro pins s O H Q I h;refine fy (oG I hg hm ?_ hdb);exact PySem.W.callWith_K0 I.gn hk (Ln (us:=[]) F hr hb hd hx I .nil h)
end
structure lO (N P:List Str) (sc:fP):Prop where
 kind:sc.kind=.function
 co:sc.isCoroutine=false
 gen:sc.isGenerator=false
 nd:N.Nodup
 pre:N.take P.length=P
 par:∀x∈P,sc.names.lookup x=some .local\/sc.names.lookup x=some .cell
 nofree:∀y∈sc.names,y.2≠.free
variable{kindOf:Str->Option jf}{x:Str}
theorem C_:∀{binds:List (Str×Value)}{m:Str->Option Value},(∀v,(x,v)∉binds)->uh kindOf binds m x=m x
|[],_,_=>rfl
|(n,v)::r,m,h=>by
 unfold uh;rw[C_ fun w hw=>h w (ai _ hw)];split
 ·have:x≠n:=by rintro rfl;exact h v ao
  simp[this]
 ·rfl
theorem Dc:∀{binds:List (Str×Value)}{m:Str->Option Value},(∀v,(x,v)∉binds)->um kindOf binds m x=m x
|[],_,_=>rfl
|(n,v)::r,m,h=>by
 unfold um;rw[Dc fun w hw=>h w (ai _ hw)];split
 ·rfl
 ·have:x≠n:=by rintro rfl;exact h v ao
  simp[this]
variable{v:Value}
theorem Dd:∀{P:List Str}{vs:List Value}{i:Nat}{m:Str->Option Value},P.Nodup->P[i]?=some x->vs[i]?=some v->kindOf x=some .local->
 uh kindOf (P.zip vs) m x=some v
|[],_,_,_,_,h,_,_=>by simp at h
|_::_,[],_,_,_,_,h,_=>by simp at h
|p::P,w::vs,0,m,nd,h1,h2,hk=>by
 simp at h1 h2;subst h1;subst h2;show uh kindOf ((p,w)::P.zip vs) m p=_;unfold uh;rw[C_ fun v hv=>(bX.mp nd).1 (uo hv).1,if_pos hk];simp
|p::P,w::vs,i+1,m,nd,h1,h2,hk=>by
 show uh kindOf ((p,w)::P.zip vs) m x=_;unfold uh;exact Dd (i:=i) (bX.mp nd).2 (by simpa using h1) (by simpa using h2) hk
theorem De:∀{P:List Str}{vs:List Value}{i:Nat}{m:Str->Option Value},P.Nodup->P[i]?=some x->vs[i]?=some v->kindOf x≠some .local->
 um kindOf (P.zip vs) m x=some v
|[],_,_,_,_,h,_,_=>by simp at h
|_::_,[],_,_,_,_,h,_=>by simp at h
|p::P,w::vs,0,m,nd,h1,h2,hk=>by
 simp at h1 h2;subst h1;subst h2;show um kindOf ((p,w)::P.zip vs) m p=_;unfold um;rw[Dc fun v hv=>(bX.mp nd).1 (uo hv).1,if_neg hk];simp
|p::P,w::vs,i+1,m,nd,h1,h2,hk=>by
 show um kindOf ((p,w)::P.zip vs) m x=_;unfold um;exact De (i:=i) (bX.mp nd).2 (by simpa using h1) (by simpa using h2) hk
noncomputable def start(N:List Str)(vs:List V):St:=vs.map some++aF (N.length-vs.length) none
noncomputable def kN(CX:zC)(P:bJ)(w:bS)(K:PySem.W.Frag)(mg:Str->Option Value)(base:Heap)(N:List Str)(qual:Str)(scope:fP)(f:Addr)(cd:Value)(A:dh)(outer:List Env)(s:aj)(H:Hp)(E:XK):Cx where
 prog:=P
 w:=w
 K:=K
 mg:=mg
 base:=base
 A:=A.deeper (jz qual scope s.heap.objs.size f cd)
 N:=N
 ZD:=s
 ZO:=H
 env:=jz qual scope s.heap.objs.size f cd
 outer:=outer
 stack:=jz qual scope s.heap.objs.size f cd::outer
 ex:=[]
 calm:=true
 fn:=fun _=>true
 pn:=[]
 xe:=fun e s'=>aJ (aH P w) (A.deeper (jz qual scope s.heap.objs.size f cd)) (Jc (jz qual scope s.heap.objs.size f cd) e) (fun _ s''=>CX outer H s E e s'') (fun e' s''=>CX outer H s E e' s'') s'
theorem Fc{sc:fP}{n:Nat}(h:sc.names.lookup x=some .cell):∃c,(dZ n sc.names []).lookup x=some c:=by
 have q:=PySem.W.cellsFrom_some sc.names n [] (.inl h);exact Option.isSome_iff_exists.mp q
variable{qual:Str}{scope:fP}
theorem Lo{N:List Str}{cd:Value}{s1:aj}{E:XK}
  (S:lO N ps scope) (hd:A.handled=none) (e0:z8 P w K mg base A outer s H) (hl:vs.length=ps.length) (r:bK vs us)
  (x:InCallC s s.heap.objs.size (uh (jz qual scope s.heap.objs.size f cd).kindOf (ps.zip us) fun _=>none) (dZ (s.heap.objs.size+1) scope.names []) (um (jz qual scope s.heap.objs.size f cd).kindOf (ps.zip us) fun _=>none) s1) :
  Inv (kN CX P w K mg base N qual scope f cd A outer s H E) [] (start N vs) H s1:=by
 have hpl:ps.length<=N.length:=by have:=congrArg HL S.pre;rw[dH]at this;omega
 obtain⟨h1,tk,rfl,hk⟩:=x.done;have noA:∀b:Addr,b∉(kN CX P w K mg base N qual scope f cd A outer s H E).ex:=fun b z=>absurd (show b∈([]:List Addr)from z) (by simp);refine⟨⟨e0.mod,S.kind,rfl,rfl,aP _,fun y z c h1 h2=>?_,fun y hy=>?_,fun y c _ h=>?_,fun _=>hd,Around.frames_deeper e0.frames,.inr ⟨rfl,rfl⟩,fun b z=>absurd z (noA b),e0.bs,e0.bsz,fun b _ _=>noA b,fun b z=>absurd z (noA b),e0.nE,e0.frf⟩,
  rfl,e0.bare,Un.kept hk,⟨_,x.toInCall.ns,fun i y v h1 h2 h3=>?_⟩,fun y c h=>⟨_,x.cell y c h⟩,e0.hok.fresh (aP _),fun y c h=>?_,fun p hp=>absurd (show p∈([]:List (Addr×Obj))from hp) (by simp),e0.hok.kept hk,?_⟩
 ·exact name_of_addr x.apart (PySem.mem_of_lookup h1) (PySem.mem_of_lookup h2)
 ·have hy:scope.names.lookup y=some .cell\/scope.names.lookup y=some .free:=hy;rcases hy with hy|hy
  ·exact Fc hy
  ·exact absurd rfl (S.nofree _ (PySem.mem_of_lookup hy))
 ·exact je (x.above y c (PySem.mem_of_lookup h))
 ·have hi:i<vs.length:=by
   unfold start at h2;by_cases hi:i<vs.length
   ·exact hi
   ·rw[cZ (by simpa using hi)]at h2;rw[tD]at h2;split at h2<;>cases h2
  have ha:vs[i]?=some v:=by
   unfold start at h2;rw[eZ (by simpa using hi),aX]at h2;cases e:vs[i]? with
   |none=>rw[e]at h2;cases h2
   |some a=>rw[e]at h2;cases h2;rfl
  obtain⟨u,hu,rv⟩:=r.get ha;have hp:ps[i]?=some y:=by
   rw[<-S.pre,List.getElem?_take_of_lt (by omega)];exact h1
  have ndP:ps.Nodup:=by rw[<-S.pre];exact S.nd.sublist (zj _ _)
  refine⟨u,rv,?_⟩;rcases S.par y (fH hp)with k|k
  ·exact .inl ⟨k,Dd ndP hp hu k⟩
  ·obtain⟨c,e⟩:=Fc (n:=s.heap.objs.size+1) k;refine .inr ⟨.inl k,c,e,?_⟩;have q:=x.cell y c e;rw[De ndP hp hu (by show scope.names.lookup y≠_;rw[k];decide)]at q;exact q
 ·exact e0.hok.fresh (je (x.above y c (PySem.mem_of_lookup h)))
 ·unfold start;show _=N.length;rw[aE,ah,gh];omega
theorem RX{name:Str}{params:Arguments}{body:List Stmt}{dV kV doc pm cdv ct oc:Value}{an od:Option Addr}
  {osl:Array (Option Value)}{N ps:List Str}{sp:Sp} (lk:K.lookup f=some ⟨oc,od,.func (PySem.W.fnOf name qual params body scope dV kV doc pm an cdv ct),osl⟩) (hcd:PySem.W.codeIn K cdv qual=true) (S:lO N ps scope)
  (len:∀vs H Q E,sp vs H Q E->vs.length=ps.length)
  (hbody:∀(A:dh) (outer:List Env) (s:aj) (H:Hp) (vs:List V) (Q:VK) (E:XK),h_ k (A.deeper (jz qual scope s.heap.objs.size f cdv))->sp vs H Q E->
   ∃t,m9 (kN CX P w K mg base N qual scope f cdv A outer s H E) body t/\t { nx:=fun _ H'=>Q .non H',rt:=Q } (start N vs) H) :
  fK P w K mg base CX (k+1) f (PySem.W.fnOf name qual params body scope dV kV doc pm an cdv ct) ps sp:=by
 refine⟨len,fun A outer s H args us vs Q E hr e0 hb r hsp=>?_⟩;have hl:=len _ _ _ _ hsp;have KX:K.In s.heap:=e0.mod.kin.keeps fun b o e=>(e0.bs b o e).1;have lim:s.heap.NoLimit:=e0.mod.nolimit.keeps fun b o e=>(e0.bs b o e).1;have hkind:∀y∈ps.zip us,scope.names.lookup y.1=some .local\/(scope.names.lookup y.1=some .cell/\((dZ (s.heap.objs.size+1) scope.names []).lookup y.1).isSome=true):=fun⟨n,v⟩ hy=>by
  rcases S.par n (uo hy).1 with q|q
  ·exact .inl q
  ·exact .inr ⟨q,PySem.W.cellsFrom_some _ _ _ (.inl q)⟩
 refine codeAny_call_function hr.depth (KX _ _ lk) rfl S.co S.gen rfl (PySem.W.codeRec_of KX hcd) (hb _ _ _ _ ?_);refine wpAny_newFunctionEnv_cells S.kind hkind fun env he s1 x=>?_;subst he;refine⟨lim.keeps x.toInCall.keep,codeAny_func ?_⟩;obtain⟨t,ht,hq⟩:=hbody A outer s H vs Q E (hr.deeper _) hsp;have I:Inv (kN CX P w K mg base N qual scope f cdv A outer s H E) [] (start N vs) H s1:=Lo S hr.hd e0 hl r x;refine dJ (ht [] s1 (start N vs) H _ I hq) (fun fl s' hs=>?_) fun e s' hs=>hs;have fin:∀{ZC:St}{H':Hp}{v:V}{u:Value},Inv (kN CX P w K mg base N qual scope f cdv A outer s H E) [] ZC H' s'->RelV v u->Q v H'->CE outer P w H s Q u s':=
  fun{ZC H' v u} J rv q=>⟨v,H',J.os,J.bare,J.base,J.hok,rv,q⟩
 cases fl with
 |ret u=>
  obtain⟨v,ZC,H',J,rv,q⟩:=hs;exact fin J rv q
 |next=>
  obtain⟨ZC,H',J,q⟩:=hs;exact fin (v:=V.non) (u:=eL) J rfl q
 |brk=>
  obtain⟨_,_,_,q⟩:=hs;exact au q
 |cont=>
  obtain⟨_,_,_,q⟩:=hs;exact au q
end L2
end
section
namespace HT
open PySem PyProof.Rows
section
variable{prog:bJ}{w:bS}{A:dh}{E:Value->aj->Prop}{s:aj}
theorem SR{t b:Addr}{vs ws:List Value}{Q:Value->aj->Prop}(ht:IsTup s.heap t vs.toArray)(hb:IsTup s.heap b ws.toArray)(hv:vs≠[])
  (h1:ws=[]->Q (.ref t) s) (h2:ws≠[]->Q (.ref s.heap.objs.size) { s with heap:=s.heap.push { cls:=.type "tuple",data:=.seq (vs++ws).toArray } })
  (hsz:vs.length+ws.length<=aa):aJ (aH prog w) A (gR .Add (.ref t) (.ref b)) Q E s:=by
 obtain⟨⟨cls,dd,data,sl⟩,ho,hc,n,hd⟩:=id ht;obtain⟨⟨cls2,dd2,data2,sl2⟩,ho2,hc2,n2,hd2⟩:=id hb;simp only at hc hd hc2 hd2;subst hc hd hc2 hd2;have e:vs.toArray++ws.toArray=(vs++ws).toArray:=by simp
 by_cases hw:ws=[]
 ·exact GZ ⟨_,ho,rfl⟩ ⟨_,ho2,rfl⟩ AK EJ PySem.F.slot_tuple_add PySem.F.entry_tuple_add (PySem.F.args_tuple_add_2 _ _)
   (tuple_addW1 t b vs.toArray ws.toArray n n2 dd dd2 sl sl2 (by simpa using hv) (by simp[hw])) ⟨ho,ho2,h1 hw⟩
 ·refine GZ ⟨_,ho,rfl⟩ ⟨_,ho2,rfl⟩ AK EJ PySem.F.slot_tuple_add PySem.F.entry_tuple_add (PySem.F.args_tuple_add_2 _ _)
   (tuple_addW2 t b vs.toArray ws.toArray n n2 dd dd2 sl sl2 (by simpa using hv) (by simpa using hw) (by rw[aS,aS];exact hsz)) ⟨ho,ho2,?_⟩
  rw[e];exact h2 hw
noncomputable def j4(n d:Nat):Option Int->Nat
|none=>d
|some v=>if v<0 then(v+(n:Int)).toNat else min v.toNat n
theorem vO(n d:Nat):j4 n d none=d:=rfl
theorem rD(n d k:Nat):j4 n d (some (k:Int))=min k n:=by
 show(if(k:Int)<0 then((k:Int)+(n:Int)).toNat else min (k:Int).toNat n)=min k n;rw[if_neg (by omega),iJ]
theorem Vp(n d:Nat)(hd:d<=n)(o:Option Int):j4 n d o<=n:=by
 cases o with
 |none=>exact hd
 |some v=>
  show(if v<0 then(v+(n:Int)).toNat else min v.toNat n)<=n;by_cases hv:v<0
  ·rw[if_pos hv];omega
  ·rw[if_neg hv];exact Nat.min_le_right _ _
end
end HT
namespace L2
open PySem PySem.Spec PyProof.Rows
noncomputable abbrev TO:=St->Hp->(Option Int->Hp->Prop)->Prop
def PO(X:Cx)(e:Option Expr)(t:TO):Prop:=
 ∀(pins:List (Addr×Obj)) (s:aj) (O:St) (H:Hp) (Q:Option Int->Hp->Prop),Inv X pins O H s->t O H Q->
  aJ (aH X.prog X.w) X.A (evalPart e X.env) (fun u s'=>∃o H',Inv X pins O H' s'/\NX u o/\Q o H') X.xe s
noncomputable def SS:TO:=fun _ H Q=>Q none H
section
variable{X:Cx}{e:Expr}{te:TE}{lo hi:Option Expr}{tl th:TO}{pos p2:Pos}
theorem SV:PO X none SS:=by
 intro pins s O H Q I h;rw[EK];exact a9 ⟨none,H,I,.none,h⟩
def Vq(X:Cx)(r:V->Option Int->Option Int->Hp->VK->Prop):Prop:=
 ∀(pins:List (Addr×Obj)) (s:aj) (O:St) (H:Hp) (x:V) (v vl vu:Value) (lo hi:Option Int) (sl:Addr) (Q:VK),Inv X pins O H s->RelV x v->s.heap.IsSliceOf sl vl vu .none->NX vl lo->NX vu hi->r x lo hi H Q->
  ∃T id,KP (.type T) "__getitem__"=pure (some (.builtin id))/\s.TypeIs v T/\aJ (aH X.prog X.w) X.A (zf v (.ref sl)) (EP X pins O Q) X.xe s
def tSl(r:V->Option Int->Option Int->Hp->VK->Prop)(te:TE)(tl th:TO):TE:=fun O H Q=>te O H fun x H1=>tl O H1 fun l H2=>th O H2 fun u H3=>r x l u H3 Q
theorem Ou{r:V->Option Int->Option Int->Hp->VK->Prop}(hr:Vq X r)(he:PE X e te)(hl:PO X lo tl)(hu:PO X hi th):PE X (.Subscript e (.Slice lo hi none p2) pos) (tSl r te tl th):=by
 intro pins s O H Q I h;refine KQ (aY (he pins s O H _ I h) fun v s1 ⟨x,H1,I1,r1,q1⟩=>?_);refine wpAny_Slice (aY (hl pins s1 O H1 _ I1 q1) fun vl s2 ⟨l,H2,I2,pl,q2⟩=>aY (hu pins s2 O H2 _ I2 q2) fun vu s3 ⟨u,H3,I3,pu,q3⟩=>?_);rw[EK];refine a9 ?_;have I4:Inv X pins O H3 { s3 with heap:=s3.heap.push { cls:=.type "slice",data:=.fields #[vl,vu,.none] } }:=I3.kept (t':=s3.toks) fun b ob q=>aM _ q;obtain⟨T,id,hT,ht,hg⟩:=hr pins { s3 with heap:=s3.heap.push { cls:=.type "slice",data:=.fields #[vl,vu,.none] } } O H3 x v vl vu l u s3.heap.objs.size Q I4 r1 (NY ..) pl pu q3;show aJ (aH X.prog X.w) X.A (qC e (.Slice lo hi none p2) v (.ref s3.heap.objs.size)) (EP X pins O Q) X.xe { s3 with heap:=s3.heap.push { cls:=.type "slice",data:=.fields #[vl,vu,.none] } };exact tail_any (ops:=[.ref s3.heap.objs.size,v]) ht hT hg (by with_unfolding_all rfl)
noncomputable def Jp(xs:List V)(lo hi:Option Int):List V:=(xs.drop (HT.j4 xs.length 0 lo)).take (HT.j4 xs.length xs.length hi-HT.j4 xs.length 0 lo)
theorem Hj(xs:List V)(lo hi:Option Int):(Jp xs lo hi).length<=xs.length:=by
 unfold Jp;rw[dH,dX];omega
noncomputable def Xh(K:PySem.W.Frag):R2:=fun x y H Q=>∃a b xs ys,x=.ref a/\y=.ref b/\pV K H a xs/\pV K H b ys/\xs≠[]/\xs.length+ys.length<=aa /\
 (ys=[]->Q (.ref a) H)/\(ys≠[]->∀p,H p=none->Q (.ref p) (upd H p (.tup (xs++ys))))
theorem bK.Ca{xs:List V}{us:List Value}(r:bK xs us):us=[]↔xs=[]:=by
 cases r with
 |nil=>simp
 |cons _ _=>simp
theorem SW:jJ X (gR .Add) (Xh X.K):=by
 intro pins s O H x y v u Q I rx ry h;obtain⟨a,b,xs,ys,rfl,rfl,ha,hb,hx,hz,q1,q2⟩:=h;cases rx;cases ry;obtain⟨its,r1,p1,_⟩:=I.tuple ha;obtain⟨its2,r2,p2,_⟩:=I.tuple hb;refine HT.SR p1 p2 (fun z=>hx (r1.Ca.mp z)) (fun z=>⟨.ref a,H,I,rfl,q1 (r2.Ca.mp z)⟩) (fun z=>?_) (by rw[<-r1.length,<-r2.length];exact hz);refine⟨.ref s.heap.objs.size,_,I.laid (t':=s.toks) (o:=.tup (xs++ys)) (fun b ob q=>aM _ q) (aP _) ?_,rfl,q2 (fun w=>z (r2.Ca.mpr w)) _ (I.hok.fresh (aP _))⟩;exact⟨by rw[aE];exact hz,_,r1.append r2,IsTup.new _ _⟩
end
end L2
namespace L2
open PySem PySem.Spec PyProof.Rows
noncomputable def ji(n:Nat)(i:Int):Option Nat:=if 0<=i then(if i<n then some i.toNat else none)else if -(n:Int)<=i then some (i+n).toNat else none
noncomputable def cH{α:Type}(xs:List α)(i:Int):Option α:=(ji xs.length i).bind fun j=>xs[j]?
variable{n j:Nat}{i:Int}
theorem HY(h:ji n i=some j):seqIndex? i n=some j/\j<n/\-(n:Int)<=i/\i<n:=by
 unfold ji at h;by_cases h0:0<=i
 ·rw[if_pos h0]at h;by_cases h1:i<n
  ·rw[if_pos h1]at h;have e:i.toNat=j:=cV h;exact⟨by rw[zY h0 h1,e],by omega,by omega,h1⟩
  ·rw[if_neg h1]at h;cases h
 ·rw[if_neg h0]at h;by_cases h1:-(n:Int)<=i
  ·rw[if_pos h1]at h;have e:(i+n).toNat=j:=cV h;exact⟨by rw[yE (by omega) h1,e],by omega,h1,by omega⟩
  ·rw[if_neg h1]at h;cases h
variable{α:Type}
theorem rE{xs:List α}{v:α}(h:cH xs i=some v):∃j,seqIndex? i xs.length=some j/\xs[j]?=some v/\j<xs.length/\-(xs.length:Int)<=i/\i<xs.length:=by
 unfold cH at h;cases e:ji xs.length i with
 |none=>rw[e]at h;cases h
 |some j=>
  rw[e]at h;obtain⟨h1,h2,h3,h4⟩:=HY e;exact⟨j,h1,h,h2,h3,h4⟩
theorem cS{xs:List α}{v:α}(h:xs[j]?=some v):cH xs (j:Int)=some v:=by
 have hj:j<xs.length:=(bN.mp h).1;have e:ji xs.length (j:Int)=some j:=by
  unfold ji;rw[if_pos (by omega),if_pos (by omega)];simp
 unfold cH;rw[e];exact h
def HZ(b:Expr):Prop:=∀o i,uR b false o i=operate [o,i] (zf o i)
def Fd(X:Cx)(r:R2):Prop:=
 ∀(value slice:Expr) (pins:List (Addr×Obj)) (s:aj) (O:St) (H:Hp) (x y:V) (v u:Value) (Q:VK),Inv X pins O H s->RelV x v->RelV y u->r x y H Q->
  uR slice false v u=operate [v,u] (zf v u)->aJ (aH X.prog X.w) X.A (qC value slice v u) (EP X pins O Q) X.xe s
def MtR(X:Cx)(id:String)(r:V->List V->Hp->VK->Prop):Prop:=
 ∀(pins:List (Addr×Obj)) (s:aj) (O:St) (H:Hp) (x:V) (xs:List V) (v:Value) (us:List Value) (Q:VK),Inv X pins O H s->RelV x v->bK xs us->r x xs H Q->
  aJ (aH X.prog X.w) X.A (call (.builtin id) (v::us)) (EP X pins O Q) X.xe s
variable{pins:List (Addr×Obj)}{O:St}{H:Hp}{s:aj}
section
variable{X:Cx}{a b:Expr}{ta tb:TE}{pos:Pos}
theorem Xi{r:R2}(hr:Fd X r)(ha:PE X a ta)(hb:PE X b tb)(hs:HZ b):PE X (.Subscript a b pos) (Vc r ta tb):=by
 intro pins s O H Q I h;exact KQ (Oo ha hb I h fun v u s2 x y H2 I2 rx ry q=>hr a b pins s2 O H2 x y v u Q I2 rx ry q (hs _ _))
noncomputable def YI(K:PySem.W.Frag):R2:=fun x y H Q=>∃p xs i v,x=.ref p/\y=.int i/\jt K H p xs/\cH xs i=some v/\Q v H
noncomputable def YJ(K:PySem.W.Frag):R2:=fun x y H Q=>∃p xs i v,x=.ref p/\y=.int i/\pV K H p xs/\cH xs i=some v/\Q v H
noncomputable def YK:R2:=fun x y H Q=>∃z i c,x=.str z/\y=.int i/\z.length<=aa/\cH z.cps.toList i=some c/\Q (.str ⟨#[c]⟩) H
theorem SX:Fd X (YI X.K):=by
 intro value slice pins s O H x y v u Q I rx ry h hs;obtain⟨p,xs,i,z,rfl,rfl,hq,he,q⟩:=h;cases rx;obtain⟨t,rfl⟩:=ry;obtain⟨its,r,pl,hz⟩:=I.list hq;obtain⟨j,h1,h2,h3,h4,h5⟩:=rE he;obtain⟨w,ew,rw'⟩:=r.get h2;have hl:=r.length;have hn:=rN;have fin:EP X pins O Q w s:=⟨z,H,I,rw',q⟩;by_cases h0:0<=i
 ·have hj:i.toNat=j:=by
   rw[zY h0 h5]at h1;exact cV h1
  exact item_listR pl.isList h0 (by omega) (by rw[hj];simpa using ew) fin hs
 ·have hj:(i+(its.toArray.size:Int)).toNat=j:=by
   rw[yE (by omega) h4]at h1;rw[aS,<-hl];exact cV h1
  exact uS (x:=w) pl.isList.typeIs zk.lookup
   (wpAny_getItem_list_neg (Q:=fun r s'=>r=w/\EP X pins O Q r s') pl.isList (by omega) (by rw[aS]<;>omega) (by omega) (by rw[hj];simpa using ew) ⟨rfl,fin⟩) hs
theorem Vr:Fd X (YJ X.K):=by
 intro value slice pins s O H x y v u Q I rx ry h hs;obtain⟨p,xs,i,z,rfl,rfl,hq,he,q⟩:=h;cases rx;obtain⟨t,rfl⟩:=ry;obtain⟨its,r,pl,hz⟩:=I.tuple hq;obtain⟨j,h1,h2,h3,h4,h5⟩:=rE he;obtain⟨w,ew,rw'⟩:=r.get h2;have hl:=r.length;have hn:=rN;have fin:EP X pins O Q w s:=⟨z,H,I,rw',q⟩;exact uS (x:=w) pl.typeIs yF.lookup
  (getItem_tuple (j:=j) (Q:=fun r s'=>r=w/\EP X pins O Q r s') pl (by omega) (by omega) (by rw[aS,<-hl];exact h1) (by simpa using ew) ⟨rfl,fin⟩) hs
theorem Vs:Fd X YK:=by
 intro value slice pins s O H x y v u Q I rx ry h hs;obtain⟨z,i,c,rfl,rfl,hz,he,q⟩:=h;obtain⟨t,rfl⟩:=rx;obtain⟨t',rfl⟩:=ry;obtain⟨j,h1,h2,h3,h4,h5⟩:=rE he;have hl:z.cps.toList.length=z.length:=by simp[fZ]
 rw[hl]at h1 h4 h5;have hn:=rN;exact tail_any (jA s z t) AL.lookup (getItem_str (c:=c) (by
  have e1:decide (i < -(2 ^ 63:Int))=false:=decide_eq_false (by omega);have e2:decide (i≥2 ^ 63)=false:=decide_eq_false (by omega);rw[e1,e2,Bool.or_false]) (by rw[h1];simpa using h2) ⟨.str ⟨#[c]⟩,H,I.tok _,⟨_,rfl⟩,q⟩) hs
theorem Jq(its:List Value)(n j:Nat)(u:Value):kF (·.setIfInBounds j u) { cls:=.type "list",data:=.seq its.toArray n }={ cls:=.type "list",data:=.seq (its.set j u).toArray n }:=by
 simp[kF]
theorem Inv.lst{pins:List (Addr×Obj)}{O:St}{H:Hp}{s:aj}{p:Addr}{xs:List V}(I:Inv X pins O H s)(h:H p=some (.lst xs)) :
  ∃(its:List Value) (n:Nat),bK xs its/\s.heap.get? p=some { cls:=.type "list",data:=.seq its.toArray n }/\xs.length<=aa:=by
 obtain⟨z,its,n,r,e⟩:=I.hok p _ h;exact⟨its,n,r,e,z⟩
theorem Inv.Vt{p:Addr}{xs ys:List V}{its its':List Value}{n':Nat}{f:Obj->Obj}(I:Inv X pins O H s)(h:H p=some (.lst xs))
  (ho:s.heap.get? p=some { cls:=.type "list",data:=.seq its.toArray n }) (hf:f { cls:=.type "list",data:=.seq its.toArray n }={ cls:=.type "list",data:=.seq its'.toArray n' }) (r:bK ys its') (hz:ys.length<=aa) (t:Nat) :
  Inv X pins O (upd H p (.lst ys)) { s with heap:=s.heap.update p f,toks:=t }:=by
 have e:(s.heap.update p f).get? p=some { cls:=.type "list",data:=.seq its'.toArray n' }:=by
  rw[nA f ho (by rw[hf]<;>rfl),hf]
 refine I.write (x:=p) (e:=p) (by rw[h];trivial) (.inl rfl) (fun b u hb q=>(eO _ _ (cT hb)).trans q) ⟨_,e⟩ ?_;exact⟨hz,its',n',r,e⟩
def Xj:V->V->V->Hp->(Hp->Prop)->Prop:=fun o i v H Q=>∃p xs k j,o=.ref p/\i=.int k/\H p=some (.lst xs)/\ji xs.length k=some j/\Q (upd H p (.lst (xs.set j v)))
theorem set_list:Oj X Xj:=by
 intro pins s O H o i v ov iv u Q I ro ri rv h;obtain⟨p,xs,k,j,rfl,rfl,hp,hj,q⟩:=h;cases ro;obtain⟨t,rfl⟩:=ri;obtain⟨its,n,r,ho,hz⟩:=I.lst hp;obtain⟨h1,h2,h3,h4⟩:=HY hj;have hl:=r.length;have hn:=rN;have I':Inv X pins O (upd H p (.lst (xs.set j v))) { s with heap:=s.heap.update p (kF (·.setIfInBounds j u)) }:=
  I.Vt hp ho (Jq its n j u) (r.set rv j) (by rw[List.length_set];exact hz) s.toks
 by_cases h0:0<=k
 ·have hk:k.toNat=j:=by
   rw[zY h0 h4]at h1;exact cV h1
  exact PySem.W.ki_setAt ho h0 (by omega) (by rw[aS,<-hl];exact h4) (by rw[hk];exact⟨_,I',q⟩)
 ·have hk:(k+(its.toArray.size:Int)).toNat=j:=by
   rw[yE (by omega) h3]at h1;rw[aS,<-hl];exact cV h1
  exact PySem.W.ki_setBack ho (by omega) (by rw[aS,<-hl];exact h3) (by omega) (by rw[hk];exact⟨_,I',q⟩)
theorem Fe(lo hi:Option Int)(n:Nat):(g_ lo hi none n).1=((HT.j4 n 0 lo:Nat):Int)/\(g_ lo hi none n).2.1=((HT.j4 n n hi:Nat):Int)/\(g_ lo hi none n).2.2=1:=by
 refine⟨?_,?_,rfl⟩
 ·cases lo with
  |none=>simp[g_,HT.j4]
  |some i=>
   simp only[g_,HT.j4,AM,show(1:Int)>0 by decide,if_true];by_cases h:i<0
   ·simp only[h,if_true]<;>omega
   ·simp only[h,if_false]<;>omega
 ·cases hi with
  |none=>simp[g_,HT.j4]
  |some i=>
   simp only[g_,HT.j4,AM,show(1:Int)>0 by decide,if_true];by_cases h:i<0
   ·simp only[h,if_true]<;>omega
   ·simp only[h,if_false]<;>omega
theorem Ey(its:List Value)(lo hi:Option Int):slicePick its.toArray lo hi none=((its.drop (HT.j4 its.length 0 lo)).take (HT.j4 its.length its.length hi-HT.j4 its.length 0 lo)).toArray:=by
 obtain⟨h1,h2,h3⟩:=Fe lo hi its.toArray.size;unfold slicePick;rw[h1,h2,h3];simp only[sliceRange_one,pick_run,aS]<;>rfl
def YL(K:PySem.W.Frag):V->Option Int->Option Int->Hp->VK->Prop:=fun x lo hi H Q=>∃a xs,x=.ref a/\jt K H a xs/\∀p,H p=none->Q (.ref p) (upd H p (.lst (Jp xs lo hi)))
theorem SY:Vq X (YL X.K):=by
 intro pins s O H x v vl vu lo hi sl Q I rx hs pl pu h;obtain⟨a,xs,rfl,hx,q⟩:=h;cases rx;obtain⟨its,r,ht,hz⟩:=I.list hx;have hlen:=r.length;refine⟨"list",_,zk.lookup,ht.isList.typeIs,?_⟩;refine wpAny_getItem_list_slice ht.isList hs pl pu .none (by simp) ?_ (by rw[aS]<;>omega);rw[Ey,<-hlen];refine⟨.ref s.heap.objs.size,_,I.laid (t':=s.toks) (o:=.lst (Jp xs lo hi)) (fun b ob q=>aM _ q) (aP _) ?_,rfl,q _ (I.hok.fresh (aP _))⟩;exact⟨d9 (Hj xs lo hi) hz,_,0,(r.drop (HT.j4 xs.length 0 lo)).take (HT.j4 xs.length xs.length hi-HT.j4 xs.length 0 lo),bU _ rfl⟩
theorem Ff:mH X (.builtin "len") (fun xs H Q=>∃p ys,xs=[.ref p]/\(jt X.K H p ys\/pV X.K H p ys)/\Q (.int ys.length) H):=by
 intro pins s O H xs us Q I r h;obtain⟨p,ys,rfl,hq,q⟩:=h;obtain⟨u,rfl,rx⟩:=vals1 r;cases rx;have hn:=rN;rcases hq with hq|hq
 ·obtain⟨its,r',pl,hz⟩:=I.list hq;have hlen:=r'.length;exact Calls.call_len_list pl.isList (by simp only[aS]<;>omega) ⟨.int ys.length,H,I.tok _,⟨s.toks+1,by rw[aS,hlen]⟩,q⟩
 ·obtain⟨its,r',pl,hz⟩:=I.tuple hq;have hlen:=r'.length;exact len_tuple pl (by simp only[aS]<;>omega) ⟨.int ys.length,H,I.tok _,⟨s.toks+1,by rw[aS,hlen]⟩,q⟩
theorem Fg:mH X (.builtin "len") (fun xs H Q=>∃z,xs=[.str z]/\z.length<=aa/\Q (.int z.length) H):=by
 intro pins s O H xs us Q I r h;obtain⟨z,rfl,hz,q⟩:=h;obtain⟨u,rfl,t,rfl⟩:=vals1 r;have hn:=rN;exact len_str (by omega) ⟨.int z.length,H,I.tok _,⟨_,rfl⟩,q⟩
theorem Fi:mH X (.type "list") (fun xs H Q=>∃p ys,xs=[.ref p]/\(jt X.K H p ys\/pV X.K H p ys)/\∀l,H l=none->Q (.ref l) (upd H l (.lst ys))):=by
 intro pins s O H xs us Q I r h;obtain⟨p,ys,rfl,hq,q⟩:=h;obtain⟨u,rfl,rx⟩:=vals1 r;cases rx;have fin:∀(its:List Value),bK ys its->ys.length<=aa->∀(h':Heap) (c':Nat),(∀b o',s.heap.get? b=some o'->h'.get? b=some o')->
   h'.get? s.heap.objs.size=some { cls:=.type "list",dict:=none,data:=.seq its.toArray c',slots:=#[] }->EP X pins O Q (.ref s.heap.objs.size) { s with heap:=h' }:=fun its r' hz h' c' kp e=>
  ⟨.ref s.heap.objs.size,_,I.laid (t':=s.toks) kp (aP _) (show dj X.prog X.w _ h' _ (.lst ys)from⟨hz,its,c',r',e⟩),rfl,q _ (I.hok.fresh (aP _))⟩
 rcases hq with hq|hq
 ·obtain⟨its,r',pl,hz⟩:=I.list hq;have hlen:=r'.length;obtain⟨o,ho,hc,n,hd⟩:=pl.isList;exact EL p (.inl rfl) ho hc hd (fun h' c' kp e=>fin its r' hz h' c' kp e) (by simp only[aS]<;>omega)
 ·obtain⟨its,r',pl,hz⟩:=I.tuple hq;have hlen:=r'.length;obtain⟨o,ho,hc,n,hd⟩:=pl;exact EL p (.inr rfl) ho hc hd (fun h' c' kp e=>fin its r' hz h' c' kp e) (by simp only[aS]<;>omega)
def uX(K:PySem.W.Frag)(T:String)(x:V)(H:Hp):Prop:=match x with
|.str _=>T="str"
|.int _=>T="int"
|.ref p=>(T="list"/\∃xs,jt K H p xs)\/(T="tuple"/\∃o,K.lookup p=some o/\o.cls=.type "tuple"/\o.dict=none) \/
  (T="dict"/\((∃kvs,H p=some (.dK kvs))\/∃kvs,H p=some (.dT kvs)))\/(T="set"/\∃S n,H p=some (.set S n))
|_=>False
theorem Fj{x:V}{v:Value}(I:Inv X pins O H s)(r:RelV x v)(ty:uX X.K T x H) :
  s.TypeIs v T/\∀a,v=.ref a->∃ob,s.heap.get? a=some ob/\ob.dict=none:=by
 cases x with
 |str z=>
  obtain⟨t,rfl⟩:=r;cases(show T="str" from ty);exact⟨jA s z t,fun _ e=>nomatch e⟩
 |int i=>
  obtain⟨t,rfl⟩:=r;cases(show T="int" from ty);exact⟨BW s i t,fun _ e=>nomatch e⟩
 |ref p=>
  cases r;rcases ty with⟨rfl,xs,hq⟩|⟨rfl,o,hk,hc,hd⟩|⟨rfl,hk⟩|⟨rfl,S,n,hk⟩
  ·obtain⟨its,_,pl,_⟩:=I.list hq;refine⟨pl.isList.typeIs,fun a e=>?_⟩;cases e;obtain⟨o,n,e,c,hd,_⟩:=pl;exact⟨o,e,hd⟩
  ·refine⟨⟨o,I.gn p o hk,hc⟩,fun a e=>?_⟩;cases e;exact⟨o,I.gn _ o hk,hd⟩
  ·have z:∃o,s.heap.get? p=some o/\o.ExactDict:=by
    rcases hk with⟨kvs,hk⟩|⟨kvs,hk⟩
    ·obtain⟨_,_,_,_,o,_,_,e,ex,_⟩:=I.hok p _ hk;exact⟨o,e,ex⟩
    ·obtain⟨_,_,_,_,o,_,_,e,ex,_⟩:=I.hok p _ hk;exact⟨o,e,ex⟩
   obtain⟨o,e,ex⟩:=z;refine⟨⟨o,e,ex.1⟩,fun a e2=>?_⟩;cases e2;exact⟨o,e,ex.2.1⟩
  ·obtain⟨o,_,_,_,e,ex,_⟩:=I.hok p _ hk;refine⟨⟨o,e,ex.1⟩,fun a e2=>?_⟩;cases e2;exact⟨o,e,ex.2.1⟩
 |_=>exact au ty
variable{o e:Expr}{es:List Expr}{to:TE}{t:TA}{name:Str}{apos cpos:Pos}{T id:String}{r:V->List V->Hp->VK->Prop}
end
end L2
namespace L2
open PySem PySem.Spec PyProof.Rows
def Yd(X:Cx)(id:String)(r:V->List V->Hp->VK->Prop):Prop:=
 ∀(pins:List (Addr×Obj)) (s:aj) (O:St) (H:Hp) (x:V) (xs:List V) (v:Value) (us:List Value) (Q:VK),Inv X pins O H s->RelV x v->bK xs us->r x xs H Q->
  aJ (aH X.prog X.w) X.A (call (.builtin id) (v::us)) (EP X pins O Q) X.xe s
theorem bK.one:∀{x:V}{us:List Value},bK [x] us->∃u,us=[u]/\RelV x u
|_,_,.cons r .nil=>⟨_,rfl,r⟩
theorem bK.rep{xs:List V}{us:List Value}(h:bK xs us):∀k:Nat,bK (aF k xs).flatten (aF k us).flatten
|0=>.nil
|k+1=>by
 rw[bV,bV,c8,c8];exact bK.append h (bK.rep h k)
theorem foldl_rep(its:List Value):∀(k:Nat) (acc:List Value),
 BX (fun x1 x2=>x1++x2) acc.toArray (aF k its.toArray)=(acc++(aF k its).flatten).toArray
|0,acc=>by simp
|k+1,acc=>by
 have e:acc.toArray++its.toArray=(acc++its).toArray:=by simp
 have e2:(acc++its)++(aF k its).flatten=acc++(aF (k+1) its).flatten:=by
  rw[bV,c8,bQ]
 rw[<-e2,<-foldl_rep its k (acc++its),<-e,bV,uq]
variable{its:List Value}{n t':Nat}
section
variable{X:Cx}{pins:List (Addr×Obj)}{O:St}{H:Hp}{s:aj}{l b:Addr}{xs ys zs:List V}
theorem Inv.Vu{its':List Value}{f:Array Value->Array Value}(I:Inv X pins O H s)(hH:H l=some (.lst xs))
  (e:s.heap.get? l=some { cls:=.type "list",data:=.seq its.toArray n }) (hf:f its.toArray=its'.toArray) (hv:bK ys its') (hz:ys.length<=aa) :
  Inv X pins O (upd H l (.lst ys)) { s with heap:=s.heap.update l (kF f),toks:=t' }:=by
 have q:=PySem.IsL.update e f;rw[hf]at q;refine I.write (x:=l) (e:=l) (by rw[hH];exact trivial) (.inl rfl) (fun b' u hb hu=>(eO s.heap (kF f) (cT hb)).trans hu) ⟨_,q⟩ ?_;exact⟨hz,its',_,hv,q⟩
theorem Inv.Jr(I:Inv X pins O H s)(hv:bK ys its)(hz:ys.length<=aa) :
  Inv X pins O (upd H s.heap.objs.size (.lst ys)) { s with heap:=s.heap.push { cls:=.type "list",data:=.seq its.toArray },toks:=t' }:=
 I.laid (fun _ _ q=>aM _ q) (aP _) ⟨hz,its,0,hv,bU _ rfl⟩
theorem Inv.fresh(I:Inv X pins O H s):H s.heap.objs.size=none:=I.hok.fresh (aP _)
theorem Inv.Vv(I:Inv X pins O H s)(hH:H l=some (.lst xs)):xs.length<=aa/\∃(its:List Value) (n:Nat),bK xs its/\xs.length=its.length/\s.heap.get? l=some { cls:=.type "list",data:=.seq its.toArray n }:=by
 obtain⟨z,its,n,r,e⟩:=I.hok l _ hH;exact⟨z,its,n,r,r.length,e⟩
theorem Ov(h:n<=aa):lK n=false:=by
 unfold lK;exact decide_eq_false (by omega)
end
section
variable{X:Cx}
def S1:V->List V->Hp->VK->Prop:=fun x vs H Q=>∃l xs y,x=.ref l/\vs=[y]/\H l=some (.lst xs)/\xs.length<aa/\Q .non (upd H l (.lst (xs++[y])))
theorem Lp:Yd X "list.append" S1:=by
 intro pins s O H x vs v us Q I rx rv h;obtain⟨l,xs,y,rfl,rfl,hH,hz,q⟩:=h;cases rx;obtain⟨u,rfl,ru⟩:=rv.one;obtain⟨z,its,n,r,hl,e⟩:=I.Vv hH;refine iM F.slot_list_append ⟨_,e,rfl⟩ F.entry_list_append (F.args_list_append_2 _ _) (PySem.list_append l its.toArray n u (by rw[aS];omega)) ⟨e,?_⟩;refine⟨.non,_,I.Vu (its':=its++[u]) hH e (by simp) (r.append (.cons ru .nil)) ?_,rfl,q⟩;rw[aE,cg];omega
theorem len_rep{α:Type}(xs:List α)(k:Nat):(aF k xs).flatten.length=k*xs.length:=by
 induction k with
 |zero=>simp
 |succ k ih=>rw[bV,c8,aE,ih,yG,yH]
end
end L2
end
section
namespace L2
open PySem PySem.Spec PyProof.Rows
variable{o:Option V}
variable{u:Value}{y:V}
section
variable{κ:Type} [DecidableEq κ]
noncomputable def fV(kvs:List (κ×V))(k:κ):Option V:=(kvs.find? fun kv=>decide (kv.1=k)).map (·.2)
noncomputable def putK(kvs:List (κ×V))(k:κ)(v:V):List (κ×V):=
 if(kvs.any fun kv=>decide (kv.1=k))=true then kvs.map (fun kv=>if kv.1=k then(kv.1,v)else kv)else kvs++[(k,v)]
theorem z9{p:κ×V}{r:List (κ×V)}{k:κ}(e:p.1=k):fV (p::r) k=some p.2:=by simp[fV,fQ,e]
theorem z_{p:κ×V}{r:List (κ×V)}{k:κ}(e:¬p.1=k):fV (p::r) k=fV r k:=by simp[fV,fQ,e]
theorem Fk(k:κ):∀kvs:List (κ×V),(kvs.any fun kv=>decide (kv.1=k))=(fV kvs k).isSome
|[]=>rfl
|p::r=>by
 rw[f6];by_cases e:p.1=k
 ·simp only[z9 e,decide_eq_true e,G0,yI]
 ·rw[z_ e,decide_eq_false e,EM];exact Fk k r
theorem uD(kvs:List (κ×V))(k:κ)(v:V):(putK kvs k v).length<=kvs.length+1:=by
 unfold putK;split
 ·rw[ah];omega
 ·rw[aE,aW,dm];omega
theorem j_.pY{u:Option Value}(r:j_ o u):o.isSome=u.isSome:=by
 cases o with
 |none=>cases u with
  |none=>rfl
  |some _=>exact(show False from r).elim
 |some _=>cases u with
  |none=>exact(show False from r).elim
  |some _=>rfl
theorem j_.getD{u:Option Value}{d:V}{d':Value}(r:j_ o u)(rd:RelV d d'):RelV (o.getD d) (u.getD d'):=by
 cases o with
 |none=>cases u with
  |none=>exact rd
  |some _=>exact(show False from r).elim
 |some _=>cases u with
  |none=>exact(show False from r).elim
  |some _=>exact r
theorem KV.val{kvs:List (κ×V)}{vs:List (κ×Value)}(r:KV kvs vs)(k:κ):j_ (fV kvs k) (rM vs k):=by
 unfold KV at r;induction r with
 |nil=>exact dc
 |@cons p q ps qs h t ih=>
  obtain⟨h1,h2⟩:=h;by_cases e:p.1=k
  ·have e':q.1=k:=h1.symm.trans e;have b:rM (q::qs) k=some q.2:=by simp[rM,fQ,e']
   rw[z9 e,b];exact h2
  ·have e':¬q.1=k:=fun z=>e (h1.trans z);have b:rM (q::qs) k=rM qs k:=by simp[rM,fQ,e']
   rw[z_ e,b];exact ih
theorem KV.any{kvs:List (κ×V)}{vs:List (κ×Value)}(r:KV kvs vs)(k:κ):(kvs.any fun kv=>decide (kv.1=k))=vs.any fun kv=>decide (kv.1=k):=by
 unfold KV at r;induction r with
 |nil=>rfl
 |cons h t ih=>rw[f6,f6,ih,h.1]
theorem KV.repl{kvs:List (κ×V)}{vs:List (κ×Value)}(r:KV kvs vs)(k:κ)(ry:RelV y u) :
  KV (kvs.map fun kv=>if kv.1=k then(kv.1,y)else kv) (vs.map fun kv=>if kv.1=k then(kv.1,u)else kv):=by
 unfold KV at r ⊢;induction r with
 |nil=>exact .nil
 |@cons p q ps qs h t ih=>
  rw[aV,aV];refine .cons ?_ ih;obtain⟨h1,h2⟩:=h;by_cases e:p.1=k
  ·rw[if_pos e,if_pos (h1.symm.trans e)];exact⟨h1,ry⟩
  ·rw[if_neg e,if_neg (fun z=>e (h1.trans z))];exact⟨h1,h2⟩
theorem KV.put{kvs:List (κ×V)}{vs:List (κ×Value)}(r:KV kvs vs)(k:κ)(ry:RelV y u):KV (putK kvs k y) (NZ vs k u):=by
 unfold putK NZ;rw[r.any k];by_cases e:(vs.any fun kv=>decide (kv.1=k))=true
 ·rw[if_pos e,if_pos e];exact r.repl k ry
 ·rw[if_neg e,if_neg e];exact Paired.snoc r ⟨rfl,ry⟩
theorem KV.length{kvs:List (κ×V)}{vs:List (κ×Value)}(r:KV kvs vs):kvs.length=vs.length:=Paired.length r
end
variable{P:bJ}{w:bS}
theorem qU{k:Key}(r:RelV (kV k) u):(c_ P w).is k u=true:=by
 cases k with
 |inl i=>obtain⟨t,e⟩:=(show ∃t,u=nu i t from r);subst e;exact zz P w i t
 |inr x=>obtain⟨t,e⟩:=(show ∃t,u=uf x t from r);subst e;exact zA P w x t
theorem Df:∀{ks:List Key}{us:List Value},bK (ks.map kV) us->ItemsAre (c_ P w) ks us
|[],_,r=>by rw[jY]at r;cases r;exact .nil
|k::ks,_,r=>by
 rw[aV]at r;cases r with
 |cons h t=>exact .cons (qU h) (Df t)
abbrev KT(H:Hp):List (List Key×V)->List (List Key×Addr×Value)->Prop:=Paired fun p q=>p.1=q.1/\H q.2.1=some (.tup (p.1.map kV))/\RelV p.2 q.2.2
variable{H:Hp}{kvs:List (List Key×V)}{xs:List (List Key×Addr×Value)}
theorem KT.val(r:KT H kvs xs)(k:List Key):j_ (fV kvs k) ((uu xs k).map (·.2)):=by
 induction r with
 |nil=>exact dc
 |@cons p q ps qs h t ih=>
  obtain⟨h1,_,h2⟩:=h;by_cases e:p.1=k
  ·have e':q.1=k:=h1.symm.trans e;have b:uu (q::qs) k=some q.2:=by simp[uu,fQ,e']
   rw[z9 e,b];exact h2
  ·have e':¬q.1=k:=fun z=>e (h1.trans z);have b:uu (q::qs) k=uu qs k:=by simp[uu,fQ,e']
   rw[z_ e,b];exact ih
theorem KT.repl(r:KT H kvs xs)(k:List Key)(ry:RelV y u) :
  KT H (kvs.map fun kv=>if kv.1=k then(kv.1,y)else kv) (xs.map (putAt k u)):=by
 induction r with
 |nil=>exact .nil
 |@cons p q ps qs h t ih=>
  rw[aV,aV];refine .cons ?_ ih;obtain⟨h1,h2,h3⟩:=h;unfold putAt;by_cases e:p.1=k
  ·rw[if_pos e,if_pos (h1.symm.trans e)];exact⟨h1,h2,ry⟩
  ·rw[if_neg e,if_neg (fun z=>e (h1.trans z))];exact⟨h1,h2,h3⟩
theorem KT.put(r:KT H kvs xs)(k:List Key){b:Addr}(hb:H b=some (.tup (k.map kV)))(ry:RelV y u) :
  KT H (putK kvs k y) (storedH xs k b u):=by
 have e:(kvs.any fun kv=>decide (kv.1=k))=(uu xs k).isSome:=by
  rw[Fk,(r.val k).pY,qM]
 unfold putK storedH;rw[e];by_cases q:(uu xs k).isSome=true
 ·rw[if_pos q,if_pos q];exact r.repl k ry
 ·rw[if_neg q,if_neg q];exact Paired.snoc r ⟨rfl,hb,ry⟩
variable{H':Hp}
theorem KT.keeps(r:KT H kvs xs)(ht:∀b ys,H b=some (.tup ys)->H' b=some (.tup ys)):KT H' kvs xs:=
 Paired.Oc r fun _ _ z=>⟨z.1,ht _ _ z.2.1,z.2.2⟩
section
variable{P:bJ}{w:bS}{H:Hp}{h:Heap}{a:Addr}
theorem RY{u:HO}(ok:fU P w H h)(e:Rd H a u):dj P w H h a u:=e.ok ok
theorem tE{kvs:List (Key×V)}(ok:fU P w H h)(e:Rd H a (.dK kvs)):kvs.length<=aa/\(a==g8)=false/\∃vs,KV kvs vs/\h.DictOf (c_ P w) a vs:=
 show dj P w H h a (.dK kvs)from RY ok e
theorem RZ{kvs:List (Key×V)}(ok:fU P w H h)(e:H a=some (.dK kvs)):kvs.length<=aa/\(a==g8)=false/\∃vs,KV kvs vs/\h.DictOf (c_ P w) a vs:=tE ok (.inl e)
theorem rO{ks:List Key}(ok:fU P w H h)(e:H a=some (.tup (ks.map kV))):(nv (c_ P w)).is h ks a:=by
 obtain⟨_,its,r,o,h1,h2,n,h3⟩:=(show dj P w H h a (.tup (ks.map kV))from ok a _ e);exact⟨o,its.toArray,n,h1,h2,h3,by simpa using Df r⟩
theorem vP(ok:fU P w H h)(e:Rd H a (.dT kvs)):kvs.length<=aa/\(a==g8)=false /\
  ∃xs,KT H kvs xs/\h.DictOfH (nv (c_ P w)) a xs:=by
 obtain⟨z,y,xs,r,o,es,ep,h1,h2,h3,h4,h5⟩:=(show dj P w H h a (.dT kvs)from RY ok e);refine⟨z,y,xs,r,o,es,ep,h1,h2,h3,h4,fun x hx=>?_,h5⟩;have all:∀{l:List (List Key×V)}{m:List (List Key×Addr×Value)},KT H l m->∀x∈m,(nv (c_ P w)).is h x.1 x.2.1:=by
  intro l m q;induction q with
  |nil=>intro x hx;exact nomatch hx
  |@cons p q ps qs hq t ih=>
   intro x hx;rcases aC.mp hx with e|hx
   ·subst e;exact rO ok (by rw[<-hq.1];exact hq.2.1)
   ·exact ih x hx
 exact all r x hx
theorem Xk(ok:fU P w H h)(e:H a=some (.dT kvs)):kvs.length<=aa/\(a==g8)=false /\
  ∃xs,KT H kvs xs/\h.DictOfH (nv (c_ P w)) a xs:=vP ok (.inl e)
end
def xA(H:Hp)(a:Addr)(y:V)(r:Option V):Prop:=
 (∃kvs k,Rd H a (.dK kvs)/\y=kV k/\r=fV kvs k)\/∃kvs k b,Rd H a (.dT kvs)/\y=.ref b/\H b=some (.tup (k.map kV))/\r=fV kvs k
def YM(H:Hp)(a:Addr)(y v:V)(H':Hp):Prop:=
 (∃kvs k,H a=some (.dK kvs)/\y=kV k/\kvs.length<aa/\H'=upd H a (.dK (putK kvs k v))) \/
 ∃kvs k b,H a=some (.dT kvs)/\y=.ref b/\H b=some (.tup (k.map kV))/\kvs.length<aa/\H'=upd H a (.dT (putK kvs k v))
variable{Q:Value->aj->Prop}
variable{h':Heap}
section
variable{X:Cx}{pins:List (Addr×Obj)}{O:St}{H:Hp}{s:aj}{a:Addr}{y v:V}{u r:Value}{o:Option V}{A:dh}{E:Value->aj->Prop}
theorem Inv.big(I:Inv X pins O H s):g8<s.heap.objs.size:=by
 have h:cX<s.heap.objs.size:=(I.mod.glob.keeps I.bk).lt;exact jZ (by decide) h
theorem Dg(hu:A.units+1<dM)(I:Inv X pins O H s)(g:xA H a y (some v))(ry:RelV y u)(h:∀w' s',Inv X pins O H s'->RelV v w'->Q w' s') :
  aJ (aH X.prog X.w) A (zf (.ref a) u) Q E s:=by
 rcases g with⟨kvs,k,e,ey,l⟩|⟨kvs,k,b,e,ey,eb,l⟩
 ·subst ey;obtain⟨z,hd,vs,rel,dd⟩:=tE I.hok e;obtain⟨w',hw,rw'⟩:=j_.some_of (v:=v) (o:=rM vs k) (by rw[l];exact rel.val k);exact wpAny_getItem_of (qU ry) dd.mapOf hw (h w' _ (I.tok _) rw')
 ·subst ey;cases(show u=a6 b from ry);obtain⟨z,hd,xs,rel,dd⟩:=vP I.hok e;obtain⟨w',hw,rw'⟩:=j_.some_of (v:=v) (o:=(uu xs k).map (·.2)) (by rw[l];exact rel.val k);obtain⟨p,hp,hp2⟩:=Option.map_eq_some_iff.mp hw;refine wpAny_getItem_heap (ig hu) (rO I.hok eb) dd hp ?_;rw[hp2];exact h w' _ (I.tok _) rw'
theorem YN(hu:A.units+1<dM)(I:Inv X pins O H s)(g:xA H a y o)(ry:RelV y u)(h:∀s',Inv X pins O H s'->Q (.bool o.isSome) s') :
  aJ (aH X.prog X.w) A (gf .In u (.ref a)) Q E s:=by
 rcases g with⟨kvs,k,e,ey,l⟩|⟨kvs,k,b,e,ey,eb,l⟩
 ·subst ey;obtain⟨z,hd,vs,rel,dd⟩:=tE I.hok e;refine wpAny_in_of (qU ry) hd dd.mapOf ?_;rw[<-(rel.val k).pY,<-l];exact h _ (I.tok _)
 ·subst ey;cases(show u=a6 b from ry);obtain⟨z,hd,xs,rel,dd⟩:=vP I.hok e;refine wpAny_in_heap (ig hu) (rO I.hok eb) hd dd ?_;have q:=(rel.val k).pY;rw[qM]at q;rw[<-q,<-l];exact h _ (I.tok _)
theorem S2(hu:A.units+1<dM)(I:Inv X pins O H s)(g:xA H a y o)(ry:RelV y u)(h:∀s',Inv X pins O H s'->Q (.bool (!o.isSome)) s') :
  aJ (aH X.prog X.w) A (gf .NotIn u (.ref a)) Q E s:=by
 rcases g with⟨kvs,k,e,ey,l⟩|⟨kvs,k,b,e,ey,eb,l⟩
 ·subst ey;obtain⟨z,hd,vs,rel,dd⟩:=tE I.hok e;refine wpAny_notIn_of (qU ry) hd dd.mapOf ?_;rw[<-(rel.val k).pY,<-l];exact h _ (I.tok _)
 ·subst ey;cases(show u=a6 b from ry);obtain⟨z,hd,xs,rel,dd⟩:=vP I.hok e;refine wpAny_notIn_heap (ig hu) (rO I.hok eb) hd dd ?_;have q:=(rel.val k).pY;rw[qM]at q;rw[<-q,<-l];exact h _ (I.tok _)
theorem Cb{t':Nat}{ob:HO}(I:Inv X pins O H s)(mu:K_ (H a))(hs:nY a s.heap h')(he:∃q,h'.get? a=some q)(new:dj X.prog X.w (upd H a ob) h' a ob) :
  Inv X pins O (upd H a ob) { s with heap:=h',toks:=t' }:=
 I.write (x:=a) (e:=a) mu (.inl rfl) (fun b q hb z=>(hs.2 b hb).trans z) he new
theorem Lq{kvs:List (Key×V)}{vs:List (Key×Value)}(z:kvs.length<=aa)(hd:(a==g8)=false)(rel:KV kvs vs)(dd:h'.DictOf (c_ P w) a vs) :
  dj P w H' h' a (.dK kvs):=⟨z,hd,vs,rel,dd⟩
theorem Dh{Q:Unit->aj->Prop}(hu:A.units+1<dM)(I:Inv X pins O H s)(g:YM H a y v H')(ry:RelV y u)(rv:RelV v r)(h:∀s',Inv X pins O H' s'->Q () s') :
  aJ (aH X.prog X.w) A (Jb (.ref a) u r) Q E s:=by
 rcases g with⟨kvs,k,e,ey,l,eH⟩|⟨kvs,k,b,e,ey,eb,l,eH⟩
 ·subst ey eH;obtain⟨z,hd,vs,rel,dd⟩:=RZ I.hok e;have hz:vs.length<=aa:=by rw[<-rel.length];exact z
  have hl:(putK kvs k v).length<=aa:=by have:=uD kvs k v;omega
  refine wpAny_setItem_pairs (hsz:=hz) (qU ry) dd fun h' dd' hs=>h _ ?_;have he:∃q,h'.get? a=some q:=let⟨q,_,_,hq,_⟩:=dd';⟨q,hq⟩
  exact Cb I (by rw[e];exact dc) hs he (Lq hl hd (rel.put k rv) dd')
 ·subst ey eH;cases(show u=a6 b from ry);obtain⟨z,hd,xs,rel,dd⟩:=Xk I.hok e;have hz:xs.length<=aa:=by rw[<-Paired.length rel];exact z
  have hl:(putK kvs k v).length<=aa:=by have:=uD kvs k v;omega
  refine wpAny_setItem_heap (hsz:=hz) (ig hu) (rO I.hok eb) dd fun h' dd' hs=>h _ ?_;obtain⟨q,es,ep,hq,h2,h3,h4,_,h5⟩:=dd';refine Cb I (by rw[e];exact dc) hs ⟨q,hq⟩ ⟨hl,hd,_,(rel.put k eb rv).keeps fun c ys ec=>?_,q,es,ep,hq,h2,h3,h4,h5⟩;rw[aO (W4 ec e (fun z=>nomatch z))];exact ec
end
section
variable{X:Cx}{pins:List (Addr×Obj)}{O:St}{H:Hp}{s:aj}{a:Addr}{kvs:List (Key×V)}{k:Key}{u:Value}{A:dh}{E:Value->aj->Prop}
theorem Xl(I:Inv X pins O H s)(e:Rd H a (.dK kvs))(h:∀t s',Inv X pins O H s'->Q (.int kvs.length t) s'):aJ (aH X.prog X.w) A (call (.builtin "len") [.ref a]) Q E s:=by
 obtain⟨z,hd,vs,rel,dd⟩:=tE I.hok e;refine call_len_dict hd dd (by rw[<-rel.length];rw[fX]at z;omega) ?_;rw[<-rel.length];exact h _ _ (I.tok _)
end
variable{X:Cx}
theorem zE{pins:List (Addr×Obj)}{O:St}{s:aj}{a:Addr}(I:Inv X pins O H s)(g:xA H a y o):s.TypeIs (.ref a) "dict":=by
 rcases g with⟨kvs,k,e,_,_⟩|⟨kvs,k,b,e,_,_,_⟩
 ·obtain⟨_,_,vs,_,dd⟩:=tE I.hok e;exact dd.typeIs
 ·obtain⟨_,_,xs,_,dd⟩:=vP I.hok e;exact dd.typeIs
theorem Fo(h:Heap)(hb:g8<h.objs.size):dj P w H (h.push { cls:=.type "dict",data:=.dict #[] }) h.objs.size (.dK []):=
 ⟨gu _,beq_eq_false_iff_ne.mpr (cT (b8 hb)),[],.nil,Sy h⟩
def Vw:TE:=fun _ H Q=>∀p,H p=none->Q (.ref p) (upd H p (.dK []))
section
variable{X:Cx}{pos:Pos}
theorem Ow:PE X (.Dict [] [] pos) Vw:=fun pins s O H Q I h=>
 wpAny_Dict_empty ⟨.ref s.heap.objs.size,_,I.laid (a:=s.heap.objs.size) (o:=.dK []) (t':=s.toks) (fun _ _ q=>aM _ q) (aP _) (Fo s.heap I.big),rfl,h _ (I.hok.fresh (aP _))⟩
end
def A1:List (TE×TE)->St->Hp->(List (V×V)->Hp->Prop)->Prop
|[],_,H,Q=>Q [] H
|(tk,tv)::r,O,H,Q=>tk O H fun x H1=>tv O H1 fun y H2=>A1 r O H2 fun ps H3=>Q ((x,y)::ps) H3
abbrev VV:List (V×V)->List (Value×Value)->Prop:=Paired fun p q=>RelV p.1 q.1/\RelV p.2 q.2
def Lr(X:Cx)(pos:Pos)(keys:List (Option Expr))(values:List Expr)(trs:List (TE×TE)):Prop:=
 ∀(pins:List (Addr×Obj)) (s:aj) (O:St) (H:Hp) (Q:List (V×V)->Hp->Prop),Inv X pins O H s->A1 trs O H Q->
  aJ (aH X.prog X.w) X.A (evalPairs (pairTrees keys values X.env pos)) (fun vs s'=>∃ps H',Inv X pins O H' s'/\VV ps vs/\Q ps H') X.xe s
variable{pos:Pos}
theorem S3:Lr X pos [] [] []:=fun pins s O H Q I h=>pairTrees_nil_walk ⟨[],H,I,.nil,h⟩
variable{trs:List (TE×TE)}
theorem Ox{k v:Expr}{ks:List (Option Expr)}{vs:List Expr}{tk tv:TE}(hk:PE X k tk)(hv:PE X v tv)(hr:Lr X pos ks vs trs) :
  Lr X pos (some k::ks) (v::vs) ((tk,tv)::trs):=fun pins s O H Q I h=>
 pairTrees_cons_walk (aY (hk pins s O H _ I h) fun u s1 ⟨x,H1,I1,rx,q1⟩=>aY (hv pins s1 O H1 _ I1 q1) fun w2 s2 ⟨y,H2,I2,ry,q2⟩=>
  aY (hr pins s2 O H2 _ I2 q2) fun ws s3 ⟨ps,H3,I3,rel,q3⟩=>⟨(x,y)::ps,H3,I3,.cons ⟨rx,ry⟩ rel,q3⟩)
noncomputable def kH(kvs more:List (Key×V)):List (Key×V):=more.foldl (fun acc kv=>putK acc kv.1 kv.2) kvs
theorem KV.merge:∀{more:List (Key×V)}{rs:List (Key×Value)}{kvs:List (Key×V)}{vs:List (Key×Value)},KV more rs->KV kvs vs->KV (kH kvs more) (merged vs rs):=by
 intro more rs kvs vs r;unfold KV at r;induction r generalizing kvs vs with
 |nil=>intro q;exact q
 |@cons p q ps qs h t ih=>
  intro r0;have e:KV (putK kvs p.1 p.2) (NZ vs q.1 q.2):=by
   have:=r0.put p.1 h.2;rw[<-h.1];exact this
  exact ih e
theorem wW:∀(more kvs:List (Key×V)),(kH kvs more).length<=kvs.length+more.length
|[],kvs=>by show kvs.length<=kvs.length+0;omega
|p::r,kvs=>by
 have h1:=wW r (putK kvs p.1 p.2);have h2:=uD kvs p.1 p.2;show(kH (putK kvs p.1 p.2) r).length<=_;rw[aW];omega
theorem A2{P:bJ}{w:bS}:∀{kvs:List (Key×V)}{ws:List (Value×Value)},VV (kvs.map fun kv=>(kV kv.1,kv.2)) ws->∃rs,Carries (c_ P w) ws rs/\KV kvs rs
|[],_,r=>by rw[jY]at r;cases r;exact⟨[],dc,.nil⟩
|p::kvs,_,r=>by
 rw[aV]at r;cases r with
 |@cons a b as bs h t=>
  obtain⟨rs,c,q⟩:=A2 (P:=P) (w:=w) t;obtain⟨b1,b2⟩:=b;exact⟨(p.1,b2)::rs,⟨qU h.1,rfl,c⟩,.cons ⟨rfl,h.2⟩ q⟩
def Xm(trs:List (TE×TE)):TE:=fun O H Q=>∀p,H p=none->A1 trs O (upd H p (.dK [])) fun ps H2=>H2 p=some (.dK [])/\∃kvs:List (Key×V),ps=kvs.map (fun kv=>(kV kv.1,kv.2))/\kvs.length<=15/\Q (.ref p) (upd H2 p (.dK (kH [] kvs)))
theorem S4{keys:List (Option Expr)}{values:List Expr}(h:Lr X pos keys values trs)(hall:keys.all (·.isSome)=true)(hl:keys.length=values.length)(h0:keys≠[])
  (h15:keys.length<=15):PE X (.Dict keys values pos) (Xm trs):=by
 intro pins s O H Q I q;have hn:=I.hok.fresh (aP s.heap.objs.size);have I1:=I.laid (a:=s.heap.objs.size) (o:=.dK []) (h':=s.heap.push { cls:=.type "dict",data:=.dict #[] }) (t':=s.toks) (fun _ _ q=>aM _ q) (aP _) (Fo s.heap I.big);refine wpAny_Dict_walk (knd:=c_ X.prog X.w) hall hl h0 h15 (aY (h pins _ O _ _ I1 (q _ hn)) fun ws s2 ⟨ps,H2,I2,rel,e,kvs,ep,lk,q2⟩=>?_);subst ep;obtain⟨rs,c,rk⟩:=A2 (P:=X.prog) (w:=X.w) rel;obtain⟨z,hd,vs0,r0,dd⟩:=RZ I2.hok e;cases r0;refine⟨rs,c,dd,fun h' dd' hs=>⟨.ref s.heap.objs.size,_,?_,rfl,q2⟩⟩;have hz:(kH [] kvs).length<=aa:=by
  have h1:=wW kvs [];rw[dm]at h1;rw[fX];omega
 have he:∃q,h'.get? s.heap.objs.size=some q:=let⟨q,_,_,hq,_⟩:=dd';⟨q,hq⟩
 exact Cb I2 (by rw[e];exact dc) hs he (Lq hz hd (rk.merge .nil) dd')
section
variable{X:Cx}{pins:List (Addr×Obj)}{O:St}{H:Hp}{s:aj}{a:Addr}{y d:V}{u r:Value}{o:Option V}{A:dh}{E:Value->aj->Prop}
theorem Vx(hu:A.units+1<dM)(I:Inv X pins O H s)(g:xA H a y o)(ry:RelV y u)(h:∀w' s',Inv X pins O H s'->RelV (o.getD .non) w'->Q w' s') :
  aJ (aH X.prog X.w) A (call (.builtin "dict.get") [.ref a,u]) Q E s:=by
 rcases g with⟨kvs,k,e,ey,l⟩|⟨kvs,k,b,e,ey,eb,l⟩
 ·subst ey;obtain⟨z,hd,vs,rel,dd⟩:=tE I.hok e;refine sW PySem.F.slot_dict_get dd.typeIs PySem.F.entry_dict_get (PySem.F.args_dict_get_2 _ _) (meets_dict_get (c_ X.prog X.w) a (qU ry) hd) ⟨_,dd.mapOf,h _ _ (I.tok _) ?_⟩;rw[l];exact(rel.val k).getD rfl
 ·subst ey;cases(show u=a6 b from ry);obtain⟨z,hd,xs,rel,dd⟩:=vP I.hok e;refine sW PySem.F.slot_dict_get dd.typeIs PySem.F.entry_dict_get (PySem.F.args_dict_get_2 _ _) (meetsH_dict_get (nv (c_ X.prog X.w)) a b hd) ⟨ig hu,k,xs,rO I.hok eb,dd,h _ _ (I.tok _) ?_⟩;rw[l];exact(rel.val k).getD rfl
theorem Ls(hu:A.units+1<dM)(I:Inv X pins O H s)(g:xA H a y o)(ry:RelV y u)(rd:RelV d r)(h:∀w' s',Inv X pins O H s'->RelV (o.getD d) w'->Q w' s') :
  aJ (aH X.prog X.w) A (call (.builtin "dict.get") [.ref a,u,r]) Q E s:=by
 rcases g with⟨kvs,k,e,ey,l⟩|⟨kvs,k,b,e,ey,eb,l⟩
 ·subst ey;obtain⟨z,hd,vs,rel,dd⟩:=tE I.hok e;refine sW PySem.F.slot_dict_get dd.typeIs PySem.F.entry_dict_get (PySem.F.args_dict_get_3 _ _ _) (meets_dict_get_default (c_ X.prog X.w) a (qU ry) hd r) ⟨_,dd.mapOf,h _ _ (I.tok _) ?_⟩;rw[l];exact(rel.val k).getD rd
 ·subst ey;cases(show u=a6 b from ry);obtain⟨z,hd,xs,rel,dd⟩:=vP I.hok e;refine sW PySem.F.slot_dict_get dd.typeIs PySem.F.entry_dict_get (PySem.F.args_dict_get_3 _ _ _) (meetsH_dict_get_default (nv (c_ X.prog X.w)) a b hd r) ⟨ig hu,k,xs,rO I.hok eb,dd,h _ _ (I.tok _) ?_⟩;rw[l];exact(rel.val k).getD rd
end
end L2
end
section
namespace Att
open PySem PySem.W PySem.Calls PyProof.Rows
variable{P:G1}{h:Heap}
theorem A3:∀(ns:List Int) (vs:List Value),WellAll P h vs (ns.map N1)->vA vs ns:=by
 intro ns;induction ns with
 |nil=>
  intro vs w;rw[jY]at w;cases w;exact .nil
 |cons n ns ih=>
  intro vs w;rw[aV]at w;cases w with
  |cons a b=>
   cases a;exact .cons _ _ (ih _ b)
variable{l:OpenLaw}{n:Nat}
theorem Di(hn:l.most=some n){args:List WData}{vals:List Value}
  (hpre:l.row.toRowW.claim.pre args=true) (hwl:WellAll P h vals args) :
  ∃a vs ns,vals=[a6 a]/\args=[WData.list (ns.map N1)]/\h.get? a=some { cls:=.type "list",data:=.seq vs.toArray }/\vA vs ns/\ns.length<=n:=by
 have hsh:WShape.hasAll [] args [.list .int]=true:=(KR hpre).1;have hc:l.pre.holds [] { args:=args }=true:=(KR hpre).2;obtain⟨d,r,rfl,h1,h2⟩:=hasAllW_cons hsh;obtain rfl:=hasAllW_nil h2;obtain⟨xs,rfl,h3⟩:=hasW_list h1;obtain⟨ns,rfl⟩:=items_int h3;have hlen:ns.length<=n:=by
  unfold W2 at hc;have h4:(WTm.not (.lt (.lit (.int (n:Int))) (.len (.arg 0)))).holds [] { args:=[.list (ns.map .int)] }=true:=by
   have h4:=(holds_andW hc).1;rw[hn]at h4;exact h4
  have h5:=condW_of h4 (w_not (w_lt w_lit (w_len_list (w_arg rfl))));rw[ah]at h5;refine Nat.le_of_not_lt fun q=>?_;have q':(n:Int)<((ns.length:Nat):Int):=by omega
  first
   |(rw[decide_eq_true q']at h5;exact absurd h5 (by decide))
   |(simp at h5;omega)
 cases hwl with
 |cons w1 w2=>
  cases w2;cases w1 with
  |list ho hall=>exact⟨_,_,ns,rfl,rfl,ho,A3 ns _ hall,hlen⟩
theorem Dj(l:OpenLaw)(args:List WData):l.row.toRowW.claim.post args (.bool true) args=true:=
 postW_of (r:=l.row.toRowW) (X:=(true==true))
  (show KS [] (.bool true) .bool=true by first|rfl|decide|simp[KS,WShape.arms,WShape.armsAll])
  (show(WTm.eq .res (.lit (.bool true))).value [] { args:=args,res:=some (.bool true),after:=args }=some (.bool (true==true))from w_eq_bool (w_res rfl) w_lit) rfl
variable{q:bJ}{loose:List Str}{XP:(Str->Option Value)->Heap->Prop}{YP:bS->Heap->Prop}{d:N2}
theorem attach{x:Str}
  (hn:l.most=some n) (hdf:d.params.defaults=[])
  (hbind:∀pm cd doc v:Value,sV (N3 d.name d.params d.body d.scope pm cd doc) ⟨[v],[]⟩=pure [(x,v)])
  (hx:d.scope.names.lookup x=some .local\/d.scope.names.lookup x=some .cell)
  (hk:d.scope.kind=.function) (hco:d.scope.isCoroutine=false) (hgen:d.scope.isGenerator=false)
  (body:∀(w:bS) (ZD ZF s:aj) (mg mb:Str->Option Value) (fa:Addr) (o:Obj) (pm cd doc:Value) (a:Addr) (vs:List Value) (ns:List Int),
   Ground q loose [] XP w ZD mg mb ZF.heap->YP w ZF.heap->
   ZF.heap.get? fa=some o->o.data=.func (N3 d.name d.params d.body d.scope pm cd doc)->ZF.heap.CodeRec cd d.name->mg d.name=some (.ref fa)->
   ZF.heap.get? a=some { cls:=.type "list",data:=.seq vs.toArray }->vA vs ns->ns.length<=n->
   s.gens=#[]->s.os=ZF.os->
   Fr ZF.heap ZF.heap.objs.size s.heap (uh (jz d.name d.scope ZF.heap.objs.size fa cd).kindOf [(x,.ref a)] fun _=>none)->
   Cl ZF.heap.objs.size (dZ (ZF.heap.objs.size+1) d.scope.names []) s.heap (um (jz d.name d.scope ZF.heap.objs.size fa cd).kindOf [(x,.ref a)] fun _=>none)->
   aJ (aH l.prog w) (o7.deeper (jz d.name d.scope ZF.heap.objs.size fa cd)) (KN d.body (jz d.name d.scope ZF.heap.objs.size fa cd))
    (fun f s'=>f=.ret (.bool true)/\OldK ZF.heap s'.heap/\s'.os=ZF.os/\jW s'.gens) (fun _ _=>False) s) :
  WalkO q loose XP YP l.row.toRowW d [] (fun f vs=>PySem.call f vs):=by
 intro w ZD ZF mg mb G Zx fa o pm cd doc dV kV ho hd hcd hD hmg hg args vals as hpre hlay hrd hwl hlo;obtain rfl:dV=.none:=KU hD hdf;obtain rfl:kV=.none:=KW hD;obtain⟨a,vs,ns,rfl,rfl,hobj,hints,hlen⟩:=Di hn hpre hwl;refine KY ?_;refine call_cells_ret (o:=o) (by rw[depth_caller];decide) ho (G2 hd) G.T.nolimit hcd (hbind pm cd doc (.ref a)) (fun y hy=>?_) (fun ZJ tk F X=>?_) hco hgen hk
 ·obtain rfl:y=(x,a6 a):=aG.mp hy;rcases hx with e|e
  ·exact .inl e
  ·exact .inr ⟨e,cellsFrom_some _ _ _ (.inl e)⟩
 ·refine dJ (body w ZD ZF { ZF with heap:=ZJ,toks:=tk } mg mb fa o pm cd doc a vs ns G Zx ho (G2 hd) hcd hmg hobj hints hlen hg rfl F X) (fun f s' hq=>?_) (fun _ _ hq=>hq);obtain⟨rfl,h2,h3,h4⟩:=hq;exact⟨.inl ⟨.bool true,.bool true,[],rfl,fun _=>rfl,.bool true,Dj l _,fun _=>⟨zl,fun _ hm=>(nomatch hm)⟩⟩,h2,h3,h4⟩
theorem Hl
  (hn:l.most=some n) (hdf:d.params.defaults=[])
  (call:∀(w:bS) (ZD ZF:aj) (mg mb:Str->Option Value) (fa:Addr) (o:Obj) (pm cd doc:Value) (a:Addr) (vs:List Value) (ns:List Int),
   Ground q loose [] XP w ZD mg mb ZF.heap->YP w ZF.heap->
   ZF.heap.get? fa=some o->o.data=.func (N3 d.name d.params d.body d.scope pm cd doc)->ZF.heap.CodeRec cd d.name->mg d.name=some (.ref fa)->
   ZF.heap.get? a=some { cls:=.type "list",data:=.seq vs.toArray }->vA vs ns->ns.length<=n->ZF.gens=#[]->
   kM (aH l.prog w) o7 (.call (.ref fa) ⟨[.ref a],[]⟩) (fun r s'=>r=.ok (.ret (.bool true))/\OldK ZF.heap s'.heap/\s'.os=ZF.os/\jW s'.gens) ZF) :
  WalkO q loose XP YP l.row.toRowW d [] (fun f vs=>PySem.call f vs):=by
 intro w ZD ZF mg mb G Zx fa o pm cd doc dV kV ho hd hcd hD hmg hg args vals as hpre hlay hrd hwl hlo;obtain rfl:dV=.none:=KU hD hdf;obtain rfl:kV=.none:=KW hD;obtain⟨a,vs,ns,rfl,rfl,hobj,hints,hlen⟩:=Di hn hpre hwl;refine KY (lI (call w ZD ZF mg mb fa o pm cd doc a vs ns G Zx ho (G2 hd) hcd hmg hobj hints hlen hg) fun r s' hq=>?_);obtain⟨rfl,h2,h3,h4⟩:=hq;exact⟨.inl ⟨.bool true,.bool true,[],rfl,fun _=>rfl,.bool true,Dj l _,fun _=>⟨zl,fun _ hm=>(nomatch hm)⟩⟩,h2,h3,h4⟩
section
variable{prog:bJ}{w:bS}{A:dh}{E:Value->aj->Prop}{s:aj}{K:Frag}
noncomputable def ledger(h:Heap)(Zy d:Addr):List (Addr×Obj):=(cW h.objs.size).filterMap fun a=>if a=Zy\/a=d then none else(h.get? a).map fun o=>(a,o)
end
end Att
namespace L2
open PySem PySem.Spec PyProof.Rows
theorem Dk:∀{vs:List Value}{ns:List Int},vA vs ns->bK (ns.map V.int) vs
|_,_,.nil=>.nil
|_,_,.cons n t h=>.cons ⟨t,rfl⟩ (Dk h)
def Oz(H:Hp):Prop:=∀b,H b=none\/∃o xs,H b=some (.bC o (.lst xs))
theorem OA{P:bJ}{w:bS}{K:PySem.W.Frag}{mg mb:Str->Option Value}{CX:zC}{k:Nat}{fa a:Addr}{fd:fM}{x:Str}{sp:Sp}{ZF:aj}{vs:List Value}{ns:List Int}
  (KX:K.In ZF.heap) (hns:ZF.heap.Ns cX mg) (hb:ZF.heap.Ns BR mb) (hbb:∀x:Str,x≠"__name__"->mb x=lH x) (hlim:ZF.heap.NoLimit) (hg:ZF.gens=#[])
  (ha:ZF.heap.get? a=some { cls:=.type "list",data:=.seq vs.toArray }) (hi:vA vs ns) (hl:ns.length<=aa) (hr:h_ k o7)
  (F:∀base:Heap,K.In base->base.Ns cX mg->fK P w K mg base CX k fa fd [x] sp) (hbind:∀(s:aj) (u:Value),CW s fd ⟨[u],[]⟩ [(x,u)])
  (hsp:∀H:Hp,Oz H->jt K H a (ns.map V.int)->sp [.ref a] H (fun v _=>v=.bl true) fun _ _ _=>False)
  (hCX:∀H e s',CX [] H ZF (fun _ _ _=>False) e s'->False) :
  kM (aH P w) o7 (.call (.ref fa) ⟨[.ref a],[]⟩) (fun r s'=>r=.ok (.ret (.bool true))/\OldK ZF.heap s'.heap/\s'.os=ZF.os/\jW s'.gens) ZF:=by
 have rv:=Dk hi;have lenV:=hi.length;have core:∀H:Hp,Oz H->jt K H a (ns.map V.int)->fU P w H ZF.heap->(∀b,H b≠none->b=a)->(H a≠none->K.lookup a=none)->
   kM (aH P w) o7 (.call (.ref fa) ⟨[.ref a],[]⟩) (fun r s'=>r=.ok (.ret (.bool true))/\OldK ZF.heap s'.heap/\s'.os=ZF.os/\jW s'.gens) ZF:=by
  intro H hO hS hok hA hK;have base_of:∀{b:Addr}{o:Obj},ZF.heap.get? b=some o->H b=none->(vJ ZF.heap H).get? b=some o:=fun e n=>Od e n;have noA:∀{b:Addr}{o:Obj}{es:Array DictEntry}{ep:Nat},ZF.heap.get? b=some o->o.data=.dict es ep->H b=none:=fun{b o es ep} e d=>by
   cases q:H b with
   |none=>rfl
   |some u=>
    have e':b=a:=hA b (by rw[q];simp);subst e';rw[ha]at e;cases e;have d':Data.seq vs.toArray _=Data.dict es ep:=d;cases d'
  have nsK:∀{b:Addr}{m:Str->Option Value},ZF.heap.Ns b m->(vJ ZF.heap H).Ns b m:=fun{b m} ⟨o,es,ep,e,d,r⟩=>⟨o,es,ep,base_of e (noA e d),d,r⟩;have hKb:K.In (vJ ZF.heap H):=fun b o e=>base_of (KX b o e) (by
   cases q:H b with
   |none=>rfl
   |some u=>
    have e':b=a:=hA b (by rw[q];simp);subst e';rw[hK (by rw[q];simp)]at e;cases e)
  have hM:Mod K mg (vJ ZF.heap H):=⟨hKb,nsK hns,⟨mb,nsK hb,hbb⟩,let⟨mc,h1,h2⟩:=hlim;⟨mc,nsK h1,h2⟩⟩;have e0:z8 P w K mg (vJ ZF.heap H) o7 [] ZF H:=⟨rfl,hM,fun b o e=>SH e,yJ (La _ _),trivial,fun b hb=>absurd (show b∈([]:List Addr)from hb) (by simp),hok,.of_eq hg⟩;refine lI ((F _ hKb (nsK hns)).run o7 [] ZF H ⟨[.ref a],[]⟩ [.ref a] [.ref a] _ _ hr e0 (hbind ZF (.ref a)) (.cons rfl .nil) (hsp H hO hS)) fun r s' h=>?_;cases r with
  |error e=>exact(hCX H e s' h).elim
  |ok fl=>
   cases fl with
   |next=>exact au h
   |brk=>exact au h
   |cont=>exact au h
   |ret u=>
    obtain⟨v,H',os,bare,un,hok',r',q⟩:=h;have q':v=.bl true:=q;subst q';obtain rfl:u=wL true:=r';refine⟨rfl,OldK.of_keep fun b o e=>?_,os,bare⟩;cases q:H b with
    |none=>exact un.keep b o e q (by intro z;exact absurd (show b∈([]:List Addr)from z) (by simp)) (by simp)
    |some u=>
     rcases hO b with z|⟨ob,xs,z⟩
     ·rw[q]at z;cases z
     ·have z2:=un.az b ob _ z;obtain⟨e1,_⟩:=hok b _ z;obtain⟨e2,_⟩:=hok' b _ z2;rw[e]at e1;cases e1;exact e2
 cases hk:K.lookup a with
 |some o=>
  have e:=KX a o hk;rw[ha]at e;cases e;refine core (fun _=>none) (fun _=>.inl rfl) (.inr ⟨_,vs.toArray,_,hk,rfl,rfl,rfl,by rw[aS,lenV];exact hl,by simpa using rv⟩) (fun b u z=>by have z':(none:Option HO)=some u:=z;cases z') (fun b z=>absurd rfl z) fun z=>absurd rfl z
 |none=>
  refine core (fun b=>if b=a then some (.bC { cls:=.type "list",data:=.seq vs.toArray } (.lst (ns.map V.int)))else none) (fun b=>?_) (.inl (.inr ⟨{ cls:=.type "list",data:=.seq vs.toArray },if_pos rfl⟩)) (fun b u z=>?_) (fun b z=>?_) fun _=>hk
  ·by_cases hb:b=a
   ·exact .inr ⟨_,_,if_pos hb⟩
   ·exact .inl (if_neg hb)
  ·by_cases hb:b=a
   ·have z':=(if_pos hb).symm.trans z;cases z';subst hb;exact⟨ha,by rw[ah];exact hl,vs,_,rv,ha⟩
   ·have z':=(if_neg hb).symm.trans z;cases z'
  ·by_cases hb:b=a
   ·exact hb
   ·exact absurd (if_neg hb) z
end L2
namespace L2
open PySem PySem.Spec PyProof.Rows
noncomputable abbrev KOf{K:PySem.W.Frag}{h:Heap}(_:K.In h):PySem.W.Frag:=K
theorem S5{l:PySem.W.OpenLaw}{n k:Nat}{q:bJ}{loose:List Str}{XP:(Str->Option Value)->Heap->Prop}{YP:bS->Heap->Prop}{d:N2}{K:G1->PySem.W.Frag}{CX:bS->zC}{sp:bS->Sp}{x:Str}
  (hn:l.most=some n) (hn2:n<=aa) (hdf:d.params.defaults=[]) (hr:h_ k o7)
  (hY:∀(w:bS) (h:Heap),YP w h->(K w.params).In h)
  (F:∀(w:bS) (mg:Str->Option Value) (fa:Addr) (h:Heap),(K w.params).In h->h.Ns cX mg->mg d.name=some (.ref fa)->
   ∃fd:fM,(∀(s:aj) (u:Value),CW s fd ⟨[u],[]⟩ [(x,u)]) /\
    ∀base:Heap,(K w.params).In base->base.Ns cX mg->fK l.prog w (K w.params) mg base (CX w) k fa fd [x] (sp w))
  (hsp:∀(w:bS) (H:Hp) (a:Addr) (ns:List Int),ns.length<=n->Oz H->jt (K w.params) H a (ns.map V.int)->sp w [.ref a] H (fun v _=>v=.bl true) fun _ _ _=>False)
  (hCX:∀(w:bS) (H:Hp) (s:aj) (e:Value) (s':aj),CX w [] H s (fun _ _ _=>False) e s'->False) :
  PySem.W.WalkO q loose XP YP l.row.toRowW d [] (fun f vs=>PySem.call f vs):=by
 refine Att.Hl hn hdf fun w ZD ZF mg mb fa o pm cd doc a vs ns G Zx ho hd hcd hmg hobj hints hlen hg=>?_;have KX:=hY w _ Zx;obtain⟨fd,hb,hF⟩:=F w mg fa _ KX G.T.g hmg;exact OA KX G.T.g G.T.b G.T.builtins G.T.nolimit hg hobj hints (d9 hlen hn2) hr hF hb (fun H hO hS=>hsp w H a ns hlen hO hS) fun H e s'=>hCX w H ZF e s'
end L2
namespace L2
open PySem PySem.Spec PyProof.Rows
def lQ(s:Stmt):Arguments:=match s with
|.FunctionDef _ a _ _ _ _ _ _ _ _=>a
|_=>{ posonlyargs:=[],args:=[],vararg:=none,kwonlyargs:=[],kw_defaults:=[],kwarg:=none,defaults:=[] }
def gc(s:Stmt):List Stmt:=match s with
|.FunctionDef _ _ b _ _ _ _ _ _ _=>b
|_=>[]
def cA(s:Stmt):fP:=match s with
|.FunctionDef _ _ _ _ _ _ sc _ _ _=>sc
|_=>{ kind:=.function,names:=[],isGenerator:=false,isCoroutine:=false }
noncomputable abbrev zF:zC:=fun _ _ _ _ _ _=>False
noncomputable abbrev E0:XK:=fun _ _ _=>False
structure qI (K:PySem.W.Frag) (x qual:Str) (st:Stmt) (f:Addr) (fd:fM):Prop where
 ex:∃(oc:Value) (od:Option Addr) (kV doc pm:Value) (an:Option Addr) (cdv ct:Value) (osl:Array (Option Value)),
  fd=PySem.W.fnOf x qual (lQ st) (gc st) (cA st) .none kV doc pm an cdv ct/\K.lookup f=some ⟨oc,od,.func fd,osl⟩/\PySem.W.codeIn K cdv qual=true
 kp:PySem.W.keepIn K (.ref f)=true
variable{x qual:Str}{st:Stmt}{f:Addr}{fd:fM}{ps:List Str}
section
variable{P:bJ}{w:bS}{K:PySem.W.Frag}{mg:Str->Option Value}{base:Heap}
theorem qI.ok{N:List Str}{k:Nat}{sp:Sp}(F:qI K x qual st f fd)(S:lO N ps (cA st))(len:∀vs H Q E,sp vs H Q E->vs.length=ps.length)
  (hbody:∀(cdv:Value) (A:dh) (outer:List Env) (s:aj) (H:Hp) (vs:List V) (Q:VK) (E:XK),h_ k (A.deeper (jz qual (cA st) s.heap.objs.size f cdv))->sp vs H Q E->
   ∃t,m9 (kN zF P w K mg base N qual (cA st) f cdv A outer s H E).xw (gc st) t/\t { nx:=fun _ H'=>Q .non H',rt:=Q } (start N vs) H):fK P w K mg base zF (k+1) f fd ps sp:=by
 obtain⟨oc,od,kV,doc,pm,an,cdv,ct,osl,rfl,lk,hcd⟩:=F.ex;refine RX lk hcd S len fun A outer s H vs Q E hr hsp=>?_;obtain⟨t,h,q⟩:=hbody cdv A outer s H vs Q E hr hsp;exact⟨t,h.xw,q⟩
theorem qI.binds(F:qI K x qual st f fd)
  (h:∀(kV doc pm:Value) (an:Option Addr) (cdv ct:Value) (us:List Value),us.length=ps.length->sV (PySem.W.fnOf x qual (lQ st) (gc st) (cA st) .none kV doc pm an cdv ct) ⟨us,[]⟩=pure (ps.zip us)):Binds K fd ps []:=by
 obtain⟨oc,od,kV,doc,pm,an,cdv,ct,osl,rfl,lk,hcd⟩:=F.ex;exact .all (h kV doc pm an cdv ct)
theorem fun_mk{oc:Value}{od an:Option Addr}{osl:Array (Option Value)}{kV doc pm cdv ct:Value}(l:K.lookup f=some ⟨oc,od,.func (PySem.W.fnOf x qual (lQ st) (gc st) (cA st) .none kV doc pm an cdv ct),osl⟩)
  (c:PySem.W.codeIn K cdv qual=true) (k:PySem.W.keepIn K (.ref f)=true):qI K x qual st f (PySem.W.fnOf x qual (lQ st) (gc st) (cA st) .none kV doc pm an cdv ct):=⟨⟨oc,od,kV,doc,pm,an,cdv,ct,osl,rfl,l,c⟩,k⟩
end
def aZ(H H':Hp):Prop:=∀b o,H b=some o->H' b=some o
theorem aZ.refl(H:Hp):aZ H H:=fun _ _ h=>h
theorem aZ.trans{H H1 H2:Hp}(a:aZ H H1)(b:aZ H1 H2):aZ H H2:=fun c o h=>b c o (a c o h)
end L2
end
section
namespace L2
open PySem PySem.Spec PyProof.Rows
def Js(m:Bool)(P:Addr->Prop)(h:Heap)(e:Addr)(fl:Value->Prop)(v:Value):Prop:=
 (m=false/\v=.none)\/∃T oT ts f,v=.ref T/\T≠e/\h.get? T=some oT/\oT.data=.fields ts/\ts[3]?=some f/\fl f/\P T
structure ExcAt (m:Bool) (P:Addr->Prop) (h:Heap) (e C:Addr) (od:Option Addr) (fl:Value->Prop):Prop where
 at_:∃oe vs v,h.get? e=some oe/\oe.cls=.ref C/\oe.dict=od/\oe.data=.fields vs/\vs.size=6/\vs[1]?=some v/\Js m P h e fl v
 ok:P e
abbrev Fp(m:Bool)(X:Cx)(pins:List (Addr×Obj))(H:Hp)(s:aj)(e C:Addr)(od:Option Addr)(fl:Value->Prop):Prop:=ExcAt m (mh X pins H) s.heap e C od fl
variable{h':Heap}
variable{h:Heap}
variable{m:Bool}{fl:Value->Prop}{Q:Unit->aj->Prop}{E:Value->aj->Prop}
section
variable{X:Cx}{pins:List (Addr×Obj)}{O:St}{H:Hp}{s:aj}{e C:Addr}{od:Option Addr}
theorem Inv.fld{t:Addr}(I:Inv X pins O H s)(f:mh X pins H t)(k:∀b o,b≠t->s.heap.get? b=some o->h'.get? b=some o):Inv X pins O H { s with heap:=h' }:=
 I.turned (t':=s.toks) k f.1 f.2.1 f.2.2.2.1 f.2.2.2.2.1 f.2.2.2.2.2
theorem A4{a:Addr}{o:Obj}{vs:Array Value}(i:Nat)(x:Value)(ho:h.get? a=some o)(hd:o.data=.fields vs) :
  ∃o',(h.update a (qD (·.setIfInBounds i x))).get? a=some o'/\o'.cls=o.cls/\o'.dict=o.dict/\o'.data=.fields (vs.setIfInBounds i x):=by
 have hd':=Obj.data_mapFields hd (·.setIfInBounds i x);refine⟨_,nA _ ho (Obj.isFreed_of_fields hd'),Obj.cls_mapFields ..,?_,hd'⟩;obtain⟨c,d,dat,sl⟩:=o;dsimp only at hd;subst hd;rfl
theorem tF{fr:Option Addr}(I:Inv X pins O H s)(F:Fp m X pins H s e C od fl)
  (h:∀s',Inv X pins O H s'->Fp m X pins H s' e C od (fun v=>v=fr.elim .none fun f=>jX f)->Q () s'):aJ (aH X.prog X.w) X.A (setFlight (.ref e) fr) Q E s:=by
 obtain⟨⟨oe,vs,v,he,hc,hdi,hd,hz,h1,ht⟩,fe⟩:=F;unfold setFlight;refine aq (uT he hd h1 ?_);rcases ht with⟨hm,rfl⟩|⟨T,oT,ts,f,rfl,hTe,hT,hdT,h3,_,fT⟩
 ·exact a9 (h s I ⟨⟨oe,vs,_,he,hc,hdi,hd,hz,h1,.inl ⟨hm,rfl⟩⟩,fe⟩)
 ·rw[if_pos (show(a6 T != eL)=true from by simp)];have hlt:3<ts.size:=(qE.mp h3).1;refine vB hT hdT hlt ?_;have other:∀b,b≠T->(s.heap.update T (qD (·.setIfInBounds 3 (fr.elim .none fun f=>jX f)))).get? b=s.heap.get? b:=fun b hb=>eO _ _ (cT hb);obtain⟨o',e1,_,_,e2⟩:=A4 3 (fr.elim .none fun f=>jX f) hT hdT;refine h _ (I.fld fT fun b o hb q=>(other b hb).trans q) ⟨⟨oe,vs,_,(other e (cT hTe)).trans he,hc,hdi,hd,hz,h1,.inr ⟨T,o',_,_,rfl,hTe,e1,e2,?_,rfl,fT⟩⟩,fe⟩;simp[hlt]
theorem Inv.slots(I:Inv X pins O H s)(k:Heap.SlotsOnly (frs X.stack) s.heap h'):Inv X pins O H { s with heap:=h' }:=by
 refine I.call (ch:=[]) (t':=s.toks) (d':=s.drawn) (g':=s.gens) ⟨fun b o e n hb _=>(k.2.1 b hb).trans e,fun b o e n _ _=>k.2.2 b o e,fun _ _ _ n _=>n,fun b o e _=>?_,fun _ _ q=>q,fun _ _ _ q=>q,fun b ps q=>⟨#[],by rw[q];simp⟩⟩ (fun a o q=>?_) I.bare (fun _ z=>nomatch z)
 ·obtain⟨sl,q⟩:=k.2.2 b o e;exact⟨_,q⟩
 ·have hk:∀b u,(b=a\/H b=some (.own a))->s.heap.get? b=some u->h'.get? b=some u:=fun b u hb e=>by
   refine(k.2.1 b fun z=>?_).trans e;have hn:=I.B8 b z;rcases hb with rfl|hb
   ·rw[hn]at q;cases q
   ·rw[hn]at hb;cases hb
  exact(I.hok a o q).stay hk (fun _ z=>z) fun _ _ z=>z
theorem Cc(hst:X.stack=X.env::X.outer)(hf:X.env.frame=some X.env.locals)(I:Inv X pins O H s)
  (F:Fp m X pins H s e C od (fun f=>f=.none\/f=jX X.env.locals))
  (h:∀s',Inv X pins O H s'->Fp true X pins H s' e C od (fun f=>f=jX X.env.locals)->Q () s'):aJ (aH X.prog X.w) X.A (Et (.ref e) X.env) Q E s:=by
 have new:∀{s:aj}{head:Value}{b:Bool},Inv X pins O H s->(∃oe vs,s.heap.get? e=some oe/\oe.cls=.ref C/\oe.dict=od/\oe.data=.fields vs/\vs.size=6)->mh X pins H e->
   aJ (aH X.prog X.w) X.A (do setField (.ref e) 1 (<-xo head (<-frameOf X.env) .none (jX X.env.locals) .none (<-entryPlaceOf X.env.locals b))) (fun _ s'=>Inv X pins O H s'/\Fp true X pins H s' e C od (fun f=>f=jX X.env.locals)) E s:=by
  rintro s head b I ⟨oe,vs,he,hc,hdi,hd,hz⟩ fe;have hfr:X.A.frames=some (X.env::X.outer):=by rw[<-hst];exact I.ok.frames
  have hl:=I.stack;rw[hst]at hl;refine aq (wpAny_frameOf_fun hfr hl hf fun ZJ ZY=>?_);rw[<-hst]at ZY;have I1:Inv X pins O H { s with heap:=ZJ }:=I.slots ZY;have he1:ZJ.get? e=some oe:=by
   refine(ZY.2.1 e fun z=>?_).trans he;rcases aC.mp (I.uW e z)with z|z
   ·exact fe.2.1 z
   ·exact fe.2.2.1 z
  refine aq (wpAny_entryPlaceOf fun pl hpl=>?_);unfold xo newFields;refine aq (zm ?_ (hpl.sizeOk5 _ _ _ _ _));generalize hts:([head,a6 X.env.locals,eL,jX X.env.locals,eL]++(if pl.isEmpty then aF 6 eL else pl)).toArray=ts;have ht3:ts[3]?=some (jX X.env.locals):=by rw[<-hts];rfl
  have I2:Inv X pins O H { s with heap:=ZJ.push { cls:=.type "traceback",dict:=none,data:=.fields ts } }:=I1.kept (t':=s.toks) fun b o q=>aM _ q;have he2:=aM (h:=ZJ) { cls:=.type "traceback",dict:=none,data:=.fields ts } he1;have hT2:=bU ZJ (o:={ cls:=.type "traceback",dict:=none,data:=.fields ts }) rfl;have hTe:ZJ.objs.size≠e:=yx (be he1);have fT:mh X pins H ZJ.objs.size:=I1.qq (aP _) (I1.hok.fresh (aP _));refine vB he2 hd (by omega) ?_;obtain⟨o',e1,e2,e3,e4⟩:=A4 1 (.ref ZJ.objs.size) he2 hd;have other:∀b,b≠e->((ZJ.push { cls:=.type "traceback",dict:=none,data:=.fields ts }).update e (qD (·.setIfInBounds 1 (.ref ZJ.objs.size)))).get? b=(ZJ.push { cls:=.type "traceback",dict:=none,data:=.fields ts }).get? b:=fun b hb=>eO _ _ (cT hb);refine⟨I2.fld fe fun b o hb q=>(other b hb).trans q,⟨⟨o',_,_,e1,e2.trans hc,e3.trans hdi,e4,by simpa using hz,?_,.inr ⟨_,_,ts,_,rfl,hTe,(other _ hTe).trans hT2,rfl,ht3,rfl,fT⟩⟩,fe⟩⟩;have:1<vs.size:=by omega
  simp[this]
 obtain⟨⟨oe,vs,v,he,hc,hdi,hd,hz,h1,ht⟩,fe⟩:=F;unfold Et;simp only[hf];refine aq (uT he hd h1 ?_);rcases ht with⟨hm,rfl⟩|⟨T,oT,ts,f,rfl,hTe,hT,hdT,h3,hfl,fT⟩
 ·exact aY (new (b:=_) I ⟨oe,vs,he,hc,hdi,hd,hz⟩ fe) fun _ s' q=>h s' q.1 q.2
 ·rw[if_pos (show(a6 T != eL)=true from by simp)];refine aq (uT hT hdT h3 ?_);by_cases c:f=jX X.env.locals
  ·rw[if_pos (show(f==jX X.env.locals)=true from by rw[c];simp)];exact a9 (h s I ⟨⟨oe,vs,_,he,hc,hdi,hd,hz,h1,.inr ⟨T,oT,ts,f,rfl,hTe,hT,hdT,h3,c,fT⟩⟩,fe⟩)
  ·have hlt:3<ts.size:=(qE.mp h3).1;have cn:(f==jX X.env.locals)=false:=by
    rcases hfl with rfl|z
    ·rfl
    ·exact absurd z c
   rw[if_neg (by rw[cn];exact ak)];refine aq (vB hT hdT hlt ?_);have other:∀b,b≠T->(s.heap.update T (qD (·.setIfInBounds 3 .none))).get? b=s.heap.get? b:=fun b hb=>eO _ _ (cT hb);exact aY (new (b:=_) (I.fld fT fun b o hb q=>(other b hb).trans q) ⟨oe,vs,(other e (cT hTe)).trans he,hc,hdi,hd,hz⟩ fe) fun _ s' q=>h s' q.1 q.2
end
noncomputable def j5(P:bJ)(w:bS):zC:=fun outer H s E v s'=>∃e C od H',v=.ref e/\s'.os=s.os/\jW s'.gens/\Un (frs outer) [] H H' s.heap s'.heap/\fU P w H' s'.heap /\
 ExcAt true (fun b=>H' b=none/\s.heap.objs.size<=b) s'.heap e C od (fun f=>f=.none)/\E (.ref C) od H'
variable{P':Addr->Prop}{e:Addr}{fl':Value->Prop}{v:Value}
theorem Js.imp{P:Addr->Prop}(x:Js m P h e fl v)(hp:∀b,P b->P' b)(hf:∀f,fl f->fl' f):Js m P' h e fl' v:=by
 rcases x with x|⟨T,oT,ts,f,h1,h2,h3,h4,h5,h6,h7⟩
 ·exact .inl x
 ·exact .inr ⟨T,oT,ts,f,h1,h2,h3,h4,h5,hf f h6,hp T h7⟩
variable{C:Addr}{od:Option Addr}
theorem ExcAt.imp{P:Addr->Prop}(x:ExcAt m P h e C od fl)(hp:∀b,P b->P' b)(hf:∀f,fl f->fl' f):ExcAt m P' h e C od fl':=by
 obtain⟨⟨oe,vs,v,h1,h2,h3,h4,h5,h6,h7⟩,h8⟩:=x;exact⟨⟨oe,vs,v,h1,h2,h3,h4,h5,h6,h7.imp hp hf⟩,hp e h8⟩
def uE(X:Cx)(E:XK):Value->aj->Prop:=fun v s=>∃m e C od pins O H,v=.ref e/\Inv X pins O H s/\Fp m X pins H s e C od (fun f=>f=.none\/f=jX X.env.locals)/\E (.ref C) od H
section
variable{X:Cx}{E:XK}
theorem S6:xy (j5 X.prog X.w) (X.jC (uE X E)) E:=by
 rintro pins O H s v s' I ⟨e,C,od,H',rfl,os,bare,un,hok,x,q⟩;have I0:=I.i0;obtain⟨hh,g,d,t,os'⟩:=s';obtain rfl:os'=s.os:=os;have I1:Inv X pins O H' { s with heap:=hh,gens:=g,drawn:=d,toks:=t }:=I0.call (h':=hh) (g':=g) (d':=d) (t':=t) (ch:=[]) un hok bare (fun b z=>absurd z (by simp));exact⟨true,e,C,od,pins,O,H',rfl,I1,x.imp (fun b hb=>I0.qq hb.2 hb.1) fun f hf=>.inl hf,q⟩
theorem Jt(hst:X.stack=X.env::X.outer)(hf:X.env.frame=some X.env.locals):yz (aH X.prog X.w) X.A X.env (uE X E):=by
 rintro v s ⟨m,e,C,od,pins,O,H,rfl,I,F,q⟩;refine Cc hst hf I F fun s1 I1 F1=>?_;unfold cameBackBy;obtain⟨⟨oe,vs,v,he,hc,hdi,hd,hz,h1,ht⟩,fe⟩:=id F1;rcases ht with⟨hm,_⟩|⟨T,oT,ts,f,rfl,hTe,hT,hdT,h3,hfl,fT⟩
 ·cases hm
 ·refine aq (uT he hd h1 ?_);rw[if_neg (show ¬(a6 T==eL)=true from ak)];refine tF I1 F1 fun s2 I2 F2=>⟨true,e,C,od,pins,O,H,rfl,I2,F2.imp (fun _ z=>z) fun f hz=>.inr ?_,q⟩;rw[hz,hf];rfl
end
variable{P:bJ}{w:bS}{K:PySem.W.Frag}{mg:Str->Option Value}{base:Heap}{N:List Str}{qual:Str}{scope:fP}{f:Addr}{cd:Value}{A:dh}{outer:List Env}{s:aj}{H:Hp}
theorem Vy{E:XK}{s':aj}
  (h:uE (kN (j5 P w) P w K mg base N qual scope f cd A outer s H E) E v s'):(kN (j5 P w) P w K mg base N qual scope f cd A outer s H E).xe v s':=by
 obtain⟨m,e,C,od,pins,O,H1,rfl,I,F,q⟩:=h;show aJ (aH P w) _ (Jc _ (.ref e)) _ _ s';unfold Jc;refine aq ?_;refine Cc (X:=kN (j5 P w) P w K mg base N qual scope f cd A outer s H E) rfl rfl I F fun s1 I1 F1=>?_;refine tF I1 F1 fun s2 I2 F2=>⟨e,C,od,H1,rfl,I2.os,I2.bare,I2.base,I2.hok,F2.imp (fun b hb=>⟨hb.1,?_⟩) fun _ z=>z,q⟩;rcases hb.2.2.2.1 with z|z
 ·exact absurd (show b∈([]:List Addr)from z) (by simp)
 ·exact z
variable{body:List Stmt}
theorem Vz{E:XK}{t:TS}
  (h:m9 ((kN (j5 P w) P w K mg base N qual scope f cd A outer s H E).jC (uE (kN (j5 P w) P w K mg base N qual scope f cd A outer s H E) E)) body t):m9 (kN (j5 P w) P w K mg base N qual scope f cd A outer s H E) body t:=
 fun pins s1 O H1 D I hw=>dJ (h pins s1 O H1 D (I.jC _) hw) (fun _ _ q=>q.i0) fun _ _ q=>Vy q
section
variable{P:bJ}{w:bS}{A:dh}{E:Value->aj->Prop}{h:Heap}{g:Array GenState}{d:Drawn}{t:Nat}{os:OsState}
variable{nm q:Str}{C N fI:Addr}{bs bm bmB:List Value}{hdct:Bool}{sn:List Str}{sub:List Value}{ab:Bool}{col:Option Bool}{dd:Option Addr}{k0 k1 k2 k3 k5:Option Value}{B newId initId:String}{us:List Value}{K:PySem.W.Frag}
noncomputable abbrev zG(C a:Addr):Obj:={ cls:=.ref C,data:=.fields #[.ref a,.none,.none,.none,.bool false,.none] }
noncomputable abbrev zH(us:List Value):Obj:={ cls:=.type "tuple",data:=.seq us.toArray }
theorem Ho{Q:Fin->aj->Prop}(F:G3 B newId initId bmB)(T:Jd h bmB bm)
  (hC:h.get? C=some (iT nm q C N bs bm hdct sn sub ab col dd k0 k1 k2 k3 k5 newId)) (X:K.In h) (hi:PySem.W.findIn K (.ref C) "__init__"=some (some (.ref fI))) (hf:PySem.W.typeIn K (.ref fI)=some (.type "function"))
  (hl:us.length<=aa) (hq:aJ (aH P w) A (call (.ref fI) (.ref (h.objs.size+1)::us)) (fun r s'=>r=.none/\Q (.done (.ret (.ref (h.objs.size+1)))) s') E ⟨(h.push (zH us)).push (zG C h.objs.size),g,d,t,os⟩) :
  aJ (aH P w) A (Builtin.«type.__call__» ⟨.ref C::us,[]⟩) Q E ⟨h,g,d,t,os⟩:=by
 repeat (first
  |with_reducible refine gA hC ?_
  |with_reducible refine wpAny_madeBy_exc hC ?_
  |wp_step)
 refine codeAny_call_builtin_code (yK _ F.quiet) (wpAny_check_new_subT F T hC ?_);refine codeAny_exc_new_subT F T hC ?_ hl;show aJ _ _ _ _ _ _;have up:∀b o,h.get? b=some o->((h.push (zH us)).push (zG C h.objs.size)).get? b=some o:=fun b o e=>aM _ (aM _ e);have c1:=up _ _ hC;have X1:K.In ((h.push (zH us)).push (zG C h.objs.size)):=X.keeps up;have x1:((h.push (zH us)).push (zG C h.objs.size)).get? (h.objs.size+1)=some (zG C h.objs.size):=by heap_get
 have hcc:(a6 C::bm).contains (.ref C)=true:=by simp
 unfold BY
 repeat (first
  |with_reducible refine gA x1 ?_
  |(with_reducible refine oA c1 ?_;rw[hcc])
  |wp_step)
 show aJ _ _ (KP (.ref C) _) _ _ _;refine(PySem.W.looks_findIn X1 hi).at ?_;refine jr (aq ((PySem.W.bind_fn X1 _ hf).at ?_));refine aq (dJ hq (fun r s' hr=>?_) fun _ _ x=>x);obtain⟨rfl,hr⟩:=hr
 wp_walk
 exact hr
theorem VA{Q:Value->aj->Prop}(F:G3 B newId initId bmB)(T:Jd h bmB bm)
  (hC:h.get? C=some (iT nm q C N bs bm hdct sn sub ab col dd k0 k1 k2 k3 k5 newId)) (X:K.In h) (hi:PySem.W.findIn K (.ref C) "__init__"=some (some (.ref fI))) (hf:PySem.W.typeIn K (.ref fI)=some (.type "function"))
  (hl:us.length<=aa) (hq:aJ (aH P w) (A.under (.builtin "type.__call__" ⟨.ref C::us,[]⟩)) (call (.ref fI) (.ref (h.objs.size+1)::us)) (fun r s'=>r=.none/\Q (.ref (h.objs.size+1)) s') E ⟨(h.push (zH us)).push (zG C h.objs.size),g,d,t,os⟩) :
  aJ (aH P w) A (call (.ref C) us) Q E ⟨h,g,d,t,os⟩:=by
 have z1:=tc_lookup;have z2:=tc_bind (.ref C);have z3:(⟨h,g,d,t,os⟩:aj).TypeIs (.ref C) "type":=⟨_,hC,rfl⟩;refine n_ (codeAny_of_tree ?_);show aJ _ _ (callAny (.ref C) _) _ _ _
 repeat (any_goals (first
  |assumption
  |with_reducible refine gA hC ?_
  |wp_step))
 refine⟨rfl,?_⟩;exact codeAny_call_builtin_at (yK _ (by decide +kernel)) entry_typeCall (wpAny_check_type_call_sub hC (Ho F T hC X hi hf hl hq))
end
structure xB (K:PySem.W.Frag) (C:Addr):Prop where
 ga:PySem.W.findIn K (.ref C) "__getattribute__"=some (some (.builtin "BaseException.__getattribute__"))
 gt:PySem.W.findIn K (.ref C) "__getattr__"=some none
 sa:PySem.W.findIn K (.ref C) "__setattr__"=some (some (.builtin "object.__setattr__"))
 hd:PySem.W.hasDictIn K C=true
 sb:PySem.W.mroIn K C (.type "BaseException")=some true
 ob:PySem.W.mroIn K C (.type "object")=some true
variable{expr:Bool}{tk:Tok}
section
variable{P:bJ}{w:bS}{A:dh}{E:Value->aj->Prop}{s:aj}{K:PySem.W.Frag}{x C:Addr}{ox:Obj}{od:Option Obj}{name:Str}
theorem Dl{P':Value->aj->Prop}{fill:Bool}(X:K.In s.heap)(I:PySem.W.InstAt s.heap x ox C od)(c:xB K C)(hv:PySem.W.handedIn v=true)
  (h:aJ (aH P w) A.in1 (Builtin.«object.__getattribute__» ⟨[.ref x,.str name tk],[]⟩) (fun fin s'=>fin=.done (.ret v)/\P' v s') (fun _ _=>False) s) :
  aJ (aH P w) A (getAttrBy (.ref x) (.str name tk) fill expr) P' E s:=by
 obtain⟨hh,g,d,t,os⟩:=s;have L0:=I.type (M:=aH P w);have L1:=PySem.W.looks_findIn (M:=aH P w) X c.ga;have L2:=PySem.W.looks_findIn (M:=aH P w) X c.gt;have hs:PySem.W.Looks (aH P w) hh (BY (.ref x) (.type "BaseException")) true:=L0.andThen (PySem.W.looks_mroIn X c.sb);unfold getAttrBy;refine jr (aq (L0.at (aq (L1.at ?_))));have hne:(onTheHeap (a6 C)&&qF "BaseException.__getattribute__"==qF "object.__getattribute__")=false:=by
  rw[show(qF "BaseException.__getattribute__"==qF "object.__getattribute__")=false from by decide +kernel,vC]
 dsimp only;rw[hne,if_neg ak];unfold getAttrByItsOwn hookBefore;refine aq (L2.at ?_);refine aq (EN (jr ?_));unfold callGetattribute;rw[if_neg (by cases expr<;>exact ak)];unfold boundAndCalled;rw[PySem.F.attr_ValueError.ga.bind];refine aq (a9 (n_ ?_));show kM (aH P w) A (.call (.builtin "BaseException.__getattribute__") ⟨[.ref x,.str name tk],[]⟩) _ _;have k1:builtinKind "BaseException.__getattribute__"=some .slot:=by decide +kernel
 have k2:splitId "BaseException.__getattribute__"=some ("BaseException","__getattribute__"):=by decide +kernel
 refine wM PySem.F.attr_ValueError.ga.plain PySem.F.entry_bexc_ga (@PySem.W.check_slot (aH P w) _ _ ⟨hh,g,d,t,os⟩ "BaseException.__getattribute__" "BaseException" "__getattribute__" (.ref x) [.str name tk] [] _ k1 k2 hs (PySem.F.args_bexc_ga (.ref x) (.str name tk)) ?_);refine dJ h (fun fin s' z=>?_) fun _ _ z=>z.elim;obtain⟨rfl,z⟩:=z;show aJ _ _ (handedOut v) _ _ _;rw[PySem.W.handedOut_of hv];exact a9 z
theorem YO{Q:Value->aj->Prop}(X:K.In s.heap)(I:PySem.W.InstAt s.heap x ox C od)(c:xB K C)(hf:PySem.W.findObj K C od name=some (.value v))(hv:PySem.W.handedIn v=true)
  (h:Q v { s with toks:=s.toks+1 }):aJ (aH P w) A (vz (.ref x) name expr) Q E s:=by
 unfold vz;refine aq (G4 ?_);refine Dl (s:={ s with toks:=s.toks+1 }) X I c hv ?_;obtain⟨hh,g,d,t,os⟩:=s;have L0:=I.type (M:=aH P w);have L1:=PySem.W.looks_find (M:=aH P w) X I hf;refine aq (a9 (aq (a9 (aq (L0.at (aq (L1.at ?_)))))));exact a9 ⟨rfl,h⟩
theorem VB(c:xB K C)(ha:PySem.W.findIn K (.ref C) "__class__"=some (some (.builtin "object.__class__")))
  (hn:PySem.W.specialIn K (.builtin "object.__class__") "__get__"=some (some (.builtin "getset_descriptor.__get__"))) (htk:PySem.W.takesIn K (.builtin "object.__class__")=some true) :
  PySem.W.KitX K (.ref x) (.ref C) (fun h=>PySem.W.InstAt h x ox C od) where
 ty:=fun _ _ _ I=>I.type
 it:=fun M h X _=>by
  obtain⟨cd,hc,_⟩:=PySem.W.any_some c.hd;unfold PySem.W.clsIn at hc;split at hc
  ·rename_i ho;intro A' Q' E' s' k q;unfold isType loadHead;exact aq (vD (k _ _ (X _ _ ho)) (a9 q))
  ·cases hc
 ne:=fun h tp dd its n sl X htp=>by
  obtain⟨cd,hc,_⟩:=PySem.W.any_some c.hd;refine Bool.eq_false_iff.mpr fun z=>?_;cases UW (beq_iff_eq.mp z);unfold PySem.W.clsIn at hc;split at hc
  ·rename_i ho;have z:=(X _ _ ho).symm.trans htp;cases z
  ·cases hc
 ca:=fun{P w A E Q s} X I k=>by
  have hf:PySem.W.findObj K C od "__class__"=some (.bind (.builtin "getset_descriptor.__get__") (.builtin "object.__class__")):=by
   obtain⟨cd,hc,_⟩:=PySem.W.any_some c.hd;unfold PySem.W.findObj;rw[hc,Option.bind_some,ha];simp[hn,htk]
  unfold getAttr?;refine aq (G4 ?_);unfold getAttrBy?;refine aq (EN ?_);refine Dl (s:={ s with toks:=s.toks+1 }) (v:=.ref C) X I c rfl ?_;obtain⟨hh,g,d,t,os⟩:=s;have L0:=I.type (M:=aH P w);have L1:=PySem.W.looks_find (M:=aH P w) X I hf;refine aq (a9 (aq (a9 (aq (L0.at (aq (L1.at ?_)))))));show aJ _ _ (o6 [_] (call _ [_,.ref x,.ref C]) >>= ret) _ _ _;refine aq (jr (n_ (PySem.W.class_get (s:=⟨hh,g,d,t+1,os⟩) (ox:=ox) (od:=od) X I c.ob ?_)));exact a9 ⟨rfl,a9 k⟩
noncomputable def uY:List Value->Bool
|.ref _::r=>uY r
|l=>l==[.type "ValueError",.type "Exception",.type "BaseException",.type "object"]
theorem S7(self:Value):KZ self "__setattr__" [.type "ValueError",.type "Exception",.type "BaseException",.type "object"]=pure ():=by kernel_rfl
theorem Lu(self:Value):∀(l:List Value),uY l=true->KZ self "__setattr__" l=pure ():=by
 intro l;induction l with
 |nil=>intro e;cases e
 |cons v r ih=>
  intro e;unfold uY at e;split at e
  ·rename_i z;cases z;rw[refuseLoop_ref];exact ih e
  ·rw[beq_iff_eq.mp e];exact S7 self
theorem VC{R:GY->aj->Prop}(X:K.In s.heap)(I:PySem.W.InstAt s.heap x ox C od)(c:xB K C)(hm:(PySem.W.clsIn K C).any (fun cd=>uY cd.mro)=true)(hf:PySem.W.findIn K (.ref C) name=some none)
  (h:aJ (aH P w) A.in1 (iU (.ref x) (.ref C) (.str name tk) name v false)
   (fun fin s'=>match fin with|.done f=>R (.ok f) s'|.again c'=>c'.quiet=true/\kM (aH P w) A c' R s') (fun e s'=>R (.error e) s') s) :
  kM (aH P w) A (.call (.builtin "object.__setattr__") ⟨[.ref x,.str name tk,v],[]⟩) R s:=by
 have SF:=PySem.F.store_object;obtain⟨cd,hc,ho⟩:=PySem.W.any_some hm;have sub:PySem.W.Looks (aH P w) s.heap (BY (.ref x) (.type "object")) true:=I.type.andThen (PySem.W.looks_mroIn X c.ob);have lm:PySem.W.Looks (aH P w) s.heap (mroOf (.ref C)) cd.mro:=(PySem.W.looks_clsIn X hc).andThen .now;refine wM SF.slot.plain SF.entry (@PySem.W.check_slot (aH P w) _ _ s "object.__setattr__" "object" "__setattr__" (.ref x) [.str name tk,v] [] _ SF.kind SF.split sub (SF.args (.ref x) (.str name tk) v) ?_);rw[PySem.W.osa_eq,refuse_eq];refine aq (aq (I.type.here (aq (lm.here ?_))));rw[Lu _ _ ho];exact a9 (aq (I.type.here (aq ((PySem.W.looks_findIn X hf).here (aq (a9 h))))))
end
def R0(m:Bool)(e C:Addr)(od:Option Addr)(h:Heap):Prop:=∃oe vs,h.get? e=some oe/\oe.cls=.ref C/\oe.dict=od/\oe.data=.fields vs/\(vs.size=6/\(m=true->vs[1]?=some .none))
def VD(d:Addr)(fs:List (Str×V))(h:Heap):Prop:=∃mA,h.Ns1 d mA/\(∀f,j_ (fs.lookup f) (mA f))/\PySem.Within mA (fs.map (·.1))/\fs.length<=1000
noncomputable def ia(m:Bool)(e C:Addr)(od:Option Addr):HO:=.ext (R0 m e C od)
noncomputable def gW(d:Addr)(fs:List (Str×V)):HO:=.ext (VD d fs)
theorem Fq(x:R0 m e C od h):dj P w H h e (ia m e C od):=by
 refine⟨x,?_,?_⟩
 ·obtain⟨oe,_,h1,_⟩:=x;exact⟨oe,h1⟩
 ·rintro h1 h2 ⟨oe,vs,q1,q⟩ k;exact⟨oe,vs,k _ q1,q⟩
variable{d:Addr}{fs:List (Str×V)}
theorem Ft(x:VD d fs h):dj P w H h d (gW d fs):=by
 refine⟨x,?_,?_⟩
 ·obtain⟨mA,⟨o,_,_,h1,_⟩,_⟩:=x;exact⟨o,h1⟩
 ·rintro h1 h2 ⟨mA,n,q⟩ k;exact⟨mA,n.at k,q⟩
theorem yR(ok:fU P w H h)(q:H e=some (ia m e C od)):R0 m e C od h:=(show dj P w H h e (ia m e C od)from ok e _ q).1
theorem ES(ok:fU P w H h)(q:H d=some (gW d fs)):VD d fs h:=(show dj P w H h d (gW d fs)from ok d _ q).1
structure uZ (K:PySem.W.Frag) (C:Addr):Prop extends xB K C where
 tl:(PySem.W.clsIn K C).any (fun cd=>uY cd.mro)=true
variable{u:Value}
section
variable{X:Cx}{pins:List (Addr×Obj)}{O:St}{H:Hp}{s:aj}{e C:Addr}{f:Str}{A:dh}{E:Value->aj->Prop}
theorem Xn{y:V}(I:Inv X pins O H s)(q:H e=some (ia m e C none))(c:uZ X.K C)(n:ju X.K C f)(ry:RelV y u)
  (h:∀d s',H d=none->Inv X pins O (upd (upd H d (gW d [(f,y)])) e (ia m e C (some d))) s'->Q () s'):aJ (aH X.prog X.w) A (setAttr (.ref e) f u) Q E s:=by
 obtain⟨oe,vs,he,hc,hdi,hd,hz⟩:=yR I.hok q;have J:PySem.W.InstAt s.heap e oe C none:=⟨he,hc,by unfold PySem.W.notCls;rw[hd],by rw[hdi];trivial⟩;refine PySem.W.set_plain I.gn J c.sa (VC (s:={ s with toks:=s.toks+1 }) I.gn J c.toxB c.tl n ?_);obtain⟨cd,hcd,hhd⟩:=PySem.W.any_some c.hd;obtain⟨oc,odi,oda,osl⟩:=oe;dsimp only at hc hdi hd;subst hc hdi hd;unfold iU;refine aq (a9 (aq ?_));unfold l0 G5;refine aq (vD he (aq (PySem.W.Looks.here (s:={ s with toks:=s.toks+1 }) (PySem.W.looks_clsIn I.gn hcd) ?_)));dsimp only;rw[hhd];refine aq (HM ?_);have e1:(s.heap.push PySem.W.emptyDict).get? s.heap.objs.size=some PySem.W.emptyDict:=bU s.heap rfl;have e3:(s.heap.push PySem.W.emptyDict).Ns1 s.heap.objs.size (fun _=>none):=Ob ⟨PySem.W.emptyDict,#[],_,e1,rfl,(fun e he=>absurd he (by simp)),fun _=>rfl⟩;have hn:H s.heap.objs.size=none:=I.hok.fresh (aP _);have hne:e≠s.heap.objs.size:=b8 (be he);have he1:=aM (h:=s.heap) PySem.W.emptyDict he;have I1:=I.laid (a:=s.heap.objs.size) (o:=gW s.heap.objs.size []) (h':=s.heap.push PySem.W.emptyDict) (t':=s.toks+1) (fun b u q=>aM _ q) (aP _)
  (Ft ⟨fun _=>none,e3,fun _=>trivial,fun y hy=>absurd rfl hy,gu _⟩)
 refine aq (wpAny_update he1 (a9 ?_));have he2:=nA (h:=s.heap.push PySem.W.emptyDict) (fun o=>{ o with dict:=some s.heap.objs.size }) he1 rfl;have other:∀b,b≠e->((s.heap.push PySem.W.emptyDict).update e fun o=>{ o with dict:=some s.heap.objs.size }).get? b=(s.heap.push PySem.W.emptyDict).get? b:=fun b hb=>eO _ _ (cT hb);have q1:(upd H s.heap.objs.size (gW s.heap.objs.size [])) e=some (ia m e C none):=by rw[aO hne];exact q
 have I2:=I1.write (x:=e) (e:=e) (o:=ia m e C (some s.heap.objs.size)) (h':=(s.heap.push PySem.W.emptyDict).update e fun o=>{ o with dict:=some s.heap.objs.size }) (t':=s.toks+1)
  (by rw[q1];exact dc) (.inl rfl) (fun b u hb z=>(other b hb).trans z) ⟨_,he2⟩ (Fq ⟨_,vs,he2,rfl,rfl,rfl,hz⟩)
 have n2:=e3.at (h':=(s.heap.push PySem.W.emptyDict).update e fun o=>{ o with dict:=some s.heap.objs.size }) fun o z=>(other _ (cT hne)).trans z;dsimp only;unfold oh;refine aq (a9 (aq (G6 (s:={ s with heap:=(s.heap.push PySem.W.emptyDict).update e fun o=>{ o with dict:=some s.heap.objs.size },toks:=s.toks+1 }) n2 fun h' n3 sb=>?_)));have wi:PySem.Within (fun x=>if x=f then some u else none) [f]:=fun y hy=>by
  by_cases z:y=f
  ·rw[z];exact aG.mpr rfl
  ·exact absurd (if_neg z) hy
 obtain⟨oD,esD,epD,hoD,hdD,hcD⟩:=n3.count wi;refine aq (AN hoD (by rw[hdD];exact AO (d9 hcD (by rw[fX];simp))) ?_);refine a9 (h s.heap.objs.size _ hn ?_);have q2:(upd (upd H s.heap.objs.size (gW s.heap.objs.size [])) e (ia m e C (some s.heap.objs.size))) s.heap.objs.size=some (gW s.heap.objs.size []):=by rw[aO (cT hne),bD]
 have I3:=I2.write (x:=s.heap.objs.size) (e:=s.heap.objs.size) (o:=gW s.heap.objs.size [(f,y)]) (h':=h') (t':=s.toks+2) (by rw[q2];exact dc) (.inl rfl) (fun b u hb z=>(sb.2 b hb).trans z) ⟨oD,hoD⟩
  (Ft ⟨_,n3,fun g=>?_,wi,by simp⟩)
 ·have eH:upd (upd (upd H s.heap.objs.size (gW s.heap.objs.size [])) e (ia m e C (some s.heap.objs.size))) s.heap.objs.size (gW s.heap.objs.size [(f,y)])=upd (upd H s.heap.objs.size (gW s.heap.objs.size [(f,y)])) e (ia m e C (some s.heap.objs.size)):=by
   funext b;by_cases z:b=s.heap.objs.size
   ·subst z;rw[bD,aO (cT hne),bD]
   ·rw[aO z];by_cases z2:b=e
    ·subst z2;rw[bD,bD]
    ·rw[aO z2,aO z2,aO z,aO z]
  rw[eH]at I3;exact I3
 ·have:=o8 f g y [];show j_ ((iy f y []).lookup g) _;rw[this];by_cases z:g=f
  ·rw[if_pos z,if_pos z];exact ry
  ·rw[if_neg z,if_neg z];trivial
theorem Xo{y:V}(I:Inv X pins O H s)(q:H e=some (ia m e C (some d)))(qd:H d=some (gW d fs))(c:uZ X.K C)(n:ju X.K C f)(hl:fs.length<1000)(ry:RelV y u)
  (h:∀s',Inv X pins O (upd H d (gW d (iy f y fs))) s'->Q () s'):aJ (aH X.prog X.w) A (setAttr (.ref e) f u) Q E s:=by
 obtain⟨oe,vs,he,hc,hdi,hd,hz⟩:=yR I.hok q;obtain⟨mA,n1,rl,wi,_⟩:=ES I.hok qd;obtain⟨od,ho,_⟩:=pW n1;have J:PySem.W.InstAt s.heap e oe C (some od):=⟨he,hc,by unfold PySem.W.notCls;rw[hd],by rw[hdi];exact ho⟩;refine PySem.W.set_plain I.gn J c.sa (VC (s:={ s with toks:=s.toks+1 }) I.gn J c.toxB c.tl n ?_);obtain⟨cd,hcd,hhd⟩:=PySem.W.any_some c.hd;obtain⟨oc,odi,oda,osl⟩:=oe;dsimp only at hc hdi hd;subst hc hdi hd;unfold iU;refine aq (a9 (aq ?_));unfold l0 G5;refine aq (vD he (aq (PySem.W.Looks.here (s:={ s with toks:=s.toks+1 }) (PySem.W.looks_clsIn I.gn hcd) ?_)));dsimp only;rw[hhd];refine a9 ?_;dsimp only;unfold oh;refine aq (a9 (aq (G6 (s:={ s with toks:=s.toks+1 }) n1 fun h' n3 sb=>?_)));obtain⟨oD,esD,epD,hoD,hdD,hcD⟩:=n3.count (PySem.Within.cons f u wi);refine aq (AN hoD (by rw[hdD];exact AO (d9 hcD (by rw[aW,ah,fX];omega))) ?_);refine a9 (h _ ?_);refine I.write (x:=d) (e:=d) (o:=gW d (iy f y fs)) (h':=h') (t':=s.toks+2) (by rw[qd];exact dc) (.inl rfl) (fun b u hb z=>(sb.2 b hb).trans z) ⟨oD,hoD⟩ (Ft ⟨_,n3,fun g=>?_,fun g hg=>?_,by have:=uC f y fs;omega⟩)
 ·rw[o8];by_cases z:g=f
  ·rw[if_pos z,if_pos z];exact ry
  ·rw[if_neg z,if_neg z];exact rl g
 ·have hg:(if g=f then some u else mA g)≠none:=hg;have key:(iy f y fs).lookup g≠none:=by
   rw[o8];by_cases z:g=f
   ·rw[if_pos z];exact fun k=>nomatch k
   ·rw[if_neg z]at hg ⊢;intro k;have:=rl g;rw[k]at this;cases w:mA g with
    |none=>exact hg w
    |some v=>rw[w]at this;exact this
  cases k:(iy f y fs).lookup g with
  |none=>exact absurd k key
  |some v=>exact b_.mpr ⟨(g,v),PySem.mem_of_lookup k,rfl⟩
theorem S8{v:V}{b:Bool}{Q:Value->aj->Prop}(I:Inv X pins O H s)(q:H e=some (ia m e C (some d)))(qd:H d=some (gW d fs))(c:xB X.K C)(n:ju X.K C f)(l:fs.lookup f=some v)
  (h:∀u s',Inv X pins O H s'->RelV v u->Q u s'):aJ (aH X.prog X.w) A (vz (.ref e) f b) Q E s:=by
 obtain⟨oe,vs,he,hc,hdi,hd,hz⟩:=yR I.hok q;obtain⟨mA,n1,rl,wi,_⟩:=ES I.hok qd;obtain⟨od,ho,hlk⟩:=pW n1;have J:PySem.W.InstAt s.heap e oe C (some od):=⟨he,hc,by unfold PySem.W.notCls;rw[hd],by rw[hdi];exact ho⟩;obtain⟨u,hu,ru⟩:=j_.some_of (v:=v) (o:=mA f) (by rw[<-l];exact rl f);exact YO I.gn J c (PySem.W.findObj_own c.hd n rfl (by rw[hlk,hu])) (C9 ru) (h u _ (I.tok _) ru)
end
section
variable{X:Cx}{C:Addr}{f:Str}{o value:Expr}{ta tv:TE}{pos pos':Pos}
def R1(C:Addr)(f:Str)(ta tv:TE):TS:=fun D O H=>tv O H fun y H1=>ta O H1 fun x H2=>∃m e,x=.ref e /\
 ((H2 e=some (ia m e C none)/\∀d,H2 d=none->D.nx O (upd (upd H2 d (gW d [(f,y)])) e (ia m e C (some d)))) \/
  ∃d fs,H2 e=some (ia m e C (some d))/\H2 d=some (gW d fs)/\fs.length<1000/\D.nx O (upd H2 d (gW d (iy f y fs))))
theorem S9(c:uZ X.K C)(n:ju X.K C f)(ha:PE X o ta)(hv:PE X value tv)(hs:ny value (some (.Attribute o f pos')) pos.line X.env=pure false):PS X (.Assign [.Attribute o f pos'] value pos) (R1 C f ta tv):=by
 intro pins s O H D I h;refine plainObj_wpAny_Assign_Attribute (aY (hv pins s O H _ I h) fun u s1 ⟨y,H1,I1,ry,q⟩=>aY (ha pins s1 O H1 _ I1 q) fun ov s2 ⟨x,H2,I2,rx,m,e,ex,q2⟩=>?_) hs;subst ex;obtain rfl:ov=a6 e:=rx;rcases q2 with⟨q3,q4⟩|⟨d,fs,q3,q4,q5,q6⟩
 ·exact Xn I2 q3 c n ry fun d s3 hd I3=>⟨O,_,I3,q4 d hd⟩
 ·exact Xo I2 q3 q4 c n q5 ry fun s3 I3=>⟨O,_,I3,q6⟩
end
noncomputable def rF(N:List Str):List (Str×Nat)->List Stmt->Bool
|[],[]=>true
|(f,j)::r,.Assign [.Attribute (.Name a _) g _] (.Name b _) _::sts=>decide (N[0]?=some a)&&decide (N[j]?=some b)&&decide (f=g)&&rF N r sts
|_,_=>false
def ET(C:Addr):List (Str×Nat)->TS
|[]=>fun D O H=>D.nx O H
|(f,j)::r=>fun D O H=>R1 C f (Oe 0) (Oe j) { D with nx:=ET C r D } O H
variable{X:Cx}
theorem Fv(c:uZ X.K C)(hv:∀x∈X.N,E8 X.env.scope x/\(x==("__debug__":Str))=false/\(x==("__classdict__":Str))=false):∀(fs:List (Str×Nat)) (sts:List Stmt),(∀p∈fs,ju X.K C p.1)->rF X.N fs sts=true->m9 X sts (ET C fs)
|[],[],_,_=>HS
|[],_::_,_,h=>by cases h
|(f,j)::r,sts,n,h=>by
 unfold rF at h;split at h
 ·rename_i h1;cases h1
 ·rename_i f' j' r' a pa g pg b pb ps sts' h1;cases h1;simp only[bq,decide_eq_true_eq]at h;obtain⟨⟨⟨h2,h3⟩,h4⟩,h5⟩:=h;subst h4;have va:=hv a (fH h2);have vb:=hv b (fH h3);exact vK (S9 c (n (f,j) ao) (E9 h2 va.1 va.2.1 va.2.2) (E9 h3 vb.1 vb.2.1 vb.2.2) rfl) (Fv c hv r sts' (fun p hp=>n p (ai _ hp)) h5)
 ·cases h
noncomputable def l9:List (Str×Nat)->List V->List (Str×V)->List (Str×V)
|[],_,acc=>acc
|(f,j)::r,vs,acc=>l9 r vs (iy f (vs.getD j .non) acc)
noncomputable def xC(C:Addr)(fs:List (Str×Nat))(n:Nat):Sp:=fun vs H Q _=>vs.length=n/\∃e vr,vs=.ref e::vr/\H e=some (ia true e C none)/\∀d,H d=none->Q .non (upd (upd H d (gW d (l9 fs vs []))) e (ia true e C (some d)))
theorem OB{a b c:HO}(h:d≠e):upd (upd (upd H d a) e b) d c=upd (upd H d c) e b:=by
 funext x;by_cases z:x=d
 ·subst z;rw[bD,aO h,bD]
 ·rw[aO z];by_cases z2:x=e
  ·subst z2;rw[bD,bD]
  ·rw[aO z2,aO z2,aO z,aO z]
variable{O:St}{vs:List V}
theorem Dm{D:Ends}(hde:d≠e)(h0:O[0]?=some (some (.ref e))):∀(fs:List (Str×Nat)) (acc:List (Str×V)),(∀p∈fs,∃v,O[p.2]?=some (some v)/\vs.getD p.2 .non=v)->acc.length+fs.length<=1000->
 D.nx O (upd (upd H d (gW d (l9 fs vs acc))) e (ia true e C (some d)))->ET C fs D O (upd (upd H d (gW d acc)) e (ia true e C (some d)))
|[],acc,_,_,h=>h
|(f,j)::r,acc,hv,hl,h=>by
 obtain⟨v,h1,h2⟩:=hv (f,j) ao;have h2:vs.getD j .non=v:=h2;simp only[aW]at hl;refine⟨v,h1,.ref e,h0,true,e,rfl,.inr ⟨d,acc,bD,by rw[aO hde,bD],by omega,?_⟩⟩;rw[OB hde];refine Dm hde h0 r _ (fun p hp=>hv p (ai _ hp)) ?_ ?_
 ·have:=uC f v acc;omega
 ·have h:D.nx O (upd (upd H d (gW d (l9 r vs (iy f (vs.getD j .non) acc)))) e (ia true e C (some d))):=h;rw[h2]at h;exact h
variable{fd:fM}{ps:List Str}
theorem S_{st:Stmt}{fa:Addr}{fs:List (Str×Nat)}(F:qI K "__init__" qual st fa fd)(S:lO ps ps (cA st))(c:uZ K C)(hn:∀p∈fs,ju K C p.1)
  (hc:rF ps fs (gc st)=true) (hd:∀x∈ps,(x==("__debug__":Str))=false/\(x==("__classdict__":Str))=false) (hj:∀p∈fs,p.2<ps.length) (hl:fs.length<=900) (h0:0<fs.length):fK P w K mg base zF 1 fa fd ps (xC C fs ps.length):=by
 refine F.ok S (fun vs H Q E h=>h.1) fun cdv A outer s H vs Q E hr hsp=>⟨ET C fs,?_,?_⟩
 ·refine Fv (X:=(kN zF P w K mg base ps qual (cA st) fa cdv A outer s H E).xw) c (fun x hx=>⟨?_,hd x hx⟩) fs _ hn hc;rcases S.par x hx with z|z
  ·exact .inl z
  ·exact .inr (.inl z)
 ·obtain⟨hlen,e,vr,rfl,he,q⟩:=hsp;have hst:∀j,j<ps.length->∃v,(start ps (.ref e::vr))[j]?=some (some v)/\(V.ref e::vr).getD j .non=v:=fun j hj=>by
   have hj':j<(V.ref e::vr).length:=by rw[hlen];exact hj
   refine⟨(V.ref e::vr)[j],?_,?_⟩
   ·unfold start;rw[eZ (by rw[ah];exact hj'),aX,aA hj'];rfl
   ·rw[f7,aA hj'];rfl
  match fs,hj,hl,h0,q with
  |(f,j)::r,hj,hl,h0,q=>
   obtain⟨v,h1,h2⟩:=hst j (hj (f,j) ao);refine⟨v,h1,.ref e,rfl,true,e,rfl,.inl ⟨he,fun d hd=>?_⟩⟩;have hde:d≠e:=fun z=>by rw[z,he]at hd;cases hd
   have q:=q d hd;simp only[l9]at q;rw[h2]at q;refine Dm (vs:=.ref e::vr) hde rfl r [(f,v)] (fun p hp=>hst p.2 (hj p (ai _ hp))) ?_ q;simp only[aW,dm]at hl ⊢;omega
noncomputable def yS(H:Hp)(b:Addr):Hp:=fun c=>if c=b then none else H c
variable{b c:Addr}
theorem mS(h:c≠b):yS H b c=H c:=if_neg h
theorem A5:yS H b b=none:=if_pos rfl
theorem qV(h:H c=none):yS H b c=none:=by
 unfold yS;split
 ·rfl
 ·exact h
variable{pins:List (Addr×Obj)}
theorem Inv.drop{φ:Heap->Prop}(I:Inv X pins O H s)(hx:H b=some (.ext φ)):Inv X pins O (yS H b) s:=by
 have ne:∀c o,H c=some o->(∀ψ,o≠.ext ψ)->c≠b:=fun c o q n z=>by subst z;rw[hx]at q;cases q;exact n φ rfl
 refine⟨I.ok,I.os,I.bare,⟨I.base.keep,I.base.slot,fun c o q n x=>qV (I.base.free c o q n x),I.base.there,fun c xs q=>?_,fun c o u q=>?_,fun c ps q=>?_⟩,I.loc,I.cell,qV I.free,fun x c q=>qV (I.freeC x c q),fun p hp=>?_,fun a o q=>?_,I.len⟩
 ·have z:=I.base.tups c xs q;rw[mS (ne c _ z fun _ k=>nomatch k)];exact z
 ·have z:=I.base.az c o u q;rw[mS (ne c _ z fun _ k=>nomatch k)];exact z
 ·obtain⟨more,z⟩:=I.base.tbls c ps q;exact⟨more,by rw[mS (ne c _ z fun _ k=>nomatch k)];exact z⟩
 ·obtain⟨h1,h2,h3⟩:=I.pin p hp;exact⟨h1,qV h2,h3⟩
 ·have hab:a≠b:=fun z=>by subst z;rw[A5]at q;cases q
  rw[mS hab]at q;refine(I.hok a o q).stay (fun _ _ _ z=>z) (fun c z=>?_) fun c xs z=>?_
  ·rw[mS (ne c _ z fun _ k=>nomatch k)];exact z
  ·rw[mS (ne c _ z fun _ k=>nomatch k)];exact z
structure Fw (K:PySem.W.Frag) (C fI:Addr):Prop extends uZ K C where
 ini:PySem.W.findIn K (.ref C) "__init__"=some (some (.ref fI))
 fn:PySem.W.typeIn K (.ref fI)=some (.type "function")
 kp:PySem.W.keepIn K (.ref C)=true
 cls:∃nm q N bs B hdct sn sub ab col dd k0 k1 k2 k3 k5,K.lookup C=some (iT nm q C N bs (.ref B::[.type "ValueError",.type "Exception",.type "BaseException",.type "object"]) hdct sn sub ab col dd k0 k1 k2 k3 k5 "ValueError.__new__") /\
  ∃c0 dB cd sl c1 d1 es ep s1,K.lookup B=some ⟨c0,dB,.cls cd,sl⟩/\K.lookup cd.ns=some ⟨c1,d1,.dict es ep,s1⟩/\(es.all fun e=>match e.key with|.str _ _=>true|_=>false)=true/\BV es "__init__"=none
theorem Fw.at{fI:Addr}(c:Fw K C fI)(X:K.In h):∃nm q N bs bm hdct sn sub ab col dd k0 k1 k2 k3 k5,h.get? C=some (iT nm q C N bs bm hdct sn sub ab col dd k0 k1 k2 k3 k5 "ValueError.__new__") /\
  Jd h [.type "ValueError",.type "Exception",.type "BaseException",.type "object"] bm/\bm.contains (.type "BaseException")=true:=by
 obtain⟨nm,q,N,bs,B,hdct,sn,sub,ab,col,dd,k0,k1,k2,k3,k5,l,c0,dB,cd,sl,c1,d1,es,ep,s1,l1,l2,a,n⟩:=c.cls;refine⟨nm,q,N,bs,_,hdct,sn,sub,ab,col,dd,k0,k1,k2,k3,k5,X _ _ l,.own (mA:=fun x=>BV es x) (X _ _ l1) ⟨_,es,ep,X _ _ l2,rfl,fun e he=>?_,fun _=>rfl⟩ n .base,by
  rw[lM,show([Value.type "ValueError",.type "Exception",.type "BaseException",.type "object"].contains (.type "BaseException"))=true from by decide +kernel,sX]⟩
 have:=Array.all_eq_true_iff_forall_mem.mp a e he;cases k:e.key with
 |str x t=>exact⟨x,t,rfl⟩
 |_=>rw[k]at this;cases this
variable{M:KL}
variable{us:List Value}
variable{k:Nat}
variable{x:Str}{a:Expr}{as:List Expr}{ta:TA}{np pos:Pos}
section
variable{X:Cx}{C fI:Addr}
theorem VE{env:Env}{x:Sem Value}{Q:Flow->aj->Prop}{nm q:Str}{N:Addr}{bs bm:List Value}{hdct:Bool}{sn:List Str}{sub:List Value}{ab:Bool}{col:Option Bool}{dd:Option Addr}{k0 k1 k2 k3 k5:Option Value}{newId:String}
  (hb:bm.contains (.type "BaseException")=true) (hh:A.handled=none)
  (h:aJ M A x (fun v ZF=>∃e od vs sl,v=.ref e/\ZF.heap.get? C=some (iT nm q C N bs bm hdct sn sub ab col dd k0 k1 k2 k3 k5 newId)/\ZF.heap.get? e=some ⟨.ref C,od,.fields vs,sl⟩/\vs[1]?=some .none/\E (.ref e) ZF) E s) :
  aJ M A (raiseStmt env (some x) none) Q E s:=by
 have hcB:(a6 C::bm).contains (.type "BaseException")=true:=by rw[lM,hb,sX]
 unfold raiseStmt;refine aq (dJ h (fun v ZF ZJ=>?_) fun _ _ x=>x);obtain⟨e,od,vs,sl,rfl,hC,he,h1,hE⟩:=ZJ;obtain⟨hp,g,d,tk,os⟩:=ZF
 repeat (first
  |with_reducible refine gA he ?_
  |with_reducible refine gA hC ?_
  |(with_reducible refine oA hC ?_;rw[hcB])
  |wp_step)
 rw[h1];exact a9 (a9 (wpAny_raiseNew_none hh hE))
theorem Inv.Xp(I:Inv X pins O H s):Inv X pins O (upd H (s.heap.objs.size+1) (ia true (s.heap.objs.size+1) C none)) { s with heap:=(s.heap.push (zH us)).push (zG C s.heap.objs.size) }:=by
 have I1:Inv X pins O H { s with heap:=s.heap.push (zH us) }:=I.kept (t':=s.toks) fun b u q=>aM _ q;have e2:((s.heap.push (zH us)).push (zG C s.heap.objs.size)).get? (s.heap.objs.size+1)=some (zG C s.heap.objs.size):=by
  have:=bU (s.heap.push (zH us)) (o:=zG C s.heap.objs.size) rfl;rwa[iZ]at this
 exact I1.laid (a:=s.heap.objs.size+1) (t':=s.toks) (fun b u q=>aM _ q) (yJ (iZ _ _)) (Fq ⟨_,_,e2,rfl,rfl,rfl,rfl,fun _=>rfl⟩)
theorem Lv{fs:List (Str×Nat)}{Q:Value->aj->Prop}(c:Fw X.K C fI)(F:fK X.prog X.w X.K X.mg X.base zF k fI fd ps (xC C fs ps.length))(hr:h_ (k+1) X.A)
  (hb:Binds X.K fd ps []) (I:Inv X pins O H s) (r:bK vs us) (hl:vs.length+1=ps.length) (hps:ps.length<=1000)
  (h:∀d s',H d=none->Inv X pins O (upd (upd (upd H (s.heap.objs.size+1) (ia true (s.heap.objs.size+1) C none)) d (gW d (l9 fs (.ref (s.heap.objs.size+1)::vs) []))) (s.heap.objs.size+1) (ia true (s.heap.objs.size+1) C (some d))) s'->d≠s.heap.objs.size+1->Q (.ref (s.heap.objs.size+1)) s') :
  aJ (aH X.prog X.w) X.A (call (.ref C) us) Q X.xe s:=by
 obtain⟨nm,q,N,bs,bm,hdct,sn,sub,ab,col,dd,k0,k1,k2,k3,k5,hC,T,hbase⟩:=c.at I.gn;have I2:=I.Xp (C:=C) (us:=us);have lus:us.length=vs.length:=r.length.symm;have hz:us.length<=aa:=by
  rw[fX];omega
 obtain⟨hh,g,d,t,os⟩:=s;refine VA PySem.F.excBase_ValueError T hC I.gn c.ini c.fn hz ?_;have r2:bK (V.ref (hh.objs.size+1)::vs) (a6 (hh.objs.size+1)::us):=.cons rfl r;have hl2:(a6 (hh.objs.size+1)::us++[]).length=ps.length:=by simp;omega
 have sp:xC C fs ps.length (V.ref (hh.objs.size+1)::vs) (upd H (hh.objs.size+1) (ia true (hh.objs.size+1) C none)) (fun v H2=>v=.non/\∃d,H d=none/\d≠hh.objs.size+1/\H2=upd (upd (upd H (hh.objs.size+1) (ia true (hh.objs.size+1) C none)) d (gW d (l9 fs (.ref (hh.objs.size+1)::vs) []))) (hh.objs.size+1) (ia true (hh.objs.size+1) C (some d))) E0:=by
  refine⟨by simp;omega,_,_,rfl,bD,fun d hd=>⟨rfl,d,?_,?_,rfl⟩⟩
  ·by_cases z:d=hh.objs.size+1
   ·subst z;rw[bD]at hd;cases hd
   ·rw[aO z]at hd;exact hd
  ·intro z;subst z;rw[bD]at hd;cases hd
 refine n_ (lI (F.run _ X.stack _ _ ⟨a6 (hh.objs.size+1)::us,[]⟩ (a6 (hh.objs.size+1)::us) _ _ E0 (hr.make C us []) (I2.Oq.make C us []) (by have:=hb _ (a6 (hh.objs.size+1)::us) I2.gn hl2;rwa[bY]at this) r2 sp) fun r s' hq'=>?_);cases r with
 |error e=>exact hq'.elim
 |ok fl=>
  cases fl with
  |ret u=>
   obtain⟨v,H3,I3,rv,rfl,d,hd,hde,rfl⟩:=I2.after hq';cases(show u=eL from rv);exact⟨rfl,h d s' hd I3 hde⟩
  |next=>exact au hq'
  |brk=>exact au hq'
  |cont=>exact au hq'
theorem Fx{a b:V}:∀(fs:List (Str×Nat)) (acc:List (Str×V)),(∀p∈fs,1<=p.2)->l9 fs (a::vs) acc=l9 fs (b::vs) acc
|[],_,_=>rfl
|(f,j)::r,acc,h=>by
 have hj:1<=j:=h (f,j) ao
 match j,hj with
 |j+1,_=>
  show l9 r (a::vs) (iy f (vs.getD j .non) acc)=l9 r (b::vs) (iy f (vs.getD j .non) acc);exact Fx r _ fun p hp=>h p (ai _ hp)
def xD(C:Addr)(fs:List (Str×Nat))(n:Nat)(ta:TA)(E:XK):TS:=fun _ O H=>ta O H fun vs H1=>vs.length+1=n/\∀d,H1 d=none->E (.ref C) (some d) (upd H1 d (gW d (l9 fs (.non::vs) [])))
theorem OC{E:XK}{fs:List (Str×Nat)}{cpos:Pos}(c:Fw X.K C fI)(F:fK X.prog X.w X.K X.mg X.base zF k fI fd ps (xC C fs ps.length))(hr:h_ (k+1) X.A)(hh:X.A.handled=none)
  (hb:Binds X.K fd ps []) (hps:ps.length<=1000) (hj:∀p∈fs,1<=p.2) (hg:Gl X x) (hm:X.mg x=some (.ref C)) (ha:PA (X.jC (uE X E)) (a::as) ta) (hdb:(x==("__debug__":Str))=false:=by decide)
  (he:cY (a::as) X.env=(false,eval a X.env)::cY as X.env) (hpl:(mF cpos (cY as X.env)).any (·.1)=false) :
  PS (X.jC (uE X E)) (.Raise (some (.Call (.Name x np) (a::as) [] cpos)) none pos) (xD C fs ps.length ta E):=by
 intro pins s O H D I h;obtain⟨nm,q,N,bs,B,hdct,sn,sub,ab,col,dd,k0,k1,k2,k3,k5,l,_⟩:=id c.cls;rw[arm_exec_Raise];refine aq (mQ ?_);refine VE (C:=C) (nm:=nm) (q:=q) (N:=N) (bs:=bs) (hdct:=hdct) (sn:=sn) (sub:=sub) (ab:=ab) (col:=col) (dd:=dd) (k0:=k0) (k1:=k1) (k2:=k2) (k3:=k3) (k5:=k5) (bm:=.ref B::[.type "ValueError",.type "Exception",.type "BaseException",.type "object"]) (newId:="ValueError.__new__")
  (by rw[lM,show([Value.type "ValueError",.type "Exception",.type "BaseException",.type "object"].contains (.type "BaseException"))=true from by decide +kernel,sX]) hh ?_
 refine aq (dJ (fy (oG I hg hm ?_ hdb)) (fun v ZM ZP=>aq (mQ (a9 ZP))) fun _ _ x=>x);refine PySem.W.callWith_K (h₀:=X.base) I.ok.mod.kin c.kp (aY (ha cpos pins s O H _ I h) fun us s1 ⟨vs,H1,I1,r,hl,q1⟩=>⟨I1.gn,?_⟩) he hpl;refine Lv (X:=X.jC (uE X E)) c F hr hb I1 r hl hps fun d s2 hd I2 hde=>?_;obtain⟨oe,ws,g1,g2,g3,g4,g5,g6⟩:=yR I2.hok bD;obtain⟨oc,od,oda,osl⟩:=oe;dsimp only at g2 g3 g4;subst g2 g3 g4;refine⟨_,_,ws,osl,rfl,I2.gn _ _ l,g1,g6 rfl,?_⟩;have hn:H1 (s1.heap.objs.size+1)=none:=I1.hok.fresh (uU _);have eH:yS (upd (upd (upd H1 (s1.heap.objs.size+1) (ia true (s1.heap.objs.size+1) C none)) d (gW d (l9 fs (.ref (s1.heap.objs.size+1)::vs) []))) (s1.heap.objs.size+1) (ia true (s1.heap.objs.size+1) C (some d))) (s1.heap.objs.size+1)=upd H1 d (gW d (l9 fs (.non::vs) [])):=by
  rw[Fx (b:=.non) fs [] hj];funext b;by_cases z:b=s1.heap.objs.size+1
  ·subst z;rw[A5,aO (cT hde),hn]
  ·rw[mS z,aO z];by_cases z2:b=d
   ·subst z2;rw[bD,bD]
   ·rw[aO z2,aO z2,aO z]
 have I3:=I2.i0.drop (φ:=R0 true (s1.heap.objs.size+1) C (some d)) bD;rw[eH]at I3;have hn2:(upd H1 d (gW d (l9 fs (.non::vs) []))) (s1.heap.objs.size+1)=none:=by rw[aO (cT hde)];exact hn
 exact⟨false,_,C,some d,pins,O,_,rfl,I3,⟨⟨_,ws,.none,g1,rfl,rfl,rfl,g5,g6 rfl,.inl ⟨rfl,rfl⟩⟩,I1.i0.qq (uU _) hn2⟩,q1 d hd⟩
end
def A6(K:PySem.W.Frag)(B:Addr):Prop:=∃nm q N bs bm hdct sn sub ab col dd k0 k1 k2 k3 k5 nid,K.lookup B=some (iT nm q B N bs bm hdct sn sub ab col dd k0 k1 k2 k3 k5 nid)/\bm.contains (.type "BaseException")=true
variable{B:Addr}
theorem VF{oe:Obj}{Q:Bool->aj->Prop}(X:K.In s.heap)(b:A6 K B)(he:s.heap.get? e=some oe)(hc:oe.cls=.ref C)(hs:PySem.W.mroIn K C (.ref B)=some true)(hq:Q true s) :
  aJ M A (K0 (.ref e) (.ref B)) Q E s:=by
 obtain⟨nm,q,N,bs,bm,hdct,sn,sub,ab,col,dd,k0,k1,k2,k3,k5,nid,l,hb⟩:=b;have hB:=X _ _ l;have hcB:(a6 B::bm).contains (.type "BaseException")=true:=by rw[lM,hb,sX]
 have f:=tc_notTuple;have Zy:=PySem.W.looks_mroIn (M:=M) X hs;obtain⟨h,g,d,t,os⟩:=s;unfold K0
 repeat (first
  |(with_reducible refine gA he ?_;rw[hc])
  |with_reducible refine gA hB ?_
  |(with_reducible refine oA hB ?_;rw[hcB])
  |(with_reducible refine Zy.at ?_)
  |wp_step)
 exact hq
noncomputable abbrev Cx.hand(X:Cx)(v:Value):Cx:={ X with A:=X.A.mark (some v),calm:=false,xe:=fun _ _=>False }
theorem Inv.hand(I:Inv X pins O H s)(v:Value):Inv (X.hand v) pins O H s:=
 ⟨⟨I.ok.mod,I.ok.kind,I.ok.glob,I.ok.blt,I.ok.above,I.ok.inj,I.ok.has,I.ok.cab,fun z=>(nomatch z),I.ok.frames,I.ok.stk,I.ok.exf,I.ok.bs,I.ok.bsz,I.ok.noex,I.ok.exfs,I.ok.nE,I.ok.frf⟩,I.os,I.bare,I.base,I.loc,I.cell,I.free,I.freeC,I.pin,I.hok,I.len⟩
theorem Inv.VG(ok:X.Ok)(I:Inv (X.hand v) pins O H s):Inv X pins O H s:=
 ⟨ok,I.os,I.bare,I.base,I.loc,I.cell,I.free,I.freeC,I.pin,I.hok,I.len⟩
variable{sp:Sp}{dvs:List V}{ds:List Value}
variable{tb:XK->St->Hp->(Hp->Prop)->Prop}
section
variable{X:Cx}
def Ju(X:Cx)(pins:List (Addr×Obj))(O:St)(E:XK):Value->aj->Prop:=fun v s'=>∃e C od H',v=.ref e/\Inv X pins O H' s'/\Fp true X pins H' s' e C od (fun f=>f=.none)/\E (.ref C) od H'
def PB(X:Cx)(body:List Stmt)(t:XK->St->Hp->(Hp->Prop)->Prop):Prop:=∀(pins:List (Addr×Obj)) (s:aj) (O:St) (H:Hp) (E:XK) (nx:Hp->Prop),Inv X pins O H s->t E O H nx->
 aJ (aH X.prog X.w) X.A (KN body X.env) (fun f s'=>f=.next/\∃H',Inv X pins O H' s'/\nx H') (Ju X pins O E) s
theorem Tc{E:XK}{Q:VK}(F:fK X.prog X.w X.K X.mg X.base (j5 X.prog X.w) k f fd ps sp)(hr:h_ k X.A)(hb:Binds X.K fd ps ds)(hd:bK dvs ds)
  (I:Inv X pins O H s) (r:bK vs us) (h:sp (vs++dvs) H Q E):aJ (aH X.prog X.w) X.A (call (.ref f) us) (EP X pins O Q) (Ju X pins O E) s:=by
 have r2:bK (vs++dvs) (us++ds):=r.append hd;have hl:(us++ds).length=ps.length:=by rw[<-r2.length];exact F.len _ _ _ _ h
 refine n_ (lI (F.run X.A X.stack s H ⟨us,[]⟩ (us++ds) (vs++dvs) Q E hr I.Oq (hb s us I.gn hl) r2 h) fun r s' hq=>?_);cases r with
 |error v=>
  obtain⟨e,C,od,H',rfl,os,bare,un,hok,x,q⟩:=hq;obtain⟨hh,g,d,t,os'⟩:=s';obtain rfl:os'=s.os:=os;have I1:Inv X pins O H' { s with heap:=hh,gens:=g,drawn:=d,toks:=t }:=I.call (h':=hh) (g':=g) (d':=d) (t':=t) (ch:=[]) un hok bare (fun b z=>absurd z (by simp));exact⟨e,C,od,H',rfl,I1,x.imp (fun b hb=>I.qq hb.2 hb.1) fun _ z=>z,q⟩
 |ok fl=>
  cases fl with
  |ret u=>exact I.after hq
  |next=>exact au hq
  |brk=>exact au hq
  |cont=>exact au hq
theorem Td{p epos:Pos}(F:fK X.prog X.w X.K X.mg X.base (j5 X.prog X.w) k f fd ps sp)(hr:h_ k X.A)(hg:Gl X x)(hm:X.mg x=some (.ref f))(hk:PySem.W.keepIn X.K (.ref f)=true)
  (hb:Binds X.K fd ps ds) (hd:bK dvs ds) (ha:PA X.xw (a::as) ta) (hdb:(x==("__debug__":Str))=false:=by decide) (he:cY (a::as) X.env=(false,eval a X.env)::cY as X.env) (hpl:(mF pos (cY as X.env)).any (·.1)=false) :
  PB X [.Expr (.Call (.Name x p) (a::as) [] pos) epos] (fun E O H nx=>ta O H fun vs H1=>sp (vs++dvs) H1 (fun _ H2=>nx H2) E):=by
 intro pins s O H E nx I h;refine sS (CU ?_ I.quiet rfl);refine dJ (?_:aJ _ _ _ (EP X pins O fun _ H2=>nx H2) (Ju X pins O E) s) (fun v s' ⟨y,H',I',_,q⟩=>kU ⟨rfl,H',I',q⟩) fun _ _ z=>z;refine fy (oG I hg hm ?_ hdb);refine PySem.W.callWith_K (h₀:=X.base) I.ok.mod.kin hk (dJ (ha pos pins s O H _ (I.jC _) h) (fun us s1 ⟨vs,H1,I1,r,q⟩=>⟨I1.gn,?_⟩) fun _ _ z=>au z) he hpl;exact Tc F hr hb hd I1.i0 r q
theorem Xq{c:Expr}{a b:List Stmt}{tc:TT}{ta:XK->St->Hp->(Hp->Prop)->Prop}(hc:PT X.xw c tc)(ha:PB X a ta)(hb:PB X b tb):PB X [.If c a b pos] (fun E O H nx=>tc O H fun k H1=>if k=true then ta E O H1 nx else tb E O H1 nx):=by
 intro pins s O H E nx I h;refine sS (wpAny_If (dJ (hc pins s O H _ (I.jC _) h) (fun k s1 ⟨H1,I1,q⟩=>?_) fun _ _ z=>au z));have fin:∀{f:Flow}{s':aj},(f=.next/\∃H',Inv X pins O H' s'/\nx H')->(match f with|.next=>aJ (aH X.prog X.w) X.A (KN [] X.env) (fun f s'=>f=.next/\∃H',Inv X pins O H' s'/\nx H') (Ju X pins O E) s'|f=>(f=.next/\∃H',Inv X pins O H' s'/\nx H')):=by
  rintro f s' ⟨rfl,q⟩;exact kU ⟨rfl,q⟩
 cases k with
 |true=>exact dJ (ha pins s1 O H1 E nx I1.i0 q) (fun f s' z=>fin z) fun _ _ z=>z
 |false=>exact dJ (hb pins s1 O H1 E nx I1.i0 q) (fun f s' z=>fin z) fun _ _ z=>z
end
variable{i:Nat}{n:Str}
section
variable{X:Cx}{pins:List (Addr×Obj)}{O ZC:St}{H:Hp}{s:aj}
theorem Inv.frame{m':Str->Option Value}{t':Nat}(I:Inv X pins O H s)(hs:nY X.env.locals s.heap h')(hn:h'.Ns X.env.locals m')(hl:ZC.length=O.length)
  (hm:∀(j:Nat) (x:Str) (v:V),X.N[j]?=some x->ZC[j]?=some (some v)->E8 X.env.scope x->∃u,RelV v u/\Look X.env h' m' x u):Inv X pins ZC H { s with heap:=h',toks:=t' }:=by
 have neL:∀b o,X.ZD.heap.get? b=some o->b≠X.env.locals:=fun b o e=>b8 (bO (be e) I.ok.above);refine⟨I.ok,I.os,I.bare,⟨fun b o e n hb hx=>(hs.2 b (neL b o e)).trans (I.base.keep b o e n hb hx),fun b o e n hb hx=>?_,I.base.free,fun b o e hx=>?_,I.base.tups,I.base.az,I.base.tbls⟩,⟨m',hn,hm⟩,fun x c e=>?_,I.free,I.freeC,fun p hp=>?_,fun a o q=>?_,hl.trans I.len⟩
 ·obtain⟨sl,z⟩:=I.base.slot b o e n hb hx;exact⟨sl,(hs.2 b (neL b o e)).trans z⟩
 ·obtain⟨o',z⟩:=I.base.there b o e hx;exact⟨o',(hs.2 b (neL b o e)).trans z⟩
 ·obtain⟨v,o,ho,hd⟩:=I.cell x c e;exact⟨v,o,(hs.2 c (I.AW x c e)).trans ho,hd⟩
 ·obtain⟨h1,h2,h3,h4⟩:=I.pin p hp;exact⟨(hs.2 p.1 h3).trans h1,h2,h3,h4⟩
 ·have hk:∀b u,(b=a\/H b=some (.own a))->s.heap.get? b=some u->h'.get? b=some u:=fun b u hb e=>by
   refine(hs.2 b fun z=>?_).trans e;rcases hb with z2|z2
   ·rw[<-z2,z,I.free]at q;cases q
   ·rw[z,I.free]at z2;cases z2
  exact(I.hok a o q).stay hk (fun _ z=>z) fun _ _ z=>z
theorem name_goes(I:Inv X pins O H s)(nd:X.N.Nodup)(hi:X.N[i]?=some n)(hl:X.env.scope.names.lookup n=some .local)
  (h:∀s',Inv X pins (O.set i none) H s'->Q () s'):aJ M A (do bindName X.env n .none;oi X.env n pos) Q E s:=by
 refine aq (wpAny_bindName (z6 (v:=.non) I nd hi (.inl hl) rfl (fun s1 I1=>?_) (.inr hl)));have hk:X.env.kindOf n=some .local:=hl;obtain⟨m,hn,hlk⟩:=id I1.loc;have hlt:i<O.length:=by rw[I.len];exact(bN.mp hi).1
 obtain⟨u,ru,look⟩:=hlk i n .non hi (by rw[d7];simp[hlt]) (.inl hl);have hv:m n=some u:=by
  rcases look with⟨_,z⟩|⟨z,_⟩
  ·exact z
  ·rw[hk]at z;rcases z with z|z<;>cases z
 have hp:(X.env.scope.kind==.class||(X.env.scope.kind==.module&&X.env.locals != X.env.globals))=false:=by rw[I.ok.kind];rfl
 unfold oi;refine wpAny_onRaise (wpAny_unbindName_local hk hn hv hp fun h' w n' sb=>h _ ?_);refine I1.frame (t':=s1.toks) sb n' (by simp) fun j x v e1 e2 e3=>?_;have hji:j≠i:=fun z=>by
  subst z;rw[d7]at e2;simp[hlt]at e2
 have hxn:x≠n:=fun z=>hji (z5 nd (by rw[<-z];exact e1) hi);obtain⟨u',r',look'⟩:=hlk j x v e1 (by rw[cE (cT hji)]at e2 ⊢;exact e2) e3;refine⟨u',r',?_⟩;rcases look' with⟨z1,z2⟩|⟨z1,c,z2,o,ho,hd⟩
 ·exact .inl ⟨z1,(if_neg hxn).trans z2⟩
 ·exact .inr ⟨z1,c,z2,o,(sb.2 c (I1.AW x c z2)).trans ho,hd⟩
theorem Inv.Xr{o:HO}(I:Inv X pins O H s)(f:mh X pins H b)(ok:dj X.prog X.w (upd H b o) s.heap b o):Inv X pins O (upd H b o) s:=by
 obtain⟨f0,f1,f2,f3,f4,f5⟩:=f;have ne:∀c u,H c=some u->c≠b:=fun c u q z=>by rw[z,f0]at q;cases q
 refine⟨I.ok,I.os,I.bare,⟨I.base.keep,I.base.slot,fun c u q n x=>?_,I.base.there,fun c xs q=>?_,fun c u w q=>?_,fun c ps q=>?_⟩,I.loc,I.cell,?_,fun x c q=>?_,fun p hp=>?_,fun a u q=>?_,I.len⟩
 ·have hcb:c≠b:=fun z=>by
   subst z;rcases f3 with z|z
   ·exact x z
   ·exact absurd (bO (be q) z) (d8 _)
  rw[aO hcb];exact I.base.free c u q n x
 ·have z:=I.base.tups c xs q;rw[aO (ne c _ z)];exact z
 ·have z:=I.base.az c u w q;rw[aO (ne c _ z)];exact z
 ·obtain⟨more,z⟩:=I.base.tbls c ps q;exact⟨more,by rw[aO (ne c _ z)];exact z⟩
 ·rw[aO (cT f1)];exact I.free
 ·rw[aO (f4 x c q)];exact I.freeC x c q
 ·obtain⟨h1,h2,h3⟩:=I.pin p hp;exact⟨h1,by rw[aO (f5 p hp)];exact h2,h3⟩
 ·by_cases z:a=b
  ·subst z;rw[bD]at q;cases q;exact ok
  ·rw[aO z]at q;exact(I.hok a u q).stay (fun _ _ _ k=>k) (fun c k=>by rw[aO (ne c _ k)];exact k) fun c xs k=>by rw[aO (ne c _ k)];exact k
def Fy(K:PySem.W.Frag)(i:Nat)(B:Addr)(tb:XK->St->Hp->(Hp->Prop)->Prop)(ts:TS):TS:=fun D O H=>
 tb (fun c od H1=>∃C,c=.ref C/\PySem.W.mroIn K C (.ref B)=some true/\∀e,H1 e=none->ts { nx:=fun ZE H2=>D.nx (ZE.set i none) H2,rt:=D.rt } (O.set i (some (.ref e))) (upd H1 e (ia false e C od))) O H (fun H1=>D.nx O H1)
theorem VH{suite:List Stmt}{Z2:Stmt}{ts:TS}{hpos:Pos}(hst:X.stack=X.env::X.outer)(hf:X.env.frame=some X.env.locals)(hb:PB X body tb)(hs:∀e,m9 (X.hand (.ref e)) (Z2::suite) ts)
  (hg:Gl X x) (hm:X.mg x=some (.ref B)) (b:A6 X.K B) (nd:X.N.Nodup) (hi:X.N[i]?=some n) (hl:X.env.scope.names.lookup n=some .local) (hdb:(x==("__debug__":Str))=false:=by decide) :
  PS X (.Try body [.ExceptHandler (some (.Name x np)) (some n) (Z2::suite) hpos] [] [] pos) (Fy X.K i B tb ts):=by
 intro pins s O H D I h;refine wpAny_Try_except (dJ (hb pins s O H _ _ I h) (fun f s1 ⟨hf,H1,I1,q⟩=>?_) fun v s1 hx=>?_)
 ·subst hf;exact kU ⟨O,H1,I1,q⟩
 ·obtain⟨e,C,od,H1,rfl,I1,F1,C',ec,hmro,q⟩:=hx;cases ec;refine Cc hst hf I1 (F1.imp (fun _ z=>z) fun _ z=>.inl z) fun s2 I2 F2=>?_;refine tF I2 F2 fun s3 I3 F3=>?_;refine wpAny_handleBy_cons (codeAny_handlers_test (oG (X:=X.hand (.ref e)) (I3.hand _) hg hm ?_ hdb)) (by intro z;cases z);obtain⟨⟨oe,vs,v,g1,g2,g3,g4,g5,g6,g7⟩,fe⟩:=id F3;refine VF I3.gn b g1 g2 hmro ?_;show kM _ _ _ _ _;refine codeAny_handlers_suite_as ?_;refine tF (X:=X.hand (.ref e)) (I3.hand _) F3 fun s4 I4 F4=>?_;obtain⟨⟨oe',vs',v',k1,k2,k3,k4,k5,k6,k7⟩,fe'⟩:=id F4;have I5:Inv (X.hand (.ref e)) pins O (upd H1 e (ia false e C od)) s4:=I4.Xr fe' (Fq ⟨oe',vs',k1,k2,k3,k4,k5,fun z=>nomatch z⟩);refine z6 (X:=X.hand (.ref e)) (v:=.ref e) I5 nd hi (.inl hl) rfl (fun s5 I6=>?_) (.inr hl);refine dJ (hs e pins s5 _ _ _ I6 (q e fe.1)) (fun f s6 hq=>?_) fun _ _ z=>au z;show aJ _ _ _ _ _ _;have go:∀{ZE:St}{H2:Hp}{Q:Unit->aj->Prop},Inv (X.hand (.ref e)) pins ZE H2 s6->(∀s7,Inv X pins (ZE.set i none) H2 s7->Q () s7)->aJ (aH X.prog X.w) X.A (do bindName X.env n .none;oi X.env n hpos) Q X.xe s6:=fun J k=>name_goes (J.VG I.ok) nd hi hl k;cases f with
  |next=>obtain⟨ZE,H2,J,z⟩:=hq;exact go J fun s7 J7=>⟨_,H2,J7,z⟩
  |ret u=>obtain⟨w,ZE,H2,J,r,z⟩:=hq;exact go J fun s7 J7=>⟨w,_,H2,J7,r,z⟩
  |brk=>obtain⟨ZE,H2,J,z⟩:=hq;exact z.elim
  |cont=>obtain⟨ZE,H2,J,z⟩:=hq;exact z.elim
end
end L2
end
section
namespace L2
open PySem PySem.W PySem.Calls PyProof.Rows
section
variable{prog:bJ}{w:bS}{A:dh}{E:Value->aj->Prop}{s:aj}
noncomputable def YQ:List Key->Value
|.inl _::_=>.type "int"
|_=>.type "str"
end
theorem tG(ts:List Addr):∀idx:List Nat,(∀i∈idx,i<ts.length)->bK (idx.map fun i=>V.ref (ts.getD i 0)) (idx.map fun i=>(ts.map a6).getD i eL)
|[],_=>.nil
|i::r,h=>by
 refine .cons ?_ (tG ts r fun j hj=>h j (ai _ hj));have hi:=h i ao;have e1:(ts.map a6).getD i eL=.ref (ts.getD i 0):=by
  rw[f7,f7,aX,aA hi];rfl
 show RelV (.ref (ts.getD i 0)) ((ts.map a6).getD i eL);rw[e1];exact rfl
variable{X:Cx}
end L2
end
section
namespace L3
open PySem PySem.Spec L2
inductive Bf where
 |len|all|any|int|str|list|sum|max|sorted
 deriving DecidableEq
noncomputable def Bf.name:Bf->Str
|.len=>"len"|.all=>"all"|.any=>"any"|.int=>"int"|.str=>"str"|.list=>"list"|.sum=>"sum"|.max=>"max"|.sorted=>"sorted"
inductive Mt where
 |append|insert|startswith|split|join|get|items
 deriving DecidableEq
noncomputable def Mt.name:Mt->Str
|.append=>"append"|.insert=>"insert"|.startswith=>"startswith"|.split=>"split"|.join=>"join"|.get=>"get"|.items=>"items"
inductive Ty where
 |int|bool|str|list|tuple|dict|none
 deriving DecidableEq
noncomputable def Ty.name:Ty->Str
|.int=>"int"|.bool=>"bool"|.str=>"str"|.list=>"list"|.tuple=>"tuple"|.dict=>"dict"|.none=>"NoneType"
mutual
inductive CE where
|var (i:Nat)
|con (v:V)
|glo (g:Nat)
|bin (op:sU) (a b:CE)
|neg (a:CE)
|not (a:CE)
|and (a b:CE)
|or (a b:CE)
|ite (c a b:CE)
|cmp (op:n9) (a b:CE)
|chain (o1 o2:n9) (a b c:CE)
|call (g:Nat) (as:j6)
|blt (f:Bf) (as:j6)
|isi (a:CE) (t:Ty)
|mth (m:Mt) (o:CE) (as:j6)
|ix (a b:CE)
|sl (a:CE) (lo hi:CO)
|lst (as:j6)
|tup (as:j6)
|dct
|dcs (ps:List (Str×Int))
|comp (nl:List Str) (fr:List Nat) (elt:CE) (tg:CG) (src:CI) (cond:CO)
|isx (one:Bool) (gs:List Nat) (a:CE)
|isv (g:Nat) (a:CE)
|att (g:Nat) (a:CE) (f:Str)
inductive j6 where
|nil
|cons (a:CE) (r:j6)
inductive CO where
|none
|some (a:CE)
inductive CG where
|name (i:Nat)
|tup (gs:j7)
|sub (o i:CE)
inductive j7 where
|nil
|cons (g:CG) (r:j7)
inductive CI where
|seq (a:CE)
|range (as:j6)
|enum (a:CE)
end
inductive CB where
|call (g:Nat) (as:j6)
|ite (c:CE) (a b:CB)
mutual
inductive CS where
|expr (e:CE)
|asg (g:CG) (e:CE)
|casg (i:Nat) (e:CE)
|ret (e:CE)
|ifs (c:CE) (a b:cJ)
|forr (g:CG) (src:CI) (b:cJ)
|fork (g:CG) (k:Nat) (b:cJ)
|brk
|cont
|never
|rais (g:Nat) (as:j6)
|tri (i g:Nat) (b:CB) (h:cJ)
inductive cJ where
|nil
|cons (s:CS) (r:cJ)
|two (s t:CS) (r:cJ)
|pin (k:Nat) (r:cJ)
end
noncomputable def j7.len:j7->Nat
|.nil=>0
|.cons _ r=>r.len+1
inductive G where
|val (v:V)
|tup (a:Addr) (xs:List V)
|fn (sp:Sp) (dvs:List V)
|cls (C:Addr) (fs:List (Str×Nat)) (n:Nat)
|iB (D:Addr) (Cs:List Addr)
|ou (Cs:List Addr) (as:List Str)
|exb (B:Addr) (Cs:List Addr)
|nop
noncomputable def G.hand:G->G
|.fn _ _=>.nop
|.cls _ _ _=>.nop
|g=>g
def H9(K:PySem.W.Frag)(a:Addr)(t:Bool)(xs:List V):Prop:=
 ∃(o:Obj) (its:Array Value) (n:Nat),K.lookup a=some o/\o.cls=.type (if t then "tuple" else "list")/\o.dict=none/\o.data=.seq its n/\its.size<=aa/\bK xs its.toList
noncomputable def Cd(H:Hp)(a:Addr):Option (Bool×List V):=match H a with
|some (.lst xs)=>some (false,xs)
|some (.tup xs)=>some (true,xs)
|some (.bC _ (.lst xs))=>some (false,xs)
|some (.bC _ (.tup xs))=>some (true,xs)
|_=>none
def gi(K:PySem.W.Frag)(H:Hp)(a:Addr)(t:Bool)(xs:List V):Prop:=Cd H a=some (t,xs)\/H9 K a t xs
theorem tupS{K:PySem.W.Frag}{H:Hp}{a:Addr}{xs:List V}(h:H a=some (.tup xs)):gi K H a true xs:=.inl (by unfold Cd;rw[h])
def rP(K:PySem.W.Frag)(H:Hp)(a:Addr)(k:Bool->List V->Prop):Prop:=∃t xs,gi K H a t xs/\k t xs
noncomputable def keyOf:V->Option Key
|.int i=>some (.inl i)
|.str x=>some (.inr x)
|_=>none
inductive D where
|non|bl (b:Bool)|int (i:Int)|str (x:Str)
|lst (o:Bool) (xs:List D)
|tup (xs:List D)
|bZ (o:Bool) (ks:List Key) (xs:List D)
|pdc (ks:List Key) (xs:List D)
|cst (xs:List D)
|exc (C:Addr) (ks:List Str) (xs:List D)
mutual
noncomputable def bC:D->D
|.non=>.non
|.bl b=>.bl b
|.int i=>.int i
|.str x=>.str x
|.lst _ xs=>.lst false (az xs)
|.tup xs=>.tup (az xs)
|.bZ _ ks xs=>.bZ false ks (az xs)
|.pdc ks xs=>.pdc ks (az xs)
|.cst xs=>.cst (az xs)
|.exc C ks xs=>.exc C ks (az xs)
noncomputable def az:List D->List D
|[]=>[]
|d::r=>bC d::az r
end
mutual
noncomputable def aQ:D->Bool
|.lst o xs=>o&&cD xs
|.tup xs=>cD xs
|.bZ o _ xs=>o&&cD xs
|.pdc _ _=>false
|.cst _=>false
|.exc _ _ _=>false
|_=>true
noncomputable def cD:List D->Bool
|[]=>true
|d::r=>aQ d&&cD r
end
mutual
noncomputable def jj:D->D->Bool
|.non,y=>match y with
 |.non=>true
 |_=>false
|.bl a,y=>match y with
 |.bl b=>a==b
 |.int j=>(if a then 1 else 0)==j
 |_=>false
|.int i,y=>match y with
 |.int j=>i==j
 |.bl b=>i==(if b then 1 else 0)
 |_=>false
|.str a,y=>match y with
 |.str b=>a==b
 |_=>false
|.lst _ xs,y=>match y with
 |.lst _ ys=>nF xs ys
 |_=>false
|.tup xs,y=>match y with
 |.tup ys=>nF xs ys
 |_=>false
|.bZ _ _ _,_=>false
|.pdc _ _,_=>false
|.cst _,_=>false
|.exc _ _ _,_=>false
noncomputable def nF:List D->List D->Bool
|[],ys=>match ys with
 |[]=>true
 |_=>false
|x::xs,ys=>match ys with
 |y::ys=>jj x y&&nF xs ys
 |[]=>false
end
mutual
noncomputable def jN:D->Nat->Bool
|.lst _ xs,n=>match n with
 |0=>false
 |n+1=>dY xs n
|.tup xs,n=>match n with
 |0=>false
 |n+1=>dY xs n
|.bZ _ _ _,_=>false
|.pdc _ _,_=>false
|.cst _,_=>false
|.exc _ _ _,_=>false
|_,_=>true
noncomputable def dY:List D->Nat->Bool
|[],_=>true
|d::r,n=>jN d n&&dY r n
end
noncomputable def cN(d:D):Bool:=jN d 12
noncomputable def eY(ds:List D):Bool:=dY ds 12
noncomputable def keyOk:Key->Bool
|.inr x=>decide (x.length<=aa)
|.inl _=>true
noncomputable def keysOk(ks:List Key):Bool:=ks.all keyOk
mutual
def aU(K:PySem.W.Frag)(H:Hp):D->V->Prop
|.non,v=>v=.non
|.bl b,v=>v=.bl b
|.int i,v=>v=.int i
|.str x,v=>v=.str x/\x.length<=aa
|.lst _ ds,v=>∃a vs,v=.ref a/\Rd H a (.lst vs)/\vs.length<=aa/\aD K H ds vs
|.tup ds,v=>∃a vs,v=.ref a/\H a=some (.tup vs)/\vs.length<=aa/\aD K H ds vs
|.bZ _ ks ds,v=>∃a kvs,v=.ref a/\H a=some (.dK kvs)/\kvs.length<=aa/\(kvs.map (·.1)=ks/\keysOk ks=true)/\aD K H ds (kvs.map (·.2))
|.pdc ks ds,v=>∃a kvs,v=.ref a/\(∃ob,H a=some (.bC ob (.dK kvs)))/\kvs.length<=aa/\(kvs.map (·.1)=ks/\keysOk ks=true)/\aD K H ds (kvs.map (·.2))
|.cst ds,v=>∃a vs,v=.ref a/\H9 K a true vs/\vs.length<=aa/\aD K H ds vs
|.exc C ks ds,v=>∃e d vs,v=.ref e/\H e=some (ia false e C (some d))/\H d=some (gW d (ks.zip vs))/\aD K H ds vs
def aD(K:PySem.W.Frag)(H:Hp):List D->List V->Prop
|[],vs=>vs=[]
|d::ds,vs=>∃v r,vs=v::r/\aU K H d v/\aD K H ds r
end
def OD(K:PySem.W.Frag)(op:sU)(x y:V)(H:Hp)(Q:VK):Prop:=match op,x,y with
|.Add,.int i,.int j=>Q (.int (i+j)) H
|.Sub,.int i,.int j=>Q (.int (i-j)) H
|.Mult,.int i,.int j=>uB i j/\Q (.int (i*j)) H
|.FloorDiv,.int i,.int j=>vM i j/\Q (.int (i / j)) H
|.Mod,.int i,.int j=>0<j/\Q (.int (i%j)) H
|.Add,.str i,.str j=>i.length+j.length<=aa/\Q (.str (i++j)) H
|.Mult,.str i,.int j=>(0<=j/\j<2 ^ 40/\i.length*j.toNat<=aa)/\Q (.str ⟨(aF j.toNat i.cps.toList).flatten.toArray⟩) H
|.Pow,.int i,.int j=>vN i j/\Q (.int (i ^ j.toNat)) H
|.Add,.ref a,.ref b=>(∃xs ys,Rd H a (.lst xs)/\Rd H b (.lst ys)/\xs.length+ys.length<=aa/\∀p,H p=none->Q (.ref p) (upd H p (.lst (xs++ys))))
  \/ (∃xs ys,gi K H a true xs/\gi K H b true ys/\xs≠[]/\ys≠[]/\xs.length+ys.length<=aa/\∀p,H p=none->Q (.ref p) (upd H p (.tup (xs++ys))))
|.Mult,.ref a,.int k=>∃xs,Rd H a (.lst xs)/\(-(2 ^ 63)<=k/\k<2 ^ 63)/\xs.length*k.toNat<=aa/\∀p,H p=none->Q (.ref p) (upd H p (.lst (aF k.toNat xs).flatten))
|_,_,_=>False
def Zb(H:Hp):V->Prop
|.ref a=>∃o,H a=some o
|_=>True
noncomputable def memD(x:D)(xs:List D):Bool:=xs.any fun y=>jj y x
def mT(K:PySem.W.Frag)(op:n9)(x y:V)(H:Hp)(Q:VK):Prop:=match op,x,y with
|.Lt,.int i,.int j=>Q (.bl (decide (i<j))) H
|.LtE,.int i,.int j=>Q (.bl (decide (i<=j))) H
|.Gt,.int i,.int j=>Q (.bl (decide (j<i))) H
|.GtE,.int i,.int j=>Q (.bl (decide (j<=i))) H
|.Lt,.str i,.str j=>Q (.bl (decide (i.cps.toList<j.cps.toList))) H
|.LtE,.str i,.str j=>Q (.bl (!decide (j.cps.toList<i.cps.toList))) H
|.Eq,x,y=>∃dx dy,aU K H dx x/\aU K H dy y/\cN dx=true/\cN dy=true/\Q (.bl (jj dx dy)) H
|.NotEq,x,y=>∃dx dy,aU K H dx x/\aU K H dy y/\cN dx=true/\cN dy=true/\Q (.bl (!jj dx dy)) H
|.Is,x,.non=>Q (.bl (decide (x=.non))) H
|.IsNot,x,.non=>Q (.bl (!decide (x=.non))) H
|.In,x,.ref a=>(∃t xs dx ds,gi K H a t xs/\aU K H dx x/\aD K H ds xs/\cN dx=true/\eY ds=true/\Q (.bl (memD dx ds)) H)
  \/ ∃kvs k,Rd H a (.dK kvs)/\x=kV k/\Q (.bl (fV kvs k).isSome) H
|.NotIn,x,.ref a=>(∃t xs dx ds,gi K H a t xs/\aU K H dx x/\aD K H ds xs/\cN dx=true/\eY ds=true/\Q (.bl (!memD dx ds)) H)
  \/ ∃kvs k,Rd H a (.dK kvs)/\x=kV k/\Q (.bl (!(fV kvs k).isSome)) H
|_,_,_=>False
def jO(K:PySem.W.Frag)(x:V)(H:Hp)(Q:Bool->Prop):Prop:=match x with
|.bl b=>Q b
|.non=>Q false
|.int i=>Q (i != 0)
|.str z=>z.length<=aa/\Q (z.length != 0)
|.ref a=>(rP K H a fun _ xs=>Q (!xs.isEmpty))\/∃kvs,H a=some (.dK kvs)/\Q (!kvs.isEmpty)
|_=>False
def H_(K:PySem.W.Frag)(x y:V)(H:Hp)(Q:VK):Prop:=match x,y with
|.str z,.int i=>z.length<=aa/\∃c,cH z.cps.toList i=some c/\Q (.str ⟨#[c]⟩) H
|.ref a,y=>(∃t xs i v,y=.int i/\gi K H a t xs/\cH xs i=some v/\Q v H)\/(∃kvs k v,Rd H a (.dK kvs)/\y=kV k/\fV kvs k=some v/\Q v H)
  \/ ∃kvs k b v,Rd H a (.dT kvs)/\y=.ref b/\H b=some (.tup (k.map kV))/\fV kvs k=some v/\Q v H
|_,_=>False
noncomputable def cut{α:Type}(xs:List α)(lo hi:Option Int):List α:=(xs.drop (HT.j4 xs.length 0 lo)).take (HT.j4 xs.length xs.length hi-HT.j4 xs.length 0 lo)
def R3(K:PySem.W.Frag)(x:V)(lo hi:Option Int)(H:Hp)(Q:VK):Prop:=match x with
|.str z=>z.length<=aa/\Q (.str ⟨(cut z.cps.toList lo hi).toArray⟩) H
|.ref a=>(rP K H a fun t xs=>t=false/\∀p,H p=none->Q (.ref p) (upd H p (.lst (cut xs lo hi))))
  \/ ∃(n:Nat) (xs:List V),gi K H a true xs/\lo=some (n:Int)/\hi=none/\1<=n/\n<=xs.length/\∀p,H p=none->Q (.ref p) (upd H p (.tup (xs.drop n)))
|_=>False
noncomputable def R4{α:Type}(xs:List α)(lo hi:Option Int)(k:Int):List α:=(BZ (g_ lo hi (some k) xs.length).1 (g_ lo hi (some k) xs.length).2.1 (g_ lo hi (some k) xs.length).2.2).filterMap (xs[·]?)
def wTrg(vs:List V)(H:Hp)(Q:VK):Prop:=match vs with
|[.int i,.int j]=>(-(2 ^ 62)<=i/\i<2 ^ 62/\-(2 ^ 62)<=j/\j<2 ^ 62/\(j-i).toNat<=2 ^ 24)/\∀p,H p=none->Q (.ref p) (upd H p (.tup ((cW (j-i).toNat).map fun(k:Nat)=>V.int (i+(k:Int)))))
|_=>False
noncomputable def nG:V->Bool
|.bl true=>true
|_=>false
noncomputable def Xs:V->Bool
|.bl _=>true
|_=>false
noncomputable def VI:V->Bool
|.int _=>true
|_=>false
noncomputable def intOf:V->Int
|.int i=>i
|_=>0
noncomputable def yT(xs:List V):Bool:=xs.all Xs
noncomputable def A7(xs:List V):Bool:=xs.all VI
noncomputable def pZ(xs:List V):Int:=(xs.map intOf).sum
noncomputable def dP(i:Int):Str:=toString i
def Fz(K:PySem.W.Frag)(f:Bf)(vs:List V)(H:Hp)(Q:VK):Prop:=match f,vs with
|.len,[.str z]=>z.length<=aa/\Q (.int z.length) H
|.len,[.ref a]=>(rP K H a fun _ xs=>Q (.int xs.length) H)\/∃kvs,Rd H a (.dK kvs)/\Q (.int kvs.length) H
|.all,[.ref a]=>rP K H a fun t xs=>t=false/\yT xs=true/\Q (.bl (xs.all nG)) H
|.any,[.ref a]=>rP K H a fun t xs=>t=false/\yT xs=true/\Q (.bl (xs.any nG)) H
|.int,[.int i]=>Q (.int i) H
|.int,[.bl b]=>Q (.int (if b then 1 else 0)) H
|.max,[.int i,.int j]=>Q (.int (if j>i then j else i)) H
|.int,[.str z]=>z.length<=640/\∃n,intText? z=some n/\Q (.int n) H
|.str,[.int i]=>i.natAbs.log2<1920/\Q (.str (dP i)) H
|.list,[.ref a]=>(rP K H a fun _ xs=>∀p,H p=none->Q (.ref p) (upd H p (.lst xs)))\/∃kvs,Rd H a (.dK kvs)/\∀p,H p=none->Q (.ref p) (upd H p (.lst (kvs.map fun kv=>kV kv.1)))
|.sum,[.ref a]=>rP K H a fun t xs=>t=false/\A7 xs=true/\Q (.int (pZ xs)) H
|_,_=>False
def xE(K:PySem.W.Frag)(t:Ty)(x:V)(H:Hp)(Q:Bool->Prop):Prop:=match x with
|.non=>Q false
|.bl _=>Q (decide (t=.bool)||decide (t=.int))
|.int _=>Q (decide (t=.int))
|.str _=>Q (decide (t=.str))
|.ref a=>(∃xs,Rd H a (.lst xs)/\Q (decide (t=.list)))\/(∃xs,gi K H a true xs/\Q (decide (t=.tuple)))\/∃kvs,Rd H a (.dK kvs)/\Q (decide (t=.dict))
|_=>False
noncomputable def cu(c:Nat):List Nat->List (List Nat)
|[]=>[[]]
|x::r=>if x=c then[]::cu c r else match cu c r with
 |h::t=>(x::h)::t
 |[]=>[[x]]
noncomputable def strOf(l:List Nat):Str:=⟨l.toArray⟩
def kQ(H:Hp)(a:Addr):Prop:=match H a with
|some (.lst _)=>True
|_=>False
def vQ(H:Hp)(a:Addr):Prop:=match H a with
|some (.dK _)=>True
|some (.dT _)=>True
|_=>False
def tH(m:Mt)(x:V)(H:Hp):Prop:=match m,x with
|.append,.ref a=>kQ H a
|.insert,.ref a=>kQ H a
|.get,.ref a=>vQ H a
|.join,.str _=>True
|.startswith,.str _=>True
|.split,.str _=>True
|_,_=>False
def vR(K:PySem.W.Frag)(m:Mt)(x:V)(vs:List V)(H:Hp)(Q:VK):Prop:=match m,x,vs with
|.append,.ref l,[y]=>match H l with
 |some (.lst xs)=>xs.length<aa/\Q .non (upd H l (.lst (xs++[y])))
 |_=>False
|.insert,.ref l,[.int i,y]=>match H l with
 |some (.lst xs)=>(0<=i/\i<2 ^ 40/\xs.length<aa)/\Q .non (upd H l (.lst (xs.take i.toNat++y::xs.drop i.toNat)))
 |_=>False
|.get,.ref l,[k]=>∃kvs k',Rd H l (.dK kvs)/\k=kV k'/\Q ((fV kvs k').getD .non) H
|.get,.ref l,[k,y]=>(∃kvs k',Rd H l (.dK kvs)/\k=kV k'/\Q ((fV kvs k').getD y) H)\/∃kvs k' b,Rd H l (.dT kvs)/\k=.ref b/\H b=some (.tup (k'.map kV))/\Q ((fV kvs k').getD y) H
|.join,.str x,[.ref a]=>rP K H a fun t xs=>t=false/\∃ss:List Str,xs=ss.map V.str/\(ss.map (·.length)).sum+ss.length*x.length<=aa/\Q (.str (fB x ss)) H
|.startswith,.str x,[.str y]=>Q (.bl (y.cps.toList.isPrefixOf x.cps.toList)) H
|.split,.str x,[.str y]=>y.length=1/\x.length+2<=aa/\∀p,H p=none->Q (.ref p) (upd H p (.lst ((cu (y.cps.getD 0 0) x.cps.toList).map fun l=>V.str (strOf l))))
|.split,.str x,[]=>(x.length<=aa/\(eW x).length<=aa)/\∀p,H p=none->Q (.ref p) (upd H p (.lst ((eW x).map V.str)))
|_,_,_=>False
inductive Item where
|v (x:V)
|tup (xs:List V)
def mkItem(it:Item)(H:Hp)(k:V->Hp->Prop):Prop:=match it with
|.v x=>k x H
|.tup xs=>∀p,H p=none->k (.ref p) (upd H p (.tup xs))
noncomputable def mJ:Nat->List V->List Item
|_,[]=>[]
|n,x::r=>.tup [.int (n:Int),x]::mJ (n+1) r
noncomputable abbrev R5:=St->Hp->((Hp->Prop)->List Item->Hp->Prop)->Prop
def forL(ok:Hp->Prop)(g:TG)(body:TS)(D:Ends):List Item->St->Hp->Prop
|[],O,H=>ok H/\D.nx O H
|it::r,O,H=>ok H/\mkItem it H fun x H1=>g x O H1 fun ZE H2=>body { D with nx:=forL ok g body D r,ct:=forL ok g body D r,bk:=D.nx } ZE H2
def qW(ok:Hp->Prop)(g:TG)(cond:TT)(elt:TE)(k:List V->Hp->Prop):List Item->List V->St->Hp->Prop
|[],acc,_,H=>ok H/\k acc H
|it::r,acc,O,H=>ok H/\acc.length<aa/\mkItem it H fun x H1=>g x O H1 fun ZE H2=>cond ZE H2 fun b H3=>
  if b=true then elt ZE H3 fun y H4=>qW ok g cond elt k r (acc++[y]) ZE H4 else qW ok g cond elt k r acc ZE H3
noncomputable def chars(z:Str):List V:=z.cps.toList.map fun c=>V.str ⟨#[c]⟩
def Ce(K:PySem.W.Frag)(x:V)(H:Hp)(k:(Hp->Prop)->List Item->Hp->Prop):Prop:=match x with
|.str z=>z.length<=aa/\k (fun _=>True) ((chars z).map .v) H
|.ref a=>rP K H a fun t xs=>k (fun H'=>gi K H' a t xs) (xs.map .v) H
|_=>False
def xF(vs:List V)(H:Hp)(k:(Hp->Prop)->List Item->Hp->Prop):Prop:=match vs with
|[.int j]=>(-(2 ^ 62)<=j/\j<2 ^ 62)/\k (fun _=>True) ((cW j.toNat).map fun(i:Nat)=>Item.v (.int (i:Int))) H
|[.int i,.int j]=>(-(2 ^ 62)<=i/\i<2 ^ 62/\-(2 ^ 62)<=j/\j<2 ^ 62)/\k (fun _=>True) ((cW (j-i).toNat).map fun(n:Nat)=>Item.v (.int (i+(n:Int)))) H
|_=>False
abbrev Pin(H:Hp)(a:Addr)(ob:Obj)(kvs:List (Key×V)):Prop:=H a=some (.bC ob (.dK kvs))
noncomputable def nH(kvs:List (Key×V)):List Item:=kvs.map fun kv=>Item.v (kV kv.1)
def R6(x:V)(H:Hp)(k:(Hp->Prop)->List Item->Hp->Prop):Prop:=match x with
|.ref a=>(∃ob kvs,Pin H a ob kvs/\k (fun H'=>Pin H' a ob kvs) (nH kvs) H)\/∃kvs,H a=some (.dK kvs)/\∀ob,k (fun H'=>Pin H' a ob kvs) (nH kvs) (upd H a (.bC ob (.dK kvs)))
|_=>False
def kc(O:St)(i:Nat)(k:V->Prop):Prop:=match O[i]? with
|some (some v)=>k v
|_=>False
noncomputable def uF(Y:List G):List Nat->Option Addr->Option Bool
|[],_=>some false
|g::r,c=>match Y[g]? with
 |some (.iB D Cs)=>match c with
  |none=>uF Y r c
  |some C=>if C∈Cs then(if C=D then some true else uF Y r c)else none
 |_=>none
def yU(Y:List G):List Nat->List Addr->Prop
|[],Ds=>Ds=[]
|g::gs,Ds=>∃D r Cs,Ds=D::r/\Y[g]?=some (G.iB D Cs)/\yU Y gs r
def OE(H:Hp)(e:Addr)(k:Addr->List (Str×V)->Prop):Prop:=∃m C d fs,H e=some (ia m e C (some d))/\H d=some (gW d fs)/\k C fs
def FA(Y:List G)(gs:List Nat)(x:V)(H:Hp)(Q:Bool->Prop):Prop:=gs≠[]/\gs.length<=1000/\(∃Ds,yU Y gs Ds)/\match x with
|.non=>∃b,uF Y gs none=some b/\Q b
|.ref e=>OE H e fun C _=>∃b,uF Y gs (some C)=some b/\Q b
|_=>False
def Cf(Y:List G)(g:Nat)(x:V)(H:Hp)(Q:Bool->Prop):Prop:=match Y[g]? with
|some (.ou Cs _)=>match x with
 |.non=>Q false
 |.ref e=>OE H e fun C _=>C∈Cs/\Q true
 |_=>False
|_=>False
def FE(Y:List G)(g:Nat)(f:Str)(x:V)(H:Hp)(Q:VK):Prop:=match Y[g]? with
|some (.ou Cs as)=>match x with
 |.ref e=>OE H e fun C fs=>(C∈Cs/\f∈as)/\∃v,fs.lookup f=some v/\Q v H
 |_=>False
|_=>False
mutual
def wE(K:PySem.W.Frag)(Y:List G)(E:XK):CE->TE
|.var i=>fun O H Q=>kc O i fun v=>Q v H
|.con v=>fun _ H Q=>Q v H
|.glo g=>fun _ H Q=>match Y[g]? with
 |some (.val v)=>Q v H
 |some (.tup a _)=>Q (.ref a) H
 |_=>False
|.bin op a b=>fun O H Q=>wE K Y E a O H fun x H1=>wE K Y E b O H1 fun y H2=>OD K op x y H2 Q
|.neg a=>fun O H Q=>wE K Y E a O H fun x H1=>match x with
 |.int i=>Q (.int (-i)) H1
 |_=>False
|.not a=>fun O H Q=>wE K Y E a O H fun x H1=>jO K x H1 fun b=>Q (.bl (!b)) H1
|.and a b=>fun O H Q=>wE K Y E a O H fun x H1=>match x with
 |.bl c=>if c=true then wE K Y E b O H1 Q else Q (.bl false) H1
 |_=>False
|.or a b=>fun O H Q=>wE K Y E a O H fun x H1=>match x with
 |.bl c=>if c=true then Q (.bl true) H1 else wE K Y E b O H1 Q
 |_=>False
|.ite c a b=>fun O H Q=>wT K Y E c O H fun k H1=>if k=true then wE K Y E a O H1 Q else wE K Y E b O H1 Q
|.cmp op a b=>fun O H Q=>wE K Y E a O H fun x H1=>wE K Y E b O H1 fun y H2=>mT K op x y H2 Q
|.chain o1 o2 a b c=>fun O H Q=>wE K Y E a O H fun x H1=>wE K Y E b O H1 fun y H2=>mT K o1 x y H2 fun z H3=>match z with
 |.bl k=>if k=true then wE K Y E c O H3 fun u H4=>mT K o2 y u H4 Q else Q (.bl false) H3
 |_=>False
|.call g as=>fun O H Q=>match Y[g]? with
 |some (.fn sp dvs)=>wEs K Y E as O H fun vs H1=>sp (vs++dvs) H1 Q E
 |_=>False
|.blt f as=>fun O H Q=>wEs K Y E as O H fun vs H1=>Fz K f vs H1 Q
|.isi a t=>fun O H Q=>wE K Y E a O H fun x H1=>xE K t x H1 fun b=>Q (.bl b) H1
|.mth m o as=>fun O H Q=>wE K Y E o O H fun x H1=>tH m x H1/\wEs K Y E as O H1 fun vs H2=>vR K m x vs H2 Q
|.ix a b=>fun O H Q=>wE K Y E a O H fun x H1=>wE K Y E b O H1 fun y H2=>H_ K x y H2 Q
|.sl a lo hi=>fun O H Q=>wE K Y E a O H fun x H1=>wO K Y E lo O H1 fun l H2=>wO K Y E hi O H2 fun h H3=>R3 K x l h H3 Q
|.lst as=>fun O H Q=>wEs K Y E as O H fun vs H1=>vs.length<=aa/\∀p,H1 p=none->Q (.ref p) (upd H1 p (.lst vs))
|.tup as=>fun O H Q=>wEs K Y E as O H fun vs H1=>vs.length<=aa/\∀p,H1 p=none->Q (.ref p) (upd H1 p (.tup vs))
|.dct=>fun _ H Q=>∀p,H p=none->Q (.ref p) (upd H p (.dK []))
|.dcs ps=>fun _ H Q=>∀p,H p=none->Q (.ref p) (upd H p (.dK (kH [] (ps.map fun p=>(.inr p.1,V.int p.2)))))
|.comp nl fr elt tg src cond=>fun O H Q=>wI K Y E src O H fun ok items H1=>
  qW ok (wG K Y E0 tg) (wC K Y E0 cond) (wE K Y E0 elt) (fun vs H2=>∀p,H2 p=none->Q (.ref p) (upd H2 p (.lst vs))) items [] (nl.map (fun _=>none)++fr.map (fun i=>O.getD i none)) H1
|.isx _ gs a=>fun O H Q=>wE K Y E a O H fun x H1=>FA Y gs x H1 fun b=>Q (.bl b) H1
|.isv g a=>fun O H Q=>wE K Y E a O H fun x H1=>Cf Y g x H1 fun b=>Q (.bl b) H1
|.att g a f=>fun O H Q=>wE K Y E a O H fun x H1=>FE Y g f x H1 Q
def wT(K:PySem.W.Frag)(Y:List G)(E:XK):CE->TT
|.not a=>fun O H Q=>wT K Y E a O H fun b H1=>Q (!b) H1
|.and a b=>fun O H Q=>wT K Y E a O H fun c H1=>if c=true then wT K Y E b O H1 Q else Q false H1
|.or a b=>fun O H Q=>wT K Y E a O H fun c H1=>if c=true then Q true H1 else wT K Y E b O H1 Q
|.ite c a b=>fun O H Q=>wT K Y E c O H fun k H1=>if k=true then wT K Y E a O H1 Q else wT K Y E b O H1 Q
|.cmp op a b=>fun O H Q=>wE K Y E a O H fun x H1=>wE K Y E b O H1 fun y H2=>mT K op x y H2 fun z H3=>match z with
 |.bl k=>Q k H3
 |_=>False
|.chain o1 o2 a b c=>fun O H Q=>wE K Y E a O H fun x H1=>wE K Y E b O H1 fun y H2=>mT K o1 x y H2 fun z H3=>match z with
 |.bl k=>if k=true then wE K Y E c O H3 fun u H4=>mT K o2 y u H4 fun z H5=>match z with
  |.bl k=>Q k H5
  |_=>False
  else Q false H3
 |_=>False
|.var i=>fun O H Q=>kc O i fun v=>jO K v H fun b=>Q b H
|.call g as=>fun O H Q=>match Y[g]? with
 |some (.fn sp dvs)=>wEs K Y E as O H fun vs H1=>sp (vs++dvs) H1 (fun x H2=>jO K x H2 fun b=>Q b H2) E
 |_=>False
|.blt f as=>fun O H Q=>wEs K Y E as O H fun vs H1=>Fz K f vs H1 fun x H2=>jO K x H2 fun b=>Q b H2
|.isi a t=>fun O H Q=>wE K Y E a O H fun x H1=>xE K t x H1 fun b=>jO K (.bl b) H1 fun b=>Q b H1
|.mth m o as=>fun O H Q=>wE K Y E o O H fun x H1=>tH m x H1/\wEs K Y E as O H1 fun vs H2=>vR K m x vs H2 fun y H3=>jO K y H3 fun b=>Q b H3
|.isx _ gs a=>fun O H Q=>wE K Y E a O H fun x H1=>FA Y gs x H1 fun b=>jO K (.bl b) H1 fun b=>Q b H1
|.isv g a=>fun O H Q=>wE K Y E a O H fun x H1=>Cf Y g x H1 fun b=>jO K (.bl b) H1 fun b=>Q b H1
|_=>fun _ _ _=>False
def wEs(K:PySem.W.Frag)(Y:List G)(E:XK):j6->TA
|.nil=>fun _ H Q=>Q [] H
|.cons a r=>fun O H Q=>wE K Y E a O H fun x H1=>wEs K Y E r O H1 fun xs H2=>Q (x::xs) H2
def wO(K:PySem.W.Frag)(Y:List G)(E:XK):CO->St->Hp->(Option Int->Hp->Prop)->Prop
|.none=>fun _ H Q=>Q none H
|.some a=>fun O H Q=>wE K Y E a O H fun x H1=>match x with
 |.int i=>Q (some i) H1
 |_=>False
def wC(K:PySem.W.Frag)(Y:List G)(E:XK):CO->TT
|.none=>fun _ H Q=>Q true H
|.some a=>wT K Y E a
def wG(K:PySem.W.Frag)(Y:List G)(E:XK):CG->TG
|.name i=>fun v O H Q=>Q (O.set i (some v)) H
|.tup gs=>fun v O H Q=>match v with
 |.ref a=>rP K H a fun t xs=>t=true/\xs.length=gs.len/\Ia K Y E gs xs O H Q
 |_=>False
|.sub o i=>fun v O H Q=>wE K Y E o O H fun x H1=>wE K Y E i O H1 fun y H2=>match x with
 |.ref a=>match H2 a with
  |some (.lst xs)=>∃k j,y=.int k/\ji xs.length k=some j/\Q O (upd H2 a (.lst (xs.set j v)))
  |some (.dK kvs)=>∃k,y=kV k/\kvs.length<aa/\Q O (upd H2 a (.dK (putK kvs k v)))
  |some (.dT kvs)=>∃k b,y=.ref b/\H2 b=some (.tup (k.map kV))/\kvs.length<aa/\Q O (upd H2 a (.dT (putK kvs k v)))
  |_=>False
 |_=>False
def Ia(K:PySem.W.Frag)(Y:List G)(E:XK):j7->zB
|.nil=>fun vs O H Q=>match vs with
 |[]=>Q O H
 |_=>False
|.cons g r=>fun vs O H Q=>match vs with
 |v::vr=>wG K Y E g v O H fun ZC H'=>Ia K Y E r vr ZC H' Q
 |_=>False
def wI(K:PySem.W.Frag)(Y:List G)(E:XK):CI->R5
|.seq a=>fun O H k=>wE K Y E a O H fun x H1=>Ce K x H1 k
|.range as=>fun O H k=>wEs K Y E as O H fun vs H1=>xF vs H1 k
|.enum a=>fun O H k=>wE K Y E a O H fun x H1=>match x with
 |.ref b=>∃xs,Rd H1 b (.lst xs)/\k (fun H'=>Rd H' b (.lst xs)) (mJ 0 xs) H1
 |_=>False
end
def wB(K:PySem.W.Frag)(Y:List G):CB->XK->St->Hp->(Hp->Prop)->Prop
|.call g as=>fun E O H nx=>match Y[g]? with
 |some (.fn sp dvs)=>wEs K Y E0 as O H fun vs H1=>sp (vs++dvs) H1 (fun _ H2=>nx H2) E
 |_=>False
|.ite c a b=>fun E O H nx=>wT K Y E0 c O H fun k H1=>if k=true then wB K Y a E O H1 nx else wB K Y b E O H1 nx
mutual
def wS(K:PySem.W.Frag)(Y:List G)(E:XK):CS->TS
|.expr e=>fun D O H=>wE K Y E e O H fun _ H1=>D.nx O H1
|.asg g e=>fun D O H=>wE K Y E e O H fun x H1=>wG K Y E g x O H1 D.nx
|.casg i e=>fun D O H=>wE K Y E e O H fun x H1=>D.nx (O.set i (some x)) H1
|.ret e=>fun D O H=>wE K Y E e O H D.rt
|.ifs c a b=>fun D O H=>wT K Y E c O H fun k H1=>if k=true then wSs K Y E a D O H1 else wSs K Y E b D O H1
|.forr g src b=>fun D O H=>wI K Y E src O H fun ok items H1=>forL ok (wG K Y E g) (wSs K Y E b) D items O H1
|.fork g k b=>fun D O H=>kc O k fun v=>R6 v H fun ok items H1=>forL ok (wG K Y E g) (wSs K Y E b) D items O H1
|.brk=>fun D O H=>D.bk O H
|.cont=>fun D O H=>D.ct O H
|.never=>fun _ _ _=>False
|.rais g as=>fun D O H=>match Y[g]? with
 |some (.cls C fs n)=>xD C fs n (wEs K Y E as) E D O H
 |_=>False
|.tri i g b h=>fun D O H=>match Y[g]? with
 |some (.exb B _)=>Fy K i B (wB K Y b) (wSs K (Y.map G.hand) E0 h) D O H
 |_=>False
def wSs(K:PySem.W.Frag)(Y:List G)(E:XK):cJ->TS
|.nil=>fun D O H=>D.nx O H
|.cons s r=>fun D O H=>wS K Y E s { D with nx:=wSs K Y E r D } O H
|.two s t r=>fun D O H=>wS K Y E s { D with nx:=wS K Y E t { D with nx:=wSs K Y E r D } } O H
|.pin k r=>fun D O H=>kc O k fun v=>∃a kvs,v=.ref a/\H a=some (.dK kvs)/\∀ob,wSs K Y E r D O (upd H a (.bC ob (.dK kvs)))
end
end L3
end
section
namespace L3
open PySem PySem.Spec PyProof.Rows L2
variable{K:PySem.W.Frag}{H:Hp}{a:Addr}{xs:List V}
theorem gi.sq{t:Bool}(h:gi K H a t xs):(t=false/\jt K H a xs)\/(t=true/\pV K H a xs):=by
 rcases h with h|⟨o,its,n,hk,hc,hd,hs,hz,r⟩
 ·unfold Cd at h;split at h<;>first|(cases h)|skip
  ·exact .inl ⟨rfl,.inl (.inl (by assumption))⟩
  ·exact .inr ⟨rfl,.inl (.inl (by assumption))⟩
  ·exact .inl ⟨rfl,.inl (.inr ⟨_,by assumption⟩)⟩
  ·exact .inr ⟨rfl,.inl (.inr ⟨_,by assumption⟩)⟩
 ·cases t with
  |false=>exact .inl ⟨rfl,.inr ⟨o,its,n,hk,hc,hd,hs,hz,r⟩⟩
  |true=>exact .inr ⟨rfl,.inr ⟨o,its,n,hk,hc,hs,hz,r⟩⟩
theorem gi.p5(h:gi K H a true xs):pV K H a xs:=by
 rcases h.sq with⟨z,_⟩|⟨_,z⟩
 ·cases z
 ·exact z
theorem gi.Ib(h:gi K H a false xs):jt K H a xs:=by
 rcases h.sq with⟨_,z⟩|⟨z,_⟩
 ·exact z
 ·cases z
variable{pins:List (Addr×Obj)}{O:L2.St}{s:aj}
variable{A:dh}
variable{b:Addr}{its2:List Value}{ds es:List D}
variable{its:Array Value}{h:Heap}
variable{dx:D}
section
variable{X:Cx}
theorem toList_replicate(j:Nat)(x:Str):(⟨(aF j x.cps).foldl (·++·) #[]⟩:Str)=⟨(aF j x.cps.toList).flatten.toArray⟩:=by
 have h:∀(j:Nat) (acc:Array Nat),((aF j x.cps).foldl (·++·) acc)=acc++(aF j x.cps.toList).flatten.toArray:=by
  intro j;induction j with
  |zero=>intro acc;simp
  |succ j ih=>
   intro acc;rw[bV,uq,ih,bV,c8];apply K1;simp
 rw[h];simp
theorem Jv:jJ X (gR .Mult) (fun x y H Q=>∃i j,x=.str i/\y=.int j/\(0<=j/\j<2 ^ 40/\i.length*j.toNat<=aa)/\Q (.str ⟨(aF j.toNat i.cps.toList).flatten.toArray⟩) H):=by
 intro pins s O H x y v u Q I rx ry h;obtain⟨i,j,rfl,rfl,⟨h0,h1,h2⟩,q⟩:=h;obtain⟨t,rfl⟩:=rx;obtain⟨t',rfl⟩:=ry;have hs:aa=16777216:=fX;refine SB.mul ⟨?_,fun hn hc=>?_,fun hn hc=>?_⟩ fun t' k=>⟨.str (Je i j),H,I.tok _,⟨_,rfl⟩,?_⟩
 ·have e1:decide (j < -(2 ^ 63:Int))=false:=decide_eq_false (by omega);have e2:decide (j≥2 ^ 63)=false:=decide_eq_false (by omega);rw[e1,e2];rfl
 ·have hj:0<j:=by omega
  intro hgt;have h3:(2 ^ 63-1) / j<(i.length:Int):=hgt;have h4:(2 ^ 63-1:Int)<(i.length:Int)*j:=(Int.ediv_lt_iff_lt_mul hj).mp h3;have h5:((i.length*j.toNat:Nat):Int)=(i.length:Int)*j:=by
   rw[Int.natCast_mul,Int.toNat_of_nonneg h0]
  omega
 ·unfold K6;simp only[decide_eq_false_iff_not];omega
 ·have e:Je i j=⟨(aF j.toNat i.cps.toList).flatten.toArray⟩:=by
   unfold Je;by_cases h3:j<1
   ·have:j.toNat=0:=by omega
    rw[if_pos h3,this];rfl
   ·rw[if_neg h3];by_cases h4:(j==1||i.length==0)=true
    ·rw[if_pos h4];rw[Bool.or_eq_true]at h4;rcases h4 with h4|h4
     ·have:j=1:=by simpa using h4
      subst this;simp
     ·have h5:i.length=0:=by simpa using h4
      have h6:i.cps.toList=[]:=by
       apply gM;simpa[fZ]using h5
      rw[h6];cases i with
      |mk c=>
       simp at h6;subst h6;simp
    ·rw[if_neg h4,toList_replicate]
  rw[e];exact q
theorem Inv.VJ{l:Addr}(I:L2.Inv X pins O H s)(hH:Rd H l (.lst xs)):xs.length<=aa/\∃(its:List Value) (n:Nat),bK xs its/\xs.length=its.length/\s.heap.get? l=some { cls:=.type "list",data:=.seq its.toArray n }:=by
 obtain⟨z,its,n,r,e⟩:=hH.ok I.hok;exact⟨z,its,n,r,r.length,e⟩
theorem op_cat':jJ X (gR .Add) (fun x y H Q=>∃l b xs zs,x=.ref l/\y=.ref b/\Rd H l (.lst xs)/\Rd H b (.lst zs)/\xs.length+zs.length<=aa/\∀p,H p=none->Q (.ref p) (upd H p (.lst (xs++zs)))):=by
 intro pins s O H x y v u Q I rx ry h;obtain⟨l,b,xs,zs,rfl,rfl,hH,hB,hz,q⟩:=h;cases rx;cases ry;obtain⟨z,its,n,r,hl,e⟩:=Inv.VJ I hH;obtain⟨z2,its2,n2,r2,hl2,e2⟩:=Inv.VJ I hB;refine PySem.P.add_list e e2 ?_ (by rw[aS,aS];omega);have ea:its.toArray++its2.toArray=(its++its2).toArray:=by simp
 rw[ea];exact⟨.ref _,_,I.Jr (t':=s.toks) (r.append r2) (by rw[aE];omega),rfl,q _ I.fresh⟩
theorem op_rep':jJ X (gR .Mult) (fun x y H Q=>∃l k xs,x=.ref l/\y=.int k/\Rd H l (.lst xs)/\-(2 ^ 63)<=k/\k<2 ^ 63/\xs.length*k.toNat<=aa/\∀p,H p=none->Q (.ref p) (upd H p (.lst (aF k.toNat xs).flatten))):=by
 intro pins s O H x y v u Q I rx ry h;obtain⟨l,k,xs,rfl,rfl,hH,h1,h2,hz,q⟩:=h;cases rx;obtain⟨t,rfl⟩:=ry;obtain⟨z,its,n,r,hl,e⟩:=Inv.VJ I hH;have hlen:its.toArray.size*k.toNat<=aa:=by rw[aS,<-hl];exact hz
 have hcap:¬its.toArray.size*k.toNat>(2 ^ 63-1) / 8:=by
  have:(aa:Nat)<=(2 ^ 63-1) / 8:=by decide
  omega
 have hfit:¬(!qG k)=true:=by
  rw[CY h1 h2];exact ak
 have hlong:¬lK (its.toArray.size*k.toNat)=true:=by
  rw[Ov hlen];exact ak
 have hnew:BX (fun x1 x2=>x1++x2) #[] (aF (if its.toArray.isEmpty=true then 0 else k.toNat) its.toArray)=(aF k.toNat its).flatten.toArray:=by
  have f0:∀m:Nat,BX (fun x1 x2=>x1++x2) #[] (aF m its.toArray)=(aF m its).flatten.toArray:=fun m=>by
   have:=foldl_rep its m [];rw[dw]at this;exact this
  rw[f0];cases its with
  |nil=>simp
  |cons a r'=>rw[if_neg (by simp)]
 refine wpAny_binaryOp_repeat_ref (T:="list") (U:="int") (by decide) ⟨_,e,rfl⟩ (fun s'=>BW s' k t) noFill_list_mul F.fills_int_mul F.slot_int_rmul repeat_list F.slot_int_index.lookup
  (iM F.slot_int_rmul (BW s k t) F.entry_int_rmul (F.args_int_rmul_2 _ _) (int___rmul___int_list k t l its.toArray n)
   ⟨e,rfl,⟨_,e,rfl⟩,iM F.slot_list_mul ⟨_,e,rfl⟩ F.entry_list_mul (F.args_list_mul_2 _ _) (zZ l its.toArray n k t hfit hcap hlong) ⟨e,?_⟩⟩)
 rw[hnew];exact⟨.ref _,_,I.Jr (t':=s.toks) (r.rep k.toNat) (by rw[len_rep,G7];exact hz),rfl,q _ I.fresh⟩
theorem Xu(op:sU):jJ X (gR op) (OD X.K op):=by
 intro pins s O H x y v u Q I rx ry h;cases op<;>first|(cases x<;>first|exact au h|(cases y<;>exact au h))|skip
 case Add=>
  cases x<;>first|exact au h|(cases y<;>first|exact au h|skip)
  ·exact Ve pins s O H _ _ v u Q I rx ry ⟨_,_,rfl,rfl,h⟩
  ·exact Jk pins s O H _ _ v u Q I rx ry ⟨_,_,rfl,rfl,h⟩
  ·rcases h with⟨xs,ys,h1,h2,h3,h4⟩|⟨xs,ys,h1,h2,h3,h4,h5,h6⟩
   ·exact op_cat' pins s O H _ _ v u Q I rx ry ⟨_,_,xs,ys,rfl,rfl,h1,h2,h3,h4⟩
   ·have t1:=h1.p5;have t2:=h2.p5;exact SW pins s O H _ _ v u Q I rx ry ⟨_,_,xs,ys,rfl,rfl,t1,t2,h3,h5,fun z=>absurd z h4,fun _=>h6⟩
 case Sub=>
  cases x<;>first|exact au h|(cases y<;>first|exact au h|skip)
  ·exact Vf pins s O H _ _ v u Q I rx ry ⟨_,_,rfl,rfl,h⟩
 case Mult=>
  cases x<;>first|exact au h|(cases y<;>first|exact au h|skip)
  ·exact Vg pins s O H _ _ v u Q I rx ry ⟨_,_,rfl,rfl,h⟩
  ·exact Jv pins s O H _ _ v u Q I rx ry ⟨_,_,rfl,rfl,h⟩
  ·obtain⟨xs,h1,⟨h2,h3⟩,h4,h5⟩:=h;exact op_rep' pins s O H _ _ v u Q I rx ry ⟨_,_,xs,rfl,rfl,h1,h2,h3,h4,h5⟩
 case FloorDiv=>
  cases x<;>first|exact au h|(cases y<;>first|exact au h|skip)
  ·exact SM pins s O H _ _ v u Q I rx ry ⟨_,_,rfl,rfl,h⟩
 case Mod=>
  cases x<;>first|exact au h|(cases y<;>first|exact au h|skip)
  ·exact Vh pins s O H _ _ v u Q I rx ry ⟨_,_,rfl,rfl,h⟩
 case Pow=>
  cases x<;>first|exact au h|(cases y<;>first|exact au h|skip)
  ·exact Vi pins s O H _ _ v u Q I rx ry ⟨_,_,rfl,rfl,h⟩
theorem Lw:jJ X (gf .LtE) (fun x y H Q=>∃i j,x=.str i/\y=.str j/\Q (.bl (!decide (j.cps.toList<i.cps.toList))) H):=by
 intro pins s O H x y v u Q I rx ry h;obtain⟨i,j,rfl,rfl,q⟩:=h;obtain⟨t,rfl⟩:=rx;obtain⟨t',rfl⟩:=ry;exact PySem.P.le_str (AZ I q rfl)
section
open PySem.SeqAt
variable{pins:List (Addr×Obj)}{O:L2.St}{H:Hp}{s:aj}
theorem aD.len':∀{ds:List D}{vs:List V},aD K H ds vs->vs.length=ds.length
|[],_,h=>by cases h;rfl
|d::ds,_,h=>by
 obtain⟨v,r,rfl,_,h3⟩:=h;simp[aD.len' h3]
theorem Rd.rQ(h:Rd H a (.lst xs)):jt K H a xs:=.inl h
mutual
theorem Cg(I:L2.Inv X pins O H s):∀(dx dy:D) (v:V) (n m:Nat),jN dx n=true->jN dy m=true->aU X.K H dx v->aU X.K H dy v->jj dx dy=true
|.non,dy,v,n,m,hn,hm,r,q=>by
 cases r;cases dy with
 |non=>rfl
 |str z=>cases q.1
 |lst o es=>obtain⟨a,vs,z,_⟩:=q;cases z
 |tup es=>obtain⟨a,vs,z,_⟩:=q;cases z
 |bZ o ks es=>cases hm
 |pdc ks es=>cases hm
 |cst es=>cases hm
 |exc C ks es=>cases hm
 |_=>cases q
|.bl b,dy,v,n,m,hn,hm,r,q=>by
 cases r;cases dy with
 |bl c=>cases q;simp[jj]
 |str z=>cases q.1
 |lst o es=>obtain⟨a,vs,z,_⟩:=q;cases z
 |tup es=>obtain⟨a,vs,z,_⟩:=q;cases z
 |bZ o ks es=>cases hm
 |pdc ks es=>cases hm
 |cst es=>cases hm
 |exc C ks es=>cases hm
 |_=>cases q
|.int b,dy,v,n,m,hn,hm,r,q=>by
 cases r;cases dy with
 |int c=>cases q;simp[jj]
 |str z=>cases q.1
 |lst o es=>obtain⟨a,vs,z,_⟩:=q;cases z
 |tup es=>obtain⟨a,vs,z,_⟩:=q;cases z
 |bZ o ks es=>cases hm
 |pdc ks es=>cases hm
 |cst es=>cases hm
 |exc C ks es=>cases hm
 |_=>cases q
|.str b,dy,v,n,m,hn,hm,r,q=>by
 obtain⟨rfl,_⟩:=r;cases dy with
 |str c=>cases q.1;simp[jj]
 |lst o es=>obtain⟨a,vs,z,_⟩:=q;cases z
 |tup es=>obtain⟨a,vs,z,_⟩:=q;cases z
 |bZ o ks es=>cases hm
 |pdc ks es=>cases hm
 |cst es=>cases hm
 |exc C ks es=>cases hm
 |_=>cases q
|.lst o ds,dy,v,n,m,hn,hm,r,q=>by
 obtain⟨a,vs,rfl,h2,h3,h4⟩:=r;cases n with
 |zero=>cases hn
 |succ n=>
 cases dy with
 |lst o' es=>
  obtain⟨a',us,e,k2,k3,k4⟩:=q;cases e;cases m with
  |zero=>cases hm
  |succ m=>
  have e:=I.z7 (Rd.rQ h2) (Rd.rQ k2);subst e;exact Aa I ds es vs n m hn hm h4 k4
 |tup es=>
  obtain⟨a',us,e,k2,k3,k4⟩:=q;cases e;obtain⟨its,_,⟨o1,n1,e1,c1,_⟩,_⟩:=I.list (Rd.rQ h2);obtain⟨its2,_,⟨o2,e2,c2,_⟩,_⟩:=I.tuple (tupS k2).p5;rw[e1]at e2;cases e2;rw[c1]at c2;exact absurd c2 (by decide)
 |str z=>cases q.1
 |bZ o ks es=>cases hm
 |pdc ks es=>cases hm
 |cst es=>cases hm
 |exc C ks es=>cases hm
 |_=>cases q
|.tup ds,dy,v,n,m,hn,hm,r,q=>by
 obtain⟨a,vs,rfl,h2,h3,h4⟩:=r;cases n with
 |zero=>cases hn
 |succ n=>
 cases dy with
 |tup es=>
  obtain⟨a',us,e,k2,k3,k4⟩:=q;cases e;cases m with
  |zero=>cases hm
  |succ m=>
  have e:=I.C6 (tupS h2).p5 (tupS k2).p5;subst e;exact Aa I ds es vs n m hn hm h4 k4
 |lst o es=>
  obtain⟨a',us,e,k2,k3,k4⟩:=q;cases e;obtain⟨its,_,⟨o1,n1,e1,c1,_⟩,_⟩:=I.list (Rd.rQ k2);obtain⟨its2,_,⟨o2,e2,c2,_⟩,_⟩:=I.tuple (tupS h2).p5;rw[e1]at e2;cases e2;rw[c1]at c2;exact absurd c2 (by decide)
 |str z=>cases q.1
 |bZ o ks es=>cases hm
 |pdc ks es=>cases hm
 |cst es=>cases hm
 |exc C ks es=>cases hm
 |_=>cases q
|.bZ _ _ _,dy,v,n,m,hn,hm,r,q=>by cases hn
|.pdc _ _,dy,v,n,m,hn,hm,r,q=>by cases hn
|.cst _,dy,v,n,m,hn,hm,r,q=>by cases hn
|.exc _ _ _,dy,v,n,m,hn,hm,r,q=>by cases hn
theorem Aa(I:L2.Inv X pins O H s):∀(ds es:List D) (vs:List V) (n m:Nat),dY ds n=true->dY es m=true->aD X.K H ds vs->aD X.K H es vs->nF ds es=true
|[],es,vs,n,m,hn,hm,r,q=>by
 cases r;cases es with
 |nil=>rfl
 |cons e es=>obtain⟨_,_,z,_⟩:=q;cases z
|d::ds,es,vs,n,m,hn,hm,r,q=>by
 obtain⟨v,r',rfl,r1,r2⟩:=r;cases es with
 |nil=>cases q
 |cons e es=>
  obtain⟨w,q',z,q1,q2⟩:=q;cases z;have hn':jN d n=true/\dY ds n=true:=by simpa[dY]using hn
  have hm':jN e m=true/\dY es m=true:=by simpa[dY]using hm
  show(jj d e&&nF ds es)=true;rw[Cg I d e v n m hn'.1 hm'.1 r1 q1,Aa I ds es r' n m hn'.2 hm'.2 r2 q2];rfl
end
structure Eqs (A:dh) (s:aj) (v u:Value) (b:Bool):Prop where
 eq:EqAt A s v u b
 rc:RcAt A s v u b
 ne:RcNeAt A s v u (!b)
def oK(A:dh)(s:aj):List D->List D->List Value->List Value->Prop
|d::ds,e::es,v::vs,u::us=>EqAt A s v u (jj d e)/\oK A s ds es vs us
|_,_,_,_=>True
theorem oK.get:∀{ds es:List D}{vs us:List Value} (j:Nat) {d e:D}{v u:Value},oK A s ds es vs us->ds[j]?=some d->es[j]?=some e->vs[j]?=some v->us[j]?=some u->EqAt A s v u (jj d e)
|d::ds,e::es,v::vs,u::us,0,_,_,_,_,h,a,b,c,f=>by
 simp at a b c f;subst a b c f;exact h.1
|d::ds,e::es,v::vs,u::us,j+1,_,_,_,_,h,a,b,c,f=>oK.get j h.2 (by simpa using a) (by simpa using b) (by simpa using c) (by simpa using f)
|[],_,_,_,j,_,_,_,_,_,a,_,_,_=>by simp at a
|_::_,[],_,_,j,_,_,_,_,_,_,b,_,_=>by simp at b
|_::_,_::_,[],_,j,_,_,_,_,_,_,_,c,_=>by simp at c
|_::_,_::_,_::_,[],j,_,_,_,_,_,_,_,_,f=>by simp at f
noncomputable def eqAt'(ds es:List D)(j:Nat):Bool:=match ds[j]?,es[j]? with
|some d,some e=>jj d e
|_,_=>true
theorem Ab:∀(ds es:List D),ds.length=es.length->(cW ds.length).all (eqAt' ds es)=nF ds es
|[],[],_=>rfl
|d::ds,e::es,h=>by
 have ih:=Ab ds es (by simpa using h);rw[aW,List.range_succ_eq_map,kJ,ir];show(jj d e&&(cW ds.length).all (eqAt' (d::ds) (e::es)∘Nat.succ))=(jj d e&&nF ds es);rw[<-ih];congr 1
|[],_::_,h=>by simp at h
|_::_,[],h=>by simp at h
theorem Ac:∀(ds es:List D),ds.length≠es.length->nF ds es=false
|[],[],h=>absurd rfl h
|[],_::_,_=>rfl
|_::_,[],_=>rfl
|d::ds,e::es,h=>by
 show(jj d e&&nF ds es)=false;rw[Ac ds es (fun z=>h (by simp[z]))];simp
theorem Lx{its:List Value}(hl:s.heap.IsList a its.toArray)(hb:s.heap.IsList b its2.toArray)(l1:its.length=ds.length)(l2:its2.length=es.length)(hu:A.units<dM)(he:oK A.in1 s ds es its its2) :
  RcAt A s (.ref a) (.ref b) (nF ds es)/\RcNeAt A s (.ref a) (.ref b) (!nF ds es):=by
 by_cases hz:ds.length=es.length
 ·have hsz:its.toArray.size=its2.toArray.size:=by simp;omega
  have he':∀j (h1:j<its.toArray.size) (h2:j<its2.toArray.size),EqAt A.in1 s its.toArray[j] its2.toArray[j] (eqAt' ds es j):=by
   intro j h1 h2;have g1:j<its.length:=by simpa using h1
   have g2:j<its2.length:=by simpa using h2
   have e1:=aA (l:=ds) (i:=j) (by omega);have e2:=aA (l:=es) (i:=j) (by omega);have:=he.get j e1 e2 (aA g1) (aA g2);unfold eqAt';rw[e1,e2];simpa using this
  have r1:=RcAt.lists hl hb hsz hu he';have r2:=RcNeAt.lists hl hb hsz hu he';have ez:its.toArray.size=ds.length:=by simp;omega
  rw[ez,Ab ds es hz]at r1 r2;exact⟨r1,r2⟩
 ·have hsz:(its.toArray.size != its2.toArray.size)=true:=by simp;omega
  rw[Ac ds es hz];exact⟨RcAt.lists_lengths hl hb hsz hu,RcNeAt.lists_lengths hl hb hsz hu⟩
theorem Jw{its:List Value}(hl:s.heap.IsTuple a its.toArray)(hb:s.heap.IsTuple b its2.toArray)(l1:its.length=ds.length)(l2:its2.length=es.length)(hu:A.units<dM)(he:oK A.in1 s ds es its its2) :
  RcAt A s (.ref a) (.ref b) (nF ds es)/\RcNeAt A s (.ref a) (.ref b) (!nF ds es):=by
 have he':∀j (h1:j<its.toArray.size) (h2:j<its2.toArray.size),EqAt A.in1 s its.toArray[j] its2.toArray[j] (eqAt' ds es j):=by
  intro j h1 h2;have g1:j<its.length:=by simpa using h1
  have g2:j<its2.length:=by simpa using h2
  have e1:=aA (l:=ds) (i:=j) (by omega);have e2:=aA (l:=es) (i:=j) (by omega);have:=he.get j e1 e2 (aA g1) (aA g2);unfold eqAt';rw[e1,e2];simpa using this
 have r1:=RcAt.tuples hl hb hu he';have r2:=RcNeAt.tuples hl hb hu he';have key:((cW (min its.toArray.size its2.toArray.size)).all (eqAt' ds es)&&its.toArray.size==its2.toArray.size)=nF ds es:=by
  by_cases hz:ds.length=es.length
  ·have e1:min its.toArray.size its2.toArray.size=ds.length:=by simp;omega
   have e2:(its.toArray.size==its2.toArray.size)=true:=by simp;omega
   rw[e1,e2,Ab ds es hz,gK]
  ·have e2:(its.toArray.size==its2.toArray.size)=false:=by simp;omega
   rw[e2,vC,Ac ds es hz]
 rw[key]at r1 r2;exact⟨r1,r2⟩
theorem PlainL.is(p:PlainL h a its):h.IsList a its:=by
 obtain⟨o,n,e,c,_,d⟩:=p;exact⟨o,e,c,n,d⟩
theorem IsTup.is(p:IsTup h a its):h.IsTuple a its:=p
mutual
theorem EU(I:L2.Inv X pins O H s):∀(dx dy:D) (n m:Nat) (x y:V) (v u:Value) (A:dh),jN dx n=true->jN dy m=true->aU X.K H dx x->L2.RelV x v->aU X.K H dy y->L2.RelV y u->A.units+n<dM->Eqs A s v u (jj dx dy)
|.non,dy,n,m,x,y,v,u,A,hn,hm,r,rv,q,qu,hu=>by
 have hu':A.units<dM:=by omega
 cases r;cases rv;cases dy with
 |non=>cases q;cases qu;exact⟨EqAt.same _,RcAt.none_none,RcNeAt.none_none⟩
 |bl b=>cases q;cases qu;exact⟨EqAt.none_bool b,RcAt.none_bool b,RcNeAt.none_bool b⟩
 |int i=>cases q;obtain⟨t,rfl⟩:=qu;exact⟨EqAt.none_int i t,RcAt.none_int i t,RcNeAt.none_int i t⟩
 |str z=>obtain⟨rfl,_⟩:=q;obtain⟨t,rfl⟩:=qu;exact⟨EqAt.none_str z t,RcAt.none_str z t,RcNeAt.none_str z t⟩
 |lst o es=>
  obtain⟨b,us,rfl,k2,k3,k4⟩:=q;cases qu;obtain⟨its,_,p,_⟩:=I.list (Rd.rQ k2);exact⟨EqAt.none_list (PlainL.is p) hu',RcAt.none_list (PlainL.is p) hu',RcNeAt.none_list (PlainL.is p) hu'⟩
 |tup es=>
  obtain⟨b,us,rfl,k2,k3,k4⟩:=q;cases qu;obtain⟨its,_,p,_⟩:=I.tuple (tupS k2).p5;exact⟨EqAt.none_tuple (IsTup.is p) hu',RcAt.none_tuple (IsTup.is p) hu',RcNeAt.none_tuple (IsTup.is p) hu'⟩
 |bZ _ _ _=>cases hm
 |pdc _ _=>cases hm
 |cst _=>cases hm
 |exc _ _ _=>cases hm
|.bl a,dy,n,m,x,y,v,u,A,hn,hm,r,rv,q,qu,hu=>by
 have hu':A.units<dM:=by omega
 cases r;cases rv;cases dy with
 |non=>cases q;cases qu;exact⟨EqAt.bool_none a,RcAt.bool_none a,RcNeAt.bool_none a⟩
 |bl b=>cases q;cases qu;exact⟨EqAt.bool_bool a b,RcAt.bool_bool a b,RcNeAt.bool_bool a b⟩
 |int i=>cases q;obtain⟨t,rfl⟩:=qu;exact⟨EqAt.bool_int a i t,RcAt.bool_int a i t,RcNeAt.bool_int a i t⟩
 |str z=>obtain⟨rfl,_⟩:=q;obtain⟨t,rfl⟩:=qu;exact⟨EqAt.bool_str a z t,RcAt.bool_str a z t,RcNeAt.bool_str a z t⟩
 |lst o es=>
  obtain⟨b,us,rfl,k2,k3,k4⟩:=q;cases qu;obtain⟨its,_,p,_⟩:=I.list (Rd.rQ k2);exact⟨EqAt.bool_list a (PlainL.is p) hu',RcAt.bool_list a (PlainL.is p) hu',RcNeAt.bool_list a (PlainL.is p) hu'⟩
 |tup es=>
  obtain⟨b,us,rfl,k2,k3,k4⟩:=q;cases qu;obtain⟨its,_,p,_⟩:=I.tuple (tupS k2).p5;exact⟨EqAt.bool_tuple a (IsTup.is p) hu',RcAt.bool_tuple a (IsTup.is p) hu',RcNeAt.bool_tuple a (IsTup.is p) hu'⟩
 |bZ _ _ _=>cases hm
 |pdc _ _=>cases hm
 |cst _=>cases hm
 |exc _ _ _=>cases hm
|.int a,dy,n,m,x,y,v,u,A,hn,hm,r,rv,q,qu,hu=>by
 have hu':A.units<dM:=by omega
 cases r;obtain⟨tt,rfl⟩:=rv;cases dy with
 |non=>cases q;cases qu;exact⟨EqAt.int_none a tt,RcAt.int_none a tt,RcNeAt.int_none a tt⟩
 |bl b=>cases q;cases qu;exact⟨EqAt.int_bool a tt b,RcAt.int_bool a tt b,RcNeAt.int_bool a tt b⟩
 |int i=>cases q;obtain⟨t,rfl⟩:=qu;exact⟨EqAt.int_int a tt i t,RcAt.int_int a tt i t,RcNeAt.int_int a tt i t⟩
 |str z=>obtain⟨rfl,_⟩:=q;obtain⟨t,rfl⟩:=qu;exact⟨EqAt.int_str a tt z t,RcAt.int_str a tt z t,RcNeAt.int_str a tt z t⟩
 |lst o es=>
  obtain⟨b,us,rfl,k2,k3,k4⟩:=q;cases qu;obtain⟨its,_,p,_⟩:=I.list (Rd.rQ k2);exact⟨EqAt.int_list a tt (PlainL.is p) hu',RcAt.int_list a tt (PlainL.is p) hu',RcNeAt.int_list a tt (PlainL.is p) hu'⟩
 |tup es=>
  obtain⟨b,us,rfl,k2,k3,k4⟩:=q;cases qu;obtain⟨its,_,p,_⟩:=I.tuple (tupS k2).p5;exact⟨EqAt.int_tuple a tt (IsTup.is p) hu',RcAt.int_tuple a tt (IsTup.is p) hu',RcNeAt.int_tuple a tt (IsTup.is p) hu'⟩
 |bZ _ _ _=>cases hm
 |pdc _ _=>cases hm
 |cst _=>cases hm
 |exc _ _ _=>cases hm
|.str a,dy,n,m,x,y,v,u,A,hn,hm,r,rv,q,qu,hu=>by
 have hu':A.units<dM:=by omega
 obtain⟨rfl,_⟩:=r;obtain⟨tt,rfl⟩:=rv;cases dy with
 |non=>cases q;cases qu;exact⟨EqAt.str_none a tt,RcAt.str_none a tt,RcNeAt.str_none a tt⟩
 |bl b=>cases q;cases qu;exact⟨EqAt.str_bool a tt b,RcAt.str_bool a tt b,RcNeAt.str_bool a tt b⟩
 |int i=>cases q;obtain⟨t,rfl⟩:=qu;exact⟨EqAt.str_int a tt i t,RcAt.str_int a tt i t,RcNeAt.str_int a tt i t⟩
 |str z=>obtain⟨rfl,_⟩:=q;obtain⟨t,rfl⟩:=qu;exact⟨EqAt.str_str a tt z t,RcAt.str_str a tt z t,RcNeAt.str_str a tt z t⟩
 |lst o es=>
  obtain⟨b,us,rfl,k2,k3,k4⟩:=q;cases qu;obtain⟨its,_,p,_⟩:=I.list (Rd.rQ k2);exact⟨EqAt.str_list a tt (PlainL.is p) hu',RcAt.str_list a tt (PlainL.is p) hu',RcNeAt.str_list a tt (PlainL.is p) hu'⟩
 |tup es=>
  obtain⟨b,us,rfl,k2,k3,k4⟩:=q;cases qu;obtain⟨its,_,p,_⟩:=I.tuple (tupS k2).p5;exact⟨EqAt.str_tuple a tt (IsTup.is p) hu',RcAt.str_tuple a tt (IsTup.is p) hu',RcNeAt.str_tuple a tt (IsTup.is p) hu'⟩
 |bZ _ _ _=>cases hm
 |pdc _ _=>cases hm
 |cst _=>cases hm
 |exc _ _ _=>cases hm
|.lst o ds,dy,n,m,x,y,v,u,A,hn,hm,r,rv,q,qu,hu=>by
 have hu':A.units<dM:=by omega
 have hr:=r;obtain⟨a,vs,rfl,h2,h3,h4⟩:=r;cases rv;obtain⟨its,rits,p,_⟩:=I.list (Rd.rQ h2);have hn0:=hn;cases n with
 |zero=>cases hn
 |succ n=>
 cases dy with
 |non=>cases q;cases qu;exact⟨EqAt.list_none (PlainL.is p) hu',RcAt.list_none (PlainL.is p) hu',RcNeAt.list_none (PlainL.is p) hu'⟩
 |bl b=>cases q;cases qu;exact⟨EqAt.list_bool b (PlainL.is p) hu',RcAt.list_bool b (PlainL.is p) hu',RcNeAt.list_bool b (PlainL.is p) hu'⟩
 |int i=>cases q;obtain⟨t,rfl⟩:=qu;exact⟨EqAt.list_int i t (PlainL.is p) hu',RcAt.list_int i t (PlainL.is p) hu',RcNeAt.list_int i t (PlainL.is p) hu'⟩
 |str z=>obtain⟨rfl,_⟩:=q;obtain⟨t,rfl⟩:=qu;exact⟨EqAt.list_str z t (PlainL.is p) hu',RcAt.list_str z t (PlainL.is p) hu',RcNeAt.list_str z t (PlainL.is p) hu'⟩
 |lst o' es=>
  have hq:=q;obtain⟨b,us,rfl,k2,k3,k4⟩:=q;cases qu;obtain⟨its2,rits2,p2,_⟩:=I.list (Rd.rQ k2);have hm0:=hm;cases m with
  |zero=>cases hm
  |succ m=>
  obtain⟨r1,r2⟩:=Lx (A:=A) (ds:=ds) (es:=es) (PlainL.is p) (PlainL.is p2) (by rw[<-rits.length,aD.len' h4]) (by rw[<-rits2.length,aD.len' k4]) hu' (FF I ds es n m vs us its its2 A.in1 hn hm h4 rits k4 rits2 (by show A.units+1+n<dM;omega));refine⟨?_,r1,r2⟩;by_cases e:a=b
  ·subst e;have z:=Cg I (.lst o ds) (.lst o' es) (.ref a) (n+1) (m+1) hn0 hm0 hr hq;rw[z];exact EqAt.same _
  ·exact EqAt.of_refs e r1
 |tup es=>
  obtain⟨b,us,rfl,k2,k3,k4⟩:=q;cases qu;obtain⟨its2,_,p2,_⟩:=I.tuple (tupS k2).p5;exact⟨EqAt.list_tuple (PlainL.is p) (IsTup.is p2) hu',RcAt.list_tuple (PlainL.is p) (IsTup.is p2) hu',RcNeAt.list_tuple (PlainL.is p) (IsTup.is p2) hu'⟩
 |bZ _ _ _=>cases hm
 |pdc _ _=>cases hm
 |cst _=>cases hm
 |exc _ _ _=>cases hm
|.tup ds,dy,n,m,x,y,v,u,A,hn,hm,r,rv,q,qu,hu=>by
 have hu':A.units<dM:=by omega
 have hr:=r;obtain⟨a,vs,rfl,h2,h3,h4⟩:=r;cases rv;obtain⟨its,rits,p,_⟩:=I.tuple (tupS h2).p5;have hn0:=hn;cases n with
 |zero=>cases hn
 |succ n=>
 cases dy with
 |non=>cases q;cases qu;exact⟨EqAt.tuple_none (IsTup.is p) hu',RcAt.tuple_none (IsTup.is p) hu',RcNeAt.tuple_none (IsTup.is p) hu'⟩
 |bl b=>cases q;cases qu;exact⟨EqAt.tuple_bool b (IsTup.is p) hu',RcAt.tuple_bool b (IsTup.is p) hu',RcNeAt.tuple_bool b (IsTup.is p) hu'⟩
 |int i=>cases q;obtain⟨t,rfl⟩:=qu;exact⟨EqAt.tuple_int i t (IsTup.is p) hu',RcAt.tuple_int i t (IsTup.is p) hu',RcNeAt.tuple_int i t (IsTup.is p) hu'⟩
 |str z=>obtain⟨rfl,_⟩:=q;obtain⟨t,rfl⟩:=qu;exact⟨EqAt.tuple_str z t (IsTup.is p) hu',RcAt.tuple_str z t (IsTup.is p) hu',RcNeAt.tuple_str z t (IsTup.is p) hu'⟩
 |tup es=>
  have hq:=q;obtain⟨b,us,rfl,k2,k3,k4⟩:=q;cases qu;obtain⟨its2,rits2,p2,_⟩:=I.tuple (tupS k2).p5;have hm0:=hm;cases m with
  |zero=>cases hm
  |succ m=>
  obtain⟨r1,r2⟩:=Jw (A:=A) (ds:=ds) (es:=es) (IsTup.is p) (IsTup.is p2) (by rw[<-rits.length,aD.len' h4]) (by rw[<-rits2.length,aD.len' k4]) hu' (FF I ds es n m vs us its its2 A.in1 hn hm h4 rits k4 rits2 (by show A.units+1+n<dM;omega));refine⟨?_,r1,r2⟩;by_cases e:a=b
  ·subst e;have z:=Cg I (.tup ds) (.tup es) (.ref a) (n+1) (m+1) hn0 hm0 hr hq;rw[z];exact EqAt.same _
  ·exact EqAt.of_refs e r1
 |lst o es=>
  obtain⟨b,us,rfl,k2,k3,k4⟩:=q;cases qu;obtain⟨its2,_,p2,_⟩:=I.list (Rd.rQ k2);exact⟨EqAt.tuple_list (IsTup.is p) (PlainL.is p2) hu',RcAt.tuple_list (IsTup.is p) (PlainL.is p2) hu',RcNeAt.tuple_list (IsTup.is p) (PlainL.is p2) hu'⟩
 |bZ _ _ _=>cases hm
 |pdc _ _=>cases hm
 |cst _=>cases hm
 |exc _ _ _=>cases hm
|.bZ _ _ _,dy,n,m,x,y,v,u,A,hn,hm,r,rv,q,qu,hu=>by cases hn
|.pdc _ _,dy,n,m,x,y,v,u,A,hn,hm,r,rv,q,qu,hu=>by cases hn
|.cst _,dy,n,m,x,y,v,u,A,hn,hm,r,rv,q,qu,hu=>by cases hn
|.exc _ _ _,dy,n,m,x,y,v,u,A,hn,hm,r,rv,q,qu,hu=>by cases hn
theorem FF(I:L2.Inv X pins O H s):∀(ds es:List D) (n m:Nat) (vs us:List V) (its its2:List Value) (A:dh),dY ds n=true->dY es m=true->aD X.K H ds vs->bK vs its->aD X.K H es us->bK us its2->A.units+n<dM->oK A s ds es its its2
|[],es,n,m,vs,us,its,its2,A,hn,hm,r,rv,q,qu,hu=>by cases its<;>trivial
|d::ds,[],n,m,vs,us,its,its2,A,hn,hm,r,rv,q,qu,hu=>by cases its<;>trivial
|d::ds,e::es,n,m,vs,us,its,its2,A,hn,hm,r,rv,q,qu,hu=>by
 have hn':jN d n=true/\dY ds n=true:=by simpa[dY]using hn
 have hm':jN e m=true/\dY es m=true:=by simpa[dY]using hm
 obtain⟨x,vr,rfl,r1,r2⟩:=r;obtain⟨y,ur,rfl,q1,q2⟩:=q;cases rv with
 |cons rv1 rv2=>
  cases qu with
  |cons qu1 qu2=>
   exact⟨(EU I d e n m x y _ _ A hn'.1 hm'.1 r1 rv1 q1 qu1 hu).eq,FF I ds es n m vr ur _ _ A hn'.2 hm'.2 r2 rv2 q2 qu2 hu⟩
end
end
theorem Xv(hu:X.A.units+60<dM):jJ X (gf .Eq) (fun x y H Q=>∃dx dy,aU X.K H dx x/\aU X.K H dy y/\cN dx=true/\cN dy=true/\Q (.bl (jj dx dy)) H):=by
 intro pins s O H x y v u Q I rx ry h;obtain⟨dx,dy,h1,h2,h3,h4,q⟩:=h;exact(EU I dx dy 12 12 x y v u X.A h3 h4 h1 rx h2 ry (by omega)).rc X.prog X.w X.xe _ ⟨.bl (jj dx dy),H,I,rfl,q⟩
theorem Xw(hu:X.A.units+60<dM):jJ X (gf .NotEq) (fun x y H Q=>∃dx dy,aU X.K H dx x/\aU X.K H dy y/\cN dx=true/\cN dy=true/\Q (.bl (!jj dx dy)) H):=by
 intro pins s O H x y v u Q I rx ry h;obtain⟨dx,dy,h1,h2,h3,h4,q⟩:=h;exact(EU I dx dy 12 12 x y v u X.A h3 h4 h1 rx h2 ry (by omega)).ne X.prog X.w X.xe _ ⟨.bl (!jj dx dy),H,I,rfl,q⟩
theorem A8{x:Value}:∀(ds:List D) (its:List Value),its.length=ds.length->(∀(j:Nat) d v,ds[j]?=some d->its[j]?=some v->PySem.SeqAt.EqAt A s v x (jj d dx))->
  ∃e:Value->Bool,(∀y,y∈its.toArray->PySem.SeqAt.EqAt A s y x (e y))/\its.toArray.any e=memD dx ds:=by
 intro ds its hl he
 classical
 refine⟨fun v=>decide (∃(j:Nat) (d:D),its[j]?=some v/\ds[j]?=some d/\jj d dx=true),fun y hy=>?_,?_⟩
 ·have hy:y∈its:=by simpa using hy
  obtain⟨j,hj,ej⟩:=xq hy;dsimp only;by_cases h:∃(j:Nat) (d:D),its[j]?=some y/\ds[j]?=some d/\jj d dx=true
  ·rw[decide_eq_true h];obtain⟨k,d,h1,h2,h3⟩:=h;have:=he k d y h2 h1;rw[h3]at this;exact this
  ·rw[decide_eq_false h];have e1:ds[j]?=some ds[j]:=aA (by omega);have e2:its[j]?=some y:=by rw[aA hj,ej]
   have:=he j _ y e1 e2;cases q:jj ds[j] dx with
   |true=>exact absurd ⟨j,_,e2,e1,q⟩ h
   |false=>rw[q]at this;exact this
 ·rw[dz];unfold memD;simp only[List.any_toArray,gS,decide_eq_true_eq];constructor
  ·rintro⟨v,_,j,d,h1,h2,h3⟩;exact⟨d,fH h2,h3⟩
  ·rintro⟨d,hd,h3⟩;obtain⟨j,hj,ej⟩:=xq hd;have g1:its[j]?=some its[j]:=aA (by omega);exact⟨its[j],gb _,j,d,g1,by rw[aA hj,ej],h3⟩
theorem rR(hu:X.A.units+60<dM)(I:L2.Inv X pins O H s){x:V}{v:Value}(rx:aU X.K H dx x)(rv:L2.RelV x v)(hx:jN dx 12=true) :
 ∀{ds:List D}{xs:List V}{its:List Value},aD X.K H ds xs->bK xs its->dY ds 12=true->∀(j:Nat) d w,ds[j]?=some d->its[j]?=some w->PySem.SeqAt.EqAt X.A.in1 s w v (jj d dx)
|[],_,_,_,_,_,j,d,w,h,_=>by simp at h
|e::ds,_,_,r,rr,ho,j,d,w,h1,h2=>by
 obtain⟨y,ys,rfl,r1,r2⟩:=r;have ho':jN e 12=true/\dY ds 12=true:=by simpa[dY]using ho
 cases rr with
 |cons ra rb=>
  cases j with
  |zero=>
   simp at h1 h2;subst h1 h2;exact(EU I e dx 12 12 y x _ v X.A.in1 ho'.1 hx r1 ra rx rv (by show X.A.units+1+12<dM;omega)).eq
  |succ j=>exact rR hu I rx rv hx r2 rb ho'.2 j d w (by simpa using h1) (by simpa using h2)
theorem yV(hu:X.A.units+60<dM)(op:n9):jJ X (gf op) (mT X.K op):=by
 intro pins s O H x y v u Q I rx ry h;unfold mT at h;split at h
 ·exact Xc pins s O H _ _ v u Q I rx ry ⟨_,_,rfl,rfl,h⟩
 ·exact Xd pins s O H _ _ v u Q I rx ry ⟨_,_,rfl,rfl,h⟩
 ·exact Xe pins s O H _ _ v u Q I rx ry ⟨_,_,rfl,rfl,h⟩
 ·exact Xf pins s O H _ _ v u Q I rx ry ⟨_,_,rfl,rfl,h⟩
 ·exact Lg pins s O H _ _ v u Q I rx ry ⟨_,_,rfl,rfl,h⟩
 ·exact Lw pins s O H _ _ v u Q I rx ry ⟨_,_,rfl,rfl,h⟩
 ·exact Xv hu pins s O H _ _ v u Q I rx ry h
 ·exact Xw hu pins s O H _ _ v u Q I rx ry h
 ·exact Vk pins s O H _ _ v u Q I rx ry ⟨rfl,h⟩
 ·exact SN pins s O H _ _ v u Q I rx ry ⟨rfl,h⟩
 ·rename_i a;cases(show u=a6 a from ry);rcases h with⟨t,xs,dx,ds,hx,h1,h2,h3,h4,q⟩|⟨kvs,k,hk,rfl,q⟩
  ·cases t with
   |false=>
    obtain⟨its,r,p,_⟩:=I.list hx.Ib;obtain⟨e,e1,e2⟩:=A8 (A:=X.A.in1) (s:=s) (x:=v) (dx:=dx) ds its (by rw[<-r.length,aD.len' h2]) (rR hu I h1 rx h3 h2 r h4);exact PySem.SeqAt.in_listAt e (PlainL.is p) e1 ⟨.bl (its.toArray.any e),H,I,rfl,by rw[e2];exact q⟩
   |true=>
    obtain⟨its,r,p,_⟩:=I.tuple hx.p5;obtain⟨e,e1,e2⟩:=A8 (A:=X.A.in1) (s:=s) (x:=v) (dx:=dx) ds its (by rw[<-r.length,aD.len' h2]) (rR hu I h1 rx h3 h2 r h4);exact PySem.SeqAt.in_tupleAt e (IsTup.is p) e1 ⟨.bl (its.toArray.any e),H,I,rfl,by rw[e2];exact q⟩
  ·exact YN (by omega) I (.inl ⟨kvs,k,hk,rfl,rfl⟩) rx fun s3 I3=>⟨.bl (fV kvs k).isSome,H,I3,rfl,q⟩
 ·rename_i a;cases(show u=a6 a from ry);rcases h with⟨t,xs,dx,ds,hx,h1,h2,h3,h4,q⟩|⟨kvs,k,hk,rfl,q⟩
  ·cases t with
   |false=>
    obtain⟨its,r,p,_⟩:=I.list hx.Ib;obtain⟨e,e1,e2⟩:=A8 (A:=X.A.in1) (s:=s) (x:=v) (dx:=dx) ds its (by rw[<-r.length,aD.len' h2]) (rR hu I h1 rx h3 h2 r h4);exact PySem.SeqAt.notIn_listAt e (PlainL.is p) e1 ⟨.bl (!its.toArray.any e),H,I,rfl,by rw[e2];exact q⟩
   |true=>
    obtain⟨its,r,p,_⟩:=I.tuple hx.p5;obtain⟨e,e1,e2⟩:=A8 (A:=X.A.in1) (s:=s) (x:=v) (dx:=dx) ds its (by rw[<-r.length,aD.len' h2]) (rR hu I h1 rx h3 h2 r h4);exact PySem.SeqAt.notIn_tupleAt e (IsTup.is p) e1 ⟨.bl (!its.toArray.any e),H,I,rfl,by rw[e2];exact q⟩
  ·exact S2 (by omega) I (.inl ⟨kvs,k,hk,rfl,rfl⟩) rx fun s3 I3=>⟨.bl (!(fV kvs k).isSome),H,I3,rfl,q⟩
 ·exact h.elim
theorem R7:Vb X (fun x H Q=>jO X.K x H fun b=>Q b H):=by
 intro pins s O H x v Q I rx h;refine Vl pins s O H x v Q I rx ?_;cases x with
 |bl b=>exact⟨b,rfl,h⟩
 |non=>exact⟨false,rfl,h⟩
 |int i=>exact⟨_,rfl,h⟩
 |str z=>
  obtain⟨hz,h⟩:=h;refine⟨_,⟨hz,rfl⟩,?_⟩;have e:((z.length:Int) != 0)=(z.length != 0):=by
   rw[dz];simp
  rw[e];exact h
 |ref a=>
  rcases h with⟨t,xs,hx,h⟩|⟨kvs,hk,h⟩
  ·refine⟨_,?_,h⟩;rcases hx.sq with⟨_,z⟩|⟨_,z⟩
   ·exact .inl ⟨xs,z,rfl⟩
   ·exact .inr (.inl ⟨xs,z,rfl⟩)
  ·exact⟨_,.inr (.inr ⟨kvs,hk,rfl⟩),h⟩
 |_=>exact au h
theorem Te(hu:X.A.units+60<dM):Fd X (fun x y H Q=>∃a kvs k v,x=.ref a/\Rd H a (.dK kvs)/\y=kV k/\fV kvs k=some v/\Q v H):=by
 intro value slice pins s O H x y v u Q I rx ry h hs;obtain⟨a,kvs,k,z,rfl,hk,rfl,e,q⟩:=h;cases(show v=a6 a from rx);have g:xA H a (kV k) (some z):=.inl ⟨kvs,k,hk,rfl,e.symm⟩;have hT:=zE I g;unfold qC;refine aq ?_;rw[vE hT.not_modules];refine aq (B0 hT PySem.F.slot_dict_getitem.lookup ?_);have fin:aJ (aH X.prog X.w) X.A (uR slice false (.ref a) u) (fun r ZM=>aJ (aH X.prog X.w) X.A (CZ value (.ref a) r >>= fun _=>pure r) (EP X pins O Q) X.xe ZM) X.xe s:=by
  rw[hs];exact B3 (dJ (Dg (by omega) I g ry fun w' s3 I3 rw'=>(⟨z,H,I3,rw',q⟩:EP X pins O Q w' s3)) (fun r ZM ZP=>aq (wN (a9 ZP))) fun _ _ x=>x)
 first
  |exact a9 (aq fin)
  |exact aq (a9 (aq fin))
  |exact aq fin
theorem OF(hu:X.A.units+60<dM):Fd X (fun x y H Q=>∃a kvs k b v,x=.ref a/\Rd H a (.dT kvs)/\y=.ref b/\H b=some (.tup (k.map kV))/\fV kvs k=some v/\Q v H):=by
 intro value slice pins s O H x y v u Q I rx ry h hs;obtain⟨a,kvs,k,b,z,rfl,hk,rfl,hb,e,q⟩:=h;cases(show v=a6 a from rx);have g:xA H a (.ref b) (some z):=.inr ⟨kvs,k,b,hk,rfl,hb,e.symm⟩;have hT:=zE I g;unfold qC;refine aq ?_;rw[vE hT.not_modules];refine aq (B0 hT PySem.F.slot_dict_getitem.lookup ?_);have fin:aJ (aH X.prog X.w) X.A (uR slice false (.ref a) u) (fun r ZM=>aJ (aH X.prog X.w) X.A (CZ value (.ref a) r >>= fun _=>pure r) (EP X pins O Q) X.xe ZM) X.xe s:=by
  rw[hs];exact B3 (dJ (Dg (by omega) I g ry fun w' s3 I3 rw'=>(⟨z,H,I3,rw',q⟩:EP X pins O Q w' s3)) (fun r ZM ZP=>aq (wN (a9 ZP))) fun _ _ x=>x)
 first
  |exact a9 (aq fin)
  |exact aq (a9 (aq fin))
  |exact aq fin
theorem YR(hu:X.A.units+60<dM):Fd X (H_ X.K):=by
 intro value slice pins s O H x y v u Q I rx ry h;unfold H_ at h;split at h
 ·obtain⟨hz,c,e,q⟩:=h;exact Vs value slice pins s O H _ _ v u Q I rx ry ⟨_,_,c,rfl,rfl,hz,e,q⟩
 ·rcases h with⟨t,xs,i,w,rfl,hx,e,q⟩|⟨kvs,k,w,hk,rfl,e,q⟩|⟨kvs,k,b,w,hk,rfl,hb,e,q⟩
  ·rcases hx.sq with⟨_,z⟩|⟨_,z⟩
   ·exact SX value slice pins s O H _ _ v u Q I rx ry ⟨_,xs,_,w,rfl,rfl,z,e,q⟩
   ·exact Vr value slice pins s O H _ _ v u Q I rx ry ⟨_,xs,_,w,rfl,rfl,z,e,q⟩
  ·exact Te hu value slice pins s O H _ _ v u Q I rx ry ⟨_,kvs,k,w,rfl,hk,rfl,e,q⟩
  ·exact OF hu value slice pins s O H _ _ v u Q I rx ry ⟨_,kvs,k,b,w,rfl,hk,rfl,hb,e,q⟩
 ·exact h.elim
end
theorem EV(n d:Nat)(v:Int):max 0 (min (if v<0 then v+(n:Int)else v) (n:Int))=((HT.j4 n d (some v):Nat):Int):=by
 show max 0 (min (if v<0 then v+(n:Int)else v) (n:Int))=(((if v<0 then(v+(n:Int)).toNat else min v.toNat n):Nat):Int);by_cases hv:v<0
 ·simp only[if_pos hv];omega
 ·simp only[if_neg hv];omega
theorem Ci(a b:Nat):BZ (a:Int) (b:Int) 1=(cW (b-a)).map fun m=>a+m:=by
 unfold BZ;have h1:(1:Int)>0:=by omega
 simp only[h1,if_true];have e3:(if(a:Int)<(b:Int)then((b:Int)-(a:Int)+1-1) / 1 else 0).toNat=b-a:=by
  split<;>omega
 rw[e3];congr 1;funext k;omega
theorem idx_eq(lo hi:Option Int)(n:Nat):dO lo hi 1 n=(cW (HT.j4 n n hi-HT.j4 n 0 lo)).map fun m=>HT.j4 n 0 lo+m:=by
 rw[<-Ci];have h1:(1:Int)>0:=by omega
 unfold dO;simp only[h1,if_true];cases lo with
 |none=>cases hi with
  |none=>rfl
  |some v=>simp only[EV n n v];rfl
 |some w=>cases hi with
  |none=>simp only[EV n 0 w];rfl
  |some v=>simp only[EV n n v,EV n 0 w]
variable{α:Type}
theorem Jx(l:List α)(i:Nat):∀k:Nat,((cW k).map fun(m:Nat)=>i+m).filterMap (l[·]?)=(l.drop i).take k:=by
 intro k;induction k with
 |zero=>simp
 |succ k ih=>
  rw[B5,a7,List.filterMap_append,ih,List.map_singleton,gQ,List.filterMap_nil];cases h:l[i+k]? with
  |none=>
   have hl:l.length<=i+k:=List.getElem?_eq_none_iff.mp h;simp only[bY];rw[cy (by rw[dX];omega),cy (by rw[dX];omega)]
  |some c=>
   rw[vF,List.getElem?_drop,h];rfl
theorem FG(a:Array Nat):∀is:List Nat,is.filterMap (a[·]?)=is.filterMap (a.toList[·]?)
|[]=>rfl
|i::r=>by
 rw[gQ,gQ,FG a r,nB]
theorem FH(x:Str)(lo hi:Option Int):(dO lo hi 1 x.length).filterMap (x.cps[·]?)=cut x.cps.toList lo hi:=by
 have len:x.cps.toList.length=x.length:=by simp[fZ]
 rw[FG,idx_eq,Jx];unfold cut;rw[len]
theorem VL(l:List α)(lo hi:Option Int):(cut l lo hi).length<=l.length:=by
 unfold cut;rw[dH,dX];omega
theorem Tf(x:Str)(lo hi:Option Int)(h:(dO lo hi 1 x.length).length=x.length):cut x.cps.toList lo hi=x.cps.toList:=by
 have len:x.cps.toList.length=x.length:=by simp[fZ]
 rw[idx_eq,ah,qN]at h;have h2:=HT.Vp x.length x.length (aP _) hi;unfold cut;rw[len];by_cases hz:x.length=0
 ·have:x.cps.toList=[]:=gM (by omega);rw[this];simp
 ·have e0:HT.j4 x.length 0 lo=0:=by omega
  rw[e0,j0,cy (by omega)]
section
variable{X:Cx}
theorem YS:Vq X (R3 X.K):=by
 intro pins s O H x v vl vu lo hi sl Q I rx hs pl pu h;unfold R3 at h;split at h
 ·rename_i z;obtain⟨hz,q⟩:=h;obtain⟨t,rfl⟩:=rx;refine⟨"str",_,AL.lookup,jA s z t,?_⟩;have key:∀l u:Option (Int×Tok),vl=partValue l->vu=partValue u->l.map (·.1)=lo->u.map (·.1)=hi->aJ (aH X.prog X.w) X.A (zf (.str z t) (.ref sl)) (EP X pins O Q) X.xe s:=by
   rintro l u rfl rfl rfl rfl;have hs':s.heap.IsSlice sl l u none:=hs;refine wpAny_getItem_str_slice (st:=none) hs' rfl ?_;have len:z.cps.toList.length=z.length:=by simp[fZ]
   have hle:=VL z.cps.toList (l.map (·.1)) (u.map (·.1));have ec:=FH z (l.map (·.1)) (u.map (·.1));have fin:∀t' k,EP X pins O Q (.str ⟨(cut z.cps.toList (l.map (·.1)) (u.map (·.1))).toArray⟩ t') { s with toks:=k }:=fun t' k=>⟨V.str ⟨(cut z.cps.toList (l.map (·.1)) (u.map (·.1))).toArray⟩,H,I.tok _,⟨t',rfl⟩,q⟩;show(if((1:Int)==1&&(dO (l.map (·.1)) (u.map (·.1)) 1 z.length).length==z.length)=true then Made.val (.str z t)else Made.str ⟨((dO (l.map (·.1)) (u.map (·.1)) 1 z.length).filterMap (z.cps[·]?)).toArray⟩).post (EP X pins O Q) s;rw[ec];by_cases hc:((1:Int)==1&&(dO (l.map (·.1)) (u.map (·.1)) 1 z.length).length==z.length)=true
   ·rw[if_pos hc];have hall:cut z.cps.toList (l.map (·.1)) (u.map (·.1))=z.cps.toList:=Tf z _ _ (by
     rw[bq]at hc;simpa using hc.2)
    have f:=fin t s.toks;rw[hall]at f;exact f
   ·rw[if_neg hc];exact⟨by show(List.toArray _).size<=aa;rw[aS];omega,fin _ _⟩
  cases pl with
  |none=>cases pu with
   |none=>exact key none none rfl rfl rfl rfl
   |int j tj=>exact key none (some (j,tj)) rfl rfl rfl rfl
  |int i ti=>cases pu with
   |none=>exact key (some (i,ti)) none rfl rfl rfl rfl
   |int j tj=>exact key (some (i,ti)) (some (j,tj)) rfl rfl rfl rfl
 ·rcases h with⟨t,xs,hx,ht,q⟩|⟨n,xs,hx,rfl,rfl,h1,h2,q⟩
  ·rcases hx.sq with⟨_,z⟩|⟨hf,z⟩
   ·exact SY pins s O H _ v vl vu lo hi sl Q I rx hs pl pu ⟨_,xs,rfl,z,q⟩
   ·rw[ht]at hf;cases hf
  ·cases rx;obtain⟨its,r,pt,hz⟩:=I.tuple hx.p5;have hlen:=r.length;cases pl with
   |int _ tl=>
    cases pu;refine⟨"tuple",_,yF.lookup,IsTup.typeIs pt,?_⟩;refine getItem_tuple_from pt hs h1 (by rw[aS];omega) ?_ (by rw[aS];omega);refine⟨.ref s.heap.objs.size,_,I.laid (t':=s.toks) (o:=.tup (xs.drop n)) (fun b ob q=>aM _ q) (aP _) ⟨by rw[dX];omega,its.drop n,r.drop n,IsTup.new _ _⟩,rfl,q _ (I.hok.fresh (aP _))⟩
 ·exact h.elim
end
noncomputable def Bf.val:Bf->Value
|.len=>.builtin "len"|.all=>.builtin "all"|.any=>.builtin "any"|.int=>.type "int"|.str=>.type "str"|.list=>.type "list"|.sum=>.builtin "sum"|.max=>.builtin "max"|.sorted=>.builtin "sorted"
theorem Bf.boot:∀f:Bf,lH f.name=some f.val:=by
 intro f;cases f<;>decide +kernel
theorem Bf.ok(f:Bf):f.name≠"__name__"/\(f.name==("__debug__":Str))=false:=by
 cases f<;>decide +kernel
variable{p:Nat->Bool}
variable{P:bJ}{w:bS}
section
variable{X:Cx}
theorem vS{Q:Value->aj->Prop}{E:Value->aj->Prop}(hc:X.calm=true)(I:L2.Inv X pins O H s)(hx:jt X.K H a xs)
  (h:∀(its:List Value),bK xs its->xs.length<=aa->∀ZH:aj,ZH={ s with heap:=s.heap.push { cls:=.type "list_iterator",data:=.fields #[.ref a,.int 0 0] } }->
   Walks X.prog X.w X.A.in1 s.heap.objs.size [s.heap.objs.size,a] [s.heap.objs.size] its.toArray.size (fun i v=>its.toArray[i]?=some v) (fun i h=>h.IsListIter s.heap.objs.size a i/\h.IsList a its.toArray)->
   (ZH.heap.IsListIter s.heap.objs.size a 0/\ZH.heap.IsList a its.toArray)->(∀b∈[s.heap.objs.size,a],b<ZH.heap.objs.size)->
   (∀h' tk,(∀b o,b∉[s.heap.objs.size]->ZH.heap.get? b=some o->h'.get? b=some o)->L2.Inv X pins O H { ZH with heap:=h',toks:=tk })->Q (.ref s.heap.objs.size) ZH) :
  aJ (aH X.prog X.w) X.A.in1 (vt (.ref a)) Q E s:=by
 obtain⟨its,r,pl,hz⟩:=I.list hx;have hlt:a<s.heap.objs.size:=by obtain⟨o,n,e,_⟩:=pl;exact be e
 refine zo pl.isList ?_;have hh:X.A.in1.handled=none:=I.ok.hd hc;refine h its r hz _ rfl (Walks.list hh s.heap.objs.size a (b8 hlt) its.toArray) ⟨⟨_,bU _ rfl,rfl,rfl⟩,pl.isList.push _⟩ (fun b hb=>?_) fun h' tk k=>?_
 ·show b<(s.heap.push _).objs.size;rw[iZ];rcases aC.mp hb with rfl|hb
  ·exact mZ _
  ·rw[aG.mp hb];exact qO hlt
 ·exact I.kept fun b o e=>k b o (fun z=>absurd (be e) (by rw[aG.mp z];exact d8 _)) (aM _ e)
theorem range_all(f:V->Bool)(h:∀i x,xs[i]?=some x->p i=f x):(cW xs.length).all p=xs.all f:=by
 rw[dz,bE,bE];constructor
 ·intro q x hx;obtain⟨i,hi⟩:=kG hx;rw[<-h i x hi];exact q i (lZ.mpr (bN.mp hi).1)
 ·intro q i hi;have hi:=lZ.mp hi;rw[h i xs[i] (aA hi)];exact q _ (gb hi)
theorem Ez(hc:X.calm=true):mH X (.builtin "all") (fun vs H Q=>∃a xs,vs=[.ref a]/\jt X.K H a xs/\yT xs=true/\Q (.bl (xs.all nG)) H):=by
 intro pins s O H vs us Q I r h;obtain⟨a,xs,rfl,hx,hb,q⟩:=h;obtain⟨u,rfl,ru⟩:=vals1 r;cases ru;refine call_all_walk (vS hc I hx fun its rv hz ZH e W st hfp fin=>⟨_,_,_,_,_,_,fun i=>(xs[i]?.map nG).getD false,rfl,W,st,?_,fun h' tk k=>?_⟩)
 ·intro i v s' Q' E' hP hQ;have hi:its[i]?=some v:=by simpa using hP
  have hlen:=rv.length;have hl:i<xs.length:=by
   have:=(bN.mp hi).1;omega
  have hxi:xs[i]?=some xs[i]:=aA hl;obtain⟨u,hu,ru⟩:=rv.get hxi;rw[hi]at hu;cases hu;have hQ:Q' ((xs[i]?.map nG).getD false) s':=hQ;rw[hxi]at hQ;have hbl:∃b,xs[i]=.bl b:=by
   have:=bE.mp hb _ (gb hl);revert this;cases xs[i]<;>intro this<;>first|exact⟨_,rfl⟩|(exact absurd (show false=true from this) ak)
  obtain⟨b,eb⟩:=hbl;rw[eb]at ru hQ;cases ru;refine eV ?_;cases b<;>exact hQ
 ·have e1:its.toArray.size=xs.length:=by rw[aS];exact rv.length.symm
  rw[e1];have e2:=range_all (p:=fun i=>(xs[i]?.map nG).getD false) (xs:=xs) nG (fun i x hi=>by rw[hi];rfl);rw[e2];exact⟨.bl _,H,fin h' tk k,rfl,q⟩
theorem range_any(f:V->Bool)(h:∀i x,xs[i]?=some x->p i=f x):(cW xs.length).any p=xs.any f:=by
 rw[dz,gS,gS];constructor
 ·rintro⟨i,hi,q⟩;have hi:=lZ.mp hi;rw[h i xs[i] (aA hi)]at q;exact⟨_,gb hi,q⟩
 ·rintro⟨x,hx,q⟩;obtain⟨i,hi⟩:=kG hx;rw[<-h i x hi]at q;exact⟨i,lZ.mpr (bN.mp hi).1,q⟩
theorem EA(hc:X.calm=true):mH X (.builtin "any") (fun vs H Q=>∃a xs,vs=[.ref a]/\jt X.K H a xs/\yT xs=true/\Q (.bl (xs.any nG)) H):=by
 intro pins s O H vs us Q I r h;obtain⟨a,xs,rfl,hx,hb,q⟩:=h;obtain⟨u,rfl,ru⟩:=vals1 r;cases ru;refine call_any_walk (vS hc I hx fun its rv hz ZH e W st hfp fin=>⟨_,_,_,_,_,_,fun i=>(xs[i]?.map nG).getD false,rfl,W,st,?_,fun h' tk k=>?_⟩)
 ·intro i v s' Q' E' hP hQ;have hi:its[i]?=some v:=by simpa using hP
  have hlen:=rv.length;have hl:i<xs.length:=by
   have:=(bN.mp hi).1;omega
  have hxi:xs[i]?=some xs[i]:=aA hl;obtain⟨u,hu,ru⟩:=rv.get hxi;rw[hi]at hu;cases hu;have hQ:Q' ((xs[i]?.map nG).getD false) s':=hQ;rw[hxi]at hQ;have hbl:∃b,xs[i]=.bl b:=by
   have:=bE.mp hb _ (gb hl);revert this;cases xs[i]<;>intro this<;>first|exact⟨_,rfl⟩|(exact absurd (show false=true from this) ak)
  obtain⟨b,eb⟩:=hbl;rw[eb]at ru hQ;cases ru;refine eV ?_;cases b<;>exact hQ
 ·have e1:its.toArray.size=xs.length:=by rw[aS];exact rv.length.symm
  rw[e1];have e2:=range_any (p:=fun i=>(xs[i]?.map nG).getD false) (xs:=xs) nG (fun i x hi=>by rw[hi];rfl);rw[e2];exact⟨.bl _,H,fin h' tk k,rfl,q⟩
theorem preSum_eq:∀(xs:List V) (val:Nat->Int),(∀i x,xs[i]?=some x->val i=intOf x)->yL val xs.length=pZ xs:=by
 have snoc:∀(n:Nat) (val:Nat->Int),yL val (n+1)=yL val n+val n:=fun n val=>by
  first|rfl|simp[yL,B5]
 intro xs;have gen:∀(n:Nat) (val:Nat->Int),n<=xs.length->(∀i x,xs[i]?=some x->val i=intOf x)->yL val n=pZ (xs.take n):=by
  intro n;induction n with
  |zero=>intro val _ _;first|rfl|simp[yL,pZ]
  |succ n ih=>
   intro val hn hv;rw[snoc,ih val (by omega) hv];have hl:n<xs.length:=by omega
   rw[vF,aA hl];unfold pZ;rw[a7,List.sum_append];rw[hv n xs[n] (aA hl)];simp
 intro val hv;have:=gen xs.length val (aP _) hv;rw[sY]at this;exact this
theorem EB(hc:X.calm=true):mH X (.builtin "sum") (fun vs H Q=>∃a xs,vs=[.ref a]/\jt X.K H a xs/\A7 xs=true/\Q (.int (pZ xs)) H):=by
 intro pins s O H vs us Q I r h;obtain⟨a,xs,rfl,hx,hb,q⟩:=h;obtain⟨u,rfl,ru⟩:=vals1 r;cases ru;refine call_sum_walkG (vS hc I hx fun its rv hz ZH e W st hfp fin=>⟨_,_,_,_,_,_,fun i=>(xs[i]?.map intOf).getD 0,rfl,W,st,hfp,?_,fun h' tk t' k=>?_⟩)
 ·intro i v hP;have hi:its[i]?=some v:=by simpa using hP
  have hlen:=rv.length;have hl:i<xs.length:=by
   have:=(bN.mp hi).1;omega
  have hxi:xs[i]?=some xs[i]:=aA hl;obtain⟨u,hu,ru⟩:=rv.get hxi;rw[hi]at hu;cases hu;have hbl:∃b,xs[i]=.int b:=by
   have:=bE.mp hb _ (gb hl);revert this;cases xs[i]<;>intro this<;>first|exact⟨_,rfl⟩|(exact absurd (show false=true from this) ak)
  obtain⟨b,eb⟩:=hbl;rw[eb]at ru;obtain⟨t,rfl⟩:=ru;refine⟨t,?_⟩;show nu b t=nu ((xs[i]?.map intOf).getD 0) t;rw[hxi,eb];rfl
 ·have e1:its.toArray.size=xs.length:=by rw[aS];exact rv.length.symm
  rw[e1];have e2:=preSum_eq xs (fun i=>(xs[i]?.map intOf).getD 0) (fun i x hi=>by rw[hi];rfl);rw[e2];exact⟨.int _,H,fin h' tk k,⟨_,rfl⟩,q⟩
theorem FI:mH X (.type "int") (fun vs H Q=>∃z n,vs=[.str z]/\z.length<=640/\intText? z=some n/\Q (.int n) H):=by
 intro pins s O H vs us Q I r h;obtain⟨z,n,rfl,hz,hn,q⟩:=h;obtain⟨u,rfl,ru⟩:=vals1 r;obtain⟨t,rfl⟩:=ru;exact PySem.W.KIN.call_text hn hz ⟨.int n,H,I.tok _,⟨_,rfl⟩,q⟩
theorem qU{k:Key}{u:Value}(h:RelV (kV k) u):(c_ P w).is k u=true:=by
 cases k with
 |inl i=>obtain⟨t,rfl⟩:=h;exact zz P w i t
 |inr x=>obtain⟨t,rfl⟩:=h;exact zA P w x t
theorem Ly{kvs:List (Key×V)}{vs:List (Key×Value)}(r:KV kvs vs){acc:List Value}(hl:acc.length=vs.length)(h:∀(i:Nat) v,acc[i]?=some v->∃k x,vs[i]?=some (k,x)/\(c_ P w).is k v=true):bK (kvs.map fun kv=>kV kv.1) acc:=by
 induction r generalizing acc with
 |nil=>
  cases acc with
  |nil=>exact .nil
  |cons _ _=>simp at hl
 |cons q t ih=>
  cases acc with
  |nil=>simp at hl
  |cons u acc=>
   obtain⟨k,x,e,hk⟩:=h 0 u rfl;simp at e;subst e;refine .cons ?_ (ih (by simpa using hl) fun i v hv=>by simpa using h (i+1) v (by simpa using hv));rename_i p _ _;show RelV (kV p.1) u;rw[show p.1=k from q.1];rcases fS hk with⟨i,t,rfl,rfl⟩|⟨y,t,rfl,rfl⟩
   ·exact⟨t,rfl⟩
   ·exact⟨t,rfl⟩
theorem Cj(hc:X.calm=true):mH X (.type "list") (fun xs H Q=>∃a kvs,xs=[V.ref a]/\Rd H a (.dK kvs)/\∀p,H p=none->Q (.ref p) (upd H p (.lst (kvs.map fun kv=>kV kv.1)))):=by
 intro pins s O H xs us Q I r h;obtain⟨a,kvs,rfl,hk,q⟩:=h;obtain⟨u,rfl,ru⟩:=vals1 r;cases ru;obtain⟨hz,lo,vs,kv,hd⟩:=(show dj X.prog X.w H s.heap a (.dK kvs)from hk.ok I.hok);obtain⟨ep,hat⟩:=hd.dictAt;have hl:kvs.length=vs.length:=kv.length;refine PySem.W.kdl_call (PySem.W.kdl_dict (knd:=c_ X.prog X.w) (kvs:=vs) (ep:=ep) lo) (I.ok.hd hc) hat (by rw[<-hl];exact hz) fun h' tk acc c kp e it=>?_;refine⟨.ref s.heap.objs.size,_,I.laid (t':=tk) kp (aP _) (show dj X.prog X.w _ h' _ (.lst (kvs.map fun kv=>kV kv.1))from⟨by rw[ah];exact hz,acc.toList,c,Ly (P:=X.prog) (w:=X.w) kv (by rw[oz];exact it.1) fun i v hv=>it.2 i v (by rw[<-nB];exact hv),by rw[oj];exact e⟩),rfl,q _ (I.hok.fresh (aP _))⟩
theorem Xx(hc:X.calm=true)(hu:X.A.units+60<dM)(f:Bf):mH X f.val (Fz X.K f):=by
 intro pins s O H vs us Q I r h;cases f<;>cases vs<;>first|exact au h|skip
 case len.cons y w=>
  cases y<;>first|exact au h|(cases w<;>first|exact au h|skip)
  ·obtain⟨hz,q⟩:=h;exact Fg pins s O H _ us Q I r ⟨_,rfl,hz,q⟩
  ·rcases h with⟨t,xs,hx,q⟩|⟨kvs,hk,q⟩
   ·refine Ff pins s O H _ us Q I r ⟨_,xs,rfl,?_,q⟩;rcases hx.sq with⟨_,z⟩|⟨_,z⟩
    ·exact .inl z
    ·exact .inr z
   ·obtain⟨u,rfl,ru⟩:=vals1 r;cases ru;exact Xl I hk fun t s' I'=>⟨.int kvs.length,H,I',⟨t,rfl⟩,q⟩
 case all.cons y w=>
  cases y<;>first|exact au h|(cases w<;>first|exact au h|skip)
  ·obtain⟨t,xs,hx,ht,hb,q⟩:=h;subst ht;exact Ez hc pins s O H _ us Q I r ⟨_,xs,rfl,hx.Ib,hb,q⟩
 case any.cons y w=>
  cases y<;>first|exact au h|(cases w<;>first|exact au h|skip)
  ·obtain⟨t,xs,hx,ht,hb,q⟩:=h;subst ht;exact EA hc pins s O H _ us Q I r ⟨_,xs,rfl,hx.Ib,hb,q⟩
 case int.cons y w=>
  cases y<;>first|exact au h|(cases w<;>first|exact au h|skip)
  ·exact C8 pins s O H _ us Q I r (.inr ⟨_,rfl,h⟩)
  ·exact C8 pins s O H _ us Q I r (.inl ⟨_,rfl,h⟩)
  ·obtain⟨hz,n,hn,q⟩:=h;exact FI pins s O H _ us Q I r ⟨_,n,rfl,hz,hn,q⟩
 case str.cons y w=>
  cases y<;>first|exact au h|(cases w<;>first|exact au h|skip)
  ·exact E_ pins s O H _ us Q I r ⟨_,rfl,h.1,h.2⟩
 case list.cons y w=>
  cases y<;>first|exact au h|(cases w<;>first|exact au h|skip)
  ·rcases h with⟨t,xs,hx,q⟩|⟨kvs,hk,q⟩
   ·refine Fi pins s O H _ us Q I r ⟨_,xs,rfl,?_,q⟩;rcases hx.sq with⟨_,z⟩|⟨_,z⟩
    ·exact .inl z
    ·exact .inr z
   ·exact Cj hc pins s O H _ us Q I r ⟨_,kvs,rfl,hk,q⟩
 case sum.cons y w=>
  cases y<;>first|exact au h|(cases w<;>first|exact au h|skip)
  ·obtain⟨t,xs,hx,ht,hb,q⟩:=h;subst ht;exact EB hc pins s O H _ us Q I r ⟨_,xs,rfl,hx.Ib,hb,q⟩
 case max.cons y w=>
  cases y<;>first|exact au h|(cases w<;>first|exact au h|skip)
  rename_i y w;cases y<;>first|exact au h|(cases w<;>first|exact au h|skip)
  ·exact Lh hc pins s O H _ us Q I r ⟨_,_,rfl,h⟩
end
end L3
end
section
namespace L3
open PySem PySem.Spec PyProof.Rows L2
open PySem.Builtin PySem.Builtin.Str
variable{y:Str}
theorem Lz(h:y.length=1):y=⟨#[y.cps.getD 0 0]⟩:=by
 obtain⟨a⟩:=y;have h:a.size=1:=h;obtain⟨l⟩:=a
 match l,h with
 |[c],_=>rfl
theorem LA(x y:Str):(decide (0+y.length<=x.length)&&subAt x y 0)=y.cps.toList.isPrefixOf x.cps.toList:=by
 rw[dz,List.isPrefixOf_iff_prefix,RQ,bq,beq_iff_eq,j0];have l1:y.cps.toList.length=y.length:=by simp[fZ]
 have l2:x.cps.toList.length=x.length:=by simp[fZ]
 constructor
 ·rintro⟨_,h⟩;rw[<-h];exact List.take_prefix _ _
 ·intro h;refine⟨?_,?_⟩
  ·have:=h.length_le;simp only[decide_eq_true_eq];omega
  ·rw[List.prefix_iff_eq_take]at h;rw[<-l1];exact h.symm
theorem zJ(c:Nat):∀l:List Nat,c∉l->cu c l=[l]
|[],_=>rfl
|x::r,hp=>by
 have hx:¬x=c:=fun z=>hp (by rw[z];exact ao);have hr:c∉r:=fun z=>hp (ai _ z);unfold cu;rw[if_neg hx,zJ c r hr]
theorem vU(c:Nat):∀(p l:List Nat),c∉p->cu c (p++c::l)=p::cu c l
|[],l,_=>by
 show cu c (c::l)=_;rw[cu,if_pos rfl]
|x::r,l,hp=>by
 have hx:¬x=c:=fun z=>hp (by rw[z];exact ao);have hr:c∉r:=fun z=>hp (ai _ z);show cu c (x::(r++c::l))=_;rw[cu,if_neg hx,vU c r l hr]
theorem o9(c:Nat):∀(ps:List (List Nat)) (l:List Nat),ps≠[]->(∀p∈ps,c∉p)->l=[c].intercalate ps->cu c l=ps
|[],_,h,_,_=>absurd rfl h
|[p],l,_,hp,e=>by
 have e:l=p:=by simpa[m5]using e
 subst e;have hp:=hp l ao;exact zJ c l hp
|p::q::ps,l,_,hp,e=>by
 have e:l=p++c::[c].intercalate (q::ps):=by
  rw[e];simp[m5]
 have hpp:=hp p ao;have ih:=o9 c (q::ps) _ (by simp) (fun z hz=>hp z (ai _ hz)) rfl;subst e;rw[vU c p _ hpp,ih]
theorem join_list(c:Nat):∀ps:List Str,ps≠[]->(fB ⟨#[c]⟩ ps).cps.toList=[c].intercalate (ps.map fun p=>p.cps.toList)
|[],h=>absurd rfl h
|[p],_=>by
 show p.cps.toList=_;simp[m5]
|p::q::r,_=>by
 have ih:=join_list c (q::r) (by simp);show(p++⟨#[c]⟩++fB ⟨#[c]⟩ (q::r)).cps.toList=_;have e:(p++⟨#[c]⟩++fB ⟨#[c]⟩ (q::r)).cps=p.cps++#[c]++(fB ⟨#[c]⟩ (q::r)).cps:=rfl;rw[e,oB,oB,ih];simp[m5]
theorem OG(x:Str)(c:Nat):iV x ⟨#[c]⟩=(cu c x.cps.toList).map strOf:=by
 have h1:=N4 x ⟨#[c]⟩;have h2:=N5 x c;have hne:iV x ⟨#[c]⟩≠[]:=by
  have z:=split_len x c;have z2:(0:Int)<=cnt c x.cps.toList:=by
   have:∀l:List Nat,(0:Int)<=cnt c l:=by
    intro l;induction l with
    |nil=>exact Int.le_refl 0
    |cons n r ih=>rw[cnt_cons];split<;>omega
   exact this _
  intro e;rw[e]at z;have z:(0:Int)=1+cnt c x.cps.toList:=z;omega
 have h3:=o9 c ((iV x ⟨#[c]⟩).map fun p=>p.cps.toList) x.cps.toList (by simpa using hne) (fun p hp=>by
  obtain⟨q,hq,rfl⟩:=b_.mp hp;exact h2 q hq) (by rw[<-join_list c _ hne,h1])
 rw[h3,c9];have:∀l:List Str,l.map (strOf∘fun p=>p.cps.toList)=l:=by
  intro l;induction l with
  |nil=>rfl
  |cons a r ih=>rw[aV,ih];rfl
 rw[this]
variable{t:Tok}{Q:Value->aj->Prop}
section
variable{prog:bJ}{w:bS}{A:dh}{E:Value->aj->Prop}{s:aj}
theorem Jy{x:Str}{u:Tok}(hy:(y.length==0)=false)(hsz:x.length+2<=aa)
  (h:∀l tk,l.map (·.1)=iV x y->Q (.ref s.heap.objs.size) { s with heap:=s.heap.push { cls:=.type "list",data:=.seq (Eu l).toArray },toks:=tk }) :
  aJ (aH prog w) A (call (.builtin "str.split") [.str x t,.str y u]) Q E s:=by
 have F0:Fr s.heap s.heap.objs.size { s.heap with objs:=s.heap.objs } (fun _=>none)->True:=fun _=>trivial;have hn:(partsBetween x (occurrences x y 0 x.length (x.length+1)) y.length).length<=aa:=by
  have e1:=Jf x y 0 x.length (x.length+1);rw[length_partsBetween];omega
 cases h1:(decide (x.length<y.length)||decide (strKind x<strKind y))
 ·cases hf:(occurrences x y 0 x.length (x.length+1)).isEmpty
  ·refine iM F.slot_str_split (jA _ _ _) F.entry_str_split (F.args_str_split_2 _ _) (meets_str_split_sep x y t u h1 hy hf (by omega) hn) ?_;rw[HN];refine h (numbered s.toks _) _ ((C0 _ _).trans ?_);unfold iV;simp[h1,hf]
  ·refine iM F.slot_str_split (jA _ _ _) F.entry_str_split (F.args_str_split_2 _ _) (meets_str_split_not_found x y t u h1 hy hf) ?_;refine h [(x,t)] s.toks ?_;unfold iV;simp[h1,hf]
 ·refine iM F.slot_str_split (jA _ _ _) F.entry_str_split (F.args_str_split_2 _ _) (meets_str_split_cannot_occur x y t u h1) ?_;refine h [(x,t)] s.toks ?_;unfold iV;simp[h1]
theorem Hq{x:Str}(hx:x.length<=aa)(hn:(eW x).length<=aa)
  (h:∀l tk,l.map (·.1)=eW x->Q (.ref s.heap.objs.size) { s with heap:=s.heap.push { cls:=.type "list",data:=.seq (Eu l).toArray },toks:=tk }) :
  aJ (aH prog w) A (call (.builtin "str.split") [.str x t]) Q E s:=by
 by_cases hc:(jI x (x.length+1)==[(0,x.length)])=true
 ·have e1:eW x=[x]:=by unfold eW;rw[if_pos hc]
  have hn':(jI x (x.length+1)).length<=aa:=by
   rw[eq_of_beq hc];show 1<=aa;decide
  refine iM F.slot_str_split (jA _ _ _) F.entry_str_split (F.args_str_split_1 _) (vG x t hx hn') ?_;rw[if_pos hc];exact h [(x,t)] s.toks e1.symm
 ·have e1:eW x=(jI x (x.length+1)).map fun p=>N6 x p.1 p.2:=by unfold eW;rw[if_neg hc];rfl
  have hn':(jI x (x.length+1)).length<=aa:=by
   rw[e1,ah]at hn;exact hn
  refine iM F.slot_str_split (jA _ _ _) F.entry_str_split (F.args_str_split_1 _) (vG x t hx hn') ?_;rw[if_neg hc,HN];exact h (numbered s.toks _) _ ((C0 _ _).trans (by rw[e1];rfl))
theorem xG:∀(l:List (Str×Tok)),bK ((l.map (·.1)).map V.str) (Eu l)
|[]=>.nil
|(x,t)::r=>.cons ⟨t,rfl⟩ (xG r)
end
variable{x:V}{pins:List (Addr×Obj)}{O:L2.St}{H:Hp}{s:aj}{m:Mt}{v:Value}
section
variable{X:Cx}
noncomputable def EW:Mt->V->String
|_,.str _=>"str"
|.get,_=>"dict"
|_,_=>"list"
noncomputable def Jz:Mt->V->String
|.append,_=>"list.append"
|.insert,_=>"list.insert"
|.get,_=>"dict.get"
|.join,.str _=>"str.join"
|.startswith,_=>"str.startswith"
|.split,_=>"str.split"
|_,_=>""
structure Tg (T:String) (m:Mt) (id:String):Prop where
 pa:PlainAttrs T
 slot:Slot T m.name id
 ty:typeOf (.builtin id)=pure (.type "method_descriptor")
theorem FJ(m:Mt)(x:V)(H:Hp)(h:tH m x H):Tg (EW m x) m (Jz m x):=by
 cases m<;>cases x<;>first
  |exact au h
  |exact⟨F.plainAttrs_list,F.slot_list_append,F.type_list_append⟩
  |exact⟨F.plainAttrs_list,F.slot_list_insert,F.type_list_insert⟩
  |exact⟨F.plainAttrs_str,F.slot_str_startswith,F.type_str_startswith⟩
  |exact⟨F.plainAttrs_str,F.slot_str_split,F.type_str_split⟩
  |exact⟨F.plainAttrs_str,F.slot_str_count,F.type_str_count⟩
  |exact⟨F.plainAttrs_str,F.slot_str_index,F.type_str_index⟩
  |exact⟨F.plainAttrs_str,F.slot_str_join,F.type_str_join⟩
  |exact⟨F.plainAttrs_dict,F.slot_dict_get,F.type_dict_get⟩
  |exact⟨F.plainAttrs_list,F.slot_list_pop,F.type_list_pop⟩
  |exact⟨F.plainAttrs_list,F.slot_list_extend,F.type_list_extend⟩
  |exact⟨F.plainAttrs_list,F.slot_list_clear,F.type_list_clear⟩
theorem Ic(I:L2.Inv X pins O H s)(r:RelV x v)(h:tH m x H) :
  s.TypeIs v (EW m x)/\∀a,v=.ref a->∃ob,s.heap.get? a=some ob/\ob.dict=none:=by
 have hl:∀a,x=.ref a->kQ H a->uX X.K "list" x H:=by
  rintro a rfl h;unfold kQ at h;split at h
  ·exact .inl ⟨rfl,_,.inl (.inl (by assumption))⟩
  ·exact h.elim
 have hd:∀a,x=.ref a->vQ H a->uX X.K "dict" x H:=by
  rintro a rfl h;unfold vQ at h;split at h
  ·exact .inr (.inr (.inl ⟨rfl,.inl ⟨_,by assumption⟩⟩))
  ·exact .inr (.inr (.inl ⟨rfl,.inr ⟨_,by assumption⟩⟩))
  ·exact h.elim
 cases m<;>cases x<;>first|exact au h|exact Fj I r (hl _ rfl h)|exact Fj I r rfl|exact Fj I r (hd _ rfl h)
theorem Th(its:List Value)(u:Value)(j:Nat):(its.toArray.extract 0 (min j its.toArray.size)).push u++its.toArray.extract (min j its.toArray.size)=(its.take j++u::its.drop j).toArray:=by
 apply K1;rw[oB,Array.toList_push,wQ,wQ];simp only[aS];by_cases h:j<=its.length
 ·rw[kX h];simp[rA];rw[cy (by rw[dX];omega)]
 ·rw[AQ (by omega)];have e1:its.take j=its:=cy (by omega);have e2:its.drop j=[]:=mG (by omega);rw[e1,e2];simp[rA]
theorem LB:Yd X "list.insert" (fun x vs H Q=>∃l xs i y,x=.ref l/\vs=[.int i,y]/\H l=some (.lst xs)/\(0<=i/\i<2 ^ 40/\xs.length<aa)/\Q .non (upd H l (.lst (xs.take i.toNat++y::xs.drop i.toNat)))):=by
 intro pins s O H x vs v us Q I rx rv h;obtain⟨l,xs,i,y,rfl,rfl,hH,⟨h0,h1,hz⟩,q⟩:=h;cases rx;obtain⟨u,w,rfl,ru,rw'⟩:=vals2 rv;obtain⟨t,rfl⟩:=ru;obtain⟨z,its,n,r,hl,e⟩:=I.Vv hH;have hfit:¬(!qG i)=true:=by
  rw[CY (by omega) (by omega)];exact ak
 refine iM F.slot_list_insert ⟨_,e,rfl⟩ F.entry_list_insert (F.args_list_insert_3 _ _ _) (yM l its.toArray n i t w hfit (by rw[aS];omega)) ⟨e,?_⟩;refine⟨.non,_,I.Vu (its':=its.take i.toNat++w::its.drop i.toNat) hH e ?_ ((bK.take _ r).append (.cons rw' (bK.drop _ r))) ?_,rfl,q⟩
 ·have e2:(if i<0 then(i+((its.toArray.size:Nat):Int)).toNat else min i.toNat its.toArray.size)=min i.toNat its.toArray.size:=if_neg (by omega);show(its.toArray.extract 0 (if i<0 then(i+((its.toArray.size:Nat):Int)).toNat else min i.toNat its.toArray.size)).push w++its.toArray.extract (if i<0 then(i+((its.toArray.size:Nat):Int)).toNat else min i.toNat its.toArray.size)=_;rw[e2];exact Th its w i.toNat
 ·rw[aE,dH,aW,dX];omega
theorem FL:∀{ss:List Str}{its:List Value},bK (ss.map V.str) its->StrsAre its ss
|[],_,h=>by cases h;first|exact .nil|trivial|rfl
|x::ss,_,h=>by
 cases h with
 |cons a b=>
  obtain⟨t,rfl⟩:=a;exact .cons x t (FL b)
theorem Ie{vs:List V}{us:List Value}{Q:VK}(hu:X.A.units+60<dM)(I:L2.Inv X pins O H s)(rx:RelV x v)(rv:bK vs us)(h:vR X.K m x vs H Q) :
  aJ (aH X.prog X.w) X.A (call (.builtin (Jz m x)) (v::us)) (EP X pins O Q) X.xe s:=by
 cases m<;>cases x<;>first|exact au h|skip
 case append.ref l=>
  cases vs<;>first|exact au h|skip
  rename_i y r;cases r<;>first|exact au h|skip
  ·dsimp only[vR]at h;split at h
   ·exact Lp pins s O H _ _ v us Q I rx rv ⟨_,_,_,rfl,rfl,by assumption,h.1,h.2⟩
   ·exact h.elim
 case insert.ref l=>
  cases vs<;>first|exact au h|skip
  rename_i c r;cases c<;>first|exact au h|(cases r<;>first|exact au h|skip)
  rename_i c r;cases r<;>first|exact au h|skip
  ·dsimp only[vR]at h;split at h
   ·exact LB pins s O H _ _ v us Q I rx rv ⟨_,_,_,_,rfl,rfl,by assumption,h.1,h.2⟩
   ·exact h.elim
 case startswith.str z=>
  cases vs<;>first|exact au h|skip
  rename_i c r;cases c<;>first|exact au h|(cases r<;>first|exact au h|skip)
  rename_i y
  ·obtain⟨u,rfl,ru⟩:=vals1 rv;obtain⟨t,rfl⟩:=rx;obtain⟨t',rfl⟩:=ru;show aJ _ _ (call (.builtin "str.startswith") _) _ _ _;refine call_gives F.slot_str_startswith (jA s _ t) F.entry_str_startswith (F.args_str_startswith_2 _ _) (gives_str_startswith _ _ t t') ?_;replace h:Q (.bl (y.cps.toList.isPrefixOf z.cps.toList)) H:=h;rw[<-LA]at h;exact⟨.bl _,H,I,rfl,h⟩
 case split.str z=>
  cases vs with
  |nil=>
   obtain⟨⟨h1,h2⟩,h⟩:=h;cases rv;obtain⟨t,rfl⟩:=rx;show aJ _ _ (call (.builtin "str.split") _) _ _ _;refine Hq h1 h2 fun l tk el=>?_;rw[<-el]at h h2;exact⟨.ref s.heap.objs.size,_,I.Jr (xG l) (by rw[ah];exact h2),rfl,h _ (I.hok.fresh (aP _))⟩
  |cons c r=>
   cases c<;>first|exact au h|(cases r<;>first|exact au h|skip)
   rename_i y;obtain⟨h1,h2,h⟩:=h;obtain⟨u,rfl,ru⟩:=vals1 rv;obtain⟨t,rfl⟩:=rx;obtain⟨t',rfl⟩:=ru;show aJ _ _ (call (.builtin "str.split") _) _ _ _;refine Jy (by rw[h1];rfl) h2 fun l tk el=>?_;have e1:((cu (y.cps.getD 0 0) z.cps.toList).map fun l=>V.str (strOf l))=(l.map (·.1)).map V.str:=by
    rw[el];have e2:iV z y=iV z ⟨#[y.cps.getD 0 0]⟩:=by rw[<-Lz h1]
    rw[e2,OG,c9];rfl
   rw[e1]at h;have hz:((l.map (·.1)).map V.str).length<=aa:=by
    rw[ah,el];have e2:iV z y=iV z ⟨#[y.cps.getD 0 0]⟩:=by rw[<-Lz h1]
    rw[e2];have:=split_weight z ⟨#[y.cps.getD 0 0]⟩ (aP 1);omega
   exact⟨.ref s.heap.objs.size,_,I.Jr (xG l) hz,rfl,h _ (I.hok.fresh (aP _))⟩
 case join.str z=>
  cases vs<;>first|exact au h|skip
  rename_i c r;cases c<;>first|exact au h|(cases r<;>first|exact au h|skip)
  rename_i a
  ·obtain⟨t,xs,hx,ht,ss,rfl,hz,q⟩:=h;subst ht;obtain⟨u,rfl,ru⟩:=vals1 rv;obtain⟨tt,rfl⟩:=rx;cases ru;obtain⟨its,r,p,_⟩:=I.list hx.Ib;refine HP (PlainL.is p) (FL r) (by have:=fX;omega) fun t' k=>⟨.str _,H,I.tok _,⟨_,rfl⟩,?_⟩;have e:∀(a:Str) (b:List Str),PySem.Txt.join a b=fB a b:=fun a b=>PySem.StrLaws.glued_eq_join a b
   first|(rw[e];exact q)|exact(e _ _▸q)
 case get.ref l=>
  cases vs<;>first|exact au h|skip
  rename_i c r;cases r with
  |nil=>
   obtain⟨kvs,k',hk,rfl,q⟩:=h;obtain⟨u,rfl,ru⟩:=vals1 rv;cases rx;exact Vx (by omega) I (.inl ⟨kvs,k',hk,rfl,rfl⟩) ru fun w' s' I' r'=>⟨_,H,I',r',q⟩
  |cons d r=>
  cases r<;>first|exact au h|skip
  ·rcases h with⟨kvs,k',hk,rfl,q⟩|⟨kvs,k',b,hk,rfl,hb,q⟩
   ·obtain⟨u,w,rfl,ru,rw'⟩:=vals2 rv;cases rx;exact Ls (by omega) I (.inl ⟨kvs,k',hk,rfl,rfl⟩) ru rw' fun w' s' I' r'=>⟨_,H,I',r',q⟩
   ·obtain⟨u,w,rfl,ru,rw'⟩:=vals2 rv;cases rx;exact Ls (by omega) I (.inr ⟨kvs,k',b,hk,rfl,hb,rfl⟩) ru rw' fun w' s' I' r'=>⟨_,H,I',r',q⟩
noncomputable def Ty.val:Ty->Value
|.int=>.type "int"|.bool=>.type "bool"|.str=>.type "str"|.list=>.type "list"|.tuple=>.type "tuple"|.dict=>.type "dict"|.none=>.type "NoneType"
theorem Ty.boot:∀t:Ty,t≠.none->lH t.name=some t.val:=by
 intro t h;cases t<;>first|decide +kernel|exact absurd rfl h
theorem VM{ty:Ty}{Q:Bool->Prop}(I:L2.Inv X pins O H s)(rx:RelV x v)(h:xE X.K ty x H Q)(ht:ty≠.none) :
  aJ (aH X.prog X.w) X.A (call (.builtin "isinstance") [v,ty.val]) (EP X pins O fun u H'=>H'=H/\∃b,u=.bl b/\Q b) X.xe s:=by
 have key:∀(t:Value) (b:Bool),oH X.K H x t->PySem.W.kitOne X.K t ty.val=some b->Q b->aJ (aH X.prog X.w) X.A (call (.builtin "isinstance") [v,ty.val]) (EP X pins O fun u H'=>H'=H/\∃b,u=.bl b/\Q b) X.xe s:=
  fun t b h1 h2 h3=>Lm I rx h1 h2 fun tk=>⟨.bl b,H,I.tok _,rfl,rfl,b,rfl,h3⟩
 cases x with
 |non=>exact key _ false .non (by cases ty<;>first|rfl|exact absurd rfl ht) h
 |bl b=>
  cases ty with
  |bool=>exact key _ true (.bl b) rfl h
  |int=>exact key _ true (.bl b) rfl h
  |none=>exact absurd rfl ht
  |_=>exact key _ false (.bl b) rfl h
 |int i=>
  cases ty with
  |int=>exact key _ true (.int i) rfl h
  |none=>exact absurd rfl ht
  |_=>exact key _ false (.int i) rfl h
 |str z=>
  cases ty with
  |str=>exact key _ true (.str z) rfl h
  |none=>exact absurd rfl ht
  |_=>exact key _ false (.str z) rfl h
 |ref a=>
  rcases h with⟨xs,hx,h⟩|⟨xs,hx,h⟩|⟨kvs,hk,h⟩
  ·rcases hx with e|⟨o,e⟩
   ·cases ty with
    |list=>exact key _ true (.lst e) rfl h
    |none=>exact absurd rfl ht
    |_=>exact key _ false (.lst e) rfl h
   ·cases ty with
    |list=>exact key _ true (.bC e) rfl h
    |none=>exact absurd rfl ht
    |_=>exact key _ false (.bC e) rfl h
  ·obtain⟨its,_,⟨o,h1,h2,_⟩,_⟩:=I.tuple hx.p5;cases(show v=a6 a from rx);have key2:∀b:Bool,PySem.W.kitOne X.K (.type "tuple") ty.val=some b->Q b->aJ (aH X.prog X.w) X.A (call (.builtin "isinstance") [.ref a,ty.val]) (EP X pins O fun u H'=>H'=H/\∃b,u=.bl b/\Q b) X.xe s:=
    fun b e q=>PySem.W.kia_one PySem.W.kitx_tuple I.gn ⟨o,h1,h2⟩ e (fun z=>nomatch z) fun tk=>⟨.bl b,H,I.tok _,rfl,rfl,b,rfl,q⟩
   cases ty with
   |tuple=>exact key2 true rfl h
   |none=>exact absurd rfl ht
   |_=>exact key2 false rfl h
  ·rcases hk with hk|⟨ob,hk⟩
   ·cases ty with
    |dict=>exact key _ true (.dK hk) rfl h
    |none=>exact absurd rfl ht
    |_=>exact key _ false (.dK hk) rfl h
   ·cases(show v=a6 a from rx);obtain⟨_,_,_,vs,_,o,es,ep,h1,h2,_⟩:=(show dj X.prog X.w H s.heap a (.bC ob (.dK kvs))from I.hok a _ hk);have key2:∀b:Bool,PySem.W.kitOne X.K (.type "dict") ty.val=some b->Q b->aJ (aH X.prog X.w) X.A (call (.builtin "isinstance") [.ref a,ty.val]) (EP X pins O fun u H'=>H'=H/\∃b,u=.bl b/\Q b) X.xe s:=
     fun b e q=>PySem.W.kia_one PySem.W.kitx_dict I.gn ⟨o,h1,h2.1⟩ e (fun z=>nomatch z) fun tk=>⟨.bl b,H,I.tok _,rfl,rfl,b,rfl,q⟩
    cases ty with
    |dict=>exact key2 true rfl h
    |none=>exact absurd rfl ht
    |_=>exact key2 false rfl h
 |_=>exact au h
end
end L3
end
section
namespace L3
open PySem PySem.Spec PyProof.Rows L2
noncomputable def R8(z:Str):It:=⟨fun i _=>i<z.length,fun i H x H'=>H'=H/\∃c,z.cps[i]?=some c/\x=.str ⟨#[c]⟩,fun i _=>z.length<=i⟩
variable{P:bJ}{w:bS}{K:PySem.W.Frag}{tg:Expr}
theorem OH(it:Addr)(z:Str)(t:Tok)(T:String)(hT:T="str_ascii_iterator"\/T="str_iterator") :
  Turn P w K tg (R8 z) [it] it (fun i h=>h.IsStrIter it T z t i) where
 mem:=by simp
 obj:=fun i h st b hb=>by
  have e:b=it:=by simpa using hb
  subst e;obtain⟨o,e,c,d⟩:=st;exact⟨o,e,fun v z=>by rw[d]at z;cases z⟩
 keep:=fun i h h' st k=>let⟨o,ho,r⟩:=st;⟨o,k it (by simp) o ho,r⟩
 item:=by
  intro X hP hw hK hc i pins s O H E I hf st hg;subst hP hw hK;obtain⟨f0,f1,f2,f3,f4,f5⟩:=hf it (by simp);have hh:X.A.handled=none:=I.ok.hd hc;have W:Walks X.prog X.w X.A it [it] [it] z.cps.size (SignAt z) (fun i h=>h.IsStrIter it T z t i):=by
   rcases hT with rfl|rfl
   ·exact Walks.strAscii hh it z t
   ·exact Walks.strWide hh it z t
  refine W.item i s _ _ hg st fun v h' tk hv st' kk=>?_;obtain⟨c,u,hc,rfl⟩:=hv;have I1:L2.Inv X pins O H { s with heap:=h',toks:=tk }:=I.turned (fun b o hb e=>kk b o (by simpa using hb) e) f0 f1 f3 f4 f5;obtain⟨o,e,c',d⟩:=id st';refine⟨_,rfl,AY (s:={ s with heap:=h',toks:=tk }) (n:=T) e c' d (by rcases hT with rfl|rfl<;>decide) ⟨.str ⟨#[c]⟩,H,I1,⟨u,rfl⟩,⟨rfl,c,hc,rfl⟩,st',fun b hb=>(hf b hb).1⟩⟩
 done:=by
  intro X hP hw hK hc i pins s O H E I hf st hg;subst hP hw hK;obtain⟨f0,f1,f2,f3,f4,f5⟩:=hf it (by simp);have hg:z.cps.size<=i:=hg;have hn:z.cps[i]?=none:=Array.getElem?_eq_none_iff.mpr hg;rcases hT with rfl|rfl
  ·exact wpAny_pyNext_ascii_end (I.ok.hd hc) st hn fun h' eb=>⟨rfl,I.turned (t':=s.toks) (fun b o hb e=>eb b o hb e) f0 f1 f3 f4 f5⟩
  ·exact wpAny_pyNext_wide_end (I.ok.hd hc) st hn fun h' eb=>⟨rfl,I.turned (t':=s.toks) (fun b o hb e=>eb b o hb e) f0 f1 f3 f4 f5⟩
 self:=fun _ _ _ _ _ st h=>by
  rcases hT with rfl|rfl
  ·exact wpAny_pyIter_striter_ascii st h
  ·exact wpAny_pyIter_striter_wide st h
variable{X:Cx}{pins:List (Addr×Obj)}{O:L2.St}{H:Hp}{s:aj}
theorem Inv.Ig{H':Hp}{h':Heap}{t':Nat}{ch:List Addr}(I:L2.Inv X pins O H s)(hf:∀b∈ch,mh X pins H b)(k:∀b o,b∉ch->s.heap.get? b=some o->h'.get? b=some o)
  (free:∀b o,b∉ch->s.heap.get? b=some o->H b=none->H' b=none) (grow:∀b o,H b=some o->H' b=some o) (hok:fU X.prog X.w H' h'):L2.Inv X pins O H' { s with heap:=h',toks:=t' }:=by
 refine I.step (g':=s.gens) (d':=s.drawn) (ch:=ch) (fun b hb=>?_) (fun b o _ _ hc e _=>k b o hc e) (fun b o _ _ hc e _=>⟨o.slots,k b o hc e⟩) free
  (fun b o hc e=>⟨o,k b o hc e⟩) (fun _ _ e=>grow _ _ e) (fun _ _ _ e=>grow _ _ e) (fun b ps e=>⟨#[],by rw[grow _ _ e];simp⟩) (fun m hm=>?_) hok I.bare
 ·obtain⟨f0,f1,f2,f3,f4,f5⟩:=hf b hb;exact⟨f3,f1,f4,f5⟩
 ·obtain⟨o,es,ep,ho,r⟩:=hm;exact⟨o,es,ep,k _ o (fun z=>(hf _ z).2.1 rfl) ho,r⟩
theorem A9{X:Cx}{pins:List (Addr×Obj)}{H:Hp}{h h':Heap}{ch:List Addr}(x:fU X.prog X.w H h)(hf:∀b∈ch,H b=none)(k:∀b o,b∉ch->h.get? b=some o->h'.get? b=some o):fU X.prog X.w H h':=fun b u e=>by
 refine(x b u e).stay (fun c v hc q=>k c v (fun z=>?_) q) (fun _ q=>q) fun _ _ q=>q;rcases hc with rfl|hc
 ·rw[hf c z]at e;cases e
 ·rw[hf c z]at hc;cases hc
noncomputable def VN(a:Addr):It:=
 ⟨fun i H=>∃xs x,Rd H a (.lst xs)/\xs[i]?=some x,fun i H x H'=>∃p v,H p=none/\x=.ref p/\H'=upd H p (.tup [.int (i:Int),v])/\∀xs,Rd H a (.lst xs)->xs[i]?=some v,fun i H=>∃xs,Rd H a (.lst xs)/\xs.length<=i⟩
variable{elts:List Expr}{pos:Pos}
theorem LC{x1}(a e it:Addr)(hne:e≠it):Turn P w K (.Tuple elts x1 pos) (VN a) [e,it] e (fun i h=>(∃old,IsEnum h e it (i:Int) old)/\h.IsListIter it a i) where
 mem:=by simp
 obj:=fun i h st b hb=>by
  obtain⟨⟨old,st1⟩,st2⟩:=st;have hb:b=e\/b=it:=by simpa using hb
  rcases hb with rfl|rfl
  ·exact⟨_,st1,fun v z=>by cases z⟩
  ·obtain⟨o,e,c,d⟩:=st2;exact⟨o,e,fun v z=>by rw[d]at z;cases z⟩
 keep:=fun i h h' st k=>by
  obtain⟨⟨old,st1⟩,st2⟩:=st;exact⟨⟨old,k e (by simp) _ st1⟩,st2.at fun o q=>k it (by simp) o q⟩
 item:=by
  intro X hP hw hK hc i pins s O H E I hf st hg;subst hP hw hK;obtain⟨⟨old,st1⟩,st2⟩:=st;obtain⟨xs,x,hq,hx⟩:=hg;obtain⟨its,rv,p,hz⟩:=I.list (.inl hq:jt X.K H a xs);obtain⟨u,hu,ru⟩:=rv.get hx;refine wpAny_pyNext_enum_item st1 st2 p.isList (x:=u) (by simpa using hu) hne fun h1 heo hit1 ht1 hz1 hk1=>?_;refine⟨_,rfl,wpAny_letOwnedTupleGo_enum (s:={ s with heap:=h1,toks:=s.toks+1 }) heo fun h2 he2 hs2=>?_⟩;have hs2:nY e h1 h2:=hs2;have lee:e<s.heap.objs.size:=be st1;have ne_e:s.heap.objs.size≠e:=yx lee;have ht2:h2.get? s.heap.objs.size=some { cls:=.type "tuple",data:=.seq #[.int i s.toks,u] }:=(hs2.2 _ ne_e).trans ht1;have hk2:∀b o,b∉[e,it]->s.heap.get? b=some o->h2.get? b=some o:=fun b o hb q=>by
   have hb:b≠e/\b≠it:=by simpa using hb
   exact(hs2.2 b hb.1).trans (hk1 b o hb.1 hb.2 q)
  have hn:H s.heap.objs.size=none:=I.hok.fresh (aP _);have hfr:∀b∈[e,it],H b=none:=fun b hb=>(hf b hb).1;have hok2:fU X.prog X.w (upd H s.heap.objs.size (.tup [.int (i:Int),x])) h2:=by
   have h0:fU X.prog X.w H h2:=A9 (X:=X) (pins:=pins) I.hok hfr hk2;intro b o q;by_cases hb:b=s.heap.objs.size
   ·subst hb;rw[bD]at q;cases q;refine⟨by show(2:Nat)<=_;have:=fX;omega,[.int (i:Int) s.toks,u],.cons ⟨_,rfl⟩ (.cons ru .nil),⟨_,ht2,rfl,_,rfl⟩⟩
   ·rw[aO hb]at q;exact(h0 b o q).stay (fun _ _ _ r=>r) (fun c r=>by rw[aO (cQ r hn)];exact r) fun c ys r=>by rw[aO (cQ r hn)];exact r
  have I2:L2.Inv X pins O (upd H s.heap.objs.size (.tup [.int (i:Int),x])) { s with heap:=h2,toks:=s.toks+1 }:=
   Inv.Ig (ch:=[e,it]) I hf hk2 (fun b o hb q n=>by rw[aO (b8 (be q))];exact n) (fun b o q=>by rw[aO (cQ q hn)];exact q) hok2
  refine⟨.ref s.heap.objs.size,_,I2,rfl,⟨_,x,hn,rfl,rfl,fun ys hy=>by rw[I.z7 (.inl hy) (.inl hq:jt X.K H a xs)];exact hx⟩,⟨⟨u,?_⟩,?_⟩,fun b hb=>?_⟩
  ·have:((i:Int)+1)=((i+1:Nat):Int):=by omega
   rw[<-this];exact he2
  ·exact hit1.at fun o q=>(hs2.2 it (cT hne)).trans q
  ·have hlt:b<s.heap.objs.size:=by
    have hb:b=e\/b=it:=by simpa using hb
    rcases hb with rfl|rfl
    ·exact lee
    ·obtain⟨o,q,_⟩:=st2;exact be q
   rw[aO (b8 hlt)];exact hfr b hb
 done:=by
  intro X hP hw hK hc i pins s O H E I hf st hg;subst hP hw hK;obtain⟨⟨old,st1⟩,st2⟩:=st;obtain⟨xs,hq,hx⟩:=hg;obtain⟨its,rv,p,hz⟩:=I.list (.inl hq:jt X.K H a xs);have hl:=rv.length;have hfr:∀b∈[e,it],H b=none:=fun b hb=>(hf b hb).1;refine wpAny_pyNext_enum_end (I.ok.hd hc) st1 st2 p.isList (by simp;omega) fun h' eb=>⟨rfl,?_⟩;have hk:∀b o,b∉[e,it]->s.heap.get? b=some o->h'.get? b=some o:=fun b o hb q=>eb b o (fun z=>hb (by simp[z])) q;exact Inv.Ig (t':=s.toks) (ch:=[e,it]) I hf hk (fun _ _ _ _ n=>n) (fun _ _ q=>q) (A9 (X:=X) (pins:=pins) I.hok hfr hk)
 self:=fun _ _ _ _ _ st h=>by
  obtain⟨⟨old,st1⟩,_⟩:=st;exact zp st1 h
structure oM (J:It) (ok:Hp->Prop) (items:List Item):Prop where
 go:∀i H it,ok H->items[i]?=some it->J.go i H
 yld:∀i H it x H',ok H->items[i]?=some it->J.yld i H x H'->∀k,mkItem it H k->k x H'
 stop:∀i H,ok H->items.length<=i->J.stop i H
variable{a:Addr}{xs:List V}
theorem LD:oM (X8 K a) (fun H=>jt K H a xs) (xs.map .v) where
 go:=fun i H it ok hi=>by
  rw[aX]at hi;cases e:xs[i]? with
  |none=>rw[e]at hi;cases hi
  |some x=>exact⟨xs,x,ok,e⟩
 yld:=fun i H it x H' ok hi hy k hk=>by
  obtain⟨rfl,hy⟩:=hy;rw[aX,hy xs ok]at hi;cases hi;exact hk
 stop:=fun i H ok hi=>⟨xs,ok,by rw[ah]at hi;exact hi⟩
theorem xH:∀(xs:List V) (n i:Nat),(mJ n xs)[i]?=(xs[i]?).map fun x=>Item.tup [.int ((n+i:Nat):Int),x]
|[],n,i=>by simp[mJ]
|x::r,n,0=>by simp[mJ]
|x::r,n,i+1=>by
 simp only[mJ,l_,xH r (n+1) i];have:n+1+i=n+(i+1):=by omega
 rw[this]
theorem Dn:∀(xs:List V) (n:Nat),(mJ n xs).length=xs.length
|[],_=>rfl
|x::r,n=>by simp[mJ,Dn r (n+1)]
theorem LF:oM (VN a) (fun H=>Rd H a (.lst xs)) (mJ 0 xs) where
 go:=fun i H it ok hi=>by
  rw[xH]at hi;cases e:xs[i]? with
  |none=>rw[e]at hi;cases hi
  |some x=>exact⟨xs,x,ok,e⟩
 yld:=fun i H it x H' ok hi hy k hk=>by
  obtain⟨p,v,hp,rfl,rfl,hy⟩:=hy;rw[xH,hy xs ok,Nat.zero_add]at hi;cases hi;exact hk p hp
 stop:=fun i H ok hi=>⟨xs,ok,by rw[Dn]at hi;exact hi⟩
theorem OI:oM (X_ K a) (fun H=>pV K H a xs) (xs.map .v) where
 go:=fun i H it ok hi=>by
  rw[aX]at hi;cases e:xs[i]? with
  |none=>rw[e]at hi;cases hi
  |some x=>exact⟨xs,x,ok,e⟩
 yld:=fun i H it x H' ok hi hy k hk=>by
  obtain⟨rfl,hy⟩:=hy;rw[aX,hy xs ok]at hi;cases hi;exact hk
 stop:=fun i H ok hi=>⟨xs,ok,by rw[ah]at hi;exact hi⟩
theorem OJ{z:Str}:oM (R8 z) (fun _=>True) ((chars z).map .v) where
 go:=fun i H it ok hi=>by
  have:=(bN.mp hi).1;have:i<z.length:=by simpa[chars,fZ]using this
  exact this
 yld:=fun i H it x H' ok hi hy k hk=>by
  obtain⟨rfl,c,hc,rfl⟩:=hy;unfold chars at hi;rw[c9,aX,nB,hc]at hi;cases hi;exact hk
 stop:=fun i H ok hi=>by
  have:z.length<=i:=by simpa[chars,fZ]using hi
  exact this
variable{lo:Int}{n:Nat}
theorem JA:oM (RU lo n) (fun _=>True) ((cW n).map fun(i:Nat)=>Item.v (.int (lo+(i:Int)))) where
 go:=fun i H it ok hi=>by
  have:=(bN.mp hi).1;have:i<n:=by simpa using this
  exact this
 yld:=fun i H it x H' ok hi hy k hk=>by
  obtain⟨rfl,rfl⟩:=hy;have hl:=(bN.mp hi).1;have hl:i<n:=by simpa using hl
  rw[aX,xr hl]at hi;cases hi;exact hk
 stop:=fun i H ok hi=>by
  have:n<=i:=by simpa using hi
  exact this
variable{J:It}{ok:Hp->Prop}{items:List Item}
theorem oM.mono{ok':Hp->Prop}(h:oM J ok items)(m:∀H,ok' H->ok H):oM J ok' items:=
 ⟨fun i H it o=>h.go i H it (m H o),fun i H it x H' o=>h.yld i H it x H' (m H o),fun i H o=>h.stop i H (m H o)⟩
theorem OL{g:TG}{body:TS}{D:Ends}(hJ:oM J ok items)(h:forL ok g body D items O H) :
  ∃W:Nat->Nat->L2.St->Hp->Prop,(∃m,W 0 m O H)/\∀i m O H,W i m O H->
   (J.stop i H/\D.nx O H)\/(J.go i H/\∃N:L2.St->Hp->Prop,(∀ZC H',N ZC H'->∃m',m'<m/\W (i+1) m' ZC H')/\∀x H',J.yld i H x H'->g x O H' fun ZE H2=>body { D with nx:=N,ct:=N,bk:=D.nx } ZE H2):=by
 refine⟨fun i m O H=>m=items.length-i/\i<=items.length/\forL ok g body D (items.drop i) O H,⟨items.length,by simp,gu _,by simpa using h⟩,?_⟩;rintro i m O H ⟨rfl,hi,p⟩;by_cases hlt:i<items.length
 ·rw[rB hlt]at p;obtain⟨hok,p⟩:=p;have e:items[i]?=some items[i]:=aA hlt;refine .inr ⟨hJ.go i H _ hok e,forL ok g body D (items.drop (i+1)),fun ZC H' p'=>⟨items.length-(i+1),by omega,rfl,hlt,p'⟩,fun x H' y=>?_⟩;exact hJ.yld i H _ x H' hok e y _ p
 ·rw[mG (by omega)]at p;obtain⟨hok,p⟩:=p;exact .inl ⟨hJ.stop i H hok (by omega),p⟩
variable{iter:Expr}
variable{e:Expr}{te:TE}
variable{E:Value->aj->Prop}
variable{p:Pos}
variable{es:List Expr}
section
variable{X:Cx}{tg:Expr}
def JB(X:Cx)(pins:List (Addr×Obj))(O:L2.St)(tg:Expr)(k:(Hp->Prop)->List Item->Hp->Prop)(itv:Value)(s2:aj):Prop:=
 ∃(it:Addr) (fp:List Addr) (tn:Nat->Heap->Prop) (J:It) (H':Hp),itv=.ref it/\L2.Inv X pins O H' s2/\Turn X.prog X.w X.K tg J fp it tn/\tn 0 s2.heap/\(∀b∈fp,mh X pins H' b)/\∃ok items,oM J ok items/\k ok items H'
def Dp(X:Cx)(tg iter:Expr)(wi:R5):Prop:=
 ∀(pins:List (Addr×Obj)) (s:aj) (O:L2.St) (H:Hp) (k:(Hp->Prop)->List Item->Hp->Prop),L2.Inv X pins O H s->wi O H k->
  aJ (aH X.prog X.w) X.A (eval iter X.env) (fun v s1=>aJ (aH X.prog X.w) X.A (vt v) (JB X pins O tg k) X.xe s1) X.xe s
theorem R9{body:List Stmt}{wi:R5}{g:TG}{tb:TS}(hp:yz (aH X.prog X.w) X.A X.env X.xe)(hc:X.calm=true)(hi:Dp X tg iter wi)(hg:PG X tg g)(hb:m9 X body tb)
  (hs:∀x,jL iter X.env x=pure x):PS X (.For tg iter body [] pos) (fun D O H=>wi O H fun ok items H1=>forL ok g tb D items O H1):=by
 intro pins s O H D I h;have hI:PI X tg iter (fun Z7 H0 R=>wi Z7 H0 (fun ok items H1=>forL ok g tb D items O H1)/\∀ok items H1 J,forL ok g tb D items O H1->oM J ok items->R J H1):=by
  intro pins' s' ZC H' R I' h';refine aY (hi pins' s' ZC H' _ I' h'.1) fun v s1 h1=>aY h1 fun itv s2 h2=>?_;obtain⟨it,fp,tn,J,H2,e,I2,T,st,hf,ok,items,hJ,hk⟩:=h2;exact⟨it,fp,tn,J,H2,e,I2,T,st,hf,h'.2 ok items H2 J hk hJ⟩
 exact Va hp hc hI hg hb hs pins s O H D I ⟨h,fun ok items H1 J hk hJ=>OL hJ hk⟩
theorem Ti(he:PE X e te):Dp X tg e (fun O H k=>te O H fun x H1=>Ce X.K x H1 k):=by
 intro pins s O H k I h;refine aY (he pins s O H _ I h) fun v s1 ⟨x,H1,I1,r1,q1⟩=>?_;cases x with
 |str z=>
  obtain⟨t,rfl⟩:=r1;obtain⟨hz,q⟩:=q1;have fin:∀T,T="str_ascii_iterator"\/T="str_iterator"->JB X pins O tg k (.ref s1.heap.objs.size) { s1 with heap:=s1.heap.push { cls:=.type T,data:=.fields #[.str z t,.int 0 0] } }:=fun T hT=>by
   refine⟨s1.heap.objs.size,[s1.heap.objs.size],_,_,H1,rfl,I1.kept (t':=s1.toks) fun b o e=>aM _ e,OH s1.heap.objs.size z t T hT,⟨_,bU _ rfl,rfl,rfl⟩,fun b hb=>?_,_,_,OJ,q⟩;have e:b=s1.heap.objs.size:=by simpa using hb
   subst e;exact I1.qq (aP _) (I1.hok.fresh (aP _))
  cases ha:z.cps.all (·<128)
  ·exact wpAny_pyIter_wide ha (fin _ (.inr rfl))
  ·exact wpAny_pyIter_ascii ha (fin _ (.inl rfl))
 |ref a=>
  obtain⟨t,xs,hx,q⟩:=q1;cases r1;rcases hx.sq with⟨rfl,z⟩|⟨rfl,z⟩
  ·obtain⟨its,rv,p,hz⟩:=I1.list z;refine zo p.isList ?_;refine⟨s1.heap.objs.size,[s1.heap.objs.size],_,_,H1,rfl,I1.kept (t':=s1.toks) fun b o e=>aM _ e,Le a _,⟨_,bU _ rfl,rfl,rfl⟩,fun b hb=>?_,fun H'=>gi X.K H' a false xs,_,LD.mono fun H' o=>?_,q⟩
   ·have e:b=s1.heap.objs.size:=by simpa using hb
    subst e;exact I1.qq (aP _) (I1.hok.fresh (aP _))
   ·rcases o.sq with⟨_,z⟩|⟨hf,_⟩
    ·exact z
    ·cases hf
  ·obtain⟨its,rv,p,hz⟩:=I1.tuple z;refine wpAny_pyIter_tuple (show s1.heap.IsTuple a its.toArray from p) ?_;refine⟨s1.heap.objs.size,[s1.heap.objs.size],_,_,H1,rfl,I1.kept (t':=s1.toks) fun b o e=>aM _ e,Jg a _,⟨_,bU _ rfl,rfl,rfl⟩,fun b hb=>?_,fun H'=>gi X.K H' a true xs,_,OI.mono fun H' o=>?_,q⟩
   ·have e:b=s1.heap.objs.size:=by simpa using hb
    subst e;exact I1.qq (aP _) (I1.hok.fresh (aP _))
   ·rcases o.sq with⟨hf,_⟩|⟨_,z⟩
    ·cases hf
    ·exact z
 |_=>exact au q1
theorem range_it'{k:(Hp->Prop)->List Item->Hp->Prop}{hi:Int}{t u v:Tok}{tk:Nat}(I:L2.Inv X pins O H s)(h1:-(2 ^ 62)<=lo)(h2:lo<2 ^ 62)(h3:-(2 ^ 62)<=hi)(h4:hi<2 ^ 62)
  (q:k (fun _=>True) ((cW (hi-lo).toNat).map fun(i:Nat)=>Item.v (.int (lo+(i:Int)))) H) :
  aJ (aH X.prog X.w) X.A (vt (.ref s.heap.objs.size)) (JB X pins O tg k) E { s with heap:=s.heap.push { cls:=.type "range",data:=.fields #[.int lo t,.int hi u,.int 1 v] },toks:=tk }:=by
 refine aY (Om (tg:=tg) (R:=fun J H'=>J=RU lo (hi-lo).toNat/\H'=H) I h1 h2 h3 h4 ⟨rfl,rfl⟩) fun itv s2 h=>?_;obtain⟨it,fp,tn,J,H',e,I2,T,st,hf,rfl,rfl⟩:=h;exact⟨it,fp,tn,_,H',e,I2,T,st,hf,_,_,JA,q⟩
theorem OM{x1:Nat}{tp:Pos}(hg:Gl X "enumerate")(hm:X.mg "enumerate"=none)(he:PE X e te)(hs:cY [e] X.env=[(false,eval e X.env)]) :
  Dp X (.Tuple elts x1 tp) (.Call (.Name "enumerate" p) [e] [] pos) (fun O H k=>te O H fun x H1=>match x with
   |.ref b=>∃xs,Rd H1 b (.lst xs)/\k (fun H'=>Rd H' b (.lst xs)) (mJ 0 xs) H1
   |_=>False):=by
 intro pins s O H k I h;have ha:=B_ he Fb hs;refine Call_ (pU I hg hm boot_enumerate (j9 (aY (ha pos pins s O H (fun vs H1=>match vs with
   |[x]=>(match x with
    |.ref b=>∃xs,Rd H1 b (.lst xs)/\k (fun H'=>Rd H' b (.lst xs)) (mJ 0 xs) H1
    |_=>False)
   |_=>False) I h) fun us s1 ⟨vs,H1,I1,r1,q⟩=>?_) hs rfl))
 match vs,r1,q with
 |[],r1,q=>exact q.elim
 |_::_::_,r1,q=>exact q.elim
 |[x],r1,q=>
  obtain⟨u,rfl,ru⟩:=vals1 r1;cases x with
  |ref b=>
   cases ru;obtain⟨xs,hx,q⟩:=q;obtain⟨its,rv,pl,hz⟩:=I1.list (.inl hx:jt X.K H1 b xs);refine call_enumerate_list pl.isList fun h' he' hi' hz' hk'=>?_;refine zp (s:={ s1 with heap:=h' }) he' ?_;refine⟨s1.heap.objs.size+1,[s1.heap.objs.size+1,s1.heap.objs.size],_,_,H1,rfl,I1.kept (t':=s1.toks) hk',LC b _ _ (Nat.succ_ne_self _),⟨⟨_,he'⟩,hi'⟩,fun c hc=>?_,_,_,LF,q⟩;have hc:c=s1.heap.objs.size+1\/c=s1.heap.objs.size:=by simpa using hc
   rcases hc with rfl|rfl
   ·exact I1.qq (uU _) (I1.hok.fresh (uU _))
   ·exact I1.qq (aP _) (I1.hok.fresh (aP _))
  |_=>exact au q
theorem LG{ta:TA}(hg:Gl X "range")(hm:X.mg "range"=none)(ha:PA X (e::es) ta)(he:cY (e::es) X.env=(false,eval e X.env)::cY es X.env)(hpl:(mF pos (cY es X.env)).any (·.1)=false) :
  Dp X tg (.Call (.Name "range" p) (e::es) [] pos) (fun O H k=>ta O H fun vs H1=>xF vs H1 k):=by
 intro pins s O H k I h;refine Call_ (pU I hg hm boot_range (j9 (aY (ha pos pins s O H _ I h) fun us s1 ⟨vs,H1,I1,r1,q⟩=>?_) he hpl));have q:xF vs H1 k:=q;unfold xF at q;split at q
 ·obtain⟨⟨q1,q2⟩,q⟩:=q;obtain⟨u,rfl,ru⟩:=vals1 r1;obtain⟨t,rfl⟩:=ru;refine call_range_1 (range_it' I1 (by omega) (by omega) q1 q2 ?_);simpa using q
 ·obtain⟨⟨q1,q2,q3,q4⟩,q⟩:=q;obtain⟨u,u',rfl,ru,ru'⟩:=vals2 r1;obtain⟨t,rfl⟩:=ru;obtain⟨t',rfl⟩:=ru';exact call_range_2 (range_it' I1 q1 q2 q3 q4 q)
 ·exact q.elim
end
section
variable{P:bJ}{w:bS}{H:Hp}{h h':Heap}{a:Addr}{o:HO}
theorem LH(x:fU P w H h)(hn:H a=none)(new:dj P w (upd H a o) h a o):fU P w (upd H a o) h:=fun b u e=>by
 by_cases hb:b=a
 ·subst hb;rw[bD]at e;cases e;exact new
 ·rw[aO hb]at e;exact(x b u e).stay (fun c v _ q=>q) (fun c q=>by rw[aO (cQ q hn)];exact q) fun c xs q=>by rw[aO (cQ q hn)];exact q
end
noncomputable def oN(cells:List (Str×Addr)):List (Str×jf)->List (Str×Addr)->List (Str×Addr)
|[],acc=>acc
|(n,k)::r,acc=>if(k==.free)=true then(match cells.lookup n with|some c=>oN cells r ((n,c)::acc)|none=>oN cells r acc)else oN cells r acc
variable{env:Env}
theorem vV:∀(names:List (Str×jf)) (acc:List (Str×Addr)),(∀n,(n,cC)∈names->∃c,env.cells.lookup n=some c)->
 (forIn names acc fun(x:Str×jf) (r:List (Str×Addr))=>(match x with
  |(name,kind)=>if(kind==.free)=true then(do let a <-N7 env name;pure (jB ((name,a)::r)))else pure (jB r):Sem (ForInStep (List (Str×Addr)))))=pure (oN env.cells names acc)
|[],acc,_=>rfl
|(n,k)::r,acc,hn=>by
 rw[List.forIn_cons];have hr:∀m,(m,cC)∈r->∃c,env.cells.lookup m=some c:=fun m hm=>hn m (ai _ hm);unfold oN;by_cases hk:(k==cC)=true
 ·have e:k=.free:=by simpa using hk
  subst e;obtain⟨c,hc⟩:=hn n ao;have hco:N7 env n=pure c:=by unfold N7;rw[hc]
  simp only[hc,hco,beq_self_eq_true,if_true];exact vV r _ hr
 ·simp only[hk,if_false];exact vV r _ hr
variable{scope:fP}
theorem wX(h:∀n,(n,cC)∈scope.names->∃c,env.cells.lookup n=some c):K4 scope env=pure (oN env.cells scope.names []):=by
 have e:=vV (env:=env) scope.names [] h;unfold K4;exact G8 (congrArg (fun t=>t >>= fun cs=>pure cs) e) rfl
variable{cells:List (Str×Addr)}
theorem vW:∀(names:List (Str×jf)) (acc:List (Str×Addr)),(∀x c,acc.lookup x=some c->cells.lookup x=some c)->∀x c,(oN cells names acc).lookup x=some c->cells.lookup x=some c
|[],acc,h=>h
|(n,k)::r,acc,h=>by
 unfold oN;by_cases hk:(k==cC)=true
 ·simp only[hk,if_true];cases hc:cells.lookup n with
  |none=>exact vW r acc h
  |some c=>
   refine vW r _ fun x d hx=>?_;rw[cF]at hx;cases e:x==n with
   |true=>
    rw[e]at hx;have:x=n:=by simpa using e
    subst this;cases hx;exact hc
   |false=>rw[e]at hx;exact h x d hx
 ·simp only[hk,if_false];exact vW r acc h
theorem rS:∀(names:List (Str×jf)) (acc:List (Str×Addr)) (x:Str),((∃c,acc.lookup x=some c)\/((x,cC)∈names/\∃c,cells.lookup x=some c))->∃c,(oN cells names acc).lookup x=some c
|[],acc,x,h=>by
 rcases h with h|⟨h,_⟩
 ·exact h
 ·cases h
|(n,k)::r,acc,x,h=>by
 unfold oN;by_cases hk:(k==cC)=true
 ·simp only[hk,if_true];have ek:k=.free:=by simpa using hk
  subst ek;cases hc:cells.lookup n with
  |none=>
   refine rS r acc x ?_;rcases h with h|⟨h,h2⟩
   ·exact .inl h
   ·rcases aC.mp h with e|h
    ·cases e;obtain⟨c,hc2⟩:=h2;rw[hc]at hc2;cases hc2
    ·exact .inr ⟨h,h2⟩
  |some c=>
   refine rS r _ x ?_;by_cases e:x=n
   ·subst e;exact .inl ⟨c,by rw[cF];simp⟩
   ·rcases h with⟨d,h⟩|⟨h,h2⟩
    ·exact .inl ⟨d,by rw[cF,beq_eq_false_iff_ne.mpr e];exact h⟩
    ·rcases aC.mp h with q|h
     ·cases q;exact absurd rfl e
     ·exact .inr ⟨h,h2⟩
 ·simp only[hk,if_false];refine rS r acc x ?_;rcases h with h|⟨h,h2⟩
  ·exact .inl h
  ·rcases aC.mp h with e|h
   ·cases e;exact absurd rfl hk
   ·exact .inr ⟨h,h2⟩
variable{x:Str}
theorem nI{α:Type}{m:Str}{n c:α}{acc:List (Str×α)}(h:((m,n)::acc).lookup x=some c):(x=m/\c=n)\/((x=m->False)/\acc.lookup x=some c):=by
 rw[cF]at h;cases e:x==m with
 |true=>
  rw[e]at h;exact .inl ⟨by simpa using e,(cV h).symm⟩
 |false=>
  rw[e]at h;exact .inr ⟨fun z=>by rw[z]at e;simp at e,h⟩
theorem vX:∀(names:List (Str×jf)) (n:Nat) (acc:List (Str×Addr)) (x:Str) (c:Addr),(dZ n names acc).lookup x=some c->(n<=c/\(x,cK)∈names)\/((x,cK)∉names/\acc.lookup x=some c)
|[],_,_,_,_,h=>.inr ⟨(fun z=>nomatch z),h⟩
|(m,k)::r,n,acc,x,c,h=>by
 unfold dZ at h;by_cases hk:(k==cK)=true
 ·rw[if_pos hk]at h;have ek:k=.cell:=by simpa using hk
  subst ek;rcases vX r (n+1) _ x c h with⟨h1,h2⟩|⟨h1,h2⟩
  ·exact .inl ⟨by omega,ai _ h2⟩
  ·rcases nI h2 with⟨e1,e2⟩|⟨e1,e2⟩
   ·subst e1;subst e2;exact .inl ⟨aP _,ao⟩
   ·refine .inr ⟨fun z=>?_,e2⟩;rcases aC.mp z with q|q
    ·cases q;exact e1 rfl
    ·exact h1 q
 ·rw[if_neg hk]at h;rcases vX r n acc x c h with⟨h1,h2⟩|⟨h1,h2⟩
  ·exact .inl ⟨h1,ai _ h2⟩
  ·refine .inr ⟨fun z=>?_,h2⟩;rcases aC.mp z with q|q
   ·cases q;exact hk rfl
   ·exact h1 q
theorem Ad:∀(names:List (Str×jf)) (n:Nat) (acc:List (Str×Addr)) (x:Str),(x,cK)∉names->(dZ n names acc).lookup x=acc.lookup x
|[],_,_,_,_=>rfl
|(m,k)::r,n,acc,x,h=>by
 unfold dZ;by_cases hk:(k==cK)=true
 ·rw[if_pos hk,Ad r _ _ x fun z=>h (ai _ z),cF];have ek:k=.cell:=by simpa using hk
  have ne:(x==m)=false:=beq_eq_false_iff_ne.mpr fun z=>h (by rw[z,ek];exact ao);rw[ne]
 ·rw[if_neg hk];exact Ad r _ _ x fun z=>h (ai _ z)
theorem Ck:∀(names:List (Str×jf)) (n:Nat) (acc:List (Str×Addr)) (x:Str),(x,cK)∈names\/(∃c,acc.lookup x=some c)->∃c,(dZ n names acc).lookup x=some c
|[],_,_,_,h=>by
 rcases h with h|h
 ·cases h
 ·exact h
|(m,k)::r,n,acc,x,h=>by
 unfold dZ;by_cases hk:(k==cK)=true
 ·rw[if_pos hk];refine Ck r _ _ x ?_;by_cases e:x=m
  ·subst e;exact .inr ⟨n,by rw[cF];simp⟩
  ·rcases h with h|⟨c,h⟩
   ·rcases aC.mp h with q|q
    ·cases q;exact absurd rfl e
    ·exact .inl q
   ·exact .inr ⟨c,by rw[cF,beq_eq_false_iff_ne.mpr e];exact h⟩
 ·rw[if_neg hk];refine Ck r _ _ x ?_;rcases h with h|h
  ·rcases aC.mp h with q|q
   ·cases q;exact absurd rfl hk
   ·exact .inl q
  ·exact .inr h
theorem Cm:∀(names:List (Str×jf)) (n:Nat) (acc:List (Str×Addr)),(∀x c,acc.lookup x=some c->c<n)->(∀x y c,acc.lookup x=some c->acc.lookup y=some c->x=y)->∀x y c,(dZ n names acc).lookup x=some c->(dZ n names acc).lookup y=some c->x=y
|[],_,_,_,h=>h
|(m,k)::r,n,acc,hb,h=>by
 unfold dZ;by_cases hk:(k==cK)=true
 ·rw[if_pos hk];refine Cm r _ _ (fun x c hx=>?_) fun x y c hx hy=>?_
  ·rcases nI hx with⟨_,e⟩|⟨_,e⟩
   ·rw[e];exact mZ _
   ·exact qO (hb x c e)
  ·rcases nI hx with⟨e1,e2⟩|⟨_,e2⟩<;>rcases nI hy with⟨e3,e4⟩|⟨_,e4⟩
   ·rw[e1,e3]
   ·exact absurd (hb y c e4) (by rw[e2];exact d8 _)
   ·exact absurd (hb x c e2) (by rw[e4];exact d8 _)
   ·exact h x y c e2 e4
 ·rw[if_neg hk];exact Cm r n acc hb h
theorem Ae:∀(names:List (Str×jf)) (h:Heap) (acc:List (Str×Addr)) (x:Str) (c:Addr),(dZ h.objs.size names acc).lookup x=some c->(pushCells h names).IsCell c none\/acc.lookup x=some c
|[],_,_,_,_,e=>.inr e
|(m,k)::r,h,acc,x,c,e=>by
 unfold dZ at e;unfold pushCells;by_cases hk:(k==cK)=true
 ·rw[if_pos hk]at e ⊢;have e':(dZ (h.push { cls:=.type "cell",data:=.cell none }).objs.size r ((m,h.objs.size)::acc)).lookup x=some c:=by rw[iZ];exact e
  rcases Ae r _ _ x c e' with q|q
  ·exact .inl q
  ·rcases nI q with⟨_,e2⟩|⟨_,e2⟩
   ·subst e2;exact .inl ⟨_,uw r _ _ _ (bU _ rfl),rfl⟩
   ·exact .inr e2
 ·rw[if_neg hk]at e ⊢;exact Ae r h acc x c e
theorem ON{M:KL}{A:dh}{closure:List (Str×Addr)}{Q:Env->aj->Prop}
  (hQ:∀h',h'.Ns s.heap.objs.size (fun _=>none)->(∀b o,s.heap.get? b=some o->h'.get? b=some o)->(∀x c,(dZ (s.heap.objs.size+1) scope.names closure).lookup x=some c->h'.IsCell c none\/closure.lookup x=some c)->
   Q { scope,locals:=s.heap.objs.size,globals:=env.globals,cells:=dZ (s.heap.objs.size+1) scope.names closure,qual:=env.qual,func:=none,code:=env.code,frame:=env.frame,builtins:=env.builtins } { s with heap:=h' }) :
  aJ M A (vH scope env.globals closure [] env.qual none .none (some env)) Q E s:=by
 simp only[vH,yI,if_true];refine aq (HM ?_);refine aq (wpAny_layCells _ (fun name kind cells=>by cases hkc:kind==cK<;>simp[hkc]) _ _ _ _ ?_);have hc:=Ae scope.names (s.heap.push { cls:=.type "dict",data:=.dict #[] }) closure;rw[iZ]at hc;rw[show({ s with heap:=s.heap.push { cls:=.type "dict",data:=.dict #[] } }:aj).heap.objs.size=s.heap.objs.size+1 from iZ ..];rw[List.forIn_nil];exact aq (a9 (a9 (hQ _ ((W3 s.heap (.type "dict")).keeps (uw _ _)) (fun b o e=>uw _ _ b o (aM _ e)) hc)))
noncomputable def kY(X:Cx)(N:List Str)(scope:fP)(C:Addr)(ZD:aj)(ZO:Hp)(ex:List Addr):Cx where
 prog:=X.prog
 w:=X.w
 K:=X.K
 mg:=X.mg
 base:=X.base
 A:=X.A
 N:=N
 ZD:=ZD
 ZO:=ZO
 env:=compEnvC scope (dZ (C+1) scope.names (oN X.env.cells scope.names [])) C X.env
 outer:=X.stack
 stack:=X.stack
 ex:=ex
 fn:=fun x=>scope.names.lookup x==some .cell
 calm:=X.calm
 pn:=[]
 xe:=fun _ _=>False
def Ih(X:Cx)(ifs:List Expr)(t:TT):Prop:=
 ∀(pins:List (Addr×Obj)) (s:aj) (O:L2.St) (H:Hp) (Q:Bool->Hp->Prop),L2.Inv X pins O H s->t O H Q->
  aJ (aH X.prog X.w) X.A (forIn ifs true fun c r=>if r=true then do let ok <-sR c X.env (eval c X.env);pure (jB ok)else pure (jB r)) (TP X pins O Q) X.xe s
theorem Tj:Ih X [] (fun _ H Q=>Q true H):=fun _ _ _ H _ I h=>wpAny_tests_nil ⟨H,I,h⟩
variable{c:Expr}
theorem Tn{t:TT}(h:PT X c t):Ih X [c] t:=fun pins s O H Q I q=>wpAny_tests_one (h pins s O H Q I q)
section
variable{prog:bJ}{w:bS}{A:dh}{R:GY->aj->Prop}{s:aj}
theorem LI{elt target:Expr}{ifs:List Expr}{it acc:Value}(I:Nat->aj->Prop)
  (turn:∀n s,I n s->aJ (aH prog w) A (NW it) (fun r ZF=>match r with
   |none=>R (.ok .next) ZF
   |some v=>aJ (aH prog w) A (nZ target it v) (fun _ ZH=>aJ (aH prog w) A (qp target env v) (fun _ ZM=>
     aJ (aH prog w) A (forIn ifs true fun c r=>if r=true then do let ok <-sR c env (eval c env);pure (jB ok)else pure (jB r))
      (fun ok ZR=>if ok=true then aJ (aH prog w) A (eval elt env) (fun x Z3=>aJ (aH prog w) A (call (.builtin "list.append") [acc,x]) (fun _ Z4=>∃m,m<n/\I m Z4) (fun _ _=>False) Z3) (fun _ _=>False) ZR
       else ∃m,m<n/\I m ZR) (fun _ _=>False) ZM) (fun _ _=>False) ZH) (fun _ _=>False) ZF) (fun _ _=>False) s)
  (n:Nat) (h:I n s):kM (aH prog w) A (.compLoop (.ListComp elt [⟨target,iter,ifs,0⟩] scope pos) 0 it acc env) R s:=by
 refine codeAny_loop rfl I (fun n s hI=>?_) n h;show aJ _ A ((compTurn (.ListComp elt [⟨target,iter,ifs,0⟩] scope pos) 0 it acc env).onRaise (fun x=>do Et x env;theTreesLotGoes x)) _ _ s;refine wpAny_noted (wpAny_noRaise ?_);rw[compTurn_list];refine aq (mQ (aq (aY (turn n s hI) fun r ZF ZJ=>?_)));cases r with
 |none=>exact a9 ZJ
 |some v=>
  refine aq (aY ZJ fun _ ZH ZS=>aq (aY ZS fun _ ZM ZP=>aq (aY ZP fun ok ZR Z5=>?_)));cases ok with
  |false=>exact a9 ⟨rfl,Z5⟩
  |true=>exact aq (aq (aY Z5 fun x Z3 Z8=>aq (aY Z8 fun _ Z4 Z9=>a9 (a9 ⟨rfl,Z9⟩))))
end
noncomputable abbrev oO(its:List Value)(n:Nat):Obj:={ cls:=.type "list",data:=.seq its.toArray n }
section
variable{X:Cx}{pins:List (Addr×Obj)}{O:L2.St}{H:Hp}{ZH:aj}{tgt iter elt:Expr}{ifs:List Expr}{scope:fP}{pos:Pos}{N:List Str}{ZC:L2.St}{it:Addr}{fp:List Addr}{tn:Nat->Heap->Prop}{J:It}
 {ok:Hp->Prop}{items:List Item}{g:TG}{cond:TT}{te:TE}{k:List V->Hp->Prop}{E:Value->aj->Prop}{RR:Value->Addr->GY->aj->Prop}
theorem A_(hc:X.calm=true)(I:L2.Inv X pins O H ZH)(T:Turn X.prog X.w X.K tgt J fp it tn)(st:tn 0 ZH.heap)(hf:∀b∈fp,mh X pins H b)(hJ:oM J ok items)
  (hcell:∀y∈scope.names,y.2=.free->(y.1,cK)∉scope.names) (hkind:scope.kind=.function) (hfree:∀n,(n,cC)∈scope.names->∃c,X.env.cells.lookup n=some c) (hlen:ZC.length=N.length)
  (ZQ:∀(i:Nat) (x:Str) (v:V),N[i]?=some x->ZC[i]?=some (some v)->(x,cC)∈scope.names/\(l8 scope X.env).names.lookup x≠some .local/\∃c u,X.env.cells.lookup x=some c/\RelV v u/\ZH.heap.IsCell c (some u))
  (hvis:∀x,(l8 scope X.env).names.lookup x=some .cell\/(l8 scope X.env).names.lookup x=some .free->(x,cC)∈scope.names\/(x,cK)∈scope.names)
  (hg:∀(C:Addr) (ZD:aj) (ex:List Addr),PG (kY X N scope C ZD H ex) tgt g)
  (ht:∀(C:Addr) (ZD:aj) (ex:List Addr),Ih (kY X N scope C ZD H ex) ifs cond)
  (he:∀(C:Addr) (ZD:aj) (ex:List Addr),PE (kY X N scope C ZD H ex) elt te)
  (h:qW ok g cond te k items [] ZC H)
  (hRR:∀D C s' H2 vs,H2 D=none->k vs H2->L2.Inv X pins O (upd H2 D (.lst vs)) s'->mh X pins (upd H2 D (.lst vs)) C->(∃m,s'.heap.Ns C m)->RR (.ref D) C (.ok .next) s') :
  aJ (aH X.prog X.w) X.A (newList []) (fun acc ZM=>aJ (aH X.prog X.w) X.A (vH scope X.env.globals (oN X.env.cells scope.names []) [] X.env.qual none .none (some X.env)) (fun cenv ZR=>
   kM (aH X.prog X.w) X.A (.compStart (.ListComp elt [⟨tgt,iter,ifs,0⟩] scope pos) 0 (.ref it) acc { cenv with scope:=l8 scope X.env }) (RR acc cenv.locals) ZR) E ZM) E ZH:=by
 refine zm (ON fun ZJ ZU ZV ZW=>?_);dsimp only at ZU ZV ZW ⊢;generalize ZT:({ ZH with heap:=ZH.heap.push { cls:=.type "list",dict:=none,data:=.seq ([]:List Value).toArray } }:aj)=ZD at ZU ZV ZW ⊢;have ZX:ZD.heap=ZH.heap.push { cls:=.type "list",dict:=none,data:=.seq ([]:List Value).toArray }:=by rw[<-ZT]
 have hH2:ZH.heap.push { cls:=.type "list",dict:=none,data:=.seq ([]:List Value).toArray }=ZD.heap:=ZX.symm;have eos:ZD.os=ZH.os:=by rw[<-ZT]
 have egn:ZD.gens=ZH.gens:=by rw[<-ZT]
 have etk:ZD.toks=ZH.toks:=by rw[<-ZT]
 rw[hH2]at ZU ZV ZW ⊢;have hsz:ZD.heap.objs.size=ZH.heap.objs.size+1:=by rw[ZX,iZ]
 generalize hD:ZH.heap.objs.size=D at *;generalize hC:ZD.heap.objs.size=C at *;have hDC:D≠C:=by rw[hsz];exact b8 (mZ _)
 have up:∀b o,ZH.heap.get? b=some o->ZD.heap.get? b=some o:=fun b o e=>by rw[ZX];exact aM _ e
 have lt2:∀b o,ZH.heap.get? b=some o->b<D:=fun b o e=>by rw[<-hD];exact be e
 have up1:∀b o,ZD.heap.get? b=some o->ZJ.get? b=some o:=ZV;have Z_:ZD.heap.get? D=some (oO [] 0):=by rw[ZX,<-hD];exact bU _ rfl
 have fpD:∀b∈fp,b<D:=fun b hb=>by obtain⟨o,e,_⟩:=T.obj 0 _ st b hb;exact lt2 b o e
 have cellD:∀x c,X.env.cells.lookup x=some c->c<D:=fun x c e=>by obtain⟨v,q⟩:=I.cell x c e;obtain⟨o,ho,_⟩:=q;exact lt2 c o ho
 have DltC:D<C:=by rw[hsz];exact mZ _
 have fpC:∀b∈fp,b≠C:=fun b hb=>b8 (jZ (fpD b hb) DltC);have fpnD:∀b∈fp,b≠D:=fun b hb=>b8 (fpD b hb);have freshH:∀b,D<=b->H b=none:=fun b hb=>I.hok.fresh (by rw[hD];exact hb)
 let ex:=D::fp
 let X':=kY X N scope C ZD H ex
 have clsub0:∀x c,(oN X.env.cells scope.names []).lookup x=some c->X.env.cells.lookup x=some c:=vW _ _ (fun x c e=>by simp at e);have clsub:∀x c,X'.env.cells.lookup x=some c->C<c\/X.env.cells.lookup x=some c:=fun x c e=>by
  rcases vX _ _ _ _ _ e with⟨q,_⟩|⟨_,q⟩
  ·exact .inl q
  ·exact .inr (clsub0 x c q)
 have neD:∀x c,X'.env.cells.lookup x=some c->c≠D:=fun x c e z=>by
  rcases clsub x c e with q|q
  ·rw[z]at q;exact d8 _ (jZ q DltC)
  ·exact b8 (cellD x c q) z
 have neF:∀x c,X'.env.cells.lookup x=some c->∀b∈fp,c≠b:=fun x c e b hb z=>by
  rcases clsub x c e with q|q
  ·rw[z]at q;exact d8 _ (jZ (jZ q (fpD b hb)) DltC)
  ·exact(hf b hb).2.2.2.2.1 x c q z
 have stkD:∀b∈frs X.stack,b<D:=fun b hb=>by
  rcases aC.mp (I.uW b hb)with e|hb
  ·rw[e,<-hD];exact I.lt
  ·obtain⟨_,o,ho,_⟩:=I.nE.mem hb;exact lt2 b o ho
 have ok':X'.Ok:=by
  refine⟨I.ok.mod,?_,I.ok.glob,I.ok.blt,yJ hC,Cm _ _ _ (fun x c e=>qO (jZ (cellD x c (clsub0 x c e)) DltC)) fun x y c h1 h2=>I.ok.inj x y c (clsub0 x c h1) (clsub0 y c h2),fun x hx=>?_,fun x c hx=>?_,I.ok.hd,I.ok.frames,.inl rfl,fun b hb=>?_,fun b o e=>?_,?_,fun b o e hb=>?_,fun b hb z=>?_,?_,I.B8⟩
  ·exact hkind
  ·refine Ck _ _ _ x ?_;rcases hvis x hx with q|q
   ·obtain⟨c,hc'⟩:=hfree x q;exact .inr (rS _ _ x (.inr ⟨q,c,hc'⟩))
   ·exact .inl q
  ·intro hx2;have hm:(x,cK)∈scope.names:=PySem.mem_of_lookup (by simpa using(show(scope.names.lookup x==some .cell)=true from hx));rcases vX _ _ _ _ _ hx2 with⟨q,_⟩|⟨q,_⟩
   ·show ZD.heap.objs.size<=c;rw[hC];exact je q
   ·exact absurd hm q
  ·rcases aC.mp hb with e|hb
   ·subst e;exact⟨hDC,neD⟩
   ·refine⟨?_,fun x c e=>neF x c e b hb⟩;exact fpC b hb
  ·exact⟨up b o (I.bs b o e).1,(I.bs b o e).2⟩
  ·show X.base.objs.size<=ZD.heap.objs.size;refine d9 (d9 I.ok.bsz I.sz) ?_;rw[hD,hC];exact je DltC
  ·have hbD:b<D:=lt2 b o (I.bk b o e);rcases aC.mp hb with q|hb
   ·exact b8 hbD q
   ·rcases(hf b hb).2.2.2.1 with q|q
    ·exact I.ok.noex b o e q
    ·have h1:=be (I.ok.bs b o e).1;exact absurd (bO h1 q) (d8 _)
  ·rcases aC.mp hb with q|hb
   ·exact b8 (stkD b z) q
   ·obtain⟨_,f1,f2,_⟩:=hf b hb;rcases aC.mp (I.uW b z)with q|q
    ·exact f1 q
    ·exact f2 q
  ·have hfr:=I.stack;have keepF:∀l:List Env,ZH.heap.FunFrames X.base l->ZD.heap.FunFrames X.base l:=by
    intro l;induction l with
    |nil=>intro _;trivial
    |cons env r ih=>
     intro hl;obtain⟨hk,⟨Zy,o,hf',hn,ho,hd⟩,hr⟩:=hl;exact⟨hk,⟨Zy,o,hf',hn,up Zy o ho,hd⟩,ih hr⟩
   exact keepF _ hfr
 have fpok:∀(H':Hp) (its:List Value) (n:Nat),(∀b∈fp,H' b=none)->∀b∈fp,mh X' [(D,oO its n)] H' b:=fun H' its n hn b hb=>by
  refine⟨hn b hb,?_,?_,.inl (ai _ hb),fun x c e=>neF x c e b hb,fun p hp=>?_⟩
  ·exact fpC b hb
  ·intro z;obtain⟨_,f1,f2,_⟩:=hf b hb;rcases aC.mp (I.uW b z)with q|q
   ·exact f1 q
   ·exact f2 q
  ·have hp:p∈[(D,oO its n)]:=hp;have e:p=(D,oO its n):=by simpa using hp
   subst e;exact cT (fpnD b hb)
 have pinD:∀(s:aj) (H':Hp) (its:List Value) (n:Nat),s.heap.get? D=some (oO its n)->H' D=none->∀p∈[(D,oO its n)],s.heap.get? p.1=some p.2/\H' p.1=none/\p.1≠X'.env.locals/\p.1∉X'.fs/\∀v,p.2.data≠.cell v:=by
  intro s H' its n e hn p hp;have q:p=(D,oO its n):=by simpa using hp
  subst q;refine⟨e,hn,hDC,fun z=>?_,fun v z=>nomatch z⟩;exact d8 _ (stkD D z)
 let Iv:Nat->aj->Prop:=fun n s=>∃(i:Nat) (acc:List V) (its:List Value) (m:Nat) (ZK:L2.St) (H1:Hp),n=items.length+1-i/\i<=items.length/\L2.Inv X' [(D,oO its m)] ZK H1 s/\tn i s.heap/\(∀b∈fp,H1 b=none)/\bK acc its/\acc.length<=aa /\
  qW ok g cond te k (items.drop i) acc ZK H1
 have start:∀tk,L2.Inv X' [(D,oO [] 0)] ZC H { ZD with heap:=ZJ,toks:=tk }:=fun tk=>by
  refine⟨ok',rfl,by show jW ZD.gens;rw[egn];exact I.bare,Un.kept up1,⟨_,ZU,fun i x v h1 h2 h3=>?_⟩,fun x c e=>?_,freshH C (je DltC),fun x c e=>?_,fun p hp=>?_,?_,hlen⟩
  ·obtain⟨hx,hnl,c,u,hcu,ru,cellu⟩:=ZQ i x v h1 h2;refine⟨u,ru,.inr ⟨?_,?_⟩⟩
   ·rcases h3 with q|q|q
    ·exact absurd q hnl
    ·exact .inl q
    ·exact .inr q
   ·obtain⟨c',hc'⟩:=rS (cells:=X.env.cells) scope.names [] x (.inr ⟨hx,c,hcu⟩);have e1:=clsub0 x c' hc';rw[hcu]at e1;cases e1;obtain⟨o,ho,hd⟩:=cellu;exact⟨c,(Ad _ _ _ x (hcell _ hx rfl)).trans hc',o,up1 _ _ (up _ _ ho),hd⟩
  ·rcases ZW x c e with q|q
   ·exact⟨none,q⟩
   ·obtain⟨v,o,ho,hd⟩:=I.cell x c (clsub0 x c q);exact⟨v,o,up1 _ _ (up _ _ ho),hd⟩
  ·rcases clsub x c e with q|q
   ·exact freshH c (je (jZ DltC q))
   ·exact I.freeC x c q
  ·exact pinD { ZD with heap:=ZJ,toks:=tk } H [] 0 (up1 _ _ Z_) (freshH D (aP _)) p hp
  ·have hk:fU X.prog X.w H ZJ:=I.hok.kept fun b u e=>up1 b u (up b u e);exact hk
 have loop:∀tk,kM (aH X.prog X.w) X.A (.compLoop (.ListComp elt [⟨tgt,iter,ifs,0⟩] scope pos) 0 (.ref it) (.ref D) X'.env) (RR (.ref D) C) { ZD with heap:=ZJ,toks:=tk }:=fun tk=>by
  refine LI Iv ?_ (items.length+1) ⟨0,[],[],0,ZC,H,rfl,gu _,start tk,T.keep 0 _ _ st fun b hb o e=>up1 b o (up b o e),fun b hb=>(hf b hb).1,.nil,gu _,by simpa using h⟩;rintro n s ⟨i,acc,its,m,ZK,H1,rfl,hi,J1,st1,fr1,rv,hz,q⟩;by_cases hlt:i<items.length
  ·rw[rB hlt]at q;obtain⟨hok,hz1,q⟩:=q;have ei:items[i]?=some items[i]:=aA hlt;refine aY (T.item X' rfl rfl rfl hc i _ s ZK H1 _ J1 (fpok H1 its m fr1) st1 (hJ.go i H1 _ hok ei)) fun r s4 ⟨u,hr,h4⟩=>?_;subst hr;refine aY h4 fun _ s5 ⟨x,H5,I5,r5,y5,st5,fr5⟩=>?_;have I5':=I5.pinned (fpok H5 its m fr5) (T.obj _ _ st5);refine aY (hg C ZD ex _ s5 ZK H5 x u _ I5' r5 (hJ.yld i H1 _ x H5 hok ei y5 _ q)) fun _ s6 ⟨ZN,H6,I6,q6⟩=>?_;refine aY (ht C ZD ex _ s6 ZN H6 _ I6 q6) fun b s7 ⟨H7,I7,q7⟩=>?_;have keepT:∀{Z6:L2.St}{H8:Hp}{s8:aj},L2.Inv X' ([(D,oO its m)]++xx fp s5.heap) Z6 H8 s8->tn (i+1) s8.heap/\(∀b∈fp,H8 b=none):=fun{Z6 H8 s8} I8=>by
    refine⟨T.keep _ _ _ st5 fun b hb o e=>(I8.pin (b,o) (ay _ (ay _ (qT hb e)))).1,fun b hb=>?_⟩;obtain⟨o,e,_⟩:=T.obj _ _ st5 b hb;exact(I8.pin (b,o) (ay _ (ay _ (qT hb e)))).2.1
   cases b with
   |false=>
    have q7:=(if_neg ak)▸q7;obtain⟨t1,t2⟩:=keepT I7;exact⟨items.length+1-(i+1),by omega,i+1,acc,its,m,ZN,H7,rfl,hlt,I7.vL,t1,t2,rv,hz,by simpa using q7⟩
   |true=>
    have q7:te ZN H7 (fun y H4=>qW ok g cond te k (items.drop (i+1)) (acc++[y]) ZN H4):=by simpa using q7
    refine aY (he C ZD ex _ s7 ZN H7 _ I7 q7) fun yv s8 ⟨y,H8,I8,r8,q8⟩=>?_;obtain⟨t1,t2⟩:=keepT I8;have hD8:=I8.pin (D,oO its m) (ay _ (aL _ (aG.mpr rfl)));obtain⟨e8,n8,_⟩:=hD8;have hl:=rv.length;refine iM F.slot_list_append ⟨_,e8,rfl⟩ F.entry_list_append (F.args_list_append_2 _ _) (PySem.list_append D its.toArray m yv (by rw[aS];omega)) ⟨e8,?_⟩;have I9:L2.Inv X' [] ZN H8 s8:=I8.yQ fun p hp=>nomatch hp
    have kk:∀b o,b≠D->s8.heap.get? b=some o->(s8.heap.update D (kF fun x=>x.push yv)).get? b=some o:=fun b o hb e=>(eO _ _ (cT hb)).trans e;have I10:L2.Inv X' [] ZN H8 { s8 with heap:=s8.heap.update D (kF fun x=>x.push yv),toks:=s8.toks }:=
     I9.turned kk n8 hDC (.inl ao) neD (fun p hp=>nomatch hp)
    have e9:=PySem.IsL.update e8 (fun x=>x.push yv);rw[List.push_toArray]at e9;obtain⟨m',e10⟩:∃m',({ s8 with heap:=s8.heap.update D (kF fun x=>x.push yv),toks:=s8.toks }:aj).heap.get? D=some (oO (its++[yv]) m'):=⟨_,e9⟩;refine⟨items.length+1-(i+1),by omega,i+1,acc++[y],its++[yv],m',ZN,H8,rfl,hlt,I10.yQ (pinD _ H8 _ m' e10 n8),?_,t2,rv.append (.cons r8 .nil),by rw[aE,cg];omega,q8⟩;exact T.keep _ _ _ t1 fun b hb o e=>kk b o (fpnD b hb) e
  ·rw[mG (by omega)]at q;obtain⟨hok,q⟩:=q;refine aY (T.done X' rfl rfl rfl hc i _ s ZK H1 _ J1 (fpok H1 its m fr1) st1 (hJ.stop i H1 hok (by omega))) fun r s4 ⟨hr,I4⟩=>?_;subst hr;obtain⟨e4,n4,_⟩:=I4.pin (D,oO its m) (ay _ (aG.mpr rfl));obtain⟨mC,hnC,_⟩:=I4.loc;have hCn:H1 C=none:=I4.free;have exD:∀b,b<D->b∉fp->b∉X'.ex:=fun b hb hn z=>by
    rcases aC.mp z with q|q
    ·exact b8 hb q
    ·exact hn q
   have hok':fU X.prog X.w (upd H1 D (.lst acc)) s4.heap:=LH I4.hok n4 ⟨hz,its,m,rv,e4⟩;have hU:Un (frs X.stack) fp H (upd H1 D (.lst acc)) ZH.heap s4.heap:=by
    have b4:=I4.base;refine⟨fun b o e n hb hx=>?_,fun b o e n hb hx=>?_,fun b o e n hx=>?_,fun b o e hx=>?_,fun b xs e=>?_,fun b o u e=>?_,fun b ps e=>?_⟩
    ·exact b4.keep b o (up b o e) n hb (exD b (lt2 b o e) hx)
    ·exact b4.slot b o (up b o e) n hb (exD b (lt2 b o e) hx)
    ·rw[aO (b8 (lt2 b o e))];exact b4.free b o (up b o e) n (exD b (lt2 b o e) hx)
    ·exact b4.there b o (up b o e) (exD b (lt2 b o e) hx)
    ·have z:=b4.tups b xs e;rw[aO (cQ z n4)];exact z
    ·have z:=b4.az b o u e;rw[aO (cQ z n4)];exact z
    ·obtain⟨more,z⟩:=b4.tbls b ps e;exact⟨more,by rw[aO (cQ z n4)];exact z⟩
   have I5:L2.Inv X pins O (upd H1 D (.lst acc)) s4:=I.call' (ch:=fp) (I4.os.trans eos) hU hok' I4.bare fun b hb=>by
    obtain⟨f0,f1,f2,f3,f4,f5⟩:=hf b hb;exact⟨f3,f1,f4,f5⟩
   refine hRR D C s4 H1 acc n4 q I5 ?_ ⟨mC,hnC⟩;have hle:ZH.heap.objs.size<=C:=by rw[hD];exact je DltC
   have z:=I.qq (H':=upd H1 D (.lst acc)) (b:=C) hle (by rw[aO (cT hDC)];exact hCn);exact z
 subst ZT;exact codeAny_compStart_list (loop _) (T.self _ 0 _ _ _ (T.keep 0 _ _ st fun b hb o e=>up1 b o (up b o e)) (loop _))
end
noncomputable def jK(N nl:List Str)(fr:List Nat):List Str:=nl++fr.map fun i=>N.getD i Es
noncomputable def yW(nl:List Str)(fr:List Nat)(O:L2.St):L2.St:=nl.map (fun _=>none)++fr.map fun i=>O.getD i none
structure u5 (sc:fP) (N:List Str) (scope:fP) (nl:List Str) (fr:List Nat):Prop where
 kind:scope.kind=.function
 cell:∀y∈scope.names,y.2=.free->(y.1,cK)∉scope.names
 names:∀x∈scope.names,x.2=.local->scope.names.lookup x.1=some .local
 free:∀n,(n,cC)∈scope.names->sc.names.lookup n=some .cell\/sc.names.lookup n=some .free
 fr:∀i∈fr,∃x,N[i]?=some x/\scope.names.lookup x=some .free
theorem xJ(x:Str)(h:(l8 scope env).names.lookup x=some .cell\/(l8 scope env).names.lookup x=some .free):(x,cC)∈scope.names\/(x,cK)∈scope.names:=by
 have key:∃k,(x,k)∈(l8 scope env).names/\(k=.cell\/k=.free):=by
  rcases h with h|h
  ·exact⟨_,PySem.mem_of_lookup h,.inl rfl⟩
  ·exact⟨_,PySem.mem_of_lookup h,.inr rfl⟩
 obtain⟨k,hm,hk⟩:=key;unfold l8 at hm;simp only[b_]at hm;obtain⟨⟨n,k0⟩,h0,e⟩:=hm;simp only at e;split at e
 ·rename_i hc;have:k0=.free:=by
   simp only[bq,beq_iff_eq]at hc;exact hc.1.1
  subst this;cases e;exact .inl h0
 ·cases e;rcases hk with rfl|rfl
  ·exact .inr h0
  ·exact .inl h0
theorem xK{env:Env}:∀{names:List (Str×jf)}{x:Str},names.lookup x=some .free->
 (names.map fun(n,k)=>if(k==cC&&env.scope.kind==.function&&env.kindOf n==some .cell)then(n,cK)else(n,k)).lookup x≠some .local
|[],_,h=>by simp at h
|(n,k)::r,x,h=>by
 have ih:=@xK env r x;show jH x ((if(k==cC&&env.scope.kind==.function&&env.kindOf n==some .cell)=true then(n,cK)else(n,k))::_)≠_;cases hx:x==n with
 |true=>
  simp only[cF,hx]at h;cases h;by_cases hc:(cC==cC&&env.scope.kind==.function&&env.kindOf n==some .cell)=true
  ·rw[if_pos hc];simp only[cF,hx];decide
  ·rw[if_neg hc];simp only[cF,hx];decide
 |false=>
  simp only[cF,hx]at h;by_cases hc:(k==cC&&env.scope.kind==.function&&env.kindOf n==some .cell)=true
  ·rw[if_pos hc];simp only[cF,hx];exact ih h
  ·rw[if_neg hc];simp only[cF,hx];exact ih h
variable{i:Nat}{y:Str}{py:Pos}
section
variable{X:Cx}{tgt iter elt:Expr}{ifs:List Expr}{scope:fP}{pos:Pos}{nl:List Str}{fr:List Nat}{wi:R5}{g:TG}{cond:TT}{te:TE}
theorem Ba(S:u5 X.env.scope X.N scope nl fr)(I:L2.Inv X pins O H s)(i:Nat)(x:Str)(v:V)(h1:(jK X.N nl fr)[i]?=some x)(h2:(yW nl fr O)[i]?=some (some v)) :
  (x,cC)∈scope.names/\(l8 scope X.env).names.lookup x≠some .local/\∃c u,X.env.cells.lookup x=some c/\RelV v u/\s.heap.IsCell c (some u):=by
 unfold jK at h1;unfold yW at h2;by_cases hi:i<nl.length
 ·rw[eZ (by simpa using hi),aX,aA hi]at h2;cases h2
 ·rw[cZ (by omega)]at h1;rw[cZ (by simp;omega)]at h2;rw[aX]at h1 h2;rw[ah]at h2;cases e:fr[i-nl.length]? with
  |none=>rw[e]at h1;cases h1
  |some j=>
   rw[e]at h1 h2;have h1:X.N.getD j Es=x:=cV h1;have h2:O.getD j none=some v:=cV h2;obtain⟨y,hy,hf⟩:=S.fr j (fH e);have exy:y=x:=by
    rw[<-h1];simp[hy]
   subst exy;have ZQ:O[j]?=some (some v):=by
    cases q:O[j]? with
    |none=>simp[q]at h2
    |some o=>
     simp[q]at h2;rw[h2]
   have hm:=PySem.mem_of_lookup hf;refine⟨hm,xK hf,?_⟩;obtain⟨m,hn,hl⟩:=I.loc;have hk:=S.free y hm;obtain⟨u,ru,l⟩:=hl j y v hy ZQ (by rcases hk with q|q;exact .inr (.inl q);exact .inr (.inr q));rcases l with⟨l,_⟩|⟨_,c,hc,hcell⟩
   ·exfalso;have l:X.env.scope.names.lookup y=some .local:=l;rcases hk with q|q<;>rw[q]at l<;>cases l
   ·exact⟨c,u,hc,ru,hcell⟩
theorem tK(S:u5 X.env.scope X.N scope nl fr)(I:L2.Inv X pins O H s):∀n,(n,cC)∈scope.names->∃c,X.env.cells.lookup n=some c:=fun n hn=>I.ok.has n (S.free n hn)
theorem To(hc:X.calm=true)(S:u5 X.env.scope X.N scope nl fr)(hi:Dp X tgt iter wi)(hs:∀x,jL iter X.env x=pure x)
  (hg:∀(C:Addr) (ZD:aj) (H:Hp) (ex:List Addr),PG (kY X (jK X.N nl fr) scope C ZD H ex) tgt g)
  (ht:∀(C:Addr) (ZD:aj) (H:Hp) (ex:List Addr),Ih (kY X (jK X.N nl fr) scope C ZD H ex) ifs cond)
  (he:∀(C:Addr) (ZD:aj) (H:Hp) (ex:List Addr),PE (kY X (jK X.N nl fr) scope C ZD H ex) elt te) :
  PE X (.ListComp elt [⟨tgt,iter,ifs,0⟩] scope pos) (fun O H Q=>wi O H fun ok items H1=>qW ok g cond te (fun vs H2=>∀p,H2 p=none->Q (.ref p) (upd H2 p (.lst vs))) items [] (yW nl fr O) H1):=by
 intro pins s O H Q I h;rw[eval_ListComp];refine sZ (use:=none) rfl hs (wX (tK S I)) S.kind S.names (aY (hi pins s O H _ I h) fun v ZF ZJ=>aY ZJ fun itv ZH ZS=>?_);obtain⟨it,fp,tn,J,H2,e,I2,T,st,hf,ok,items,hJ,hk⟩:=ZS;subst e;refine A_ (RR:=fun acc C=>compPost (aH X.prog X.w) X.A X.xe none (EP X pins O Q) acc C) hc I2 T st hf hJ S.cell S.kind (tK S I2) ?_ (Ba S I2) xJ
  (fun C ZD ex=>hg C ZD H2 ex) (fun C ZD ex=>ht C ZD H2 ex) (fun C ZD ex=>he C ZD H2 ex) hk fun D C s' H3 vs hD q I3 f3 hn=>?_
 ·unfold yW jK;simp
 ·obtain⟨m,hn⟩:=hn;obtain⟨f0,f1,f2,f3,f4,f5⟩:=f3;refine⟨m,hn,fun h' hsb=>⟨.ref D,_,I3.turned (t':=s'.toks) (fun b o hb e=>hsb.extBut b o hb e) f0 f1 f3 f4 f5,rfl,q D hD⟩⟩
theorem Tp{spos:Pos}(hc:X.calm=true)(hN:X.N.Nodup)(hiy:X.N[i]?=some y)(hy:X.env.scope.names.lookup y=some .local)(S:u5 X.env.scope X.N scope nl fr)(hi:Dp X tgt iter wi)(hs:∀x,jL iter X.env x=pure x)
  (hsw:ny (.ListComp elt [⟨tgt,iter,ifs,0⟩] scope pos) (some (.Name y py)) spos.line X.env=pure true)
  (hg:∀(C:Addr) (ZD:aj) (H:Hp) (ex:List Addr),PG (kY X (jK X.N nl fr) scope C ZD H ex) tgt g)
  (ht:∀(C:Addr) (ZD:aj) (H:Hp) (ex:List Addr),Ih (kY X (jK X.N nl fr) scope C ZD H ex) ifs cond)
  (he:∀(C:Addr) (ZD:aj) (H:Hp) (ex:List Addr),PE (kY X (jK X.N nl fr) scope C ZD H ex) elt te) :
  PS X (.Assign [.Name y py] (.ListComp elt [⟨tgt,iter,ifs,0⟩] scope pos) spos) (fun D O H=>wi O H fun ok items H1=>qW ok g cond te (fun vs H2=>∀p,H2 p=none->D.nx (O.set i (some (.ref p))) (upd H2 p (.lst vs))) items [] (yW nl fr O) H1):=by
 intro pins s O H D I h;rw[PySem.exec_Assign_Name_used _ _ _ _ hsw];refine aq (mQ (aq ?_));show aJ _ X.A (do let _ <-comprehension (.ListComp elt [⟨tgt,iter,ifs,0⟩] scope pos) scope X.env _ (newList []) false (eval iter X.env) (some (qp (.Name y py) X.env))) _ _ s;refine aq (dJ (sZ (use:=some (qp (.Name y py) X.env)) (Q:=fun _ s'=>SP X pins D .next s') rfl hs (wX (tK S I)) S.kind S.names
  (aY (hi pins s O H _ I h) fun v ZF ZJ=>aY ZJ fun itv ZH ZS=>?_)) (fun _ s' hq=>a9 (a9 hq)) fun _ _ e=>e)
 obtain⟨it,fp,tn,J,H2,e,I2,T,st,hf,ok,items,hJ,hk⟩:=ZS;subst e;refine A_ (RR:=fun acc C=>compPost (aH X.prog X.w) X.A X.xe (some (qp (.Name y py) X.env)) (fun _ s'=>SP X pins D .next s') acc C) hc I2 T st hf hJ S.cell S.kind (tK S I2) ?_ (Ba S I2) xJ
  (fun C ZD ex=>hg C ZD H2 ex) (fun C ZD ex=>ht C ZD H2 ex) (fun C ZD ex=>he C ZD H2 ex) hk fun DD C s' H3 vs hD q I3 f3 hn=>?_
 ·unfold yW jK;simp
 ·obtain⟨m,hn⟩:=hn;obtain⟨f0,f1,f2,f3,f4,f5⟩:=f3;refine zh (C5 (v:=.ref DD) (u:=.ref DD) I3 hN hiy (.inl hy) rfl (fun s'' I4 hsame=>?_) (.inr hy));obtain⟨a,hs',ha⟩:=hsame;have hCa:C≠a:=by
   rcases ha with q|q
   ·rw[q];exact f1
   ·exact fun z=>f4 y a q z.symm
  refine⟨m,hn.sameBut hs' hCa,fun h' hsb=>⟨_,_,I4.turned (t':=s''.toks) (fun b o hb e=>hsb.extBut b o hb e) f0 f1 f3 f4 f5,q DD hD⟩⟩
end
structure Tab where
 N:List Str
 sc:fP
 gl:List Str
 bn:List Str
 own:Str->Bool
 calm:Bool
noncomputable def OO(sc:fP)(x:Str):Bool:=match sc.names.lookup x with
|some .local=>true
|some .cell=>true
|some .free=>true
|_=>false
noncomputable def OP(T:Tab)(x:Str):Bool:=match T.sc.names.lookup x with
|some .local=>true
|some .cell=>T.own x
|_=>false
noncomputable def rT(sc:fP)(x:Str):Bool:=decide (sc.names.lookup x=some .globalImplicit)
noncomputable def noStar:Expr->Bool
|.Starred ..=>false
|_=>true
noncomputable def bW(es:List Expr):Bool:=es.all noStar
noncomputable def vY:Expr->Bool
|.Call (.Name id _) [] [] _=>!(id==("super":Str))
|_=>true
noncomputable def v5:Expr->Bool
|.Slice ..=>false
|_=>true
noncomputable def Bb:Expr->Bool
|.Set ..=>false
|_=>true
noncomputable def u6:Expr->Bool
|.ListComp ..=>false
|.SetComp ..=>false
|.DictComp ..=>false
|_=>true
noncomputable def notTuple:Expr->Bool
|.Tuple ..=>false
|.List ..=>false
|_=>true
noncomputable def VO:V->Const->Bool
|.int i,.int j=>decide (i=j)
|.bl a,.bool b=>decide (a=b)
|.str a,.str b=>decide (a=b)
|.non,.none=>true
|_,_=>false
noncomputable def Dq(scope sc:fP):fP:=
 { scope with names:=scope.names.map fun(n,k)=>if(k==.free&&sc.kind==.function&&sc.names.lookup n==some .cell)then(n,.cell)else(n,k) }
noncomputable def EX(T:Tab)(scope:fP)(nl:List Str)(fr:List Nat):Tab:={ N:=jK T.N nl fr,sc:=Dq scope T.sc,gl:=T.gl,bn:=T.bn,own:=(fun x=>scope.names.lookup x==some .cell),calm:=T.calm }
noncomputable def rG(sc:fP)(N:List Str)(scope:fP)(nl:List Str)(fr:List Nat):Bool:=
 decide (scope.kind=.function)&&scope.names.all (fun y=>decide (y.2=.free->(y.1,cK)∉scope.names))&&scope.names.all (fun x=>decide (x.2=.local->scope.names.lookup x.1=some .local))
 && scope.names.all (fun x=>decide (x.2=.free->sc.names.lookup x.1=some .cell\/sc.names.lookup x.1=some .free))&&fr.all (fun i=>match N[i]? with|some x=>decide (scope.names.lookup x=some .free)|none=>false)
 && decide (jK N nl fr).Nodup
noncomputable def OQ:CI->Expr->Bool
|.enum _,e=>match e with
 |.Tuple ..=>true
 |_=>false
|_,_=>true
noncomputable def OR(sc:fP):Expr->Bool
|.Name y _=>!decide (sc.names.lookup y=some .local)
|_=>true
noncomputable def EY(sc scope:fP)(t:Str)(pos vpos:Pos):Bool:=decide (sc.names.lookup t=some .local)&&decide (pos.line=vpos.line)&&!(scope.names.any fun(n,k)=>n==t&&(k==.local||k==.cell))
noncomputable def qX(T:Tab)(g:Nat):Expr->Bool
|.Name y _=>decide (T.gl[g]?=some y)&&rT T.sc y&&!(y==("__debug__":Str))
|_=>false
noncomputable def o_(T:Tab):List Nat->List Expr->Bool
|[],es=>es.isEmpty
|g::gs,es=>match es with
 |e::er=>qX T g e&&o_ T gs er
 |_=>false
noncomputable def JC(T:Tab)(one:Bool)(gs:List Nat)(e:Expr):Bool:=match one with
|true=>match gs with
 |[g]=>qX T g e
 |_=>false
|false=>match e with
 |.Tuple es _ _=>bW es&&o_ T gs es
 |_=>false
noncomputable def fI(k:Nat):Expr->Bool
|.Call f _ _ _=>f.ctorIdx==k
|_=>false
noncomputable def aI:Expr->Bool
|.Call _ [_,c] _ _=>c.ctorIdx==23
|_=>false
noncomputable def uI:Expr->Bool
|.Subscript _ r _=>r.ctorIdx==26
|_=>false
noncomputable def cI2:Stmt->Bool
|.Assign (t::_) e _=>t.ctorIdx==23&&e.ctorIdx==8
|_=>false
noncomputable def rI:Stmt->Bool
|.Raise (some e) _ _=>e.ctorIdx==16&&fI 23 e
|_=>false
noncomputable def tI:Stmt->Bool
|.Try _ (.ExceptHandler (some a) _ _ _::_) _ _ _=>a.ctorIdx==23
|_=>false
noncomputable def bI1:List Stmt->Bool
|s::_=>s.ctorIdx==24&&match s with
 |.Expr e _=>e.ctorIdx==16&&fI 23 e
 |_=>false
|_=>false
noncomputable def bI2:List Stmt->Bool
|s::_=>s.ctorIdx==12
|_=>false
noncomputable def Bc:List (Str×Int)->List (Option Expr)->List Expr->Bool
|[],ks,vs=>ks.isEmpty&&vs.isEmpty
|p::r,ks,vs=>match ks,vs with
 |some (.Constant (.str x) _ _)::ks,.Constant (.int i) _ _::vs=>decide (x=p.1/\i=p.2)&&Bc r ks vs
 |_,_=>false
mutual
noncomputable def dS(T:Tab):CE->Expr->Bool
|.var i,e=>e.ctorIdx==23&&match e with
 |.Name x _=>decide (T.N[i]?=some x)&&OO T.sc x&&!(x==("__debug__":Str))&&!(x==("__classdict__":Str))
 |_=>false
|.con v,e=>e.ctorIdx==19&&match e with
 |.Constant c _ _=>VO v c
 |_=>false
|.glo g,e=>e.ctorIdx==23&&match e with
 |.Name x _=>decide (T.gl[g]?=some x)&&rT T.sc x&&!(x==("__debug__":Str))
 |_=>false
|.bin op a b,e=>e.ctorIdx==2&&match e with
 |.BinOp l o r _=>decide (op=o)&&dS T a l&&dS T b r
 |_=>false
|.neg a,e=>e.ctorIdx==3&&match e with
 |.UnaryOp .USub l _=>dS T a l
 |_=>false
|.not a,e=>e.ctorIdx==3&&match e with
 |.UnaryOp .Not l _=>dS T a l
 |_=>false
|.and a b,e=>e.ctorIdx==0&&match e with
 |.BoolOp .And [x,y] _=>dS T a x&&dS T b y
 |.BoolOp .And (x::y::z::r) pos=>dS T a x&&dS T b (.BoolOp .And (y::z::r) pos)
 |_=>false
|.or a b,e=>e.ctorIdx==0&&match e with
 |.BoolOp .Or [x,y] _=>dS T a x&&dS T b y
 |.BoolOp .Or (x::y::z::r) pos=>dS T a x&&dS T b (.BoolOp .Or (y::z::r) pos)
 |_=>false
|.ite c a b,e=>e.ctorIdx==5&&match e with
 |.IfExp t x y _=>dS T c t&&dS T a x&&dS T b y
 |_=>false
|.cmp op a b,e=>e.ctorIdx==15&&match e with
 |.Compare l [o] [r] _=>decide (op=o)&&!mR o r&&dS T a l&&dS T b r
 |_=>false
|.chain o1 o2 a b c,e=>e.ctorIdx==15&&match e with
 |.Compare l [p1,p2] [m,r] _=>decide (o1=p1)&&decide (o2=p2)&&!Ew [p1,p2] [m,r]&&dS T a l&&dS T b m&&dS T c r
 |_=>false
|.call g as,e=>e.ctorIdx==16&&(fI 23 e&&match e with
 |.Call (.Name x _) es [] _=>decide (T.gl[g]?=some x)&&rT T.sc x&&!(x==("__debug__":Str))&&bW es&&nJ T as es
 |_=>false)
|.blt f as,e=>e.ctorIdx==16&&(fI 23 e&&match e with
 |.Call (.Name x _) es [] _=>T.calm&&(decide (x=f.name)&&rT T.sc x&&T.bn.contains x&&bW es&&!es.isEmpty&&nJ T as es)
 |_=>false)
|.isi a t,e=>e.ctorIdx==16&&(fI 23 e&&(aI e&&match e with
 |.Call (.Name x _) [l,.Name y _] [] _=>decide (x=("isinstance":Str))&&rT T.sc x&&T.bn.contains x&&decide (y=t.name)&&decide (t≠.none)&&rT T.sc y&&T.bn.contains y&&noStar l&&dS T a l
 |_=>false))
|.mth m o as,e=>e.ctorIdx==16&&(fI 20 e&&match e with
 |.Call (.Attribute l nm apos) es [] cpos=>decide (nm=m.name)&&vY l&&(apos.endLine==cpos.line)&&bW es&&decide (es.length<30)&&dS T o l&&nJ T as es
 |_=>false)
|.ix a b,e=>e.ctorIdx==21&&match e with
 |.Subscript l r _=>v5 r&&dS T a l&&dS T b r
 |_=>false
|.sl a lo hi,e=>e.ctorIdx==21&&(uI e&&match e with
 |.Subscript l (.Slice x y none _) _=>dS T a l&&OS T lo x&&OS T hi y
 |_=>false)
|.lst as,e=>e.ctorIdx==24&&match e with
 |.List es _=>bW es&&nJ T as es
 |_=>false
|.tup as,e=>e.ctorIdx==25&&match e with
 |.Tuple es _ _=>bW es&&nJ T as es
 |_=>false
|.dct,e=>e.ctorIdx==6&&match e with
 |.Dict [] [] _=>true
 |_=>false
|.dcs ps,e=>e.ctorIdx==6&&match e with
 |.Dict ks vs _=>decide (1<=ps.length/\ps.length<=15)&&Bc ps ks vs
 |_=>false
|.comp nl fr elt tg src cond,e=>e.ctorIdx==8&&match e with
 |.ListComp l [⟨t,it,ifs,0⟩] sc _=>T.calm&&(rG T.sc T.N sc nl fr&&(Bb it&&OQ src t)&&OT T src it&&Af (EX T sc nl fr) tg t&&VP (EX T sc nl fr) cond ifs&&dS (EX T sc nl fr) elt l)
 |_=>false
|.isx one gs a,e=>e.ctorIdx==16&&(fI 23 e&&match e with
 |.Call (.Name x _) [l,c] [] _=>decide (x=("isinstance":Str))&&rT T.sc x&&T.bn.contains x&&noStar l&&JC T one gs c&&dS T a l
 |_=>false)
|.isv g a,e=>e.ctorIdx==16&&(fI 23 e&&(aI e&&match e with
 |.Call (.Name x _) [l,.Name y _] [] _=>decide (x=("isinstance":Str))&&rT T.sc x&&T.bn.contains x&&decide (y=("ValueError":Str))&&rT T.sc y&&T.bn.contains y&&noStar l&&dS T a l&&decide (g<T.gl.length)
 |_=>false))
|.att g a f,e=>e.ctorIdx==20&&match e with
 |.Attribute l nm _=>decide (nm=f)&&vY l&&dS T a l&&decide (g<T.gl.length)
 |_=>false
noncomputable def nJ(T:Tab):j6->List Expr->Bool
|.nil,es=>match es with
 |[]=>true
 |_=>false
|.cons a r,es=>match es with
 |e::er=>dS T a e&&nJ T r er
 |_=>false
noncomputable def OS(T:Tab):CO->Option Expr->Bool
|.none,e=>match e with
 |none=>true
 |_=>false
|.some a,e=>match e with
 |some x=>dS T a x
 |_=>false
noncomputable def VP(T:Tab):CO->List Expr->Bool
|.none,es=>match es with
 |[]=>true
 |_=>false
|.some a,es=>match es with
 |[x]=>dS T a x
 |_=>false
noncomputable def Af(T:Tab):CG->Expr->Bool
|.name i,e=>e.ctorIdx==23&&match e with
 |.Name x _=>decide (T.N[i]?=some x)&&OP T x
 |_=>false
|.tup gs,e=>e.ctorIdx==25&&match e with
 |.Tuple es _ _=>T.calm&&(bW es&&EZ T gs es)
 |_=>false
|.sub o i,e=>e.ctorIdx==21&&match e with
 |.Subscript l r _=>v5 r&&dS T o l&&dS T i r
 |_=>false
noncomputable def EZ(T:Tab):j7->List Expr->Bool
|.nil,es=>match es with
 |[]=>true
 |_=>false
|.cons g r,es=>match es with
 |e::er=>Af T g e&&EZ T r er
 |_=>false
noncomputable def OT(T:Tab):CI->Expr->Bool
|.seq a,e=>dS T a e
|.range as,e=>e.ctorIdx==16&&(fI 23 e&&match e with
 |.Call (.Name x _) es [] _=>decide (x=("range":Str))&&rT T.sc x&&T.bn.contains x&&bW es&&!es.isEmpty&&nJ T as es
 |_=>false)
|.enum a,e=>e.ctorIdx==16&&(fI 23 e&&match e with
 |.Call (.Name x _) [l] [] _=>decide (x=("enumerate":Str))&&rT T.sc x&&T.bn.contains x&&noStar l&&dS T a l
 |_=>false)
end
noncomputable def JD(T:Tab):CB->List Stmt->Bool
|.call g as,sts=>bI1 sts&&match sts with
 |[.Expr (.Call (.Name x _) es [] _) _]=>decide (T.gl[g]?=some x)&&rT T.sc x&&!(x==("__debug__":Str))&&bW es&&!es.isEmpty&&nJ T as es
 |_=>false
|.ite c a b,sts=>bI2 sts&&match sts with
 |[.If t x y _]=>dS T c t&&JD T a x&&JD T b y
 |_=>false
noncomputable def JE(T:Tab):Tab:={ T with calm:=false }
mutual
noncomputable def JF(T:Tab):CS->Stmt->Bool
|.expr c,st=>st.ctorIdx==24&&match st with
 |.Expr e _=>u6 e&&dS T c e
 |_=>false
|.asg g c,st=>st.ctorIdx==5&&match st with
 |.Assign [t] e _=>(u6 e||OR T.sc t)&&notTuple t&&Af T g t&&dS T c e
 |_=>false
|.casg i c,st=>st.ctorIdx==5&&(cI2 st&&match st with
 |.Assign [.Name y py] (.ListComp l gs sc vpos) _=>T.calm&&(decide (T.N[i]?=some y)&&EY T.sc sc y py vpos&&dS T c (.ListComp l gs sc vpos))
 |_=>false)
|.ret c,st=>st.ctorIdx==3&&match st with
 |.Return (some e) _=>dS T c e
 |_=>false
|.ifs c a b,st=>st.ctorIdx==12&&match st with
 |.If t x y _=>dS T c t&&mK T a x&&mK T b y
 |_=>false
|.forr g src b,st=>st.ctorIdx==9&&match st with
 |.For t it x [] _=>T.calm&&((Bb it&&OQ src t)&&OT T src it&&Af T g t&&mK T b x)
 |_=>false
|.fork g k b,st=>st.ctorIdx==9&&match st with
 |.For t it x [] _=>T.calm&&(Bb it&&dS T (.var k) it&&Af T g t&&mK T b x)
 |_=>false
|.brk,st=>st.ctorIdx==26&&match st with
 |.Break _=>true
 |_=>false
|.cont,st=>st.ctorIdx==27&&match st with
 |.Continue _=>true
 |_=>false
|.never,_=>true
|.rais g as,st=>st.ctorIdx==16&&(rI st&&match st with
 |.Raise (some (.Call (.Name x _) es [] _)) none _=>T.calm&&(decide (T.gl[g]?=some x)&&rT T.sc x&&!(x==("__debug__":Str))&&bW es&&!es.isEmpty&&nJ T as es)
 |_=>false)
|.tri i g b h,st=>st.ctorIdx==17&&(tI st&&match st with
 |.Try body [.ExceptHandler (some (.Name x _)) (some n) (s0::sr) _] [] [] _=>T.calm&&(decide (T.gl[g]?=some x)&&rT T.sc x&&!(x==("__debug__":Str))&&decide (T.N[i]?=some n)&&decide (T.sc.names.lookup n=some .local)&&JD T b body&&mK (JE T) h (s0::sr))
 |_=>false)
noncomputable def mK(T:Tab):cJ->List Stmt->Bool
|.nil,sts=>match sts with
 |[]=>true
 |_=>false
|.cons s r,sts=>match sts with
 |st::sr=>JF T s st&&mK T r sr
 |_=>false
|.two s t r,sts=>match sts with
 |st::su::sr=>JF T s st&&(JF T t su&&mK T r sr)
 |_=>false
|.pin k r,sts=>mK T r sts
end
structure uG (K:PySem.W.Frag) (C:Addr):Prop extends xB K C where
 ha:PySem.W.findIn K (.ref C) "__class__"=some (some (.builtin "object.__class__"))
 hn:PySem.W.specialIn K (.builtin "object.__class__") "__get__"=some (some (.builtin "getset_descriptor.__get__"))
 htk:PySem.W.takesIn K (.builtin "object.__class__")=some true
def gY(K:PySem.W.Frag)(D:Addr)(Cs:List Addr):Prop:=PySem.W.kitOne K (.type "NoneType") (.ref D)=some false/\∀C∈Cs,uG K C/\PySem.W.kitOne K (.ref C) (.ref D)=some (decide (C=D))
def tL(K:PySem.W.Frag)(Cs:List Addr)(as:List Str):Prop:=PySem.W.kitOne K (.type "NoneType") (.type "ValueError")=some false/\∀C∈Cs,uG K C/\PySem.W.kitOne K (.ref C) (.type "ValueError")=some true/\∀f∈as,ju K C f
def E1(P:bJ)(w:bS)(K:PySem.W.Frag)(mg:Str->Option Value)(base:Heap)(k:Nat)(C:Addr)(fs:List (Str×Nat))(n:Nat):Prop:=
 ∃(fI:Addr) (fd:fM) (ps:List Str),Fw K C fI/\fK P w K mg base zF k fI fd ps (xC C fs ps.length)/\Binds K fd ps []/\ps.length<=1000/\(∀p∈fs,1<=p.2)/\ps.length=n
def GOk(X:Cx)(E:XK)(x:Str):G->Prop
|.val v=>∃u,X.mg x=some u/\RelV v u
|.tup a xs=>X.mg x=some (.ref a)/\H9 X.K a true xs
|.fn sp dvs=>∃(k:Nat) (f:Addr) (fd:fM) (ps:List Str) (ds:List Value),fK X.prog X.w X.K X.mg X.base (j5 X.prog X.w) k f fd ps sp/\h_ k X.A/\X.mg x=some (.ref f)/\PySem.W.keepIn X.K (.ref f)=true/\Binds X.K fd ps ds/\bK dvs ds /\
  xy (j5 X.prog X.w) X E
|.cls C fs n=>X.mg x=some (.ref C)/\∃k,h_ (k+1) X.A/\E1 X.prog X.w X.K X.mg X.base k C fs n
|.iB D Cs=>X.mg x=some (.ref D)/\gY X.K D Cs
|.ou Cs as=>tL X.K Cs as
|.exb B _=>X.mg x=some (.ref B)/\A6 X.K B
|.nop=>True
theorem OU{outer:List Env}{e:Value}{s':aj}(h:j5 P w outer H s E0 e s'):False:=by
 obtain⟨_,_,_,_,_,_,_,_,_,_,q⟩:=h;exact q
structure Ok (X:Cx) (T:Tab) (Y:List G) (E:XK):Prop where
 N:X.N=T.N
 nd:X.N.Nodup
 sc:X.env.scope=T.sc
 kind:X.env.scope.kind=.function
 gl:∀(i:Nat) (x:Str) (g:G),T.gl[i]?=some x->Y[i]?=some g->GOk X E x g
 bn:∀x∈T.bn,X.mg x=none
 own:∀x,T.own x=true->X.fn x=true
 calm:T.calm=true->X.calm=true
 po:yz (aH X.prog X.w) X.A X.env X.xe
 room:X.A.units+60<dM
variable{T:Tab}{Y:List G}{sc:fP}{nl:List Str}{fr:List Nat}
theorem oQ{E:XK}(ok:Ok X T Y E)(h:rG T.sc T.N sc nl fr=true)(C:Addr)(ZD:aj)(H:Hp)(ex:List Addr) :
  Ok (kY X (jK X.N nl fr) sc C ZD H ex) (EX T sc nl fr) Y E0:=by
 unfold rG at h;simp only[bq,decide_eq_true_eq]at h;obtain⟨⟨⟨⟨⟨h1,h2⟩,h3⟩,h4⟩,h5⟩,h6⟩:=h;refine⟨?_,?_,?_,h1,fun i x g hx hg=>?_,ok.bn,fun x z=>z,ok.calm,ux,ok.room⟩
 ·show jK X.N nl fr=jK T.N nl fr;rw[ok.N]
 ·show(jK X.N nl fr).Nodup;rw[ok.N];exact h6
 ·show l8 sc X.env=Dq sc T.sc;rw[<-ok.sc];rfl
 ·have q:=ok.gl i x g hx hg;cases g with
  |val v=>exact q
  |tup a xs=>exact q
  |fn sp dvs=>
   obtain⟨k,f,fd,ps,ds,q1,q2,q3,q4,q5,q6,q7⟩:=q;exact⟨k,f,fd,ps,ds,q1,q2,q3,q4,q5,q6,fun pins O H s e s' I z=>(OU z).elim⟩
  |_=>exact q
variable{N:List Str}
theorem LJ(h:rG sc N scope nl fr=true):u5 sc N scope nl fr:=by
 unfold rG at h;simp only[bq,decide_eq_true_eq]at h;obtain⟨⟨⟨⟨⟨h1,h2⟩,h3⟩,h4⟩,h5⟩,h6⟩:=h;refine⟨h1,fun y hy=>of_decide_eq_true (bE.mp h2 y hy),fun x hx=>of_decide_eq_true (bE.mp h3 x hx),fun n hn=>?_,fun i hi=>?_⟩
 ·exact of_decide_eq_true (bE.mp h4 (n,.free) hn) rfl
 ·have q:=bE.mp h5 i hi;revert q;cases N[i]? with
  |none=>intro q;exact absurd q ak
  |some x=>intro q;exact⟨x,rfl,of_decide_eq_true q⟩
variable{o:Expr}
variable{b:Expr}
section
variable{env:Env}
theorem e_(h:noStar e=true):cY (e::es) env=(false,eval e env)::cY es env:=by
 cases e<;>first|rfl|exact absurd (show false=true from h) ak
theorem Ag:∀{es:List Expr},bW es=true->cY es env=es.map fun e=>(false,eval e env)
|[],_=>rfl
|e::es,h=>by
 have h':noStar e=true/\bW es=true:=by simpa[bW]using h
 rw[e_ h'.1,Ag h'.2];rfl
theorem m_(h:bW es=true):(mF pos (cY es env)).any (·.1)=false:=by
 rw[Ag h];unfold mF;rw[c9,oq];rw[gz];intro x _;simp
theorem OV(h:bW es=true)(hl:es.length<30) :
  ((mF pos (cY es env)).all (fun x=>!x.1)&&(backToKw pos (keywordEach [] env)).all (fun x=>x.1.isSome)&&decide (es.length+([]:List C1).length+(if([]:List C1).isEmpty then 0 else 1)<30))=true:=by
 rw[Ag h];unfold mF;rw[c9,ir];have e1:(es.all ((fun x:Bool×Sem Value=>!x.1)∘(fun x:Bool×Sem Value=>(x.1,if x.1 then do let v <-x.2;vq pos;pure v else x.2))∘fun e=>(false,eval e env)))=true:=by
  rw[bE];intro x _;rfl
 have e2:decide (es.length+([]:List C1).length+(if([]:List C1).isEmpty then 0 else 1)<30)=true:=by
  simpa using hl
 rw[e2,gK];exact iN.mpr ⟨e1,rfl⟩
theorem Cn{nm:Str}{whole:Sem Value}(h:vY o=true):qB o nm env whole=whole:=by
 unfold qB;split
 ·rename_i id p pos;have:(id==("super":Str))=false:=by simpa[vY]using h
  have h2:(id != ("super":Str))=true:=by simp[bne,this]
  simp only[h2,G0,if_true]
 ·rfl
theorem JG(h:v5 b=true):HZ b:=by
 intro o i;cases b<;>first|rfl|exact absurd (show false=true from h) ak
theorem tM(h:Bb e=true):∀x,jL e env x=pure x:=by
 intro x;cases e<;>first|rfl|exact absurd (show false=true from h) ak
theorem Bd{t:Option Expr}(h:u6 e=true):ny e t n env=pure false:=by
 cases e<;>first|rfl|exact absurd (show false=true from h) ak
theorem VQ(h:OO env.scope x=true):E8 env.scope x:=by
 unfold OO at h;unfold E8;split at h
 ·exact .inl (by assumption)
 ·exact .inr (.inl (by assumption))
 ·exact .inr (.inr (by assumption))
 ·exact absurd h ak
theorem uH(h:noStar e=true):iL (e::es) env=(false,qp e env)::iL es env:=by
 cases e<;>first|rfl|exact absurd (show false=true from h) ak
theorem v7:∀{es:List Expr},bW es=true->(iL es env).length=es.length/\(iL es env).findIdx? (·.1)=none
|[],_=>⟨rfl,rfl⟩
|e::es,h=>by
 have h':noStar e=true/\bW es=true:=by simpa[bW]using h
 obtain⟨a,b⟩:=v7 h'.2;rw[uH h'.1];refine⟨by simp[a],?_⟩;rw[List.findIdx?_cons];simp[b]
end
variable{rest:List Expr}
variable{op op':n9}
variable{er:List Expr}
section
variable{X:Cx}{a b c:Expr}{ta tb tc:TE}{pos:Pos}{o:Expr}{to:TE}{es:List Expr}{t:TA}{apos cpos:Pos}{m:Mt}
theorem pe_and'(ha:PE X a ta)(hb:PE X (.BoolOp .And (b::rest) pos) tb):PE X (.BoolOp .And (a::b::rest) pos) (fun O H Q=>ta O H fun x H1=>match x with
  |.bl c=>if c=true then tb O H1 Q else Q (.bl false) H1
  |_=>False):=by
 intro pins s O H Q I h;refine BoolOp_and (aY (ha pins s O H _ I h) fun v s1 ⟨x,H1,I1,r1,q1⟩=>?_);cases x with
 |bl c=>
  cases r1;refine eV ?_;cases c with
  |true=>exact hb pins s1 O H1 Q I1 q1
  |false=>exact⟨.bl false,H1,I1,rfl,q1⟩
 |_=>exact au q1
theorem pe_or'(ha:PE X a ta)(hb:PE X (.BoolOp .Or (b::rest) pos) tb):PE X (.BoolOp .Or (a::b::rest) pos) (fun O H Q=>ta O H fun x H1=>match x with
  |.bl c=>if c=true then Q (.bl true) H1 else tb O H1 Q
  |_=>False):=by
 intro pins s O H Q I h;refine BoolOp_or (aY (ha pins s O H _ I h) fun v s1 ⟨x,H1,I1,r1,q1⟩=>?_);cases x with
 |bl c=>
  cases r1;refine eV ?_;cases c with
  |false=>exact hb pins s1 O H1 Q I1 q1
  |true=>exact⟨.bl true,H1,I1,rfl,q1⟩
 |_=>exact au q1
theorem pe_not'(ha:PE X a ta):PE X (.UnaryOp .Not a pos) (fun O H Q=>ta O H fun x H1=>jO X.K x H1 fun b=>Q (.bl (!b)) H1):=by
 intro pins s O H Q I h;refine UnaryOp_ (aY (ha pins s O H _ I h) fun v s1 ⟨x,H1,I1,r1,q1⟩=>?_);refine not_of (aY (R7 pins s1 O H1 x v (fun b H2=>Q (.bl (!b)) H2) I1 r1 ?_) fun b s2 ⟨H2,I2,q2⟩=>⟨.bl (!b),H2,I2,rfl,q2⟩);exact q1
theorem pe_neg'(ha:PE X a ta):PE X (.UnaryOp .USub a pos) (fun O H Q=>ta O H fun x H1=>match x with
  |.int i=>Q (.int (-i)) H1
  |_=>False):=by
 intro pins s O H Q I h;refine UnaryOp_ (aY (ha pins s O H _ I h) fun v s1 ⟨x,H1,I1,r1,q1⟩=>?_);cases x with
 |int i=>exact Vj pins s1 O H1 (.int i) v Q I1 r1 ⟨i,rfl,q1⟩
 |_=>exact au q1
theorem pe_chain'(hu:X.A.units+60<dM)(ha:PE X a ta)(hb:PE X b tb)(hc:PE X c tc)(hm:Ew [op,op'] [b,c]=false):PE X (.Compare a [op,op'] [b,c] pos) (fun O H Q=>ta O H fun x H1=>tb O H1 fun y H2=>mT X.K op x y H2 fun z H3=>match z with
  |.bl k=>if k=true then tc O H3 fun u H4=>mT X.K op' y u H4 Q else Q (.bl false) H3
  |_=>False):=by
 intro pins s O H Q I h;refine Compare_chain (aY (ha pins s O H _ I h) fun v s1 ⟨x,H1,I1,r1,q1⟩=>chain_link (aY (hb pins s1 O H1 _ I1 q1) fun u s2 ⟨y,H2,I2,r2,q2⟩=>
  aY (yV hu op pins s2 O H2 x y v u _ I2 r1 r2 q2) fun d s3 ⟨z,H3,I3,r3,q3⟩=>?_)) hm
 cases z with
 |bl k=>
  cases r3;refine eV ?_;cases k with
  |false=>exact ite_ff ⟨.bl false,H3,I3,rfl,q3⟩
  |true=>exact ite_tt (chain_last (aY (hc pins s3 O H3 _ I3 q3) fun w' s4 ⟨z',H4,I4,r4,q4⟩=>yV hu op' pins s4 O H4 y z' u w' Q I4 r2 r4 q4))
 |_=>exact au q3
theorem pt_chain'(hu:X.A.units+60<dM)(ha:PE X a ta)(hb:PE X b tb)(hc:PE X c tc)(hm:Ew [op,op'] [b,c]=false):PT X (.Compare a [op,op'] [b,c] pos) (fun O H Q=>ta O H fun x H1=>tb O H1 fun y H2=>mT X.K op x y H2 fun z H3=>match z with
  |.bl k=>if k=true then tc O H3 fun u H4=>mT X.K op' y u H4 fun z H5=>match z with
   |.bl k=>Q k H5
   |_=>False
   else Q false H3
  |_=>False):=by
 intro pins s O H Q I h;refine isTrue_chain (aY (ha pins s O H _ I h) fun v s1 ⟨x,H1,I1,r1,q1⟩=>test_link (aY (hb pins s1 O H1 _ I1 q1) fun u s2 ⟨y,H2,I2,r2,q2⟩=>
  aY (yV hu op pins s2 O H2 x y v u _ I2 r1 r2 q2) fun d s3 ⟨z,H3,I3,r3,q3⟩=>?_)) hm
 cases z with
 |bl k=>
  cases r3;refine eV ?_;cases k with
  |false=>exact ite_ff ⟨H3,I3,q3⟩
  |true=>
   refine ite_tt (test_last (aY (hc pins s3 O H3 _ I3 q3) fun w' s4 ⟨z',H4,I4,r4,q4⟩=>aY (yV hu op' pins s4 O H4 y z' u w' _ I4 r2 r4 q4) fun d' s5 ⟨z2,H5,I5,r5,q5⟩=>?_));cases z2 with
   |bl k2=>
    cases r5;exact eV ⟨H5,I5,q5⟩
   |_=>exact au q5
 |_=>exact au q3
theorem pt_cmp'(hu:X.A.units+60<dM)(ha:PE X a ta)(hb:PE X b tb)(hm:mR op b=false):PT X (.Compare a [op] [b] pos) (fun O H Q=>ta O H fun x H1=>tb O H1 fun y H2=>mT X.K op x y H2 fun z H3=>match z with
  |.bl k=>Q k H3
  |_=>False):=by
 intro pins s O H Q I h;refine wpAny_isTrue_Compare1 (aY (ha pins s O H _ I h) fun v s1 ⟨x,H1,I1,r1,q1⟩=>aY (hb pins s1 O H1 _ I1 q1) fun u s2 ⟨y,H2,I2,r2,q2⟩=>aY (yV hu op pins s2 O H2 x y v u _ I2 r1 r2 q2) fun d s3 ⟨z,H3,I3,r3,q3⟩=>?_) hm;cases z with
 |bl k=>
  cases r3;exact eV ⟨H3,I3,q3⟩
 |_=>exact au q3
theorem pt_val'(ha:PE X a ta)(he:∀whole,sR a X.env whole=(do let v <-whole;vq a.pos;o6 [v] (BU v))):PT X a (fun O H Q=>ta O H fun x H1=>jO X.K x H1 fun b=>Q b H1):=by
 intro pins s O H Q I h;exact isTrue_plain (aY (ha pins s O H _ I h) fun v s1 ⟨x,H1,I1,r1,q1⟩=>R7 pins s1 O H1 x v Q I1 r1 q1) (he _)
theorem VR(hu:X.A.units+60<dM)(ho:PE X o to)(ha:PA X (e::er) t)(hb:vY o=true)(hl:(apos.endLine==cpos.line)=true)(hs:bW (e::er)=true)(hf:(e::er).length<30) :
  PE X (.Call (.Attribute o m.name apos) (e::er) [] cpos) (fun O H Q=>to O H fun x H1=>tH m x H1/\t O H1 fun vs H2=>vR X.K m x vs H2 Q):=by
 intro pins s O H Q I h;refine wpAny_Call_method_late (Cn hb) (OV hs hf) hl rfl (aY (ho pins s O H _ I h) fun v s1 ⟨x,H1,I1,r1,hr,q1⟩=>?_);obtain⟨h1,h2⟩:=Ic I1 r1 hr;have fx:=FJ m x H1 hr;refine⟨EW m x,Jz m x,fx.pa,fx.slot,fx.ty,h1,h2,?_⟩;have run:=aY (ha cpos pins s1 O H1 _ I1 q1) fun us s2 ⟨vs,H2,I2,r2,q2⟩=>Ie hu I2 r1 r2 q2;have hs':noStar e=true/\bW er=true:=by simpa[bW]using hs
 rw[e_ hs'.1]at run ⊢;exact uV (by show(false||(mF cpos (cY er X.env)).any (·.1))=false;rw[m_ hs'.2]<;>rfl) (Calls.evalArgs_plain run)
theorem Tq(hu:X.A.units+60<dM)(ho:PE X o to)(hb:vY o=true)(hl:(apos.endLine==cpos.line)=true) :
  PE X (.Call (.Attribute o m.name apos) [] [] cpos) (fun O H Q=>to O H fun x H1=>tH m x H1/\vR X.K m x [] H1 Q):=by
 intro pins s O H Q I h;refine wpAny_Call_method0_late (Cn hb) hl (aY (ho pins s O H _ I h) fun v s1 ⟨x,H1,I1,r1,hr,q1⟩=>?_);obtain⟨h1,h2⟩:=Ic I1 r1 hr;have fx:=FJ m x H1 hr;exact⟨EW m x,Jz m x,fx.pa,fx.slot,fx.ty,h1,h2,uV rfl (PySem.evalArgs_none (Ie (us:=[]) hu I1 r1 .nil q1))⟩
theorem VS{ty:Ty}(hg:Gl X x)(hx:x="isinstance")(hm:X.mg x=none)(hgy:Gl X y)(hy:y=ty.name)(hty:ty≠.none)(hmy:X.mg y=none)(ha:PE X a ta)(hs:noStar a=true) :
  PE X (.Call (.Name x p) [a,.Name y py] [] pos) (fun O H Q=>ta O H fun v H1=>xE X.K ty v H1 fun b=>Q (.bl b) H1):=by
 subst hx hy;intro pins s O H Q I h;refine fy (pU I hg hm uy ?_);have hst:cY [a,.Name ty.name py] X.env=[(false,eval a X.env),(false,eval (.Name ty.name py) X.env)]:=by rw[e_ hs];rfl
 refine gy ?_ (by rw[hst];rfl) rfl;rw[hst];show aJ _ _ (ze ((false,eval a X.env)::[(false,eval (.Name ty.name py) X.env)])) _ _ s;refine fq (aY (ha pins s O H _ I h) fun u s1 ⟨v,H1,I1,r1,q1⟩=>?_);have hn:ty.name≠("__name__":Str):=by cases ty<;>decide +kernel
 have hd:(ty.name==("__debug__":Str))=false:=by cases ty<;>decide +kernel
 refine fq (pU I1 hgy hmy (Ty.boot ty hty) (jM ?_) hn hd);refine aY (VM I1 r1 q1 hty) fun w s2 ⟨z,H2,I2,r2,e,b,ez,qb⟩=>?_;subst e ez;exact⟨.bl b,_,I2,r2,qb⟩
theorem Bf.Tt(f:Bf):(∃id,f.val=.builtin id)\/∃T,f.val=.type T:=by
 cases f<;>first|exact .inl ⟨_,rfl⟩|exact .inr ⟨_,rfl⟩
theorem VT{f:Bf}(hc:X.calm=true)(hu:X.A.units+60<dM)(hg:Gl X x)(hx:x=f.name)(hm:X.mg x=none)(ha:PA X (e::er) t)(hs:bW (e::er)=true):PE X (.Call (.Name x p) (e::er) [] pos) (fun O H Q=>t O H fun vs H1=>Fz X.K f vs H1 Q):=by
 subst hx;have hs':noStar e=true/\bW er=true:=by simpa[bW]using hs
 intro pins s O H Q I h;refine fy (pU I hg hm f.boot ?_ f.ok.1 f.ok.2);have run:=aY (ha pos pins s O H _ I h) fun us s1 ⟨vs,H1,I1,r1,q1⟩=>Xx hc hu f pins s1 O H1 vs us Q I1 r1 q1;rcases f.Tt with⟨id,ev⟩|⟨T,ev⟩
 ·rw[ev]at run ⊢;exact gy run (e_ hs'.1) (m_ hs'.2)
 ·rw[ev]at run ⊢;exact j9 run (e_ hs'.1) (m_ hs'.2)
end
variable{g:Nat}
variable{u:Value}{gs:List Nat}
variable{one:Bool}
section
variable{X:Cx}{T:Tab}{Y:List G}{E:XK}{a:Expr}{ta:TE}{pos:Pos}
theorem Ok.xw(ok:Ok X T Y E):Ok X.xw T Y E0:=by
 refine⟨ok.N,ok.nd,ok.sc,ok.kind,fun i x g hx hg=>?_,ok.bn,ok.own,ok.calm,ux,ok.room⟩;have q:=ok.gl i x g hx hg;cases g with
 |fn sp dvs=>
  obtain⟨k,f,fd,ps,ds,q1,q2,q3,q4,q5,q6,q7⟩:=q;exact⟨k,f,fd,ps,ds,q1,q2,q3,q4,q5,q6,fun pins O H s e s' I z=>(OU z).elim⟩
 |_=>exact q
theorem Ok.hand(ok:Ok X T Y E)(v:Value):Ok (X.hand v) (JE T) (Y.map G.hand) E0:=by
 refine⟨ok.N,ok.nd,ok.sc,ok.kind,fun i x g hx hg=>?_,ok.bn,ok.own,(fun z=>nomatch z),ux,ok.room⟩;rw[aX]at hg;cases e:Y[i]? with
 |none=>rw[e]at hg;cases hg
 |some g0=>
  rw[e]at hg;cases hg;have q:=ok.gl i x g0 hx e;cases g0 with
  |fn sp dvs=>exact dc
  |cls C fs n=>exact dc
  |_=>exact q
noncomputable def uX:Option Addr->Value
|none=>.type "NoneType"
|some C=>.ref C
theorem Be{c:Option Addr}:∀(gs:List Nat) (b:Bool),(∀g∈gs,∀(D:Addr) (Cs:List Addr),Y[g]?=some (G.iB D Cs)->gY K D Cs)->uF Y gs c=some b->∀Ds,yU Y gs Ds->PySem.W.kitAny K (uX c) (Ds.map a6)=some b
|[],b,hK,h,Ds,hD=>by
 cases h;cases(show Ds=[]from hD);rfl
|g::gs,b,hK,h,Ds,hD=>by
 obtain⟨D,r,Cs,rfl,hg,hr⟩:=hD;have hK':=fun g' (hg':g'∈gs)=>hK g' (ai _ hg');unfold uF at h;rw[hg]at h;obtain⟨k1,k2⟩:=hK g ao D Cs hg;show(match PySem.W.kitOne K (uX c) (.ref D)with|some true=>some true|some false=>PySem.W.kitAny K (uX c) (r.map a6)|none=>none)=some b;cases c with
 |none=>
  rw[show PySem.W.kitOne K (uX none) (.ref D)=some false from k1];exact Be gs b hK' h r hr
 |some C=>
  dsimp only at h;split at h
  ·rename_i hC;rw[show PySem.W.kitOne K (uX (some C)) (.ref D)=some (decide (C=D))from(k2 C hC).2];split at h
   ·rename_i hD;rw[decide_eq_true hD];exact h
   ·rename_i hD;rw[decide_eq_false hD];exact Be gs b hK' h r hr
  ·cases h
theorem Ii{x:V}{cv:Value}{Q:Bool->Prop}(I:L2.Inv X pins O H s)(rx:RelV x u)(h:FA Y gs x H Q)(hK:∀g∈gs,∀(D:Addr) (Cs:List Addr),Y[g]?=some (G.iB D Cs)->gY X.K D Cs)
  (run:∀(c:Option Addr) (b:Bool) (Hx:Heap->Prop),PySem.W.KitX X.K u (uX c) Hx->Hx s.heap->(u=.builtin "__main__.__loader__#opaque"->False)->uF Y gs c=some b->Q b->
   aJ (aH X.prog X.w) X.A (call (.builtin "isinstance") [u,cv]) (EP X pins O fun y H'=>H'=H/\∃b,y=.bl b/\Q b) X.xe s) :
  aJ (aH X.prog X.w) X.A (call (.builtin "isinstance") [u,cv]) (EP X pins O fun y H'=>H'=H/\∃b,y=.bl b/\Q b) X.xe s:=by
 obtain⟨hne,_,_,h⟩:=h;cases x with
 |non=>
  cases(show u=eL from rx);obtain⟨b,h1,h2⟩:=h;exact run none b _ PySem.W.kitx_none dc (fun z=>nomatch z) h1 h2
 |ref e=>
  cases(show u=a6 e from rx);obtain⟨m,C,d,fs,he,hd,b,h1,h2⟩:=h;obtain⟨oe,vs,g1,g2,g3,g4,g5⟩:=yR I.hok he;obtain⟨mA,n1,_⟩:=ES I.hok hd;obtain⟨od,ho,_⟩:=pW n1;have J:PySem.W.InstAt s.heap e oe C (some od):=⟨g1,g2,by unfold PySem.W.notCls;rw[g4],by rw[g3];exact ho⟩;have xk:uG X.K C:=by
   cases gs with
   |nil=>exact absurd rfl hne
   |cons g gs=>
    unfold uF at h1;split at h1
    ·rename_i D Cs hg;split at h1
     ·rename_i z;cases z
     ·rename_i C' z;cases z;split at h1
      ·rename_i hC;exact((hK g ao D Cs hg).2 C hC).1
      ·cases h1
    ·cases h1
  exact run (some C) b _ (VB xk.toxB xk.ha xk.hn xk.htk) J (fun z=>nomatch z) h1 h2
 |_=>exact h.elim
theorem Ok.iB(ok:Ok X T Y E):∀{gs:List Nat}{es:List Expr},o_ T gs es=true->∀g∈gs,∀(D:Addr) (Cs:List Addr),Y[g]?=some (G.iB D Cs)->gY X.K D Cs
|[],es,h,g,hg=>absurd hg aB
|g::gs,[],h,_,_=>absurd (show false=true from h) ak
|g::gs,e::er,h,g',hg=>by
 have h':qX T g e=true/\o_ T gs er=true:=by simpa[o_]using h
 rcases aC.mp hg with rfl|hg
 ·intro D Cs e1;obtain⟨h1,_⟩:=h';unfold qX at h1;split at h1
  ·simp only[bq,decide_eq_true_eq]at h1;exact(ok.gl g' _ _ h1.1.1 e1).2
  ·exact absurd h1 ak
 ·exact ok.iB h'.2 g' hg
theorem R_(ok:Ok X T Y E){D:Addr}{Cs:List Addr}(h:qX T g e=true)(hg:Y[g]?=some (G.iB D Cs)):∃y p,e=.Name y p/\Gl X y/\X.mg y=some (.ref D)/\(y==("__debug__":Str))=false:=by
 unfold qX at h;split at h
 ·rename_i y p;simp only[bq,decide_eq_true_eq]at h;refine⟨y,p,rfl,?_,(ok.gl g y _ h.1.1 hg).1,by simpa using h.2⟩;have h2:=of_decide_eq_true h.1.2;rw[<-ok.sc]at h2;exact h2
 ·exact absurd h ak
theorem LK(ok:Ok X T Y E):∀(gs:List Nat) (es:List Expr),o_ T gs es=true->PA X es (fun _ H Q=>∃Ds,yU Y gs Ds/\Q (Ds.map V.ref) H)
|[],es,h=>by
 cases es with
 |nil=>
  intro pos pins s O H Q I q;obtain⟨Ds,e,q⟩:=q;cases(show Ds=[]from e);exact Fb pos pins s O H Q I q
 |cons e er=>exact absurd (show false=true from h) ak
|g::gs,[],h=>absurd (show false=true from h) ak
|g::gs,e::er,h=>by
 have h':qX T g e=true/\o_ T gs er=true:=by simpa[o_]using h
 intro pos pins s O H Q I q;obtain⟨_,⟨D,r,Cs,rfl,hg,hr⟩,q⟩:=q;obtain⟨y,p,rfl,z1,z2,z3⟩:=R_ ok h'.1 hg;exact B_ (B9 (v:=.ref D) z1 z2 rfl z3) (LK ok gs er h'.2) rfl pos pins s O H Q I ⟨r,hr,q⟩
theorem tG:∀(Ds:List Addr) (us:List Value),bK (Ds.map V.ref) us->us=Ds.map a6
|[],us,h=>by cases h;rfl
|D::Ds,us,h=>by
 cases h with
 |cons h1 h2=>rw[tG Ds _ h2,show _=a6 D from h1];rfl
theorem VU(ok:Ok X T Y E)(hg:Gl X x)(hx:x="isinstance")(hm:X.mg x=none)(ha:PE X a ta)(hs:noStar a=true)(hc:JC T one gs c=true) :
  PE X (.Call (.Name x p) [a,c] [] pos) (fun O H Q=>ta O H fun v H1=>FA Y gs v H1 fun b=>Q (.bl b) H1):=by
 subst hx;intro pins s O H Q I h;refine fy (pU I hg hm uy ?_);have hn:noStar c=true:=by
  cases one with
  |true=>cases gs with
   |nil=>exact absurd (show false=true from hc) ak
   |cons g gs=>cases gs with
    |nil=>cases c<;>first|rfl|exact absurd (show false=true from hc) ak
    |cons g' gs=>exact absurd (show false=true from hc) ak
  |false=>cases c<;>first|rfl|exact absurd (show false=true from hc) ak
 have hst:cY [a,c] X.env=[(false,eval a X.env),(false,eval c X.env)]:=by rw[e_ hs,e_ hn];rfl
 refine gy ?_ (e_ hs) (m_ (by simp[bW,hn]));rw[hst];show aJ _ _ (ze ((false,eval a X.env)::[(false,if false=true then _ else eval c X.env)])) _ _ s;refine fq (aY (ha pins s O H _ I h) fun u s1 ⟨v,H1,I1,r1,q1⟩=>?_);have fin:∀{s2:aj}{cv:Value},L2.Inv X pins O H1 s2->(aJ (aH X.prog X.w) X.A (call (.builtin "isinstance") [u,cv]) (EP X pins O fun y H'=>H'=H1/\∃b,y=.bl b/\Q (.bl b) H1) X.xe s2)->aJ (aH X.prog X.w) X.A (call (.builtin "isinstance") [u,cv]) (EP X pins O Q) X.xe s2:=
  fun I2 z=>aY z fun w s3 ⟨y,H3,I3,r3,e3,b,e4,qb⟩=>by subst e3 e4;exact⟨.bl b,_,I3,r3,qb⟩
 obtain⟨hne,hl,⟨Ds,hD⟩,_⟩:=id q1;cases one with
 |true=>
  cases gs with
  |nil=>exact absurd rfl hne
  |cons g gs=>cases gs with
   |cons g' gs=>exact absurd (show false=true from hc) ak
   |nil=>
    obtain⟨D,r,Cs,rfl,e1,hr⟩:=hD;obtain⟨y,py,rfl,z1,z2,z3⟩:=R_ ok (show qX T g c=true from hc) e1;refine fq (oG I1 z1 z2 (jM ?_) z3);have hK:=ok.iB (gs:=[g]) (es:=[.Name y py]) (by simpa[o_]using(show qX T g (.Name y py)=true from hc));refine fin I1 (Ii I1 r1 q1 hK fun c b Hx Z p hx e2 hq=>?_);have k:=Be [g] b hK e2 [D] ⟨D,[],Cs,rfl,e1,rfl⟩;have k1:PySem.W.kitOne X.K (uX c) (.ref D)=some b:=by
     have k:(match PySem.W.kitOne X.K (uX c) (.ref D)with|some true=>some true|some false=>some false|none=>none)=some b:=k;cases z:PySem.W.kitOne X.K (uX c) (.ref D)with
     |none=>rw[z]at k;cases k
     |some b'=>rw[z]at k;cases b'<;>exact k
    exact PySem.W.kia_one Z I1.gn p k1 hx fun tk=>⟨.bl b,H1,I1.tok _,rfl,rfl,b,rfl,hq⟩
 |false=>
  cases c<;>first|exact absurd (show false=true from hc) ak|skip
  rename_i es k tpos;have hc':bW es=true/\o_ T gs es=true:=by simpa[JC]using hc
  have hlD:∀{Ds:List Addr}{gs:List Nat},yU Y gs Ds->Ds.length=gs.length:=by
   intro Ds gs;induction gs generalizing Ds with
   |nil=>intro z;cases(show Ds=[]from z);rfl
   |cons g gs ih=>rintro⟨D,r,Cs,rfl,_,z⟩;simp[ih z]
  refine fq (xm (x1:=k) (aY (LK ok gs es hc'.2 tpos pins s1 O H1 (fun xs H2=>H2=H1/\xs=Ds.map V.ref) I1 ⟨Ds,hD,rfl,rfl⟩) fun us s2 ⟨xs,H2,I2,r,eH,ex⟩=>?_));subst eH ex;have eu:=tG Ds us r;subst eu;refine⟨by rw[ah,hlD hD,fX];omega,jM ?_⟩;have I3:L2.Inv X pins O H2 { s2 with heap:=s2.heap.push (zH (Ds.map a6)) }:=I2.kept (t':=s2.toks) fun b u q=>aM _ q;have hK:=ok.iB hc'.2;refine fin I3 (Ii I3 r1 q1 hK fun c b Hx Z p hx e2 hq=>?_);exact PySem.W.kia_tup Z I3.gn p (bU _ rfl) (Be gs b hK e2 Ds hD) hx fun tk=>⟨.bl b,H2,I3.tok _,rfl,rfl,b,rfl,hq⟩
theorem Tu:lH ("ValueError":Str)=some (.type "ValueError"):=by decide +kernel
theorem VW(hK:∀Cs as,Y[g]?=some (G.ou Cs as)->tL X.K Cs as)(hg:Gl X x)(hx:x="isinstance")(hm:X.mg x=none)(hgy:Gl X y)(hy:y="ValueError")(hmy:X.mg y=none)(ha:PE X a ta)(hs:noStar a=true) :
  PE X (.Call (.Name x p) [a,.Name y py] [] pos) (fun O H Q=>ta O H fun v H1=>Cf Y g v H1 fun b=>Q (.bl b) H1):=by
 subst hx hy;intro pins s O H Q I h;refine fy (pU I hg hm uy ?_);have hst:cY [a,.Name ("ValueError":Str) py] X.env=[(false,eval a X.env),(false,eval (.Name ("ValueError":Str) py) X.env)]:=by rw[e_ hs];rfl
 refine gy ?_ (by rw[hst];rfl) rfl;rw[hst];show aJ _ _ (ze ((false,eval a X.env)::[(false,eval (.Name ("ValueError":Str) py) X.env)])) _ _ s;refine fq (aY (ha pins s O H _ I h) fun u s1 ⟨v,H1,I1,r1,q1⟩=>?_);refine fq (pU I1 hgy hmy Tu (jM ?_));unfold Cf at q1;split at q1
 ·rename_i Cs as e1;obtain⟨k1,k2⟩:=hK Cs as e1;split at q1
  ·cases(show u=eL from r1);exact PySem.W.kia_one PySem.W.kitx_none I1.gn dc k1 (fun z=>nomatch z) fun tk=>⟨.bl false,H1,I1.tok _,rfl,q1⟩
  ·rename_i e;cases(show u=a6 e from r1);obtain⟨m,C,d,fs,he,hd,hC,q⟩:=q1;obtain⟨oe,vs,g1,g2,g3,g4,g5⟩:=yR I1.hok he;obtain⟨mA,n1,_⟩:=ES I1.hok hd;obtain⟨od,ho,_⟩:=pW n1;have J:PySem.W.InstAt s1.heap e oe C (some od):=⟨g1,g2,by unfold PySem.W.notCls;rw[g4],by rw[g3];exact ho⟩;have xk:=(k2 C hC).1;exact PySem.W.kia_one (VB xk.toxB xk.ha xk.hn xk.htk) I1.gn J (k2 C hC).2.1 (fun z=>nomatch z) fun tk=>⟨.bl true,H1,I1.tok _,rfl,q⟩
  ·exact q1.elim
 ·exact q1.elim
theorem VX{f:Str}(hK:∀Cs as,Y[g]?=some (G.ou Cs as)->tL X.K Cs as)(ha:PE X a ta)(hb:vY a=true):PE X (.Attribute a f pos) (fun O H Q=>ta O H fun v H1=>FE Y g f v H1 Q):=by
 intro pins s O H Q I h;refine HW (Cn hb) (aY (ha pins s O H _ I h) fun u s1 ⟨v,H1,I1,r1,q1⟩=>?_);unfold FE at q1;split at q1
 ·rename_i Cs as e1;split at q1
  ·rename_i e;cases(show u=a6 e from r1);obtain⟨m,C,d,fs,he,hd,⟨hC,hf⟩,v,l,q⟩:=q1;have k:=(hK Cs as e1).2 C hC;exact S8 I1 he hd k.1.toxB (k.2.2 f hf) l fun u' s2 I2 ru=>⟨v,H1,I2,ru,q⟩
  ·exact q1.elim
 ·exact q1.elim
end
theorem band{a b:Bool}(h:(a&&b)=true):a=true/\b=true:=by simpa using h
variable{x1 x2 x3:Bool}
theorem pe(h:(x1&&x2&&x3)=true):(x1=true/\x2=true)/\x3=true:=⟨band (band h).1,(band h).2⟩
variable{x4:Bool}
theorem yX(h:(x1&&x2&&x3&&x4)=true):((x1=true/\x2=true)/\x3=true)/\x4=true:=⟨pe (band h).1,(band h).2⟩
variable{x5:Bool}
theorem E2(h:(x1&&x2&&x3&&x4&&x5)=true):(((x1=true/\x2=true)/\x3=true)/\x4=true)/\x5=true:=⟨yX (band h).1,(band h).2⟩
variable{x6:Bool}
theorem qY(h:(x1&&x2&&x3&&x4&&x5&&x6)=true):((((x1=true/\x2=true)/\x3=true)/\x4=true)/\x5=true)/\x6=true:=⟨E2 (band h).1,(band h).2⟩
variable{x7:Bool}
theorem JH(h:(x1&&x2&&x3&&x4&&x5&&x6&&x7)=true):(((((x1=true/\x2=true)/\x3=true)/\x4=true)/\x5=true)/\x6=true)/\x7=true:=⟨qY (band h).1,(band h).2⟩
variable{x8:Bool}
theorem Xy(h:(x1&&x2&&x3&&x4&&x5&&x6&&x7&&x8)=true):((((((x1=true/\x2=true)/\x3=true)/\x4=true)/\x5=true)/\x6=true)/\x7=true)/\x8=true:=⟨JH (band h).1,(band h).2⟩
theorem Sa{x9:Bool}(h:(x1&&x2&&x3&&x4&&x5&&x6&&x7&&x8&&x9)=true):(((((((x1=true/\x2=true)/\x3=true)/\x4=true)/\x5=true)/\x6=true)/\x7=true)/\x8=true)/\x9=true:=⟨Xy (band h).1,(band h).2⟩
theorem rV{a:Bool}(h:(!a)=true):a=false:=by simpa using h
theorem no{P:Prop}(h:false=true):P:=absurd h ak
variable{k:Nat}
variable{as:j6}
section
variable{X:Cx}{T:Tab}{Y:List G}{E:XK}
theorem Ok.lR(ok:Ok X T Y E)(h:rT T.sc x=true):Gl X x:=by
 have h:=of_decide_eq_true h;rw[<-ok.sc]at h;exact h
theorem Ok.tN(ok:Ok X T Y E)(h:T.bn.contains x=true):X.mg x=none:=ok.bn x (by simpa using h)
theorem Ok.JI(ok:Ok X T Y E)(h:decide (T.N[i]?=some x)=true):X.N[i]?=some x:=by rw[ok.N];exact of_decide_eq_true h
theorem Ok.Bg(ok:Ok X T Y E)(h:rG T.sc T.N scope nl fr=true):u5 X.env.scope X.N scope nl fr:=by rw[ok.sc,ok.N];exact LJ h
theorem Ll{v:V}{c:Const}{j:Nat}(h:VO v c=true):PE X (.Constant c j pos) (fun _ H Q=>Q v H):=by
 cases v<;>cases c<;>first|exact no h|skip
 ·exact U3
 ·have e:=of_decide_eq_true h;subst e;exact W5
 ·have e:=of_decide_eq_true h;subst e;exact Lb
 ·have e:=of_decide_eq_true h;subst e;exact Lc
noncomputable def VY(ps:List (Str×Int)):List (TE×TE):=ps.map fun p=>(tC (.str p.1),tC (.int p.2))
theorem Ij:∀(ps:List (Str×Int)) {O:L2.St}{H:Hp}{Q:List (V×V)->Hp->Prop},Q (ps.map fun p=>(V.str p.1,V.int p.2)) H->A1 (VY ps) O H Q
|[],_,_,_,h=>h
|p::r,O,H,Q,h=>Ij r (Q:=fun ps H3=>Q ((V.str p.1,V.int p.2)::ps) H3) h
theorem FN{pos:Pos}:∀{ps:List (Str×Int)}{ks:List (Option Expr)}{vs:List Expr},Bc ps ks vs=true->Lr X pos ks vs (VY ps)/\ks.all (·.isSome)=true/\ks.length=vs.length/\ks.length=ps.length
|[],ks,vs,h=>by
 obtain⟨h1,h2⟩:=band h;obtain rfl:=AS.mp h1;obtain rfl:=AS.mp h2;exact⟨S3,rfl,rfl,rfl⟩
|p::r,ks,vs,h=>by
 unfold Bc at h;split at h
 ·obtain⟨h1,h2⟩:=band h;obtain⟨rfl,rfl⟩:=of_decide_eq_true h1;obtain⟨q1,q2,q3,q4⟩:=FN (pos:=pos) h2;exact⟨Ox Lc Lb q1,by simp[q2],by simp[q3],by simp[q4]⟩
 ·exact no h
theorem VZ{ps:List (Str×Int)}{ks:List (Option Expr)}{vs:List Expr}(hl:1<=ps.length/\ps.length<=15)(h:Bc ps ks vs=true):PE X (.Dict ks vs pos) (fun _ H Q=>∀p,H p=none->Q (.ref p) (upd H p (.dK (kH [] (ps.map fun p=>(.inr p.1,V.int p.2)))))):=by
 intro pins s O H Q I q;obtain⟨q1,q2,q3,q4⟩:=FN (X:=X) (pos:=pos) h;refine S4 q1 q2 q3 (fun z=>by rw[z]at q4;simp at q4;omega) (by omega) pins s O H Q I fun p hp=>Ij ps ⟨bD,ps.map fun p=>(.inr p.1,V.int p.2),by simp[kV],by rw[ah];exact hl.2,?_⟩;have e:upd (upd H p (.dK [])) p (.dK (kH [] (ps.map fun p=>(.inr p.1,V.int p.2))))=upd H p (.dK (kH [] (ps.map fun p=>(.inr p.1,V.int p.2)))):=by
  funext b;by_cases z:b=p
  ·rw[z,bD,bD]
  ·rw[aO z,aO z,aO z]
 rw[e];exact q p hp
theorem Tv(hN:X.N[i]?=some x)(hv:E8 X.env.scope x)(h1:(x==("__debug__":Str))=false)(h2:(x==("__classdict__":Str))=false):PE X (.Name x p) (fun O H Q=>kc O i fun v=>Q v H):=by
 intro pins s O H Q I h;refine E9 hN hv h1 h2 pins s O H Q I ?_;unfold kc at h;split at h
 ·exact⟨_,by assumption,h⟩
 ·exact h.elim
theorem V3(ok:Ok X T Y E)(hx:T.gl[g]?=some x)(hg:Gl X x)(hd:(x==("__debug__":Str))=false):PE X (.Name x p) (fun _ H Q=>match Y[g]? with
  |some (.val v)=>Q v H
  |some (.tup a _)=>Q (.ref a) H
  |_=>False):=by
 intro pins s O H Q I h;split at h
 ·rename_i v e;obtain⟨u,hm,r⟩:=ok.gl g x _ hx e;exact B9 hg hm r hd pins s O H Q I h
 ·rename_i a xs e;obtain⟨hm,_⟩:=ok.gl g x _ hx e;exact B9 (v:=.ref a) hg hm rfl hd pins s O H Q I h
 ·exact h.elim
theorem Xz{t:TA}(ok:Ok X T Y E)(hx:T.gl[g]?=some x)(hg:Gl X x)(hd:(x==("__debug__":Str))=false)(ha:PA X es t)(hn:es=[]->t=fun _ H Q=>Q [] H)(hs:bW es=true) :
  PE X (.Call (.Name x p) es [] pos) (fun O H Q=>match Y[g]? with
   |some (.fn sp dvs)=>t O H fun vs H1=>sp (vs++dvs) H1 Q E
   |_=>False):=by
 intro pins s O H Q I h;split at h
 ·rename_i sp dvs e;obtain⟨k,f,fd,ps,ds,q1,q2,q3,q4,q5,q6,q7⟩:=ok.gl g x _ hx e;cases es with
  |nil=>
   have e:=hn rfl;subst e;exact Ot q1 q2 hg q3 q4 q5 q6 q7 hd pins s O H Q I h
  |cons e er=>
   have hs':noStar e=true/\bW er=true:=by simpa[bW]using hs
   exact SQ q1 q2 hg q3 q4 q5 q6 q7 ha hd (e_ hs'.1) (m_ hs'.2) pins s O H Q I h
 ·exact h.elim
theorem Tw(ok:Ok X T Y E)(hi:X.N[i]?=some x)(hl:OP T x=true):PG X (.Name x p) (fun v O H Q=>Q (O.set i (some v)) H):=by
 unfold OP at hl;have hsc:=ok.sc;split at hl
 ·rename_i e;rw[<-hsc]at e;exact HU ok.nd hi (.inl e) (.inr e)
 ·rename_i e;rw[<-hsc]at e;exact HU ok.nd hi (.inr e) (.inl (ok.own x hl))
 ·exact no hl
theorem pg_tup'{gs:j7}{t:zB}(hc:X.calm=true)(h:AX X es t)(hn:es.length=gs.len)(hs:bW es=true):PG X (.Tuple es k pos) (fun v O H Q=>match v with
  |.ref a=>rP X.K H a fun t' xs=>t'=true/\xs.length=gs.len/\t xs O H Q
  |_=>False):=by
 intro pins s O H v u Q I r hw;cases v with
 |ref a=>
  obtain⟨t',xs,hx,ht,hl,hw⟩:=hw;subst ht;rcases hx.sq with⟨hf,_⟩|⟨_,z⟩
  ·cases hf
  ·exact U8 (n:=es.length) hc h (v7 hs).1 (v7 hs).2 pins s O H _ u Q I r ⟨a,xs,rfl,z,by omega,hw⟩
 |_=>exact au hw
theorem pg_sub'{i:Expr}{to ti:TE}(hu:X.A.units+60<dM)(hp:v5 i=true)(ho:PE X o to)(hi:PE X i ti):PG X (.Subscript o i pos) (fun v O H Q=>to O H fun x H1=>ti O H1 fun y H2=>match x with
  |.ref a=>match H2 a with
   |some (.lst xs)=>∃k j,y=.int k/\ji xs.length k=some j/\Q O (upd H2 a (.lst (xs.set j v)))
   |some (.dK kvs)=>∃k,y=kV k/\kvs.length<aa/\Q O (upd H2 a (.dK (putK kvs k v)))
   |some (.dT kvs)=>∃k b,y=.ref b/\H2 b=some (.tup (k.map kV))/\kvs.length<aa/\Q O (upd H2 a (.dT (putK kvs k v)))
   |_=>False
  |_=>False):=by
 have hS:Oj X (fun x y v H2 Q=>match x with
  |.ref a=>match H2 a with
   |some (.lst xs)=>∃k j,y=.int k/\ji xs.length k=some j/\Q (upd H2 a (.lst (xs.set j v)))
   |some (.dK kvs)=>∃k,y=kV k/\kvs.length<aa/\Q (upd H2 a (.dK (putK kvs k v)))
   |some (.dT kvs)=>∃k b,y=.ref b/\H2 b=some (.tup (k.map kV))/\kvs.length<aa/\Q (upd H2 a (.dT (putK kvs k v)))
   |_=>False
  |_=>False):=by
  intro pins s O H o i v ov iv u Q I ro ri rv h;split at h
  ·split at h
   ·obtain⟨k,j,rfl,hj,q⟩:=h;exact set_list pins s O H _ _ v ov iv u Q I ro ri rv ⟨_,_,_,j,rfl,rfl,by assumption,hj,q⟩
   ·rename_i a _ kvs hk;obtain⟨k,rfl,hl,q⟩:=h;cases(show ov=a6 a from ro);exact Dh (by omega) I (.inl ⟨kvs,k,hk,rfl,hl,rfl⟩) ri rv fun s' I'=>⟨_,I',q⟩
   ·rename_i a _ kvs hk;obtain⟨k,b,rfl,hb,hl,q⟩:=h;cases(show ov=a6 a from ro);exact Dh (by omega) I (.inr ⟨kvs,k,b,hk,rfl,hb,hl,rfl⟩) ri rv fun s' I'=>⟨_,I',q⟩
   ·exact h.elim
  ·exact h.elim
 intro pins s O H v u Q I r h;refine U9 ho hi hS (fun _=>by cases i<;>first|rfl|exact no hp) pins s O H v u Q I r ?_;exact h
theorem iz:PT X e (fun _ _ _=>False):=fun _ _ _ _ _ _ h=>h.elim
theorem V4{a:Expr}{tc ta tb:TT}(hc:PT X c tc)(ha:PT X a ta)(hb:PT X b tb):PT X (.IfExp c a b pos) (fun O H Q=>tc O H fun k H1=>if k=true then ta O H1 Q else tb O H1 Q):=by
 intro pins s O H Q I h;refine isTrue_IfExp (aY (hc pins s O H _ I h) fun d s1 ⟨H1,I1,q1⟩=>?_);cases d with
 |true=>exact ha pins s1 O H1 Q I1 q1
 |false=>exact hb pins s1 O H1 Q I1 q1
theorem Ik{Q:Bool->Hp->Prop}:wT K Y E (.call g as) O H Q=wE K Y E (.call g as) O H (fun x H2=>jO K x H2 fun b=>Q b H2):=by
 show(match Y[g]? with
  |some (.fn sp dvs)=>wEs K Y E as O H fun vs H1=>sp (vs++dvs) H1 (fun x H2=>jO K x H2 fun b=>Q b H2) E
  |_=>False)=(match Y[g]? with
  |some (.fn sp dvs)=>wEs K Y E as O H fun vs H1=>sp (vs++dvs) H1 (fun x H2=>jO K x H2 fun b=>Q b H2) E
  |_=>False)
 rfl
theorem Tz(ok:Ok X T Y E)(h:PE X e (wE X.K Y E (.call g as)))(he:∀whole,sR e X.env whole=(do let v <-whole;vq e.pos;o6 [v] (BU v))):PT X e (wT X.K Y E (.call g as)):=by
 have z:=pt_val' h he;intro pins s O H Q I q;rw[Ik]at q;exact z pins s O H Q I q
theorem po_some'(h:PE X e te):PO X (some e) (fun O H Q=>te O H fun x H1=>match x with
  |.int i=>Q (some i) H1
  |_=>False):=by
 intro pins s O H Q I q;rw[evalPart_some];refine aY (h pins s O H _ I q) fun v s1 ⟨x,H1,I1,r1,q1⟩=>?_;cases x with
 |int i=>
  obtain⟨t,rfl⟩:=r1;exact⟨some i,H1,I1,.int i t,q1⟩
 |_=>exact au q1
theorem pgs_nil':AX X [] (fun vs O H Q=>match vs with
  |[]=>Q O H
  |_=>False):=by
 intro pins s O H vs us Q I r h;cases vs with
 |nil=>exact SK pins s O H [] us Q I r ⟨rfl,h⟩
 |cons v vr=>exact au h
theorem pgs_cons'{t:TG}{u:zB}(h1:PG X e t)(h2:AX X es u)(hs:noStar e=true):AX X (e::es) (fun vs O H Q=>match vs with
  |v::vr=>t v O H fun ZC H'=>u vr ZC H' Q
  |_=>False):=by
 intro pins s O H vs us Q I r h;cases vs with
 |nil=>exact au h
 |cons v vr=>exact Ol h1 h2 (by rw[uH hs];rfl) pins s O H (v::vr) us Q I r ⟨v,vr,rfl,h⟩
theorem Sb:∀(gs:j7) (es:List Expr),EZ T gs es=true->es.length=gs.len
|.nil,es,h=>by
 cases es with
 |nil=>rfl
 |cons e er=>exact no h
|.cons g r,es,h=>by
 cases es with
 |nil=>exact no h
 |cons e er=>
  obtain⟨_,h2⟩:=band h;show er.length+1=r.len+1;rw[Sb r er h2]
theorem Sd(as:j6)(es:List Expr)(h:nJ T as es=true):es=[]->wEs X.K Y E as=fun _ H Q=>Q [] H:=by
 rintro rfl;cases as with
 |nil=>rfl
 |cons a r=>exact no h
theorem V5{a:CE}(h:PE X e (wE X.K Y E (.isx one gs a)))(he:∀whole,sR e X.env whole=(do let v <-whole;vq e.pos;o6 [v] (BU v))):PT X e (wT X.K Y E (.isx one gs a)):=pt_val' h he
theorem V6{a:CE}(h:PE X e (wE X.K Y E (.isv g a)))(he:∀whole,sR e X.env whole=(do let v <-whole;vq e.pos;o6 [v] (BU v))):PT X e (wT X.K Y E (.isv g a)):=pt_val' h he
theorem Ok.ou(ok:Ok X T Y E)(h:decide (g<T.gl.length)=true):∀Cs as,Y[g]?=some (G.ou Cs as)->tL X.K Cs as:=fun Cs as e=>by
 have hl:=of_decide_eq_true h;exact ok.gl g (T.gl[g]) _ (aA hl) e
mutual
theorem dR:∀(c:CE) (e:Expr) {X:Cx}{T:Tab}{E:XK},Ok X T Y E->dS T c e=true->PE X e (wE X.K Y E c)/\PT X e (wT X.K Y E c)/\∀op vs p,e=.BoolOp op vs p->PW X e (wT X.K Y E c)
|.var i,e,X,T,E,ok,h=>by
 obtain⟨h0,h⟩:=band h;revert h;refine cG e (eq_of_beq h0) ?_;intro x p h;obtain⟨⟨⟨h1,h2⟩,h3⟩,h4⟩:=yX h;rw[<-ok.sc]at h2;have z':PE X (.Name x p) (wE X.K Y E (.var i)):=Tv (ok.JI h1) (VQ h2) (rV h3) (rV h4);exact⟨z',pt_val' z' (fun _=>rfl),fun _ _ _ z=>nomatch z⟩
|.con v,e,X,T,E,ok,h=>by
 obtain⟨h0,h⟩:=band h;revert h;refine N8 e (eq_of_beq h0) ?_;intro _ _ _ h;exact⟨Ll h,iz,fun _ _ _ z=>nomatch z⟩
|.glo g,e,X,T,E,ok,h=>by
 obtain⟨h0,h⟩:=band h;revert h;refine cG e (eq_of_beq h0) ?_;intro x p h;obtain⟨⟨h1,h2⟩,h3⟩:=pe h;exact⟨V3 ok (of_decide_eq_true h1) (ok.lR h2) (rV h3),iz,fun _ _ _ z=>nomatch z⟩
|.bin op a b,e,X,T,E,ok,h=>by
 obtain⟨h0,h⟩:=band h;revert h;refine Sz e (eq_of_beq h0) ?_;intro l o r p h;obtain⟨⟨h1,h2⟩,h3⟩:=pe h;have e:=of_decide_eq_true h1;subst e;exact⟨Xb (Xu op) (dR a l ok h2).1 (dR b r ok h3).1,iz,fun _ _ _ z=>nomatch z⟩
|.neg a,e,X,T,E,ok,h=>by
 obtain⟨h0,h⟩:=band h;revert h;refine zq e (eq_of_beq h0) ?_;intro op l p h;cases op<;>first|exact no h|skip
 exact⟨pe_neg' (dR a l ok h).1,iz,fun _ _ _ z=>nomatch z⟩
|.not a,e,X,T,E,ok,h=>by
 obtain⟨h0,h⟩:=band h;revert h;refine zq e (eq_of_beq h0) ?_;intro op l p h;cases op<;>first|exact no h|skip
 exact⟨pe_not' (dR a l ok h).1,U4 (dR a l ok h).2.1,fun _ _ _ z=>nomatch z⟩
|.and a b,e,X,T,E,ok,h=>by
 obtain⟨h0,h⟩:=band h;revert h;refine AU e (eq_of_beq h0) ?_;intro op vs p h;cases op<;>first|exact no h|skip
 match vs,h with
 |[x,y],h=>
  obtain⟨h1,h2⟩:=band h;have w:=pw_and (pos:=p) (dR a x ok h1).2.1 (pw_and1 (dR b y ok h2).2.1);exact⟨pe_and' (dR a x ok h1).1 (Ld (dR b y ok h2).1),w.pt,fun _ _ _ _=>w⟩
 |x::y::z::r,h=>
  obtain⟨h1,h2⟩:=band h;have w:=pw_and (dR a x ok h1).2.1 ((dR b _ ok h2).2.2 _ _ _ rfl);exact⟨pe_and' (dR a x ok h1).1 (dR b _ ok h2).1,w.pt,fun _ _ _ _=>w⟩
 |[],h=>exact no h
 |[x],h=>exact no h
|.or a b,e,X,T,E,ok,h=>by
 obtain⟨h0,h⟩:=band h;revert h;refine AU e (eq_of_beq h0) ?_;intro op vs p h;cases op<;>first|exact no h|skip
 match vs,h with
 |[x,y],h=>
  obtain⟨h1,h2⟩:=band h;have w:=pw_or (pos:=p) (dR a x ok h1).2.1 (pw_or1 (dR b y ok h2).2.1);exact⟨pe_or' (dR a x ok h1).1 (Ld (dR b y ok h2).1),w.pt,fun _ _ _ _=>w⟩
 |x::y::z::r,h=>
  obtain⟨h1,h2⟩:=band h;have w:=pw_or (dR a x ok h1).2.1 ((dR b _ ok h2).2.2 _ _ _ rfl);exact⟨pe_or' (dR a x ok h1).1 (dR b _ ok h2).1,w.pt,fun _ _ _ _=>w⟩
 |[],h=>exact no h
 |[x],h=>exact no h
|.ite c a b,e,X,T,E,ok,h=>by
 obtain⟨h0,h⟩:=band h;revert h;refine SA e (eq_of_beq h0) ?_;intro t x y p h;obtain⟨⟨h1,h2⟩,h3⟩:=pe h;exact⟨Of (dR c t ok h1).2.1 (dR a x ok h2).1 (dR b y ok h3).1,V4 (dR c t ok h1).2.1 (dR a x ok h2).2.1 (dR b y ok h3).2.1,fun _ _ _ z=>nomatch z⟩
|.cmp op a b,e,X,T,E,ok,h=>by
 obtain⟨h0,h⟩:=band h;revert h;refine zu e (eq_of_beq h0) ?_;intro l os rs p h
 match os,rs,h with
 |[o],[r],h=>
  obtain⟨⟨⟨h1,h2⟩,h3⟩,h4⟩:=yX h;have e:=of_decide_eq_true h1;subst e;exact⟨SO (yV ok.room op) (dR a l ok h3).1 (dR b r ok h4).1 (rV h2),pt_cmp' ok.room (dR a l ok h3).1 (dR b r ok h4).1 (rV h2),fun _ _ _ z=>nomatch z⟩
 |[],_,h=>exact no h
 |_::_::_,_,h=>exact no h
 |[_],[],h=>exact no h
 |[_],_::_::_,h=>exact no h
|.chain o1 o2 a b c,e,X,T,E,ok,h=>by
 obtain⟨h0,h⟩:=band h;revert h;refine zu e (eq_of_beq h0) ?_;intro l os rs p h
 match os,rs,h with
 |[p1,p2],[m,r],h=>
  obtain⟨⟨⟨⟨⟨h1,h2⟩,h3⟩,h4⟩,h5⟩,h6⟩:=qY h;have e1:=of_decide_eq_true h1;have e2:=of_decide_eq_true h2;subst e1 e2;exact⟨pe_chain' ok.room (dR a l ok h4).1 (dR b m ok h5).1 (dR c r ok h6).1 (rV h3),pt_chain' ok.room (dR a l ok h4).1 (dR b m ok h5).1 (dR c r ok h6).1 (rV h3),fun _ _ _ z=>nomatch z⟩
 |[],_,h=>exact no h
 |[_],_,h=>exact no h
 |_::_::_::_,_,h=>exact no h
 |[_,_],[],h=>exact no h
 |[_,_],[_],h=>exact no h
 |[_,_],_::_::_::_,h=>exact no h
|.call g as,e,X,T,E,ok,h=>by
 obtain⟨h0,h⟩:=band h;obtain⟨hf,h⟩:=band h;revert hf h;refine fJ e (eq_of_beq h0) ?_;intro f es kw p hf h;revert h;refine cG f (eq_of_beq hf) ?_;intro x px h;cases kw<;>first|exact no h|skip
 obtain⟨⟨⟨⟨h1,h2⟩,h3⟩,h4⟩,h5⟩:=E2 h;have z':PE X (.Call (.Name x px) es [] p) (wE X.K Y E (.call g as)):=Xz ok (of_decide_eq_true h1) (ok.lR h2) (rV h3) (v8 as es ok h4 h5) (Sd as es h5) h4;exact⟨z',Tz ok z' (fun _=>rfl),fun _ _ _ z=>nomatch z⟩
|.blt f as,e,X,T,E,ok,h=>by
 obtain⟨h0,h⟩:=band h;obtain⟨hf,h⟩:=band h;revert hf h;refine fJ e (eq_of_beq h0) ?_;intro fn es kw p hf h;revert h;refine cG fn (eq_of_beq hf) ?_;intro x px h;cases kw<;>first|exact no h|skip
 obtain⟨hcm,h⟩:=band h;obtain⟨⟨⟨⟨⟨h1,h2⟩,h3⟩,h4⟩,h5⟩,h6⟩:=qY h;cases es with
 |nil=>exact no h5
 |cons e er=>
  have z':PE X (.Call (.Name x px) (e::er) [] p) (wE X.K Y E (.blt f as)):=VT (ok.calm hcm) ok.room (ok.lR h2) (of_decide_eq_true h1) (ok.tN h3) (v8 as _ ok h4 h6) h4;exact⟨z',pt_val' z' (fun _=>rfl),fun _ _ _ z=>nomatch z⟩
|.isi a t,e,X,T,E,ok,h=>by
 obtain⟨h0,h⟩:=band h;obtain⟨hf,h⟩:=band h;obtain⟨ha,h⟩:=band h;revert hf ha h;refine fJ e (eq_of_beq h0) ?_;intro fn es kw p hf ha h;revert h;refine cG fn (eq_of_beq hf) ?_;intro x px h
 match es,ha,h with
 |[],ha,h=>exact no ha
 |[_],ha,h=>exact no ha
 |_::_::_::_,ha,h=>exact no ha
 |[l,c],ha,h=>
  revert h;refine cG c (eq_of_beq ha) ?_;intro y py h;cases kw<;>first|exact no h|skip
  obtain⟨⟨⟨⟨⟨⟨⟨⟨h1,h2⟩,h3⟩,h4⟩,h5⟩,h6⟩,h7⟩,h8⟩,h9⟩:=Sa h;have z':PE X (.Call (.Name x px) [l,.Name y py] [] p) (wE X.K Y E (.isi a t)):=VS (ok.lR h2) (of_decide_eq_true h1) (ok.tN h3) (ok.lR h6) (of_decide_eq_true h4) (of_decide_eq_true h5) (ok.tN h7) (dR a l ok h9).1 h8;exact⟨z',pt_val' z' (fun _=>rfl),fun _ _ _ z=>nomatch z⟩
|.mth m o as,e,X,T,E,ok,h=>by
 obtain⟨h0,h⟩:=band h;obtain⟨hf,h⟩:=band h;revert hf h;refine fJ e (eq_of_beq h0) ?_;intro fn es kw p hf h;revert h;refine xu fn (eq_of_beq hf) ?_;intro l nm ap h;cases kw<;>first|exact no h|skip
 obtain⟨⟨⟨⟨⟨⟨h1,h2⟩,h3⟩,h4⟩,h5⟩,h6⟩,h7⟩:=JH h;have e:=of_decide_eq_true h1;subst e;have ho:=(dR o l ok h6).1;have ha:=v8 as es ok h4 h7;cases es with
 |nil=>
  have q:=Sd (X:=X) (Y:=Y) (E:=E) as [] h7 rfl;have z:=Tq ok.room (m:=m) (apos:=ap) (cpos:=p) ho h2 h3;have z':PE X (.Call (.Attribute l m.name ap) [] [] p) (wE X.K Y E (.mth m o as)):=by
   show PE X _ (fun O H Q=>wE X.K Y E o O H fun x H1=>tH m x H1/\wEs X.K Y E as O H1 fun vs H2=>vR X.K m x vs H2 Q);rw[q];exact z
  exact⟨z',pt_val' z' (fun _=>rfl),fun _ _ _ z=>nomatch z⟩
 |cons e er=>
  have z':PE X (.Call (.Attribute l m.name ap) (e::er) [] p) (wE X.K Y E (.mth m o as)):=VR ok.room ho ha h2 h3 h4 (of_decide_eq_true h5);exact⟨z',pt_val' z' (fun _=>rfl),fun _ _ _ z=>nomatch z⟩
|.ix a b,e,X,T,E,ok,h=>by
 obtain⟨h0,h⟩:=band h;revert h;refine kP e (eq_of_beq h0) ?_;intro l r p h;obtain⟨⟨h1,h2⟩,h3⟩:=pe h;exact⟨Xi (YR ok.room) (dR a l ok h2).1 (dR b r ok h3).1 (JG h1),iz,fun _ _ _ z=>nomatch z⟩
|.sl a lo hi,e,X,T,E,ok,h=>by
 obtain⟨h0,h⟩:=band h;obtain⟨hf,h⟩:=band h;revert hf h;refine kP e (eq_of_beq h0) ?_;intro l r p hf h;revert h;refine SD r (eq_of_beq hf) ?_;intro x y st ps h;cases st<;>first|exact no h|skip
 obtain⟨⟨h1,h2⟩,h3⟩:=pe h;exact⟨Ou YS (dR a l ok h1).1 (Ye lo x ok h2) (Ye hi y ok h3),iz,fun _ _ _ z=>nomatch z⟩
|.lst as,e,X,T,E,ok,h=>by
 obtain⟨h0,h⟩:=band h;revert h;refine UU e (eq_of_beq h0) ?_;intro _ _ h;obtain⟨h1,h2⟩:=band h;exact⟨Vo (v8 as _ ok h1 h2),iz,fun _ _ _ z=>nomatch z⟩
|.tup as,e,X,T,E,ok,h=>by
 obtain⟨h0,h⟩:=band h;revert h;refine uz e (eq_of_beq h0) ?_;intro _ _ _ h;obtain⟨h1,h2⟩:=band h;exact⟨Vn (v8 as _ ok h1 h2),iz,fun _ _ _ z=>nomatch z⟩
|.dcs ps,e,X,T,E,ok,h=>by
 obtain⟨h0,h⟩:=band h;revert h;refine C2 e (eq_of_beq h0) ?_;intro _ _ _ h;obtain⟨h1,h2⟩:=band h;exact⟨VZ (of_decide_eq_true h1) h2,iz,fun _ _ _ z=>nomatch z⟩
|.dct,e,X,T,E,ok,h=>by
 obtain⟨h0,h⟩:=band h;revert h;refine C2 e (eq_of_beq h0) ?_;intro ks vs p h
 match ks,vs,h with
 |[],[],_=>exact⟨Ow,iz,fun _ _ _ z=>nomatch z⟩
 |[],_::_,h=>exact no h
 |_::_,_,h=>exact no h
|.comp nl fr elt tg src cond,e,X,T,E,ok,h=>by
 obtain⟨h0,h⟩:=band h;revert h;refine yN e (eq_of_beq h0) ?_;intro l gs sc p h
 match gs,h with
 |[],h=>exact no h
 |⟨_,_,_,.ofNat 0⟩::_::_,h=>exact no h
 |⟨_,_,_,.ofNat (n+1)⟩::_,h=>exact no h
 |⟨_,_,_,.negSucc n⟩::_,h=>exact no h
 |[⟨t,it,ifs,.ofNat 0⟩],h=>
  obtain⟨hcm,h⟩:=band h;obtain⟨⟨⟨⟨⟨h2,h3⟩,h4⟩,h5⟩,h6⟩,h7⟩:=qY h;obtain⟨h3,h3'⟩:=band h3;exact⟨To (ok.calm hcm) (ok.Bg h2) (V7 src it h3' ok h4) (tM h3) (fun C ZD H ex=>Il tg t (oQ ok h2 C ZD H ex) h5) (fun C ZD H ex=>Yg cond ifs (oQ ok h2 C ZD H ex) h6)
   (fun C ZD H ex=>(dR elt l (oQ ok h2 C ZD H ex) h7).1),iz,fun _ _ _ z=>nomatch z⟩
|.isx one gs a,e,X,T,E,ok,h=>by
 obtain⟨h0,h⟩:=band h;obtain⟨hf,h⟩:=band h;revert hf h;refine fJ e (eq_of_beq h0) ?_;intro fn es kw p hf h;revert h;refine cG fn (eq_of_beq hf) ?_;intro x px h
 match es,h with
 |[],h=>exact no h
 |[_],h=>exact no h
 |_::_::_::_,h=>exact no h
 |[l,c],h=>
  cases kw<;>first|exact no h|skip
  obtain⟨⟨⟨⟨⟨h1,h2⟩,h3⟩,h4⟩,h5⟩,h6⟩:=qY h;have z':PE X (.Call (.Name x px) [l,c] [] p) (wE X.K Y E (.isx one gs a)):=VU ok (ok.lR h2) (of_decide_eq_true h1) (ok.tN h3) (dR a l ok h6).1 h4 h5;exact⟨z',V5 z' (fun _=>rfl),fun _ _ _ z=>nomatch z⟩
|.isv g a,e,X,T,E,ok,h=>by
 obtain⟨h0,h⟩:=band h;obtain⟨hf,h⟩:=band h;obtain⟨ha,h⟩:=band h;revert hf ha h;refine fJ e (eq_of_beq h0) ?_;intro fn es kw p hf ha h;revert h;refine cG fn (eq_of_beq hf) ?_;intro x px h
 match es,ha,h with
 |[],ha,h=>exact no ha
 |[_],ha,h=>exact no ha
 |_::_::_::_,ha,h=>exact no ha
 |[l,c],ha,h=>
  revert h;refine cG c (eq_of_beq ha) ?_;intro y py h;cases kw<;>first|exact no h|skip
  obtain⟨⟨⟨⟨⟨⟨⟨⟨h1,h2⟩,h3⟩,h4⟩,h5⟩,h6⟩,h7⟩,h8⟩,h9⟩:=Sa h;have z':PE X (.Call (.Name x px) [l,.Name y py] [] p) (wE X.K Y E (.isv g a)):=VW (ok.ou h9) (ok.lR h2) (of_decide_eq_true h1) (ok.tN h3) (ok.lR h5) (of_decide_eq_true h4) (ok.tN h6) (dR a l ok h8).1 h7;exact⟨z',V6 z' (fun _=>rfl),fun _ _ _ z=>nomatch z⟩
|.att g a f,e,X,T,E,ok,h=>by
 obtain⟨h0,h⟩:=band h;revert h;refine xu e (eq_of_beq h0) ?_;intro l nm p h
 ·skip
  obtain⟨⟨⟨h1,h2⟩,h3⟩,h4⟩:=yX h;have e:=of_decide_eq_true h1;subst e;exact⟨VX (ok.ou h4) (dR a l ok h3).1 h2,iz,fun _ _ _ z=>nomatch z⟩
theorem v8:∀(cs:j6) (es:List Expr) {X:Cx}{T:Tab}{E:XK},Ok X T Y E->bW es=true->nJ T cs es=true->PA X es (wEs X.K Y E cs)
|.nil,es,X,T,E,ok,hs,h=>by
 cases es with
 |nil=>exact Fb
 |cons e er=>exact no h
|.cons a r,es,X,T,E,ok,hs,h=>by
 cases es with
 |nil=>exact no h
 |cons e er=>
  obtain⟨h1,h2⟩:=band h;have hs':noStar e=true/\bW er=true:=by simpa[bW]using hs
  exact B_ (dR a e ok h1).1 (v8 r er ok hs'.2 h2) (e_ hs'.1)
theorem Ye:∀(c:CO) (e:Option Expr) {X:Cx}{T:Tab}{E:XK},Ok X T Y E->OS T c e=true->PO X e (wO X.K Y E c)
|.none,e,X,T,E,ok,h=>by
 cases e with
 |none=>exact SV
 |some x=>exact no h
|.some a,e,X,T,E,ok,h=>by
 cases e with
 |none=>exact no h
 |some x=>exact po_some' (dR a x ok h).1
theorem Yg:∀(c:CO) (es:List Expr) {X:Cx}{T:Tab}{E:XK},Ok X T Y E->VP T c es=true->Ih X es (wC X.K Y E c)
|.none,es,X,T,E,ok,h=>by
 cases es with
 |nil=>exact Tj
 |cons x r=>exact no h
|.some a,es,X,T,E,ok,h=>by
 match es,h with
 |[x],h=>exact Tn (dR a x ok h).2.1
 |[],h=>exact no h
 |_::_::_,h=>exact no h
theorem Il:∀(c:CG) (e:Expr) {X:Cx}{T:Tab}{E:XK},Ok X T Y E->Af T c e=true->PG X e (wG X.K Y E c)
|.name i,e,X,T,E,ok,h=>by
 obtain⟨h0,h⟩:=band h;revert h;refine cG e (eq_of_beq h0) ?_;intro _ _ h;obtain⟨h1,h2⟩:=band h;exact Tw ok (ok.JI h1) h2
|.tup gs,e,X,T,E,ok,h=>by
 obtain⟨h0,h⟩:=band h;revert h;refine uz e (eq_of_beq h0) ?_;intro _ _ _ h;obtain⟨hcm,h⟩:=band h;obtain⟨h1,h2⟩:=band h;exact pg_tup' (ok.calm hcm) (V8 gs _ ok h1 h2) (Sb gs _ h2) h1
|.sub o i,e,X,T,E,ok,h=>by
 obtain⟨h0,h⟩:=band h;revert h;refine kP e (eq_of_beq h0) ?_;intro _ _ _ h;obtain⟨⟨h1,h2⟩,h3⟩:=pe h;exact pg_sub' ok.room h1 (dR o _ ok h2).1 (dR i _ ok h3).1
theorem V8:∀(cs:j7) (es:List Expr) {X:Cx}{T:Tab}{E:XK},Ok X T Y E->bW es=true->EZ T cs es=true->AX X es (Ia X.K Y E cs)
|.nil,es,X,T,E,ok,hs,h=>by
 cases es with
 |nil=>exact pgs_nil'
 |cons e er=>exact no h
|.cons g r,es,X,T,E,ok,hs,h=>by
 cases es with
 |nil=>exact no h
 |cons e er=>
  obtain⟨h1,h2⟩:=band h;have hs':noStar e=true/\bW er=true:=by simpa[bW]using hs
  exact pgs_cons' (Il g e ok h1) (V8 r er ok hs'.2 h2) hs'.1
theorem V7:∀(c:CI) (e:Expr) {tg:Expr}{X:Cx}{T:Tab}{E:XK},OQ c tg=true->Ok X T Y E->OT T c e=true->Dp X tg e (wI X.K Y E c)
|.seq a,e,tg,X,T,E,_,ok,h=>Ti (dR a e ok h).1
|.range as,e,tg,X,T,E,_,ok,h=>by
 obtain⟨h0,h⟩:=band h;obtain⟨hf,h⟩:=band h;revert hf h;refine fJ e (eq_of_beq h0) ?_;intro fn es kw p hf h;revert h;refine cG fn (eq_of_beq hf) ?_;intro x px h;cases kw<;>first|exact no h|skip
 ·skip
  obtain⟨⟨⟨⟨⟨h1,h2⟩,h3⟩,h4⟩,h5⟩,h6⟩:=qY h;have e:=of_decide_eq_true h1;subst e;cases es with
  |nil=>exact no h5
  |cons e er=>
   have hs':noStar e=true/\bW er=true:=by simpa[bW]using h4
   exact LG (ok.lR h2) (ok.tN h3) (v8 as _ ok h4 h6) (e_ hs'.1) (m_ hs'.2)
|.enum a,e,tg,X,T,E,tb,ok,h=>by
 cases tg<;>first|exact no tb|skip
 obtain⟨h0,h⟩:=band h;obtain⟨hf,h⟩:=band h;revert hf h;refine fJ e (eq_of_beq h0) ?_;intro fn es kw p hf h;revert h;refine cG fn (eq_of_beq hf) ?_;intro x px h
 match es,h with
 |[],h=>exact no h
 |_::_::_,h=>exact no h
 |[l],h=>
  cases kw<;>first|exact no h|skip
  obtain⟨⟨⟨⟨h1,h2⟩,h3⟩,h4⟩,h5⟩:=E2 h;have e:=of_decide_eq_true h1;subst e;exact OM (ok.lR h2) (ok.tN h3) (dR a l ok h5).1 (by rw[e_ h4];rfl)
end
end
noncomputable def OW(o:Obj):Nat:=match o.data with
|.dict _ ep=>ep
|_=>0
theorem TF{k:Key}(h:(c_ P w).is k u=true):RelV (kV k) u:=by
 rcases fS h with⟨i,t,rfl,rfl⟩|⟨x,t,rfl,rfl⟩
 ·exact⟨t,rfl⟩
 ·exact⟨t,rfl⟩
variable{ob:Obj}{kvs:List (Key×V)}
theorem FO{h:Heap}(ok:fU P w H h)(e:Pin H a ob kvs):(a==g8)=false/\∃vs,KV kvs vs/\h.DictAt (c_ P w) a vs (OW ob):=by
 obtain⟨e1,z,y,vs,r,o,es,ep,ho,hx,hd,rest⟩:=(show dj P w H h a (.bC ob (.dK kvs))from ok a _ e);rw[e1]at ho;cases ho;refine⟨y,vs,r,ob,es,e1,hx,?_,rest⟩;unfold OW;rw[hd]
theorem V9{vs:List (Key×Value)}(r:KV kvs vs){kv:Key×V}(h:kvs[i]?=some kv):∃x,vs[i]?=some (kv.1,x):=by
 induction r generalizing i with
 |nil=>simp at h
 |cons q t ih=>
  cases i with
  |zero=>
   simp at h;subst h;rename_i p u _ _;exact⟨u.2,by simp;exact(Prod.ext q.1.symm rfl)⟩
  |succ i=>simpa using ih (by simpa using h)
noncomputable def V_(a:Addr)(ob:Obj)(kvs:List (Key×V)):It:=
 ⟨fun i H=>Pin H a ob kvs/\∃kv,kvs[i]?=some kv,fun i H x H'=>H'=H/\∃kv,kvs[i]?=some kv/\x=kV kv.1,fun i H=>Pin H a ob kvs/\kvs.length<=i⟩
theorem LL(a it:Addr)(ob:Obj)(kvs:List (Key×V)):Turn P w K tg (V_ a ob kvs) [it] it (fun i h=>h.IsKeyIter it a i kvs.length (OW ob)) where
 mem:=by simp
 obj:=fun i h st b hb=>by
  have e:b=it:=by simpa using hb
  subst e;obtain⟨o,e,c,d⟩:=st;exact⟨o,e,fun v z=>by rw[d]at z;cases z⟩
 keep:=fun i h h' st k=>st.at fun o e=>k it (by simp) o e
 item:=by
  intro X hP hw hK hc i pins s O H E I hf st hg;subst hP hw hK;obtain⟨hq,kv,hx⟩:=hg;obtain⟨hS,vs,r,hd⟩:=FO I.hok hq;obtain⟨x,hv⟩:=V9 r hx;have hl:kvs.length=vs.length:=r.length;rw[hl]at st;obtain⟨f0,f1,f2,f3,f4,f5⟩:=hf it (by simp);refine wpAny_pyNext_dict_item (knd:=c_ X.prog X.w) st hd hv fun key h' hk st' sb=>?_;have I1:L2.Inv X pins O H { s with heap:=h' }:=I.turned (t':=s.toks) (fun b o hb e=>(sb.2 b hb).trans e) f0 f1 f3 f4 f5;obtain⟨o,e,c,d⟩:=id st';refine⟨key,rfl,AY (s:={ s with heap:=h' }) e c d (by decide) ⟨kV kv.1,H,I1,TF hk,⟨rfl,kv,hx,rfl⟩,by rw[hl];exact st',fun b hb=>(hf b hb).1⟩⟩
 done:=by
  intro X hP hw hK hc i pins s O H E I hf st hg;subst hP hw hK;obtain⟨hq,hx⟩:=hg;obtain⟨hS,vs,r,hd⟩:=FO I.hok hq;have hl:kvs.length=vs.length:=r.length;rw[hl]at st;obtain⟨f0,f1,f2,f3,f4,f5⟩:=hf it (by simp);exact wpAny_pyNext_dict_end (knd:=c_ X.prog X.w) (I.ok.hd hc) st hd (vI (by omega)) fun h' eb=>⟨rfl,I.turned (t':=s.toks) (fun b o hb e=>eb b o hb e) f0 f1 f3 f4 f5⟩
 self:=fun _ _ _ _ _ st h=>wpAny_pyIter_keyiter st h
theorem LM:oM (V_ a ob kvs) (fun H=>Pin H a ob kvs) (nH kvs) where
 go:=fun i H it ok hi=>by
  unfold nH at hi;rw[aX]at hi;cases e:kvs[i]? with
  |none=>rw[e]at hi;cases hi
  |some x=>exact⟨ok,x,e⟩
 yld:=fun i H it x H' ok hi hy k hk=>by
  obtain⟨rfl,kv,hy,rfl⟩:=hy;unfold nH at hi;rw[aX,hy]at hi;cases hi;exact hk
 stop:=fun i H ok hi=>⟨ok,by unfold nH at hi;rw[ah]at hi;exact hi⟩
section
variable{X:Cx}{tg:Expr}
theorem OX(he:PE X e te):Dp X tg e (fun O H k=>te O H fun x H1=>R6 x H1 k):=by
 intro pins s O H k I h;refine aY (he pins s O H _ I h) fun v s1 ⟨x,H1,I1,r1,q1⟩=>?_;cases x with
 |ref a=>
  cases r1;have go:∀{H2:Hp} (ob:Obj) (kvs:List (Key×V)),L2.Inv X pins O H2 s1->Pin H2 a ob kvs->k (fun H'=>Pin H' a ob kvs) (nH kvs) H2->aJ (aH X.prog X.w) X.A (vt (.ref a)) (JB X pins O tg k) X.xe s1:=by
   intro H2 ob kvs I2 hp q;obtain⟨hS,vs,r,hd⟩:=FO I2.hok hp;have hl:kvs.length=vs.length:=r.length;refine wpAny_pyIter_dict (knd:=c_ X.prog X.w) hS hd ?_;rw[<-hl];refine⟨s1.heap.objs.size,[s1.heap.objs.size],_,_,H2,rfl,I2.kept (t':=s1.toks) fun b o e=>aM _ e,LL a _ ob kvs,⟨_,bU _ rfl,rfl,rfl⟩,fun c hc=>?_,_,_,LM,q⟩;have hc:c=s1.heap.objs.size:=by simpa using hc
   subst hc;exact I2.qq (aP _) (I2.hok.fresh (aP _))
  rcases q1 with⟨ob,kvs,hp,q⟩|⟨kvs,hd,q⟩
  ·exact go ob kvs I1 hp q
  ·obtain⟨z,y,vs,r,dd⟩:=(show dj X.prog X.w H1 s1.heap a (.dK kvs)from I1.hok a _ hd);obtain⟨ob,es,ep,ho,_⟩:=id dd;refine go ob kvs (I1.write (t':=s1.toks) (x:=a) (e:=a) (o:=.bC ob (.dK kvs)) (by rw[hd];exact dc) (.inl rfl) (fun b u _ e=>e) ⟨ob,ho⟩ ⟨ho,z,y,vs,r,dd⟩) bD (q ob)
 |_=>exact au q1
end
theorem TH{sts:List Stmt}{t:TS}(h:m9 X sts t):m9 X sts (fun D O H=>kc O k fun v=>∃a kvs,v=.ref a/\H a=some (.dK kvs)/\∀ob,t D O (upd H a (.bC ob (.dK kvs)))):=by
 intro pins s O H D I q;unfold kc at q;split at q
 ·obtain⟨a,kvs,rfl,hd,q⟩:=q;obtain⟨z,y,vs,r,dd⟩:=(show dj X.prog X.w H s.heap a (.dK kvs)from I.hok a _ hd);obtain⟨ob,es,ep,ho,_⟩:=id dd;exact h pins s O _ D (I.write (t':=s.toks) (x:=a) (e:=a) (o:=.bC ob (.dK kvs)) (by rw[hd];exact dc) (.inl rfl) (fun b u _ e=>e) ⟨ob,ho⟩ ⟨ho,z,y,vs,r,dd⟩) (q ob)
 ·exact q.elim
theorem TJ{l:Expr}{gs:List Comprehension}{vpos:Pos}(hk:env.scope.kind=.function)(h:EY env.scope sc y py vpos=true):ny (.ListComp l gs sc vpos) (some (.Name y py)) n env=pure true:=by
 unfold EY at h;simp only[bq,decide_eq_true_eq]at h;obtain⟨⟨h1,h2⟩,h3⟩:=h;have hb:env.blockKind=.function:=by
  unfold Env.blockKind;rw[hk];rfl
 show pure (env.blockKind==.function&&env.kindOf y==some .local&&py.line==vpos.line&&!(sc.names.any fun(n,k)=>n==y&&(k==.local||k==.cell)))=pure true;have e1:(env.blockKind==N9)=true:=by rw[hb];rfl
 have e2:(env.kindOf y==some NameKind.local)=true:=by
  have:env.kindOf y=some .local:=h1;rw[this];rfl
 have e3:(py.line==vpos.line)=true:=by rw[h2];simp
 rw[e1,e2,e3,h3];rfl
variable{t:Expr}
theorem FP(h:notTuple t=true\/notTuple e=true):xj [t] e env=pure none:=by
 unfold xj;rcases h with h|h
 ·cases t<;>first|rfl|exact no h
 ·cases t<;>first|rfl|(cases e<;>first|rfl|exact no h)
theorem LN(h:u6 e=true):xh [t] e n env=pure false:=Bd h
theorem OY(hs:env.scope=sc)(h:(u6 e||OR sc t)=true):xh [t] e n env=pure false:=by
 rcases Bool.or_eq_true_iff.mp h with h|h
 ·exact LN h
 ·subst hs;show ny e (some t) n env=pure false;unfold ny;split
  ·cases t with
   |Name y p=>
    have e2:(env.kindOf y==some NameKind.local)=false:=by
     have:¬env.scope.names.lookup y=some .local:=by simpa[OR]using h
     exact beq_eq_false_iff_ne.mpr this
    simp only[e2,vC,vv]
   |_=>rfl
  ·rfl
structure Im (X:Cx) (T:Tab) (Y:List G) (E:XK):Prop extends Ok X T Y E where
 rz:T.calm=true->∃X0:Cx,X=X0.jC (uE X0 E)/\X.stack=X.env::X.outer/\X.env.frame=some X.env.locals/\X.A.handled=none
theorem Im.hand{E:XK}(ok:Im X T Y E)(v:Value):Im (X.hand v) (JE T) (Y.map G.hand) E0:={ ok.toOk.hand v with rz:=fun z=>nomatch z }
theorem OZ{g:CG}(h:Af T g t=true):noStar t=true:=by
 cases g with
 |name i=>exact cG t (eq_of_beq (band h).1) fun _ _=>rfl
 |tup gs=>exact uz t (eq_of_beq (band h).1) fun _ _ _=>rfl
 |sub o i=>exact kP t (eq_of_beq (band h).1) fun _ _ _=>rfl
theorem fh:∀(b:CB) (sts:List Stmt) {X:Cx}{T:Tab}{E:XK},Ok X T Y E->JD T b sts=true->PB X sts (wB X.K Y b)
|.call g as,sts,X,T,E,ok,h=>by
 obtain⟨hf,h⟩:=band h
 match sts,hf,h with
 |[],hf,h=>exact no hf
 |st::sr,hf,h=>
  obtain⟨hf,hg⟩:=band hf;revert h hg;refine C3 st (eq_of_beq hf) ?_;intro e p h hg;obtain⟨hg,hh⟩:=band hg;revert h hh;refine fJ e (eq_of_beq hg) ?_;intro fn es kw pc h hh;revert h;refine cG fn (eq_of_beq hh) ?_;intro x px h;cases kw<;>first|exact no h|skip
  cases sr<;>first|exact no h|skip
  obtain⟨⟨⟨⟨⟨h1,h2⟩,h3⟩,h4⟩,h5⟩,h6⟩:=qY h;cases es with
  |nil=>exact no h5
  |cons e er=>
   have hs':noStar e=true/\bW er=true:=by simpa[bW]using h4
   intro pins s O H E' nx I q;unfold wB at q;split at q
   ·rename_i sp dvs e1;obtain⟨k,f,fd,ps,ds,q1,q2,q3,q4,q5,q6,q7⟩:=ok.gl g x _ (of_decide_eq_true h1) e1;exact Td q1 q2 (ok.lR h2) q3 q4 q5 q6 (v8 as (e::er) ok.xw h4 h6) (rV h3) (e_ hs'.1) (m_ hs'.2) pins s O H E' nx I q
   ·exact q.elim
|.ite c a b,sts,X,T,E,ok,h=>by
 obtain⟨hf,h⟩:=band h
 match sts,hf,h with
 |[],hf,h=>exact no hf
 |st::sr,hf,h=>
  revert h;refine G9 st (eq_of_beq hf) ?_;intro t x y p h;cases sr<;>first|exact no h|skip
  obtain⟨⟨h1,h2⟩,h3⟩:=pe h;exact Xq (dR c t ok.xw h1).2.1 (fh a x ok h2) (fh b y ok h3)
section
mutual
theorem Wa:∀{Y:List G} (c:CS) (st:Stmt) {X:Cx}{T:Tab}{E:XK},Im X T Y E->JF T c st=true->PS X st (wS X.K Y E c)
|Y,.expr c,st,X,T,E,ok,h=>by
 obtain⟨h0,h⟩:=band h;revert h;refine C3 st (eq_of_beq h0) ?_;intro _ _ h;obtain⟨h1,h2⟩:=band h;exact SJ (dR c _ ok.toOk h2).1 (Bd h1)
|Y,.asg g c,st,X,T,E,ok,h=>by
 obtain⟨h0,h⟩:=band h;revert h;refine AV st (eq_of_beq h0) ?_;intro ts e p h
 match ts,h with
 |[],h=>exact no h
 |_::_::_,h=>exact no h
 |[t],h=>
  obtain⟨⟨⟨h1,h2⟩,h3⟩,h4⟩:=yX h;exact U_ (dR c e ok.toOk h4).1 (Il g t ok.toOk h3) (OY ok.sc h1) (FP (.inl h2)) (by rw[uH (OZ h3)];rfl)
|Y,.casg i c,st,X,T,E,ok,h=>by
 obtain⟨h0,h⟩:=band h;obtain⟨hf,h⟩:=band h;revert hf h;refine AV st (eq_of_beq h0) ?_;intro ts e p hf h
 match ts,hf,h with
 |[],hf,h=>exact no hf
 |t::tr,hf,h=>
  obtain⟨hf,hg⟩:=band hf;revert h;refine cG t (eq_of_beq hf) ?_;intro y py h;cases tr<;>first|exact no h|skip
  revert h;refine yN e (eq_of_beq hg) ?_;intro l gs sc vpos h;have hcm:=(band h).1;replace h:=(band h).2;obtain⟨⟨h1,h2⟩,h3⟩:=pe h;cases c<;>first|exact no h3|skip
  rename_i nl fr elt tg src cond _ _ _
  match gs,h3 with
  |[],h=>exact no h
  |⟨_,_,_,.ofNat 0⟩::_::_,h=>exact no h
  |⟨_,_,_,.ofNat (n+1)⟩::_,h=>exact no h
  |⟨_,_,_,.negSucc n⟩::_,h=>exact no h
  |[⟨t,it,ifs,.ofNat 0⟩],h3=>
   replace h3:=(band (band h3).2).2;obtain⟨⟨⟨⟨⟨k2,k3⟩,k4⟩,k5⟩,k6⟩,k7⟩:=qY h3;obtain⟨k3,k3'⟩:=band k3;have hl:X.env.scope.names.lookup y=some .local:=by
    unfold EY at h2;simp only[bq,decide_eq_true_eq]at h2;rw[ok.sc];exact h2.1.1
   exact Tp (ok.calm hcm) ok.nd (ok.toOk.JI h1) hl (ok.toOk.Bg k2) (V7 src it k3' ok.toOk k4) (tM k3) (TJ ok.kind (by rw[ok.sc];exact h2)) (fun C ZD H ex=>Il tg t (oQ ok.toOk k2 C ZD H ex) k5) (fun C ZD H ex=>Yg cond ifs (oQ ok.toOk k2 C ZD H ex) k6)
    (fun C ZD H ex=>(dR elt _ (oQ ok.toOk k2 C ZD H ex) k7).1)
|Y,.ret c,st,X,T,E,ok,h=>by
 obtain⟨h0,h⟩:=band h;revert h;refine RS st (eq_of_beq h0) ?_;intro e p h;cases e<;>first|exact no h|skip
 ·exact U6 (dR c _ ok.toOk h).1
|Y,.ifs c a b,st,X,T,E,ok,h=>by
 obtain⟨h0,h⟩:=band h;revert h;refine G9 st (eq_of_beq h0) ?_;intro _ _ _ _ h;obtain⟨⟨h1,h2⟩,h3⟩:=pe h;exact W9 (dR c _ ok.toOk h1).2.1 (v9 a _ ok h2) (v9 b _ ok h3)
|Y,.forr g src b,st,X,T,E,ok,h=>by
 obtain⟨h0,h⟩:=band h;revert h;refine EO st (eq_of_beq h0) ?_;intro t it x l p h;cases l<;>first|exact no h|skip
 ·obtain⟨hcm,h⟩:=band h;obtain⟨⟨⟨⟨h1,h1'⟩,h2⟩,h3⟩,h4⟩:=E2 h;exact R9 ok.po (ok.calm hcm) (V7 src _ h1' ok.toOk h2) (Il g _ ok.toOk h3) (v9 b _ ok h4) (tM h1)
|Y,.fork g k b,st,X,T,E,ok,h=>by
 obtain⟨h0,h⟩:=band h;revert h;refine EO st (eq_of_beq h0) ?_;intro t it x l p h;cases l<;>first|exact no h|skip
 ·obtain⟨hcm,h⟩:=band h;obtain⟨⟨⟨h1,h2⟩,h3⟩,h4⟩:=yX h;exact R9 ok.po (ok.calm hcm) (OX (dR (.var k) _ ok.toOk h2).1) (Il g _ ok.toOk h3) (v9 b _ ok h4) (tM h1)
|Y,.brk,st,X,T,E,ok,h=>by
 obtain⟨h0,h⟩:=band h;revert h;refine SE st (eq_of_beq h0) ?_;intro _ h;exact Og
|Y,.cont,st,X,T,E,ok,h=>by
 obtain⟨h0,h⟩:=band h;revert h;refine N_ st (eq_of_beq h0) ?_;intro _ h;exact Hi
|Y,.never,st,X,T,E,ok,h=>Oh
|Y,.rais g as,st,X,T,E,ok,h=>by
 obtain⟨h0,h⟩:=band h;obtain⟨hf,h⟩:=band h;revert hf h;refine SG st (eq_of_beq h0) ?_;intro e f p hf h;cases e with
 |none=>exact no hf
 |some e=>
 obtain⟨hf,hg⟩:=band hf;revert h hg;refine fJ e (eq_of_beq hf) ?_;intro fn es kw pc h hg;revert h;refine cG fn (eq_of_beq hg) ?_;intro x px h;cases kw<;>first|exact no h|skip
 cases f<;>first|exact no h|skip
 ·skip
  obtain⟨hcm,h⟩:=band h;obtain⟨⟨⟨⟨⟨h1,h2⟩,h3⟩,h4⟩,h5⟩,h6⟩:=qY h;cases es with
  |nil=>exact no h5
  |cons e er=>
   have hs':noStar e=true/\bW er=true:=by simpa[bW]using h4
   intro pins s O H D I q;replace q:(match Y[g]? with
    |some (.cls C fs n)=>xD C fs n (wEs X.K Y E as) E D O H
    |_=>False):=q
   split at q
   ·rename_i C fs n e1;obtain⟨hm,k,hr,fI,fd,ps,c1,c2,c3,c4,c5,rfl⟩:=ok.gl g x _ (of_decide_eq_true h1) e1;obtain⟨X0,eX,hst,hf,hh⟩:=ok.rz hcm;have pa:=v8 as (e::er) ok.toOk h4 h6;have gl:=ok.toOk.lR h2;subst eX;exact OC (X:=X0) c1 c2 hr hh c3 c4 c5 gl hm pa (rV h3) (e_ hs'.1) (m_ hs'.2) pins s O H D I q
   ·exact q.elim
|Y,.tri i g b hd,st,X,T,E,ok,h=>by
 obtain⟨h0,h⟩:=band h;obtain⟨hf,h⟩:=band h;revert hf h;refine UX st (eq_of_beq h0) ?_;intro body hs oe fe p hf h
 match hs,hf,h with
 |[],hf,h=>exact no hf
 |.ExceptHandler a b c d::hr,hf,h=>
  cases a with
  |none=>exact no hf
  |some a=>
  revert h;refine cG a (eq_of_beq hf) ?_;intro x px h;cases b<;>first|exact no h|skip
  rename_i n;cases c<;>first|exact no h|skip
  rename_i s0 sr;cases hr<;>first|exact no h|skip
  cases oe<;>first|exact no h|skip
  cases fe<;>first|exact no h|skip
  obtain⟨hcm,h⟩:=band h;obtain⟨⟨⟨⟨⟨⟨h1,h2⟩,h3⟩,h4⟩,h5⟩,h6⟩,h7⟩:=JH h;intro pins s O H D I q;replace q:(match Y[g]? with
   |some (.exb B _)=>Fy X.K i B (wB X.K Y b) (wSs X.K (Y.map G.hand) E0 hd) D O H
   |_=>False):=q
  split at q
  ·rename_i B Cs e1;obtain⟨hm,hB⟩:=ok.gl g x _ (of_decide_eq_true h1) e1;obtain⟨X0,eX,hst,hf,hh⟩:=ok.rz hcm;have hl:=of_decide_eq_true h5;rw[<-ok.sc]at hl;exact VH hst hf (fh b body ok.toOk h6) (fun e=>v9 hd (s0::sr) (ok.hand (.ref e)) h7) (ok.toOk.lR h2) hm hB ok.nd (ok.toOk.JI h4) hl (rV h3) pins s O H D I q
  ·exact q.elim
theorem v9:∀{Y:List G} (cs:cJ) (sts:List Stmt) {X:Cx}{T:Tab}{E:XK},Im X T Y E->mK T cs sts=true->m9 X sts (wSs X.K Y E cs)
|Y,.nil,sts,X,T,E,ok,h=>by
 cases sts with
 |nil=>exact HS
 |cons s r=>exact no h
|Y,.cons c r,sts,X,T,E,ok,h=>by
 cases sts with
 |nil=>exact no h
 |cons s sr=>
  obtain⟨h1,h2⟩:=band h;exact vK (Wa c s ok h1) (v9 r sr ok h2)
|Y,.two c d r,sts,X,T,E,ok,h=>by
 cases sts with
 |nil=>exact no h
 |cons s sr=>
  cases sr with
  |nil=>exact no h
  |cons s' sr=>
   obtain⟨h1,h2⟩:=band h;obtain⟨h2,h3⟩:=band h2;exact vK (Wa c s ok h1) (vK (Wa d s' ok h2) (v9 r sr ok h3))
|Y,.pin k r,sts,X,T,E,ok,h=>TH (v9 r sts ok h)
end
end
def FQ(P:bJ)(w:bS)(K:PySem.W.Frag)(mg:Str->Option Value)(base:Heap)(k:Nat)(x:Str):G->Prop
|.val v=>∃u,mg x=some u/\RelV v u
|.tup a xs=>mg x=some (.ref a)/\H9 K a true xs
|.fn sp dvs=>∃(f:Addr) (fd:fM) (ps:List Str) (ds:List Value),fK P w K mg base (j5 P w) k f fd ps sp/\mg x=some (.ref f)/\PySem.W.keepIn K (.ref f)=true/\Binds K fd ps ds/\bK dvs ds
|.cls C fs n=>mg x=some (.ref C)/\∃j,j+1<=k/\E1 P w K mg base j C fs n
|.iB D Cs=>mg x=some (.ref D)/\gY K D Cs
|.ou Cs as=>tL K Cs as
|.exb B _=>mg x=some (.ref B)/\A6 K B
|.nop=>True
def Ah(P:bJ)(w:bS)(K:PySem.W.Frag)(mg:Str->Option Value)(base:Heap)(k:Nat):List Str->List G->Prop
|x::xs,g::gs=>FQ P w K mg base k x g/\Ah P w K mg base k xs gs
|_,_=>True
theorem Ah.get{mg:Str->Option Value}{base:Heap}:∀{xs:List Str}{gs:List G},Ah P w K mg base k xs gs->∀(i:Nat) x g,xs[i]?=some x->gs[i]?=some g->FQ P w K mg base k x g
|[],_,_,i,x,g,h,_=>by simp at h
|_::_,[],_,i,x,g,_,h=>by simp at h
|x::xs,g::gs,a,0,y,g',h1,h2=>by
 simp at h1 h2;subst h1 h2;exact a.1
|x::xs,g::gs,a,i+1,y,g',h1,h2=>Ah.get a.2 i y g' (by simpa using h1) (by simpa using h2)
variable{qual:Str}{st:Stmt}{f:Addr}{fd:fM}{ps:List Str}{sp:Sp}
section
variable{P:bJ}{w:bS}{K:PySem.W.Frag}{mg:Str->Option Value}{base:Heap}
theorem qI.okE(F:qI K x qual st f fd)(S:lO N ps (cA st))(len:∀vs H Q E,sp vs H Q E->vs.length=ps.length)
  (hbody:∀(cdv:Value) (A:dh) (outer:List Env) (s:aj) (H:Hp) (vs:List V) (Q:VK) (E:XK),h_ k (A.deeper (jz qual (cA st) s.heap.objs.size f cdv))->sp vs H Q E->
   ∃t,m9 ((kN (j5 P w) P w K mg base N qual (cA st) f cdv A outer s H E).jC (uE (kN (j5 P w) P w K mg base N qual (cA st) f cdv A outer s H E) E)) (gc st) t/\t { nx:=fun _ H'=>Q .non H',rt:=Q } (start N vs) H):fK P w K mg base (j5 P w) (k+1) f fd ps sp:=by
 obtain⟨oc,od,kV,doc,pm,an,cdv,ct,osl,rfl,lk,hcd⟩:=F.ex;refine RX lk hcd S len fun A outer s H vs Q E hr hsp=>?_;obtain⟨t,h,q⟩:=hbody cdv A outer s H vs Q E hr hsp;exact⟨t,Vz h,q⟩
theorem Wb{gl bn:List Str}(c:cJ)(F:qI K x qual st f fd)(S:lO N ps (cA st))(hc:mK ⟨N,cA st,gl,bn,(fun _=>true),true⟩ c (gc st)=true)
  (hg:Ah P w K mg base k gl Y) (hb:∀x∈bn,mg x=none) (len:∀vs H Q E,sp vs H Q E->vs.length=ps.length)
  (h:∀vs H Q E,sp vs H Q E->wSs K Y E c { nx:=fun _ H'=>Q .non H',rt:=Q } (start N vs) H):fK P w K mg base (j5 P w) (k+1) f fd ps sp:=by
 refine qI.okE F S len fun cdv A outer s H vs Q E hr hsp=>⟨wSs K Y E c,?_,h vs H Q E hsp⟩;have ok:Im ((kN (j5 P w) P w K mg base N qual (cA st) f cdv A outer s H E).jC (uE (kN (j5 P w) P w K mg base N qual (cA st) f cdv A outer s H E) E)) ⟨N,cA st,gl,bn,(fun _=>true),true⟩ Y E:=by
  refine⟨⟨rfl,S.nd,rfl,S.kind,fun i x g hx hg'=>?_,hb,fun _ _=>rfl,fun _=>rfl,Jt (X:=kN (j5 P w) P w K mg base N qual (cA st) f cdv A outer s H E) rfl rfl,by have:=hr.un;show(A.deeper (jz qual (cA st) s.heap.objs.size f cdv)).units+60<dM;omega⟩,fun _=>⟨_,rfl,rfl,rfl,hr.hd⟩⟩;have q:=hg.get i x g hx hg';cases g with
  |fn sp dvs=>
   obtain⟨f,fd,ps,ds,q1,q2,q3,q4,q5⟩:=q;exact⟨k,f,fd,ps,ds,q1,hr,q2,q3,q4,q5,S6⟩
  |cls C fs n=>
   obtain⟨q1,j,q2,q3⟩:=q;exact⟨q1,j,hr.mono q2,q3⟩
  |_=>exact q
 exact v9 c _ ok hc
theorem fK.calm(F:fK P w K mg base (j5 P w) k f fd ps sp):fK P w K mg base zF k f fd ps (fun vs H Q _=>sp vs H Q E0):=
 ⟨fun vs H Q E h=>F.len vs H Q E0 h,fun A outer s H args us vs Q E hr he hb hv hs=>lI (F.run A outer s H args us vs Q E0 hr he hb hv hs) fun r s' q=>by
  cases r with
  |error v=>exact(OU q).elim
  |ok fl=>cases fl<;>exact q⟩
end
end L3
end
section
namespace L3
open PySem L2
theorem Yh(a c:Nat):decide ([c]<[a])=decide (c<a):=by
 rw[K5,Oa];simp
theorem len_str(x:Str):x.cps.toList.length=x.length:=by simp[fZ]
mutual
def bG(K:PySem.W.Frag)(H F:Hp):D->V->List Addr->Prop
|.non,v,fp=>v=.non/\fp=[]
|.bl b,v,fp=>v=.bl b/\fp=[]
|.int i,v,fp=>v=.int i/\fp=[]
|.str x,v,fp=>(v=.str x/\x.length<=aa)/\fp=[]
|.lst o ds,v,fp=>if o=true then ∃a vs fs,v=.ref a/\H a=some (.lst vs)/\vs.length<=aa/\aR K H F ds vs fs/\fp=a::fs else aU K F (.lst o ds) v/\fp=[]
|.tup ds,v,fp=>∃a vs,v=.ref a/\F a=some (.tup vs)/\vs.length<=aa/\aR K H F ds vs fp
|.bZ o ks ds,v,fp=>if o=true then ∃a kvs fs,v=.ref a/\H a=some (.dK kvs)/\kvs.length<=aa/\(kvs.map (·.1)=ks/\keysOk ks=true)/\aR K H F ds (kvs.map (·.2)) fs/\fp=a::fs else aU K F (.bZ o ks ds) v/\fp=[]
|.pdc ks ds,v,fp=>aU K F (.pdc ks ds) v/\fp=[]
|.cst ds,v,fp=>aU K F (.cst ds) v/\fp=[]
|.exc C ks ds,v,fp=>aU K F (.exc C ks ds) v/\fp=[]
def aR(K:PySem.W.Frag)(H F:Hp):List D->List V->List Addr->Prop
|[],vs,fp=>vs=[]/\fp=[]
|d::ds,vs,fp=>∃v r f1 f2,vs=v::r/\fp=f1++f2/\bG K H F d v f1/\aR K H F ds r f2
end
variable{d:D}{v:V}{fp:List Addr}
section
variable{K:PySem.W.Frag}{H H' F F':Hp}
theorem gi.same'{a:Addr}{t:Bool}{xs:List V}(e:aZ H H')(h:gi K H a t xs):gi K H' a t xs:=by
 rcases h with h|h
 ·refine .inl ?_;unfold Cd at h ⊢;cases q:H a with
  |none=>rw[q]at h;cases h
  |some o=>rw[q]at h;rw[e a o q];exact h
 ·exact .inr h
theorem Rd.same{a:Addr}{u:HO}(e:aZ H H')(h:Rd H a u):Rd H' a u:=by
 rcases h with h|⟨o,h⟩
 ·exact .inl (e _ _ h)
 ·exact .inr ⟨o,e _ _ h⟩
theorem Rd.seq{a:Addr}{xs:List V}(h:Rd H a (.lst xs)):gi K H a false xs:=by
 refine .inl ?_;unfold Cd;rcases h with h|⟨o,h⟩<;>rw[h]
mutual
theorem aU.mono(e:aZ H H'):∀(d:D) (v:V),aU K H d v->aU K H' d v
|.non,v,h=>h
|.bl b,v,h=>h
|.int i,v,h=>h
|.str x,v,h=>h
|.lst o ds,v,h=>by
 obtain⟨a,vs,h1,h2,h3,h4⟩:=h;exact⟨a,vs,h1,Rd.same e h2,h3,aD.mono e ds vs h4⟩
|.tup ds,v,h=>by
 obtain⟨a,vs,h1,h2,h3,h4⟩:=h;exact⟨a,vs,h1,e _ _ h2,h3,aD.mono e ds vs h4⟩
|.bZ o ks ds,v,h=>by
 obtain⟨a,vs,h1,h2,h3,h4,h5⟩:=h;exact⟨a,vs,h1,e _ _ h2,h3,h4,aD.mono e ds _ h5⟩
|.pdc ks ds,v,h=>by
 obtain⟨a,vs,h1,⟨ob,h2⟩,h3,h4,h5⟩:=h;exact⟨a,vs,h1,⟨ob,e _ _ h2⟩,h3,h4,aD.mono e ds _ h5⟩
|.cst ds,v,h=>by
 obtain⟨a,vs,h1,h2,h3,h4⟩:=h;exact⟨a,vs,h1,h2,h3,aD.mono e ds vs h4⟩
|.exc C ks ds,v,h=>by
 obtain⟨a,d,vs,h1,h2,h3,h4⟩:=h;exact⟨a,d,vs,h1,e _ _ h2,e _ _ h3,aD.mono e ds vs h4⟩
theorem aD.mono(e:aZ H H'):∀(ds:List D) (vs:List V),aD K H ds vs->aD K H' ds vs
|[],vs,h=>h
|d::ds,vs,h=>by
 obtain⟨v,r,h1,h2,h3⟩:=h;exact⟨v,r,h1,aU.mono e d v h2,aD.mono e ds r h3⟩
end
mutual
theorem aU.bC:∀(d:D) (v:V),aU K F (bC d) v↔aU K F d v
|.non,v=>zg
|.bl b,v=>zg
|.int i,v=>zg
|.str x,v=>zg
|.lst o ds,v=>by
 constructor
 ·rintro⟨a,vs,h1,h2,h3,h4⟩;exact⟨a,vs,h1,h2,h3,(aD.az ds vs).mp h4⟩
 ·rintro⟨a,vs,h1,h2,h3,h4⟩;exact⟨a,vs,h1,h2,h3,(aD.az ds vs).mpr h4⟩
|.tup ds,v=>by
 constructor
 ·rintro⟨a,vs,h1,h2,h3,h4⟩;exact⟨a,vs,h1,h2,h3,(aD.az ds vs).mp h4⟩
 ·rintro⟨a,vs,h1,h2,h3,h4⟩;exact⟨a,vs,h1,h2,h3,(aD.az ds vs).mpr h4⟩
|.bZ o ks ds,v=>by
 constructor
 ·rintro⟨a,vs,h1,h2,h3,h4,h5⟩;exact⟨a,vs,h1,h2,h3,h4,(aD.az ds _).mp h5⟩
 ·rintro⟨a,vs,h1,h2,h3,h4,h5⟩;exact⟨a,vs,h1,h2,h3,h4,(aD.az ds _).mpr h5⟩
|.pdc ks ds,v=>by
 constructor
 ·rintro⟨a,vs,h1,h2,h3,h4,h5⟩;exact⟨a,vs,h1,h2,h3,h4,(aD.az ds _).mp h5⟩
 ·rintro⟨a,vs,h1,h2,h3,h4,h5⟩;exact⟨a,vs,h1,h2,h3,h4,(aD.az ds _).mpr h5⟩
|.cst ds,v=>by
 constructor
 ·rintro⟨a,vs,h1,h2,h3,h4⟩;exact⟨a,vs,h1,h2,h3,(aD.az ds vs).mp h4⟩
 ·rintro⟨a,vs,h1,h2,h3,h4⟩;exact⟨a,vs,h1,h2,h3,(aD.az ds vs).mpr h4⟩
|.exc C ks ds,v=>by
 constructor
 ·rintro⟨a,d,vs,h1,h2,h3,h4⟩;exact⟨a,d,vs,h1,h2,h3,(aD.az ds vs).mp h4⟩
 ·rintro⟨a,d,vs,h1,h2,h3,h4⟩;exact⟨a,d,vs,h1,h2,h3,(aD.az ds vs).mpr h4⟩
theorem aD.az:∀(ds:List D) (vs:List V),aD K F (az ds) vs↔aD K F ds vs
|[],vs=>zg
|d::ds,vs=>by
 constructor
 ·rintro⟨v,r,h1,h2,h3⟩;exact⟨v,r,h1,(aU.bC d v).mp h2,(aD.az ds r).mp h3⟩
 ·rintro⟨v,r,h1,h2,h3⟩;exact⟨v,r,h1,(aU.bC d v).mpr h2,(aD.az ds r).mpr h3⟩
end
mutual
theorem aU.xM:∀(d:D) (v:V),aU K F d v->bG K H F (bC d) v []
|.non,v,h=>⟨h,rfl⟩
|.bl b,v,h=>⟨h,rfl⟩
|.int i,v,h=>⟨h,rfl⟩
|.str x,v,h=>⟨h,rfl⟩
|.lst o ds,v,h=>⟨(aU.bC (.lst o ds) v).mpr h,rfl⟩
|.tup ds,v,h=>by
 obtain⟨a,vs,h1,h2,h3,h4⟩:=h;exact⟨a,vs,h1,h2,h3,aD.xM ds vs h4⟩
|.bZ o ks ds,v,h=>⟨(aU.bC (.bZ o ks ds) v).mpr h,rfl⟩
|.pdc ks ds,v,h=>⟨(aU.bC (.pdc ks ds) v).mpr h,rfl⟩
|.cst ds,v,h=>⟨(aU.bC (.cst ds) v).mpr h,rfl⟩
|.exc C ks ds,v,h=>⟨(aU.bC (.exc C ks ds) v).mpr h,rfl⟩
theorem aD.xM:∀(ds:List D) (vs:List V),aD K F ds vs->aR K H F (az ds) vs []
|[],vs,h=>⟨h,rfl⟩
|d::ds,vs,h=>by
 obtain⟨v,r,h1,h2,h3⟩:=h;exact⟨v,r,[],[],h1,rfl,aU.xM d v h2,aD.xM ds r h3⟩
end
mutual
theorem bG.mono(e:aZ F F'):∀(d:D) (v:V) (fp:List Addr),(∀a∈fp,H' a=H a)->bG K H F d v fp->bG K H' F' d v fp
|.non,v,fp,_,h=>h
|.bl b,v,fp,_,h=>h
|.int i,v,fp,_,h=>h
|.str x,v,fp,_,h=>h
|.lst o ds,v,fp,s,h=>by
 unfold bG at h ⊢;split at h
 ·rename_i ho;rw[if_pos ho];obtain⟨a,vs,fs,h1,h2,h3,h4,rfl⟩:=h;exact⟨a,vs,fs,h1,by rw[s a ao];exact h2,h3,aR.mono e ds vs fs (fun b hb=>s b (ai _ hb)) h4,rfl⟩
 ·rename_i ho;rw[if_neg ho];exact⟨aU.mono e _ v h.1,h.2⟩
|.tup ds,v,fp,s,h=>by
 obtain⟨a,vs,h1,h2,h3,h4⟩:=h;exact⟨a,vs,h1,e _ _ h2,h3,aR.mono e ds vs fp s h4⟩
|.bZ o ks ds,v,fp,s,h=>by
 unfold bG at h ⊢;split at h
 ·rename_i ho;rw[if_pos ho];obtain⟨a,vs,fs,h1,h2,h3,h4,h5,rfl⟩:=h;exact⟨a,vs,fs,h1,by rw[s a ao];exact h2,h3,h4,aR.mono e ds _ fs (fun b hb=>s b (ai _ hb)) h5,rfl⟩
 ·rename_i ho;rw[if_neg ho];exact⟨aU.mono e _ v h.1,h.2⟩
|.pdc ks ds,v,fp,s,h=>⟨aU.mono e _ v h.1,h.2⟩
|.cst ds,v,fp,s,h=>⟨aU.mono e _ v h.1,h.2⟩
|.exc C ks ds,v,fp,s,h=>⟨aU.mono e _ v h.1,h.2⟩
theorem aR.mono(e:aZ F F'):∀(ds:List D) (vs:List V) (fp:List Addr),(∀a∈fp,H' a=H a)->aR K H F ds vs fp->aR K H' F' ds vs fp
|[],vs,fp,_,h=>h
|d::ds,vs,fp,s,h=>by
 obtain⟨v,r,f1,f2,h1,rfl,h3,h4⟩:=h;exact⟨v,r,f1,f2,h1,rfl,bG.mono e d v f1 (fun b hb=>s b (aL _ hb)) h3,aR.mono e ds r f2 (fun b hb=>s b (ay _ hb)) h4⟩
end
mutual
theorem bG.fix(e:aZ F F'):∀(d:D) (v:V) (fp:List Addr),(∀a∈fp,F' a=H a)->bG K H F d v fp->aU K F' d v
|.non,v,fp,_,h=>h.1
|.bl b,v,fp,_,h=>h.1
|.int i,v,fp,_,h=>h.1
|.str x,v,fp,_,h=>h.1
|.lst o ds,v,fp,s,h=>by
 unfold bG at h;split at h
 ·obtain⟨a,vs,fs,h1,h2,h3,h4,rfl⟩:=h;exact⟨a,vs,h1,.inl (by rw[s a ao];exact h2),h3,aR.fix e ds vs fs (fun b hb=>s b (ai _ hb)) h4⟩
 ·exact aU.mono e _ v h.1
|.tup ds,v,fp,s,h=>by
 obtain⟨a,vs,h1,h2,h3,h4⟩:=h;exact⟨a,vs,h1,e _ _ h2,h3,aR.fix e ds vs fp s h4⟩
|.bZ o ks ds,v,fp,s,h=>by
 unfold bG at h;split at h
 ·obtain⟨a,vs,fs,h1,h2,h3,h4,h5,rfl⟩:=h;exact⟨a,vs,h1,by rw[s a ao];exact h2,h3,h4,aR.fix e ds _ fs (fun b hb=>s b (ai _ hb)) h5⟩
 ·exact aU.mono e _ v h.1
|.pdc ks ds,v,fp,s,h=>aU.mono e _ v h.1
|.cst ds,v,fp,s,h=>aU.mono e _ v h.1
|.exc C ks ds,v,fp,s,h=>aU.mono e _ v h.1
theorem aR.fix(e:aZ F F'):∀(ds:List D) (vs:List V) (fp:List Addr),(∀a∈fp,F' a=H a)->aR K H F ds vs fp->aD K F' ds vs
|[],vs,fp,_,h=>h.1
|d::ds,vs,fp,s,h=>by
 obtain⟨v,r,f1,f2,h1,rfl,h3,h4⟩:=h;exact⟨v,r,h1,bG.fix e d v f1 (fun b hb=>s b (aL _ hb)) h3,aR.fix e ds r f2 (fun b hb=>s b (ay _ hb)) h4⟩
end
def FT:HO->Prop
|.lst _=>True
|.dK _=>True
|.dT _=>True
|_=>False
def Ai(F' F:Hp):Prop:=∀b o,F' b=some o->F b=some o\/FT o
theorem Ai.tup{a:Addr}{xs:List V}(e:Ai F' F)(h:F' a=some (.tup xs)):F a=some (.tup xs):=by
 rcases e a _ h with z|z
 ·exact z
 ·exact z.elim
mutual
theorem bG.less(e:Ai F' F):∀(d:D) (v:V) (fp:List Addr),aQ d=true->bG K H F' d v fp->bG K H F d v fp
|.non,v,fp,_,h=>h
|.bl b,v,fp,_,h=>h
|.int i,v,fp,_,h=>h
|.str x,v,fp,_,h=>h
|.lst o ds,v,fp,s,h=>by
 have s':o=true/\cD ds=true:=by simpa[aQ]using s
 unfold bG at h ⊢;rw[if_pos s'.1]at h ⊢;obtain⟨a,vs,fs,h1,h2,h3,h4,rfl⟩:=h;exact⟨a,vs,fs,h1,h2,h3,aR.less e ds vs fs s'.2 h4,rfl⟩
|.tup ds,v,fp,s,h=>by
 obtain⟨a,vs,h1,h2,h3,h4⟩:=h;exact⟨a,vs,h1,e.tup h2,h3,aR.less e ds vs fp s h4⟩
|.bZ o ks ds,v,fp,s,h=>by
 have s':o=true/\cD ds=true:=by simpa[aQ]using s
 unfold bG at h ⊢;rw[if_pos s'.1]at h ⊢;obtain⟨a,vs,fs,h1,h2,h3,h4,h5,rfl⟩:=h;exact⟨a,vs,fs,h1,h2,h3,h4,aR.less e ds _ fs s'.2 h5,rfl⟩
|.pdc ks ds,v,fp,s,h=>by cases s
|.cst ds,v,fp,s,h=>by cases s
|.exc C ks ds,v,fp,s,h=>by cases s
theorem aR.less(e:Ai F' F):∀(ds:List D) (vs:List V) (fp:List Addr),cD ds=true->aR K H F' ds vs fp->aR K H F ds vs fp
|[],vs,fp,_,h=>h
|d::ds,vs,fp,s,h=>by
 have s':aQ d=true/\cD ds=true:=by simpa[cD]using s
 obtain⟨v,r,f1,f2,h1,rfl,h3,h4⟩:=h;exact⟨v,r,f1,f2,h1,rfl,bG.less e d v f1 s'.1 h3,aR.less e ds r f2 s'.2 h4⟩
end
theorem aD.len:∀{ds:List D}{vs:List V},aD K H ds vs->vs.length=ds.length
|[],_,h=>by cases h;rfl
|d::ds,_,h=>by
 obtain⟨v,r,rfl,_,h3⟩:=h;simp[aD.len h3]
theorem aR.len:∀{ds:List D}{vs:List V}{fp:List Addr},aR K H F ds vs fp->vs.length=ds.length
|[],_,_,h=>by cases h.1;rfl
|d::ds,_,_,h=>by
 obtain⟨v,r,_,_,rfl,_,_,h3⟩:=h;simp[aR.len h3]
theorem aD.get:∀{ds:List D}{vs:List V} (i:Nat) {d:D},aD K H ds vs->ds[i]?=some d->∃v,vs[i]?=some v/\aU K H d v
|[],_,i,_,_,e=>by simp at e
|d::ds,_,0,_,h,e=>by
 obtain⟨v,r,rfl,h2,_⟩:=h;simp at e;subst e;exact⟨v,rfl,h2⟩
|d::ds,_,i+1,_,h,e=>by
 obtain⟨v,r,rfl,_,h3⟩:=h;obtain⟨w,e1,e2⟩:=aD.get i h3 (by simpa using e);exact⟨w,by simpa using e1,e2⟩
theorem aD.app:∀{ds ds':List D}{vs vs':List V},aD K H ds vs->aD K H ds' vs'->aD K H (ds++ds') (vs++vs')
|[],_,_,_,h,h'=>by cases h;exact h'
|d::ds,_,_,_,h,h'=>by
 obtain⟨v,r,rfl,h2,h3⟩:=h;exact⟨v,_,rfl,h2,aD.app h3 h'⟩
theorem aR.app:∀{ds ds':List D}{vs vs':List V}{f f':List Addr},aR K H F ds vs f->aR K H F ds' vs' f'->aR K H F (ds++ds') (vs++vs') (f++f')
|[],_,_,_,_,_,h,h'=>by obtain⟨rfl,rfl⟩:=h;exact h'
|d::ds,_,_,_,_,_,h,h'=>by
 obtain⟨v,r,f1,f2,rfl,rfl,h2,h3⟩:=h;exact⟨v,_,f1,_,rfl,by simp,h2,aR.app h3 h'⟩
theorem aR.one(h:bG K H F d v fp):aR K H F [d] [v] fp:=⟨v,[],fp,[],rfl,by simp,h,rfl,rfl⟩
end
inductive R (α:Type) where
|ok (a:α)|ex (x:D)|bad
noncomputable def R.bind{α β:Type}:R α->(α->R β)->R β
|.ok a,f=>f a
|.ex x,_=>.ex x
|.bad,_=>.bad
noncomputable def R.opt{α:Type}:Option α->R α
|some a=>.ok a
|none=>.bad
noncomputable def R.fE{α:Type}:R α->R α
|.ok a=>.ok a
|_=>.bad
noncomputable def R.bA{α:Type}(b:Bool)(r:R α):R α:=match b with
|true=>r
|false=>.bad
instance (i j:Int):Decidable (uB i j):=by unfold uB;infer_instance
instance (i j:Int):Decidable (vM i j):=by unfold vM;infer_instance
instance (i j:Int):Decidable (vN i j):=by unfold vN;infer_instance
noncomputable def kg:D->Option Key
|.int i=>some (.inl i)
|.str x=>some (.inr x)
|_=>none
noncomputable def Se:List D->Option (List Key)
|[]=>some []
|d::r=>(kg d).bind fun k=>(Se r).map (k::·)
noncomputable def YQ:D->Option (List Key)
|.tup xs=>Se xs
|_=>none
noncomputable def eN:Key->D
|.inl i=>.int i
|.inr x=>.str x
noncomputable def k8{κ:Type}[DecidableEq κ]:List κ->List D->κ->Option D
|k::ks,d::ds,q=>if k=q then some d else k8 ks ds q
|_,_,_=>none
noncomputable def oR{κ:Type}[DecidableEq κ](ks:List κ)(q:κ):Bool:=ks.any fun k=>decide (k=q)
noncomputable def qt{κ:Type}[DecidableEq κ]:List κ->List D->κ->D->List D
|k::ks,d::ds,q,x=>(if k=q then x else d)::qt ks ds q x
|_,_,_,_=>[]
noncomputable def Bh(z:Str)(n:Nat):Str:=⟨(aF n z.cps.toList).flatten.toArray⟩
noncomputable def nK:D->Bool
|.non=>true
|_=>false
noncomputable def mL:D->Bool
|.bl _=>true
|_=>false
noncomputable def lT:D->Bool
|.bl true=>true
|_=>false
noncomputable def rW:D->Bool
|.int _=>true
|_=>false
noncomputable def intD:D->Int
|.int i=>i
|_=>0
noncomputable def ph:List D->Option (List Str)
|[]=>some []
|.str x::r=>(ph r).map (x::·)
|_::_=>none
noncomputable def kh(op:sU)(x y:D):R D:=match x,y with
|.int i,.int j=>match op with
 |.Add=>.ok (.int (i+j))
 |.Sub=>.ok (.int (i-j))
 |.Mult=>.bA (decide (uB i j)) (.ok (.int (i*j)))
 |.FloorDiv=>.bA (decide (vM i j)) (.ok (.int (i / j)))
 |.Mod=>.bA (decide (0<j)) (.ok (.int (i%j)))
 |.Pow=>.bA (decide (vN i j)) (.ok (.int (i ^ j.toNat)))
 |_=>.bad
|.str i,.str j=>match op with
 |.Add=>.bA (decide (i.length+j.length<=aa)) (.ok (.str (i++j)))
 |_=>.bad
|.str i,.int j=>match op with
 |.Mult=>.bA (decide (0<=j/\j<2 ^ 40/\i.length*j.toNat<=aa)) (.ok (.str (Bh i j.toNat)))
 |_=>.bad
|.lst _ xs,.lst _ ys=>match op with
 |.Add=>.bA (decide (xs.length+ys.length<=aa)) (.ok (.lst true (az xs++az ys)))
 |_=>.bad
|.tup xs,.tup ys=>match op with
 |.Add=>.bA (!xs.isEmpty&&!ys.isEmpty&&decide (xs.length+ys.length<=aa)) (.ok (.tup (az xs++az ys)))
 |_=>.bad
|.lst _ xs,.int k=>match op with
 |.Mult=>.bA (decide ((-(2 ^ 63)<=k/\k<2 ^ 63)/\xs.length*k.toNat<=aa)) (.ok (.lst true (aF k.toNat (az xs)).flatten))
 |_=>.bad
|_,_=>.bad
noncomputable def Wc(op:n9)(x y:D):R D:=match x,y with
|.int i,.int j=>match op with
 |.Lt=>.ok (.bl (decide (i<j)))
 |.LtE=>.ok (.bl (decide (i<=j)))
 |.Gt=>.ok (.bl (decide (j<i)))
 |.GtE=>.ok (.bl (decide (j<=i)))
 |_=>.bad
|.str i,.str j=>match op with
 |.Lt=>.ok (.bl (decide (i.cps.toList<j.cps.toList)))
 |.LtE=>.ok (.bl (!decide (j.cps.toList<i.cps.toList)))
 |_=>.bad
|_,_=>.bad
noncomputable def inD(x y:D):R Bool:=match y with
|.lst _ ys=>.bA (cN x&&eY ys) (.ok (memD x ys))
|.tup ys=>.bA (cN x&&eY ys) (.ok (memD x ys))
|.bZ _ ks _=>match kg x with
 |some k=>.ok (oR ks k)
 |none=>.bad
|.pdc ks _=>match kg x with
 |some k=>.ok (oR ks k)
 |none=>.bad
|.cst ys=>.bA (cN x&&eY ys) (.ok (memD x ys))
|_=>.bad
noncomputable def cL(op:n9)(x y:D):R D:=match op with
|.Eq=>.bA (cN x&&cN y) (.ok (.bl (jj x y)))
|.NotEq=>.bA (cN x&&cN y) (.ok (.bl (!jj x y)))
|.Is=>.bA (nK y) (.ok (.bl (nK x)))
|.IsNot=>.bA (nK y) (.ok (.bl (!nK x)))
|.In=>(inD x y).bind fun b=>.ok (.bl b)
|.NotIn=>(inD x y).bind fun b=>.ok (.bl (!b))
|op=>Wc op x y
noncomputable def jo:D->R Bool
|.bl b=>.ok b
|.non=>.ok false
|.int i=>.ok (i != 0)
|.str z=>.ok (z.length != 0)
|.lst _ xs=>.ok (!xs.isEmpty)
|.tup xs=>.ok (!xs.isEmpty)
|.bZ _ ks _=>.ok (!ks.isEmpty)
|.pdc _ _=>.bad
|.cst _=>.bad
|.exc _ _ _=>.bad
noncomputable def mz(x y:D):R D:=match x with
|.str z=>match y with
 |.int i=>(R.opt (cH z.cps.toList i)).bind fun c=>.ok (.str ⟨#[c]⟩)
 |_=>.bad
|.lst _ xs=>match y with
 |.int i=>(R.opt (cH xs i)).bind fun d=>.ok (bC d)
 |_=>.bad
|.tup xs=>match y with
 |.int i=>(R.opt (cH xs i)).bind fun d=>.ok (bC d)
 |_=>.bad
|.bZ _ ks xs=>match kg y with
 |some k=>(R.opt (k8 ks xs k)).bind fun d=>.ok (bC d)
 |none=>.bad
|.pdc ks xs=>match kg y with
 |some k=>(R.opt (k8 ks xs k)).bind fun d=>.ok (bC d)
 |none=>.bad
|_=>.bad
noncomputable def Io(x:D)(lo hi:Option Int):R D:=match x with
|.str z=>.ok (.str ⟨(cut z.cps.toList lo hi).toArray⟩)
|.lst _ xs=>.ok (.lst true (az (cut xs lo hi)))
|.tup xs=>match lo,hi with
 |some n,none=>.bA (decide (1<=n/\n<=xs.length)) (.ok (.tup (az (xs.drop n.toNat))))
 |_,_=>.bad
|_=>.bad
noncomputable def slpD(x:D)(lo hi:Option Int)(k:Int):R D:=match x with
|.lst _ xs=>.bA (decide (k≠0)&&decide ((R4 xs lo hi k).length<=aa)) (.ok (.lst true (az (R4 xs lo hi k))))
|_=>.bad
noncomputable def pairD:D->Option (Key×D)
|.tup [k,v]=>(kg k).map fun q=>(q,v)
|_=>none
noncomputable def i9(f:Bf)(vs:List D):R D:=match vs with
|[x]=>match f with
 |.len=>match x with
  |.str z=>.ok (.int z.length)
  |.lst _ xs=>.ok (.int xs.length)
  |.tup xs=>.ok (.int xs.length)
  |.bZ _ ks _=>.ok (.int ks.length)
  |.pdc ks _=>.ok (.int ks.length)
  |_=>.bad
 |.all=>match x with
  |.lst _ xs=>.bA (xs.all mL) (.ok (.bl (xs.all lT)))
  |_=>.bad
 |.any=>match x with
  |.lst _ xs=>.bA (xs.all mL) (.ok (.bl (xs.any lT)))
  |_=>.bad
 |.int=>match x with
  |.int i=>.ok (.int i)
  |.bl b=>.ok (.int (if b then 1 else 0))
  |.str z=>.bA (decide (z.length<=640)) ((R.opt (intText? z)).bind fun n=>.ok (.int n))
  |_=>.bad
 |.str=>match x with
  |.int i=>.bA (decide (i.natAbs.log2<1920)&&decide ((dP i).length<=aa)) (.ok (.str (dP i)))
  |_=>.bad
 |.list=>match x with
  |.lst _ xs=>.ok (.lst true (az xs))
  |.tup xs=>.ok (.lst true (az xs))
  |.bZ _ ks _=>.ok (.lst true (ks.map eN))
  |.pdc ks _=>.ok (.lst true (ks.map eN))
  |_=>.bad
 |.sum=>match x with
  |.lst _ xs=>.bA (xs.all rW) (.ok (.int (xs.map intD).sum))
  |_=>.bad
 |_=>.bad
|[x,y]=>match x,y with
 |.int i,.int j=>match f with
  |.max=>.ok (.int (if j>i then j else i))
  |_=>.bad
 |_,_=>.bad
|_=>.bad
noncomputable def Co(t:Ty):D->Bool
|.non=>false
|.bl _=>decide (t=.bool)||decide (t=.int)
|.int _=>decide (t=.int)
|.str _=>decide (t=.str)
|.lst _ _=>decide (t=.list)
|.tup _=>decide (t=.tuple)
|.bZ _ _ _=>decide (t=.dict)
|.pdc _ _=>decide (t=.dict)
|.cst _=>decide (t=.tuple)
|.exc _ _ _=>false
noncomputable def xN:D->Bool
|.exc _ _ _=>false
|_=>true
noncomputable def p6(c:Nat)(l:List Nat):List D:=(cu c l).map fun p=>D.str (strOf p)
noncomputable def ki(m:Mt)(x:D)(vs:List D):R D:=match x with
|.str z=>match vs with
 |[y]=>match y with
  |.str q=>match m with
   |.startswith=>.ok (.bl (q.cps.toList.isPrefixOf z.cps.toList))
   |.split=>.bA (decide (q.length=1)&&decide (z.length+2<=aa)) (.ok (.lst true (p6 (q.cps.getD 0 0) z.cps.toList)))
   |_=>.bad
  |.lst _ ys=>match m with
   |.join=>(R.opt (ph ys)).bind fun ss=>.bA (decide ((ss.map (·.length)).sum+ss.length*z.length<=aa)) (.ok (.str (fB z ss)))
   |_=>.bad
  |_=>.bad
 |[]=>match m with
  |.split=>.bA (decide ((eW z).length<=aa)&&(eW z).all fun w=>decide (w.length<=aa)) (.ok (.lst true ((eW z).map D.str)))
  |_=>.bad
 |_=>.bad
|.bZ _ ks xs=>match vs with
 |[k]=>match m with
  |.get=>match kg k with
   |some k'=>.ok (bC ((k8 ks xs k').getD .non))
   |none=>.bad
  |_=>.bad
 |[k,y]=>match m with
  |.get=>match kg k with
   |some k'=>.ok (bC ((k8 ks xs k').getD y))
   |none=>.bad
  |_=>.bad
 |_=>.bad
|_=>.bad
noncomputable abbrev bz:=List (Option D)
inductive PG where
|val (d:D)
|fn (m:List D->R D) (dds:List D)
|cls (C:Addr) (fs:List (Str×Nat)) (n:Nat)
|iB (D:Addr) (Cs:List Addr)
|ou (Cs:List Addr) (as:List Str)
|exb (Cs:List Addr)
|nop
inductive Fl where
|nx (O:bz)|rt (d:D)|bk (O:bz)|ct (O:bz)|ex (x:D)|bad
noncomputable def R.aY{α:Type}:R α->(α->Fl)->Fl
|.ok a,f=>f a
|.ex x,_=>.ex x
|.bad,_=>.bad
noncomputable def R.mU{α:Type}(b:Bool):R α->(α->Fl)->Fl
|.ok a,f=>f a
|.ex x,_=>match b with
 |true=>.ex x
 |false=>.bad
|.bad,_=>.bad
noncomputable def PG.hand:PG->PG
|.fn _ _=>.nop
|.cls _ _ _=>.nop
|p=>p
noncomputable def xO:V->R D
|.non=>.ok .non
|.bl b=>.ok (.bl b)
|.int i=>.ok (.int i)
|.str x=>.ok (.str x)
|_=>.bad
noncomputable def u7(z:Str):List D:=z.cps.toList.map fun c=>D.str ⟨#[c]⟩
noncomputable def k9(lo:Int)(n:Nat):List D:=(cW n).map fun(i:Nat)=>D.int (lo+(i:Int))
noncomputable def jg:Nat->List D->List D
|_,[]=>[]
|n,x::r=>.tup [.int (n:Int),x]::jg (n+1) r
noncomputable def qv:D->R (List D)
|.str z=>.ok (u7 z)
|.lst _ xs=>.ok (az xs)
|.tup xs=>.ok (az xs)
|_=>.bad
noncomputable def rX:List D->R (List D)
|[.int j]=>.bA (decide (-(2 ^ 62)<=j/\j.toNat<=aa)) (.ok (k9 0 j.toNat))
|[.int i,.int j]=>.bA (decide (-(2 ^ 62)<=i/\i<2 ^ 62/\-(2 ^ 62)<=j/\j<2 ^ 62/\(j-i).toNat<=aa)) (.ok (k9 i (j-i).toNat))
|_=>.bad
noncomputable def fG(g:D->bz->R bz)(c:bz->R Bool)(e:bz->R D):List D->bz->R (List D)
|[],_=>.ok []
|d::r,O=>(g d O).bind fun ZE=>(c ZE).bind fun b=>if b=true then(e ZE).bind fun y=>(fG g c e r ZE).bind fun ys=>.ok (y::ys)else fG g c e r ZE
noncomputable def forR(g:D->bz->R bz)(b:bz->Fl):List D->bz->Fl
|[],O=>.nx O
|d::r,O=>(g d O).aY fun ZE=>match b ZE with
 |.nx ZG=>forR g b r ZG
 |.ct ZG=>forR g b r ZG
 |.bk ZG=>.nx ZG
 |.rt d=>.rt d
 |.ex x=>.ex x
 |.bad=>.bad
noncomputable def Cp(Y:List PG):List Nat->Option Addr->Option Bool
|[],_=>some false
|g::r,c=>match Y[g]? with
 |some (.iB D Cs)=>match c with
  |none=>Cp Y r c
  |some C=>if C∈Cs then(if C=D then some true else Cp Y r c)else none
 |_=>none
noncomputable def O0(Y:List PG)(gs:List Nat):Bool:=gs.all fun g=>match Y[g]? with
|some (.iB _ _)=>true
|_=>false
noncomputable def xP(Y:List PG)(gs:List Nat)(x:D):R Bool:=.bA (!gs.isEmpty&&decide (gs.length<=1000)&&O0 Y gs) (match x with
|.non=>R.opt (Cp Y gs none)
|.exc C _ _=>R.opt (Cp Y gs (some C))
|_=>.bad)
noncomputable def xQ(Y:List PG)(g:Nat)(x:D):R Bool:=match Y[g]? with
|some (.ou Cs _)=>match x with
 |.non=>.ok false
 |.exc C _ _=>.bA (decide (C∈Cs)) (.ok true)
 |_=>.bad
|_=>.bad
noncomputable def JJ:List Str->List D->Str->Option D
|k::ks,d::ds,f=>if f=k then some d else JJ ks ds f
|_,_,_=>none
noncomputable def Cq(Y:List PG)(g:Nat)(f:Str)(x:D):R D:=match Y[g]? with
|some (.ou Cs as)=>match x with
 |.exc C ks xs=>.bA (decide (C∈Cs)&&decide (f∈as)) ((R.opt (JJ ks xs f)).bind fun d=>.ok (bC d))
 |_=>.bad
|_=>.bad
noncomputable def O1{α:Type}(ps:List (Str×Int))(r:R α):R α:=.bA (decide (ps.map fun p=>(.inr p.1:Key)).Nodup&&(keysOk (ps.map fun p=>.inr p.1)&&decide (ps.length<=aa))) r
mutual
noncomputable def pE(Y:List PG):CE->bz->R D
|.var i=>fun O=>match O[i]? with
 |some (some d)=>.ok (bC d)
 |_=>.bad
|.con v=>fun _=>xO v
|.glo g=>fun _=>match Y[g]? with
 |some (.val d)=>.ok (bC d)
 |_=>.bad
|.bin op a b=>fun O=>(pE Y a O).bind fun x=>(pE Y b O).bind fun y=>kh op x y
|.neg a=>fun O=>(pE Y a O).bind fun x=>match x with
 |.int i=>.ok (.int (-i))
 |_=>.bad
|.not a=>fun O=>(pE Y a O).bind fun x=>(jo x).bind fun b=>.ok (.bl (!b))
|.and a b=>fun O=>(pE Y a O).bind fun x=>match x with
 |.bl c=>if c=true then pE Y b O else .ok (.bl false)
 |_=>.bad
|.or a b=>fun O=>(pE Y a O).bind fun x=>match x with
 |.bl c=>if c=true then .ok (.bl true)else pE Y b O
 |_=>.bad
|.ite c a b=>fun O=>(pT Y c O).bind fun k=>if k=true then pE Y a O else pE Y b O
|.cmp op a b=>fun O=>(pE Y a O).bind fun x=>(pE Y b O).bind fun y=>cL op x y
|.chain o1 o2 a b c=>fun O=>(pE Y a O).bind fun x=>(pE Y b O).bind fun y=>(cL o1 x y).bind fun z=>match z with
 |.bl k=>if k=true then(pE Y c O).bind fun u=>cL o2 y u else .ok (.bl false)
 |_=>.bad
|.call g as=>fun O=>match Y[g]? with
 |some (.fn m dds)=>(eS Y as O).bind fun ds=>m (az ds++dds)
 |_=>.bad
|.blt f as=>fun O=>(eS Y as O).bind fun ds=>i9 f ds
|.isi a t=>fun O=>(pE Y a O).bind fun x=>.bA (xN x) (.ok (.bl (Co t x)))
|.mth m o as=>fun O=>(pE Y o O).bind fun x=>(eS Y as O).fE.bind fun ds=>ki m x ds
|.ix a b=>fun O=>(pE Y a O).bind fun x=>(pE Y b O).bind fun y=>mz x y
|.sl a lo hi=>fun O=>(pE Y a O).bind fun x=>(pO Y lo O).bind fun l=>(pO Y hi O).bind fun h=>Io x l h
|.lst as=>fun O=>(eS Y as O).bind fun ds=>.bA (decide (ds.length<=aa)) (.ok (.lst true ds))
|.tup as=>fun O=>(eS Y as O).bind fun ds=>.bA (decide (ds.length<=aa)) (.ok (.tup ds))
|.dct=>fun _=>.ok (.bZ true [] [])
|.dcs ps=>fun _=>O1 ps (.ok (.bZ true (ps.map fun p=>.inr p.1) (ps.map fun p=>.int p.2)))
|.comp nl fr elt tg src cond=>fun O=>(pI Y src O).bind fun items=>(fG (pG tg) (pC Y cond) (pE Y elt) items.2 (nl.map (fun _=>none)++fr.map (fun i=>O.getD i none))).fE.bind fun ds=>.ok (.lst true ds)
|.isx _ gs a=>fun O=>(pE Y a O).bind fun x=>(xP Y gs x).bind fun b=>.ok (.bl b)
|.isv g a=>fun O=>(pE Y a O).bind fun x=>(xQ Y g x).bind fun b=>.ok (.bl b)
|.att g a f=>fun O=>(pE Y a O).bind fun x=>Cq Y g f x
noncomputable def pT(Y:List PG):CE->bz->R Bool
|.not a=>fun O=>(pT Y a O).bind fun b=>.ok (!b)
|.and a b=>fun O=>(pT Y a O).bind fun c=>if c=true then pT Y b O else .ok false
|.or a b=>fun O=>(pT Y a O).bind fun c=>if c=true then .ok true else pT Y b O
|.ite c a b=>fun O=>(pT Y c O).bind fun k=>if k=true then pT Y a O else pT Y b O
|.cmp op a b=>fun O=>(pE Y a O).bind fun x=>(pE Y b O).bind fun y=>(cL op x y).bind fun z=>match z with
 |.bl k=>.ok k
 |_=>.bad
|.chain o1 o2 a b c=>fun O=>(pE Y a O).bind fun x=>(pE Y b O).bind fun y=>(cL o1 x y).bind fun z=>match z with
 |.bl k=>if k=true then(pE Y c O).bind fun u=>(cL o2 y u).bind fun z=>match z with
  |.bl k=>.ok k
  |_=>.bad
  else .ok false
 |_=>.bad
|.var i=>fun O=>match O[i]? with
 |some (some d)=>jo d
 |_=>.bad
|.call g as=>fun O=>match Y[g]? with
 |some (.fn m dds)=>((eS Y as O).bind fun ds=>m (az ds++dds)).bind jo
 |_=>.bad
|.blt f as=>fun O=>((eS Y as O).bind fun ds=>i9 f ds).bind jo
|.isi a t=>fun O=>(pE Y a O).bind fun x=>.bA (xN x) (.ok (Co t x))
|.mth m o as=>fun O=>(pE Y o O).bind fun x=>(eS Y as O).fE.bind fun ds=>(ki m x ds).bind jo
|.isx _ gs a=>fun O=>(pE Y a O).bind fun x=>xP Y gs x
|.isv g a=>fun O=>(pE Y a O).bind fun x=>xQ Y g x
|_=>fun _=>.bad
noncomputable def eS(Y:List PG):j6->bz->R (List D)
|.nil=>fun _=>.ok []
|.cons a r=>fun O=>(pE Y a O).bind fun x=>(eS Y r O).bind fun xs=>.ok (x::xs)
noncomputable def pO(Y:List PG):CO->bz->R (Option Int)
|.none=>fun _=>.ok none
|.some a=>fun O=>(pE Y a O).bind fun x=>match x with
 |.int i=>.ok (some i)
 |_=>.bad
noncomputable def pC(Y:List PG):CO->bz->R Bool
|.none=>fun _=>.ok true
|.some a=>pT Y a
noncomputable def pG:CG->D->bz->R bz
|.name i=>fun d O=>.ok (O.set i (some d))
|.tup gs=>fun d O=>match d with
 |.tup ds=>.bA (decide (ds.length=gs.len)) (wY gs ds O)
 |_=>.bad
|.sub _ _=>fun _ _=>.bad
noncomputable def wY:j7->List D->bz->R bz
|.nil=>fun ds O=>match ds with
 |[]=>.ok O
 |_=>.bad
|.cons g r=>fun ds O=>match ds with
 |d::dr=>(pG g d O).bind fun ZC=>wY r dr ZC
 |_=>.bad
noncomputable def pI(Y:List PG):CI->bz->R (Bool×List D)
|.seq a=>fun O=>(pE Y a O).bind fun x=>(qv x).bind fun ds=>.ok (aQ x,ds)
|.range as=>fun O=>(eS Y as O).bind fun xs=>(rX xs).bind fun ds=>.ok (true,ds)
|.enum a=>fun O=>(pE Y a O).bind fun x=>match x with
 |.lst _ xs=>.ok (aQ x,jg 0 (az xs))
 |_=>.bad
end
mutual
noncomputable def dD:CE->Bool
|.con v=>match v with
 |.str x=>decide (x.length<=aa)
 |_=>true
|.bin _ a b=>dD a&&dD b
|.neg a=>dD a
|.not a=>dD a
|.and a b=>dD a&&dD b
|.or a b=>dD a&&dD b
|.ite c a b=>dD c&&(dD a&&dD b)
|.cmp _ a b=>dD a&&dD b
|.chain _ _ a b c=>dD a&&(dD b&&dD c)
|.call _ as=>jE as
|.blt _ as=>jE as
|.isi a _=>dD a
|.mth _ o as=>dD o&&jE as
|.ix a b=>dD a&&dD b
|.sl a lo hi=>dD a&&(LO lo&&LO hi)
|.lst as=>jE as
|.tup as=>jE as
|.comp _ _ elt _ src cond=>dD elt&&(ltI src&&LO cond)
|.isx _ _ a=>dD a
|.isv _ a=>dD a
|.att _ a _=>dD a
|_=>true
noncomputable def jE:j6->Bool
|.nil=>true
|.cons a r=>dD a&&jE r
noncomputable def LO:CO->Bool
|.none=>true
|.some a=>dD a
noncomputable def ltI:CI->Bool
|.seq a=>dD a
|.range as=>jE as
|.enum a=>dD a
end
mutual
noncomputable def cO:CE->List Nat
|.var i=>[i]
|.con _=>[]
|.glo _=>[]
|.bin _ a b=>cO a++cO b
|.neg a=>cO a
|.not a=>cO a
|.and a b=>cO a++cO b
|.or a b=>cO a++cO b
|.ite c a b=>cO c++(cO a++cO b)
|.cmp _ a b=>cO a++cO b
|.chain _ _ a b c=>cO a++(cO b++cO c)
|.call _ as=>nL as
|.blt _ as=>nL as
|.isi a _=>cO a
|.mth _ o as=>cO o++nL as
|.ix a b=>cO a++cO b
|.sl a lo hi=>cO a++(LP lo++LP hi)
|.lst as=>nL as
|.tup as=>nL as
|.dct=>[]
|.dcs _=>[]
|.comp _ fr _ _ src _=>u9 src++fr
|.isx _ _ a=>cO a
|.isv _ a=>cO a
|.att _ a _=>cO a
noncomputable def nL:j6->List Nat
|.nil=>[]
|.cons a r=>cO a++nL r
noncomputable def LP:CO->List Nat
|.none=>[]
|.some a=>cO a
noncomputable def u9:CI->List Nat
|.seq a=>cO a
|.range as=>nL as
|.enum a=>cO a
end
def NT:Option HO->Prop
|none=>True
|some (.tup _)=>True
|_=>False
theorem NT.of{o:Option HO}(h:o=none):NT o:=by rw[h];trivial
theorem NT.own{o:Option HO}{u:HO}(h:NT o)(e:o=some u)(k:FT u):False:=by
 subst e;cases u<;>first|exact h.elim|exact k.elim
structure bT (F H F' H':Hp):Prop where
 h:aZ H H'
 f:aZ F F'
 s:aZ F' H'
 n:∀b o,F' b=some o->F b=none->NT (H b)
structure gv (fp:List Addr) (H F':Hp):Prop where
 nd:fp.Nodup
 nh:∀a∈fp,H a=none
 nf:∀a∈fp,F' a=none
variable{ds:List D}{vs:List V}
variable{f1 f2:List Addr}
variable{p:Addr}
section
variable{K:PySem.W.Frag}{H H1 H2 F F1 F2:Hp}
theorem bT.refl(s:aZ F H):bT F H F H:=⟨aZ.refl _,aZ.refl _,s,fun b o h h'=>by rw[h]at h';cases h'⟩
theorem aZ.none(e:aZ H H1){a:Addr}(h:H1 a=none):H a=none:=by
 cases q:H a with
 |none=>rfl
 |some o=>rw[e a o q]at h;cases h
theorem NT.back(e:aZ H H1){a:Addr}(h:NT (H1 a)):NT (H a):=by
 cases q:H a with
 |none=>trivial
 |some o=>rw[e a o q]at h;exact h
theorem bT.trans(g:bT F H F1 H1)(g':bT F1 H1 F2 H2):bT F H F2 H2:=⟨g.h.trans g'.h,g.f.trans g'.f,g'.s,fun b o h h'=>by
 cases q:F1 b with
 |none=>exact NT.back g.h (g'.n b o h q)
 |some u=>exact g.n b u q h'⟩
theorem gv.nil:gv [] H F:=⟨gU,fun _ h=>absurd h aB,fun _ h=>absurd h aB⟩
mutual
theorem bG.ex:∀(d:D) (v:V) (fp:List Addr),bG K H F d v fp->∀a∈fp,∃o,H a=some o/\FT o
|.non,v,fp,h=>by rw[h.2];intro a ha;cases ha
|.bl b,v,fp,h=>by rw[h.2];intro a ha;cases ha
|.int i,v,fp,h=>by rw[h.2];intro a ha;cases ha
|.str x,v,fp,h=>by rw[h.2];intro a ha;cases ha
|.lst o ds,v,fp,h=>by
 unfold bG at h;split at h
 ·obtain⟨a,vs,fs,h1,h2,h3,h4,rfl⟩:=h;intro b hb;rcases aC.mp hb with rfl|hb
  ·exact⟨_,h2,trivial⟩
  ·exact aR.ex ds vs fs h4 b hb
 ·rw[h.2];intro a ha;cases ha
|.tup ds,v,fp,h=>by
 obtain⟨a,vs,h1,h2,h3,h4⟩:=h;exact aR.ex ds vs fp h4
|.bZ o ks ds,v,fp,h=>by
 unfold bG at h;split at h
 ·obtain⟨a,vs,fs,h1,h2,h3,h4,h5,rfl⟩:=h;intro b hb;rcases aC.mp hb with rfl|hb
  ·exact⟨_,h2,trivial⟩
  ·exact aR.ex ds _ fs h5 b hb
 ·rw[h.2];intro a ha;cases ha
|.pdc ks ds,v,fp,h=>by rw[h.2];intro a ha;cases ha
|.cst ds,v,fp,h=>by rw[h.2];intro a ha;cases ha
|.exc C ks ds,v,fp,h=>by rw[h.2];intro a ha;cases ha
theorem aR.ex:∀(ds:List D) (vs:List V) (fp:List Addr),aR K H F ds vs fp->∀a∈fp,∃o,H a=some o/\FT o
|[],vs,fp,h=>by rw[h.2];intro a ha;cases ha
|d::ds,vs,fp,h=>by
 obtain⟨v,r,f1,f2,h1,rfl,h3,h4⟩:=h;intro a ha;rcases aT.mp ha with ha|ha
 ·exact bG.ex d v f1 h3 a ha
 ·exact aR.ex ds r f2 h4 a ha
end
noncomputable def adopt(F H:Hp)(fp:List Addr):Hp:=fun b=>if b∈fp then H b else F b
theorem kj{a:Addr}(h:a∈fp):adopt F H fp a=H a:=if_pos h
theorem iO{a:Addr}(h:a∉fp):adopt F H fp a=F a:=if_neg h
theorem dU(s:aZ F H):aZ F (adopt F H fp):=fun b o h=>by
 by_cases q:b∈fp
 ·rw[kj q];exact s b o h
 ·rw[iO q];exact h
theorem eT(s:aZ F H):aZ (adopt F H fp) H:=fun b o h=>by
 by_cases q:b∈fp
 ·rw[kj q]at h;exact h
 ·rw[iO q]at h;exact s b o h
theorem qZ(g:bT F H F1 H1)(n:∀a∈fp,H a=none):bT F H (adopt F1 H1 fp) H1:=⟨g.h,g.f.trans (dU g.s),eT g.s,fun b o h h'=>by
 by_cases q:b∈fp
 ·exact .of (n b q)
 ·rw[iO q]at h;exact g.n b o h h'⟩
theorem O2(g:bT F H F1 H1)(fr:gv fp H F1)(r:bG K H1 F1 d v fp):∃F2,bT F H F2 H1/\aZ F1 F2/\aU K F2 d v:=
 ⟨adopt F1 H1 fp,qZ g fr.nh,dU g.s,bG.fix (dU g.s) d v fp (fun _ ha=>kj ha) r⟩
theorem Bj(g:bT F H F1 H1)(fr:gv fp H F1)(r:aR K H1 F1 ds vs fp):∃F2,bT F H F2 H1/\aZ F1 F2/\aD K F2 ds vs:=
 ⟨adopt F1 H1 fp,qZ g fr.nh,dU g.s,aR.fix (dU g.s) ds vs fp (fun _ ha=>kj ha) r⟩
theorem carry(g:bT F1 H1 F2 H2)(fr:gv fp H F1)(r:bG K H1 F1 d v fp):bG K H2 F2 d v fp/\(∀a∈fp,F2 a=none):=by
 refine⟨bG.mono g.f d v fp (fun a ha=>?_) r,fun a ha=>?_⟩
 ·obtain⟨o,e,_⟩:=bG.ex d v fp r a ha;rw[e,g.h a o e]
 ·obtain⟨o,e,k⟩:=bG.ex d v fp r a ha;cases q:F2 a with
  |none=>rfl
  |some u=>exact((g.n a u q (fr.nf a ha)).own e k).elim
theorem Wd(g:bT F1 H1 F2 H2)(fr:gv fp H F1)(r:aR K H1 F1 ds vs fp):aR K H2 F2 ds vs fp/\(∀a∈fp,F2 a=none):=by
 refine⟨aR.mono g.f ds vs fp (fun a ha=>?_) r,fun a ha=>?_⟩
 ·obtain⟨o,e,_⟩:=aR.ex ds vs fp r a ha;rw[e,g.h a o e]
 ·obtain⟨o,e,k⟩:=aR.ex ds vs fp r a ha;cases q:F2 a with
  |none=>rfl
  |some u=>exact((g.n a u q (fr.nf a ha)).own e k).elim
theorem gv.app(s:aZ H H1)(a1:gv f1 H F1)(e1:∀a∈f1,∃o,H1 a=some o)(k1:∀a∈f1,F2 a=none)(a2:gv f2 H1 F2):gv (f1++f2) H F2:=by
 refine⟨bx.mpr ⟨a1.nd,a2.nd,fun a h1 b h2 z=>?_⟩,fun a ha=>?_,fun a ha=>?_⟩
 ·subst z;obtain⟨o,e⟩:=e1 a h1;rw[a2.nh a h2]at e;cases e
 ·rcases aT.mp ha with h|h
  ·exact a1.nh a h
  ·exact aZ.none s (a2.nh a h)
 ·rcases aT.mp ha with h|h
  ·exact k1 a h
  ·exact a2.nf a h
theorem newList{p:Addr}{vs:List V}{o:HO}(s:aZ F H)(hp:H p=none):bT F H F (upd H p o)/\F p=none:=by
 have hf:F p=none:=aZ.none s hp;refine⟨⟨fun b u q=>by rw[aO (cQ q hp)];exact q,aZ.refl _,fun b u q=>by rw[aO (cQ q hf)];exact s b u q,fun b o h h'=>by rw[h]at h';cases h'⟩,hf⟩
theorem u_{o:HO}(s:aZ F H)(hp:H p=none):bT F H (upd F p o) (upd H p o):=by
 have hf:F p=none:=aZ.none s hp;refine⟨fun b u q=>by rw[aO (cQ q hp)];exact q,fun b u q=>by rw[aO (cQ q hf)];exact q,fun b u q=>?_,fun b u q q'=>?_⟩
 ·by_cases e:b=p
  ·subst e;rw[bD]at q ⊢;exact q
  ·rw[aO e]at q ⊢;exact s b u q
 ·by_cases e:b=p
  ·subst e;exact .of hp
  ·rw[aO e]at q;rw[q]at q';cases q'
end
class Ex where
 E:XK
def i_[Ex](K:PySem.W.Frag)(F H:Hp)(x:D):Prop:=match x with
|.exc C ks xs=>∀F' H' d vs,bT F H F' H'->F' d=some (gW d (ks.zip vs))->aD K F' xs vs->Ex.E (.ref C) (some d) H'
|_=>False
variable{K:PySem.W.Frag}{F H F1 H1:Hp}{x:D}
theorem i_.grow[Ex](h:i_ K F H x)(g:bT F H F1 H1):i_ K F1 H1 x:=by
 cases x with
 |exc C ks xs=>exact fun F' H' d vs g'=>h F' H' d vs (g.trans g')
 |_=>exact h
def PV[Ex](K:PySem.W.Frag)(F H:Hp)(r:R D)(Q:VK):Prop:=match r with
|.ok d=>∀F' H' v fp,bT F H F' H'->gv fp H F'->bG K H' F' d v fp->Q v H'
|.ex x=>i_ K F H x
|.bad=>False
def xR[Ex](K:PySem.W.Frag)(F H:Hp)(r:R (List D))(Q:List V->Hp->Prop):Prop:=match r with
|.ok ds=>∀F' H' vs fp,bT F H F' H'->gv fp H F'->aR K H' F' ds vs fp->Q vs H'
|.ex x=>i_ K F H x
|.bad=>False
def PB[Ex]{α:Type}(K:PySem.W.Frag)(F H:Hp)(r:R α)(Q:α->Hp->Prop):Prop:=match r with
|.ok b=>∀F' H',bT F H F' H'->Q b H'
|.ex x=>i_ K F H x
|.bad=>False
def We(K:PySem.W.Frag)(F:Hp)(d:D):Item->Prop
|.v x=>aU K F d x
|.tup xs=>∃ds,d=.tup ds/\aD K F ds xs/\xs.length<=aa
def ko(K:PySem.W.Frag)(F:Hp):List D->List Item->Prop
|[],its=>its=[]
|d::ds,its=>∃it r,its=it::r/\We K F d it/\ko K F ds r
noncomputable def minus(F:Hp)(A:List Addr):Hp:=fun b=>if b∈A then none else F b
noncomputable def q9(own:Bool)(F:Hp)(A:List Addr):Hp:=if own=true then minus F A else F
def PI'[Ex](K:PySem.W.Frag)(A:List Addr)(F H:Hp)(r:R (Bool×List D))(k:(Hp->Prop)->List Item->Hp->Prop):Prop:=match r with
|.ok ds=>∀F' H' ok its,bT F H F' H'->(∀H'',aZ (q9 ds.1 F' A) H''->ok H'')->ko K (q9 ds.1 F' A) ds.2 its->ds.2.length<=aa->k ok its H'
|.ex x=>i_ K F H x
|.bad=>False
def kq(K:PySem.W.Frag)(F:Hp)(is:List Nat)(L:bz)(O:L2.St):Prop:=∀i∈is,∀d,L[i]?=some (some d)->∃v,O[i]?=some (some v)/\aU K F d v
noncomputable def FU(K:PySem.W.Frag)(m:List D->R D):Sp:=fun vs H Q E=>∃F ds,aZ F H/\az ds=ds/\aD K F ds vs/\@PV ⟨E⟩ K F H (m ds) Q
def O3(K:PySem.W.Frag):PG->G->Prop
|.val d,.val v=>aU K (fun _=>none) d v
|.val d,.tup a _=>aU K (fun _=>none) d (.ref a)
|.fn m dds,.fn sp dvs=>(∀vs H Q E,FU K m vs H Q E->sp vs H Q E)/\az dds=dds/\aD K (fun _=>none) dds dvs
|.cls C fs n,.cls C' fs' n'=>C=C'/\fs=fs'/\n=n'
|.iB D Cs,.iB D' Cs'=>D=D'/\Cs=Cs'
|.ou Cs as,.ou Cs' as'=>Cs=Cs'/\as=as'
|.exb Cs,.exb B Cs'=>Cs=Cs'/\∀C∈Cs,PySem.W.mroIn K C (.ref B)=some true
|.nop,.nop=>True
|_,_=>False
def cR(K:PySem.W.Frag):List PG->List G->Prop
|p::ps,gs=>∃g r,gs=g::r/\O3 K p g/\cR K ps r
|[],_=>True
theorem cR.hand:∀{ps:List PG}{gs:List G},cR K ps gs->cR K (ps.map PG.hand) (gs.map G.hand)
|[],_,_=>trivial
|p::ps,_,h=>by
 obtain⟨g,r,rfl,h2,h3⟩:=h;refine⟨_,_,rfl,?_,cR.hand h3⟩;cases p<;>cases g<;>first|exact h2|exact trivial|exact h2.elim
theorem cR.get:∀{ps:List PG}{gs:List G} (i:Nat) {p:PG},cR K ps gs->ps[i]?=some p->∃g,gs[i]?=some g/\O3 K p g
|[],_,i,_,_,e=>by simp at e
|p::ps,_,0,_,h,e=>by
 obtain⟨g,r,rfl,h2,_⟩:=h;simp at e;subst e;exact⟨g,rfl,h2⟩
|p::ps,_,i+1,_,h,e=>by
 obtain⟨g,r,rfl,_,h3⟩:=h;obtain⟨w,e1,e2⟩:=cR.get i h3 (by simpa using e);exact⟨w,by simpa using e1,e2⟩
variable{A:List Addr}
theorem fi{b:Addr}(h:b∉A):minus F A b=F b:=if_neg h
theorem Aj{b:Addr}(h:b∈A):minus F A b=none:=if_pos h
theorem Dr(F:Hp):minus F []=F:=by funext b;exact fi aB
theorem LQ(o:Bool)(F:Hp):q9 o F []=F:=by unfold q9;rw[Dr];split<;>rfl
theorem j8(F:Hp)(A:List Addr):aZ (minus F A) F:=fun b o h=>by
 by_cases q:b∈A
 ·rw[Aj q]at h;cases h
 ·rw[fi q]at h;exact h
theorem Dt(o:Bool)(F:Hp)(A:List Addr):aZ (q9 o F A) F:=by
 unfold q9;split
 ·exact j8 F A
 ·exact aZ.refl F
def nc(H:Hp)(A:List Addr):Prop:=∀a∈A,∃o,H a=some o/\FT o
theorem kr(s:aZ F H)(h:nc H A):Ai F (minus F A):=fun b o q=>by
 by_cases z:b∈A
 ·obtain⟨u,e,k⟩:=h b z;rw[s b o q]at e;cases e;exact .inr k
 ·exact .inl (by rw[fi z];exact q)
variable{H':Hp}
theorem nc.mono(s:aZ H H')(h:nc H A):nc H' A:=fun a ha=>by
 obtain⟨o,e,k⟩:=h a ha;exact⟨o,s a o e,k⟩
theorem Wf(hA:nc H A)(g:bT F H F1 H1)(fr:gv fp H F1)(r:bG K H1 F1 d v fp):∃F2,bT F H F2 H1/\aU K (q9 (aQ d) F2 A) d v:=by
 have g2:=qZ g fr.nh;refine⟨adopt F1 H1 fp,g2,?_⟩;unfold q9;by_cases ho:aQ d=true
 ·rw[if_pos ho];have r2:=bG.less (kr g.s (hA.mono g.h)) d v fp ho r;refine bG.fix (F':=minus (adopt F1 H1 fp) A) ?_ d v fp ?_ r2
  ·intro b o q;by_cases z:b∈A
   ·rw[Aj z]at q;cases q
   ·rw[fi z]at q ⊢;exact dU g.s b o q
  ·intro a ha;have z:a∉A:=fun z=>by
    obtain⟨o,e,_⟩:=hA a z;rw[fr.nh a ha]at e;cases e
   rw[fi z,kj ha]
 ·rw[if_neg ho];exact bG.fix (dU g.s) d v fp (fun _ ha=>kj ha) r
variable{b:Bool}
variable{Q:VK}
variable{α:Type}
section
variable{K:PySem.W.Frag}{H H1 F F1:Hp}{L:bz}{O:L2.St}
theorem kq.l{a b:List Nat}(h:kq K F (a++b) L O):kq K F a L O:=fun i hi=>h i (aL _ hi)
theorem kq.r{a b:List Nat}(h:kq K F (a++b) L O):kq K F b L O:=fun i hi=>h i (ay _ hi)
theorem kq.mono{a:List Nat}(h:kq K F a L O)(e:aZ F F1):kq K F1 a L O:=fun i hi d hd=>by
 obtain⟨v,h1,h2⟩:=h i hi d hd;exact⟨v,h1,aU.mono e d v h2⟩
theorem PV.grow[Ex]{r:R D}(h:PV K F H r Q)(g:bT F H F1 H1):PV K F1 H1 r Q:=by
 cases r with
 |ok d=>exact fun F' H' v fp g' fr rx=>h F' H' v fp (g.trans g') ⟨fr.nd,fun a ha=>aZ.none g.h (fr.nh a ha),fr.nf⟩ rx
 |ex x=>exact i_.grow (K:=K) (x:=x) h g
 |bad=>exact h
theorem PB.grow[Ex]{r:R α}{Q:α->Hp->Prop}(h:PB K F H r Q)(g:bT F H F1 H1):PB K F1 H1 r Q:=by
 cases r with
 |ok d=>exact fun F' H' g'=>h F' H' (g.trans g')
 |ex x=>exact i_.grow (K:=K) (x:=x) h g
 |bad=>exact h
theorem PV.here[Ex](h:PV K F H (.ok (bC d)) Q)(s:aZ F H)(r:aU K F d v):Q v H:=h F H v [] (bT.refl s) .nil (aU.xM d v r)
theorem PV.flat[Ex](h:PV K F H (.ok d) Q)(s:aZ F H)(r:bG K H F d v []):Q v H:=h F H v [] (bT.refl s) .nil r
theorem iC{r:R α}{a:α}(h:R.bA b r=.ok a):b=true/\r=.ok a:=by
 cases b with
 |true=>exact⟨rfl,h⟩
 |false=>cases h
theorem PV.bA[Ex]{r:R D}(h:PV K F H (R.bA b r) Q):b=true/\PV K F H r Q:=by
 cases b with
 |true=>exact⟨rfl,h⟩
 |false=>exact h.elim
theorem PB.bA[Ex]{r:R α}{Q:α->Hp->Prop}(h:PB K F H (R.bA b r) Q):b=true/\PB K F H r Q:=by
 cases b with
 |true=>exact⟨rfl,h⟩
 |false=>exact h.elim
end
theorem szl:aa=16777216:=by unfold aa;rfl
theorem rH(x:Str):x.cps.toList.length=x.length:=by simp[fZ]
theorem fW(l:List Nat):(⟨l.toArray⟩:Str).length=l.length:=by simp[fZ]
theorem LR(l:List Nat):(strOf l).length=l.length:=by simp[strOf,fZ]
theorem Ak(z:Str):∀ss:List Str,(fB z ss).length<=(ss.map (·.length)).sum+ss.length*z.length
|[]=>by show(0:Nat)<=_;omega
|[x]=>by simp[fB]
|x::y::r=>by
 have ih:=Ak z (y::r);show(x++z++fB z (y::r)).length<=_;rw[qQ,qQ];simp only[aV,qH,aW,yG]at ih ⊢;omega
theorem JK(z:Str)(n:Nat):(Bh z n).length=z.length*n:=by
 unfold Bh;rw[fW];induction n with
 |zero=>simp
 |succ n ih=>rw[bV,c8,aE,ih,rH,G_,yH]
theorem yY(l:List α)(lo hi:Option Int):(cut l lo hi).length<=l.length:=by
 unfold cut;rw[dH,dX];omega
theorem lU(c:Nat):∀(l:List Nat),(∀p∈cu c l,p.length<=l.length)/\(cu c l).length<=l.length+1
|[]=>by
 constructor
 ·intro p hp;simp[cu]at hp;subst hp;simp
 ·simp[cu]
|x::r=>by
 obtain⟨h1,h2⟩:=lU c r;unfold cu;by_cases e:x=c
 ·rw[if_pos e];constructor
  ·intro p hp;rcases aC.mp hp with rfl|hp
   ·simp
   ·have:=h1 p hp;simp;omega
  ·simp;omega
 ·rw[if_neg e];cases q:cu c r with
  |nil=>simp
  |cons h t=>
   rw[q]at h1 h2;constructor
   ·intro p hp;rcases aC.mp hp with rfl|hp
    ·have:=h1 h ao;simp;omega
    ·have:=h1 p (ai _ hp);simp;omega
   ·simp at h2 ⊢;omega
variable{i:Int}
theorem rE{xs:List α}{x:α}(h:cH xs i=some x):∃j,ji xs.length i=some j/\xs[j]?=some x:=by
 unfold cH at h;cases q:ji xs.length i with
 |none=>rw[q]at h;cases h
 |some j=>rw[q]at h;exact⟨j,rfl,h⟩
theorem Bk{xs:List α}{j:Nat}{x:α}(h:ji xs.length i=some j)(e:xs[j]?=some x):cH xs i=some x:=by
 unfold cH;rw[h];exact e
def R.br{α:Type}(r:R α):Prop:=∀x,r≠.ex x
theorem br.ok{a:α}:(R.ok a).br:=fun _ h=>by cases h
theorem br.bad:(R.bad:R α).br:=fun _ h=>by cases h
theorem br.opt{o:Option α}:(R.opt o).br:=fun _ h=>by cases o<;>cases h
theorem br.bA{r:R α}(n:r.br):(R.bA b r).br:=fun x h=>by
 cases b with
 |true=>exact n x h
 |false=>cases h
variable{β:Type}
theorem br.bind{r:R α}{f:α->R β}(n:r.br)(k:∀a,(f a).br):(r.bind f).br:=fun x h=>by
 cases r with
 |ok a=>exact k a x h
 |ex y=>exact n y rfl
 |bad=>cases h
theorem br.fE(r:R α):r.fE.br:=fun x h=>by cases r<;>cases h
theorem Ip(x y:D):(inD x y).br:=by unfold inD;(repeat' (first|exact br.ok|exact br.bad|exact br.opt|exact br.fE _|refine br.bA ?_|(refine br.bind ?_ fun _=>?_)|split))
theorem v_(x:D):(jo x).br:=by unfold jo;(repeat' (first|exact br.ok|exact br.bad|exact br.opt|exact br.fE _|refine br.bA ?_|(refine br.bind ?_ fun _=>?_)|split))
theorem Cr(x y:D):(mz x y).br:=by unfold mz;(repeat' (first|exact br.ok|exact br.bad|exact br.opt|exact br.fE _|refine br.bA ?_|(refine br.bind ?_ fun _=>?_)|split))
theorem O4(x:D):(qv x).br:=by unfold qv;(repeat' (first|exact br.ok|exact br.bad|exact br.opt|exact br.fE _|refine br.bA ?_|(refine br.bind ?_ fun _=>?_)|split))
theorem O5(xs:List D):(rX xs).br:=by unfold rX;(repeat' (first|exact br.ok|exact br.bad|exact br.opt|exact br.fE _|refine br.bA ?_|(refine br.bind ?_ fun _=>?_)|split))
theorem rY(m:Mt)(x:D)(ds:List D):(ki m x ds).br:=by unfold ki;(repeat' (first|exact br.ok|exact br.bad|exact br.opt|exact br.fE _|refine br.bA ?_|(refine br.bind ?_ fun _=>?_)|split))
variable{u:V}{op:sU}{y:D}
variable{κ:Type}
variable{lo hi:Option Int}
variable{ks:List Key}{kvs:List (Key×V)}
variable{m:Mt}
section
variable{K:PySem.W.Frag}{H H0 F F0:Hp}
theorem Du(r:aU K F x v):decide (v=.non)=nK x:=by
 cases x with
 |non=>rw[show v=.non from r];rfl
 |bl b=>rw[show v=.bl b from r];rfl
 |int i=>rw[show v=.int i from r];rfl
 |str z=>rw[show v=.str z from r.1];rfl
 |lst o ds=>obtain⟨a,vs,rfl,_⟩:=r;rfl
 |tup ds=>obtain⟨a,vs,rfl,_⟩:=r;rfl
 |bZ o ks ds=>obtain⟨a,vs,rfl,_⟩:=r;rfl
 |pdc ks ds=>obtain⟨a,vs,rfl,_⟩:=r;rfl
 |cst ds=>obtain⟨a,vs,rfl,_⟩:=r;rfl
 |exc C ks ds=>obtain⟨a,d,vs,rfl,_⟩:=r;rfl
theorem LS(r:aU K F x v)(h:nK x=true):v=.non:=by
 cases x<;>first|exact r|(cases h)
theorem mV{k:Key}(r:aU K F x v)(h:kg x=some k):v=kV k:=by
 cases x with
 |int i=>cases h;exact r
 |str z=>cases h;exact r.1
 |_=>cases h
theorem Al[DecidableEq κ]:∀(kvs:List (κ×V)) (k:κ),oR (kvs.map (·.1)) k=(fV kvs k).isSome
|[],k=>rfl
|p::r,k=>by
 have ih:=Al r k;unfold oR at ih ⊢;unfold fV at ih ⊢;simp only[aV,f6,fQ];by_cases e:p.1=k
 ·simp[e]
 ·simp only[e,decide_false,EM];exact ih
theorem rZ[DecidableEq κ]:∀(kvs:List (κ×V)) (ds:List D) (k:κ),aD K F ds (kvs.map (·.2))->match k8 (kvs.map (·.1)) ds k with
 |some d=>∃v,fV kvs k=some v/\aU K F d v
 |none=>fV kvs k=none
|[],ds,k,h=>by cases ds<;>rfl
|p::r,[],k,h=>by cases h
|p::r,d::ds,k,h=>by
 obtain⟨v,vs,e,h2,h3⟩:=h;simp only[aV]at e;injection e with e1 e2;subst e1 e2;simp only[aV,k8];by_cases q:p.1=k
 ·rw[if_pos q];exact⟨p.2,by simp[fV,fQ,q],h2⟩
 ·rw[if_neg q];have ih:=rZ r ds k h3;have z:fV (p::r) k=fV r k:=by simp[fV,fQ,q]
  rw[z];exact ih
theorem ku:∀(xs ys:List D),az (xs++ys)=az xs++az ys
|[],_=>rfl
|x::r,ys=>by show bC x::az (r++ys)=_;rw[ku r ys];rfl
theorem iA:∀xs:List D,(az xs).length=xs.length
|[]=>rfl
|x::r=>by show(az r).length+1=_;rw[iA r];rfl
theorem PV.lst[Ex]{ds:List D}{vs:List V}{Q:VK}{p:Addr}(h:PV K F H (.ok (.lst true (az ds))) Q)(s:aZ F H)(r:aD K F ds vs)(hl:vs.length<=aa)(hp:H p=none):Q (.ref p) (upd H p (.lst vs)):=by
 obtain⟨g,hf⟩:=newList (vs:=vs) (o:=.lst vs) s hp;refine h F _ (.ref p) [p] g ⟨by simp,?_,?_⟩ ?_
 ·intro a ha;rw[aG.mp ha];exact hp
 ·intro a ha;rw[aG.mp ha];exact hf
 ·unfold bG;rw[if_pos rfl];exact⟨p,vs,[],rfl,bD,hl,aD.xM ds vs r,rfl⟩
theorem PV.tup[Ex]{ds:List D}{vs:List V}{Q:VK}{p:Addr}(h:PV K F H (.ok (.tup (az ds))) Q)(s:aZ F H)(r:aD K F ds vs)(hl:vs.length<=aa)(hp:H p=none):Q (.ref p) (upd H p (.tup vs)):=by
 have g:=u_ (o:=.tup vs) s hp;refine h _ _ (.ref p) [] g .nil ?_;exact⟨p,vs,rfl,bD,hl,aD.xM ds vs (aD.mono g.f ds vs r)⟩
theorem FW:∀(n:Nat) {ds:List D}{vs:List V},aD K F ds vs->aD K F (aF n ds).flatten (aF n vs).flatten
|0,_,_,_=>rfl
|n+1,ds,vs,r=>by
 rw[bV,bV,c8,c8];exact aD.app r (FW n r)
theorem O6(n:Nat)(xs:List D):(aF n (az xs)).flatten=az (aF n xs).flatten:=by
 induction n with
 |zero=>rfl
 |succ n ih=>rw[bV,bV,c8,c8,ku,ih]
theorem XA[Ex](s:aZ F H)(rx:aU K F x v)(ry:aU K F y u)(h:PV K F H (kh op x y) Q):OD K op v u H Q:=by
 cases x with
 |int i=>
  cases rx;cases y with
  |int j=>
   cases ry;cases op<;>first|exact h.elim|exact h.flat s ⟨rfl,rfl⟩|(obtain⟨c,h⟩:=h.bA;exact⟨of_decide_eq_true c,h.flat s ⟨rfl,rfl⟩⟩)
  |_=>exact h.elim
 |str z=>
  obtain⟨rfl,hz⟩:=rx;cases y with
  |int j=>
   cases ry;cases op<;>first|exact h.elim|skip
   obtain⟨c,h⟩:=h.bA;have c:=of_decide_eq_true c;exact⟨c,h.flat s ⟨⟨rfl,by rw[JK];exact c.2.2⟩,rfl⟩⟩
  |str q=>
   obtain⟨rfl,hq⟩:=ry;cases op<;>first|exact h.elim|skip
   obtain⟨c,h⟩:=h.bA;have c:=of_decide_eq_true c;exact⟨c,h.flat s ⟨⟨rfl,by rw[qQ];exact c⟩,rfl⟩⟩
  |_=>exact h.elim
 |lst o xs=>
  obtain⟨a,vs,rfl,h2,h3,h4⟩:=rx;cases y with
  |lst o' ys=>
   obtain⟨b,us,rfl,k2,k3,k4⟩:=ry;cases op<;>first|exact h.elim|skip
   obtain⟨c,h⟩:=h.bA;have c:=of_decide_eq_true c;rw[<-h4.len,<-k4.len]at c;rw[<-ku]at h;exact .inl ⟨vs,us,Rd.same s h2,Rd.same s k2,c,fun p hp=>h.lst s (h4.app k4) (by rw[aE];exact c) hp⟩
  |int k=>
   cases ry;cases op<;>first|exact h.elim|skip
   obtain⟨c,h⟩:=h.bA;have c:=of_decide_eq_true c;rw[<-h4.len]at c;rw[O6]at h;refine⟨vs,Rd.same s h2,c.1,c.2,fun p hp=>h.lst s (FW _ h4) ?_ hp⟩;have z:∀n,(aF n vs).flatten.length=vs.length*n:=by
    intro n;induction n with
    |zero=>rfl
    |succ n ih=>rw[bV,c8,aE,ih,G_,yH]
   rw[z];exact c.2
  |_=>exact h.elim
 |tup xs=>
  obtain⟨a,vs,rfl,h2,h3,h4⟩:=rx;cases y with
  |tup ys=>
   obtain⟨b,us,rfl,k2,k3,k4⟩:=ry;cases op<;>first|exact h.elim|skip
   obtain⟨c,h⟩:=h.bA;simp only[bq,decide_eq_true_eq,zv,List.isEmpty_eq_false_iff]at c;obtain⟨⟨c1,c2⟩,c3⟩:=c;rw[<-h4.len,<-k4.len]at c3;rw[<-ku]at h;refine .inr ⟨vs,us,(tupS h2).same' s,(tupS k2).same' s,?_,?_,c3,fun p hp=>h.tup s (h4.app k4) (by rw[aE];exact c3) hp⟩
   ·rintro rfl;exact c1 (gM (by rw[<-h4.len];rfl))
   ·rintro rfl;exact c2 (gM (by rw[<-k4.len];rfl))
  |_=>exact h.elim
 |_=>exact h.elim
theorem okIn(s:aZ F H)(rx:aU K F x v)(ry:aU K F y u)(h:inD x y=.ok b){Q:Bool->Prop}(q:Q b):∃a,u=.ref a/\((∃t xs dx ds,gi K H a t xs/\aU K H dx v/\aD K H ds xs/\cN dx=true/\eY ds=true/\Q (memD dx ds))\/∃kvs k,Rd H a (.dK kvs)/\v=kV k/\Q (fV kvs k).isSome):=by
 cases y with
 |lst o ys=>
  obtain⟨a,us,rfl,k2,k3,k4⟩:=ry;obtain⟨c,e⟩:=iC h;cases e;have c:cN x=true/\eY ys=true:=by simpa using c
  exact⟨a,rfl,.inl ⟨false,us,x,ys,(Rd.seq k2).same' s,aU.mono s _ _ rx,aD.mono s _ _ k4,c.1,c.2,q⟩⟩
 |tup ys=>
  obtain⟨a,us,rfl,k2,k3,k4⟩:=ry;obtain⟨c,e⟩:=iC h;cases e;have c:cN x=true/\eY ys=true:=by simpa using c
  exact⟨a,rfl,.inl ⟨true,us,x,ys,(tupS k2).same' s,aU.mono s _ _ rx,aD.mono s _ _ k4,c.1,c.2,q⟩⟩
 |bZ o ks ds=>
  obtain⟨a,kvs,rfl,k2,k3,k4,k5⟩:=ry;unfold inD at h;cases e:kg x with
  |none=>rw[e]at h;cases h
  |some k=>
   rw[e]at h;cases h;refine⟨a,rfl,.inr ⟨kvs,k,.inl (s _ _ k2),mV rx e,?_⟩⟩;rw[<-k4.1,Al]at q;exact q
 |pdc ks ds=>
  obtain⟨a,kvs,rfl,⟨ob,k2⟩,k3,k4,k5⟩:=ry;unfold inD at h;cases e:kg x with
  |none=>rw[e]at h;cases h
  |some k=>
   rw[e]at h;cases h;refine⟨a,rfl,.inr ⟨kvs,k,.inr ⟨ob,s _ _ k2⟩,mV rx e,?_⟩⟩;rw[<-k4.1,Al]at q;exact q
 |cst ys=>
  obtain⟨a,us,rfl,k2,k3,k4⟩:=ry;obtain⟨c,e⟩:=iC h;cases e;have c:cN x=true/\eY ys=true:=by simpa using c
  exact⟨a,rfl,.inl ⟨true,us,x,ys,.inr k2,aU.mono s _ _ rx,aD.mono s _ _ k4,c.1,c.2,q⟩⟩
 |_=>cases h
theorem yZ[Ex]{op:n9}(s:aZ F H)(rx:aU K F x v)(ry:aU K F y u)(h:PV K F H (cL op x y) Q):mT K op v u H Q:=by
 have ord:(op=.Lt\/op=.LtE\/op=.Gt\/op=.GtE)->PV K F H (Wc op x y) Q->mT K op v u H Q:=by
  intro ho h;cases x with
  |int i=>
   cases rx;cases y with
   |int j=>
    cases ry;rcases ho with rfl|rfl|rfl|rfl<;>exact h.flat s ⟨rfl,rfl⟩
   |_=>exact h.elim
  |str z=>
   obtain⟨rfl,_⟩:=rx;cases y with
   |str j=>
    obtain⟨rfl,_⟩:=ry;rcases ho with rfl|rfl|rfl|rfl<;>first|exact h.flat s ⟨rfl,rfl⟩|exact h.elim
   |_=>exact h.elim
  |_=>exact h.elim
 cases op with
 |Lt=>exact ord (.inl rfl) h
 |LtE=>exact ord (.inr (.inl rfl)) h
 |Gt=>exact ord (.inr (.inr (.inl rfl))) h
 |GtE=>exact ord (.inr (.inr (.inr rfl))) h
 |Eq=>
  obtain⟨c,h⟩:=h.bA;have c:cN x=true/\cN y=true:=by simpa using c
  exact⟨x,y,aU.mono s _ _ rx,aU.mono s _ _ ry,c.1,c.2,h.flat s ⟨rfl,rfl⟩⟩
 |NotEq=>
  obtain⟨c,h⟩:=h.bA;have c:cN x=true/\cN y=true:=by simpa using c
  exact⟨x,y,aU.mono s _ _ rx,aU.mono s _ _ ry,c.1,c.2,h.flat s ⟨rfl,rfl⟩⟩
 |Is=>
  obtain⟨c,h⟩:=h.bA;rw[LS ry c];show Q (.bl (decide (v=.non))) H;rw[Du rx];exact h.flat s ⟨rfl,rfl⟩
 |IsNot=>
  obtain⟨c,h⟩:=h.bA;rw[LS ry c];show Q (.bl (!decide (v=.non))) H;rw[Du rx];exact h.flat s ⟨rfl,rfl⟩
 |In=>
  have h:PV K F H ((inD x y).bind fun b=>.ok (.bl b)) Q:=h;cases e:inD x y with
  |ok b=>
   rw[e]at h;obtain⟨a,rfl,z⟩:=okIn s rx ry e (Q:=fun b=>Q (.bl b) H) (h.flat s ⟨rfl,rfl⟩);exact z
  |ex z=>exact absurd e (Ip x y z)
  |bad=>rw[e]at h;exact h.elim
 |NotIn=>
  have h:PV K F H ((inD x y).bind fun b=>.ok (.bl (!b))) Q:=h;cases e:inD x y with
  |ok b=>
   rw[e]at h;obtain⟨a,rfl,z⟩:=okIn s rx ry e (Q:=fun b=>Q (.bl (!b)) H) (h.flat s ⟨rfl,rfl⟩);exact z
  |ex z=>exact absurd e (Ip x y z)
  |bad=>rw[e]at h;exact h.elim
theorem uJ{xs:List α}{ys:List β}(h:xs.length=ys.length):xs.isEmpty=ys.isEmpty:=by
 cases xs<;>cases ys<;>first|rfl|(simp at h)
theorem JL{Q:Bool->Prop}(s:aZ F H)(rx:aU K F x v)(h:jo x=.ok b)(q:Q b):jO K v H Q:=by
 cases x with
 |non=>cases rx;cases h;exact q
 |bl k=>cases rx;cases h;exact q
 |int i=>cases rx;cases h;exact q
 |str z=>obtain⟨rfl,hz⟩:=rx;cases h;exact⟨hz,q⟩
 |lst o ds=>
  obtain⟨a,vs,rfl,h2,h3,h4⟩:=rx;cases h;exact .inl ⟨false,vs,(Rd.seq h2).same' s,by show Q (!vs.isEmpty);rw[uJ h4.len];exact q⟩
 |tup ds=>
  obtain⟨a,vs,rfl,h2,h3,h4⟩:=rx;cases h;exact .inl ⟨true,vs,(tupS h2).same' s,by show Q (!vs.isEmpty);rw[uJ h4.len];exact q⟩
 |bZ o ks ds=>
  obtain⟨a,kvs,rfl,h2,h3,h4,h5⟩:=rx;cases h;refine .inr ⟨kvs,s _ _ h2,?_⟩;rw[<-h4.1]at q;have e:kvs.isEmpty=(kvs.map (·.1)).isEmpty:=uJ (by simp);rw[e];exact q
 |pdc ks ds=>cases h
 |cst ds=>cases h
 |exc C ks ds=>cases h
theorem cz{r:R α}{f:α->R β}{b:β}(h:r.bind f=.ok b):∃a,r=.ok a/\f a=.ok b:=by
 cases r with
 |ok a=>exact⟨a,rfl,h⟩
 |ex x=>cases h
 |bad=>cases h
theorem k_{o:Option α}{a:α}(h:R.opt o=.ok a):o=some a:=by
 cases o with
 |none=>cases h
 |some b=>cases h;rfl
theorem PV.some[Ex]{r:R D}(h:PV K F H r Q)(n:r.br):∃d,r=.ok d:=by
 cases r with
 |ok d=>exact⟨d,rfl⟩
 |ex x=>exact absurd rfl (n x)
 |bad=>exact h.elim
theorem YT[Ex](s:aZ F H)(rx:aU K F x v)(ry:aU K F y u)(h:PV K F H (mz x y) Q):H_ K v u H Q:=by
 obtain⟨d,e⟩:=h.some (by first|exact Cr _ _|exact rY _ _ _|(repeat' (first|exact br.ok|exact br.bad|exact br.opt|exact br.fE _|refine br.bA ?_|(refine br.bind ?_ fun _=>?_)|split)));rw[e]at h;have hs:=szl;cases x with
 |str z=>
  obtain⟨rfl,hz⟩:=rx;cases y with
  |int i=>
   cases ry;obtain⟨c,e1,e2⟩:=cz e;cases e2;exact⟨hz,c,k_ e1,h.flat s ⟨⟨rfl,by show(1:Nat)<=_;omega⟩,rfl⟩⟩
  |_=>cases e
 |lst o ds=>
  obtain⟨a,vs,rfl,h2,h3,h4⟩:=rx;cases y with
  |int i=>
   cases ry;obtain⟨c,e1,e2⟩:=cz e;cases e2;obtain⟨j,i1,i2⟩:=rE (k_ e1);obtain⟨w,w1,w2⟩:=h4.get j i2;exact .inl ⟨false,vs,i,w,rfl,(Rd.seq h2).same' s,Bk (by rw[h4.len];exact i1) w1,h.here s w2⟩
  |_=>cases e
 |tup ds=>
  obtain⟨a,vs,rfl,h2,h3,h4⟩:=rx;cases y with
  |int i=>
   cases ry;obtain⟨c,e1,e2⟩:=cz e;cases e2;obtain⟨j,i1,i2⟩:=rE (k_ e1);obtain⟨w,w1,w2⟩:=h4.get j i2;exact .inl ⟨true,vs,i,w,rfl,(tupS h2).same' s,Bk (by rw[h4.len];exact i1) w1,h.here s w2⟩
  |_=>cases e
 |bZ o ks ds=>
  obtain⟨a,kvs,rfl,h2,h3,h4,h5⟩:=rx;unfold mz at e;cases q:kg y with
  |none=>simp only[q]at e;cases e
  |some k=>
   simp only[q]at e;obtain⟨c,e1,e2⟩:=cz e;cases e2;have z:=rZ kvs ds k h5;rw[h4.1,k_ e1]at z;obtain⟨w,w1,w2⟩:=z;exact .inr (.inl ⟨kvs,k,w,.inl (s _ _ h2),mV ry q,w1,h.here s w2⟩)
 |pdc ks ds=>
  obtain⟨a,kvs,rfl,⟨ob,h2⟩,h3,h4,h5⟩:=rx;unfold mz at e;cases q:kg y with
  |none=>simp only[q]at e;cases e
  |some k=>
   simp only[q]at e;obtain⟨c,e1,e2⟩:=cz e;cases e2;have z:=rZ kvs ds k h5;rw[h4.1,k_ e1]at z;obtain⟨w,w1,w2⟩:=z;exact .inr (.inl ⟨kvs,k,w,.inr ⟨ob,s _ _ h2⟩,mV ry q,w1,h.here s w2⟩)
 |_=>cases e
theorem aD.cut:∀{ds:List D}{vs:List V},aD K F ds vs->∀lo hi,aD K F (L3.cut ds lo hi) (L3.cut vs lo hi):=by
 have dr:∀(n:Nat) {ds:List D}{vs:List V},aD K F ds vs->aD K F (ds.drop n) (vs.drop n):=by
  intro n;induction n with
  |zero=>intro ds vs h;exact h
  |succ n ih=>
   intro ds vs h;cases ds with
   |nil=>cases h;exact rfl
   |cons d ds=>
    obtain⟨v,r,rfl,_,h3⟩:=h;exact ih h3
 have tk:∀(n:Nat) {ds:List D}{vs:List V},aD K F ds vs->aD K F (ds.take n) (vs.take n):=by
  intro n;induction n with
  |zero=>intro ds vs h;exact rfl
  |succ n ih=>
   intro ds vs h;cases ds with
   |nil=>cases h;exact rfl
   |cons d ds=>
    obtain⟨v,r,rfl,h2,h3⟩:=h;exact⟨v,_,rfl,h2,ih h3⟩
 intro ds vs h lo hi;unfold L3.cut;rw[h.len];exact tk _ (dr _ h)
theorem YU[Ex](s:aZ F H)(rx:aU K F x v)(h:PV K F H (Io x lo hi) Q):R3 K v lo hi H Q:=by
 cases x with
 |str z=>
  obtain⟨rfl,hz⟩:=rx;refine⟨hz,h.flat s ⟨⟨rfl,?_⟩,rfl⟩⟩;rw[fW];have:=yY z.cps.toList lo hi;rw[rH]at this;omega
 |lst o ds=>
  obtain⟨a,vs,rfl,h2,h3,h4⟩:=rx;exact .inl ⟨false,vs,(Rd.seq h2).same' s,rfl,fun p hp=>h.lst s (h4.cut lo hi) (d9 (yY _ _ _) h3) hp⟩
 |tup ds=>
  obtain⟨a,vs,rfl,h2,h3,h4⟩:=rx;cases lo with
  |none=>exact h.elim
  |some n=>
   cases hi with
   |some _=>exact h.elim
   |none=>
    obtain⟨c,h⟩:=h.bA;have c:=of_decide_eq_true c;have en:((n.toNat:Nat):Int)=n:=by omega
    have dr:∀(n:Nat) {ds:List D}{vs:List V},aD K F ds vs->aD K F (ds.drop n) (vs.drop n):=by
     intro n;induction n with
     |zero=>intro ds vs h;exact h
     |succ n ih=>
      intro ds vs h;cases ds with
      |nil=>cases h;exact rfl
      |cons d ds=>
       obtain⟨v,r,rfl,_,h3⟩:=h;exact ih h3
    have hl:=h4.len;exact .inr ⟨n.toNat,vs,(tupS h2).same' s,by rw[en],rfl,by omega,by omega,fun p hp=>h.tup s (dr n.toNat h4) (by rw[dX];omega) hp⟩
 |_=>exact h.elim
theorem xS:∀{ds:List D}{vs:List V},aD K F ds vs->ds.all mL=true->yT vs=true/\vs.all nG=ds.all lT/\vs.any nG=ds.any lT
|[],_,h,_=>by cases h;exact⟨rfl,rfl,rfl⟩
|d::ds,_,h,e=>by
 obtain⟨v,r,rfl,h2,h3⟩:=h;have e':mL d=true/\ds.all mL=true:=by simpa using e
 obtain⟨i1,i2,i3⟩:=xS h3 e'.2;cases d with
 |bl b=>
  cases h2;refine⟨by show(true&&yT r)=true;rw[i1];rfl,?_,?_⟩
  ·rw[kJ,kJ,i2];cases b<;>rfl
  ·rw[f6,f6,i3];cases b<;>rfl
 |_=>exact absurd e'.1 ak
theorem Bl:∀{ds:List D}{vs:List V},aD K F ds vs->ds.all rW=true->A7 vs=true/\pZ vs=(ds.map intD).sum
|[],_,h,_=>by cases h;exact⟨rfl,rfl⟩
|d::ds,_,h,e=>by
 obtain⟨v,r,rfl,h2,h3⟩:=h;have e':rW d=true/\ds.all rW=true:=by simpa using e
 obtain⟨i1,i2⟩:=Bl h3 e'.2;cases d with
 |int i=>
  cases h2;refine⟨by show(true&&A7 r)=true;rw[i1];rfl,?_⟩;unfold pZ at i2 ⊢;rw[aV,aV,qH,qH,i2];rfl
 |_=>exact absurd e'.1 ak
theorem PV.bZ[Ex](h:PV K F H (.ok (.bZ true ks (az ds))) Q)(s:aZ F H)(r:aD K F ds (kvs.map (·.2)))(hk:kvs.map (·.1)=ks/\keysOk ks=true)(hl:kvs.length<=aa)(hp:H p=none):Q (.ref p) (upd H p (.dK kvs)):=by
 obtain⟨g,hf⟩:=newList (vs:=[]) (o:=.dK kvs) s hp;refine h F _ (.ref p) [p] g ⟨by simp,?_,?_⟩ ?_
 ·intro a ha;rw[aG.mp ha];exact hp
 ·intro a ha;rw[aG.mp ha];exact hf
 ·unfold bG;rw[if_pos rfl];exact⟨p,kvs,[],rfl,bD,hl,hk,aD.xM ds _ r,rfl⟩
theorem Bm:∀(ps acc:List (Key×V)),((acc++ps).map (·.1)).Nodup->kH acc ps=acc++ps
|[],acc,_=>(bY acc).symm
|p::r,acc,h=>by
 have hn:¬(acc.any fun kv=>decide (kv.1=p.1))=true:=by
  intro z;obtain⟨kv,hkv,e⟩:=gS.mp z;have e:=of_decide_eq_true e;rw[a7,bx]at h;exact h.2.2 kv.1 (oE hkv) p.1 (by simp) e
 have e:putK acc p.1 p.2=acc++[p]:=by
  unfold putK;rw[if_neg hn]
 show kH (putK acc p.1 p.2) r=_;rw[e,Bm r (acc++[p]) (by rw[bQ];exact h),bQ];rfl
theorem FY(ks:List Key):az (ks.map eN)=ks.map eN:=by
 induction ks with
 |nil=>rfl
 |cons k r ih=>
  show bC (eN k)::az (r.map eN)=_;rw[ih];cases k<;>rfl
theorem Am:∀kvs:List (Key×V),keysOk (kvs.map (·.1))=true->aD K F ((kvs.map (·.1)).map eN) (kvs.map fun kv=>kV kv.1)
|[],_=>rfl
|kv::r,h=>by
 obtain⟨h1,h2⟩:=iN.mp (show(keyOk kv.1&&keysOk (r.map (·.1)))=true by simpa[keysOk]using h);refine⟨_,_,rfl,?_,Am r h2⟩;show aU K F (eN kv.1) (kV kv.1);cases e:kv.1 with
 |inl i=>exact rfl
 |inr x=>rw[e]at h1;exact⟨rfl,of_decide_eq_true h1⟩
theorem Sf[Ex]{f:Bf}(s:aZ F H)(r:aD K F ds vs)(h:PV K F H (i9 f ds) Q):Fz K f vs H Q:=by
 match ds,r,h with
 |[],_,h=>exact h.elim
 |[x],r,h=>
  obtain⟨v,r',rfl,rx,e⟩:=r;cases e;cases f with
  |len=>
   cases x with
   |str z=>obtain⟨rfl,hz⟩:=rx;exact⟨hz,h.flat s ⟨rfl,rfl⟩⟩
   |lst o ds=>
    obtain⟨a,vs,rfl,h2,h3,h4⟩:=rx;exact .inl ⟨false,vs,(Rd.seq h2).same' s,by show Q (.int vs.length) H;rw[h4.len];exact h.flat s ⟨rfl,rfl⟩⟩
   |tup ds=>
    obtain⟨a,vs,rfl,h2,h3,h4⟩:=rx;exact .inl ⟨true,vs,(tupS h2).same' s,by show Q (.int vs.length) H;rw[h4.len];exact h.flat s ⟨rfl,rfl⟩⟩
   |bZ o ks ds=>
    obtain⟨a,kvs,rfl,h2,h3,h4,h5⟩:=rx;refine .inr ⟨kvs,.inl (s _ _ h2),?_⟩;rw[<-h4.1]at h;have:=h.flat (v:=.int (kvs.map (·.1)).length) s ⟨rfl,rfl⟩;rw[ah]at this;exact this
   |pdc ks ds=>
    obtain⟨a,kvs,rfl,⟨ob,h2⟩,h3,h4,h5⟩:=rx;refine .inr ⟨kvs,.inr ⟨ob,s _ _ h2⟩,?_⟩;rw[<-h4.1]at h;have:=h.flat (v:=.int (kvs.map (·.1)).length) s ⟨rfl,rfl⟩;rw[ah]at this;exact this
   |_=>exact h.elim
  |all=>
   cases x with
   |lst o ds=>
    obtain⟨a,vs,rfl,h2,h3,h4⟩:=rx;obtain⟨c,h⟩:=h.bA;obtain⟨i1,i2,i3⟩:=xS h4 c;exact⟨false,vs,(Rd.seq h2).same' s,rfl,i1,by rw[i2];exact h.flat s ⟨rfl,rfl⟩⟩
   |_=>exact h.elim
  |any=>
   cases x with
   |lst o ds=>
    obtain⟨a,vs,rfl,h2,h3,h4⟩:=rx;obtain⟨c,h⟩:=h.bA;obtain⟨i1,i2,i3⟩:=xS h4 c;exact⟨false,vs,(Rd.seq h2).same' s,rfl,i1,by rw[i3];exact h.flat s ⟨rfl,rfl⟩⟩
   |_=>exact h.elim
  |int=>
   cases x with
   |int i=>cases rx;exact h.flat s ⟨rfl,rfl⟩
   |bl b=>cases rx;exact h.flat s ⟨rfl,rfl⟩
   |str z=>
    obtain⟨rfl,hz⟩:=rx;obtain⟨c,h⟩:=h.bA;obtain⟨d,e⟩:=h.some (by first|exact Cr _ _|exact rY _ _ _|(repeat' (first|exact br.ok|exact br.bad|exact br.opt|exact br.fE _|refine br.bA ?_|(refine br.bind ?_ fun _=>?_)|split)));obtain⟨n,e1,e2⟩:=cz e;rw[e]at h;cases e2;exact⟨of_decide_eq_true c,n,k_ e1,h.flat s ⟨rfl,rfl⟩⟩
   |_=>exact h.elim
  |str=>
   cases x with
   |int i=>
    cases rx;obtain⟨c,h⟩:=h.bA;have c:i.natAbs.log2<1920/\(dP i).length<=aa:=by simpa using c
    exact⟨c.1,h.flat s ⟨⟨rfl,c.2⟩,rfl⟩⟩
   |_=>exact h.elim
  |list=>
   cases x with
   |lst o ds=>
    obtain⟨a,vs,rfl,h2,h3,h4⟩:=rx;exact .inl ⟨false,vs,(Rd.seq h2).same' s,fun p hp=>h.lst s h4 h3 hp⟩
   |tup ds=>
    obtain⟨a,vs,rfl,h2,h3,h4⟩:=rx;exact .inl ⟨true,vs,(tupS h2).same' s,fun p hp=>h.lst s h4 h3 hp⟩
   |bZ o ks ds=>
    obtain⟨a,kvs,rfl,h2,h3,h4,h5⟩:=rx;refine .inr ⟨kvs,.inl (s _ _ h2),fun p hp=>?_⟩;rw[<-h4.1]at h h4;exact PV.lst (ds:=(kvs.map (·.1)).map eN) (by rw[FY];exact h) s (Am kvs h4.2) (by rw[ah];exact h3) hp
   |pdc ks ds=>
    obtain⟨a,kvs,rfl,⟨ob,h2⟩,h3,h4,h5⟩:=rx;refine .inr ⟨kvs,.inr ⟨ob,s _ _ h2⟩,fun p hp=>?_⟩;rw[<-h4.1]at h h4;exact PV.lst (ds:=(kvs.map (·.1)).map eN) (by rw[FY];exact h) s (Am kvs h4.2) (by rw[ah];exact h3) hp
   |_=>exact h.elim
  |sum=>
   cases x with
   |lst o ds=>
    obtain⟨a,vs,rfl,h2,h3,h4⟩:=rx;obtain⟨c,h⟩:=h.bA;obtain⟨i1,i2⟩:=Bl h4 c;exact⟨false,vs,(Rd.seq h2).same' s,rfl,i1,by rw[i2];exact h.flat s ⟨rfl,rfl⟩⟩
   |_=>exact h.elim
  |_=>exact h.elim
 |[x,y],r,h=>
  obtain⟨v,r',rfl,rx,u,r2,rfl,ry,e⟩:=r;cases e;cases x with
  |int i=>
   cases rx;cases y with
   |int j=>
    cases ry;cases f<;>first|exact h.elim|exact h.flat s ⟨rfl,rfl⟩
   |_=>exact h.elim
  |_=>exact h.elim
 |_::_::_::_,_,h=>exact h.elim
theorem Sg{t:Ty}{Q:Bool->Prop}(s:aZ F H)(rx:aU K F x v)(hn:xN x=true)(q:Q (Co t x)):xE K t v H Q:=by
 cases x with
 |non=>cases rx;exact q
 |bl k=>cases rx;exact q
 |int i=>cases rx;exact q
 |str z=>obtain⟨rfl,hz⟩:=rx;exact q
 |lst o ds=>
  obtain⟨a,vs,rfl,h2,h3,h4⟩:=rx;exact .inl ⟨vs,Rd.same s h2,q⟩
 |tup ds=>
  obtain⟨a,vs,rfl,h2,h3,h4⟩:=rx;exact .inr (.inl ⟨vs,(tupS h2).same' s,q⟩)
 |bZ o ks ds=>
  obtain⟨a,kvs,rfl,h2,h3,h4,h5⟩:=rx;exact .inr (.inr ⟨kvs,.inl (s _ _ h2),q⟩)
 |pdc ks ds=>
  obtain⟨a,kvs,rfl,⟨ob,h2⟩,h3,h4,h5⟩:=rx;exact .inr (.inr ⟨kvs,.inr ⟨ob,s _ _ h2⟩,q⟩)
 |cst ds=>
  obtain⟨a,vs,rfl,h2,h3,h4⟩:=rx;exact .inr (.inl ⟨vs,.inr h2,q⟩)
 |exc C ks ds=>cases hn
theorem Dv:∀{ds:List D}{vs:List V}{ss:List Str},aD K F ds vs->ph ds=some ss->vs=ss.map V.str
|[],_,_,h,e=>by cases h;cases e;rfl
|d::ds,_,ss,h,e=>by
 obtain⟨v,r,rfl,h2,h3⟩:=h;cases d with
 |str z=>
  have e:(ph ds).map (z::·)=some ss:=e;cases q:ph ds with
  |none=>rw[q]at e;cases e
  |some s2=>
   rw[q]at e;cases e;rw[Dv h3 q,h2.1];rfl
 |_=>cases e
theorem JM(c:Nat)(l:List Nat)(hl:l.length<=aa):aD K F (p6 c l) ((cu c l).map fun p=>V.str (strOf p)):=by
 obtain⟨h1,_⟩:=lU c l;unfold p6;revert h1;generalize cu c l=ps;intro h1;induction ps with
 |nil=>exact rfl
 |cons p r ih=>
  refine⟨_,_,rfl,⟨rfl,?_⟩,ih fun q hq=>h1 q (ai _ hq)⟩;rw[LR];have:=h1 p ao;omega
theorem xT:∀ps:List (List Nat),az (ps.map fun p=>D.str (strOf p))=ps.map fun p=>D.str (strOf p)
|[]=>rfl
|p::r=>by show D.str (strOf p)::az _=_;rw[xT r];rfl
theorem LU(s:aZ F H)(rx:aU K F x v)(h:ki m x ds=.ok d):tH m v H:=by
 cases x with
 |str z=>
  obtain⟨rfl,_⟩:=rx
  match ds,h with
  |[y],h=>
   cases y with
   |str q=>cases m<;>first|exact trivial|(cases h)
   |lst o ys=>cases m<;>first|exact trivial|(cases h)
   |_=>cases h
  |[],h=>cases m<;>first|exact trivial|(cases h)
  |_::_::_,h=>cases h
 |bZ o ks xs=>
  obtain⟨a,kvs,rfl,h2,_⟩:=rx
  match ds,h with
  |[k,y],h=>
   cases m<;>first|(cases h)|skip
   show vQ H a;unfold vQ;rw[s _ _ h2];trivial
  |[],h=>cases h
  |[k],h=>
   cases m<;>first|(cases h)|skip
   show vQ H a;unfold vQ;rw[s _ _ h2];trivial
  |_::_::_::_,h=>cases h
 |_=>cases h
theorem frzs_strs':∀ws:List Str,az (ws.map D.str)=ws.map D.str
|[]=>rfl
|w::r=>by show D.str w::az (r.map D.str)=_;rw[frzs_strs' r];rfl
theorem Sh[Ex](s:aZ F H)(rx:aU K F x v)(r:aD K F ds vs)(h:PV K F H (ki m x ds) Q):vR K m v vs H Q:=by
 cases x with
 |str z=>
  obtain⟨rfl,hz⟩:=rx
  match ds,r,h with
  |[y],r,h=>
   obtain⟨u,r',rfl,ry,e⟩:=r;cases e;cases y with
   |str q=>
    obtain⟨rfl,hq⟩:=ry;cases m with
    |startswith=>
     exact h.flat s ⟨rfl,rfl⟩
    |split=>
     obtain⟨c,h⟩:=h.bA;have c:q.length=1/\z.length+2<=aa:=by simpa using c
     refine⟨c.1,c.2,fun p hp=>?_⟩;have r:=JM (K:=K) (F:=F) (q.cps.getD 0 0) z.cps.toList (by rw[rH];exact hz);have h':PV K F H (.ok (.lst true (az (p6 (q.cps.getD 0 0) z.cps.toList)))) Q:=by
      unfold p6 at h ⊢;rw[xT];exact h
     refine h'.lst s r ?_ hp;rw[ah];have:=(lU (q.cps.getD 0 0) z.cps.toList).2;rw[rH]at this;omega
    |_=>exact h.elim
   |lst o ys=>
    obtain⟨a,us,rfl,h2,h3,h4⟩:=ry;cases m with
    |join=>
     obtain⟨d,e⟩:=h.some (by first|exact Cr _ _|exact rY _ _ _|(repeat' (first|exact br.ok|exact br.bad|exact br.opt|exact br.fE _|refine br.bA ?_|(refine br.bind ?_ fun _=>?_)|split)));obtain⟨ss,e1,e2⟩:=cz (show((R.opt (ph ys)).bind fun ss=>R.bA (decide ((ss.map (·.length)).sum+ss.length*z.length<=aa)) (.ok (.str (fB z ss))))=.ok d from e);obtain⟨c,e3⟩:=iC e2;rw[e]at h;cases e3;exact⟨false,us,(Rd.seq h2).same' s,rfl,ss,Dv h4 (k_ e1),of_decide_eq_true c,h.flat s ⟨⟨rfl,d9 (Ak z ss) (of_decide_eq_true c)⟩,rfl⟩⟩
    |_=>exact h.elim
   |_=>exact h.elim
  |[],r,h=>
   cases m with
   |split=>
    cases r;obtain⟨c,h⟩:=h.bA;simp only[bq,decide_eq_true_eq]at c;refine⟨⟨hz,c.1⟩,fun p hp=>?_⟩;have r:∀ws:List Str,(ws.all fun w=>decide (w.length<=aa))=true->aD K F (ws.map D.str) (ws.map V.str):=by
     intro ws;induction ws with
     |nil=>intro _;exact rfl
     |cons w ws ih=>
      intro hc;obtain⟨c1,c2⟩:=iN.mp hc;exact⟨_,_,rfl,⟨rfl,of_decide_eq_true c1⟩,ih c2⟩
    have h':PV K F H (.ok (.lst true (az ((eW z).map D.str)))) Q:=by
     rw[frzs_strs'];exact h
    exact h'.lst s (r _ c.2) (by rw[ah];exact c.1) hp
   |_=>exact h.elim
  |_::_::_,_,h=>exact h.elim
 |bZ o ks xs=>
  obtain⟨a,kvs,rfl,h2,h3,h4,h5⟩:=rx
  match ds,r,h with
  |[k,y],r,h=>
   obtain⟨u,r',rfl,rk,w,r2,rfl,ry,e⟩:=r;cases e;cases m<;>first|exact h.elim|skip
   have h:PV K F H (match kg k with|some k'=>.ok (bC ((k8 ks xs k').getD y))|none=>.bad) Q:=h;cases q:kg k with
   |none=>rw[q]at h;exact h.elim
   |some k'=>
    have h:PV K F H (.ok (bC ((k8 ks xs k').getD y))) Q:=by rw[q]at h;exact h
    refine .inl ⟨kvs,k',.inl (s _ _ h2),mV rk q,?_⟩;have z:=rZ kvs xs k' h5;rw[h4.1]at z;cases e:k8 ks xs k' with
    |none=>
     rw[e]at z h;rw[show fV kvs k'=none from z];exact h.here s ry
    |some d=>
     rw[e]at z h;obtain⟨w',w1,w2⟩:=z;rw[w1];exact h.here s w2
  |[],_,h=>exact h.elim
  |[k],r,h=>
   obtain⟨u,r',rfl,rk,e⟩:=r;cases e;cases m<;>first|exact h.elim|skip
   have h:PV K F H (match kg k with|some k'=>.ok (bC ((k8 ks xs k').getD .non))|none=>.bad) Q:=h;cases q:kg k with
   |none=>rw[q]at h;exact h.elim
   |some k'=>
    have h:PV K F H (.ok (bC ((k8 ks xs k').getD .non))) Q:=by rw[q]at h;exact h
    refine⟨kvs,k',.inl (s _ _ h2),mV rk q,?_⟩;have z:=rZ kvs xs k' h5;rw[h4.1]at z;cases e:k8 ks xs k' with
    |none=>
     rw[e]at z h;rw[show fV kvs k'=none from z];exact h.here (d:=.non) s rfl
    |some d=>
     rw[e]at z h;obtain⟨w',w1,w2⟩:=z;rw[w1];exact h.here s w2
  |_::_::_::_,_,h=>exact h.elim
 |_=>exact h.elim
end
variable{Q':List V->Hp->Prop}
variable{F':Hp}
variable{L:bz}{is:List Nat}
variable{E:XK}
variable{nl:List Str}{fr:List Nat}
section
variable{K:PySem.W.Frag}{Zz:List PG}{Y:List G}
theorem PV.bind[Ex]{r:R D}{f:D->R D}{Q':VK}(h:PV K F H (r.bind f) Q)(k:∀x F1 H1 v,bT F H F1 H1->aU K F1 x v->PV K F1 H1 (f x) Q->Q' v H1):PV K F H r Q':=by
 cases r with
 |ok x=>
  intro F1 H1 v fp g fr rx;obtain⟨F2,g2,s2,rf⟩:=O2 g fr rx;exact k x F2 H1 v g2 rf (PV.grow h g2)
 |ex x=>exact h
 |bad=>exact h.elim
theorem PB.kR[Ex]{r:R D}{f:D->R α}{Q:α->Hp->Prop}{Q':VK}(h:PB K F H (r.bind f) Q)(k:∀x F1 H1 v,bT F H F1 H1->aU K F1 x v->PB K F1 H1 (f x) Q->Q' v H1):PV K F H r Q':=by
 cases r with
 |ok x=>
  intro F1 H1 v fp g fr rx;obtain⟨F2,g2,s2,rf⟩:=O2 g fr rx;exact k x F2 H1 v g2 rf (PB.grow h g2)
 |ex x=>exact h
 |bad=>exact h.elim
theorem PB.bindB[Ex]{r:R β}{f:β->R α}{Q:α->Hp->Prop}{Q':β->Hp->Prop}(h:PB K F H (r.bind f) Q)(k:∀x F1 H1,bT F H F1 H1->PB K F1 H1 (f x) Q->Q' x H1):PB K F H r Q':=by
 cases r with
 |ok x=>exact fun F1 H1 g=>k x F1 H1 g (PB.grow h g)
 |ex x=>exact h
 |bad=>exact h.elim
theorem PV.bindB[Ex]{r:R β}{f:β->R D}{Q':β->Hp->Prop}(h:PV K F H (r.bind f) Q)(k:∀x F1 H1,bT F H F1 H1->PV K F1 H1 (f x) Q->Q' x H1):PB K F H r Q':=by
 cases r with
 |ok x=>exact fun F1 H1 g=>k x F1 H1 g (PV.grow h g)
 |ex x=>exact h
 |bad=>exact h.elim
theorem xR.E3[Ex]{r:R (List D)}{f:List D->R D}(h:PV K F H (r.bind f) Q)(k:∀xs F1 H1 vs,bT F H F1 H1->aD K F1 xs vs->PV K F1 H1 (f xs) Q->Q' vs H1):xR K F H r Q':=by
 cases r with
 |ok x=>
  intro F1 H1 v fp g fr rx;obtain⟨F2,g2,s2,rf⟩:=Bj g fr rx;exact k x F2 H1 v g2 rf (PV.grow h g2)
 |ex x=>exact h
 |bad=>exact h.elim
theorem PB.Wg[Ex]{r:R (List D)}{f:List D->R α}{Q:α->Hp->Prop}(h:PB K F H (r.bind f) Q)(k:∀xs F1 H1 vs,bT F H F1 H1->aD K F1 xs vs->PB K F1 H1 (f xs) Q->Q' vs H1):xR K F H r Q':=by
 cases r with
 |ok x=>
  intro F1 H1 v fp g fr rx;obtain⟨F2,g2,s2,rf⟩:=Bj g fr rx;exact k x F2 H1 v g2 rf (PB.grow h g2)
 |ex x=>exact h
 |bad=>exact h.elim
theorem PV.Wh[Ex](h:PV K F H (.ok (.lst true ds)) Q)(g:bT F H F1 H1)(fr:gv fp H F1)(r:aR K H1 F1 ds vs fp)(hl:vs.length<=aa)(hp:H1 p=none):Q (.ref p) (upd H1 p (.lst vs)):=by
 obtain⟨g2,hf⟩:=newList (vs:=vs) (o:=.lst vs) g.s hp;have np:p∉fp:=fun z=>by
  obtain⟨o,e,_⟩:=aR.ex ds vs fp r p z;rw[hp]at e;cases e
 refine h F1 _ (.ref p) (p::fp) (g.trans g2) ⟨bX.mpr ⟨np,fr.nd⟩,?_,?_⟩ ?_
 ·intro a ha;rcases aC.mp ha with rfl|ha
  ·exact aZ.none g.h hp
  ·exact fr.nh a ha
 ·intro a ha;rcases aC.mp ha with rfl|ha
  ·exact hf
  ·exact fr.nf a ha
 ·unfold bG;rw[if_pos rfl];exact⟨p,vs,fp,rfl,bD,hl,aR.mono (aZ.refl _) ds vs fp (fun a ha=>aO (fun z=>np (by rw[<-z];exact ha))) r,rfl⟩
theorem PV.YV[Ex](h:PV K F H (.ok (.tup ds)) Q)(g:bT F H F1 H1)(fr:gv fp H F1)(r:aR K H1 F1 ds vs fp)(hl:vs.length<=aa)(hp:H1 p=none):Q (.ref p) (upd H1 p (.tup vs)):=by
 have g2:=u_ (o:=.tup vs) g.s hp;have np:p∉fp:=fun z=>by
  obtain⟨o,e,_⟩:=aR.ex ds vs fp r p z;rw[hp]at e;cases e
 refine h _ _ (.ref p) fp (g.trans g2) ⟨fr.nd,fr.nh,fun a ha=>?_⟩ ?_
 ·rw[aO (fun z=>np (by rw[<-z];exact ha))];exact fr.nf a ha
 ·exact⟨p,vs,rfl,bD,hl,aR.mono g2.f ds vs fp (fun a ha=>aO (fun z=>np (by rw[<-z];exact ha))) r⟩
theorem LV(z:Str):ko K F (u7 z) ((chars z).map .v):=by
 unfold u7 chars;have hs:=szl;induction z.cps.toList with
 |nil=>exact rfl
 |cons c r ih=>exact⟨_,_,rfl,⟨rfl,by show(1:Nat)<=_;omega⟩,ih⟩
theorem xU:∀{ds:List D}{vs:List V},aD K F ds vs->ko K F (az ds) (vs.map .v)
|[],_,h=>by cases h;exact rfl
|d::ds,_,h=>by
 obtain⟨v,r,rfl,h2,h3⟩:=h;exact⟨_,_,rfl,(aU.bC d v).mpr h2,xU h3⟩
theorem FZ:∀{ds:List D}{vs:List V} (n:Nat),aD K F ds vs->ko K F (jg n (az ds)) (mJ n vs)
|[],_,n,h=>by cases h;exact rfl
|d::ds,_,n,h=>by
 obtain⟨v,r,rfl,h2,h3⟩:=h;have hs:=szl;exact⟨_,_,rfl,⟨_,rfl,⟨_,_,rfl,rfl,_,_,rfl,(aU.bC d v).mpr h2,rfl⟩,by show(2:Nat)<=_;omega⟩,FZ (n+1) h3⟩
theorem Dw(lo:Int)(n:Nat):ko K F (k9 lo n) ((cW n).map fun(i:Nat)=>Item.v (.int (lo+(i:Int)))):=by
 unfold k9;induction cW n with
 |nil=>exact rfl
 |cons c r ih=>exact⟨_,_,rfl,rfl,ih⟩
theorem An:∀(kvs:List (Key×V)),keysOk (kvs.map (·.1))=true->ko K F ((kvs.map (·.1)).map eN) (kvs.map fun kv=>Item.v (kV kv.1))
|[],_=>rfl
|(k,v)::r,h=>by
 have h':keyOk k=true/\keysOk (r.map (·.1))=true:=iN.mp h;refine⟨_,_,rfl,?_,An r h'.2⟩;cases k with
 |inl i=>exact rfl
 |inr x=>exact⟨rfl,of_decide_eq_true h'.1⟩
theorem Dy:∀(ds:List D) (n:Nat),(jg n ds).length=ds.length
|[],n=>rfl
|d::r,n=>by show(jg (n+1) r).length+1=_;rw[Dy r];rfl
theorem ko.mono(e:aZ F F'):∀{ds:List D}{its:List Item},ko K F ds its->ko K F' ds its
|[],_,h=>h
|d::ds,_,h=>by
 obtain⟨it,r,h1,h2,h3⟩:=h;refine⟨it,r,h1,?_,ko.mono e h3⟩;cases it with
 |v x=>exact aU.mono e d x h2
 |tup xs=>obtain⟨es,q1,q2,q3⟩:=h2;exact⟨es,q1,aD.mono e es xs q2,q3⟩
theorem Dz{it:Item}{k:V->Hp->Prop}(s:aZ F H)(r:We K F d it)(h:∀F1 H1 v,bT F H F1 H1->aU K F1 d v->k v H1):mkItem it H k:=by
 cases it with
 |v x=>exact h F H x (bT.refl s) r
 |tup xs=>
  obtain⟨ds,rfl,r2,r3⟩:=r;intro p hp;have g:=u_ (o:=.tup xs) s hp;exact h _ _ _ g ⟨p,xs,rfl,bD,r3,aD.mono g.f ds xs r2⟩
def mj(K:PySem.W.Frag)(F:Hp)(L:bz)(O:L2.St):Prop:=∀(i:Nat) d,L[i]?=some (some d)->∃v,O[i]?=some (some v)/\aU K F d v
theorem mj.env{O:L2.St}(h:mj K F L O):kq K F is L O:=fun i _ d e=>h i d e
theorem mj.mono{O:L2.St}(h:mj K F L O)(e:aZ F F'):mj K F' L O:=fun i d q=>by
 obtain⟨v,h1,h2⟩:=h i d q;exact⟨v,h1,aU.mono e d v h2⟩
theorem mj.set{O:L2.St}{i:Nat}(h:mj K F L O)(hl:L.length=O.length)(r:aU K F d v):mj K F (L.set i (some d)) (O.set i (some v)):=fun j e q=>by
 by_cases hij:i=j
 ·subst hij;rw[d7]at q;by_cases hi:i<L.length
  ·simp[hi]at q;subst q;exact⟨v,by rw[d7];simp[<-hl,hi],r⟩
  ·simp[hi]at q
 ·rw[cE hij]at q;obtain⟨w,h1,h2⟩:=h j e q;exact⟨w,by rw[cE hij];exact h1,h2⟩
mutual
theorem Yi:∀(g:CG) {d:D}{v:V}{L ZI:bz}{O:L2.St}{F H:Hp}{Q:L2.St->Hp->Prop},mj K F L O->L.length=O.length->aZ F H->aU K F d v->pG g d L=.ok ZI->(∀ZC,mj K F ZI ZC->ZI.length=ZC.length->Q ZC H)->wG K Y E g v O H Q
|.name i,d,v,L,ZI,O,F,H,Q,a,hl,s,r,e,h=>by
 cases e;exact h _ (a.set hl r) (by simp[hl])
|.tup gs,d,v,L,ZI,O,F,H,Q,a,hl,s,r,e,h=>by
 cases d with
 |tup ds=>
  obtain⟨b,vs,rfl,h2,h3,h4⟩:=r;obtain⟨c,e⟩:=iC e;exact⟨true,vs,(tupS h2).same' s,rfl,by rw[h4.len];exact of_decide_eq_true c,Wi gs a hl s h4 e h⟩
 |_=>cases e
|.sub _ _,d,v,L,ZI,O,F,H,Q,a,hl,s,r,e,h=>by cases e
theorem Wi:∀(g:j7) {ds:List D}{vs:List V}{L ZI:bz}{O:L2.St}{F H:Hp}{Q:L2.St->Hp->Prop},mj K F L O->L.length=O.length->aZ F H->aD K F ds vs->wY g ds L=.ok ZI->(∀ZC,mj K F ZI ZC->ZI.length=ZC.length->Q ZC H)->Ia K Y E g vs O H Q
|.nil,ds,vs,L,ZI,O,F,H,Q,a,hl,s,r,e,h=>by
 cases ds with
 |nil=>cases r;cases e;exact h O a hl
 |cons d dr=>cases e
|.cons g gr,ds,vs,L,ZI,O,F,H,Q,a,hl,s,r,e,h=>by
 cases ds with
 |nil=>cases e
 |cons d dr=>
  obtain⟨v,vr,rfl,r1,r2⟩:=r;obtain⟨ZE,e1,e2⟩:=cz e;exact Yi g a hl s r1 e1 fun ZC a' hl'=>Wi gr a' hl' s r2 e2 h
end
theorem LW{O:L2.St}(h:kq K F fr L O):mj K F (nl.map (fun _=>none)++fr.map (fun i=>L.getD i none)) (nl.map (fun _=>none)++fr.map (fun i=>O.getD i none)):=by
 intro i d e;by_cases hi:i<nl.length
 ·rw[eZ (by simpa using hi)]at e;rw[aX]at e;cases q:nl[i]? with
  |none=>rw[q]at e;cases e
  |some x=>rw[q]at e;cases e
 ·rw[cZ (by simpa using hi)]at e ⊢;simp only[ah,aX]at e ⊢;cases q:fr[i-nl.length]? with
  |none=>rw[q]at e;cases e
  |some j=>
   rw[q]at e;have e:L.getD j none=some d:=by simpa using e
   have e':L[j]?=some (some d):=by
    rw[f7]at e;cases z:L[j]? with
    |none=>rw[z]at e;cases e
    |some o=>rw[z]at e;simp at e;rw[e]
   obtain⟨v,h1,h2⟩:=h j (fH q) d e';refine⟨v,?_,h2⟩;simp[f7,h1]
theorem LX{O:L2.St}:(nl.map (fun _=>(none:Option D))++fr.map (fun i=>L.getD i none)).length=(nl.map (fun _=>(none:Option V))++fr.map (fun i=>O.getD i none)).length:=by simp
theorem F6[Ex]{E:XK}{tg:CG}{cond:CO}{elt:CE}{k:List V->Hp->Prop}
 (hc:∀{L:bz}{O:L2.St}{F H:Hp}{Q:Bool->Hp->Prop},mj K F L O->aZ F H->PB K F H (pC Zz cond L) Q->wC K Y E cond O H Q)
 (he:∀{L:bz}{O:L2.St}{F H:Hp}{Q:VK},mj K F L O->aZ F H->PV K F H (pE Zz elt L) Q->wE K Y E elt O H Q) (ok:Hp->Prop) (H0:Hp) (F0:Hp) :
 ∀(ds:List D) (its:List Item) (acc:List D) (vacc:List V) (fp:List Addr) (L:bz) (O:L2.St) (F H:Hp),mj K F L O->L.length=O.length->bT F0 H0 F H->ko K F ds its->(∀H'',aZ F H''->ok H'')->acc.length+ds.length<=aa->
  aR K H F acc vacc fp->gv fp H0 F->
  (∀ys,fG (pG tg) (pC Zz cond) (pE Zz elt) ds L=.ok ys->∀F' H' vs fp',bT F0 H0 F' H'->aR K H' F' (acc++ys) vs fp'->gv fp' H0 F'->k vs H')->(∃ys,fG (pG tg) (pC Zz cond) (pE Zz elt) ds L=.ok ys)->
  qW ok (wG K Y E tg) (wC K Y E cond) (wE K Y E elt) k its vacc O H
|[],its,acc,vacc,fp,L,O,F,H,a,hl,g,hi,hok,hz,ra,fr,hk,hy=>by
 cases hi;refine⟨hok H g.s,hk [] rfl F H vacc fp g (by rw[bY];exact ra) fr⟩
|d::ds,its,acc,vacc,fp,L,O,F,H,a,hl,g,hi,hok,hz,ra,fr,hk,hy=>by
 obtain⟨it,r,rfl,i1,i2⟩:=hi;obtain⟨ys,ey⟩:=hy;obtain⟨ZE,e1,e2⟩:=cz ey;obtain⟨b,e3,e4⟩:=cz e2;simp only[aW]at hz;refine⟨hok H g.s,by rw[ra.len];omega,Dz g.s i1 fun F1 H1 v g1 r1=>?_⟩;have fresh1:∀{F' H':Hp},bT F H F' H'->aR K H' F' acc vacc fp/\gv fp H0 F':=fun g'=>by
  obtain⟨c1,c2⟩:=Wd g' fr ra;exact⟨c1,fr.nd,fr.nh,c2⟩
 refine Yi tg (a.mono g1.f) hl g1.s r1 e1 fun ZC a' hl'=>?_;refine hc a' g1.s ?_;rw[e3];intro F2 H2 g2;have g12:=g1.trans g2;have hok2:∀{F' H':Hp},bT F H F' H'->∀H'',aZ F' H''->ok H'':=fun g' H'' s''=>hok H'' (g'.f.trans s'');cases b with
 |false=>
  rw[if_neg ak];have e4:fG (pG tg) (pC Zz cond) (pE Zz elt) ds ZE=.ok ys:=e4;obtain⟨c1,c2⟩:=fresh1 g12;refine F6 hc he ok H0 F0 ds r acc vacc fp ZE ZC F2 H2 (a'.mono g2.f) hl' (g.trans g12) (ko.mono g12.f i2) (hok2 g12) (by omega) c1 c2 (fun zs ez=>?_) ⟨ys,e4⟩;refine hk zs ?_;simp only[fG,e1,R.bind,e3,Bool.false_eq_true,if_false];exact ez
 |true=>
  rw[if_pos rfl];have e4:((pE Zz elt ZE).bind fun y=>(fG (pG tg) (pC Zz cond) (pE Zz elt) ds ZE).bind fun ys=>.ok (y::ys))=.ok ys:=e4;obtain⟨y,e5,e6⟩:=cz e4;obtain⟨zs,e7,e8⟩:=cz e6;refine he (a'.mono g2.f) g2.s ?_;rw[e5];intro F3 H3 w f3 g3 fr3 r3;have g123:=g12.trans g3;obtain⟨c1,c2⟩:=fresh1 g123;have hx:∀a∈fp,∃o,H a=some o:=fun a ha=>by
   obtain⟨o,e,_⟩:=aR.ex acc vacc fp ra a ha;exact⟨o,e⟩
  have fr':gv (fp++f3) H0 F3:=gv.app (H1:=H) g.h fr hx c2.nf ⟨fr3.nd,fun a ha=>aZ.none g12.h (fr3.nh a ha),fr3.nf⟩;refine F6 hc he ok H0 F0 ds r (acc++[y]) (vacc++[w]) (fp++f3) ZE ZC F3 H3 (a'.mono (g2.f.trans g3.f)) hl' (g.trans g123) (ko.mono g123.f i2) (hok2 g123) (by simp;omega) (aR.app c1 (aR.one r3)) fr' (fun zs' ez=>?_) ⟨zs,e7⟩;rw[bQ];refine hk (y::zs') ?_;simp only[fG,e1,R.bind,e3,e5,ez,if_true]
end
variable{k:(Hp->Prop)->List Item->Hp->Prop}
variable{g:Nat}
variable{as:j6}
section
variable{K:PySem.W.Frag}{Zz:List PG}{Y:List G}
mutual
theorem Iq:∀d:D,bC (bC d)=bC d
|.non=>rfl
|.bl _=>rfl
|.int _=>rfl
|.str _=>rfl
|.lst o xs=>by show D.lst false (az (az xs))=_;rw[gD xs];rfl
|.tup xs=>by show D.tup (az (az xs))=_;rw[gD xs];rfl
|.bZ o ks xs=>by show D.bZ false ks (az (az xs))=_;rw[gD xs];rfl
|.pdc ks xs=>by show D.pdc ks (az (az xs))=_;rw[gD xs];rfl
|.cst xs=>by show D.cst (az (az xs))=_;rw[gD xs];rfl
|.exc C ks xs=>by show D.exc C ks (az (az xs))=_;rw[gD xs];rfl
theorem gD:∀ds:List D,az (az ds)=az ds
|[]=>rfl
|d::r=>by show bC (bC d)::az (az r)=_;rw[Iq d,gD r];rfl
end
theorem PV.isOk[Ex]{r:R D}(h:PV K F H r Q)(n:r.br):∃d,r=.ok d:=h.some n
theorem PI'.isOk[Ex]{r:R (Bool×List D)}(h:PI' K A F H r k)(n:r.br):∃d,r=.ok d:=by
 cases r with
 |ok d=>exact⟨d,rfl⟩
 |ex x=>exact absurd rfl (n x)
 |bad=>exact h.elim
theorem PB.isOk[Ex]{r:R α}{Q:α->Hp->Prop}(h:PB K F H r Q)(n:r.br):∃d,r=.ok d:=by
 cases r with
 |ok d=>exact⟨d,rfl⟩
 |ex x=>exact absurd rfl (n x)
 |bad=>exact h.elim
theorem Ct{r:R α}{a:α}(h:r.fE=.ok a):r=.ok a:=by
 cases r with
 |ok b=>exact h
 |ex x=>cases h
 |bad=>cases h
theorem Bo(ZA:cR K Zz Y){c:Option Addr}:∀(gs:List Nat) {b:Bool},Cp Zz gs c=some b->uF Y gs c=some b
|[],b,h=>h
|g::gs,b,h=>by
 unfold Cp at h;unfold uF;cases q:Zz[g]? with
 |none=>rw[q]at h;cases h
 |some p=>
  obtain⟨g',e1,e2⟩:=ZA.get g q;rw[q]at h;rw[e1];cases p<;>first|cases h|skip
  cases g'<;>first|exact e2.elim|skip
  obtain⟨rfl,rfl⟩:=e2;cases c with
  |none=>exact Bo ZA gs h
  |some C=>
   dsimp only at h ⊢;split at h
   ·rename_i hC;rw[if_pos hC];split at h
    ·rename_i hD;rw[if_pos hD];exact h
    ·rename_i hD;rw[if_neg hD];exact Bo ZA gs h
   ·cases h
theorem Ir(ZA:cR K Zz Y):∀(gs:List Nat),O0 Zz gs=true->∃Ds,yU Y gs Ds
|[],_=>⟨[],rfl⟩
|g::gs,h=>by
 unfold O0 at h;rw[kJ]at h;obtain⟨h1,h2⟩:=iN.mp h;obtain⟨Ds,hD⟩:=Ir ZA gs h2;cases q:Zz[g]? with
 |none=>rw[q]at h1;cases h1
 |some p=>
  obtain⟨g',e1,e2⟩:=ZA.get g q;rw[q]at h1;cases p<;>first|cases h1|skip
  cases g'<;>first|exact e2.elim|skip
  rename_i D Cs _ _;obtain⟨rfl,rfl⟩:=e2;exact⟨_,_,_,_,rfl,e1,hD⟩
theorem F7(Zz:List PG)(gs:List Nat)(x:D):(xP Zz gs x).br:=by unfold xP;(repeat' (first|exact br.ok|exact br.bad|exact br.opt|exact br.fE _|refine br.bA ?_|(refine br.bind ?_ fun _=>?_)|split))
theorem F8(Zz:List PG)(g:Nat)(x:D):(xQ Zz g x).br:=by unfold xQ;(repeat' (first|exact br.ok|exact br.bad|exact br.opt|exact br.fE _|refine br.bA ?_|(refine br.bind ?_ fun _=>?_)|split))
theorem O7(Zz:List PG)(g:Nat)(f:Str)(x:D):(Cq Zz g f x).br:=by unfold Cq;(repeat' (first|exact br.ok|exact br.bad|exact br.opt|exact br.fE _|refine br.bA ?_|(refine br.bind ?_ fun _=>?_)|split))
theorem Si(ZA:cR K Zz Y){gs:List Nat}{Q:Bool->Prop}(s:aZ F H)(r:aU K F x v)(e:xP Zz gs x=.ok b)(q:Q b):FA Y gs v H Q:=by
 unfold xP at e;obtain⟨c,e⟩:=iC e;simp only[bq,decide_eq_true_eq]at c;obtain⟨⟨c1,c2⟩,c3⟩:=c;refine⟨(fun z=>by subst z;cases c1),c2,Ir ZA gs c3,?_⟩;cases x<;>first|cases e|skip
 ·cases r;exact⟨b,Bo ZA gs (k_ e),q⟩
 ·obtain⟨a,d,vs,rfl,h2,h3,h4⟩:=r;exact⟨false,_,d,_,s _ _ h2,s _ _ h3,b,Bo ZA gs (k_ e),q⟩
theorem Sj(ZA:cR K Zz Y){Q:Bool->Prop}(s:aZ F H)(r:aU K F x v)(e:xQ Zz g x=.ok b)(q:Q b):Cf Y g v H Q:=by
 unfold xQ at e;unfold Cf;cases z:Zz[g]? with
 |none=>rw[z]at e;cases e
 |some p=>
  obtain⟨g',e1,e2⟩:=ZA.get g z;rw[z]at e;rw[e1];cases p<;>first|cases e|skip
  cases g'<;>first|exact e2.elim|skip
  obtain⟨rfl,rfl⟩:=e2;cases x<;>first|cases e|skip
  ·cases r;exact q
  ·obtain⟨a,d,vs,rfl,h2,h3,h4⟩:=r;obtain⟨c,e⟩:=iC e;cases e;exact⟨false,_,d,_,s _ _ h2,s _ _ h3,of_decide_eq_true c,q⟩
theorem Iu{f:Str}:∀{ks:List Str}{ds:List D}{vs:List V},aD K F ds vs->JJ ks ds f=some d->∃v,(ks.zip vs).lookup f=some v/\aU K F d v
|[],_,_,_,e=>by cases e
|k::ks,[],_,_,e=>by cases e
|k::ks,x::ds,_,h,e=>by
 obtain⟨v,r,rfl,h2,h3⟩:=h;unfold JJ at e;rw[List.zip_cons_cons,cF];by_cases z:f=k
 ·rw[if_pos z]at e;cases e;rw[show(f==k)=true from by simp[z]];exact⟨v,rfl,h2⟩
 ·rw[if_neg z]at e;rw[show(f==k)=false from by simp[z]];exact Iu h3 e
theorem XC[Ex](ZA:cR K Zz Y){f:Str}(s:aZ F H)(r:aU K F x v)(h:PV K F H (Cq Zz g f x) Q):FE Y g f v H Q:=by
 obtain⟨y,e⟩:=h.isOk (O7 Zz g f x);rw[e]at h;unfold Cq at e;unfold FE;cases z:Zz[g]? with
 |none=>rw[z]at e;cases e
 |some p=>
  obtain⟨g',e1,e2⟩:=ZA.get g z;rw[z]at e;rw[e1];cases p<;>first|cases e|skip
  cases g'<;>first|exact e2.elim|skip
  obtain⟨rfl,rfl⟩:=e2;cases x<;>first|cases e|skip
  obtain⟨a,d,vs,rfl,h2,h3,h4⟩:=r;obtain⟨c,e⟩:=iC e;obtain⟨y',e3,e4⟩:=cz e;cases e4;obtain⟨w,k1,k2⟩:=Iu h4 (k_ e3);simp only[bq,decide_eq_true_eq]at c;exact⟨false,_,d,_,s _ _ h2,s _ _ h3,c,w,k1,h.here s k2⟩
theorem PB.Wj[Ex]{r:R D}{Q:Bool->Hp->Prop}(h:PB K F H (r.bind jo) Q):PV K F H r (fun x H1=>jO K x H1 fun b=>Q b H1):=by
 refine h.kR fun x F1 H1 v g r hb=>?_;obtain⟨b,e⟩:=hb.isOk (v_ x);rw[e]at hb;exact JL g.s r e (hb F1 H1 (bT.refl g.s))
theorem tO(F:Hp):aZ (fun _=>none) F:=fun b o h=>by cases h
theorem O8(r:aU K F x v)(h:qv x=.ok ds):ds.length<=aa:=by
 cases x with
 |str z=>cases h;unfold u7;rw[ah,rH];exact r.2
 |lst o xs=>cases h;obtain⟨a,vs,_,_,h3,h4⟩:=r;rw[iA,<-h4.len];exact h3
 |tup xs=>cases h;obtain⟨a,vs,_,_,h3,h4⟩:=r;rw[iA,<-h4.len];exact h3
 |_=>cases h
theorem XD{G:Hp}(s:aZ G H)(r:aU K G x v)(e:qv x=.ok ds)(h:∀ok its,(∀H'',aZ G H''->ok H'')->ko K G ds its->ds.length<=aa->k ok its H):Ce K v H k:=by
 have hl:=O8 r e;cases x with
 |str z=>cases e;obtain⟨rfl,hz⟩:=r;exact⟨hz,h _ _ (fun _ _=>trivial) (LV z) hl⟩
 |lst o xs=>
  cases e;obtain⟨a,vs,rfl,h2,h3,h4⟩:=r;exact⟨false,vs,(Rd.seq h2).same' s,h _ _ (fun _ s'=>(Rd.seq h2).same' s') (xU h4) hl⟩
 |tup xs=>
  cases e;obtain⟨a,vs,rfl,h2,h3,h4⟩:=r;exact⟨true,vs,(tupS h2).same' s,h _ _ (fun _ s'=>(tupS h2).same' s') (xU h4) hl⟩
 |_=>cases e
theorem XE{is:List D}(r:aD K F ds vs)(e:rX ds=.ok is)(h:∀its,(∀G,ko K G is its)->is.length<=aa->k (fun _=>True) its H):xF vs H k:=by
 have hs:=szl
 match ds,r,e with
 |[x],r,e=>
  obtain⟨v,r',rfl,rx,er⟩:=r;cases er;cases x with
  |int j=>
   cases rx;obtain⟨c,e2⟩:=iC e;cases e2;have c:=of_decide_eq_true c;refine⟨⟨c.1,by omega⟩,h _ (fun G=>?_) (by unfold k9;rw[ah,qN];exact c.2)⟩;have q:=Dw (K:=K) (F:=G) 0 j.toNat;simpa using q
  |_=>cases e
 |[x,y],r,e=>
  obtain⟨v,r',rfl,rx,u,r2,rfl,ry,er⟩:=r;cases er;cases x with
  |int i=>
   cases rx;cases y with
   |int j=>
    cases ry;obtain⟨c,e2⟩:=iC e;cases e2;have c:=of_decide_eq_true c;exact⟨⟨c.1,c.2.1,c.2.2.1,c.2.2.2.1⟩,h _ (fun G=>Dw i _) (by unfold k9;rw[ah,qN];exact c.2.2.2.2)⟩
   |_=>cases e
  |_=>cases e
 |[],_,e=>cases e
 |_::_::_::_,_,e=>
  unfold rX at e;split at e<;>first|(cases e)|(rename_i z;cases z)
theorem band'{a:Bool}(h:(a&&b)=true):a=true/\b=true:=by simpa using h
theorem XF[Ex]{ps:List (Str×Int)}(s:aZ F H)(h:PV K F H (O1 ps (.ok (.bZ true (ps.map fun p=>.inr p.1) (ps.map fun p=>.int p.2)))) Q):∀p,H p=none->Q (.ref p) (upd H p (.dK (kH [] (ps.map fun p=>(.inr p.1,V.int p.2))))):=by
 obtain⟨c,h⟩:=h.bA;obtain⟨c1,c⟩:=band' c;obtain⟨c2,c3⟩:=band' c;intro p hp;have e1:(ps.map fun p=>((.inr p.1:Key),V.int p.2)).map (·.1)=ps.map fun p=>.inr p.1:=by rw[c9];rfl
 have e2:∀ps:List (Str×Int),az (ps.map fun p=>D.int p.2)=ps.map fun p=>D.int p.2:=fun ps=>by
  induction ps with
  |nil=>rfl
  |cons a r ih=>show bC (.int a.2)::az (r.map fun p=>D.int p.2)=_;rw[ih];rfl
 have e3:∀ps:List (Str×Int),aD K F (ps.map fun p=>D.int p.2) ((ps.map fun p=>((.inr p.1:Key),V.int p.2)).map (·.2)):=fun ps=>by
  induction ps with
  |nil=>exact rfl
  |cons a r ih=>exact⟨_,_,rfl,rfl,ih⟩
 rw[Bm _ [] (by rw[dw,e1];exact of_decide_eq_true c1),dw];exact PV.bZ (ds:=ps.map fun p=>D.int p.2) (by rw[e2];exact h) s (e3 ps) ⟨e1,c2⟩ (by rw[ah];exact of_decide_eq_true c3) hp
theorem LY(ZA:cR K Zz Y)[Ex]{O:L2.St}(hE:∀QA:List V->Hp->Prop,xR K F H (eS Zz as L) QA->wEs K Y Ex.E as O H QA)(h:PV K F H (pE Zz (.call g as) L) Q):wE K Y Ex.E (.call g as) O H Q:=by
 have h:PV K F H (match Zz[g]? with
  |some (.fn m dds)=>(eS Zz as L).bind fun ds=>m (az ds++dds)
  |_=>.bad) Q:=h
 show(match Y[g]? with
  |some (.fn sp dvs)=>wEs K Y Ex.E as O H fun vs H1=>sp (vs++dvs) H1 Q Ex.E
  |_=>False)
 cases q:Zz[g]? with
 |none=>rw[q]at h;exact h.elim
 |some p=>
  obtain⟨g',e1,e2⟩:=ZA.get g q;rw[q]at h;rw[e1];cases p<;>first|exact h.elim|skip
  ·rename_i m dds;cases g'<;>first|exact e2.elim|skip
   ·rename_i sp dvs;refine hE _ (xR.E3 (show PV K F H ((eS Zz as L).bind fun ds=>m (az ds++dds)) Q from h) fun ds F1 H1 vs g1 r1 h1=>?_);exact e2.1 _ _ _ _ ⟨F1,az ds++dds,g1.s,by rw[ku,gD,e2.2.1],aD.app ((aD.az ds vs).mpr r1) (aD.mono (tO F1) dds dvs e2.2.2),h1⟩
mutual
theorem fN(ZA:cR K Zz Y)[Ex]:∀(e:CE) {L:bz}{O:L2.St}{F H:Hp}{Q:VK},kq K F (cO e) L O->aZ F H->dD e=true->PV K F H (pE Zz e L) Q->wE K Y Ex.E e O H Q
|.var i,L,O,F,H,Q,env,s,lt,h=>by
 have h:PV K F H (match L[i]? with
  |some (some d)=>.ok (bC d)
  |_=>.bad) Q:=h
 show kc O i fun v=>Q v H;unfold kc;cases q:L[i]? with
 |none=>rw[q]at h;exact h.elim
 |some o=>
  cases o with
  |none=>rw[q]at h;exact h.elim
  |some d=>
   rw[q]at h;obtain⟨v,h1,h2⟩:=env i (aG.mpr rfl) d q;rw[h1];exact h.here s h2
|.con v,L,O,F,H,Q,env,s,lt,h=>by
 have h:PV K F H (xO v) Q:=h;show Q v H;unfold xO at h;cases v<;>first|exact h.elim|exact h.flat s ⟨rfl,rfl⟩|exact h.flat s ⟨⟨rfl,of_decide_eq_true lt⟩,rfl⟩
|.glo g,L,O,F,H,Q,env,s,lt,h=>by
 have h:PV K F H (match Zz[g]? with
  |some (.val d)=>.ok (bC d)
  |_=>.bad) Q:=h
 show(match Y[g]? with
  |some (.val v)=>Q v H
  |some (.tup a _)=>Q (.ref a) H
  |_=>False)
 cases q:Zz[g]? with
 |none=>rw[q]at h;exact h.elim
 |some p=>
  obtain⟨g',e1,e2⟩:=ZA.get g q;rw[q]at h;rw[e1];cases p with
  |val d=>
   cases g' with
   |val v=>exact h.here s (aU.mono (tO F) d v e2)
   |tup a xs=>exact h.here s (aU.mono (tO F) d _ e2)
   |_=>exact e2.elim
  |_=>exact h.elim
|.bin op a b,L,O,F,H,Q,env,s,lt,h=>by
 obtain⟨l1,l2⟩:=band' lt;refine fN ZA a env.l s l1 (PV.bind (show PV K F H ((pE Zz a L).bind fun x=>(pE Zz b L).bind fun y=>kh op x y) Q from h) fun x F1 H1 v g1 r1 h1=>?_);refine fN ZA b (env.r.mono g1.f) g1.s l2 (h1.bind fun y F2 H2 u g2 r2 h2=>?_);exact XA g2.s (aU.mono g2.f x v r1) r2 h2
|.neg a,L,O,F,H,Q,env,s,lt,h=>by
 refine fN ZA a env s lt (PV.bind (show PV K F H ((pE Zz a L).bind fun x=>match x with|.int i=>.ok (.int (-i))|_=>.bad) Q from h) fun x F1 H1 v g1 r1 h1=>?_);cases x with
 |int i=>cases r1;exact h1.flat g1.s ⟨rfl,rfl⟩
 |_=>exact h1.elim
|.not a,L,O,F,H,Q,env,s,lt,h=>by
 refine fN ZA a env s lt (PV.bind (show PV K F H ((pE Zz a L).bind fun x=>(jo x).bind fun b=>.ok (.bl (!b))) Q from h) fun x F1 H1 v g1 r1 h1=>?_);obtain⟨d,e⟩:=h1.isOk (br.bind (v_ x) fun _=>br.ok);obtain⟨b,e1,e2⟩:=cz e;rw[e1]at h1;exact JL g1.s r1 e1 (h1.flat g1.s ⟨rfl,rfl⟩)
|.and a b,L,O,F,H,Q,env,s,lt,h=>by
 obtain⟨l1,l2⟩:=band' lt;refine fN ZA a env.l s l1 (PV.bind (show PV K F H ((pE Zz a L).bind fun x=>match x with|.bl c=>if c=true then pE Zz b L else .ok (.bl false)|_=>.bad) Q from h) fun x F1 H1 v g1 r1 h1=>?_);cases x with
 |bl c=>
  cases r1;cases c with
  |true=>exact fN ZA b (env.r.mono g1.f) g1.s l2 h1
  |false=>exact h1.flat g1.s ⟨rfl,rfl⟩
 |_=>exact h1.elim
|.or a b,L,O,F,H,Q,env,s,lt,h=>by
 obtain⟨l1,l2⟩:=band' lt;refine fN ZA a env.l s l1 (PV.bind (show PV K F H ((pE Zz a L).bind fun x=>match x with|.bl c=>if c=true then .ok (.bl true)else pE Zz b L|_=>.bad) Q from h) fun x F1 H1 v g1 r1 h1=>?_);cases x with
 |bl c=>
  cases r1;cases c with
  |false=>exact fN ZA b (env.r.mono g1.f) g1.s l2 h1
  |true=>exact h1.flat g1.s ⟨rfl,rfl⟩
 |_=>exact h1.elim
|.ite c a b,L,O,F,H,Q,env,s,lt,h=>by
 obtain⟨l1,l2⟩:=band' lt;obtain⟨l2,l3⟩:=band' l2;refine wZ ZA c env.l s l1 (PV.bindB (K:=K) (show PV K F H ((pT Zz c L).bind fun k=>if k=true then pE Zz a L else pE Zz b L) Q from h) fun k F1 H1 g1 h1=>?_);cases k with
 |true=>exact fN ZA a (env.r.l.mono g1.f) g1.s l2 h1
 |false=>exact fN ZA b (env.r.r.mono g1.f) g1.s l3 h1
|.cmp op a b,L,O,F,H,Q,env,s,lt,h=>by
 obtain⟨l1,l2⟩:=band' lt;refine fN ZA a env.l s l1 (PV.bind (show PV K F H ((pE Zz a L).bind fun x=>(pE Zz b L).bind fun y=>cL op x y) Q from h) fun x F1 H1 v g1 r1 h1=>?_);refine fN ZA b (env.r.mono g1.f) g1.s l2 (h1.bind fun y F2 H2 u g2 r2 h2=>?_);exact yZ g2.s (aU.mono g2.f x v r1) r2 h2
|.chain o1 o2 a b c,L,O,F,H,Q,env,s,lt,h=>by
 obtain⟨l1,l2⟩:=band' lt;obtain⟨l2,l3⟩:=band' l2;refine fN ZA a env.l s l1 (PV.bind (show PV K F H ((pE Zz a L).bind fun x=>(pE Zz b L).bind fun y=>(cL o1 x y).bind fun z=>match z with|.bl k=>if k=true then(pE Zz c L).bind fun u=>cL o2 y u else .ok (.bl false)|_=>.bad) Q from h) fun x F1 H1 v g1 r1 h1=>?_);refine fN ZA b (env.r.l.mono g1.f) g1.s l2 (h1.bind fun y F2 H2 u g2 r2 h2=>?_);refine yZ g2.s (aU.mono g2.f x v r1) r2 (h2.bind fun z F3 H3 w g3 r3 h3=>?_);cases z with
 |bl k=>
  cases r3;cases k with
  |true=>exact fN ZA c (env.r.r.mono (g1.f.trans (g2.f.trans g3.f))) g3.s l3 (PV.bind (show PV K F3 H3 ((pE Zz c L).bind fun u=>cL o2 y u) Q from h3) fun z F4 H4 w g4 r4 h4=>yZ g4.s (aU.mono (g3.f.trans g4.f) y u r2) r4 h4)
  |false=>exact h3.flat g3.s ⟨rfl,rfl⟩
 |_=>exact h3.elim
|.call g as,L,O,F,H,Q,env,s,lt,h=>LY ZA (fun _ h=>nM ZA as env s lt h) h
|.blt f as,L,O,F,H,Q,env,s,lt,h=>by
 refine nM ZA as env s lt (xR.E3 (show PV K F H ((eS Zz as L).bind fun ds=>i9 f ds) Q from h) fun ds F1 H1 vs g1 r1 h1=>Sf g1.s r1 h1)
|.isi a t,L,O,F,H,Q,env,s,lt,h=>by
 refine fN ZA a env s lt (PV.bind (show PV K F H ((pE Zz a L).bind fun x=>.bA (xN x) (.ok (.bl (Co t x)))) Q from h) fun x F1 H1 v g1 r1 h1=>?_);obtain⟨hn,h1⟩:=h1.bA;exact Sg g1.s r1 hn (h1.flat g1.s ⟨rfl,rfl⟩)
|.mth m o as,L,O,F,H,Q,env,s,lt,h=>by
 obtain⟨l1,l2⟩:=band' lt;refine fN ZA o env.l s l1 (PV.bind (show PV K F H ((pE Zz o L).bind fun x=>(eS Zz as L).fE.bind fun ds=>ki m x ds) Q from h) fun x F1 H1 v g1 r1 h1=>?_);obtain⟨d,e⟩:=h1.isOk (br.bind (br.fE _) fun _=>rY _ _ _);obtain⟨ds,e1,e2⟩:=cz e;have e1':=Ct e1;rw[e1,<-e1']at h1;refine⟨LU g1.s r1 e2,nM ZA as (env.r.mono g1.f) g1.s l2 (xR.E3 h1 fun ds F2 H2 vs g2 r2 h2=>?_)⟩;exact Sh g2.s (aU.mono g2.f x v r1) r2 h2
|.ix a b,L,O,F,H,Q,env,s,lt,h=>by
 obtain⟨l1,l2⟩:=band' lt;refine fN ZA a env.l s l1 (PV.bind (show PV K F H ((pE Zz a L).bind fun x=>(pE Zz b L).bind fun y=>mz x y) Q from h) fun x F1 H1 v g1 r1 h1=>?_);refine fN ZA b (env.r.mono g1.f) g1.s l2 (h1.bind fun y F2 H2 u g2 r2 h2=>?_);exact YT g2.s (aU.mono g2.f x v r1) r2 h2
|.sl a lo hi,L,O,F,H,Q,env,s,lt,h=>by
 obtain⟨l1,l2⟩:=band' lt;obtain⟨l2,l3⟩:=band' l2;refine fN ZA a env.l s l1 (PV.bind (show PV K F H ((pE Zz a L).bind fun x=>(pO Zz lo L).bind fun l=>(pO Zz hi L).bind fun h=>Io x l h) Q from h) fun x F1 H1 v g1 r1 h1=>?_);refine Yj ZA lo (env.r.l.mono g1.f) g1.s l2 (h1.bindB fun l F2 H2 g2 h2=>?_);refine Yj ZA hi (env.r.r.mono (g1.f.trans g2.f)) g2.s l3 (h2.bindB fun l' F3 H3 g3 h3=>?_);exact YU g3.s (aU.mono (g2.f.trans g3.f) x v r1) h3
|.lst as,L,O,F,H,Q,env,s,lt,h=>by
 have h:PV K F H ((eS Zz as L).bind fun ds=>.bA (decide (ds.length<=aa)) (.ok (.lst true ds))) Q:=h;refine nM ZA as env s lt ?_;cases e1:eS Zz as L with
 |ex x=>rw[e1]at h;exact h
 |bad=>rw[e1]at h;exact h.elim
 |ok ds=>
 rw[e1]at h;obtain⟨c,h⟩:=PV.bA h;intro F1 H1 vs fp g fr r;have hl:vs.length<=aa:=by rw[r.len];exact of_decide_eq_true c
 exact⟨hl,fun p hp=>h.Wh g fr r hl hp⟩
|.tup as,L,O,F,H,Q,env,s,lt,h=>by
 have h:PV K F H ((eS Zz as L).bind fun ds=>.bA (decide (ds.length<=aa)) (.ok (.tup ds))) Q:=h;refine nM ZA as env s lt ?_;cases e1:eS Zz as L with
 |ex x=>rw[e1]at h;exact h
 |bad=>rw[e1]at h;exact h.elim
 |ok ds=>
 rw[e1]at h;obtain⟨c,h⟩:=PV.bA h;intro F1 H1 vs fp g fr r;have hl:vs.length<=aa:=by rw[r.len];exact of_decide_eq_true c
 exact⟨hl,fun p hp=>h.YV g fr r hl hp⟩
|.dcs ps,L,O,F,H,Q,env,s,lt,h=>XF s h
|.dct,L,O,F,H,Q,env,s,lt,h=>by
 intro p hp;have h:PV K F H (.ok (.bZ true [] [])) Q:=h;obtain⟨g,hf⟩:=newList (vs:=[]) (o:=.dK []) s hp;refine h F _ (.ref p) [p] g ⟨by simp,?_,?_⟩ ?_
 ·intro a ha;rw[aG.mp ha];exact hp
 ·intro a ha;rw[aG.mp ha];exact hf
 ·unfold bG;rw[if_pos rfl];exact⟨p,[],[],rfl,bD,gu _,⟨rfl,rfl⟩,⟨rfl,rfl⟩,rfl⟩
|.comp nl fr elt tg src cond,L,O,F,H,Q,env,s,lt,h=>by
 obtain⟨l1,l2⟩:=band' lt;obtain⟨l2,l3⟩:=band' l2;have h:PV K F H ((pI Zz src L).bind fun items=>(fG (pG tg) (pC Zz cond) (pE Zz elt) items.2 (nl.map (fun _=>none)++fr.map (fun i=>L.getD i none))).fE.bind fun ds=>.ok (.lst true ds)) Q:=h;refine Wk ZA src [] env.l s (fun _ h=>absurd h aB) l2 ?_;cases e1:pI Zz src L with
 |ex x=>rw[e1]at h;exact h
 |bad=>rw[e1]at h;exact h.elim
 |ok items=>
 rw[e1]at h;have h:PV K F H ((fG (pG tg) (pC Zz cond) (pE Zz elt) items.2 (nl.map (fun _=>none)++fr.map (fun i=>L.getD i none))).fE.bind fun ds=>.ok (.lst true ds)) Q:=h;obtain⟨d,e⟩:=h.isOk (br.bind (br.fE _) fun _=>br.ok);obtain⟨ys,e3,e4⟩:=cz e;rw[e]at h;cases e4;replace e3:=Ct e3;intro F1 H1 ok its g1 hok hi hl;rw[LQ]at hok hi;refine@F6 K Zz Y ⟨E0⟩ E0 tg cond elt _ (fun a s' hb=>@ruC ZA ⟨E0⟩ cond _ _ _ _ _ a.env s' l3 hb) (fun a s' hv=>@fN ZA ⟨E0⟩ elt _ _ _ _ _ a.env s' l1 hv) ok H1 F1 items.2 its [] [] [] _ _ F1 H1 (LW (env.r.mono g1.f)) LX (bT.refl g1.s) hi hok (by simpa using hl) ⟨rfl,rfl⟩ .nil (fun zs ez F' H' vs fp' g' r' fr' p hp=>?_) ⟨ys,e3⟩;rw[e3]at ez;cases ez;have hz:vs.length<=aa:=by
  rw[r'.len,dw];have:∀(ds:List D) (L:bz) (ys:List D),fG (pG tg) (pC Zz cond) (pE Zz elt) ds L=.ok ys->ys.length<=ds.length:=by
   intro ds;induction ds with
   |nil=>intro L ys h;cases h;exact aP _
   |cons d ds ih=>
    intro L ys h;obtain⟨ZE,i1,i2⟩:=cz h;obtain⟨b,i3,i4⟩:=cz i2;cases b with
    |false=>have:=ih ZE ys i4;simp;omega
    |true=>
     obtain⟨y,i5,i6⟩:=cz (show((pE Zz elt ZE).bind fun y=>(fG (pG tg) (pC Zz cond) (pE Zz elt) ds ZE).bind fun ys=>.ok (y::ys))=.ok ys from i4);obtain⟨zs,i7,i8⟩:=cz i6;cases i8;have:=ih ZE zs i7;simp;omega
  have:=this items.2 _ ys e3;omega
 refine h.Wh (g1.trans g') ⟨fr'.nd,fun a ha=>aZ.none g1.h (fr'.nh a ha),fr'.nf⟩ r' hz hp
|.isx one gs a,L,O,F,H,Q,env,s,lt,h=>by
 refine fN ZA a env s lt (PV.bind (show PV K F H ((pE Zz a L).bind fun x=>(xP Zz gs x).bind fun b=>.ok (.bl b)) Q from h) fun x F1 H1 v g1 r1 h1=>?_);obtain⟨d,e⟩:=h1.isOk (br.bind (F7 _ _ _) fun _=>br.ok);obtain⟨b,e1,e2⟩:=cz e;rw[e1]at h1;exact Si ZA g1.s r1 e1 (h1.flat g1.s ⟨rfl,rfl⟩)
|.isv g a,L,O,F,H,Q,env,s,lt,h=>by
 refine fN ZA a env s lt (PV.bind (show PV K F H ((pE Zz a L).bind fun x=>(xQ Zz g x).bind fun b=>.ok (.bl b)) Q from h) fun x F1 H1 v g1 r1 h1=>?_);obtain⟨d,e⟩:=h1.isOk (br.bind (F8 _ _ _) fun _=>br.ok);obtain⟨b,e1,e2⟩:=cz e;rw[e1]at h1;exact Sj ZA g1.s r1 e1 (h1.flat g1.s ⟨rfl,rfl⟩)
|.att g a f,L,O,F,H,Q,env,s,lt,h=>by
 exact fN ZA a env s lt (PV.bind (show PV K F H ((pE Zz a L).bind fun x=>Cq Zz g f x) Q from h) fun x F1 H1 v g1 r1 h1=>XC ZA g1.s r1 h1)
theorem wZ(ZA:cR K Zz Y)[Ex]:∀(e:CE) {L:bz}{O:L2.St}{F H:Hp}{Q:Bool->Hp->Prop},kq K F (cO e) L O->aZ F H->dD e=true->PB K F H (pT Zz e L) Q->wT K Y Ex.E e O H Q
|.not a,L,O,F,H,Q,env,s,lt,h=>by
 exact wZ ZA a env s lt (PB.bindB (show PB K F H ((pT Zz a L).bind fun b=>.ok (!b)) Q from h) fun b F1 H1 g1 h1=>h1 F1 H1 (bT.refl g1.s))
|.and a b,L,O,F,H,Q,env,s,lt,h=>by
 obtain⟨l1,l2⟩:=band' lt;refine wZ ZA a env.l s l1 (PB.bindB (show PB K F H ((pT Zz a L).bind fun c=>if c=true then pT Zz b L else .ok false) Q from h) fun c F1 H1 g1 h1=>?_);cases c with
 |true=>exact wZ ZA b (env.r.mono g1.f) g1.s l2 h1
 |false=>exact h1 F1 H1 (bT.refl g1.s)
|.or a b,L,O,F,H,Q,env,s,lt,h=>by
 obtain⟨l1,l2⟩:=band' lt;refine wZ ZA a env.l s l1 (PB.bindB (show PB K F H ((pT Zz a L).bind fun c=>if c=true then .ok true else pT Zz b L) Q from h) fun c F1 H1 g1 h1=>?_);cases c with
 |false=>exact wZ ZA b (env.r.mono g1.f) g1.s l2 h1
 |true=>exact h1 F1 H1 (bT.refl g1.s)
|.ite c a b,L,O,F,H,Q,env,s,lt,h=>by
 obtain⟨l1,l2⟩:=band' lt;obtain⟨l2,l3⟩:=band' l2;refine wZ ZA c env.l s l1 (PB.bindB (show PB K F H ((pT Zz c L).bind fun k=>if k=true then pT Zz a L else pT Zz b L) Q from h) fun k F1 H1 g1 h1=>?_);cases k with
 |true=>exact wZ ZA a (env.r.l.mono g1.f) g1.s l2 h1
 |false=>exact wZ ZA b (env.r.r.mono g1.f) g1.s l3 h1
|.cmp op a b,L,O,F,H,Q,env,s,lt,h=>by
 obtain⟨l1,l2⟩:=band' lt;refine fN ZA a env.l s l1 (PB.kR (show PB K F H ((pE Zz a L).bind fun x=>(pE Zz b L).bind fun y=>(cL op x y).bind fun z=>match z with|.bl k=>.ok k|_=>.bad) Q from h) fun x F1 H1 v g1 r1 h1=>?_);refine fN ZA b (env.r.mono g1.f) g1.s l2 (h1.kR fun y F2 H2 u g2 r2 h2=>?_);refine yZ g2.s (aU.mono g2.f x v r1) r2 (h2.kR fun z F3 H3 w g3 r3 h3=>?_);cases z with
 |bl k=>cases r3;exact h3 F3 H3 (bT.refl g3.s)
 |_=>exact h3.elim
|.chain o1 o2 a b c,L,O,F,H,Q,env,s,lt,h=>by
 obtain⟨l1,l2⟩:=band' lt;obtain⟨l2,l3⟩:=band' l2;refine fN ZA a env.l s l1 (PB.kR (show PB K F H ((pE Zz a L).bind fun x=>(pE Zz b L).bind fun y=>(cL o1 x y).bind fun z=>match z with|.bl k=>if k=true then(pE Zz c L).bind fun u=>(cL o2 y u).bind fun z=>match z with|.bl k=>.ok k|_=>.bad else .ok false|_=>.bad) Q from h) fun x F1 H1 v g1 r1 h1=>?_);refine fN ZA b (env.r.l.mono g1.f) g1.s l2 (h1.kR fun y F2 H2 u g2 r2 h2=>?_);refine yZ g2.s (aU.mono g2.f x v r1) r2 (h2.kR fun z F3 H3 w g3 r3 h3=>?_);cases z with
 |bl k=>
  cases r3;cases k with
  |true=>
   refine fN ZA c (env.r.r.mono (g1.f.trans (g2.f.trans g3.f))) g3.s l3 (PB.kR (show PB K F3 H3 ((pE Zz c L).bind fun u=>(cL o2 y u).bind fun z=>match z with|.bl k=>.ok k|_=>.bad) Q from h3) fun z F4 H4 w g4 r4 h4=>?_);refine yZ g4.s (aU.mono (g3.f.trans g4.f) y u r2) r4 (h4.kR fun z F5 H5 w g5 r5 h5=>?_);cases z with
   |bl k=>cases r5;exact h5 F5 H5 (bT.refl g5.s)
   |_=>exact h5.elim
  |false=>exact h3 F3 H3 (bT.refl g3.s)
 |_=>exact h3.elim
|.var i,L,O,F,H,Q,env,s,lt,h=>by
 have h:PB K F H (match L[i]? with
  |some (some d)=>jo d
  |_=>.bad) Q:=h
 show kc O i fun v=>jO K v H fun b=>Q b H;unfold kc;cases q:L[i]? with
 |none=>rw[q]at h;exact h.elim
 |some o=>
  cases o with
  |none=>rw[q]at h;exact h.elim
  |some d=>
   rw[q]at h;obtain⟨v,h1,h2⟩:=env i (aG.mpr rfl) d q;rw[h1];obtain⟨b,e⟩:=h.isOk (v_ d);rw[e]at h;exact JL s h2 e (h F H (bT.refl s))
|.call g as,L,O,F,H,Q,env,s,lt,h=>by
 rw[Ik];have h':PB K F H ((pE Zz (.call g as) L).bind jo) Q:=by
  revert h;show PB K F H (match Zz[g]? with
   |some (.fn m dds)=>((eS Zz as L).bind fun ds=>m (az ds++dds)).bind jo
   |_=>.bad) Q->PB K F H ((match Zz[g]? with
   |some (.fn m dds)=>(eS Zz as L).bind fun ds=>m (az ds++dds)
   |_=>.bad).bind jo) Q
  cases Zz[g]? with
  |none=>exact fun h=>h
  |some p=>cases p<;>exact fun h=>h
 have hv:=PB.Wj (K:=K) h';exact LY ZA (fun _ h=>nM ZA as env s lt h) hv
|.blt f as,L,O,F,H,Q,env,s,lt,h=>by
 have hv:=PB.Wj (K:=K) (show PB K F H (((eS Zz as L).bind fun ds=>i9 f ds).bind jo) Q from h);exact nM ZA as env s lt (xR.E3 hv fun ds F1 H1 vs g1 r1 h1=>Sf g1.s r1 h1)
|.isi a t,L,O,F,H,Q,env,s,lt,h=>by
 refine fN ZA a env s lt (PB.kR (show PB K F H ((pE Zz a L).bind fun x=>.bA (xN x) (.ok (Co t x))) Q from h) fun x F1 H1 v g1 r1 h1=>?_);obtain⟨hn,h1⟩:=h1.bA;exact Sg g1.s r1 hn (show jO K (.bl (Co t x)) H1 fun b=>Q b H1 from h1 F1 H1 (bT.refl g1.s))
|.mth m o as,L,O,F,H,Q,env,s,lt,h=>by
 obtain⟨l1,l2⟩:=band' lt;refine fN ZA o env.l s l1 (PB.kR (show PB K F H ((pE Zz o L).bind fun x=>(eS Zz as L).fE.bind fun ds=>(ki m x ds).bind jo) Q from h) fun x F1 H1 v g1 r1 h1=>?_);obtain⟨d,e⟩:=h1.isOk (br.bind (br.fE _) fun _=>br.bind (rY _ _ _) fun _=>v_ _);obtain⟨ds,e1,e2⟩:=cz e;have e1':=Ct e1;rw[e1,<-e1']at h1;obtain⟨d',e3,e4⟩:=cz e2;refine⟨LU g1.s r1 e3,nM ZA as (env.r.mono g1.f) g1.s l2 (PB.Wg h1 fun ds F2 H2 vs g2 r2 h2=>?_)⟩;exact Sh g2.s (aU.mono g2.f x v r1) r2 (PB.Wj h2)
|.con v,L,O,F,H,Q,env,s,lt,h=>h.elim
|.glo g,L,O,F,H,Q,env,s,lt,h=>h.elim
|.bin op a b,L,O,F,H,Q,env,s,lt,h=>h.elim
|.neg a,L,O,F,H,Q,env,s,lt,h=>h.elim
|.ix a b,L,O,F,H,Q,env,s,lt,h=>h.elim
|.sl a lo hi,L,O,F,H,Q,env,s,lt,h=>h.elim
|.lst as,L,O,F,H,Q,env,s,lt,h=>h.elim
|.tup as,L,O,F,H,Q,env,s,lt,h=>h.elim
|.dct,L,O,F,H,Q,env,s,lt,h=>h.elim
|.dcs _,L,O,F,H,Q,env,s,lt,h=>h.elim
|.comp nl fr elt tg src cond,L,O,F,H,Q,env,s,lt,h=>h.elim
|.att g a f,L,O,F,H,Q,env,s,lt,h=>h.elim
|.isx one gs a,L,O,F,H,Q,env,s,lt,h=>by
 refine fN ZA a env s lt (PB.kR (show PB K F H ((pE Zz a L).bind fun x=>xP Zz gs x) Q from h) fun x F1 H1 v g1 r1 h1=>?_);obtain⟨b,e1⟩:=h1.isOk (F7 _ _ _);rw[e1]at h1;exact Si ZA g1.s r1 e1 (show jO K (.bl b) H1 fun b=>Q b H1 from h1 F1 H1 (bT.refl g1.s))
|.isv g a,L,O,F,H,Q,env,s,lt,h=>by
 refine fN ZA a env s lt (PB.kR (show PB K F H ((pE Zz a L).bind fun x=>xQ Zz g x) Q from h) fun x F1 H1 v g1 r1 h1=>?_);obtain⟨b,e1⟩:=h1.isOk (F8 _ _ _);rw[e1]at h1;exact Sj ZA g1.s r1 e1 (show jO K (.bl b) H1 fun b=>Q b H1 from h1 F1 H1 (bT.refl g1.s))
theorem nM(ZA:cR K Zz Y)[Ex]:∀(as:j6) {L:bz}{O:L2.St}{F H:Hp}{Q:List V->Hp->Prop},kq K F (nL as) L O->aZ F H->jE as=true->xR K F H (eS Zz as L) Q->wEs K Y Ex.E as O H Q
|.nil,L,O,F,H,Q,env,s,lt,h=>(show xR K F H (.ok []) Q from h) F H [] [] (bT.refl s) .nil ⟨rfl,rfl⟩
|.cons a r,L,O,F,H,Q,env,s,lt,h=>by
 obtain⟨l1,l2⟩:=band' lt;have h:xR K F H ((pE Zz a L).bind fun x=>(eS Zz r L).bind fun xs=>.ok (x::xs)) Q:=h;refine fN ZA a env.l s l1 ?_;cases e1:pE Zz a L with
 |ex x=>rw[e1]at h;exact h
 |bad=>rw[e1]at h;exact h.elim
 |ok x=>
  cases e2:eS Zz r L with
  |ex x=>
   rw[e1]at h;simp only[R.bind,e2]at h;intro F1 H1 v f1 g1 fr1 r1;refine nM ZA r (env.r.mono g1.f) g1.s l2 ?_;rw[e2];exact i_.grow (K:=K) (x:=x) h g1
  |bad=>rw[e1]at h;simp only[R.bind,e2]at h;exact h.elim
  |ok xs=>
   rw[e1]at h;simp only[R.bind,e2]at h;intro F1 H1 v f1 g1 fr1 r1;refine nM ZA r (env.r.mono g1.f) g1.s l2 ?_;rw[e2];intro F2 H2 vs f2 g2 fr2 r2;obtain⟨c1,c2⟩:=carry g2 fr1 r1;refine h F2 H2 (v::vs) (f1++f2) (g1.trans g2) (gv.app g1.h fr1 (fun a ha=>?_) c2 fr2) ⟨v,vs,f1,f2,rfl,rfl,c1,r2⟩;obtain⟨o,e,_⟩:=bG.ex x v f1 r1 a ha;exact⟨o,e⟩
theorem Yj(ZA:cR K Zz Y)[Ex]:∀(c:CO) {L:bz}{O:L2.St}{F H:Hp}{Q:Option Int->Hp->Prop},kq K F (LP c) L O->aZ F H->LO c=true->PB K F H (pO Zz c L) Q->wO K Y Ex.E c O H Q
|.none,L,O,F,H,Q,env,s,lt,h=>(show PB K F H (.ok none) Q from h) F H (bT.refl s)
|.some a,L,O,F,H,Q,env,s,lt,h=>by
 refine fN ZA a env s lt (PB.kR (show PB K F H ((pE Zz a L).bind fun x=>match x with|.int i=>.ok (some i)|_=>.bad) Q from h) fun x F1 H1 v g1 r1 h1=>?_);cases x with
 |int i=>cases r1;exact h1 F1 H1 (bT.refl g1.s)
 |_=>exact h1.elim
theorem ruC(ZA:cR K Zz Y)[Ex]:∀(c:CO) {L:bz}{O:L2.St}{F H:Hp}{Q:Bool->Hp->Prop},kq K F (LP c) L O->aZ F H->LO c=true->PB K F H (pC Zz c L) Q->wC K Y Ex.E c O H Q
|.none,L,O,F,H,Q,env,s,lt,h=>(show PB K F H (.ok true) Q from h) F H (bT.refl s)
|.some a,L,O,F,H,Q,env,s,lt,h=>wZ ZA a env s lt h
theorem Wk(ZA:cR K Zz Y)[Ex]:∀(c:CI) (A:List Addr) {L:bz}{O:L2.St}{F H:Hp}{k:(Hp->Prop)->List Item->Hp->Prop},kq K F (u9 c) L O->aZ F H->nc H A->ltI c=true->PI' K A F H (pI Zz c L) k->wI K Y Ex.E c O H k
|.seq a,A,L,O,F,H,k,env,s,hA,lt,h=>by
 have h:PI' K A F H ((pE Zz a L).bind fun x=>(qv x).bind fun ds=>.ok (aQ x,ds)) k:=h;refine fN ZA a env s lt ?_;cases e1:pE Zz a L with
 |ex x=>rw[e1]at h;exact h
 |bad=>rw[e1]at h;exact h.elim
 |ok x=>
 rw[e1]at h;have h:PI' K A F H ((qv x).bind fun ds=>.ok (aQ x,ds)) k:=h;obtain⟨o,e⟩:=h.isOk (br.bind (O4 x) fun _=>br.ok);obtain⟨ds,e3,e4⟩:=cz (show((qv x).bind fun ds=>R.ok (aQ x,ds))=.ok o from e);rw[e]at h;cases e4;intro F1 H1 v fp g fr r;obtain⟨F2,g2,r2⟩:=Wf hA g fr r;exact XD ((Dt _ _ _).trans g2.s) r2 e3 fun ok its h1 h2 h3=>h F2 H1 ok its g2 h1 h2 h3
|.range as,A,L,O,F,H,k,env,s,hA,lt,h=>by
 have h:PI' K A F H ((eS Zz as L).bind fun xs=>(rX xs).bind fun ds=>.ok (true,ds)) k:=h;refine nM ZA as env s lt ?_;cases e1:eS Zz as L with
 |ex x=>rw[e1]at h;exact h
 |bad=>rw[e1]at h;exact h.elim
 |ok xs=>
 rw[e1]at h;have h:PI' K A F H ((rX xs).bind fun ds=>.ok (true,ds)) k:=h;obtain⟨o,e⟩:=h.isOk (br.bind (O5 xs) fun _=>br.ok);obtain⟨ds,e3,e4⟩:=cz (show((rX xs).bind fun ds=>R.ok (true,ds))=.ok o from e);rw[e]at h;cases e4;intro F1 H1 vs fp g fr r;obtain⟨F2,g2,_,r2⟩:=Bj g fr r;exact XE r2 e3 fun its h1 h2=>h F2 H1 _ its g2 (fun _ _=>trivial) (h1 _) h2
|.enum a,A,L,O,F,H,k,env,s,hA,lt,h=>by
 have h:PI' K A F H ((pE Zz a L).bind fun x=>match x with|.lst _ xs=>.ok (aQ x,jg 0 (az xs))|_=>.bad) k:=h;refine fN ZA a env s lt ?_;cases e1:pE Zz a L with
 |ex x=>rw[e1]at h;exact h
 |bad=>rw[e1]at h;exact h.elim
 |ok x=>
 rw[e1]at h;intro F1 H1 v fp g fr r;obtain⟨F2,g2,r2⟩:=Wf hA g fr r;cases x with
 |lst o xs=>
  have s2:=(Dt (aQ (.lst o xs)) F2 A).trans g2.s;obtain⟨b,vs,rfl,h2,h3,h4⟩:=r2;exact⟨vs,Rd.same s2 h2,h F2 H1 _ _ g2 (fun _ s'=>Rd.same s' h2) (FZ 0 h4) (by rw[Dy,iA,<-h4.len];exact h3)⟩
 |_=>exact h.elim
end
end
noncomputable def mW:Nat->bz->bz
|_,[]=>[]
|0,o::r=>o.map bC::r
|n+1,o::r=>o::mW n r
noncomputable def mO:List Nat->bz->bz
|[],O=>O
|i::is,O=>mO is (mW i O)
noncomputable def iP(is:List Nat)(o:Bool)(O:bz):bz:=match o with
|true=>O
|false=>mO is O
noncomputable def JN:CE->Option Nat
|.var i=>some i
|_=>none
noncomputable def qK(Y:List PG):j6->bz->R (List D)
|.nil=>fun _=>.ok []
|.cons a r=>fun O=>match JN a with
 |some i=>match O[i]? with
  |some (some d)=>(qK Y r (O.set i none)).bind fun ds=>.ok (d::ds)
  |_=>.bad
 |none=>(pE Y a O).bind fun d=>.bA (aQ d) ((qK Y r O).bind fun ds=>.ok (d::ds))
noncomputable def R.alt{α β:Type}(x:R α)(f:α->R β)(y:R β):R β:=match x with
|.ok a=>f a
|_=>y
noncomputable def pM(Y:List PG)(e:CE)(O:bz):R D:=match e with
|.var i=>match O[i]? with
 |some (some d)=>.ok d
 |_=>.bad
|.tup as=>(qK Y as O).alt (fun ds=>.bA (decide (ds.length<=aa)) (.ok (.tup ds))) (pE Y (.tup as) O)
|e=>pE Y e O
noncomputable def xV:Option (Option D)->Bool
|some (some (.lst true _))=>true
|_=>false
noncomputable def Cu(O:bz):CE->Option Int
|.var j=>match O[j]? with
 |some (some (.int n))=>some n
 |_=>none
|.con (.int n)=>some n
|.neg (.con (.int n))=>some (-n)
|_=>none
noncomputable def uK(O:bz):CE->Option (Nat×List Int)
|.var k=>some (k,[])
|.ix o i=>(uK O o).bind fun p=>(Cu O i).map fun n=>(p.1,p.2++[n])
|_=>none
noncomputable def eE:List Int->D->D->Option D
|[],x,d=>match x with
 |.lst true xs=>if xs.length<aa then some (.lst true (xs++[d]))else none
 |_=>none
|i::r,x,d=>match x with
 |.lst true xs=>(ji xs.length i).bind fun n=>(xs[n]?).bind fun y=>(eE r y d).map fun y'=>.lst true (xs.set n y')
 |.tup xs=>(ji xs.length i).bind fun n=>(xs[n]?).bind fun y=>(eE r y d).map fun y'=>.tup (xs.set n y')
 |_=>none
noncomputable def jh:List Int->D->Option D
|[],x=>some x
|i::r,x=>match x with
 |.lst true xs=>(ji xs.length i).bind fun n=>(xs[n]?).bind fun y=>jh r y
 |.tup xs=>(ji xs.length i).bind fun n=>(xs[n]?).bind fun y=>jh r y
 |_=>none
noncomputable def O9(Y:List PG)(o a:CE)(O:bz):Fl:=match uK O o with
|some p=>(pE Y a O).mU false fun d=>match O[p.1]? with
 |some (some x)=>if aQ d=true then(R.opt (eE p.2 x d)).aY fun x'=>.nx (O.set p.1 (some x'))else .bad
 |_=>.bad
|none=>.bad
noncomputable def pX(Y:List PG)(e:CE)(O:bz):Fl:=match e with
|.mth m (.var k) as=>match m with
 |.append=>match as with
  |.cons a .nil=>(pE Y a O).mU (xV O[k]?) fun d=>match O[k]? with
   |some (some (.lst true xs))=>if(decide (xs.length<aa)&&(aQ d||!(cO a).contains k))=true then .nx ((iP (cO a) (aQ d) O).set k (some (.lst true (xs++[d]))))else .bad
   |_=>.bad
  |_=>.bad
 |.insert=>match as with
  |.cons i (.cons a .nil)=>(pE Y i O).mU false fun j=>(pE Y a O).mU false fun d=>match j with
   |.int j=>match O[k]? with
    |some (some (.lst true xs))=>if(decide (0<=j/\j<2 ^ 40/\xs.length<aa)&&aQ d)=true then .nx (O.set k (some (.lst true (xs.take j.toNat++d::xs.drop j.toNat))))else .bad
    |_=>.bad
   |_=>.bad
  |_=>.bad
 |_=>(pE Y e O).aY fun _=>.nx O
|.mth m (.ix o i) as=>match m with
 |.append=>match as with
  |.cons a .nil=>O9 Y (.ix o i) a O
  |_=>.bad
 |_=>(pE Y e O).aY fun _=>.nx O
|e=>(pE Y e O).aY fun _=>.nx O
mutual
noncomputable def wc:D->Bool
|.lst _ _=>false
|.bZ _ _ _=>false
|.pdc _ _=>false
|.cst _=>false
|.exc _ _ _=>false
|.tup xs=>jP xs
|_=>true
noncomputable def jP:List D->Bool
|[]=>true
|d::r=>wc d&&jP r
end
noncomputable def O_(ks:List Key)(xs:List D)(d j:D):Option D:=match kg j with
|some q=>if ks.length<aa then(if oR ks q=true then(if wc d=true then some (.bZ true ks (qt ks xs q d))else none)else some (.bZ true (ks++[q]) (xs++[d])))else none
|none=>none
noncomputable def putIn(x d j:D):Option D:=match x with
|.bZ true ks xs=>O_ ks xs d j
|_=>none
noncomputable def pA(Y:List PG)(g:CG)(e:CE)(O:bz):Fl:=match g with
|.name i=>(pE Y e O).aY fun d=>.nx ((iP (cO e) (aQ d) O).set i (some d))
|.tup gs=>(pE Y e O).aY fun d=>(pG (.tup gs) d (iP (cO e) (aQ d) O)).aY .nx
|.sub o i=>match o with
 |.var k=>(pE Y e O).aY fun d=>(pE Y i (iP (cO e) (aQ d) O)).mU false fun j=>match O[k]? with
  |some (some x)=>if(aQ d||!(cO e).contains k)=true then(R.opt (putIn x d j)).aY fun x'=>.nx ((iP (cO e) (aQ d) O).set k (some x'))else .bad
  |_=>.bad
 |_=>.bad
noncomputable def pB(Y:List PG):CB->bz->R D
|.call g as=>fun O=>match Y[g]? with
 |some (.fn m dds)=>(eS Y as O).fE.bind fun ds=>m (az ds++dds)
 |_=>.bad
|.ite c a b=>fun O=>(pT Y c O).fE.bind fun k=>if k=true then pB Y a O else pB Y b O
noncomputable def ltB:CB->Bool
|.call _ as=>jE as
|.ite c a b=>dD c&&(ltB a&&ltB b)
noncomputable def xW(i:Nat):Fl->Fl
|.nx O=>.nx (O.set i none)
|.rt d=>.rt d
|_=>.bad
noncomputable def Bp(C:Addr)(fs:List (Str×Nat))(ds:List D):D:=.exc C (fs.map (·.1)) (fs.map fun p=>bC ((D.non::ds).getD p.2 .non))
noncomputable def xX(Y:List PG)(k:Nat)(is:List Int)(j:Nat)(a:CE)(O:bz):Fl:=match O[k]? with
|some (some x)=>match jh is x with
 |some (.lst true ys)=>if j<O.length then(pE Y a (O.set j (some (.lst true ys)))).aY fun d=>if aQ d=true then(R.opt (eE is x d)).aY fun x'=>.nx ((O.set k (some x')).set j none)else .bad else .bad
 |_=>.bad
|_=>.bad
noncomputable def we(Y:List PG)(s t:CS)(O:bz):Fl:=match s,t with
|.asg (.name j) o,.expr (.mth .append (.var i) (.cons a .nil))=>if i=j then(match uK O o with|some p=>xX Y p.1 p.2 j a O|none=>.bad)else .bad
|_,_=>.bad
mutual
noncomputable def pS(Y:List PG)(n:Nat):CS->bz->Fl
|.expr e=>fun O=>pX Y e O
|.asg g e=>fun O=>pA Y g e O
|.casg i e=>fun O=>(pE Y e O).aY fun d=>.nx ((iP (cO e) (aQ d) O).set i (some d))
|.ret e=>fun O=>(pM Y e O).aY .rt
|.ifs c a b=>fun O=>(pT Y c O).aY fun k=>if k=true then bM Y n a O else bM Y n b O
|.forr g src b=>fun O=>(pI Y src O).aY fun items=>forR (pG g) (bM Y n b) items.2 (iP (u9 src) items.1 O)
|.fork g k b=>fun O=>match O[k]? with
 |some (some (.bZ true ks xs))=>forR (pG g) (bM Y n b) (ks.map eN) (O.set k (some (.pdc ks (az xs))))
 |some (some (.pdc ks xs))=>forR (pG g) (bM Y n b) (ks.map eN) O
 |_=>.bad
|.brk=>fun O=>.bk O
|.cont=>fun O=>.ct O
|.never=>fun _=>.bad
|.rais g as=>fun O=>match Y[g]? with
 |some (.cls C fs k)=>(eS Y as O).aY fun ds=>if(decide (ds.length+1=k)&&decide (fs.map (·.1)).Nodup)=true then .ex (Bp C fs ds)else .bad
 |_=>.bad
|.tri i g b h=>fun O=>match Y[g]? with
 |some (.exb Cs)=>match pB Y b O with
  |.ok _=>.nx O
  |.ex (.exc C ks xs)=>if(decide (C∈Cs)&&jP xs)=true then xW i (bM (Y.map PG.hand) n h (O.set i (some (.exc C ks xs))))else .bad
  |_=>.bad
 |_=>.bad
noncomputable def bM(Y:List PG)(n:Nat):cJ->bz->Fl
|.nil=>fun O=>.nx O
|.cons s r=>fun O=>match pS Y n s O with
 |.nx ZC=>bM Y n r ZC
 |x=>x
|.two s t r=>fun O=>match we Y s t O with
 |.nx ZC=>bM Y n r ZC
 |x=>x
|.pin k r=>fun O=>match O[k]? with
 |some (some (.bZ true ks xs))=>bM Y n r (O.set k (some (.pdc ks (az xs))))
 |_=>.bad
end
noncomputable def vc(N:List Str)(ds:List D):bz:=ds.map some++aF (N.length-ds.length) none
noncomputable def F9:Fl->R D
|.nx _=>.ok .non
|.rt d=>.ok d
|.ex x=>.ex x
|_=>.bad
noncomputable def F_(Y:List PG)(n:Nat)(N:List Str)(c:cJ)(ds:List D):R D:=F9 (bM Y n c (vc N ds))
mutual
noncomputable def DA:CS->Bool
|.expr e=>dD e
|.asg g e=>Yk g&&dD e
|.casg _ e=>dD e
|.ret e=>dD e
|.ifs c a b=>dD c&&(jQ a&&jQ b)
|.forr _ src b=>ltI src&&jQ b
|.fork _ _ b=>jQ b
|.rais _ as=>jE as
|.tri _ _ b h=>ltB b&&jQ h
|_=>true
noncomputable def jQ:cJ->Bool
|.nil=>true
|.cons s r=>DA s&&jQ r
|.two s t r=>DA s&&(DA t&&jQ r)
|.pin _ r=>jQ r
noncomputable def Yk:CG->Bool
|.sub o i=>dD o&&dD i
|_=>true
end
structure bh (K:PySem.W.Frag) (F0 H0:Hp) (L:bz) (O:L2.St) (F H:Hp) (fp:Nat->List Addr):Prop where
 g:bT F0 H0 F H
 len:L.length=O.length
 rep:∀(i:Nat) d,L[i]?=some (some d)->∃v,O[i]?=some (some v)/\bG K H F d v (fp i)
 ex:∀i,nc H (fp i)
 nd:∀i,(fp i).Nodup
 nf:∀i a,a∈fp i->F a=none
 nh:∀i a,a∈fp i->H0 a=none
 dis:∀i j a,a∈fp i->a∈fp j->i=j
structure jR (K:PySem.W.Frag) (H0 F H:Hp) (fp:Nat->List Addr) (d:D) (v:V) (f:List Addr):Prop where
 r:bG K H F d v f
 nd:f.Nodup
 nf:∀a∈f,F a=none
 nh:∀a∈f,H0 a=none
 dis:∀i a,a∈f->a∉fp i
variable{f:List Addr}
section
variable{K:PySem.W.Frag}{F0 H0 F H:Hp}{L:bz}{O:L2.St}{fp:Nat->List Addr}
theorem Ao:∀(n:Nat) (O:bz) (i:Nat),(mW n O)[i]?=if i=n then(O[i]?).map (Option.map bC)else O[i]?
|n,[],i=>by cases n<;>simp[mW]
|0,o::r,0=>by simp[mW]
|0,o::r,i+1=>by simp[mW]
|n+1,o::r,0=>by simp[mW]
|n+1,o::r,i+1=>by
 simp only[mW,l_,Ao n r i];by_cases h:i=n
 ·simp[h]
 ·simp[h]
theorem Ga:∀(n:Nat) (O:bz),(mW n O).length=O.length
|n,[]=>by cases n<;>rfl
|0,o::r=>rfl
|n+1,o::r=>by simp[mW,Ga n r]
theorem DB:∀(is:List Nat) (O:bz),(mO is O).length=O.length
|[],O=>rfl
|i::is,O=>by rw[mO,DB is,Ga]
noncomputable def ownAt(fp:Nat->List Addr)(is:List Nat):List Addr:=is.flatMap fp
theorem fO{a:Addr}:a∈ownAt fp is↔∃i∈is,a∈fp i:=by simp[ownAt,List.mem_flatMap]
theorem bh.lists(I:bh K F0 H0 L O F H fp)(is:List Nat):nc H (ownAt fp is):=fun a ha=>by
 obtain⟨i,_,h⟩:=fO.mp ha;exact I.ex i a h
theorem bh.env(I:bh K F0 H0 L O F H fp)(is:List Nat):kq K (adopt F H (ownAt fp is)) is L O:=fun i hi d e=>by
 obtain⟨v,h1,h2⟩:=I.rep i d e;exact⟨v,h1,bG.fix (dU I.g.s) d v _ (fun a ha=>kj (fO.mpr ⟨i,hi,ha⟩)) h2⟩
theorem bh.Sk(I:bh K F0 H0 L O F H fp)(g:bT (adopt F H (ownAt fp is)) H F' H'){i:Nat}{a:Addr}(ha:a∈fp i)(hn:a∉ownAt fp is):F' a=none:=by
 obtain⟨o,e,k⟩:=I.ex i a ha;cases q:F' a with
 |none=>rfl
 |some u=>exact((g.n a u q (by rw[iO hn];exact I.nf i a ha)).own e k).elim
theorem bh.Sl(I:bh K F0 H0 L O F H fp)(g:bT (adopt F H (ownAt fp is)) H F' H'):bT F0 H0 F' H':=by
 refine⟨I.g.h.trans g.h,(I.g.f.trans (dU I.g.s)).trans g.f,g.s,fun b o h h'=>?_⟩;cases q:adopt F H (ownAt fp is) b with
 |none=>exact NT.back I.g.h (g.n b o h q)
 |some u=>
  by_cases z:b∈ownAt fp is
  ·obtain⟨i,_,hb⟩:=fO.mp z;exact .of (I.nh i b hb)
  ·rw[iO z]at q;exact I.g.n b u q h'
theorem bh.back(I:bh K F0 H0 L O F H fp)(g:bT (adopt F H (ownAt fp is)) H F' H'):bh K F0 H0 L O (minus F' (ownAt fp is)) H' fp where
 g:=by
  have g0:=I.Sl g;refine⟨g0.h,fun b o h=>?_,(j8 _ _).trans g0.s,fun b o h h'=>g0.n b o (j8 _ _ b o h) h'⟩;have hn:b∉ownAt fp is:=fun z=>by
   obtain⟨i,_,hb⟩:=fO.mp z;have:=I.nf i b hb;rw[I.g.f b o h]at this;cases this
  rw[fi hn];exact g0.f b o h
 len:=I.len
 rep:=fun i d e=>by
  obtain⟨v,h1,h2⟩:=I.rep i d e;refine⟨v,h1,bG.mono ?_ d v _ (fun a ha=>?_) h2⟩
  ·intro b o h;have hn:b∉ownAt fp is:=fun z=>by
    obtain⟨i,_,hb⟩:=fO.mp z;have:=I.nf i b hb;rw[h]at this;cases this
   rw[fi hn];exact g.f b o (dU I.g.s b o h)
  ·obtain⟨o,e,_⟩:=I.ex i a ha;rw[e,g.h a o e]
 ex:=fun i=>(I.ex i).mono g.h
 nd:=I.nd
 nf:=fun i a ha=>by
  by_cases hn:a∈ownAt fp is
  ·exact Aj hn
  ·rw[fi hn];exact I.Sk g ha hn
 nh:=I.nh
 dis:=I.dis
theorem LZ:∀(is:List Nat) (O:bz) (i:Nat),(mO is O)[i]?=some (some d)->∃d',O[i]?=some (some d')/\((i∈is/\d=bC d')\/(i∉is/\d=d')):=by
 have ff:∀d:D,L3.bC (L3.bC d)=L3.bC d:=Iq;intro is;induction is with
 |nil=>intro O i h;exact⟨d,h,.inr ⟨aB,rfl⟩⟩
 |cons j is ih=>
  intro O i h;obtain⟨d1,e1,e2⟩:=ih (mW j O) i h;rw[Ao]at e1;by_cases hj:i=j
  ·rw[if_pos hj]at e1;cases q:O[i]? with
   |none=>rw[q]at e1;cases e1
   |some o=>
    cases o with
    |none=>rw[q]at e1;cases e1
    |some d'=>
     rw[q]at e1;cases e1;refine⟨d',rfl,.inl ⟨by rw[hj];exact ao,?_⟩⟩;rcases e2 with⟨_,rfl⟩|⟨_,rfl⟩
     ·exact ff d'
     ·rfl
  ·rw[if_neg hj]at e1;refine⟨d1,e1,?_⟩;rcases e2 with⟨h1,h2⟩|⟨h1,h2⟩
   ·exact .inl ⟨ai _ h1,h2⟩
   ·exact .inr ⟨fun z=>by rcases aC.mp z with z|z;exact hj z;exact h1 z,h2⟩
theorem bh.Wl(I:bh K F0 H0 L O F H fp)(g:bT (adopt F H (ownAt fp is)) H F' H'):bh K F0 H0 (mO is L) O F' H' (fun i=>if i∈is then[]else fp i) where
 g:=I.Sl g
 len:=by rw[DB];exact I.len
 rep:=fun i d e=>by
  obtain⟨d',e1,e2⟩:=LZ is L i e;rcases e2 with⟨h1,rfl⟩|⟨h1,rfl⟩
  ·obtain⟨v,q1,q2⟩:=I.env is i h1 d' e1;exact⟨v,q1,by rw[if_pos h1];exact aU.xM d' v (aU.mono g.f d' v q2)⟩
  ·obtain⟨v,q1,q2⟩:=I.rep i d e1;refine⟨v,q1,?_⟩;rw[if_neg h1];refine bG.mono ((dU I.g.s).trans g.f) d v _ (fun a ha=>?_) q2;obtain⟨o,e,_⟩:=I.ex i a ha;rw[e,g.h a o e]
 ex:=fun i=>by
  by_cases h:i∈is
  ·rw[if_pos h];exact fun a ha=>absurd ha aB
  ·rw[if_neg h];exact(I.ex i).mono g.h
 nd:=fun i=>by
  by_cases h:i∈is
  ·rw[if_pos h];exact gU
  ·rw[if_neg h];exact I.nd i
 nf:=fun i a ha=>by
  by_cases h:i∈is
  ·rw[if_pos h]at ha;exact absurd ha aB
  ·rw[if_neg h]at ha;refine I.Sk g ha fun z=>?_;obtain⟨j,hj,hb⟩:=fO.mp z;have:=I.dis i j a ha hb;subst this;exact h hj
 nh:=fun i a ha=>by
  by_cases h:i∈is
  ·rw[if_pos h]at ha;exact absurd ha aB
  ·rw[if_neg h]at ha;exact I.nh i a ha
 dis:=fun i j a ha hb=>by
  by_cases h:i∈is
  ·rw[if_pos h]at ha;exact absurd ha aB
  ·by_cases h':j∈is
   ·rw[if_pos h']at hb;exact absurd hb aB
   ·rw[if_neg h]at ha;rw[if_neg h']at hb;exact I.dis i j a ha hb
theorem bh.told(I:bh K F0 H0 L O F H fp)(g:bT (adopt F H (ownAt fp is)) H F' H')(fr:gv f H F')(r:bG K H' F' d v f) :
  ∃F1 fp1,bh K F0 H0 (iP is (aQ d) L) O F1 H' fp1/\jR K H0 F1 H' fp1 d v f/\(aQ d=true->fp1=fp)/\∀i,i∉is->fp1 i=fp i:=by
 have nn:∀i a,a∈f->a∉fp i:=fun i a ha hb=>by
  obtain⟨o,e,_⟩:=I.ex i a hb;rw[fr.nh a ha]at e;cases e
 cases ho:aQ d with
 |true=>
  refine⟨_,fp,I.back g,⟨bG.less (kr g.s ((I.lists is).mono g.h)) d v f ho r,fr.nd,fun a ha=>?_,fun a ha=>aZ.none I.g.h (fr.nh a ha),nn⟩,fun _=>rfl,fun _ _=>rfl⟩;exact aZ.none (j8 _ _) (fr.nf a ha)
 |false=>
  refine⟨_,_,I.Wl g,⟨r,fr.nd,fr.nf,fun a ha=>aZ.none I.g.h (fr.nh a ha),fun i a ha hb=>?_⟩,(fun z=>nomatch z),fun i hi=>if_neg hi⟩;by_cases h:i∈is
  ·rw[if_pos h]at hb;exact absurd hb aB
  ·rw[if_neg h]at hb;exact nn i a ha hb
theorem bh.set(I:bh K F0 H0 L O F H fp)(V:jR K H0 F H fp d v f)(k:Nat):bh K F0 H0 (L.set k (some d)) (O.set k (some v)) F H (fun i=>if i=k then f else fp i) where
 g:=I.g
 len:=by simp[I.len]
 rep:=fun i d' e=>by
  by_cases h:i=k
  ·subst h;rw[if_pos rfl];rw[d7]at e;by_cases hi:i<L.length
   ·simp[hi]at e;subst e;exact⟨v,by rw[d7];simp[<-I.len,hi],V.r⟩
   ·simp[hi]at e
  ·rw[if_neg h];rw[cE (cT h)]at e;obtain⟨w,h1,h2⟩:=I.rep i d' e;exact⟨w,by rw[cE (cT h)];exact h1,h2⟩
 ex:=fun i=>by
  by_cases h:i=k
  ·rw[if_pos h];exact bG.ex d v f V.r
  ·rw[if_neg h];exact I.ex i
 nd:=fun i=>by
  by_cases h:i=k
  ·rw[if_pos h];exact V.nd
  ·rw[if_neg h];exact I.nd i
 nf:=fun i a ha=>by
  by_cases h:i=k
  ·rw[if_pos h]at ha;exact V.nf a ha
  ·rw[if_neg h]at ha;exact I.nf i a ha
 nh:=fun i a ha=>by
  by_cases h:i=k
  ·rw[if_pos h]at ha;exact V.nh a ha
  ·rw[if_neg h]at ha;exact I.nh i a ha
 dis:=fun i j a ha hb=>by
  by_cases h:i=k
  ·rw[if_pos h]at ha;by_cases h':j=k
   ·rw[h,h']
   ·rw[if_neg h']at hb;exact absurd hb (V.dis j a ha)
  ·rw[if_neg h]at ha;by_cases h':j=k
   ·rw[if_pos h']at hb;exact absurd ha (V.dis i a hb)
   ·rw[if_neg h']at hb;exact I.dis i j a ha hb
theorem bh.put{k:Nat}{a:Addr}{o:HO}(I:bh K F0 H0 L O F H fp)(ha:a∈fp k)(hv:O[k]?=some (some v))(hr:bG K (upd H a o) F d v f)(nd:f.Nodup)(nf:∀b∈f,F b=none)(nh:∀b∈f,H0 b=none)(dis:∀i,i≠k->∀b∈f,b∉fp i) :
  bh K F0 H0 (L.set k (some d)) O F (upd H a o) (fun i=>if i=k then f else fp i):=by
 have hF:=I.nf k a ha;have hH0:=I.nh k a ha;have hne:∀i,i≠k->∀b∈fp i,b≠a:=fun i hi b hb z=>by
  subst z;exact hi (I.dis i k b hb ha)
 refine⟨⟨fun b u q=>by rw[aO (cQ q hH0)];exact I.g.h b u q,I.g.f,fun b u q=>by rw[aO (cQ q hF)];exact I.g.s b u q,I.g.n⟩,by simp[I.len],fun i d' e=>?_,fun i=>?_,fun i=>?_,fun i b hb=>?_,fun i b hb=>?_,fun i j b hb hc=>?_⟩
 ·by_cases h:i=k
  ·subst h;rw[if_pos rfl];rw[d7]at e;by_cases hi:i<L.length
   ·simp[hi]at e;subst e;exact⟨v,hv,hr⟩
   ·simp[hi]at e
  ·rw[if_neg h];rw[cE (cT h)]at e;obtain⟨w,h1,h2⟩:=I.rep i d' e;exact⟨w,h1,bG.mono (aZ.refl _) d' w _ (fun b hb=>aO (hne i h b hb)) h2⟩
 ·by_cases h:i=k
  ·rw[if_pos h];exact bG.ex d v f hr
  ·rw[if_neg h];intro b hb;obtain⟨u,e,q⟩:=I.ex i b hb;exact⟨u,by rw[aO (hne i h b hb)];exact e,q⟩
 ·by_cases h:i=k
  ·rw[if_pos h];exact nd
  ·rw[if_neg h];exact I.nd i
 ·by_cases h:i=k
  ·rw[if_pos h]at hb;exact nf b hb
  ·rw[if_neg h]at hb;exact I.nf i b hb
 ·by_cases h:i=k
  ·rw[if_pos h]at hb;exact nh b hb
  ·rw[if_neg h]at hb;exact I.nh i b hb
 ·by_cases h:i=k
  ·rw[if_pos h]at hb;by_cases h':j=k
   ·rw[h,h']
   ·rw[if_neg h']at hc;exact absurd hc (dis j h' b hb)
  ·rw[if_neg h]at hb;by_cases h':j=k
   ·rw[if_pos h']at hc;exact absurd hb (dis i h b hc)
   ·rw[if_neg h']at hc;exact I.dis i j b hb hc
theorem bh.rebase(I:bh K F0 H0 L O F H fp):bh K F H0 L O F H fp:=⟨⟨I.g.h,aZ.refl _,I.g.s,fun b o h h'=>by rw[h]at h';cases h'⟩,I.len,I.rep,I.ex,I.nd,I.nf,I.nh,I.dis⟩
theorem bh.Gb(g0:bT F0 H0 F1 H1)(I:bh K F1 H0 L O F H fp):bh K F0 H0 L O F H fp:=⟨⟨I.g.h,g0.f.trans I.g.f,I.g.s,fun b o h h'=>by
 cases q:F1 b with
 |none=>exact I.g.n b o h q
 |some u=>exact g0.n b u q h'⟩,I.len,I.rep,I.ex,I.nd,I.nf,I.nh,I.dis⟩
end
def cU[Ex](K:PySem.W.Frag)(F0 H0:Hp)(fl:Fl)(X:Ends):Prop:=match fl with
|.nx L=>∀O F H fp,bh K F0 H0 L O F H fp->X.nx O H
|.bk L=>∀O F H fp,bh K F0 H0 L O F H fp->X.bk O H
|.ct L=>∀O F H fp,bh K F0 H0 L O F H fp->X.ct O H
|.rt d=>∀v F H f,bT F0 H0 F H->gv f H0 F->bG K H F d v f->X.rt v H
|.ex x=>i_ K F0 H0 x
|.bad=>False
variable{xs:List D}
variable{o:Bool}
variable{e:CE}
variable{f0:List Addr}
section
variable{K:PySem.W.Frag}{Zz:List PG}{Y:List G}{F0 H0 F H:Hp}{L:bz}{O:L2.St}{fp:Nat->List Addr}{X:Ends}
theorem Iw(g0:bT F0 H0 F1 H1)(g:bT F1 H0 F H):bT F0 H0 F H:=⟨g.h,g0.f.trans g.f,g.s,fun b o h h'=>by
 cases q:F1 b with
 |none=>exact g.n b o h q
 |some u=>exact g0.n b u q h'⟩
theorem cU.rebase[Ex]{fl:Fl}(g0:bT F0 H0 F1 H1)(h:cU K F0 H0 fl X):cU K F1 H0 fl X:=by
 cases fl with
 |nx L=>exact fun O F H fp I=>h O F H fp (I.Gb g0)
 |bk L=>exact fun O F H fp I=>h O F H fp (I.Gb g0)
 |ct L=>exact fun O F H fp I=>h O F H fp (I.Gb g0)
 |rt d=>exact fun v F H f g fr r=>h v F H f (Iw g0 g) fr r
 |ex x=>
  cases x with
  |exc C ks xs=>exact fun F' H' d vs g=>h F' H' d vs (Iw g0 g)
  |_=>exact h
 |bad=>exact h
theorem Gc[Ex]{r:R α}{f:α->Fl}(h:cU K F0 H0 (r.aY f) X)(n:r.br):∃a,r=.ok a/\cU K F0 H0 (f a) X:=by
 cases r with
 |ok a=>exact⟨a,rfl,h⟩
 |ex x=>exact absurd rfl (n x)
 |bad=>exact h.elim
theorem mD[Ex]{r:R α}{f:α->Fl}(h:cU K F0 H0 (r.aY f) X):(∃x,r=.ex x/\i_ K F0 H0 x)\/∃a,r=.ok a/\cU K F0 H0 (f a) X:=by
 cases r with
 |ok a=>exact .inr ⟨a,rfl,h⟩
 |ex x=>exact .inl ⟨x,rfl,h⟩
 |bad=>exact h.elim
theorem Iz[Ex]{r:R α}{f:α->Fl}(h:cU K F0 H0 (r.mU b f) X):(b=true/\∃x,r=.ex x/\i_ K F0 H0 x)\/∃a,r=.ok a/\cU K F0 H0 (f a) X:=by
 cases r with
 |ok a=>exact .inr ⟨a,rfl,h⟩
 |ex x=>
  cases b with
  |true=>exact .inl ⟨rfl,x,rfl,h⟩
  |false=>exact h.elim
 |bad=>exact h.elim
theorem y_[Ex]{r:R α}{f:α->Fl}(h:cU K F0 H0 (r.mU false f) X):∃a,r=.ok a/\cU K F0 H0 (f a) X:=by
 rcases Iz h with⟨z,_⟩|z
 ·cases z
 ·exact z
mutual
theorem Gd:∀(g:CG) (d:D) (O:bz),(pG g d O).br
|.name i,d,O=>br.ok
|.tup gs,d,O=>by
 cases d<;>first|exact br.bad|skip
 exact br.bA (IA gs _ O)
|.sub _ _,d,O=>br.bad
theorem IA:∀(g:j7) (ds:List D) (O:bz),(wY g ds O).br
|.nil,ds,O=>by cases ds<;>first|exact br.ok|exact br.bad
|.cons g r,ds,O=>by
 cases ds with
 |nil=>exact br.bad
 |cons d dr=>exact br.bind (Gd g d O) fun ZC=>IA r dr ZC
end
theorem L4(F H:Hp):adopt F H []=F:=by funext b;exact iO aB
theorem bh.grow(I:bh K F0 H0 L O F H fp)(g:bT F H F1 H1):bh K F0 H0 L O F1 H1 fp:=by
 have e:ownAt fp []=[]:=rfl;have q:=I.back (is:=[]) (F':=F1) (H':=H1) (by rw[e,L4];exact g);rw[e,Dr]at q;exact q
theorem jR.YW(r:aU K F d v):jR K H0 F H fp (bC d) v []:=⟨aU.xM d v r,gU,fun _ h=>absurd h aB,fun _ h=>absurd h aB,fun _ _ h=>absurd h aB⟩
mutual
theorem ruG':∀(g:CG) {d:D}{v:V}{L ZI:bz}{O:L2.St}{fp:Nat->List Addr}{Q:L2.St->Hp->Prop},bh K F0 H0 L O F H fp->aU K F d v->pG g (bC d) L=.ok ZI->(∀ZC fp',bh K F0 H0 ZI ZC F H fp'->Q ZC H)->wG K Y E g v O H Q
|.name i,d,v,L,ZI,O,fp,Q,I,r,e,h=>by
 cases e;exact h _ _ (I.set (jR.YW r) i)
|.tup gs,d,v,L,ZI,O,fp,Q,I,r,e,h=>by
 cases d with
 |tup ds=>
  obtain⟨b,vs,rfl,h2,h3,h4⟩:=r;obtain⟨c,e⟩:=iC (show R.bA (decide ((az ds).length=gs.len)) (wY gs (az ds) L)=.ok ZI from e);have c:=of_decide_eq_true c;rw[iA]at c;exact⟨true,vs,(tupS h2).same' I.g.s,rfl,by rw[h4.len];exact c,ruGs' gs I h4 e h⟩
 |_=>cases e
|.sub _ _,d,v,L,ZI,O,fp,Q,I,r,e,h=>by cases e
theorem ruGs':∀(g:j7) {ds:List D}{vs:List V}{L ZI:bz}{O:L2.St}{fp:Nat->List Addr}{Q:L2.St->Hp->Prop},bh K F0 H0 L O F H fp->aD K F ds vs->wY g (az ds) L=.ok ZI->(∀ZC fp',bh K F0 H0 ZI ZC F H fp'->Q ZC H)->Ia K Y E g vs O H Q
|.nil,ds,vs,L,ZI,O,fp,Q,I,r,e,h=>by
 cases ds with
 |nil=>cases r;cases e;exact h O fp I
 |cons d dr=>cases e
|.cons g gr,ds,vs,L,ZI,O,fp,Q,I,r,e,h=>by
 cases ds with
 |nil=>cases e
 |cons d dr=>
  obtain⟨v,vr,rfl,r1,r2⟩:=r;obtain⟨ZE,e1,e2⟩:=cz (show((pG g (bC d) L).bind fun ZC=>wY gr (az dr) ZC)=.ok ZI from e);exact ruG' g I r1 e1 fun ZC fp' I'=>ruGs' gr I' r2 e2 h
end
mutual
theorem Wm:∀(g:CG) {d:D}{v:V}{L ZI:bz}{O:L2.St}{fp:Nat->List Addr}{f:List Addr}{Q:L2.St->Hp->Prop},bh K F0 H0 L O F H fp->jR K H0 F H fp d v f->pG g d L=.ok ZI->
 (∀ZC fp',bh K F0 H0 ZI ZC F H fp'->(∀i a,a∈fp' i->a∈f\/a∈fp i)->Q ZC H)->wG K Y E g v O H Q
|.name i,d,v,L,ZI,O,fp,f,Q,I,V,e,h=>by
 cases e;refine h _ _ (I.set V i) fun j a ha=>?_;by_cases c:j=i
 ·rw[if_pos c]at ha;exact .inl ha
 ·rw[if_neg c]at ha;exact .inr ha
|.tup gs,d,v,L,ZI,O,fp,f,Q,I,V,e,h=>by
 cases d with
 |tup ds=>
  obtain⟨b,vs,rfl,h2,h3,h4⟩:=V.r;obtain⟨c,e⟩:=iC e;exact⟨true,vs,(tupS h2).same' I.g.s,rfl,by rw[h4.len];exact of_decide_eq_true c,Sm gs I h4 V.nd V.nf V.nh V.dis e h⟩
 |_=>cases e
|.sub _ _,d,v,L,ZI,O,fp,f,Q,I,V,e,h=>by cases e
theorem Sm:∀(g:j7) {ds:List D}{vs:List V}{L ZI:bz}{O:L2.St}{fp:Nat->List Addr}{f:List Addr}{Q:L2.St->Hp->Prop},bh K F0 H0 L O F H fp->aR K H F ds vs f->f.Nodup->(∀a∈f,F a=none)->(∀a∈f,H0 a=none)->
 (∀i a,a∈f->a∉fp i)->wY g ds L=.ok ZI->(∀ZC fp',bh K F0 H0 ZI ZC F H fp'->(∀i a,a∈fp' i->a∈f\/a∈fp i)->Q ZC H)->Ia K Y E g vs O H Q
|.nil,ds,vs,L,ZI,O,fp,f,Q,I,r,nd,nf,nh,dis,e,h=>by
 cases ds with
 |nil=>
  obtain⟨rfl,_⟩:=r;cases e;exact h O fp I fun _ _ z=>.inr z
 |cons d dr=>cases e
|.cons g gr,ds,vs,L,ZI,O,fp,f,Q,I,r,nd,nf,nh,dis,e,h=>by
 cases ds with
 |nil=>cases e
 |cons d dr=>
  obtain⟨v,vr,f1,f2,rfl,rfl,r1,r2⟩:=r;obtain⟨ZE,e1,e2⟩:=cz e;obtain⟨n1,n2,n3⟩:=bx.mp nd;refine Wm g I ⟨r1,n1,fun a ha=>nf a (aL _ ha),fun a ha=>nh a (aL _ ha),fun i a ha=>dis i a (aL _ ha)⟩ e1 fun ZC fp' I' sub=>?_;refine Sm gr I' r2 n2 (fun a ha=>nf a (ay _ ha)) (fun a ha=>nh a (ay _ ha)) (fun i a ha z=>?_) e2 fun ZG fp3 I3 sub3=>h ZG fp3 I3 fun i a ha=>?_
  ·rcases sub i a z with q|q
   ·exact n3 a q a ha rfl
   ·exact dis i a (ay _ ha) q
  ·rcases sub3 i a ha with q|q
   ·exact .inl (ay _ q)
   ·rcases sub i a q with q|q
    ·exact .inl (aL _ q)
    ·exact .inr q
end
theorem Cv[Ex](ZA:cR K Zz Y)(I:bh K F0 H0 L O F H fp)(lt:dD e=true)(he:pE Zz e L=.ok d)
  (h:∀v F1 H1 fp1 f,bh K F0 H0 (iP (cO e) (aQ d) L) O F1 H1 fp1->jR K H0 F1 H1 fp1 d v f->Q v H1):wE K Y Ex.E e O H Q:=by
 refine fN ZA e (I.env (cO e)) (eT I.g.s) lt ?_;rw[he];intro F' H' v f g fr r;obtain⟨F1,fp1,I1,V1,_,_⟩:=I.told g fr r;exact h v F1 H' fp1 f I1 V1
theorem runD'[Ex](ZA:cR K Zz Y)(I:bh K F0 H0 L O F H fp)(lt:dD e=true)(he:pE Zz e L=.ok d)
  (h:∀v F1 H1,bh K F0 H0 L O F1 H1 fp->aZ H H1->(aQ d=true->∃f,jR K H0 F1 H1 fp d v f)->Q v H1):wE K Y Ex.E e O H Q:=by
 refine fN ZA e (I.env (cO e)) (eT I.g.s) lt ?_;rw[he];intro F' H' v f g fr r;refine h v _ H' (I.back g) g.h fun ho=>?_;refine⟨f,bG.less (kr g.s ((I.lists _).mono g.h)) d v f ho r,fr.nd,fun a ha=>aZ.none (j8 _ _) (fr.nf a ha),fun a ha=>aZ.none I.g.h (fr.nh a ha),fun i a ha hb=>?_⟩;obtain⟨o,e,_⟩:=I.ex i a hb;rw[fr.nh a ha]at e;cases e
theorem jR.back(I:bh K F0 H0 L O F H fp)(V:jR K H0 F H fp d v f)(g:bT (adopt F H (ownAt fp is)) H F' H'):jR K H0 (minus F' (ownAt fp is)) H' fp d v f:=by
 have hn:∀a∈f,a∉ownAt fp is:=fun a ha z=>by
  obtain⟨i,_,hb⟩:=fO.mp z;exact V.dis i a ha hb
 have hx:=bG.ex d v f V.r;refine⟨bG.mono ?_ d v f (fun a ha=>?_) V.r,V.nd,fun a ha=>?_,V.nh,V.dis⟩
 ·intro b o h;have hb:b∉ownAt fp is:=fun z=>by
   obtain⟨i,_,hb⟩:=fO.mp z;have:=I.nf i b hb;rw[h]at this;cases this
  rw[fi hb];exact g.f b o (dU I.g.s b o h)
 ·obtain⟨o,e,_⟩:=hx a ha;rw[e,g.h a o e]
 ·rw[fi (hn a ha)];obtain⟨o,e,k⟩:=hx a ha;cases q:F' a with
  |none=>rfl
  |some u=>exact((g.n a u q (by rw[iO (hn a ha)];exact V.nf a ha)).own e k).elim
structure mP (K:PySem.W.Frag) (H0 F H:Hp) (fp:Nat->List Addr) (ds:List D) (vs:List V) (f:List Addr):Prop where
 r:aR K H F ds vs f
 nd:f.Nodup
 nf:∀a∈f,F a=none
 nh:∀a∈f,H0 a=none
 dis:∀i a,a∈f->a∉fp i
theorem mP.back(I:bh K F0 H0 L O F H fp){d:List D}{v:List V}(V:mP K H0 F H fp d v f)(g:bT (adopt F H (ownAt fp is)) H F' H'):mP K H0 (minus F' (ownAt fp is)) H' fp d v f:=by
 have hn:∀a∈f,a∉ownAt fp is:=fun a ha z=>by
  obtain⟨i,_,hb⟩:=fO.mp z;exact V.dis i a ha hb
 have hx:=aR.ex d v f V.r;refine⟨aR.mono ?_ d v f (fun a ha=>?_) V.r,V.nd,fun a ha=>?_,V.nh,V.dis⟩
 ·intro b o h;have hb:b∉ownAt fp is:=fun z=>by
   obtain⟨i,_,hb⟩:=fO.mp z;have:=I.nf i b hb;rw[h]at this;cases this
  rw[fi hb];exact g.f b o (dU I.g.s b o h)
 ·obtain⟨o,e,_⟩:=hx a ha;rw[e,g.h a o e]
 ·rw[fi (hn a ha)];obtain⟨o,e,k⟩:=hx a ha;cases q:F' a with
  |none=>rfl
  |some u=>exact((g.n a u q (by rw[iO (hn a ha)];exact V.nf a ha)).own e k).elim
theorem mP.snoc{f':List Addr}(V:mP K H0 F H fp ds vs f)(W:jR K H0 F H fp d v f')(hd:∀a∈f,a∉f'):mP K H0 F H fp (ds++[d]) (vs++[v]) (f++f'):=by
 refine⟨V.r.app ⟨v,[],f',[],rfl,by simp,W.r,rfl,rfl⟩,bx.mpr ⟨V.nd,W.nd,fun a ha b hb z=>hd a ha (by rw[z];exact hb)⟩,fun a ha=>?_,fun a ha=>?_,fun i a ha=>?_⟩
 ·rcases aT.mp ha with q|q
  ·exact V.nf a q
  ·exact W.nf a q
 ·rcases aT.mp ha with q|q
  ·exact V.nh a q
  ·exact W.nh a q
 ·rcases aT.mp ha with q|q
  ·exact V.dis i a q
  ·exact W.dis i a q
theorem runN[Ex](ZA:cR K Zz Y)(I:bh K F0 H0 L O F H fp)(V0:mP K H0 F H fp ds vs f0)(lt:dD e=true)(he:pE Zz e L=.ok d)(ho:aQ d=true)
  (h:∀v F1 H1 f,bh K F0 H0 L O F1 H1 fp->mP K H0 F1 H1 fp (ds++[d]) (vs++[v]) f->Q v H1):wE K Y Ex.E e O H Q:=by
 refine fN ZA e (I.env (cO e)) (eT I.g.s) lt ?_;rw[he];intro F' H' v f g fr r;refine h v _ H' _ (I.back g) ((V0.back I g).snoc (f':=f) ⟨bG.less (kr g.s ((I.lists _).mono g.h)) d v f ho r,fr.nd,fun a ha=>aZ.none (j8 _ _) (fr.nf a ha),fun a ha=>aZ.none I.g.h (fr.nh a ha),fun i a ha hb=>?_⟩ fun a ha hb=>?_)
 ·obtain⟨o,e,_⟩:=I.ex i a hb;rw[fr.nh a ha]at e;cases e
 ·obtain⟨o,e,_⟩:=aR.ex ds vs f0 V0.r a ha;rw[fr.nh a hb]at e;cases e
theorem bh.XG(I:bh K F0 H0 L O F H fp)(k:Nat):bh K F0 H0 (L.set k none) O F H (fun i=>if i=k then[]else fp i):=by
 have sub:∀i a,a∈(if i=k then[]else fp i)->a∈fp i:=fun i a ha=>by
  by_cases c:i=k
  ·rw[if_pos c]at ha;cases ha
  ·rw[if_neg c]at ha;exact ha
 refine⟨I.g,by simp[I.len],fun i d e=>?_,fun i a ha=>I.ex i a (sub i a ha),fun i=>?_,fun i a ha=>I.nf i a (sub i a ha),fun i a ha=>I.nh i a (sub i a ha),fun i j a ha hb=>I.dis i j a (sub i a ha) (sub j a hb)⟩
 ·by_cases c:i=k
  ·subst c;rw[d7]at e;by_cases hi:i<L.length
   ·simp[hi]at e
   ·simp[hi]at e
  ·rw[cE (cT c)]at e;rw[if_neg c];exact I.rep i d e
 ·by_cases c:i=k
  ·rw[if_pos c];exact gU
  ·rw[if_neg c];exact I.nd i
theorem YX[Ex](ZA:cR K Zz Y){d0:D}{v0:V}(I:bh K F0 H0 L O F H fp)(V0:jR K H0 F H fp d0 v0 f0)(lt:dD e=true)(he:pE Zz e L=.ok d)
  (h:∀v F1 H1,bh K F0 H0 L O F1 H1 fp->jR K H0 F1 H1 fp d0 v0 f0->(∀{x:D},d=x->aQ x=true->aU K H1 x v)->Q v H1):wE K Y Ex.E e O H Q:=by
 refine fN ZA e (I.env (cO e)) (eT I.g.s) lt ?_;rw[he];intro F' H' v f g fr r;refine h v _ H' (I.back g) (V0.back I g) fun z ho=>?_;subst z;obtain⟨F2,g2,s2,rf⟩:=O2 g fr r;exact aU.mono g2.s d v rf
theorem Wn[Ex](ZA:cR K Zz Y){Q:Bool->Hp->Prop}(I:bh K F0 H0 L O F H fp)(lt:dD e=true)(he:pT Zz e L=.ok b)
  (h:∀F1 H1,bh K F0 H0 L O F1 H1 fp->Q b H1):wT K Y Ex.E e O H Q:=by
 refine wZ ZA e (I.env (cO e)) (eT I.g.s) lt ?_;rw[he];exact fun F' H' g=>h _ H' (I.back g)
theorem bh.own(I:bh K F0 H0 L O F H fp)(is:List Nat):bT F0 H0 (adopt F H (ownAt fp is)) H:=qZ I.g fun a ha=>by
 obtain⟨i,_,hi⟩:=fO.mp ha;exact I.nh i a hi
theorem Aq[Ex](ZA:cR K Zz Y)(I:bh K F0 H0 L O F H fp)(lt:dD e=true)(he:pE Zz e L=.ex x)(h:i_ K F0 H0 x):wE K Y Ex.E e O H Q:=by
 refine fN ZA e (I.env (cO e)) (eT I.g.s) lt ?_;rw[he];exact i_.grow (K:=K) (x:=x) h (I.own (cO e))
theorem XH[Ex](ZA:cR K Zz Y){Q:Bool->Hp->Prop}(I:bh K F0 H0 L O F H fp)(lt:dD e=true)(he:pT Zz e L=.ex x)(h:i_ K F0 H0 x):wT K Y Ex.E e O H Q:=by
 refine wZ ZA e (I.env (cO e)) (eT I.g.s) lt ?_;rw[he];exact i_.grow (K:=K) (x:=x) h (I.own (cO e))
theorem XI[Ex](ZA:cR K Zz Y){c:CI}(I:bh K F0 H0 L O F H fp)(lt:ltI c=true)(he:pI Zz c L=.ex x)(h:i_ K F0 H0 x):wI K Y Ex.E c O H k:=by
 refine Wk ZA c (ownAt fp (u9 c)) (I.env (u9 c)) (eT I.g.s) (I.lists _) lt ?_;rw[he];exact i_.grow (K:=K) (x:=x) h (I.own (u9 c))
theorem XJ[Ex](ZA:cR K Zz Y){c:j6}{Q:List V->Hp->Prop}(I:bh K F0 H0 L O F H fp)(lt:jE c=true)(he:eS Zz c L=.ex x)(h:i_ K F0 H0 x):wEs K Y Ex.E c O H Q:=by
 refine nM ZA c (I.env (nL c)) (eT I.g.s) lt ?_;rw[he];exact i_.grow (K:=K) (x:=x) h (I.own (nL c))
theorem IB{O:bz}{k:Nat}(h:(o||!is.contains k)=true):(iP is o O)[k]?=O[k]?:=by
 cases o with
 |true=>rfl
 |false=>
  have hk:k∉is:=by simpa using h
  show(mO is O)[k]?=_;clear h;induction is generalizing O with
  |nil=>rfl
  |cons i is ih=>
   rw[mO,ih (fun z=>hk (ai _ z)),Ao,if_neg (fun z=>hk (by rw[z];exact ao))]
theorem bh.lst{k:Nat}{xs:List D}(I:bh K F0 H0 L O F H fp)(e:L[k]?=some (some (.lst true xs))):∃a vs fs,O[k]?=some (some (.ref a))/\H a=some (.lst vs)/\vs.length<=aa/\aR K H F xs vs fs/\fp k=a::fs:=by
 obtain⟨v,h1,h2⟩:=I.rep k _ e;unfold bG at h2;rw[if_pos rfl]at h2;obtain⟨a,vs,fs,rfl,q⟩:=h2;exact⟨a,vs,fs,h1,q⟩
theorem bh.bZ{k:Nat}(I:bh K F0 H0 L O F H fp)(e:L[k]?=some (some (.bZ true ks xs))):∃a kvs fs,O[k]?=some (some (.ref a))/\H a=some (.dK kvs)/\kvs.length<=aa/\(kvs.map (·.1)=ks/\keysOk ks=true)/\aR K H F xs (kvs.map (·.2)) fs/\fp k=a::fs:=by
 obtain⟨v,h1,h2⟩:=I.rep k _ e;unfold bG at h2;rw[if_pos rfl]at h2;obtain⟨a,vs,fs,rfl,q⟩:=h2;exact⟨a,vs,fs,h1,q⟩
theorem bh.pin{k:Nat}{a:Addr}{fs:List Addr}(I:bh K F0 H0 L O F H fp)(q:L[k]?=some (some (.bZ true ks xs)))(s1:O[k]?=some (some (.ref a)))(s2:H a=some (.dK kvs))(s3:kvs.length<=aa)(s4:kvs.map (·.1)=ks/\keysOk ks=true)(s5:aR K H F xs (kvs.map (·.2)) fs)(s6:fp k=a::fs)(ob:Obj) :
  ∃F1 fp1,bh K F0 H0 (L.set k (some (.pdc ks (az xs)))) O F1 (upd H a (.bC ob (.dK kvs))) fp1/\F1 a=some (.bC ob (.dK kvs)):=by
 have hak:a∈fp k:=by rw[s6];exact ao
 have hF:=I.nf k a hak;have hH0:=I.nh k a hak;have nda:a∉fs/\fs.Nodup:=by have:=I.nd k;rw[s6]at this;exact bX.mp this
 have hn:∀b∈fs,b≠a:=fun b hb z=>nda.1 (by rw[<-z];exact hb);have eF:∀b∈fs,upd (adopt F H fs) a (.bC ob (.dK kvs)) b=H b:=fun b hb=>by rw[aO (hn b hb),kj hb]
 have sF:aZ F (upd (adopt F H fs) a (.bC ob (.dK kvs))):=fun b o h=>by
  rw[aO (cQ h hF)];exact dU I.g.s b o h
 have rf:aD K (upd (adopt F H fs) a (.bC ob (.dK kvs))) xs (kvs.map (·.2)):=aR.fix sF xs _ fs eF s5;have hne:∀i,i≠k->∀b∈fp i,b≠a/\b∉fs:=fun i hi b hb=>⟨fun z=>by subst z;exact hi (I.dis i k b hb hak),fun z=>hi (I.dis i k b hb (by rw[s6];exact ai _ z))⟩;refine⟨upd (adopt F H fs) a (.bC ob (.dK kvs)),fun i=>if i=k then[]else fp i,⟨⟨fun b o h=>?_,I.g.f.trans sF,fun b o h=>?_,fun b o h h'=>?_⟩,by simp[I.len],fun i d e=>?_,fun i=>?_,fun i=>?_,fun i b hb=>?_,fun i b hb=>?_,fun i j b hb hc=>?_⟩,bD⟩
 ·rw[aO (cQ h hH0)];exact I.g.h b o h
 ·by_cases e:b=a
  ·subst e;rw[bD]at h ⊢;exact h
  ·rw[aO e]at h ⊢;exact eT I.g.s b o h
 ·by_cases e:b=a
  ·subst e;exact .of hH0
  ·rw[aO e]at h;by_cases z:b∈fs
   ·exact .of (I.nh k b (by rw[s6];exact ai _ z))
   ·rw[iO z]at h;exact I.g.n b o h h'
 ·by_cases hi:i=k
  ·subst hi;rw[if_pos rfl];rw[d7]at e;by_cases hl:i<L.length
   ·simp[hl]at e;subst e;exact⟨_,s1,⟨a,kvs,rfl,⟨ob,bD⟩,s3,s4,(aD.az xs _).mpr rf⟩,rfl⟩
   ·simp[hl]at e
  ·rw[if_neg hi];rw[cE (cT hi)]at e;obtain⟨w,h1,h2⟩:=I.rep i d e;exact⟨w,h1,bG.mono sF d w _ (fun b hb=>aO (hne i hi b hb).1) h2⟩
 ·by_cases hi:i=k
  ·rw[if_pos hi];exact fun b hb=>absurd hb aB
  ·rw[if_neg hi];intro b hb;obtain⟨u,e,z⟩:=I.ex i b hb;exact⟨u,by rw[aO (hne i hi b hb).1];exact e,z⟩
 ·by_cases hi:i=k
  ·rw[if_pos hi];exact gU
  ·rw[if_neg hi];exact I.nd i
 ·by_cases hi:i=k
  ·rw[if_pos hi]at hb;exact absurd hb aB
  ·rw[if_neg hi]at hb;rw[aO (hne i hi b hb).1,iO (hne i hi b hb).2];exact I.nf i b hb
 ·by_cases hi:i=k
  ·rw[if_pos hi]at hb;exact absurd hb aB
  ·rw[if_neg hi]at hb;exact I.nh i b hb
 ·by_cases hi:i=k
  ·rw[if_pos hi]at hb;exact absurd hb aB
  ·by_cases hj:j=k
   ·rw[if_pos hj]at hc;exact absurd hc aB
   ·rw[if_neg hi]at hb;rw[if_neg hj]at hc;exact I.dis i j b hb hc
theorem slot_of{i:Nat}{k:V->Prop}(h:O[i]?=some (some v))(q:k v):kc O i k:=by
 unfold kc;rw[h];exact q
theorem aR.split:∀{ds:List D}{vs:List V}{fs:List Addr} (n:Nat),aR K H F ds vs fs->∃f1 f2,fs=f1++f2/\aR K H F (ds.take n) (vs.take n) f1/\aR K H F (ds.drop n) (vs.drop n) f2
|_,_,_,0,h=>⟨[],_,rfl,⟨rfl,rfl⟩,h⟩
|[],_,_,n+1,h=>by
 obtain⟨rfl,rfl⟩:=h;exact⟨[],[],rfl,⟨rfl,rfl⟩,⟨rfl,rfl⟩⟩
|d::ds,_,_,n+1,h=>by
 obtain⟨w,r,f1,f2,rfl,rfl,h3,h4⟩:=h;obtain⟨g1,g2,rfl,q1,q2⟩:=aR.split n h4;exact⟨f1++g1,g2,by simp,⟨w,_,f1,g1,rfl,rfl,h3,q1⟩,q2⟩
theorem bh.Sn{k:Nat}{xs':List D}{a:Addr}{kvs':List (Key×V)}{fs fs':List Addr}(I:bh K F0 H0 L O F H fp)(V:jR K H0 F H fp d v f)(ZQ:O[k]?=some (some (.ref a)))(hk:fp k=a::fs)(hl:kvs'.length<=aa)(hks:kvs'.map (·.1)=ks/\keysOk ks=true)
  (hr:∀{H':Hp},(∀b∈fs,H' b=H b)->(∀b∈f,H' b=H b)->aR K H' F xs' (kvs'.map (·.2)) fs') (nd:fs'.Nodup) (sub:∀b∈fs',b∈fs\/b∈f) :
  ∃fp',bh K F0 H0 (L.set k (some (.bZ true ks xs'))) O F (upd H a (.dK kvs')) fp':=by
 have hak:a∈fp k:=by rw[hk];exact ao
 have nda:a∉fs/\fs.Nodup:=by have:=I.nd k;rw[hk]at this;exact bX.mp this
 have haf:a∉f:=fun z=>V.dis k a z hak;have hs:∀b∈fs',b∈fp k\/b∈f:=fun b hb=>by
  rcases sub b hb with z|z
  ·exact .inl (by rw[hk];exact ai _ z)
  ·exact .inr z
 refine⟨_,I.put hak ZQ (d:=.bZ true ks xs') (f:=a::fs') ?_ ?_ ?_ ?_ ?_⟩
 ·unfold bG;rw[if_pos rfl];refine⟨a,kvs',fs',rfl,bD,hl,hks,hr (fun b hb=>aO (fun z=>nda.1 (by rw[<-z];exact hb))) (fun b hb=>aO (fun z=>haf (by rw[<-z];exact hb))),rfl⟩
 ·refine bX.mpr ⟨fun z=>?_,nd⟩;rcases sub a z with z|z
  ·exact nda.1 z
  ·exact haf z
 ·intro b hb;rcases aC.mp hb with rfl|hb
  ·exact I.nf k b hak
  ·rcases hs b hb with z|z
   ·exact I.nf k b z
   ·exact V.nf b z
 ·intro b hb;rcases aC.mp hb with rfl|hb
  ·exact I.nh k b hak
  ·rcases hs b hb with z|z
   ·exact I.nh k b z
   ·exact V.nh b z
 ·intro i hi b hb hc;rcases aC.mp hb with rfl|hb
  ·exact hi (I.dis i k b hc hak)
  ·rcases hs b hb with z|z
   ·exact hi (I.dis i k b hc z)
   ·exact V.dis i b z hc
theorem bh.L5{k:Nat}{xs xs':List D}{a:Addr}{vs vs':List V}{fs fs' f:List Addr}{d:D}{v:V}(I:bh K F0 H0 L O F H fp)(V:jR K H0 F H fp d v f)(ZQ:O[k]?=some (some (.ref a)))(hk:fp k=a::fs)(hl:vs'.length<=aa)
  (hr:∀{H':Hp},(∀b∈fs,H' b=H b)->(∀b∈f,H' b=H b)->aR K H' F xs' vs' fs') (nd:fs'.Nodup) (sub:∀b∈fs',b∈fs\/b∈f) :
  ∃fp',bh K F0 H0 (L.set k (some (.lst true xs'))) O F (upd H a (.lst vs')) fp':=by
 have hak:a∈fp k:=by rw[hk];exact ao
 have nda:a∉fs/\fs.Nodup:=by have:=I.nd k;rw[hk]at this;exact bX.mp this
 have haf:a∉f:=fun z=>V.dis k a z hak;have hs:∀b∈fs',b∈fp k\/b∈f:=fun b hb=>by
  rcases sub b hb with z|z
  ·exact .inl (by rw[hk];exact ai _ z)
  ·exact .inr z
 refine⟨_,I.put hak ZQ (d:=.lst true xs') (f:=a::fs') ?_ ?_ ?_ ?_ ?_⟩
 ·unfold bG;rw[if_pos rfl];refine⟨a,vs',fs',rfl,bD,hl,hr (fun b hb=>aO (fun z=>nda.1 (by rw[<-z];exact hb))) (fun b hb=>aO (fun z=>haf (by rw[<-z];exact hb))),rfl⟩
 ·refine bX.mpr ⟨fun z=>?_,nd⟩;rcases sub a z with z|z
  ·exact nda.1 z
  ·exact haf z
 ·intro b hb;rcases aC.mp hb with rfl|hb
  ·exact I.nf k b hak
  ·rcases hs b hb with z|z
   ·exact I.nf k b z
   ·exact V.nf b z
 ·intro b hb;rcases aC.mp hb with rfl|hb
  ·exact I.nh k b hak
  ·rcases hs b hb with z|z
   ·exact I.nh k b z
   ·exact V.nh b z
 ·intro i hi b hb hc;rcases aC.mp hb with rfl|hb
  ·exact hi (I.dis i k b hc hak)
  ·rcases hs b hb with z|z
   ·exact hi (I.dis i k b hc z)
   ·exact V.dis i b z hc
end
variable{a:CE}
variable{f3:List Addr}
variable{src:CI}
variable{n:Nat}
section
variable{K:PySem.W.Frag}{Zz:List PG}{Y:List G}{F0 H0 F H:Hp}{L:bz}{O:L2.St}{fp:Nat->List Addr}{X:Ends}
theorem Pa[Ex](ZA:cR K Zz Y):∀(as:j6) {ds acc:List D}{av:List V}{af:List Addr}{L:bz}{F H:Hp}{fp:Nat->List Addr}{Q:List V->Hp->Prop},bh K F0 H0 L O F H fp->mP K H0 F H fp acc av af->jE as=true->qK Zz as L=.ok ds->
 (∀vs F1 H1 ZK fp1 f,bh K F0 H0 ZK O F1 H1 fp1->mP K H0 F1 H1 fp1 (acc++ds) (av++vs) f->Q vs H1)->wEs K Y Ex.E as O H Q
|.nil,ds,acc,av,af,L,F,H,fp,Q,I,V,lt,e,h=>by
 cases e;exact h [] F H L fp af I (by rw[bY,bY];exact V)
|.cons a r,ds,acc,av,af,L,F,H,fp,Q,I,V,lt,e,h=>by
 obtain⟨l1,l2⟩:=band' lt;have e:(match JN a with
  |some i=>match L[i]? with
   |some (some d)=>(qK Zz r (L.set i none)).bind fun ds=>.ok (d::ds)
   |_=>.bad
  |none=>(pE Zz a L).bind fun d=>.bA (aQ d) ((qK Zz r L).bind fun ds=>.ok (d::ds)))=R.ok ds:=e
 cases va:JN a with
 |some i=>
  have ea:a=.var i:=by cases a<;>first|(cases va;rfl)|(cases va)
  subst ea;rw[va]at e;simp only at e;cases q:L[i]? with
  |none=>rw[q]at e;cases e
  |some o=>
   cases o with
   |none=>rw[q]at e;cases e
   |some d=>
    rw[q]at e;obtain⟨ds',e1,e2⟩:=cz (show((qK Zz r (L.set i none)).bind fun ds=>.ok (d::ds))=R.ok ds from e);cases e2;obtain⟨v,h1,h2⟩:=I.rep i d q;have V1:mP K H0 F H (fun j=>if j=i then[]else fp j) (acc++[d]) (av++[v]) (af++fp i):=by
     refine mP.snoc ⟨V.r,V.nd,V.nf,V.nh,fun j a ha=>?_⟩ ⟨h2,I.nd i,I.nf i,I.nh i,fun j a ha=>?_⟩ fun a ha hb=>V.dis i a ha hb
     ·by_cases c:j=i
      ·rw[if_pos c];exact aB
      ·rw[if_neg c];exact V.dis j a ha
     ·by_cases c:j=i
      ·rw[if_pos c];exact aB
      ·rw[if_neg c];exact fun z=>c (I.dis j i a z ha)
    refine slot_of h1 (Pa ZA r (I.XG i) V1 l2 e1 fun vs F1 H1 ZK fp1 f I1 W=>h (v::vs) F1 H1 ZK fp1 f I1 ?_);rw[bQ,bQ]at W;exact W
 |none=>
  rw[va]at e;simp only at e;obtain⟨d,e1,e2⟩:=cz e;obtain⟨ho,e2⟩:=iC e2;obtain⟨ds',e3,e4⟩:=cz e2;cases e4;refine runN ZA I V l1 e1 ho fun v F1 H1 f I1 V1=>?_;refine Pa ZA r I1 V1 l2 e3 fun vs F2 H2 ZE fp2 f2 I2 W=>h (v::vs) F2 H2 ZE fp2 f2 I2 ?_;rw[bQ,bQ]at W;exact W
theorem XM[Ex](ZA:cR K Zz Y)(I:bh K F0 H0 L O F H fp)(lt:dD e=true)(h:cU K F0 H0 ((pM Zz e L).aY .rt) X):wE K Y Ex.E e O H X.rt:=by
 rcases mD h with⟨x,e1,hx⟩|⟨d,e1,h'⟩
 ·have gen:pE Zz e L=.ex x->wE K Y Ex.E e O H X.rt:=fun he=>Aq ZA I lt he hx;cases e with
  |var i=>
   have e1:(match L[i]? with|some (some d)=>R.ok d|_=>.bad)=.ex x:=e1;split at e1<;>cases e1
  |tup as=>
   have e1:(qK Zz as L).alt (fun ds=>.bA (decide (ds.length<=aa)) (.ok (.tup ds))) (pE Zz (.tup as) L)=.ex x:=e1;unfold R.alt at e1;split at e1
   ·exact absurd e1 (br.bA br.ok x)
   ·exact gen e1
  |_=>exact gen e1
 clear h;have gen:pE Zz e L=.ok d->wE K Y Ex.E e O H X.rt:=fun he=>Cv ZA I lt he fun v F1 H1 fp1 f I1 V1=>h' v F1 H1 f I1.g ⟨V1.nd,V1.nh,V1.nf⟩ V1.r;cases e with
 |var i=>
  have e1:(match L[i]? with|some (some d)=>R.ok d|_=>.bad)=.ok d:=e1;cases q:L[i]? with
  |none=>rw[q]at e1;cases e1
  |some o=>
   cases o with
   |none=>rw[q]at e1;cases e1
   |some d'=>
    rw[q]at e1;cases e1;obtain⟨v,h1,h2⟩:=I.rep i d q;exact slot_of h1 (h' v F H (fp i) I.g ⟨I.nd i,I.nh i,I.nf i⟩ h2)
 |tup as=>
  have e1:(qK Zz as L).alt (fun ds=>.bA (decide (ds.length<=aa)) (.ok (.tup ds))) (pE Zz (.tup as) L)=.ok d:=e1;cases e2:qK Zz as L with
  |ok ds=>
   rw[e2]at e1;obtain⟨c3,e4⟩:=iC e1;cases e4;refine Pa ZA as I (acc:=[]) (av:=[]) (af:=[]) ⟨⟨rfl,rfl⟩,gU,fun _ z=>absurd z aB,fun _ z=>absurd z aB,fun _ _ z=>absurd z aB⟩ lt e2 fun vs F1 H1 ZK fp1 f I1 V=>?_;have hr:aR K H1 F1 ds vs f:=V.r;have hl:vs.length<=aa:=by rw[hr.len];exact of_decide_eq_true c3
   refine⟨hl,fun p hp=>?_⟩;have g2:=u_ (o:=.tup vs) I1.g.s hp;have I2:=I1.grow g2;have np:∀a∈f,a≠p:=fun a ha z=>by
    obtain⟨o,e,_⟩:=aR.ex ds vs f hr a ha;rw[z,hp]at e;cases e
   exact h' (.ref p) _ _ f I2.g ⟨V.nd,V.nh,fun a ha=>by rw[aO (np a ha)];exact V.nf a ha⟩ ⟨p,vs,rfl,bD,hl,aR.mono g2.f ds vs f (fun a ha=>aO (np a ha)) hr⟩
  |_=>
   rw[e2]at e1;exact gen e1
 |_=>exact gen e1
theorem Bq{g:List Addr}(nd:(f1++(f2++f3)).Nodup)(g3:∀b∈g,b∈f2\/b∈f)(g2:g.Nodup)(df:∀a∈f,a∉f1++(f2++f3)):(f1++(g++f3)).Nodup:=by
 obtain⟨n1,n23,n4⟩:=bx.mp nd;obtain⟨n2,n3,n5⟩:=bx.mp n23;refine bx.mpr ⟨n1,bx.mpr ⟨g2,n3,fun a ha b hb z=>?_⟩,fun a ha b hb z=>?_⟩
 ·rcases g3 a ha with q|q
  ·exact n5 a q b hb z
  ·exact df a q (by rw[z];exact ay _ (ay _ hb))
 ·rcases aT.mp hb with hb|hb
  ·rcases g3 b hb with q|q
   ·exact n4 a ha b (aL _ q) z
   ·exact df b q (by rw[<-z];exact aL _ ha)
  ·exact n4 a ha b (ay _ hb) z
theorem Ar{g:List Addr}(g3:∀b∈g,b∈f2\/b∈f):∀b∈f1++(g++f3),b∈f1++(f2++f3)\/b∈f:=fun b hb=>by
 rcases aT.mp hb with z|z
 ·exact .inl (aL _ z)
 ·rcases aT.mp z with z|z
  ·rcases g3 b z with q|q
   ·exact .inl (ay _ (aL _ q))
   ·exact .inr q
  ·exact .inl (ay _ (ay _ z))
theorem L6{a:Addr}{g:List Addr}(nd:(a::(f1++(f2++f3))).Nodup)(g3:∀b∈g,b∈f2\/b∈f)(g2:g.Nodup)(df:∀b∈f,b∉a::(f1++(f2++f3))):(a::(f1++(g++f3))).Nodup:=by
 have nd':=bX.mp nd;refine bX.mpr ⟨fun z=>?_,Bq nd'.2 g3 g2 fun b hb z=>df b hb (ai _ z)⟩;rcases Ar g3 a z with q|q
 ·exact nd'.1 q
 ·exact df a q ao
theorem TL{a:Addr}{g:List Addr}(g3:∀b∈g,b∈f2\/b∈f):∀b∈a::(f1++(g++f3)),b∈a::(f1++(f2++f3))\/b∈f:=fun b hb=>by
 rcases aC.mp hb with rfl|hb
 ·exact .inl ao
 ·rcases Ar g3 b hb with q|q
  ·exact .inl (ai _ q)
  ·exact .inr q
def Reach(K:PySem.W.Frag)(H:Hp):V->List Int->V->Prop
|v,[],w=>v=w
|v,i::r,w=>∃a t xs u,v=.ref a/\gi K H a t xs/\cH xs i=some u/\Reach K H u r w
theorem Reach.snoc:∀{is:List Int}{v w:V}{n:Int},Reach K H v (is++[n]) w->∃x,Reach K H v is x/\Reach K H x [n] w
|[],v,w,n,h=>⟨v,rfl,h⟩
|i::r,v,w,n,h=>by
 obtain⟨a,t,xs,u,e1,e2,e3,h⟩:=h;obtain⟨x,q1,q2⟩:=Reach.snoc h;exact⟨x,⟨a,t,xs,u,e1,e2,e3,q1⟩,q2⟩
theorem Pb[Ex](I:bh K F0 H0 L O F H fp):∀(o:CE) {k:Nat}{is:List Int}{v w:V}{Q:VK},uK L o=some (k,is)->O[k]?=some (some v)->Reach K H v is w->Q w H->wE K Y Ex.E o O H Q
|.var j,k,is,v,w,Q,e,hv,hr,q=>by
 cases e;cases hr;exact slot_of hv q
|.ix o i,k,is,v,w,Q,e,hv,hr,q=>by
 have e:((uK L o).bind fun p=>(Cu L i).map fun n=>(p.1,p.2++[n]))=some (k,is):=e;cases e1:uK L o with
 |none=>rw[e1]at e;cases e
 |some p=>
  rw[e1]at e;cases e2:Cu L i with
  |none=>
   have e:((Cu L i).map fun n=>(p.1,p.2++[n]))=some (k,is):=e;rw[e2]at e;cases e
  |some n=>
   have e:((Cu L i).map fun n=>(p.1,p.2++[n]))=some (k,is):=e;rw[e2]at e;cases e;obtain⟨x,q1,a,t,xs,u,rfl,q2,q3,q4⟩:=Reach.snoc hr;cases q4;refine Pb I o e1 hv q1 (show wE K Y Ex.E i O H fun y H2=>H_ K (.ref a) y H2 Q from ?_);have fin:H_ K (.ref a) (.int n) H Q:=.inl ⟨t,xs,n,_,rfl,q2,q3,q⟩;unfold Cu at e2;split at e2
   ·split at e2
    ·rename_i j _ m hj;cases e2;obtain⟨v',h1,h2⟩:=I.rep _ _ hj;obtain⟨rfl,_⟩:=h2;exact slot_of h1 fin
    ·cases e2
   ·cases e2;exact fin
   ·cases e2;exact fin
   ·cases e2
|.con _,k,is,v,w,Q,e,hv,hr,q=>by cases e
|.glo _,k,is,v,w,Q,e,hv,hr,q=>by cases e
|.bin _ _ _,k,is,v,w,Q,e,hv,hr,q=>by cases e
|.neg _,k,is,v,w,Q,e,hv,hr,q=>by cases e
|.not _,k,is,v,w,Q,e,hv,hr,q=>by cases e
|.and _ _,k,is,v,w,Q,e,hv,hr,q=>by cases e
|.or _ _,k,is,v,w,Q,e,hv,hr,q=>by cases e
|.ite _ _ _,k,is,v,w,Q,e,hv,hr,q=>by cases e
|.cmp _ _ _,k,is,v,w,Q,e,hv,hr,q=>by cases e
|.chain _ _ _ _ _,k,is,v,w,Q,e,hv,hr,q=>by cases e
|.call _ _,k,is,v,w,Q,e,hv,hr,q=>by cases e
|.blt _ _,k,is,v,w,Q,e,hv,hr,q=>by cases e
|.isi _ _,k,is,v,w,Q,e,hv,hr,q=>by cases e
|.mth _ _ _,k,is,v,w,Q,e,hv,hr,q=>by cases e
|.sl _ _ _,k,is,v,w,Q,e,hv,hr,q=>by cases e
|.lst _,k,is,v,w,Q,e,hv,hr,q=>by cases e
|.tup _,k,is,v,w,Q,e,hv,hr,q=>by cases e
|.dct,k,is,v,w,Q,e,hv,hr,q=>by cases e
|.dcs _,k,is,v,w,Q,e,hv,hr,q=>by cases e
|.comp _ _ _ _ _ _,k,is,v,w,Q,e,hv,hr,q=>by cases e
|.isx _ _ _,k,is,v,w,Q,e,hv,hr,q=>by cases e
|.isv _ _,k,is,v,w,Q,e,hv,hr,q=>by cases e
|.att _ _ _,k,is,v,w,Q,e,hv,hr,q=>by cases e
theorem aR.at:∀{ds:List D}{vs:List V}{fs:List Addr} (n:Nat) {y:D},aR K H F ds vs fs->ds[n]?=some y->
 ∃w f1 f2 f3,vs[n]?=some w/\fs=f1++(f2++f3)/\bG K H F y w f2/\∀{F1 H':Hp}{y':D}{g:List Addr},aZ F F1->(∀b∈f1,H' b=H b)->(∀b∈f3,H' b=H b)->bG K H' F1 y' w g->aR K H' F1 (ds.set n y') vs (f1++(g++f3))
|[],_,_,n,y,h,e=>by simp at e
|d::ds,_,_,0,y,h,e=>by
 obtain⟨v,r,g1,g2,rfl,rfl,h1,h2⟩:=h;simp at e;subst e;exact⟨v,[],g1,g2,rfl,rfl,h1,fun s1 _ h3 hr=>⟨v,r,_,g2,rfl,rfl,hr,aR.mono s1 _ _ _ h3 h2⟩⟩
|d::ds,_,_,n+1,y,h,e=>by
 obtain⟨v,r,g1,g2,rfl,rfl,h1,h2⟩:=h;obtain⟨w,f1,f2,f3,e1,rfl,q1,q2⟩:=aR.at n h2 (by simpa using e);refine⟨w,g1++f1,f2,f3,by simpa using e1,by simp,q1,fun s1 h3 h4 hr=>⟨v,r,g1,_,rfl,by simp,bG.mono s1 _ _ _ (fun b hb=>h3 b (aL _ hb)) h1,q2 s1 (fun b hb=>h3 b (ay _ hb)) h4 hr⟩⟩
theorem IC:∀(is:List Int) {x x' d:D},eE is x d=some x'->∃ys,jh is x=some (.lst true ys)
|[],x,x',d,e=>by
 unfold eE at e;split at e
 ·exact⟨_,rfl⟩
 ·cases e
|i::r,x,x',d,e=>by
 unfold eE at e;have key:∀(xs:List D) (f:D->D),(((ji xs.length i).bind fun n=>(xs[n]?).bind fun y=>(eE r y d).map fun y'=>f (.lst true (xs.set n y')))=some x'\/((ji xs.length i).bind fun n=>(xs[n]?).bind fun y=>(eE r y d).map fun y'=>f (.tup (xs.set n y')))=some x')->∃ys,((ji xs.length i).bind fun n=>(xs[n]?).bind fun y=>jh r y)=some (.lst true ys):=by
  intro xs f e;cases e1:ji xs.length i with
  |none=>rw[e1]at e;rcases e with e|e<;>cases e
  |some n=>
   rw[e1]at e;show ∃ys,((xs[n]?).bind fun y=>jh r y)=some (.lst true ys);cases e2:xs[n]? with
   |none=>simp[e2]at e
   |some y=>
    show ∃ys,jh r y=some (.lst true ys);cases e3:eE r y d with
    |none=>simp[e2,e3]at e
    |some y'=>exact IC r e3
 unfold jh;split at e
 ·exact key _ id (.inl e)
 ·exact key _ id (.inr e)
 ·cases e
theorem wg:∀(is:List Int) {x:D}{ys:List D}{v:V}{fs:List Addr},aZ F H->bG K H F x v fs->jh is x=some (.lst true ys)->fs.Nodup->
 ∃c ws f2,c∈fs/\H c=some (.lst ws)/\Reach K H v is (.ref c)/\bG K H F (.lst true ys) (.ref c) f2/\(∀b∈f2,b∈fs)/\∀{d x':D},eE is x d=some x'->ws.length<aa /\
  ∀{F1 H':Hp}{u:V}{f:List Addr},aZ F F1->bG K H' F1 d u f->f.Nodup->(∀a∈f,a∉fs)->(∀b∈fs,b≠c->H' b=H b)->H' c=some (.lst (ws++[u]))->∃fs',bG K H' F1 x' v fs'/\fs'.Nodup/\∀b∈fs',b∈fs\/b∈f
|[],x,ys,v,fs,s,r,e,nd=>by
 cases e;have r0:=r;unfold bG at r;rw[if_pos rfl]at r;obtain⟨a,vs,f1,rfl,r2,r3,r4,rfl⟩:=r;have nd':=bX.mp nd;refine⟨a,vs,a::f1,ao,r2,rfl,r0,fun b hb=>hb,fun{d x'} e=>?_⟩;unfold eE at e;have e:(if ys.length<aa then some (D.lst true (ys++[d]))else none)=some x':=e;split at e
 ·rename_i hl;cases e;refine⟨by rw[r4.len];exact hl,fun{F1 H' u f} s1 rd nf df h1 h2=>⟨a::(f1++f),?_,?_,?_⟩⟩
  ·unfold bG;rw[if_pos rfl];exact⟨a,vs++[u],f1++f,rfl,h2,by rw[aE,r4.len];exact hl,aR.app (aR.mono s1 _ _ _ (fun b hb=>h1 b (ai _ hb) fun z=>nd'.1 (by rw[<-z];exact hb)) r4) (aR.one rd),rfl⟩
  ·refine bX.mpr ⟨fun z=>?_,bx.mpr ⟨nd'.2,nf,fun p hp q hq z=>df q hq (by rw[<-z];exact ai _ hp)⟩⟩;rcases aT.mp z with z|z
   ·exact nd'.1 z
   ·exact df a z ao
  ·intro b hb;rcases aC.mp hb with rfl|hb
   ·exact .inl ao
   ·rcases aT.mp hb with z|z
    ·exact .inl (ai _ z)
    ·exact .inr z
 ·cases e
|i::r,x,ys,v,fs,s,rx,e,nd=>by
 unfold jh at e;split at e
 ·rename_i xs;cases e1:ji xs.length i with
  |none=>rw[e1]at e;cases e
  |some n=>
   rw[e1]at e;have e:((xs[n]?).bind fun y=>jh r y)=some (.lst true ys):=e;cases e2:xs[n]? with
   |none=>rw[e2]at e;cases e
   |some y=>
    rw[e2]at e;have e:jh r y=some (.lst true ys):=e;unfold bG at rx;rw[if_pos rfl]at rx;obtain⟨a,vs,f0,rfl,r2,r3,r4,rfl⟩:=rx;obtain⟨w,f1,f2,f3,w1,rfl,w2,w3⟩:=aR.at n r4 e2;have nd':=bX.mp nd;obtain⟨n1,n23,n4⟩:=bx.mp nd'.2;obtain⟨n2,n3,n5⟩:=bx.mp n23;obtain⟨c,ws,f4,c1,c2,c4,c6,c7,c5⟩:=wg r s w2 e n2;have cf:c∈f1++(f2++f3):=ay _ (aL _ c1);refine⟨c,ws,f4,ai _ cf,c2,⟨a,false,vs,w,rfl,.inl (by unfold Cd;rw[r2]),Bk (by rw[r4.len];exact e1) w1,c4⟩,c6,fun b hb=>ai _ (ay _ (aL _ (c7 b hb))),fun{d x'} e3=>?_⟩;have e3:((ji xs.length i).bind fun n=>(xs[n]?).bind fun y=>(eE r y d).map fun y'=>D.lst true (xs.set n y'))=some x':=e3;rw[e1]at e3;have e3:((xs[n]?).bind fun y=>(eE r y d).map fun y'=>D.lst true (xs.set n y'))=some x':=e3;rw[e2]at e3;have e3:((eE r y d).map fun y'=>D.lst true (xs.set n y'))=some x':=e3;cases e4:eE r y d with
    |none=>rw[e4]at e3;cases e3
    |some y'=>
     rw[e4]at e3;cases e3;obtain⟨c3,c5⟩:=c5 e4;refine⟨c3,fun{F1 H' u f} s1 rd nf df h1 h2=>?_⟩;obtain⟨g,g1,g2,g3⟩:=c5 s1 rd nf (fun b hb z=>df b hb (ai _ (ay _ (aL _ z)))) (fun b hb hc=>h1 b (ai _ (ay _ (aL _ hb))) hc) h2;refine⟨a::(f1++(g++f3)),?_,?_,?_⟩
     ·unfold bG;rw[if_pos rfl];refine⟨a,vs,_,rfl,by rw[h1 a ao fun z=>nd'.1 (by rw[z];exact cf)];exact r2,r3,w3 s1 (fun b hb=>h1 b (ai _ (aL _ hb)) fun z=>n4 b hb c (aL _ c1) z) (fun b hb=>h1 b (ai _ (ay _ (ay _ hb))) fun z=>n5 c c1 b hb z.symm) g1,rfl⟩
     ·exact L6 nd (fun b hb=>g3 b hb) g2 df
     ·exact TL g3
 ·rename_i xs;cases e1:ji xs.length i with
  |none=>rw[e1]at e;cases e
  |some n=>
   rw[e1]at e;have e:((xs[n]?).bind fun y=>jh r y)=some (.lst true ys):=e;cases e2:xs[n]? with
   |none=>rw[e2]at e;cases e
   |some y=>
    rw[e2]at e;have e:jh r y=some (.lst true ys):=e;obtain⟨a,vs,rfl,r2,r3,r4⟩:=rx;obtain⟨w,f1,f2,f3,w1,rfl,w2,w3⟩:=aR.at n r4 e2;obtain⟨n1,n23,n4⟩:=bx.mp nd;obtain⟨n2,n3,n5⟩:=bx.mp n23;obtain⟨c,ws,f4,c1,c2,c4,c6,c7,c5⟩:=wg r s w2 e n2;refine⟨c,ws,f4,ay _ (aL _ c1),c2,⟨a,true,vs,w,rfl,tupS (s _ _ r2),Bk (by rw[r4.len];exact e1) w1,c4⟩,c6,fun b hb=>ay _ (aL _ (c7 b hb)),fun{d x'} e3=>?_⟩;have e3:((ji xs.length i).bind fun n=>(xs[n]?).bind fun y=>(eE r y d).map fun y'=>D.tup (xs.set n y'))=some x':=e3;rw[e1]at e3;have e3:((xs[n]?).bind fun y=>(eE r y d).map fun y'=>D.tup (xs.set n y'))=some x':=e3;rw[e2]at e3;have e3:((eE r y d).map fun y'=>D.tup (xs.set n y'))=some x':=e3;cases e4:eE r y d with
    |none=>rw[e4]at e3;cases e3
    |some y'=>
     rw[e4]at e3;cases e3;obtain⟨c3,c5⟩:=c5 e4;refine⟨c3,fun{F1 H' u f} s1 rd nf df h1 h2=>?_⟩;obtain⟨g,g1,g2,g3⟩:=c5 s1 rd nf (fun b hb z=>df b hb (ay _ (aL _ z))) (fun b hb hc=>h1 b (ay _ (aL _ hb)) hc) h2;refine⟨f1++(g++f3),⟨a,vs,rfl,s1 _ _ r2,r3,w3 s1 (fun b hb=>h1 b (aL _ hb) fun z=>n4 b hb c (aL _ c1) z) (fun b hb=>h1 b (ay _ (ay _ hb)) fun z=>n5 c c1 b hb z.symm) g1⟩,?_,?_⟩
     ·exact Bq nd (fun b hb=>g3 b hb) g2 df
     ·exact Ar g3
 ·cases e
theorem YY[Ex](ZA:cR K Zz Y)(I:bh K F0 H0 L O F H fp)(lt:dD e=true)(he:pE Zz e L=.ok d)
  (h:∀v F1 H1,bh K F0 H0 L O F1 H1 fp->aZ F F1->aZ H H1->(aQ d=true->∃f,jR K H0 F1 H1 fp d v f)->Q v H1):wE K Y Ex.E e O H Q:=by
 refine fN ZA e (I.env (cO e)) (eT I.g.s) lt ?_;rw[he];intro F' H' v f g fr r;refine h v _ H' (I.back g) (fun b o q=>?_) g.h fun ho=>?_
 ·have hb:b∉ownAt fp (cO e):=fun z=>by
   obtain⟨i,_,hb⟩:=fO.mp z;rw[I.nf i b hb]at q;cases q
  rw[fi hb];exact g.f b o (dU I.g.s b o q)
 refine⟨f,bG.less (kr g.s ((I.lists _).mono g.h)) d v f ho r,fr.nd,fun a ha=>aZ.none (j8 _ _) (fr.nf a ha),fun a ha=>aZ.none I.g.h (fr.nh a ha),fun i a ha hb=>?_⟩;obtain⟨o,e,_⟩:=I.ex i a hb;rw[fr.nh a ha]at e;cases e
theorem XN[Ex](ZA:cR K Zz Y){o:CE}(I:bh K F0 H0 L O F H fp)(la:dD a=true)(h:cU K F0 H0 (O9 Zz o a L) X):wE K Y Ex.E (.mth .append o (.cons a .nil)) O H fun _ H1=>X.nx O H1:=by
 unfold O9 at h;split at h
 ·rename_i p ep;obtain⟨d,e1,h⟩:=y_ h;split at h
  ·rename_i x ex;split at h
   ·rename_i ho;cases e3:eE p.2 x d with
    |none=>rw[e3]at h;exact h.elim
    |some x'=>
     rw[e3]at h;have h:cU K F0 H0 (.nx (L.set p.1 (some x'))) X:=h;obtain⟨v,hv,rx⟩:=I.rep _ _ ex;obtain⟨ys,eg⟩:=IC p.2 e3;obtain⟨c,ws,f2,c1,c2,c4,_,_,c5⟩:=wg p.2 I.g.s rx eg (I.nd _);obtain⟨c3,c5⟩:=c5 e3;refine Pb I o (show uK L o=some (p.1,p.2)from ep) hv c4 ⟨?_,?_⟩
     ·show kQ H c;unfold kQ;rw[c2];trivial
     ·simp only[wEs];refine YY ZA I la e1 fun u F1 H1 I1 sF sH V1=>?_;obtain⟨f,V1⟩:=V1 ho;show(match H1 c with|some (.lst xs)=>xs.length<aa/\X.nx O (upd H1 c (.lst (xs++[u])))|_=>False);rw[sH _ _ c2];refine⟨c3,?_⟩;have hcf:c∉f:=fun z=>V1.dis p.1 c z c1;obtain⟨fs',g1,g2,g3⟩:=c5 (H':=upd H1 c (.lst (ws++[u]))) sF (bG.mono (aZ.refl _) _ _ _ (fun b hb=>aO fun z=>hcf (by rw[<-z];exact hb)) V1.r) V1.nd (fun b hb=>V1.dis p.1 b hb) (fun b hb hc=>by
       rw[aO hc];obtain⟨o,eo,_⟩:=I.ex p.1 b hb;rw[eo,sH b o eo]) bD
      refine h O F1 _ _ (I1.put c1 hv g1 g2 (fun b hb=>?_) (fun b hb=>?_) fun i hi b hb z=>?_)
      ·rcases g3 b hb with q|q
       ·exact I1.nf p.1 b q
       ·exact V1.nf b q
      ·rcases g3 b hb with q|q
       ·exact I1.nh p.1 b q
       ·exact V1.nh b q
      ·rcases g3 b hb with q|q
       ·exact hi (I1.dis i p.1 b z q)
       ·exact V1.dis i b q z
   ·exact h.elim
  ·exact h.elim
 ·exact h.elim
theorem okX[Ex](ZA:cR K Zz Y)(I:bh K F0 H0 L O F H fp)(lt:dD e=true)(h:cU K F0 H0 (pX Zz e L) X):wE K Y Ex.E e O H fun _ H1=>X.nx O H1:=by
 have gen:cU K F0 H0 ((pE Zz e L).aY fun _=>.nx L) X->wE K Y Ex.E e O H fun _ H1=>X.nx O H1:=fun h=>by
  rcases mD h with⟨x,e1,hx⟩|⟨d,e1,h⟩
  ·exact Aq ZA I lt e1 hx
  exact runD' ZA I lt e1 fun v F1 H1 I1 _ _=>h O F1 H1 fp I1
 cases e with
 |mth m o as=>
  cases o with
  |var k=>
   obtain⟨_,lt2⟩:=band' (show(dD (.var k)&&jE as)=true from lt);cases m with
   |append=>
    cases as with
    |nil=>exact h.elim
    |cons a r=>
     cases r with
     |cons _ _=>exact h.elim
     |nil=>
      obtain⟨la,_⟩:=band' (show(dD a&&jE .nil)=true from lt2);rcases Iz (show cU K F0 H0 ((pE Zz a L).mU (xV L[k]?) fun d=>match L[k]? with|some (some (.lst true xs))=>if(decide (xs.length<aa)&&(aQ d||!(cO a).contains k))=true then .nx ((iP (cO a) (aQ d) L).set k (some (.lst true (xs++[d]))))else .bad|_=>.bad) X from h)with⟨hb,x,e1,hx⟩|⟨d,e1,h⟩
      ·unfold xV at hb;split at hb
       ·rename_i xs q;obtain⟨a0,us,fs,s1,s2,s3,s4,s5⟩:=I.lst q;refine slot_of s1 ⟨?_,?_⟩
        ·show kQ H a0;unfold kQ;rw[s2];trivial
        ·simp only[wEs];exact Aq ZA I la e1 hx
       ·cases hb
      split at h
      ·rename_i xs q;split at h
       ·rename_i c;obtain⟨c1,c2⟩:=band' c;have c1:=of_decide_eq_true c1;obtain⟨a0,us,fs,s1,s2,s3,s4,s5⟩:=I.lst q;refine slot_of s1 ⟨?_,?_⟩
        ·show kQ H a0;unfold kQ;rw[s2];trivial
        ·simp only[wEs];refine Cv ZA I la e1 fun v F1 H1 fp1 f I1 V1=>?_;obtain⟨a1,us1,fs1,t1,t2,t3,t4,t5⟩:=I1.lst (k:=k) (xs:=xs) (by rw[IB c2];exact q);rw[s1]at t1;cases t1;show(match H1 a0 with|some (.lst xs)=>xs.length<aa/\X.nx O (upd H1 a0 (.lst (xs++[v])))|_=>False);rw[t2];refine⟨by rw[t4.len];exact c1,?_⟩;have nd1:(fs1++f).Nodup:=by
          have n:=I1.nd k;rw[t5]at n;refine bx.mpr ⟨(bX.mp n).2,V1.nd,fun a ha b hb z=>?_⟩;subst z;exact V1.dis k a hb (by rw[t5];exact ai _ ha)
         obtain⟨fp',I'⟩:=I1.L5 (xs:=xs) (xs':=xs++[d]) (vs:=us1) (vs':=us1++[v]) (fs:=fs1) (fs':=fs1++f) V1 s1 t5 (by rw[aE,t4.len];simp;omega)
          (fun h1 h2=>aR.app (aR.mono (aZ.refl _) _ _ _ h1 t4) (aR.one (bG.mono (aZ.refl _) _ _ _ h2 V1.r))) nd1 (fun b hb=>aT.mp hb)
         exact h O F1 _ fp' I'
       ·exact h.elim
      ·exact h.elim
   |insert=>
    match as,h,lt2 with
    |.nil,h,_=>exact h.elim
    |.cons _ .nil,h,_=>exact h.elim
    |.cons _ (.cons _ (.cons _ _)),h,_=>exact h.elim
    |.cons i (.cons a .nil),h,lt2=>
     obtain⟨li,l2⟩:=band' (show(dD i&&jE (.cons a .nil))=true from lt2);obtain⟨la,_⟩:=band' (show(dD a&&jE .nil)=true from l2);obtain⟨j,e1,h⟩:=y_ h;obtain⟨d,e2,h⟩:=y_ h;cases j with
     |int j=>
      have h:cU K F0 H0 (match L[k]? with|some (some (.lst true xs))=>if(decide (0<=j/\j<2 ^ 40/\xs.length<aa)&&aQ d)=true then .nx (L.set k (some (.lst true (xs.take j.toNat++d::xs.drop j.toNat))))else .bad|_=>.bad) X:=h;split at h
      ·rename_i xs q;split at h
       ·rename_i c;obtain⟨c1,c2⟩:=band' c;have c1:=of_decide_eq_true c1;obtain⟨a0,us,fs,s1,s2,s3,s4,s5⟩:=I.lst q;refine slot_of s1 ⟨?_,?_⟩
        ·show kQ H a0;unfold kQ;rw[s2];trivial
        ·simp only[wEs];refine runD' ZA I li e1 fun v F1 H1 I1 _ V1=>?_;obtain⟨f0,V1⟩:=V1 rfl;obtain⟨rfl,_⟩:=V1.r;refine runD' ZA I1 la e2 fun v F2 H2 I2 _ V2=>?_;obtain⟨f,V2⟩:=V2 c2;obtain⟨a1,us1,fs1,t1,t2,t3,t4,t5⟩:=I2.lst q;rw[s1]at t1;cases t1;show(match H2 a0 with|some (.lst xs)=>(0<=j/\j<2 ^ 40/\xs.length<aa)/\X.nx O (upd H2 a0 (.lst (xs.take j.toNat++v::xs.drop j.toNat)))|_=>False);rw[t2];refine⟨by rw[t4.len];exact c1,?_⟩;obtain⟨g1,g2,eg,w1,w2⟩:=aR.split j.toNat t4;subst eg;have nd1:(g1++(f++g2)).Nodup:=by
          have n:=I2.nd k;rw[t5]at n;have n:=(bX.mp n).2;obtain⟨n1,n2,n3⟩:=bx.mp n;have nf:∀b∈f,b∉g1/\b∉g2:=fun b hb=>⟨fun z=>V2.dis k b hb (by rw[t5];exact ai _ (aL _ z)),fun z=>V2.dis k b hb (by rw[t5];exact ai _ (ay _ z))⟩;refine bx.mpr ⟨n1,bx.mpr ⟨V2.nd,n2,fun a ha b hb z=>(nf a ha).2 (by rw[z];exact hb)⟩,fun a ha b hb z=>?_⟩;rcases aT.mp hb with hb|hb
          ·exact(nf b hb).1 (by rw[<-z];exact ha)
          ·exact n3 a ha b hb z
         obtain⟨fp',I'⟩:=I2.L5 (xs:=xs) (xs':=xs.take j.toNat++d::xs.drop j.toNat) (vs:=us1) (vs':=us1.take j.toNat++v::us1.drop j.toNat) (fs:=g1++g2) (fs':=g1++(f++g2)) V2 s1 t5 (by
           rw[aE,dH,aW,dX,t4.len];omega)
          (fun h1 h2=>aR.app (aR.mono (aZ.refl _) _ _ _ (fun b hb=>h1 b (aL _ hb)) w1) ⟨v,_,f,g2,rfl,rfl,bG.mono (aZ.refl _) _ _ _ h2 V2.r,aR.mono (aZ.refl _) _ _ _ (fun b hb=>h1 b (ay _ hb)) w2⟩) nd1 (fun b hb=>by
           rcases aT.mp hb with hb|hb
           ·exact .inl (aL _ hb)
           ·rcases aT.mp hb with hb|hb
            ·exact .inr hb
            ·exact .inl (ay _ hb))
         exact h O F2 _ fp' I'
       ·exact h.elim
      ·exact h.elim
     |_=>exact h.elim
   |_=>exact gen h
  |ix o i=>
   obtain⟨_,lt2⟩:=band' (show(dD (.ix o i)&&jE as)=true from lt);cases m with
   |append=>
    cases as with
    |nil=>exact h.elim
    |cons a r=>
     cases r with
     |cons _ _=>exact h.elim
     |nil=>
      obtain⟨la,_⟩:=band' (show(dD a&&jE .nil)=true from lt2);exact XN ZA I la h
   |_=>exact gen h
  |_=>exact gen h
 |_=>exact gen h
mutual
theorem bG.flat:∀(d:D) (v:V) (f:List Addr),wc d=true->bG K H F d v f->f=[]/\bG K H' F d v []
|.non,v,f,_,h=>⟨h.2,h.1,rfl⟩
|.bl b,v,f,_,h=>⟨h.2,h.1,rfl⟩
|.int i,v,f,_,h=>⟨h.2,h.1,rfl⟩
|.str x,v,f,_,h=>⟨h.2,h.1,rfl⟩
|.lst _ _,v,f,e,h=>by cases e
|.bZ _ _ _,v,f,e,h=>by cases e
|.tup ds,v,f,e,h=>by
 obtain⟨a,vs,h1,h2,h3,h4⟩:=h;obtain⟨e1,e2⟩:=aR.flat ds vs f e h4;exact⟨e1,a,vs,h1,h2,h3,e2⟩
theorem aR.flat:∀(ds:List D) (vs:List V) (f:List Addr),jP ds=true->aR K H F ds vs f->f=[]/\aR K H' F ds vs []
|[],vs,f,_,h=>⟨h.2,h.1,rfl⟩
|d::ds,vs,f,e,h=>by
 obtain⟨e1,e2⟩:=band' (show(wc d&&jP ds)=true from e);obtain⟨v,r,f1,f2,h1,rfl,h3,h4⟩:=h;obtain⟨rfl,q1⟩:=bG.flat d v f1 e1 h3;obtain⟨rfl,q2⟩:=aR.flat ds r f2 e2 h4;exact⟨rfl,v,r,[],[],h1,rfl,q1,q2⟩
end
theorem aR.qt[DecidableEq κ]{kk:κ}(hd:bG K H F d v []):∀{ds:List D}{kvs:List (κ×V)}{fs:List Addr},aR K H F ds (kvs.map (·.2)) fs->∃fs',aR K H F (L3.qt (kvs.map (·.1)) ds kk d) ((kvs.map fun kv=>if kv.1=kk then(kv.1,v)else kv).map (·.2)) fs'/\fs'.Sublist fs
|[],[],_,h=>⟨[],⟨rfl,rfl⟩,by rw[h.2];exact zw _⟩
|[],_::_,_,h=>by cases h.1
|_::_,[],_,h=>by
 obtain⟨_,_,_,_,z,_⟩:=h;cases z
|e::ds,(k,w)::kvs,_,h=>by
 obtain⟨u,r,f1,f2,z,rfl,h3,h4⟩:=h;simp only[aV]at z;injection z with z1 z2;subst z1 z2;obtain⟨fs',q1,q2⟩:=aR.qt hd h4;simp only[aV,L3.qt];by_cases hk:k=kk
 ·rw[if_pos hk,if_pos hk];exact⟨fs',⟨v,_,[],fs',rfl,rfl,hd,q1⟩,q2.trans (List.sublist_append_right f1 f2)⟩
 ·rw[if_neg hk,if_neg hk];exact⟨f1++fs',⟨w,_,f1,fs',rfl,rfl,h3,q1⟩,K7 (zw _) q2⟩
theorem YZ[Ex](ZA:cR K Zz Y){g:CG}(I:bh K F0 H0 L O F H fp)(lg:Yk g=true)(lt:dD e=true)(h:cU K F0 H0 (pA Zz g e L) X):wE K Y Ex.E e O H fun x H1=>wG K Y Ex.E g x O H1 X.nx:=by
 cases g with
 |name i=>
  rcases mD (show cU K F0 H0 ((pE Zz e L).aY fun d=>.nx ((iP (cO e) (aQ d) L).set i (some d))) X from h)with⟨x,e1,hx⟩|⟨d,e1,h⟩
  ·exact Aq ZA I lt e1 hx
  exact Cv ZA I lt e1 fun v F1 H1 fp1 f I1 V1=>h _ F1 H1 _ (I1.set V1 i)
 |tup gs=>
  rcases mD (show cU K F0 H0 ((pE Zz e L).aY fun d=>(pG (.tup gs) d (iP (cO e) (aQ d) L)).aY .nx) X from h)with⟨x,e1,hx⟩|⟨d,e1,h⟩
  ·exact Aq ZA I lt e1 hx
  obtain⟨ZE,e2,h⟩:=Gc h (Gd _ _ _);refine Cv ZA I lt e1 fun v F1 H1 fp1 f I1 V1=>?_;exact Wm (.tup gs) I1 V1 e2 fun ZC fp' I' _=>h ZC _ H1 fp' I'
 |sub o i=>
  obtain⟨_,li⟩:=band' (show(dD o&&dD i)=true from lg);cases o with
  |var k=>
   rcases mD (show cU K F0 H0 ((pE Zz e L).aY fun d=>(pE Zz i (iP (cO e) (aQ d) L)).mU false fun j=>match L[k]? with
    |some (some x)=>if(aQ d||!(cO e).contains k)=true then(R.opt (putIn x d j)).aY fun x'=>.nx ((iP (cO e) (aQ d) L).set k (some x'))else .bad
    |_=>.bad) X from h)with⟨x,e1,hx⟩|⟨d,e1,h⟩
   ·exact Aq ZA I lt e1 hx
   obtain⟨j,e2,h⟩:=y_ h;cases q:L[k]? with
   |none=>simp only[q]at h;exact h.elim
   |some o=>
    cases o with
    |none=>simp only[q]at h;exact h.elim
    |some x=>
     simp only[q]at h;by_cases c:(aQ d||!(cO e).contains k)=true
     ·rw[if_pos c]at h;obtain⟨x',e3,h⟩:=Gc h br.opt;have e3:=k_ e3;refine Cv ZA I lt e1 fun v F1 H1 fp1 f I1 V1=>?_;show kc O k fun x=>wE K Y Ex.E i O H1 fun y H2=>match x with
       |.ref a=>match H2 a with
        |some (.lst xs)=>∃k j,y=.int k/\ji xs.length k=some j/\X.nx O (upd H2 a (.lst (xs.set j v)))
        |some (.dK kvs)=>∃k,y=kV k/\kvs.length<aa/\X.nx O (upd H2 a (.dK (putK kvs k v)))
        |some (.dT kvs)=>∃k b,y=.ref b/\H2 b=some (.tup (k.map kV))/\kvs.length<aa/\X.nx O (upd H2 a (.dT (putK kvs k v)))
        |_=>False
       |_=>False
      have nd1:∀{F2 H2:Hp}{a0:Addr}{fs1:List Addr},bh K F0 H0 (iP (cO e) (aQ d) L) O F2 H2 fp1->jR K H0 F2 H2 fp1 d v f->fp1 k=a0::fs1->(fs1++f).Nodup:=fun I2 V2 t5=>by
       have n:=I2.nd k;rw[t5]at n;refine bx.mpr ⟨(bX.mp n).2,V2.nd,fun a ha b hb z=>?_⟩;subst z;exact V2.dis k a hb (by rw[t5];exact ai _ ha)
      have q1:(iP (cO e) (aQ d) L)[k]?=some (some x):=by rw[IB c];exact q
      cases x with
      |bZ o ks xs=>
       cases o with
       |false=>cases e3
       |true=>
        have e3:O_ ks xs d j=some x':=e3;unfold O_ at e3;cases ek:kg j with
        |none=>simp only[ek]at e3;cases e3
        |some kk=>
         simp only[ek]at e3;by_cases c0:ks.length<aa
         ·rw[if_pos c0]at e3;obtain⟨a0,us,fs,s1,s2,s3,s4,s5,s6⟩:=I1.bZ q1;refine slot_of s1 (YX ZA I1 V1 li e2 fun w F2 H2 I2 V2 rj=>?_);have hj:aQ j=true:=by cases j<;>first|rfl|(cases ek)
          have rj:=rj rfl hj;have rk:=mV rj ek;have rl:keyOk kk=true:=by
           cases j<;>first|(cases ek;exact decide_eq_true rj.2)|(cases ek;rfl)|(cases ek)
          subst rk;obtain⟨a1,us1,fs1,t1,t2,t3,t4,t5,t6⟩:=I2.bZ q1;rw[s1]at t1;cases t1;simp only[t2];have hlen:us1.length<aa:=by
           have z:us1.length=ks.length:=by rw[<-t4.1,ah]
           omega
          refine⟨kk,rfl,hlen,?_⟩;have hany:(us1.any fun kv=>decide (kv.1=kk))=oR ks kk:=by
           rw[<-t4.1];unfold oR;rw[oq];rfl
          by_cases hh:oR ks kk=true
          ·rw[if_pos hh]at e3;by_cases hf:wc d=true
           case neg=>rw[if_neg hf]at e3;cases e3
           rw[if_pos hf]at e3;cases e3;have e5:putK us1 kk v=us1.map (fun kv=>if kv.1=kk then(kv.1,v)else kv):=by
            unfold putK;rw[hany,if_pos hh]
           rw[e5];obtain⟨ef,hd⟩:=bG.flat (H':=H2) d v f hf V2.r;subst ef;obtain⟨fs',w1,w2⟩:=aR.qt (kk:=kk) hd t5;rw[t4.1]at w1;have hm:(us1.map fun kv=>if kv.1=kk then(kv.1,v)else kv).map (·.1)=ks:=by
            rw[c9,<-t4.1];apply List.map_congr_left;intro kv _;show(if kv.1=kk then(kv.1,v)else kv).1=kv.1;split<;>rfl
           have n:=I2.nd k;rw[t6]at n;have n:=(bX.mp n).2;obtain⟨fp',I'⟩:=I2.Sn (ks:=ks) (xs':=qt ks xs kk d) (kvs':=us1.map fun kv=>if kv.1=kk then(kv.1,v)else kv) (fs:=fs1) (fs':=fs') V2 s1 t6 (by rw[ah];exact t3)
            ⟨hm,t4.2⟩ (fun h1 _=>aR.mono (aZ.refl _) _ _ _ (fun b hb=>h1 b (w2.subset hb)) w1) (w2.nodup n) (fun b hb=>.inl (w2.subset hb))
           exact h O F2 _ fp' I'
          ·rw[if_neg hh]at e3;cases e3;have e5:putK us1 kk v=us1++[(kk,v)]:=by
            unfold putK;rw[hany,if_neg hh]
           rw[e5];obtain⟨fp',I'⟩:=I2.Sn (ks:=ks++[kk]) (xs':=xs++[d]) (kvs':=us1++[(kk,v)]) (fs:=fs1) (fs':=fs1++f) V2 s1 t6 (by simp;omega)
            ⟨by rw[a7,t4.1];rfl,by
             have z:=t4.2;unfold keysOk at z ⊢;rw[List.all_append,z];simp[rl]⟩
            (fun h1 h2=>by
             rw[a7];exact aR.app (aR.mono (aZ.refl _) _ _ _ h1 t5) (aR.one (bG.mono (aZ.refl _) _ _ _ h2 V2.r))) (nd1 I2 V2 t6) (fun b hb=>aT.mp hb)
           exact h O F2 _ fp' I'
         ·rw[if_neg c0]at e3;cases e3
      |_=>cases e3
     ·rw[if_neg c]at h;exact h.elim
  |_=>exact h.elim
theorem eG(f:α->D)(h:∀a,bC (f a)=f a):∀l:List α,az (l.map f)=l.map f
|[]=>rfl
|a::r=>by show bC (f a)::az (r.map f)=_;rw[h a,eG f h r];rfl
theorem DC:∀(ds:List D) (n:Nat),az ds=ds->az (jg n ds)=jg n ds
|[],_,_=>rfl
|d::r,n,h=>by
 have h':bC d::az r=d::r:=h;injection h' with h1 h2;show D.tup [.int (n:Int),bC d]::az (jg (n+1) r)=_;rw[h1,DC r (n+1) h2];rfl
theorem Wo{items:Bool×List D}(h:pI Zz src L=.ok items):az items.2=items.2:=by
 cases src with
 |seq a=>
  obtain⟨x,e1,e2⟩:=cz h;obtain⟨ds,e3,e4⟩:=cz e2;cases e4;cases x with
  |str z=>cases e3;exact eG _ (fun _=>rfl) _
  |lst o xs=>cases e3;exact gD xs
  |tup xs=>cases e3;exact gD xs
  |_=>cases e3
 |range as=>
  obtain⟨x,e1,e2⟩:=cz h;obtain⟨ds,e3,e4⟩:=cz e2;cases e4;unfold rX at e3;split at e3
  ·obtain⟨_,e5⟩:=iC e3;cases e5;exact eG _ (fun _=>rfl) _
  ·obtain⟨_,e5⟩:=iC e3;cases e5;exact eG _ (fun _=>rfl) _
  ·cases e3
 |enum a=>
  obtain⟨x,e1,e2⟩:=cz h;cases x with
  |lst o xs=>cases e2;exact DC _ 0 (gD xs)
  |_=>cases e2
theorem Br[Ex]{g:CG}{b:cJ}{B:Hp}{ok:Hp->Prop}(hok:∀H'',aZ B H''->ok H'')
 (hb:∀{L:bz}{O:L2.St}{F H:Hp}{fp:Nat->List Addr}{X:Ends},bh K B H0 L O F H fp->cU K B H0 (bM Zz n b L) X->wSs K Y Ex.E b X O H) :
 ∀(ds:List D) (its:List Item) {L:bz}{O:L2.St}{F H:Hp}{fp:Nat->List Addr},bh K B H0 L O F H fp->ko K B ds its->cU K B H0 (forR (pG g) (bM Zz n b) (az ds) L) X->forL ok (wG K Y Ex.E g) (wSs K Y Ex.E b) X its O H
|[],its,L,O,F,H,fp,I,hi,h=>by
 cases hi;exact⟨hok H (I.g.f.trans I.g.s),h O F H fp I⟩
|d::ds,its,L,O,F,H,fp,I,hi,h=>by
 obtain⟨it,r,rfl,i1,i2⟩:=hi;have hit:We K F d it:=by
  cases it with
  |v x=>exact aU.mono I.g.f d x i1
  |tup xs=>obtain⟨es,q1,q2,q3⟩:=i1;exact⟨es,q1,aD.mono I.g.f es xs q2,q3⟩
 refine⟨hok H (I.g.f.trans I.g.s),Dz I.g.s hit fun F1 H1 v g1 r1=>?_⟩;obtain⟨ZE,e1,h⟩:=Gc (show cU K B H0 ((pG g (bC d) L).aY fun ZE=>match bM Zz n b ZE with
  |.nx ZG=>forR (pG g) (bM Zz n b) (az ds) ZG
  |.ct ZG=>forR (pG g) (bM Zz n b) (az ds) ZG
  |.bk ZG=>.nx ZG
  |.rt d=>.rt d
  |.ex x=>.ex x
  |.bad=>.bad) X from h) (Gd _ _ _)
 refine ruG' g (I.grow g1) r1 e1 fun ZC fp' I'=>?_;refine hb I' ?_;cases q:bM Zz n b ZE with
 |nx ZG=>simp only[q]at h;exact fun O F H fp I3=>Br hok hb ds r I3 i2 h
 |ct ZG=>simp only[q]at h;exact fun O F H fp I3=>Br hok hb ds r I3 i2 h
 |bk ZG=>simp only[q]at h;exact h
 |rt d=>simp only[q]at h;exact h
 |ex x=>simp only[q]at h;exact h
 |bad=>simp only[q]at h;exact h.elim
end
theorem ID:∀(fs:List (Str×Nat)) (acc:List (Str×V)),(acc.map (·.1)++fs.map (·.1)).Nodup->l9 fs vs acc=acc++fs.map fun p=>(p.1,vs.getD p.2 .non)
|[],acc,_=>by simp[l9]
|(f,j)::r,acc,h=>by
 have hp:∀(acc:List (Str×V)) (v:V),f∉acc.map (·.1)->iy f v acc=acc++[(f,v)]:=by
  intro acc v;induction acc with
  |nil=>intro _;rfl
  |cons p acc ih=>
   obtain⟨g,x⟩:=p;intro hn;simp only[aV,aC,not_or]at hn;show(if g=f then(g,v)::acc else(g,x)::iy f v acc)=_;rw[if_neg (fun z=>hn.1 z.symm),ih hn.2];rfl
 have hf:f∉acc.map (·.1):=fun z=>by
  have:=(bx.mp h).2.2 f z f (by simp);exact this rfl
 show l9 r vs (iy f (vs.getD j .non) acc)=_;rw[hp acc _ hf,ID r (acc++[(f,vs.getD j .non)]) (by simpa[bQ]using h)];simp[bQ]
theorem aD.getD:∀{ds:List D}{vs:List V} (j:Nat),aD K F ds vs->aU K F (bC (ds.getD j .non)) (vs.getD j .non)
|[],_,j,h=>by cases h;rfl
|d::ds,_,0,h=>by
 obtain⟨v,r,rfl,h2,_⟩:=h;exact(aU.bC d v).mpr h2
|d::ds,_,j+1,h=>by
 obtain⟨v,r,rfl,_,h3⟩:=h;exact aD.getD j h3
theorem Ge(h:aD K F ds vs):∀fs:List (Str×Nat),aD K F (fs.map fun p=>bC (ds.getD p.2 .non)) (fs.map fun p=>vs.getD p.2 .non)
|[]=>rfl
|p::fs=>⟨_,_,rfl,aD.getD p.2 h,Ge h fs⟩
mutual
theorem aU.Bs(e:Ai F' F):∀(d:D) (v:V),wc d=true->aU K F' d v->aU K F d v
|.non,v,_,h=>h
|.bl b,v,_,h=>h
|.int i,v,_,h=>h
|.str x,v,_,h=>h
|.lst _ _,v,s,h=>by cases s
|.bZ _ _ _,v,s,h=>by cases s
|.pdc _ _,v,s,h=>by cases s
|.exc _ _ _,v,s,h=>by cases s
|.tup ds,v,s,h=>by
 obtain⟨a,vs,h1,h2,h3,h4⟩:=h;exact⟨a,vs,h1,e.tup h2,h3,aD.Bs e ds vs s h4⟩
theorem aD.Bs(e:Ai F' F):∀(ds:List D) (vs:List V),jP ds=true->aD K F' ds vs->aD K F ds vs
|[],vs,_,h=>h
|d::ds,vs,s,h=>by
 obtain⟨s1,s2⟩:=band' (show(wc d&&jP ds)=true from s);obtain⟨v,r,h1,h2,h3⟩:=h;exact⟨v,r,h1,aU.Bs e d v s1 h2,aD.Bs e ds r s2 h3⟩
end
variable{F0 H0:Hp}
theorem bh.drop{O:L2.St}{fp:Nat->List Addr}{i:Nat}{w:Option V}(I:bh K F0 H0 L O F H fp):bh K F0 H0 (L.set i none) (O.set i w) F H fp where
 g:=I.g
 len:=by simp[I.len]
 rep:=fun j d e=>by
  by_cases hij:i=j
  ·subst hij;rw[d7]at e;split at e
   ·split at e<;>cases e
   ·rename_i z;exact absurd rfl z
  ·rw[cE hij]at e ⊢;exact I.rep j d e
 ex:=I.ex
 nd:=I.nd
 nf:=I.nf
 nh:=I.nh
 dis:=I.dis
variable{Zz:List PG}{X:Ends}{s:CS}
theorem XO[Ex]{Y:List G}{O:L2.St}{fp:Nat->List Addr}(ZA:cR K Zz Y){t:CS}(I:bh K F0 H0 L O F H fp)(lt:DA t=true)(h:cU K F0 H0 (we Zz s t L) X):wS K Y Ex.E s { X with nx:=wS K Y Ex.E t X } O H:=by
 unfold we at h;split at h
 ·rename_i j o i a;split at h
  ·rename_i hij;subst hij;split at h
   ·rename_i p ep;unfold xX at h;split at h
    ·rename_i x ex;split at h
     ·rename_i ys eg;split at h
      ·rename_i hl;have hi:i<O.length:=by rw[<-I.len];exact hl
       obtain⟨v,hv,rx⟩:=I.rep _ _ ex;obtain⟨c,ws,f2,c1,c2,c4,c6,c7,c5⟩:=wg p.2 I.g.s rx eg (I.nd _);obtain⟨_,lt2⟩:=band' (show(dD (.var i)&&jE (.cons a .nil))=true from lt);obtain⟨la,_⟩:=band' (show(dD a&&jE .nil)=true from lt2);show wE K Y Ex.E o O H fun v H1=>wE K Y Ex.E (.mth .append (.var i) (.cons a .nil)) (O.set i (some v)) H1 fun _ H2=>X.nx (O.set i (some v)) H2;refine Pb I o (show uK L o=some (p.1,p.2)from ep) hv c4 ?_;refine slot_of (g9 hi) ⟨?_,?_⟩
       ·show kQ H c;unfold kQ;rw[c2];trivial
       ·simp only[wEs];have env:kq K (adopt F H (ownAt fp (p.1::cO a))) (cO a) (L.set i (some (.lst true ys))) (O.set i (some (.ref c))):=fun b hb d e=>by
         by_cases hbi:b=i
         ·subst hbi;rw[g9 hl]at e;cases e;exact⟨.ref c,g9 hi,bG.fix (dU I.g.s) _ _ f2 (fun a ha=>kj (fO.mpr ⟨p.1,ao,c7 a ha⟩)) c6⟩
         ·rw[cE (cT hbi)]at e ⊢;exact I.env (p.1::cO a) b (ai _ hb) d e
        refine fN ZA a env (eT I.g.s) la ?_;rcases mD h with⟨x0,e1,hx⟩|⟨d,e1,h⟩
        ·rw[e1];exact i_.grow (K:=K) (x:=x0) hx (I.own (p.1::cO a))
        ·rw[e1];intro F' H' u f g fr r;split at h
         ·rename_i ho;cases e3:eE p.2 x d with
          |none=>rw[e3]at h;exact h.elim
          |some x'=>
           rw[e3]at h;have h:cU K F0 H0 (.nx ((L.set p.1 (some x')).set i none)) X:=h;obtain⟨c3,c5⟩:=c5 e3;have I1:=I.back g;have V1:jR K H0 (minus F' (ownAt fp (p.1::cO a))) H' fp d u f:=⟨bG.less (kr g.s ((I.lists _).mono g.h)) d u f ho r,fr.nd,fun a ha=>aZ.none (j8 _ _) (fr.nf a ha),fun a ha=>aZ.none I.g.h (fr.nh a ha),fun i a ha hb=>by
            obtain⟨o,e,_⟩:=I.ex i a hb;rw[fr.nh a ha]at e;cases e⟩
           have sF:aZ F (minus F' (ownAt fp (p.1::cO a))):=fun b o q=>by
            have hb:b∉ownAt fp (p.1::cO a):=fun z=>by
             obtain⟨i,_,hb⟩:=fO.mp z;rw[I.nf i b hb]at q;cases q
            rw[fi hb];exact g.f b o (dU I.g.s b o q)
           show(match H' c with|some (.lst xs)=>xs.length<aa/\X.nx (O.set i (some (.ref c))) (upd H' c (.lst (xs++[u])))|_=>False);rw[g.h _ _ c2];refine⟨c3,?_⟩;have hcf:c∉f:=fun z=>V1.dis p.1 c z c1;obtain⟨fs',g1,g2,g3⟩:=c5 (H':=upd H' c (.lst (ws++[u]))) sF (bG.mono (aZ.refl _) _ _ _ (fun b hb=>aO fun z=>hcf (by rw[<-z];exact hb)) V1.r) V1.nd (fun b hb=>V1.dis p.1 b hb) (fun b hb hc=>by
            rw[aO hc];obtain⟨o,eo,_⟩:=I.ex p.1 b hb;rw[eo,g.h b o eo]) bD
           refine h _ _ _ _ (I1.put c1 hv g1 g2 (fun b hb=>?_) (fun b hb=>?_) fun i hi b hb z=>?_).drop
           ·rcases g3 b hb with q|q
            ·exact I1.nf p.1 b q
            ·exact V1.nf b q
           ·rcases g3 b hb with q|q
            ·exact I1.nh p.1 b q
            ·exact V1.nh b q
           ·rcases g3 b hb with q|q
            ·exact hi (I1.dis i p.1 b z q)
            ·exact V1.dis i b q z
         ·exact h.elim
      ·exact h.elim
     ·exact h.elim
    ·exact h.elim
   ·exact h.elim
  ·exact h.elim
 ·exact h.elim
theorem okB'{Y:List G}(ZA:cR K Zz Y){E':XK}{nx:Hp->Prop}{O:L2.St}{fp:Nat->List Addr}:∀(b:CB) {F H:Hp},bh K F0 H0 L O F H fp->ltB b=true->
 (∀d,pB Zz b L=.ok d->∀F1 H1,bh K F0 H0 L O F1 H1 fp->nx H1)->
 (∀x,pB Zz b L=.ex x->∃C ks xs,x=.exc C ks xs/\jP xs=true/\∀F1 H1 d vs,bh K F0 H0 L O F1 H1 fp->F1 d=some (gW d (ks.zip vs))->aD K F1 xs vs->E' (.ref C) (some d) H1)->
 (pB Zz b L=.bad->False)->wB K Y b E' O H nx
|.call g as,F,H,I,lt,h1,h2,h3=>by
 unfold wB;have ep:pB Zz (.call g as) L=(match Zz[g]? with|some (.fn m dds)=>(eS Zz as L).fE.bind fun ds=>m (az ds++dds)|_=>.bad):=rfl;rw[ep]at h1 h2 h3;cases q:Zz[g]? with
 |none=>rw[q]at h3;exact(h3 rfl).elim
 |some p=>
  obtain⟨g',e1,e2⟩:=ZA.get g q;rw[q]at h1 h2 h3;rw[e1];cases p<;>first|exact(h3 rfl).elim|skip
  cases g'<;>first|exact e2.elim|skip
  rename_i m dds sp dvs;dsimp only at h1 h2 h3 ⊢;refine@nM K Zz Y ZA ⟨E0⟩ as L O (adopt F H (ownAt fp (nL as))) H _ (I.env (nL as)) (eT I.g.s) lt ?_;cases e3:eS Zz as L with
  |ex x=>rw[e3]at h3;exact(h3 rfl).elim
  |bad=>rw[e3]at h3;exact(h3 rfl).elim
  |ok ds=>
   rw[e3]at h1 h2 h3;intro F1 H1 vs f g1 fr r;obtain⟨F2,g2,_,rf⟩:=Bj g1 fr r;refine e2.1 _ _ _ _ ⟨F2,az ds++dds,g2.s,by rw[ku,gD,e2.2.1],aD.app ((aD.az ds vs).mpr rf) (aD.mono (tO F2) dds dvs e2.2.2),?_⟩;have h1:∀d,m (az ds++dds)=.ok d->∀F1 H1,bh K F0 H0 L O F1 H1 fp->nx H1:=h1;have h2:∀x,m (az ds++dds)=.ex x->_:=h2;have h3:m (az ds++dds)=.bad->False:=h3;cases em:m (az ds++dds)with
   |bad=>exact(h3 em).elim
   |ok d=>exact fun F3 H3 v f3 g3 _ _=>h1 d em _ H3 (I.back (g2.trans g3))
   |ex x=>
    obtain⟨C,ks,xs,rfl,hf,hx⟩:=h2 x em;intro F3 H3 d vs3 g3 hd hr;have gg:=g2.trans g3;refine hx _ H3 d vs3 (I.back gg) ?_ (aD.Bs (kr gg.s ((I.lists _).mono gg.h)) xs vs3 hf hr);rw[fi,hd];intro z;obtain⟨o,e,k⟩:=I.lists _ d z;have e':=gg.h _ _ e;rw[gg.s _ _ hd]at e';cases e';rcases k with⟨_,k⟩|⟨_,k⟩<;>cases k
|.ite c a b,F,H,I,lt,h1,h2,h3=>by
 obtain⟨l1,l2⟩:=band' (show(dD c&&(ltB a&&ltB b))=true from lt);obtain⟨l2,l3⟩:=band' l2;unfold wB;have ep:pB Zz (.ite c a b) L=(pT Zz c L).fE.bind fun k=>if k=true then pB Zz a L else pB Zz b L:=rfl
 rw[ep]at h1 h2 h3;cases e3:pT Zz c L with
 |ex x=>rw[e3]at h3;exact(h3 rfl).elim
 |bad=>rw[e3]at h3;exact(h3 rfl).elim
 |ok k=>
  rw[e3]at h1 h2 h3
  letI:Ex:=⟨E0⟩
  refine L3.Wn ZA I l1 e3 fun F1 H1 I1=>?_;cases k with
  |true=>exact okB' ZA a I1 l2 h1 h2 h3
  |false=>exact okB' ZA b I1 l3 h1 h2 h3
theorem Wp[Ex]{Y:List G}(ZA:cR K Zz Y){O:L2.St}{fp:Nat->List Addr}(I:bh K F0 H0 L O F H fp)(lt:jE as=true)(h:cU K F0 H0 (pS Zz n (.rais g as) L) X):wS K Y Ex.E (.rais g as) X O H:=by
 have h:cU K F0 H0 (match Zz[g]? with
  |some (.cls C fs k)=>(eS Zz as L).aY fun ds=>if(decide (ds.length+1=k)&&decide (fs.map (·.1)).Nodup)=true then .ex (Bp C fs ds)else .bad
  |_=>.bad) X:=h
 show(match Y[g]? with
  |some (.cls C fs n)=>xD C fs n (wEs K Y Ex.E as) Ex.E X O H
  |_=>False)
 cases q:Zz[g]? with
 |none=>rw[q]at h;exact h.elim
 |some p=>
  obtain⟨g',e1,e2⟩:=ZA.get g q;rw[q]at h;rw[e1];cases p<;>first|exact h.elim|skip
  cases g'<;>first|exact e2.elim|skip
  rename_i C fs k _ _ _;obtain⟨rfl,rfl,rfl⟩:=e2;dsimp only at h ⊢;unfold xD;rcases mD h with⟨x,e3,hx⟩|⟨ds,e3,h⟩
  ·exact XJ ZA I lt e3 hx
  split at h
  ·rename_i c;obtain⟨c1,c2⟩:=band' c;refine nM ZA as (I.env (nL as)) (eT I.g.s) lt ?_;rw[e3];intro F1 H1 vs fp1 g1 fr r;obtain⟨F2,g2,_,rf⟩:=Bj g1 fr r;refine⟨by rw[rf.len];exact of_decide_eq_true c1,fun d hd=>?_⟩;have h:i_ K F0 H0 (Bp C fs ds):=h;have g3:=u_ (o:=gW d (l9 fs (.non::vs) [])) g2.s hd;have eq:l9 fs (.non::vs) []=(fs.map (·.1)).zip (fs.map fun p=>(V.non::vs).getD p.2 .non):=by
    rw[ID fs [] (by simpa using of_decide_eq_true c2),dw,List.zip_map']
   refine h (upd F2 d (gW d (l9 fs (.non::vs) []))) _ d (fs.map fun p=>(V.non::vs).getD p.2 .non) (((I.own _).trans g2).trans g3) (by rw[bD,eq]) ?_;have hn:aD K (upd F2 d (gW d (l9 fs (.non::vs) []))) (D.non::ds) (V.non::vs):=⟨_,_,rfl,rfl,aD.mono g3.f ds vs rf⟩;exact Ge hn fs
  ·exact h.elim
mutual
theorem ruS{K:PySem.W.Frag}{Zz:List PG}{Y:List G}(ZA:cR K Zz Y)[Ex]{n:Nat}:∀(c:CS) {F0 H0 F H:Hp}{L:bz}{O:L2.St}{fp:Nat->List Addr}{X:Ends},bh K F0 H0 L O F H fp->DA c=true->cU K F0 H0 (pS Zz n c L) X->wS K Y Ex.E c X O H
|.expr e,F0,H0,F,H,L,O,fp,X,I,lt,h=>okX ZA I lt h
|.asg g e,F0,H0,F,H,L,O,fp,X,I,lt,h=>YZ ZA I (band' lt).1 (band' lt).2 h
|.casg i e,F0,H0,F,H,L,O,fp,X,I,lt,h=>by
 rcases mD (show cU K F0 H0 ((pE Zz e L).aY fun d=>.nx ((iP (cO e) (aQ d) L).set i (some d))) X from h)with⟨x,e1,hx⟩|⟨d,e1,h⟩
 ·exact Aq ZA I lt e1 hx
 exact Cv ZA I lt e1 fun v F1 H1 fp1 f I1 V1=>h _ F1 H1 _ (I1.set V1 i)
|.ret e,F0,H0,F,H,L,O,fp,X,I,lt,h=>XM ZA I lt h
|.ifs c a b,F0,H0,F,H,L,O,fp,X,I,lt,h=>by
 obtain⟨l1,l2⟩:=band' (show(dD c&&(jQ a&&jQ b))=true from lt);obtain⟨l2,l3⟩:=band' l2;rcases mD (show cU K F0 H0 ((pT Zz c L).aY fun k=>if k=true then bM Zz n a L else bM Zz n b L) X from h)with⟨x,e1,hx⟩|⟨k,e1,h⟩
 ·exact XH ZA I l1 e1 hx
 refine Wn ZA I l1 e1 fun F1 H1 I1=>?_;cases k with
 |true=>exact uL ZA a I1 l2 h
 |false=>exact uL ZA b I1 l3 h
|.forr g src b,F0,H0,F,H,L,O,fp,X,I,lt,h=>by
 obtain⟨l1,l2⟩:=band' (show(ltI src&&jQ b)=true from lt);rcases mD (show cU K F0 H0 ((pI Zz src L).aY fun items=>forR (pG g) (bM Zz n b) items.2 (iP (u9 src) items.1 L)) X from h)with⟨x,e1,hx⟩|⟨items,e1,h⟩
 ·exact XI ZA I l1 e1 hx
 refine Wk ZA src (ownAt fp (u9 src)) (I.env (u9 src)) (eT I.g.s) (I.lists _) l1 ?_;rw[e1];intro F' H' ok its g1 hok hi hl;obtain⟨fp',I'⟩:∃fp',bh K F0 H0 (iP (u9 src) items.1 L) O (q9 items.1 F' (ownAt fp (u9 src))) H' fp':=by
  cases items.1 with
  |true=>exact⟨fp,I.back g1⟩
  |false=>exact⟨_,I.Wl g1⟩
 have hf:az items.2=items.2:=Wo e1;have h:=cU.rebase I'.g h;rw[<-hf]at h;exact Br hok (fun I3 h3=>uL ZA b I3 l2 h3) items.2 its I'.rebase hi h
|.fork g k b,F0,H0,F,H,L,O,fp,X,I,lt,h=>by
 have h:cU K F0 H0 (match L[k]? with
  |some (some (.bZ true ks xs))=>forR (pG g) (bM Zz n b) (ks.map eN) (L.set k (some (.pdc ks (az xs))))
  |some (some (.pdc ks xs))=>forR (pG g) (bM Zz n b) (ks.map eN) L
  |_=>.bad) X:=h
 have l2:jQ b=true:=lt;have fk:∀ks:List Key,az (ks.map eN)=ks.map eN:=fun ks=>eG eN (fun a=>by cases a<;>rfl) ks;split at h
 ·rename_i ks xs q;obtain⟨a,kvs,fs,s1,s2,s3,s4,s5,s6⟩:=I.bZ q;refine slot_of s1 (.inr ⟨kvs,s2,fun ob=>?_⟩);obtain⟨F1,fp1,I1,hp⟩:=I.pin q s1 s2 s3 s4 s5 s6 ob;have h:=cU.rebase I1.g h;rw[<-fk]at h;have hi:ko K F1 (ks.map eN) (nH kvs):=by rw[<-s4.1];exact An kvs (by rw[s4.1];exact s4.2)
  exact Br (fun H'' s''=>s'' _ _ hp) (fun I3 h3=>uL ZA b I3 l2 h3) _ _ I1.rebase hi h
 ·rename_i ks xs q;obtain⟨v,s1,r⟩:=I.rep k _ q;obtain⟨⟨a,kvs,rfl,⟨ob,h2⟩,h3,h4,h5⟩,_⟩:=r;refine slot_of s1 (.inl ⟨ob,kvs,I.g.s _ _ h2,?_⟩);have h:=cU.rebase I.g h;rw[<-fk]at h;have hi:ko K F (ks.map eN) (nH kvs):=by rw[<-h4.1];exact An kvs (by rw[h4.1];exact h4.2)
  exact Br (fun H'' s''=>s'' _ _ h2) (fun I3 h3=>uL ZA b I3 l2 h3) _ _ I.rebase hi h
 ·exact h.elim
|.brk,F0,H0,F,H,L,O,fp,X,I,lt,h=>h O F H fp I
|.cont,F0,H0,F,H,L,O,fp,X,I,lt,h=>h O F H fp I
|.never,F0,H0,F,H,L,O,fp,X,I,lt,h=>h.elim
|.rais g as,F0,H0,F,H,L,O,fp,X,I,lt,h=>Wp ZA I lt h
|.tri i g b hd,F0,H0,F,H,L,O,fp,X,I,lt,h=>by
 obtain⟨l1,l2⟩:=band' (show(ltB b&&jQ hd)=true from lt);have h:cU K F0 H0 (match Zz[g]? with
  |some (.exb Cs)=>match pB Zz b L with
   |.ok _=>.nx L
   |.ex (.exc C ks xs)=>if(decide (C∈Cs)&&jP xs)=true then xW i (bM (Zz.map PG.hand) n hd (L.set i (some (.exc C ks xs))))else .bad
   |_=>.bad
  |_=>.bad) X:=h
 show(match Y[g]? with
  |some (.exb B _)=>Fy K i B (wB K Y b) (wSs K (Y.map G.hand) E0 hd) X O H
  |_=>False)
 cases q:Zz[g]? with
 |none=>rw[q]at h;exact h.elim
 |some p=>
  obtain⟨g',e1,e2⟩:=ZA.get g q;rw[q]at h;rw[e1];cases p<;>first|exact h.elim|skip
  cases g'<;>first|exact e2.elim|skip
  rename_i Cs B _;obtain⟨rfl,hmro⟩:=e2;dsimp only at h ⊢;unfold Fy;refine okB' ZA b I l1 (fun d e F1 H1 I1=>?_) (fun x e=>?_) (fun e=>?_)
  ·rw[e]at h;exact h O F1 H1 fp I1
  ·rw[e]at h;cases x<;>first|exact h.elim|skip
   rename_i C ks xs;dsimp only at h;split at h
   ·rename_i c;obtain⟨c1,c2⟩:=band' c;refine⟨C,ks,xs,rfl,c2,fun F1 H1 d vs I1 hd' hr=>⟨C,rfl,hmro C (of_decide_eq_true c1),fun e he=>?_⟩⟩;have g2:=u_ (o:=ia false e C (some d)) I1.g.s he;have I2:=I1.grow g2;have V2:jR K H0 (upd F1 e (ia false e C (some d))) (upd H1 e (ia false e C (some d))) fp (.exc C ks xs) (.ref e) []:=
     ⟨⟨⟨e,d,vs,rfl,bD,g2.f _ _ hd',aD.mono g2.f xs vs hr⟩,rfl⟩,gU,fun _ z=>absurd z aB,fun _ z=>absurd z aB,fun _ _ z=>absurd z aB⟩
    refine@uL K (Zz.map PG.hand) (Y.map G.hand) ZA.hand ⟨E0⟩ n hd _ _ _ _ _ _ _ _ (I2.set V2 i) l2 ?_;cases q2:bM (Zz.map PG.hand) n hd (L.set i (some (.exc C ks xs)))with
    |nx ZE=>rw[q2]at h;exact fun O F H fp I3=>h _ F H fp I3.drop
    |rt d=>rw[q2]at h;exact h
    |bk ZE=>rw[q2]at h;exact h.elim
    |ct ZE=>rw[q2]at h;exact h.elim
    |ex x=>rw[q2]at h;exact h.elim
    |bad=>rw[q2]at h;exact h.elim
   ·exact h.elim
  ·rw[e]at h;exact h.elim
theorem uL{K:PySem.W.Frag}{Zz:List PG}{Y:List G}(ZA:cR K Zz Y)[Ex]{n:Nat}:∀(c:cJ) {F0 H0 F H:Hp}{L:bz}{O:L2.St}{fp:Nat->List Addr}{X:Ends},bh K F0 H0 L O F H fp->jQ c=true->cU K F0 H0 (bM Zz n c L) X->wSs K Y Ex.E c X O H
|.nil,F0,H0,F,H,L,O,fp,X,I,lt,h=>h O F H fp I
|.cons s r,F0,H0,F,H,L,O,fp,X,I,lt,h=>by
 obtain⟨l1,l2⟩:=band' (show(DA s&&jQ r)=true from lt);have h:cU K F0 H0 (match pS Zz n s L with|.nx ZC=>bM Zz n r ZC|x=>x) X:=h;refine ruS (n:=n) ZA s I l1 ?_;cases q:pS Zz n s L with
 |nx ZC=>simp only[q]at h;exact fun O F H fp I'=>uL ZA r I' l2 h
 |bk ZC=>simp only[q]at h;exact h
 |ct ZC=>simp only[q]at h;exact h
 |rt d=>simp only[q]at h;exact h
 |ex x=>simp only[q]at h;exact h
 |bad=>simp only[q]at h;exact h.elim
|.two s t r,F0,H0,F,H,L,O,fp,X,I,lt,h=>by
 obtain⟨l1,l2⟩:=band' (show(DA s&&(DA t&&jQ r))=true from lt);obtain⟨l2,l3⟩:=band' l2;have h:cU K F0 H0 (match we Zz s t L with|.nx ZC=>bM Zz n r ZC|x=>x) X:=h;show wS K Y Ex.E s { X with nx:=wS K Y Ex.E t { X with nx:=wSs K Y Ex.E r X } } O H;refine XO (X:={ X with nx:=wSs K Y Ex.E r X }) ZA I l2 ?_;cases q:we Zz s t L with
 |nx ZC=>simp only[q]at h;exact fun O F H fp I'=>uL ZA r I' l3 h
 |bk ZC=>simp only[q]at h;exact h
 |ct ZC=>simp only[q]at h;exact h
 |rt d=>simp only[q]at h;exact h
 |ex x=>simp only[q]at h;exact h
 |bad=>simp only[q]at h;exact h.elim
|.pin k r,F0,H0,F,H,L,O,fp,X,I,lt,h=>by
 have h:cU K F0 H0 (match L[k]? with|some (some (.bZ true ks xs))=>bM Zz n r (L.set k (some (.pdc ks (az xs))))|_=>.bad) X:=h;split at h
 ·rename_i ks xs q;obtain⟨a,kvs,fs,s1,s2,s3,s4,s5,s6⟩:=I.bZ q;refine slot_of s1 ⟨a,kvs,rfl,s2,fun ob=>?_⟩;obtain⟨F1,fp1,I1,hp⟩:=I.pin q s1 s2 s3 s4 s5 s6 ob;exact uL ZA r I1 (show jQ r=true from lt) h
 ·exact h.elim
end
theorem TM[Ex]{K:PySem.W.Frag}{Zz:List PG}{Y:List G}(ZA:cR K Zz Y){n:Nat}{N:List Str}{c:cJ}(lt:jQ c=true){m:List D->R D}{vs:List V}{H:Hp}{Q:VK}(hm:∀ds,m ds≠.bad->ds.length<=N.length/\F_ Zz n N c ds=m ds)
  (h:∃F ds,aZ F H/\az ds=ds/\aD K F ds vs/\PV K F H (m ds) Q):wSs K Y Ex.E c { nx:=fun _ H'=>Q .non H',rt:=Q } (vs.map some++aF (N.length-vs.length) none) H:=by
 obtain⟨F,ds,s,hz,r,h⟩:=h;have hb:m ds≠.bad:=fun z=>by rw[z]at h;exact h
 obtain⟨hl,hr⟩:=hm ds hb;rw[<-hr]at h;have I:bh K F H (vc N ds) (vs.map some++aF (N.length-vs.length) none) F H (fun _=>[]):=by
  refine⟨bT.refl s,?_,fun i d' q=>?_,fun _ _ ha=>absurd ha aB,fun _=>gU,fun _ _ ha=>absurd ha aB,fun _ _ ha=>absurd ha aB,fun _ _ _ ha=>absurd ha aB⟩
  ·unfold vc;simp[r.len]
  ·unfold vc at q;by_cases hi:i<ds.length
   ·rw[eZ (by simpa using hi),aX]at q;cases z:ds[i]? with
    |none=>rw[z]at q;cases q
    |some d2=>
     rw[z]at q;cases q;obtain⟨v,e1,e2⟩:=r.get i z;have hf:bC d'=d':=by
      have:∀(l:List D) (i:Nat) (x:D),az l=l->l[i]?=some x->bC x=x:=by
       intro l;induction l with
       |nil=>intro i x _ h;simp at h
       |cons y l ih=>
        intro i x h1 h2;have h1:bC y::az l=y::l:=h1;injection h1 with h3 h4;cases i with
        |zero=>simp at h2;subst h2;exact h3
        |succ i=>exact ih i x h4 (by simpa using h2)
      exact this ds i d' hz z
     refine⟨v,?_,?_⟩
     ·rw[eZ (by simp[r.len,hi]),aX,e1];rfl
     ·have:=aU.xM (H:=H) d' v e2;rw[hf]at this;exact this
   ·rw[cZ (by simpa using hi)]at q;rw[tD]at q;split at q<;>cases q
 refine uL (n:=n) ZA c I lt ?_;unfold F_ at h;cases q:bM Zz n c (vc N ds)with
 |nx O=>rw[q]at h;exact fun O F' H' fp I'=>h F' H' .non [] I'.g .nil ⟨rfl,rfl⟩
 |rt d'=>rw[q]at h;exact fun v F' H' f g fr rx=>h F' H' v f g fr rx
 |ex x=>rw[q]at h;exact h
 |bk O=>rw[q]at h;exact h.elim
 |ct O=>rw[q]at h;exact h.elim
 |bad=>rw[q]at h;exact h.elim
def E4(K:PySem.W.Frag)(mg:Str->Option Value)(x:Str)(st:Stmt)(ps:List Str):Prop:=
 ∃(f:Addr) (fd:fM),qI K x x st f fd/\mg x=some (.ref f)/\Binds K fd ps []
variable{P:bJ}{w:bS}{mg:Str->Option Value}{base:Heap}{st:Stmt}{ps:List Str}
theorem E4.has{k:Nat}{x:Str}{sp:Sp}(D:E4 K mg x st ps)
  (hok:∀f fd,qI K x x st f fd->fK P w K mg base (j5 P w) k f fd ps sp):FQ P w K mg base k x (.fn sp []):=by
 obtain⟨f,fd,F,hm,hb⟩:=D;exact⟨f,fd,ps,[],hok f fd F,hm,F.kp,hb,.nil⟩
noncomputable def eK(Zz:List PG)(n:Nat)(N:List Str)(k:Nat)(c:cJ)(ds:List D):R D:=if ds.length=k then F_ Zz n N c ds else .bad
variable{qual:Str}{fd:fM}
section
variable{P:bJ}{w:bS}{K:PySem.W.Frag}{mg:Str->Option Value}{base:Heap}
theorem XQ{x:Str}{f:Addr}{N gl bn:List Str}{k:Nat}{Y:List G}(c:cJ)(F:qI K x qual st f fd)(S:lO N ps (cA st))(hc:mK ⟨N,cA st,gl,bn,(fun _=>true),true⟩ c (gc st)=true)
  (hg:Ah P w K mg base k gl Y) (ZA:cR K Zz Y) (lt:jQ c=true) (hb:∀x∈bn,mg x=none) (hN:ps.length<=N.length):fK P w K mg base (j5 P w) (k+1) f fd ps (FU K (eK Zz n N ps.length c)):=by
 have hm:∀ds,eK Zz n N ps.length c ds≠.bad->ds.length=ps.length/\F_ Zz n N c ds=eK Zz n N ps.length c ds:=by
  intro ds h;unfold eK at h ⊢;by_cases e:ds.length=ps.length
  ·rw[if_pos e];exact⟨e,rfl⟩
  ·rw[if_neg e]at h;exact absurd rfl h
 refine Wb c F S hc hg hb ?_ ?_
 ·rintro vs H Q E ⟨Fh,ds,s,hz,r,h⟩;rw[r.len];exact(hm ds fun z=>by rw[z]at h;exact h).1
 ·intro vs H Q E h;exact@TM ⟨E⟩ K Zz Y ZA n N c lt _ vs H Q (fun ds e=>⟨by rw[(hm ds e).1];exact hN,(hm ds e).2⟩) h
end
noncomputable def Pc:Value->Bool
|.type n=>n=="list"
|_=>false
theorem XR{a:Addr}{xs:List V}(nk:(K.all fun p=>!Pc p.2.cls)=true)(h:jt K H a xs):Rd H a (.lst xs):=by
 rcases h with h|⟨o,its,n,hk,hc,_⟩
 ·exact h
 ·exfalso;have hm:∀(K:PySem.W.Frag),K.lookup a=some o->(a,o)∈K:=by
   intro K;induction K with
   |nil=>intro z;cases z
   |cons p r ih=>
    intro z;obtain⟨b,u⟩:=p;rw[cF]at z;split at z
    ·rename_i e;have e:=eq_of_beq e;cases z;subst e;exact ao
    ·exact ai _ (ih z)
  have q:=bE.mp nk _ (hm K hk);rw[hc]at q;exact absurd q (by decide)
noncomputable def oU(ns:List Int):D:=.lst false (ns.map D.int)
theorem DE:∀ns:List Int,aD K H (ns.map D.int) (ns.map V.int)
|[]=>rfl
|n::r=>⟨_,_,rfl,rfl,DE r⟩
theorem DF:∀ns:List Int,az (ns.map D.int)=ns.map D.int
|[]=>rfl
|n::r=>by show D.int n::az (r.map D.int)=_;rw[DF r];rfl
theorem Wq{k:Nat}{f:Addr}{m:List D->R D}(F:fK P w K mg base (j5 P w) k f fd ps (FU K m))
  (h:∀ns:List Int,ns.length<=63->m [oU ns]=.ok (.bl true)):fK P w K mg base zF k f fd ps (fun vs H Q E=>∃(a:Addr) (ns:List Int),vs=[.ref a]/\Rd H a (.lst (ns.map V.int))/\ns.length<=63/\∀H',Q (.bl true) H'):=by
 refine(L3.fK.calm F).imp ?_;rintro vs H Q E ⟨a,ns,rfl,hS,hl,q⟩;have hs:=szl;refine⟨H,[oU ns],aZ.refl H,?_,⟨_,_,rfl,⟨a,ns.map V.int,rfl,hS,by rw[ah];omega,DE ns⟩,rfl⟩,?_⟩
 ·show[D.lst false (az (ns.map D.int))]=_;rw[DF];rfl
 ·rw[h ns hl];intro F' H' v fp g fr r;obtain⟨rfl,_⟩:=r;exact q H'
theorem L7{a:α}{f:α->R β}:(R.ok a).bind f=f a:=rfl
theorem pq_thn_ok'{a:α}{f:α->Fl}:(R.ok a).aY f=f a:=rfl
theorem L8{f:α->Fl}:(R.ex x:R α).aY f=Fl.ex x:=rfl
theorem pq_thnL_ok'{a:α}{f:α->Fl}:(R.ok a).mU b f=f a:=rfl
theorem JO{f:α->Fl}:(R.ex x:R α).mU true f=Fl.ex x:=rfl
theorem L_{a:α}:(R.ok a).fE=R.ok a:=rfl
theorem TN:xV (some (some (.lst true xs)))=true:=rfl
theorem Hr{a:α}:R.opt (some a)=R.ok a:=rfl
theorem Pd{r:R α}:R.bA true r=r:=rfl
theorem Ma{r:R α}(h:n<=aa):R.bA (decide (n<=aa)) r=r:=by
 rw[decide_eq_true h];rfl
variable{j:Int}
theorem Pe:kh .Add (.int i) (.int j)=.ok (.int (i+j)):=rfl
theorem Pf:kh .Sub (.int i) (.int j)=.ok (.int (i-j)):=rfl
theorem Pg(h:uB i j):kh .Mult (.int i) (.int j)=.ok (.int (i*j)):=by
 show R.bA (decide (uB i j)) _=_;rw[decide_eq_true h];rfl
theorem Ph(h:vM i j):kh .FloorDiv (.int i) (.int j)=.ok (.int (i / j)):=by
 show R.bA (decide (vM i j)) _=_;rw[decide_eq_true h];rfl
theorem Pj(h:0<j):kh .Mod (.int i) (.int j)=.ok (.int (i%j)):=by
 show R.bA (decide (0<j)) _=_;rw[decide_eq_true h];rfl
theorem Pk(h:vN i j):kh .Pow (.int i) (.int j)=.ok (.int (i ^ j.toNat)):=by
 show R.bA (decide (vN i j)) _=_;rw[decide_eq_true h];rfl
theorem Gf{x y:Str}(h:x.length+y.length<=aa):kh .Add (.str x) (.str y)=.ok (.str (x++y)):=by
 show R.bA (decide (x.length+y.length<=aa)) _=_;rw[decide_eq_true h];rfl
theorem Gg{x:Str}(h:0<=j/\j<2 ^ 40/\x.length*j.toNat<=aa):kh .Mult (.str x) (.int j)=.ok (.str (Bh x j.toNat)):=by
 show R.bA (decide (0<=j/\j<2 ^ 40/\x.length*j.toNat<=aa)) _=_;rw[decide_eq_true h];rfl
variable{ys:List D}
theorem xY{o':Bool}(h:xs.length+ys.length<=aa):kh .Add (.lst o xs) (.lst o' ys)=.ok (.lst true (az xs++az ys)):=by
 show R.bA (decide (xs.length+ys.length<=aa)) _=_;rw[decide_eq_true h];rfl
theorem TQ:cL .Lt (.int i) (.int j)=.ok (.bl (decide (i<j))):=rfl
theorem Pn:cL .LtE (.int i) (.int j)=.ok (.bl (decide (i<=j))):=rfl
theorem TR:cL .Gt (.int i) (.int j)=.ok (.bl (decide (j<i))):=rfl
theorem Po:cL .GtE (.int i) (.int j)=.ok (.bl (decide (j<=i))):=rfl
theorem Mb{x y:Str}:cL .LtE (.str x) (.str y)=.ok (.bl (!decide (y.cps.toList<x.cps.toList))):=rfl
theorem Mc:cL .Eq (.int i) (.int j)=.ok (.bl (i==j)):=rfl
theorem Me:cL .NotEq (.int i) (.int j)=.ok (.bl (!(i==j))):=rfl
theorem Mf{x:Str}{y:Str}:cL .Eq (.str x) (.str y)=.ok (.bl (x==y)):=rfl
theorem Mg{x:Str}{y:Str}:cL .NotEq (.str x) (.str y)=.ok (.bl (!(x==y))):=rfl
theorem TU:cL .Is x .non=.ok (.bl (nK x)):=rfl
theorem IE(h:cN x=true)(h':cN y=true):cL .Eq x y=.ok (.bl (jj x y)):=by
 show R.bA (cN x&&cN y) _=_;rw[h,h'];rfl
theorem Cw(h:cN x=true)(h':cN y=true):cL .NotEq x y=.ok (.bl (!jj x y)):=by
 show R.bA (cN x&&cN y) _=_;rw[h,h'];rfl
theorem r6(h:cN x=true)(h':eY ys=true):cL .In x (.lst o ys)=.ok (.bl (memD x ys)):=by
 show R.bind (R.bA (cN x&&eY ys) _) _=_;rw[h,h'];rfl
theorem pq(h:cN x=true)(h':eY ys=true):cL .NotIn x (.lst o ys)=.ok (.bl (!memD x ys)):=by
 show R.bind (R.bA (cN x&&eY ys) _) _=_;rw[h,h'];rfl
theorem As(h:cN x=true)(h':eY ys=true):cL .In x (.tup ys)=.ok (.bl (memD x ys)):=by
 show R.bind (R.bA (cN x&&eY ys) _) _=_;rw[h,h'];rfl
theorem TV:jo (.bl b)=.ok b:=rfl
variable{z:Str}
theorem Pp:mz (.str z) (.int i)=(R.opt (cH z.cps.toList i)).bind fun c=>.ok (.str ⟨#[c]⟩):=rfl
theorem Pq:mz (.lst o xs) (.int i)=(R.opt (cH xs i)).bind fun d=>.ok (bC d):=rfl
theorem Pr:mz (.tup xs) (.int i)=(R.opt (cH xs i)).bind fun d=>.ok (bC d):=rfl
theorem Pu:Io (.str z) lo hi=.ok (.str ⟨(cut z.cps.toList lo hi).toArray⟩):=rfl
theorem Pw:Io (.lst o xs) lo hi=.ok (.lst true (az (cut xs lo hi))):=rfl
theorem Mh:i9 .len [.str z]=.ok (.int z.length):=rfl
theorem Mi:i9 .len [.lst o xs]=.ok (.int xs.length):=rfl
theorem Px:i9 .all [.lst o xs]=R.bA (xs.all mL) (.ok (.bl (xs.all lT))):=rfl
theorem Mj:i9 .list [.lst o xs]=.ok (.lst true (az xs)):=rfl
theorem Py:i9 .sum [.lst o xs]=R.bA (xs.all rW) (.ok (.int (xs.map intD).sum)):=rfl
variable{q:Str}
theorem Hs:ki .startswith (.str z) [.str q]=.ok (.bl (q.cps.toList.isPrefixOf z.cps.toList)):=rfl
theorem Bt(h:q.length=1)(h':z.length+2<=aa):ki .split (.str z) [.str q]=.ok (.lst true (p6 (q.cps.getD 0 0) z.cps.toList)):=by
 show R.bA (decide (q.length=1)&&decide (z.length+2<=aa)) _=_;rw[decide_eq_true h,decide_eq_true h'];rfl
theorem Mk:ki .join (.str z) [.lst o ys]=(R.opt (ph ys)).bind fun ss=>R.bA (decide ((ss.map (·.length)).sum+ss.length*z.length<=aa)) (.ok (.str (fB z ss))):=rfl
theorem Pz:qv (.str z)=.ok (u7 z):=rfl
theorem PC:qv (.lst o xs)=.ok (az xs):=rfl
theorem Wr(h:-(2 ^ 62)<=j/\j.toNat<=aa):rX [.int j]=.ok (k9 0 j.toNat):=by
 show R.bA (decide (-(2 ^ 62)<=j/\j.toNat<=aa)) _=_;rw[decide_eq_true h];rfl
theorem PD:xO .non=.ok .non:=rfl
theorem TX:xO (.bl b)=.ok (.bl b):=rfl
theorem PF:xO (.int i)=.ok (.int i):=rfl
theorem PJ{x:Str}:xO (.str x)=.ok (.str x):=rfl
theorem PK:bC .non=.non:=rfl
theorem PL:bC (.int i)=.int i:=rfl
theorem PM{x:Str}:bC (.str x)=.str x:=rfl
theorem wj:bC (.lst o xs)=.lst false (az xs):=rfl
theorem PN:bC (.tup xs)=.tup (az xs):=rfl
theorem tP:az []=[]:=rfl
theorem q_{r:List D}:az (d::r)=bC d::az r:=rfl
theorem PR:aQ .non=true:=rfl
theorem PU:aQ (.int i)=true:=rfl
theorem PX{x:Str}:aQ (.str x)=true:=rfl
theorem PY:aQ (.lst o xs)=(o&&cD xs):=rfl
theorem PZ:aQ (.tup xs)=cD xs:=rfl
theorem Ml:cD []=true:=rfl
theorem JP{r:List D}:cD (d::r)=(aQ d&&cD r):=rfl
variable{O:bz}
theorem Ws:iP is true O=O:=rfl
theorem Wt:iP is false O=mO is O:=rfl
theorem Mm:mO [] O=O:=rfl
theorem JQ{i:Nat}:mO (i::is) O=mO is (mW i O):=rfl
theorem TY{o:Option D}{r:bz}:mW 0 (o::r)=o.map bC::r:=rfl
theorem TZ{o:Option D}{r:bz}:mW (n+1) (o::r)=o::mW n r:=rfl
theorem T3:F9 (.ex x)=.ex x:=rfl
theorem T4:F9 (.nx O)=.ok .non:=rfl
theorem T5:F9 (.rt d)=.ok d:=rfl
noncomputable def E5(O:bz)(i:Nat):R D:=match O[i]? with
|some (some d)=>.ok (bC d)
|_=>.bad
noncomputable def E6(O:bz)(i:Nat):R D:=match O[i]? with
|some (some d)=>.ok d
|_=>.bad
noncomputable def wm(x:Fl)(f:bz->Fl):Fl:=match x with
|.nx O=>f O
|x=>x
noncomputable def JR(Y:List PG)(g:Nat):R D:=match Y[g]? with
|some (.val d)=>.ok (bC d)
|_=>.bad
noncomputable def Au(Y:List PG)(g:Nat)(r:R (List D)):R D:=match Y[g]? with
|some (.fn m dds)=>r.bind fun ds=>m (az ds++dds)
|_=>.bad
noncomputable def JS{α:Type}(c:R Bool)(a b:R α):R α:=c.bind fun k=>if k=true then a else b
noncomputable def Yl(c:R Bool)(a b:Fl):Fl:=c.aY fun k=>if k=true then a else b
noncomputable def Wu(x:D)(b:R D):R D:=match x with
|.bl c=>if c=true then b else .ok (.bl false)
|_=>.bad
noncomputable def Ym(x:D)(b:R D):R D:=match x with
|.bl c=>if c=true then .ok (.bl true)else b
|_=>.bad
noncomputable def Wv:D->R D
|.int i=>.ok (.int (-i))
|_=>.bad
noncomputable def Ww:D->R (Option Int)
|.int i=>.ok (some i)
|_=>.bad
noncomputable def Yn(z:D)(r:R D):R D:=match z with
|.bl k=>if k=true then r else .ok (.bl false)
|_=>.bad
noncomputable def Yo(z:D)(r:R Bool):R Bool:=match z with
|.bl k=>if k=true then r else .ok false
|_=>.bad
noncomputable def Wx:D->R Bool
|.bl k=>.ok k
|_=>.bad
noncomputable def Yp:D->R (Bool×List D)
|.lst o xs=>.ok (aQ (.lst o xs),jg 0 (az xs))
|_=>.bad
noncomputable def P0(k:Nat)(vs:List Nat)(O:bz)(d:D):Fl:=match O[k]? with
|some (some (.lst true xs))=>if(decide (xs.length<aa)&&(aQ d||!vs.contains k))=true then .nx ((iP vs (aQ d) O).set k (some (.lst true (xs++[d]))))else .bad
|_=>.bad
noncomputable def P_(k:Nat)(O:bz)(j d:D):Fl:=match j with
|.int j=>match O[k]? with
 |some (some (.lst true xs))=>if(decide (0<=j/\j<2 ^ 40/\xs.length<aa)&&aQ d)=true then .nx (O.set k (some (.lst true (xs.take j.toNat++d::xs.drop j.toNat))))else .bad
 |_=>.bad
|_=>.bad
noncomputable def iy(k:Nat)(vs:List Nat)(O:bz)(d j:D):Fl:=match O[k]? with
|some (some x)=>if(aQ d||!vs.contains k)=true then(R.opt (putIn x d j)).aY fun x'=>.nx ((iP vs (aQ d) O).set k (some x'))else .bad
|_=>.bad
noncomputable def JT(Y:List PG)(g:Nat)(r:R (List D)):Fl:=match Y[g]? with
|some (.cls C fs k)=>r.aY fun ds=>if(decide (ds.length+1=k)&&decide (fs.map (·.1)).Nodup)=true then .ex (Bp C fs ds)else .bad
|_=>.bad
noncomputable def Qa(Y:List PG)(n i g:Nat)(h:cJ)(O:bz)(r:R D):Fl:=match Y[g]? with
|some (.exb Cs)=>match r with
 |.ok _=>.nx O
 |.ex (.exc C ks xs)=>if(decide (C∈Cs)&&jP xs)=true then xW i (bM (Y.map PG.hand) n h (O.set i (some (.exc C ks xs))))else .bad
 |_=>.bad
|_=>.bad
theorem Qc{r:bz}:E5 (some d::r) 0=.ok (bC d):=rfl
theorem Qd{o:Option D}{r:bz}:E5 (o::r) (n+1)=E5 r n:=rfl
theorem Mn{r:bz}:E6 (some d::r) 0=.ok d:=rfl
theorem Mp{o:Option D}{r:bz}:E6 (o::r) (n+1)=E6 r n:=rfl
theorem Mq{f:bz->Fl}:wm (.nx O) f=f O:=rfl
theorem Mr{f:bz->Fl}:wm (.rt d) f=.rt d:=rfl
theorem Ms{f:bz->Fl}:wm (.ex x) f=.ex x:=rfl
theorem Mu{f:bz->Fl}:wm (.ct O) f=.ct O:=rfl
variable{r:List PG}
theorem T6:JR (.val d::r) 0=.ok (bC d):=rfl
theorem T8{o:PG}:JR (o::r) (n+1)=JR r n:=rfl
theorem T9{m:List D->R D}{dds:List D}{x:R (List D)}:Au (.fn m dds::r) 0 x=x.bind fun ds=>m (az ds++dds):=rfl
theorem T_{o:PG}{x:R (List D)}:Au (o::r) (n+1) x=Au r n x:=rfl
theorem Mv{k:Bool}{a b:R α}:JS (.ok k) a b=if k=true then a else b:=rfl
theorem Qe{k:Bool}{a b:Fl}:Yl (.ok k) a b=if k=true then a else b:=rfl
theorem Mw{c:Bool}{b:R D}:Wu (.bl c) b=if c=true then b else .ok (.bl false):=rfl
theorem Qf{c:Bool}{b:R D}:Ym (.bl c) b=if c=true then .ok (.bl true)else b:=rfl
theorem Qg:Wv (.int i)=.ok (.int (-i)):=rfl
theorem Qh:Ww (.int i)=.ok (some i):=rfl
theorem Qi{k:Bool}{r:R D}:Yn (.bl k) r=if k=true then r else .ok (.bl false):=rfl
theorem Mx{k:Bool}{r:R Bool}:Yo (.bl k) r=if k=true then r else .ok false:=rfl
theorem Qj{k:Bool}:Wx (.bl k)=.ok k:=rfl
theorem Ua:Yp (.lst o xs)=.ok (aQ (.lst o xs),jg 0 (az xs)):=rfl
variable{Y:List PG}
theorem Qk{i:Nat}:pE Y (.var i) O=E5 O i:=rfl
theorem Ql:pE Y (.con v) O=xO v:=rfl
theorem Qm:pE Y (.glo g) O=JR Y g:=rfl
theorem Qn{b:CE}:pE Y (.bin op a b) O=(pE Y a O).bind fun x=>(pE Y b O).bind fun y=>kh op x y:=rfl
theorem Qo:pE Y (.neg a) O=(pE Y a O).bind Wv:=by
 show(pE Y a O).bind _=_;congr
theorem Qp:pE Y (.not a) O=(pE Y a O).bind fun x=>(jo x).bind fun b=>.ok (.bl (!b)):=rfl
theorem Qq{b:CE}:pE Y (.and a b) O=(pE Y a O).bind fun x=>Wu x (pE Y b O):=rfl
theorem Ub{b:CE}:pE Y (.or a b) O=(pE Y a O).bind fun x=>Ym x (pE Y b O):=rfl
variable{c:CE}
theorem Qs{b:CE}:pE Y (.ite c a b) O=JS (pT Y c O) (pE Y a O) (pE Y b O):=rfl
theorem Qt{op:n9}{b:CE}:pE Y (.cmp op a b) O=(pE Y a O).bind fun x=>(pE Y b O).bind fun y=>cL op x y:=rfl
variable{o1 o2:n9}
theorem JU{b:CE}:pE Y (.chain o1 o2 a b c) O=(pE Y a O).bind fun x=>(pE Y b O).bind fun y=>(cL o1 x y).bind fun z=>Yn z ((pE Y c O).bind fun u=>cL o2 y u):=rfl
theorem My:pE Y (.call g as) O=Au Y g (eS Y as O):=rfl
theorem Qu{f:Bf}:pE Y (.blt f as) O=(eS Y as O).bind (i9 f):=rfl
theorem Qv{o:CE}:pE Y (.mth m o as) O=(pE Y o O).bind fun x=>(eS Y as O).fE.bind fun ds=>ki m x ds:=rfl
theorem Uc{b:CE}:pE Y (.ix a b) O=(pE Y a O).bind fun x=>(pE Y b O).bind fun y=>mz x y:=rfl
theorem Ud{lo hi:CO}:pE Y (.sl a lo hi) O=(pE Y a O).bind fun x=>(pO Y lo O).bind fun l=>(pO Y hi O).bind fun h=>Io x l h:=rfl
theorem Qw:pE Y (.lst as) O=(eS Y as O).bind fun ds=>R.bA (decide (ds.length<=aa)) (.ok (.lst true ds)):=by
 rfl
theorem Qx:pE Y (.tup as) O=(eS Y as O).bind fun ds=>R.bA (decide (ds.length<=aa)) (.ok (.tup ds)):=by
 rfl
theorem Qy:pE Y .dct O=.ok (.bZ true [] []):=rfl
variable{elt:CE}{tg:CG}{cond:CO}
theorem Mz:pE Y (.comp nl fr elt tg src cond) O=(pI Y src O).bind fun items=>(fG (pG tg) (pC Y cond) (pE Y elt) items.2 (nl.map (fun _=>none)++fr.map (fun i=>O.getD i none))).fE.bind fun ds=>.ok (.lst true ds):=rfl
theorem Qz:pT Y (.not a) O=(pT Y a O).bind fun b=>.ok (!b):=rfl
theorem QB{b:CE}:pT Y (.and a b) O=JS (pT Y a O) (pT Y b O) (.ok false):=rfl
theorem Ue{b:CE}:pT Y (.or a b) O=JS (pT Y a O) (.ok true) (pT Y b O):=rfl
theorem QC{op:n9}{b:CE}:pT Y (.cmp op a b) O=(pE Y a O).bind fun x=>(pE Y b O).bind fun y=>(cL op x y).bind Wx:=rfl
theorem JV{b:CE}:pT Y (.chain o1 o2 a b c) O=(pE Y a O).bind fun x=>(pE Y b O).bind fun y=>(cL o1 x y).bind fun z=>Yo z ((pE Y c O).bind fun u=>(cL o2 y u).bind Wx):=rfl
theorem MA:pT Y (.call g as) O=(Au Y g (eS Y as O)).bind jo:=by
 show(match Y[g]? with|some (.fn m dds)=>((eS Y as O).bind fun ds=>m (az ds++dds)).bind jo|_=>.bad)=_;unfold Au;cases Y[g]? with
 |none=>rfl
 |some p=>cases p<;>rfl
theorem QD{f:Bf}:pT Y (.blt f as) O=((eS Y as O).bind (i9 f)).bind jo:=rfl
theorem QE{o:CE}:pT Y (.mth m o as) O=(pE Y o O).bind fun x=>(eS Y as O).fE.bind fun ds=>(ki m x ds).bind jo:=rfl
theorem MB:eS Y .nil O=.ok []:=rfl
theorem JW{r:j6}:eS Y (.cons a r) O=(pE Y a O).bind fun x=>(eS Y r O).bind fun xs=>.ok (x::xs):=rfl
theorem MC:pO Y .none O=.ok none:=rfl
theorem MD:pO Y (.some a) O=(pE Y a O).bind Ww:=rfl
theorem ME:pC Y .none=fun _=>.ok true:=rfl
theorem MF:pC Y (.some a)=pT Y a:=rfl
theorem MG{i:Nat}:pG (.name i) d O=.ok (O.set i (some d)):=rfl
theorem QF{gs:j7}:pG (.tup gs) (.tup ds) O=R.bA (decide (ds.length=gs.len)) (wY gs ds O):=rfl
theorem MH:wY .nil [] O=.ok O:=rfl
theorem JX{g:CG}{r:j7}{dr:List D}:wY (.cons g r) (d::dr) O=(pG g d O).bind fun ZC=>wY r dr ZC:=rfl
theorem QG:pI Y (.seq a) O=(pE Y a O).bind fun x=>(qv x).bind fun ds=>.ok (aQ x,ds):=rfl
theorem JY:pI Y (.range as) O=(eS Y as O).bind fun xs=>(rX xs).bind fun ds=>.ok (true,ds):=rfl
theorem MI:pI Y (.enum a) O=(pE Y a O).bind Yp:=by
 show(pE Y a O).bind _=_;congr 1;funext x;cases x<;>rfl
theorem MJ:bM Y n .nil O=.nx O:=rfl
theorem JZ{r:cJ}:bM Y n (.cons s r) O=wm (pS Y n s O) (bM Y n r):=by
 show(match pS Y n s O with|.nx ZC=>bM Y n r ZC|x=>x)=_;unfold wm;cases pS Y n s O<;>rfl
theorem QH{k:Nat}:pS Y n (.expr (.mth .append (.var k) (.cons a .nil))) O=(pE Y a O).mU (xV O[k]?) (P0 k (cO a) O):=rfl
theorem QI{k:Nat}{i:CE}:pS Y n (.expr (.mth .insert (.var k) (.cons i (.cons a .nil)))) O=(pE Y i O).mU false fun j=>(pE Y a O).mU false fun d=>P_ k O j d:=rfl
theorem QJ{i:Nat}:pS Y n (.asg (.name i) e) O=(pE Y e O).aY fun d=>.nx ((iP (cO e) (aQ d) O).set i (some d)):=rfl
theorem QK{k:Nat}{i:CE}:pS Y n (.asg (.sub (.var k) i) e) O=(pE Y e O).aY fun d=>(pE Y i (iP (cO e) (aQ d) O)).mU false fun j=>iy k (cO e) O d j:=rfl
theorem MK{i:Nat}:pS Y n (.casg i e) O=(pE Y e O).aY fun d=>.nx ((iP (cO e) (aQ d) O).set i (some d)):=rfl
theorem QL:pS Y n (.ret e) O=(pM Y e O).aY .rt:=rfl
theorem QM{a b:cJ}:pS Y n (.ifs c a b) O=Yl (pT Y c O) (bM Y n a O) (bM Y n b O):=rfl
theorem ML{g:CG}{b:cJ}:pS Y n (.forr g src b) O=(pI Y src O).aY fun items=>forR (pG g) (bM Y n b) items.2 (iP (u9 src) items.1 O):=rfl
theorem MM{g:CG}{k:Nat}{b:cJ}(h:O[k]?=some (some (.bZ true ks xs))):pS Y n (.fork g k b) O=forR (pG g) (bM Y n b) (ks.map eN) (O.set k (some (.pdc ks (az xs)))):=by
 show(match O[k]? with|some (some (.bZ true ks xs))=>forR (pG g) (bM Y n b) (ks.map eN) (O.set k (some (.pdc ks (az xs))))|some (some (.pdc ks xs))=>forR (pG g) (bM Y n b) (ks.map eN) O|_=>.bad)=_;rw[h]
theorem DG{g:CG}{k:Nat}{b:cJ}(h:O[k]?=some (some (.pdc ks xs))):pS Y n (.fork g k b) O=forR (pG g) (bM Y n b) (ks.map eN) O:=by
 show(match O[k]? with|some (some (.bZ true ks xs))=>forR (pG g) (bM Y n b) (ks.map eN) (O.set k (some (.pdc ks (az xs))))|some (some (.pdc ks xs))=>forR (pG g) (bM Y n b) (ks.map eN) O|_=>.bad)=_;rw[h]
theorem QN:aQ (.bZ o ks xs)=(o&&cD xs):=rfl
theorem QO:aQ (.pdc ks xs)=false:=rfl
theorem QR:bC (.pdc ks xs)=.pdc ks (az xs):=rfl
theorem MN{x:Str}:mz (.pdc ks xs) (.str x)=(R.opt (k8 ks xs (.inr x))).bind fun d=>.ok (bC d):=rfl
theorem MO:pS Y n (.rais g as) O=JT Y g (eS Y as O):=rfl
variable{fs:List (Str×Nat)}{C:Addr}
theorem Ug{k:Nat}{x:R (List D)}:JT (.cls C fs k::r) 0 x=x.aY fun ds=>if(decide (ds.length+1=k)&&decide (fs.map (·.1)).Nodup)=true then .ex (Bp C fs ds)else .bad:=rfl
theorem Uh{o:PG}{x:R (List D)}:JT (o::r) (n+1) x=JT r n x:=rfl
variable{h:cJ}
theorem QS{i:Nat}{b:CB}:pS Y n (.tri i g b h) O=Qa Y n i g h O (pB Y b O):=rfl
theorem MP:pB Y (.call g as) O=Au Y g (eS Y as O).fE:=rfl
variable{Cs:List Addr}
theorem DH{i:Nat}{ks:List Str}(e:Y[g]?=some (.exb Cs))(hC:C∈Cs)(hf:jP xs=true):Qa Y n i g h O (.ex (.exc C ks xs))=xW i (bM (Y.map PG.hand) n h (O.set i (some (.exc C ks xs)))):=by
 unfold Qa;rw[e];simp only[hC,hf,decide_true,Bool.and_self,if_true]
theorem QT{i:Nat}:xW i (.nx O)=.nx (O.set i none):=rfl
theorem Bu(h:(eW z).length<=aa)(h':((eW z).all fun w=>decide (w.length<=aa))=true):ki .split (.str z) []=.ok (.lst true ((eW z).map D.str)):=by
 show R.bA (decide ((eW z).length<=aa)&&_) _=_;rw[decide_eq_true h,h'];rfl
theorem Gh{ks:List Str}:bC (.exc C ks xs)=.exc C ks (az xs):=rfl
theorem QU{ks:List Str}:aQ (.exc C ks xs)=false:=rfl
theorem MQ:pS Y n .cont O=.ct O:=rfl
theorem QV{i:Nat}:pM Y (.var i) O=E6 O i:=rfl
theorem QW:pM Y (.con v) O=pE Y (.con v) O:=rfl
theorem QX{b:CE}:pM Y (.bin op a b) O=pE Y (.bin op a b) O:=rfl
theorem QY:pM Y (.not a) O=pE Y (.not a) O:=rfl
theorem QZ{b:CE}:pM Y (.and a b) O=pE Y (.and a b) O:=rfl
theorem Ui{b:CE}:pM Y (.or a b) O=pE Y (.or a b) O:=rfl
theorem Q0{b:CE}:pM Y (.ite c a b) O=pE Y (.ite c a b) O:=rfl
theorem MR:pM Y (.call g as) O=pE Y (.call g as) O:=rfl
theorem Q2{f:Bf}:pM Y (.blt f as) O=pE Y (.blt f as) O:=rfl
theorem Q3{o:CE}:pM Y (.mth m o as) O=pE Y (.mth m o as) O:=rfl
theorem Uj{b:CE}:pM Y (.ix a b) O=pE Y (.ix a b) O:=rfl
theorem Q4:pM Y (.lst as) O=pE Y (.lst as) O:=rfl
theorem MS:pM Y (.comp nl fr elt tg src cond) O=pE Y (.comp nl fr elt tg src cond) O:=rfl
theorem Q5:pM Y (.tup as) O=(qK Y as O).alt (fun ds=>R.bA (decide (ds.length<=aa)) (.ok (.tup ds))) (pE Y (.tup as) O):=by
 rfl
theorem MT:qK Y .nil O=.ok []:=rfl
theorem MU{a:α}{f:α->R β}{y:R β}:(R.ok a:R α).alt f y=f a:=rfl
theorem Q6{b:CE}{r:j6}:qK Y (.cons (.ix a b) r) O=(pE Y (.ix a b) O).bind fun d=>R.bA (aQ d) ((qK Y r O).bind fun ds=>.ok (d::ds)):=rfl
theorem MV{r:j6}:qK Y (.cons (.lst as) r) O=(pE Y (.lst as) O).bind fun d=>R.bA (aQ d) ((qK Y r O).bind fun ds=>.ok (d::ds)):=rfl
theorem Q7:i9 .max [.int i,.int j]=.ok (.int (if j>i then j else i)):=rfl
theorem eU{k:Nat}{vs:List Nat}(h:O[k]?=some (some (.lst true xs)))(h1:xs.length<aa)(h2:(aQ d||!vs.contains k)=true):P0 k vs O d=.nx ((iP vs (aQ d) O).set k (some (.lst true (xs++[d])))):=by
 unfold P0;simp only[h];rw[decide_eq_true h1,h2];rfl
theorem DJ{k:Nat}(h:O[k]?=some (some (.lst true xs)))(h1:0<=j/\j<2 ^ 40/\xs.length<aa)(h2:aQ d=true):P_ k O (.int j) d=.nx (O.set k (some (.lst true (xs.take j.toNat++d::xs.drop j.toNat)))):=by
 unfold P_;simp only[h];rw[decide_eq_true h1,h2];rfl
theorem DK{k:Nat}{vs:List Nat}{j x':D}(h:O[k]?=some (some x))(h1:(aQ d||!vs.contains k)=true)(h2:putIn x d j=some x'):iy k vs O d j=.nx ((iP vs (aQ d) O).set k (some x')):=by
 unfold iy;simp only[h];rw[h1,h2];rfl
theorem iQ{g:D->bz->R bz}{e:bz->R D}(enc:β->D)(I:bz->Prop)(f:β->D):∀(xs:List β) (O:bz),I O->(∀x∈xs,∀O,I O->∃ZE,g (enc x) O=.ok ZE/\I ZE/\e ZE=.ok (f x))->fG g (fun _=>.ok true) e (xs.map enc) O=.ok (xs.map f)
|[],O,_,_=>rfl
|x::r,O,hi,h=>by
 obtain⟨ZE,h1,h2,h3⟩:=h x ao O hi;have ih:=iQ enc I f r ZE h2 fun y hy=>h y (ai _ hy);show(g (enc x) O).bind _=_;rw[h1];simp only[R.bind,if_true,h3,ih];rfl
theorem r9{g:D->bz->R bz}{c:bz->R Bool}{e:bz->R D}(enc:β->D)(I:bz->Prop)(p:β->Bool)(f:β->D):∀(xs:List β) (O:bz),I O->(∀x∈xs,∀O,I O->∃ZE,g (enc x) O=.ok ZE/\I ZE/\c ZE=.ok (p x)/\e ZE=.ok (f x))->fG g c e (xs.map enc) O=.ok ((xs.filter p).map f)
|[],O,_,_=>rfl
|x::r,O,hi,h=>by
 obtain⟨ZE,h1,h2,h3,h4⟩:=h x ao O hi;have ih:=r9 enc I p f r ZE h2 fun y hy=>h y (ai _ hy);show(g (enc x) O).bind _=_;rw[h1];simp only[R.bind,h3];cases q:p x with
 |true=>rw[if_pos rfl,dQ q,h4];simp only[R.bind,ih];rfl
 |false=>rw[if_neg (by decide),gP (by simp[q])];exact ih
noncomputable def E7(K:PySem.W.Frag)(C:Addr)(as:List Str):Bool:=
 (PySem.W.findIn K (.ref C) "__getattribute__"==some (some (.builtin "BaseException.__getattribute__")))&&(PySem.W.findIn K (.ref C) "__getattr__"==some none)&&(PySem.W.findIn K (.ref C) "__setattr__"==some (some (.builtin "object.__setattr__")))
 && PySem.W.hasDictIn K C&&(PySem.W.mroIn K C (.type "BaseException")==some true)&&(PySem.W.mroIn K C (.type "object")==some true)&&(PySem.W.clsIn K C).any (fun cd=>uY cd.mro)
 && (PySem.W.findIn K (.ref C) "__class__"==some (some (.builtin "object.__class__")))&&as.all (fun f=>PySem.W.findIn K (.ref C) f==some none)
theorem Uk{as:List Str}(h:E7 K C as=true)(hn:PySem.W.specialIn K (.builtin "object.__class__") "__get__"=some (some (.builtin "getset_descriptor.__get__")))(htk:PySem.W.takesIn K (.builtin "object.__class__")=some true) :
  uZ K C/\uG K C/\∀f∈as,ju K C f:=by
 unfold E7 at h;simp only[bq,beq_iff_eq,bE]at h;obtain⟨⟨⟨⟨⟨⟨⟨⟨h1,h2⟩,h3⟩,h4⟩,h5⟩,h6⟩,h7⟩,h8⟩,h9⟩:=h;have c:xB K C:=⟨h1,h2,h3,h4,h5,h6⟩;exact⟨{ c with tl:=h7 },{ c with ha:=h8,hn:=hn,htk:=htk },h9⟩
theorem Q8{as:List Str}(h:(Cs.all fun C=>E7 K C as)=true)(hn:PySem.W.specialIn K (.builtin "object.__class__") "__get__"=some (some (.builtin "getset_descriptor.__get__")))(htk:PySem.W.takesIn K (.builtin "object.__class__")=some true) :
  ∀C∈Cs,uZ K C/\uG K C/\∀f∈as,ju K C f:=fun C hC=>Uk (bE.mp h C hC) hn htk
theorem jw{D:Addr}{as:List Str}(hx:∀C∈Cs,uZ K C/\uG K C/\∀f∈as,ju K C f)(h0:PySem.W.kitOne K (.type "NoneType") (.ref D)=some false)(h:(Cs.all fun C=>PySem.W.kitOne K (.ref C) (.ref D)==some (decide (C=D)))=true):gY K D Cs:=
 ⟨h0,fun C hC=>⟨(hx C hC).2.1,by simpa using bE.mp h C hC⟩⟩
theorem Wy{as:List Str}(hx:∀C∈Cs,uZ K C/\uG K C/\∀f∈as,ju K C f)(h0:PySem.W.kitOne K (.type "NoneType") (.type "ValueError")=some false)(h:(Cs.all fun C=>PySem.W.kitOne K (.ref C) (.type "ValueError")==some true)=true):tL K Cs as:=
 ⟨h0,fun C hC=>⟨(hx C hC).2.1,by simpa using bE.mp h C hC,(hx C hC).2.2⟩⟩
variable{B:Addr}
theorem Wz(h:(Cs.all fun C=>PySem.W.mroIn K C (.ref B)==some true)=true):∀C∈Cs,PySem.W.mroIn K C (.ref B)=some true:=fun C hC=>by simpa using bE.mp h C hC
def Gi(K:PySem.W.Frag)(B:Addr):Prop:=∃c0 dB cd sl c1 d1 es ep s1,K.lookup B=some ⟨c0,dB,.cls cd,sl⟩/\K.lookup cd.ns=some ⟨c1,d1,.dict es ep,s1⟩/\(es.all fun e=>match e.key with|.str _ _=>true|_=>false)=true/\BV es "__init__"=none
theorem WA{fI N:Addr}{as:List Str}{nm:Str}{bs:List Value}{hdct:Bool}{sn:List Str}{sub:List Value}{ab:Bool}{col:Option Bool}{dd:Option Addr}{k0 k1 k2 k3 k5:Option Value}
  (hx:uZ K C/\uG K C/\∀f∈as,ju K C f) (xi:PySem.W.findIn K (.ref C) "__init__"=some (some (.ref fI))) (xf:PySem.W.typeIn K (.ref fI)=some (.type "function")) (xk:PySem.W.keepIn K (.ref C)=true)
  (xl:K.lookup C=some (iT nm q C N bs (.ref B::[.type "ValueError",.type "Exception",.type "BaseException",.type "object"]) hdct sn sub ab col dd k0 k1 k2 k3 k5 "ValueError.__new__")) (xb:Gi K B) (F:qI K "__init__" qual st fI fd) (hb:Binds K fd ps []) (S:lO ps ps (cA st))
  (ha:∀p∈fs,p.1∈as) (hc:rF ps fs (gc st)=true) (hd:∀x∈ps,(x==("__debug__":Str))=false/\(x==("__classdict__":Str))=false) (hj:∀p∈fs,p.2<ps.length/\1<=p.2) (hl:fs.length<=900) (h0:0<fs.length) (hp:ps.length<=1000):E1 P w K mg base 1 C fs ps.length:=
 ⟨fI,fd,ps,{ hx.1 with ini:=xi,fn:=xf,kp:=xk,cls:=⟨_,_,_,_,_,_,_,_,_,_,_,_,_,_,_,_,xl,xb⟩ },S_ F S hx.1 (fun p hp=>hx.2.2 p.1 (ha p hp)) hc hd (fun p hp=>(hj p hp).1) hl h0,hb,hp,fun p hp=>(hj p hp).2,rfl⟩
end L3
end
local macro_rules | `(tactic| simp_arith $c:optConfig [$ls,*]) => do let q <- ("L7 pq_thn_ok' L8 pq_thnL_ok' JO L_ TN Hr Pd Ma Pe Pf Pg Ph Pj Pk Gf Gg xY TQ Pn TR Po Mb Mc Me Mf Mg TU IE Cw r6 pq As TV Pp Pq Pr Pu Pw Mh Mi Px Mj Py Hs Bt Mk Pz PC Wr PD TX PF PJ PK PL PM wj PN tP q_ PR PU PX PY PZ Ml JP Ws Wt Mm JQ TY TZ T3 T4 T5 Qc Qd Mn Mp Mq Mr Ms Mu T6 T8 T9 T_ Mv Qe Mw Qf Qg Qh Qi Mx Qj Ua Qk Ql Qm Qn Qo Qp Qq Ub Qs Qt JU My Qu Qv Uc Ud Qw Qx Qy Mz Qz QB Ue QC JV MA QD QE MB JW MC MD ME MF MG QF MH JX QG JY MI MJ JZ QH QI QJ QK MK QL QM ML MM DG QN QO QR MN MO Ug Uh QS MP DH QT Bu Gh QU MQ QV QW QX QY QZ Ui Q0 MR Q2 Q3 Uj Q4 MS Q5 MT MU Q6 MV Q7 eU DJ DK eK F_ cO nL LP u9 vc j7.len aV jY aW dm ah m6 dw bY bV List.replicate_zero List.getElem?_cons_zero l_ List.set_cons_zero List.set_cons_succ List.getD_cons_zero List.getD_cons_succ Nat.reduceAdd Nat.reduceSub Nat.zero_add tu bX aC aB gU Nat.reduceEqDiff or_false true_or false_or not_false_eq_true and_self and_true true_and and_false false_and decide_true Bool.not_true Bool.not_false G0 Bool.or_false EM gK Bool.true_and vC vv if_true if_false Bool.false_eq_true Option.map_some beq_self_eq_true ne_eq".splitOn " ").toArray.mapM fun x => `(Lean.Parser.Tactic.simpLemma| $(Lean.mkIdent x.toName):ident); `(tactic| simp $c:optConfig (disch := first | assumption | (with_reducible rfl) | (show L3.cN _ = true; rfl) | omega | (unfold L2.uB; omega) | (unfold L2.vM; omega) | (simp only [aW, dm, ah, aE]; omega)) only [$q,*, $ls,*])
section
namespace L3
open PySem L2
structure FD where
 n:Str
 s:Stmt
 N:List Str
 k:Nat
 gl:List Str
def FD.ps(d:FD):List Str:=d.N.take d.k
noncomputable def So(N P:List Str)(sc:fP):Bool:=(match sc.kind with|.function=>true|_=>false)&&(!sc.isCoroutine&&(!sc.isGenerator&&(decide N.Nodup&&(decide (N.take P.length=P)&&(decide (∀x∈P,sc.names.lookup x=some .local\/sc.names.lookup x=some .cell)&&decide (∀y∈sc.names,y.2≠.free))))))
theorem Bg{N P:List Str}{sc:fP}(h:So N P sc=true):lO N P sc:=by
 unfold So at h;simp only[bq,decide_eq_true_eq,zv]at h;obtain⟨h1,h2,h3,h4,h5,h6,h7⟩:=h;refine⟨?_,h2,h3,h4,h5,h6,h7⟩;revert h1;cases sc.kind<;>intro h1<;>first|rfl|cases h1
noncomputable def FD.fh(bn:List Str)(d:FD)(c:cJ):Bool:=mK ⟨d.N,cA d.s,d.gl,bn,(fun _=>true),true⟩ c (gc d.s)&&(So d.N d.ps (cA d.s)&&(jQ c&&(d.ps.length==d.k)))
def DI(K:PySem.W.Frag)(mg:Str->Option Value)(d:FD):Prop:=E4 K mg d.n d.s d.ps
variable{k:Nat}
variable{n:Nat}
variable{Cs:List Addr}
variable{as:List Str}
variable{B:Addr}
variable{bn:List Str}{d:FD}{f:Addr}{Zz:List PG}{c:cJ}
variable{oc kV doc pm cdv ct:Value}{od an:Option Addr}{osl:Array (Option Value)}
variable{x:Str}
variable{N:Addr}{nm q:Str}{bs:List Value}{sn:List Str}{ab:Bool}{dd:Option Addr}{k0 k1 k2 k3 k5:Option Value}
section
variable{P:bJ}{w:bS}{K:PySem.W.Frag}{mg:Str->Option Value}{base:Heap}
abbrev iD(P:bJ)(w:bS)(K:PySem.W.Frag)(mg:Str->Option Value)(base:Heap)(k:Nat)(x:Str)(m:List D->R D):Prop:=FQ P w K mg base k x (.fn (FU K m) [])
def GR(P:bJ)(w:bS)(K:PySem.W.Frag)(mg:Str->Option Value)(base:Heap)(k:Nat)(gl:List Str)(Zz:List PG):Prop:=∃Y,Ah P w K mg base k gl Y/\cR K Zz Y
theorem gN:GR P w K mg base k [] []:=⟨[],trivial,trivial⟩
section
variable{k:Nat}{x:Str}{gl:List Str}{Zz:List PG}
theorem gG{p:PG}(g:G)(h:FQ P w K mg base k x g)(e:O3 K p g)(r:GR P w K mg base k gl Zz):GR P w K mg base k (x::gl) (p::Zz):=by
 obtain⟨Y,a,b⟩:=r;exact⟨g::Y,⟨h,a⟩,⟨_,_,rfl,e,b⟩⟩
theorem gF{j:Nat}{m:List D->R D}(h:iD P w K mg base j x m)(r:GR P w K mg base k gl Zz)(l:j<=k:=by decide):GR P w K mg base k (x::gl) (.fn m []::Zz):=by
 obtain⟨f,fd,ps,ds,F,q⟩:=h;exact gG (.fn (FU K m) []) ⟨f,fd,ps,ds,F.mono l,q⟩ ⟨fun _ _ _ _ h=>h,rfl,rfl⟩ r
def Gj(P:bJ)(w:bS)(K:PySem.W.Frag)(mg:Str->Option Value)(x:Str)(C:Addr)(fs:List (Str×Nat))(n:Nat):Prop:=mg x=some (.ref C)/\∀base,E1 P w K mg base 1 C fs n
theorem gC{C:Addr}{fs:List (Str×Nat)}(h:Gj P w K mg x C fs n)(r:GR P w K mg base k gl Zz)(l:2<=k:=by decide):GR P w K mg base k (x::gl) (.cls C fs n::Zz):=gG (.cls C fs n) ⟨h.1,1,l,h.2 base⟩ ⟨rfl,rfl,rfl⟩ r
theorem gI{D:Addr}(h:mg x=some (.ref D)/\gY K D Cs)(r:GR P w K mg base k gl Zz):GR P w K mg base k (x::gl) (.iB D Cs::Zz):=gG (.iB D Cs) h ⟨rfl,rfl⟩ r
theorem gX(h:tL K Cs as)(r:GR P w K mg base k gl Zz):GR P w K mg base k (x::gl) (.ou Cs as::Zz):=gG (.ou Cs as) h ⟨rfl,rfl⟩ r
def WB(K:PySem.W.Frag)(mg:Str->Option Value)(x:Str)(B:Addr)(Cs:List Addr):Prop:=(mg x=some (.ref B)/\A6 K B)/\∀C∈Cs,PySem.W.mroIn K C (.ref B)=some true
theorem gB(h:WB K mg x B Cs)(r:GR P w K mg base k gl Zz):GR P w K mg base k (x::gl) (.exb Cs::Zz):=gG (.exb B Cs) h.1 ⟨rfl,h.2⟩ r
theorem gV{d:D}{v:V}(h:∃u,mg x=some u/\RelV v u)(e:aU K (fun _=>none) d v)(r:GR P w K mg base k gl Zz):GR P w K mg base k (x::gl) (.val d::Zz):=gG (.val v) h e r
theorem gT{d:D}{a:Addr}{xs:List V}(h:mg x=some (.ref a)/\H9 K a true xs)(e:aU K (fun _=>none) d (.ref a))(r:GR P w K mg base k gl Zz):GR P w K mg base k (x::gl) (.val d::Zz):=gG (.tup a xs) h e r
end
theorem fF{fd:fM}(F:qI K d.n d.n d.s f fd)(h:d.fh bn c=true)(hb:∀x∈bn,mg x=none)(r:GR P w K mg base k d.gl Zz):fK P w K mg base (j5 P w) (k+1) f fd d.ps (FU K (eK Zz n d.N d.k c)):=by
 obtain⟨Y,a,b⟩:=r;unfold FD.fh at h;simp only[bq,beq_iff_eq]at h;obtain⟨h1,h2,h3,h4⟩:=h;rw[<-h4];refine XQ (Y:=Y) c F (Bg h2) h1 a b h3 hb ?_;unfold FD.ps;rw[dH];omega
theorem fD(D:DI K mg d)(h:d.fh bn c=true)(hb:∀x∈bn,mg x=none)(r:GR P w K mg base k d.gl Zz):iD P w K mg base (k+1) d.n (eK Zz n d.N d.k c):=
 E4.has D fun _ _ F=>fF F h hb r
variable{h:Heap}
theorem dI(X:K.In h)(G:h.Ns cX mg)(a:PySem.W.nsIn K cX d.n=some (some (.ref f)):=by k_is)
  (l:K.lookup f=some ⟨oc,od,.func (PySem.W.fnOf d.n d.n (lQ d.s) (gc d.s) (cA d.s) .none kV doc pm an cdv ct),osl⟩:=by k_is) (c:PySem.W.codeIn K cdv d.n=true:=by k_is) (k:PySem.W.keepIn K (.ref f)=true:=by k_is)
  (b:∀(kV doc pm:Value) (an:Option Addr) (cdv ct:Value) (us:List Value),us.length=d.ps.length->sV (PySem.W.fnOf d.n d.n (lQ d.s) (gc d.s) (cA d.s) .none kV doc pm an cdv ct) ⟨us,[]⟩=pure (d.ps.zip us):=by(intro _ _ _ _ _ _ us hl;rcases us with _|⟨_,_|⟨_,_|⟨_,_|⟨_,_|⟨_,_|⟨_,_⟩⟩⟩⟩⟩⟩<;>first|rfl|cases hl)):DI K mg d:=
 ⟨_,_,fun_mk l c k,PySem.W.mg_of X G a,(fun_mk l c k).binds b⟩
theorem iI{v:Value}(X:K.In h)(G:h.Ns cX mg)(a:PySem.W.nsIn K cX x=some (some v):=by k_is):mg x=some v:=PySem.W.mg_of X G a
noncomputable def Y0:Option (Option Value)->Bool
|some none=>true
|_=>false
theorem zI(X:K.In h)(G:h.Ns cX mg)(a:(bn.all fun x=>Y0 (PySem.W.nsIn K cX x))=true:=by kernel_rfl):∀x∈bn,mg x=none:=fun x hx=>PySem.W.mg_none_of X G (by
 have q:=bE.mp a x hx;revert q;rcases PySem.W.nsIn K cX x with _|_|_<;>intro q<;>first|rfl|cases q)
theorem hXI(X:K.In h)(a:(Cs.all fun C=>E7 K C as)=true:=by kernel_rfl)(hn:PySem.W.specialIn K (.builtin "object.__class__") "__get__"=some (some (.builtin "getset_descriptor.__get__")):=by k_is)(htk:PySem.W.takesIn K (.builtin "object.__class__")=some true:=by k_is) :
  ∀C∈Cs,uZ K C/\uG K C/\∀f∈as,ju K C f:=Q8 a hn htk
structure CD where
 n:Str
 C:Addr
 s:Stmt
 ps:List Str
 fs:List (Str×Nat)
noncomputable def CD.fh(as:List Str)(d:CD):Bool:=rF d.ps d.fs (gc d.s)&&(So d.ps d.ps (cA d.s)&&(decide (∀p∈d.fs,p.1∈as)&&(decide (∀x∈d.ps,(x==("__debug__":Str))=false/\(x==("__classdict__":Str))=false)&&(decide (∀p∈d.fs,p.2<d.ps.length/\1<=p.2)&&decide (d.fs.length<=900/\0<d.fs.length/\d.ps.length<=1000)))))
theorem cI{d:CD}{fI:Addr}{hdct:Bool}{sub:List Value}{col:Option Bool}
  (X:K.In h) (G:h.Ns cX mg) (hx:uZ K d.C/\uG K d.C/\∀f∈as,ju K d.C f) (xb:Gi K B) (o:d.fh as=true) (a:PySem.W.nsIn K cX d.n=some (some (.ref d.C)):=by k_is) (xi:PySem.W.findIn K (.ref d.C) "__init__"=some (some (.ref fI)):=by k_is) (xf:PySem.W.typeIn K (.ref fI)=some (.type "function"):=by k_is) (xk:PySem.W.keepIn K (.ref d.C)=true:=by k_is)
  (xl:K.lookup d.C=some (iT nm q d.C N bs (.ref B::[.type "ValueError",.type "Exception",.type "BaseException",.type "object"]) hdct sn sub ab col dd k0 k1 k2 k3 k5 "ValueError.__new__"):=by k_is)
  (l:K.lookup fI=some ⟨oc,od,.func (PySem.W.fnOf "__init__" (d.n++".__init__") (lQ d.s) (gc d.s) (cA d.s) .none kV doc pm an cdv ct),osl⟩:=by k_is) (c:PySem.W.codeIn K cdv (d.n++".__init__")=true:=by k_is) (k:PySem.W.keepIn K (.ref fI)=true:=by k_is)
  (b:∀(kV doc pm:Value) (an:Option Addr) (cdv ct:Value) (us:List Value),us.length=d.ps.length->sV (PySem.W.fnOf "__init__" (d.n++".__init__") (lQ d.s) (gc d.s) (cA d.s) .none kV doc pm an cdv ct) ⟨us,[]⟩=pure (d.ps.zip us):=by(intro _ _ _ _ _ _ us hl;rcases us with _|⟨_,_|⟨_,_|⟨_,_|⟨_,_|⟨_,_|⟨_,_⟩⟩⟩⟩⟩⟩<;>first|rfl|cases hl)):Gj P w K mg d.n d.C d.fs d.ps.length:=by
 refine⟨PySem.W.mg_of X G a,fun base=>?_⟩;unfold CD.fh at o;simp only[bq,decide_eq_true_eq]at o;obtain⟨h1,h2,h3,h4,h5,h6,h7,h8⟩:=o;exact WA hx xi xf xk xl xb (fun_mk l c k) ((fun_mk l c k).binds b) (Bg h2) h3 h1 h4 h5 h6 h7 h8
theorem eI{bm:List Value}{hd:Bool}{sb:List Value}{cl:Option Bool}{ni:String}(X:K.In h)(G:h.Ns cX mg)(a:PySem.W.nsIn K cX x=some (some (.ref B)):=by k_is)
  (l:K.lookup B=some (iT nm q B N bs bm hd sn sb ab cl dd k0 k1 k2 k3 k5 ni):=by k_is) (c:bm.contains (.type "BaseException")=true:=by kernel_rfl) (m:(Cs.all fun C=>PySem.W.mroIn K C (.ref B)==some true)=true:=by kernel_rfl):WB K mg x B Cs:=
 ⟨⟨PySem.W.mg_of X G a,_,_,_,_,_,_,_,_,_,_,_,_,_,_,_,_,_,l,c⟩,Wz m⟩
theorem bI{c0:Value}{d0:Option Addr}{cd:ClassData}{s0:Array (Option Value)}{c1:Value}{d1:Option Addr}{es:Array DictEntry}{ep:Nat}{s1:Array (Option Value)}(X:K.In h)(l:K.lookup B=some ⟨c0,d0,.cls cd,s0⟩:=by k_is)(q:cd.ns=N:=by rfl)(n:K.lookup N=some ⟨c1,d1,.dict es ep,s1⟩:=by k_is)
  (a:(es.all fun e=>match e.key with|.str _ _=>true|_=>false)=true:=by kernel_rfl) (f:BV es "__init__"=none:=by kernel_rfl):Gi K B:=⟨_,_,_,_,_,_,_,_,_,l,by rw[q];exact n,a,f⟩
end
end L3
end
section
namespace Tr
open PySem L2 L3
def top(i:Nat):Stmt:=PySem.Challenge.pw_claimwise_k06_things_refused.main.body.getD i (.Pass ⟨0,0,0,0⟩)
abbrev DL:List Str:=["text"]
noncomputable def xZ:cJ:=
 (.cons (.ifs (.not (.chain .LtE .LtE (.con (.int 1)) (.blt .len (.cons (.var 0) .nil)) (.glo 2)))
  (.cons (.ret (.con (.bl false)))
 .nil)
  .nil)
 (.cons (.ret (.and (.call 1 (.cons (.var 0) (.cons (.con (.str "a")) (.cons (.con (.str "z")) .nil)))) (.cmp .NotIn (.var 0) (.glo 0))))
 .nil))
abbrev zK:List Str:=["text","figures"]
noncomputable def pH:cJ:=
 (.cons (.asg (.name 1) (.ite (.mth .startswith (.var 0) (.cons (.con (.str "-")) .nil)) (.sl (.var 0) (.some (.con (.int 1))) .none) (.var 0)))
 (.cons (.ifs (.or (.not (.call 0 (.cons (.var 1) .nil))) (.cmp .Eq (.var 0) (.con (.str "-0"))))
  (.cons (.ret (.con .non))
 .nil)
  .nil)
 (.cons (.ret (.blt .int (.cons (.var 0) .nil)))
 .nil)))
abbrev x_:List Str:=["text"]
noncomputable def r_:cJ:=
 (.cons (.ifs (.or (.not (.chain .LtE .LtE (.con (.int 1)) (.blt .len (.cons (.var 0) .nil)) (.glo 1))) (.not (.call 0 (.cons (.var 0) (.cons (.con (.str "0")) (.cons (.con (.str "9")) .nil))))))
  (.cons (.ret (.con (.bl false)))
 .nil)
  .nil)
 (.cons (.ret (.or (.cmp .Eq (.var 0) (.con (.str "0"))) (.not (.mth .startswith (.var 0) (.cons (.con (.str "0")) .nil)))))
 .nil))
abbrev ya:List Str:=["text","first","last"]
noncomputable def sd:cJ:=
 (.cons (.ret (.blt .all (.cons (.comp ["sign"] [1,2] (.chain .LtE .LtE (.var 1) (.var 0) (.var 2)) (.name 0) (.seq (.var 0)) .none) .nil)))
 .nil)
abbrev DM:List Str:=["text"]
noncomputable def yb:cJ:=
 (.cons (.ret (.comp ["row"] [] (.call 0 (.cons (.var 0) .nil)) (.name 0) (.seq (.mth .split (.var 0) (.cons (.con (.str "\n")) .nil))) .none))
 .nil)
abbrev Bv:List Str:=["row"]
noncomputable def wu:cJ:=
 (.cons (.ret (.comp ["word"] [] (.var 0) (.name 0) (.seq (.mth .split (.var 0) (.cons (.con (.str " ")) .nil))) (.some (.cmp .NotEq (.var 0) (.con (.str ""))))))
 .nil)
abbrev yc:List Str:=["kinds","text","words_of_kinds","parts","joins","steps","row","words","sizes"]
noncomputable def a_:cJ:=
 (.cons (.ifs (.cmp .Eq (.var 7) (.lst .nil))
  (.cons (.cont)
 .nil)
  .nil)
 (.cons (.ifs (.cmp .Eq (.ix (.var 7) (.con (.int 0))) (.con (.str "part")))
  (.cons (.expr (.mth .append (.var 3) (.cons (.call 1 (.cons (.var 7) (.cons (.var 6) (.cons (.var 2) (.cons (.blt .len (.cons (.var 3) .nil)) .nil))))) .nil)))
 .nil)
  (.cons (.ifs (.and (.cmp .Eq (.ix (.var 7) (.con (.int 0))) (.con (.str "size"))) (.cmp .NotEq (.var 3) (.lst .nil)))
  (.two (.asg (.name 8) (.ix (.ix (.var 3) (.neg (.con (.int 1)))) (.con (.int 1))))
 (.expr (.mth .append (.var 8) (.cons (.call 2 (.cons (.var 7) (.cons (.var 6) (.cons (.var 8) .nil)))) .nil)))
 .nil)
  (.cons (.ifs (.cmp .Eq (.ix (.var 7) (.con (.int 0))) (.con (.str "join")))
  (.cons (.expr (.mth .append (.var 4) (.cons (.call 3 (.cons (.var 7) (.cons (.var 6) (.cons (.blt .len (.cons (.var 3) .nil)) (.cons (.var 4) .nil))))) .nil)))
 .nil)
  (.cons (.ifs (.cmp .Eq (.ix (.var 7) (.con (.int 0))) (.con (.str "step")))
  (.cons (.expr (.mth .append (.var 5) (.cons (.call 4 (.cons (.var 7) (.cons (.var 6) (.cons (.blt .len (.cons (.var 3) .nil)) (.cons (.blt .len (.cons (.var 5) .nil)) .nil))))) .nil)))
 .nil)
  (.cons (.rais 5 (.cons (.var 6) .nil))
 .nil))
 .nil))
 .nil))
 .nil))
 .nil))
noncomputable def se:cJ:=
 (.cons (.casg 2 (.comp ["pair"] [] (.ix (.var 0) (.con (.int 0))) (.name 0) (.seq (.var 0)) .none))
 (.cons (.asg (.name 3) (.lst .nil))
 (.cons (.asg (.name 4) (.lst .nil))
 (.cons (.asg (.name 5) (.lst .nil))
 (.cons (.forr (.tup (.cons (.name 6) (.cons (.name 7) .nil))) (.enum (.call 0 (.cons (.var 1) .nil))) a_)
 (.cons (.ret (.tup (.cons (.comp ["kind","sizes"] [] (.tup (.cons (.var 0) (.cons (.blt .sorted (.cons (.var 1) .nil)) .nil))) (.tup (.cons (.name 0) (.cons (.name 1) .nil))) (.seq (.var 3)) .none) (.cons (.blt .sorted (.cons (.var 4) .nil)) (.cons (.var 5) .nil)))))
 .nil))))))
abbrev DN:List Str:=["words","row","words_of_kinds","count"]
noncomputable def p7:cJ:=
 (.cons (.ifs (.or (.cmp .NotEq (.blt .len (.cons (.var 0) .nil)) (.con (.int 2))) (.not (.call 3 (.cons (.ix (.var 0) (.con (.int 1))) .nil))))
  (.cons (.rais 4 (.cons (.var 1) .nil))
 .nil)
  .nil)
 (.cons (.ifs (.cmp .NotIn (.ix (.var 0) (.con (.int 1))) (.var 2))
  (.cons (.rais 2 (.cons (.con (.int 0)) (.cons (.var 1) .nil)))
 .nil)
  .nil)
 (.cons (.ifs (.cmp .GtE (.var 3) (.glo 0))
  (.cons (.rais 1 (.cons (.con (.int 0)) (.cons (.var 1) .nil)))
 .nil)
  .nil)
 (.cons (.ret (.tup (.cons (.ix (.var 0) (.con (.int 1))) (.cons (.lst .nil) .nil))))
 .nil))))
abbrev DO:List Str:=["words","row","above","numbers"]
noncomputable def tQ:cJ:=
 (.cons (.asg (.name 3) (.call 3 (.cons (.var 0) (.cons (.con (.int 1)) (.cons (.var 1) .nil)))))
 (.cons (.ifs (.cmp .In (.ix (.var 0) (.con (.int 1))) (.comp ["size"] [] (.ix (.var 0) (.con (.int 0))) (.name 0) (.seq (.var 2)) .none))
  (.cons (.rais 2 (.cons (.var 1) .nil))
 .nil)
  .nil)
 (.cons (.ifs (.cmp .GtE (.blt .len (.cons (.var 2) .nil)) (.glo 0))
  (.cons (.rais 1 (.cons (.con (.int 0)) (.cons (.var 1) .nil)))
 .nil)
  .nil)
 (.cons (.ret (.tup (.cons (.ix (.var 0) (.con (.int 1))) (.cons (.ix (.var 3) (.con (.int 0))) .nil))))
 .nil))))
abbrev DP:List Str:=["words","row","part_count","above","numbers","join"]
noncomputable def tR:cJ:=
 (.cons (.asg (.name 4) (.call 5 (.cons (.var 0) (.cons (.con (.int 2)) (.cons (.var 1) .nil)))))
 (.cons (.ifs (.cmp .Eq (.ix (.var 4) (.con (.int 0))) (.ix (.var 4) (.con (.int 1))))
  (.cons (.rais 4 (.cons (.var 1) .nil))
 .nil)
  .nil)
 (.cons (.expr (.call 3 (.cons (.var 4) (.cons (.var 1) (.cons (.var 2) .nil)))))
 (.cons (.asg (.name 5) (.tup (.cons (.ix (.var 0) (.con (.int 1))) (.cons (.ix (.var 4) (.con (.int 0))) (.cons (.ix (.var 4) (.con (.int 1))) .nil)))))
 (.cons (.ifs (.cmp .In (.var 5) (.var 3))
  (.cons (.rais 2 (.cons (.var 1) .nil))
 .nil)
  .nil)
 (.cons (.ifs (.cmp .GtE (.blt .len (.cons (.var 3) .nil)) (.glo 0))
  (.cons (.rais 1 (.cons (.con (.int 0)) (.cons (.var 1) .nil)))
 .nil)
  .nil)
 (.cons (.ret (.var 5))
 .nil)))))))
abbrev DQ:List Str:=["words","row","part_count","count","numbers"]
noncomputable def tS:cJ:=
 (.cons (.asg (.name 4) (.call 3 (.cons (.var 0) (.cons (.con (.int 1)) (.cons (.var 1) .nil)))))
 (.cons (.expr (.call 2 (.cons (.var 4) (.cons (.var 1) (.cons (.var 2) .nil)))))
 (.cons (.ifs (.cmp .GtE (.var 3) (.glo 0))
  (.cons (.rais 1 (.cons (.con (.int 0)) (.cons (.var 1) .nil)))
 .nil)
  .nil)
 (.cons (.ret (.tup (.cons (.ix (.var 0) (.con (.int 1))) (.cons (.ix (.var 4) (.con (.int 0))) .nil))))
 .nil))))
abbrev sf:List Str:=["words","count","row","numbers"]
noncomputable def ja:cJ:=
 (.cons (.ifs (.or (.cmp .NotEq (.blt .len (.cons (.var 0) .nil)) (.bin .Add (.con (.int 2)) (.var 1))) (.not (.call 2 (.cons (.ix (.var 0) (.con (.int 1))) .nil))))
  (.cons (.rais 0 (.cons (.var 2) .nil))
 .nil)
  .nil)
 (.cons (.casg 3 (.comp ["word"] [] (.call 1 (.cons (.var 0) .nil)) (.name 0) (.seq (.sl (.var 0) (.some (.con (.int 2))) .none)) .none))
 (.cons (.ifs (.cmp .In (.con .non) (.var 3))
  (.cons (.rais 0 (.cons (.var 2) .nil))
 .nil)
  .nil)
 (.cons (.ret (.var 3))
 .nil))))
abbrev sj:List Str:=["numbers","row","part_count","number"]
noncomputable def cM:cJ:=
 (.cons (.ifs (.not (.chain .LtE .Lt (.con (.int 0)) (.var 3) (.var 2)))
  (.cons (.rais 0 (.cons (.var 1) .nil))
 .nil)
  .nil)
 .nil)
noncomputable def mX:cJ:=
 (.cons (.forr (.name 3) (.seq (.var 0)) cM)
 .nil)
abbrev IF:List Str:=["_law_cell","_law_k","_law_factor"]
noncomputable def Cy:cJ:=
 (.cons (.ret (.bin .Mod (.bin .Mult (.bin .Add (.bin .Add (.var 0) (.bin .Mult (.var 1) (.var 1))) (.con (.int 1))) (.var 2)) (.con (.int 2305843009213693951))))
 .nil)
abbrev Gk:List Str:=["_law_script","_law_factor"]
noncomputable def Av:cJ:=
 (.cons (.ret (.call 0 (.cons (.blt .sum (.cons (.comp ["_law_cell"] [] (.bin .Mod (.var 0) (.con (.int 1000003))) (.name 0) (.seq (.sl (.var 0) .none (.some (.con (.int 63))))) .none) .nil)) (.cons (.bin .Mod (.blt .len (.cons (.var 0) .nil)) (.con (.int 64))) (.cons (.var 1) .nil)))))
 .nil)
abbrev Gm:List Str:=["_law_k","_law_salt_here","_law_some","_law_turn","_law_size","_law_spot","_law_head"]
noncomputable def Aw:cJ:=
 (.cons (.asg (.name 2) (.con (.str "bcdefghijklmnopqrstuvwxyz")))
 (.cons (.asg (.name 3) (.ix (.var 2) (.bin .Mod (.bin .Add (.bin .Mult (.con (.int 7)) (.var 0)) (.bin .FloorDiv (.var 1) (.con (.int 7)))) (.con (.int 25)))))
 (.cons (.ifs (.cmp .Eq (.bin .Mod (.var 1) (.con (.int 5))) (.con (.int 0)))
  (.cons (.ret (.var 3))
 .nil)
  .nil)
 (.cons (.ifs (.and (.cmp .Eq (.bin .Mod (.var 1) (.con (.int 5))) (.con (.int 1))) (.cmp .Lt (.var 0) (.con (.int 8))))
  (.cons (.ret (.bin .Mult (.ix (.var 2) (.bin .Mod (.bin .FloorDiv (.var 1) (.con (.int 5))) (.con (.int 7)))) (.bin .Add (.con (.int 1)) (.bin .Mod (.bin .Add (.bin .Mult (.con (.int 3)) (.var 0)) (.bin .FloorDiv (.var 1) (.con (.int 35)))) (.con (.int 8))))))
 .nil)
  .nil)
 (.cons (.asg (.name 4) (.bin .Add (.con (.int 2)) (.bin .Mod (.bin .FloorDiv (.var 1) (.con (.int 5))) (.con (.int 7)))))
 (.cons (.asg (.name 5) (.bin .Mod (.bin .FloorDiv (.var 1) (.con (.int 35))) (.bin .Sub (.var 4) (.con (.int 1)))))
 (.cons (.asg (.name 6) (.bin .Mult (.ix (.var 2) (.bin .Mod (.bin .FloorDiv (.var 1) (.con (.int 245))) (.con (.int 25)))) (.var 5)))
 (.cons (.ret (.bin .Add (.bin .Add (.bin .Add (.var 6) (.var 3)) (.con (.str "q"))) (.bin .Mult (.ix (.var 2) (.bin .Mod (.bin .FloorDiv (.var 1) (.con (.int 6125))) (.con (.int 25)))) (.bin .Sub (.bin .Sub (.var 4) (.var 5)) (.con (.int 2))))))
 .nil))))))))
abbrev DR:List Str:=["_law_cells","_law_salt_here","_law_kinds_here","_law_k","_law_m","_law_upper"]
noncomputable def nN:cJ:=
 (.cons (.asg (.name 4) (.call 1 (.cons (.ix (.var 0) (.var 3)) (.cons (.var 3) (.cons (.con (.int 1234567890123456789)) .nil)))))
 (.cons (.asg (.name 5) (.con (.str "")))
 (.cons (.ifs (.and (.cmp .Gt (.var 3) (.con (.int 0))) (.cmp .Gt (.bin .Mod (.var 4) (.con (.int 4))) (.con (.int 0))))
  (.cons (.asg (.name 5) (.ix (.ix (.var 2) (.bin .Mod (.bin .FloorDiv (.var 4) (.con (.int 4))) (.var 3))) (.con (.int 0))))
 .nil)
  .nil)
 (.cons (.expr (.mth .append (.var 2) (.cons (.tup (.cons (.call 0 (.cons (.var 3) (.cons (.var 1) .nil))) (.cons (.var 5) .nil))) .nil)))
 .nil))))
noncomputable def yd:cJ:=
 (.cons (.asg (.name 2) (.lst .nil))
 (.cons (.forr (.name 3) (.range (.cons (.blt .len (.cons (.var 0) .nil)) .nil)) nN)
 (.cons (.ret (.var 2))
 .nil)))
abbrev Gn:List Str:=["_law_rows","_law_salt_here","_law_lines","_law_k","_law_m","_law_line","_law_word"]
noncomputable def jF:cJ:=
 (.cons (.asg (.name 5) (.bin .Add (.bin .Add (.var 5) (.var 6)) (.bin .Mult (.con (.str " ")) (.bin .Add (.con (.int 1)) (.bin .Mod (.bin .FloorDiv (.var 4) (.con (.int 3))) (.con (.int 2)))))))
 (.cons (.asg (.name 4) (.bin .FloorDiv (.var 4) (.con (.int 2))))
 .nil))
noncomputable def pJ:cJ:=
 (.cons (.asg (.name 4) (.call 0 (.cons (.var 1) (.cons (.var 3) (.cons (.con (.int 1313131313131313131)) .nil)))))
 (.cons (.asg (.name 5) (.bin .Mult (.con (.str " ")) (.bin .Mod (.var 4) (.con (.int 3)))))
 (.cons (.forr (.name 6) (.seq (.ix (.var 0) (.var 3))) jF)
 (.cons (.expr (.mth .append (.var 2) (.cons (.var 5) .nil)))
 (.cons (.ifs (.cmp .Eq (.bin .Mod (.var 4) (.con (.int 5))) (.con (.int 1)))
  (.cons (.expr (.mth .append (.var 2) (.cons (.bin .Mult (.con (.str " ")) (.bin .Mod (.bin .FloorDiv (.var 4) (.con (.int 5))) (.con (.int 2)))) .nil)))
 .nil)
  .nil)
 .nil)))))
noncomputable def Ax:cJ:=
 (.cons (.asg (.name 2) (.lst .nil))
 (.cons (.forr (.name 3) (.range (.cons (.blt .len (.cons (.var 0) .nil)) .nil)) pJ)
 (.cons (.ifs (.cmp .Eq (.bin .Mod (.bin .FloorDiv (.var 1) (.con (.int 3))) (.con (.int 4))) (.con (.int 1)))
  (.cons (.expr (.mth .insert (.var 2) (.cons (.con (.int 0)) (.cons (.con (.str "")) .nil))))
 .nil)
  .nil)
 (.cons (.ret (.mth .join (.con (.str "\n")) (.cons (.var 2) .nil)))
 .nil))))
abbrev Bw:List Str:=["_law_m","_law_number_here"]
noncomputable def wx:cJ:=
 (.cons (.asg (.name 1) (.bin .Sub (.bin .Mod (.bin .FloorDiv (.var 0) (.con (.int 6))) (.con (.int 7))) (.con (.int 3))))
 (.cons (.ifs (.cmp .Eq (.bin .Mod (.var 0) (.con (.int 3))) (.con (.int 1)))
  (.cons (.asg (.name 1) (.bin .Mod (.bin .Mult (.var 0) (.con (.int 48271))) (.bin .Pow (.con (.int 10)) (.con (.int 30)))))
 .nil)
  .nil)
 (.cons (.ifs (.cmp .Eq (.bin .Mod (.var 0) (.con (.int 6))) (.con (.int 2)))
  (.cons (.asg (.name 1) (.neg (.bin .Mod (.bin .Mult (.var 0) (.con (.int 69621))) (.bin .Pow (.con (.int 10)) (.con (.int 30))))))
 .nil)
  .nil)
 (.cons (.ret (.var 1))
 .nil))))
abbrev DS:List Str:=["_law_kinds_here","_law_cells","_law_salt_here","_law_parts_here","_law_k","_law_m","_law_sizes","_law_turn"]
noncomputable def jb:cJ:=
 (.cons (.asg (.sub (.var 6) (.call 0 (.cons (.bin .Add (.con (.int 16)) (.bin .Mod (.bin .Add (.bin .FloorDiv (.var 5) (.con (.int 5))) (.bin .Mult (.var 7) (.bin .Add (.con (.int 1)) (.bin .Mod (.bin .FloorDiv (.var 5) (.con (.int 50))) (.con (.int 3)))))) (.con (.int 9)))) (.cons (.bin .FloorDiv (.var 2) (.con (.int 3))) .nil)))) (.call 1 (.cons (.bin .FloorDiv (.var 5) (.bin .Add (.con (.int 11)) (.var 7))) .nil)))
 .nil)
noncomputable def nO:cJ:=
 (.cons (.asg (.name 5) (.call 2 (.cons (.ix (.var 1) (.var 4)) (.cons (.var 4) (.cons (.con (.int 1414141414141414141)) .nil)))))
 (.cons (.asg (.name 6) (.dct))
 (.cons (.forr (.name 7) (.range (.cons (.bin .Mod (.var 5) (.con (.int 5))) .nil)) jb)
 (.pin 6 (.cons (.expr (.mth .append (.var 3) (.cons (.tup (.cons (.ix (.ix (.var 0) (.bin .Mod (.bin .FloorDiv (.var 5) (.con (.int 7))) (.blt .len (.cons (.var 0) .nil)))) (.con (.int 0))) (.cons (.var 6) .nil))) .nil)))
 .nil)))))
noncomputable def ye:cJ:=
 (.cons (.asg (.name 3) (.lst .nil))
 (.cons (.forr (.name 4) (.range (.cons (.blt .len (.cons (.var 1) .nil)) .nil)) nO)
 (.cons (.ret (.var 3))
 .nil)))
abbrev DT:List Str:=["_law_many","_law_cells","_law_salt_here","_law_joins_here","_law_k","_law_m","_law_i","_law_j","_law_one"]
noncomputable def lq:cJ:=
 (.cons (.asg (.name 5) (.call 1 (.cons (.ix (.var 1) (.var 4)) (.cons (.var 4) (.cons (.con (.int 1515151515151515151)) .nil)))))
 (.cons (.asg (.name 6) (.bin .Mod (.var 5) (.blt .max (.cons (.con (.int 1)) (.cons (.var 0) .nil)))))
 (.cons (.asg (.name 7) (.bin .Mod (.bin .Add (.bin .Add (.var 6) (.con (.int 1))) (.bin .Mod (.bin .FloorDiv (.var 5) (.con (.int 9))) (.blt .max (.cons (.con (.int 1)) (.cons (.bin .Sub (.var 0) (.con (.int 1))) .nil))))) (.blt .max (.cons (.con (.int 1)) (.cons (.var 0) .nil)))))
 (.cons (.asg (.name 8) (.tup (.cons (.call 0 (.cons (.bin .Mod (.bin .FloorDiv (.var 5) (.con (.int 100))) (.con (.int 3))) (.cons (.bin .FloorDiv (.var 2) (.con (.int 5))) .nil))) (.cons (.var 6) (.cons (.var 7) .nil)))))
 (.cons (.ifs (.and (.cmp .Gt (.var 0) (.con (.int 1))) (.cmp .NotIn (.var 8) (.var 3)))
  (.cons (.expr (.mth .append (.var 3) (.cons (.var 8) .nil)))
 .nil)
  .nil)
 .nil)))))
noncomputable def yf:cJ:=
 (.cons (.asg (.name 3) (.lst .nil))
 (.cons (.forr (.name 4) (.range (.cons (.blt .len (.cons (.var 1) .nil)) .nil)) lq)
 (.cons (.ret (.var 3))
 .nil)))
abbrev DU:List Str:=["_law_many","_law_cells","_law_salt_here","_law_steps_here","_law_k","_law_m"]
noncomputable def lu:cJ:=
 (.cons (.asg (.name 5) (.call 1 (.cons (.ix (.var 1) (.var 4)) (.cons (.var 4) (.cons (.con (.int 1616161616161616161)) .nil)))))
 (.cons (.ifs (.cmp .Gt (.var 0) (.con (.int 0)))
  (.cons (.expr (.mth .append (.var 3) (.cons (.tup (.cons (.call 0 (.cons (.bin .Mod (.bin .FloorDiv (.var 5) (.con (.int 11))) (.con (.int 3))) (.cons (.bin .FloorDiv (.var 2) (.con (.int 7))) .nil))) (.cons (.bin .Mod (.var 5) (.var 0)) .nil))) .nil)))
 .nil)
  .nil)
 .nil))
noncomputable def yg:cJ:=
 (.cons (.asg (.name 3) (.lst .nil))
 (.cons (.forr (.name 4) (.range (.cons (.blt .len (.cons (.var 1) .nil)) .nil)) lu)
 (.cons (.ret (.var 3))
 .nil)))
abbrev vd:List Str:=["_law_parts_here","_law_joins_here","_law_steps_here","_law_rows","_law_kind","_law_sizes","_law_word","_law_i","_law_j"]
noncomputable def iE:cJ:=
 (.cons (.expr (.mth .append (.var 3) (.cons (.lst (.cons (.con (.str "step")) (.cons (.var 6) (.cons (.blt .str (.cons (.var 7) .nil)) .nil)))) .nil)))
 .nil)
noncomputable def iF:cJ:=
 (.cons (.expr (.mth .append (.var 3) (.cons (.lst (.cons (.con (.str "join")) (.cons (.var 6) (.cons (.blt .str (.cons (.var 7) .nil)) (.cons (.blt .str (.cons (.var 8) .nil)) .nil))))) .nil)))
 .nil)
noncomputable def fL:cJ:=
 (.cons (.expr (.mth .append (.var 3) (.cons (.lst (.cons (.con (.str "size")) (.cons (.var 6) (.cons (.blt .str (.cons (.ix (.var 5) (.var 6)) .nil)) .nil)))) .nil)))
 .nil)
noncomputable def iG:cJ:=
 (.cons (.expr (.mth .append (.var 3) (.cons (.lst (.cons (.con (.str "part")) (.cons (.var 4) .nil))) .nil)))
 (.cons (.fork (.name 6) 5 fL)
 .nil))
noncomputable def oV:cJ:=
 (.cons (.asg (.name 3) (.lst .nil))
 (.cons (.forr (.tup (.cons (.name 4) (.cons (.name 5) .nil))) (.seq (.var 0)) iG)
 (.cons (.forr (.tup (.cons (.name 6) (.cons (.name 7) (.cons (.name 8) .nil)))) (.seq (.var 1)) iF)
 (.cons (.forr (.tup (.cons (.name 6) (.cons (.name 7) .nil))) (.seq (.var 2)) iE)
 (.cons (.ret (.var 3))
 .nil)))))
abbrev DV:List Str:=["_law_thing"]
noncomputable def DW:cJ:=
 (.cons (.ret (.and (.isi (.var 0) .int) (.not (.isi (.var 0) .bool))))
 .nil)
abbrev tT:List Str:=["_law_m","_law_many"]
noncomputable def nP:cJ:=
 (.cons (.ret (.blt .str (.cons (.ix (.lst (.cons (.neg (.con (.int 1))) (.cons (.var 1) (.cons (.bin .Add (.var 1) (.con (.int 3))) (.cons (.bin .Add (.bin .Pow (.con (.int 10)) (.con (.int 29))) (.var 0)) (.cons (.bin .Mod (.bin .FloorDiv (.var 0) (.con (.int 7))) (.blt .max (.cons (.con (.int 1)) (.cons (.var 1) .nil)))) (.cons (.bin .Mod (.bin .FloorDiv (.var 0) (.con (.int 7))) (.blt .max (.cons (.con (.int 1)) (.cons (.var 1) .nil)))) .nil))))))) (.bin .Mod (.var 0) (.con (.int 6)))) .nil)))
 .nil)
abbrev zL:List Str:=["_law_m","_law_known","_law_odd","_law_number_here","_law_rows"]
noncomputable def uM:cJ:=
 (.cons (.asg (.name 2) (.ix (.lst (.cons (.con (.str "the")) (.cons (.con (.str "or")) (.cons (.con (.str "toolongwds")) (.cons (.con (.str "r2")) (.cons (.con (.str "Rod")) .nil)))))) (.bin .Mod (.bin .FloorDiv (.var 0) (.con (.int 16))) (.con (.int 5)))))
 (.cons (.asg (.name 3) (.ix (.lst (.cons (.con (.str "00")) (.cons (.con (.str "-0")) (.cons (.con (.str "1.5")) (.cons (.con (.str "x")) (.cons (.bin .Mult (.con (.str "1")) (.con (.int 31))) (.cons (.con (.str "+1")) .nil))))))) (.bin .Mod (.bin .FloorDiv (.var 0) (.con (.int 80))) (.con (.int 6)))))
 (.cons (.asg (.name 4) (.lst (.cons (.lst (.cons (.con (.str "part")) .nil)) (.cons (.lst (.cons (.con (.str "part")) (.cons (.var 1) (.cons (.var 1) .nil)))) (.cons (.lst (.cons (.con (.str "part")) (.cons (.var 2) .nil))) (.cons (.lst (.cons (.con (.str "size")) (.cons (.var 1) .nil))) (.cons (.lst (.cons (.con (.str "size")) (.cons (.var 2) (.cons (.con (.str "1")) .nil)))) .nil)))))))
 (.cons (.asg (.name 4) (.bin .Add (.var 4) (.lst (.cons (.lst (.cons (.con (.str "size")) (.cons (.var 1) (.cons (.var 3) .nil)))) (.cons (.lst (.cons (.con (.str "size")) (.cons (.var 1) (.cons (.con (.str "1")) (.cons (.con (.str "1")) .nil))))) (.cons (.lst (.cons (.con (.str "join")) (.cons (.var 1) (.cons (.con (.str "0")) .nil)))) (.cons (.lst (.cons (.con (.str "join")) (.cons (.var 2) (.cons (.con (.str "0")) (.cons (.con (.str "1")) .nil))))) .nil)))))))
 (.cons (.asg (.name 4) (.bin .Add (.var 4) (.lst (.cons (.lst (.cons (.con (.str "join")) (.cons (.var 1) (.cons (.var 3) (.cons (.con (.str "0")) .nil))))) (.cons (.lst (.cons (.con (.str "join")) (.cons (.var 1) (.cons (.con (.str "0")) (.cons (.var 3) .nil))))) (.cons (.lst (.cons (.con (.str "join")) (.cons (.var 1) (.cons (.con (.str "0")) (.cons (.con (.str "1")) (.cons (.con (.str "2")) .nil)))))) .nil))))))
 (.cons (.ret (.ix (.bin .Add (.var 4) (.lst (.cons (.lst (.cons (.con (.str "step")) (.cons (.var 1) .nil))) (.cons (.lst (.cons (.con (.str "step")) (.cons (.var 2) (.cons (.con (.str "0")) .nil)))) (.cons (.lst (.cons (.con (.str "step")) (.cons (.var 1) (.cons (.var 3) .nil)))) (.cons (.lst (.cons (.con (.str "parts")) (.cons (.var 1) .nil))) .nil)))))) (.bin .Mod (.var 0) (.con (.int 16)))))
 .nil))))))
abbrev Bx:List Str:=["_law_m","_law_kinds_here","_law_parts_here","_law_joins_here","_law_salt_here","_law_known","_law_fresh","_law_words","_law_one"]
noncomputable def wy:cJ:=
 (.cons (.asg (.name 5) (.ix (.ix (.var 1) (.bin .Mod (.bin .FloorDiv (.var 0) (.con (.int 5))) (.blt .len (.cons (.var 1) .nil)))) (.con (.int 0))))
 (.cons (.asg (.name 6) (.call 1 (.cons (.con (.int 24)) (.cons (.var 4) .nil))))
 (.cons (.ifs (.cmp .Eq (.bin .Mod (.var 0) (.con (.int 5))) (.con (.int 0)))
  (.cons (.ret (.call 2 (.cons (.bin .FloorDiv (.var 0) (.con (.int 50))) (.cons (.var 5) .nil))))
 .nil)
  .nil)
 (.cons (.ifs (.cmp .Eq (.bin .Mod (.var 0) (.con (.int 5))) (.con (.int 1)))
  (.cons (.ret (.lst (.cons (.con (.str "part")) (.cons (.ix (.lst (.cons (.var 5) (.cons (.call 1 (.cons (.con (.int 13)) (.cons (.var 4) .nil))) .nil))) (.bin .Mod (.bin .FloorDiv (.var 0) (.con (.int 50))) (.con (.int 2)))) .nil))))
 .nil)
  .nil)
 (.cons (.ifs (.cmp .Eq (.bin .Mod (.var 0) (.con (.int 5))) (.con (.int 2)))
  (.cons (.asg (.name 7) (.lst (.cons (.var 6) .nil)))
 (.cons (.ifs (.cmp .Gt (.blt .len (.cons (.var 2) .nil)) (.con (.int 0)))
  (.cons (.asg (.name 7) (.bin .Add (.var 7) (.blt .list (.cons (.ix (.ix (.var 2) (.neg (.con (.int 1)))) (.con (.int 1))) .nil))))
 .nil)
  .nil)
 (.cons (.ret (.lst (.cons (.con (.str "size")) (.cons (.ix (.var 7) (.bin .Mod (.bin .FloorDiv (.var 0) (.con (.int 50))) (.blt .len (.cons (.var 7) .nil)))) (.cons (.blt .str (.cons (.bin .Mod (.bin .FloorDiv (.var 0) (.con (.int 500))) (.con (.int 9))) .nil)) .nil)))))
 .nil)))
  .nil)
 (.cons (.ifs (.and (.cmp .Eq (.bin .Mod (.var 0) (.con (.int 5))) (.con (.int 3))) (.and (.cmp .Gt (.blt .len (.cons (.var 3) .nil)) (.con (.int 0))) (.cmp .Eq (.bin .Mod (.bin .FloorDiv (.var 0) (.con (.int 50))) (.con (.int 3))) (.con (.int 0)))))
  (.cons (.asg (.name 8) (.ix (.var 3) (.bin .Mod (.bin .FloorDiv (.var 0) (.con (.int 150))) (.blt .len (.cons (.var 3) .nil)))))
 (.cons (.ret (.lst (.cons (.con (.str "join")) (.cons (.ix (.var 8) (.con (.int 0))) (.cons (.blt .str (.cons (.ix (.var 8) (.con (.int 1))) .nil)) (.cons (.blt .str (.cons (.ix (.var 8) (.con (.int 2))) .nil)) .nil))))))
 .nil))
  .nil)
 (.cons (.ifs (.cmp .Eq (.bin .Mod (.var 0) (.con (.int 5))) (.con (.int 3)))
  (.cons (.ret (.lst (.cons (.con (.str "join")) (.cons (.var 6) (.cons (.call 0 (.cons (.bin .FloorDiv (.var 0) (.con (.int 50))) (.cons (.blt .len (.cons (.var 2) .nil)) .nil))) (.cons (.call 0 (.cons (.bin .FloorDiv (.var 0) (.con (.int 350))) (.cons (.blt .len (.cons (.var 2) .nil)) .nil))) .nil))))))
 .nil)
  .nil)
 (.cons (.ret (.lst (.cons (.con (.str "step")) (.cons (.var 6) (.cons (.call 0 (.cons (.bin .FloorDiv (.var 0) (.con (.int 50))) (.cons (.blt .len (.cons (.var 2) .nil)) .nil))) .nil)))))
 .nil))))))))
abbrev ve:List Str:=["_law_row","_law_fine"]
noncomputable def lV:cJ:=
 (.cons (.asg (.name 1) (.dcs [("part",2),("size",3),("join",4),("step",3)]))
 (.cons (.ifs (.or (.cmp .NotEq (.mth .get (.var 1) (.cons (.ix (.var 0) (.con (.int 0))) .nil)) (.blt .len (.cons (.var 0) .nil))) (.cmp .In (.ix (.var 0) (.con (.int 1))) (.tup (.cons (.con (.str "the")) (.cons (.con (.str "or")) (.cons (.con (.str "toolongwds")) (.cons (.con (.str "r2")) (.cons (.con (.str "Rod")) .nil))))))))
  (.cons (.ret (.con (.bl false)))
 .nil)
  .nil)
 (.cons (.ret (.not (.blt .any (.cons (.comp ["_law_word"] [] (.cmp .In (.var 0) (.tup (.cons (.con (.str "00")) (.cons (.con (.str "-0")) (.cons (.con (.str "1.5")) (.cons (.con (.str "x")) (.cons (.bin .Mult (.con (.str "1")) (.con (.int 31))) (.cons (.con (.str "+1")) .nil)))))))) (.name 0) (.seq (.sl (.var 0) (.some (.con (.int 2))) .none)) .none) .nil))))
 .nil)))
abbrev IG:List Str:=["_law_row","_law_kinds_here","_law_parts_here","_law_joins_here","_law_steps_here"]
noncomputable def ng:cJ:=
 (.cons (.ifs (.or (.not (.call 0 (.cons (.var 0) .nil))) (.or (.and (.cmp .Eq (.ix (.var 0) (.con (.int 0))) (.con (.str "size"))) (.cmp .Eq (.blt .len (.cons (.var 2) .nil)) (.con (.int 0)))) (.and (.cmp .Eq (.ix (.var 0) (.con (.int 0))) (.con (.str "join"))) (.cmp .Eq (.ix (.var 0) (.con (.int 2))) (.ix (.var 0) (.con (.int 3)))))))
  (.cons (.ret (.con (.str "BadRow")))
 .nil)
  .nil)
 (.cons (.ifs (.cmp .Eq (.ix (.var 0) (.con (.int 0))) (.con (.str "part")))
  (.cons (.ifs (.cmp .NotIn (.ix (.var 0) (.con (.int 1))) (.comp ["_law_word","_law_upper"] [] (.var 0) (.tup (.cons (.name 0) (.cons (.name 1) .nil))) (.seq (.var 1)) .none))
  (.cons (.ret (.con (.str "NoKind")))
 .nil)
  .nil)
 (.cons (.ret (.ite (.cmp .Eq (.blt .len (.cons (.var 2) .nil)) (.con (.int 8))) (.con (.str "TooBig")) (.con .non)))
 .nil))
  .nil)
 (.cons (.ifs (.cmp .Eq (.ix (.var 0) (.con (.int 0))) (.con (.str "size")))
  (.cons (.ifs (.cmp .In (.ix (.var 0) (.con (.int 1))) (.ix (.ix (.var 2) (.neg (.con (.int 1)))) (.con (.int 1))))
  (.cons (.ret (.con (.str "Twice")))
 .nil)
  .nil)
 (.cons (.ret (.ite (.cmp .Eq (.blt .len (.cons (.ix (.ix (.var 2) (.neg (.con (.int 1)))) (.con (.int 1))) .nil)) (.con (.int 4))) (.con (.str "TooBig")) (.con .non)))
 .nil))
  .nil)
 (.cons (.ifs (.not (.blt .all (.cons (.comp ["_law_word"] [2] (.chain .LtE .Lt (.con (.int 0)) (.blt .int (.cons (.var 0) .nil)) (.blt .len (.cons (.var 1) .nil))) (.name 0) (.seq (.sl (.var 0) (.some (.con (.int 2))) .none)) .none) .nil)))
  (.cons (.ret (.con (.str "NoPart")))
 .nil)
  .nil)
 (.cons (.ifs (.cmp .Eq (.ix (.var 0) (.con (.int 0))) (.con (.str "join")))
  (.cons (.ifs (.cmp .In (.tup (.cons (.ix (.var 0) (.con (.int 1))) (.cons (.blt .int (.cons (.ix (.var 0) (.con (.int 2))) .nil)) (.cons (.blt .int (.cons (.ix (.var 0) (.con (.int 3))) .nil)) .nil)))) (.var 3))
  (.cons (.ret (.con (.str "Twice")))
 .nil)
  .nil)
 (.cons (.ret (.ite (.cmp .Eq (.blt .len (.cons (.var 3) .nil)) (.con (.int 16))) (.con (.str "TooBig")) (.con .non)))
 .nil))
  .nil)
 (.cons (.ret (.ite (.cmp .Eq (.blt .len (.cons (.var 4) .nil)) (.con (.int 8))) (.con (.str "TooBig")) (.con .non)))
 .nil))))))
abbrev Gp:List Str:=["_law_kinds_here","_law_text_here","_law_told_here","e"]
noncomputable def Ay:cJ:=
 (.cons (.asg (.name 2) (.con .non))
 (.cons (.tri 3 0 (.call 1 (.cons (.var 0) (.cons (.var 1) .nil)))
  (.cons (.asg (.name 2) (.var 3))
 .nil))
 (.cons (.ret (.var 2))
 .nil)))
abbrev DX:List Str:=["_law_told_here","_law_due_here","_law_at","_law_ones"]
noncomputable def DY:cJ:=
 (.cons (.asg (.name 3) (.lst (.cons (.isx true [15] (.var 0)) (.cons (.isx true [14] (.var 0)) (.cons (.isx true [13] (.var 0)) .nil)))))
 (.cons (.asg (.name 3) (.bin .Add (.var 3) (.lst (.cons (.isx true [12] (.var 0)) (.cons (.isx true [11] (.var 0)) .nil)))))
 (.cons (.ifs (.cmp .NotEq (.var 3) (.comp ["_law_word"] [1] (.cmp .Eq (.var 1) (.var 0)) (.name 0) (.seq (.tup (.cons (.con (.str "BadRow")) (.cons (.con (.str "NoKind")) (.cons (.con (.str "NoPart")) (.cons (.con (.str "Twice")) (.cons (.con (.str "TooBig")) .nil))))))) .none))
  (.cons (.ret (.con (.bl false)))
 .nil)
  .nil)
 (.cons (.ifs (.not (.isv 0 (.var 0)))
  (.cons (.ret (.con (.bl false)))
 .nil)
  .nil)
 (.cons (.ifs (.isx false [2,3,4,5,6,7,8,9,10] (.var 0))
  (.cons (.ret (.con (.bl false)))
 .nil)
  .nil)
 (.cons (.ifs (.and (.cmp .In (.var 1) (.tup (.cons (.con (.str "NoKind")) (.cons (.con (.str "TooBig")) .nil)))) (.or (.not (.call 1 (.cons (.att 0 (.var 0) "claim") .nil))) (.cmp .NotEq (.att 0 (.var 0) "claim") (.con (.int 0)))))
  (.cons (.ret (.con (.bl false)))
 .nil)
  .nil)
 (.cons (.ret (.and (.call 1 (.cons (.att 0 (.var 0) "row") .nil)) (.cmp .Eq (.att 0 (.var 0) "row") (.var 2))))
 .nil)))))))
abbrev Sq:List Str:=["_law_script","_law_salt_here","_law_cells","_law_kinds_here","_law_k","_law_m","_law_parts_here","_law_joins_here","_law_steps_here","_law_row","_law_due_here","_law_rows","_law_text_here","_law_at"]
noncomputable def kB:cJ:=
 (.cons (.asg (.name 5) (.call 9 (.cons (.ix (.var 2) (.var 4)) (.cons (.var 4) (.cons (.con (.int 1111111111111111111)) .nil)))))
 (.cons (.asg (.name 6) (.call 8 (.cons (.var 3) (.cons (.sl (.var 2) (.some (.var 4)) (.some (.bin .Add (.var 4) (.ix (.lst (.cons (.con (.int 8)) (.cons (.bin .Mod (.bin .FloorDiv (.var 5) (.con (.int 3))) (.con (.int 9))) (.cons (.bin .Mod (.bin .FloorDiv (.var 5) (.con (.int 27))) (.con (.int 9))) .nil)))) (.bin .Mod (.var 5) (.con (.int 3))))))) (.cons (.var 1) .nil)))))
 (.cons (.asg (.name 7) (.sl (.call 7 (.cons (.blt .len (.cons (.var 6) .nil)) (.cons (.sl (.var 2) .none (.some (.ix (.lst (.cons (.con (.int 24)) (.cons (.bin .Mod (.bin .FloorDiv (.var 5) (.con (.int 243))) (.con (.int 9))) .nil))) (.bin .Mod (.bin .FloorDiv (.var 5) (.con (.int 81))) (.con (.int 2)))))) (.cons (.var 1) .nil)))) .none (.some (.con (.int 16)))))
 (.cons (.asg (.name 8) (.call 6 (.cons (.blt .len (.cons (.var 6) .nil)) (.cons (.sl (.var 2) .none (.some (.ix (.lst (.cons (.con (.int 8)) (.cons (.bin .Mod (.bin .FloorDiv (.var 5) (.con (.int 2187))) (.con (.int 9))) .nil))) (.bin .Mod (.bin .FloorDiv (.var 5) (.con (.int 729))) (.con (.int 2)))))) (.cons (.var 1) .nil)))))
 (.cons (.asg (.name 9) (.call 5 (.cons (.bin .FloorDiv (.var 5) (.con (.int 65537))) (.cons (.var 3) (.cons (.var 6) (.cons (.var 7) (.cons (.var 1) .nil)))))))
 (.cons (.asg (.name 10) (.call 4 (.cons (.var 9) (.cons (.var 3) (.cons (.var 6) (.cons (.var 7) (.cons (.var 8) .nil)))))))
 (.cons (.ifs (.cmp .Is (.var 10) (.con .non))
  (.cons (.asg (.name 9) (.lst (.cons (.con (.str "part")) (.cons (.con (.str "the")) .nil))))
 (.cons (.asg (.name 10) (.con (.str "BadRow")))
 .nil))
  .nil)
 (.cons (.asg (.name 11) (.call 3 (.cons (.var 6) (.cons (.var 7) (.cons (.var 8) .nil)))))
 (.cons (.asg (.name 12) (.call 2 (.cons (.bin .Add (.bin .Add (.var 11) (.lst (.cons (.var 9) .nil))) (.sl (.lst (.cons (.lst (.cons (.con (.str "step")) .nil)) (.cons (.var 9) .nil))) .none (.some (.bin .Mod (.bin .FloorDiv (.var 5) (.con (.int 7))) (.con (.int 3)))))) (.cons (.bin .Add (.bin .FloorDiv (.var 1) (.con (.int 77))) (.var 4)) .nil))))
 (.cons (.asg (.name 13) (.ix (.comp ["_law_number_here","_law_line"] [] (.var 0) (.tup (.cons (.name 0) (.cons (.name 1) .nil))) (.enum (.mth .split (.var 12) (.cons (.con (.str "\n")) .nil))) (.some (.cmp .NotEq (.mth .split (.var 1) .nil) (.lst .nil)))) (.blt .len (.cons (.var 11) .nil))))
 (.cons (.ifs (.not (.call 0 (.cons (.call 1 (.cons (.blt .list (.cons (.var 3) .nil)) (.cons (.var 12) .nil))) (.cons (.var 10) (.cons (.var 13) .nil)))))
  (.cons (.ret (.con (.bl false)))
 .nil)
  .nil)
 .nil)))))))))))
noncomputable def J2:cJ:=
 (.cons (.asg (.name 1) (.call 11 (.cons (.var 0) (.cons (.con (.int 587654321987654321)) .nil))))
 (.cons (.asg (.name 2) (.bin .Add (.sl (.var 0) .none (.some (.con (.int 63)))) (.bin .Mult (.lst (.cons (.bin .FloorDiv (.var 1) (.con (.int 3))) (.cons (.bin .FloorDiv (.var 1) (.con (.int 5))) (.cons (.bin .FloorDiv (.var 1) (.con (.int 7))) (.cons (.bin .FloorDiv (.var 1) (.con (.int 11))) .nil))))) (.con (.int 6)))))
 (.cons (.asg (.name 3) (.call 10 (.cons (.sl (.var 2) .none (.some (.bin .Add (.con (.int 1)) (.bin .Mod (.bin .FloorDiv (.var 1) (.con (.int 13))) (.con (.int 6)))))) (.cons (.var 1) .nil))))
 (.cons (.forr (.name 4) (.range (.cons (.con (.int 6)) .nil)) kB)
 (.cons (.ret (.con (.bl true)))
 .nil)))))
noncomputable def iH:List Addr:=[44,63,82,120,139]
noncomputable def DZ:List Str:=["row","claim","word"]
noncomputable def dF:List D:=[(.str "a"),(.str "an"),(.str "the"),(.str "said"),(.str "claim"),(.str "on"),(.str "or"),(.str "then"),(.str "from"),(.str "to"),(.str "of"),(.str "at"),(.str "least"),(.str "most"),(.str "just"),(.str "is")]
noncomputable def MW:List PG:=[]
noncomputable def D0:List D->R D:=eK MW 1000 DV 1 DW
noncomputable def MX:List PG:=[.ou iH DZ,.fn D0 [],.iB 251 iH,.iB 101 iH,.iB 239 iH,.iB 196 iH,.iB 177 iH,.iB 263 iH,.iB 158 iH,.iB 227 iH,.iB 215 iH,.iB 139 iH,.iB 63 iH,.iB 82 iH,.iB 120 iH,.iB 44 iH]
noncomputable def iR:List D->R D:=eK MX 1000 DX 3 DY
noncomputable def By:List PG:=[]
noncomputable def rm:List D->R D:=eK By 1000 Bv 1 wu
noncomputable def D3:List PG:=[.fn rm []]
noncomputable def nj:List D->R D:=eK D3 1000 DM 1 yb
noncomputable def yh:List PG:=[]
noncomputable def ly:List D->R D:=eK yh 1000 ya 3 sd
noncomputable def D4:List PG:=[.val (.cst dF),.fn ly [],.val (.int 8)]
noncomputable def nq:List D->R D:=eK D4 1000 DL 1 xZ
noncomputable def tU:List PG:=[.val (.int 8),.cls 139 [("claim",1),("row",2)] 3,.cls 120 [("claim",1),("row",2)] 3,.fn nq [],.cls 44 [("row",1)] 2]
noncomputable def fm:List D->R D:=eK tU 1000 DN 4 p7
noncomputable def yi:List PG:=[.fn ly [],.val (.int 30)]
noncomputable def nQ:List D->R D:=eK yi 1000 x_ 1 r_
noncomputable def uN:List PG:=[.fn nQ []]
noncomputable def d_:List D->R D:=eK uN 1000 zK 1 pH
noncomputable def kC:List PG:=[.cls 44 [("row",1)] 2,.fn d_ [],.fn nq []]
noncomputable def bf:List D->R D:=eK kC 1000 sf 3 ja
noncomputable def yj:List PG:=[.val (.int 4),.cls 139 [("claim",1),("row",2)] 3,.cls 63 [("row",1)] 2,.fn bf []]
noncomputable def gE:List D->R D:=eK yj 1000 DO 3 tQ
noncomputable def dG:List PG:=[.cls 82 [("row",1)] 2]
noncomputable def f9:List D->R D:=eK dG 1000 sj 3 mX
noncomputable def yk:List PG:=[.val (.int 16),.cls 139 [("claim",1),("row",2)] 3,.cls 63 [("row",1)] 2,.fn f9 [],.cls 44 [("row",1)] 2,.fn bf []]
noncomputable def gH:List D->R D:=eK yk 1000 DP 4 tR
noncomputable def yl:List PG:=[.val (.int 8),.cls 139 [("claim",1),("row",2)] 3,.fn f9 [],.fn bf []]
noncomputable def gJ:List D->R D:=eK yl 1000 DQ 4 tS
noncomputable def bH:List PG:=[.fn nj [],.fn fm [],.fn gE [],.fn gH [],.fn gJ [],.cls 44 [("row",1)] 2]
noncomputable def lz:List D->R D:=eK bH 1000 yc 2 se
noncomputable def Gq:List PG:=[.exb iH,.fn lz []]
noncomputable def oW:List D->R D:=eK Gq 1000 Gp 2 Ay
noncomputable def Ul:List PG:=[]
noncomputable def iW:List D->R D:=eK Ul 1000 IF 3 Cy
noncomputable def lA:List PG:=[.fn iW []]
noncomputable def oX:List D->R D:=eK lA 1000 Gn 2 Ax
noncomputable def cP:List PG:=[]
noncomputable def jS:List D->R D:=eK cP 1000 vd 3 oV
noncomputable def oY:List PG:=[]
noncomputable def bw:List D->R D:=eK oY 1000 ve 1 lV
noncomputable def oZ:List PG:=[.fn bw []]
noncomputable def dN:List D->R D:=eK oZ 1000 IG 5 ng
noncomputable def tV:List PG:=[]
noncomputable def kT:List D->R D:=eK tV 1000 tT 2 nP
noncomputable def Q9:List PG:=[]
noncomputable def gw:List D->R D:=eK Q9 1000 Gm 2 Aw
noncomputable def zM:List PG:=[]
noncomputable def mE:List D->R D:=eK zM 1000 zL 2 uM
noncomputable def BA:List PG:=[.fn kT [],.fn gw [],.fn mE []]
noncomputable def nR:List D->R D:=eK BA 1000 Bx 5 wy
noncomputable def tW:List PG:=[.fn gw [],.fn iW []]
noncomputable def p9:List D->R D:=eK tW 1000 DU 3 yg
noncomputable def tX:List PG:=[.fn gw [],.fn iW []]
noncomputable def p_:List D->R D:=eK tX 1000 DT 3 yf
noncomputable def BB:List PG:=[]
noncomputable def nS:List D->R D:=eK BB 1000 Bw 1 wx
noncomputable def lB:List PG:=[.fn gw [],.fn nS [],.fn iW []]
noncomputable def qa:List D->R D:=eK lB 1000 DS 3 ye
noncomputable def tY:List PG:=[.fn gw [],.fn iW []]
noncomputable def qe:List D->R D:=eK tY 1000 DR 2 yd
noncomputable def Gr:List PG:=[.fn iW []]
noncomputable def sy:List D->R D:=eK Gr 1000 Gk 2 Av
noncomputable def pK:List PG:=[.fn iR [],.fn oW [],.fn oX [],.fn jS [],.fn dN [],.fn nR [],.fn p9 [],.fn p_ [],.fn qa [],.fn iW [],.fn qe [],.fn sy []]
noncomputable def J4:List D->R D:=eK pK 1000 Sq 1 J2
noncomputable def BN:List Str:=["ValueError","all","any","bool","enumerate","int","isinstance","len","list","max","range","sorted","str","sum"]
def D5:FD:=⟨"_law_whole",top 49,DV,1,[]⟩
theorem MY:D5.fh BN DW=true:=by decide +kernel
def D6:FD:=⟨"_law_right",top 56,DX,3,["$x","_law_whole","NoChange","NoClaim","NoFit","NoGround","NoRange","NotOwn","NotUnder","TooMany","TwoGrounds","TooBig","Twice","NoPart","NoKind","BadRow"]⟩
theorem MZ:D6.fh BN DY=true:=by decide +kernel
def BC:FD:=⟨"words_in",top 25,Bv,1,[]⟩
theorem J5:BC.fh BN wu=true:=by decide +kernel
def D7:FD:=⟨"rows_in",top 24,DM,1,["words_in"]⟩
theorem M0:D7.fh BN yb=true:=by decide +kernel
def ym:FD:=⟨"all_within",top 23,ya,3,[]⟩
theorem Gs:ym.fh BN sd=true:=by decide +kernel
def D8:FD:=⟨"is_word",top 20,DL,1,["KEPT_WORDS","all_within","MOST_LETTERS"]⟩
theorem M1:D8.fh BN xZ=true:=by decide +kernel
def D9:FD:=⟨"part_in",top 32,DN,4,["MOST_PARTS","TooBig","NoKind","is_word","BadRow"]⟩
theorem M2:D9.fh BN p7=true:=by decide +kernel
def yo:FD:=⟨"is_figures",top 22,x_,1,["all_within","MOST_FIGURES"]⟩
theorem Gu:yo.fh BN r_=true:=by decide +kernel
def zN:FD:=⟨"number_in",top 21,zK,1,["is_figures"]⟩
theorem Ht:zN.fh BN pH=true:=by decide +kernel
def sA:FD:=⟨"numbers_behind",top 36,sf,3,["BadRow","number_in","is_word"]⟩
theorem Az:sA.fh BN ja=true:=by decide +kernel
def D_:FD:=⟨"size_in",top 33,DO,3,["MOST_SIZES","TooBig","Twice","numbers_behind"]⟩
theorem M3:D_.fh BN tQ=true:=by decide +kernel
def sC:FD:=⟨"refuse_no_part",top 37,sj,3,["NoPart"]⟩
theorem AA:sC.fh BN mX=true:=by decide +kernel
def Ea:FD:=⟨"join_in",top 34,DP,4,["MOST_JOINS","TooBig","Twice","refuse_no_part","BadRow","numbers_behind"]⟩
theorem M4:Ea.fh BN tR=true:=by decide +kernel
def Eb:FD:=⟨"step_in",top 35,DQ,4,["MOST_STEPS","TooBig","refuse_no_part","numbers_behind"]⟩
theorem M5:Eb.fh BN tS=true:=by decide +kernel
def yp:FD:=⟨"read_thing",top 31,yc,2,["rows_in","part_in","size_in","join_in","step_in","BadRow"]⟩
theorem Gv:yp.fh BN se=true:=by decide +kernel
def Gw:FD:=⟨"_law_told",top 55,Gp,2,["ClaimError","read_thing"]⟩
theorem Q_:Gw.fh BN Ay=true:=by decide +kernel
def II:FD:=⟨"_law_mix",top 39,IF,3,[]⟩
theorem Um:II.fh BN Cy=true:=by decide +kernel
def Gx:FD:=⟨"_law_text",top 43,Gn,2,["_law_mix"]⟩
theorem Ra:Gx.fh BN Ax=true:=by decide +kernel
def vf:FD:=⟨"_law_thing_rows",top 48,vd,3,[]⟩
theorem Cz:vf.fh BN oV=true:=by decide +kernel
def vg:FD:=⟨"_law_words_fine",top 53,ve,1,[]⟩
theorem CA:vg.fh BN lV=true:=by decide +kernel
def IJ:FD:=⟨"_law_due",top 54,IG,5,["_law_words_fine"]⟩
theorem Uo:IJ.fh BN ng=true:=by decide +kernel
def tZ:FD:=⟨"_law_some_number",top 50,tT,2,[]⟩
theorem BD:tZ.fh BN nP=true:=by decide +kernel
def Gy:FD:=⟨"_law_name",top 41,Gm,2,[]⟩
theorem Rb:Gy.fh BN Aw=true:=by decide +kernel
def zO:FD:=⟨"_law_odd_row",top 51,zL,2,[]⟩
theorem Hu:zO.fh BN uM=true:=by decide +kernel
def BE:FD:=⟨"_law_faulty",top 52,Bx,5,["_law_some_number","_law_name","_law_odd_row"]⟩
theorem J6:BE.fh BN wy=true:=by decide +kernel
def Ec:FD:=⟨"_law_steps",top 47,DU,3,["_law_name","_law_mix"]⟩
theorem M6:Ec.fh BN yg=true:=by decide +kernel
def Ed:FD:=⟨"_law_joins",top 46,DT,3,["_law_name","_law_mix"]⟩
theorem M7:Ed.fh BN yf=true:=by decide +kernel
def BF:FD:=⟨"_law_number",top 44,Bw,1,[]⟩
theorem J8:BF.fh BN wx=true:=by decide +kernel
def Ef:FD:=⟨"_law_parts",top 45,DS,3,["_law_name","_law_number","_law_mix"]⟩
theorem M8:Ef.fh BN ye=true:=by decide +kernel
def Eg:FD:=⟨"_law_kinds",top 42,DR,2,["_law_name","_law_mix"]⟩
theorem M9:Eg.fh BN yd=true:=by decide +kernel
def Gz:FD:=⟨"_law_salt",top 40,Gk,2,["_law_mix"]⟩
theorem Rc:Gz.fh BN Av=true:=by decide +kernel
def t9:FD:=⟨"law",top 57,Sq,1,["_law_right","_law_told","_law_text","_law_thing_rows","_law_due","_law_faulty","_law_steps","_law_joins","_law_parts","_law_mix","_law_kinds","_law_salt"]⟩
theorem XS:t9.fh BN J2=true:=by decide +kernel
def vh(s:Stmt):List Stmt:=match s with
|.ClassDef _ _ _ b _ _ _ _ _ _ _=>b
|_=>[]
def Rf:CD:=⟨"BadRow",44,(vh (top 2)).getD 0 (.Pass ⟨0,0,0,0⟩),["self","row"],[("row",1)]⟩
theorem Rg:Rf.fh DZ=true:=by decide +kernel
def Up:CD:=⟨"Twice",63,(vh (top 3)).getD 0 (.Pass ⟨0,0,0,0⟩),["self","row"],[("row",1)]⟩
theorem Uq:Up.fh DZ=true:=by decide +kernel
def Rh:CD:=⟨"NoPart",82,(vh (top 4)).getD 0 (.Pass ⟨0,0,0,0⟩),["self","row"],[("row",1)]⟩
theorem Ri:Rh.fh DZ=true:=by decide +kernel
def Rj:CD:=⟨"NoKind",120,(vh (top 6)).getD 0 (.Pass ⟨0,0,0,0⟩),["self","claim","row"],[("claim",1),("row",2)]⟩
theorem Rk:Rj.fh DZ=true:=by decide +kernel
def Rl:CD:=⟨"TooBig",139,(vh (top 7)).getD 0 (.Pass ⟨0,0,0,0⟩),["self","claim","row"],[("claim",1),("row",2)]⟩
theorem Rm:Rl.fh DZ=true:=by decide +kernel
end Tr
end
section
namespace K2
open PySem L2 L3
noncomputable def wordsOf(l:List Nat):List (List Nat):=(cu 32 l).filter fun w=>!w.isEmpty
theorem Hv:wordsOf []=[]:=rfl
theorem J9(c:Nat)(l:List Nat):cu c (c::l)=[]::cu c l:=by
 show(if c=c then _ else _)=_;rw[if_pos rfl]
theorem w9(l:List Nat):wordsOf (32::l)=wordsOf l:=by
 unfold wordsOf;rw[J9];rfl
theorem uO(n:Nat)(l:List Nat):wordsOf (aF n 32++l)=wordsOf l:=by
 induction n with
 |zero=>rfl
 |succ n ih=>rw[bV,m6,w9,ih]
theorem yq(w l:List Nat)(hw:w≠[])(h:32∉w):wordsOf (w++32::l)=w::wordsOf l:=by
 unfold wordsOf;rw[vU 32 w l h,dQ];cases w with
 |nil=>exact absurd rfl hw
 |cons a b=>rfl
theorem GA(z w:List Nat)(k:Nat)(done:List (List Nat))(hz:∀l,wordsOf (z++l)=done++wordsOf l)(hw:w≠[])(h:32∉w) :
  ∀l,wordsOf (z++w++aF (k+1) 32++l)=(done++[w])++wordsOf l:=by
 intro l;have e:z++w++aF (k+1) 32++l=z++(w++32::(aF k 32++l)):=by
  rw[bV];simp
 rw[e,hz,yq w _ hw h,uO];simp
noncomputable def sE(x:List Nat):List (List (List Nat)):=((cu 10 x).map wordsOf).filter fun r=>!r.isEmpty
theorem EC(ls:List Str)(h:∀z∈ls,10∉z.cps.toList):sE (fB ⟨#[10]⟩ ls).cps.toList=(ls.map fun z=>wordsOf z.cps.toList).filter fun r=>!r.isEmpty:=by
 by_cases he:ls=[]
 ·subst he;decide +kernel
 ·unfold sE;have q:=o9 10 (ls.map fun p=>p.cps.toList) (fB ⟨#[10]⟩ ls).cps.toList (by simpa using he) (by
   intro p hp;obtain⟨z,hz,rfl⟩:=b_.mp hp;exact h z hz) (join_list 10 ls he)
  rw[q,c9];rfl
noncomputable def rep(n:Int)(c:Nat):List Nat:=aF n.toNat c
noncomputable def t_(k:Nat)(s:Int):Nat:=98+((7*(k:Int)+s / 7)%25).toNat
noncomputable def ck(k:Nat)(s:Int):List Nat:=
 if s%5=0 then[t_ k s]
 else if s%5=1/\k<8 then rep (1+(3*(k:Int)+s / 35)%8) (98+(s / 5%7).toNat)
 else rep (s / 35%(1+s / 5%7)) (98+(s / 245%25).toNat)++t_ k s::113::rep (s / 5%7-s / 35%(1+s / 5%7)) (98+(s / 6125%25).toNat)
noncomputable def lW(k:Nat)(s:Int):Str:=strOf (ck k s)
theorem bL(a:Int){b:Int}(h:0<b):0<=a%b/\a%b<b:=⟨ed _ (by omega),di _ h⟩
theorem M_(k:Nat)(s:Int):98<=t_ k s/\t_ k s<=122:=by
 unfold t_;have:=bL (7*(k:Int)+s / 7) (b:=25) (by decide);omega
variable{i j:Nat}{s:Int}
theorem GB(hi:i<25)(hj:j<25)(h:t_ i s=t_ j s):i=j:=by
 unfold t_ at h;have a:=bL (7*(i:Int)+s / 7) (b:=25) (by decide);have b:=bL (7*(j:Int)+s / 7) (b:=25) (by decide);omega
theorem Rn(hi:i<25)(hj:j<25)(h:ck i s=ck j s):i=j:=by
 unfold ck at h;by_cases h0:s%5=0
 ·rw[if_pos h0,if_pos h0]at h;exact GB hi hj (kK h).1
 ·rw[if_neg h0,if_neg h0]at h;have m7:=bL (s / 5) (b:=7) (by decide);have m8i:=bL (3*(i:Int)+s / 35) (b:=8) (by decide);have m8j:=bL (3*(j:Int)+s / 35) (b:=8) (by decide);have msp:=bL (s / 35) (b:=1+s / 5%7) (by omega);have noq:∀(n:Int) (c:Nat) (a b:List Nat),98<=c->c<=104->rep n c≠a++113::b:=by
   intro n c a b h1 h2 z;have:113∈rep n c:=by rw[z];simp
   have:=(dW.mp this).2;omega
  have noq':∀(n:Int) (c d:Nat) (a b:List Nat),98<=c->c<=104->rep n c≠a++d::113::b:=by
   intro n c d a b h1 h2 z;exact noq n c (a++[d]) b h1 h2 (by rw[z];simp)
  by_cases ci:s%5=1/\i<8
  ·rw[if_pos ci]at h;by_cases cj:s%5=1/\j<8
   ·rw[if_pos cj]at h;have z:=congrArg HL h;unfold rep at z;rw[gh,gh]at z;obtain⟨_,ci⟩:=ci;obtain⟨_,cj⟩:=cj;omega
   ·rw[if_neg cj]at h;exact absurd h (noq' _ _ _ _ _ (by omega) (by omega))
  ·rw[if_neg ci]at h;by_cases cj:s%5=1/\j<8
   ·rw[if_pos cj]at h;exact absurd h.symm (noq' _ _ _ _ _ (by omega) (by omega))
   ·rw[if_neg cj]at h;have z:=List.append_cancel_left h;exact GB hi hj (kK z).1
theorem Ro(k:Nat)(s:Int):1<=(ck k s).length/\(ck k s).length<=8:=by
 unfold ck;have m7:=bL (s / 5) (b:=7) (by decide);have m8:=bL (3*(k:Int)+s / 35) (b:=8) (by decide);have msp:=bL (s / 35) (b:=1+s / 5%7) (by omega);split
 ·simp
 ·split
  ·unfold rep;rw[gh];omega
  ·unfold rep;simp only[aE,aW,gh];omega
theorem Rp(k:Nat)(s:Int):∀c∈ck k s,98<=c/\c<=122:=by
 intro c hc;unfold ck at hc;have ht:=M_ k s;have m7:=bL (s / 5) (b:=7) (by decide);have ma:=bL (s / 245) (b:=25) (by decide);have mb:=bL (s / 6125) (b:=25) (by decide);split at hc
 ·rw[aG.mp hc];exact ht
 ·split at hc
  ·rw[(dW.mp hc).2];omega
  ·rcases aT.mp hc with h|h
   ·rw[(dW.mp h).2];omega
   ·rcases aC.mp h with rfl|h
    ·exact ht
    ·rcases aC.mp h with rfl|h
     ·omega
     ·rw[(dW.mp h).2];omega
noncomputable def ua:List (List Nat):=[[97],[97,110],[116,104,101],[115,97,105,100],[99,108,97,105,109],[111,110],[111,114],[116,104,101,110],[102,114,111,109],[116,111],[111,102],[97,116],[108,101,97,115,116],[109,111,115,116],[106,117,115,116],[105,115]]
theorem Na(k:Nat)(s:Int):ck k s∉ua:=by
 intro h;have ht:=M_ k s;have m7:=bL (s / 5) (b:=7) (by decide);have q1:∀w∈ua,113∉w:=by decide
 have q2:∀w∈ua,∀a b l,w=a::b::l->a≠b:=by
  intro w hw a b l e;have h2:∀w∈ua,(match w with|a::b::_=>decide (a≠b)|_=>true)=true:=by decide
  have:=h2 w hw;rw[e]at this;simpa using this
 have q3:∀w∈ua,∀a,w=[a]->a=97:=by
  intro w hw a e;have h2:∀w∈ua,(match w with|[a]=>decide (a=97)|_=>true)=true:=by decide
  have:=h2 w hw;rw[e]at this;simpa using this
 unfold ck at h;split at h
 ·have:=q3 _ h _ rfl;omega
 ·split at h
  ·have m8:=bL (3*(k:Int)+s / 35) (b:=8) (by decide);generalize hn:(1+(3*(k:Int)+s / 35)%8).toNat=n at *;have hn1:1<=n:=by omega
   unfold rep at h;rw[hn]at h
   match n,hn1 with
   |1,_=>
    have:=q3 _ h _ rfl;omega
   |n+2,_=>exact q2 _ h _ _ _ rfl rfl
  ·refine q1 _ h ?_;simp
end K2
end
section
namespace K2
open PySem L2 L3 Tr
theorem fR(l:List Int):az (l.map D.int)=l.map D.int:=eG _ (fun _=>rfl) l
variable{α β:Type}
theorem za(f:α->β)(l:List α)(lo hi:Option Int):cut (l.map f) lo hi=(cut l lo hi).map f:=by
 unfold cut;rw[ah,<-List.map_drop,<-ER]
theorem kD(l:List α)(k:Nat):cut l none (some (k:Int))=l.take k:=by
 unfold cut;rw[HT.rD,HT.vO,j0,Nat.sub_zero];by_cases h:k<=l.length
 ·rw[kX h]
 ·rw[AQ (by omega),cy (aP _),cy (by omega)]
theorem wz(c k f:Int)(hk:0<=k/\k<2 ^ 20)(hf:0<=f/\f<2 ^ 62):iW [.int c,.int k,.int f]=.ok (.int ((c+k*k+1)*f%2305843009213693951)):=by
 unfold iW Cy;simp_arith []
theorem all_ints(l:List Int):(l.map D.int).all rW=true:=by rw[ir];simp[rW]
theorem WC(ns:List Int)(hn:ns.length<=63)(f:Int)(hf:0<=f/\f<2 ^ 62):∃m:Int,0<=m/\m<2305843009213693951/\sy [oU ns,.int f]=.ok (.int m):=by
 unfold sy Av Gr oU;simp_arith [];have e63:cut ns none (some 63)=ns:=by
  have:=kD ns 63;rw[cy hn]at this;exact this
 have hm:ns.map (fun i=>D.int (i%1000003))=(ns.map (·%1000003)).map D.int:=by rw[c9];rfl
 rw[fR,za,e63,fR,fR,iQ D.int (fun O=>∃o,O=[o]) (fun i=>D.int (i%1000003)) ns _ ⟨none,rfl⟩ (by
  rintro i _ O ⟨o,rfl⟩;refine⟨[some (.int i)],rfl,⟨_,rfl⟩,?_⟩;simp_arith []),hm]
 simp_arith [];rw[all_ints];generalize(s9 intD (s9 D.int (s9 (fun x=>x%1000003) ns))).sum=z;have hk:0<=(ns.length:Int)%64/\(ns.length:Int)%64<2 ^ 20:=by omega
 have q:=wz z ((ns.length:Int)%64) f hk hf;generalize hK:(ns.length:Int)%64=k at q ⊢;refine⟨(z+k*k+1)*f%2305843009213693951,ed _ (by decide),di _ (by decide),?_⟩;simp_arith -implicitDefEqProofs [];rw[q];simp_arith []
theorem IK(a b:List Nat):strOf a++strOf b=strOf (a++b):=by
 have h:∀x y:Str,x.cps=y.cps->x=y:=fun x y e=>by cases x;cases y;cases e;rfl
 refine h _ _ ?_;show a.toArray++b.toArray=(a++b).toArray;simp
theorem Ur(n:Nat)(c:Nat):(⟨(aF n [c]).flatten.toArray⟩:Str)=strOf (aF n c):=by
 have e:(aF n [c]).flatten=aF n c:=by
  induction n with
  |zero=>rfl
  |succ n ih=>rw[bV,c8,ih];rfl
 rw[e];rfl
theorem IL(c:Nat):(⟨#[c]⟩:Str)=strOf [c]:=rfl
theorem fW(l:List Nat):(strOf l).length=l.length:=by
 rw[<-len_str];rfl
theorem lX(i:Int)(h0:0<=i)(h1:i<25):cH (aK "bcdefghijklmnopqrstuvwxyz").cps.toList i=some (98+i.toNat):=by
 have e:(aK "bcdefghijklmnopqrstuvwxyz").cps.toList=(cW 25).map (98+·):=by decide +kernel
 have hi:i=(i.toNat:Int):=by omega
 have q:=cS (xs:=(cW 25).map (98+·)) (j:=i.toNat) (v:=98+i.toNat) (by
  rw[aX,xr (by omega)];rfl)
 rw[e];rw[<-hi]at q;exact q
theorem nt(c:Nat)(j:Int)(h:0<=j/\j<100):kh .Mult (.str ⟨#[c]⟩) (.int j)=.ok (.str (strOf (rep j c))):=by
 have hs:=szl;have e:(⟨#[c]⟩:Str).length=1:=rfl;rw[Gg ⟨h.1,by omega,by rw[e];omega⟩];show R.ok (D.str ⟨(aF j.toNat [c]).flatten.toArray⟩)=_;rw[Ur];rfl
theorem jT(j:Int)(c:Nat):(rep j c).length=j.toNat:=by unfold rep;rw[gh]
theorem qh(a b:List Nat)(h:a.length+b.length<=16777216):kh .Add (.str (strOf a)) (.str (strOf b))=.ok (.str (strOf (a++b))):=by
 have hs:=szl;rw[Gf (by rw[fW,fW,hs];exact h),IK]
theorem vj(k:Nat)(s:Int)(hk:k<25)(hs0:0<=s):gw [.int (k:Int),.int s]=.ok (.str (lW k s)):=by
 have hs:=szl;have hd:∀j:Int,0<j->j<10000->vM s j:=fun j h1 h2=>⟨h1,by omega⟩;have m7:=bL (s / 5) (b:=7) (by decide);have m8:=bL (3*(k:Int)+s / 35) (b:=8) (by decide);have m25:=bL (7*(k:Int)+s / 7) (b:=25) (by decide);have ma:=bL (s / 245) (b:=25) (by decide);have mb:=bL (s / 6125) (b:=25) (by decide);have msp:=bL (s / 35) (b:=1+s / 5%7) (by omega);have la:(aK "bcdefghijklmnopqrstuvwxyz").length=25:=by decide +kernel
 have l1:(aK "q")=strOf [113]:=by decide +kernel
 have e1:2+s / 5%7-1=1+s / 5%7:=by omega
 have e2:2+s / 5%7-s / 35%(1+s / 5%7)-2=s / 5%7-s / 35%(1+s / 5%7):=by omega
 unfold gw Aw;simp_arith [];rw[lX _ m25.1 m25.2];simp_arith [];unfold lW ck;by_cases h0:s%5=0
 ·rw[beq_iff_eq.mpr h0,if_pos h0];simp_arith [];rfl
 ·rw[beq_eq_false_iff_ne.mpr h0,if_neg h0];simp_arith [];by_cases c1:s%5=1
  ·rw[beq_iff_eq.mpr c1];by_cases c2:k<8
   ·have c3:s%5=1/\k<8:=⟨c1,c2⟩;have l7:=lX _ m7.1 (by omega);rw[if_pos c3];simp_arith [];rw[decide_eq_true (show(k:Int)<8 by omega),l7];simp_arith [];rw[nt _ _ (by omega)];simp_arith []
   ·have c3:¬(s%5=1/\k<8):=fun z=>c2 z.2;rw[if_neg c3];simp_arith [];rw[decide_eq_false (show ¬(k:Int)<8 by omega)];simp_arith [];rw[lX _ ma.1 ma.2,e1];simp_arith [];rw[nt _ _ (by omega)];simp_arith [];rw[e2,lX _ mb.1 mb.2,IL,l1];simp_arith [];rw[nt _ _ (by omega)];rw[qh _ _ (by simp only[jT,aW,dm];omega)];simp_arith [];rw[qh _ _ (by simp only[jT,aW,dm,aE];omega)];simp_arith [];rw[qh _ _ (by simp only[jT,aW,dm,aE];omega)];simp_arith [];rw[bQ,bQ];rfl
  ·have c3:¬(s%5=1/\k<8):=fun z=>c1 z.1;rw[beq_eq_false_iff_ne.mpr c1,if_neg c3];simp_arith [];rw[lX _ ma.1 ma.2,e1];simp_arith [];rw[nt _ _ (by omega)];simp_arith [];rw[e2,lX _ mb.1 mb.2,IL,l1];simp_arith [];rw[nt _ _ (by omega)];rw[qh _ _ (by simp only[jT,aW,dm];omega)];simp_arith [];rw[qh _ _ (by simp only[jT,aW,dm,aE];omega)];simp_arith [];rw[qh _ _ (by simp only[jT,aW,dm,aE];omega)];simp_arith [];rw[bQ,bQ];rfl
variable{b:bz->Fl}
theorem kE{g:D->bz->R bz}(n:Nat)(I:Nat->bz->Prop)(h:∀k<n,∀O,I k O->∃ZE ZG,g (.int (k:Int)) O=.ok ZE/\b ZE=.nx ZG/\I (k+1) ZG)(O:bz)(h0:I 0 O) :
  ∃ZC,forR g b (k9 0 n) O=.nx ZC/\I n ZC:=by
 have e:k9 0 n=(HQ 0 n).map fun k:Nat=>D.int (k:Int):=by
  unfold k9;rw[List.range_eq_range'];simp
 have go:∀(m j:Nat) (O:bz),j+m=n->I j O->∃ZC,forR g b ((HQ j m).map fun k:Nat=>D.int (k:Int)) O=.nx ZC/\I n ZC:=by
  intro m;induction m with
  |zero=>intro j O hj hi;rw[show n=j by omega];exact⟨O,rfl,hi⟩
  |succ m ih=>
   intro j O hj hi;obtain⟨ZE,ZG,h1,h2,h3⟩:=h j (by omega) O hi;obtain⟨ZC,h4,h5⟩:=ih (j+1) ZG (by omega) h3;refine⟨ZC,?_,h5⟩;rw[List.range'_succ,aV];show(g (.int (j:Int)) O).aY _=_;rw[h1];simp only[R.aY,h2];exact h4
 rw[e];exact go n 0 O (by omega) h0
noncomputable def Nb(s:Int):Option Nat->Str
|none=>aK ""
|some j=>lW j s
noncomputable def sG(s:Int)(i:Nat)(p:Option Nat):D:=.tup [.str (lW i s),.str (Nb s p)]
noncomputable def ee(s:Int)(up:List (Option Nat)):List D:=up.mapIdx (sG s)
def Good(up:List (Option Nat)):Prop:=∀(i p:Nat),up[i]?=some (some p)->p<i
theorem Us(s:Int)(up:List (Option Nat))(p:Option Nat):ee s up++[sG s up.length p]=ee s (up++[p]):=by
 unfold ee;rw[List.mapIdx_concat]
theorem CC(s:Int)(up:List (Option Nat))(i:Nat)(h:i<up.length):(ee s up)[i]?=some (sG s i up[i]):=by
 unfold ee;rw[List.getElem?_mapIdx,aA h];rfl
theorem kL(s:Int)(up:List (Option Nat)):(ee s up).length=up.length:=by
 unfold ee;rw[List.length_mapIdx]
theorem iS(x:α)(r:List α):cH (x::r) 0=some x:=cS (j:=0) rfl
theorem jm(x y:α)(r:List α):cH (x::y::r) 1=some y:=cS (j:=1) rfl
theorem at2(x y z:α)(r:List α):cH (x::y::z::r) 2=some z:=cS (j:=2) rfl
theorem Nc(x y z u:α)(r:List α):cH (x::y::z::u::r) 3=some u:=cS (j:=3) rfl
theorem IM:∀l:List D,(∀d∈l,bC d=d)->az l=l
|[],_=>rfl
|d::r,h=>by
 show bC d::az r=_;rw[h d ao,IM r fun x hx=>h x (ai _ hx)]
theorem jx(s:Int)(up:List (Option Nat)):az (ee s up)=ee s up:=IM _ fun d hd=>by
 unfold ee at hd;obtain⟨i,hi,rfl⟩:=List.mem_mapIdx.mp hd;rfl
theorem Rq{up:List (Option Nat)}{p:Option Nat}(h:Good up)(hp:∀j,p=some j->j<up.length):Good (up++[p]):=by
 intro i q hi;rw[List.getElem?_append]at hi;split at hi
 ·exact h i q hi
 ·rename_i hl;have:i-up.length=0:=by
   by_cases z:i-up.length=0
   ·exact z
   ·rw[vI (by simp;omega)]at hi;cases hi
  rw[this]at hi;have:=hp q (by simpa using hi);omega
theorem Ut(cells:List Int)(o:Bool)(s:Int)(hc:cells.length<=24)(hs0:0<=s):∃up,Good up/\up.length=cells.length/\qe [.lst o (cells.map D.int),.int s]=.ok (.lst true (ee s up)):=by
 have hs:=szl;unfold qe yd;simp_arith [];obtain⟨ZC,h1,up,kv,mv,uv,hg,hl,rfl⟩:=kE (g:=pG (.name 3)) (b:=bM tY 1000 nN) cells.length
  (fun k O=>∃(up:List (Option Nat)) (kv mv uv:Option D),Good up/\up.length=k/\O=[some (.lst o (cells.map D.int)),some (.int s),some (.lst true (ee s up)),kv,mv,uv]) (by
  rintro k hk O ⟨up,kv,mv,uv,hg,hl,rfl⟩;have hat:cH (cells.map D.int) (k:Int)=some (.int cells[k]):=cS (by rw[aX,aA hk];rfl);have qm:=wz cells[k] k 1234567890123456789 ⟨by omega,by omega⟩ ⟨by omega,by omega⟩;have m0:=ed ((cells[k]+(k:Int)*k+1)*1234567890123456789) (show(2305843009213693951:Int)≠0 by decide);have m1:=di ((cells[k]+(k:Int)*k+1)*1234567890123456789) (show(0:Int)<2305843009213693951 by decide);generalize(cells[k]+(k:Int)*k+1)*1234567890123456789%2305843009213693951=M at qm m0 m1;have qn:=vj k s (by omega) hs0;refine⟨[some (.lst o (cells.map D.int)),some (.int s),some (.lst true (ee s up)),some (.int k),mv,uv],?_⟩;have hnd:∀p:Option Nat,(∀j,p=some j->j<up.length)->∃ZG:bz,Fl.nx [some (.lst o (cells.map D.int)),some (.int s),some (.lst true (ee s up++[sG s up.length p])),some (.int k),some (.int M),some (.str (Nb s p))]=Fl.nx ZG /\
    ∃(up:List (Option Nat)) (kv mv uv:Option D),Good up/\up.length=k+1/\ZG=[some (.lst o (cells.map D.int)),some (.int s),some (.lst true (ee s up)),kv,mv,uv]:=by
   intro p hp;exact⟨_,rfl,up++[p],_,_,_,Rq hg hp,by simp[hl],by rw[Us]⟩
  suffices hh:∃p:Option Nat,(∀j,p=some j->j<up.length)/\bM tY 1000 nN [some (.lst o (cells.map D.int)),some (.int s),some (.lst true (ee s up)),some (.int k),mv,uv]=Fl.nx [some (.lst o (cells.map D.int)),some (.int s),some (.lst true (ee s up++[sG s up.length p])),some (.int k),some (.int M),some (.str (Nb s p))]by
   obtain⟨p,hp,he⟩:=hh;obtain⟨ZG,e3,e4⟩:=hnd p hp;exact⟨ZG,rfl,he.trans e3,e4⟩
  unfold nN tY;have hks:(ee s up).length<aa:=by rw[kL];omega
  simp_arith -implicitDefEqProofs [hat,qm,fR];by_cases c1:(k:Int)>0
  ·rw[decide_eq_true c1];simp_arith [];by_cases c2:M%4>0
   ·rw[decide_eq_true c2];have b1:=bL (M / 4) c1;have hat2:cH (ee s up) (M / 4%k)=some (sG s (M / 4%k).toNat (up[(M / 4%k).toNat]'(by omega))):=by
     have:=cS (CC s up (M / 4%k).toNat (by omega));rw[show(((M / 4%k).toNat:Nat):Int)=M / 4%k by omega]at this;exact this
    refine⟨some (M / 4%k).toNat,(by rintro j h;cases h;omega),?_⟩;simp_arith [hat2,sG,qn,jx,iS];rw[eU (xs:=ee s up) rfl hks rfl];simp_arith [];subst hl;rfl
   ·rw[decide_eq_false c2];refine⟨none,(by rintro j h;cases h),?_⟩;simp_arith [qn,jx];rw[eU (xs:=ee s up) rfl hks rfl];simp_arith [];subst hl;rfl
  ·rw[decide_eq_false c1];refine⟨none,(by rintro j h;cases h),?_⟩;simp_arith [qn,jx];rw[eU (xs:=ee s up) rfl hks rfl];simp_arith [];subst hl;rfl) [some (.lst o (cells.map D.int)),some (.int s),some (.lst true []),none,none,none] ⟨[],none,none,none,(by intro i p h;cases h),rfl,rfl⟩
 refine⟨up,hg,hl,?_⟩;simp_arith [iA,ah,iJ,h1]
theorem qi{g:D->bz->R bz}(enc:β->D)(xs:List β)(I:List β->bz->Prop)(h:∀pre x post,xs=pre++x::post->∀O,I pre O->∃ZE ZG,g (enc x) O=.ok ZE/\b ZE=.nx ZG/\I (pre++[x]) ZG)(O:bz)(h0:I [] O) :
  ∃ZC,forR g b (xs.map enc) O=.nx ZC/\I xs ZC:=by
 have go:∀(post pre:List β) (O:bz),xs=pre++post->I pre O->∃ZC,forR g b (post.map enc) O=.nx ZC/\I xs ZC:=by
  intro post;induction post with
  |nil=>intro pre O e hi;rw[e,bY];exact⟨O,rfl,hi⟩
  |cons x r ih=>
   intro pre O e hi;obtain⟨ZE,ZG,h1,h2,h3⟩:=h pre x r e O hi;obtain⟨ZC,h4,h5⟩:=ih (pre++[x]) ZG (by rw[e,bQ];rfl) h3;refine⟨ZC,?_,h5⟩;rw[aV];show(g (enc x) O).aY _=_;rw[h1];simp only[R.aY,h2];exact h4
 exact go xs [] O rfl h0
noncomputable def wD(w:List Nat):D:=.str (strOf w)
noncomputable def aN(r:List (List Nat)):D:=.lst false (r.map wD)
theorem iK(r:List (List Nat)):az (r.map wD)=r.map wD:=eG wD (fun _=>rfl) r
theorem jc(r:List (List Nat)):bC (aN r)=aN r:=by
 show D.lst false (az (r.map wD))=_;rw[iK];rfl
theorem o4(rs:List (List (List Nat))):az (rs.map aN)=rs.map aN:=eG aN jc rs
theorem WD:aK " "=⟨#[32]⟩:=by decide +kernel
def zP(c:Nat):Prop:=c=32\/(33<=c/\c<=126)
def sI(w:List Nat):Prop:=w≠[]/\32∉w/\10∉w/\w.length<=40/\∀c∈w,33<=c/\c<=126
theorem Nd(ws:List (List Nat))(hw:∀w∈ws,sI w)(hl:ws.length<=5)(a b c d e:Option D)(m:Int)(hm:0<=m/\m<2305843009213693951)(z0:List Nat)(hz0:∀l,wordsOf (z0++l)=wordsOf l)(hn0:10∉z0)(hz1:z0.length<=2)(hp0:∀c∈z0,zP c) :
  ∃(m':Int) (z:List Nat) (e':Option D),forR (pG (.name 6)) (bM lA 1000 jF) (ws.map wD) [a,b,c,d,some (.int m),some (.str (strOf z0)),e]=.nx [a,b,c,d,some (.int m'),some (.str (strOf z)),e']/\0<=m'/\m'<2305843009213693951/\wordsOf z=ws/\10∉z/\z.length<=212/\∀c∈z,zP c:=by
 have hs:=szl;obtain⟨ZC,h1,m',z,e',rfl,q1,q2,q3,q4,q5,q6⟩:=qi (g:=pG (.name 6)) (b:=bM lA 1000 jF) wD ws
  (fun done O=>∃(m':Int) (z:List Nat) (e':Option D),O=[a,b,c,d,some (.int m'),some (.str (strOf z)),e']/\0<=m'/\m'<2305843009213693951/\(∀l,wordsOf (z++l)=done++wordsOf l)/\10∉z/\z.length<=2+42*done.length/\∀c∈z,zP c) (by
  rintro pre x post hx O ⟨m',z,e',rfl,q1,q2,q3,q4,q5,q6⟩;obtain⟨w1,w2,w3,w4,w5⟩:=hw x (by rw[hx];simp);have hpl:pre.length<=4:=by rw[hx]at hl;simp at hl;omega
  refine⟨[a,b,c,d,some (.int m'),some (.str (strOf z)),some (wD x)],[a,b,c,d,some (.int (m' / 2)),some (.str (strOf (z++x++rep (1+m' / 3%2) 32))),some (wD x)],rfl,?_,_,_,_,rfl,by omega,by omega,?_,?_,?_,?_⟩
  ·unfold jF lA wD;have b2:=bL (m' / 3) (b:=2) (by decide);simp_arith [WD];rw[qh _ _ (by omega),nt _ _ (by omega)];simp_arith [];rw[qh _ _ (by simp only[jT,aE];omega)];simp_arith []
  ·have b2:=bL (m' / 3) (b:=2) (by decide);have e1:rep (1+m' / 3%2) 32=aF ((m' / 3%2).toNat+1) 32:=by
    unfold rep;rw[show(1+m' / 3%2).toNat=(m' / 3%2).toNat+1 by omega]
   rw[e1];exact GA z x _ pre q3 w1 w2
  ·intro hc;rcases aT.mp hc with hc|hc
   ·rcases aT.mp hc with hc|hc
    ·exact q4 hc
    ·exact w3 hc
   ·have:=(dW.mp hc).2;omega
  ·have b2:=bL (m' / 3) (b:=2) (by decide);simp only[aE,jT,aW,dm];omega
  ·intro y hy;rcases aT.mp hy with hy|hy
   ·rcases aT.mp hy with hy|hy
    ·exact q6 y hy
    ·exact .inr (w5 y hy)
   ·exact .inl (dW.mp hy).2) [a,b,c,d,some (.int m),some (.str (strOf z0)),e] ⟨m,z0,e,rfl,hm.1,hm.2,hz0,hn0,by simpa using hz1,hp0⟩
 refine⟨m',z,e',h1,q1,q2,?_,q4,by omega,q6⟩;have:=q3 [];rw[bY,Hv,bY]at this;exact this
noncomputable def sD(x:Str):D:=.str x
theorem strs_map:∀ls:List Str,ph (ls.map sD)=some ls
|[]=>rfl
|x::r=>by
 show(ph (r.map sD)).map (x::·)=_;rw[strs_map r];rfl
theorem Ss(ls:List Str):az (ls.map sD)=ls.map sD:=eG sD (fun _=>rfl) ls
noncomputable def wl(x:Str):List (List Nat):=wordsOf x.cps.toList
noncomputable def linesOf(ls:List Str):List (List (List Nat)):=(ls.map wl).filter fun r=>!r.isEmpty
theorem pL(a b:List Str):linesOf (a++b)=linesOf a++linesOf b:=by
 unfold linesOf;rw[a7,lN]
def Nf(z:Str):Prop:=10∉z.cps.toList/\z.length<=212/\∀c∈z.cps.toList,zP c
theorem Su(z:List Nat):wl (strOf z)=wordsOf z:=rfl
theorem Ng(n:Int):wordsOf (rep n 32)=[]:=by
 have:=uO n.toNat [];rw[bY]at this;exact this
theorem AB(n:Int):10∉rep n 32:=fun h=>by
 have:=(dW.mp h).2;omega
theorem w_(n:Int):linesOf [strOf (rep n 32)]=[]:=by
 unfold linesOf;rw[aV,Su,Ng];rfl
theorem zQ{z:List Nat}{r:List (List Nat)}(h:wordsOf z=r)(hr:r≠[]):linesOf [strOf z]=[r]:=by
 unfold linesOf;rw[aV,Su,h,jY,dQ]
 ·rfl
 ·cases r with
  |nil=>exact absurd rfl hr
  |cons a b=>rfl
def sJ(r:List (List Nat)):Prop:=r≠[]/\r.length<=5/\∀w∈r,sI w
theorem Nh(n:Nat):∀l:List Nat,(∀x∈l,x<=n)->l.sum<=l.length*n
|[],_=>gu _
|x::r,h=>by
 have:=Nh n r fun y hy=>h y (ai _ hy);have:=h x ao;rw[qH,aW,yG];omega
theorem Uu(r:List (List Nat)):qv (aN r)=.ok (r.map wD):=by
 show R.ok (az (r.map wD))=_;rw[iK]
theorem Uv(r:List (List Nat)):aQ (aN r)=false:=rfl
theorem WE(rows:List (List (List Nat)))(s:Int)(hs0:0<=s)(hs1:s<2305843009213693951)(hr:rows.length<=80)(hw:∀r∈rows,sJ r):∃x:Str,oX [.lst false (rows.map aN),.int s]=.ok (.str x)/\sE x.cps.toList=rows/\x.length<=40000/\∃ls:List Str,x=fB ⟨#[10]⟩ ls/\(ls≠[]\/rows=[])/\∀z∈ls,Nf z:=by
 have hs:=szl;obtain⟨ZC,h1,ls,kv,mv,lv,wv,rfl,q1,q2,q3⟩:=kE (g:=pG (.name 3)) (b:=bM lA 1000 pJ) rows.length
  (fun k O=>∃(ls:List Str) (kv mv lv wv:Option D),O=[some (.lst false (rows.map aN)),some (.int s),some (.lst true (ls.map sD)),kv,mv,lv,wv]/\linesOf ls=rows.take k/\(∀z∈ls,Nf z)/\ls.length<=2*k) (by
  rintro k hk O ⟨ls,kv,mv,lv,wv,rfl,q1,q2,q3⟩;have hat:cH (rows.map aN) (k:Int)=some (aN rows[k]):=cS (by rw[aX,aA hk];rfl);have qm:=wz s k 1313131313131313131 ⟨by omega,by omega⟩ ⟨by omega,by omega⟩;have m0:=ed ((s+(k:Int)*k+1)*1313131313131313131) (show(2305843009213693951:Int)≠0 by decide);have m1:=di ((s+(k:Int)*k+1)*1313131313131313131) (show(0:Int)<2305843009213693951 by decide);generalize(s+(k:Int)*k+1)*1313131313131313131%2305843009213693951=M at qm m0 m1;obtain⟨r1,r2,r3⟩:=hw rows[k] (gb hk);have et:rows.take (k+1)=rows.take k++[rows[k]]:=by rw[List.take_append_getElem hk]
  have b3:=bL M (b:=3) (by decide);refine⟨[some (.lst false (rows.map aN)),some (.int s),some (.lst true (ls.map sD)),some (.int k),mv,lv,wv],?_⟩;obtain⟨m',z,e',l1,l2,l3,l4,l5,l6,l7⟩:=Nd rows[k] r3 r2 (some (.lst false (rows.map aN))) (some (.int s)) (some (.lst true (ls.map sD))) (some (.int k)) wv M ⟨m0,m1⟩ (rep (M%3) 32) (by intro l;exact uO _ l) (AB _) (by rw[jT];omega) (fun c hc=>.inl (dW.mp hc).2);have hll:(ls.map sD).length<aa:=by rw[ah];omega
  have hll2:(ls.map sD++[D.str (strOf z)]).length<aa:=by rw[aE,ah,cg];omega
  unfold pJ;rw[show bM lA 1000 jF=bM [.fn iW []] 1000 jF from rfl]at l1;generalize jF=B at l1 ⊢;unfold lA;simp_arith -implicitDefEqProofs [qm,WD];rw[nt _ _ (by omega)];simp_arith [hat,o4,jc,Uu,Uv,l1];rw[eU (xs:=ls.map sD) rfl hll rfl];have e1:ls.map sD++[D.str (strOf z)]=(ls++[strOf z]).map sD:=by rw[a7];rfl
  have okz:∀y∈ls++[strOf z],Nf y:=by
   intro y hy;rcases aT.mp hy with hy|hy
   ·exact q2 y hy
   ·rw[aG.mp hy];exact⟨l5,by rw[fW];exact l6,l7⟩
  simp_arith [];by_cases c1:m'%5=1
  ·rw[beq_iff_eq.mpr c1];have b2:=bL (m' / 5) (b:=2) (by decide);simp_arith [];rw[nt _ _ (by omega)];simp_arith [];rw[eU (xs:=ls.map sD++[D.str (strOf z)]) rfl hll2 rfl];simp_arith [];refine⟨_,rfl,ls++[strOf z]++[strOf (rep (m' / 5%2) 32)],_,_,_,_,by rw[a7,<-e1];rfl,?_,?_,?_⟩
   ·rw[pL,pL,w_,zQ l4 r1,q1,et,bY]
   ·intro y hy;rcases aT.mp hy with hy|hy
    ·exact okz y hy
    ·rw[aG.mp hy];exact⟨AB _,by rw[fW,jT];omega,fun c hc=>.inl (dW.mp hc).2⟩
   ·simp only[aE,cg];omega
  ·rw[beq_eq_false_iff_ne.mpr c1];simp_arith [];refine⟨_,rfl,ls++[strOf z],_,_,_,_,by rw[<-e1],?_,okz,?_⟩
   ·rw[pL,zQ l4 r1,q1,et]
   ·simp only[aE,cg];omega) [some (.lst false (rows.map aN)),some (.int s),some (.lst true []),none,none,none,none] ⟨[],none,none,none,none,rfl,rfl,(by intro z hz;cases hz),by simp⟩
 have nl:aK "\n"=⟨#[10]⟩:=by decide +kernel
 unfold oX Ax;generalize pJ=B at h1 ⊢;simp_arith [o4,ah,iJ,h1,nl];rw[sY]at q1;have fin:∀ls:List Str,linesOf ls=rows->(∀z∈ls,Nf z)->ls.length<=161->∃x:Str,F9 (wm (((R.opt (ph (ls.map sD))).bind fun ss=>R.bA (decide ((ss.map (·.length)).sum+ss.length*(⟨#[10]⟩:Str).length<=aa)) (.ok (.str (fB ⟨#[10]⟩ ss)))).aY Fl.rt) (bM lA 1000 cJ.nil))=R.ok (D.str x)/\sE x.cps.toList=rows/\x.length<=40000/\∃ls:List Str,x=fB ⟨#[10]⟩ ls/\(ls≠[]\/rows=[])/\∀z∈ls,Nf z:=by
  intro ls h1 h2 h3;have e1:(⟨#[10]⟩:Str).length=1:=rfl;have b1:=Nh 212 (ls.map (·.length)) (by
   intro n hn;obtain⟨z,hz,rfl⟩:=b_.mp hn;exact(h2 z hz).2.1)
  rw[ah]at b1;have b2:=Ak ⟨#[10]⟩ ls;have b3:ls.length*(⟨#[10]⟩:Str).length=ls.length:=by rw[e1,Nat.mul_one]
  refine⟨fB ⟨#[10]⟩ ls,?_,?_,by omega,ls,rfl,?_,h2⟩
  ·rw[strs_map];simp_arith []
  ·rw[EC ls fun z hz=>(h2 z hz).1];exact h1
  ·cases ls with
   |nil=>exact .inr h1.symm
   |cons a r=>exact .inl (by simp)
 have em:aK ""=strOf (rep 0 32):=by decide +kernel
 by_cases c1:s / 3%4=1
 ·rw[beq_iff_eq.mpr c1];simp_arith [];rw[DJ (xs:=ls.map sD) rfl ⟨by decide,by decide,by rw[ah];omega⟩ rfl];simp_arith [];have e2:(ls.map sD).take (0:Int).toNat++D.str (aK "")::(ls.map sD).drop (0:Int).toNat=(aK ""::ls).map sD:=rfl;obtain⟨x,x1,x2⟩:=fin (aK ""::ls) (by
   show linesOf ([aK ""]++ls)=_;rw[pL,em,w_,q1];rfl) (by
   intro z hz;rcases aC.mp hz with rfl|hz
   ·exact⟨by rw[em];exact AB 0,by rw[em,fW,jT];decide,by rw[em];exact fun c hc=>.inl (dW.mp hc).2⟩
   ·exact q2 z hz) (by rw[aW];omega)
  refine⟨x,?_,x2⟩;rw[<-x1,e2,Ss]
 ·rw[beq_eq_false_iff_ne.mpr c1];simp_arith [];obtain⟨x,x1,x2⟩:=fin ls q1 q2 (by omega);refine⟨x,?_,x2⟩;rw[<-x1,Ss]
noncomputable def nT(a b:Nat)(x:Str):Bool:=x.cps.toList.all fun c=>decide (a<=c)&&decide (c<=b)
theorem yr(x:Str)(a b:Nat):ly [.str x,.str ⟨#[a]⟩,.str ⟨#[b]⟩]=.ok (.bl (nT a b x)):=by
 unfold ly sd yh;simp_arith [];unfold u7;rw[iQ (fun c:Nat=>D.str ⟨#[c]⟩) (fun O=>∃o,O=[o,some (D.str ⟨#[a]⟩),some (D.str ⟨#[b]⟩)]) (fun c=>D.bl (decide (a<=c)&&decide (c<=b))) x.cps.toList _ ⟨none,rfl⟩ (by
  rintro c _ O ⟨o,rfl⟩;refine⟨_,rfl,⟨_,rfl⟩,?_⟩;simp_arith [];rw[Yh,Yh];by_cases h1:c<a
  ·rw[decide_eq_true h1,decide_eq_false (show ¬a<=c by omega)];rfl
  ·rw[decide_eq_false h1,decide_eq_true (show a<=c by omega)];have e2:(!decide (b<c))=decide (c<=b):=by rw[dz];simp
   rw[e2];rfl)]
 simp_arith [];have e1:(x.cps.toList.map (fun c=>D.bl (decide (a<=c)&&decide (c<=b)))).all mL=true:=by rw[ir];simp[mL]
 have e2:(x.cps.toList.map (fun c=>D.bl (decide (a<=c)&&decide (c<=b)))).all lT=nT a b x:=by
  rw[ir];unfold nT;congr 1;funext c;show lT (D.bl (decide (a<=c)&&decide (c<=b)))=_;cases(decide (a<=c)&&decide (c<=b))<;>rfl
 rw[e1,e2];simp_arith []
noncomputable def isWord(x:Str):Bool:=decide (1<=x.length)&&decide (x.length<=8)&&nT 97 122 x&&!memD (.str x) dF
theorem uc(x:Str):nq [.str x]=.ok (.bl (isWord x)):=by
 unfold nq xZ D4;simp_arith [];have ea:(aK "a")=⟨#[97]⟩:=by decide +kernel
 have ez:(aK "z")=⟨#[122]⟩:=by decide +kernel
 rw[ea,ez];unfold isWord;by_cases h1:1<=x.length
 ·by_cases h2:x.length<=8
  ·rw[decide_eq_true (show(1:Int)<=(x.length:Int)by omega),decide_eq_true (show(x.length:Int)<=8 by omega),decide_eq_true h1,decide_eq_true h2];simp_arith [];rw[yr];simp_arith [];have hk:eY dF=true:=by decide +kernel
   have hz:az dF=dF:=by rfl
   cases nT 97 122 x with
   |false=>simp_arith []
   |true=>
    have e:cL .NotIn (.str x) (bC (D.cst dF))=.ok (.bl (!memD (.str x) dF)):=by
     have e0:bC (D.cst dF)=D.cst dF:=by
      show D.cst (az dF)=_;rw[hz]
     rw[e0];show(R.bA (cN (.str x)&&eY dF) (.ok (memD (.str x) dF))).bind (fun b=>R.ok (D.bl (!b)))=_;rw[hk];rfl
    rw[e];simp_arith []
  ·rw[decide_eq_true (show(1:Int)<=(x.length:Int)by omega),decide_eq_false (show ¬(x.length:Int)<=8 by omega),decide_eq_true h1,decide_eq_false h2];simp_arith []
 ·rw[decide_eq_false (show ¬(1:Int)<=(x.length:Int)by omega),decide_eq_false h1];simp_arith []
theorem str_beq(x y:Str):(x==y)=decide (x=y):=by
 rw[dz];simp
theorem wA(f:α->Str)(x:Str)(l:List α):memD (.str x) (l.map fun a=>D.str (f a))=l.any fun a=>f a==x:=by
 unfold memD;rw[oq];rfl
theorem ic{a b:List Nat}(h:strOf a=strOf b):a=b:=by
 have:=congrArg (fun z:Str=>z.cps.toList) h;simpa[strOf]using this
theorem Uw:dF=ua.map fun w=>D.str (strOf w):=by
 have e1:dF=(["a","an","the","said","claim","on","or","then","from","to","of","at","least","most","just","is"]:List Str).map D.str:=rfl;have e2:(["a","an","the","said","claim","on","or","then","from","to","of","at","least","most","just","is"]:List Str)=ua.map strOf:=by decide +kernel
 rw[e1,e2,c9];rfl
theorem lC(i:Nat)(s:Int):isWord (lW i s)=true:=by
 have hl:=Ro i s;have e:(lW i s).length=(ck i s).length:=fW _;unfold isWord;rw[decide_eq_true (by omega),decide_eq_true (by omega)];have h1:nT 97 122 (lW i s)=true:=by
  unfold nT;rw[bE];intro c hc;have:=Rp i s c hc;rw[decide_eq_true (by omega),decide_eq_true (by omega)];rfl
 have h2:memD (.str (lW i s)) dF=false:=by
  rw[Uw,wA,gz];intro w hw h;rw[str_beq,decide_eq_true_eq]at h;have:=ic h;subst this;exact Na i s hw
 rw[h1,h2];rfl
theorem Ni(x:Str):(cu 32 x.cps.toList).filter (fun p=>!(strOf p==aK ""))=wl x:=by
 unfold wl wordsOf;congr 1;funext p;have e:aK ""=strOf []:=by decide +kernel
 cases p with
 |nil=>rw[e];simp
 |cons a b=>
  rw[e,str_beq,decide_eq_false (fun h=>by cases ic h)];rfl
theorem g32:(#[32]:Array Nat).getD 0 0=32:=rfl
theorem g10:(#[10]:Array Nat).getD 0 0=10:=rfl
theorem AD(c:Nat)(l:List Nat):az (p6 c l)=(cu c l).map wD:=xT _
theorem J_(x:Str)(hx:x.length+2<=aa):rm [.str x]=.ok (.lst true ((wl x).map wD)):=by
 have sp1l:(⟨#[32]⟩:Str).length=1:=rfl;unfold rm wu By;simp_arith [WD,g32,AD];rw[r9 wD (fun O=>∃o,O=[o]) (fun p=>!(strOf p==aK "")) wD (cu 32 x.cps.toList) _ ⟨none,rfl⟩ (by
  rintro p _ O ⟨o,rfl⟩;refine⟨[some (wD p)],rfl,⟨_,rfl⟩,?_,?_⟩
  ·unfold wD;simp_arith []
  ·unfold wD;simp_arith []),Ni]
 simp_arith []
noncomputable def f_(r:List (List Nat)):D:=.lst true (r.map wD)
noncomputable def sL(x:Str):List (List (List Nat)):=(cu 10 x.cps.toList).map wordsOf
theorem Nj(x:Str)(hx:x.length+2<=aa):nj [.str x]=.ok (.lst true ((sL x).map f_)):=by
 have nll:(⟨#[10]⟩:Str).length=1:=rfl;have nl:aK "\n"=⟨#[10]⟩:=by decide +kernel
 unfold nj yb D3;simp_arith [nl,g10,AD];rw[iQ wD (fun O=>∃o,O=[o]) (fun p=>f_ (wordsOf p)) (cu 10 x.cps.toList) _ ⟨none,rfl⟩ (by
  rintro p hp O ⟨o,rfl⟩;have hpl:=(lU 10 x.cps.toList).1 p hp;have q:=J_ (strOf p) (by rw[fW];have:x.length=x.cps.toList.length:=(len_str x).symm;omega);refine⟨[some (wD p)],rfl,⟨_,rfl⟩,?_⟩;unfold wD;simp_arith [q];rfl)]
 simp_arith [];unfold sL;rw[c9];rfl
end K2
end
section
namespace K2
open PySem L2 L3 Tr
open PySem.NumText
noncomputable def fC:Nat->Nat->List Nat
|0,m=>[48+m%10]
|k+1,m=>if m<10 then[48+m]else fC k (m / 10)++[48+m%10]
theorem Rr(l:List Nat)(c:Nat):digitsVal (l++[c])=digitsVal l*10+(c-48):=by
 unfold digitsVal;rw[zx];rfl
theorem nU:∀(k m:Nat),m<10 ^ (k+1)->AllDigits (fC k m)/\fC k m≠[]/\(fC k m).length<=k+1/\digitsVal (fC k m)=m/\(m≠0->∀r,fC k m≠48::r)/\(m=0->fC k m=[48])
|0,m,h=>by
 have h:m<10:=by simpa using h
 show AllDigits [48+m%10]/\_;rw[s_ h];refine⟨fun c hc=>by rw[aG.mp hc];omega,by simp[fC],by simp[fC],?_,?_,?_⟩
 ·show digitsVal [48+m%10]=m;rw[s_ h];show 0*10+(48+m-48)=m;omega
 ·intro hm r e;have e:[48+m%10]=48::r:=e;rw[s_ h]at e;have:=(kK e).1;omega
 ·rintro rfl;rfl
|k+1,m,h=>by
 unfold fC;by_cases c:m<10
 ·rw[if_pos c];refine⟨fun c hc=>by rw[aG.mp hc];omega,by simp,by simp,?_,?_,?_⟩
  ·show 0*10+(48+m-48)=m;omega
  ·intro hm r e;have:=(kK e).1;omega
  ·rintro rfl;rfl
 ·rw[if_neg c];obtain⟨h1,h2,h3,h4,h5,_⟩:=nU k (m / 10) (by
   have e:10 ^ (k+1+1)=10*10 ^ (k+1):=by rw[Nat.pow_succ,G7]
   rw[e]at h;exact Nat.div_lt_of_lt_mul h)
  refine⟨fun c hc=>?_,by simp,by simp;omega,?_,?_,fun z=>by omega⟩
  ·rcases aT.mp hc with hc|hc
   ·exact h1 c hc
   ·rw[aG.mp hc];omega
  ·rw[Rr,h4];omega
  ·intro _ r e;cases q:fC k (m / 10)with
   |nil=>exact h2 q
   |cons a b=>
    rw[q]at e;have:=(kK e).1;subst this;exact h5 (by omega) b q
variable{c:Nat}
theorem Ka(h:48<=c/\c<=57):(B6 c).toNat=c:=by
 obtain⟨h1,h2⟩:=h;have:∀k:Nat,k<10->(B6 (48+k)).toNat=48+k:=by decide
 have q:=this (c-48) (by omega);rw[show 48+(c-48)=c by omega]at q;exact q
theorem zR:∀{l:List Nat},AllDigits l->(l.map B6).map wR=l
|[],_=>rfl
|c::r,h=>by
 rw[aV,aV,Ka h.head,zR h.tail]
theorem Sv(m:Nat)(h:m<10 ^ 30):(yO 10 m).map wR=fC 29 m:=by
 obtain⟨h1,h2,h3,h4,h5,h6⟩:=nU 29 m h;have e:=toDigits_all (fC 29 m) h1;rw[h4]at e;rw[e];by_cases hm:m=0
 ·rw[h6 hm];decide
 ·cases q:fC 29 m with
  |nil=>exact absurd q h2
  |cons c r=>
   have hc:c≠48:=fun z=>h5 hm r (by rw[q,z]);rw[List.dropWhile_cons,if_neg (by simpa using hc)];have z:=zR h1;rw[q]at z;exact z
theorem wF(m:Nat)(h:m<10 ^ 30):dP (m:Int)=strOf (fC 29 m):=by
 have e:dP (m:Int)=⟨((yO 10 m).map wR).toArray⟩:=Hh m;rw[e,Sv m h];rfl
theorem wH(m:Nat)(h0:0<m)(h:m<10 ^ 30):dP (-(m:Int))=strOf (45::fC 29 m):=by
 obtain⟨k,rfl⟩:∃k,m=k+1:=⟨m-1,by omega⟩;have e4:=Sv (k+1) h;have e1:(-((k+1:Nat):Int))=z4 k:=rfl;have e3:∀s:String,(aK s).cps=(s.toList.map wR).toArray:=fun s=>by
  rw[Str.ofString_eq_toList]
 have e5:(Hf (k+1)).toList=yO 10 (k+1):=by
  unfold Hf;simp
 rw[e1];have e2:toString (z4 k)="-"++Hf (k+1):=rfl;have:(aK (toString (z4 k))).cps=(strOf (45::fC 29 (k+1))).cps:=by
  rw[e2,e3,String.toList_append,a7,e5,e4];rfl
 exact Str.ext' this
noncomputable def sM(x:Str):Bool:=decide (1<=x.length)&&decide (x.length<=30)&&nT 48 57 x&&(x==aK "0"||!([48].isPrefixOf x.cps.toList))
theorem nV(x:Str):nQ [.str x]=.ok (.bl (sM x)):=by
 have e0:(aK "0")=⟨#[48]⟩:=by decide +kernel
 have e9:(aK "9")=⟨#[57]⟩:=by decide +kernel
 have q:=yr x 48 57;unfold sM;unfold nQ r_ yi;by_cases h1:1<=x.length
 ·by_cases h2:x.length<=30
  ·have g1:=decide_eq_true (show(1:Int)<=(x.length:Int)by omega);have g2:=decide_eq_true (show(x.length:Int)<=30 by omega);rw[decide_eq_true h1,decide_eq_true h2];simp_arith [g1,g2,e0,e9,q];cases nT 48 57 x with
   |false=>simp_arith []
   |true=>
    cases hc:(x==(⟨#[48]⟩:Str))with
    |false=>simp_arith [hc]
    |true=>simp_arith [hc]
  ·have g1:=decide_eq_true (show(1:Int)<=(x.length:Int)by omega);have g2:=decide_eq_false (show ¬(x.length:Int)<=30 by omega);rw[decide_eq_true h1,decide_eq_false h2];simp_arith [g1,g2]
 ·have g1:=decide_eq_false (show ¬(1:Int)<=(x.length:Int)by omega);rw[decide_eq_false h1];simp_arith [g1]
noncomputable def nW(x:Str):Str:=if[45].isPrefixOf x.cps.toList then⟨(cut x.cps.toList (some 1) none).toArray⟩else x
theorem WG(x:Str)(h:sM (nW x)=false):d_ [.str x]=.ok .non:=by
 have em:(aK "-").cps.toList=[45]:=by decide +kernel
 unfold nW at h;unfold d_ pH uN;cases c:[45].isPrefixOf x.cps.toList with
 |false=>
  rw[c,if_neg ak]at h;have q:=nV x;rw[h]at q;simp_arith [em,c,q]
 |true=>
  rw[c,if_pos rfl]at h;have q:=nV ⟨(cut x.cps.toList (some 1) none).toArray⟩;rw[h]at q;simp_arith [em,c,q]
theorem IP(x:Str)(n:Int)(h:sM (nW x)=true)(h0:(x==aK "-0")=false)(hl:x.length<=640)(hn:intText? x=some n):d_ [.str x]=.ok (.int n):=by
 have em:(aK "-").cps.toList=[45]:=by decide +kernel
 have hi:i9 .int [.str x]=.ok (.int n):=by
  show R.bA (decide (x.length<=640)) ((R.opt (intText? x)).bind fun n=>R.ok (D.int n))=_;rw[decide_eq_true hl,hn];rfl
 unfold nW at h;unfold d_ pH uN;cases c:[45].isPrefixOf x.cps.toList with
 |false=>
  rw[c,if_neg ak]at h;have q:=nV x;rw[h]at q;simp_arith [em,c,q,h0,hi]
 |true=>
  rw[c,if_pos rfl]at h;have q:=nV ⟨(cut x.cps.toList (some 1) none).toArray⟩;rw[h]at q;simp_arith [em,c,q,h0,hi]
variable{l:List Nat}
theorem Rt(h:AllDigits l):nT 48 57 (strOf l)=true:=by
 unfold nT;rw[bE];intro c hc;have:=h c hc;simp[this.1,this.2]
theorem Nk(h:∀r,l≠c::r):[c].isPrefixOf l=false:=by
 cases l with
 |nil=>rfl
 |cons a r=>
  have:a≠c:=fun z=>h r (by rw[z]);simp[B7,cT this]
theorem IQ(m:Nat)(h:m<10 ^ 30):sM (strOf (fC 29 m))=true:=by
 obtain⟨h1,h2,h3,h4,h5,h6⟩:=nU 29 m h;have l1:(strOf (fC 29 m)).length=(fC 29 m).length:=fW _;have l2:1<=(fC 29 m).length:=List.length_pos_iff.mpr h2;unfold sM;rw[l1,decide_eq_true l2,decide_eq_true h3,Rt h1];by_cases hm:m=0
 ·rw[h6 hm];have:(strOf [48]==aK "0")=true:=by decide +kernel
  rw[this];rfl
 ·have:[48].isPrefixOf (strOf (fC 29 m)).cps.toList=false:=Nk (h5 hm);rw[this];simp
theorem Sw{x:Str}(h:x=strOf l)(hl:l≠[45,48]):(x==aK "-0")=false:=by
 have e:aK "-0"=strOf [45,48]:=by decide +kernel
 rw[h,e,str_beq,decide_eq_false fun z=>hl (ic z)]
theorem XT(n:Int)(h0:-(10 ^ 30)<n)(h1:n<10 ^ 30):d_ [.str (dP n)]=.ok (.int n):=by
 by_cases hn:0<=n
 ·obtain⟨m,rfl⟩:∃m:Nat,n=(m:Int):=⟨n.toNat,by omega⟩;have hm:m<10 ^ 30:=by
   have:((10 ^ 30:Nat):Int)=10 ^ 30:=by decide
   omega
  obtain⟨d1,d2,d3,d4,d5,d6⟩:=nU 29 m hm;have l1:(strOf (fC 29 m)).length=(fC 29 m).length:=fW _;have ef:nW (strOf (fC 29 m))=strOf (fC 29 m):=by
   unfold nW;rw[if_neg];rw[show(strOf (fC 29 m)).cps.toList=fC 29 m from rfl,Nk fun r e=>by
    have:=d1 45 (by rw[e];simp);omega]
   decide
  rw[wF m hm];refine IP _ _ (by rw[ef];exact IQ m hm) (Sw rfl fun e=>?_) (by omega) ?_
  ·have:=d1 45 (by rw[e];simp);omega
  ·have q:=C4 (x:=strOf (fC 29 m)) d1 d2 (by omega);rw[q];show some ((digitsVal (fC 29 m):Nat):Int)=_;rw[d4]
 ·obtain⟨m,rfl,hp⟩:∃m:Nat,n=-(m:Int)/\0<m:=⟨(-n).toNat,by omega,by omega⟩;have hm:m<10 ^ 30:=by
   have:((10 ^ 30:Nat):Int)=10 ^ 30:=by decide
   omega
  obtain⟨d1,d2,d3,d4,d5,d6⟩:=nU 29 m hm;have l1:(strOf (45::fC 29 m)).length=(fC 29 m).length+1:=fW _;have ef:nW (strOf (45::fC 29 m))=strOf (fC 29 m):=by
   unfold nW;rw[if_pos (by show[45].isPrefixOf (45::fC 29 m)=true;simp[B7])];show strOf (cut (45::fC 29 m) (some ((1:Nat):Int)) none)=_;unfold cut;rw[HT.rD,HT.vO,kX (by simp),oF,j0,cy (by simp)]
  rw[wH m hp hm];refine IP _ _ (by rw[ef];exact IQ m hm) (Sw rfl fun e=>?_) (by omega) ?_
  ·have e2:=(kK e).2;exact d5 (by omega) [] e2
  ·have q:=HR (x:=strOf (45::fC 29 m)) rfl d1 d2 (by omega);rw[q,d4]
end K2
end
section
namespace K2
open PySem L2 L3 Tr
noncomputable def ie(row:Int):D:=.exc 44 ["row"] [.int row]
noncomputable def CF(row:Int):D:=.exc 63 ["row"] [.int row]
noncomputable def sN(row:Int):D:=.exc 82 ["row"] [.int row]
noncomputable def Kc(row:Int):D:=.exc 120 ["claim","row"] [.int 0,.int row]
noncomputable def uP(row:Int):D:=.exc 139 ["claim","row"] [.int 0,.int row]
theorem cr:(decide ¬aK "claim"=aK "row")=true:=by decide +kernel
noncomputable def oD:Option Int->D
|some n=>.int n
|none=>.non
abbrev qw(u:List Nat)(o:Option Int):Prop:=d_ [wD u]=.ok (oD o)
theorem XU(o:Option Int):bC (oD o)=oD o:=by cases o<;>rfl
theorem WH(o:Option Int):aQ (oD o)=true:=by cases o<;>rfl
theorem jq:∀l:List D,(∀d∈l,aQ d=true)->cD l=true
|[],_=>rfl
|d::r,h=>by
 show(aQ d&&cD r)=true;rw[h d ao,jq r fun x hx=>h x (ai _ hx)];rfl
theorem vm(r:List (List Nat))(c row:Int)(hl:((r.length:Int)==2+c)=false):bf [aN r,.int c,.int row]=.ex (ie row):=by
 have fr:=iK r;unfold bf ja kC aN;simp_arith [fr,hl];rfl
variable{Y:List PG}
theorem Ru(ZA:Y[1]?=some (.fn d_ []))(ps:List (List Nat×Option Int))(h:∀p∈ps,qw p.1 p.2):fG (pG (.name 0)) (fun _=>.ok true) (pE Y (.call 1 (.cons (.var 0) .nil))) (ps.map fun p=>wD p.1) [none]=.ok (ps.map fun p=>oD p.2):=by
 refine iQ (fun p:List Nat×Option Int=>wD p.1) (fun O=>∃o,O=[o]) (fun p=>oD p.2) ps _ ⟨none,rfl⟩ ?_;rintro p hp O ⟨o,rfl⟩;refine⟨[some (wD p.1)],rfl,⟨_,rfl⟩,?_⟩;have hu:d_ [D.str (strOf p.1)]=.ok (oD p.2):=h p hp;show(match Y[1]? with|some (.fn m dds)=>(eS Y (.cons (.var 0) .nil) [some (wD p.1)]).bind fun ds=>m (az ds++dds)|_=>.bad)=_;rw[ZA];show d_ [D.str (strOf p.1)]=_;exact hu
theorem CH(r:List (List Nat))(w:List Nat)(c row:Int)(hr:r[1]?=some w)(hw:isWord (strOf w)=false):bf [aN r,.int c,.int row]=.ex (ie row):=by
 cases hl:((r.length:Int)==2+c)with
 |false=>exact vm r c row hl
 |true=>
  have q:=uc (strOf w);rw[hw]at q;have fr:=iK r;have h1:cH (r.map wD) 1=some (.str (strOf w)):=cS (j:=1) (by rw[aX,hr];rfl);unfold bf ja kC aN;simp_arith [fr,hl,h1,q];rfl
theorem vn(a w:List Nat)(ps:List (List Nat×Option Int))(row:Int)(hl:ps.length<=4)(hp:∀p∈ps,qw p.1 p.2)(hw:isWord (strOf w)=true):bf [aN (a::w::ps.map (·.1)),.int (ps.length:Int),.int row]=if memD .non (ps.map fun p=>oD p.2)=true then .ex (ie row)else .ok (.lst true (ps.map fun p=>oD p.2)):=by
 have hs:=szl;have q:=uc (strOf w);rw[hw]at q;have hc:=Ru (Y:=[.cls 44 [("row",1)] 2,.fn d_ [],.fn nq []]) rfl ps hp;have fr:=iK (a::w::ps.map (·.1));have fn:az (ps.map fun p=>oD p.2)=ps.map fun p=>oD p.2:=eG _ (fun p=>XU p.2) ps;have on:cD (ps.map fun p=>oD p.2)=true:=jq _ fun d hd=>by
  obtain⟨p,_,rfl⟩:=b_.mp hd;exact WH p.2
 have nn:eY (ps.map fun p=>oD p.2)=true:=by
  have:∀l:List (List Nat×Option Int),dY (l.map fun p=>oD p.2) 12=true:=fun l=>by
   induction l with
   |nil=>rfl
   |cons p t ih=>
    show(jN (oD p.2) 12&&dY (t.map fun p=>oD p.2) 12)=true;rw[ih];cases p.2<;>rfl
  exact this ps
 have h1:cH ((a::w::ps.map (·.1)).map wD) 1=some (.str (strOf w)):=cS (j:=1) rfl;have hln:(((a::w::ps.map (·.1)).map wD).length:Int)=2+(ps.length:Int):=by simp;omega
 have hlb:((((a::w::ps.map (·.1)).map wD).length:Int)==2+(ps.length:Int))=true:=by rw[hln];simp
 have hcut:cut ((a::w::ps.map (·.1)).map wD) (some 2) none=ps.map fun p=>wD p.1:=by
  show cut ((a::w::ps.map (·.1)).map wD) (some ((2:Nat):Int)) none=_;unfold cut;rw[HT.rD,HT.vO,kX (by simp)];simp only[aV,oF,j0,c9];rw[cy (by simp)];rfl
 have fc:az (ps.map fun p=>wD p.1)=ps.map fun p=>wD p.1:=eG _ (fun _=>rfl) ps;unfold bf ja kC aN;generalize(a::w::ps.map (·.1)).map wD=R at fr h1 hlb hcut;simp_arith [fr,h1,q,hlb,hcut,hc,fn,on,fc];rw[r6 rfl nn];cases hm:memD .non (ps.map fun p=>oD p.2)with
 |true=>
  simp_arith [];rfl
 |false=>simp_arith [fn,on]
theorem n2e(r:List (List Nat))(h:r.length≠2):((r.length:Int)==2)=false:=by
 rw[beq_eq_false_iff_ne];omega
theorem GC(r:List (List Nat))(row:Int)(kd:List D)(o:Bool)(c:Int)(h:r.length≠2)(fk:az kd=kd):fm [aN r,.int row,.lst o kd,.int c]=.ex (ie row):=by
 have fr:=iK r;have e:=n2e r h;unfold fm p7 tU aN;simp_arith [fr,e,fk];rfl
theorem Eh(a w:List Nat)(row:Int)(kd:List D)(o:Bool)(c:Int)(hw:isWord (strOf w)=false)(fk:az kd=kd):fm [aN [a,w],.int row,.lst o kd,.int c]=.ex (ie row):=by
 have q:=uc (strOf w);rw[hw]at q;have e2:((((2:Nat):Int))==2)=true:=rfl;show fm [.lst false [.str (strOf a),.str (strOf w)],.int row,.lst o kd,.int c]=_;unfold fm p7 tU;simp_arith [jm,q,e2,fk];rfl
theorem Ei(a w:List Nat)(row:Int)(kd:List D)(o:Bool)(c:Nat)(hw:isWord (strOf w)=true)(fk:az kd=kd)(nk:eY kd=true):fm [aN [a,w],.int row,.lst o kd,.int (c:Int)]=if memD (.str (strOf w)) kd=true then(if 8<=c then .ex (uP row)else .ok (.tup [.str (strOf w),.lst true []]))else .ex (Kc row):=by
 have hs:=szl;have q:=uc (strOf w);rw[hw]at q;have e2:((((2:Nat):Int))==2)=true:=rfl;show fm [.lst false [.str (strOf a),.str (strOf w)],.int row,.lst o kd,.int (c:Int)]=_;have hn:∀o,cL .NotIn (.str (strOf w)) (.lst o kd)=.ok (.bl (!memD (.str (strOf w)) kd)):=fun o=>pq rfl nk;unfold fm p7 tU;simp_arith [jm,q,e2,fk,hn];cases hm:memD (.str (strOf w)) kd with
 |false=>
  simp_arith [hm,cr];rfl
 |true=>
  by_cases h8:8<=c
  ·have g:=decide_eq_true (show(8:Int)<=(c:Int)by omega);rw[if_pos h8];simp_arith [hm,g,cr];rfl
  ·have g:=decide_eq_false (show ¬(8:Int)<=(c:Int)by omega);rw[if_neg h8];simp_arith [hm,g,jm]
noncomputable def okN(pc:Int)(n:Int):Bool:=decide (0<=n)&&decide (n<pc)
theorem Ux(d:D)(row pc n:Int):bM dG 1000 cM [some d,some (.int row),some (.int pc),some (.int n)]=if okN pc n=true then .nx [some d,some (.int row),some (.int pc),some (.int n)]else .ex (sN row):=by
 unfold cM dG okN;by_cases h1:0<=n
 ·by_cases h2:n<pc
  ·have g1:=decide_eq_true h1;have g2:=decide_eq_true h2;simp_arith [g1,g2]
  ·have g1:=decide_eq_true h1;have g2:=decide_eq_false h2;simp_arith [g1,g2];rfl
 ·have g1:=decide_eq_false h1;simp_arith [g1];rfl
theorem IS(d:D)(row pc:Int):∀(ns:List Int) (a:Option D),(ns.all (okN pc)=true->∃a',forR (pG (.name 3)) (bM dG 1000 cM) (ns.map D.int) [some d,some (.int row),some (.int pc),a]=.nx [some d,some (.int row),some (.int pc),a'])/\(ns.all (okN pc)=false->forR (pG (.name 3)) (bM dG 1000 cM) (ns.map D.int) [some d,some (.int row),some (.int pc),a]=.ex (sN row))
|[],a=>⟨fun _=>⟨a,rfl⟩,fun h=>by cases h⟩
|n::r,a=>by
 obtain⟨i1,i2⟩:=IS d row pc r (some (.int n));have e:forR (pG (.name 3)) (bM dG 1000 cM) ((n::r).map D.int) [some d,some (.int row),some (.int pc),a]=(match bM dG 1000 cM [some d,some (.int row),some (.int pc),some (.int n)]with
   |.nx ZG=>forR (pG (.name 3)) (bM dG 1000 cM) (r.map D.int) ZG
   |.ct ZG=>forR (pG (.name 3)) (bM dG 1000 cM) (r.map D.int) ZG
   |.bk ZG=>.nx ZG
   |.rt d=>.rt d
   |.ex x=>.ex x
   |.bad=>.bad):=rfl
 rw[e,Ux];cases hn:okN pc n with
 |true=>
  rw[if_pos rfl,kJ,hn,Bool.true_and];exact⟨i1,i2⟩
 |false=>
  rw[if_neg ak,kJ,hn,vv];exact⟨fun z=>(by cases z),fun _=>rfl⟩
theorem GD(ns:List Int)(row pc:Int):f9 [.lst false (ns.map D.int),.int row,.int pc]=if ns.all (okN pc)=true then .ok .non else .ex (sN row):=by
 obtain⟨h1,h2⟩:=IS (.lst false (ns.map D.int)) row pc ns none;have fn:=fR ns;unfold f9 mX;cases h:ns.all (okN pc)with
 |true=>
  obtain⟨a,e⟩:=h1 h;rw[show dG=[.cls 82 [("row",1)] 2]from rfl]at e ⊢;generalize cM=B at e ⊢;simp_arith [fn,e]
 |false=>
  have e:=h2 h;rw[show dG=[.cls 82 [("row",1)] 2]from rfl]at e ⊢;generalize cM=B at e ⊢;simp_arith [fn,e]
noncomputable def zD(z:List Nat×Int):D:=.tup [wD z.1,.int z.2]
theorem iu(zs:List (List Nat×Int)):az (zs.map zD)=zs.map zD:=eG zD (fun _=>rfl) zs
theorem Rv(zs:List (List Nat×Int)):fG (pG (.name 0)) (fun _=>.ok true) (pE Y (.ix (.var 0) (.con (.int 0)))) (zs.map zD) [none]=.ok (zs.map fun z=>wD z.1):=by
 refine iQ zD (fun O=>∃o,O=[o]) (fun z=>wD z.1) zs _ ⟨none,rfl⟩ ?_;rintro z hz O ⟨o,rfl⟩;refine⟨[some (zD z)],rfl,⟨_,rfl⟩,?_⟩;unfold zD wD;simp_arith [iS]
noncomputable def kO(zs:List (List Nat×Int))(w:List Nat):Bool:=zs.any fun z=>decide (z.1=w)
theorem Uy(zs:List (List Nat×Int))(w:List Nat):memD (.str (strOf w)) (zs.map fun z=>wD z.1)=kO zs w:=by
 unfold kO;have:=wA (fun z:List Nat×Int=>strOf z.1) (strOf w) zs;rw[show(zs.map fun z=>wD z.1)=zs.map fun z=>D.str (strOf z.1)from rfl,this];congr 1;funext z;rw[str_beq,dz,decide_eq_true_eq,decide_eq_true_eq];exact⟨ic,fun e=>by rw[e]⟩
theorem XW{α:Type}(f:α->List Nat)(l:List α):eY (l.map fun a=>wD (f a))=true:=by
 have:∀l:List α,dY (l.map fun a=>wD (f a)) 12=true:=fun l=>by
  induction l with
  |nil=>rfl
  |cons a t ih=>
   show(jN (wD (f a)) 12&&dY (t.map fun a=>wD (f a)) 12)=true;rw[ih];rfl
 exact this l
theorem Uz(r:List (List Nat))(row:Int)(zs:List (List Nat×Int))(x:D)(h:bf [aN r,.int 1,.int row]=.ex x):gE [aN r,.int row,.lst false (zs.map zD)]=.ex x:=by
 have fr:=iK r;have h:bf [.lst false (r.map wD),.int 1,.int row]=.ex x:=h;have fz:=iu zs;unfold gE tQ yj aN;simp_arith [fr,fz,h]
theorem Ej(a w u:List Nat)(n:Int)(row:Int)(zs:List (List Nat×Int))(hl:zs.length<=1000)(hu:qw u (some n))(hw:isWord (strOf w)=true):gE [aN [a,w,u],.int row,.lst false (zs.map zD)]=if kO zs w=true then .ex (CF row)else if 4<=zs.length then .ex (uP row)else .ok (.tup [wD w,.int n]):=by
 have hs:=szl;have q:=vn a w [(u,some n)] row (by simp) (fun p hp=>by rw[aG.mp hp];exact hu) hw;have q:bf [.lst false [.str (strOf a),.str (strOf w),.str (strOf u)],.int 1,.int row]=.ok (.lst true [.int n]):=q;have fz:=iu zs;have hc:=Rv (Y:=[.val (.int 4),.cls 139 [("claim",1),("row",2)] 3,.cls 63 [("row",1)] 2,.fn bf []]) zs;have fw:az (zs.map fun z=>wD z.1)=zs.map fun z=>wD z.1:=eG _ (fun _=>rfl) zs;have hin:∀o,cL .In (.str (strOf w)) (.lst o (zs.map fun z=>wD z.1))=.ok (.bl (kO zs w)):=fun o=>by rw[r6 rfl (XW _ zs),Uy]
 show gE [.lst false [.str (strOf a),.str (strOf w),.str (strOf u)],.int row,.lst false (zs.map zD)]=_;unfold gE tQ yj;simp_arith [fz,q,jm,hc,fw,hin];cases hm:kO zs w with
 |true=>
  simp_arith [];rfl
 |false=>
  by_cases h4:4<=zs.length
  ·have g:=decide_eq_true (show(4:Int)<=(zs.length:Int)by omega);rw[if_pos h4];simp_arith [fz,g,cr];rfl
  ·have g:=decide_eq_false (show ¬(4:Int)<=(zs.length:Int)by omega);rw[if_neg h4];simp_arith [fz,g,jm,iS];rfl
variable{n:Nat}{O:bz}
theorem wJ{g:Nat}{as:j6}:pS Y n (.expr (.call g as)) O=(pE Y (.call g as) O).aY fun _=>.nx O:=rfl
noncomputable abbrev J3:=List Nat×Int×Int
noncomputable def jD(j:J3):D:=.tup [wD j.1,.int j.2.1,.int j.2.2]
theorem iw(js:List J3):az (js.map jD)=js.map jD:=eG jD (fun _=>rfl) js
theorem Kd(js:List J3):eY (js.map jD)=true:=by
 have:∀l:List J3,dY (l.map jD) 12=true:=fun l=>by
  induction l with
  |nil=>rfl
  |cons a t ih=>
   show(jN (jD a) 12&&dY (t.map jD) 12)=true;rw[ih];rfl
 exact this js
noncomputable def lD(js:List J3)(j:J3):Bool:=js.any fun x=>decide (x=j)
theorem XX(x y:J3):jj (jD x) (jD y)=decide (x=y):=by
 show(((strOf x.1==strOf y.1):Bool)&&((x.2.1==y.2.1)&&((x.2.2==y.2.2)&&true)))=_;rw[str_beq,dz];simp only[bq,decide_eq_true_eq,beq_iff_eq,gK];obtain⟨a,b,c⟩:=x;obtain⟨a',b',c'⟩:=y;constructor
 ·rintro⟨h1,h2,h3⟩;have h1:=ic h1;cases h1;cases h2;cases h3;rfl
 ·intro e;cases e;exact⟨rfl,rfl,rfl⟩
theorem GF(js:List J3)(j:J3):memD (jD j) (js.map jD)=lD js j:=by
 unfold memD lD;rw[oq];congr 1;funext x;exact XX x j
theorem UA(r:List (List Nat))(row pc:Int)(js:List J3)(x:D)(h:bf [aN r,.int 2,.int row]=.ex x):gH [aN r,.int row,.int pc,.lst false (js.map jD)]=.ex x:=by
 have fr:=iK r;have h:bf [.lst false (r.map wD),.int 2,.int row]=.ex x:=h;have fj:=iw js;unfold gH tR yk aN;simp_arith [fr,fj,h]
theorem Ek(a w u v:List Nat)(m n:Int)(row pc:Int)(js:List J3)(hl:js.length<=1000)(hu:qw u (some m))(hv:qw v (some n))(hw:isWord (strOf w)=true):gH [aN [a,w,u,v],.int row,.int pc,.lst false (js.map jD)]=
  if m=n then .ex (ie row)else if(okN pc m&&okN pc n)=true then(if lD js (w,m,n)=true then .ex (CF row)else if 16<=js.length then .ex (uP row)else .ok (jD (w,m,n)))else .ex (sN row):=by
 have hs:=szl;have q:=vn a w [(u,some m),(v,some n)] row (by simp) (fun p hp=>by
  rcases aC.mp hp with h|h
  ·rw[h];exact hu
  ·rw[aG.mp h];exact hv) hw
 have q:bf [.lst false [.str (strOf a),.str (strOf w),.str (strOf u),.str (strOf v)],.int 2,.int row]=.ok (.lst true [.int m,.int n]):=q;have rf:=GD [m,n] row pc;have rf:f9 [.lst false [.int m,.int n],.int row,.int pc]=if(okN pc m&&(okN pc n&&true))=true then .ok .non else .ex (sN row):=rf
 rw[gK]at rf;have fj:=iw js;have hin:∀o,cL .In (.tup [.str (strOf w),.int m,.int n]) (.lst o (js.map jD))=.ok (.bl (lD js (w,m,n))):=fun o=>by
  rw[r6 rfl (Kd js)];exact congrArg (fun b=>R.ok (D.bl b)) (GF js (w,m,n))
 show gH [.lst false [.str (strOf a),.str (strOf w),.str (strOf u),.str (strOf v)],.int row,.int pc,.lst false (js.map jD)]=_;unfold gH tR yk;by_cases he:m=n
 ·have g:=beq_iff_eq.mpr he;rw[if_pos he];simp_arith [fj,q,iS,jm,g];rfl
 ·have g:=beq_eq_false_iff_ne.mpr he;rw[if_neg he];cases ho:(okN pc m&&okN pc n)with
  |false=>
   rw[ho,if_neg ak]at rf;simp_arith [fj,q,iS,jm,g,wJ,rf]
  |true=>
   rw[ho,if_pos rfl]at rf;cases hm:lD js (w,m,n)with
   |true=>
    simp_arith [fj,q,iS,jm,g,wJ,rf,hin,hm];rfl
   |false=>
    by_cases h4:16<=js.length
    ·have g4:=decide_eq_true (show(16:Int)<=(js.length:Int)by omega);rw[if_pos h4];simp_arith [fj,q,iS,jm,g,wJ,rf,hin,hm,g4,cr];rfl
    ·have g4:=decide_eq_false (show ¬(16:Int)<=(js.length:Int)by omega);rw[if_neg h4];simp_arith [fj,q,iS,jm,g,wJ,rf,hin,hm,g4,cr];rfl
theorem UB(r:List (List Nat))(row pc c:Int)(x:D)(h:bf [aN r,.int 1,.int row]=.ex x):gJ [aN r,.int row,.int pc,.int c]=.ex x:=by
 have fr:=iK r;have h:bf [.lst false (r.map wD),.int 1,.int row]=.ex x:=h;unfold gJ tS yl aN;simp_arith [fr,h]
theorem El(a w u:List Nat)(n:Int)(row pc:Int)(c:Nat)(hu:qw u (some n))(hw:isWord (strOf w)=true):gJ [aN [a,w,u],.int row,.int pc,.int (c:Int)]=if okN pc n=true then(if 8<=c then .ex (uP row)else .ok (zD (w,n)))else .ex (sN row):=by
 have hs:=szl;have q:=vn a w [(u,some n)] row (by simp) (fun p hp=>by rw[aG.mp hp];exact hu) hw;have q:bf [.lst false [.str (strOf a),.str (strOf w),.str (strOf u)],.int 1,.int row]=.ok (.lst true [.int n]):=q;have rf:=GD [n] row pc;have rf:f9 [.lst false [.int n],.int row,.int pc]=if(okN pc n&&true)=true then .ok .non else .ex (sN row):=rf
 rw[gK]at rf;show gJ [.lst false [.str (strOf a),.str (strOf w),.str (strOf u)],.int row,.int pc,.int (c:Int)]=_;unfold gJ tS yl;cases ho:okN pc n with
 |false=>
  rw[ho,if_neg ak]at rf;simp_arith [q,iS,jm,wJ,rf]
 |true=>
  rw[ho,if_pos rfl]at rf;by_cases h4:8<=c
  ·have g4:=decide_eq_true (show(8:Int)<=(c:Int)by omega);rw[if_pos h4];simp_arith [q,iS,jm,wJ,rf,g4,cr];rfl
  ·have g4:=decide_eq_false (show ¬(8:Int)<=(c:Int)by omega);rw[if_neg h4];simp_arith [q,iS,jm,wJ,rf,g4,cr];rfl
noncomputable abbrev P2:=List Nat×List (List Nat×Int)
noncomputable def pD(p:P2):D:=.tup [wD p.1,.lst true (p.2.map zD)]
noncomputable def bF:List Nat:=[112,97,114,116]
noncomputable def a8:List Nat:=[115,105,122,101]
noncomputable def bg:List Nat:=[106,111,105,110]
noncomputable def bB:List Nat:=[115,116,101,112]
theorem gx:aK "part"=strOf bF:=by decide +kernel
theorem gZ:aK "size"=strOf a8:=by decide +kernel
theorem gO:aK "join"=strOf bg:=by decide +kernel
theorem ud:aK "step"=strOf bB:=by decide +kernel
theorem ue(a b:List Nat):(strOf a==strOf b)=decide (a=b):=by
 rw[str_beq];by_cases h:a=b
 ·subst h;simp
 ·rw[decide_eq_false h,decide_eq_false fun z=>h (ic z)]
variable{r:cJ}
theorem Nl{s t:CS}:bM Y n (.two s t r) O=wm (we Y s t O) (bM Y n r):=by
 show(match we Y s t O with|.nx ZC=>bM Y n r ZC|x=>x)=_;unfold wm;cases we Y s t O<;>rfl
variable{k:Nat}{a:CE}
theorem Nm{j:Nat}{is:List Int}{o:CE}(h:uK O o=some (k,is)):we Y (.asg (.name j) o) (.expr (.mth .append (.var j) (.cons a .nil))) O=xX Y k is j a O:=by
 show(if j=j then(match uK O o with|some p=>xX Y p.1 p.2 j a O|none=>.bad)else .bad)=_;rw[if_pos rfl,h]
theorem nX(a:List Nat)(r:List (List Nat)):cL .Eq (aN (a::r)) (.lst true [])=.ok (.bl false):=by
 have key:∀(l:List (List Nat)) (n:Nat),dY (l.map wD) n=true:=fun l n=>by
  induction l with
  |nil=>rfl
  |cons a t ih=>show(jN (wD a) n&&dY (t.map wD) n)=true;rw[ih];rfl
 have h:cN (aN (a::r))=true:=key (a::r) 11;rw[IE h rfl];rfl
theorem UC:cL .Eq (aN []) (.lst true [])=.ok (.bl true):=rfl
noncomputable abbrev jU(kd tx:D)(wk:List D)(pd:List D)(js:List J3)(ss:List (List Nat×Int))(row words sz:Option D):bz:=[some kd,some tx,some (.lst true wk),some (.lst true pd),some (.lst true (js.map jD)),some (.lst true (ss.map zD)),row,words,sz]
section
variable(kd tx:D) (wk:List D) (fk:az wk=wk) (pd:List D) (fd:List D) (fp:az pd=fd) (hp:pd.length<=1000) (js:List J3) (hj:js.length<=1000) (ss:List (List Nat×Int)) (hz:ss.length<=1000) (row:Int) (sz:Option D)
include fk fp hp hj hz
theorem UD:bM bH 1000 a_ (jU kd tx wk pd js ss (some (.int row)) (some (aN [])) sz)=.ct (jU kd tx wk pd js ss (some (.int row)) (some (aN [])) sz):=by
 have nr:=UC;have fr:=jc [];unfold a_ bH jU;generalize aN []=d at nr fr ⊢;simp_arith [nr,fr]
theorem Ke(r:List (List Nat))(v:D)(ho:aQ v=true)(q:fm [aN (bF::r),.int row,.lst false wk,.int (pd.length:Int)]=.ok (v)):bM bH 1000 a_ (jU kd tx wk pd js ss (some (.int row)) (some (aN (bF::r))) sz)=.nx (jU kd tx wk (pd++[v]) js ss (some (.int row)) (some (aN (bF::r))) sz):=by
 have hs:=szl;have nr:=nX bF r;have fr:=jc (bF::r);have h0:mz (aN (bF::r)) (.int 0)=.ok (.str (strOf bF)):=by
  show(R.opt (cH ((bF::r).map wD) 0)).bind _=_;rw[show cH ((bF::r).map wD) 0=some (wD bF)from cS (j:=0) rfl];rfl
 have hl:fd.length=pd.length:=by rw[<-fp,iA]
 have e1:=beq_self_eq_true (strOf bF);have fj:=iw js;have fz:=iu ss;unfold a_ bH jU;generalize aN (bF::r)=d at nr fr h0 q ⊢;simp_arith [nr,fr,h0,gx,e1,fk,fp,hl,q,ho];rw[eU (xs:=pd) rfl (by omega) (by rw[ho];rfl)];simp_arith [ho]
theorem Kf(r:List (List Nat))(x:D)(q:fm [aN (bF::r),.int row,.lst false wk,.int (pd.length:Int)]=.ex x):bM bH 1000 a_ (jU kd tx wk pd js ss (some (.int row)) (some (aN (bF::r))) sz)=.ex x:=by
 have hs:=szl;have nr:=nX bF r;have fr:=jc (bF::r);have h0:mz (aN (bF::r)) (.int 0)=.ok (.str (strOf bF)):=by
  show(R.opt (cH ((bF::r).map wD) 0)).bind _=_;rw[show cH ((bF::r).map wD) 0=some (wD bF)from cS (j:=0) rfl];rfl
 have hl:fd.length=pd.length:=by rw[<-fp,iA]
 have e1:=beq_self_eq_true (strOf bF);have fj:=iw js;have fz:=iu ss;unfold a_ bH jU;generalize aN (bF::r)=d at nr fr h0 q ⊢;simp_arith [nr,fr,h0,gx,e1,fk,fp,hl,q]
theorem Kg(r:List (List Nat))(v:J3)(q:gH [aN (bg::r),.int row,.int (pd.length:Int),.lst false (js.map jD)]=.ok (jD v)):bM bH 1000 a_ (jU kd tx wk pd js ss (some (.int row)) (some (aN (bg::r))) sz)=.nx (jU kd tx wk pd (js++[v]) ss (some (.int row)) (some (aN (bg::r))) sz):=by
 have hs:=szl;have nr:=nX bg r;have fr:=jc (bg::r);have h0:mz (aN (bg::r)) (.int 0)=.ok (.str (strOf bg)):=by
  show(R.opt (cH ((bg::r).map wD) 0)).bind _=_;rw[show cH ((bg::r).map wD) 0=some (wD bg)from cS (j:=0) rfl];rfl
 have hl:fd.length=pd.length:=by rw[<-fp,iA]
 have e1:(strOf bg==strOf bF)=false:=by decide +kernel
 have e2:(strOf bg==strOf a8)=false:=by decide +kernel
 have e3:=beq_self_eq_true (strOf bg);have fj:=iw js;have fz:=iu ss;have ho:aQ (jD v)=true:=rfl;unfold a_ bH jU;generalize aN (bg::r)=d at nr fr h0 q ⊢;simp_arith [nr,fr,h0,gx,gZ,gO,e1,e2,e3,fj,fk,fp,hl,q,ho];rw[eU (xs:=js.map jD) rfl (by rw[ah];omega) (by rw[ho];rfl)];rw[show js.map jD++[jD v]=(js++[v]).map jD by rw[a7];rfl];simp_arith [ho]
theorem Kh(r:List (List Nat))(x:D)(q:gH [aN (bg::r),.int row,.int (pd.length:Int),.lst false (js.map jD)]=.ex x):bM bH 1000 a_ (jU kd tx wk pd js ss (some (.int row)) (some (aN (bg::r))) sz)=.ex x:=by
 have hs:=szl;have nr:=nX bg r;have fr:=jc (bg::r);have h0:mz (aN (bg::r)) (.int 0)=.ok (.str (strOf bg)):=by
  show(R.opt (cH ((bg::r).map wD) 0)).bind _=_;rw[show cH ((bg::r).map wD) 0=some (wD bg)from cS (j:=0) rfl];rfl
 have hl:fd.length=pd.length:=by rw[<-fp,iA]
 have e1:(strOf bg==strOf bF)=false:=by decide +kernel
 have e2:(strOf bg==strOf a8)=false:=by decide +kernel
 have e3:=beq_self_eq_true (strOf bg);have fj:=iw js;have fz:=iu ss;unfold a_ bH jU;generalize aN (bg::r)=d at nr fr h0 q ⊢;simp_arith [nr,fr,h0,gx,gZ,gO,e1,e2,e3,fj,fk,fp,hl,q]
theorem Kl(r:List (List Nat))(v:List Nat×Int)(q:gJ [aN (bB::r),.int row,.int (pd.length:Int),.int (ss.length:Int)]=.ok (zD v)):bM bH 1000 a_ (jU kd tx wk pd js ss (some (.int row)) (some (aN (bB::r))) sz)=.nx (jU kd tx wk pd js (ss++[v]) (some (.int row)) (some (aN (bB::r))) sz):=by
 have hs:=szl;have nr:=nX bB r;have fr:=jc (bB::r);have h0:mz (aN (bB::r)) (.int 0)=.ok (.str (strOf bB)):=by
  show(R.opt (cH ((bB::r).map wD) 0)).bind _=_;rw[show cH ((bB::r).map wD) 0=some (wD bB)from cS (j:=0) rfl];rfl
 have hl:fd.length=pd.length:=by rw[<-fp,iA]
 have e1:(strOf bB==strOf bF)=false:=by decide +kernel
 have e2:(strOf bB==strOf a8)=false:=by decide +kernel
 have e3:(strOf bB==strOf bg)=false:=by decide +kernel
 have e4:=beq_self_eq_true (strOf bB);have fj:=iw js;have fz:=iu ss;have ho:aQ (zD v)=true:=rfl;unfold a_ bH jU;generalize aN (bB::r)=d at nr fr h0 q ⊢;simp_arith [nr,fr,h0,gx,gZ,gO,ud,e1,e2,e3,e4,fz,fk,fp,hl,q,ho];rw[eU (xs:=ss.map zD) rfl (by rw[ah];omega) (by rw[ho];rfl)];rw[show ss.map zD++[zD v]=(ss++[v]).map zD by rw[a7];rfl];simp_arith [ho]
theorem Km(r:List (List Nat))(x:D)(q:gJ [aN (bB::r),.int row,.int (pd.length:Int),.int (ss.length:Int)]=.ex x):bM bH 1000 a_ (jU kd tx wk pd js ss (some (.int row)) (some (aN (bB::r))) sz)=.ex x:=by
 have hs:=szl;have nr:=nX bB r;have fr:=jc (bB::r);have h0:mz (aN (bB::r)) (.int 0)=.ok (.str (strOf bB)):=by
  show(R.opt (cH ((bB::r).map wD) 0)).bind _=_;rw[show cH ((bB::r).map wD) 0=some (wD bB)from cS (j:=0) rfl];rfl
 have hl:fd.length=pd.length:=by rw[<-fp,iA]
 have e1:(strOf bB==strOf bF)=false:=by decide +kernel
 have e2:(strOf bB==strOf a8)=false:=by decide +kernel
 have e3:(strOf bB==strOf bg)=false:=by decide +kernel
 have e4:=beq_self_eq_true (strOf bB);have fj:=iw js;have fz:=iu ss;unfold a_ bH jU;generalize aN (bB::r)=d at nr fr h0 q ⊢;simp_arith [nr,fr,h0,gx,gZ,gO,ud,e1,e2,e3,e4,fz,fk,fp,hl,q]
end
theorem CJ(n:Nat)(h:n<=1000):ji (n+1) (-1)=some n:=by
 unfold ji;simp;omega
theorem Nn(Q:List D)(hQ:Q.length<=1000)(p:P2):jh [-1,1] (.lst true (Q++[pD p]))=some (.lst true (p.2.map zD)):=by
 show((ji (Q++[pD p]).length (-1)).bind fun n=>((Q++[pD p])[n]?).bind fun y=>jh [1] y)=_;rw[aE,cg,CJ _ hQ];show((Q++[pD p])[Q.length]?).bind _=_;rw[cZ (aP _),tu];rfl
theorem WI(Q:List D)(hQ:Q.length<=1000)(p:P2)(hz:p.2.length<=1000)(z:List Nat×Int):eE [-1,1] (.lst true (Q++[pD p])) (zD z)=some (.lst true (Q++[pD (p.1,p.2++[z])])):=by
 have hs:=szl;have e:eE [1] (pD p) (zD z)=some (pD (p.1,p.2++[z])):=by
  show(if(p.2.map zD).length<aa then some (D.lst true (p.2.map zD++[zD z]))else none).map (fun y'=>D.tup [wD p.1,y'])=_;rw[if_pos (by rw[ah];omega)];show some (D.tup [wD p.1,.lst true (p.2.map zD++[zD z])])=some (D.tup [wD p.1,.lst true ((p.2++[z]).map zD)]);rw[a7];rfl
 show((ji (Q++[pD p]).length (-1)).bind fun n=>((Q++[pD p])[n]?).bind fun y=>(eE [1] y (zD z)).map fun y'=>D.lst true ((Q++[pD p]).set n y'))=_;rw[aE,cg,CJ _ hQ];show((Q++[pD p])[Q.length]?).bind _=_;rw[cZ (aP _),tu];show(eE [1] (pD p) (zD z)).map _=_;rw[e];show some (D.lst true ((Q++[pD p]).set Q.length (pD (p.1,p.2++[z]))))=_;rw[List.set_append_right _ _ (aP _),tu];rfl
theorem WJ(s0 s1 s2 s4 s5 s6 s7 s8:Option D)(Q:List D)(hQ:Q.length<=1000)(p:P2)(hz:p.2.length<=1000)(z:List Nat×Int)(q:pE Y a [s0,s1,s2,some (.lst true (Q++[pD p])),s4,s5,s6,s7,some (.lst true (p.2.map zD))]=.ok (zD z)) :
  xX Y 3 [-1,1] 8 a [s0,s1,s2,some (.lst true (Q++[pD p])),s4,s5,s6,s7,s8]=.nx [s0,s1,s2,some (.lst true (Q++[pD (p.1,p.2++[z])])),s4,s5,s6,s7,none]:=by
 unfold xX;show(match jh [-1,1] (.lst true (Q++[pD p]))with
  |some (.lst true ys)=>if 8<9 then(pE Y a [s0,s1,s2,some (.lst true (Q++[pD p])),s4,s5,s6,s7,some (.lst true ys)]).aY fun d=>if aQ d=true then(R.opt (eE [-1,1] (.lst true (Q++[pD p])) d)).aY fun x'=>.nx [s0,s1,s2,some x',s4,s5,s6,s7,none]else .bad else .bad
  |_=>.bad)=_
 rw[Nn Q hQ p];show(if 8<9 then(pE Y a [s0,s1,s2,some (.lst true (Q++[pD p])),s4,s5,s6,s7,some (.lst true (p.2.map zD))]).aY (fun d=>if aQ d=true then(R.opt (eE [-1,1] (.lst true (Q++[pD p])) d)).aY fun x'=>Fl.nx [s0,s1,s2,some x',s4,s5,s6,s7,none]else .bad)else .bad)=_;rw[if_pos (by decide),q];show(if aQ (zD z)=true then(R.opt (eE [-1,1] (.lst true (Q++[pD p])) (zD z))).aY (fun x'=>Fl.nx [s0,s1,s2,some x',s4,s5,s6,s7,none])else .bad)=_;rw[if_pos (show aQ (zD z)=true from rfl),WI Q hQ p hz z];rfl
theorem WK(s0 s1 s2 s4 s5 s6 s7 s8:Option D)(Q:List D)(hQ:Q.length<=1000)(p:P2)(x:D)(q:pE Y a [s0,s1,s2,some (.lst true (Q++[pD p])),s4,s5,s6,s7,some (.lst true (p.2.map zD))]=.ex x) :
  xX Y 3 [-1,1] 8 a [s0,s1,s2,some (.lst true (Q++[pD p])),s4,s5,s6,s7,s8]=.ex x:=by
 unfold xX;show(match jh [-1,1] (.lst true (Q++[pD p]))with
  |some (.lst true ys)=>if 8<9 then(pE Y a [s0,s1,s2,some (.lst true (Q++[pD p])),s4,s5,s6,s7,some (.lst true ys)]).aY fun d=>if aQ d=true then(R.opt (eE [-1,1] (.lst true (Q++[pD p])) d)).aY fun x'=>.nx [s0,s1,s2,some x',s4,s5,s6,s7,none]else .bad else .bad
  |_=>.bad)=_
 rw[Nn Q hQ p];show(if 8<9 then(pE Y a [s0,s1,s2,some (.lst true (Q++[pD p])),s4,s5,s6,s7,some (.lst true (p.2.map zD))]).aY (fun d=>if aQ d=true then(R.opt (eE [-1,1] (.lst true (Q++[pD p])) d)).aY fun x'=>Fl.nx [s0,s1,s2,some x',s4,s5,s6,s7,none]else .bad)else .bad)=_;rw[if_pos (by decide),q];rfl
section
variable(kd tx:D) (wk:List D) (fk:az wk=wk) (js:List J3) (hj:js.length<=1000) (ss:List (List Nat×Int)) (hz:ss.length<=1000) (row:Int) (sz:Option D)
include fk hj hz
theorem Kn(Q:List D)(hQ:Q.length<=1000)(p:P2)(hp:p.2.length<=1000)(fd:List D)(fp:az (Q++[pD p])=fd)(ne:cL .NotEq (.lst false fd) (.lst true [])=.ok (.bl true))(r:List (List Nat))(z:List Nat×Int)(q:gE [aN (a8::r),.int row,.lst false (p.2.map zD)]=.ok (zD z)) :
  bM bH 1000 a_ (jU kd tx wk (Q++[pD p]) js ss (some (.int row)) (some (aN (a8::r))) sz)=.nx (jU kd tx wk (Q++[pD (p.1,p.2++[z])]) js ss (some (.int row)) (some (aN (a8::r))) none):=by
 have hs:=szl;have nr:=nX a8 r;have fr:=jc (a8::r);have h0:mz (aN (a8::r)) (.int 0)=.ok (.str (strOf a8)):=by
  show(R.opt (cH ((a8::r).map wD) 0)).bind _=_;rw[show cH ((a8::r).map wD) 0=some (wD a8)from cS (j:=0) rfl];rfl
 have e1:(strOf a8==strOf bF)=false:=by decide +kernel
 have e2:=beq_self_eq_true (strOf a8);have fz:=iu p.2;unfold a_ bH jU;generalize aN (a8::r)=d at nr fr h0 q ⊢;simp_arith [nr,fr,h0,gx,gZ,e1,e2,fp,ne,Nl];rw[Nm (k:=3) (is:=[-1,1]) rfl,WJ _ _ _ _ _ _ _ _ Q hQ p hp z (by
  simp_arith [fr,fz,q])]
 simp_arith []
theorem Ko(Q:List D)(hQ:Q.length<=1000)(p:P2)(fd:List D)(fp:az (Q++[pD p])=fd)(ne:cL .NotEq (.lst false fd) (.lst true [])=.ok (.bl true))(r:List (List Nat))(x:D)(q:gE [aN (a8::r),.int row,.lst false (p.2.map zD)]=.ex x) :
  bM bH 1000 a_ (jU kd tx wk (Q++[pD p]) js ss (some (.int row)) (some (aN (a8::r))) sz)=.ex x:=by
 have hs:=szl;have nr:=nX a8 r;have fr:=jc (a8::r);have h0:mz (aN (a8::r)) (.int 0)=.ok (.str (strOf a8)):=by
  show(R.opt (cH ((a8::r).map wD) 0)).bind _=_;rw[show cH ((a8::r).map wD) 0=some (wD a8)from cS (j:=0) rfl];rfl
 have e1:(strOf a8==strOf bF)=false:=by decide +kernel
 have e2:=beq_self_eq_true (strOf a8);have fz:=iu p.2;unfold a_ bH jU;generalize aN (a8::r)=d at nr fr h0 q ⊢;simp_arith [nr,fr,h0,gx,gZ,e1,e2,fp,ne,Nl];rw[Nm (k:=3) (is:=[-1,1]) rfl,WK _ _ _ _ _ _ _ _ Q hQ p x (by
  simp_arith [fr,fz,q])]
 simp_arith []
theorem Np(pd fd:List D)(fp:az pd=fd)(a:List Nat)(r:List (List Nat))(h:(a≠bF/\a≠a8/\a≠bg/\a≠bB)\/(a=a8/\pd=[])) :
  bM bH 1000 a_ (jU kd tx wk pd js ss (some (.int row)) (some (aN (a::r))) sz)=.ex (ie row):=by
 have hs:=szl;have nr:=nX a r;have fr:=jc (a::r);have h0:mz (aN (a::r)) (.int 0)=.ok (.str (strOf a)):=by
  show(R.opt (cH ((a::r).map wD) 0)).bind _=_;rw[show cH ((a::r).map wD) 0=some (wD a)from cS (j:=0) rfl];rfl
 rcases h with⟨n1,n2,n3,n4⟩|⟨rfl,rfl⟩
 ·have e1:(strOf a==strOf bF)=false:=by rw[ue,decide_eq_false n1]
  have e2:(strOf a==strOf a8)=false:=by rw[ue,decide_eq_false n2]
  have e3:(strOf a==strOf bg)=false:=by rw[ue,decide_eq_false n3]
  have e4:(strOf a==strOf bB)=false:=by rw[ue,decide_eq_false n4]
  unfold a_ bH jU;generalize aN (a::r)=d at nr fr h0 ⊢;simp_arith [nr,fr,h0,gx,gZ,gO,ud,e1,e2,e3,e4];rfl
 ·have e1:(strOf a8==strOf bF)=false:=by decide +kernel
  have e2:=beq_self_eq_true (strOf a8);have e3:(strOf a8==strOf bg)=false:=by decide +kernel
  have e4:(strOf a8==strOf bB)=false:=by decide +kernel
  have e5:cL .NotEq (.lst false []) (.lst true [])=.ok (.bl false):=rfl;have fp:az []=[]:=rfl;unfold a_ bH jU;generalize aN (a8::r)=d at nr fr h0 ⊢;simp_arith [nr,fr,h0,gx,gZ,gO,ud,e1,e2,e3,e4,e5,fp];rfl
end
inductive AR where
|part (k:List Nat)
|size (z:List Nat×Int)
|join (j:J3)
|step (z:List Nat×Int)
noncomputable def bR(n:Int):List Nat:=(dP n).cps.toList
noncomputable def AR.row:AR->List (List Nat)
|.part k=>[bF,k]
|.size z=>[a8,z.1,bR z.2]
|.join j=>[bg,j.1,bR j.2.1,bR j.2.2]
|.step z=>[bB,z.1,bR z.2]
structure St where
 P:List P2
 J:List J3
 S:List (List Nat×Int)
noncomputable def St.put(t:St):AR->St
|.part k=>{ t with P:=t.P++[(k,[])] }
|.size z=>{ t with P:=t.P.dropLast++(t.P.getLast?.map fun p=>(p.1,p.2++[z])).toList }
|.join j=>{ t with J:=t.J++[j] }
|.step z=>{ t with S:=t.S++[z] }
def Num(n:Int):Prop:=-(10 ^ 30)<n/\n<10 ^ 30
def St.ok(wk:List D)(t:St):AR->Prop
|.part k=>isWord (strOf k)=true/\memD (.str (strOf k)) wk=true/\t.P.length<8
|.size z=>isWord (strOf z.1)=true/\Num z.2/\∃Q p,t.P=Q++[p]/\kO p.2 z.1=false/\p.2.length<4
|.join j=>isWord (strOf j.1)=true/\j.2.1≠j.2.2/\(okN t.P.length j.2.1&&okN t.P.length j.2.2)=true/\lD t.J j=false/\t.J.length<16
|.step z=>isWord (strOf z.1)=true/\okN t.P.length z.2=true/\t.S.length<8
structure St.Small (t:St):Prop where
 p:t.P.length<=8
 z:∀p∈t.P,p.2.length<=4
 j:t.J.length<=16
 s:t.S.length<=8
theorem pN(n:Int)(h:Num n):qw (bR n) (some n):=by
 have e:wD (bR n)=.str (dP n):=by
  show D.str ⟨(dP n).cps.toList.toArray⟩=_;rw[oj]
 show d_ [wD (bR n)]=_;rw[e];exact XT n h.1 h.2
theorem lE{m:Nat}{n:Int}(hm:m<=8)(h:okN (m:Int) n=true):Num n:=by
 unfold okN at h;simp only[bq,decide_eq_true_eq]at h;have:(8:Int)<10 ^ 30:=by decide
 exact⟨by omega,by omega⟩
noncomputable def pF(p:P2):D:=.tup [wD p.1,.lst false (p.2.map zD)]
theorem pP(P:List P2):az (P.map pD)=P.map pF:=by
 induction P with
 |nil=>rfl
 |cons p r ih=>
  show bC (pD p)::az (r.map pD)=_;rw[ih];show D.tup [wD p.1,.lst false (az (p.2.map zD))]::_=_;rw[iu];rfl
theorem XY(P:List P2):cN (.lst false (P.map pF))=true:=by
 have k1:∀(l:List (List Nat×Int)) (n:Nat),dY (l.map zD) (n+1)=true:=fun l n=>by
  induction l with
  |nil=>rfl
  |cons a t ih=>show(jN (zD a) (n+1)&&dY (t.map zD) (n+1))=true;rw[ih];rfl
 have k2:∀(l:List P2),dY (l.map pF) 11=true:=fun l=>by
  induction l with
  |nil=>rfl
  |cons a t ih=>
   show(jN (pF a) 11&&dY (t.map pF) 11)=true;rw[ih,gK];show(jN (wD a.1) 10&&(dY (a.2.map zD) 9&&true))=true;rw[k1 a.2 8];rfl
 exact k2 P
theorem GG(Q:List P2)(p:P2):cL .NotEq (.lst false ((Q++[p]).map pF)) (.lst true [])=.ok (.bl true):=by
 rw[Cw (XY _) rfl];cases Q<;>rfl
noncomputable abbrev zS(kd tx:D)(wk:List D)(t:St)(row words sz:Option D):bz:=jU kd tx wk (t.P.map pD) t.J t.S row words sz
theorem WL(kd tx:D)(wk:List D)(fk:az wk=wk)(nk:eY wk=true)(t:St)(hs:t.Small)(a:AR)(h:t.ok wk a)(row:Int)(sz:Option D):∃sz',bM bH 1000 a_ (zS kd tx wk t (some (.int row)) (some (aN a.row)) sz)=.nx (zS kd tx wk (t.put a) (some (.int row)) (some (aN a.row)) sz'):=by
 obtain⟨s1,s2,s3,s4⟩:=hs;have lp:(t.P.map pD).length<=1000:=by rw[ah];omega
 cases a with
 |part k=>
  obtain⟨h1,h2,h3⟩:=h;have q:=Ei bF k row wk false t.P.length h1 fk nk;rw[if_pos h2,if_neg (by omega)]at q;refine⟨sz,?_⟩;have:=Ke kd tx wk fk (t.P.map pD) _ (pP t.P) lp t.J (by omega) t.S (by omega) row sz [k] (.tup [.str (strOf k),.lst true []]) rfl (by rw[ah];exact q);rw[show t.P.map pD++[D.tup [.str (strOf k),.lst true []]]=(t.P++[(k,[])]).map pD by rw[a7];rfl]at this;exact this
 |size z=>
  obtain⟨h1,h2,Q,p,e,h3,h4⟩:=h;have q:=Ej a8 z.1 (bR z.2) z.2 row p.2 (by omega) (pN _ h2) h1;rw[if_neg (by rw[h3];exact ak),if_neg (by omega)]at q;have ln:(Q++[p]).length<=8:=by rw[<-e];exact s1
  simp at ln;have:=Kn kd tx wk fk t.J (by omega) t.S (by omega) row sz (Q.map pD) (by rw[ah];omega) p (by omega) ((Q++[p]).map pF) (by
   have:=pP (Q++[p]);rw[a7]at this;exact this) (GG Q p) [z.1,bR z.2] z q
  refine⟨none,?_⟩;unfold zS;rw[show t.P.map pD=Q.map pD++[pD p]by rw[e,a7];rfl];have e2:(t.put (.size z)).P=Q++[(p.1,p.2++[z])]:=by
   show t.P.dropLast++(t.P.getLast?.map fun p=>(p.1,p.2++[z])).toList=_;rw[e];simp
  rw[show(t.put (.size z)).P.map pD=Q.map pD++[pD (p.1,p.2++[z])]by rw[e2,a7];rfl];exact this
 |join j=>
  obtain⟨h1,h2,h3,h4,h5⟩:=h;have h3':=h3;simp only[bq]at h3';have q:=Ek bg j.1 (bR j.2.1) (bR j.2.2) j.2.1 j.2.2 row t.P.length t.J (by omega) (pN _ (lE s1 h3'.1)) (pN _ (lE s1 h3'.2)) h1;rw[if_neg h2,if_pos h3,if_neg (by rw[show lD t.J (j.1,j.2.1,j.2.2)=false from h4];exact ak),if_neg (by omega)]at q;exact⟨sz,Kg kd tx wk fk (t.P.map pD) _ (pP t.P) lp t.J (by omega) t.S (by omega) row sz [j.1,bR j.2.1,bR j.2.2] j (by rw[ah];exact q)⟩
 |step z=>
  obtain⟨h1,h2,h3⟩:=h;have q:=El bB z.1 (bR z.2) z.2 row t.P.length t.S.length (pN _ (lE s1 h2)) h1;rw[if_pos h2,if_neg (by omega)]at q;exact⟨sz,Kl kd tx wk fk (t.P.map pD) _ (pP t.P) lp t.J (by omega) t.S (by omega) row sz [z.1,bR z.2] z (by rw[ah];exact q)⟩
def Valid(wk:List D):St->List AR->Prop
|_,[]=>True
|t,a::r=>t.ok wk a/\Valid wk (t.put a) r
noncomputable def St.run(t:St)(as:List AR):St:=as.foldl St.put t
variable{wk:List D}
theorem Valid.app:∀{t:St}{a b:List AR},Valid wk t a->Valid wk (t.run a) b->Valid wk t (a++b)
|t,[],b,_,h=>h
|t,x::a,b,h1,h2=>⟨h1.1,Valid.app (a:=a) h1.2 h2⟩
theorem zb(t:St)(a b:List AR):t.run (a++b)=(t.run a).run b:=zx ..
theorem Nq{t:St}{a:AR}(hs:t.Small)(h:t.ok wk a):(t.put a).Small:=by
 obtain⟨s1,s2,s3,s4⟩:=hs;cases a with
 |part k=>
  obtain⟨_,_,h3⟩:=h;refine⟨by show(t.P++[(k,[])]).length<=8;simp;omega,fun p hp=>?_,s3,s4⟩;rcases aT.mp hp with q|q
  ·exact s2 p q
  ·rw[aG.mp q];exact gu _
 |size z=>
  obtain⟨_,_,Q,p,e,_,h4⟩:=h;have e2:(t.put (.size z)).P=Q++[(p.1,p.2++[z])]:=by
   show t.P.dropLast++(t.P.getLast?.map fun p=>(p.1,p.2++[z])).toList=_;rw[e];simp
  refine⟨?_,fun q hq=>?_,s3,s4⟩
  ·rw[e2];rw[e]at s1;simpa using s1
  ·rw[e2]at hq;rcases aT.mp hq with y|y
   ·exact s2 q (by rw[e];exact aL _ y)
   ·rw[aG.mp y];simp;omega
 |join j=>
  obtain⟨_,_,_,_,h5⟩:=h;exact⟨s1,s2,by show(t.J++[j]).length<=16;simp;omega,s4⟩
 |step z=>
  obtain⟨_,_,h3⟩:=h;exact⟨s1,s2,s3,by show(t.S++[z]).length<=8;simp;omega⟩
theorem ED{β:Type}{g:D->bz->R bz}{b:bz->Fl}(enc:β->D)(pre0:List β)(x0:β)(post0:List β)(I:List β->bz->Prop)
  (h:∀pre x post,pre0=pre++x::post->∀O,I pre O->∃ZE ZG,g (.tup [.int (pre.length:Int),enc x]) O=.ok ZE/\(b ZE=.nx ZG\/b ZE=.ct ZG)/\I (pre++[x]) ZG) (e:D)
  (hx:∀O,I pre0 O->∃ZE,g (.tup [.int (pre0.length:Int),enc x0]) O=.ok ZE/\b ZE=.ex e) (O:bz) (h0:I [] O):forR g b (jg 0 ((pre0++x0::post0).map enc)) O=.ex e:=by
 have go:∀(post pre:List β) (O:bz),pre0=pre++post->I pre O->forR g b (jg pre.length ((post++x0::post0).map enc)) O=.ex e:=by
  intro post;induction post with
  |nil=>
   intro pre O ep hi;rw[bY]at ep;subst ep;obtain⟨ZE,h1,h2⟩:=hx O hi;rw[dw,aV];show(g (.tup [.int (pre0.length:Int),enc x0]) O).aY _=_;rw[h1];simp only[R.aY,h2]
  |cons x r ih=>
   intro pre O ep hi;obtain⟨ZE,ZG,h1,h2,h3⟩:=h pre x r ep O hi;have h4:=ih (pre++[x]) ZG (by rw[ep,bQ];rfl) h3;rw[aE,cg]at h4;rw[m6,aV];show(g (.tup [.int (pre.length:Int),enc x]) O).aY _=_;rw[h1];rcases h2 with h2|h2
   ·simp only[R.aY,h2];exact h4
   ·simp only[R.aY,h2];exact h4
 exact go pre0 [] O rfl h0
noncomputable def lF(rs:List (List (List Nat))):List (List (List Nat)):=rs.filter fun r=>!r.isEmpty
theorem wK:∀{t:St}{as:List AR} (n:Nat),t.Small->Valid wk t as->(t.run (as.take n)).Small/\∀a,as[n]?=some a->(t.run (as.take n)).ok wk a
|t,[],n,hs,_=>by
 rw[List.take_nil];exact⟨hs,fun a h=>by simp at h⟩
|t,x::as,0,hs,h=>⟨hs,fun a e=>by simp at e;rw[<-e];exact h.1⟩
|t,x::as,n+1,hs,h=>by
 have:=wK (t:=t.put x) (as:=as) n (Nq hs h.1) h.2;exact this
noncomputable def t0:St:=⟨[],[],[]⟩
theorem Nr:t0.Small:=⟨gu _,fun p hp=>absurd hp aB,gu _,gu _⟩
theorem Rw(t:St)(as:List AR)(n:Nat)(a:AR)(h:as[n]?=some a):t.run (as.take (n+1))=(t.run (as.take n)).put a:=by
 rw[vF,h,zb];rfl
theorem UE(r:List (List Nat)):bC (f_ r)=aN r:=by
 show D.lst false (az (r.map wD))=_;rw[iK];rfl
theorem IT(rs:List (List (List Nat))):az (rs.map f_)=rs.map aN:=by
 induction rs with
 |nil=>rfl
 |cons r t ih=>
  show bC (f_ r)::az (t.map f_)=_;rw[ih,UE];rfl
theorem GH:∀rs:List (List (List Nat)),cD (rs.map f_)=true:=fun rs=>jq _ fun d hd=>by
 obtain⟨r,_,rfl⟩:=b_.mp hd;show(true&&cD (r.map wD))=true;rw[jq (r.map wD) fun d hd=>by
  obtain⟨w,_,rfl⟩:=b_.mp hd;rfl]
 rfl
theorem Kp(x:Str)(kd:List D)(wk:List D)(fkd:az kd=kd)(hk:∀Y,fG (pG (.name 0)) (fun _=>.ok true) (pE Y (.ix (.var 0) (.con (.int 0)))) kd [none]=.ok wk)(fk:az wk=wk)(ok:cD wk=true)(nk:eY wk=true)
  (as:List AR) (hv:Valid wk t0 as) (pre0 post0:List (List (List Nat))) (r0:List (List Nat)) (e:D) (hx:x.length<=40000) (hlr:sL x=pre0++r0::post0) (hr:lF pre0=as.map AR.row)
  (hb:∀sz,bM bH 1000 a_ (zS (.lst false kd) (.str x) wk (t0.run as) (some (.int (pre0.length:Int))) (some (aN r0)) sz)=.ex e):lz [.lst false kd,.str x]=.ex e:=by
 have hs:=szl;have qr:=Nj x (by omega);rw[hlr]at qr;have gg:∀(n:Nat) (t:St) (r:List (List Nat)) (v2 v3 sz:Option D),pG (.tup (.cons (.name 6) (.cons (.name 7) .nil))) (.tup [.int (n:Int),aN r]) (zS (.lst false kd) (.str x) wk t v2 v3 sz)=.ok (zS (.lst false kd) (.str x) wk t (some (.int n)) (some (aN r)) sz):=by
  intro n t r v2 v3 sz;rfl
 have h1:=ED (g:=pG (.tup (.cons (.name 6) (.cons (.name 7) .nil)))) (b:=bM bH 1000 a_) aN pre0 r0 post0
  (fun pre O=>∃(v2 v3 sz:Option D),O=zS (.lst false kd) (.str x) wk (t0.run (as.take (lF pre).length)) v2 v3 sz) (by
  rintro pre r post hx O ⟨v2,v3,sz,rfl⟩;obtain⟨sm,okn⟩:=wK (lF pre).length Nr hv;cases r with
  |nil=>
   have en:lF (pre++[[]])=lF pre:=by unfold lF;rw[lN];simp
   rw[en];exact⟨_,_,gg _ _ _ _ _ _,.inr (UD (.lst false kd) (.str x) wk fk _ _ (pP _) (by rw[ah];have:=sm.p;omega) _ (by have:=sm.j;omega) _ (by have:=sm.s;omega) _ sz),_,_,_,rfl⟩
  |cons w ws=>
   have en:lF (pre++[w::ws])=lF pre++[w::ws]:=by unfold lF;rw[lN];rfl
   have ek:as.map AR.row=lF pre++(w::ws)::lF post:=by
    rw[<-hr,hx];unfold lF;rw[lN];rfl
   have hg:(as.map AR.row)[(lF pre).length]?=some (w::ws):=by
    rw[ek,cZ (aP _),tu];rfl
   rw[aX]at hg;cases ha:as[(lF pre).length]? with
   |none=>rw[ha]at hg;cases hg
   |some a=>
    rw[ha]at hg;have er:a.row=w::ws:=by simpa using hg
    obtain⟨sz',q⟩:=WL (.lst false kd) (.str x) wk fk nk _ sm a (okn a ha) (pre.length:Int) sz;rw[er]at q;refine⟨_,_,gg _ _ _ _ _ _,.inl q,some (.int (pre.length:Int)),some (aN (w::ws)),sz',?_⟩;rw[en,aE,cg,Rw t0 as _ a ha]) e (by
  rintro O ⟨v2,v3,sz,rfl⟩;rw[hr,ah,sY];exact⟨_,gg _ _ _ _ _ _,hb sz⟩) (zS (.lst false kd) (.str x) wk t0 none none none) ⟨none,none,none,rfl⟩
 have hc:=hk [.fn nj [],.fn fm [],.fn gE [],.fn gH [],.fn gJ [],.cls 44 [("row",1)] 2];have h1:forR (pG (.tup (.cons (.name 6) (.cons (.name 7) .nil)))) (bM bH 1000 a_) (jg 0 ((pre0++r0::post0).map aN)) [some (.lst false kd),some (.str x),some (.lst true wk),some (.lst true []),some (.lst true []),some (.lst true []),none,none,none]=.ex e:=h1;unfold lz se;generalize a_=B at h1 ⊢;rw[show bM bH 1000 B=bM [.fn nj [],.fn fm [],.fn gE [],.fn gH [],.fn gJ [],.cls 44 [("row",1)] 2] 1000 B from rfl]at h1;unfold bH;simp_arith [fkd,hc,fk,ok,qr,IT,GH,h1]
noncomputable def cB(p:P2):List AR:=.part p.1::p.2.map .size
noncomputable def eB(P:List P2)(J:List J3)(S:List (List Nat×Int)):List AR:=P.flatMap cB++(J.map .join++S.map .step)
structure Kq (wk:List D) (P:List P2) (J:List J3) (S:List (List Nat×Int)):Prop where
 p8:P.length<=8
 pk:∀p∈P,isWord (strOf p.1)=true/\memD (.str (strOf p.1)) wk=true
 pz:∀p∈P,p.2.length<=4/\(p.2.map (·.1)).Nodup/\∀z∈p.2,isWord (strOf z.1)=true/\Num z.2
 jl:J.length<=16/\J.Nodup
 jk:∀j∈J,isWord (strOf j.1)=true/\j.2.1≠j.2.2/\(okN P.length j.2.1&&okN P.length j.2.2)=true
 sl:S.length<=8
 sk:∀z∈S,isWord (strOf z.1)=true/\okN P.length z.2=true
theorem GI(Q:List P2)(k:List Nat)(zs:List (List Nat×Int))(J:List J3)(S:List (List Nat×Int))(z:List Nat×Int):(St.mk (Q++[(k,zs)]) J S).put (.size z)=⟨Q++[(k,zs++[z])],J,S⟩:=by
 show St.mk ((Q++[(k,zs)]).dropLast++((Q++[(k,zs)]).getLast?.map fun p=>(p.1,p.2++[z])).toList) J S=_;simp
theorem zT(wk:List D)(Q:List P2)(k:List Nat)(J:List J3)(S:List (List Nat×Int)):∀(zs z0:List (List Nat×Int)),(z0++zs).length<=4->((z0++zs).map (·.1)).Nodup->(∀z∈zs,isWord (strOf z.1)=true/\Num z.2)->Valid wk ⟨Q++[(k,z0)],J,S⟩ (zs.map .size)/\(St.mk (Q++[(k,z0)]) J S).run (zs.map .size)=⟨Q++[(k,z0++zs)],J,S⟩
|[],z0,_,_,_=>⟨trivial,by rw[bY];rfl⟩
|z::r,z0,hl,hn,hk=>by
 have e:z0++z::r=(z0++[z])++r:=by simp
 obtain⟨h1,h2⟩:=zT wk Q k J S r (z0++[z]) (by rw[<-e];exact hl) (by rw[<-e];exact hn) fun x hx=>hk x (ai _ hx);obtain⟨k1,k2⟩:=hk z ao;refine⟨⟨⟨k1,k2,Q,(k,z0),rfl,?_,?_⟩,?_⟩,?_⟩
 ·unfold kO;rw[gz];intro x hx;simp only[decide_eq_true_eq];intro ex;rw[a7,bx]at hn;exact hn.2.2 x.1 (oE hx) z.1 (by simp) ex
 ·show z0.length<4;simp at hl;omega
 ·rw[GI];exact h1
 ·show((St.mk (Q++[(k,z0)]) J S).put (.size z)).run (r.map .size)=_;rw[GI,h2,e]
theorem zU(wk:List D):∀(P Q:List P2),(Q++P).length<=8->(∀p∈P,isWord (strOf p.1)=true/\memD (.str (strOf p.1)) wk=true)->(∀p∈P,p.2.length<=4/\(p.2.map (·.1)).Nodup/\∀z∈p.2,isWord (strOf z.1)=true/\Num z.2)->Valid wk ⟨Q,[],[]⟩ (P.flatMap cB)/\(St.mk Q [] []).run (P.flatMap cB)=⟨Q++P,[],[]⟩
|[],Q,_,_,_=>⟨trivial,by rw[bY];rfl⟩
|p::r,Q,hl,hk,hz=>by
 have e:Q++p::r=(Q++[p])++r:=by simp
 obtain⟨h1,h2⟩:=zU wk r (Q++[p]) (by rw[<-e];exact hl) (fun x hx=>hk x (ai _ hx)) fun x hx=>hz x (ai _ hx);obtain⟨z1,z2,z3⟩:=hz p ao;obtain⟨k1,k2⟩:=hk p ao;obtain⟨v1,v2⟩:=zT wk Q p.1 [] [] p.2 [] (by simpa using z1) (by simpa using z2) z3;have ep:(St.mk Q [] []).put (.part p.1)=⟨Q++[(p.1,[])],[],[]⟩:=rfl;have er:(St.mk Q [] []).run (cB p)=⟨Q++[p],[],[]⟩:=by
  show((St.mk Q [] []).put (.part p.1)).run (p.2.map .size)=_;rw[ep,v2];rfl
 have vp:Valid wk ⟨Q,[],[]⟩ (cB p):=by
  refine⟨⟨k1,k2,?_⟩,?_⟩
  ·show Q.length<8;simp at hl;omega
  ·rw[ep];exact v1
 rw[qR];refine⟨Valid.app vp (by rw[er];exact h1),?_⟩;rw[zb,er,h2,e]
theorem zV(wk:List D)(P:List P2)(S:List (List Nat×Int)):∀(J J0:List J3),(J0++J).length<=16->(J0++J).Nodup->(∀j∈J,isWord (strOf j.1)=true/\j.2.1≠j.2.2/\(okN P.length j.2.1&&okN P.length j.2.2)=true)->Valid wk ⟨P,J0,S⟩ (J.map .join)/\(St.mk P J0 S).run (J.map .join)=⟨P,J0++J,S⟩
|[],J0,_,_,_=>⟨trivial,by rw[bY];rfl⟩
|j::r,J0,hl,hn,hk=>by
 have e:J0++j::r=(J0++[j])++r:=by simp
 obtain⟨h1,h2⟩:=zV wk P S r (J0++[j]) (by rw[<-e];exact hl) (by rw[<-e];exact hn) fun x hx=>hk x (ai _ hx);obtain⟨k1,k2,k3⟩:=hk j ao;refine⟨⟨⟨k1,k2,k3,?_,?_⟩,h1⟩,?_⟩
 ·show lD J0 j=false;unfold lD;rw[gz];intro x hx;simp only[decide_eq_true_eq];intro ex;rw[bx]at hn;exact hn.2.2 x hx j ao ex
 ·show J0.length<16;simp at hl;omega
 ·show((St.mk P J0 S).put (.join j)).run (r.map .join)=_;rw[show(St.mk P J0 S).put (.join j)=⟨P,J0++[j],S⟩from rfl,h2,e]
theorem zW(wk:List D)(P:List P2)(J:List J3):∀(S S0:List (List Nat×Int)),(S0++S).length<=8->(∀z∈S,isWord (strOf z.1)=true/\okN P.length z.2=true)->Valid wk ⟨P,J,S0⟩ (S.map .step)/\(St.mk P J S0).run (S.map .step)=⟨P,J,S0++S⟩
|[],S0,_,_=>⟨trivial,by rw[bY];rfl⟩
|z::r,S0,hl,hk=>by
 have e:S0++z::r=(S0++[z])++r:=by simp
 obtain⟨h1,h2⟩:=zW wk P J r (S0++[z]) (by rw[<-e];exact hl) fun x hx=>hk x (ai _ hx);obtain⟨k1,k2⟩:=hk z ao;refine⟨⟨⟨k1,k2,?_⟩,h1⟩,?_⟩
 ·show S0.length<8;simp at hl;omega
 ·show((St.mk P J S0).put (.step z)).run (r.map .step)=_;rw[show(St.mk P J S0).put (.step z)=⟨P,J,S0++[z]⟩from rfl,h2,e]
variable{J:List J3}
theorem Hw{P:List P2}{S:List (List Nat×Int)}(h:Kq wk P J S):Valid wk t0 (eB P J S)/\t0.run (eB P J S)=⟨P,J,S⟩:=by
 obtain⟨a1,a2⟩:=zU wk P [] (by simpa using h.p8) h.pk h.pz;obtain⟨b1,b2⟩:=zV wk P [] J [] (by simpa using h.jl.1) (by simpa using h.jl.2) h.jk;obtain⟨c1,c2⟩:=zW wk P J S [] (by simpa using h.sl) h.sk;rw[dw]at a2 b2 c2;have e1:t0.run (P.flatMap cB)=⟨P,[],[]⟩:=a2;refine⟨Valid.app a1 ?_,?_⟩
 ·rw[e1];exact Valid.app b1 (by rw[b2];exact c1)
 ·unfold eB;rw[zb,e1,zb,b2,c2]
theorem c30:vN 10 30:=by decide +kernel
theorem Rx(m:Int)(h0:0<=m)(h1:m<2305843009213693951):∃n:Int,Num n/\nS [.int m]=.ok (.int n):=by
 have hs:=szl;have q:=c30;have hp:(0:Int)<10 ^ (30:Int).toNat:=by decide
 have b1:=ed (m*48271) (show(10 ^ (30:Int).toNat:Int)≠0 by decide);have b2:=di (m*48271) hp;have b3:=ed (m*69621) (show(10 ^ (30:Int).toNat:Int)≠0 by decide);have b4:=di (m*69621) hp;have ep:(10 ^ (30:Int).toNat:Int)=10 ^ 30:=rfl;have big:(8:Int)<10 ^ 30:=by decide
 have b7:=bL (m / 6) (b:=7) (by decide);have n1:Num (m / 6%7-3):=⟨by omega,by omega⟩;have n2:Num (m*48271%10 ^ (30:Int).toNat):=⟨by rw[ep]at b1 b2 ⊢;omega,by rw[ep]at b2 ⊢;exact b2⟩;have n3:Num (-(m*69621%10 ^ (30:Int).toNat)):=⟨by rw[ep]at b4 ⊢;omega,by rw[ep]at b3 ⊢;omega⟩;unfold nS wx BB;cases c1:(m%3==1)with
 |true=>
  cases c2:(m%6==2)with
  |true=>
   refine⟨_,n3,?_⟩;simp_arith [c1,c2,q]
  |false=>
   refine⟨_,n2,?_⟩;simp_arith [c1,c2,q]
 |false=>
  cases c2:(m%6==2)with
  |true=>
   refine⟨_,n3,?_⟩;simp_arith [c1,c2,q]
  |false=>
   refine⟨_,n1,?_⟩;simp_arith [c1,c2,q]
noncomputable def kZ(zs:List (List Nat×Int)):List Key:=zs.map fun z=>.inr (strOf z.1)
noncomputable def vZ(zs:List (List Nat×Int)):List D:=zs.map fun z=>.int z.2
noncomputable def AE(zs:List (List Nat×Int))(w:List Nat)(n:Int):List (List Nat×Int):=if kO zs w=true then zs.map (fun z=>if z.1=w then(z.1,n)else z)else zs++[(w,n)]
theorem Nt(zs:List (List Nat×Int))(w:List Nat):oR (kZ zs) (.inr (strOf w))=kO zs w:=by
 induction zs with
 |nil=>rfl
 |cons z r ih=>
  have e1:oR (kZ (z::r)) (.inr (strOf w))=(decide ((.inr (strOf z.1):Key)=.inr (strOf w))||oR (kZ r) (.inr (strOf w))):=rfl;have e2:kO (z::r) w=(decide (z.1=w)||kO r w):=rfl;rw[e1,e2,ih];congr 1;rw[dz,decide_eq_true_eq,decide_eq_true_eq];exact⟨fun e=>ic (uQ e),fun e=>by rw[e]⟩
theorem Nu(w:List Nat)(n:Int):∀zs:List (List Nat×Int),qt (kZ zs) (vZ zs) (.inr (strOf w)) (.int n)=vZ (zs.map fun z=>if z.1=w then(z.1,n)else z)/\kZ (zs.map fun z=>if z.1=w then(z.1,n)else z)=kZ zs
|[]=>⟨rfl,rfl⟩
|z::r=>by
 obtain⟨h1,h2⟩:=Nu w n r;have e1:qt (kZ (z::r)) (vZ (z::r)) (.inr (strOf w)) (.int n)=(if(.inr (strOf z.1):Key)=.inr (strOf w)then D.int n else .int z.2)::qt (kZ r) (vZ r) (.inr (strOf w)) (.int n):=rfl;rw[e1,h1];by_cases c:z.1=w
 ·rw[if_pos (by rw[c])];simp only[aV,if_pos c];exact⟨rfl,by show(.inr (strOf z.1):Key)::kZ _=_;rw[h2];rfl⟩
 ·rw[if_neg fun e=>c (ic (uQ e))];simp only[aV,if_neg c];exact⟨rfl,by show(.inr (strOf z.1):Key)::kZ _=_;rw[h2];rfl⟩
theorem XZ(zs:List (List Nat×Int))(w:List Nat)(n:Int)(hl:zs.length<=1000):putIn (.bZ true (kZ zs) (vZ zs)) (.int n) (.str (strOf w))=some (.bZ true (kZ (AE zs w n)) (vZ (AE zs w n))):=by
 have hs:=szl;have e:putIn (.bZ true (kZ zs) (vZ zs)) (.int n) (.str (strOf w))=(if(kZ zs).length<aa then(if oR (kZ zs) (.inr (strOf w))=true then some (.bZ true (kZ zs) (qt (kZ zs) (vZ zs) (.inr (strOf w)) (.int n)))else some (.bZ true (kZ zs++[.inr (strOf w)]) (vZ zs++[.int n])))else none):=rfl;rw[e,if_pos (by unfold kZ;rw[ah];omega),Nt];unfold AE;cases c:kO zs w with
 |true=>
  rw[if_pos rfl,if_pos rfl];obtain⟨h1,h2⟩:=Nu w n zs;rw[h1,h2]
 |false=>
  rw[if_neg ak,if_neg ak];unfold kZ vZ;rw[a7,a7];rfl
def yt(zs:List (List Nat×Int)):Prop:=(zs.map (·.1)).Nodup/\∀z∈zs,isWord (strOf z.1)=true/\Num z.2
theorem UG{zs:List (List Nat×Int)}{w:List Nat}{n:Int}(h:yt zs)(hw:isWord (strOf w)=true)(hn:Num n):yt (AE zs w n)/\(AE zs w n).length<=zs.length+1:=by
 obtain⟨h1,h2⟩:=h;unfold AE;cases c:kO zs w with
 |true=>
  rw[if_pos rfl];refine⟨⟨?_,fun z hz=>?_⟩,by rw[ah];omega⟩
  ·rw[c9];have:((fun z:List Nat×Int=>z.1)∘fun z=>if z.1=w then(z.1,n)else z)=fun z=>z.1:=by
    funext z;show(if z.1=w then(z.1,n)else z).1=z.1;by_cases e:z.1=w
    ·rw[if_pos e]
    ·rw[if_neg e]
   rw[this];exact h1
  ·obtain⟨y,hy,rfl⟩:=b_.mp hz;by_cases e:y.1=w
   ·rw[if_pos e];exact⟨(h2 y hy).1,hn⟩
   ·rw[if_neg e];exact h2 y hy
 |false=>
  rw[if_neg ak];refine⟨⟨?_,fun z hz=>?_⟩,by simp⟩
  ·rw[a7,bx];refine⟨h1,by simp,fun a ha b hb e=>?_⟩;simp at hb;obtain⟨y,hy,rfl⟩:=b_.mp ha;unfold kO at c;rw[gz]at c;exact c y hy (by simp;rw[e,hb])
  ·rcases aT.mp hz with q|q
   ·exact h2 z q
   ·rw[aG.mp q];exact⟨hw,hn⟩
noncomputable def gq(p:P2):D:=.tup [wD p.1,.pdc (kZ p.2) (vZ p.2)]
theorem WM{ks:List Key}{xs:List D}(h:O[k]?=some (some (.bZ true ks xs))):bM Y n (.pin k r) O=bM Y n r (O.set k (some (.pdc ks (az xs)))):=by
 show(match O[k]? with|some (some (.bZ true ks xs))=>bM Y n r (O.set k (some (.pdc ks (az xs))))|_=>.bad)=_;rw[h]
theorem BG(zs:List (List Nat×Int)):az (vZ zs)=vZ zs:=eG _ (fun _=>rfl) zs
theorem Kr(a b d:Option D)(s k:Int)(hs0:0<=s)(m:Int)(h0:0<=m)(h1:m<2305843009213693951)(zs:List (List Nat×Int))(hz:yt zs)(hl:zs.length<=1000)(t:Nat)(ht:t<5):∃zs',yt zs'/\zs'.length<=zs.length+1 /\
  bM lB 1000 jb [a,b,some (.int s),d,some (.int k),some (.int m),some (.bZ true (kZ zs) (vZ zs)),some (.int (t:Int))]=.nx [a,b,some (.int s),d,some (.int k),some (.int m),some (.bZ true (kZ zs') (vZ zs')),some (.int (t:Int))]:=by
 have hs:=szl;have b9:=bL (m / 5+(t:Int)*(1+m / 50%3)) (b:=9) (by decide);obtain⟨j,hj,ej⟩:∃j:Nat,j<25/\16+(m / 5+(t:Int)*(1+m / 50%3))%9=(j:Int):=⟨(16+(m / 5+(t:Int)*(1+m / 50%3))%9).toNat,by omega,by omega⟩;have qn:gw [.int (j:Int),.int (s / 3)]=.ok (.str (strOf (ck j (s / 3)))):=vj j (s / 3) hj (by omega);have hd:(0:Int)<11+(t:Int):=by omega
 have hq0:0<=m / (11+(t:Int)):=Int.ediv_nonneg h0 (by omega);have hq1:m / (11+(t:Int))<=m:=Int.ediv_le_self _ h0;obtain⟨n,hn,qm⟩:=Rx (m / (11+(t:Int))) hq0 (by omega);obtain⟨p1,p2⟩:=UG hz (lC j (s / 3)) hn;refine⟨AE zs (ck j (s / 3)) n,p1,p2,?_⟩;have hput:=XZ zs (ck j (s / 3)) n hl;have b3:=bL (m / 50) (b:=3) (by decide);unfold jb lB;simp_arith -implicitDefEqProofs [qm,ej,qn];rw[DK rfl rfl hput];simp_arith []
structure WN (s:Int) (n:Nat) (P:List P2):Prop where
 k:∀p∈P,∃i,i<n/\p.1=ck i s
 z:∀p∈P,yt p.2/\p.2.length<=4
theorem pQ(P:List P2):az (P.map gq)=P.map gq:=eG gq (fun p=>by
 show D.tup [wD p.1,.pdc (kZ p.2) (az (vZ p.2))]=_;rw[BG];rfl) P
theorem UH(s:Int)(hs0:0<=s)(up:List (Option Nat))(hu:0<up.length)(hu2:up.length<=24)(cells:List Int)(hc:cells.length<=24):∃P:List P2,WN s up.length P/\P.length=cells.length/\qa [.lst false (ee s up),.lst false (cells.map D.int),.int s]=.ok (.lst true (P.map gq)):=by
 have hs:=szl;obtain⟨ZC,h1,P,kv,mv,sv,tv,hP,hl,rfl⟩:=kE (g:=pG (.name 4)) (b:=bM lB 1000 nO) cells.length
  (fun k O=>∃(P:List P2) (kv mv sv tv:Option D),WN s up.length P/\P.length=k/\O=[some (.lst false (ee s up)),some (.lst false (cells.map D.int)),some (.int s),some (.lst true (P.map gq)),kv,mv,sv,tv]) (by
  rintro k hk O ⟨P,kv,mv,sv,tv,hP,hl,rfl⟩;have hat:cH (cells.map D.int) (k:Int)=some (.int cells[k]):=cS (by rw[aX,aA hk];rfl);have qm:=wz cells[k] k 1414141414141414141 ⟨by omega,by omega⟩ ⟨by omega,by omega⟩;have m0:=ed ((cells[k]+(k:Int)*k+1)*1414141414141414141) (show(2305843009213693951:Int)≠0 by decide);have m1:=di ((cells[k]+(k:Int)*k+1)*1414141414141414141) (show(0:Int)<2305843009213693951 by decide);generalize(cells[k]+(k:Int)*k+1)*1414141414141414141%2305843009213693951=M at qm m0 m1;have b5:=bL M (b:=5) (by decide);have rg:-(2 ^ 62)<=M%5/\(M%5).toNat<=aa:=by omega
  obtain⟨ZK,h1,zs,tv',hz,hzl,rfl⟩:=kE (g:=pG (.name 7)) (b:=bM lB 1000 jb) (M%5).toNat
   (fun t O=>∃(zs:List (List Nat×Int)) (tv':Option D),yt zs/\zs.length<=t/\O=[some (.lst false (ee s up)),some (.lst false (cells.map D.int)),some (.int s),some (.lst true (P.map gq)),some (.int k),some (.int M),some (.bZ true (kZ zs) (vZ zs)),tv']) (by
   rintro t ht O ⟨zs,tv',hz,hzl,rfl⟩;obtain⟨zs',z1,z2,q⟩:=Kr (some (.lst false (ee s up))) (some (.lst false (cells.map D.int))) (some (.lst true (P.map gq))) s k hs0 M m0 m1 zs hz (by omega) t (by omega);exact⟨_,_,rfl,q,zs',_,z1,by omega,rfl⟩) [some (.lst false (ee s up)),some (.lst false (cells.map D.int)),some (.int s),some (.lst true (P.map gq)),some (.int k),some (.int M),some (.bZ true [] []),tv] ⟨[],tv,⟨by simp,fun z hz=>absurd hz aB⟩,by simp,rfl⟩
  have bu:=bL (M / 7) (b:=(up.length:Int)) (by omega);have hat2:cH (ee s up) (M / 7%(up.length:Int))=some (sG s (M / 7%(up.length:Int)).toNat (up[(M / 7%(up.length:Int)).toNat]'(by omega))):=by
   have:=cS (CC s up (M / 7%(up.length:Int)).toNat (by omega));rw[show(((M / 7%(up.length:Int)).toNat:Nat):Int)=M / 7%(up.length:Int)by omega]at this;exact this
  have hPl:(P.map gq).length<aa:=by rw[ah];omega
  refine⟨_,[some (.lst false (ee s up)),some (.lst false (cells.map D.int)),some (.int s),some (.lst true ((P++[(ck (M / 7%(up.length:Int)).toNat s,zs)]).map gq)),some (.int k),some (.int M),some (.pdc (kZ zs) (vZ zs)),tv'],rfl,?_,P++[(ck (M / 7%(up.length:Int)).toNat s,zs)],_,_,_,_,⟨fun p hp=>?_,fun p hp=>?_⟩,by simp[hl],rfl⟩
  ·unfold nO;rw[show bM lB 1000 jb=bM [.fn gw [],.fn nS [],.fn iW []] 1000 jb from rfl]at h1;generalize jb=B at h1 ⊢;unfold lB;have fv:=BG zs;simp_arith -implicitDefEqProofs [hat,qm,fR,h1];rw[WM rfl];simp_arith [jx,hat2,sG,iS,kL,fv];rw[eU (xs:=P.map gq) rfl hPl rfl];simp_arith [jx,fv];rw[a7];rfl
  ·rcases aT.mp hp with q|q
   ·exact hP.k p q
   ·rw[aG.mp q];exact⟨_,by omega,rfl⟩
  ·rcases aT.mp hp with q|q
   ·exact hP.z p q
   ·rw[aG.mp q];exact⟨hz,by show zs.length<=4;omega⟩) [some (.lst false (ee s up)),some (.lst false (cells.map D.int)),some (.int s),some (.lst true []),none,none,none,none] ⟨[],none,none,none,none,⟨fun p hp=>absurd hp aB,fun p hp=>absurd hp aB⟩,rfl,rfl⟩
 refine⟨P,hP,hl,?_⟩;unfold qa ye;generalize nO=B at h1 ⊢;simp_arith [jx,fR,ah,iJ,h1]
theorem WO{i c n:Int}(h0:0<=i)(h1:i<n)(h2:0<=c)(h3:c<n-1):(i+1+c)%n≠i/\0<=(i+1+c)%n/\(i+1+c)%n<n:=by
 have hn:0<n:=by omega
 refine⟨?_,ed _ (by omega),di _ hn⟩;by_cases h:i+1+c<n
 ·rw[zy (by omega) h];omega
 ·have e:(i+1+c)%n=(i+1+c-n)%n:=by rw[Int.sub_emod_right]
  rw[e,zy (by omega) (by omega)];omega
theorem UI{j:J3}(h:lD J j=false):j∉J:=fun hj=>by
 unfold lD at h;rw[gz]at h;exact h j hj (by simp)
structure GJ (s:Int) (n:Nat) (J:List J3):Prop where
 nd:J.Nodup
 k:∀j∈J,(∃a,a<25/\j.1=ck a s)/\j.2.1≠j.2.2/\(okN n j.2.1&&okN n j.2.2)=true
theorem Ks(s:Int)(hs0:0<=s)(n:Nat)(hn:n<=100)(cells:List Int)(hc:cells.length<=24)(k:Nat)(hk:k<cells.length)(J:List J3)(hJ:GJ (s / 5) n J)(hl:J.length<=k)(a b c d e:Option D) :
  ∃J' m' i' j' o',GJ (s / 5) n J'/\J'.length<=k+1/\bM tX 1000 lq [some (.int (n:Int)),some (.lst false (cells.map D.int)),some (.int s),some (.lst true (J.map jD)),some (.int (k:Int)),b,c,d,e]=.nx [some (.int (n:Int)),some (.lst false (cells.map D.int)),some (.int s),some (.lst true (J'.map jD)),some (.int (k:Int)),m',i',j',o']:=by
 have hs:=szl;have hat:cH (cells.map D.int) (k:Int)=some (.int cells[k]):=cS (by rw[aX,aA hk];rfl);have qm:=wz cells[k] k 1515151515151515151 ⟨by omega,by omega⟩ ⟨by omega,by omega⟩;have m0:=ed ((cells[k]+(k:Int)*k+1)*1515151515151515151) (show(2305843009213693951:Int)≠0 by decide);have m1:=di ((cells[k]+(k:Int)*k+1)*1515151515151515151) (show(0:Int)<2305843009213693951 by decide);generalize(cells[k]+(k:Int)*k+1)*1515151515151515151%2305843009213693951=M at qm m0 m1;have b3:=bL (M / 100) (b:=3) (by decide);obtain⟨w,hw,ew⟩:∃w:Nat,w<25/\M / 100%3=(w:Int):=⟨(M / 100%3).toNat,by omega,by omega⟩;have qn:gw [.int (w:Int),.int (s / 5)]=.ok (.str (strOf (ck w (s / 5)))):=vj w (s / 5) hw (by omega);unfold lq tX;by_cases c1:(n:Int)>1
 ·have g1:(if(n:Int)>1 then(n:Int)else 1)=(n:Int):=if_pos c1;have g2:(if(n:Int)-1>1 then(n:Int)-1 else 1)=(n:Int)-1:=by
   by_cases h:(n:Int)-1>1
   ·rw[if_pos h]
   ·rw[if_neg h];omega
  have g3:=decide_eq_true c1;have bi:=bL M (b:=(n:Int)) (by omega);have bc:=bL (M / 9) (b:=(n:Int)-1) (by omega);obtain⟨j1,j2,j3⟩:=WO bi.1 bi.2 bc.1 bc.2;have hin:∀o,cL .NotIn (.tup [.str (strOf (ck w (s / 5))),.int (M%n),.int ((M%n+1+M / 9%((n:Int)-1))%n)]) (.lst o (J.map jD))=.ok (.bl (!lD J (ck w (s / 5),M%n,(M%n+1+M / 9%((n:Int)-1))%n))):=fun o=>by
   rw[pq rfl (Kd J)];exact congrArg (fun b=>R.ok (D.bl (!b))) (GF J (ck w (s / 5),M%n,(M%n+1+M / 9%((n:Int)-1))%n))
  have fj:=iw J;have hJl:(J.map jD).length<aa:=by rw[ah];omega
  cases hm:lD J (ck w (s / 5),M%n,(M%n+1+M / 9%((n:Int)-1))%n)with
  |true=>
   refine⟨J,some (.int M),some (.int (M%n)),some (.int ((M%n+1+M / 9%((n:Int)-1))%n)),some (.tup [.str (strOf (ck w (s / 5))),.int (M%n),.int ((M%n+1+M / 9%((n:Int)-1))%n)]),hJ,by omega,?_⟩;simp_arith -implicitDefEqProofs [hat,qm,fR,g1,g2,g3,ew,qn,fj,hin,hm]
  |false=>
   refine⟨J++[(ck w (s / 5),M%n,(M%n+1+M / 9%((n:Int)-1))%n)],some (.int M),some (.int (M%n)),some (.int ((M%n+1+M / 9%((n:Int)-1))%n)),some (.tup [.str (strOf (ck w (s / 5))),.int (M%n),.int ((M%n+1+M / 9%((n:Int)-1))%n)]),⟨?_,fun j hj=>?_⟩,by simp;omega,?_⟩
   ·rw[bx];refine⟨hJ.nd,by simp,fun x hx y hy z=>?_⟩;rw[aG.mp hy]at z;rw[z]at hx;exact UI hm hx
   ·rcases aT.mp hj with q|q
    ·exact hJ.k j q
    ·rw[aG.mp q];refine⟨⟨w,hw,rfl⟩,fun z=>j1 z.symm,?_⟩;show(okN n (M%n)&&okN n ((M%n+1+M / 9%((n:Int)-1))%n))=true;unfold okN;simp[bi.1,bi.2,j2,j3]
   ·rw[a7];simp_arith -implicitDefEqProofs [hat,qm,fR,g1,g2,g3,ew,qn,fj,hin,hm];rw[eU (xs:=J.map jD) rfl hJl rfl];simp_arith [];rfl
 ·have g1:(if(n:Int)>1 then(n:Int)else 1)=1:=if_neg c1;have g2:(if(n:Int)-1>1 then(n:Int)-1 else 1)=1:=if_neg (by omega);have g3:=decide_eq_false c1;refine⟨J,some (.int M),some (.int (M%1)),some (.int ((M%1+1+M / 9%1)%1)),some (.tup [.str (strOf (ck w (s / 5))),.int (M%1),.int ((M%1+1+M / 9%1)%1)]),hJ,by omega,?_⟩;simp_arith -implicitDefEqProofs [hat,qm,fR,g1,g2,g3,ew,qn]
theorem UJ(s:Int)(hs0:0<=s)(n:Nat)(hn:n<=100)(cells:List Int)(hc:cells.length<=24):∃J:List J3,GJ (s / 5) n J/\J.length<=cells.length/\p_ [.int (n:Int),.lst false (cells.map D.int),.int s]=.ok (.lst true (J.map jD)):=by
 have hs:=szl;obtain⟨ZC,h1,J,kv,mv,iv,jv,ov,hJ,hl,rfl⟩:=kE (g:=pG (.name 4)) (b:=bM tX 1000 lq) cells.length
  (fun k O=>∃(J:List J3) (kv mv iv jv ov:Option D),GJ (s / 5) n J/\J.length<=k/\O=[some (.int (n:Int)),some (.lst false (cells.map D.int)),some (.int s),some (.lst true (J.map jD)),kv,mv,iv,jv,ov]) (by
  rintro k hk O ⟨J,kv,mv,iv,jv,ov,hJ,hl,rfl⟩;obtain⟨J',m',i',j',o',h1,h2,q⟩:=Ks s hs0 n hn cells hc k hk J hJ hl none mv iv jv ov;exact⟨_,_,rfl,q,J',_,_,_,_,_,h1,h2,rfl⟩) [some (.int (n:Int)),some (.lst false (cells.map D.int)),some (.int s),some (.lst true []),none,none,none,none,none] ⟨[],none,none,none,none,none,⟨by simp,fun j hj=>absurd hj aB⟩,by simp,rfl⟩
 refine⟨J,hJ,hl,?_⟩;unfold p_ yf;generalize lq=B at h1 ⊢;simp_arith [fR,ah,iJ,h1]
def WQ(s:Int)(n:Nat)(S:List (List Nat×Int)):Prop:=∀z∈S,(∃a,a<25/\z.1=ck a s)/\okN n z.2=true
theorem UK(s:Int)(hs0:0<=s)(n:Nat)(hn:n<=100)(cells:List Int)(hc:cells.length<=24):∃S:List (List Nat×Int),WQ (s / 7) n S/\S.length<=cells.length/\p9 [.int (n:Int),.lst false (cells.map D.int),.int s]=.ok (.lst true (S.map zD)):=by
 have hs:=szl;obtain⟨ZC,h1,S,kv,mv,hS,hl,rfl⟩:=kE (g:=pG (.name 4)) (b:=bM tW 1000 lu) cells.length
  (fun k O=>∃(S:List (List Nat×Int)) (kv mv:Option D),WQ (s / 7) n S/\S.length<=k/\O=[some (.int (n:Int)),some (.lst false (cells.map D.int)),some (.int s),some (.lst true (S.map zD)),kv,mv]) (by
  rintro k hk O ⟨S,kv,mv,hS,hl,rfl⟩;have hat:cH (cells.map D.int) (k:Int)=some (.int cells[k]):=cS (by rw[aX,aA hk];rfl);have qm:=wz cells[k] k 1616161616161616161 ⟨by omega,by omega⟩ ⟨by omega,by omega⟩;have m0:=ed ((cells[k]+(k:Int)*k+1)*1616161616161616161) (show(2305843009213693951:Int)≠0 by decide);have m1:=di ((cells[k]+(k:Int)*k+1)*1616161616161616161) (show(0:Int)<2305843009213693951 by decide);generalize(cells[k]+(k:Int)*k+1)*1616161616161616161%2305843009213693951=M at qm m0 m1;have b3:=bL (M / 11) (b:=3) (by decide);obtain⟨w,hw,ew⟩:∃w:Nat,w<25/\M / 11%3=(w:Int):=⟨(M / 11%3).toNat,by omega,by omega⟩;have qn:gw [.int (w:Int),.int (s / 7)]=.ok (.str (strOf (ck w (s / 7)))):=vj w (s / 7) hw (by omega);have hSl:(S.map zD).length<aa:=by rw[ah];omega
  by_cases c1:(0:Int)<(n:Int)
  ·have g3:=decide_eq_true c1;have bi:=bL M (b:=(n:Int)) (by omega);refine⟨_,[some (.int (n:Int)),some (.lst false (cells.map D.int)),some (.int s),some (.lst true ((S++[(ck w (s / 7),M%n)]).map zD)),some (.int (k:Int)),some (.int M)],rfl,?_,S++[(ck w (s / 7),M%n)],_,_,fun z hz=>?_,by simp;omega,rfl⟩
   ·unfold lu tW;rw[a7];simp_arith -implicitDefEqProofs [hat,qm,fR,g3,ew,qn];rw[eU (xs:=S.map zD) rfl hSl rfl];simp_arith [];rfl
   ·rcases aT.mp hz with q|q
    ·exact hS z q
    ·rw[aG.mp q];refine⟨⟨w,hw,rfl⟩,?_⟩;show okN n (M%n)=true;unfold okN;simp[bi.1,bi.2]
  ·have g3:=decide_eq_false c1;refine⟨_,[some (.int (n:Int)),some (.lst false (cells.map D.int)),some (.int s),some (.lst true (S.map zD)),some (.int (k:Int)),some (.int M)],rfl,?_,S,_,_,hS,by omega,rfl⟩;unfold lu tW;simp_arith -implicitDefEqProofs [hat,qm,fR,g3]) [some (.int (n:Int)),some (.lst false (cells.map D.int)),some (.int s),some (.lst true []),none,none] ⟨[],none,none,fun z hz=>absurd hz aB,by simp,rfl⟩
 refine⟨S,hS,hl,?_⟩;unfold p9 yg;generalize lu=B at h1 ⊢;simp_arith [fR,ah,iJ,h1]
theorem jy(n:Int):wD (bR n)=.str (dP n):=by
 show D.str ⟨(dP n).cps.toList.toArray⟩=_;rw[oj]
theorem CK(n:Int)(h:Num n):(dP n).length<=31:=by
 by_cases hn:0<=n
 ·obtain⟨m,rfl⟩:∃m:Nat,n=(m:Int):=⟨n.toNat,by omega⟩;have hm:m<10 ^ 30:=by
   have:=h.2;have:((10 ^ 30:Nat):Int)=10 ^ 30:=by decide
   omega
  rw[wF m hm,fW];have:=(nU 29 m hm).2.2.1;omega
 ·obtain⟨m,rfl,hp⟩:∃m:Nat,n=-(m:Int)/\0<m:=⟨(-n).toNat,by omega,by omega⟩;have hm:m<10 ^ 30:=by
   have:=h.1;have:((10 ^ 30:Nat):Int)=10 ^ 30:=by decide
   omega
  rw[wH m hp hm,fW];have:=(nU 29 m hm).2.2.1;simp;omega
theorem iX(n:Int)(h:Num n):i9 .str [.int n]=.ok (.str (dP n)):=by
 have hs:=szl;have hl:=CK n h;have h1:n.natAbs<10 ^ 30:=by
  obtain⟨a,b⟩:=h;have:((10 ^ 30:Nat):Int)=10 ^ 30:=by decide
  omega
 have h2:n.natAbs.log2<1920:=by
  by_cases hz:n.natAbs=0
  ·rw[hz];decide
  ·exact(Nat.log2_lt hz).mpr (bO h1 (by decide +kernel))
 show R.bA (decide (n.natAbs.log2<1920)&&decide ((dP n).length<=aa)) (R.ok (D.str (dP n)))=_;rw[decide_eq_true h2,decide_eq_true (by omega)];rfl
theorem Nv:∀(zs:List (List Nat×Int)) (z:List Nat×Int),(zs.map (·.1)).Nodup->z∈zs->k8 (kZ zs) (vZ zs) (.inr (strOf z.1))=some (.int z.2)
|[],z,_,h=>absurd h aB
|y::r,z,hn,h=>by
 have e:k8 (kZ (y::r)) (vZ (y::r)) (.inr (strOf z.1))=if(.inr (strOf y.1):Key)=.inr (strOf z.1)then some (.int y.2)else k8 (kZ r) (vZ r) (.inr (strOf z.1)):=rfl
 rw[e];rw[aV,bX]at hn;rcases aC.mp h with q|q
 ·subst q;rw[if_pos rfl]
 ·rw[if_neg fun c=>hn.1 (by rw[ic (uQ c)];exact oE q)];exact Nv r z hn.2 q
noncomputable abbrev kI(as:List AR):D:=.lst true (as.map fun a=>f_ a.row)
theorem rw_app(as:List AR)(a:AR):(as.map fun a=>f_ a.row)++[f_ a.row]=(as++[a]).map fun a=>f_ a.row:=by rw[a7];rfl
theorem lG(r:List (List Nat)):aQ (f_ r)=true:=by
 have:=GH [r];show aQ (f_ r)=true;have h:(aQ (f_ r)&&true)=true:=this;rwa[gK]at h
theorem Sx(zs:List (List Nat×Int)):(kZ zs).map eN=zs.map fun z=>wD z.1:=by
 unfold kZ;rw[c9];rfl
theorem Ry(a b c k x y:Option D)(p:P2)(hz:yt p.2)(hl:p.2.length<=4)(as:List AR)(ha:as.length<=1000)(w:Option D):∃w',forR (pG (.name 6)) (bM cP 1000 fL) ((kZ p.2).map eN) [a,b,c,some (kI as),k,some (.pdc (kZ p.2) (vZ p.2)),w,x,y]=.nx [a,b,c,some (kI (as++p.2.map .size)),k,some (.pdc (kZ p.2) (vZ p.2)),w',x,y]:=by
 have hs:=szl;rw[Sx];obtain⟨ZC,h1,w',rfl⟩:=qi (g:=pG (.name 6)) (b:=bM cP 1000 fL) (fun z:List Nat×Int=>wD z.1) p.2
  (fun pre O=>∃w',O=[a,b,c,some (kI (as++pre.map .size)),k,some (.pdc (kZ p.2) (vZ p.2)),w',x,y]) (by
  rintro pre z post hx O ⟨w',rfl⟩;have hm:z∈p.2:=by rw[hx];simp
  have hpl:pre.length<=4:=by rw[hx]at hl;simp at hl;omega
  have qg:=Nv p.2 z hz.1 hm;have qs:=iX z.2 (hz.2 z hm).2;have fv:=BG p.2;have hll:((as++pre.map AR.size).map fun a=>f_ a.row).length<aa:=by simp;omega
  refine⟨_,_,rfl,?_,some (wD z.1),rfl⟩;unfold fL cP wD;simp_arith [qg,fv,qs,gZ];have er:D.lst true [D.str (strOf a8),D.str (strOf z.1),D.str (dP z.2)]=f_ (AR.size z).row:=by
   rw[<-jy];rfl
  rw[er,eU (xs:=(as++pre.map AR.size).map fun a=>f_ a.row) rfl hll (by rw[lG];rfl),rw_app];have o1:=lG (AR.size z).row;simp_arith [o1];rw[show as++s9 AR.size (pre++[z])=(as++pre.map AR.size)++[.size z]by simp]) [a,b,c,some (kI as),k,some (.pdc (kZ p.2) (vZ p.2)),w,x,y] ⟨w,by simp⟩
 exact⟨w',h1⟩
theorem Rz(a b c x y:Option D)(P:List P2)(hz:∀p∈P,yt p.2/\p.2.length<=4)(hl:P.length<=24)(k d w:Option D):∃k' d' w',forR (pG (.tup (.cons (.name 4) (.cons (.name 5) .nil)))) (bM cP 1000 iG) (P.map gq) [a,b,c,some (kI []),k,d,w,x,y]=.nx [a,b,c,some (kI (P.flatMap cB)),k',d',w',x,y]:=by
 have hs:=szl;obtain⟨ZC,h1,k',d',w',hll,rfl⟩:=qi (g:=pG (.tup (.cons (.name 4) (.cons (.name 5) .nil)))) (b:=bM cP 1000 iG) gq P
  (fun pre O=>∃k' d' w',(pre.flatMap cB).length<=5*pre.length/\O=[a,b,c,some (kI (pre.flatMap cB)),k',d',w',x,y]) (by
  rintro pre p post hx O ⟨k',d',w',hll,rfl⟩;have hm:p∈P:=by rw[hx];simp
  have hpl:pre.length<=23:=by rw[hx]at hl;simp at hl;omega
  obtain⟨z1,z2⟩:=hz p hm;have hlt:((pre.flatMap cB).map fun a=>f_ a.row).length<aa:=by rw[ah];omega
  obtain⟨w2,q⟩:=Ry a b c (some (wD p.1)) x y p z1 z2 (pre.flatMap cB++[.part p.1]) (by simp only[aE,cg];omega) w';have e1:(pre++[p]).flatMap cB=pre.flatMap cB++[.part p.1]++p.2.map .size:=by
   rw[List.flatMap_append];show pre.flatMap cB++(cB p++[])=_;rw[bY];show pre.flatMap cB++(.part p.1::p.2.map .size)=_;simp
  refine⟨[a,b,c,some (kI (pre.flatMap cB)),some (wD p.1),some (.pdc (kZ p.2) (vZ p.2)),w',x,y],[a,b,c,some (kI ((pre++[p]).flatMap cB)),some (wD p.1),some (.pdc (kZ p.2) (vZ p.2)),w2,x,y],?_,?_,_,_,_,?_,rfl⟩
  ·unfold gq;simp_arith []
  ·unfold iG;rw[show bM cP 1000 fL=bM [] 1000 fL from rfl]at q;generalize fL=B at q ⊢;unfold cP wD;simp_arith [gx];have er:D.lst true [D.str (strOf bF),D.str (strOf p.1)]=f_ (AR.part p.1).row:=rfl;have o1:=lG (AR.part p.1).row;rw[er,eU (xs:=(pre.flatMap cB).map fun a=>f_ a.row) rfl hlt (by rw[o1];rfl),rw_app];simp_arith [o1];rw[DG rfl];rw[e1];have q:forR (pG (.name 6)) (bM [] 1000 B) ((kZ p.2).map eN) [a,b,c,some (kI (pre.flatMap cB++[.part p.1])),some (.str (strOf p.1)),some (.pdc (kZ p.2) (vZ p.2)),w',x,y]=.nx [a,b,c,some (kI (pre.flatMap cB++[.part p.1]++p.2.map .size)),some (.str (strOf p.1)),some (.pdc (kZ p.2) (vZ p.2)),w2,x,y]:=q;rw[q];simp_arith []
  ·rw[e1];simp only[aE,cg,ah];omega) [a,b,c,some (kI []),k,d,w,x,y] ⟨k,d,w,by simp,rfl⟩
 exact⟨k',d',w',h1⟩
theorem RA(a b c k d:Option D)(J:List J3)(hj:∀j∈J,Num j.2.1/\Num j.2.2)(hl:J.length<=24)(as:List AR)(ha:as.length<=1000)(w x y:Option D):∃w' x' y',forR (pG (.tup (.cons (.name 6) (.cons (.name 7) (.cons (.name 8) .nil))))) (bM cP 1000 iF) (J.map jD) [a,b,c,some (kI as),k,d,w,x,y]=.nx [a,b,c,some (kI (as++J.map .join)),k,d,w',x',y']:=by
 have hs:=szl;obtain⟨ZC,h1,w',x',y',rfl⟩:=qi (g:=pG (.tup (.cons (.name 6) (.cons (.name 7) (.cons (.name 8) .nil))))) (b:=bM cP 1000 iF) jD J
  (fun pre O=>∃w' x' y',O=[a,b,c,some (kI (as++pre.map .join)),k,d,w',x',y']) (by
  rintro pre j post hx O ⟨w',x',y',rfl⟩;have hm:j∈J:=by rw[hx];simp
  have hpl:pre.length<=24:=by rw[hx]at hl;simp at hl;omega
  have q1:=iX j.2.1 (hj j hm).1;have q2:=iX j.2.2 (hj j hm).2;have hll:((as++pre.map AR.join).map fun a=>f_ a.row).length<aa:=by simp;omega
  refine⟨[a,b,c,some (kI (as++pre.map .join)),k,d,some (wD j.1),some (.int j.2.1),some (.int j.2.2)],[a,b,c,some (kI (as++(pre++[j]).map .join)),k,d,some (wD j.1),some (.int j.2.1),some (.int j.2.2)],?_,?_,_,_,_,rfl⟩
  ·unfold jD;simp_arith []
  ·unfold iF cP wD;simp_arith [q1,q2,gO];have er:D.lst true [D.str (strOf bg),D.str (strOf j.1),D.str (dP j.2.1),D.str (dP j.2.2)]=f_ (AR.join j).row:=by
    rw[<-jy,<-jy];rfl
   have o1:=lG (AR.join j).row;rw[er,eU (xs:=(as++pre.map AR.join).map fun a=>f_ a.row) rfl hll (by rw[o1];rfl),rw_app];simp_arith [o1];rw[show as++s9 AR.join (pre++[j])=(as++pre.map AR.join)++[.join j]by simp]) [a,b,c,some (kI as),k,d,w,x,y] ⟨w,x,y,by simp⟩
 exact⟨w',x',y',h1⟩
theorem RB(a b c k d y:Option D)(S:List (List Nat×Int))(hj:∀z∈S,Num z.2)(hl:S.length<=24)(as:List AR)(ha:as.length<=1000)(w x:Option D):∃w' x',forR (pG (.tup (.cons (.name 6) (.cons (.name 7) .nil)))) (bM cP 1000 iE) (S.map zD) [a,b,c,some (kI as),k,d,w,x,y]=.nx [a,b,c,some (kI (as++S.map .step)),k,d,w',x',y]:=by
 have hs:=szl;obtain⟨ZC,h1,w',x',rfl⟩:=qi (g:=pG (.tup (.cons (.name 6) (.cons (.name 7) .nil)))) (b:=bM cP 1000 iE) zD S
  (fun pre O=>∃w' x',O=[a,b,c,some (kI (as++pre.map .step)),k,d,w',x',y]) (by
  rintro pre j post hx O ⟨w',x',rfl⟩;have hm:j∈S:=by rw[hx];simp
  have hpl:pre.length<=24:=by rw[hx]at hl;simp at hl;omega
  have q1:=iX j.2 (hj j hm);have hll:((as++pre.map AR.step).map fun a=>f_ a.row).length<aa:=by simp;omega
  refine⟨[a,b,c,some (kI (as++pre.map .step)),k,d,some (wD j.1),some (.int j.2),y],[a,b,c,some (kI (as++(pre++[j]).map .step)),k,d,some (wD j.1),some (.int j.2),y],?_,?_,_,_,rfl⟩
  ·unfold zD;simp_arith []
  ·unfold iE cP wD;simp_arith [q1,ud];have er:D.lst true [D.str (strOf bB),D.str (strOf j.1),D.str (dP j.2)]=f_ (AR.step j).row:=by
    rw[<-jy];rfl
   have o1:=lG (AR.step j).row;rw[er,eU (xs:=(as++pre.map AR.step).map fun a=>f_ a.row) rfl hll (by rw[o1];rfl),rw_app];simp_arith [o1];rw[show as++s9 AR.step (pre++[j])=(as++pre.map AR.step)++[.step j]by simp]) [a,b,c,some (kI as),k,d,w,x,y] ⟨w,x,by simp⟩
 exact⟨w',x',h1⟩
theorem GK(P:List P2)(J:List J3)(S:List (List Nat×Int))(hz:∀p∈P,yt p.2/\p.2.length<=4)(hP:P.length<=24)(hj:∀j∈J,Num j.2.1/\Num j.2.2)(hJ:J.length<=24)(hs:∀z∈S,Num z.2)(hS:S.length<=24):jS [.lst false (P.map gq),.lst false (J.map jD),.lst false (S.map zD)]=.ok (kI (eB P J S)):=by
 have pl:(P.flatMap cB).length<=5*P.length:=by
  clear hP;induction P with
  |nil=>simp
  |cons p r ih=>
   rw[qR,aE,aW];have:=ih fun q hq=>hz q (ai _ hq);have:=(hz p ao).2;have e:(cB p).length=p.2.length+1:=by unfold cB;simp
   omega
 obtain⟨k1,d1,w1,q1⟩:=Rz (some (.lst false (P.map gq))) (some (.lst false (J.map jD))) (some (.lst false (S.map zD))) none none P hz hP none none none;obtain⟨w2,x2,y2,q2⟩:=RA (some (.lst false (P.map gq))) (some (.lst false (J.map jD))) (some (.lst false (S.map zD))) k1 d1 J hj hJ (P.flatMap cB) (by omega) w1 none none;obtain⟨w3,x3,q3⟩:=RB (some (.lst false (P.map gq))) (some (.lst false (J.map jD))) (some (.lst false (S.map zD))) k1 d1 y2 S hs hS (P.flatMap cB++J.map .join) (by simp only[aE,ah];omega) w2 x2;have e:P.flatMap cB++J.map AR.join++S.map AR.step=eB P J S:=by unfold eB;rw[bQ]
 rw[e]at q3;have own:cD ((eB P J S).map fun a=>f_ a.row)=true:=jq _ fun d hd=>by
  obtain⟨a,_,rfl⟩:=b_.mp hd;exact lG _
 unfold jS oV;rw[show cP=[]from rfl]at q1 q2 q3 ⊢;generalize iG=B4 at q1 ⊢;generalize iF=B2 at q2 ⊢;generalize iE=B1 at q3 ⊢;have fp:=pQ P;have fj:=iw J;have fs:=iu S;have q1:forR (pG (.tup (.cons (.name 4) (.cons (.name 5) .nil)))) (bM [] 1000 B4) (P.map gq) [some (.lst false (P.map gq)),some (.lst false (J.map jD)),some (.lst false (S.map zD)),some (.lst true []),none,none,none,none,none]=_:=q1;simp_arith [fp,fj,fs,q1,q2,q3,own]
noncomputable def pR(o:Bool):D:=.bZ o [.inr "part",.inr "size",.inr "join",.inr "step"] [.int 2,.int 3,.int 4,.int 3]
theorem Nx:pE Y (.dcs [("part",2),("size",3),("join",4),("step",3)]) O=.ok (pR true):=by
 show O1 [("part",2),("size",3),("join",4),("step",3)] (R.ok (pR true))=_;kernel_rfl
theorem IU:bC (pR true)=pR false:=rfl
theorem GL:aQ (pR true)=true:=rfl
noncomputable def CL:List D:=[.str "the",.str "or",.str "toolongwds",.str "r2",.str "Rod"]
noncomputable def AF(w:List Nat):Bool:=memD (.str (strOf w)) CL
noncomputable def zc:Str:=⟨(aF (31:Int).toNat (aK "1").cps.toList).flatten.toArray⟩
noncomputable def CM:List D:=[.str "00",.str "-0",.str "1.5",.str "x",.str zc,.str "+1"]
noncomputable def jG(w:List Nat):Bool:=memD (.str (strOf w)) CM
theorem ones_mul:kh .Mult (.str "1") (.int 31)=.ok (.str zc):=by kernel_rfl
theorem WR(w:List Nat):cL .In (.str (strOf w)) (.tup [.str "the",.str "or",.str "toolongwds",.str "r2",.str "Rod"])=.ok (.bl (AF w)):=As rfl rfl
theorem WS(w:List Nat):cL .In (.str (strOf w)) (.tup [.str "00",.str "-0",.str "1.5",.str "x",.str zc,.str "+1"])=.ok (.bl (jG w)):=As rfl rfl
section
variable(a:List Nat) (ws:List (List Nat)) (g:D) (hg:ki .get (pR false) [.str (strOf a)]=.ok g) (fg:bC g=g)
include hg fg
theorem qj(hl:cL .NotEq g (.int (((a::ws).map wD).length:Int))=.ok (.bl true)):bw [aN (a::ws)]=.ok (.bl false):=by
 have fr:=iK (a::ws);have h0:cH ((a::ws).map wD) 0=some (.str (strOf a)):=cS (j:=0) rfl;have d0:=fun Y O=>Nx (Y:=Y) (O:=O);have z0:=IU;have o0:=GL;unfold bw lV oY aN;generalize(a::ws).map wD=R at fr h0 hl ⊢;generalize pR true=F at d0 z0 o0;simp_arith [fr,h0,d0,z0,o0,hg,fg,hl]
theorem rJ(w:List Nat)(us:List (List Nat))(e:ws=w::us)(hl:cL .NotEq g (.int (((a::ws).map wD).length:Int))=.ok (.bl false)):bw [aN (a::ws)]=.ok (.bl (!AF w&&!us.any jG)):=by
 have hs:=szl;subst e;have fr:=iK (a::w::us);have h0:cH ((a::w::us).map wD) 0=some (.str (strOf a)):=cS (j:=0) rfl;have h1:cH ((a::w::us).map wD) 1=some (.str (strOf w)):=cS (j:=1) rfl;have hcut:cut ((a::w::us).map wD) (some 2) none=us.map wD:=by
  show cut ((a::w::us).map wD) (some ((2:Nat):Int)) none=_;unfold cut;rw[HT.rD,HT.vO,kX (by simp)];simp only[aV,oF,j0];rw[cy (by simp)]
 have d0:=fun Y O=>Nx (Y:=Y) (O:=O);have z0:=IU;have o0:=GL;have fu:=iK us;have om:=ones_mul;have io:=WR w;have hc:fG (pG (.name 0)) (fun _=>.ok true) (pE [] (.cmp .In (.var 0) (.tup (.cons (.con (.str "00")) (.cons (.con (.str "-0")) (.cons (.con (.str "1.5")) (.cons (.con (.str "x")) (.cons (.bin .Mult (.con (.str "1")) (.con (.int 31))) (.cons (.con (.str "+1")) .nil)))))))))  (us.map wD) [none]=.ok (us.map fun u=>D.bl (jG u)):=by
  refine iQ wD (fun O=>∃o,O=[o]) (fun u=>D.bl (jG u)) us _ ⟨none,rfl⟩ ?_;rintro u _ O ⟨o,rfl⟩;refine⟨[some (wD u)],rfl,⟨_,rfl⟩,?_⟩;have ib:=WS u;unfold wD;generalize zc=Zw at om ib;simp_arith [om,ib]
 have ha:i9 .any [.lst true (us.map fun u=>D.bl (jG u))]=.ok (.bl (us.any jG)):=by
  show R.bA ((us.map fun u=>D.bl (jG u)).all mL) (R.ok (D.bl ((us.map fun u=>D.bl (jG u)).any lT)))=_;rw[ir,oq];have e1:(us.all (mL∘fun u=>D.bl (jG u)))=true:=bE.mpr fun _ _=>rfl;have e2:us.any (lT∘fun u=>D.bl (jG u))=us.any jG:=by
   congr 1;funext u;show lT (D.bl (jG u))=_;cases jG u<;>rfl
  rw[e1,e2];rfl
 have ha':i9 .any [.lst false (us.map fun u=>D.bl (jG u))]=.ok (.bl (us.any jG)):=ha;have fb:az (us.map fun u=>D.bl (jG u))=us.map fun u=>D.bl (jG u):=eG _ (fun _=>rfl) us;unfold bw lV oY aN;generalize(a::w::us).map wD=R at fr h0 h1 hl hcut ⊢;generalize pR true=F at d0 z0 o0;cases ho:AF w with
 |true=>
  rw[ho]at io;simp_arith [fr,h0,h1,d0,z0,o0,hg,fg,hl,io]
 |false=>
  rw[ho]at io;simp_arith [fr,h0,h1,d0,z0,o0,hg,fg,hl,io,hcut,fu,hc,fb,ha,ha']
end
end K2
end
section
namespace K2
open PySem L2 L3 Tr
open PySem.NumText
theorem IV(s:Int)(up:List (Option Nat)):ee s up=up.zipIdx.map fun x=>sG s x.2 x.1:=by
 unfold ee;rw[rC]
noncomputable def fY(s:Int)(up:List (Option Nat)):List D:=up.zipIdx.map fun x=>D.str (lW x.2 s)
variable{α:Type}
theorem CN(f:α->Str):∀(l:List α) (n:Nat),dY (l.map fun a=>D.str (f a)) n=true
|[],_=>rfl
|a::r,n=>by
 show(jN (D.str (f a)) n&&dY (r.map fun a=>D.str (f a)) n)=true;rw[CN f r n];rfl
theorem CP(s:Int)(up:List (Option Nat)):eY (fY s up)=true:=CN _ _ _
theorem iY(s:Int)(up:List (Option Nat)):az (fY s up)=fY s up:=eG _ (fun _=>rfl) _
theorem RC(s:Int)(up:List (Option Nat))(k:Nat)(hk:k<25)(hu:up.length<=25):memD (.str (lW k s)) (fY s up)=decide (k<up.length):=by
 unfold fY;rw[wA,dz,gS,decide_eq_true_eq];constructor
 ·rintro⟨⟨p,i⟩,hx,he⟩;rw[str_beq,decide_eq_true_eq]at he;have hi:=List.mem_zipIdx hx;have:=Rn (s:=s) (i:=i) (j:=k) (by omega) hk (ic he);omega
 ·intro h;refine⟨(up[k],k),?_,by rw[str_beq,decide_eq_true_eq]⟩;rw[List.mem_iff_getElem?];refine⟨k,?_⟩;rw[wU,aA h];simp
theorem GN(f:α->Str):∀(l:List α),cD (l.map fun a=>D.str (f a))=true
|[]=>rfl
|a::r=>by
 show(aQ (D.str (f a))&&cD (r.map fun a=>D.str (f a)))=true;rw[GN f r];rfl
theorem RD(s:Int)(up:List (Option Nat)):cD (fY s up)=true:=GN _ _
theorem RE(s:Int)(up:List (Option Nat))(x:Str)(o:Bool):cL .NotIn (.str x) (.lst o (fY s up))=.ok (.bl (!memD (.str x) (fY s up))):=pq rfl (CP s up)
theorem Ny(s:Int)(up:List (Option Nat)):∀Y,fG (pG (CG.name 0)) (fun _=>R.ok true) (pE Y ((CE.var 0).ix (CE.con (V.int 0)))) (ee s up) [none]=.ok (fY s up):=by
 intro Y;rw[IV];exact iQ (fun x:Option Nat×Nat=>sG s x.2 x.1) (fun O=>∃o,O=[o]) (fun x=>D.str (lW x.2 s)) up.zipIdx _ ⟨none,rfl⟩ (by
  rintro x _ O ⟨o,rfl⟩;refine⟨[some (sG s x.2 x.1)],rfl,⟨_,rfl⟩,?_⟩;unfold sG;simp_arith [iS])
theorem Nz(s:Int)(up:List (Option Nat)):∀Y,fG (pG (CG.tup ((j7.cons (CG.name 0) (j7.cons (CG.name 1) j7.nil))))) (fun _=>R.ok true) (pE Y (CE.var 0)) (ee s up) [none,none]=.ok (fY s up):=by
 intro Y;rw[IV];exact iQ (fun x:Option Nat×Nat=>sG s x.2 x.1) (fun O=>∃o p,O=[o,p]) (fun x=>D.str (lW x.2 s)) up.zipIdx _ ⟨none,none,rfl⟩ (by
  rintro x _ O ⟨o,p,rfl⟩;refine⟨[some (.str (lW x.2 s)),some (.str (Nb s x.1))],?_,⟨_,_,rfl⟩,?_⟩
  ·unfold sG;simp_arith []
  ·simp_arith [])
theorem int_text(n:Int)(h:Num n):intText? (dP n)=some n:=by
 by_cases hn:0<=n
 ·obtain⟨m,rfl⟩:∃m:Nat,n=(m:Int):=⟨n.toNat,by omega⟩;have hm:m<10 ^ 30:=by
   have:=h.2;have:((10 ^ 30:Nat):Int)=10 ^ 30:=by decide
   omega
  obtain⟨d1,d2,d3,d4,d5,d6⟩:=nU 29 m hm;have l1:(strOf (fC 29 m)).length=(fC 29 m).length:=fW _;rw[wF m hm,C4 (x:=strOf (fC 29 m)) d1 d2 (by omega)];show some ((digitsVal (fC 29 m):Nat):Int)=_;rw[d4]
 ·obtain⟨m,rfl,hp⟩:∃m:Nat,n=-(m:Int)/\0<m:=⟨(-n).toNat,by omega,by omega⟩;have hm:m<10 ^ 30:=by
   have:=h.1;have:((10 ^ 30:Nat):Int)=10 ^ 30:=by decide
   omega
  obtain⟨d1,d2,d3,d4,d5,d6⟩:=nU 29 m hm;have l1:(strOf (45::fC 29 m)).length=(fC 29 m).length+1:=fW _;rw[wH m hp hm,HR (x:=strOf (45::fC 29 m)) rfl d1 d2 (by omega),d4]
theorem int_str(n:Int)(h:Num n):i9 .int [.str (dP n)]=.ok (.int n):=by
 have hl:=CK n h;show R.bA (decide ((dP n).length<=640)) ((R.opt (intText? (dP n))).bind fun n=>R.ok (D.int n))=_;rw[decide_eq_true (by omega),int_text n h];rfl
theorem str_inj(m n:Int)(hm:Num m)(hn:Num n):(dP m==dP n)=decide (m=n):=by
 rw[str_beq,dz,decide_eq_true_eq,decide_eq_true_eq];constructor
 ·intro e;have:=int_text m hm;rw[e,int_text n hn]at this;exact(cV this).symm
 ·intro e;rw[e]
section
variable(s:Int) (up:List (Option Nat)) (P:List P2) (J:List J3) (S:List (List Nat×Int))
noncomputable abbrev mq(r:List (List Nat)):List D:=[aN r,.lst false (ee s up),.lst false (P.map gq),.lst false (J.map jD),.lst false (S.map zD)]
theorem UL(r:List (List Nat))(h:bw [aN r]=.ok (.bl false)):dN (mq s up P J S r)=.ok (.str "BadRow"):=by
 have fr:=jc r;have fk:=jx s up;have fp:=pQ P;have fj:=iw J;have fs:=iu S;unfold dN ng oZ mq;generalize aN r=d at fr h ⊢;simp_arith [fr,fk,fp,fj,fs,h]
theorem RG(w:List Nat)(h:bw [aN [bF,w]]=.ok (.bl true)):dN (mq s up P J S [bF,w])=.ok (if memD (.str (strOf w)) (fY s up)=true then(if P.length=8 then .str "TooBig" else .non)else .str "NoKind"):=by
 have hs:=szl;have fk:=jx s up;have fp:=pQ P;have fj:=iw J;have fs:=iu S;have h:bw [.lst false [.str (strOf bF),.str (strOf w)]]=.ok (.bl true):=h;have e1:(strOf bF==strOf a8)=false:=by decide +kernel
 have e2:(strOf bF==strOf bg)=false:=by decide +kernel
 have e3:=beq_self_eq_true (strOf bF);have hc:=Nz s up [.fn bw []];have ft:=iY s up;have hn:=RE s up (strOf w);show dN [.lst false [.str (strOf bF),.str (strOf w)],.lst false (ee s up),.lst false (P.map gq),.lst false (J.map jD),.lst false (S.map zD)]=_;unfold dN ng oZ;simp_arith [fk,fp,fj,fs,h,iS,jm,gZ,gO,gx,e1,e2,e3,hc,ft,hn];cases hm:memD (.str (strOf w)) (fY s up)with
 |false=>simp_arith []
 |true=>
  by_cases h8:P.length=8
  ·have g:=beq_iff_eq.mpr (show((P.length:Int))=8 by omega);rw[if_pos h8];simp_arith [fp,g,ah]
  ·have g:=beq_eq_false_iff_ne.mpr (show((P.length:Int))≠8 by omega);rw[if_neg h8];simp_arith [fp,g,ah]
theorem NB(w u:List Nat)(h:bw [aN [a8,w,u]]=.ok (.bl true)):dN (mq s up [] J S [a8,w,u])=.ok (.str "BadRow"):=by
 have hs:=szl;have fk:=jx s up;have fj:=iw J;have fs:=iu S;have h:bw [.lst false [.str (strOf a8),.str (strOf w),.str (strOf u)]]=.ok (.bl true):=h;have e1:=beq_self_eq_true (strOf a8);have z0:((((0:Nat):Int))==0)=true:=rfl;show dN [.lst false [.str (strOf a8),.str (strOf w),.str (strOf u)],.lst false (ee s up),.lst false [],.lst false (J.map jD),.lst false (S.map zD)]=_;unfold dN ng oZ;simp_arith [fk,fj,fs,h,iS,jm,gZ,gO,gx,e1,z0]
end
end K2
end
section
namespace K2
open PySem L2 L3 Tr
variable{α:Type}
theorem IW(xs:List α)(x:α)(h:xs.length<=1000):cH (xs++[x]) (-1)=some x:=by
 unfold cH;rw[aE,cg,CJ _ h];show(xs++[x])[xs.length]?=some x;simp
section
variable(s:Int) (up:List (Option Nat)) (P:List P2) (J:List J3) (S:List (List Nat×Int))
theorem RH(Q:List P2)(p:P2)(hQ:Q.length<=1000)(e:P=Q++[p])(w u:List Nat)(h:bw [aN [a8,w,u]]=.ok (.bl true)):dN (mq s up P J S [a8,w,u])=.ok (if kO p.2 w=true then .str "Twice" else if p.2.length=4 then .str "TooBig" else .non):=by
 have hs:=szl;have fk:=jx s up;have fp:=pQ P;have fj:=iw J;have fs:=iu S;have h:bw [.lst false [.str (strOf a8),.str (strOf w),.str (strOf u)]]=.ok (.bl true):=h;have e1:=beq_self_eq_true (strOf a8);have e2:(strOf a8==strOf bg)=false:=by decide +kernel
 have e3:(strOf a8==strOf bF)=false:=by decide +kernel
 have z0:((P.length:Int)==0)=false:=beq_eq_false_iff_ne.mpr (by rw[e];simp;omega);have hl:cH (P.map gq) (-1)=some (.tup [wD p.1,.pdc (kZ p.2) (vZ p.2)]):=by
  rw[e,a7];exact IW (Q.map gq) (gq p) (by rw[ah];exact hQ)
 have fv:=BG p.2;have hin:cL .In (.str (strOf w)) (.pdc (kZ p.2) (vZ p.2))=.ok (.bl (kO p.2 w)):=by
  show R.ok (D.bl (oR (kZ p.2) (.inr (strOf w))))=_;rw[Nt]
 have hln:i9 .len [.pdc (kZ p.2) (vZ p.2)]=.ok (.int (p.2.length:Int)):=by
  show R.ok (D.int ((kZ p.2).length:Int))=_;unfold kZ;rw[ah]
 have at1':cH [wD p.1,.pdc (kZ p.2) (vZ p.2)] 1=some (.pdc (kZ p.2) (vZ p.2)):=jm _ _ _;show dN [.lst false [.str (strOf a8),.str (strOf w),.str (strOf u)],.lst false (ee s up),.lst false (P.map gq),.lst false (J.map jD),.lst false (S.map zD)]=_;unfold dN ng oZ;simp_arith [fk,fp,fj,fs,h,iS,jm,gZ,gO,gx,e1,e2,e3,ah,z0,hl,at1',fv,hin];cases hm:kO p.2 w with
 |true=>simp_arith [hm]
 |false=>
  by_cases h4:p.2.length=4
  ·have g:=beq_iff_eq.mpr (show((p.2.length:Int))=4 by omega);rw[if_pos h4];simp_arith [hm,fp,hl,jm,fv,hln,g]
  ·have g:=beq_eq_false_iff_ne.mpr (show((p.2.length:Int))≠4 by omega);rw[if_neg h4];simp_arith [hm,fp,hl,jm,fv,hln,g]
theorem GO{Y:List PG}(ns:List Int)(hn:∀n∈ns,Num n):fG (pG (.name 0)) (fun _=>.ok true) (pE Y (.chain .LtE .Lt (.con (.int 0)) (.blt .int (.cons (.var 0) .nil)) (.blt .len (.cons (.var 1) .nil)))) (ns.map fun n=>D.str (dP n)) [none,some (.lst false (P.map gq))]=.ok (ns.map fun n=>D.bl (okN P.length n)):=by
 refine iQ (fun n:Int=>D.str (dP n)) (fun O=>∃o,O=[o,some (.lst false (P.map gq))]) (fun n=>D.bl (okN P.length n)) ns _ ⟨none,rfl⟩ ?_;rintro n hm O ⟨o,rfl⟩;have q:=int_str n (hn n hm);have fp:=pQ P;refine⟨[some (.str (dP n)),some (.lst false (P.map gq))],rfl,⟨_,rfl⟩,?_⟩;unfold okN;by_cases h1:0<=n
 ·have g1:=decide_eq_true h1;simp_arith [q,fp,g1,ah]
 ·have g1:=decide_eq_false h1;simp_arith [q,fp,g1,ah]
theorem IX(o:Bool)(ns:List Int):i9 .all [.lst o (ns.map fun n=>D.bl (okN P.length n))]=.ok (.bl (ns.all (okN P.length))):=by
 show R.bA ((ns.map fun n=>D.bl (okN P.length n)).all mL) (R.ok (D.bl ((ns.map fun n=>D.bl (okN P.length n)).all lT)))=_;rw[ir,ir];have e1:(ns.all (mL∘fun n=>D.bl (okN P.length n)))=true:=bE.mpr fun _ _=>rfl;have e2:ns.all (lT∘fun n=>D.bl (okN P.length n))=ns.all (okN P.length):=by
  congr 1;funext n;show lT (D.bl (okN P.length n))=_;cases okN P.length n<;>rfl
 rw[e1,e2];rfl
theorem RI(w:List Nat)(n:Int)(hn:Num n)(h:bw [aN [bB,w,bR n]]=.ok (.bl true)):dN (mq s up P J S [bB,w,bR n])=.ok (if okN P.length n=true then(if S.length=8 then .str "TooBig" else .non)else .str "NoPart"):=by
 have hs:=szl;have fk:=jx s up;have fp:=pQ P;have fj:=iw J;have fs:=iu S;have er:aN [bB,w,bR n]=.lst false [.str (strOf bB),.str (strOf w),.str (dP n)]:=by
  show D.lst false [wD bB,wD w,wD (bR n)]=_;rw[jy];rfl
 rw[er]at h;have e1:(strOf bB==strOf a8)=false:=by decide +kernel
 have e2:(strOf bB==strOf bg)=false:=by decide +kernel
 have e3:(strOf bB==strOf bF)=false:=by decide +kernel
 have hcut:cut [D.str (strOf bB),.str (strOf w),.str (dP n)] (some 2) none=[.str (dP n)]:=rfl;have hc:=GO P (Y:=[.fn bw []]) [n] (fun x hx=>by rw[aG.mp hx];exact hn);have hc:fG (pG (.name 0)) (fun _=>.ok true) (pE [.fn bw []] (.chain .LtE .Lt (.con (.int 0)) (.blt .int (.cons (.var 0) .nil)) (.blt .len (.cons (.var 1) .nil)))) [.str (dP n)] [none,some (.lst false (P.map gq))]=.ok [.bl (okN P.length n)]:=hc;have ha:∀o,i9 .all [.lst o [.bl (okN P.length n)]]=.ok (.bl (okN P.length n)):=fun o=>by
  have:=IX P o [n];rw[show[n].all (okN P.length)=(okN P.length n&&true)from rfl,gK]at this;exact this
 unfold mq;rw[er];unfold dN ng oZ;simp_arith [fk,fp,fj,fs,h,iS,jm,gZ,gO,gx,e1,e2,e3,hcut,hc,ha];cases ho:okN P.length n with
 |false=>simp_arith [ho]
 |true=>
  by_cases h4:S.length=8
  ·have g:=beq_iff_eq.mpr (show((S.length:Int))=8 by omega);rw[if_pos h4];simp_arith [ho,iS,gO,e2,fs,ah,g]
  ·have g:=beq_eq_false_iff_ne.mpr (show((S.length:Int))≠8 by omega);rw[if_neg h4];simp_arith [ho,iS,gO,e2,fs,ah,g]
end
section
variable(s:Int) (up:List (Option Nat)) (P:List P2) (J:List J3) (S:List (List Nat×Int))
theorem RJ(w:List Nat)(m n:Int)(hm:Num m)(hn:Num n)(h:bw [aN [bg,w,bR m,bR n]]=.ok (.bl true)):dN (mq s up P J S [bg,w,bR m,bR n])=.ok (if m=n then .str "BadRow" else if(okN P.length m&&okN P.length n)=true then(if lD J (w,m,n)=true then .str "Twice" else if J.length=16 then .str "TooBig" else .non)else .str "NoPart"):=by
 have hs:=szl;have fk:=jx s up;have fp:=pQ P;have fj:=iw J;have fs:=iu S;have er:aN [bg,w,bR m,bR n]=.lst false [.str (strOf bg),.str (strOf w),.str (dP m),.str (dP n)]:=by
  show D.lst false [wD bg,wD w,wD (bR m),wD (bR n)]=_;rw[jy,jy];rfl
 rw[er]at h;have e1:(strOf bg==strOf a8)=false:=by decide +kernel
 have e2:=beq_self_eq_true (strOf bg);have e3:(strOf bg==strOf bF)=false:=by decide +kernel
 have hcut:cut [D.str (strOf bg),.str (strOf w),.str (dP m),.str (dP n)] (some 2) none=[.str (dP m),.str (dP n)]:=rfl;have hc:=GO P (Y:=[.fn bw []]) [m,n] (fun x hx=>by
  rcases aC.mp hx with q|q
  ·rw[q];exact hm
  ·rw[aG.mp q];exact hn)
 have hc:fG (pG (.name 0)) (fun _=>.ok true) (pE [.fn bw []] (.chain .LtE .Lt (.con (.int 0)) (.blt .int (.cons (.var 0) .nil)) (.blt .len (.cons (.var 1) .nil)))) [.str (dP m),.str (dP n)] [none,some (.lst false (P.map gq))]=.ok [.bl (okN P.length m),.bl (okN P.length n)]:=hc;have ha:∀o,i9 .all [.lst o [.bl (okN P.length m),.bl (okN P.length n)]]=.ok (.bl (okN P.length m&&okN P.length n)):=fun o=>by
  have:=IX P o [m,n];rw[show[m,n].all (okN P.length)=(okN P.length m&&(okN P.length n&&true))from rfl,gK]at this;exact this
 have es:=str_inj m n hm hn;have i1:=int_str m hm;have i2:=int_str n hn;have hin:∀o,cL .In (.tup [.str (strOf w),.int m,.int n]) (.lst o (J.map jD))=.ok (.bl (lD J (w,m,n))):=fun o=>by
  rw[r6 rfl (Kd J)];exact congrArg (fun b=>R.ok (D.bl b)) (GF J (w,m,n))
 unfold mq;rw[er];unfold dN ng oZ;by_cases he:m=n
 ·rw[decide_eq_true he]at es;rw[if_pos he];simp_arith [fk,fp,fj,fs,h,iS,jm,at2,Nc,gZ,gO,gx,e1,e2,e3,es]
 ·rw[decide_eq_false he]at es;rw[if_neg he];cases ho:(okN P.length m&&okN P.length n)with
  |false=>
   rw[ho]at ha;simp_arith [fk,fp,fj,fs,h,iS,jm,at2,Nc,gZ,gO,gx,e1,e2,e3,es,hcut,hc,ha]
  |true=>
   rw[ho]at ha;cases hj:lD J (w,m,n)with
   |true=>
    rw[hj]at hin;simp_arith [fk,fp,fj,fs,h,iS,jm,at2,Nc,gZ,gO,gx,e1,e2,e3,es,hcut,hc,ha,i1,i2,hin]
   |false=>
    rw[hj]at hin;by_cases h4:J.length=16
    ·have g:=beq_iff_eq.mpr (show((J.length:Int))=16 by omega);rw[if_pos h4];simp_arith [fk,fp,fj,fs,h,iS,jm,at2,Nc,gZ,gO,gx,e1,e2,e3,es,hcut,hc,ha,i1,i2,hin,ah,g]
    ·have g:=beq_eq_false_iff_ne.mpr (show((J.length:Int))≠16 by omega);rw[if_neg h4];simp_arith [fk,fp,fj,fs,h,iS,jm,at2,Nc,gZ,gO,gx,e1,e2,e3,es,hcut,hc,ha,i1,i2,hin,ah,g]
end
theorem Em(w:List Nat)(l:List (List Nat)):memD (.str (strOf w)) (l.map wD)=decide (w∈l):=by
 have:=wA (fun z:List Nat=>strOf z) (strOf w) l;rw[show l.map wD=l.map fun z=>D.str (strOf z)from rfl,this,dz,gS,decide_eq_true_eq];constructor
 ·rintro⟨x,hx,e⟩;rw[str_beq,decide_eq_true_eq]at e;rw[<-ic e];exact hx
 ·intro h;exact⟨w,h,by rw[str_beq,decide_eq_true_eq]⟩
noncomputable def qx:List (List Nat):=[[116,104,101],[111,114],[116,111,111,108,111,110,103,119,100,115],[114,50],[82,111,100]]
noncomputable def qy:List (List Nat):=[[48,48],[45,48],[49,46,53],[120],aF 31 49,[43,49]]
theorem NC:CL=qx.map wD:=by
 unfold CL qx;simp only[aV,jY];have e1:aK "the"=strOf [116,104,101]:=by decide +kernel
 have e2:aK "or"=strOf [111,114]:=by decide +kernel
 have e3:aK "toolongwds"=strOf [116,111,111,108,111,110,103,119,100,115]:=by decide +kernel
 have e4:aK "r2"=strOf [114,50]:=by decide +kernel
 have e5:aK "Rod"=strOf [82,111,100]:=by decide +kernel
 rw[e1,e2,e3,e4,e5];rfl
theorem UM:zc=strOf (aF 31 49):=by decide +kernel
theorem ND:CM=qy.map wD:=by
 unfold CM qy;simp only[aV,jY];have e1:aK "00"=strOf [48,48]:=by decide +kernel
 have e2:aK "-0"=strOf [45,48]:=by decide +kernel
 have e3:aK "1.5"=strOf [49,46,53]:=by decide +kernel
 have e4:aK "x"=strOf [120]:=by decide +kernel
 have e5:aK "+1"=strOf [43,49]:=by decide +kernel
 rw[e1,e2,e3,e4,e5,UM];rfl
theorem IY(w:List Nat):AF w=decide (w∈qx):=by
 unfold AF;rw[NC,Em]
theorem IZ(w:List Nat):jG w=decide (w∈qy):=by
 unfold jG;rw[ND,Em]
theorem o5:∀w∈qx,isWord (strOf w)=false:=by decide +kernel
theorem zd:∀w∈qy,qw w none:=by
 intro w hw;have h:∀w∈qy,sM (nW (strOf w))=false\/w=[45,48]:=by decide +kernel
 rcases h w hw with q|q
 ·exact WG (strOf w) q
 ·rw[q];show d_ [.str (strOf [45,48])]=.ok .non;kernel_rfl
variable{w:List Nat}
theorem BH(h:isWord (strOf w)=true):AF w=false:=by
 rw[IY,decide_eq_false];intro hm;rw[o5 w hm]at h;cases h
theorem BI(n:Int)(h:Num n):jG (bR n)=false:=by
 rw[IZ,decide_eq_false];intro hm;have:=zd _ hm;rw[qw,pN n h]at this;cases this
theorem NF(i:Int):iR [ie i,.str "BadRow",.int i]=.ok (.bl (i==i)):=by kernel_rfl
theorem NG(i:Int):iR [CF i,.str "Twice",.int i]=.ok (.bl (i==i)):=by kernel_rfl
theorem NH(i:Int):iR [sN i,.str "NoPart",.int i]=.ok (.bl (i==i)):=by kernel_rfl
theorem NI(i:Int):iR [Kc i,.str "NoKind",.int i]=.ok (.bl (i==i)):=by kernel_rfl
theorem NJ(i:Int):iR [uP i,.str "TooBig",.int i]=.ok (.bl (i==i)):=by kernel_rfl
inductive lY:Str->(Int->D)->Prop
|row:lY "BadRow" ie
|twi:lY "Twice" CF
|nop:lY "NoPart" sN
|nok:lY "NoKind" Kc
|big:lY "TooBig" uP
variable{due:Str}{mk:Int->D}
theorem lY.right(h:lY due mk)(i:Int):iR [mk i,.str due,.int i]=.ok (.bl true):=by
 cases h
 ·rw[NF,beq_self_eq_true]
 ·rw[NG,beq_self_eq_true]
 ·rw[NH,beq_self_eq_true]
 ·rw[NI,beq_self_eq_true]
 ·rw[NJ,beq_self_eq_true]
def yu(s:Int)(up:List (Option Nat))(P:List P2)(J:List J3)(S:List (List Nat×Int))(r:List (List Nat))(mk:Int->D):Prop:=∀kd tx row sz,bM bH 1000 a_ (zS kd tx (fY s up) ⟨P,J,S⟩ (some (.int row)) (some (aN r)) sz)=.ex (mk row)
def Flt(s:Int)(up:List (Option Nat))(P:List P2)(J:List J3)(S:List (List Nat×Int))(r:List (List Nat)):Prop:=∃due mk,lY due mk/\dN (mq s up P J S r)=.ok (.str due)/\yu s up P J S r mk
section
variable(s:Int) (up:List (Option Nat)) (P:List P2) (J:List J3) (S:List (List Nat×Int)) (hP:P.length<=8) (hz:∀p∈P,p.2.length<=4) (hJ:J.length<=16) (hS:S.length<=8)
include hP hz hJ hS
theorem sO(r:List (List Nat))(mk:Int->D)(h:∀row,fm [aN (bF::r),.int row,.lst false (fY s up),.int (P.length:Int)]=.ex (mk row)):yu s up P J S (bF::r) mk:=fun kd tx row sz=>
 Kf kd tx (fY s up) (iY s up) (P.map pD) _ (pP P) (by rw[ah];omega) J (by omega) S (by omega) row sz r _ (by rw[ah];exact h row)
theorem sP(r:List (List Nat))(mk:Int->D)(h:∀row,gH [aN (bg::r),.int row,.int (P.length:Int),.lst false (J.map jD)]=.ex (mk row)):yu s up P J S (bg::r) mk:=fun kd tx row sz=>
 Kh kd tx (fY s up) (iY s up) (P.map pD) _ (pP P) (by rw[ah];omega) J (by omega) S (by omega) row sz r _ (by rw[ah];exact h row)
theorem AG(r:List (List Nat))(mk:Int->D)(h:∀row,gJ [aN (bB::r),.int row,.int (P.length:Int),.int (S.length:Int)]=.ex (mk row)):yu s up P J S (bB::r) mk:=fun kd tx row sz=>
 Km kd tx (fY s up) (iY s up) (P.map pD) _ (pP P) (by rw[ah];omega) J (by omega) S (by omega) row sz r _ (by rw[ah];exact h row)
theorem AH(Q:List P2)(p:P2)(e:P=Q++[p])(r:List (List Nat))(mk:Int->D)(h:∀row,gE [aN (a8::r),.int row,.lst false (p.2.map zD)]=.ex (mk row)):yu s up P J S (a8::r) mk:=fun kd tx row sz=>by
 have ln:(Q++[p]).length<=8:=by rw[<-e];exact hP
 simp at ln;have:=Ko kd tx (fY s up) (iY s up) J (by omega) S (by omega) row sz (Q.map pD) (by rw[ah];omega) p ((Q++[p]).map pF) (by
  have:=pP (Q++[p]);rw[a7]at this;exact this) (GG Q p) r _ (h row)
 unfold zS;rw[show(St.mk P J S).P.map pD=Q.map pD++[pD p]by show P.map pD=_;rw[e,a7];rfl];exact this
theorem En(e:P=[])(r:List (List Nat)):yu s up P J S (a8::r) ie:=fun kd tx row sz=>by
 subst e;exact Np kd tx (fY s up) (iY s up) J (by omega) S (by omega) row sz [] [] rfl a8 r (.inr ⟨rfl,rfl⟩)
theorem NK(r:List (List Nat))(h:∀row,bf [aN (a8::r),.int 1,.int row]=.ex (ie row)):yu s up P J S (a8::r) ie:=by
 rcases nC P with e|⟨Q,p,e⟩
 ·exact En s up P J S hP hz hJ hS e r
 ·rw[nD]at e;exact AH s up P J S hP hz hJ hS Q p e r ie fun row=>Uz _ row p.2 _ (h row)
theorem RK(w:List Nat)(hw:isWord (strOf w)=true):Flt s up P J S [bF,w]\/dN (mq s up P J S [bF,w])=.ok .non:=by
 have wf:bw [aN [bF,w]]=.ok (.bl true):=by
  have:=rJ bF [w] (.int 2) (by kernel_rfl) rfl w [] rfl rfl;rw[BH hw]at this;exact this
 have d:=RG s up P J S w wf;have q:=fun row=>Ei bF w row (fY s up) false P.length hw (iY s up) (CP s up);cases hm:memD (.str (strOf w)) (fY s up)with
 |false=>
  rw[hm,if_neg ak]at d;left;refine⟨_,_,.nok,d,sO s up P J S hP hz hJ hS [w] Kc fun row=>?_⟩;have q:=q row;rw[hm,if_neg ak]at q;exact q
 |true=>
  rw[hm,if_pos rfl]at d;by_cases h8:P.length=8
  ·rw[if_pos h8]at d;left;refine⟨_,_,.big,d,sO s up P J S hP hz hJ hS [w] uP fun row=>?_⟩;have q:=q row;rw[hm,if_pos rfl,if_pos (by omega)]at q;exact q
  ·rw[if_neg h8]at d;exact .inr d
theorem GP(w:List Nat)(hw:isWord (strOf w)=true)(n:Int)(hn:Num n):Flt s up P J S [a8,w,bR n]\/dN (mq s up P J S [a8,w,bR n])=.ok .non:=by
 have wf:bw [aN [a8,w,bR n]]=.ok (.bl true):=by
  have:=rJ a8 [w,bR n] (.int 3) (by kernel_rfl) rfl w [bR n] rfl rfl;rw[BH hw,f6,BI n hn]at this;exact this
 rcases nC P with e|⟨Q,p,e⟩
 ·left;subst e;exact⟨_,_,.row,NB s up J S w (bR n) wf,En s up [] J S hP hz hJ hS rfl _⟩
 ·rw[nD]at e;have ln:(Q++[p]).length<=8:=by rw[<-e];exact hP
  simp at ln;have hp4:p.2.length<=4:=hz p (by rw[e];simp);have d:=RH s up P J S Q p (by omega) e w (bR n) wf;have q:=fun row=>Ej a8 w (bR n) n row p.2 (by omega) (pN n hn) hw;cases hm:kO p.2 w with
  |true=>
   rw[hm,if_pos rfl]at d;left;refine⟨_,_,.twi,d,AH s up P J S hP hz hJ hS Q p e _ CF fun row=>?_⟩;have q:=q row;rw[hm,if_pos rfl]at q;exact q
  |false=>
   rw[hm,if_neg ak]at d;by_cases h4:p.2.length=4
   ·rw[if_pos h4]at d;left;refine⟨_,_,.big,d,AH s up P J S hP hz hJ hS Q p e _ uP fun row=>?_⟩;have q:=q row;rw[hm,if_neg ak,if_pos (by omega)]at q;exact q
   ·rw[if_neg h4]at d;exact .inr d
theorem GQ(w:List Nat)(hw:isWord (strOf w)=true)(m n:Int)(hm:Num m)(hn:Num n):Flt s up P J S [bg,w,bR m,bR n]\/dN (mq s up P J S [bg,w,bR m,bR n])=.ok .non:=by
 have wf:bw [aN [bg,w,bR m,bR n]]=.ok (.bl true):=by
  have:=rJ bg [w,bR m,bR n] (.int 4) (by kernel_rfl) rfl w [bR m,bR n] rfl rfl;rw[BH hw,f6,BI m hm,f6,BI n hn]at this;exact this
 have d:=RJ s up P J S w m n hm hn wf;have q:=fun row=>Ek bg w (bR m) (bR n) m n row P.length J (by omega) (pN m hm) (pN n hn) hw;by_cases he:m=n
 ·rw[if_pos he]at d;left;refine⟨_,_,.row,d,sP s up P J S hP hz hJ hS _ ie fun row=>?_⟩;have q:=q row;rw[if_pos he]at q;exact q
 ·rw[if_neg he]at d;cases ho:(okN P.length m&&okN P.length n)with
  |false=>
   rw[ho,if_neg ak]at d;left;refine⟨_,_,.nop,d,sP s up P J S hP hz hJ hS _ sN fun row=>?_⟩;have q:=q row;rw[if_neg he,ho,if_neg ak]at q;exact q
  |true=>
   rw[ho,if_pos rfl]at d;cases hj:lD J (w,m,n)with
   |true=>
    rw[hj,if_pos rfl]at d;left;refine⟨_,_,.twi,d,sP s up P J S hP hz hJ hS _ CF fun row=>?_⟩;have q:=q row;rw[if_neg he,ho,if_pos rfl,hj,if_pos rfl]at q;exact q
   |false=>
    rw[hj,if_neg ak]at d;by_cases h4:J.length=16
    ·rw[if_pos h4]at d;left;refine⟨_,_,.big,d,sP s up P J S hP hz hJ hS _ uP fun row=>?_⟩;have q:=q row;rw[if_neg he,ho,if_pos rfl,hj,if_neg ak,if_pos (by omega)]at q;exact q
    ·rw[if_neg h4]at d;exact .inr d
theorem RL(w:List Nat)(hw:isWord (strOf w)=true)(n:Int)(hn:Num n):Flt s up P J S [bB,w,bR n]\/dN (mq s up P J S [bB,w,bR n])=.ok .non:=by
 have wf:bw [aN [bB,w,bR n]]=.ok (.bl true):=by
  have:=rJ bB [w,bR n] (.int 3) (by kernel_rfl) rfl w [bR n] rfl rfl;rw[BH hw,f6,BI n hn]at this;exact this
 have d:=RI s up P J S w n hn wf;have q:=fun row=>El bB w (bR n) n row P.length S.length (pN n hn) hw;cases ho:okN P.length n with
 |false=>
  rw[ho,if_neg ak]at d;left;refine⟨_,_,.nop,d,AG s up P J S hP hz hJ hS _ sN fun row=>?_⟩;have q:=q row;rw[ho,if_neg ak]at q;exact q
 |true=>
  rw[ho,if_pos rfl]at d;by_cases h4:S.length=8
  ·rw[if_pos h4]at d;left;refine⟨_,_,.big,d,AG s up P J S hP hz hJ hS _ uP fun row=>?_⟩;have q:=q row;rw[ho,if_pos rfl,if_pos (by omega)]at q;exact q
  ·rw[if_neg h4]at d;exact .inr d
end
noncomputable def sQ:List Nat:=[112,97,114,116,115]
theorem WT:aK "parts"=strOf sQ:=by decide +kernel
noncomputable def CQ(k o b:List Nat):List (List (List Nat)):=[[bF],[bF,k,k],[bF,o],[a8,k],[a8,o,[49]],[a8,k,b],[a8,k,[49],[49]],[bg,k,[48]],[bg,o,[48],[49]],[bg,k,b,[48]],[bg,k,[48],b],[bg,k,[48],[49],[50]],[bB,k],[bB,o,[48]],[bB,k,b],[sQ,k]]
theorem WU:qw [48] (some 0):=by
 have h:bR 0=[48]:=by decide +kernel
 have:=pN 0 ⟨by decide,by decide⟩;rw[h]at this;exact this
theorem BJ(a o:List Nat)(us:List (List Nat))(g:D)(hg:ki .get (pR false) [.str (strOf a)]=.ok g)(fg:bC g=g)(hl:cL .NotEq g (.int (((a::o::us).map wD).length:Int))=.ok (.bl false))(ho:o∈qx):bw [aN (a::o::us)]=.ok (.bl false):=by
 have:=rJ a (o::us) g hg fg o us rfl hl;rw[IY,decide_eq_true ho]at this;exact this
theorem BK(a k:List Nat)(us:List (List Nat))(g:D)(hg:ki .get (pR false) [.str (strOf a)]=.ok g)(fg:bC g=g)(hl:cL .NotEq g (.int (((a::k::us).map wD).length:Int))=.ok (.bl false))(h:∃u∈us,u∈qy):bw [aN (a::k::us)]=.ok (.bl false):=by
 have:=rJ a (k::us) g hg fg k us rfl hl;obtain⟨u,h1,h2⟩:=h;have e:us.any jG=true:=gS.mpr ⟨u,h1,by rw[IZ,decide_eq_true h2]⟩;rw[e]at this;rw[this];cases AF k<;>rfl
theorem I_(a k b:List Nat)(row:Int)(hk:isWord (strOf k)=true)(hb:b∈qy):bf [aN [a,k,b],.int 1,.int row]=.ex (ie row):=by
 have:=vn a k [(b,none)] row (by simp) (fun p hp=>by rw[aG.mp hp];exact zd b hb) hk;exact this
theorem Ja(a k u v:List Nat)(x y:Option Int)(row:Int)(hk:isWord (strOf k)=true)(hu:qw u x)(hv:qw v y)(h:x=none\/y=none):bf [aN [a,k,u,v],.int 2,.int row]=.ex (ie row):=by
 have:=vn a k [(u,x),(v,y)] row (by simp) (fun p hp=>by
  rcases aC.mp hp with q|q
  ·rw[q];exact hu
  ·rw[aG.mp q];exact hv) hk
 have e:memD .non ([(u,x),(v,y)].map fun p=>oD p.2)=true:=by
  rcases h with rfl|rfl
  ·rfl
  ·cases x<;>rfl
 rw[if_pos e]at this;exact this
section
variable(s:Int) (up:List (Option Nat)) (P:List P2) (J:List J3) (S:List (List Nat×Int)) (hP:P.length<=8) (hz:∀p∈P,p.2.length<=4) (hJ:J.length<=16) (hS:S.length<=8)
include hP hz hJ hS
theorem Eo(r:List (List Nat))(wf:bw [aN r]=.ok (.bl false))(h:yu s up P J S r ie):Flt s up P J S r:=⟨_,_,.row,UL s up P J S r wf,h⟩
theorem UN(o:List Nat)(ho:o∈qx):Flt s up P J S [bF,o]:=
 Eo s up P J S hP hz hJ hS _ (BJ bF o [] (.int 2) (by kernel_rfl) rfl rfl ho) (sO s up P J S hP hz hJ hS _ ie fun row=>Eh bF o row _ _ _ (o5 o ho) (iY s up))
theorem UO(k o b:List Nat)(hk:isWord (strOf k)=true)(ho:o∈qx)(hb:b∈qy):∀r∈CQ k o b,Flt s up P J S r:=by
 have A:=sO s up P J S hP hz hJ hS;have B:=NK s up P J S hP hz hJ hS;have C:=fun r (h:∀row,bf [aN (bg::r),.int 2,.int row]=.ex (ie row))=>sP s up P J S hP hz hJ hS r ie fun row=>UA _ row _ J _ (h row);have E:=fun r (h:∀row,bf [aN (bB::r),.int 1,.int row]=.ex (ie row))=>AG s up P J S hP hz hJ hS r ie fun row=>UB _ row _ _ _ (h row);have W:=Eo s up P J S hP hz hJ hS;intro r hr;simp only[CQ,aC,aB,or_false]at hr;rcases hr with rfl|rfl|rfl|rfl|rfl|rfl|rfl|rfl|rfl|rfl|rfl|rfl|rfl|rfl|rfl|rfl
 ·exact W _ (qj bF [] (.int 2) (by kernel_rfl) rfl rfl) (A [] ie fun row=>GC _ row _ _ _ (by simp) (iY s up))
 ·exact W _ (qj bF [k,k] (.int 2) (by kernel_rfl) rfl rfl) (A [k,k] ie fun row=>GC _ row _ _ _ (by simp) (iY s up))
 ·exact UN s up P J S hP hz hJ hS o ho
 ·exact W _ (qj a8 [k] (.int 3) (by kernel_rfl) rfl rfl) (B [k] fun row=>vm _ 1 row rfl)
 ·exact W _ (BJ a8 o [[49]] (.int 3) (by kernel_rfl) rfl rfl ho) (B [o,[49]] fun row=>CH _ o 1 row rfl (o5 o ho))
 ·exact W _ (BK a8 k [b] (.int 3) (by kernel_rfl) rfl rfl ⟨b,by simp,hb⟩) (B [k,b] fun row=>I_ a8 k b row hk hb)
 ·exact W _ (qj a8 [k,[49],[49]] (.int 3) (by kernel_rfl) rfl rfl) (B [k,[49],[49]] fun row=>vm _ 1 row rfl)
 ·exact W _ (qj bg [k,[48]] (.int 4) (by kernel_rfl) rfl rfl) (C [k,[48]] fun row=>vm _ 2 row rfl)
 ·exact W _ (BJ bg o [[48],[49]] (.int 4) (by kernel_rfl) rfl rfl ho) (C [o,[48],[49]] fun row=>CH _ o 2 row rfl (o5 o ho))
 ·exact W _ (BK bg k [b,[48]] (.int 4) (by kernel_rfl) rfl rfl ⟨b,by simp,hb⟩) (C [k,b,[48]] fun row=>Ja bg k b [48] none (some 0) row hk (zd b hb) WU (.inl rfl))
 ·exact W _ (BK bg k [[48],b] (.int 4) (by kernel_rfl) rfl rfl ⟨b,by simp,hb⟩) (C [k,[48],b] fun row=>Ja bg k [48] b (some 0) none row hk WU (zd b hb) (.inr rfl))
 ·exact W _ (qj bg [k,[48],[49],[50]] (.int 4) (by kernel_rfl) rfl rfl) (C [k,[48],[49],[50]] fun row=>vm _ 2 row rfl)
 ·exact W _ (qj bB [k] (.int 3) (by kernel_rfl) rfl rfl) (E [k] fun row=>vm _ 1 row rfl)
 ·exact W _ (BJ bB o [[48]] (.int 3) (by kernel_rfl) rfl rfl ho) (E [o,[48]] fun row=>CH _ o 1 row rfl (o5 o ho))
 ·exact W _ (BK bB k [b] (.int 3) (by kernel_rfl) rfl rfl ⟨b,by simp,hb⟩) (E [k,b] fun row=>I_ bB k b row hk hb)
 ·refine W _ (qj sQ [k] .non (by kernel_rfl) rfl rfl) fun kd tx row sz=>Np kd tx _ (iY s up) J (by omega) S (by omega) row sz (P.map pD) _ (pP P) sQ [k] (.inl ⟨by decide,by decide,by decide,by decide⟩)
end
theorem jd(h:isWord (strOf w)=true):sI w:=by
 unfold isWord at h;simp only[bq,decide_eq_true_eq]at h;obtain⟨⟨⟨h1,h2⟩,h3⟩,_⟩:=h;rw[fW]at h1 h2;have h3:∀c∈w,97<=c/\c<=122:=fun c hc=>by
  have:=bE.mp h3 c hc;simpa using this
 refine⟨fun e=>by rw[e]at h1;simp at h1,fun hc=>by have:=h3 _ hc;omega,fun hc=>by have:=h3 _ hc;omega,by omega,fun c hc=>by have:=h3 c hc;omega⟩
theorem jV(n:Int)(h:Num n):sI (bR n):=by
 have hl:(bR n).length<=31:=by
  have:=CK n h;show(dP n).cps.toList.length<=31;rw[len_str];exact this
 have key:bR n≠[]/\∀c∈bR n,c=45\/(48<=c/\c<=57):=by
  by_cases hn:0<=n
  ·obtain⟨m,rfl⟩:∃m:Nat,n=(m:Int):=⟨n.toNat,by omega⟩;have hm:m<10 ^ 30:=by
    have:=h.2;have:((10 ^ 30:Nat):Int)=10 ^ 30:=by decide
    omega
   obtain⟨d1,d2,_⟩:=nU 29 m hm;have e:bR (m:Int)=fC 29 m:=by unfold bR;rw[wF m hm];rfl
   rw[e];exact⟨d2,fun c hc=>.inr (d1 c hc)⟩
  ·obtain⟨m,rfl,hp⟩:∃m:Nat,n=-(m:Int)/\0<m:=⟨(-n).toNat,by omega,by omega⟩;have hm:m<10 ^ 30:=by
    have:=h.1;have:((10 ^ 30:Nat):Int)=10 ^ 30:=by decide
    omega
   obtain⟨d1,d2,_⟩:=nU 29 m hm;have e:bR (-(m:Int))=45::fC 29 m:=by unfold bR;rw[wH m hp hm];rfl
   rw[e];refine⟨by simp,fun c hc=>?_⟩;rcases aC.mp hc with q|q
   ·exact .inl q
   ·exact .inr (d1 c q)
 obtain⟨k1,k2⟩:=key;exact⟨k1,fun hc=>by have:=k2 _ hc;omega,fun hc=>by have:=k2 _ hc;omega,by omega,fun c hc=>by have:=k2 c hc;omega⟩
theorem dg:∀w∈[bF,a8,bg,bB,sQ,[48],[49],[50]]++qx++qy,sI w:=by
 unfold sI;decide +kernel
theorem UP(k o b:List Nat)(hk:isWord (strOf k)=true)(ho:o∈qx)(hb:b∈qy):∀r∈CQ k o b,sJ r:=by
 have wk:=jd hk;have wo:=dg o (by simp[ho]);have wb:=dg b (by simp[hb]);have w1:=dg bF (by simp);have w2:=dg a8 (by simp);have w3:=dg bg (by simp);have w4:=dg bB (by simp);have w5:=dg sQ (by simp);have w6:=dg [48] (by simp);have w7:=dg [49] (by simp);have w8:=dg [50] (by simp);intro r hr;simp only[CQ,aC,aB,or_false]at hr;rcases hr with rfl|rfl|rfl|rfl|rfl|rfl|rfl|rfl|rfl|rfl|rfl|rfl|rfl|rfl|rfl|rfl <;>
  refine⟨by simp,by simp,fun w hw=>?_⟩<;>simp only[aC,aB,or_false]at hw<;>(first|(rcases hw with rfl|rfl|rfl|rfl|rfl<;>assumption)|(rcases hw with rfl|rfl|rfl|rfl<;>assumption)|(rcases hw with rfl|rfl|rfl<;>assumption)|(rcases hw with rfl|rfl<;>assumption)|(rcases hw with rfl<;>assumption))
variable{wk:List D}
theorem UQ{t:St}(a:AR)(hs:t.P.length<=8)(h:t.ok wk a):sJ a.row:=by
 have w1:=dg bF (by simp);have w2:=dg a8 (by simp);have w3:=dg bg (by simp);have w4:=dg bB (by simp);cases a with
 |part k=>
  refine⟨by simp[AR.row],by simp[AR.row],fun w hw=>?_⟩;simp only[AR.row,aC,aB,or_false]at hw;rcases hw with rfl|rfl
  ·exact w1
  ·exact jd h.1
 |size z=>
  refine⟨by simp[AR.row],by simp[AR.row],fun w hw=>?_⟩;simp only[AR.row,aC,aB,or_false]at hw;rcases hw with rfl|rfl|rfl
  ·exact w2
  ·exact jd h.1
  ·exact jV _ h.2.1
 |join j=>
  obtain⟨h1,h2,h3,_⟩:=h;simp only[bq]at h3;refine⟨by simp[AR.row],by simp[AR.row],fun w hw=>?_⟩;simp only[AR.row,aC,aB,or_false]at hw;rcases hw with rfl|rfl|rfl|rfl
  ·exact w3
  ·exact jd h1
  ·exact jV _ (lE hs h3.1)
  ·exact jV _ (lE hs h3.2)
 |step z=>
  refine⟨by simp[AR.row],by simp[AR.row],fun w hw=>?_⟩;simp only[AR.row,aC,aB,or_false]at hw;rcases hw with rfl|rfl|rfl
  ·exact w4
  ·exact jd h.1
  ·exact jV _ (lE hs h.2.1)
theorem c29:vN 10 29:=by decide +kernel
theorem qz(m:Int)(h0:0<=m)(h1:m<2305843009213693951)(n:Nat)(hn:n<=100):∃x:Int,Num x/\kT [.int m,.int (n:Int)]=.ok (.str (dP x)):=by
 have hs:=szl;have q:=c29;have big:(2305843009213693951:Int)+10 ^ 29<10 ^ 30:=by decide
 have big0:(0:Int)<10 ^ 29:=by decide
 have ep:(10 ^ (29:Int).toNat:Int)=10 ^ 29:=rfl;have b6:=bL m (b:=6) (by decide);have gm:∃k:Int,0<k/\k<=101/\(if(n:Int)>1 then(n:Int)else 1)=k:=by
  by_cases c:(n:Int)>1
  ·exact⟨n,by omega,by omega,if_pos c⟩
  ·exact⟨1,by omega,by omega,if_neg c⟩
 obtain⟨k,k0,k1,gk⟩:=gm;have bk:=bL (m / 7) (b:=k) k0;have n0:Num (-1):=⟨by decide,by decide⟩;have n1:Num (n:Int):=⟨by omega,by omega⟩;have n2:Num ((n:Int)+3):=⟨by omega,by omega⟩;have n3:Num (10 ^ (29:Int).toNat+m):=⟨by rw[ep];omega,by rw[ep];omega⟩;have n4:Num (m / 7%k):=⟨by omega,by omega⟩;unfold kT nP tV;have hc:m%6=0\/m%6=1\/m%6=2\/m%6=3\/m%6=4\/m%6=5:=by omega
 rcases hc with c|c|c|c|c|c
 ·have ea:∀x0 x1 x2 x3 x4 x5:D,cH [x0,x1,x2,x3,x4,x5] (m%6)=some x0:=fun _ _ _ _ _ _=>by rw[c];rfl
  have qs:=iX _ n0;exact⟨_,n0,by simp_arith [q,gk,ea,qs]⟩
 ·have ea:∀x0 x1 x2 x3 x4 x5:D,cH [x0,x1,x2,x3,x4,x5] (m%6)=some x1:=fun _ _ _ _ _ _=>by rw[c];rfl
  have qs:=iX _ n1;exact⟨_,n1,by simp_arith [q,gk,ea,qs]⟩
 ·have ea:∀x0 x1 x2 x3 x4 x5:D,cH [x0,x1,x2,x3,x4,x5] (m%6)=some x2:=fun _ _ _ _ _ _=>by rw[c];rfl
  have qs:=iX _ n2;exact⟨_,n2,by simp_arith [q,gk,ea,qs]⟩
 ·have ea:∀x0 x1 x2 x3 x4 x5:D,cH [x0,x1,x2,x3,x4,x5] (m%6)=some x3:=fun _ _ _ _ _ _=>by rw[c];rfl
  have qs:=iX _ n3;exact⟨_,n3,by simp_arith [q,gk,ea,qs]⟩
 ·have ea:∀x0 x1 x2 x3 x4 x5:D,cH [x0,x1,x2,x3,x4,x5] (m%6)=some x4:=fun _ _ _ _ _ _=>by rw[c];rfl
  have qs:=iX _ n4;exact⟨_,n4,by simp_arith [q,gk,ea,qs]⟩
 ·have ea:∀x0 x1 x2 x3 x4 x5:D,cH [x0,x1,x2,x3,x4,x5] (m%6)=some x5:=fun _ _ _ _ _ _=>by rw[c];rfl
  have qs:=iX _ n4;exact⟨_,n4,by simp_arith [q,gk,ea,qs]⟩
theorem s1:aK "1"=strOf [49]:=by decide +kernel
theorem s0:aK "0"=strOf [48]:=by decide +kernel
theorem s2:aK "2"=strOf [50]:=by decide +kernel
theorem vo(f:α->D)(l:List α)(i:Int)(h0:0<=i)(h1:i<(l.length:Int)):∃x∈l,cH (l.map f) i=some (f x):=by
 refine⟨l[i.toNat]'(by omega),gb _,?_⟩;have:=cS (xs:=l.map f) (j:=i.toNat) (v:=f (l[i.toNat]'(by omega))) (by rw[aX,aA (by omega)];rfl);rw[show((i.toNat:Nat):Int)=i by omega]at this;exact this
theorem NL(m:Int)(hm:0<=m)(k:List Nat):∃o∈qx,∃b∈qy,∃r∈CQ k o b,mE [.int m,.str (strOf k)]=.ok (aN r):=by
 have hs:=szl;have b5:=bL (m / 16) (b:=5) (by decide);have b6:=bL (m / 80) (b:=6) (by decide);have b16:=bL m (b:=16) (by decide);obtain⟨o,ho,e1⟩:=vo wD qx (m / 16%5) b5.1 (by show m / 16%5<5;exact b5.2);obtain⟨b,hb,e2⟩:=vo wD qy (m / 80%6) b6.1 (by show m / 80%6<6;exact b6.2);obtain⟨r,hr,e3⟩:=vo aN (CQ k o b) (m%16) b16.1 (by show m%16<16;exact b16.2);refine⟨o,ho,b,hb,r,hr,?_⟩;rw[<-NC]at e1;rw[<-ND]at e2;have om:=ones_mul;have fo:az CL=CL:=rfl;have fb:az CM=CM:=rfl;unfold CL at e1 fo;unfold CM at e2 fb;have fr:=jc r;unfold mE uM zM;unfold wD at e1 e2;have e3:cH [D.lst false [.str (strOf bF)],.lst false [.str (strOf bF),.str (strOf k),.str (strOf k)],.lst false [.str (strOf bF),.str (strOf o)],.lst false [.str (strOf a8),.str (strOf k)],.lst false [.str (strOf a8),.str (strOf o),.str (strOf [49])],.lst false [.str (strOf a8),.str (strOf k),.str (strOf b)],.lst false [.str (strOf a8),.str (strOf k),.str (strOf [49]),.str (strOf [49])],.lst false [.str (strOf bg),.str (strOf k),.str (strOf [48])],.lst false [.str (strOf bg),.str (strOf o),.str (strOf [48]),.str (strOf [49])],.lst false [.str (strOf bg),.str (strOf k),.str (strOf b),.str (strOf [48])],.lst false [.str (strOf bg),.str (strOf k),.str (strOf [48]),.str (strOf b)],.lst false [.str (strOf bg),.str (strOf k),.str (strOf [48]),.str (strOf [49]),.str (strOf [50])],.lst false [.str (strOf bB),.str (strOf k)],.lst false [.str (strOf bB),.str (strOf o),.str (strOf [48])],.lst false [.str (strOf bB),.str (strOf k),.str (strOf b)],.lst false [.str (strOf sQ),.str (strOf k)]] (m%16)=some (aN r):=e3;generalize zc=Zw at om e2 fb;simp_arith [om,e1,e2];rw[gx,gZ,gO,ud,WT,s0,s1,s2,e3];simp_arith [fr]
section
variable(s:Int) (hs0:0<=s) (up:List (Option Nat)) (hu:0<up.length) (hu2:up.length<=12) (P:List P2) (J:List J3) (S:List (List Nat×Int)) (hP:P.length<=8) (hz:∀p∈P,yt p.2/\p.2.length<=4) (hJ:J.length<=16) (hjk:∀j∈J,isWord (strOf j.1)=true/\Num j.2.1/\Num j.2.2) (hS:S.length<=8) (m:Int) (h0:0<=m) (h1:m<2305843009213693951)
include hs0 hu hu2 hP hz hJ hjk hS h0 h1
theorem RM:∃r o,nR [.int m,.lst false (ee s up),.lst false (P.map gq),.lst false (J.map jD),.int s]=.ok (.lst o (r.map wD))/\(Flt s up P J S r\/dN (mq s up P J S r)=.ok .non)/\sJ r:=by
 have hs:=szl;have hz4:∀p∈P,p.2.length<=4:=fun p hp=>(hz p hp).2;have fk:=jx s up;have fp:=pQ P;have fj:=iw J;have bu:=bL (m / 5) (b:=(up.length:Int)) (by omega);obtain⟨i,hi,ei⟩:∃i:Nat,i<up.length/\m / 5%(up.length:Int)=(i:Int):=⟨(m / 5%(up.length:Int)).toNat,by omega,by omega⟩;have hat:cH (ee s up) (i:Int)=some (.tup [.str (strOf (ck i s)),.str (Nb s up[i])]):=cS (CC s up i hi);have q24:gw [.int 24,.int s]=.ok (.str (strOf (ck 24 s))):=vj 24 s (by decide) hs0;have q13:gw [.int 13,.int s]=.ok (.str (strOf (ck 13 s))):=vj 13 s (by decide) hs0;have kw:=lC i s;have fw:=lC 24 s;have tw:=lC 13 s;have w1:=dg bF (by simp);have w2:=dg a8 (by simp);have w3:=dg bg (by simp);have w4:=dg bB (by simp);have r2:∀a b,sI a->sI b->sJ [a,b]:=fun a b ha hb=>⟨by simp,by simp,fun w hw=>by
  simp only[aC,aB,or_false]at hw;rcases hw with rfl|rfl<;>assumption⟩
 have r3:∀a b c,sI a->sI b->sI c->sJ [a,b,c]:=fun a b c ha hb hc=>⟨by simp,by simp,fun w hw=>by
  simp only[aC,aB,or_false]at hw;rcases hw with rfl|rfl|rfl<;>assumption⟩
 have r4:∀a b c d,sI a->sI b->sI c->sI d->sJ [a,b,c,d]:=fun a b c d ha hb hc hd=>⟨by simp,by simp,fun w hw=>by
  simp only[aC,aB,or_false]at hw;rcases hw with rfl|rfl|rfl|rfl<;>assumption⟩
 have m50:0<=m / 50:=by omega
 unfold nR wy BA;have hc:m%5=0\/m%5=1\/m%5=2\/m%5=3\/m%5=4:=by omega
 rcases hc with c|c|c|c|c
 ·have g0:(m%5==0)=true:=beq_iff_eq.mpr c;obtain⟨o,ho,b,hb,r,hr,q⟩:=NL (m / 50) m50 (ck i s);have q:mE [.int (m / 50),.str (strOf (ck i s))]=.ok (aN r):=q;refine⟨r,false,?_,.inl (UO s up P J S hP hz4 hJ hS (ck i s) o b kw ho hb r hr),UP (ck i s) o b kw ho hb r hr⟩;have fr:=jc r;show _=R.ok (aN r);generalize aN r=d at q fr;simp_arith [fk,fp,fj,kL,ei,hat,iS,q24,g0,q]
 ·have g0:(m%5==0)=false:=beq_eq_false_iff_ne.mpr (by omega);have g1:(m%5==1)=true:=beq_iff_eq.mpr c;have b2:=bL (m / 50) (b:=2) (by decide);obtain⟨w,hw,e⟩:=vo wD [ck i s,ck 13 s] (m / 50%2) b2.1 b2.2;have ww:isWord (strOf w)=true:=by
   simp only[aC,aB,or_false]at hw;rcases hw with rfl|rfl
   ·exact kw
   ·exact tw
  have e:cH [D.str (strOf (ck i s)),.str (strOf (ck 13 s))] (m / 50%2)=some (.str (strOf w)):=e;refine⟨[bF,w],true,?_,RK s up P J S hP hz4 hJ hS w ww,r2 _ _ w1 (jd ww)⟩;simp_arith [fk,fp,fj,kL,ei,hat,iS,q24,q13,g0,g1,e,gx];rfl
 ·have g0:(m%5==0)=false:=beq_eq_false_iff_ne.mpr (by omega);have g1:(m%5==1)=false:=beq_eq_false_iff_ne.mpr (by omega);have g2:(m%5==2)=true:=beq_iff_eq.mpr c;have b9:=bL (m / 500) (b:=9) (by decide);have big9:(9:Int)<10 ^ 30:=by decide
  have nn:Num (m / 500%9):=⟨by omega,by omega⟩;have qs:=iX _ nn;rcases nC P with e|⟨Q,p,e⟩
  ·have gp:decide ((0:Int)<(P.length:Int))=false:=decide_eq_false (by rw[e];simp);have eb:m / 50%1=0:=Int.emod_one _;have e1:((((1:Nat)):Int))=1:=rfl;refine⟨[a8,ck 24 s,bR (m / 500%9)],true,?_,GP s up P J S hP hz4 hJ hS _ fw _ nn,r3 _ _ _ w2 (jd fw) (jV _ nn)⟩;show _=R.ok (D.lst true [wD a8,wD (ck 24 s),wD (bR (m / 500%9))]);rw[jy];simp_arith [fk,fp,fj,kL,ei,hat,iS,q24,g0,g1,g2,ah,gp,e1,eb,qs,gZ];rfl
  ·rw[nD]at e;have ln:(Q++[p]).length<=8:=by rw[<-e];exact hP
   simp at ln;obtain⟨z1,z2⟩:=hz p (by rw[e];simp);have gp:decide ((0:Int)<(P.length:Int))=true:=decide_eq_true (by rw[e];simp);have hl:cH (P.map gq) (-1)=some (.tup [wD p.1,.pdc (kZ p.2) (vZ p.2)]):=by
    rw[e,a7];exact IW (Q.map gq) (gq p) (by rw[ah];omega)
   have fv:=BG p.2;have ql:i9 .list [.pdc (kZ p.2) (vZ p.2)]=.ok (.lst true (p.2.map fun z=>wD z.1)):=by
    show R.ok (D.lst true ((kZ p.2).map eN))=_;rw[Sx]
   have fl:az (p.2.map fun z=>wD z.1)=p.2.map fun z=>wD z.1:=eG _ (fun _=>rfl) p.2;have ol:cD (p.2.map fun z=>wD z.1)=true:=jq _ fun d hd=>by
    obtain⟨z,_,rfl⟩:=b_.mp hd;rfl
   have bl:=bL (m / 50) (b:=((p.2.length+1:Nat):Int)) (by omega);obtain⟨w,hw,ew⟩:=vo wD (ck 24 s::p.2.map (·.1)) (m / 50%((p.2.length+1:Nat):Int)) bl.1 (by rw[aW,ah];exact bl.2);have ww:isWord (strOf w)=true:=by
    rcases aC.mp hw with q|q
    ·rw[q];exact fw
    ·obtain⟨z,hz',rfl⟩:=b_.mp q;exact(z1.2 z hz').1
   have ew:cH (D.str (strOf (ck 24 s))::p.2.map fun z=>wD z.1) (m / 50%((p.2.length+1:Nat):Int))=some (.str (strOf w)):=by
    rw[aV,c9]at ew;exact ew
   refine⟨[a8,w,bR (m / 500%9)],true,?_,GP s up P J S hP hz4 hJ hS _ ww _ nn,r3 _ _ _ w2 (jd ww) (jV _ nn)⟩;show _=R.ok (D.lst true [wD a8,wD w,wD (bR (m / 500%9))]);rw[jy];simp_arith [fk,fp,fj,kL,ei,hat,iS,jm,q24,g0,g1,g2,ah,gp,hl,fv,ql,fl,ol,qs,gZ,ew];rfl
 ·have g0:(m%5==0)=false:=beq_eq_false_iff_ne.mpr (by omega);have g1:(m%5==1)=false:=beq_eq_false_iff_ne.mpr (by omega);have g2:(m%5==2)=false:=beq_eq_false_iff_ne.mpr (by omega);have g3:(m%5==3)=true:=beq_iff_eq.mpr c;obtain⟨x1,n1,qx1⟩:=qz (m / 50) m50 (by omega) P.length (by omega);obtain⟨x2,n2,qx2⟩:=qz (m / 350) (by omega) (by omega) P.length (by omega);have fresh:∃r o,R.ok (D.lst true [.str (strOf bg),.str (strOf (ck 24 s)),.str (dP x1),.str (dP x2)])=R.ok (.lst o (r.map wD))/\(Flt s up P J S r\/dN (mq s up P J S r)=.ok .non)/\sJ r:=by
   refine⟨[bg,ck 24 s,bR x1,bR x2],true,?_,GQ s up P J S hP hz4 hJ hS _ fw _ _ n1 n2,r4 _ _ _ _ w3 (jd fw) (jV _ n1) (jV _ n2)⟩;show _=R.ok (D.lst true [wD bg,wD (ck 24 s),wD (bR x1),wD (bR x2)]);rw[jy,jy];rfl
  by_cases cj:(0:Int)<(J.length:Int)
  ·have gj:=decide_eq_true cj;cases c3:(m / 50%3==0)with
   |true=>
    have bj:=bL (m / 150) (b:=(J.length:Int)) cj;obtain⟨j,hj,ej⟩:=vo jD J (m / 150%(J.length:Int)) bj.1 bj.2;obtain⟨k1,k2,k3⟩:=hjk j hj;have qs1:=iX _ k2;have qs2:=iX _ k3;have ej:cH (J.map jD) (m / 150%(J.length:Int))=some (.tup [.str (strOf j.1),.int j.2.1,.int j.2.2]):=ej;refine⟨[bg,j.1,bR j.2.1,bR j.2.2],true,?_,GQ s up P J S hP hz4 hJ hS _ k1 _ _ k2 k3,r4 _ _ _ _ w3 (jd k1) (jV _ k2) (jV _ k3)⟩;show _=R.ok (D.lst true [wD bg,wD j.1,wD (bR j.2.1),wD (bR j.2.2)]);rw[jy,jy];simp_arith [fk,fp,fj,kL,ei,hat,iS,jm,at2,q24,g0,g1,g2,g3,ah,gj,c3,ej,qs1,qs2,gO];rfl
   |false=>
    obtain⟨r,o,f1,f2,f3⟩:=fresh;refine⟨r,o,G8 ?_ f1,f2,f3⟩;simp_arith [fk,fp,fj,kL,ei,hat,iS,jm,at2,q24,g0,g1,g2,g3,ah,gj,c3,qx1,qx2,gO]
  ·have gj:=decide_eq_false cj;obtain⟨r,o,f1,f2,f3⟩:=fresh;refine⟨r,o,G8 ?_ f1,f2,f3⟩;simp_arith [fk,fp,fj,kL,ei,hat,iS,jm,at2,q24,g0,g1,g2,g3,ah,gj,qx1,qx2,gO]
 ·have g0:(m%5==0)=false:=beq_eq_false_iff_ne.mpr (by omega);have g1:(m%5==1)=false:=beq_eq_false_iff_ne.mpr (by omega);have g2:(m%5==2)=false:=beq_eq_false_iff_ne.mpr (by omega);have g3:(m%5==3)=false:=beq_eq_false_iff_ne.mpr (by omega);obtain⟨x1,n1,qx1⟩:=qz (m / 50) m50 (by omega) P.length (by omega);refine⟨[bB,ck 24 s,bR x1],true,?_,RL s up P J S hP hz4 hJ hS _ fw _ n1,r3 _ _ _ w4 (jd fw) (jV _ n1)⟩;show _=R.ok (D.lst true [wD bB,wD (ck 24 s),wD (bR x1)]);rw[jy];simp_arith [fk,fp,fj,kL,ei,hat,iS,jm,at2,q24,g0,g1,g2,g3,ah,qx1,ud];rfl
end
theorem Y3(c:Nat)(h1:33<=c)(h2:c<=126):uA c=false:=by
 have:∀n<94,uA (33+n)=false:=by decide +kernel
 have:=this (c-33) (by omega);rwa[show 33+(c-33)=c by omega]at this
theorem Y4:uA 32=true:=by decide +kernel
theorem Ep:∀(w:List Nat),32∉w->cu 32 w=[w]
|[],_=>rfl
|x::r,h=>by
 have h1:x≠32:=fun z=>h (by rw[z];exact ao);have ih:=Ep r fun z=>h (ai _ z);unfold cu;rw[if_neg h1,ih]
theorem Hz(w:List Nat)(h:32∉w):wordsOf w=if w.isEmpty then[]else[w]:=by
 unfold wordsOf;rw[Ep w h];cases w<;>rfl
theorem rq:∀(l run:List Nat) (acc:List Str),(∀c∈l,zP c)->32∉run->KWd.fin (l.foldl wV (acc,strOf run))=acc++(wordsOf (run++l)).map strOf
|[],run,acc,_,hr=>by
 rw[bY,Hz run hr];show(if(strOf run).length=0 then acc else acc++[strOf run])=_;rw[fW];cases run with
 |nil=>simp
 |cons a r=>simp
|c::l,run,acc,hs,hr=>by
 have hl:∀c∈l,zP c:=fun y hy=>hs y (ai _ hy);rw[uq];rcases hs c ao with rfl|⟨h1,h2⟩
 ·have e:wV (acc,strOf run) 32=if run.isEmpty then(acc,strOf [])else(acc++[strOf run],strOf []):=by
   unfold wV;rw[if_pos Y4,fW];cases run with
   |nil=>rfl
   |cons a r=>rfl
  rw[e];cases run with
  |nil=>
   rw[if_pos (show([]:List Nat).isEmpty=true from rfl),rq l [] acc hl (by simp),dw,dw,w9]
  |cons a r=>
   rw[if_neg (by simp),rq l [] (acc++[strOf (a::r)]) hl (by simp),dw,yq (a::r) l (by simp) hr,aV,bQ];rfl
 ·have e:wV (acc,strOf run) c=(acc,strOf (run++[c])):=by
   unfold wV;rw[if_neg (by rw[Y3 c h1 h2];exact ak),<-IK];rfl
  rw[e,rq l (run++[c]) acc hl (by
   intro z;rcases aT.mp z with z|z
   ·exact hr z
   ·have:=aG.mp z;omega),bQ]
  rfl
theorem EE(z:List Nat)(h:∀c∈z,zP c):eW (strOf z)=(wordsOf z).map strOf:=by
 rw[KWd.words_scan];have:=rq z [] [] h (by simp);rw[dw,dw]at this;exact this
theorem GS(z:List Nat):(wordsOf z).length<=z.length+1:=by
 unfold wordsOf;have:=(lU 32 z).2;exact d9 (List.length_filter_le _ _) (by omega)
theorem UR(z w:List Nat)(h:w∈wordsOf z):w.length<=z.length:=by
 unfold wordsOf at h;exact(lU 32 z).1 w (ug.mp h).1
theorem Ku(z:List Nat)(h:∀c∈z,zP c)(hl:z.length<=1000):ki .split (.str (strOf z)) []=.ok (.lst true ((wordsOf z).map wD)):=by
 have hs:=szl;have e:=EE z h;rw[Bu,e,c9]
 ·rfl
 ·rw[e,ah];have:=GS z;omega
 ·rw[e,ir,bE];intro w hw;have:=UR z w hw;show decide ((strOf w).length<=aa)=true;rw[fW];exact decide_eq_true (by omega)
theorem enum_zip:∀(ls:List (List Nat)) (n:Nat),jg n (ls.map wD)=(ls.zipIdx n).map fun p=>D.tup [.int (p.2:Int),wD p.1]
|[],n=>rfl
|l::r,n=>by
 show D.tup [.int (n:Int),wD l]::jg (n+1) (r.map wD)=_;rw[enum_zip r (n+1),tB];rfl
variable{n:Nat}
theorem US{l:List α}{p:α×Nat}(h:p∈l.zipIdx n):p.1∈l:=by
 obtain⟨i,hi⟩:=kG h;rw[wU]at hi;cases q:l[i]? with
 |none=>rw[q]at hi;cases hi
 |some a=>
  rw[q]at hi;cases hi;exact fH q
theorem UT(Y:List PG)(ls:List (List Nat))(hS:∀z∈ls,∀c∈z,zP c)(hl:∀z∈ls,z.length<=1000) :
  fG (pG (CG.tup ((j7.cons (CG.name 0) (j7.cons (CG.name 1) j7.nil))))) (pC Y (.some (.cmp .NotEq (.mth .split (.var 1) .nil) (.lst .nil)))) (pE Y (CE.var 0)) (jg 0 (ls.map wD)) [none,none]=.ok ((ls.zipIdx.filter fun p=>!(wordsOf p.1).isEmpty).map fun p=>D.int (p.2:Int)):=by
 have hs:=szl;rw[enum_zip];exact r9 (fun p:List Nat×Nat=>D.tup [.int (p.2:Int),wD p.1]) (fun O=>∃o p,O=[o,p]) (fun p=>!(wordsOf p.1).isEmpty) (fun p=>D.int (p.2:Int)) ls.zipIdx _ ⟨none,none,rfl⟩ (by
  rintro p hp O ⟨o,q,rfl⟩;have hz:=US hp;have e:=Ku p.1 (hS _ hz) (hl _ hz);have nr:cL .NotEq (.lst true ((wordsOf p.1).map wD)) (.lst true [])=.ok (.bl (!(wordsOf p.1).isEmpty)):=by
   have h:cN (.lst true ((wordsOf p.1).map wD))=true:=CN strOf (wordsOf p.1) _;rw[Cw h rfl];cases wordsOf p.1<;>rfl
  refine⟨[some (.int (p.2:Int)),some (wD p.1)],?_,⟨_,_,rfl⟩,?_,?_⟩
  ·unfold wD;simp_arith []
  ·show pT Y _ _=_;unfold wD at e nr ⊢;simp_arith [e,nr]
  ·simp_arith [])
theorem NN:∀(pre:List (List Nat)) (z:List Nat) (post:List (List Nat)) (n:Nat),wordsOf z≠[]->(((pre++z::post).zipIdx n).filter fun p=>!(wordsOf p.1).isEmpty)[(lF (pre.map wordsOf)).length]?=some (z,n+pre.length)
|[],z,post,n,h=>by
 rw[dw,tB,dQ (by cases q:wordsOf z with|nil=>exact absurd q h|cons a r=>simp[q])];rfl
|y::pre,z,post,n,h=>by
 rw[m6,tB];have ih:=NN pre z post (n+1) h;cases q:wordsOf y with
 |nil=>
  rw[gP (by simp[q])];have e:lF ((y::pre).map wordsOf)=lF (pre.map wordsOf):=by unfold lF;rw[aV,gP (by simp[q])]
  rw[e,ih];simp;omega
 |cons a r=>
  rw[dQ (by simp[q])];have e:lF ((y::pre).map wordsOf)=wordsOf y::lF (pre.map wordsOf):=by unfold lF;rw[aV,dQ (by simp[q])]
  rw[e,aW,l_,ih];simp;omega
theorem yw{β:Type}(f:α->β)(p:β->Bool)(b:β)(C:List β):∀(Zy:List α) (A:List β),(Zy.map f).filter p=A++b::C->∃pre z post,Zy=pre++z::post/\(pre.map f).filter p=A/\f z=b
|[],A,h=>by cases A<;>cases h
|y::Zy,A,h=>by
 rw[aV]at h;cases hp:p (f y)with
 |false=>
  rw[gP (by simp[hp])]at h;obtain⟨pre,z,post,h1,h2,h3⟩:=yw f p b C Zy A h;exact⟨y::pre,z,post,by rw[h1];rfl,by rw[aV,gP (by simp[hp])];exact h2,h3⟩
 |true=>
  rw[dQ hp]at h;cases A with
  |nil=>
   injection h with h1 h2;exact⟨[],y,Zy,rfl,rfl,h1⟩
  |cons a A=>
   rw[m6]at h;injection h with h1 h2;obtain⟨pre,z,post,k1,k2,k3⟩:=yw f p b C Zy A h2;exact⟨y::pre,z,post,by rw[k1];rfl,by rw[aV,dQ hp,k2,h1],k3⟩
theorem WV(x:Str)(kd:List D)(fkd:az kd=kd)(C:Addr)(ks:List Str)(xs:List D)(hC:C∈[44,63,82,120,139])(hf:jP xs=true)(hz:az xs=xs)(h:lz [.lst false kd,.str x]=.ex (.exc C ks xs)):oW [.lst false kd,.str x]=.ok (.exc C ks xs):=by
 unfold oW Ay Gq;simp_arith [fkd,h];rw[DH rfl hC hf];simp_arith [hz]
theorem lY.told(h:lY due mk)(i:Int):∃C ks xs,mk i=.exc C ks xs/\C∈[44,63,82,120,139]/\jP xs=true/\az xs=xs:=by
 cases h
 ·exact⟨_,_,_,rfl,by decide,rfl,rfl⟩
 ·exact⟨_,_,_,rfl,by decide,rfl,rfl⟩
 ·exact⟨_,_,_,rfl,by decide,rfl,rfl⟩
 ·exact⟨_,_,_,rfl,by decide,rfl,rfl⟩
 ·exact⟨_,_,_,rfl,by decide,rfl,rfl⟩
theorem X3(r:List (List Nat))(o:Bool)(hr:sJ r)(j:Int)(h0:0<=j)(h1:j<3):∃ex:List (List (List Nat)),ex.length<=2/\(∀q∈ex,sJ q)/\az (cut [.lst true [.str (strOf bB)],.lst o (r.map wD)] none (some j))=ex.map aN:=by
 have hk:sJ [bB]:=⟨by simp,by simp,by intro w hw;rw[aG.mp hw];exact dg bB (by simp)⟩;have hj:j=((0:Nat):Int)\/j=((1:Nat):Int)\/j=((2:Nat):Int):=by omega
 rcases hj with rfl|rfl|rfl
 ·exact⟨[],by simp,by simp,by rw[kD];rfl⟩
 ·refine⟨[[bB]],by simp,by simpa using hk,?_⟩;rw[kD];rfl
 ·refine⟨[[bB],r],by simp,by intro q hq;simp at hq;rcases hq with rfl|rfl;exact hk;exact hr,?_⟩;rw[kD];show[D.lst false [.str (strOf bB)],D.lst false (az (r.map wD))]=_;rw[iK];rfl
theorem Kv{as:List AR}(hv:Valid wk t0 as):∀q∈as.map AR.row,sJ q:=by
 intro q hq;obtain⟨a,ha,rfl⟩:=b_.mp hq;obtain⟨n,hn⟩:=kG ha;obtain⟨sm,okn⟩:=wK n Nr hv;exact UQ a sm.p (okn a hn)
theorem Er(P:List P2)(J:List J3)(S:List (List Nat×Int))(hP:P.length<=8)(hz:∀p∈P,p.2.length<=4)(hJ:J.length<=16)(hS:S.length<=8):(eB P J S).length<=64:=by
 have pl:(P.flatMap cB).length<=5*P.length:=by
  clear hP;induction P with
  |nil=>simp
  |cons p r ih=>
   rw[qR,aE,aW];have:=ih fun q hq=>hz q (ai _ hq);have:=hz p ao;have e:(cB p).length=p.2.length+1:=by unfold cB;simp
   omega
 unfold eB;simp only[aE,ah];omega
theorem WW(s s':Int)(up:List (Option Nat))(P:List P2)(J:List J3)(S:List (List Nat×Int))(T:Kq (fY s up) P J S)(r:List (List Nat))(hr:sJ r)(ex:List (List (List Nat)))(he:ex.length<=2)(hex:∀q∈ex,sJ q)(due:Str)(mk:Int->D)(W:lY due mk)(F:yu s up P J S r mk)(h0:0<=s')(h1:s'<2305843009213693951) :
  ∃(x:Str) (n:Nat),oX [.lst false (((eB P J S).map AR.row).map aN++[.lst false (r.map wD)]++ex.map aN),.int s']=.ok (.str x)/\x.length<=40000 /\
   (∀z∈cu 10 x.cps.toList,∀c∈z,zP c)/\(∀z∈cu 10 x.cps.toList,z.length<=1000) /\
   cH (((cu 10 x.cps.toList).zipIdx.filter fun p=>!(wordsOf p.1).isEmpty).map fun p=>D.int (p.2:Int)) ((eB P J S).length:Int)=some (.int (n:Int)) /\
   oW [.lst false (ee s up),.str x]=.ok (mk n)/\iR [mk n,.str due,.int (n:Int)]=.ok (.bl true)/\bC (mk n)=mk n:=by
 obtain⟨hv,hrun⟩:=Hw T;have hlen:=Er P J S T.p8 (fun p hp=>(T.pz p hp).1) T.jl.1 T.sl;have hrows:=Kv hv;obtain⟨x,q1,q2,q3,ls,q4,q5,q6⟩:=WE ((eB P J S).map AR.row++[r]++ex) s' h0 h1 (by simp only[aE,ah,cg];omega) (by
  intro q hq;rcases aT.mp hq with hq|hq
  ·rcases aT.mp hq with hq|hq
   ·exact hrows q hq
   ·rw[aG.mp hq];exact hr
  ·exact hex q hq)
 have e1:((eB P J S).map AR.row++[r]++ex).map aN=((eB P J S).map AR.row).map aN++[.lst false (r.map wD)]++ex.map aN:=by simp only[a7,aV,jY];rfl
 rw[e1]at q1;have hsp:cu 10 x.cps.toList=ls.map fun z=>z.cps.toList:=by
  have hne:ls≠[]:=by
   rcases q5 with z|z
   ·exact z
   ·simp at z
  rw[q4];exact o9 10 (ls.map fun p=>p.cps.toList) _ (by simpa using hne) (by
   intro p hp;obtain⟨z,hz,rfl⟩:=b_.mp hp;exact(q6 z hz).1) (join_list 10 ls hne)
 have hcut:∃pre z post,cu 10 x.cps.toList=pre++z::post/\lF (pre.map wordsOf)=(eB P J S).map AR.row/\wordsOf z=r:=by
  have h:((cu 10 x.cps.toList).map wordsOf).filter (fun r=>!r.isEmpty)=(eB P J S).map AR.row++r::ex:=by
   have:=q2;unfold sE at this;rw[this];simp
  exact yw wordsOf _ r ex _ _ h
 obtain⟨pre,z,post,c1,c2,c3⟩:=hcut;have hz:wordsOf z≠[]:=by rw[c3];exact hr.1
 have hlr:sL x=pre.map wordsOf++wordsOf z::post.map wordsOf:=by
  unfold sL;rw[c1];simp
 refine⟨x,pre.length,q1,q3,?_,?_,?_,?_,W.right _,?_⟩
 ·rw[hsp];intro y hy;obtain⟨l,hl,rfl⟩:=b_.mp hy;exact(q6 l hl).2.2
 ·rw[hsp];intro y hy;obtain⟨l,hl,rfl⟩:=b_.mp hy;have:=(q6 l hl).2.1;rw[rH];omega
 ·refine cS ?_;have e2:(eB P J S).length=(lF (pre.map wordsOf)).length:=by rw[c2,ah]
  rw[aX,c1,e2,NN pre z post 0 hz];simp
 ·obtain⟨C,ks,xs,t1,t2,t3,t4⟩:=W.told pre.length;rw[t1];refine WV x (ee s up) (jx s up) C ks xs t2 t3 t4 ?_;rw[c3]at hlr;refine Kp x (ee s up) (fY s up) (jx s up) (Ny s up) (iY s up) (RD s up) (CP s up) (eB P J S) hv (pre.map wordsOf) (post.map wordsOf) r _ q3 hlr c2 fun sz=>?_;rw[hrun,ah,<-t1];exact F _ _ _ sz
 ·obtain⟨C,ks,xs,t1,t2,t3,t4⟩:=W.told pre.length;rw[t1,Gh,t4]
theorem nlS:aK "\n"=⟨#[10]⟩:=by decide +kernel
theorem Y5:aK "the"=strOf [116,104,101]:=by decide +kernel
theorem GU:∀l:List Int,cD (l.map D.int)=true
|[]=>rfl
|a::r=>GU r
theorem AI(cells:List Int)(lo hi:Option Int):cut (cells.map D.int) lo hi=(cut cells lo hi).map D.int:=za D.int cells lo hi
theorem yY(l:List α)(a b:Nat):(cut l (some (a:Int)) (some ((a:Int)+(b:Int)))).length<=b:=by
 have e:((a:Int)+(b:Int))=((a+b:Nat):Int):=by omega
 rw[e];unfold cut;rw[HT.rD,HT.rD,dH,dX];omega
theorem X4(as:List AR):az (as.map fun a=>f_ a.row)=(as.map AR.row).map aN:=by
 rw[show(as.map fun a=>f_ a.row)=(as.map AR.row).map f_ by rw[c9];rfl];exact IT _
theorem WX(as:List AR):cD (as.map fun a=>f_ a.row)=true:=jq _ fun d hd=>by
 obtain⟨a,_,rfl⟩:=b_.mp hd;exact lG _
variable{s:Int}{J:List J3}
theorem X5{up:List (Option Nat)}(hu:up.length<=12){P:List P2}{S:List (List Nat×Int)}(hP:WN s up.length P)(h8:P.length<=8)(hJ:GJ (s / 5) P.length J)(h16:J.length<=16)(hS:WQ (s / 7) P.length S)(hs:S.length<=8):Kq (fY s up) P J S where
 p8:=h8
 pk:=fun p hp=>by
  obtain⟨i,hi,e⟩:=hP.k p hp;rw[e];refine⟨lC i s,?_⟩;have:=RC s up i (by omega) (by omega);rw[decide_eq_true hi]at this;exact this
 pz:=fun p hp=>⟨(hP.z p hp).2,(hP.z p hp).1.1,(hP.z p hp).1.2⟩
 jl:=⟨h16,hJ.nd⟩
 jk:=fun j hj=>by
  obtain⟨⟨a,ha,e⟩,h1,h2⟩:=hJ.k j hj;exact⟨by rw[e];exact lC a _,h1,h2⟩
 sl:=hs
 sk:=fun z hz=>by
  obtain⟨⟨a,ha,e⟩,h1⟩:=hS z hz;exact⟨by rw[e];exact lC a _,h1⟩
theorem RN(h:GJ s n J)(k:Nat):GJ s n (J.take k):=⟨h.nd.sublist (zj k J),fun j hj=>h.k j (List.mem_of_mem_take hj)⟩
theorem X6(M:Int)(h0:0<=M):∃c:Nat,c<=8/\cH [D.int 8,.int (M / 3%9),.int (M / 27%9)] (M%3)=some (.int (c:Int)):=by
 have b1:=bL (M / 3) (b:=9) (by decide);have b2:=bL (M / 27) (b:=9) (by decide);have b3:=bL M (b:=3) (by decide);have hc:M%3=0\/M%3=1\/M%3=2:=by omega
 rcases hc with c|c|c
 ·exact⟨8,by omega,by rw[c];rfl⟩
 ·refine⟨(M / 3%9).toNat,by omega,?_⟩;rw[c,show(((M / 3%9).toNat:Nat):Int)=M / 3%9 by omega];rfl
 ·refine⟨(M / 27%9).toNat,by omega,?_⟩;rw[c,show(((M / 27%9).toNat:Nat):Int)=M / 27%9 by omega];rfl
theorem NO(a:Nat)(x y:Int):∃c:Nat,(c=a\/c<=8)/\cH [D.int (a:Int),.int (x%9)] (y%2)=some (.int (c:Int)):=by
 have b1:=bL x (b:=9) (by decide);have b2:=bL y (b:=2) (by decide);have hc:y%2=0\/y%2=1:=by omega
 rcases hc with c|c
 ·exact⟨a,.inl rfl,by rw[c];rfl⟩
 ·refine⟨(x%9).toNat,.inr (by omega),?_⟩;rw[c,show(((x%9).toNat:Nat):Int)=x%9 by omega];rfl
noncomputable abbrev CT(sc:D)(s:Int)(o2 o3:Bool)(cells:List Int)(up:List (Option Nat))(k x5 x6 x7 x8 x9 x10 x11 x12 x13:Option D):bz:=[some sc,some (.int s),some (.lst o2 (cells.map D.int)),some (.lst o3 (ee s up)),k,x5,x6,x7,x8,x9,x10,x11,x12,x13]
noncomputable def BL:Nat->cJ->cJ
|n+1,.cons _ r=>BL n r
|_,c=>c
theorem NP(sc:D)(s M:Int)(o2 o3 oP oJ oS o:Bool)(cells:List Int)(up:List (Option Nat))(k:Nat)(hk:k<6)(hs0:0<=s)(hs1:s<2305843009213693951)(P:List P2)(J:List J3)(S:List (List Nat×Int))(T:Kq (fY s up) P J S)(hz:∀p∈P,yt p.2/\p.2.length<=4)(r:List (List Nat))(rk:sJ r)(due:Str)(mk:Int->D)(W:lY due mk)(F:yu s up P J S r mk)(x11 x12 x13:Option D) :
  ∃(o2' o3':Bool) (y5 y6 y7 y8 y9 y10 y11 y12 y13:Option D),bM pK 1000 (BL 7 kB) [some sc,some (.int s),some (.lst o2 (cells.map D.int)),some (.lst o3 (ee s up)),some (.int (k:Int)),some (.int M),some (.lst oP (P.map gq)),some (.lst oJ (J.map jD)),some (.lst oS (S.map zD)),some (.lst o (r.map wD)),some (.str due),x11,x12,x13]=.nx (CT sc s o2' o3' cells up (some (.int (k:Int))) y5 y6 y7 y8 y9 y10 y11 y12 y13):=by
 have hs:=szl;have jn:∀j∈J,Num j.2.1/\Num j.2.2:=fun j hj=>by
  have:=(T.jk j hj).2.2;simp only[bq]at this;exact⟨lE T.p8 this.1,lE T.p8 this.2⟩
 have lJ:=T.jl.1;have lS:=T.sl;have lP:=T.p8;have qr:=GK P J S hz (by omega) jn (by omega) (fun z hz=>lE T.p8 (T.sk z hz).2) (by omega);have fk:=jx s up;have fp:=pQ P;have fj:=iw J;have fs:=iu S;have frw:=X4 (eB P J S);have orw:=WX (eB P J S);have b7:=bL (M / 7) (b:=3) (by decide);have hlen:=Er P J S T.p8 (fun p hp=>(T.pz p hp).1) T.jl.1 T.sl;have ow:cD (r.map wD)=true:=jq _ fun d hd=>by
  obtain⟨z,_,rfl⟩:=b_.mp hd;rfl
 have fw:=iK r;have hA:kh .Add (.lst false (((eB P J S).map AR.row).map aN)) (.lst true [.lst false (r.map wD)])=.ok (.lst true (((eB P J S).map AR.row).map aN++[.lst false (r.map wD)])):=by
  rw[xY (by rw[ah,ah];simp only[aW,dm];omega),o4,q_,wj,tP,iK]
 have hB:∀(ex:List (List (List Nat))),ex.length<=2->kh .Add (.lst true (((eB P J S).map AR.row).map aN++[.lst false (r.map wD)])) (.lst true (ex.map aN))=.ok (.lst true (((eB P J S).map AR.row).map aN++[.lst false (r.map wD)]++ex.map aN)):=fun ex he=>by
  rw[xY (by rw[aE,ah,ah,ah];simp only[aW,dm];omega),o4,ku,o4,q_,wj,tP,iK]
 have hC:∀(ex:List (List (List Nat))),az (((eB P J S).map AR.row).map aN++[.lst false (r.map wD)]++ex.map aN)=((eB P J S).map AR.row).map aN++[.lst false (r.map wD)]++ex.map aN:=fun ex=>by
  rw[ku,ku,o4,o4,q_,wj,tP,iK]
 obtain⟨ex,x1,x2,x3⟩:=X3 r false rk (M / 7%3) (by omega) (by omega);obtain⟨x,a,t1,t2,t3,t4,t5,t6,t7,t8⟩:=WW s (s / 77+k) up P J S T r rk ex x1 x2 due mk W F (by omega) (by omega);have hb:=hB ex x1;have hC':=hC ex;have hac:∀Y,fG (pG (CG.tup ((j7.cons (CG.name 0) (j7.cons (CG.name 1) j7.nil))))) (pT Y (.cmp .NotEq (.mth .split (.var 1) .nil) (.lst .nil))) (pE Y (CE.var 0)) (jg 0 ((cu 10 x.cps.toList).map wD)) [none,none]=.ok (((cu 10 x.cps.toList).zipIdx.filter fun p=>!(wordsOf p.1).isEmpty).map fun p=>D.int (p.2:Int)):=fun Y=>UT Y (cu 10 x.cps.toList) t3 t4;have hsp:ki .split (.str x) [.str ⟨#[10]⟩]=.ok (.lst true (p6 10 x.cps.toList)):=by
  rw[Bt rfl (by omega)];rfl
 generalize mk a=E at t6 t7 t8;unfold kB pK;simp_arith [BL,fk,fp,fj,fs,ow,fw,qr,orw,frw,ah,hA,ud,x3,hb,hC',t1,nlS,hsp,AD,hac,t5,t6,t7,t8,Bool.not_true];exact⟨_,_,_,_,_,_,_,_,_,_,_,rfl⟩
theorem WY(sc:D)(s:Int)(o2 o3:Bool)(cells:List Int)(up:List (Option Nat))(hg:Good up)(hu0:0<up.length)(hu:up.length<=12)(k:Nat)(hk:k<6)(hkc:k<cells.length)(hc:cells.length<=100)(hs0:0<=s)(hs1:s<2305843009213693951)(x5 x6 x7 x8 x9 x10 x11 x12 x13:Option D) :
  ∃(o2' o3':Bool) (y5 y6 y7 y8 y9 y10 y11 y12 y13:Option D),bM pK 1000 kB (CT sc s o2 o3 cells up (some (.int (k:Int))) x5 x6 x7 x8 x9 x10 x11 x12 x13)=.nx (CT sc s o2' o3' cells up (some (.int (k:Int))) y5 y6 y7 y8 y9 y10 y11 y12 y13):=by
 have hs:=szl;have hat:cH (cells.map D.int) (k:Int)=some (.int cells[k]):=cS (by rw[aX,aA hkc];rfl);have qm:=wz cells[k] k 1111111111111111111 ⟨by omega,by omega⟩ ⟨by omega,by omega⟩;have m0:=ed ((cells[k]+(k:Int)*k+1)*1111111111111111111) (show(2305843009213693951:Int)≠0 by decide);have m1:=di ((cells[k]+(k:Int)*k+1)*1111111111111111111) (show(0:Int)<2305843009213693951 by decide);generalize(cells[k]+(k:Int)*k+1)*1111111111111111111%2305843009213693951=M at qm m0 m1;obtain⟨c1,hc1,e1⟩:=X6 M m0;obtain⟨c2,hc2,e2⟩:=NO 24 (M / 243) (M / 81);obtain⟨c3,hc3,e3⟩:=NO 8 (M / 2187) (M / 729);have e2:cH [D.int 24,.int (M / 243%9)] (M / 81%2)=some (.int (c2:Int)):=e2;have e3:cH [D.int 8,.int (M / 2187%9)] (M / 729%2)=some (.int (c3:Int)):=e3;have l1:=yY cells k c1;have q1:=AI cells (some (k:Int)) (some ((k:Int)+(c1:Int)));generalize cut cells (some (k:Int)) (some ((k:Int)+(c1:Int)))=sub1 at l1 q1;have l2:(cut cells none (some (c2:Int))).length<=24:=by rw[kD,dH];omega
 have q2:=AI cells none (some (c2:Int));generalize cut cells none (some (c2:Int))=sub2 at l2 q2;have l3:(cut cells none (some (c3:Int))).length<=8:=by rw[kD,dH];omega
 have q3:=AI cells none (some (c3:Int));generalize cut cells none (some (c3:Int))=sub3 at l3 q3;obtain⟨P,hP,lP,qP⟩:=UH s hs0 up hu0 (by omega) sub1 (by omega);obtain⟨J0,hJ0,lJ0,qJ⟩:=UJ s hs0 P.length (by omega) sub2 (by omega);have hJ:=RN hJ0 16;have lJ:(J0.take 16).length<=16:=by rw[dH];omega
 have qc:cut (J0.map jD) none (some 16)=(J0.take 16).map jD:=by
  have:=kD (J0.map jD) 16;rw[<-ER]at this;exact this
 have fJ0:=iw J0;generalize J0.take 16=J at hJ lJ qc;obtain⟨S,hS,lS,qS⟩:=UK s hs0 P.length (by omega) sub3 (by omega);have T:=X5 hu hP (by omega) hJ lJ hS (by omega);have jn:∀j∈J,Num j.2.1/\Num j.2.2:=fun j hj=>by
  have:=(T.jk j hj).2.2;simp only[bq]at this;exact⟨lE T.p8 this.1,lE T.p8 this.2⟩
 obtain⟨r,o,qf,rf,rk⟩:=RM s hs0 up hu0 hu P J S T.p8 hP.z lJ (fun j hj=>⟨(T.jk j hj).1,(jn j hj).1,(jn j hj).2⟩) T.sl (M / 65537) (by omega) (by omega);have fk:=jx s up;have fp:=pQ P;have fj:=iw J;have fs:=iu S;have oS:cD (S.map zD)=true:=jq _ fun d hd=>by
  obtain⟨z,_,rfl⟩:=b_.mp hd;rfl
 have oJ:cD (J.map jD)=true:=jq _ fun d hd=>by
  obtain⟨z,_,rfl⟩:=b_.mp hd;rfl
 have ow:cD (r.map wD)=true:=jq _ fun d hd=>by
  obtain⟨z,_,rfl⟩:=b_.mp hd;rfl
 have fw:=iK r;have a1:∀(b o2 o3:Bool) (x6 x7 x8 x9 x10 x11 x12 x13:Option D),iP [3,2,4,4,5,5,5,1] b [some sc,some (.int s),some (.lst o2 (cells.map D.int)),some (.lst o3 (ee s up)),some (.int (k:Int)),some (.int M),x6,x7,x8,x9,x10,x11,x12,x13]=[some sc,some (.int s),some (.lst (b&&o2) (cells.map D.int)),some (.lst (b&&o3) (ee s up)),some (.int (k:Int)),some (.int M),x6,x7,x8,x9,x10,x11,x12,x13]:=by
  intro b o2 o3 x6 x7 x8 x9 x10 x11 x12 x13;cases b
  ·simp_arith -implicitDefEqProofs [fR,fk]
  ·rfl
 have a2:∀(b o2 o3:Bool) (x8 x9 x10 x11 x12 x13:Option D),iP [5,3,6,7,1] b [some sc,some (.int s),some (.lst o2 (cells.map D.int)),some (.lst o3 (ee s up)),some (.int (k:Int)),some (.int M),some (.lst true (P.map gq)),some (.lst true (J.map jD)),x8,x9,x10,x11,x12,x13]=[some sc,some (.int s),some (.lst o2 (cells.map D.int)),some (.lst (b&&o3) (ee s up)),some (.int (k:Int)),some (.int M),some (.lst b (P.map gq)),some (.lst b (J.map jD)),x8,x9,x10,x11,x12,x13]:=by
  intro b o2 o3 x8 x9 x10 x11 x12 x13;cases b
  ·simp_arith -implicitDefEqProofs [fR,fk,fp,fj]
  ·rfl
 obtain⟨dv,hd,hn⟩:∃dv,dN [.lst false (r.map wD),.lst false (ee s up),.lst false (P.map gq),.lst false (J.map jD),.lst false (S.map zD)]=.ok dv/\((∃due mk,dv=.str due/\lY due mk/\yu s up P J S r mk)\/dv=.non):=by
  rcases rf with⟨due,mk,W,hd,F⟩|h
  ·exact⟨_,hd,.inl ⟨due,mk,rfl,W,F⟩⟩
  ·exact⟨_,h,.inr rfl⟩
 generalize cD (P.map gq)=bP at *;show ∃(o2' o3':Bool) (y5 y6 y7 y8 y9 y10 y11 y12 y13:Option D),bM pK 1000 (.cons _ (.cons _ (.cons _ (.cons _ (.cons _ (.cons _ (.cons _ (BL 7 kB)))))))) _=_;generalize hT:BL 7 kB=T7;unfold pK CT;simp_arith -implicitDefEqProofs [a1,a2,hat,qm,fR,e1,q1,fk,qP,fp,e2,q2,qJ,fJ0,qc,oJ,e3,q3,qS,oS,qf,ow,fw,fj,fs,hd];rcases hn with⟨due,mk,rfl,W,F⟩|rfl
 ·simp_arith -implicitDefEqProofs [nK];rw[<-hT];exact NP sc s M _ _ _ _ _ _ cells up k hk hs0 hs1 P J S T hP.z r rk due mk W F _ _ _
 ·simp_arith -implicitDefEqProofs [nK,gx,Y5];rw[<-hT];have ho:([116,104,101]:List Nat)∈qx:=by decide
  exact NP sc s M _ _ _ _ _ _ cells up k hk hs0 hs1 P J S T hP.z [bF,[116,104,101]] ⟨by simp,by simp,fun w hw=>by
   simp only[aC,aB,or_false]at hw;rcases hw with rfl|rfl
   ·exact dg bF (by simp)
   ·exact dg _ (by simp[ho])⟩ "BadRow" ie .row (sO s up P J S T.p8 (fun p hp=>(T.pz p hp).1) T.jl.1 T.sl [[116,104,101]] ie fun row=>Eh bF [116,104,101] row _ _ _ (o5 _ ho) (iY s up)) _ _ _
end K2
end
section
namespace K3
open PySem L2 L3 Tr K2
theorem Y6(a b c d:Int):kh .Mult (.lst true [.int a,.int b,.int c,.int d]) (.int 6)=.ok (.lst true (((aF 6 [a,b,c,d]).flatten).map D.int)):=by
 have hs:=szl;show R.bA (decide ((-(2 ^ 63)<=(6:Int)/\(6:Int)<2 ^ 63)/\4*(6:Int).toNat<=aa)) _=_;rw[decide_eq_true ⟨⟨by decide,by decide⟩,by rw[hs];decide⟩];rfl
theorem fin(ns:List Int)(hn:ns.length<=63):J4 [oU ns]=.ok (.bl true):=by
 have hs:=szl;obtain⟨s,s0,s1,qs⟩:=WC ns hn 587654321987654321 ⟨by decide,by decide⟩;have e63:cut ns none (some 63)=ns:=by
  have:=kD ns 63;rw[cy hn]at this;exact this
 have hr:=Y6 (s / 3) (s / 5) (s / 7) (s / 11);have hl:(ns++(aF 6 [s / 3,s / 5,s / 7,s / 11]).flatten).length=ns.length+24:=by simp
 have lr:((aF 6 [s / 3,s / 5,s / 7,s / 11]).flatten).length=24:=by simp
 generalize(aF 6 [s / 3,s / 5,s / 7,s / 11]).flatten=sal at hr hl lr;have ec:ns.map D.int++sal.map D.int=(ns++sal).map D.int:=by rw[a7]
 generalize ns++sal=cells at ec hl;have b6:=bL (s / 13) (b:=6) (by decide);obtain⟨c,hc1,hc2,ecc⟩:∃c:Nat,1<=c/\c<=6/\1+s / 13%6=(c:Int):=⟨(1+s / 13%6).toNat,by omega,by omega,by omega⟩;have hcut:cut (cells.map D.int) none (some (c:Int))=(cells.take c).map D.int:=by rw[za,kD]
 have ht:(cells.take c).length=c:=by rw[dH];omega
 generalize cells.take c=sub at hcut ht;obtain⟨up,hg,hup,qk⟩:=Ut sub false s (by omega) s0;have ok:cD (ee s up)=true:=jq _ fun d hd=>by
  unfold ee at hd;rw[rC]at hd;obtain⟨x,_,rfl⟩:=b_.mp hd;rfl
 unfold oU at qs;obtain⟨ZC,h1,o2,o3,x4,x5,x6,x7,x8,x9,x10,x11,x12,x13,rfl⟩:=kE (g:=pG (.name 4)) (b:=bM pK 1000 kB) 6
  (fun _ O=>∃(o2 o3:Bool) (x4 x5 x6 x7 x8 x9 x10 x11 x12 x13:Option D),O=CT (.lst false (ns.map D.int)) s o2 o3 cells up x4 x5 x6 x7 x8 x9 x10 x11 x12 x13) (by
  rintro k hk O ⟨o2,o3,x4,x5,x6,x7,x8,x9,x10,x11,x12,x13,rfl⟩;obtain⟨o2',o3',y5,y6,y7,y8,y9,y10,y11,y12,y13,q⟩:=WY (.lst false (ns.map D.int)) s o2 o3 cells up hg (by omega) (by omega) k hk (by omega) (by omega) s0 s1 x5 x6 x7 x8 x9 x10 x11 x12 x13;exact⟨_,_,rfl,q,_,_,_,_,_,_,_,_,_,_,_,_,rfl⟩) (CT (.lst false (ns.map D.int)) s true true cells up none none none none none none none none none none) ⟨_,_,_,_,_,_,_,_,_,_,_,_,rfl⟩
 have h1:forR (pG (.name 4)) (bM pK 1000 kB) (k9 0 6) [some (.lst false (ns.map D.int)),some (.int s),some (.lst true (cells.map D.int)),some (.lst true (ee s up)),none,none,none,none,none,none,none,none,none,none]=_:=h1;unfold J4 J2 oU;generalize kB=B at h1 ⊢;rw[show bM pK 1000 B=bM [.fn iR [],.fn oW [],.fn oX [],.fn jS [],.fn dN [],.fn nR [],.fn p9 [],.fn p_ [],.fn qa [],.fn iW [],.fn qe [],.fn sy []] 1000 B from rfl]at h1;unfold pK;have n6:Int.toNat 6=6:=rfl;simp_arith [fR,qs,za,e63,hr,ec,GU,ecc,hcut,qk,ok,n6,h1]
end K3
end
namespace Fin
open PySem L2 L3 Tr
section
variable{P:bJ}{w:bS}{K:PySem.W.Frag}{mg:Str->Option Value}
structure Hy (P:bJ) (w:bS) (K:PySem.W.Frag) (mg:Str->Option Value) (a_KEPT_WORDS:Addr):Prop where
 z:∀x∈BN,mg x=none
 D_law:DI K mg t9
 D_l_right:DI K mg D6
 D_l_whole:DI K mg D5
 D_l_told:DI K mg Gw
 D_read_thing:DI K mg yp
 D_rows_in:DI K mg D7
 D_words_in:DI K mg BC
 D_part_in:DI K mg D9
 D_is_word:DI K mg D8
 D_all_within:DI K mg ym
 D_size_in:DI K mg D_
 D_numbers_behind:DI K mg sA
 D_number_in:DI K mg zN
 D_is_figures:DI K mg yo
 D_join_in:DI K mg Ea
 D_refuse_no_part:DI K mg sC
 D_step_in:DI K mg Eb
 D_l_text:DI K mg Gx
 D_l_mix:DI K mg II
 D_l_thing_rows:DI K mg vf
 D_l_due:DI K mg IJ
 D_l_words_fine:DI K mg vg
 D_l_faulty:DI K mg BE
 D_l_some_number:DI K mg tZ
 D_l_name:DI K mg Gy
 D_l_odd_row:DI K mg zO
 D_l_steps:DI K mg Ec
 D_l_joins:DI K mg Ed
 D_l_parts:DI K mg Ef
 D_l_number:DI K mg BF
 D_l_kinds:DI K mg Eg
 D_l_salt:DI K mg Gz
 V_MOST_PARTS:∃u,mg "MOST_PARTS"=some u/\RelV (V.int 8) u
 V_KEPT_WORDS:mg "KEPT_WORDS"=some (.ref a_KEPT_WORDS)/\H9 K a_KEPT_WORDS true [.str "a",.str "an",.str "the",.str "said",.str "claim",.str "on",.str "or",.str "then",.str "from",.str "to",.str "of",.str "at",.str "least",.str "most",.str "just",.str "is"]
 V_MOST_LETTERS:∃u,mg "MOST_LETTERS"=some u/\RelV (V.int 8) u
 V_MOST_SIZES:∃u,mg "MOST_SIZES"=some u/\RelV (V.int 4) u
 V_MOST_FIGURES:∃u,mg "MOST_FIGURES"=some u/\RelV (V.int 30) u
 V_MOST_JOINS:∃u,mg "MOST_JOINS"=some u/\RelV (V.int 16) u
 V_MOST_STEPS:∃u,mg "MOST_STEPS"=some u/\RelV (V.int 8) u
 C_TooBig:Gj P w K mg "TooBig" 139 [("claim",1),("row",2)] 3
 C_NoKind:Gj P w K mg "NoKind" 120 [("claim",1),("row",2)] 3
 C_BadRow:Gj P w K mg "BadRow" 44 [("row",1)] 2
 C_Twice:Gj P w K mg "Twice" 63 [("row",1)] 2
 C_NoPart:Gj P w K mg "NoPart" 82 [("row",1)] 2
 I_NoChange:mg "NoChange"=some (.ref 251)/\gY K 251 iH
 I_NoClaim:mg "NoClaim"=some (.ref 101)/\gY K 101 iH
 I_NoFit:mg "NoFit"=some (.ref 239)/\gY K 239 iH
 I_NoGround:mg "NoGround"=some (.ref 196)/\gY K 196 iH
 I_NoRange:mg "NoRange"=some (.ref 177)/\gY K 177 iH
 I_NotOwn:mg "NotOwn"=some (.ref 263)/\gY K 263 iH
 I_NotUnder:mg "NotUnder"=some (.ref 158)/\gY K 158 iH
 I_TooMany:mg "TooMany"=some (.ref 227)/\gY K 227 iH
 I_TwoGrounds:mg "TwoGrounds"=some (.ref 215)/\gY K 215 iH
 I_TooBig:mg "TooBig"=some (.ref 139)/\gY K 139 iH
 I_Twice:mg "Twice"=some (.ref 63)/\gY K 63 iH
 I_NoPart:mg "NoPart"=some (.ref 82)/\gY K 82 iH
 I_NoKind:mg "NoKind"=some (.ref 120)/\gY K 120 iH
 I_BadRow:mg "BadRow"=some (.ref 44)/\gY K 44 iH
 X_0:tL K iH DZ
 B_ClaimError:WB K mg "ClaimError" 24 iH
variable{base:Heap}{a_KEPT_WORDS:Addr} (Z:Hy P w K mg a_KEPT_WORDS)
include Z
theorem Kw:iD P w K mg base 1 "_law_whole" D0:=fD (k:=0) Z.D_l_whole MY Z.z gN
theorem Ky:iD P w K mg base 2 "_law_right" iR:=fD (k:=1) Z.D_l_right MZ Z.z (gX Z.X_0 (gF (Kw Z) (gI Z.I_NoChange (gI Z.I_NoClaim (gI Z.I_NoFit (gI Z.I_NoGround (gI Z.I_NoRange (gI Z.I_NotOwn (gI Z.I_NotUnder (gI Z.I_TooMany (gI Z.I_TwoGrounds (gI Z.I_TooBig (gI Z.I_Twice (gI Z.I_NoPart (gI Z.I_NoKind (gI Z.I_BadRow gN))))))))))))))))
theorem HA:iD P w K mg base 1 "words_in" rm:=fD (k:=0) Z.D_words_in J5 Z.z gN
theorem Kz:iD P w K mg base 2 "rows_in" nj:=fD (k:=1) Z.D_rows_in M0 Z.z (gF (HA Z) gN)
theorem xg:iD P w K mg base 1 "all_within" ly:=fD (k:=0) Z.D_all_within Gs Z.z gN
theorem BO:iD P w K mg base 2 "is_word" nq:=fD (k:=1) Z.D_is_word M1 Z.z (gT Z.V_KEPT_WORDS ⟨a_KEPT_WORDS,_,rfl,Z.V_KEPT_WORDS.2,by decide +kernel,by repeat (first|exact rfl|refine⟨_,_,rfl,⟨rfl,by decide +kernel⟩,?_⟩|refine⟨_,_,rfl,rfl,?_⟩)⟩ (gF (xg Z) (gV Z.V_MOST_LETTERS rfl gN)))
theorem KA:iD P w K mg base 3 "part_in" fm:=fD (k:=2) Z.D_part_in M2 Z.z (gV Z.V_MOST_PARTS rfl (gC Z.C_TooBig (gC Z.C_NoKind (gF (BO Z) (gC Z.C_BadRow gN)))))
theorem EF:iD P w K mg base 2 "is_figures" nQ:=fD (k:=1) Z.D_is_figures Gu Z.z (gF (xg Z) (gV Z.V_MOST_FIGURES rfl gN))
theorem GV:iD P w K mg base 3 "number_in" d_:=fD (k:=2) Z.D_number_in Ht Z.z (gF (EF Z) gN)
theorem mw:iD P w K mg base 4 "numbers_behind" bf:=fD (k:=3) Z.D_numbers_behind Az Z.z (gC Z.C_BadRow (gF (GV Z) (gF (BO Z) gN)))
theorem KC:iD P w K mg base 5 "size_in" gE:=fD (k:=4) Z.D_size_in M3 Z.z (gV Z.V_MOST_SIZES rfl (gC Z.C_TooBig (gC Z.C_Twice (gF (mw Z) gN))))
theorem qL:iD P w K mg base 3 "refuse_no_part" f9:=fD (k:=2) Z.D_refuse_no_part AA Z.z (gC Z.C_NoPart gN)
theorem KD:iD P w K mg base 5 "join_in" gH:=fD (k:=4) Z.D_join_in M4 Z.z (gV Z.V_MOST_JOINS rfl (gC Z.C_TooBig (gC Z.C_Twice (gF (qL Z) (gC Z.C_BadRow (gF (mw Z) gN))))))
theorem KE:iD P w K mg base 5 "step_in" gJ:=fD (k:=4) Z.D_step_in M5 Z.z (gV Z.V_MOST_STEPS rfl (gC Z.C_TooBig (gF (qL Z) (gF (mw Z) gN))))
theorem EG:iD P w K mg base 6 "read_thing" lz:=fD (k:=5) Z.D_read_thing Gv Z.z (gF (Kz Z) (gF (KA Z) (gF (KC Z) (gF (KD Z) (gF (KE Z) (gC Z.C_BadRow gN))))))
theorem NQ:iD P w K mg base 7 "_law_told" oW:=fD (k:=6) Z.D_l_told Q_ Z.z (gB Z.B_ClaimError (gF (EG Z) gN))
theorem mY:iD P w K mg base 1 "_law_mix" iW:=fD (k:=0) Z.D_l_mix Um Z.z gN
theorem NR:iD P w K mg base 2 "_law_text" oX:=fD (k:=1) Z.D_l_text Ra Z.z (gF (mY Z) gN)
theorem BP:iD P w K mg base 1 "_law_thing_rows" jS:=fD (k:=0) Z.D_l_thing_rows Cz Z.z gN
theorem BQ:iD P w K mg base 1 "_law_words_fine" bw:=fD (k:=0) Z.D_l_words_fine CA Z.z gN
theorem RO:iD P w K mg base 2 "_law_due" dN:=fD (k:=1) Z.D_l_due Uo Z.z (gF (BQ Z) gN)
theorem AJ:iD P w K mg base 1 "_law_some_number" kT:=fD (k:=0) Z.D_l_some_number BD Z.z gN
theorem qo:iD P w K mg base 1 "_law_name" gw:=fD (k:=0) Z.D_l_name Rb Z.z gN
theorem GW:iD P w K mg base 1 "_law_odd_row" mE:=fD (k:=0) Z.D_l_odd_row Hu Z.z gN
theorem HC:iD P w K mg base 2 "_law_faulty" nR:=fD (k:=1) Z.D_l_faulty J6 Z.z (gF (AJ Z) (gF (qo Z) (gF (GW Z) gN)))
theorem KG:iD P w K mg base 2 "_law_steps" p9:=fD (k:=1) Z.D_l_steps M6 Z.z (gF (qo Z) (gF (mY Z) gN))
theorem KH:iD P w K mg base 2 "_law_joins" p_:=fD (k:=1) Z.D_l_joins M7 Z.z (gF (qo Z) (gF (mY Z) gN))
theorem HD:iD P w K mg base 1 "_law_number" nS:=fD (k:=0) Z.D_l_number J8 Z.z gN
theorem KI:iD P w K mg base 2 "_law_parts" qa:=fD (k:=1) Z.D_l_parts M8 Z.z (gF (qo Z) (gF (HD Z) (gF (mY Z) gN)))
theorem KJ:iD P w K mg base 2 "_law_kinds" qe:=fD (k:=1) Z.D_l_kinds M9 Z.z (gF (qo Z) (gF (mY Z) gN))
theorem NS:iD P w K mg base 2 "_law_salt" sy:=fD (k:=1) Z.D_l_salt Rc Z.z (gF (mY Z) gN)
theorem WZ{f:Addr}{fd:fM}(F:qI K "law" "law" t9.s f fd):fK P w K mg base (j5 P w) 8 f fd t9.ps (FU K J4):=fF (d:=t9) F XS Z.z (gF (Ky Z) (gF (NQ Z) (gF (NR Z) (gF (BP Z) (gF (RO Z) (gF (HC Z) (gF (KG Z) (gF (KH Z) (gF (KI Z) (gF (mY Z) (gF (KJ Z) (gF (NS Z) gN))))))))))))
end
theorem walk{l:PySem.W.OpenLaw}{q:bJ}{loose:List Str}{XP:(Str->Option Value)->Heap->Prop}{YP:bS->Heap->Prop}{d:N2}{K:G1->PySem.W.Frag}(hn:l.most=some 63)(hdf:d.params.defaults=[])(hdn:d.name="law")
  (hY:∀(w:bS) (h:Heap),YP w h->(K w.params).In h) (nk:∀p:G1,((K p).all fun x=>!Pc x.2.cls)=true)
  (F:∀(w:bS) (mg:Str->Option Value) (h:Heap),(K w.params).In h->h.Ns cX mg->∃a_KEPT_WORDS,Hy l.prog w (K w.params) mg a_KEPT_WORDS) (bd:∀(kV doc pm:Value) (an:Option Addr) (cdv ct:Value) (u:Value),sV (PySem.W.fnOf "law" "law" (lQ t9.s) (gc t9.s) (cA t9.s) .none kV doc pm an cdv ct) ⟨[u],[]⟩=pure [(("_law_script":Str),u)]) :
  PySem.W.WalkO q loose XP YP l.row.toRowW d [] (fun f vs=>PySem.call f vs):=
 L2.S5 (n:=63) (k:=8) (x:="_law_script") (CX:=fun _=>zF) (sp:=fun w=>(fun vs H Q E=>∃(a:Addr) (ns:List Int),vs=[.ref a]/\Rd H a (.lst (ns.map V.int))/\ns.length<=63/\∀H',Q (.bl true) H')) hn (by decide) hdf ⟨rfl,by decide,by decide⟩ hY (fun w mg fa h X G hfa=>by
  obtain⟨_,Z⟩:=F w mg h X G;rw[hdn]at hfa;obtain⟨f,fd,Zy,hm,hb⟩:=Z.D_law;have e:=hfa.symm.trans hm;cases e;obtain⟨_,_,kV,doc,pm,an,cdv,ct,_,rfl,_⟩:=Zy.ex;exact⟨_,fun s v=>.of_eq (bd _ _ _ _ _ _ v),fun base _ _=>Wq (WZ Z Zy) K3.fin⟩) (fun w _ a ns hl _ hS=>⟨a,ns,rfl,XR (nk w.params) hS,hl,fun _=>rfl⟩) fun _ _ _ _ _ z=>z
end Fin
namespace PySem.W.Fast
def tw2524326791017788581 :=0
def tw7704892392575658606 :=0
def tw12630315557540638045 :=0
def tw8203316453889476832 :=0
def tw8385331953136374035 :=0
def tw11343790424870337598 :=0
def tw2797849515574891056 :=0
def tw7712624909638443309 :=0
def tw13020605843898735009 :=0
def tw9631703256494307888 :=0
def tw2101090176632036850 :=0
def tw8878795025416847159 :=0
def tw17593521494121318310 :=0
def tw3817003457846971413 :=0
def tw2556846530061936239 :=0
def tw14093360146227601516 :=0
def tw15228012591593628777 :=0
def tw11411590392340718573 :=0
def tw4220119108391634897 :=0
def tw14422583112895847663 :=0
def tw11010959300732223055 :=0
def tw18401758426708175030 :=0
def tw12056059383416779712 :=0
def tw921087367898920087 :=0
def tw6777313626051771793 :=0
def tw16969589147953283474 :=0
def tw1474935527770958387 :=0
def tw9418850743716404711 :=0
def tw8689678842913947155 :=0
def tw7475613336639123493 :=0
def tw9903948753381331039 :=0
def tw13516444551002812468 :=0
def tw3552919174056950410 :=0
def tw4049951451427004463 :=0
def tw6180648408967400124 :=0
def tw1202895438052429387 :=0
def tw12967140802953070085 :=0
def tw12388721033275681594 :=0
def tw2431851676175409608 :=0
def tw4448801380695243781 :=0
def tw1571539178834943249 :=0
def tw15757331815581491629 :=0
def tw272730731637996045 :=0
def tw625998840062455315 :=0
def tw15199310155540480567 :=0
def tw6635098487172391548 :=0
def tw7451012023960190592 :=0
def tw3753459106219630470 :=0
def tw3487869517629521267 :=0
def tw11706160800588471054 :=0
def tw15064641768059798607 :=0
def tw13685505419631974563 :=0
def tw1120368912820007402 :=0
def tw9519709106862708692 :=0
def tw4414334245584981162 :=0
def tw14686547208360468955 :=0
def tw14668713392576138024 :=0
def tw9717777515867924234 :=0
def tw3642925662314341682 :=0
def tw9811727470109325802 :=0
def tw3579974148746429068 :=0
def tw616735661697292264 :=0
def tw1593788923161822478 :=0
def tw5733042366185556021 :=0
def tw3835058219744516860 :=0
def tw6179306833108271418 :=0
def tw11588945432310075981 :=0
def tw18313018412422983379 :=0
def tw2483517984118185667 :=0
def tw6728701955475411951 :=0
def tw9737120905896484325 :=0
def tw15544868608990009399 :=0
def tw3918676356285473932 :=0
def tw5169911512082251337 :=0
def tw1546283045311313542 :=0
def tw12432012692298487664 :=0
def tw9062430845346137183 :=0
def tw1963177504203975971 :=0
def tw4823060656546941544 :=0
def tw18422422111963608547 :=0
def tw3737065558566384949 :=0
def tw8534692993582321397 :=0
def tw16797890961433352666 :=0
def tw15217294389080783293 :=0
def tw181302510355497443 :=0
def tw14195384066990170426 :=0
def tw9507967329236397114 :=0
def tw3659284521741456057 :=0
def tw10091574234532967413 :=0
def tw10120534569091277072 :=0
def tw5764380311400485941 :=0
def tw5966463519053763210 :=0
def tw5641158358434373395 :=0
def tw219735557537253149 :=0
def tw5268523628110279761 :=0
def tw17466222370203706442 :=0
def tw7715417724893366652 :=0
def tw2770012718668181773 :=0
def tw2083076063412467276 :=0
def tw2294699782304129499 :=0
def tw4596148848280944249 :=0
def tw9853947389117391957 :=0
def tw13196832218326804980 :=0
def tw10019491171178292199 :=0
def tw15436765785578105917 :=0
def tw5397550751650207677 :=0
def tw15645565603229358690 :=0
def tw6946576350640642571 :=0
def tw9993939839401016332 :=0
def tw5834203257720864545 :=0
def tw4813777206719561334 :=0
def tw8598470966703247269 :=0
def tw5812078996916042040 :=0
def tw276373777466009479 :=0
def tw8969971589867206873 :=0
def tw4828158013707873543 :=0
def tw2453928427289495385 :=0
def tw15609146811092835748 :=0
def tw1333603014948668200 :=0
def tw15567779870369041270 :=0
def tw2811411785135681689 :=0
def tw7585453399004893643 :=0
def tw9791558105748367840 :=0
def tw14368943217756309134 :=0
def tw1740616048778443651 :=0
def tw10141626903853406702 :=0
def tw11514522612828197450 :=0
def tw5033632706752583042 :=0
def tw9242498568766009163 :=0
def tw4630888844684846114 :=0
def tw4614264702702241883 :=0
def tw6800163818371124212 :=0
def tw13342734160402096246 :=0
def tw16817043633349347025 :=0
def tw13904053158880489427 :=0
def tw12022262918764235186 :=0
def tw4061946521953923599 :=0
def tw3291021126688355163 :=0
def tw17651498044362320034 :=0
def tw12221632523850209662 :=0
def tw13665447240064604296 :=0
def tw17414161912223001114 :=0
def tw18256723389865098583 :=0
def tw7765135427937505922 :=0
def tw17726546095799342878 :=0
def tw12156735194032745259 :=0
def tw1767314714112644414 :=0
def tw6521352568739191982 :=0
def tw12605562054813385067 :=0
def tw986657543377853394 :=0
def tw18223461694686386922 :=0
def tw6973835938511794074 :=0
def tw9954063794504864654 :=0
def tw4515321735542928613 :=0
def tw7653667427382530677 :=0
def tw8483959370291996163 :=0
def tw9770225852500353776 :=0
def tw5965748351045615868 :=0
def tw8557462445390969637 :=0
def tw613451773699143344 :=0
def tw297490406878141948 :=0
def tw2369844130321253442 :=0
def tw1613712027580925168 :=0
def tw15713885087612469618 :=0
def tw1090265750573068664 :=0
def tw11329245462031970446 :=0
def tw15613232410683713998 :=0
def tw15020599524849331183 :=0
def tw4013131649212539085 :=0
def tw6445693593519453737 :=0
def tw11741413511401374849 :=0
def tw18308088578674688308 :=0
def tw14709922786474223601 :=0
def tw3895425867562899569 :=0
def tw13077109165059774979 :=0
def tw12080378583516671577 :=0
def tw5128969441065309107 :=0
def tw13060942161535912377 :=0
def tw5848139756738304477 :=0
def tw9374778216003813445 :=0
def tw6599245922502055583 :=0
def tw8863137151188484652 :=0
def tw1325804730860146414 :=0
def tw7134022061195861396 :=0
def tw7021561163620706513 :=0
def tw8474097987643620219 :=0
def tw7347438381922467358 :=0
def tw295905445583029199 :=0
def tw16964585334260782514 :=0
def tw14911802598880612254 :=0
def tw8495820277880012355 :=0
def tw14143630355326528179 :=0
def tw11366164092891782762 :=0
def tw6250584665866244636 :=0
def tw219890886850932748 :=0
def tw14057754094351868511 :=0
def tw7309075372092803532 :=0
def tw180061714317846662 :=0
def tw3133888163969640645 :=0
def tw7828875501452964029 :=0
def tw11402638139460447698 :=0
def tw15454459602483632576 :=0
def tw7958320517249622277 :=0
def tw15110273084182674667 :=0
def tw1954031121456278125 :=0
def tw7330520518816239049 :=0
def tw2932644317273328821 :=0
def tw9577312459969128710 :=0
def tw15155303018551539812 :=0
end PySem.W.Fast
open PySem PySem.W PyProof.Rows
set_option maxRecDepth 100000 in
set_option maxHeartbeats 0 in
open L3 Tr in
theorem PySem.Challenge.cw_claimwise_k06_things_refused_holds : PySem.Challenge.rw_claimwise_k06_things_refused.Holds := by
 w_on;o_law;k_head;(case hw=>w_witness2)
 k_fill
 refine Fin.walk (l:=PySem.Challenge.rw_claimwise_k06_things_refused) rfl rfl rfl (fun w h Zx=>PySem.W.kIn_of Zx) ?nk ?F ?b
 case nk=>intro p;first|rfl|decide +kernel|k_is|simp[L3.Pc]
 case b=>intros;rfl
 case F=>
  intro w mg h KX G;have HX:=hXI (Cs:=iH) (as:=DZ) KX;have HB:=bI (B:=24) KX;exact⟨_,⟨zI KX G,
   dI KX G,
   dI KX G,
   dI KX G,
   dI KX G,
   dI KX G,
   dI KX G,
   dI KX G,
   dI KX G,
   dI KX G,
   dI KX G,
   dI KX G,
   dI KX G,
   dI KX G,
   dI KX G,
   dI KX G,
   dI KX G,
   dI KX G,
   dI KX G,
   dI KX G,
   dI KX G,
   dI KX G,
   dI KX G,
   dI KX G,
   dI KX G,
   dI KX G,
   dI KX G,
   dI KX G,
   dI KX G,
   dI KX G,
   dI KX G,
   dI KX G,
   dI KX G,
   ⟨_,iI KX G,_,rfl⟩,
   ⟨iI KX G,_,_,_,by k_is,rfl,rfl,rfl,by simp[fX],by repeat (first|exact Paired.nil|refine Paired.cons ⟨_,rfl⟩ ?_)⟩,
   ⟨_,iI KX G,_,rfl⟩,
   ⟨_,iI KX G,_,rfl⟩,
   ⟨_,iI KX G,_,rfl⟩,
   ⟨_,iI KX G,_,rfl⟩,
   ⟨_,iI KX G,_,rfl⟩,
   cI KX G (HX 139 (by decide)) HB Rm,
   cI KX G (HX 120 (by decide)) HB Rk,
   cI KX G (HX 44 (by decide)) HB Rg,
   cI KX G (HX 63 (by decide)) HB Uq,
   cI KX G (HX 82 (by decide)) HB Ri,
   ⟨iI KX G,jw HX (by kernel_rfl) (by kernel_rfl)⟩,
   ⟨iI KX G,jw HX (by kernel_rfl) (by kernel_rfl)⟩,
   ⟨iI KX G,jw HX (by kernel_rfl) (by kernel_rfl)⟩,
   ⟨iI KX G,jw HX (by kernel_rfl) (by kernel_rfl)⟩,
   ⟨iI KX G,jw HX (by kernel_rfl) (by kernel_rfl)⟩,
   ⟨iI KX G,jw HX (by kernel_rfl) (by kernel_rfl)⟩,
   ⟨iI KX G,jw HX (by kernel_rfl) (by kernel_rfl)⟩,
   ⟨iI KX G,jw HX (by kernel_rfl) (by kernel_rfl)⟩,
   ⟨iI KX G,jw HX (by kernel_rfl) (by kernel_rfl)⟩,
   ⟨iI KX G,jw HX (by kernel_rfl) (by kernel_rfl)⟩,
   ⟨iI KX G,jw HX (by kernel_rfl) (by kernel_rfl)⟩,
   ⟨iI KX G,jw HX (by kernel_rfl) (by kernel_rfl)⟩,
   ⟨iI KX G,jw HX (by kernel_rfl) (by kernel_rfl)⟩,
   ⟨iI KX G,jw HX (by kernel_rfl) (by kernel_rfl)⟩,
   Wy HX (by kernel_rfl) (by kernel_rfl),
   eI KX G⟩⟩
