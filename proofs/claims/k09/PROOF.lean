import PyProof.Rows.All
import Wide.All
import OpenK.AllK
import Wide.FinOn
import Lean
import KE.KDictOf
import PyProof.TupleIter
import PyProof.CollectWalk
import PyProof.AttrMissHeap
import PyProof.EqAt
import PyProof.EqKinds
import PyProof.TupleCall
import KE.KSortTup
import KE.KDictSum
import PyProof.DictIter
import PyProof.ConsumeS
import PyProof.Rows.SetFrom
import PyProof.SetRoads
import PyProof.Rows.CountFlat
import PyProof.StationsW
import PyProof.ExcInit
import PyProof.ExcClass2
import PyProof.ExcBaseAll.ValueError
import PyProof.ExcAttrAll.ValueError
import KE.KIsAll
import PyProof.RulesAs
import PyProof.RulesDel
import PyProof.NeKinds
import KE.KDictList
import KE.KRevIter
import PyProof.EnumMake
import PyProof.ListRange
import PyProof.TupleOfGen
import KE.KMinBuiltin
import PyProof.Rows.CallKwBuiltin
import PyProof.FString
import PyProof.ZipIter
import PyProof.Rows.ZipGen
import PyProof.Rows.FactsT2
import PyProof.DictWalks
import KE.IntTextText
import PySem.Challenge.RW_claimwise_k09_rows_of_no_form
set_option Elab.async false
set_option linter.all false
set_option maxRecDepth 100000
set_option maxHeartbeats 4000000
set_option bootstrap.genMatcherCode false
set_option compiler.extract_closed false
set_option genSizeOf false
set_option genInjectivity false
open PySem renaming sizeLine->aa,Shared->aj,wpAny_bind->au,wpAny->aD,model->aH,wpAny_pure->a7,Program->bH,World->bY,starEach->cV,mainGlobals->dh,Around->dF,wpAny_mono->dR,cLine->dS,sizeLine_eq->eE,wpAny_Call_Name_kw->eK,cellsFrom->eL,wpAny_truthy_bool->fj,sliceBounds->fJ,FuncData->fO,Scope->fS,compareOp->gh,binaryOp->gz,wpAny_loadPart_at->gE,wpAny_holding->gJ,typeIs_str->ia,call_meets->ic,wpAny_passesOwn->iG,assignEach->iZ,excClassObj->i_,codeAny_mono->jm,NameKind->jo,wpAny_execs_nil->jM,foldedSetIterable->jZ,rawInt->kc,codeAny->kg,sysModules->kJ,Operator->kK,backTo->kP,tupleKind_room_in1->lV,wpAny_call->mz,relabel->mF,wpAny_standAt->nv,swapsWith->nS,holding->nU,bootBuiltins->oV,letOwnedTupleGo->oY,codeAny_call_builtin->o4,unbindBehindTheSuite->o7,wpAny_isSubtype_exc->ph,CmpOp->qz,assign->qH,slot_list_getitem->qX,wpAny_pyIter_list->qZ,valueAt->sy,callerA->sA,isTrue->tw,wpAny_execs_cons->tB,wpAny_getItem_list_slice->tD,wpAny_comprehension_free->tG,tupleKind->ud,PassesOwn->ue,atKey->ug,scanBound->uh,codeAny_builtin->um,pushCells_keeps->uq,subscripted->uU,wpAny_field->uW,spliced->vA,standAt->vB,pyIter->vC,wpAny_setField->vE,wpAny_loadPart->vF,getitemInPython_of_ne->vG,meets_str_split_space->vI,newFunctionEnv->vJ,wpAny_loadName_local->wL,bindArgs->wM,bindL->wN,bindC->wQ,sliceRange->wU,wpAny_letTemporaryGo->wV,swapsWithSole->xw,swappedStores->xx,behindInMarks->xy,attributeBase->xA,wpAny_loadName_cell->xB,wpAny_Tuple_spliced->xD,inplaceOp->ze,seqIndex_neg->zm,slicePick->zp,getItem->z6,wpAny_assign_Name->z9,wpAny_newObj_type->Ab,wpAny_pyIter_enum->Ac,seqIndex_of->AN,GenState->Bq,noFill_tuple_add->Br,wpAny_lookBehind->Bu,pastItsLine_dict->Bv,wpAny_pyIter_zip->Bw,builtinsNs->CF,wpAny_Name->CH,pyNext->CJ,truthy->CK,nsFind->CL,Result->CM,typeIs_int->CQ,codeAny_of_tree->CW,isInstance->CZ,wpAny_specialOf->C3,wpAny_operating->C4,call_gives->C6,wpAny_Expr_any->DQ,getAttr->DR,recursionLimit->DS,BindsTo->DT,letTemporaryGo->DV,numbered_texts->DW,Keyword->DX,storeName->E7,noteFrame->E8,strValues->E9,lastMarks->E_,intBits_le_64->Ft,seq_tuple_add->Fv,evalPart_none->Fw,wpAny_attempt->Fx,evalPart_some->FA,concat_meets->Im,Params->Ir,ExcBaseFacts->Iu,wpAny_mkText->Iw,instanceDict->Iz,wpAny_nsSet1->IA,interactive->Jj,IsRangeIter->Jk,wpAny_Slice->Jo,wpAny_alloc->Jq,strsFrom_eq->Jr,setItem->Kr,leaving->Ks,Builtin->Ku,OwnTail->Kv,Model->LX,typeLookup->LZ,refuseLoop->L7,excMatches->L8,closureFor->L_,IsPart->OO,DefRec->OQ,cellOf->OU
open List renaming length_map->ah,mem_cons_of_mem->ai,length_append->ak,mem_cons_self->ao,mem_append_right->az,getElem?_eq_getElem->aA,length_cons->aC,mem_cons->aF,length_singleton->aG,mem_append_left->aN,replicate->aO,not_mem_nil->aR,mem_singleton->aW,mem_append->aY,size_toArray->aZ,append_assoc->a_,map_map->bq,getElem?_map->bD,all_eq_true->bF,map_append->bR,range->bS,nodup_append->bU,getElem?_eq_some_iff->bZ,mem_map->b7,getD_eq_getElem?_getD->b8,length_take->b9,replicate_succ->b_,getElem?_set_ne->cH,lookup_cons->cJ,map_cons->cR,nodup_cons->cZ,getElem?_append_right->c8,length_drop->c9,flatten_cons->dc,take_of_length_le->di,append_nil->dm,getElem?_set_self->eY,getElem?_set->fq,getElem?_append_left->fu,length_nil->fU,getElem_mem->gb,mem_of_getElem?->gA,eq_nil_of_length_eq_zero->gK,drop_append_of_le_length->gM,filterMap_cons->gQ,map_congr_left->gR,nodup_nil->gW,drop_of_length_le->ig,mem_range->jc,filterMap_cons_some->jr,filterMap_cons_none->jt,find?_cons->jN,lookup->jU,any_eq_false->j0,length_range->j4,dropLast_concat_getLast->kh,intercalate->kM,map_drop->kQ,map_take->kR,nil_append->lu,contains_cons->lY,all_map->lZ,mem_replicate->l8,drop_zero->mE,getElem?_cons_succ->mH,range_succ_eq_map->mY,any_cons->nB,any_eq_true->nL,getElem?_of_mem->o8,all_cons->qR,getElem?_eq_none_iff->rS,drop_eq_getElem_cons->rT,getElem_append_right->rV,idxOf_lt_length_iff->tE,drop_length->tK,getElem?_replicate->tM,filter_cons_of_pos->tN,of_mem_zip->uf,filter->uZ,length_replicate->vD,take_left->vK,set_append_right->vL,contains_iff_mem->vM,mem_of_mem_drop->wX,mem_of_mem_take->wY,getElem_of_mem->xG,getElem?_range->xJ,mem_filterMap->zf,any_map->zy,foldl_append->Aa,mem_filter->CC,length_set->CP,foldl->CT,foldl_cons->CU,range_succ->CV,count_cons->CY,idxOf_cons->C5,isPrefixOf->C9,sum_cons->FE,take_nil->FF,map_nil->Iq,map_id->Ju,cons->O0
open PySem.Str renaming ofString->aq,join->ee,length->f9,length_append->q_,empty->OV
open False renaming elim->ay
open PySem.Heap renaming get?_push_of_some->aJ,lt_size->aP,get?_push_size->bL,get?_update_other->eZ,size_push->fL,SameBut->lT,get?_update_self->nV
open Bool renaming false_ne_true->aK,and_eq_true->bu,and_false->gi,eq_iff_iff->iH,false_and->jd,and_eq_true_iff->o9,not_eq_true'->rm,or_true->tF,or_eq_true->uo,and_true->Fz,true_or->Ip
open Nat renaming le_refl->aM,ne_of_lt->bM,lt_of_lt_of_le->bP,lt_irrefl->d8,le_trans->d_,le_of_lt->jl,lt_succ_self->jq,le_succ->jV,lt_succ_of_lt->j3,zero_add->l6,lt_trans->l7,zero_le->mX,ne_of_gt->oW,sub_self->o_,mod_eq_of_lt->tH,min_eq_left->uw,lt_of_succ_lt_succ->uX,succ_mul->zq,add_comm->zu,le_of_eq->zx,toDigits->zA,min_eq_right->BA,mul_comm->IB,mul_succ->ID,repr->IE
open PySem.Value renaming ref->bG,none->d7,bool->jL,builtin->qQ,int->zc,str->zd,isStrOf->Fq,isInt->Jg,bytes->Jh,float->Ji
open Option.some renaming inj->bJ
open PySem.Expr.Name renaming elim->cg
open PySem.NameKind renaming free->cB,cell->cL
open Ne renaming symm->cY
open PySem.Builtin.Str renaming strSliceIndices->dH,spaceWords->jW,tooLong->Mb,strSub->OT
open PySem.Expr.Call renaming elim->eB
open PySem.Calls renaming spliced_cons->fH,spliced_nil->iW,Name_function_global->qM,callWith_builtin->uY
open PyProof.Rows renaming callWith_type1->fV,callWith_builtin1->gD,step_dedup->jx,AllBare->kU,envOfC->mW,subscriptTail->ny,step_dedup->oZ,subscriptTail_builtinR->uV,slot_tuple_getitem->zo,IntsAre->z7,slot_str_getitem->Bs,up1->BB,Subscript_->CN,boot_isinstance->C7,tail_any->Io,upper_ascii->IG,text_ofNat->IJ,SetOf_congr->Jp,join_list->Jt,isTrue_and->LY
open True renaming intro->ie
open PyProof.Rows.F renaming plain_set_update_loop->iD,entry_set_update_loop->lW
open PySem.Txt renaming words->iE,split->jb,upper->nW,mul->Kw
open PySem.Builtin.ObjectAttr renaming storeInOwnDict->ja,ownDictForStores->mD,storeInDict->o6
open List.cons renaming inj->jA
open ForInStep renaming yield->jO
open PySem.Obj renaming mapSeq->kL,mapFields->qO
open PySem.Expr.Subscript renaming elim->kY
open PySem.Builtin.List renaming listTooLong->lU,listFitsIndex->Fy
open Sum renaming inr->p6,inl->sj
open PySem.Code renaming quiet_builtin->qI,isFrame->zh,frames->Jm
open Int renaming fdiv_eq_ediv_of_nonneg->qN,toNat_of_nonneg->xF,add_zero->zB,toNat_natCast->z_,negSucc->AQ,zero_add->IF
open Array renaming getElem?_eq_some_iff->qP,getElem?_toList->vH,length_toList->xC,toList_append->xH,toList->Il
open Option renaming isSome_map->qY,isSome_some->zw,getD_none->Bt
open PySem.StrLaws renaming subAt_one->q9,occ_length_le->Ky,lt_cons_cons->Ma,join_split->OR,split_free->OS,lt_nil_nil->OZ,occ_tight->O3,occ_head->Sl,subAt_eq->Sm
open PySem.PassesOwn renaming never->uu
open PySem.Expr.Tuple renaming elim->uv
open PySem.Around renaming under_plainId->wR,under->zg
open Char renaming toNat->wW,ofNat->C8
open PySem.EntryCells renaming newEntry->xE
open PySem.Expr.Attribute renaming elim->xK
open PySem.Heap.IsSliceOf renaming new->zj
open PySem.Expr.ListComp renaming elim->zz
open Iff renaming rfl->z8
open PySem.Expr.UnaryOp renaming elim->Ad
open PySem.Expr.Compare renaming elim->Ae
open PySem.AutoListH renaming list___mul___list_int_3->AO
open PySem.Expr.BoolOp renaming elim->Bx
open PySem.Stmt.Assign renaming elim->By
open PySem.Builtin.Frozenset renaming updateFrom->DU
open PySem.Stmt.Expr renaming elim->DY
open PySem.Stmt.If renaming elim->IC
open PySem.Builtin.Range renaming rangeSize->II
open PyProof renaming noPylong_small->Jl
open PyProof.Rows.SCL renaming upper->Js
open PySem.W renaming pre_splitW->L4
open PySem.W.WShape renaming has->L5
open PySem.Walks renaming list->L6
open PySem.Stmt.AugAssign renaming elim->Mc
open PySem.SeqAt.EqAt renaming int_str->OM,str_int->ON
open PySem.W.WData renaming int->OP
open PySem.Expr.Constant renaming elim->OW
open PySem.ScopeKind renaming function->OX
open PySem.Stmt.Continue renaming elim->OY
open List.Pairwise renaming nil->O1
open PySem.Heap.Ns1 renaming of_empty->O2
open PySem.DictEntry renaming refKey->Sk
open PySem.Stmt.Return renaming elim->Sn
open PySem.Expr.BinOp renaming elim->Tt
open PySem.Expr.IfExp renaming elim->Tu
open PySem.Expr.Slice renaming elim->Tv
open PySem.Stmt.Break renaming elim->Tw
open PySem.Stmt.Raise renaming elim->Tz
open PySem.Expr.List renaming elim->Vt
open PySem.Value.ref renaming inj->Vu
open PySem.Stmt.For renaming elim->Vv
open PySem.Stmt.Try renaming elim->Vw
open Sum.inl renaming inj->XE
open Sum.inr renaming inj->XF
open PySem.IsRange renaming new->XG
open PySem.W.OpenLaw renaming pre->XH
open PySem.Heap.Ns renaming new->XI
section
namespace L2
open PySem PySem.Spec PyProof.Rows
noncomputable abbrev Key:=Sum Int Str
noncomputable def zC:Key->Value->Bool
|.inl k,v=>Jg k v
|.inr x,v=>Fq x v
noncomputable def Zs(w:bY):Key->Int
|.inl k=>hashInt k
|.inr x=>hashStr w x
theorem g8:∀{k:Key}{v:Value},zC k v=true->(∃i t,k=sj i/\v=zc i t)\/(∃x t,k=p6 x/\v=zd x t)
|.inl i,v,h=>by
 obtain⟨t,e⟩:=Value.isInt_shape (k:=i) (v:=v) h;exact .inl ⟨i,t,rfl,e⟩
|.inr x,v,h=>by
 obtain⟨t,e⟩:=Value.isStrOf_shape (x:=x) (v:=v) h;exact .inr ⟨x,t,rfl,e⟩
theorem Me(i:Int)(t:Tok):zC (.inl i) (.int i t)=true:=by simp[zC,Jg]
theorem Mf(x:Str)(t:Tok):zC (.inr x) (.str x t)=true:=by simp[zC,Fq]
theorem Vx(a b:Int):decide ((sj a:Key)=sj b)=(a==b):=by
 by_cases e:a=b
 ·subst e;simp
 ·have h:¬(sj a:Key)=sj b:=fun q=>e (XE q);rw[decide_eq_false h];exact(beq_eq_false_iff_ne.mpr e).symm
theorem Vy(a b:Str):decide ((p6 a:Key)=p6 b)=decide (a=b):=by
 by_cases e:a=b
 ·subst e;simp
 ·have h:¬(p6 a:Key)=p6 b:=fun q=>e (XF q);rw[decide_eq_false h,decide_eq_false e]
theorem Vz(a:Int)(b:Str):decide ((sj a:Key)=p6 b)=false:=decide_eq_false (fun q=>nomatch q)
theorem VA(a:Str)(b:Int):decide ((p6 a:Key)=sj b)=false:=decide_eq_false (fun q=>nomatch q)
noncomputable def gS(prog:bH)(w:bY):PySem.KeyKind prog w Key where
 is:=zC
 hash:=Zs w
 inj:=fun v a b ha hb=>by
  rcases g8 ha with⟨i,t,rfl,rfl⟩|⟨x,t,rfl,rfl⟩
  ·rcases g8 hb with⟨j,u,rfl,e⟩|⟨y,u,rfl,e⟩
   ·injection e with e1 _;rw[e1]
   ·exact nomatch e
  ·rcases g8 hb with⟨j,u,rfl,e⟩|⟨y,u,rfl,e⟩
   ·exact nomatch e
   ·injection e with e1 _;rw[e1]
 byValue:=fun k v h=>by
  rcases g8 h with⟨i,t,rfl,rfl⟩|⟨x,t,rfl,rfl⟩<;>rfl
 pyHash:=fun hv h=>by
  rcases g8 hv with⟨i,t,rfl,rfl⟩|⟨x,t,rfl,rfl⟩
  ·exact wpAny_pyHash_int h
  ·exact wpAny_pyHash_str h
 eqBool:=fun hu hv h=>by
  rcases g8 hu with⟨i,t,rfl,rfl⟩|⟨x,t,rfl,rfl⟩
  ·rcases g8 hv with⟨j,u,rfl,rfl⟩|⟨y,u,rfl,rfl⟩
   ·rw[Vx]at h;exact wpAny_eqBool_int h
   ·rw[Vz]at h;exact OM i t y u _ _ _ _ h
  ·rcases g8 hv with⟨j,u,rfl,rfl⟩|⟨y,u,rfl,rfl⟩
   ·rw[VA]at h;exact ON x t j u _ _ _ _ h
   ·rw[Vy]at h;exact wpAny_eqBool_str h
 «strs»:=fun k x t v h=>by
  rcases g8 h with⟨i,u,rfl,e⟩|⟨y,u,rfl,e⟩
  ·exact nomatch e
  ·injection e with e1 _;subst e1;cases v<;>rfl
theorem Af(prog:bH)(w:bY)(i:Int)(t:Tok):(gS prog w).is (.inl i) (.int i t)=true:=Me i t
theorem Ag(prog:bH)(w:bY)(x:Str)(t:Tok):(gS prog w).is (.inr x) (.str x t)=true:=Mf x t
end L2
namespace L2
open PySem PySem.Spec PyProof.Rows
inductive V where
 |non|bl (b:Bool)|int (i:Int)|str (x:Str)|byt (b:Array UInt8)|flt (b:UInt64)|ref (a:Addr)|ty (n:String)
 deriving DecidableEq
def RelV:V->Value->Prop
|.non,u=>u=d7
|.bl b,u=>u=jL b
|.int i,u=>∃t,u=zc i t
|.str x,u=>∃t,u=zd x t
|.byt b,u=>∃t,u=Jh b t
|.flt b,u=>∃t,u=Ji b t
|.ref a,u=>u=bG a
|.ty n,u=>u=Value.type n
abbrev bE:List V->List Value->Prop:=Paired RelV
theorem bE.length{xs:List V}{us:List Value}(r:bE xs us):xs.length=us.length:=Paired.length r
theorem bE.get:∀{xs:List V}{us:List Value}{i:Nat}{x:V},bE xs us->xs[i]?=some x->∃u,us[i]?=some u/\RelV x u
|_,_,_,_,.nil,e=>by simp at e
|_,_,0,_,.cons r _,e=>by simp at e;subst e;exact⟨_,rfl,r⟩
|_,_,i+1,x,.cons _ t,e=>by
 obtain⟨u,h1,h2⟩:=bE.get (i:=i) (x:=x) t (by simpa using e);exact⟨u,by simpa using h1,h2⟩
theorem bE.set{x:V}{u:Value}(r:RelV x u):∀{xs:List V}{us:List Value} (i:Nat),bE xs us->bE (xs.set i x) (us.set i u)
|_,_,_,.nil=>.nil
|_,_,0,.cons _ t=>.cons r t
|_,_,i+1,.cons q t=>.cons q (bE.set r i t)
theorem bE.append:∀{xs ys:List V}{us ws:List Value},bE xs us->bE ys ws->bE (xs++ys) (us++ws)
|_,_,_,_,.nil,s=>s
|_,_,_,_,.cons r t,s=>.cons r (bE.append t s)
theorem bE.take:∀{xs:List V}{us:List Value} (n:Nat),bE xs us->bE (xs.take n) (us.take n)
|_,_,0,_=>.nil
|_,_,_+1,.nil=>.nil
|_,_,n+1,.cons r t=>.cons r (bE.take n t)
theorem bE.drop:∀{xs:List V}{us:List Value} (n:Nat),bE xs us->bE (xs.drop n) (us.drop n)
|_,_,0,r=>r
|_,_,_+1,.nil=>.nil
|_,_,n+1,.cons _ t=>bE.drop n t
def pq:Option V->Option Value->Prop
|some v,some u=>RelV v u
|none,none=>True
|_,_=>False
def KV{κ:Type}:List (κ×V)->List (κ×Value)->Prop:=Paired fun(p:κ×V) (q:κ×Value)=>p.1=q.1/\RelV p.2 q.2
noncomputable def kV:Key->V
|.inl i=>.int i
|.inr x=>.str x
inductive HO where
|lst (xs:List V)
|tup (xs:List V)
|dK (kvs:List (Key×V))|dT (kvs:List (List Key×V))
|set (S:Int->Bool) (n:Nat)
|ins (C dx:Addr) (fs:List (Str×V))
|own (x:Addr)
|xd (fs:List (Str×V))
|met (f x:Addr)
|rng (lo hi:Int)
|bz (o:Obj) (u:HO)
|tbl (ps:Array Value)
|ext (φ:Heap->Prop)
noncomputable abbrev Hp:=Addr->Option HO
noncomputable def upd(H:Hp)(a:Addr)(o:HO):Hp:=fun b=>if b=a then some o else H b
variable{H:Hp}{a:Addr}{o:HO}
theorem b6:upd H a o a=some o:=by unfold upd;rw[if_pos rfl]
variable{b:Addr}
theorem aQ(h:b≠a):upd H a o b=H b:=by unfold upd;rw[if_neg h]
variable{u:HO}
theorem XJ(h:H a=some o)(h':H b=some u)(d:o≠u):a≠b:=by
 intro e;subst e;rw[h]at h';exact d (bJ h')
theorem cP(h:H a=some o)(h':H b=none):a≠b:=by
 intro e;subst e;rw[h]at h';cases h'
section
variable(P:bH) (w:bY)
def gj(H:Hp)(h:Heap)(a:Addr):HO->Prop
|.lst xs=>xs.length<=aa/\∃(its:List Value) (n:Nat),bE xs its/\h.get? a=some { cls:=.type "list",data:=.seq its.toArray n }
|.tup xs=>xs.length<=aa/\∃its:List Value,bE xs its/\IsTup h a its.toArray
|.dK kvs=>kvs.length<=aa/\(a==kJ)=false/\∃vs,KV kvs vs/\h.DictOf (gS P w) a vs
|.dT kvs=>kvs.length<=aa/\(a==kJ)=false/\∃xs:List (List Key×Addr×Value),
  Paired (fun(p:List Key×V) (q:List Key×Addr×Value)=>p.1=q.1/\H q.2.1=some (.tup (p.1.map kV))/\RelV p.2 q.2.2) kvs xs /\
  ∃o es ep,h.get? a=some o/\o.ExactDict/\o.data=.dict es ep/\es.toList=xs.map (entryOfKey (ud (gS P w)))/\(xs.map (·.1)).Nodup
|.set S n=>h.SetOf (intKind P w) a S n
|.ins C dx fs=>H dx=some (.own a)/\fs.length<=1000/\dx≠a/\h.get? a=some (PySem.W.instObj C dx) /\
  ∃mA,h.Ns1 dx mA/\(∀f,pq (fs.lookup f) (mA f))/\PySem.Within mA (fs.map (·.1))
|.own _=>∃o,h.get? a=some o
|.xd fs=>∃mA,h.Ns1 a mA/\∀f,pq (fs.lookup f) (mA f)
|.rng lo hi=>∃t u v,h.get? a=some { cls:=.type "range",data:=.fields #[.int lo t,.int hi u,.int 1 v] }
|.bz o u=>h.get? a=some o/\gj H h a u
|.tbl ps=>h.get? a=some { cls:=.none,data:=.fields ps }
|.met f x=>h.get? a=some (PySem.W.methodObj (.ref f) (.ref x))
|.ext φ=>φ h/\(∃o,h.get? a=some o)/\∀h1 h2:Heap,φ h1->(∀o,h1.get? a=some o->h2.get? a=some o)->φ h2
def fW(H:Hp)(h:Heap):Prop:=∀a o,H a=some o->gj P w H h a o
end
section
variable{P:bH}{w:bY}{H H':Hp}{h h':Heap}{a:Addr}{o:HO}
theorem gj.lt(x:gj P w H h a o):a<h.objs.size:=by
 cases o with
 |lst xs=>obtain⟨_,_,_,_,e⟩:=x;exact aP e
 |tup xs=>obtain⟨_,_,_,p⟩:=x;exact p.lt
 |dK kvs=>obtain⟨_,_,_,_,o,_,_,e,_⟩:=x;exact aP e
 |dT kvs=>obtain⟨_,_,_,_,o,_,_,e,_⟩:=x;exact aP e
 |set S n=>obtain⟨o,_,_,_,e,_⟩:=x;exact aP e
 |ins C dx fs=>obtain⟨_,_,_,e,_⟩:=x;exact aP e
 |own y=>obtain⟨_,e⟩:=x;exact aP e
 |xd fs=>obtain⟨_,⟨_,_,_,e,_⟩,_⟩:=x;exact aP e
 |rng lo hi=>obtain⟨_,_,_,e⟩:=x;exact aP e
 |bz ob u=>obtain⟨e,_⟩:=x;exact aP e
 |tbl ps=>exact aP (show h.get? a=some _ from x)
 |met f y=>exact aP (show h.get? a=some _ from x)
 |ext φ=>obtain⟨_,⟨_,e⟩,_⟩:=x;exact aP e
theorem Paired.O4{α β:Type}{F G:α->β->Prop}:∀{aaV:List α}{aaW:List β},Paired F aaV aaW->(∀a b,F a b->G a b)->Paired G aaV aaW
|_,_,.nil,_=>.nil
|_,_,.cons r t,f=>.cons (f _ _ r) (Paired.O4 t f)
theorem gj.stay(x:gj P w H h a o)(k:∀b u,(b=a\/H b=some (.own a))->h.get? b=some u->h'.get? b=some u)
  (ho:∀b,H b=some (.own a)->H' b=some (.own a)) (ht:∀b xs,H b=some (.tup xs)->H' b=some (.tup xs)):gj P w H' h' a o:=by
 induction o with
 |lst xs=>obtain⟨z,its,n,r,e⟩:=x;exact⟨z,its,n,r,k _ _ (.inl rfl) e⟩
 |tup xs=>obtain⟨z,its,r,ob,e,c⟩:=x;exact⟨z,its,r,ob,k _ _ (.inl rfl) e,c⟩
 |dK kvs=>obtain⟨z,y,vs,r,ob,es,ep,e,c⟩:=x;exact⟨z,y,vs,r,ob,es,ep,k _ _ (.inl rfl) e,c⟩
 |dT kvs=>
  obtain⟨z,y,xs,r,ob,es,ep,e,c⟩:=x;exact⟨z,y,xs,Paired.O4 r fun p q z=>⟨z.1,ht _ _ z.2.1,z.2.2⟩,ob,es,ep,k _ _ (.inl rfl) e,c⟩
 |set S n=>obtain⟨ob,es,ep,t,e,c⟩:=x;exact⟨ob,es,ep,t,k _ _ (.inl rfl) e,c⟩
 |ins C dx fs=>
  obtain⟨d,z,ne,e,mA,⟨od,es,ep,e2,c⟩,r⟩:=x;exact⟨ho _ d,z,ne,k _ _ (.inl rfl) e,mA,⟨od,es,ep,k _ _ (.inr d) e2,c⟩,r⟩
 |own y=>obtain⟨ob,e⟩:=x;exact⟨ob,k _ _ (.inl rfl) e⟩
 |xd fs=>obtain⟨mA,⟨od,es,ep,e,c⟩,r⟩:=x;exact⟨mA,⟨od,es,ep,k _ _ (.inl rfl) e,c⟩,r⟩
 |rng lo hi=>obtain⟨t,u,v,e⟩:=x;exact⟨t,u,v,k _ _ (.inl rfl) e⟩
 |bz ob u ih=>obtain⟨e,q⟩:=x;exact⟨k _ _ (.inl rfl) e,ih q⟩
 |tbl ps=>
  have e:h.get? a=some { cls:=.none,data:=.fields ps }:=x;show h'.get? a=some { cls:=.none,data:=.fields ps };exact k a _ (.inl rfl) e
 |met f y=>
  have e:h.get? a=some (PySem.W.methodObj (.ref f) (.ref y)):=x;show h'.get? a=some (PySem.W.methodObj (.ref f) (.ref y));exact k a _ (.inl rfl) e
 |ext φ=>obtain⟨p,⟨o,e⟩,st⟩:=x;exact⟨st _ _ p fun o q=>k _ _ (.inl rfl) q,⟨o,k _ _ (.inl rfl) e⟩,st⟩
theorem fW.lt(x:fW P w H h)(e:H a=some o):a<h.objs.size:=(x a o e).lt
theorem fW.fresh(x:fW P w H h)(e:h.objs.size<=a):H a=none:=by
 cases q:H a with
 |none=>rfl
 |some u=>exact absurd (bP (x.lt q) e) (d8 _)
theorem fW.kept(x:fW P w H h)(k:∀b u,h.get? b=some u->h'.get? b=some u):fW P w H h':=fun a o e=>
 (x a o e).stay (fun b u _ q=>k b u q) (fun _ q=>q) fun _ _ q=>q
theorem fW.laid(x:fW P w H h)(k:∀b u,h.get? b=some u->h'.get? b=some u)(hp:h.objs.size<=a)(new:gj P w (upd H a o) h' a o):fW P w (upd H a o) h':=fun b u e=>by
 have hn:=x.fresh hp;by_cases hb:b=a
 ·subst hb;rw[b6]at e;cases e;exact new
 ·rw[aQ hb]at e;exact(x b u e).stay (fun c v _ q=>k c v q) (fun c q=>by rw[aQ (cP q hn)];exact q) fun c xs q=>by rw[aQ (cP q hn)];exact q
end
def Rd(H:Hp)(a:Addr)(u:HO):Prop:=H a=some u\/∃o,H a=some (.bz o u)
variable{h:Heap}
theorem Rd.ok{P:bH}{w:bY}(r:Rd H a u)(x:fW P w H h):gj P w H h a u:=by
 rcases r with r|⟨o,r⟩
 ·exact x a u r
 ·obtain⟨_,q⟩:=x a _ r;exact q
def Mg:Option HO->Prop
|some (.lst _)=>True
|some (.dK _)=>True
|some (.dT _)=>True
|some (.set _ _)=>True
|some (.ins _ _ _)=>True
|some (.ext _)=>True
|_=>False
section
variable{P:bH}{w:bY}{H:Hp}{h h':Heap}{x e:Addr}{o':HO}
theorem fW.write(ok:fW P w H h)(mu:Mg (H x))(he:e=x\/H e=some (.own x))(k:∀b u,b≠e->h.get? b=some u->h'.get? b=some u)(heo:∃u,h'.get? e=some u)
  (new:gj P w (upd H x o') h' x o'):fW P w (upd H x o') h':=fun b u q=>by
 have nown:∀c y,H c=some (.own y)->c≠x:=fun c y r z=>by subst z;rw[r]at mu;exact mu
 have ntup:∀c xs,H c=some (.tup xs)->c≠x:=fun c xs r z=>by subst z;rw[r]at mu;exact mu
 by_cases hb:b=x
 ·subst hb;rw[b6]at q;cases q;exact new
 ·rw[aQ hb]at q;by_cases hbe:b=e
  ·have q':H b=some (.own x):=by
    rcases he with z|z
    ·exact absurd (hbe.trans z) hb
    ·rw[hbe];exact z
   rw[q]at q';cases q';obtain⟨v,hv⟩:=heo;exact⟨v,by rw[hbe];exact hv⟩
  ·refine(ok b u q).stay (fun c v hc r=>k c v ?_ r) (fun c r=>by rw[aQ (nown c b r)];exact r) fun c xs r=>by rw[aQ (ntup c xs r)];exact r
   rcases hc with rfl|hc
   ·exact hbe
   ·rintro rfl;rcases he with z|z
    ·exact nown c b hc z
    ·rw[hc]at z;cases z;exact hb rfl
end
structure Un (fs ex:List Addr) (H H':Hp) (h h':Heap):Prop where
 keep:∀b o,h.get? b=some o->H b=none->b∉fs->b∉ex->h'.get? b=some o
 slot:∀b o,h.get? b=some o->H b=none->b∈fs->b∉ex->∃sl,h'.get? b=some { o with slots:=sl }
 free:∀b o,h.get? b=some o->H b=none->b∉ex->H' b=none
 there:∀b o,h.get? b=some o->b∉ex->∃o',h'.get? b=some o'
 tups:∀b xs,H b=some (.tup xs)->H' b=some (.tup xs)
 aB:∀b o u,H b=some (.bz o u)->H' b=some (.bz o u)
 tbls:∀b ps,H b=some (.tbl ps)->∃more,H' b=some (.tbl (ps++more))
section
variable{fs fs' ex ex':List Addr}{H H1 H2:Hp}{h h1 h2 h':Heap}{a x e:Addr}{o:HO}
theorem Un.any(u:Un fs ex H H1 h h1){ob:Obj}(q:h.get? b=some ob)(n:H b=none)(hx:b∉ex):∃sl,h1.get? b=some { ob with slots:=sl }:=by
 by_cases hb:b∈fs
 ·exact u.slot b ob q n hb hx
 ·exact⟨ob.slots,u.keep b ob q n hb hx⟩
theorem Un.kept(k:∀b u,h.get? b=some u->h'.get? b=some u):Un fs ex H H h h':=
 ⟨fun b ob q _ _ _=>k b ob q,fun b ob q _ _ _=>⟨ob.slots,k b ob q⟩,fun _ _ _ n _=>n,fun b ob q _=>⟨ob,k b ob q⟩,fun _ _ q=>q,fun _ _ _ q=>q,fun _ ps q=>⟨#[],by rw[q];simp⟩⟩
theorem Un.refl:Un fs ex H H h h:=Un.kept fun _ _ q=>q
theorem Un.laid(k:∀b u,h.get? b=some u->h'.get? b=some u)(hp:h.objs.size<=a)(hn:H a=none):Un fs ex H (upd H a o) h h' where
 keep:=fun b u q _ _ _=>k b u q
 slot:=fun b u q _ _ _=>⟨u.slots,k b u q⟩
 free:=fun b u q n _=>by rw[aQ (bM (bP (aP q) hp))];exact n
 there:=fun b u q _=>⟨u,k b u q⟩
 tups:=fun b xs q=>by rw[aQ (cP q hn)];exact q
 aB:=fun b u xs q=>by rw[aQ (cP q hn)];exact q
 tbls:=fun b ps q=>⟨#[],by rw[aQ (cP q hn),q];simp⟩
theorem Un.write(mu:Mg (H x))(he:e=x\/H e=some (.own x))(k:∀b u,b≠e->h.get? b=some u->h'.get? b=some u)(heo:∃u,h'.get? e=some u):Un fs ex H (upd H x o) h h':=by
 have hx:∀b,H b=none->b≠x:=fun b n z=>by subst z;rw[n]at mu;exact mu
 have hb:∀b,H b=none->b≠e:=fun b n z=>by
  subst z;rcases he with r|r
  ·exact hx b n r
  ·rw[n]at r;cases r
 have hm:∀b u,H b=some u->¬Mg (some u)->b≠x:=fun b u q nm z=>by subst z;rw[q]at mu;exact nm mu
 refine⟨fun b u q n _ _=>k b u (hb b n) q,fun b u q n _ _=>⟨u.slots,k b u (hb b n) q⟩,fun b u q n _=>by rw[aQ (hx b n)];exact n,fun b u q _=>?_,
  fun b xs q=>by rw[aQ (hm b _ q fun z=>z)];exact q,fun b u xs q=>by rw[aQ (hm b _ q fun z=>z)];exact q,fun b ps q=>⟨#[],by rw[aQ (hm b _ q fun z=>z),q];simp⟩⟩
 by_cases hbe:b=e
 ·subst hbe;exact heo
 ·exact⟨u,k b u hbe q⟩
end
noncomputable def So(h:Heap)(H:Hp):List Addr:=(bS h.objs.size).filter fun a=>(H a).isSome
noncomputable def vN(h:Heap)(H:Hp):Heap:=PySem.W.hideAll h (So h H)
theorem Mh(h:Heap)(H:Hp):(vN h H).objs.size=h.objs.size:=PySem.W.hideAll_size _ _
theorem O5{o:Obj}(e:h.get? b=some o)(n:H b=none):(vN h H).get? b=some o:=
 PySem.W.hideAll_get _ e fun hm=>by
  have q:(H b).isSome=true:=(CC.mp hm).2;rw[n]at q;simp at q
theorem TF{o:Obj}(e:(vN h H).get? b=some o):h.get? b=some o/\H b=none:=by
 have e':h.get? b=some o:=PySem.W.of_hideAll (So h H) e;refine⟨e',?_⟩;cases q:H b with
 |none=>rfl
 |some x=>
  have hm:b∈So h H:=CC.mpr ⟨jc.mpr (aP e'),by simp[q]⟩;have z:(vN h H).get? b=none:=PySem.W.hideAll_none (So h H) hm;rw[z]at e;cases e
noncomputable def TH(g h:Heap)(L:Addr):List (Addr×Obj):=(bS h.objs.size).filterMap fun a=>if a=L\/(g.get? a).isSome=true then none else(h.get? a).map fun o=>(a,o)
noncomputable def rest(g h:Heap)(L d:Addr):List (Addr×Obj):=(TH g h L).filter fun p=>decide (p.1≠d)
end L2
namespace L2
open PySem PySem.Spec PyProof.Rows
structure Mod (K:PySem.W.Frag) (mg:Str->Option Value) (base:Heap):Prop where
 kin:K.In base
 glob:base.Ns dh mg
 blt:∃mb,base.Ns CF mb/\∀x:Str,x≠"__name__"->mb x=oV x
 nolimit:base.NoLimit
structure Cx where
 prog:bH
 w:bY
 K:PySem.W.Frag
 mg:Str->Option Value
 base:Heap
 A:dF
 N:List Str
 aax:aj
 aaI:Hp
 env:Env
 outer:List Env
 stack:List Env
 ex:List Addr
 fn:Str->Bool
 calm:Bool
 pn:List (Addr×Obj)
 xe:Value->aj->Prop
noncomputable def frs(l:List Env):List Addr:=l.filterMap (·.frame)
noncomputable abbrev Cx.fs(X:Cx):List Addr:=frs X.outer
def DZ(sc:fS)(x:Str):Prop:=sc.names.lookup x=some .local\/sc.names.lookup x=some .cell\/sc.names.lookup x=some .free
def Loc(sc:fS)(x:Str):Prop:=sc.names.lookup x=some .local\/sc.names.lookup x=some .cell
def Look(env:Env)(h:Heap)(m:Str->Option Value)(x:Str)(u:Value):Prop:=
 (env.kindOf x=some .local/\m x=some u)\/((env.kindOf x=some .cell\/env.kindOf x=some .free)/\∃c,env.cells.lookup x=some c/\h.IsCell c (some u))
structure Cx.Ok (X:Cx):Prop where
 mod:Mod X.K X.mg X.base
 kind:X.env.scope.kind=.function
 glob:X.env.globals=dh
 blt:X.env.builtins=CF
 above:X.aax.heap.objs.size<=X.env.locals
 inj:∀x y c,X.env.cells.lookup x=some c->X.env.cells.lookup y=some c->x=y
 has:∀x,(X.env.kindOf x=some .cell\/X.env.kindOf x=some .free)->∃c,X.env.cells.lookup x=some c
 cab:∀x c,X.fn x=true->X.env.cells.lookup x=some c->X.aax.heap.objs.size<=c
 hd:X.calm=true->X.A.handled=none
 frames:X.A.frames=some X.stack
 stk:X.stack=X.outer\/(X.stack=X.env::X.outer/\X.env.frame=some X.env.locals)
 exf:∀b∈X.ex,b≠X.env.locals/\∀x c,X.env.cells.lookup x=some c->c≠b
 bs:∀b o,X.base.get? b=some o->X.aax.heap.get? b=some o/\X.aaI b=none
 bsz:X.base.objs.size<=X.aax.heap.objs.size
 noex:∀b o,X.base.get? b=some o->b∉X.ex
 exfs:∀b∈X.ex,b∉X.fs
 nX:X.aax.heap.FunFrames X.base X.outer
 frf:∀b∈X.fs,X.aaI b=none
structure Inv (X:Cx) (pins:List (Addr×Obj)) (O:List (Option V)) (H:Hp) (s:aj):Prop where
 ok:X.Ok
 os:s.os=X.aax.os
 bare:kU s.gens
 base:Un X.fs X.ex X.aaI H X.aax.heap s.heap
 loc:∃m,s.heap.Ns X.env.locals m/\∀(i:Nat) (x:Str) (v:V),X.N[i]?=some x->O[i]?=some (some v)->DZ X.env.scope x->∃u,RelV v u/\Look X.env s.heap m x u
 cell:∀x c,X.env.cells.lookup x=some c->∃v,s.heap.IsCell c v
 free:H X.env.locals=none
 freeC:∀x c,X.env.cells.lookup x=some c->H c=none
 pin:∀p∈X.pn++pins,s.heap.get? p.1=some p.2/\H p.1=none/\p.1≠X.env.locals/\p.1∉X.fs/\∀v,p.2.data≠.cell v
 hok:fW X.prog X.w H s.heap
 len:O.length=X.N.length
variable{a:Addr}
variable{g':Array Bq}{t':Nat}{d':Drawn}{ch:List Addr}
variable{i:Nat}{x:Str}
variable{M:LX}{A:dF}{E:Value->aj->Prop}{u:Value}{Q:Unit->aj->Prop}
section
variable{X:Cx}{pins:List (Addr×Obj)}{O:List (Option V)}{H H':Hp}{s:aj}{h':Heap}
theorem Cx.Ok.Zt(ok:X.Ok){b:Addr}{o:Obj}(e:X.base.get? b=some o):b∉X.fs:=fun hb=>by
 have:=(ok.nX.mem hb).1;rw[e]at this;cases this
theorem Inv.bs(I:Inv X pins O H s):∀b o,X.base.get? b=some o->s.heap.get? b=some o/\H b=none:=fun b o e=>
 ⟨I.base.keep b o (I.ok.bs b o e).1 (I.ok.bs b o e).2 (I.ok.Zt e) (I.ok.noex b o e),I.base.free b o (I.ok.bs b o e).1 (I.ok.bs b o e).2 (I.ok.noex b o e)⟩
theorem Inv.bk(I:Inv X pins O H s):∀b o,X.base.get? b=some o->s.heap.get? b=some o:=fun b o e=>(I.bs b o e).1
theorem Inv.mod(I:Inv X pins O H s):Mod X.K X.mg X.base:=I.ok.mod
theorem Inv.ki(I:Inv X pins O H s):X.K.In s.heap:=I.ok.mod.kin.keeps I.bk
theorem Inv.lt(I:Inv X pins O H s):X.env.locals<s.heap.objs.size:=let⟨_,hn,_⟩:=I.loc;hn.lt
theorem Inv.sz(I:Inv X pins O H s):X.aax.heap.objs.size<=s.heap.objs.size:=d_ I.ok.above (jl I.lt)
theorem Inv.Zu(I:Inv X pins O H s)(h:s.heap.objs.size<=a):a∉X.fs:=fun hb=>by
 obtain⟨_,o,ho,_⟩:=I.ok.nX.mem hb;exact absurd (bP (aP ho) (d_ I.sz h)) (d8 _)
theorem Inv.BC(I:Inv X pins O H s):∀x c,X.env.cells.lookup x=some c->c≠X.env.locals:=fun x c e z=>by
 obtain⟨v,o,ho,hd⟩:=I.cell x c e;obtain⟨m,⟨o',es,ep,ho',hd',_⟩,_⟩:=I.loc;rw[z,ho']at ho;cases ho;rw[hd']at hd;cases hd
theorem Inv.nX(I:Inv X pins O H s):s.heap.FunFrames X.base X.outer:=by
 have all:∀(l:List Env),(∀b∈frs l,b∈X.fs)->X.aax.heap.FunFrames X.base l->s.heap.FunFrames X.base l:=by
  intro l;induction l with
  |nil=>intro _ _;trivial
  |cons env r ih=>
   intro hs hl;obtain⟨hk,⟨L,o,hf,hn,ho,hd⟩,hr⟩:=hl;have hL:L∈X.fs:=hs L (by unfold frs;rw[gQ,hf];exact ao);obtain⟨sl,e⟩:=I.base.slot L o ho (I.ok.frf L hL) hL fun z=>I.ok.exfs L z hL;exact⟨hk,⟨L,_,hf,hn,e,hd⟩,ih (fun b hb=>hs b (by unfold frs;rw[gQ,hf];exact ai _ hb)) hr⟩
 exact all X.outer (fun _ hb=>hb) I.ok.nX
theorem Inv.stack(I:Inv X pins O H s):s.heap.FunFrames X.base X.stack:=by
 rcases I.ok.stk with e|⟨e,hf⟩
 ·rw[e];exact I.nX
 ·rw[e];obtain⟨m,hn,_⟩:=I.loc;refine .cons (by rw[I.ok.kind];decide) hf hn ?_ I.nX;exact Heap.get?_none_of_le (d_ I.ok.bsz I.ok.above)
theorem Inv.u5(I:Inv X pins O H s):∀b∈frs X.stack,b∈X.env.locals::X.fs:=fun b hb=>by
 rcases I.ok.stk with e|⟨e,hf⟩
 ·rw[e]at hb;exact ai _ hb
 ·rw[e]at hb;unfold frs at hb;rw[gQ,hf]at hb;exact hb
theorem Inv.C_(I:Inv X pins O H s):∀b∈frs X.stack,H b=none:=fun b hb=>by
 rcases aF.mp (I.u5 b hb)with e|hb
 ·rw[e];exact I.free
 ·obtain⟨_,o,ho,_⟩:=I.ok.nX.mem hb;exact I.base.free b o ho (I.ok.frf b hb) fun z=>I.ok.exfs b z hb
theorem Inv.step(I:Inv X pins O H s)
  (hch:∀b∈ch,(b∈X.ex\/X.aax.heap.objs.size<=b)/\b≠X.env.locals/\(∀x c,X.env.cells.lookup x=some c->c≠b)/\∀p∈X.pn++pins,p.1≠b)
  (keep:∀b o,b≠X.env.locals->b∉X.fs->b∉ch->s.heap.get? b=some o->H b=none->h'.get? b=some o)
  (slot:∀b o,b≠X.env.locals->b∈X.fs->b∉ch->s.heap.get? b=some o->H b=none->∃sl,h'.get? b=some { o with slots:=sl }) (free:∀b o,b∉ch->s.heap.get? b=some o->H b=none->H' b=none)
  (there:∀b o,b∉ch->s.heap.get? b=some o->∃o',h'.get? b=some o')
  (tups:∀b xs,H b=some (.tup xs)->H' b=some (.tup xs)) (aB:∀b o u,H b=some (.bz o u)->H' b=some (.bz o u)) (tbls:∀b ps,H b=some (.tbl ps)->∃more,H' b=some (.tbl (ps++more)))
  (ns:∀m,s.heap.Ns X.env.locals m->h'.Ns X.env.locals m) (hok:fW X.prog X.w H' h') (hg:kU g') :
  Inv X pins O H' { s with heap:=h',gens:=g',drawn:=d',toks:=t' }:=by
 have neL:∀b o,X.aax.heap.get? b=some o->b≠X.env.locals:=fun b o e=>bM (bP (aP e) I.ok.above);have neC:∀b o,X.aax.heap.get? b=some o->b∉X.ex->b∉ch:=fun b o e hx hb=>by
  rcases(hch b hb).1 with z|z
  ·exact hx z
  ·exact absurd (bP (aP e) z) (d8 _)
 have cellK:∀x c,X.env.cells.lookup x=some c->∀v,s.heap.IsCell c v->h'.IsCell c v:=fun x c e v ⟨o,ho,hd⟩=>by
  have nch:c∉ch:=fun z=>(hch c z).2.2.1 x c e rfl;by_cases hc:c∈X.fs
  ·obtain⟨sl,q⟩:=slot c o (I.BC x c e) hc nch ho (I.freeC x c e);exact⟨_,q,hd⟩
  ·exact⟨o,keep c o (I.BC x c e) hc nch ho (I.freeC x c e),hd⟩
 refine⟨I.ok,I.os,hg,⟨fun b o e n hb hx=>?_,fun b o e n hb hx=>?_,fun b o e n hx=>?_,fun b o e hx=>?_,fun b xs e=>tups b xs (I.base.tups b xs e),fun b o xs e=>aB b o xs (I.base.aB b o xs e),fun b ps e=>?_⟩,?_,fun x c e=>?_,?_,fun x c e=>?_,fun p hp=>?_,hok,I.len⟩
 ·exact keep b o (neL b o e) hb (neC b o e hx) (I.base.keep b o e n hb hx) (I.base.free b o e n hx)
 ·obtain⟨sl,e1⟩:=I.base.slot b o e n hb hx;obtain⟨sl',e2⟩:=slot b _ (neL b o e) hb (neC b o e hx) e1 (I.base.free b o e n hx);exact⟨sl',e2⟩
 ·obtain⟨o',e1⟩:=I.base.there b o e hx;exact free b o' (neC b o e hx) e1 (I.base.free b o e n hx)
 ·obtain⟨o',e1⟩:=I.base.there b o e hx;exact there b o' (neC b o e hx) e1
 ·obtain⟨m1,e1⟩:=I.base.tbls b ps e;obtain⟨m2,e2⟩:=tbls b _ e1;exact⟨m1++m2,by rw[e2,Array.append_assoc]⟩
 ·obtain⟨m,hn,hl⟩:=I.loc;refine⟨m,ns m hn,fun i x v e1 e2 e3=>?_⟩;obtain⟨u,r,l⟩:=hl i x v e1 e2 e3;refine⟨u,r,?_⟩;rcases l with l|⟨k,c,e,z⟩
  ·exact .inl l
  ·exact .inr ⟨k,c,e,cellK x c e _ z⟩
 ·obtain⟨v,z⟩:=I.cell x c e;exact⟨v,cellK x c e v z⟩
 ·obtain⟨m,⟨o,_,_,ho,_⟩,_⟩:=I.loc;exact free _ o (fun z=>(hch _ z).2.1 rfl) ho I.free
 ·obtain⟨v,o,ho,hd⟩:=I.cell x c e;exact free c o (fun z=>(hch c z).2.2.1 x c e rfl) ho (I.freeC x c e)
 ·obtain⟨e,n,ne,nf,d⟩:=I.pin p hp;have nch:p.1∉ch:=fun z=>(hch p.1 z).2.2.2 p hp rfl;exact⟨keep p.1 p.2 ne nf nch e n,free p.1 p.2 nch e n,ne,nf,d⟩
theorem Inv.un(I:Inv X pins O H s)(u:Un X.fs [] H H' s.heap h')(hok:fW X.prog X.w H' h'):Inv X pins O H' { s with heap:=h',toks:=t' }:=by
 obtain⟨m,⟨o,es,ep,ho,r⟩,_⟩:=id I.loc;obtain⟨sl,hL⟩:=u.any ho I.free (by simp);exact I.step (g':=s.gens) (d':=s.drawn) (ch:=[]) (fun _ z=>nomatch z) (fun b o _ hb _ e n=>u.keep b o e n hb (by simp)) (fun b o _ hb _ e n=>u.slot b o e n hb (by simp)) (fun b o _ e n=>u.free b o e n (by simp)) (fun b o _ e=>u.there b o e (by simp)) u.tups u.aB u.tbls (fun m' hm=>by
  obtain⟨o',es',ep',ho',r'⟩:=hm;rw[ho]at ho';cases ho';exact⟨_,es',ep',hL,r'⟩) hok I.bare
theorem Inv.call(I:Inv X pins O H s)(u:Un (frs X.stack) ch H H' s.heap h')(hok:fW X.prog X.w H' h')(hg:kU g')
  (hch:∀b∈ch,(b∈X.ex\/X.aax.heap.objs.size<=b)/\b≠X.env.locals/\(∀x c,X.env.cells.lookup x=some c->c≠b)/\∀p∈X.pn++pins,p.1≠b) :
  Inv X pins O H' { s with heap:=h',gens:=g',drawn:=d',toks:=t' }:=by
 obtain⟨m,⟨o,es,ep,ho,r⟩,_⟩:=id I.loc;obtain⟨sl,hL⟩:=u.any ho I.free fun z=>(hch _ z).2.1 rfl;exact I.step (ch:=ch) hch (fun b o hL hb hc e n=>u.keep b o e n (fun z=>(aF.mp (I.u5 b z)).elim hL hb) hc) (fun b o _ _ hc e n=>u.any e n hc) (fun b o hc e n=>u.free b o e n hc) (fun b o hc e=>u.there b o e hc) u.tups u.aB u.tbls (fun m' hm=>by
  obtain⟨o',es',ep',ho',r'⟩:=hm;rw[ho]at ho';cases ho';exact⟨_,es',ep',hL,r'⟩) hok hg
theorem Inv.turned{it:Addr}(I:Inv X pins O H s)(k:∀b o,b≠it->s.heap.get? b=some o->h'.get? b=some o)(hn:H it=none)(hL:it≠X.env.locals)
  (h1:it∈X.ex\/X.aax.heap.objs.size<=it) (h2:∀x c,X.env.cells.lookup x=some c->c≠it) (h3:∀p∈X.pn++pins,p.1≠it):Inv X pins O H { s with heap:=h',toks:=t' }:=by
 have nit:∀b u,H b=some u->b≠it:=fun b u e z=>by rw[z,hn]at e;cases e
 refine I.step (g':=s.gens) (d':=s.drawn) (ch:=[it]) (fun b hb=>?_) (fun b o _ _ hc e _=>k b o (fun z=>hc (by simp[z])) e) (fun b o _ _ hc e _=>⟨o.slots,k b o (fun z=>hc (by simp[z])) e⟩) (fun _ _ _ _ n=>n)
  (fun b o hc e=>⟨o,k b o (fun z=>hc (by simp[z])) e⟩) (fun _ _ e=>e) (fun _ _ _ e=>e) (fun b ps e=>⟨#[],by rw[e];simp⟩) (fun m hm=>?_) (fun b u e=>?_) I.bare
 ·have e:b=it:=by simpa using hb
  subst e;exact⟨h1,hL,h2,h3⟩
 ·obtain⟨o,es,ep,ho,r⟩:=hm;exact⟨o,es,ep,k _ o (cY hL) ho,r⟩
 ·refine(I.hok b u e).stay (fun c v hc q=>k c v ?_ q) (fun _ q=>q) fun _ _ q=>q;rcases hc with z|z
  ·rw[z];exact nit b u e
  ·exact nit c _ z
theorem Inv.tok(I:Inv X pins O H s)(t:Nat):Inv X pins O H { s with toks:=t }:=I.un (h':=s.heap) (t':=t) Un.refl I.hok
theorem Inv.kept(I:Inv X pins O H s)(k:∀b u,s.heap.get? b=some u->h'.get? b=some u):Inv X pins O H { s with heap:=h',toks:=t' }:=I.un (Un.kept k) (I.hok.kept k)
theorem Inv.laid{o:HO}(I:Inv X pins O H s)(k:∀b u,s.heap.get? b=some u->h'.get? b=some u)(hp:s.heap.objs.size<=a)(new:gj X.prog X.w (upd H a o) h' a o) :
  Inv X pins O (upd H a o) { s with heap:=h',toks:=t' }:=I.un (Un.laid k hp (I.hok.fresh hp)) (I.hok.laid k hp new)
theorem Inv.write{x e:Addr}{o:HO}{t':Nat}(I:Inv X pins O H s)(mu:Mg (H x))(he:e=x\/H e=some (.own x))(k:∀b u,b≠e->s.heap.get? b=some u->h'.get? b=some u)(heo:∃u,h'.get? e=some u)
  (new:gj X.prog X.w (upd H x o) h' x o):Inv X pins O (upd H x o) { s with heap:=h',toks:=t' }:=I.un (Un.write mu he k heo) (I.hok.write mu he k heo new)
theorem Inv.zD{pins':List (Addr×Obj)}(I:Inv X pins O H s)(h:∀p∈pins',s.heap.get? p.1=some p.2/\H p.1=none/\p.1≠X.env.locals/\p.1∉X.fs/\∀v,p.2.data≠.cell v):Inv X pins' O H s:=
 ⟨I.ok,I.os,I.bare,I.base,I.loc,I.cell,I.free,I.freeC,fun p hp=>(aY.mp hp).elim (fun z=>I.pin p (aN _ z)) (h p),I.hok,I.len⟩
theorem AR{N:List Str}(hN:N.Nodup){j:Nat}(a:N[i]?=some x)(b:N[j]?=some x):i=j:=by
 obtain⟨h1,e1⟩:=bZ.mp a;obtain⟨h2,e2⟩:=bZ.mp b;exact(List.getElem_inj hN).mp (e1.trans e2.symm)
theorem D0{v:V}(I:Inv X pins O H s)(hN:X.N.Nodup)(hi:X.N[i]?=some x)(hx:Loc X.env.scope x)(r:RelV v u)
  (h:∀s',Inv X pins (O.set i (some v)) H s'->(∃a,lT a s.heap s'.heap/\(a=X.env.locals\/X.env.cells.lookup x=some a))->Q () s') (hf:X.fn x=true\/X.env.scope.names.lookup x=some .local:=by first|exact .inl rfl|exact .inr rfl|assumption):aD M A (E7 X.env x u) Q E s:=by
 obtain⟨m,hn,hl⟩:=id I.loc;have hcls:(X.env.scope.kind==.class||(X.env.scope.kind==.module&&X.env.locals != X.env.globals))=false:=by rw[I.ok.kind];rfl
 have aaX:i<O.length:=by rw[I.len];exact(bZ.mp hi).1
 have BC:=I.BC;have tracked:∀{a:Addr}{h':Heap},(∃o,s.heap.get? a=some o/\H a=none)->lT a s.heap h'->fW X.prog X.w H h':=fun{a h'} ha hs b ob e=>by
  obtain⟨_,_,hfree⟩:=ha;refine(I.hok b ob e).stay (fun c w' hc q=>(hs.2 c ?_).trans q) (fun _ q=>q) fun _ _ q=>q;rintro rfl;rcases hc with rfl|hc
  ·rw[hfree]at e;cases e
  ·rw[hfree]at hc;cases hc
 rcases hx with hk|hk
 ·refine wpAny_storeName_local hk hn (fun h' hn' hs=>?_) hcls;obtain⟨oL,_,_,hoL,_⟩:=id hn;refine h _ ⟨I.ok,I.os,I.bare,⟨fun b o e n hb hx=>?_,fun b o e n hb hx=>?_,I.base.free,fun b o e hx=>?_,I.base.tups,I.base.aB,I.base.tbls⟩,⟨_,hn',fun j y v' e1 e2 e3=>?_⟩,fun y c e=>?_,I.free,I.freeC,fun p hp=>?_,tracked ⟨oL,hoL,I.free⟩ hs,by simpa using I.len⟩ ⟨_,hs,.inl rfl⟩
  ·exact(hs.2 b (bM (bP (aP e) I.ok.above))).trans (I.base.keep b o e n hb hx)
  ·obtain⟨sl,e1⟩:=I.base.slot b o e n hb hx;exact⟨sl,(hs.2 b (bM (bP (aP e) I.ok.above))).trans e1⟩
  ·obtain⟨o',e1⟩:=I.base.there b o e hx;exact⟨o',(hs.2 b (bM (bP (aP e) I.ok.above))).trans e1⟩
  ·by_cases hj:j=i
   ·subst hj;rw[hi]at e1;cases e1;rw[eY aaX]at e2;cases e2;exact⟨u,r,.inl ⟨hk,by simp⟩⟩
   ·rw[cH (cY hj)]at e2;obtain⟨u',r',q⟩:=hl j y v' e1 e2 e3;refine⟨u',r',?_⟩;rcases q with⟨k,e⟩|⟨k,c,e,z⟩
    ·refine .inl ⟨k,?_⟩;have:y≠x:=fun e=>hj (AR hN e1 (e▸hi));simp[this,e]
    ·exact .inr ⟨k,c,e,z.sameBut hs (BC y c e)⟩
  ·obtain⟨w',z⟩:=I.cell y c e;exact⟨w',z.sameBut hs (BC y c e)⟩
  ·obtain⟨e,n,ne,nf,d⟩:=I.pin p hp;exact⟨(hs.2 p.1 ne).trans e,n,ne,nf,d⟩
 ·have hfn:X.fn x=true:=by
   rcases hf with z|z
   ·exact z
   ·rw[z]at hk;cases hk
  obtain⟨c,hc⟩:=I.ok.has x (.inl hk);obtain⟨w',z⟩:=I.cell x c hc;refine wpAny_storeName_cell I.ok.kind hk hc z (fun h' hc' hs=>?_);obtain⟨oc,hoc,hocd⟩:=id z;refine h { s with heap:=h' } ⟨I.ok,I.os,I.bare,⟨fun b o e n hb hx=>?_,fun b o e n hb hx=>?_,I.base.free,fun b o e hx=>?_,I.base.tups,I.base.aB,I.base.tbls⟩,⟨m,hn.sameBut hs (cY (BC x c hc)),fun j y v' e1 e2 e3=>?_⟩,fun y c' e=>?_,I.free,I.freeC,fun p hp=>?_,tracked ⟨oc,hoc,I.freeC x c hc⟩ hs,by simpa using I.len⟩ ⟨c,hs,.inr hc⟩
  ·exact(hs.2 b (bM (bP (aP e) (I.ok.cab x c hfn hc)))).trans (I.base.keep b o e n hb hx)
  ·obtain⟨sl,e1⟩:=I.base.slot b o e n hb hx;exact⟨sl,(hs.2 b (bM (bP (aP e) (I.ok.cab x c hfn hc)))).trans e1⟩
  ·obtain⟨o',e1⟩:=I.base.there b o e hx;exact⟨o',(hs.2 b (bM (bP (aP e) (I.ok.cab x c hfn hc)))).trans e1⟩
  ·by_cases hj:j=i
   ·subst hj;rw[hi]at e1;cases e1;rw[eY aaX]at e2;cases e2;exact⟨u,r,.inr ⟨.inl hk,c,hc,hc'⟩⟩
   ·rw[cH (cY hj)]at e2;obtain⟨u',r',q⟩:=hl j y v' e1 e2 e3;refine⟨u',r',?_⟩;rcases q with q|⟨k,c',e,z'⟩
    ·exact .inl q
    ·refine .inr ⟨k,c',e,z'.sameBut hs ?_⟩;rintro rfl;exact hj (AR hN e1 (I.ok.inj _ _ _ e hc▸hi))
  ·by_cases hcc:c'=c
   ·subst hcc;exact⟨_,hc'⟩
   ·obtain⟨w2,z2⟩:=I.cell y c' e;exact⟨w2,z2.sameBut hs hcc⟩
  ·obtain⟨e,n,ne,nf,d⟩:=I.pin p hp;refine⟨(hs.2 p.1 ?_).trans e,n,ne,nf,d⟩;intro q;rw[q,hoc]at e;have q':oc=p.2:=bJ e;exact d w' (by rw[<-q'];exact hocd)
theorem vO{v:V}(I:Inv X pins O H s)(hN:X.N.Nodup)(hi:X.N[i]?=some x)(hx:Loc X.env.scope x)(r:RelV v u)
  (h:∀s',Inv X pins (O.set i (some v)) H s'->Q () s') (hf:X.fn x=true\/X.env.scope.names.lookup x=some .local:=by first|exact .inl rfl|exact .inr rfl|assumption):aD M A (E7 X.env x u) Q E s:=
 D0 I hN hi hx r (fun s' I' _=>h s' I') hf
theorem Inv.call'{s':aj}(I:Inv X pins O H s)(ho:s'.os=s.os)(u:Un (frs X.stack) ch H H' s.heap s'.heap)(hok:fW X.prog X.w H' s'.heap)(hg:kU s'.gens)
  (hch:∀b∈ch,(b∈X.ex\/X.aax.heap.objs.size<=b)/\b≠X.env.locals/\(∀x c,X.env.cells.lookup x=some c->c≠b)/\∀p∈X.pn++pins,p.1≠b):Inv X pins O H' s':=by
 obtain⟨h',g',d',t',o'⟩:=s';have e:o'=s.os:=ho;subst e;exact I.call (g':=g') (t':=t') (d':=d') u hok hg hch
end
noncomputable abbrev XK:=Value->Option Addr->Hp->Prop
noncomputable abbrev St:=List (Option V)
noncomputable abbrev VK:=V->Hp->Prop
noncomputable abbrev TE:=St->Hp->VK->Prop
noncomputable abbrev TT:=St->Hp->(Bool->Hp->Prop)->Prop
noncomputable abbrev TA:=St->Hp->(List V->Hp->Prop)->Prop
structure Ends where
 nx:St->Hp->Prop
 rt:VK
 bk:St->Hp->Prop:=fun _ _=>False
 ct:St->Hp->Prop:=fun _ _=>False
noncomputable abbrev TS:=Ends->St->Hp->Prop
def EP(X:Cx)(pins:List (Addr×Obj))(O:St)(Q:VK)(u:Value)(s':aj):Prop:=∃v H',Inv X pins O H' s'/\RelV v u/\Q v H'
def TP(X:Cx)(pins:List (Addr×Obj))(O:St)(Q:Bool->Hp->Prop)(b:Bool)(s':aj):Prop:=∃H',Inv X pins O H' s'/\Q b H'
def AP(X:Cx)(pins:List (Addr×Obj))(O:St)(Q:List V->Hp->Prop)(us:List Value)(s':aj):Prop:=∃vs H',Inv X pins O H' s'/\bE vs us/\Q vs H'
def SP(X:Cx)(pins:List (Addr×Obj))(D:Ends)(f:Flow)(s':aj):Prop:=
 match f with
 |.next=>∃σ' H',Inv X pins σ' H' s'/\D.nx σ' H'
 |.brk=>∃σ' H',Inv X pins σ' H' s'/\D.bk σ' H'
 |.cont=>∃σ' H',Inv X pins σ' H' s'/\D.ct σ' H'
 |.ret u=>∃v σ' H',Inv X pins σ' H' s'/\RelV v u/\D.rt v H'
def PE(X:Cx)(e:Expr)(t:TE):Prop:=
 ∀(pins:List (Addr×Obj)) (s:aj) (O:St) (H:Hp) (Q:VK),Inv X pins O H s->t O H Q->aD (aH X.prog X.w) X.A (eval e X.env) (EP X pins O Q) X.xe s
def PT(X:Cx)(e:Expr)(t:TT):Prop:=
 ∀(pins:List (Addr×Obj)) (s:aj) (O:St) (H:Hp) (Q:Bool->Hp->Prop),Inv X pins O H s->t O H Q->aD (aH X.prog X.w) X.A (tw e X.env (eval e X.env)) (TP X pins O Q) X.xe s
def PW(X:Cx)(e:Expr)(t:TT):Prop:=
 ∀(whole:Sem Value) (pins:List (Addr×Obj)) (s:aj) (O:St) (H:Hp) (Q:Bool->Hp->Prop),Inv X pins O H s->t O H Q->aD (aH X.prog X.w) X.A (tw e X.env whole) (TP X pins O Q) X.xe s
theorem PW.pt{X:Cx}{e:Expr}{t:TT}(h:PW X e t):PT X e t:=h _
def PA(X:Cx)(es:List Expr)(t:TA):Prop:=
 ∀(pos:Pos) (pins:List (Addr×Obj)) (s:aj) (O:St) (H:Hp) (Q:List V->Hp->Prop),Inv X pins O H s->t O H Q->aD (aH X.prog X.w) X.A (vA (kP pos (cV es X.env))) (AP X pins O Q) X.xe s
def PS(X:Cx)(st:Stmt)(t:TS):Prop:=
 ∀(pins:List (Addr×Obj)) (s:aj) (O:St) (H:Hp) (D:Ends),Inv X pins O H s->t D O H->aD (aH X.prog X.w) X.A (exec st X.env) (SP X pins D) X.xe s
def nY(X:Cx)(st:List Stmt)(t:TS):Prop:=
 ∀(pins:List (Addr×Obj)) (s:aj) (O:St) (H:Hp) (D:Ends),Inv X pins O H s->t D O H->aD (aH X.prog X.w) X.A (execs st X.env) (SP X pins D) X.xe s
theorem aT{α:Type}{t:Sem α}{Q Q':α->aj->Prop}{s:aj}(h:aD M A t Q E s)(hQ:∀a s,Q a s->Q' a s):aD M A t Q' E s:=dR h hQ fun _ _ x=>x
end L2
namespace L2
open PySem PySem.Spec PyProof.Rows
variable{pins:List (Addr×Obj)}{s:aj}{O:St}{H:Hp}
variable{x:Str}
variable{E Q:Value->aj->Prop}{u:Value}
section
variable{X:Cx}
theorem bin(ha:PE X a ta)(hb:PE X b tb){R:V->V->Hp->Prop}(I:Inv X pins O H s)(h:ta O H fun x H1=>tb O H1 fun y H2=>R x y H2)
  {α:Type}{Q:α->aj->Prop}{f:Value->Value->Sem α}
  (hf:∀v u s2 x y H2,Inv X pins O H2 s2->RelV x v->RelV y u->R x y H2->aD (aH X.prog X.w) X.A (f v u) Q X.xe s2) :
  aD (aH X.prog X.w) X.A (eval a X.env) (fun v aaz=>aD (aH X.prog X.w) X.A (eval b X.env) (fun u aaB=>aD (aH X.prog X.w) X.A (f v u) Q X.xe aaB) X.xe aaz) X.xe s:=by
 refine aT (ha pins s O H _ I h) fun v s1 ⟨x,H1,I1,r1,q1⟩=>?_;refine aT (hb pins s1 O H1 _ I1 q1) fun u s2 ⟨y,H2,I2,r2,q2⟩=>?_;exact hf v u s2 x y H2 I2 r1 r2 q2
def O6(i:Nat):TE:=fun O H Q=>∃v,O[i]?=some (some v)/\Q v H
def tC(v:V):TE:=fun _ H Q=>Q v H
theorem F8{i:Nat}(hN:X.N[i]?=some x)(hv:DZ X.env.scope x)(hd:(x==("__debug__":Str))=false:=by decide)(hcd:(x==("__classdict__":Str))=false:=by decide):PE X (.Name x pos) (O6 i):=by
 intro pins s O H Q I h;obtain⟨v,e,h⟩:=h;obtain⟨m,hn,hl⟩:=I.loc;obtain⟨u,r,l⟩:=hl i x v hN e hv;have fin:EP X pins O Q u s:=⟨v,H,I,r,h⟩;rcases l with⟨hk,hm⟩|⟨hk,c,hc,hcell⟩
 ·exact CH (wL I.ok.kind hk hn hm fin) hd
 ·rcases hk with hk|hk
  ·exact CH (xB I.ok.kind hk hc hcell fin) hd
  ·exact CH (wpAny_loadName_free I.ok.kind hk hc hcell fin hcd) hd
theorem Mi{i j pos}:PE X (.Constant (.int i) j pos) (tC (.int i)):=fun _ _ _ H _ I h=>wpAny_Constant_int ⟨.int i,H,I.tok _,⟨_,rfl⟩,h⟩
theorem XM{b j pos}:PE X (.Constant (.bool b) j pos) (tC (.bl b)):=fun _ _ _ H _ I h=>Constant_bool ⟨.bl b,H,I,rfl,h⟩
theorem VB{j pos}:PE X (.Constant .none j pos) (tC .non):=fun _ _ _ H _ I h=>Constant_none ⟨.non,H,I,rfl,h⟩
theorem VC{x j pos}:PE X (.Constant (.str x) j pos) (tC (.str x)):=fun _ _ _ H _ I h=>Calls.Constant_str ⟨.str x,H,I.tok _,⟨_,rfl⟩,h⟩
def Gl(X:Cx)(x:Str):Prop:=X.env.kindOf x=some .globalImplicit
theorem pD(I:Inv X pins O H s)(hg:Gl X x)(hm:X.mg x=some u)(h:Q u s)
  (hd:(x==("__debug__":Str))=false:=by decide):aD (aH X.prog X.w) X.A (eval (.Name x pos) X.env) Q E s:=
 qM I.ok.kind hg (Calls.loadGlobal_global (by rw[I.ok.glob];exact I.mod.glob.keeps I.bk) hm h) hd
theorem nZ(I:Inv X pins O H s)(hg:Gl X x)(hm:X.mg x=none)(hv:oV x=some u)(h:Q u s)
  (hn:x≠"__name__":=by decide) (hd:(x==("__debug__":Str))=false:=by decide):aD (aH X.prog X.w) X.A (eval (.Name x pos) X.env) Q E s:=by
 obtain⟨mb,h1,h2⟩:=I.mod.blt;exact qM I.ok.kind hg (Calls.loadGlobal_builtin (by rw[I.ok.glob];exact I.mod.glob.keeps I.bk) hm (by rw[I.ok.blt];exact h1.keeps I.bk) ((h2 x hn).trans hv) h) hd
theorem Dc{v:V}(hg:Gl X x)(hm:X.mg x=some u)(r:RelV v u)(hd:(x==("__debug__":Str))=false:=by decide):PE X (.Name x pos) (tC v):=
 fun _ _ _ H _ I h=>pD I hg hm ⟨v,H,I,r,h⟩ hd
variable{a b:Expr}{ta tb:TE}{pos:Pos}
variable{tA tB':TT}{rest:List Expr}
def Zv(t u:TT):TT:=fun O H Q=>t O H fun c H1=>if c=true then u O H1 Q else Q false H1
def tOr(t u:TT):TT:=fun O H Q=>t O H fun c H1=>if c=true then Q true H1 else u O H1 Q
def Zw(t:TT):TT:=fun O H Q=>t O H fun c H1=>Q (!c) H1
theorem pw_and1(ha:PT X a tA):PW X (.BoolOp .And [a] pos) tA:=by
 intro wh pins s O H Q I h;refine LY (aT (ha pins s O H Q I h) fun c s1 e=>?_);cases c with
 |true=>exact isTrue_and_nil e
 |false=>exact e
theorem pw_or1(ha:PT X a tA):PW X (.BoolOp .Or [a] pos) tA:=by
 intro wh pins s O H Q I h;refine isTrue_or (aT (ha pins s O H Q I h) fun c s1 e=>?_);cases c with
 |false=>exact isTrue_or_nil e
 |true=>exact e
theorem pw_and(ha:PT X a tA)(hb:PW X (.BoolOp .And (b::rest) pos) tB'):PW X (.BoolOp .And (a::b::rest) pos) (Zv tA tB'):=by
 intro wh pins s O H Q I h;refine LY (aT (ha pins s O H _ I h) fun c s1 ⟨H1,I1,q1⟩=>?_);cases c with
 |true=>exact hb wh pins s1 O H1 Q I1 q1
 |false=>exact⟨H1,I1,q1⟩
theorem pw_or(ha:PT X a tA)(hb:PW X (.BoolOp .Or (b::rest) pos) tB'):PW X (.BoolOp .Or (a::b::rest) pos) (tOr tA tB'):=by
 intro wh pins s O H Q I h;refine isTrue_or (aT (ha pins s O H _ I h) fun c s1 ⟨H1,I1,q1⟩=>?_);cases c with
 |true=>exact⟨H1,I1,q1⟩
 |false=>exact hb wh pins s1 O H1 Q I1 q1
theorem VD(ha:PT X a tA):PT X (.UnaryOp .Not a pos) (Zw tA):=by
 intro pins s O H Q I h;exact isTrue_not (ha pins s O H (fun c H1=>Q (!c) H1) I h)
theorem Mj{op}{t:TE}(h:PE X a t):PE X (.BoolOp op [a] pos) t:=fun pins s O H Q I hw=>BoolOp_one (h pins s O H Q I hw)
def tIf(t:TT)(ta tb:TE):TE:=fun O H Q=>t O H fun c H1=>if c=true then ta O H1 Q else tb O H1 Q
theorem O7{c:Expr}(hc:PT X c tA)(ha:PE X a ta)(hb:PE X b tb):PE X (.IfExp c a b pos) (tIf tA ta tb):=by
 intro pins s O H Q I h;refine wpAny_IfExp (aT (hc pins s O H _ I h) fun d s1 ⟨H1,I1,q1⟩=>?_);cases d with
 |true=>exact ha pins s1 O H1 Q I1 q1
 |false=>exact hb pins s1 O H1 Q I1 q1
end
end L2
namespace L2
open PySem PySem.Spec PyProof.Rows
def gO(K:PySem.W.Frag)(H:Hp)(a:Addr)(xs:List V):Prop:=
 Rd H a (.lst xs) \/
  ∃(o:Obj) (its:Array Value) (n:Nat),K.lookup a=some o/\o.cls=.type "list"/\o.dict=none/\o.data=.seq its n/\its.size<=aa/\bE xs its.toList
def qS(K:PySem.W.Frag)(H:Hp)(a:Addr)(xs:List V):Prop:=
 Rd H a (.tup xs) \/
  ∃(o:Obj) (its:Array Value) (n:Nat),K.lookup a=some o/\o.cls=.type "tuple"/\o.data=.seq its n/\its.size<=aa/\bE xs its.toList
noncomputable def Zx:Value->Option V
|.none=>some .non
|.bool b=>some (.bl b)
|.int i _=>some (.int i)
|.str x _=>some (.str x)
|.bytes b _=>some (.byt b)
|.float b _=>some (.flt b)
|.ref a=>some (.ref a)
|.type n=>some (.ty n)
|_=>none
variable{u:Value}
theorem RelV.abs{x:V}(r:RelV x u):Zx u=some x:=by
 cases x with
 |non=>cases r;rfl
 |bl _=>cases r;rfl
 |int _=>obtain⟨t,rfl⟩:=r;rfl
 |str _=>obtain⟨t,rfl⟩:=r;rfl
 |byt _=>obtain⟨t,rfl⟩:=r;rfl
 |flt _=>obtain⟨t,rfl⟩:=r;rfl
 |ref _=>cases r;rfl
 |ty _=>cases r;rfl
theorem RelV.inj{x y:V}(r:RelV x u)(q:RelV y u):x=y:=bJ (r.abs.symm.trans q.abs)
theorem bE.inj:∀{xs ys:List V}{us:List Value},bE xs us->bE ys us->xs=ys
|_,_,_,.nil,.nil=>rfl
|_,_,_,.cons r t,.cons r' t'=>by rw[r.inj r',bE.inj t t']
section
variable{X:Cx}{pins:List (Addr×Obj)}{O:St}{H:Hp}{s:aj}{a:Addr}{xs ys:List V}
theorem Inv.list(I:Inv X pins O H s)(h:gO X.K H a xs):∃its:List Value,bE xs its/\PlainL s.heap a its.toArray/\xs.length<=aa:=by
 rcases h with h|⟨o,its,n,hk,hc,hd,hs,hz,r⟩
 ·obtain⟨z,its,n,r,e⟩:=h.ok I.hok;exact⟨its,r,⟨_,n,e,rfl,rfl,rfl⟩,z⟩
 ·refine⟨its.toList,r,⟨o,n,I.ki a o hk,hc,hd,by simpa using hs⟩,?_⟩;have e:=r.length;simp only[xC]at e;omega
theorem Inv.tuple(I:Inv X pins O H s)(h:qS X.K H a xs):∃its:List Value,bE xs its/\IsTup s.heap a its.toArray/\xs.length<=aa:=by
 rcases h with h|⟨o,its,n,hk,hc,hs,hz,r⟩
 ·obtain⟨z,its,r,p⟩:=h.ok I.hok;exact⟨its,r,p,z⟩
 ·refine⟨its.toList,r,⟨o,I.ki a o hk,hc,n,by simpa using hs⟩,?_⟩;have e:=r.length;simp only[xC]at e;omega
theorem Inv.sC(I:Inv X pins O H s)(h:gO X.K H a xs)(h':gO X.K H a ys):xs=ys:=by
 obtain⟨its,r,⟨o,n,e,_,_,d⟩,_⟩:=I.list h;obtain⟨its',r',⟨o',n',e',_,_,d'⟩,_⟩:=I.list h';rw[e]at e';cases e';rw[d]at d';injection d' with d1 _;have:its=its':=by simpa using congrArg Il d1
 subst this;exact r.inj r'
theorem Inv.D3(I:Inv X pins O H s)(h:qS X.K H a xs)(h':qS X.K H a ys):xs=ys:=by
 obtain⟨its,r,⟨o,e,_,n,d⟩,_⟩:=I.tuple h;obtain⟨its',r',⟨o',e',_,n',d'⟩,_⟩:=I.tuple h';rw[e]at e';cases e';rw[d]at d';injection d' with d1 _;have:its=its':=by simpa using congrArg Il d1
 subst this;exact r.inj r'
end
noncomputable abbrev Cx.jP(X:Cx)(E:Value->aj->Prop):Cx:={ X with xe:=E }
noncomputable abbrev Cx.xM(X:Cx):Cx:=X.jP fun _ _=>False
variable{X:Cx}
theorem Cx.Ok.jP(ok:X.Ok)(E:Value->aj->Prop):(X.jP E).Ok:=
 ⟨ok.mod,ok.kind,ok.glob,ok.blt,ok.above,ok.inj,ok.has,ok.cab,ok.hd,ok.frames,ok.stk,ok.exf,ok.bs,ok.bsz,ok.noex,ok.exfs,ok.nX,ok.frf⟩
variable{E:Value->aj->Prop}
theorem Cx.Ok.je(ok:(X.jP E).Ok):X.Ok:=
 ⟨ok.mod,ok.kind,ok.glob,ok.blt,ok.above,ok.inj,ok.has,ok.cab,ok.hd,ok.frames,ok.stk,ok.exf,ok.bs,ok.bsz,ok.noex,ok.exfs,ok.nX,ok.frf⟩
section
variable{X:Cx}{pins:List (Addr×Obj)}{O:St}{H:Hp}{s:aj}{E:Value->aj->Prop}
theorem Inv.jP(I:Inv X pins O H s)(E:Value->aj->Prop):Inv (X.jP E) pins O H s:=⟨I.ok.jP E,I.os,I.bare,I.base,I.loc,I.cell,I.free,I.freeC,I.pin,I.hok,I.len⟩
theorem Inv.je(I:Inv (X.jP E) pins O H s):Inv X pins O H s:=⟨I.ok.je,I.os,I.bare,I.base,I.loc,I.cell,I.free,I.freeC,I.pin,I.hok,I.len⟩
theorem SP.je{D:Ends}{f:Flow}{s':aj}(h:SP (X.jP E) pins D f s'):SP X pins D f s':=by
 cases f with
 |next=>obtain⟨σ',H',I,q⟩:=h;exact⟨σ',H',I.je,q⟩
 |brk=>obtain⟨σ',H',I,q⟩:=h;exact⟨σ',H',I.je,q⟩
 |cont=>obtain⟨σ',H',I,q⟩:=h;exact⟨σ',H',I.je,q⟩
 |ret u=>obtain⟨v,σ',H',I,r,q⟩:=h;exact⟨v,σ',H',I.je,r,q⟩
theorem nY.xM{st:List Stmt}{t:TS}(h:nY X.xM st t):nY X st t:=fun pins s O H D I hw=>
 dR (h pins s O H D (I.jP _) hw) (fun _ _ q=>q.je) fun _ _ z=>ay z
end
variable{pins:List (Addr×Obj)}{O:St}{H:Hp}{s:aj}
variable{c:Expr}{tc:TT}
section
variable{X:Cx}{st:Stmt}{rest:List Stmt}{t u:TS}{e:Expr}{te:TE}{pos:Pos}
def XN:TS:=fun D O H=>D.nx O H
def Zy(t u:TS):TS:=fun D O H=>t { D with nx:=u D } O H
theorem Jv:nY X [] XN:=fun _ _ O H _ I h=>jM ⟨O,H,I,h⟩
theorem vP(h1:PS X st t)(h2:nY X rest u):nY X (st::rest) (Zy t u):=by
 intro pins s O H D I h;refine tB (aT (h1 pins s O H { D with nx:=u D } I h) fun f s1 q=>?_);cases f with
 |next=>
  obtain⟨σ',H',I',q⟩:=q;exact h2 pins s1 σ' H' D I' q
 |ret v=>exact q
 |brk=>exact q
 |cont=>exact q
def VE:TS:=fun D O H=>D.bk O H
def XO:TS:=fun D O H=>D.ct O H
theorem O8:PS X (.Break pos) VE:=fun _ _ O H _ I h=>wpAny_Break ⟨O,H,I,h⟩
theorem IK:PS X (.Continue pos) XO:=fun _ _ O H _ I h=>wpAny_Continue ⟨O,H,I,h⟩
theorem Inv.quiet(I:Inv X pins O H s):Jj X.env=false:=by simp[Jj,I.ok.kind]
def XQ(te:TE):TS:=fun D O H=>te O H fun _ H1=>D.nx O H1
theorem TJ(he:PE X e te)(hs:nS e none pos.line X.env=pure false:=by rfl):PS X (.Expr e pos) (XQ te):=by
 intro pins s O H D I h;exact DQ (aT (he pins s O H _ I h) fun v s1 ⟨x,H1,I1,r1,q1⟩=>⟨O,H1,I1,q1⟩) I.quiet hs
def Zz(te:TE):TS:=fun D O H=>te O H D.rt
theorem VF(he:PE X e te):PS X (.Return (some e) pos) (Zz te):=by
 intro pins s O H D I h;exact wpAny_Return_some (aT (he pins s O H _ I h) fun v s1 ⟨x,H1,I1,r1,q1⟩=>⟨x,O,H1,I1,r1,q1⟩)
def ZA(c:TT)(t u:TS):TS:=fun D O H=>c O H fun b H1=>if b=true then t D O H1 else u D O H1
theorem XR{a b:List Stmt}(hc:PT X c tc)(ha:nY X a t)(hb:nY X b u):PS X (.If c a b pos) (ZA tc t u):=by
 intro pins s O H D I h;refine wpAny_If (aT (hc pins s O H _ I h) fun d s1 ⟨H1,I1,q1⟩=>?_);cases d with
 |true=>exact ha pins s1 O H1 D I1 q1
 |false=>exact hb pins s1 O H1 D I1 q1
def VG:TS:=fun _ _ _=>False
theorem O9:PS X st VG:=fun _ _ _ _ _ _ h=>h.elim
end
noncomputable abbrev TG:=V->St->Hp->(St->Hp->Prop)->Prop
noncomputable abbrev Ah:=List V->St->Hp->(St->Hp->Prop)->Prop
def PG(X:Cx)(target:Expr)(t:TG):Prop:=
 ∀(pins:List (Addr×Obj)) (s:aj) (O:St) (H:Hp) (v:V) (u:Value) (Q:St->Hp->Prop),Inv X pins O H s->RelV v u->t v O H Q->
  aD (aH X.prog X.w) X.A (qH target X.env u) (fun _ s'=>∃σ' H',Inv X pins σ' H' s'/\Q σ' H') X.xe s
def BD(X:Cx)(ts:List Expr)(t:Ah):Prop:=
 ∀(pins:List (Addr×Obj)) (s:aj) (O:St) (H:Hp) (vs:List V) (us:List Value) (Q:St->Hp->Prop),Inv X pins O H s->bE vs us->t vs O H Q->
  aD (aH X.prog X.w) X.A (assignInOrder ((iZ ts X.env).map (·.2)) us) (fun _ s'=>∃σ' H',Inv X pins σ' H' s'/\Q σ' H') X.xe s
noncomputable abbrev O_:=V->V->V->Hp->(Hp->Prop)->Prop
def Pa(X:Cx)(t:O_):Prop:=
 ∀(pins:List (Addr×Obj)) (s:aj) (O:St) (H:Hp) (o i v:V) (ov iv u:Value) (Q:Hp->Prop),Inv X pins O H s->RelV o ov->RelV i iv->RelV v u->t o i v H Q->
  aD (aH X.prog X.w) X.A (Kr ov iv u) (fun _ s'=>∃H',Inv X pins O H' s'/\Q H') X.xe s
noncomputable abbrev Sq:=V->V->Hp->VK->Prop
def Y9(X:Cx)(op:kK)(t:Sq):Prop:=
 ∀(pins:List (Addr×Obj)) (s:aj) (O:St) (H:Hp) (x y:V) (v u:Value) (Q:VK),Inv X pins O H s->RelV x v->RelV y u->t x y H Q->
  aD (aH X.prog X.w) X.A (ze op v u) (EP X pins O Q) X.xe s
variable{i:Nat}{x:Str}
variable{e:Expr}{es:List Expr}
variable{tg:Expr}{te:TE}
section
variable{X:Cx}{pos:Pos}
def XS(i:Nat):TG:=fun v O H Q=>Q (O.set i (some v)) H
theorem Jw(hN:X.N.Nodup)(hi:X.N[i]?=some x)(hx:Loc X.env.scope x)(hf:X.fn x=true\/X.env.scope.names.lookup x=some .local:=by first|exact .inl rfl|exact .inr rfl|assumption):PG X (.Name x pos) (XS i):=by
 intro pins s O H v u Q I r h;exact z9 (vO I hN hi hx r (fun s' I'=>⟨_,H,I',h⟩) hf)
def ZC:Ah:=fun vs O H Q=>vs=[]/\Q O H
def XT(t:TG)(u:Ah):Ah:=fun vs O H Q=>∃v r,vs=v::r/\t v O H fun σ' H'=>u r σ' H' Q
theorem TL:BD X [] ZC:=by
 intro pins s O H vs us Q I r h;obtain⟨e,h⟩:=h;subst e;cases r;exact assignInOrder_nil ⟨O,H,I,h⟩
theorem Pb{t:TG}{u:Ah}(h1:PG X e t)(h2:BD X es u)
  (hs:(iZ (e::es) X.env).map (·.2)=qH e X.env::(iZ es X.env).map (·.2):=by rfl):BD X (e::es) (XT t u):=by
 intro pins s O H vs us Q I r h;obtain⟨v,vr,e1,h⟩:=h;subst e1;cases r with
 |cons r rr=>
  rw[hs];refine assignInOrder_cons (aT (h1 pins s O H _ _ _ I r h) fun _ s1 ⟨σ1,H1,I1,q1⟩=>?_);exact h2 pins s1 σ1 H1 _ _ Q I1 rr q1
def ZD(K:PySem.W.Frag)(n:Nat)(t:Ah):TG:=fun v O H Q=>∃a xs,v=.ref a/\qS K H a xs/\xs.length=n/\t xs O H Q
theorem VH{k:Nat}{t:Ah}{n:Nat}(hc:X.calm=true)(h:BD X es t)
  (hn:(iZ es X.env).length=n:=by rfl) (hst:(iZ es X.env).findIdx? (·.1)=none:=by rfl):PG X (.Tuple es k pos) (ZD X.K n t):=by
 intro pins s O H v u Q I r hw;obtain⟨a,xs,e1,hq,hl,hw⟩:=hw;subst e1;cases r;obtain⟨its,rv,ht,hz⟩:=I.tuple hq;refine assign_Tuple_tuple (I.ok.hd hc) ht (by simp[hn,<-hl,rv.length]) hst fun h' hx=>?_;have I1:Inv X pins O H { s with heap:=h' }:=I.kept (t':=s.toks) fun b o e=>hx b o (bM (aP e)) e;exact h pins _ O H xs _ Q I1 (by simpa using rv) hw
def ZE(to ti:TE)(t:O_):TG:=fun v O H Q=>to O H fun o H1=>ti O H1 fun i H2=>t o i v H2 fun H3=>Q O H3
theorem VI{o i:Expr}{to ti:TE}{t:O_}(ho:PE X o to)(hi:PE X i ti)(hs:Pa X t)
  (ha:∀v,qH (.Subscript o i pos) X.env v=(do
   let ov <-nU [v] (eval o X.env)
   let iv <-nU [v,ov] (eval i X.env)
   vB pos
   nU [v,ov,iv] (Kr ov iv v)
   release [v,ov,iv] []):=by intro _;rfl):PG X (.Subscript o i pos) (ZE to ti t):=by
 intro pins s O H v u Q I r h;rw[ha];refine au (gJ (aT (ho pins s O H _ I h) fun ov s1 ⟨x,H1,I1,r1,q1⟩=>?_));refine au (gJ (aT (hi pins s1 O H1 _ I1 q1) fun iv s2 ⟨y,H2,I2,r2,q2⟩=>?_));refine au (nv (au (gJ (aT (hs pins s2 O H2 x y v ov iv u _ I2 r1 r2 r q2) fun _ s3 ⟨H3,I3,q3⟩=>?_))));exact wpAny_release ⟨O,H3,I3,q3⟩
def ZF(te:TE)(g:TG):TS:=fun D O H=>te O H fun x H1=>g x O H1 D.nx
theorem Mk{g:TG}(he:PE X e te)(hg:PG X tg g)(hs:xw [tg] e pos.line X.env=pure false:=by rfl)(hw:xx [tg] e X.env=pure none:=by rfl)
  (h1:(iZ [tg] X.env).map (·.2)=[qH tg X.env]:=by rfl):PS X (.Assign [tg] e pos) (ZF te g):=by
 intro pins s O H D I h;refine wpAny_Assign_stores (aT (he pins s O H _ I h) fun v s1 ⟨x,H1,I1,r1,q1⟩=>?_) hs hw;rw[h1];exact aT (hg pins s1 O H1 x v _ I1 r1 q1) fun _ s2 q=>q
def VJ(i:Nat)(te:TE)(ti:Sq):TS:=fun D O H=>∃x,O[i]?=some (some x)/\te O H fun y H1=>ti x y H1 fun z H2=>D.nx (O.set i (some z)) H2
theorem VL{op:kK}{ti:Sq}{pos':Pos}(hN:X.N.Nodup)(hi:X.N[i]?=some x)(hx:Loc X.env.scope x)(he:PE X e te)(ho:Y9 X op ti)(hf:X.fn x=true\/X.env.scope.names.lookup x=some .local:=by first|exact .inl rfl|exact .inr rfl|assumption) :
  PS X (.AugAssign (.Name x pos') op e pos) (VJ i te ti):=by
 intro pins s O H D I h;obtain⟨v,e1,h⟩:=h;obtain⟨m,hn,hl⟩:=I.loc;have vis:DZ X.env.scope x:=by rcases hx with k|k;exact .inl k;exact .inr (.inl k)
 obtain⟨u,r,l⟩:=hl i x v hi e1 vis;refine wpAny_AugAssign_Name ?_;have go:aD (aH X.prog X.w) X.A (eval e X.env) (fun w aaB=>aD (aH X.prog X.w) X.A (ze op u w) (fun r aaF=>aD (aH X.prog X.w) X.A (E7 X.env x r) (fun _=>SP X pins D .next) X.xe aaF) X.xe aaB) X.xe s:=by
  refine aT (he pins s O H _ I h) fun w s1 ⟨y,H1,I1,r1,q1⟩=>?_;refine aT (ho pins s1 O H1 v y u w _ I1 r r1 q1) fun z s2 ⟨zv,H2,I2,r2,q2⟩=>?_;exact vO I2 hN hi hx r2 (fun s3 I3=>⟨_,H2,I3,q2⟩) hf
 rcases l with⟨hk,hm⟩|⟨hk,c,hc,hcell⟩
 ·exact wL I.ok.kind hk hn hm go
 ·rcases hk with hk|hk
  ·exact xB I.ok.kind hk hc hcell go
  ·rcases hx with k|k
   ·have:X.env.scope.names.lookup x=some .free:=hk;rw[k]at this;cases this
   ·have:X.env.scope.names.lookup x=some .free:=hk;rw[k]at this;cases this
noncomputable def Y_(f:Int->Int->Int):Sq:=fun x y H Q=>∃i j,x=.int i/\y=.int j/\Q (.int (f i j)) H
theorem VM:Y9 X .Add (Y_ fun i j=>i+j):=by
 intro pins s O H x y v u Q I r1 r2 h;obtain⟨i,j,e1,e2,q⟩:=h;subst e1;subst e2;obtain⟨t,rfl⟩:=r1;obtain⟨t',rfl⟩:=r2;exact iadd_int ⟨.int _,H,I.tok _,⟨_,rfl⟩,q⟩
end
section
variable{X:Cx}{pos:Pos}
def VN(c:TT)(tb:TS):TS:=fun D O H=>∃W:Nat->St->Hp->Prop,(∃m,W m O H)/\∀m O H,W m O H->
 c O H fun b H1=>if b=true then ∃N:St->Hp->Prop,(∀σ' H',N σ' H'->∃m',m'<m/\W m' σ' H')/\tb { D with nx:=N,ct:=N,bk:=D.nx } O H1 else D.nx O H1
theorem Pc{body:List Stmt}{tb:TS}(hp:ue (aH X.prog X.w) X.A X.env X.xe)(hc:PT X c tc)(hb:nY X body tb):PS X (.While c body [] pos) (VN tc tb):=by
 intro pins s O H D I h;obtain⟨W,⟨m0,w0⟩,turn⟩:=h;refine wpAny_While (codeAny_whileLoop (fun n s'=>∃σ' H',Inv X pins σ' H' s'/\W n σ' H') ?_ m0 ⟨O,H,I,w0⟩);rintro n s1 ⟨σ1,H1,I1,w1⟩;refine iG hp (aT (hc pins s1 σ1 H1 _ I1 (turn n σ1 H1 w1)) fun b s2 ⟨H2,I2,q2⟩=>?_);cases b with
 |true=>
  obtain⟨N,hN,q2⟩:=q2;rw[if_pos rfl];refine iG hp (aT (hb pins s2 σ1 H2 _ I2 q2) fun f s3 q3=>?_);cases f with
  |next=>
   obtain⟨σ3,H3,I3,n3⟩:=q3;obtain⟨m',hm,w3⟩:=hN σ3 H3 n3;exact⟨m',hm,σ3,H3,I3,w3⟩
  |cont=>
   obtain⟨σ3,H3,I3,n3⟩:=q3;obtain⟨m',hm,w3⟩:=hN σ3 H3 n3;exact⟨m',hm,σ3,H3,I3,w3⟩
  |brk=>exact q3
  |ret v=>exact q3
 |false=>
  rw[if_neg aK];exact jM ⟨σ1,H2,I2,q2⟩
end
structure It where
 go:Nat->Hp->Prop
 yld:Nat->Hp->V->Hp->Prop
 stop:Nat->Hp->Prop
def mJ(X:Cx)(pins:List (Addr×Obj))(H:Hp)(b:Addr):Prop:=
 H b=none/\b≠X.env.locals/\b∉X.fs/\(b∈X.ex\/X.aax.heap.objs.size<=b)/\(∀x c,X.env.cells.lookup x=some c->c≠b)/\∀p∈X.pn++pins,p.1≠b
theorem Inv.qJ{H':Hp}{b:Addr}(I:Inv X pins O H s)(hb:s.heap.objs.size<=b)(hn:H' b=none):mJ X pins H' b:=by
 refine⟨hn,oW (bP I.lt hb),I.Zu hb,.inr (d_ I.sz hb),fun x c e z=>?_,fun p hp z=>?_⟩
 ·obtain⟨v,q⟩:=I.cell x c e;exact absurd (bP q.lt (by rw[z];exact hb)) (d8 _)
 ·exact absurd (bP (aP (I.pin p hp).1) (by rw[z];exact hb)) (d8 _)
structure Turn (P:bH) (w:bY) (K:PySem.W.Frag) (tg:Expr) (J:It) (fp:List Addr) (it:Addr) (tn:Nat->Heap->Prop):Prop where
 mem:it∈fp
 obj:∀i h,tn i h->∀b∈fp,∃o,h.get? b=some o/\∀v,o.data≠.cell v
 keep:∀i h h',tn i h->(∀b∈fp,∀o,h.get? b=some o->h'.get? b=some o)->tn i h'
 item:∀(X:Cx),X.prog=P->X.w=w->X.K=K->X.calm=true->∀(i:Nat) (pins:List (Addr×Obj)) (s:aj) (O:St) (H:Hp) (E:Value->aj->Prop),Inv X pins O H s->(∀b∈fp,mJ X pins H b)->tn i s.heap->J.go i H->
  aD (aH P w) X.A (CJ (.ref it)) (fun r s1=>∃u,r=some u /\
   aD (aH P w) X.A (oY tg (.ref it) u) (fun _ s2=>∃x H',Inv X pins O H' s2/\RelV x u/\J.yld i H x H'/\tn (i+1) s2.heap/\∀b∈fp,H' b=none) E s1) E s
 done:∀(X:Cx),X.prog=P->X.w=w->X.K=K->X.calm=true->∀(i:Nat) (pins:List (Addr×Obj)) (s:aj) (O:St) (H:Hp) (E:Value->aj->Prop),Inv X pins O H s->(∀b∈fp,mJ X pins H b)->tn i s.heap->J.stop i H->
  aD (aH P w) X.A (CJ (.ref it)) (fun r s1=>r=none/\Inv X pins O H s1) E s
 self:∀(A:dF) (i:Nat) (s:aj) (Q:Value->aj->Prop) (E:Value->aj->Prop),tn i s.heap->Q (.ref it) s->aD (aH P w) A (vC (.ref it)) Q E s
noncomputable abbrev TI:=St->Hp->(It->Hp->Prop)->Prop
def Za(X:Cx)(pins:List (Addr×Obj))(O:St)(tg:Expr)(R:It->Hp->Prop)(itv:Value)(s2:aj):Prop:=
 ∃(it:Addr) (fp:List Addr) (tn:Nat->Heap->Prop) (J:It) (H':Hp),itv=.ref it/\Inv X pins O H' s2/\Turn X.prog X.w X.K tg J fp it tn/\tn 0 s2.heap/\(∀b∈fp,mJ X pins H' b)/\R J H'
def PI(X:Cx)(tg iter:Expr)(wi:TI):Prop:=
 ∀(pins:List (Addr×Obj)) (s:aj) (O:St) (H:Hp) (R:It->Hp->Prop),Inv X pins O H s->wi O H R->
  aD (aH X.prog X.w) X.A (eval iter X.env) (fun v s1=>aD (aH X.prog X.w) X.A (vC v) (Za X pins O tg R) X.xe s1) X.xe s
theorem FG{M:LX}{A:dF}{it:Addr}{o:Obj}{n:String}{vs:Array Value}{Q:Unit->aj->Prop}(ho:s.heap.get? it=some o)(hc:o.cls=.type n)(hd:o.data=.fields vs)
  (hn:["enumerate","zip","dict_itemiterator","dict_reverseitemiterator","odict_iterator","itertools.zip_longest","itertools.pairwise"].contains n=false) (hQ:Q () s):aD M A (oY tg (.ref it) u) Q E s:=by
 unfold oY;cases tg<;>first
  |exact a7 hQ
  |(cases u<;>first
    |exact a7 hQ
    |(refine au (wpAny_load ho ?_)
      rw[hc,hd];show aD M A (if(["enumerate","zip","dict_itemiterator","dict_reverseitemiterator","odict_iterator","itertools.zip_longest","itertools.pairwise"].contains n&&vs[0]?==some (kc _))=true then _ else _) Q E s;rw[if_neg (by intro h;rw[hn,jd]at h;cases h)];exact a7 hQ))
noncomputable def Zb(K:PySem.W.Frag)(a:Addr):It:=
 ⟨fun i H=>∃xs x,gO K H a xs/\xs[i]?=some x,fun i H x H'=>H'=H/\∀xs,gO K H a xs->xs[i]?=some x,fun i H=>∃xs,gO K H a xs/\xs.length<=i⟩
noncomputable def Zc(K:PySem.W.Frag)(a:Addr):It:=
 ⟨fun i H=>∃xs x,qS K H a xs/\xs[i]?=some x,fun i H x H'=>H'=H/\∀xs,qS K H a xs->xs[i]?=some x,fun i H=>∃xs,qS K H a xs/\xs.length<=i⟩
noncomputable def Ss(lo:Int)(n:Nat):It:=⟨fun i _=>i<n,fun i H x H'=>H'=H/\x=.int (lo+i),fun i _=>n<=i⟩
variable{P:bH}{w:bY}{K:PySem.W.Frag}
theorem Ml(a it:Addr):Turn P w K tg (Zb K a) [it] it (fun i h=>h.IsListIter it a i) where
 mem:=by simp
 obj:=fun i h st b hb=>by
  have e:b=it:=by simpa using hb
  subst e;obtain⟨o,e,c,d⟩:=st;exact⟨o,e,fun v z=>by rw[d]at z;cases z⟩
 keep:=fun i h h' st k=>st.at fun o e=>k it (by simp) o e
 item:=by
  intro X hP hw hK hc i pins s O H E I hf st hg;subst hP hw hK;obtain⟨xs,x,hq,hx⟩:=hg;obtain⟨its,rv,p,hz⟩:=I.list hq;obtain⟨u,hu,ru⟩:=rv.get hx;obtain⟨f0,f1,f2,f3,f4,f5⟩:=hf it (by simp);refine wpAny_pyNext_list_item st p.isList (x:=u) (by simpa using hu) fun h' st' sb=>?_;have I1:Inv X pins O H { s with heap:=h' }:=I.turned (t':=s.toks) (fun b o hb e=>(sb.2 b hb).trans e) f0 f1 f3 f4 f5;obtain⟨o,e,c,d⟩:=id st';exact⟨u,rfl,FG (s:={ s with heap:=h' }) e c d (by decide) ⟨x,H,I1,ru,⟨rfl,fun ys hy=>by rw[I.sC hy hq];exact hx⟩,st',fun b hb=>(hf b hb).1⟩⟩
 done:=by
  intro X hP hw hK hc i pins s O H E I hf st hg;subst hP hw hK;obtain⟨xs,hq,hx⟩:=hg;obtain⟨its,rv,p,hz⟩:=I.list hq;obtain⟨f0,f1,f2,f3,f4,f5⟩:=hf it (by simp);have hl:=rv.length;exact wpAny_pyNext_list_end (I.ok.hd hc) st p.isList (by simp;omega) fun h' eb=>⟨rfl,I.turned (t':=s.toks) (fun b o hb e=>eb b o hb e) f0 f1 f3 f4 f5⟩
 self:=fun _ _ _ _ _ st h=>wpAny_pyIter_listiter st h
theorem Kz(a it:Addr):Turn P w K tg (Zc K a) [it] it (fun i h=>h.IsTupleIter it a i) where
 mem:=by simp
 obj:=fun i h st b hb=>by
  have e:b=it:=by simpa using hb
  subst e;obtain⟨o,e,c,d⟩:=st;exact⟨o,e,fun v z=>by rw[d]at z;cases z⟩
 keep:=fun i h h' st k=>st.at fun o e=>k it (by simp) o e
 item:=by
  intro X hP hw hK hc i pins s O H E I hf st hg;subst hP hw hK;obtain⟨xs,x,hq,hx⟩:=hg;obtain⟨its,rv,p,hz⟩:=I.tuple hq;obtain⟨u,hu,ru⟩:=rv.get hx;obtain⟨f0,f1,f2,f3,f4,f5⟩:=hf it (by simp);refine wpAny_pyNext_tuple_item st (show s.heap.IsTuple a its.toArray from p) (x:=u) (by simpa using hu) fun h' st' sb=>?_;have I1:Inv X pins O H { s with heap:=h' }:=I.turned (t':=s.toks) (fun b o hb e=>(sb.2 b hb).trans e) f0 f1 f3 f4 f5;obtain⟨o,e,c,d⟩:=id st';exact⟨u,rfl,FG (s:={ s with heap:=h' }) e c d (by decide) ⟨x,H,I1,ru,⟨rfl,fun ys hy=>by rw[I.D3 hy hq];exact hx⟩,st',fun b hb=>(hf b hb).1⟩⟩
 done:=by
  intro X hP hw hK hc i pins s O H E I hf st hg;subst hP hw hK;obtain⟨xs,hq,hx⟩:=hg;obtain⟨its,rv,p,hz⟩:=I.tuple hq;obtain⟨f0,f1,f2,f3,f4,f5⟩:=hf it (by simp);have hl:=rv.length;exact wpAny_pyNext_tuple_end (I.ok.hd hc) st (show s.heap.IsTuple a its.toArray from p) (by simp;omega) fun h' eb=>⟨rfl,I.turned (t':=s.toks) (fun b o hb e=>eb b o hb e) f0 f1 f3 f4 f5⟩
 self:=fun _ _ _ _ _ st h=>wpAny_pyIter_tupleiter st h
theorem KA(it:Addr)(lo:Int)(n:Nat):Turn P w K tg (Ss lo n) [it] it (fun i h=>Jk h it (lo+(i:Nat)*1) ((n:Int)-(i:Nat)) 1) where
 mem:=by simp
 obj:=fun i h st b hb=>by
  have e:b=it:=by simpa using hb
  subst e;exact⟨_,st,fun v z=>by
   have z':Data.fields _=Data.cell v:=z;cases z'⟩
 keep:=fun i h h' st k=>k it (by simp) _ st
 item:=by
  intro X hP hw hK hc i pins s O H E I hf st hg;subst hP hw hK;obtain⟨f0,f1,f2,f3,f4,f5⟩:=hf it (by simp);have W:=Walks.range (prog:=X.prog) (w:=X.w) (I.ok.hd hc) it lo 1 n;refine W.item i s _ _ hg st fun v h' tk hv st' kk=>?_;obtain⟨t,rfl⟩:=hv;have I1:Inv X pins O H { s with heap:=h',toks:=tk }:=I.turned (fun b o hb e=>kk b o (by simpa using hb) e) f0 f1 f3 f4 f5;refine⟨_,rfl,FG (s:={ s with heap:=h',toks:=tk }) (n:="range_iterator") st' rfl rfl (by decide) ⟨.int (lo+i),H,I1,⟨t,?_⟩,⟨rfl,rfl⟩,st',fun b hb=>(hf b hb).1⟩⟩;rw[Int.mul_one]
 done:=by
  intro X hP hw hK hc i pins s O H E I hf st hg;subst hP hw hK;obtain⟨f0,f1,f2,f3,f4,f5⟩:=hf it (by simp);exact wpAny_pyNext_range_end (I.ok.hd hc) st (by have:n<=i:=hg;omega) fun h' eb=>⟨rfl,I.turned (t':=s.toks) (fun b o hb e=>eb b o hb e) f0 f1 f3 f4 f5⟩
 self:=fun _ _ _ _ _ st h=>wpAny_pyIter_rangeiter st h
end L2
namespace L2
open PySem PySem.Spec PyProof.Rows
variable{pins:List (Addr×Obj)}{O:St}{H:Hp}{s:aj}
variable{fp:List Addr}{h:Heap}
section
variable{X:Cx}{tg:Expr}
theorem Pd{R:It->Hp->Prop}{E:Value->aj->Prop}{lo hi:Int}{t u v:Tok}{tk:Nat}(I:Inv X pins O H s)(h1:-(2 ^ 62)<=lo)(h2:lo<2 ^ 62)(h3:-(2 ^ 62)<=hi)(h4:hi<2 ^ 62)
  (q:R (Ss lo (hi-lo).toNat) H):aD (aH X.prog X.w) X.A (vC (.ref s.heap.objs.size)) (Za X pins O tg R) E { s with heap:=s.heap.push { cls:=.type "range",data:=.fields #[.int lo t,.int hi u,.int 1 v] },toks:=tk }:=by
 refine wpAny_pyIter_range (XG ..) (small_one h1 h2 h3 h4) ?_;have I1:Inv X pins O H { s with heap:=s.heap.push { cls:=.type "range",data:=.fields #[.int lo t,.int hi u,.int 1 v] },toks:=tk }:=I.kept fun b o e=>aJ _ e;refine⟨(s.heap.push { cls:=.type "range",data:=.fields #[.int lo t,.int hi u,.int 1 v] }).objs.size,[(s.heap.push { cls:=.type "range",data:=.fields #[.int lo t,.int hi u,.int 1 v] }).objs.size],_,_,H,rfl,
  I1.kept (t':=tk) fun b o e=>aJ _ e,KA _ lo (hi-lo).toNat,?_,fun b hb=>?_,q⟩
 ·have e1:lo+((0:Nat):Int)*1=lo:=by simp
  have e2:(((hi-lo).toNat:Nat):Int)-((0:Nat):Int)=II lo hi 1:=by rw[rangeSize_one];split<;>omega
  show Jk _ _ (lo+((0:Nat):Int)*1) ((((hi-lo).toNat:Nat):Int)-((0:Nat):Int)) 1;rw[e1,e2];exact bL _ rfl
 ·have e:b=(s.heap.push { cls:=.type "range",data:=.fields #[.int lo t,.int hi u,.int 1 v] }).objs.size:=by simpa using hb
  subst e;exact I1.qJ (aM _) (I1.hok.fresh (aM _))
def ZG(wi:TI)(g:TG)(tb:TS):TS:=fun D O H=>wi O H fun J H1=>∃W:Nat->Nat->St->Hp->Prop,(∃m,W 0 m O H1)/\∀i m O H,W i m O H->
 (J.stop i H/\D.nx O H)\/(J.go i H/\∃N:St->Hp->Prop,(∀σ' H',N σ' H'->∃m',m'<m/\W (i+1) m' σ' H')/\∀x H',J.yld i H x H'->g x O H' fun σ2 H2=>tb { D with nx:=N,ct:=N,bk:=D.nx } σ2 H2)
noncomputable def xN(fp:List Addr)(h:Heap):List (Addr×Obj):=fp.filterMap fun b=>(h.get? b).map fun o=>(b,o)
theorem rq{b:Addr}{o:Obj}(hb:b∈fp)(e:h.get? b=some o):(b,o)∈xN fp h:=zf.mpr ⟨b,hb,by rw[e];rfl⟩
theorem Mm{p:Addr×Obj}(hp:p∈xN fp h):p.1∈fp/\h.get? p.1=some p.2:=by
 obtain⟨b,hb,e⟩:=zf.mp hp;cases q:h.get? b with
 |none=>rw[q]at e;cases e
 |some o=>
  rw[q]at e;have e':(b,o)=p:=bJ e;subst e';exact⟨hb,q⟩
theorem Inv.pinned(I:Inv X pins O H s)(hf:∀b∈fp,mJ X pins H b)(ho:∀b∈fp,∃o,s.heap.get? b=some o/\∀v,o.data≠.cell v):Inv X (pins++xN fp s.heap) O H s:=
 I.zD fun p hp=>(aY.mp hp).elim (fun z=>I.pin p (az _ z)) fun z=>by
  obtain⟨hb,e⟩:=Mm z;obtain⟨f0,f1,f2,_⟩:=hf p.1 hb;obtain⟨o,e',d⟩:=ho p.1 hb;rw[e]at e';cases e';exact⟨e,f0,f1,f2,d⟩
theorem Inv.vQ{pl:List (Addr×Obj)}(I:Inv X (pins++pl) O H s):Inv X pins O H s:=I.zD fun p hp=>I.pin p (az _ (aN _ hp))
theorem VO{iter:Expr}{body:List Stmt}{wi:TI}{g:TG}{tb:TS}{pos:Pos}(hp:ue (aH X.prog X.w) X.A X.env X.xe)(hc:X.calm=true)(hi:PI X tg iter wi)(hg:PG X tg g)(hb:nY X body tb)
  (hs:∀x,jZ iter X.env x=pure x:=by intro _;rfl):PS X (.For tg iter body [] pos) (ZG wi g tb):=by
 intro pins s O H D I h;refine wpAny_For (aT (hi pins s O H _ I h) fun v s1 h1=>aT h1 fun itv s2 h2=>?_) hs;obtain⟨it,fp,tn,J,H2,e,I2,T,st2,f2,W,⟨m0,w0⟩,turn⟩:=h2;subst e;have stat:∀{H':Hp},(∀b∈fp,H' b=none)->∀b∈fp,mJ X pins H' b:=fun hn b hb=>⟨hn b hb,(f2 b hb).2⟩;refine codeAny_forLoop_any (fun n s'=>∃i σ' H',Inv X pins σ' H' s'/\tn i s'.heap/\(∀b∈fp,H' b=none)/\W i n σ' H') ?_ m0 ⟨0,O,H2,I2,st2,fun b hb=>(f2 b hb).1,w0⟩;rintro n s3 ⟨i,σ3,H3,I3,st3,fr3,w3⟩;rcases turn i n σ3 H3 w3 with⟨stop,qn⟩|⟨go,N,hN,step⟩
 ·refine iG hp (aT (T.done X rfl rfl rfl hc i pins s3 σ3 H3 X.xe I3 (stat fr3) st3 stop) fun r s4 ⟨hr,I4⟩=>?_);subst hr;exact jM ⟨σ3,H3,I4,qn⟩
 ·refine iG hp (aT (T.item X rfl rfl rfl hc i pins s3 σ3 H3 X.xe I3 (stat fr3) st3 go) fun r s4 ⟨u,hr,h4⟩=>?_);subst hr;refine iG hp (aT h4 fun _ s5 ⟨x,H5,I5,r5,y5,st5,fr5⟩=>?_);have I5':=I5.pinned (stat fr5) (T.obj _ _ st5);refine iG hp (aT (hg _ s5 σ3 H5 x u _ I5' r5 (step x H5 y5)) fun _ s6 ⟨σ6,H6,I6,q6⟩=>?_);refine iG hp (aT (hb _ s6 σ6 H6 _ I6 q6) fun f s7 q7=>?_);have again:∀{σ7:St}{H7:Hp},Inv X (pins++xN fp s5.heap) σ7 H7 s7->N σ7 H7->∃m,m<n/\∃i σ' H',Inv X pins σ' H' s7/\tn i s7.heap/\(∀b∈fp,H' b=none)/\W i m σ' H':=fun{σ7 H7} I7 n7=>by
   obtain⟨m',hm,w7⟩:=hN σ7 H7 n7;refine⟨m',hm,i+1,σ7,H7,I7.vQ,T.keep _ _ _ st5 fun b hb o e=>(I7.pin (b,o) (az _ (az _ (rq hb e)))).1,fun b hb=>?_,w7⟩;obtain⟨o,e,d⟩:=T.obj _ _ st5 b hb;exact(I7.pin (b,o) (az _ (az _ (rq hb e)))).2.1
  cases f with
  |next=>obtain⟨σ7,H7,I7,n7⟩:=q7;exact again I7 n7
  |cont=>obtain⟨σ7,H7,I7,n7⟩:=q7;exact again I7 n7
  |brk=>obtain⟨σ7,H7,I7,q7⟩:=q7;exact⟨σ7,H7,I7.vQ,q7⟩
  |ret v=>obtain⟨x7,σ7,H7,I7,r7,q7⟩:=q7;exact⟨x7,σ7,H7,I7.vQ,r7,q7⟩
end
end L2
namespace L2
open PySem PySem.Spec PyProof.Rows
noncomputable abbrev R2:=V->V->Hp->VK->Prop
def jv(X:Cx)(f:Value->Value->Sem Value)(r:R2):Prop:=
 ∀(pins:List (Addr×Obj)) (s:aj) (O:St) (H:Hp) (x y:V) (v u:Value) (Q:VK),Inv X pins O H s->RelV x v->RelV y u->r x y H Q->
  aD (aH X.prog X.w) X.A (f v u) (EP X pins O Q) X.xe s
def Zd(X:Cx)(f:Value->Sem Value)(r:V->Hp->VK->Prop):Prop:=
 ∀(pins:List (Addr×Obj)) (s:aj) (O:St) (H:Hp) (x:V) (v:Value) (Q:VK),Inv X pins O H s->RelV x v->r x H Q->
  aD (aH X.prog X.w) X.A (f v) (EP X pins O Q) X.xe s
def p7(X:Cx)(f:Value)(r:List V->Hp->VK->Prop):Prop:=
 ∀(pins:List (Addr×Obj)) (s:aj) (O:St) (H:Hp) (xs:List V) (us:List Value) (Q:VK),Inv X pins O H s->bE xs us->r xs H Q->
  aD (aH X.prog X.w) X.A (call f us) (EP X pins O Q) X.xe s
def VP(X:Cx)(r:V->Hp->(Bool->Hp->Prop)->Prop):Prop:=
 ∀(pins:List (Addr×Obj)) (s:aj) (O:St) (H:Hp) (x:V) (v:Value) (Q:Bool->Hp->Prop),Inv X pins O H s->RelV x v->r x H Q->
  aD (aH X.prog X.w) X.A (CK v) (TP X pins O Q) X.xe s
def VQ(r:R2)(ta tb:TE):TE:=fun O H Q=>ta O H fun x H1=>tb O H1 fun y H2=>r x y H2 Q
noncomputable def rI(C:Int->Int->Prop)(g:Int->Int->V):R2:=fun x y H Q=>∃i j,x=.int i/\y=.int j/\C i j/\Q (g i j) H
noncomputable def D4(g:Int->Int->V):R2:=fun x y H Q=>∃i j,x=.int i/\y=.int j/\Q (g i j) H
def rU(g:Int->V):V->Hp->VK->Prop:=fun x H Q=>∃i,x=.int i/\Q (g i) H
variable{pins:List (Addr×Obj)}{s:aj}{O:St}{H:Hp}
variable{op:kK}{r:R2}
variable{x:V}{Q:VK}
variable{f:Value->Value->Sem Value}{g:Int->Int->Int}
section
variable{X:Cx}{a b c:Expr}{ta tb tc:TE}{pos:Pos}
theorem Pe(ha:PE X a ta)(hb:PE X b tb){R:V->V->Hp->Prop}(I:Inv X pins O H s)
  (h:ta O H fun x H1=>tb O H1 fun y H2=>R x y H2) {Q:Value->aj->Prop}{f:Value->Value->Sem Value}
  (hf:∀v u s2 x y H2,Inv X pins O H2 s2->RelV x v->RelV y u->R x y H2->aD (aH X.prog X.w) X.A (f v u) Q X.xe s2) :
  aD (aH X.prog X.w) X.A (eval a X.env) (fun v aaz=>aD (aH X.prog X.w) X.A (eval b X.env) (fun u aaB=>aD (aH X.prog X.w) X.A (f v u) Q X.xe aaB) X.xe aaz) X.xe s:=by
 refine aT (ha pins s O H _ I h) fun v s1 ⟨x,H1,I1,r1,q1⟩=>?_;refine aT (hb pins s1 O H1 _ I1 q1) fun u s2 ⟨y,H2,I2,r2,q2⟩=>?_;exact hf v u s2 x y H2 I2 r1 r2 q2
theorem XU(ho:jv X (gz op) r)(ha:PE X a ta)(hb:PE X b tb):PE X (.BinOp a op b pos) (VQ r ta tb):=by
 intro pins s O H Q I h;exact wpAny_BinOp (Pe ha hb I h fun v u s2 x y H2 I2 rx ry q=>ho pins s2 O H2 x y v u Q I2 rx ry q)
theorem F9(ho:jv X (ze op) r){y:V}{v u:Value}(I:Inv X pins O H s)
  (rx:RelV x v) (ry:RelV y u) (q:r x y H Q):aD (aH X.prog X.w) X.A (ze op v u) (EP X pins O Q) X.xe s:=ho pins s O H x y v u Q I rx ry q
theorem Mn{C:Int->Int->Prop}
  (rule:∀(i j:Int) (t u:Tok) (s:aj) (Q:Value->aj->Prop) (E:Value->aj->Prop),C i j->Q (.int (g i j) s.toks) { s with toks:=s.toks+1 }->aD (aH X.prog X.w) X.A (f (.int i t) (.int j u)) Q E s) :
  jv X f (rI C fun i j=>.int (g i j)):=by
 intro pins s O H x y v u Q I rx ry h;obtain⟨i,j,rfl,rfl,hc,q⟩:=h;obtain⟨t,rfl⟩:=rx;obtain⟨t',rfl⟩:=ry;exact rule i j t t' s _ _ hc ⟨.int (g i j),H,I.tok _,⟨_,rfl⟩,q⟩
theorem VR
  (rule:∀(i j:Int) (t u:Tok) (s:aj) (Q:Value->aj->Prop) (E:Value->aj->Prop),Q (.int (g i j) s.toks) { s with toks:=s.toks+1 }->aD (aH X.prog X.w) X.A (f (.int i t) (.int j u)) Q E s) :
  jv X f (D4 fun i j=>.int (g i j)):=by
 intro pins s O H x y v u Q I rx ry h;obtain⟨i,j,rfl,rfl,q⟩:=h;obtain⟨t,rfl⟩:=rx;obtain⟨t',rfl⟩:=ry;exact rule i j t t' s _ _ ⟨.int (g i j),H,I.tok _,⟨_,rfl⟩,q⟩
theorem KC{g:Int->Int->Bool}
  (rule:∀(i j:Int) (t u:Tok) (s:aj) (Q:Value->aj->Prop) (E:Value->aj->Prop),Q (.bool (g i j)) s->aD (aH X.prog X.w) X.A (f (.int i t) (.int j u)) Q E s) :
  jv X f (D4 fun i j=>.bl (g i j)):=by
 intro pins s O H x y v u Q I rx ry h;obtain⟨i,j,rfl,rfl,q⟩:=h;obtain⟨t,rfl⟩:=rx;obtain⟨t',rfl⟩:=ry;exact rule i j t t' s _ _ ⟨.bl (g i j),H,I,rfl,q⟩
def sD(i j:Int):Prop:=0<j/\j<1073741824
def F_(i j:Int):Prop:=0<=j/\j<=1000000/\i.natAbs<2 ^ 64
def ux(i j:Int):Prop:=(-(2 ^ 64)<i/\i<2 ^ 64)\/(-(2 ^ 64)<j/\j<2 ^ 64)
theorem ux.ok{i j:Int}(h:ux i j):IntMulOk i j:=by
 rcases h with⟨h1,h2⟩|⟨h1,h2⟩
 ·exact .of_left (Ft h1 h2)
 ·exact .of_right (Ft h1 h2)
theorem KD(k:Nat):(0:Int)<=2 ^ k:=by
 rw[two_pow_cast];exact Int.natCast_nonneg _
theorem VS:jv X (gz .Add) (D4 fun i j=>.int (i+j)):=VR fun _ _ _ _ _ _ _ q=>add_int q
theorem VT:jv X (gz .Sub) (D4 fun i j=>.int (i-j)):=VR fun _ _ _ _ _ _ _ q=>sub_int q
theorem VU:jv X (gz .Mult) (rI ux fun i j=>.int (i*j)):=Mn fun _ _ _ _ _ _ _ hc q=>mul_int q hc.ok
theorem TM:jv X (gz .FloorDiv) (rI sD fun i j=>.int (i / j)):=Mn fun i j _ _ _ _ _ hc q=>by
 have h1:(0:Int)<j:=hc.1;have h2:j<1073741824:=hc.2;exact floordiv_int (by omega) (by rw[qN i (by omega)];exact q) (.inl (Jl (by omega)))
theorem VV:jv X (gz .Mod) (rI (fun _ j=>0<j) fun i j=>.int (i%j)):=Mn fun i j _ _ _ _ _ hc q=>by
 have h1:(0:Int)<j:=hc;exact mod_int' (by omega) (by rw[Int.fmod_eq_emod_of_nonneg i (by omega)];exact q)
theorem VW:jv X (gz .Pow) (rI F_ fun i j=>.int (i ^ j.toNat)):=Mn fun _ _ _ _ _ _ _ hc q=>pow_int_small hc.1 hc.2.1 hc.2.2 q
theorem VX:jv X (gz .RShift) (rI (fun _ j=>0<=j) fun i j=>.int (i / 2 ^ j.toNat)):=Mn fun i j _ _ _ _ _ hc q=>
 rshift_int hc (by rw[qN i (KD _)];exact q)
theorem unI{f:Value->Sem Value}{g:Int->Int}
  (rule:∀(i:Int) (t:Tok) (s:aj) (Q:Value->aj->Prop) (E:Value->aj->Prop),Q (.int (g i) s.toks) { s with toks:=s.toks+1 }->aD (aH X.prog X.w) X.A (f (.int i t)) Q E s) :
  Zd X f (rU fun i=>.int (g i)):=by
 intro pins s O H x v Q I rx h;obtain⟨i,rfl,q⟩:=h;obtain⟨t,rfl⟩:=rx;exact rule i t s _ _ ⟨.int (g i),H,I.tok _,⟨_,rfl⟩,q⟩
theorem VY:Zd X (unaryOp .USub) (rU fun i=>.int (-i)):=unI fun _ _ _ _ _ q=>neg_int q
end
variable{us:List Value}
section
variable{X:Cx}{a b c:Expr}{ta tb tc:TE}{pos:Pos}
theorem BE{k k':Bool}(I:Inv X pins O H s)(q:Q (.bl k) H)(e:k=k'):EP X pins O Q (.bool k') s:=by
 subst e;exact⟨.bl k,H,I,rfl,q⟩
theorem XW:jv X (gh .Lt) (D4 fun i j=>.bl (decide (i<j))):=KC fun _ _ _ _ _ _ _ q=>lt_int q
theorem XX:jv X (gh .LtE) (D4 fun i j=>.bl (decide (i<=j))):=KC fun _ _ _ _ _ _ _ q=>le_int q
theorem XY:jv X (gh .Gt) (D4 fun i j=>.bl (decide (j<i))):=KC fun _ _ _ _ _ _ _ q=>gt_int q
theorem XZ:jv X (gh .GtE) (D4 fun i j=>.bl (decide (j<=i))):=KC fun _ _ _ _ _ _ _ q=>ge_int q
theorem Mp:jv X (gh .Lt) (fun x y H Q=>∃i j,x=.str i/\y=.str j/\Q (.bl (decide (i.cps.toList<j.cps.toList))) H):=by
 intro pins s O H x y v u Q I rx ry h;obtain⟨i,j,rfl,rfl,q⟩:=h;obtain⟨t,rfl⟩:=rx;obtain⟨t',rfl⟩:=ry;exact lt_str (BE I q rfl)
theorem VZ:jv X (gh .Is) (fun x y H Q=>y=.non/\Q (.bl (decide (x=.non))) H):=by
 intro pins s O H x y v u Q I rx ry h;obtain⟨rfl,q⟩:=h;cases ry;refine is_none_gen (BE I q ?_);cases x<;>first
  |(cases rx;rfl)
  |(obtain⟨t,rfl⟩:=rx;rfl)
theorem TN:jv X (gh .IsNot) (fun x y H Q=>y=.non/\Q (.bl (!decide (x=.non))) H):=by
 intro pins s O H x y v u Q I rx ry h;obtain⟨rfl,q⟩:=h;cases ry;refine isnot_none_gen (BE I q ?_);cases x<;>first
  |(cases rx;rfl)
  |(obtain⟨t,rfl⟩:=rx;rfl)
theorem TQ{op:qz}(ho:jv X (gh op) r)(ha:PE X a ta)(hb:PE X b tb)(hm:xy op b=false):PE X (.Compare a [op] [b] pos) (VQ r ta tb):=by
 intro pins s O H Q I h;exact wpAny_Compare1 (Pe ha hb I h fun v u s2 x y H2 I2 rx ry q=>ho pins s2 O H2 x y v u Q I2 rx ry q) hm
def ZH(K:PySem.W.Frag)(x:V)(H:Hp)(k:Bool):Prop:=
 match x with
 |.non=>k=false
 |.bl b=>k=b
 |.int i=>k=(i != 0)
 |.str y=>y.length<=aa/\k=((y.length:Int) != 0)
 |.byt y=>y.size<=aa/\k=((y.size:Int) != 0)
 |.ref p=>(∃xs,gO K H p xs/\k=!xs.isEmpty)\/(∃xs,qS K H p xs/\k=!xs.isEmpty)\/∃kvs,H p=some (.dK kvs)/\k=!kvs.isEmpty
 |_=>False
theorem KE{κ:Type}{kvs:List (κ×V)}{vs:List (κ×Value)}(r:KV kvs vs):(!vs.isEmpty)=!kvs.isEmpty:=by
 cases r<;>rfl
theorem BF{xs:List V}{its:List Value}(r:bE xs its):(!its.toArray.isEmpty)=!xs.isEmpty:=by
 cases r<;>simp
theorem sE:(aa:Nat)<2 ^ 63:=by rw[eE];decide
theorem V3:VP X (fun x H Q=>∃k,ZH X.K x H k/\Q k H):=by
 intro pins s O H x v Q I rx h;obtain⟨k,e,q⟩:=h;have hl:=sE;have hs:aa=16777216:=eE;cases x with
 |non=>
  cases rx;have e':k=false:=e;subst e';exact truthy_none ⟨H,I,q⟩
 |bl b=>
  cases rx;have e':k=b:=e;subst e';exact fj ⟨H,I,q⟩
 |int i=>
  obtain⟨t,rfl⟩:=rx;have e':k=(i != 0):=e;subst e';exact PySem.P.truthy_int ⟨H,I,q⟩
 |str y=>
  obtain⟨t,rfl⟩:=rx;obtain⟨hy,e'⟩:y.length<=aa/\k=((y.length:Int) != 0):=e;subst e';exact PySem.P.truthy_str (by omega) ⟨H,I.tok _,q⟩
 |byt y=>
  obtain⟨t,rfl⟩:=rx;obtain⟨hy,e'⟩:y.size<=aa/\k=((y.size:Int) != 0):=e;subst e';exact PySem.W.truthy_bytes (by omega) ⟨H,I.tok _,q⟩
 |ref p=>
  cases rx;have e':(∃xs,gO X.K H p xs/\k=!xs.isEmpty)\/(∃xs,qS X.K H p xs/\k=!xs.isEmpty)\/∃kvs,H p=some (.dK kvs)/\k=!kvs.isEmpty:=e;rcases e' with⟨xs,hx,e'⟩|⟨xs,hx,e'⟩|⟨kvs,hx,e'⟩
  ·subst e';obtain⟨its,r,pl,hz⟩:=I.list hx;have hlen:=r.length;exact wpAny_truthy_list pl.isList (by simp only[aZ];omega) ⟨H,I.tok _,by rw[BF r];exact q⟩
  ·subst e';obtain⟨its,r,pl,hz⟩:=I.tuple hx;have hlen:=r.length;exact truthy_tuple pl (by simp only[aZ];omega) ⟨H,I.tok _,by rw[BF r];exact q⟩
  ·subst e';obtain⟨hz,hS,vs,r,m⟩:kvs.length<=aa/\(p==kJ)=false/\∃vs,KV kvs vs/\s.heap.DictOf (gS X.prog X.w) p vs:=I.hok p _ hx;have hlen:kvs.length=vs.length:=Paired.length r;exact wpAny_truthy_dict hS m (by omega) ⟨H,I.tok _,by rw[KE r];exact q⟩
 |_=>exact(show False from e).elim
theorem KG:jv X (gz .Add) (fun x y H Q=>∃i j,x=.str i/\y=.str j/\i.length+j.length<=aa/\Q (.str (i++j)) H):=by
 intro pins s O H x y v u Q I rx ry h;obtain⟨i,j,rfl,rfl,hz,q⟩:=h;obtain⟨t,rfl⟩:=rx;obtain⟨t',rfl⟩:=ry;exact add_str (fun t' tk=>⟨.str (i++j),H,I.tok _,⟨_,rfl⟩,q⟩) hz
theorem vals1(r:bE [x] us):∃u,us=[u]/\RelV x u:=by
 cases r with
 |cons r1 r2=>cases r2;exact⟨_,rfl,r1⟩
theorem vals2{y:V}(r:bE [x,y] us):∃u w',us=[u,w']/\RelV x u/\RelV y w':=by
 cases r with
 |cons r1 r2=>
  cases r2 with
  |cons r3 r4=>cases r4;exact⟨_,_,rfl,r1,r3⟩
theorem Pf:p7 X (.builtin "abs") (fun xs H Q=>∃i,xs=[.int i]/\Q (.int (if i<0 then -i else i)) H):=by
 intro pins s O H xs us Q I r h;obtain⟨i,rfl,q⟩:=h;obtain⟨u,rfl,t,rfl⟩:=vals1 r;exact call_abs_int fun u tk=>⟨.int (if i<0 then -i else i),H,I.tok _,⟨_,rfl⟩,q⟩
theorem Mq(hc:X.calm=true):p7 X (.builtin "min") (fun xs H Q=>∃i j,xs=[.int i,.int j]/\Q (.int (if j<i then j else i)) H):=by
 intro pins s O H xs us Q I r h;obtain⟨i,j,rfl,q⟩:=h;obtain⟨u,w',rfl,⟨t,rfl⟩,⟨t',rfl⟩⟩:=vals2 r;refine min_two_ints (I.ok.hd hc) fun h' tk k=>⟨_,H,I.kept k,?_,q⟩;by_cases hj:j<i
 ·rw[if_pos hj,if_pos hj];exact⟨_,rfl⟩
 ·rw[if_neg hj,if_neg hj];exact⟨_,rfl⟩
theorem D5:p7 X (.type "int") (fun xs H Q=>(∃i,xs=[.int i]/\Q (.int i) H)\/∃k,xs=[.bl k]/\Q (.int (if k then 1 else 0)) H):=by
 intro pins s O H xs us Q I r h;rcases h with⟨i,rfl,q⟩|⟨k,rfl,q⟩
 ·obtain⟨u,rfl,t,rfl⟩:=vals1 r;exact call_int_int ⟨.int i,H,I,⟨_,rfl⟩,q⟩
 ·obtain⟨u,rfl,r1⟩:=vals1 r;cases r1;exact call_int_bool ⟨.int (if k then 1 else 0),H,I.tok _,⟨_,rfl⟩,q⟩
theorem Ga:p7 X (.type "str") (fun xs H Q=>∃i,xs=[.int i]/\i.natAbs.log2<1920/\Q (.str (toString i)) H):=by
 intro pins s O H xs us Q I r h;obtain⟨i,rfl,hz,q⟩:=h;obtain⟨u,rfl,t,rfl⟩:=vals1 r;exact PySem.P.str_of_int hz ⟨.str _,H,I.tok _,⟨_,rfl⟩,q⟩
end
end L2
namespace L2
open PySem PySem.Spec PyProof.Rows
theorem tO{h:Heap}{dx:Addr}{mA:Str->Option Value}(n:h.Ns1 dx mA):∃od,h.get? dx=some od/\∀name,PySem.W.lookIn name od=some (mA name):=by
 obtain⟨o,es,ep,ho,hd,hk,_,hm⟩:=n;refine⟨o,ho,fun name=>?_⟩;have e:=hm name;unfold CL findBy at e;rw[<-Array.find?_toList]at e;unfold PySem.W.lookIn;rw[hd];dsimp only;split
 ·rename_i y q;rw[q]at e;exact congrArg some e
 ·rename_i q;rw[q]at e;have a:es.toList.any (·.refKey)=false:=by
   rw[j0];intro y hy;obtain⟨z,t,hkey⟩:=hk y (Array.mem_toList_iff.mp hy);simp[Sk,hkey]
  have a':¬es.toList.any (·.refKey)=true:=by rw[a];exact aK
  rw[if_neg a'];exact congrArg some e
noncomputable def iJ(f:Str)(v:V):List (Str×V)->List (Str×V)
|[]=>[(f,v)]
|(g,x)::r=>if g=f then(g,v)::r else(g,x)::iJ f v r
theorem p8(f g:Str)(v:V):∀fs:List (Str×V),(iJ f v fs).lookup g=if g=f then some v else fs.lookup g
|[]=>by
 show jU g [(f,v)]=_;by_cases h:g=f
 ·have hb:(g==f)=true:=beq_iff_eq.mpr h;simp only[jU,hb,if_pos h]
 ·have hb:(g==f)=false:=beq_eq_false_iff_ne.mpr h;simp only[jU,hb,if_neg h]
|(k,x)::r=>by
 have ih:=p8 f g v r;rw[show iJ f v ((k,x)::r)=(if k=f then(k,v)::r else(k,x)::iJ f v r)from rfl];by_cases hk:k=f
 ·rw[if_pos hk];by_cases h:g=k
  ·have hb:(g==k)=true:=beq_iff_eq.mpr h;simp only[jU,hb,if_pos (h.trans hk)]
  ·have hb:(g==k)=false:=beq_eq_false_iff_ne.mpr h;simp only[jU,hb,if_neg (fun e:g=f=>h (e.trans hk.symm))]
 ·rw[if_neg hk];by_cases h:g=k
  ·have hb:(g==k)=true:=beq_iff_eq.mpr h;simp only[jU,hb,if_neg (fun e:g=f=>hk (h.symm.trans e))]
  ·have hb:(g==k)=false:=beq_eq_false_iff_ne.mpr h;simp only[jU,hb];exact ih
theorem uy(f:Str)(v:V):∀fs:List (Str×V),(iJ f v fs).length<=fs.length+1
|[]=>by simp[iJ]
|(k,x)::r=>by
 have ih:=uy f v r;rw[show iJ f v ((k,x)::r)=(if k=f then(k,v)::r else(k,x)::iJ f v r)from rfl];by_cases hk:k=f
 ·rw[if_pos hk,aC,aC];omega
 ·rw[if_neg hk,aC,aC];omega
theorem pq.some_of{v:V}{o:Option Value}(r:pq (some v) o):∃u,o=some u/\RelV v u:=by
 cases o with
 |none=>exact(show False from r).elim
 |some u=>exact⟨u,rfl,r⟩
theorem Mr{v:V}{u:Value}(r:RelV v u):PySem.W.handedIn u=true:=by
 cases v with
 |non=>cases(show u=d7 from r);rfl
 |bl b=>cases(show u=jL b from r);rfl
 |int i=>obtain⟨t,e⟩:=(show ∃t,u=zc i t from r);cases e;rfl
 |str x=>obtain⟨t,e⟩:=(show ∃t,u=zd x t from r);cases e;rfl
 |byt b=>obtain⟨t,e⟩:=(show ∃t,u=Jh b t from r);cases e;rfl
 |flt b=>obtain⟨t,e⟩:=(show ∃t,u=Ji b t from r);cases e;rfl
 |ref a=>cases(show u=bG a from r);rfl
 |ty n=>cases(show u=Value.type n from r);rfl
def jB(K:PySem.W.Frag)(C:Addr)(f:Str):Prop:=PySem.W.findIn K (.ref C) f=some none
section
variable{X:Cx}{pins:List (Addr×Obj)}{O:St}{H:Hp}{s:aj}{a C dx:Addr}{fs:List (Str×V)}{f:Str}{v:V}{A:dF}{E:Value->aj->Prop}
theorem TR{prog:bH}{w:bY}{env:Env}{e:Expr}{pos:Pos}{Q:Value->aj->Prop}(hb:xA e f env (eval e env)=eval e env)
  (h:aD (aH prog w) A (eval e env) (fun o aaz=>aD (aH prog w) A (DR o f true) Q E aaz) E s):aD (aH prog w) A (eval (.Attribute e f pos) env) Q E s:=
 Attribute_any_ h (by rw[arm_eval_Attribute,hb])
end
end L2
namespace L2
open PySem PySem.Spec PyProof.Rows
structure ir (k:Nat) (A:dF):Prop where
 hd:A.handled=none
 dp:A.depth+3*k+5<DS
 un:A.units+16*k+200<dS
variable{j k:Nat}{A:dF}
theorem ir.mono(r:ir k A)(h:j<=k):ir j A:=⟨r.hd,by have:=r.dp;omega,by have:=r.un;omega⟩
theorem ir.deeper(r:ir (k+1) A)(env:Env):ir k (A.deeper env):=
 ⟨r.hd,by have:=r.dp;show A.depth+1+3*k+5<_;omega,by have:=r.un;show A.units+3+16*k+200<_;omega⟩
variable{C:Addr}{us:List Value}{kw:List (Str×Value)}
theorem KH:(A.under (.builtin "type.__call__" ⟨.ref C::us,kw⟩)).depth=A.depth+1:=by
 first|rfl|simp[zg,Code.weight,Code.isCreation,Code.isGuard,Code.isCaller,Jm,zh,guardIds]
theorem KI:(A.under (.builtin "type.__call__" ⟨.ref C::us,kw⟩)).units=A.units+1:=by
 first|rfl|simp[zg,Code.cUnits,Jm,zh]
theorem ir.make(r:ir (k+1) A)(C:Addr)(us:List Value)(kw:List (Str×Value)):ir k (A.under (.builtin "type.__call__" ⟨.ref C::us,kw⟩)):=
 ⟨r.hd,by have:=r.dp;rw[KH];omega,by have:=r.un;rw[KI];omega⟩
theorem ir.depth(r:ir k A):A.depth<DS:=by have:=r.dp;omega
def V4:TA:=fun _ H Q=>Q [] H
def X3(ta:TE)(tr:TA):TA:=fun O H Q=>ta O H fun x H1=>tr O H1 fun xs H2=>Q (x::xs) H2
section
variable{X:Cx}{e:Expr}{es:List Expr}{te:TE}{t:TA}{pos:Pos}
theorem Gb:PA X [] V4:=fun _ _ _ _ H Q I h=>iW ⟨[],H,I,.nil,h⟩
theorem Dd(ha:PE X e te)(hr:PA X es t)(hs:cV (e::es) X.env=(false,eval e X.env)::cV es X.env:=by rfl):PA X (e::es) (X3 te t):=by
 intro pos pins s O H Q I h;rw[hs];show aD _ _ (vA ((false,eval e X.env)::kP pos (cV es X.env))) _ _ s;refine fH (aT (ha pins s O H _ I h) fun u s1 ⟨x,H1,I1,r1,q1⟩=>?_);exact aT (hr pos pins s1 O H1 _ I1 q1) fun us s2 ⟨xs,H2,I2,r2,q2⟩=>⟨x::xs,H2,I2,.cons r1 r2,q2⟩
def ZI(t:TA):TE:=fun O H Q=>t O H fun xs H1=>xs.length<=aa/\∀p,H1 p=none->Q (.ref p) (upd H1 p (.tup xs))
def ZJ(t:TA):TE:=fun O H Q=>t O H fun xs H1=>xs.length<=aa/\∀p,H1 p=none->Q (.ref p) (upd H1 p (.lst xs))
theorem V5{x1}(h:PA X es t):PE X (.Tuple es x1 pos) (ZI t):=by
 intro pins s O H Q I hq;refine xD (aT (h pos pins s O H _ I hq) fun us s1 ⟨xs,H1,I1,r,z,q⟩=>⟨by rw[<-r.length];exact z,?_⟩);have hf:H1 s1.heap.objs.size=none:=I1.hok.fresh (aM _);refine⟨.ref s1.heap.objs.size,upd H1 s1.heap.objs.size (.tup xs),I1.laid (t':=s1.toks) (fun b u e=>aJ _ e) (aM _) ?_,rfl,q _ hf⟩;exact⟨z,us,r,⟨_,bL _ rfl,rfl,_,rfl⟩⟩
theorem sG(h:PA X es t):PE X (.List es pos) (ZJ t):=by
 intro pins s O H Q I hq;refine wpAny_List_spliced (aT (h pos pins s O H _ I hq) fun us s1 ⟨xs,H1,I1,r,z,q⟩=>⟨by rw[<-r.length];exact z,?_⟩);have hf:H1 s1.heap.objs.size=none:=I1.hok.fresh (aM _);refine⟨.ref s1.heap.objs.size,upd H1 s1.heap.objs.size (.lst xs),I1.laid (t':=s1.toks) (fun b u e=>aJ _ e) (aM _) ?_,rfl,q _ hf⟩;exact⟨z,us,0,r,bL _ rfl⟩
end
noncomputable abbrev Sp:=List V->Hp->VK->XK->Prop
noncomputable abbrev Ai:=List Env->Hp->aj->XK->Value->aj->Prop
structure AS (P:bH) (w:bY) (K:PySem.W.Frag) (mg:Str->Option Value) (base:Heap) (A:dF) (outer:List Env) (s:aj) (H:Hp):Prop where
 frames:A.frames=some outer
 mod:Mod K mg base
 bs:∀b o,base.get? b=some o->s.heap.get? b=some o/\H b=none
 bsz:base.objs.size<=s.heap.objs.size
 nX:s.heap.FunFrames base outer
 frf:∀b∈frs outer,H b=none
 hok:fW P w H s.heap
 bare:kU s.gens
def CE(outer:List Env)(P:bH)(w:bY)(H:Hp)(s:aj)(Q:VK)(u:Value)(s':aj):Prop:=
 ∃v H',s'.os=s.os/\kU s'.gens/\Un (frs outer) [] H H' s.heap s'.heap/\fW P w H' s'.heap/\RelV v u/\Q v H'
def CR(CX:Ai)(outer:List Env)(P:bH)(w:bY)(H:Hp)(s:aj)(Q:VK)(E:XK)(r:CM)(s':aj):Prop:=
 match r with
 |.ok (.ret u)=>CE outer P w H s Q u s'
 |.ok _=>False
 |.error e=>CX outer H s E e s'
structure fN (P:bH) (w:bY) (K:PySem.W.Frag) (mg:Str->Option Value) (base:Heap) (CX:Ai) (k:Nat) (f:Addr) (fd:fO) (ps:List Str) (sp:Sp):Prop where
 len:∀vs H Q E,sp vs H Q E->vs.length=ps.length
 run:∀(A:dF) (outer:List Env) (s:aj) (H:Hp) (args:Args) (us:List Value) (vs:List V) (Q:VK) (E:XK),ir k A->AS P w K mg base A outer s H->DT s fd args (ps.zip us)->bE vs us->sp vs H Q E->
  kg (aH P w) A (.call (.ref f) args) (CR CX outer P w H s Q E) s
variable{P:bH}{w:bY}{K:PySem.W.Frag}{mg:Str->Option Value}{base:Heap}{CX:Ai}{f:Addr}{fd:fO}{ps:List Str}{sp:Sp}
theorem fN.mono(F:fN P w K mg base CX j f fd ps sp)(h:j<=k) :
  fN P w K mg base CX k f fd ps sp:=⟨F.len,fun A outer s H args us vs Q E hr=>F.run A outer s H args us vs Q E (hr.mono h)⟩
theorem fN.imp{sp':Sp}(F:fN P w K mg base CX k f fd ps sp)
  (h:∀vs H Q E,sp' vs H Q E->sp vs H Q E):fN P w K mg base CX k f fd ps sp':=
 ⟨fun vs H Q E q=>F.len vs H Q E (h _ _ _ _ q),fun A outer s H args us vs Q E hr he hb hv hs=>F.run A outer s H args us vs Q E hr he hb hv (h _ _ _ _ hs)⟩
variable{outer:List Env}{s:aj}{H:Hp}
theorem AS.make(e:AS P w K mg base A outer s H)(C:Addr)(us:List Value)(kw:List (Str×Value)) :
  AS P w K mg base (A.under (.builtin "type.__call__" ⟨.ref C::us,kw⟩)) outer s H:=⟨by first|exact e.frames|(simpa[zg,Code.envs,zh,pushEnvs]using e.frames),e.mod,e.bs,e.bsz,e.nX,e.frf,e.hok,e.bare⟩
variable{Q:VK}
section
variable{X:Cx}{pins:List (Addr×Obj)}{O:St}{H:Hp}{s s':aj}
theorem Inv.Pg(I:Inv X pins O H s):AS X.prog X.w X.K X.mg X.base X.A X.stack s H:=
 ⟨I.ok.frames,I.ok.mod,I.bs,d_ I.ok.bsz I.sz,I.stack,I.C_,I.hok,I.bare⟩
theorem Inv.after{u:Value}(I:Inv X pins O H s)(h:CE X.stack X.prog X.w H s Q u s'):EP X pins O Q u s':=by
 obtain⟨v,H',os,bare,un,hok,r,q⟩:=h;obtain⟨hh,g,d,t,os'⟩:=s';obtain rfl:os'=s.os:=os;exact⟨v,H',I.call (h':=hh) (g':=g) (d':=d) (t':=t) (ch:=[]) un hok bare (fun b z=>absurd z (by simp)),r,q⟩
end
def Su(sp:Sp)(dvs:List V)(E:XK)(t:TA):TE:=fun O H Q=>t O H fun vs H1=>sp (vs++dvs) H1 Q E
def Binds(K:PySem.W.Frag)(fd:fO)(ps:List Str)(ds:List Value):Prop:=
 ∀(s:aj) (us:List Value),K.In s.heap->(us++ds).length=ps.length->DT s fd ⟨us,[]⟩ (ps.zip (us++ds))
theorem Binds.all(h:∀us:List Value,us.length=ps.length->wM fd ⟨us,[]⟩=pure (ps.zip us)):Binds K fd ps []:=fun s us _ hl=>by
 rw[dm]at hl ⊢;exact .of_eq (h us hl)
def xO(CX:Ai)(X:Cx)(E:XK):Prop:=∀(pins:List (Addr×Obj)) (O:St) (H:Hp) (s:aj) (e:Value) (s':aj),Inv X pins O H s->CX X.stack H s E e s'->X.xe e s'
variable{vs:List V}
section
variable{X:Cx}{CX:Ai}{k:Nat}{f C:Addr}{fd:fO}{ps:List Str}{sp:Sp}{dvs:List V}{ds:List Value}{E:XK}{x m:Str}{p pos apos:Pos}{e o:Expr}{es:List Expr}{ta:TE}{t:TA}
theorem Ms{pins:List (Addr×Obj)}{O:St}(F:fN X.prog X.w X.K X.mg X.base CX k f fd ps sp)(hr:ir k X.A)(hb:Binds X.K fd ps ds)(hd:bE dvs ds)(hx:xO CX X E)
  (I:Inv X pins O H s) (r:bE vs us) (h:sp (vs++dvs) H Q E):aD (aH X.prog X.w) X.A (call (.ref f) us) (EP X pins O Q) X.xe s:=by
 have r2:bE (vs++dvs) (us++ds):=r.append hd;have hl:(us++ds).length=ps.length:=by rw[<-r2.length];exact F.len _ _ _ _ h
 refine mz (jm (F.run X.A X.stack s H ⟨us,[]⟩ (us++ds) (vs++dvs) Q E hr I.Pg (hb s us I.ki hl) r2 h) fun r s' hq=>?_);cases r with
 |error e=>exact hx pins O H s e s' I hq
 |ok fl=>
  cases fl with
  |ret u=>exact I.after hq
  |next=>exact ay hq
  |brk=>exact ay hq
  |cont=>exact ay hq
theorem TU(F:fN X.prog X.w X.K X.mg X.base CX k f fd ps sp)(hr:ir k X.A)(hg:Gl X x)(hm:X.mg x=some (.ref f))(hk:PySem.W.keepIn X.K (.ref f)=true)(hb:Binds X.K fd ps ds)(hd:bE dvs ds)(hx:xO CX X E)
  (ha:PA X (e::es) t) (hdb:(x==("__debug__":Str))=false:=by decide) (he:cV (e::es) X.env=(false,eval e X.env)::cV es X.env:=by rfl) (hpl:(kP pos (cV es X.env)).any (·.1)=false:=by rfl) :
  PE X (.Call (.Name x p) (e::es) [] pos) (Su sp dvs E t):=by
 intro pins s O H Q I h;refine eK (pD I hg hm ?_ hdb);refine PySem.W.callWith_K (h₀:=X.base) I.ok.mod.kin hk (aT (ha pos pins s O H _ I h) fun us s1 ⟨vs,H1,I1,r,q⟩=>⟨I1.ki,?_⟩) he hpl;exact Ms F hr hb hd hx I1 r q
theorem Ph(F:fN X.prog X.w X.K X.mg X.base CX k f fd ps sp)(hr:ir k X.A)(hg:Gl X x)(hm:X.mg x=some (.ref f))(hk:PySem.W.keepIn X.K (.ref f)=true)(hb:Binds X.K fd ps ds)(hd:bE dvs ds)(hx:xO CX X E)
  (hdb:(x==("__debug__":Str))=false:=by decide):PE X (.Call (.Name x p) [] [] pos) (Su sp dvs E V4):=by
 intro pins s O H Q I h;refine eK (pD I hg hm ?_ hdb);exact PySem.W.callWith_K0 I.ki hk (Ms (us:=[]) F hr hb hd hx I .nil h)
end
structure l9 (N P:List Str) (sc:fS):Prop where
 kind:sc.kind=.function
 co:sc.isCoroutine=false
 gen:sc.isGenerator=false
 nd:N.Nodup
 pre:N.take P.length=P
 par:∀x∈P,sc.names.lookup x=some .local\/sc.names.lookup x=some .cell
 nofree:∀y∈sc.names,y.2≠.free
variable{kindOf:Str->Option jo}{x:Str}
theorem D6:∀{binds:List (Str×Value)}{m:Str->Option Value},(∀v,(x,v)∉binds)->wN kindOf binds m x=m x
|[],_,_=>rfl
|(n,v)::r,m,h=>by
 unfold wN;rw[D6 fun w hw=>h w (ai _ hw)];split
 ·have:x≠n:=by rintro rfl;exact h v ao
  simp[this]
 ·rfl
theorem D7:∀{binds:List (Str×Value)}{m:Str->Option Value},(∀v,(x,v)∉binds)->wQ kindOf binds m x=m x
|[],_,_=>rfl
|(n,v)::r,m,h=>by
 unfold wQ;rw[D7 fun w hw=>h w (ai _ hw)];split
 ·rfl
 ·have:x≠n:=by rintro rfl;exact h v ao
  simp[this]
variable{v:Value}
theorem D8:∀{P:List Str}{vs:List Value}{i:Nat}{m:Str->Option Value},P.Nodup->P[i]?=some x->vs[i]?=some v->kindOf x=some .local->
 wN kindOf (P.zip vs) m x=some v
|[],_,_,_,_,h,_,_=>by simp at h
|_::_,[],_,_,_,_,h,_=>by simp at h
|p::P,w::vs,0,m,nd,h1,h2,hk=>by
 simp at h1 h2;subst h1;subst h2;show wN kindOf ((p,w)::P.zip vs) m p=_;unfold wN;rw[D6 fun v hv=>(cZ.mp nd).1 (uf hv).1,if_pos hk];simp
|p::P,w::vs,i+1,m,nd,h1,h2,hk=>by
 show wN kindOf ((p,w)::P.zip vs) m x=_;unfold wN;exact D8 (i:=i) (cZ.mp nd).2 (by simpa using h1) (by simpa using h2) hk
theorem D9:∀{P:List Str}{vs:List Value}{i:Nat}{m:Str->Option Value},P.Nodup->P[i]?=some x->vs[i]?=some v->kindOf x≠some .local->
 wQ kindOf (P.zip vs) m x=some v
|[],_,_,_,_,h,_,_=>by simp at h
|_::_,[],_,_,_,_,h,_=>by simp at h
|p::P,w::vs,0,m,nd,h1,h2,hk=>by
 simp at h1 h2;subst h1;subst h2;show wQ kindOf ((p,w)::P.zip vs) m p=_;unfold wQ;rw[D7 fun v hv=>(cZ.mp nd).1 (uf hv).1,if_neg hk];simp
|p::P,w::vs,i+1,m,nd,h1,h2,hk=>by
 show wQ kindOf ((p,w)::P.zip vs) m x=_;unfold wQ;exact D9 (i:=i) (cZ.mp nd).2 (by simpa using h1) (by simpa using h2) hk
noncomputable def start(N:List Str)(vs:List V):St:=vs.map some++aO (N.length-vs.length) none
noncomputable def kW(CX:Ai)(P:bH)(w:bY)(K:PySem.W.Frag)(mg:Str->Option Value)(base:Heap)(N:List Str)(qual:Str)(scope:fS)(f:Addr)(cd:Value)(A:dF)(outer:List Env)(s:aj)(H:Hp)(E:XK):Cx where
 prog:=P
 w:=w
 K:=K
 mg:=mg
 base:=base
 A:=A.deeper (mW qual scope s.heap.objs.size f cd)
 N:=N
 aax:=s
 aaI:=H
 env:=mW qual scope s.heap.objs.size f cd
 outer:=outer
 stack:=mW qual scope s.heap.objs.size f cd::outer
 ex:=[]
 calm:=true
 fn:=fun _=>true
 pn:=[]
 xe:=fun e s'=>aD (aH P w) (A.deeper (mW qual scope s.heap.objs.size f cd)) (Ks (mW qual scope s.heap.objs.size f cd) e) (fun _ s''=>CX outer H s E e s'') (fun e' s''=>CX outer H s E e' s'') s'
theorem Gc{sc:fS}{n:Nat}(h:sc.names.lookup x=some .cell):∃c,(eL n sc.names []).lookup x=some c:=by
 have q:=PySem.W.cellsFrom_some sc.names n [] (.inl h);exact Option.isSome_iff_exists.mp q
variable{qual:Str}{scope:fS}
theorem Mu{N:List Str}{cd:Value}{s1:aj}{E:XK}
  (S:l9 N ps scope) (hd:A.handled=none) (e0:AS P w K mg base A outer s H) (hl:vs.length=ps.length) (r:bE vs us)
  (x:InCallC s s.heap.objs.size (wN (mW qual scope s.heap.objs.size f cd).kindOf (ps.zip us) fun _=>none) (eL (s.heap.objs.size+1) scope.names []) (wQ (mW qual scope s.heap.objs.size f cd).kindOf (ps.zip us) fun _=>none) s1) :
  Inv (kW CX P w K mg base N qual scope f cd A outer s H E) [] (start N vs) H s1:=by
 have hpl:ps.length<=N.length:=by have:=congrArg List.length S.pre;rw[b9]at this;omega
 obtain⟨h1,tk,rfl,hk⟩:=x.done;have noA:∀b:Addr,b∉(kW CX P w K mg base N qual scope f cd A outer s H E).ex:=fun b z=>absurd (show b∈([]:List Addr)from z) (by simp);refine⟨⟨e0.mod,S.kind,rfl,rfl,aM _,fun y z c h1 h2=>?_,fun y hy=>?_,fun y c _ h=>?_,fun _=>hd,Around.frames_deeper e0.frames,.inr ⟨rfl,rfl⟩,fun b z=>absurd z (noA b),e0.bs,e0.bsz,fun b _ _=>noA b,fun b z=>absurd z (noA b),e0.nX,e0.frf⟩,
  rfl,e0.bare,Un.kept hk,⟨_,x.toInCall.ns,fun i y v h1 h2 h3=>?_⟩,fun y c h=>⟨_,x.cell y c h⟩,e0.hok.fresh (aM _),fun y c h=>?_,fun p hp=>absurd (show p∈([]:List (Addr×Obj))from hp) (by simp),e0.hok.kept hk,?_⟩
 ·exact name_of_addr x.apart (PySem.mem_of_lookup h1) (PySem.mem_of_lookup h2)
 ·have hy:scope.names.lookup y=some .cell\/scope.names.lookup y=some .free:=hy;rcases hy with hy|hy
  ·exact Gc hy
  ·exact absurd rfl (S.nofree _ (PySem.mem_of_lookup hy))
 ·exact jl (x.above y c (PySem.mem_of_lookup h))
 ·have hi:i<vs.length:=by
   unfold start at h2;by_cases hi:i<vs.length
   ·exact hi
   ·rw[c8 (by simpa using hi)]at h2;rw[tM]at h2;split at h2<;>cases h2
  have ha:vs[i]?=some v:=by
   unfold start at h2;rw[fu (by simpa using hi),bD]at h2;cases e:vs[i]? with
   |none=>rw[e]at h2;cases h2
   |some a=>rw[e]at h2;cases h2;rfl
  obtain⟨u,hu,rv⟩:=r.get ha;have hp:ps[i]?=some y:=by
   rw[<-S.pre,List.getElem?_take_of_lt (by omega)];exact h1
  have ndP:ps.Nodup:=by rw[<-S.pre];exact S.nd.sublist (List.take_sublist _ _)
  refine⟨u,rv,?_⟩;rcases S.par y (gA hp)with k|k
  ·exact .inl ⟨k,D8 ndP hp hu k⟩
  ·obtain⟨c,e⟩:=Gc (n:=s.heap.objs.size+1) k;refine .inr ⟨.inl k,c,e,?_⟩;have q:=x.cell y c e;rw[D9 ndP hp hu (by show scope.names.lookup y≠_;rw[k];decide)]at q;exact q
 ·exact e0.hok.fresh (jl (x.above y c (PySem.mem_of_lookup h)))
 ·unfold start;show _=N.length;rw[ak,ah,vD];omega
theorem Sv{name:Str}{params:Arguments}{body:List Stmt}{dV kV doc pm cdv ct oc:Value}{an od:Option Addr}
  {osl:Array (Option Value)}{N ps:List Str}{sp:Sp} (lk:K.lookup f=some ⟨oc,od,.func (PySem.W.fnOf name qual params body scope dV kV doc pm an cdv ct),osl⟩) (hcd:PySem.W.codeIn K cdv qual=true) (S:l9 N ps scope)
  (len:∀vs H Q E,sp vs H Q E->vs.length=ps.length)
  (hbody:∀(A:dF) (outer:List Env) (s:aj) (H:Hp) (vs:List V) (Q:VK) (E:XK),ir k (A.deeper (mW qual scope s.heap.objs.size f cdv))->sp vs H Q E->
   ∃t,nY (kW CX P w K mg base N qual scope f cdv A outer s H E) body t/\t { nx:=fun _ H'=>Q .non H',rt:=Q } (start N vs) H) :
  fN P w K mg base CX (k+1) f (PySem.W.fnOf name qual params body scope dV kV doc pm an cdv ct) ps sp:=by
 refine⟨len,fun A outer s H args us vs Q E hr e0 hb r hsp=>?_⟩;have hl:=len _ _ _ _ hsp;have KX:K.In s.heap:=e0.mod.kin.keeps fun b o e=>(e0.bs b o e).1;have lim:s.heap.NoLimit:=e0.mod.nolimit.keeps fun b o e=>(e0.bs b o e).1;have hkind:∀y∈ps.zip us,scope.names.lookup y.1=some .local\/(scope.names.lookup y.1=some .cell/\((eL (s.heap.objs.size+1) scope.names []).lookup y.1).isSome=true):=fun⟨n,v⟩ hy=>by
  rcases S.par n (uf hy).1 with q|q
  ·exact .inl q
  ·exact .inr ⟨q,PySem.W.cellsFrom_some _ _ _ (.inl q)⟩
 refine codeAny_call_function hr.depth (KX _ _ lk) rfl S.co S.gen rfl (PySem.W.codeRec_of KX hcd) (hb _ _ _ _ ?_);refine wpAny_newFunctionEnv_cells S.kind hkind fun env he s1 x=>?_;subst he;refine⟨lim.keeps x.toInCall.keep,codeAny_func ?_⟩;obtain⟨t,ht,hq⟩:=hbody A outer s H vs Q E (hr.deeper _) hsp;have I:Inv (kW CX P w K mg base N qual scope f cdv A outer s H E) [] (start N vs) H s1:=Mu S hr.hd e0 hl r x;refine dR (ht [] s1 (start N vs) H _ I hq) (fun fl s' hs=>?_) fun e s' hs=>hs;have fin:∀{σ':St}{H':Hp}{v:V}{u:Value},Inv (kW CX P w K mg base N qual scope f cdv A outer s H E) [] σ' H' s'->RelV v u->Q v H'->CE outer P w H s Q u s':=
  fun{σ' H' v u} J rv q=>⟨v,H',J.os,J.bare,J.base,J.hok,rv,q⟩
 cases fl with
 |ret u=>
  obtain⟨v,σ',H',J,rv,q⟩:=hs;exact fin J rv q
 |next=>
  obtain⟨σ',H',J,q⟩:=hs;exact fin (v:=V.non) (u:=d7) J rfl q
 |brk=>
  obtain⟨_,_,_,q⟩:=hs;exact ay q
 |cont=>
  obtain⟨_,_,_,q⟩:=hs;exact ay q
end L2
end
section
namespace HT
open PySem PyProof.Rows
section
variable{prog:bH}{w:bY}{A:dF}{E:Value->aj->Prop}{s:aj}
theorem TV{t b:Addr}{vs ws:List Value}{Q:Value->aj->Prop}(ht:IsTup s.heap t vs.toArray)(hb:IsTup s.heap b ws.toArray)(hv:vs≠[])
  (h1:ws=[]->Q (.ref t) s) (h2:ws≠[]->Q (.ref s.heap.objs.size) { s with heap:=s.heap.push { cls:=.type "tuple",data:=.seq (vs++ws).toArray } })
  (hsz:vs.length+ws.length<=aa):aD (aH prog w) A (gz .Add (.ref t) (.ref b)) Q E s:=by
 obtain⟨⟨cls,dd,data,sl⟩,ho,hc,n,hd⟩:=id ht;obtain⟨⟨cls2,dd2,data2,sl2⟩,ho2,hc2,n2,hd2⟩:=id hb;simp only at hc hd hc2 hd2;subst hc hd hc2 hd2;have e:vs.toArray++ws.toArray=(vs++ws).toArray:=by simp
 by_cases hw:ws=[]
 ·exact Im ⟨_,ho,rfl⟩ ⟨_,ho2,rfl⟩ Br Fv PySem.F.slot_tuple_add PySem.F.entry_tuple_add (PySem.F.args_tuple_add_2 _ _)
   (tuple_addW1 t b vs.toArray ws.toArray n n2 dd dd2 sl sl2 (by simpa using hv) (by simp[hw])) ⟨ho,ho2,h1 hw⟩
 ·refine Im ⟨_,ho,rfl⟩ ⟨_,ho2,rfl⟩ Br Fv PySem.F.slot_tuple_add PySem.F.entry_tuple_add (PySem.F.args_tuple_add_2 _ _)
   (tuple_addW2 t b vs.toArray ws.toArray n n2 dd dd2 sl sl2 (by simpa using hv) (by simpa using hw) (by rw[aZ,aZ];exact hsz)) ⟨ho,ho2,?_⟩
  rw[e];exact h2 hw
noncomputable def kj(n d:Nat):Option Int->Nat
|none=>d
|some v=>if v<0 then(v+(n:Int)).toNat else min v.toNat n
theorem AU(n d:Nat):kj n d none=d:=rfl
theorem rW(n d k:Nat):kj n d (some (k:Int))=min k n:=by
 show(if(k:Int)<0 then((k:Int)+(n:Int)).toNat else min (k:Int).toNat n)=min k n;rw[if_neg (by omega),z_]
theorem V6(n d:Nat)(hd:d<=n)(o:Option Int):kj n d o<=n:=by
 cases o with
 |none=>exact hd
 |some v=>
  show(if v<0 then(v+(n:Int)).toNat else min v.toNat n)<=n;by_cases hv:v<0
  ·rw[if_pos hv];omega
  ·rw[if_neg hv];exact Nat.min_le_right _ _
end
end HT
namespace L2
open PySem PySem.Spec PyProof.Rows
noncomputable abbrev TO:=St->Hp->(Option Int->Hp->Prop)->Prop
def PO(X:Cx)(e:Option Expr)(t:TO):Prop:=
 ∀(pins:List (Addr×Obj)) (s:aj) (O:St) (H:Hp) (Q:Option Int->Hp->Prop),Inv X pins O H s->t O H Q->
  aD (aH X.prog X.w) X.A (evalPart e X.env) (fun u s'=>∃o H',Inv X pins O H' s'/\OO u o/\Q o H') X.xe s
noncomputable def TX:TO:=fun _ H Q=>Q none H
section
variable{X:Cx}{e:Expr}{te:TE}{lo hi:Option Expr}{tl th:TO}{pos p2:Pos}
theorem TY:PO X none TX:=by
 intro pins s O H Q I h;rw[Fw];exact a7 ⟨none,H,I,.none,h⟩
def V7(X:Cx)(r:V->Option Int->Option Int->Hp->VK->Prop):Prop:=
 ∀(pins:List (Addr×Obj)) (s:aj) (O:St) (H:Hp) (x:V) (v vl vu:Value) (lo hi:Option Int) (sl:Addr) (Q:VK),Inv X pins O H s->RelV x v->s.heap.IsSliceOf sl vl vu .none->OO vl lo->OO vu hi->r x lo hi H Q->
  ∃T id,LZ (.type T) "__getitem__"=pure (some (.builtin id))/\s.TypeIs v T/\aD (aH X.prog X.w) X.A (z6 v (.ref sl)) (EP X pins O Q) X.xe s
def tSl(r:V->Option Int->Option Int->Hp->VK->Prop)(te:TE)(tl th:TO):TE:=fun O H Q=>te O H fun x H1=>tl O H1 fun l H2=>th O H2 fun u H3=>r x l u H3 Q
theorem Pj{r:V->Option Int->Option Int->Hp->VK->Prop}(hr:V7 X r)(he:PE X e te)(hl:PO X lo tl)(hu:PO X hi th):PE X (.Subscript e (.Slice lo hi none p2) pos) (tSl r te tl th):=by
 intro pins s O H Q I h;refine CN (aT (he pins s O H _ I h) fun v s1 ⟨x,H1,I1,r1,q1⟩=>?_);refine Jo (aT (hl pins s1 O H1 _ I1 q1) fun vl s2 ⟨l,H2,I2,pl,q2⟩=>aT (hu pins s2 O H2 _ I2 q2) fun vu s3 ⟨u,H3,I3,pu,q3⟩=>?_);rw[Fw];refine a7 ?_;have I4:Inv X pins O H3 { s3 with heap:=s3.heap.push { cls:=.type "slice",data:=.fields #[vl,vu,.none] } }:=I3.kept (t':=s3.toks) fun b ob q=>aJ _ q;obtain⟨T,id,hT,ht,hg⟩:=hr pins { s3 with heap:=s3.heap.push { cls:=.type "slice",data:=.fields #[vl,vu,.none] } } O H3 x v vl vu l u s3.heap.objs.size Q I4 r1 (zj ..) pl pu q3;show aD (aH X.prog X.w) X.A (ny e (.Slice lo hi none p2) v (.ref s3.heap.objs.size)) (EP X pins O Q) X.xe { s3 with heap:=s3.heap.push { cls:=.type "slice",data:=.fields #[vl,vu,.none] } };exact Io (ops:=[.ref s3.heap.objs.size,v]) ht hT hg (by with_unfolding_all rfl)
noncomputable def KJ(xs:List V)(lo hi:Option Int):List V:=(xs.drop (HT.kj xs.length 0 lo)).take (HT.kj xs.length xs.length hi-HT.kj xs.length 0 lo)
theorem IL(xs:List V)(lo hi:Option Int):(KJ xs lo hi).length<=xs.length:=by
 unfold KJ;rw[b9,c9];omega
noncomputable def X4(K:PySem.W.Frag):R2:=fun x y H Q=>∃a b xs ys,x=.ref a/\y=.ref b/\qS K H a xs/\qS K H b ys/\xs≠[]/\xs.length+ys.length<=aa /\
 (ys=[]->Q (.ref a) H)/\(ys≠[]->∀p,H p=none->Q (.ref p) (upd H p (.tup (xs++ys))))
theorem bE.De{xs:List V}{us:List Value}(r:bE xs us):us=[]↔xs=[]:=by
 cases r with
 |nil=>simp
 |cons _ _=>simp
theorem TZ:jv X (gz .Add) (X4 X.K):=by
 intro pins s O H x y v u Q I rx ry h;obtain⟨a,b,xs,ys,rfl,rfl,ha,hb,hx,hz,q1,q2⟩:=h;cases rx;cases ry;obtain⟨its,r1,p1,_⟩:=I.tuple ha;obtain⟨its2,r2,p2,_⟩:=I.tuple hb;refine HT.TV p1 p2 (fun z=>hx (r1.De.mp z)) (fun z=>⟨.ref a,H,I,rfl,q1 (r2.De.mp z)⟩) (fun z=>?_) (by rw[<-r1.length,<-r2.length];exact hz);refine⟨.ref s.heap.objs.size,_,I.laid (t':=s.toks) (o:=.tup (xs++ys)) (fun b ob q=>aJ _ q) (aM _) ?_,rfl,q2 (fun w=>z (r2.De.mpr w)) _ (I.hok.fresh (aM _))⟩;exact⟨by rw[ak];exact hz,_,r1.append r2,IsTup.new _ _⟩
end
end L2
namespace L2
open PySem PySem.Spec PyProof.Rows
noncomputable def iF(n:Nat)(i:Int):Option Nat:=if 0<=i then(if i<n then some i.toNat else none)else if -(n:Int)<=i then some (i+n).toNat else none
noncomputable def e_{α:Type}(xs:List α)(i:Int):Option α:=(iF xs.length i).bind fun j=>xs[j]?
variable{n j:Nat}{i:Int}
theorem Jx(h:iF n i=some j):seqIndex? i n=some j/\j<n/\-(n:Int)<=i/\i<n:=by
 unfold iF at h;by_cases h0:0<=i
 ·rw[if_pos h0]at h;by_cases h1:i<n
  ·rw[if_pos h1]at h;have e:i.toNat=j:=bJ h;exact⟨by rw[AN h0 h1,e],by omega,by omega,h1⟩
  ·rw[if_neg h1]at h;cases h
 ·rw[if_neg h0]at h;by_cases h1:-(n:Int)<=i
  ·rw[if_pos h1]at h;have e:(i+n).toNat=j:=bJ h;exact⟨by rw[zm (by omega) h1,e],by omega,h1,by omega⟩
  ·rw[if_neg h1]at h;cases h
variable{α:Type}
theorem rX{xs:List α}{v:α}(h:e_ xs i=some v):∃j,seqIndex? i xs.length=some j/\xs[j]?=some v/\j<xs.length/\-(xs.length:Int)<=i/\i<xs.length:=by
 unfold e_ at h;cases e:iF xs.length i with
 |none=>rw[e]at h;cases h
 |some j=>
  rw[e]at h;obtain⟨h1,h2,h3,h4⟩:=Jx e;exact⟨j,h1,h,h2,h3,h4⟩
theorem jy{xs:List α}{v:α}(h:xs[j]?=some v):e_ xs (j:Int)=some v:=by
 have hj:j<xs.length:=(bZ.mp h).1;have e:iF xs.length (j:Int)=some j:=by
  unfold iF;rw[if_pos (by omega),if_pos (by omega)];simp
 unfold e_;rw[e];exact h
def Jy(b:Expr):Prop:=∀o i,uU b false o i=operate [o,i] (z6 o i)
def Gd(X:Cx)(r:R2):Prop:=
 ∀(value slice:Expr) (pins:List (Addr×Obj)) (s:aj) (O:St) (H:Hp) (x y:V) (v u:Value) (Q:VK),Inv X pins O H s->RelV x v->RelV y u->r x y H Q->
  uU slice false v u=operate [v,u] (z6 v u)->aD (aH X.prog X.w) X.A (ny value slice v u) (EP X pins O Q) X.xe s
variable{pins:List (Addr×Obj)}{O:St}{H:Hp}{s:aj}{p:Addr}{xs:List V}
section
variable{X:Cx}{a b:Expr}{ta tb:TE}{pos:Pos}
theorem X5{r:R2}(hr:Gd X r)(ha:PE X a ta)(hb:PE X b tb)(hs:Jy b):PE X (.Subscript a b pos) (VQ r ta tb):=by
 intro pins s O H Q I h;exact CN (Pe ha hb I h fun v u s2 x y H2 I2 rx ry q=>hr a b pins s2 O H2 x y v u Q I2 rx ry q (hs _ _))
noncomputable def ZK(K:PySem.W.Frag):R2:=fun x y H Q=>∃p xs i v,x=.ref p/\y=.int i/\gO K H p xs/\e_ xs i=some v/\Q v H
noncomputable def ZL(K:PySem.W.Frag):R2:=fun x y H Q=>∃p xs i v,x=.ref p/\y=.int i/\qS K H p xs/\e_ xs i=some v/\Q v H
noncomputable def ZM:R2:=fun x y H Q=>∃z i c,x=.str z/\y=.int i/\z.length<=aa/\e_ z.cps.toList i=some c/\Q (.str ⟨#[c]⟩) H
theorem T3:Gd X (ZK X.K):=by
 intro value slice pins s O H x y v u Q I rx ry h hs;obtain⟨p,xs,i,z,rfl,rfl,hq,he,q⟩:=h;cases rx;obtain⟨t,rfl⟩:=ry;obtain⟨its,r,pl,hz⟩:=I.list hq;obtain⟨j,h1,h2,h3,h4,h5⟩:=rX he;obtain⟨w,ew,rw'⟩:=r.get h2;have hl:=r.length;have hn:=sE;have fin:EP X pins O Q w s:=⟨z,H,I,rw',q⟩;by_cases h0:0<=i
 ·have hj:i.toNat=j:=by
   rw[AN h0 h5]at h1;exact bJ h1
  exact item_listR pl.isList h0 (by omega) (by rw[hj];simpa using ew) fin hs
 ·have hj:(i+(its.toArray.size:Int)).toNat=j:=by
   rw[zm (by omega) h4]at h1;rw[aZ,<-hl];exact bJ h1
  exact uV (x:=w) pl.isList.typeIs qX.lookup
   (wpAny_getItem_list_neg (Q:=fun r s'=>r=w/\EP X pins O Q r s') pl.isList (by omega) (by rw[aZ]<;>omega) (by omega) (by rw[hj];simpa using ew) ⟨rfl,fin⟩) hs
theorem V8:Gd X (ZL X.K):=by
 intro value slice pins s O H x y v u Q I rx ry h hs;obtain⟨p,xs,i,z,rfl,rfl,hq,he,q⟩:=h;cases rx;obtain⟨t,rfl⟩:=ry;obtain⟨its,r,pl,hz⟩:=I.tuple hq;obtain⟨j,h1,h2,h3,h4,h5⟩:=rX he;obtain⟨w,ew,rw'⟩:=r.get h2;have hl:=r.length;have hn:=sE;have fin:EP X pins O Q w s:=⟨z,H,I,rw',q⟩;exact uV (x:=w) pl.typeIs zo.lookup
  (getItem_tuple (j:=j) (Q:=fun r s'=>r=w/\EP X pins O Q r s') pl (by omega) (by omega) (by rw[aZ,<-hl];exact h1) (by simpa using ew) ⟨rfl,fin⟩) hs
theorem V9:Gd X ZM:=by
 intro value slice pins s O H x y v u Q I rx ry h hs;obtain⟨z,i,c,rfl,rfl,hz,he,q⟩:=h;obtain⟨t,rfl⟩:=rx;obtain⟨t',rfl⟩:=ry;obtain⟨j,h1,h2,h3,h4,h5⟩:=rX he;have hl:z.cps.toList.length=z.length:=by simp[f9]
 rw[hl]at h1 h4 h5;have hn:=sE;exact Io (ia s z t) Bs.lookup (getItem_str (c:=c) (by
  have e1:decide (i < -(2 ^ 63:Int))=false:=decide_eq_false (by omega);have e2:decide (i≥2 ^ 63)=false:=decide_eq_false (by omega);rw[e1,e2,Bool.or_false]) (by rw[h1];simpa using h2) ⟨.str ⟨#[c]⟩,H,I.tok _,⟨_,rfl⟩,q⟩) hs
theorem KL(its:List Value)(n j:Nat)(u:Value):kL (·.setIfInBounds j u) { cls:=.type "list",data:=.seq its.toArray n }={ cls:=.type "list",data:=.seq (its.set j u).toArray n }:=by
 simp[kL]
theorem Inv.lst(I:Inv X pins O H s)(h:H p=some (.lst xs)) :
  ∃(its:List Value) (n:Nat),bE xs its/\s.heap.get? p=some { cls:=.type "list",data:=.seq its.toArray n }/\xs.length<=aa:=by
 obtain⟨z,its,n,r,e⟩:=I.hok p _ h;exact⟨its,n,r,e,z⟩
theorem Inv.V_{ys:List V}{its its':List Value}{n':Nat}{f:Obj->Obj}(I:Inv X pins O H s)(h:H p=some (.lst xs))
  (ho:s.heap.get? p=some { cls:=.type "list",data:=.seq its.toArray n }) (hf:f { cls:=.type "list",data:=.seq its.toArray n }={ cls:=.type "list",data:=.seq its'.toArray n' }) (r:bE ys its') (hz:ys.length<=aa) (t:Nat) :
  Inv X pins O (upd H p (.lst ys)) { s with heap:=s.heap.update p f,toks:=t }:=by
 have e:(s.heap.update p f).get? p=some { cls:=.type "list",data:=.seq its'.toArray n' }:=by
  rw[nV f ho (by rw[hf]<;>rfl),hf]
 refine I.write (x:=p) (e:=p) (by rw[h];trivial) (.inl rfl) (fun b u hb q=>(eZ _ _ (cY hb)).trans q) ⟨_,e⟩ ?_;exact⟨hz,its',n',r,e⟩
def X6:V->V->V->Hp->(Hp->Prop)->Prop:=fun o i v H Q=>∃p xs k j,o=.ref p/\i=.int k/\H p=some (.lst xs)/\iF xs.length k=some j/\Q (upd H p (.lst (xs.set j v)))
theorem set_list:Pa X X6:=by
 intro pins s O H o i v ov iv u Q I ro ri rv h;obtain⟨p,xs,k,j,rfl,rfl,hp,hj,q⟩:=h;cases ro;obtain⟨t,rfl⟩:=ri;obtain⟨its,n,r,ho,hz⟩:=I.lst hp;obtain⟨h1,h2,h3,h4⟩:=Jx hj;have hl:=r.length;have hn:=sE;have I':Inv X pins O (upd H p (.lst (xs.set j v))) { s with heap:=s.heap.update p (kL (·.setIfInBounds j u)) }:=
  I.V_ hp ho (KL its n j u) (r.set rv j) (by rw[CP];exact hz) s.toks
 by_cases h0:0<=k
 ·have hk:k.toNat=j:=by
   rw[AN h0 h4]at h1;exact bJ h1
  exact PySem.W.ki_setAt ho h0 (by omega) (by rw[aZ,<-hl];exact h4) (by rw[hk];exact⟨_,I',q⟩)
 ·have hk:(k+(its.toArray.size:Int)).toNat=j:=by
   rw[zm (by omega) h3]at h1;rw[aZ,<-hl];exact bJ h1
  exact PySem.W.ki_setBack ho (by omega) (by rw[aZ,<-hl];exact h3) (by omega) (by rw[hk];exact⟨_,I',q⟩)
theorem Ge(lo hi:Option Int)(n:Nat):(fJ lo hi none n).1=((HT.kj n 0 lo:Nat):Int)/\(fJ lo hi none n).2.1=((HT.kj n n hi:Nat):Int)/\(fJ lo hi none n).2.2=1:=by
 refine⟨?_,?_,rfl⟩
 ·cases lo with
  |none=>simp[fJ,HT.kj]
  |some i=>
   simp only[fJ,HT.kj,Bt,show(1:Int)>0 by decide,if_true];by_cases h:i<0
   ·simp only[h,if_true]<;>omega
   ·simp only[h,if_false]<;>omega
 ·cases hi with
  |none=>simp[fJ,HT.kj]
  |some i=>
   simp only[fJ,HT.kj,Bt,show(1:Int)>0 by decide,if_true];by_cases h:i<0
   ·simp only[h,if_true]<;>omega
   ·simp only[h,if_false]<;>omega
theorem Fb(its:List Value)(lo hi:Option Int):zp its.toArray lo hi none=((its.drop (HT.kj its.length 0 lo)).take (HT.kj its.length its.length hi-HT.kj its.length 0 lo)).toArray:=by
 obtain⟨h1,h2,h3⟩:=Ge lo hi its.toArray.size;unfold zp;rw[h1,h2,h3];simp only[sliceRange_one,pick_run,aZ]<;>rfl
def ZN(K:PySem.W.Frag):V->Option Int->Option Int->Hp->VK->Prop:=fun x lo hi H Q=>∃a xs,x=.ref a/\gO K H a xs/\∀p,H p=none->Q (.ref p) (upd H p (.lst (KJ xs lo hi)))
theorem T4:V7 X (ZN X.K):=by
 intro pins s O H x v vl vu lo hi sl Q I rx hs pl pu h;obtain⟨a,xs,rfl,hx,q⟩:=h;cases rx;obtain⟨its,r,ht,hz⟩:=I.list hx;have hlen:=r.length;refine⟨"list",_,qX.lookup,ht.isList.typeIs,?_⟩;refine tD ht.isList hs pl pu .none (by simp) ?_ (by rw[aZ]<;>omega);rw[Fb,<-hlen];refine⟨.ref s.heap.objs.size,_,I.laid (t':=s.toks) (o:=.lst (KJ xs lo hi)) (fun b ob q=>aJ _ q) (aM _) ?_,rfl,q _ (I.hok.fresh (aM _))⟩;exact⟨d_ (IL xs lo hi) hz,_,0,(r.drop (HT.kj xs.length 0 lo)).take (HT.kj xs.length xs.length hi-HT.kj xs.length 0 lo),bL _ rfl⟩
theorem Gf:p7 X (.builtin "len") (fun xs H Q=>∃p ys,xs=[.ref p]/\(gO X.K H p ys\/qS X.K H p ys)/\Q (.int ys.length) H):=by
 intro pins s O H xs us Q I r h;obtain⟨p,ys,rfl,hq,q⟩:=h;obtain⟨u,rfl,rx⟩:=vals1 r;cases rx;have hn:=sE;rcases hq with hq|hq
 ·obtain⟨its,r',pl,hz⟩:=I.list hq;have hlen:=r'.length;exact Calls.call_len_list pl.isList (by simp only[aZ]<;>omega) ⟨.int ys.length,H,I.tok _,⟨s.toks+1,by rw[aZ,hlen]⟩,q⟩
 ·obtain⟨its,r',pl,hz⟩:=I.tuple hq;have hlen:=r'.length;exact len_tuple pl (by simp only[aZ]<;>omega) ⟨.int ys.length,H,I.tok _,⟨s.toks+1,by rw[aZ,hlen]⟩,q⟩
theorem Gg:p7 X (.builtin "len") (fun xs H Q=>∃z,xs=[.str z]/\z.length<=aa/\Q (.int z.length) H):=by
 intro pins s O H xs us Q I r h;obtain⟨z,rfl,hz,q⟩:=h;obtain⟨u,rfl,t,rfl⟩:=vals1 r;have hn:=sE;exact len_str (by omega) ⟨.int z.length,H,I.tok _,⟨_,rfl⟩,q⟩
def tP(K:PySem.W.Frag)(T:String)(x:V)(H:Hp):Prop:=match x with
|.str _=>T="str"
|.int _=>T="int"
|.ref p=>(T="list"/\∃xs,gO K H p xs)\/(T="tuple"/\∃o,K.lookup p=some o/\o.cls=.type "tuple"/\o.dict=none) \/
  (T="dict"/\((∃kvs,H p=some (.dK kvs))\/∃kvs,H p=some (.dT kvs)))\/(T="set"/\∃S n,H p=some (.set S n))
|_=>False
theorem BG{x:V}{v:Value}(I:Inv X pins O H s)(r:RelV x v)(ty:tP X.K T x H) :
  s.TypeIs v T/\∀a,v=.ref a->∃ob,s.heap.get? a=some ob/\ob.dict=none:=by
 cases x with
 |str z=>
  obtain⟨t,rfl⟩:=r;cases(show T="str" from ty);exact⟨ia s z t,fun _ e=>nomatch e⟩
 |int i=>
  obtain⟨t,rfl⟩:=r;cases(show T="int" from ty);exact⟨CQ s i t,fun _ e=>nomatch e⟩
 |ref p=>
  cases r;rcases ty with⟨rfl,xs,hq⟩|⟨rfl,o,hk,hc,hd⟩|⟨rfl,hk⟩|⟨rfl,S,n,hk⟩
  ·obtain⟨its,_,pl,_⟩:=I.list hq;refine⟨pl.isList.typeIs,fun a e=>?_⟩;cases e;obtain⟨o,n,e,c,hd,_⟩:=pl;exact⟨o,e,hd⟩
  ·refine⟨⟨o,I.ki p o hk,hc⟩,fun a e=>?_⟩;cases e;exact⟨o,I.ki _ o hk,hd⟩
  ·have z:∃o,s.heap.get? p=some o/\o.ExactDict:=by
    rcases hk with⟨kvs,hk⟩|⟨kvs,hk⟩
    ·obtain⟨_,_,_,_,o,_,_,e,ex,_⟩:=I.hok p _ hk;exact⟨o,e,ex⟩
    ·obtain⟨_,_,_,_,o,_,_,e,ex,_⟩:=I.hok p _ hk;exact⟨o,e,ex⟩
   obtain⟨o,e,ex⟩:=z;refine⟨⟨o,e,ex.1⟩,fun a e2=>?_⟩;cases e2;exact⟨o,e,ex.2.1⟩
  ·obtain⟨o,_,_,_,e,ex,_⟩:=I.hok p _ hk;refine⟨⟨o,e,ex.1⟩,fun a e2=>?_⟩;cases e2;exact⟨o,e,ex.2.1⟩
 |_=>exact ay ty
variable{o e:Expr}{es:List Expr}{to:TE}{t:TA}{name:Str}{apos cpos:Pos}{T id:String}{r:V->List V->Hp->VK->Prop}
end
end L2
namespace L2
open PySem PySem.Spec PyProof.Rows
def MtM(X:Cx)(id:String)(r:V->List V->Hp->VK->Prop):Prop:=
 ∀(pins:List (Addr×Obj)) (s:aj) (O:St) (H:Hp) (x:V) (xs:List V) (v:Value) (us:List Value) (Q:VK),Inv X pins O H s->RelV x v->bE xs us->r x xs H Q->
  aD (aH X.prog X.w) X.A (call (.builtin id) (v::us)) (EP X pins O Q) X.xe s
theorem bE.one:∀{x:V}{us:List Value},bE [x] us->∃u,us=[u]/\RelV x u
|_,_,.cons r .nil=>⟨_,rfl,r⟩
theorem bE.rep{xs:List V}{us:List Value}(h:bE xs us):∀k:Nat,bE (aO k xs).flatten (aO k us).flatten
|0=>.nil
|k+1=>by
 rw[b_,b_,dc,dc];exact bE.append h (bE.rep h k)
theorem foldl_rep(its:List Value):∀(k:Nat) (acc:List Value),
 CT (fun x1 x2=>x1++x2) acc.toArray (aO k its.toArray)=(acc++(aO k its).flatten).toArray
|0,acc=>by simp
|k+1,acc=>by
 have e:acc.toArray++its.toArray=(acc++its).toArray:=by simp
 have e2:(acc++its)++(aO k its).flatten=acc++(aO (k+1) its).flatten:=by
  rw[b_,dc,a_]
 rw[<-e2,<-foldl_rep its k (acc++its),<-e,b_,CU]
variable{its:List Value}{n t':Nat}
section
variable{X:Cx}{pins:List (Addr×Obj)}{O:St}{H:Hp}{s:aj}{l b:Addr}{xs ys zs:List V}
theorem Inv.ZO{its':List Value}{f:Array Value->Array Value}(I:Inv X pins O H s)(hH:H l=some (.lst xs))
  (e:s.heap.get? l=some { cls:=.type "list",data:=.seq its.toArray n }) (hf:f its.toArray=its'.toArray) (hv:bE ys its') (hz:ys.length<=aa) :
  Inv X pins O (upd H l (.lst ys)) { s with heap:=s.heap.update l (kL f),toks:=t' }:=by
 have q:=PySem.IsL.update e f;rw[hf]at q;refine I.write (x:=l) (e:=l) (by rw[hH];exact trivial) (.inl rfl) (fun b' u hb hu=>(eZ s.heap (kL f) (cY hb)).trans hu) ⟨_,q⟩ ?_;exact⟨hz,its',_,hv,q⟩
theorem Inv.KN(I:Inv X pins O H s)(hv:bE ys its)(hz:ys.length<=aa) :
  Inv X pins O (upd H s.heap.objs.size (.lst ys)) { s with heap:=s.heap.push { cls:=.type "list",data:=.seq its.toArray },toks:=t' }:=
 I.laid (fun _ _ q=>aJ _ q) (aM _) ⟨hz,its,0,hv,bL _ rfl⟩
theorem Inv.fresh(I:Inv X pins O H s):H s.heap.objs.size=none:=I.hok.fresh (aM _)
theorem Inv.ZP(I:Inv X pins O H s)(hH:H l=some (.lst xs)):xs.length<=aa/\∃(its:List Value) (n:Nat),bE xs its/\xs.length=its.length/\s.heap.get? l=some { cls:=.type "list",data:=.seq its.toArray n }:=by
 obtain⟨z,its,n,r,e⟩:=I.hok l _ hH;exact⟨z,its,n,r,r.length,e⟩
theorem Pk(h:n<=aa):lU n=false:=by
 unfold lU;exact decide_eq_false (by omega)
end
section
variable{X:Cx}
def T5:V->List V->Hp->VK->Prop:=fun x vs H Q=>∃l xs y,x=.ref l/\vs=[y]/\H l=some (.lst xs)/\xs.length<aa/\Q .non (upd H l (.lst (xs++[y])))
theorem Mv:MtM X "list.append" T5:=by
 intro pins s O H x vs v us Q I rx rv h;obtain⟨l,xs,y,rfl,rfl,hH,hz,q⟩:=h;cases rx;obtain⟨u,rfl,ru⟩:=rv.one;obtain⟨z,its,n,r,hl,e⟩:=I.ZP hH;refine ic F.slot_list_append ⟨_,e,rfl⟩ F.entry_list_append (F.args_list_append_2 _ _) (PySem.list_append l its.toArray n u (by rw[aZ];omega)) ⟨e,?_⟩;refine⟨.non,_,I.ZO (its':=its++[u]) hH e (by simp) (r.append (.cons ru .nil)) ?_,rfl,q⟩;rw[ak,aG];omega
theorem len_rep{α:Type}(xs:List α)(k:Nat):(aO k xs).flatten.length=k*xs.length:=by
 induction k with
 |zero=>simp
 |succ k ih=>rw[b_,dc,ak,ih,zq,zu]
end
end L2
end
section
namespace L2
open PySem PySem.Spec PyProof.Rows
variable{o:Option V}
variable{y:V}{u:Value}
section
variable{κ:Type} [DecidableEq κ]
noncomputable def kB(kvs:List (κ×V))(k:κ):Option V:=(kvs.find? fun kv=>decide (kv.1=k)).map (·.2)
noncomputable def putK(kvs:List (κ×V))(k:κ)(v:V):List (κ×V):=
 if(kvs.any fun kv=>decide (kv.1=k))=true then kvs.map (fun kv=>if kv.1=k then(kv.1,v)else kv)else kvs++[(k,v)]
theorem AV{p:κ×V}{r:List (κ×V)}{k:κ}(e:p.1=k):kB (p::r) k=some p.2:=by simp[kB,jN,e]
theorem AW{p:κ×V}{r:List (κ×V)}{k:κ}(e:¬p.1=k):kB (p::r) k=kB r k:=by simp[kB,jN,e]
theorem Gh(k:κ):∀kvs:List (κ×V),(kvs.any fun kv=>decide (kv.1=k))=(kB kvs k).isSome
|[]=>rfl
|p::r=>by
 rw[nB];by_cases e:p.1=k
 ·simp only[AV e,decide_eq_true e,Ip,zw]
 ·rw[AW e,decide_eq_false e,Bool.false_or];exact Gh k r
theorem Aj(kvs:List (κ×V))(k:κ)(v:V):(putK kvs k v).length<=kvs.length+1:=by
 unfold putK;split
 ·rw[ah];omega
 ·rw[ak,aC,fU];omega
theorem pq.qA{u:Option Value}(r:pq o u):o.isSome=u.isSome:=by
 cases o with
 |none=>cases u with
  |none=>rfl
  |some _=>exact(show False from r).elim
 |some _=>cases u with
  |none=>exact(show False from r).elim
  |some _=>rfl
theorem KV.val{kvs:List (κ×V)}{vs:List (κ×Value)}(r:KV kvs vs)(k:κ):pq (kB kvs k) (sy vs k):=by
 unfold KV at r;induction r with
 |nil=>exact ie
 |@cons p q ps qs h t ih=>
  obtain⟨h1,h2⟩:=h;by_cases e:p.1=k
  ·have e':q.1=k:=h1.symm.trans e;have b:sy (q::qs) k=some q.2:=by simp[sy,jN,e']
   rw[AV e,b];exact h2
  ·have e':¬q.1=k:=fun z=>e (h1.trans z);have b:sy (q::qs) k=sy qs k:=by simp[sy,jN,e']
   rw[AW e,b];exact ih
theorem KV.any{kvs:List (κ×V)}{vs:List (κ×Value)}(r:KV kvs vs)(k:κ):(kvs.any fun kv=>decide (kv.1=k))=vs.any fun kv=>decide (kv.1=k):=by
 unfold KV at r;induction r with
 |nil=>rfl
 |cons h t ih=>rw[nB,nB,ih,h.1]
theorem KV.repl{kvs:List (κ×V)}{vs:List (κ×Value)}(r:KV kvs vs)(k:κ)(ry:RelV y u) :
  KV (kvs.map fun kv=>if kv.1=k then(kv.1,y)else kv) (vs.map fun kv=>if kv.1=k then(kv.1,u)else kv):=by
 unfold KV at r ⊢;induction r with
 |nil=>exact .nil
 |@cons p q ps qs h t ih=>
  rw[cR,cR];refine .cons ?_ ih;obtain⟨h1,h2⟩:=h;by_cases e:p.1=k
  ·rw[if_pos e,if_pos (h1.symm.trans e)];exact⟨h1,ry⟩
  ·rw[if_neg e,if_neg (fun z=>e (h1.trans z))];exact⟨h1,h2⟩
theorem KV.put{kvs:List (κ×V)}{vs:List (κ×Value)}(r:KV kvs vs)(k:κ)(ry:RelV y u):KV (putK kvs k y) (stored vs k u):=by
 unfold putK stored;rw[r.any k];by_cases e:(vs.any fun kv=>decide (kv.1=k))=true
 ·rw[if_pos e,if_pos e];exact r.repl k ry
 ·rw[if_neg e,if_neg e];exact Paired.snoc r ⟨rfl,ry⟩
theorem KV.length{kvs:List (κ×V)}{vs:List (κ×Value)}(r:KV kvs vs):kvs.length=vs.length:=Paired.length r
end
variable{P:bH}{w:bY}
theorem zE{k:Key}(r:RelV (kV k) u):(gS P w).is k u=true:=by
 cases k with
 |inl i=>obtain⟨t,e⟩:=(show ∃t,u=zc i t from r);subst e;exact Af P w i t
 |inr x=>obtain⟨t,e⟩:=(show ∃t,u=zd x t from r);subst e;exact Ag P w x t
theorem D_:∀{ks:List Key}{us:List Value},bE (ks.map kV) us->ItemsAre (gS P w) ks us
|[],_,r=>by rw[Iq]at r;cases r;exact .nil
|k::ks,_,r=>by
 rw[cR]at r;cases r with
 |cons h t=>exact .cons (zE h) (D_ t)
abbrev KT(H:Hp):List (List Key×V)->List (List Key×Addr×Value)->Prop:=Paired fun p q=>p.1=q.1/\H q.2.1=some (.tup (p.1.map kV))/\RelV p.2 q.2.2
variable{H:Hp}{kvs:List (List Key×V)}{xs:List (List Key×Addr×Value)}
theorem KT.val(r:KT H kvs xs)(k:List Key):pq (kB kvs k) ((ug xs k).map (·.2)):=by
 induction r with
 |nil=>exact ie
 |@cons p q ps qs h t ih=>
  obtain⟨h1,_,h2⟩:=h;by_cases e:p.1=k
  ·have e':q.1=k:=h1.symm.trans e;have b:ug (q::qs) k=some q.2:=by simp[ug,jN,e']
   rw[AV e,b];exact h2
  ·have e':¬q.1=k:=fun z=>e (h1.trans z);have b:ug (q::qs) k=ug qs k:=by simp[ug,jN,e']
   rw[AW e,b];exact ih
theorem KT.repl(r:KT H kvs xs)(k:List Key)(ry:RelV y u) :
  KT H (kvs.map fun kv=>if kv.1=k then(kv.1,y)else kv) (xs.map (putAt k u)):=by
 induction r with
 |nil=>exact .nil
 |@cons p q ps qs h t ih=>
  rw[cR,cR];refine .cons ?_ ih;obtain⟨h1,h2,h3⟩:=h;unfold putAt;by_cases e:p.1=k
  ·rw[if_pos e,if_pos (h1.symm.trans e)];exact⟨h1,h2,ry⟩
  ·rw[if_neg e,if_neg (fun z=>e (h1.trans z))];exact⟨h1,h2,h3⟩
theorem KT.put(r:KT H kvs xs)(k:List Key){b:Addr}(hb:H b=some (.tup (k.map kV)))(ry:RelV y u) :
  KT H (putK kvs k y) (storedH xs k b u):=by
 have e:(kvs.any fun kv=>decide (kv.1=k))=(ug xs k).isSome:=by
  rw[Gh,(r.val k).qA,qY]
 unfold putK storedH;rw[e];by_cases q:(ug xs k).isSome=true
 ·rw[if_pos q,if_pos q];exact r.repl k ry
 ·rw[if_neg q,if_neg q];exact Paired.snoc r ⟨rfl,hb,ry⟩
variable{H':Hp}
theorem KT.keeps(r:KT H kvs xs)(ht:∀b ys,H b=some (.tup ys)->H' b=some (.tup ys)):KT H' kvs xs:=
 Paired.O4 r fun _ _ z=>⟨z.1,ht _ _ z.2.1,z.2.2⟩
section
variable{P:bH}{w:bY}{H:Hp}{h:Heap}{a:Addr}
theorem Sw{u:HO}(ok:fW P w H h)(e:Rd H a u):gj P w H h a u:=e.ok ok
theorem zF{kvs:List (Key×V)}(ok:fW P w H h)(e:Rd H a (.dK kvs)):kvs.length<=aa/\(a==kJ)=false/\∃vs,KV kvs vs/\h.DictOf (gS P w) a vs:=
 show gj P w H h a (.dK kvs)from Sw ok e
theorem X7{kvs:List (Key×V)}(ok:fW P w H h)(e:H a=some (.dK kvs)):kvs.length<=aa/\(a==kJ)=false/\∃vs,KV kvs vs/\h.DictOf (gS P w) a vs:=zF ok (.inl e)
theorem xP{ks:List Key}(ok:fW P w H h)(e:H a=some (.tup (ks.map kV))):(ud (gS P w)).is h ks a:=by
 obtain⟨_,its,r,o,h1,h2,n,h3⟩:=(show gj P w H h a (.tup (ks.map kV))from ok a _ e);exact⟨o,its.toArray,n,h1,h2,h3,by simpa using D_ r⟩
theorem BH(ok:fW P w H h)(e:Rd H a (.dT kvs)):kvs.length<=aa/\(a==kJ)=false /\
  ∃xs,KT H kvs xs/\h.DictOfH (ud (gS P w)) a xs:=by
 obtain⟨z,y,xs,r,o,es,ep,h1,h2,h3,h4,h5⟩:=(show gj P w H h a (.dT kvs)from Sw ok e);refine⟨z,y,xs,r,o,es,ep,h1,h2,h3,h4,fun x hx=>?_,h5⟩;have all:∀{l:List (List Key×V)}{m:List (List Key×Addr×Value)},KT H l m->∀x∈m,(ud (gS P w)).is h x.1 x.2.1:=by
  intro l m q;induction q with
  |nil=>intro x hx;exact nomatch hx
  |@cons p q ps qs hq t ih=>
   intro x hx;rcases aF.mp hx with e|hx
   ·subst e;exact xP ok (by rw[<-hq.1];exact hq.2.1)
   ·exact ih x hx
 exact all r x hx
theorem X8(ok:fW P w H h)(e:H a=some (.dT kvs)):kvs.length<=aa/\(a==kJ)=false /\
  ∃xs,KT H kvs xs/\h.DictOfH (ud (gS P w)) a xs:=BH ok (.inl e)
end
def Df(H:Hp)(a:Addr)(y:V)(r:Option V):Prop:=
 (∃kvs k,Rd H a (.dK kvs)/\y=kV k/\r=kB kvs k)\/∃kvs k b,Rd H a (.dT kvs)/\y=.ref b/\H b=some (.tup (k.map kV))/\r=kB kvs k
def ZQ(H:Hp)(a:Addr)(y v:V)(H':Hp):Prop:=
 (∃kvs k,H a=some (.dK kvs)/\y=kV k/\kvs.length<aa/\H'=upd H a (.dK (putK kvs k v))) \/
 ∃kvs k b,H a=some (.dT kvs)/\y=.ref b/\H b=some (.tup (k.map kV))/\kvs.length<aa/\H'=upd H a (.dT (putK kvs k v))
variable{Q:Value->aj->Prop}
variable{h':Heap}
section
variable{X:Cx}{pins:List (Addr×Obj)}{O:St}{H:Hp}{s:aj}{a:Addr}{y v:V}{u r:Value}{o:Option V}{A:dF}{E:Value->aj->Prop}
theorem Ea(hu:A.units+1<dS)(I:Inv X pins O H s)(g:Df H a y (some v))(ry:RelV y u)(h:∀w' s',Inv X pins O H s'->RelV v w'->Q w' s') :
  aD (aH X.prog X.w) A (z6 (.ref a) u) Q E s:=by
 rcases g with⟨kvs,k,e,ey,l⟩|⟨kvs,k,b,e,ey,eb,l⟩
 ·subst ey;obtain⟨z,hd,vs,rel,dd⟩:=zF I.hok e;obtain⟨w',hw,rw'⟩:=pq.some_of (v:=v) (o:=sy vs k) (by rw[l];exact rel.val k);exact wpAny_getItem_of (zE ry) dd.mapOf hw (h w' _ (I.tok _) rw')
 ·subst ey;cases(show u=bG b from ry);obtain⟨z,hd,xs,rel,dd⟩:=BH I.hok e;obtain⟨w',hw,rw'⟩:=pq.some_of (v:=v) (o:=(ug xs k).map (·.2)) (by rw[l];exact rel.val k);obtain⟨p,hp,hp2⟩:=Option.map_eq_some_iff.mp hw;refine wpAny_getItem_heap (lV hu) (xP I.hok eb) dd hp ?_;rw[hp2];exact h w' _ (I.tok _) rw'
theorem ZR(hu:A.units+1<dS)(I:Inv X pins O H s)(g:Df H a y o)(ry:RelV y u)(h:∀s',Inv X pins O H s'->Q (.bool o.isSome) s') :
  aD (aH X.prog X.w) A (gh .In u (.ref a)) Q E s:=by
 rcases g with⟨kvs,k,e,ey,l⟩|⟨kvs,k,b,e,ey,eb,l⟩
 ·subst ey;obtain⟨z,hd,vs,rel,dd⟩:=zF I.hok e;refine wpAny_in_of (zE ry) hd dd.mapOf ?_;rw[<-(rel.val k).qA,<-l];exact h _ (I.tok _)
 ·subst ey;cases(show u=bG b from ry);obtain⟨z,hd,xs,rel,dd⟩:=BH I.hok e;refine wpAny_in_heap (lV hu) (xP I.hok eb) hd dd ?_;have q:=(rel.val k).qA;rw[qY]at q;rw[<-q,<-l];exact h _ (I.tok _)
theorem T6(hu:A.units+1<dS)(I:Inv X pins O H s)(g:Df H a y o)(ry:RelV y u)(h:∀s',Inv X pins O H s'->Q (.bool (!o.isSome)) s') :
  aD (aH X.prog X.w) A (gh .NotIn u (.ref a)) Q E s:=by
 rcases g with⟨kvs,k,e,ey,l⟩|⟨kvs,k,b,e,ey,eb,l⟩
 ·subst ey;obtain⟨z,hd,vs,rel,dd⟩:=zF I.hok e;refine wpAny_notIn_of (zE ry) hd dd.mapOf ?_;rw[<-(rel.val k).qA,<-l];exact h _ (I.tok _)
 ·subst ey;cases(show u=bG b from ry);obtain⟨z,hd,xs,rel,dd⟩:=BH I.hok e;refine wpAny_notIn_heap (lV hu) (xP I.hok eb) hd dd ?_;have q:=(rel.val k).qA;rw[qY]at q;rw[<-q,<-l];exact h _ (I.tok _)
theorem Jz{t':Nat}{ob:HO}(I:Inv X pins O H s)(mu:Mg (H a))(hs:lT a s.heap h')(he:∃q,h'.get? a=some q)(new:gj X.prog X.w (upd H a ob) h' a ob) :
  Inv X pins O (upd H a ob) { s with heap:=h',toks:=t' }:=
 I.write (x:=a) (e:=a) mu (.inl rfl) (fun b q hb z=>(hs.2 b hb).trans z) he new
theorem Wa{kvs:List (Key×V)}{vs:List (Key×Value)}(z:kvs.length<=aa)(hd:(a==kJ)=false)(rel:KV kvs vs)(dd:h'.DictOf (gS P w) a vs) :
  gj P w H' h' a (.dK kvs):=⟨z,hd,vs,rel,dd⟩
theorem Eb{Q:Unit->aj->Prop}(hu:A.units+1<dS)(I:Inv X pins O H s)(g:ZQ H a y v H')(ry:RelV y u)(rv:RelV v r)(h:∀s',Inv X pins O H' s'->Q () s') :
  aD (aH X.prog X.w) A (Kr (.ref a) u r) Q E s:=by
 rcases g with⟨kvs,k,e,ey,l,eH⟩|⟨kvs,k,b,e,ey,eb,l,eH⟩
 ·subst ey eH;obtain⟨z,hd,vs,rel,dd⟩:=X7 I.hok e;have hz:vs.length<=aa:=by rw[<-rel.length];exact z
  have hl:(putK kvs k v).length<=aa:=by have:=Aj kvs k v;omega
  refine wpAny_setItem_pairs (hsz:=hz) (zE ry) dd fun h' dd' hs=>h _ ?_;have he:∃q,h'.get? a=some q:=let⟨q,_,_,hq,_⟩:=dd';⟨q,hq⟩
  exact Jz I (by rw[e];exact ie) hs he (Wa hl hd (rel.put k rv) dd')
 ·subst ey eH;cases(show u=bG b from ry);obtain⟨z,hd,xs,rel,dd⟩:=X8 I.hok e;have hz:xs.length<=aa:=by rw[<-Paired.length rel];exact z
  have hl:(putK kvs k v).length<=aa:=by have:=Aj kvs k v;omega
  refine wpAny_setItem_heap (hsz:=hz) (lV hu) (xP I.hok eb) dd fun h' dd' hs=>h _ ?_;obtain⟨q,es,ep,hq,h2,h3,h4,_,h5⟩:=dd';refine Jz I (by rw[e];exact ie) hs ⟨q,hq⟩ ⟨hl,hd,_,(rel.put k eb rv).keeps fun c ys ec=>?_,q,es,ep,hq,h2,h3,h4,h5⟩;rw[aQ (XJ ec e (fun z=>nomatch z))];exact ec
end
section
variable{X:Cx}{pins:List (Addr×Obj)}{O:St}{H:Hp}{s:aj}{a:Addr}{kvs:List (Key×V)}{k:Key}{u:Value}{A:dF}{E:Value->aj->Prop}
theorem X_(I:Inv X pins O H s)(e:Rd H a (.dK kvs))(h:∀t s',Inv X pins O H s'->Q (.int kvs.length t) s'):aD (aH X.prog X.w) A (call (.builtin "len") [.ref a]) Q E s:=by
 obtain⟨z,hd,vs,rel,dd⟩:=zF I.hok e;refine call_len_dict hd dd (by rw[<-rel.length];rw[eE]at z;omega) ?_;rw[<-rel.length];exact h _ _ (I.tok _)
end
theorem Ak{X:Cx}{pins:List (Addr×Obj)}{O:St}{s:aj}{a:Addr}(I:Inv X pins O H s)(g:Df H a y o):s.TypeIs (.ref a) "dict":=by
 rcases g with⟨kvs,k,e,_,_⟩|⟨kvs,k,b,e,_,_,_⟩
 ·obtain⟨_,_,vs,_,dd⟩:=zF I.hok e;exact dd.typeIs
 ·obtain⟨_,_,xs,_,dd⟩:=BH I.hok e;exact dd.typeIs
end L2
end
section
namespace Att
open PySem PySem.W PySem.Calls PyProof.Rows
variable{P:Ir}{h:Heap}
theorem BI:∀(ns:List Int) (vs:List Value),WellAll P h vs (ns.map OP)->z7 vs ns:=by
 intro ns;induction ns with
 |nil=>
  intro vs w;rw[Iq]at w;cases w;exact .nil
 |cons n ns ih=>
  intro vs w;rw[cR]at w;cases w with
  |cons a b=>
   cases a;exact .cons _ _ (ih _ b)
variable{l:OpenLaw}{n:Nat}
theorem Mw(hn:l.most=some n){args:List WData}{vals:List Value}
  (hpre:l.row.toRowW.claim.pre args=true) (hwl:WellAll P h vals args) :
  ∃a vs ns,vals=[bG a]/\args=[WData.list (ns.map OP)]/\h.get? a=some { cls:=.type "list",data:=.seq vs.toArray }/\z7 vs ns/\ns.length<=n:=by
 have hsh:WShape.hasAll [] args [.list .int]=true:=(L4 hpre).1;have hc:l.pre.holds [] { args:=args }=true:=(L4 hpre).2;obtain⟨d,r,rfl,h1,h2⟩:=hasAllW_cons hsh;obtain rfl:=hasAllW_nil h2;obtain⟨xs,rfl,h3⟩:=hasW_list h1;obtain⟨ns,rfl⟩:=items_int h3;have hlen:ns.length<=n:=by
  unfold XH at hc;have h4:(WTm.not (.lt (.lit (.int (n:Int))) (.len (.arg 0)))).holds [] { args:=[.list (ns.map .int)] }=true:=by
   have h4:=(holds_andW hc).1;rw[hn]at h4;exact h4
  have h5:=condW_of h4 (w_not (w_lt w_lit (w_len_list (w_arg rfl))));rw[ah]at h5;refine Nat.le_of_not_lt fun q=>?_;have q':(n:Int)<((ns.length:Nat):Int):=by omega
  first
   |(rw[decide_eq_true q']at h5;exact absurd h5 (by decide))
   |(simp at h5;omega)
 cases hwl with
 |cons w1 w2=>
  cases w2;cases w1 with
  |list ho hall=>exact⟨_,_,ns,rfl,rfl,ho,BI ns _ hall,hlen⟩
theorem Mx(l:OpenLaw)(args:List WData):l.row.toRowW.claim.post args (.bool true) args=true:=
 postW_of (r:=l.row.toRowW) (X:=(true==true))
  (show L5 [] (.bool true) .bool=true by first|rfl|decide|simp[L5,WShape.arms,WShape.armsAll])
  (show(WTm.eq .res (.lit (.bool true))).value [] { args:=args,res:=some (.bool true),after:=args }=some (.bool (true==true))from w_eq_bool (w_res rfl) w_lit) rfl
theorem IM{q:bH}{loose:List Str}{XP:(Str->Option Value)->Heap->Prop}{YP:bY->Heap->Prop}{d:OQ}
  (hn:l.most=some n) (hdf:d.params.defaults=[])
  (call:∀(w:bY) (aax aaz:aj) (mg mb:Str->Option Value) (fa:Addr) (o:Obj) (pm cd doc:Value) (a:Addr) (vs:List Value) (ns:List Int),
   Ground q loose [] XP w aax mg mb aaz.heap->YP w aaz.heap->
   aaz.heap.get? fa=some o->o.data=.func (docDef d.name d.params d.body d.scope pm cd doc)->aaz.heap.CodeRec cd d.name->mg d.name=some (.ref fa)->
   aaz.heap.get? a=some { cls:=.type "list",data:=.seq vs.toArray }->z7 vs ns->ns.length<=n->aaz.gens=#[]->
   kg (aH l.prog w) sA (.call (.ref fa) ⟨[.ref a],[]⟩) (fun r s'=>r=.ok (.ret (.bool true))/\OldK aaz.heap s'.heap/\s'.os=aaz.os/\kU s'.gens) aaz) :
  WalkO q loose XP YP l.row.toRowW d [] (fun f vs=>PySem.call f vs):=by
 intro w aax aaz mg mb G aas fa o pm cd doc dV kV ho hd hcd hD hmg hg args vals as hpre hlay hrd hwl hlo;obtain rfl:dV=.none:=Dflts.none hD hdf;obtain rfl:kV=.none:=Dflts.noKw hD;obtain⟨a,vs,ns,rfl,rfl,hobj,hints,hlen⟩:=Mw hn hpre hwl;refine enter_call (jm (call w aax aaz mg mb fa o pm cd doc a vs ns G aas ho (fd_plain hd) hcd hmg hobj hints hlen hg) fun r s' hq=>?_);obtain⟨rfl,h2,h3,h4⟩:=hq;exact⟨.inl ⟨.bool true,.bool true,[],rfl,fun _=>rfl,.bool true,Mx l _,fun _=>⟨O1,fun _ hm=>(nomatch hm)⟩⟩,h2,h3,h4⟩
end Att
namespace L2
open PySem PySem.Spec PyProof.Rows
theorem Ec:∀{vs:List Value}{ns:List Int},z7 vs ns->bE (ns.map V.int) vs
|_,_,.nil=>.nil
|_,_,.cons n t h=>.cons ⟨t,rfl⟩ (Ec h)
def Pn(H:Hp):Prop:=∀b,H b=none\/∃o xs,H b=some (.bz o (.lst xs))
theorem Po{P:bH}{w:bY}{K:PySem.W.Frag}{mg mb:Str->Option Value}{CX:Ai}{k:Nat}{fa a:Addr}{fd:fO}{x:Str}{sp:Sp}{aaz:aj}{vs:List Value}{ns:List Int}
  (KX:K.In aaz.heap) (hns:aaz.heap.Ns dh mg) (hb:aaz.heap.Ns CF mb) (hbb:∀x:Str,x≠"__name__"->mb x=oV x) (hlim:aaz.heap.NoLimit) (hg:aaz.gens=#[])
  (ha:aaz.heap.get? a=some { cls:=.type "list",data:=.seq vs.toArray }) (hi:z7 vs ns) (hl:ns.length<=aa) (hr:ir k sA)
  (F:∀base:Heap,K.In base->base.Ns dh mg->fN P w K mg base CX k fa fd [x] sp) (hbind:∀(s:aj) (u:Value),DT s fd ⟨[u],[]⟩ [(x,u)])
  (hsp:∀H:Hp,Pn H->gO K H a (ns.map V.int)->sp [.ref a] H (fun v _=>v=.bl true) fun _ _ _=>False)
  (hCX:∀H e s',CX [] H aaz (fun _ _ _=>False) e s'->False) :
  kg (aH P w) sA (.call (.ref fa) ⟨[.ref a],[]⟩) (fun r s'=>r=.ok (.ret (.bool true))/\OldK aaz.heap s'.heap/\s'.os=aaz.os/\kU s'.gens) aaz:=by
 have rv:=Ec hi;have uz:=hi.length;have core:∀H:Hp,Pn H->gO K H a (ns.map V.int)->fW P w H aaz.heap->(∀b,H b≠none->b=a)->(H a≠none->K.lookup a=none)->
   kg (aH P w) sA (.call (.ref fa) ⟨[.ref a],[]⟩) (fun r s'=>r=.ok (.ret (.bool true))/\OldK aaz.heap s'.heap/\s'.os=aaz.os/\kU s'.gens) aaz:=by
  intro H hO hS hok hA hK;have base_of:∀{b:Addr}{o:Obj},aaz.heap.get? b=some o->H b=none->(vN aaz.heap H).get? b=some o:=fun e n=>O5 e n;have noA:∀{b:Addr}{o:Obj}{es:Array DictEntry}{ep:Nat},aaz.heap.get? b=some o->o.data=.dict es ep->H b=none:=fun{b o es ep} e d=>by
   cases q:H b with
   |none=>rfl
   |some u=>
    have e':b=a:=hA b (by rw[q];simp);subst e';rw[ha]at e;cases e;have d':Data.seq vs.toArray _=Data.dict es ep:=d;cases d'
  have nsK:∀{b:Addr}{m:Str->Option Value},aaz.heap.Ns b m->(vN aaz.heap H).Ns b m:=fun{b m} ⟨o,es,ep,e,d,r⟩=>⟨o,es,ep,base_of e (noA e d),d,r⟩;have hKb:K.In (vN aaz.heap H):=fun b o e=>base_of (KX b o e) (by
   cases q:H b with
   |none=>rfl
   |some u=>
    have e':b=a:=hA b (by rw[q];simp);subst e';rw[hK (by rw[q];simp)]at e;cases e)
  have hM:Mod K mg (vN aaz.heap H):=⟨hKb,nsK hns,⟨mb,nsK hb,hbb⟩,let⟨mc,h1,h2⟩:=hlim;⟨mc,nsK h1,h2⟩⟩;have e0:AS P w K mg (vN aaz.heap H) sA [] aaz H:=⟨rfl,hM,fun b o e=>TF e,zx (Mh _ _),trivial,fun b hb=>absurd (show b∈([]:List Addr)from hb) (by simp),hok,.of_eq hg⟩;refine jm ((F _ hKb (nsK hns)).run sA [] aaz H ⟨[.ref a],[]⟩ [.ref a] [.ref a] _ _ hr e0 (hbind aaz (.ref a)) (.cons rfl .nil) (hsp H hO hS)) fun r s' h=>?_;cases r with
  |error e=>exact(hCX H e s' h).elim
  |ok fl=>
   cases fl with
   |next=>exact ay h
   |brk=>exact ay h
   |cont=>exact ay h
   |ret u=>
    obtain⟨v,H',os,bare,un,hok',r',q⟩:=h;have q':v=.bl true:=q;subst q';obtain rfl:u=jL true:=r';refine⟨rfl,OldK.of_keep fun b o e=>?_,os,bare⟩;cases q:H b with
    |none=>exact un.keep b o e q (by intro z;exact absurd (show b∈([]:List Addr)from z) (by simp)) (by simp)
    |some u=>
     rcases hO b with z|⟨ob,xs,z⟩
     ·rw[q]at z;cases z
     ·have z2:=un.aB b ob _ z;obtain⟨e1,_⟩:=hok b _ z;obtain⟨e2,_⟩:=hok' b _ z2;rw[e]at e1;cases e1;exact e2
 cases hk:K.lookup a with
 |some o=>
  have e:=KX a o hk;rw[ha]at e;cases e;refine core (fun _=>none) (fun _=>.inl rfl) (.inr ⟨_,vs.toArray,_,hk,rfl,rfl,rfl,by rw[aZ,uz];exact hl,by simpa using rv⟩) (fun b u z=>by have z':(none:Option HO)=some u:=z;cases z') (fun b z=>absurd rfl z) fun z=>absurd rfl z
 |none=>
  refine core (fun b=>if b=a then some (.bz { cls:=.type "list",data:=.seq vs.toArray } (.lst (ns.map V.int)))else none) (fun b=>?_) (.inl (.inr ⟨{ cls:=.type "list",data:=.seq vs.toArray },if_pos rfl⟩)) (fun b u z=>?_) (fun b z=>?_) fun _=>hk
  ·by_cases hb:b=a
   ·exact .inr ⟨_,_,if_pos hb⟩
   ·exact .inl (if_neg hb)
  ·by_cases hb:b=a
   ·have z':=(if_pos hb).symm.trans z;cases z';subst hb;exact⟨ha,by rw[ah];exact hl,vs,_,rv,ha⟩
   ·have z':=(if_neg hb).symm.trans z;cases z'
  ·by_cases hb:b=a
   ·exact hb
   ·exact absurd (if_neg hb) z
end L2
namespace L2
open PySem PySem.Spec PyProof.Rows
theorem T7{l:PySem.W.OpenLaw}{n k:Nat}{q:bH}{loose:List Str}{XP:(Str->Option Value)->Heap->Prop}{YP:bY->Heap->Prop}{d:OQ}{K:Ir->PySem.W.Frag}{CX:bY->Ai}{sp:bY->Sp}{x:Str}
  (hn:l.most=some n) (hn2:n<=aa) (hdf:d.params.defaults=[]) (hr:ir k sA)
  (hY:∀(w:bY) (h:Heap),YP w h->(K w.params).In h)
  (F:∀(w:bY) (mg:Str->Option Value) (fa:Addr) (h:Heap),(K w.params).In h->h.Ns dh mg->mg d.name=some (.ref fa)->
   ∃fd:fO,(∀(s:aj) (u:Value),DT s fd ⟨[u],[]⟩ [(x,u)]) /\
    ∀base:Heap,(K w.params).In base->base.Ns dh mg->fN l.prog w (K w.params) mg base (CX w) k fa fd [x] (sp w))
  (hsp:∀(w:bY) (H:Hp) (a:Addr) (ns:List Int),ns.length<=n->Pn H->gO (K w.params) H a (ns.map V.int)->sp w [.ref a] H (fun v _=>v=.bl true) fun _ _ _=>False)
  (hCX:∀(w:bY) (H:Hp) (s:aj) (e:Value) (s':aj),CX w [] H s (fun _ _ _=>False) e s'->False) :
  PySem.W.WalkO q loose XP YP l.row.toRowW d [] (fun f vs=>PySem.call f vs):=by
 refine Att.IM hn hdf fun w aax aaz mg mb fa o pm cd doc a vs ns G aas ho hd hcd hmg hobj hints hlen hg=>?_;have KX:=hY w _ aas;obtain⟨fd,hb,hF⟩:=F w mg fa _ KX G.T.g hmg;exact Po KX G.T.g G.T.b G.T.builtins G.T.nolimit hg hobj hints (d_ hlen hn2) hr hF hb (fun H hO hS=>hsp w H a ns hlen hO hS) fun H e s'=>hCX w H aaz e s'
end L2
namespace L2
open PySem PySem.Spec PyProof.Rows
def l_(s:Stmt):Arguments:=match s with
|.FunctionDef _ a _ _ _ _ _ _ _ _=>a
|_=>{ posonlyargs:=[],args:=[],vararg:=none,kwonlyargs:=[],kw_defaults:=[],kwarg:=none,defaults:=[] }
def gc(s:Stmt):List Stmt:=match s with
|.FunctionDef _ _ b _ _ _ _ _ _ _=>b
|_=>[]
def ck(s:Stmt):fS:=match s with
|.FunctionDef _ _ _ _ _ _ sc _ _ _=>sc
|_=>{ kind:=.function,names:=[],isGenerator:=false,isCoroutine:=false }
noncomputable abbrev Al:Ai:=fun _ _ _ _ _ _=>False
noncomputable abbrev E0:XK:=fun _ _ _=>False
structure qT (K:PySem.W.Frag) (x qual:Str) (st:Stmt) (f:Addr) (fd:fO):Prop where
 ex:∃(oc:Value) (od:Option Addr) (kV doc pm:Value) (an:Option Addr) (cdv ct:Value) (osl:Array (Option Value)),
  fd=PySem.W.fnOf x qual (l_ st) (gc st) (ck st) .none kV doc pm an cdv ct/\K.lookup f=some ⟨oc,od,.func fd,osl⟩/\PySem.W.codeIn K cdv qual=true
 kp:PySem.W.keepIn K (.ref f)=true
variable{x qual:Str}{st:Stmt}{f:Addr}{fd:fO}{ps:List Str}
section
variable{P:bH}{w:bY}{K:PySem.W.Frag}{mg:Str->Option Value}{base:Heap}
theorem qT.ok{N:List Str}{k:Nat}{sp:Sp}(F:qT K x qual st f fd)(S:l9 N ps (ck st))(len:∀vs H Q E,sp vs H Q E->vs.length=ps.length)
  (hbody:∀(cdv:Value) (A:dF) (outer:List Env) (s:aj) (H:Hp) (vs:List V) (Q:VK) (E:XK),ir k (A.deeper (mW qual (ck st) s.heap.objs.size f cdv))->sp vs H Q E->
   ∃t,nY (kW Al P w K mg base N qual (ck st) f cdv A outer s H E).xM (gc st) t/\t { nx:=fun _ H'=>Q .non H',rt:=Q } (start N vs) H):fN P w K mg base Al (k+1) f fd ps sp:=by
 obtain⟨oc,od,kV,doc,pm,an,cdv,ct,osl,rfl,lk,hcd⟩:=F.ex;refine Sv lk hcd S len fun A outer s H vs Q E hr hsp=>?_;obtain⟨t,h,q⟩:=hbody cdv A outer s H vs Q E hr hsp;exact⟨t,h.xM,q⟩
theorem qT.binds(F:qT K x qual st f fd)
  (h:∀(kV doc pm:Value) (an:Option Addr) (cdv ct:Value) (us:List Value),us.length=ps.length->wM (PySem.W.fnOf x qual (l_ st) (gc st) (ck st) .none kV doc pm an cdv ct) ⟨us,[]⟩=pure (ps.zip us)):Binds K fd ps []:=by
 obtain⟨oc,od,kV,doc,pm,an,cdv,ct,osl,rfl,lk,hcd⟩:=F.ex;exact .all (h kV doc pm an cdv ct)
theorem fun_mk{oc:Value}{od an:Option Addr}{osl:Array (Option Value)}{kV doc pm cdv ct:Value}(l:K.lookup f=some ⟨oc,od,.func (PySem.W.fnOf x qual (l_ st) (gc st) (ck st) .none kV doc pm an cdv ct),osl⟩)
  (c:PySem.W.codeIn K cdv qual=true) (k:PySem.W.keepIn K (.ref f)=true):qT K x qual st f (PySem.W.fnOf x qual (l_ st) (gc st) (ck st) .none kV doc pm an cdv ct):=⟨⟨oc,od,kV,doc,pm,an,cdv,ct,osl,rfl,l,c⟩,k⟩
end
def be(H H':Hp):Prop:=∀b o,H b=some o->H' b=some o
theorem be.refl(H:Hp):be H H:=fun _ _ h=>h
theorem be.trans{H H1 H2:Hp}(a:be H H1)(b:be H1 H2):be H H2:=fun c o h=>b c o (a c o h)
end L2
end
section
namespace L2
open PySem PySem.W PySem.Calls PyProof.Rows
section
variable{prog:bH}{w:bY}{A:dF}{E:Value->aj->Prop}{s:aj}
noncomputable def ZS:List Key->Value
|.inl _::_=>.type "int"
|_=>.type "str"
end
theorem tQ(ts:List Addr):∀idx:List Nat,(∀i∈idx,i<ts.length)->bE (idx.map fun i=>V.ref (ts.getD i 0)) (idx.map fun i=>(ts.map bG).getD i d7)
|[],_=>.nil
|i::r,h=>by
 refine .cons ?_ (tQ ts r fun j hj=>h j (ai _ hj));have hi:=h i ao;have e1:(ts.map bG).getD i d7=.ref (ts.getD i 0):=by
  rw[b8,b8,bD,aA hi];rfl
 show RelV (.ref (ts.getD i 0)) ((ts.map bG).getD i d7);rw[e1];exact rfl
variable{X:Cx}
section
variable{κ:Type} [DecidableEq κ] [BEq κ] [LawfulBEq κ]
noncomputable def uA(val:Nat->κ)(i:Nat):List κ:=((bS i).map val).foldl oZ []
theorem xQ(val:Nat->κ)(i:Nat):uA val (i+1)=oZ (uA val i) (val i):=by
 unfold uA;rw[CV,bR,Aa];rfl
theorem My(O:List κ)(v k:κ):(oZ O v).any (·==k)=(O.any (·==k)||decide (k=v)):=by
 unfold oZ;by_cases h:O.any (·==v)=true
 ·rw[if_pos h];by_cases e:k=v
  ·subst e;rw[h];simp
  ·simp[e]
 ·rw[if_neg h,List.any_append];by_cases e:k=v
  ·subst e;simp
  ·have hb:(v==k)=false:=by simpa[beq_iff_eq]using(fun q:v=k=>e q.symm)
   simp[hb,e]
theorem Ed(O:List κ)(v:κ):(oZ O v).length=if O.any (·==v)then O.length else O.length+1:=by
 unfold oZ;split<;>simp
theorem Dg(val:Nat->κ):∀i,(uA val i).length<=i
|0=>aM _
|i+1=>by
 have:=Dg val i;rw[xQ,Ed];split<;>omega
variable{prog:bH}{w:bY}{A:dF}{R:CM->aj->Prop}{I:Addr}{fp wr:List Addr}{G:Array Bq->Array Bq->Prop}{n:Nat}{P:Nat->Value->Prop}{St:Nat->aj->Prop}
abbrev tR(knd:KeyKind prog w κ)(h:Heap)(S:Addr)(val:Nat->κ)(i:Nat):Prop:=h.SetOf knd S (fun k'=>(uA val i).any (·==k')) (uA val i).length
theorem BJ{knd:KeyKind prog w κ}{h h':Heap}{S:Addr}{val:Nat->κ}{i:Nat}(q:tR knd h S val i)(e:∀o,h.get? S=some o->h'.get? S=some o):tR knd h' S val i:=by
 obtain⟨o,es,ep,t,ho,r⟩:=q;exact⟨o,es,ep,t,e o ho,r⟩
theorem Pp(knd:KeyKind prog w κ)(W:WalksS prog w A.in1 I fp wr G n P St)(S:Addr)(hSf:S∉fp)(val:Nat->κ)(hval:∀i v,P i v->knd.is (val i) v=true/\v.scannable=true)(hb:n+1<uh) :
  ∀(k i:Nat) (s:aj),n-i=k->i<=n->St i s->tR knd s.heap S val i->(∀s',Moved (S::wr) G s s'->tR knd s'.heap S val n->R (.ok (.ret .none)) s')->
   kg (aH prog w) A (.builtin "set.update.loop" ⟨[.ref S,.ref I],[]⟩) R s:=by
 have hw:S∉wr:=fun h=>hSf (W.sub _ h);have sub:∀b∈wr,b∈S::wr:=fun b hb=>ai _ hb;intro k;induction k with
 |zero=>
  intro i s hk hi hst hS hR;obtain rfl:i=n:=by omega
  refine um lW ?_;rw[wR iD _];show aD _ A.in1 (CJ (.ref I) >>= _) _ _ s;refine au (W.done s _ _ hst fun s' hm=>?_);show aD _ A.in1 (ret d7) _ _ s';exact a7 (hR s' (hm.mono sub) (BJ hS fun o e=>hm.heap S _ hw e))
 |succ k ih=>
  intro i s hk hi hst hS hR;have hlt:i<n:=by omega
  refine um lW ?_;rw[wR iD _];show aD _ A.in1 (CJ (.ref I) >>= _) _ _ s;refine au (W.item i s _ _ hlt hst fun v s' hP hst' hm=>?_);obtain⟨hk1,hk2⟩:=hval i v hP;have hS':tR knd s'.heap S val i:=BJ hS fun o e=>hm.heap S _ hw e;show aD _ A.in1 (nU [v] (setAdd S v) >>= _) _ _ s';refine au (gJ ?_);unfold setAdd;refine gJ ?_;refine au (knd.pyHash hk1 ?_);have hroom:(uA val i).length+1<uh:=by have:=Dg val i;omega
  refine wpAny_setAddHashed_of (knd:=knd) (s:={ s' with toks:=s'.toks+1 }) hk1 hk2 hS' hroom fun h' hsb hS2=>?_;have hSi:tR knd h' S val (i+1):=Jp hS2 (fun k'=>by rw[xQ,My]) (by rw[xQ,Ed]);refine a7 ⟨plainId_quiet iD _,ih (i+1) _ (by omega) hlt (W.frame _ s' _ _ hst' (jV _) fun b hb o e=>?_) hSi fun s'' hm'' hS''=>?_⟩
  ·rw[hsb.2 b (fun h:b=S=>hSf (by rw[<-h];exact hb))];exact e
  ·refine hR s'' (Moved.trans W.gtrans ((hm.mono sub).then_heap (jV _) fun b o hb e=>?_) hm'') hS'';rw[hsb.2 b (fun h:b=S=>hb (by rw[h];exact ao))];exact e
end
section
variable{κ:Type} [DecidableEq κ] [BEq κ] [LawfulBEq κ] {prog:bH}{w:bY}{A:dF}{E:Value->aj->Prop}{s:aj}
noncomputable abbrev j5(led:Bool):Obj:={ cls:=.type "set",dict:=none,data:=.set #[] 0 (.fresh 0 0 led) }
theorem Fc(knd:KeyKind prog w κ){l:Addr}{items:Array Value}(val:Nat->κ){Q:Value->aj->Prop}(hh:A.handled=none)(hl:s.heap.IsList l items)
  (hval:∀(i:Nat) (v:Value),items[i]?=some v->knd.is (val i) v=true/\v.scannable=true) (hb:items.size+1<uh)
  (h:∀(h':Heap) (tk:Nat),tR knd h' s.heap.objs.size val items.size->(∀b o,b<s.heap.objs.size->s.heap.get? b=some o->h'.get? b=some o)->Q (.ref s.heap.objs.size) { s with heap:=h',toks:=tk }) :
  aD (aH prog w) A (call (.type "set") [.ref l]) Q E s:=by
 obtain⟨c,tl,hmro⟩:=PySem.F.called_set.mro;have hmade:=PySem.F.called_set.made;have hsub:=PySem.F.called_set.sub;refine mz (CW ?_);show aD _ _ (callAny (.type "set") _) _ _ _;refine a7 ⟨qI _ (by decide +kernel),um PySem.F.entry_type_call ?_⟩;rw[Around.under_plain (weight_type_call_type "set" [.ref l] []) rfl];have h1:=PySem.F.called_set.notType;have h2:=PySem.F.called_set.canCreate;have hct:=PySem.F.typeCall_set_1 (.ref l)
 repeat (any_goals (first|assumption|wp_step))
 refine jm (code_set_new_1 (.ref l) (E:=E) (Q₁:=fun obj aaz=>∃led:Bool,obj=.ref s.heap.objs.size/\aaz={ s with heap:=s.heap.push (j5 led) }) fun led=>⟨led,rfl,rfl⟩) fun r aaz hr=>?_;cases r with
 |error e=>exact hr
 |ok fl=>
  cases fl with
  |ret obj=>
   obtain⟨led,rfl,rfl⟩:=hr;have hS:(s.heap.push (j5 led)).get? s.heap.objs.size=some (j5 led):=bL _ rfl;have hT:Shared.TypeIs { s with heap:=s.heap.push (j5 led) } (.ref s.heap.objs.size) "set":=⟨_,hS,rfl⟩;have hli:=PySem.F.called_set.init.lookup;have hbi:=PySem.F.called_set.init.bind (.ref s.heap.objs.size)
   repeat (any_goals (first|assumption|wp_step))
   refine jm (o4 (R:=wants (fun r aaB=>r=.none/\∃h' tk,aaB={ s with heap:=h',toks:=tk }/\tR knd h' s.heap.objs.size val items.size /\
     (∀b o,b<s.heap.objs.size->s.heap.get? b=some o->h'.get? b=some o)) E) PySem.F.called_set.init.plain PySem.F.entry_set_init (check_set_init_1 hT ?_)) fun aa3 aaB aaT=>?_
   ·obtain⟨ol,hol,hcl,nl,hdl⟩:=hl;obtain⟨ocls,odict,odata,oslots⟩:=ol;simp only at hcl hdl;subst hcl;subst hdl;have hol':(s.heap.push (j5 led)).get? l=some { cls:=.type "list",dict:=odict,data:=.seq items nl,slots:=oslots }:=aJ _ hol;have hsls:=PySem.F.sub_list_set;have hslf:=PySem.F.sub_list_frozenset;have hne:(Value.type "list"==Value.type "dict")=false:=by decide
    have hl1:(s.heap.push (j5 led)).IsList l items:=⟨_,hol',rfl,nl,rfl⟩;unfold Ku.«set.__init__» noKeywords DU;generalize hPI:vC=PI
    wp_walk
    subst hPI;refine qZ hl1 ?_;refine au (wpAny_runValue ?_);have hlS:l<s.heap.objs.size:=aP hol;have hh3:A.in1.in1.in1.handled=none:=by simp[hh]
    have hneI:l≠(s.heap.push (j5 led)).objs.size:=by rw[fL];exact bM (j3 hlS)
    have hSf:s.heap.objs.size∉[(s.heap.push (j5 led)).objs.size,l]:=by
     rw[fL];simp only[aF,aW,aR,or_false,not_or];exact⟨bM (jq _),oW hlS⟩
    refine Pp knd ((L6 hh3 _ l hneI items).toS) s.heap.objs.size hSf val hval hb (items.size-0) 0 _ (by omega) (mX _) ⟨⟨_,bL _ rfl,rfl,rfl⟩,(hl1.push _)⟩ ?hS0 ?hR
    case hS0=>
     have hget:((s.heap.push (j5 led)).push { cls:=.type "list_iterator",data:=.fields #[.ref l,.int 0 0] }).get? s.heap.objs.size=some (j5 led):=aJ _ hS;exact Jp ((setObjOf_fresh (knd:=knd) led).setOf hget (by unfold uh;omega)) (fun _=>rfl) rfl
    case hR=>
     intro s' hm hS';obtain⟨h',g',d',tk',os'⟩:=s';have eg:g'=s.gens:=hm.gens;have ed:d'=s.drawn:=hm.drawn;have eo:os'=s.os:=hm.os;subst eg;subst ed;subst eo;show aD _ _ _ _ _ _;refine a7 ?_;show aD _ _ (ret d7) _ _ _;refine a7 ⟨rfl,h',tk',rfl,hS',fun b o hb e=>?_⟩;have hb1:b≠s.heap.objs.size:=bM hb;have hb2:b≠(s.heap.push (j5 led)).objs.size:=by rw[fL];exact bM (j3 hb)
     exact hm.heap b o (by simp only[aF,aW,aR,or_false,not_or];exact⟨hb1,hb2⟩) (aJ _ (aJ _ e))
   ·cases aa3 with
    |error e=>exact aaT
    |ok aa4=>
     cases aa4 with
     |ret r=>
      obtain⟨rfl,h',tk,rfl,hS',hk'⟩:=aaT
      repeat (any_goals (first|assumption|wp_step))
      exact h _ _ hS' hk'
     |_=>exact aaT
  |_=>exact hr
end
end L2
end
section
namespace L2
open PySem PySem.W PySem.Calls PyProof.Rows PySem.SeqAt
theorem AX:∀{bs:List Bool}{its:List Value},bE (bs.map V.bl) its->its=bs.map jL
|[],_,.nil=>rfl
|b::bs,_,.cons r q=>by
 rw[AX q];cases r;rfl
noncomputable def JA(k:Bool):Value->Bool
|.bool b=>b==k
|_=>false
theorem BK(k:Bool):∀bs:List Bool,(bs.map jL).countP (JA k)=bs.count k
|[]=>rfl
|b::bs=>by
 rw[cR,List.countP_cons,BK k bs,CY];rfl
section
variable{prog:bH}{w:bY}{A:dF}{E:Value->aj->Prop}{s:aj}{l:Addr}{bs:List Bool}{its:List Value}{k:Bool}{Q:Value->aj->Prop}
theorem Mz{y:Value}(hy:y∈(bs.map jL).toArray):EqAt A s y (.bool k) (JA k y):=by
 have hy:y∈bs.map jL:=by simpa using hy
 obtain⟨b,_,rfl⟩:=b7.mp hy;exact EqAt.bool_bool b k
theorem IP(hl:s.heap.IsList l its.toArray)(r:bE (bs.map V.bl) its)(h:Q (.int (bs.count k:Nat) s.toks) { s with toks:=s.toks+1 }):aD (aH prog w) A (call (.builtin "list.count") [.ref l,.bool k]) Q E s:=by
 obtain rfl:=AX r;obtain⟨⟨cls,dd,data,sl⟩,ho,hc,n,hd⟩:=id hl;simp only at hc hd;subst hc hd;refine ic PySem.F.slot_list_count ⟨_,ho,rfl⟩ PySem.F.entry_list_count (PySem.F.args_list_count_2 _ _) (list_countAt l _ n dd sl (.bool k) (JA k)) ⟨ho,fun y hy=>Mz hy,?_⟩;rw[show(bs.map jL).toArray.toList=bs.map jL from rfl,BK];exact h
theorem IQ(hl:s.heap.IsList l its.toArray)(r:bE (bs.map V.bl) its)(hz:bs.length<=aa)(hk:k∈bs)(h:Q (.int (bs.idxOf k:Nat) s.toks) { s with toks:=s.toks+1 }):aD (aH prog w) A (call (.builtin "list.index") [.ref l,.bool k]) Q E s:=by
 obtain rfl:=AX r;obtain⟨⟨cls,dd,data,sl⟩,ho,hc,n,hd⟩:=id hl;simp only at hc hd;subst hc hd;have hj:bs.idxOf k<bs.length:=tE.mpr hk;have hs:=eE;refine ic PySem.F.slot_list_index ⟨_,ho,rfl⟩ PySem.F.entry_list_index (PySem.F.args_list_index_2 _ _)
  (list_indexAt l _ n dd sl (.bool k) (JA k) (bs.idxOf k) (by simpa using hj) (by omega) ?_ ?_) ⟨ho,fun y hy=>Mz hy,h⟩
 ·simp[JA]
 ·intro m hm hlt;have:=List.not_of_lt_findIdx (p:=(·==k)) (xs:=bs) (i:=m) hlt;simpa[JA]using this
end
end L2
end
section
namespace L2
open PySem PySem.Spec PyProof.Rows
def KO(m:Bool)(P:Addr->Prop)(h:Heap)(e:Addr)(fl:Value->Prop)(v:Value):Prop:=
 (m=false/\v=.none)\/∃T oT ts f,v=.ref T/\T≠e/\h.get? T=some oT/\oT.data=.fields ts/\ts[3]?=some f/\fl f/\P T
structure ExcAt (m:Bool) (P:Addr->Prop) (h:Heap) (e C:Addr) (od:Option Addr) (fl:Value->Prop):Prop where
 at_:∃oe vs v,h.get? e=some oe/\oe.cls=.ref C/\oe.dict=od/\oe.data=.fields vs/\vs.size=6/\vs[1]?=some v/\KO m P h e fl v
 ok:P e
abbrev Gj(m:Bool)(X:Cx)(pins:List (Addr×Obj))(H:Hp)(s:aj)(e C:Addr)(od:Option Addr)(fl:Value->Prop):Prop:=ExcAt m (mJ X pins H) s.heap e C od fl
variable{h':Heap}
variable{h:Heap}
variable{m:Bool}{fl:Value->Prop}{Q:Unit->aj->Prop}{E:Value->aj->Prop}
section
variable{X:Cx}{pins:List (Addr×Obj)}{O:St}{H:Hp}{s:aj}{e C:Addr}{od:Option Addr}
theorem Inv.fld{t:Addr}(I:Inv X pins O H s)(f:mJ X pins H t)(k:∀b o,b≠t->s.heap.get? b=some o->h'.get? b=some o):Inv X pins O H { s with heap:=h' }:=
 I.turned (t':=s.toks) k f.1 f.2.1 f.2.2.2.1 f.2.2.2.2.1 f.2.2.2.2.2
theorem BL{a:Addr}{o:Obj}{vs:Array Value}(i:Nat)(x:Value)(ho:h.get? a=some o)(hd:o.data=.fields vs) :
  ∃o',(h.update a (qO (·.setIfInBounds i x))).get? a=some o'/\o'.cls=o.cls/\o'.dict=o.dict/\o'.data=.fields (vs.setIfInBounds i x):=by
 have hd':=Obj.data_mapFields hd (·.setIfInBounds i x);refine⟨_,nV _ ho (Obj.isFreed_of_fields hd'),Obj.cls_mapFields ..,?_,hd'⟩;obtain⟨c,d,dat,sl⟩:=o;dsimp only at hd;subst hd;rfl
theorem tS{fr:Option Addr}(I:Inv X pins O H s)(F:Gj m X pins H s e C od fl)
  (h:∀s',Inv X pins O H s'->Gj m X pins H s' e C od (fun v=>v=fr.elim .none fun f=>kc f)->Q () s'):aD (aH X.prog X.w) X.A (setFlight (.ref e) fr) Q E s:=by
 obtain⟨⟨oe,vs,v,he,hc,hdi,hd,hz,h1,ht⟩,fe⟩:=F;unfold setFlight;refine au (uW he hd h1 ?_);rcases ht with⟨hm,rfl⟩|⟨T,oT,ts,f,rfl,hTe,hT,hdT,h3,_,fT⟩
 ·exact a7 (h s I ⟨⟨oe,vs,_,he,hc,hdi,hd,hz,h1,.inl ⟨hm,rfl⟩⟩,fe⟩)
 ·rw[if_pos (show(bG T != d7)=true from by simp)];have hlt:3<ts.size:=(qP.mp h3).1;refine vE hT hdT hlt ?_;have other:∀b,b≠T->(s.heap.update T (qO (·.setIfInBounds 3 (fr.elim .none fun f=>kc f)))).get? b=s.heap.get? b:=fun b hb=>eZ _ _ (cY hb);obtain⟨o',e1,_,_,e2⟩:=BL 3 (fr.elim .none fun f=>kc f) hT hdT;refine h _ (I.fld fT fun b o hb q=>(other b hb).trans q) ⟨⟨oe,vs,_,(other e (cY hTe)).trans he,hc,hdi,hd,hz,h1,.inr ⟨T,o',_,_,rfl,hTe,e1,e2,?_,rfl,fT⟩⟩,fe⟩;simp[hlt]
theorem Inv.slots(I:Inv X pins O H s)(k:Heap.SlotsOnly (frs X.stack) s.heap h'):Inv X pins O H { s with heap:=h' }:=by
 refine I.call (ch:=[]) (t':=s.toks) (d':=s.drawn) (g':=s.gens) ⟨fun b o e n hb _=>(k.2.1 b hb).trans e,fun b o e n _ _=>k.2.2 b o e,fun _ _ _ n _=>n,fun b o e _=>?_,fun _ _ q=>q,fun _ _ _ q=>q,fun b ps q=>⟨#[],by rw[q];simp⟩⟩ (fun a o q=>?_) I.bare (fun _ z=>nomatch z)
 ·obtain⟨sl,q⟩:=k.2.2 b o e;exact⟨_,q⟩
 ·have hk:∀b u,(b=a\/H b=some (.own a))->s.heap.get? b=some u->h'.get? b=some u:=fun b u hb e=>by
   refine(k.2.1 b fun z=>?_).trans e;have hn:=I.C_ b z;rcases hb with rfl|hb
   ·rw[hn]at q;cases q
   ·rw[hn]at hb;cases hb
  exact(I.hok a o q).stay hk (fun _ z=>z) fun _ _ z=>z
theorem Dh(hst:X.stack=X.env::X.outer)(hf:X.env.frame=some X.env.locals)(I:Inv X pins O H s)
  (F:Gj m X pins H s e C od (fun f=>f=.none\/f=kc X.env.locals))
  (h:∀s',Inv X pins O H s'->Gj true X pins H s' e C od (fun f=>f=kc X.env.locals)->Q () s'):aD (aH X.prog X.w) X.A (E8 (.ref e) X.env) Q E s:=by
 have new:∀{s:aj}{head:Value}{b:Bool},Inv X pins O H s->(∃oe vs,s.heap.get? e=some oe/\oe.cls=.ref C/\oe.dict=od/\oe.data=.fields vs/\vs.size=6)->mJ X pins H e->
   aD (aH X.prog X.w) X.A (do setField (.ref e) 1 (<-xE head (<-frameOf X.env) .none (kc X.env.locals) .none (<-entryPlaceOf X.env.locals b))) (fun _ s'=>Inv X pins O H s'/\Gj true X pins H s' e C od (fun f=>f=kc X.env.locals)) E s:=by
  rintro s head b I ⟨oe,vs,he,hc,hdi,hd,hz⟩ fe;have hfr:X.A.frames=some (X.env::X.outer):=by rw[<-hst];exact I.ok.frames
  have hl:=I.stack;rw[hst]at hl;refine au (wpAny_frameOf_fun hfr hl hf fun aaD aaU=>?_);rw[<-hst]at aaU;have I1:Inv X pins O H { s with heap:=aaD }:=I.slots aaU;have he1:aaD.get? e=some oe:=by
   refine(aaU.2.1 e fun z=>?_).trans he;rcases aF.mp (I.u5 e z)with z|z
   ·exact fe.2.1 z
   ·exact fe.2.2.1 z
  refine au (wpAny_entryPlaceOf fun pl hpl=>?_);unfold xE newFields;refine au (Ab ?_ (hpl.sizeOk5 _ _ _ _ _));generalize hts:([head,bG X.env.locals,d7,kc X.env.locals,d7]++(if pl.isEmpty then aO 6 d7 else pl)).toArray=ts;have ht3:ts[3]?=some (kc X.env.locals):=by rw[<-hts];rfl
  have I2:Inv X pins O H { s with heap:=aaD.push { cls:=.type "traceback",dict:=none,data:=.fields ts } }:=I1.kept (t':=s.toks) fun b o q=>aJ _ q;have he2:=aJ (h:=aaD) { cls:=.type "traceback",dict:=none,data:=.fields ts } he1;have hT2:=bL aaD (o:={ cls:=.type "traceback",dict:=none,data:=.fields ts }) rfl;have hTe:aaD.objs.size≠e:=oW (aP he1);have fT:mJ X pins H aaD.objs.size:=I1.qJ (aM _) (I1.hok.fresh (aM _));refine vE he2 hd (by omega) ?_;obtain⟨o',e1,e2,e3,e4⟩:=BL 1 (.ref aaD.objs.size) he2 hd;have other:∀b,b≠e->((aaD.push { cls:=.type "traceback",dict:=none,data:=.fields ts }).update e (qO (·.setIfInBounds 1 (.ref aaD.objs.size)))).get? b=(aaD.push { cls:=.type "traceback",dict:=none,data:=.fields ts }).get? b:=fun b hb=>eZ _ _ (cY hb);refine⟨I2.fld fe fun b o hb q=>(other b hb).trans q,⟨⟨o',_,_,e1,e2.trans hc,e3.trans hdi,e4,by simpa using hz,?_,.inr ⟨_,_,ts,_,rfl,hTe,(other _ hTe).trans hT2,rfl,ht3,rfl,fT⟩⟩,fe⟩⟩;have:1<vs.size:=by omega
  simp[this]
 obtain⟨⟨oe,vs,v,he,hc,hdi,hd,hz,h1,ht⟩,fe⟩:=F;unfold E8;simp only[hf];refine au (uW he hd h1 ?_);rcases ht with⟨hm,rfl⟩|⟨T,oT,ts,f,rfl,hTe,hT,hdT,h3,hfl,fT⟩
 ·exact aT (new (b:=_) I ⟨oe,vs,he,hc,hdi,hd,hz⟩ fe) fun _ s' q=>h s' q.1 q.2
 ·rw[if_pos (show(bG T != d7)=true from by simp)];refine au (uW hT hdT h3 ?_);by_cases c:f=kc X.env.locals
  ·rw[if_pos (show(f==kc X.env.locals)=true from by rw[c];simp)];exact a7 (h s I ⟨⟨oe,vs,_,he,hc,hdi,hd,hz,h1,.inr ⟨T,oT,ts,f,rfl,hTe,hT,hdT,h3,c,fT⟩⟩,fe⟩)
  ·have hlt:3<ts.size:=(qP.mp h3).1;have cn:(f==kc X.env.locals)=false:=by
    rcases hfl with rfl|z
    ·rfl
    ·exact absurd z c
   rw[if_neg (by rw[cn];exact aK)];refine au (vE hT hdT hlt ?_);have other:∀b,b≠T->(s.heap.update T (qO (·.setIfInBounds 3 .none))).get? b=s.heap.get? b:=fun b hb=>eZ _ _ (cY hb);exact aT (new (b:=_) (I.fld fT fun b o hb q=>(other b hb).trans q) ⟨oe,vs,(other e (cY hTe)).trans he,hc,hdi,hd,hz⟩ fe) fun _ s' q=>h s' q.1 q.2
end
noncomputable def ko(P:bH)(w:bY):Ai:=fun outer H s E v s'=>∃e C od H',v=.ref e/\s'.os=s.os/\kU s'.gens/\Un (frs outer) [] H H' s.heap s'.heap/\fW P w H' s'.heap /\
 ExcAt true (fun b=>H' b=none/\s.heap.objs.size<=b) s'.heap e C od (fun f=>f=.none)/\E (.ref C) od H'
variable{P':Addr->Prop}{e:Addr}{fl':Value->Prop}{v:Value}
theorem KO.imp{P:Addr->Prop}(x:KO m P h e fl v)(hp:∀b,P b->P' b)(hf:∀f,fl f->fl' f):KO m P' h e fl' v:=by
 rcases x with x|⟨T,oT,ts,f,h1,h2,h3,h4,h5,h6,h7⟩
 ·exact .inl x
 ·exact .inr ⟨T,oT,ts,f,h1,h2,h3,h4,h5,hf f h6,hp T h7⟩
variable{C:Addr}{od:Option Addr}
theorem ExcAt.imp{P:Addr->Prop}(x:ExcAt m P h e C od fl)(hp:∀b,P b->P' b)(hf:∀f,fl f->fl' f):ExcAt m P' h e C od fl':=by
 obtain⟨⟨oe,vs,v,h1,h2,h3,h4,h5,h6,h7⟩,h8⟩:=x;exact⟨⟨oe,vs,v,h1,h2,h3,h4,h5,h6,h7.imp hp hf⟩,hp e h8⟩
def uB(X:Cx)(E:XK):Value->aj->Prop:=fun v s=>∃m e C od pins O H,v=.ref e/\Inv X pins O H s/\Gj m X pins H s e C od (fun f=>f=.none\/f=kc X.env.locals)/\E (.ref C) od H
section
variable{X:Cx}{E:XK}
theorem T8:xO (ko X.prog X.w) (X.jP (uB X E)) E:=by
 rintro pins O H s v s' I ⟨e,C,od,H',rfl,os,bare,un,hok,x,q⟩;have I0:=I.je;obtain⟨hh,g,d,t,os'⟩:=s';obtain rfl:os'=s.os:=os;have I1:Inv X pins O H' { s with heap:=hh,gens:=g,drawn:=d,toks:=t }:=I0.call (h':=hh) (g':=g) (d':=d) (t':=t) (ch:=[]) un hok bare (fun b z=>absurd z (by simp));exact⟨true,e,C,od,pins,O,H',rfl,I1,x.imp (fun b hb=>I0.qJ hb.2 hb.1) fun f hf=>.inl hf,q⟩
theorem KP(hst:X.stack=X.env::X.outer)(hf:X.env.frame=some X.env.locals):ue (aH X.prog X.w) X.A X.env (uB X E):=by
 rintro v s ⟨m,e,C,od,pins,O,H,rfl,I,F,q⟩;refine Dh hst hf I F fun s1 I1 F1=>?_;unfold cameBackBy;obtain⟨⟨oe,vs,v,he,hc,hdi,hd,hz,h1,ht⟩,fe⟩:=id F1;rcases ht with⟨hm,_⟩|⟨T,oT,ts,f,rfl,hTe,hT,hdT,h3,hfl,fT⟩
 ·cases hm
 ·refine au (uW he hd h1 ?_);rw[if_neg (show ¬(bG T==d7)=true from aK)];refine tS I1 F1 fun s2 I2 F2=>⟨true,e,C,od,pins,O,H,rfl,I2,F2.imp (fun _ z=>z) fun f hz=>.inr ?_,q⟩;rw[hz,hf];rfl
end
variable{P:bH}{w:bY}{K:PySem.W.Frag}{mg:Str->Option Value}{base:Heap}{N:List Str}{qual:Str}{scope:fS}{f:Addr}{cd:Value}{A:dF}{outer:List Env}{s:aj}{H:Hp}
theorem Wb{E:XK}{s':aj}
  (h:uB (kW (ko P w) P w K mg base N qual scope f cd A outer s H E) E v s'):(kW (ko P w) P w K mg base N qual scope f cd A outer s H E).xe v s':=by
 obtain⟨m,e,C,od,pins,O,H1,rfl,I,F,q⟩:=h;show aD (aH P w) _ (Ks _ (.ref e)) _ _ s';unfold Ks;refine au ?_;refine Dh (X:=kW (ko P w) P w K mg base N qual scope f cd A outer s H E) rfl rfl I F fun s1 I1 F1=>?_;refine tS I1 F1 fun s2 I2 F2=>⟨e,C,od,H1,rfl,I2.os,I2.bare,I2.base,I2.hok,F2.imp (fun b hb=>⟨hb.1,?_⟩) fun _ z=>z,q⟩;rcases hb.2.2.2.1 with z|z
 ·exact absurd (show b∈([]:List Addr)from z) (by simp)
 ·exact z
variable{body:List Stmt}
theorem Wc{E:XK}{t:TS}
  (h:nY ((kW (ko P w) P w K mg base N qual scope f cd A outer s H E).jP (uB (kW (ko P w) P w K mg base N qual scope f cd A outer s H E) E)) body t):nY (kW (ko P w) P w K mg base N qual scope f cd A outer s H E) body t:=
 fun pins s1 O H1 D I hw=>dR (h pins s1 O H1 D (I.jP _) hw) (fun _ _ q=>q.je) fun _ _ q=>Wb q
section
variable{P:bH}{w:bY}{A:dF}{E:Value->aj->Prop}{h:Heap}{g:Array Bq}{d:Drawn}{t:Nat}{os:OsState}
variable{nm q:Str}{C N fI:Addr}{bs bm bmB:List Value}{hdct:Bool}{sn:List Str}{sub:List Value}{ab:Bool}{col:Option Bool}{dd:Option Addr}{k0 k1 k2 k3 k5:Option Value}{B newId initId:String}{us:List Value}{K:PySem.W.Frag}
noncomputable abbrev Am(C a:Addr):Obj:={ cls:=.ref C,data:=.fields #[.ref a,.none,.none,.none,.bool false,.none] }
noncomputable abbrev An(us:List Value):Obj:={ cls:=.type "tuple",data:=.seq us.toArray }
theorem IS{Q:Fin->aj->Prop}(F:Iu B newId initId bmB)(T:Kv h bmB bm)
  (hC:h.get? C=some (i_ nm q C N bs bm hdct sn sub ab col dd k0 k1 k2 k3 k5 newId)) (X:K.In h) (hi:PySem.W.findIn K (.ref C) "__init__"=some (some (.ref fI))) (hf:PySem.W.typeIn K (.ref fI)=some (.type "function"))
  (hl:us.length<=aa) (hq:aD (aH P w) A (call (.ref fI) (.ref (h.objs.size+1)::us)) (fun r s'=>r=.none/\Q (.done (.ret (.ref (h.objs.size+1)))) s') E ⟨(h.push (An us)).push (Am C h.objs.size),g,d,t,os⟩) :
  aD (aH P w) A (Ku.«type.__call__» ⟨.ref C::us,[]⟩) Q E ⟨h,g,d,t,os⟩:=by
 repeat (first
  |with_reducible refine gE hC ?_
  |with_reducible refine wpAny_madeBy_exc hC ?_
  |wp_step)
 refine codeAny_call_builtin_code (qI _ F.quiet) (wpAny_check_new_subT F T hC ?_);refine codeAny_exc_new_subT F T hC ?_ hl;show aD _ _ _ _ _ _;have up:∀b o,h.get? b=some o->((h.push (An us)).push (Am C h.objs.size)).get? b=some o:=fun b o e=>aJ _ (aJ _ e);have c1:=up _ _ hC;have X1:K.In ((h.push (An us)).push (Am C h.objs.size)):=X.keeps up;have x1:((h.push (An us)).push (Am C h.objs.size)).get? (h.objs.size+1)=some (Am C h.objs.size):=by heap_get
 have hcc:(bG C::bm).contains (.ref C)=true:=by simp
 unfold CZ
 repeat (first
  |with_reducible refine gE x1 ?_
  |(with_reducible refine ph c1 ?_;rw[hcc])
  |wp_step)
 show aD _ _ (LZ (.ref C) _) _ _ _;refine(PySem.W.looks_findIn X1 hi).at ?_;refine gJ (au ((PySem.W.bind_fn X1 _ hf).at ?_));refine au (dR hq (fun r s' hr=>?_) fun _ _ x=>x);obtain⟨rfl,hr⟩:=hr
 wp_walk
 exact hr
theorem Wd{Q:Value->aj->Prop}(F:Iu B newId initId bmB)(T:Kv h bmB bm)
  (hC:h.get? C=some (i_ nm q C N bs bm hdct sn sub ab col dd k0 k1 k2 k3 k5 newId)) (X:K.In h) (hi:PySem.W.findIn K (.ref C) "__init__"=some (some (.ref fI))) (hf:PySem.W.typeIn K (.ref fI)=some (.type "function"))
  (hl:us.length<=aa) (hq:aD (aH P w) (A.under (.builtin "type.__call__" ⟨.ref C::us,[]⟩)) (call (.ref fI) (.ref (h.objs.size+1)::us)) (fun r s'=>r=.none/\Q (.ref (h.objs.size+1)) s') E ⟨(h.push (An us)).push (Am C h.objs.size),g,d,t,os⟩) :
  aD (aH P w) A (call (.ref C) us) Q E ⟨h,g,d,t,os⟩:=by
 have z1:=tc_lookup;have z2:=tc_bind (.ref C);have z3:(⟨h,g,d,t,os⟩:aj).TypeIs (.ref C) "type":=⟨_,hC,rfl⟩;refine mz (CW ?_);show aD _ _ (callAny (.ref C) _) _ _ _
 repeat (any_goals (first
  |assumption
  |with_reducible refine gE hC ?_
  |wp_step))
 refine⟨rfl,?_⟩;exact codeAny_call_builtin_at (qI _ (by decide +kernel)) entry_typeCall (wpAny_check_type_call_sub hC (IS F T hC X hi hf hl hq))
end
structure xR (K:PySem.W.Frag) (C:Addr):Prop where
 ga:PySem.W.findIn K (.ref C) "__getattribute__"=some (some (.builtin "BaseException.__getattribute__"))
 gt:PySem.W.findIn K (.ref C) "__getattr__"=some none
 sa:PySem.W.findIn K (.ref C) "__setattr__"=some (some (.builtin "object.__setattr__"))
 hd:PySem.W.hasDictIn K C=true
 sb:PySem.W.mroIn K C (.type "BaseException")=some true
 ob:PySem.W.mroIn K C (.type "object")=some true
variable{expr:Bool}{tk:Tok}
section
variable{P:bH}{w:bY}{A:dF}{E:Value->aj->Prop}{s:aj}{K:PySem.W.Frag}{x C:Addr}{ox:Obj}{od:Option Obj}{name:Str}
theorem Ef{P':Value->aj->Prop}{fill:Bool}(X:K.In s.heap)(I:PySem.W.InstAt s.heap x ox C od)(c:xR K C)(hv:PySem.W.handedIn v=true)
  (h:aD (aH P w) A.in1 (Ku.«object.__getattribute__» ⟨[.ref x,.str name tk],[]⟩) (fun fin s'=>fin=.done (.ret v)/\P' v s') (fun _ _=>False) s) :
  aD (aH P w) A (getAttrBy (.ref x) (.str name tk) fill expr) P' E s:=by
 obtain⟨hh,g,d,t,os⟩:=s;have L0:=I.type (M:=aH P w);have L1:=PySem.W.looks_findIn (M:=aH P w) X c.ga;have L2:=PySem.W.looks_findIn (M:=aH P w) X c.gt;have hs:PySem.W.Looks (aH P w) hh (CZ (.ref x) (.type "BaseException")) true:=L0.andThen (PySem.W.looks_mroIn X c.sb);unfold getAttrBy;refine gJ (au (L0.at (au (L1.at ?_))));have hne:(onTheHeap (bG C)&&qQ "BaseException.__getattribute__"==qQ "object.__getattribute__")=false:=by
  rw[show(qQ "BaseException.__getattribute__"==qQ "object.__getattribute__")=false from by decide +kernel,gi]
 dsimp only;rw[hne,if_neg aK];unfold getAttrByItsOwn hookBefore;refine au (L2.at ?_);refine au (Fx (gJ ?_));unfold callGetattribute;rw[if_neg (by cases expr<;>exact aK)];unfold boundAndCalled;rw[PySem.F.attr_ValueError.ga.bind];refine au (a7 (mz ?_));show kg (aH P w) A (.call (.builtin "BaseException.__getattribute__") ⟨[.ref x,.str name tk],[]⟩) _ _;have k1:builtinKind "BaseException.__getattribute__"=some .slot:=by decide +kernel
 have k2:splitId "BaseException.__getattribute__"=some ("BaseException","__getattribute__"):=by decide +kernel
 refine o4 PySem.F.attr_ValueError.ga.plain PySem.F.entry_bexc_ga (@PySem.W.check_slot (aH P w) _ _ ⟨hh,g,d,t,os⟩ "BaseException.__getattribute__" "BaseException" "__getattribute__" (.ref x) [.str name tk] [] _ k1 k2 hs (PySem.F.args_bexc_ga (.ref x) (.str name tk)) ?_);refine dR h (fun fin s' z=>?_) fun _ _ z=>z.elim;obtain⟨rfl,z⟩:=z;show aD _ _ (handedOut v) _ _ _;rw[PySem.W.handedOut_of hv];exact a7 z
theorem ZT{Q:Value->aj->Prop}(X:K.In s.heap)(I:PySem.W.InstAt s.heap x ox C od)(c:xR K C)(hf:PySem.W.findObj K C od name=some (.value v))(hv:PySem.W.handedIn v=true)
  (h:Q v { s with toks:=s.toks+1 }):aD (aH P w) A (DR (.ref x) name expr) Q E s:=by
 unfold DR;refine au (Iw ?_);refine Ef (s:={ s with toks:=s.toks+1 }) X I c hv ?_;obtain⟨hh,g,d,t,os⟩:=s;have L0:=I.type (M:=aH P w);have L1:=PySem.W.looks_find (M:=aH P w) X I hf;refine au (a7 (au (a7 (au (L0.at (au (L1.at ?_)))))));exact a7 ⟨rfl,h⟩
theorem We(c:xR K C)(ha:PySem.W.findIn K (.ref C) "__class__"=some (some (.builtin "object.__class__")))
  (hn:PySem.W.specialIn K (.builtin "object.__class__") "__get__"=some (some (.builtin "getset_descriptor.__get__"))) (htk:PySem.W.takesIn K (.builtin "object.__class__")=some true) :
  PySem.W.KitX K (.ref x) (.ref C) (fun h=>PySem.W.InstAt h x ox C od) where
 ty:=fun _ _ _ I=>I.type
 it:=fun M h X _=>by
  obtain⟨cd,hc,_⟩:=PySem.W.any_some c.hd;unfold PySem.W.clsIn at hc;split at hc
  ·rename_i ho;intro A' Q' E' s' k q;unfold isType loadHead;exact au (vF (k _ _ (X _ _ ho)) (a7 q))
  ·cases hc
 ne:=fun h tp dd its n sl X htp=>by
  obtain⟨cd,hc,_⟩:=PySem.W.any_some c.hd;refine Bool.eq_false_iff.mpr fun z=>?_;cases Vu (beq_iff_eq.mp z);unfold PySem.W.clsIn at hc;split at hc
  ·rename_i ho;have z:=(X _ _ ho).symm.trans htp;cases z
  ·cases hc
 ca:=fun{P w A E Q s} X I k=>by
  have hf:PySem.W.findObj K C od "__class__"=some (.bind (.builtin "getset_descriptor.__get__") (.builtin "object.__class__")):=by
   obtain⟨cd,hc,_⟩:=PySem.W.any_some c.hd;unfold PySem.W.findObj;rw[hc,Option.bind_some,ha];simp[hn,htk]
  unfold getAttr?;refine au (Iw ?_);unfold getAttrBy?;refine au (Fx ?_);refine Ef (s:={ s with toks:=s.toks+1 }) (v:=.ref C) X I c rfl ?_;obtain⟨hh,g,d,t,os⟩:=s;have L0:=I.type (M:=aH P w);have L1:=PySem.W.looks_find (M:=aH P w) X I hf;refine au (a7 (au (a7 (au (L0.at (au (L1.at ?_)))))));show aD _ _ (nU [_] (call _ [_,.ref x,.ref C]) >>= ret) _ _ _;refine au (gJ (mz (PySem.W.class_get (s:=⟨hh,g,d,t+1,os⟩) (ox:=ox) (od:=od) X I c.ob ?_)));exact a7 ⟨rfl,a7 k⟩
noncomputable def u6:List Value->Bool
|.ref _::r=>u6 r
|l=>l==[.type "ValueError",.type "Exception",.type "BaseException",.type "object"]
theorem T9(self:Value):L7 self "__setattr__" [.type "ValueError",.type "Exception",.type "BaseException",.type "object"]=pure ():=by kernel_rfl
theorem MA(self:Value):∀(l:List Value),u6 l=true->L7 self "__setattr__" l=pure ():=by
 intro l;induction l with
 |nil=>intro e;cases e
 |cons v r ih=>
  intro e;unfold u6 at e;split at e
  ·rename_i z;cases z;rw[refuseLoop_ref];exact ih e
  ·rw[beq_iff_eq.mp e];exact T9 self
theorem Wf{R:CM->aj->Prop}(X:K.In s.heap)(I:PySem.W.InstAt s.heap x ox C od)(c:xR K C)(hm:(PySem.W.clsIn K C).any (fun cd=>u6 cd.mro)=true)(hf:PySem.W.findIn K (.ref C) name=some none)
  (h:aD (aH P w) A.in1 (ja (.ref x) (.ref C) (.str name tk) name v false)
   (fun fin s'=>match fin with|.done f=>R (.ok f) s'|.again c'=>c'.quiet=true/\kg (aH P w) A c' R s') (fun e s'=>R (.error e) s') s) :
  kg (aH P w) A (.call (.builtin "object.__setattr__") ⟨[.ref x,.str name tk,v],[]⟩) R s:=by
 have SF:=PySem.F.store_object;obtain⟨cd,hc,ho⟩:=PySem.W.any_some hm;have sub:PySem.W.Looks (aH P w) s.heap (CZ (.ref x) (.type "object")) true:=I.type.andThen (PySem.W.looks_mroIn X c.ob);have lm:PySem.W.Looks (aH P w) s.heap (mroOf (.ref C)) cd.mro:=(PySem.W.looks_clsIn X hc).andThen .now;refine o4 SF.slot.plain SF.entry (@PySem.W.check_slot (aH P w) _ _ s "object.__setattr__" "object" "__setattr__" (.ref x) [.str name tk,v] [] _ SF.kind SF.split sub (SF.args (.ref x) (.str name tk) v) ?_);rw[PySem.W.osa_eq,refuse_eq];refine au (au (I.type.here (au (lm.here ?_))));rw[MA _ _ ho];exact a7 (au (I.type.here (au ((PySem.W.looks_findIn X hf).here (au (a7 h))))))
end
def Sx(m:Bool)(e C:Addr)(od:Option Addr)(h:Heap):Prop:=∃oe vs,h.get? e=some oe/\oe.cls=.ref C/\oe.dict=od/\oe.data=.fields vs/\(vs.size=6/\(m=true->vs[1]?=some .none))
def Wg(d:Addr)(fs:List (Str×V))(h:Heap):Prop:=∃mA,h.Ns1 d mA/\(∀f,pq (fs.lookup f) (mA f))/\PySem.Within mA (fs.map (·.1))/\fs.length<=1000
noncomputable def iu(m:Bool)(e C:Addr)(od:Option Addr):HO:=.ext (Sx m e C od)
noncomputable def gY(d:Addr)(fs:List (Str×V)):HO:=.ext (Wg d fs)
theorem Gk(x:Sx m e C od h):gj P w H h e (iu m e C od):=by
 refine⟨x,?_,?_⟩
 ·obtain⟨oe,_,h1,_⟩:=x;exact⟨oe,h1⟩
 ·rintro h1 h2 ⟨oe,vs,q1,q⟩ k;exact⟨oe,vs,k _ q1,q⟩
variable{d:Addr}{fs:List (Str×V)}
theorem Gm(x:Wg d fs h):gj P w H h d (gY d fs):=by
 refine⟨x,?_,?_⟩
 ·obtain⟨mA,⟨o,_,_,h1,_⟩,_⟩:=x;exact⟨o,h1⟩
 ·rintro h1 h2 ⟨mA,n,q⟩ k;exact⟨mA,n.at k,q⟩
theorem zG(ok:fW P w H h)(q:H e=some (iu m e C od)):Sx m e C od h:=(show gj P w H h e (iu m e C od)from ok e _ q).1
theorem FH(ok:fW P w H h)(q:H d=some (gY d fs)):Wg d fs h:=(show gj P w H h d (gY d fs)from ok d _ q).1
structure u7 (K:PySem.W.Frag) (C:Addr):Prop extends xR K C where
 tl:(PySem.W.clsIn K C).any (fun cd=>u6 cd.mro)=true
variable{u:Value}
section
variable{X:Cx}{pins:List (Addr×Obj)}{O:St}{H:Hp}{s:aj}{e C:Addr}{f:Str}{A:dF}{E:Value->aj->Prop}
theorem Yb{y:V}(I:Inv X pins O H s)(q:H e=some (iu m e C none))(c:u7 X.K C)(n:jB X.K C f)(ry:RelV y u)
  (h:∀d s',H d=none->Inv X pins O (upd (upd H d (gY d [(f,y)])) e (iu m e C (some d))) s'->Q () s'):aD (aH X.prog X.w) A (setAttr (.ref e) f u) Q E s:=by
 obtain⟨oe,vs,he,hc,hdi,hd,hz⟩:=zG I.hok q;have J:PySem.W.InstAt s.heap e oe C none:=⟨he,hc,by unfold PySem.W.notCls;rw[hd],by rw[hdi];trivial⟩;refine PySem.W.set_plain I.ki J c.sa (Wf (s:={ s with toks:=s.toks+1 }) I.ki J c.toxR c.tl n ?_);obtain⟨cd,hcd,hhd⟩:=PySem.W.any_some c.hd;obtain⟨oc,odi,oda,osl⟩:=oe;dsimp only at hc hdi hd;subst hc hdi hd;unfold ja;refine au (a7 (au ?_));unfold mD Iz;refine au (vF he (au (PySem.W.Looks.here (s:={ s with toks:=s.toks+1 }) (PySem.W.looks_clsIn I.ki hcd) ?_)));dsimp only;rw[hhd];refine au (Jq ?_);have e1:(s.heap.push PySem.W.emptyDict).get? s.heap.objs.size=some PySem.W.emptyDict:=bL s.heap rfl;have e3:(s.heap.push PySem.W.emptyDict).Ns1 s.heap.objs.size (fun _=>none):=O2 ⟨PySem.W.emptyDict,#[],_,e1,rfl,(fun e he=>absurd he (by simp)),fun _=>rfl⟩;have hn:H s.heap.objs.size=none:=I.hok.fresh (aM _);have hne:e≠s.heap.objs.size:=bM (aP he);have he1:=aJ (h:=s.heap) PySem.W.emptyDict he;have I1:=I.laid (a:=s.heap.objs.size) (o:=gY s.heap.objs.size []) (h':=s.heap.push PySem.W.emptyDict) (t':=s.toks+1) (fun b u q=>aJ _ q) (aM _)
  (Gm ⟨fun _=>none,e3,fun _=>trivial,fun y hy=>absurd rfl hy,mX _⟩)
 refine au (wpAny_update he1 (a7 ?_));have he2:=nV (h:=s.heap.push PySem.W.emptyDict) (fun o=>{ o with dict:=some s.heap.objs.size }) he1 rfl;have other:∀b,b≠e->((s.heap.push PySem.W.emptyDict).update e fun o=>{ o with dict:=some s.heap.objs.size }).get? b=(s.heap.push PySem.W.emptyDict).get? b:=fun b hb=>eZ _ _ (cY hb);have q1:(upd H s.heap.objs.size (gY s.heap.objs.size [])) e=some (iu m e C none):=by rw[aQ hne];exact q
 have I2:=I1.write (x:=e) (e:=e) (o:=iu m e C (some s.heap.objs.size)) (h':=(s.heap.push PySem.W.emptyDict).update e fun o=>{ o with dict:=some s.heap.objs.size }) (t':=s.toks+1)
  (by rw[q1];exact ie) (.inl rfl) (fun b u hb z=>(other b hb).trans z) ⟨_,he2⟩ (Gk ⟨_,vs,he2,rfl,rfl,rfl,hz⟩)
 have n2:=e3.at (h':=(s.heap.push PySem.W.emptyDict).update e fun o=>{ o with dict:=some s.heap.objs.size }) fun o z=>(other _ (cY hne)).trans z;dsimp only;unfold o6;refine au (a7 (au (IA (s:={ s with heap:=(s.heap.push PySem.W.emptyDict).update e fun o=>{ o with dict:=some s.heap.objs.size },toks:=s.toks+1 }) n2 fun h' n3 sb=>?_)));have wi:PySem.Within (fun x=>if x=f then some u else none) [f]:=fun y hy=>by
  by_cases z:y=f
  ·rw[z];exact aW.mpr rfl
  ·exact absurd (if_neg z) hy
 obtain⟨oD,esD,epD,hoD,hdD,hcD⟩:=n3.count wi;refine au (Bu hoD (by rw[hdD];exact Bv (d_ hcD (by rw[eE];simp))) ?_);refine a7 (h s.heap.objs.size _ hn ?_);have q2:(upd (upd H s.heap.objs.size (gY s.heap.objs.size [])) e (iu m e C (some s.heap.objs.size))) s.heap.objs.size=some (gY s.heap.objs.size []):=by rw[aQ (cY hne),b6]
 have I3:=I2.write (x:=s.heap.objs.size) (e:=s.heap.objs.size) (o:=gY s.heap.objs.size [(f,y)]) (h':=h') (t':=s.toks+2) (by rw[q2];exact ie) (.inl rfl) (fun b u hb z=>(sb.2 b hb).trans z) ⟨oD,hoD⟩
  (Gm ⟨_,n3,fun g=>?_,wi,by simp⟩)
 ·have eH:upd (upd (upd H s.heap.objs.size (gY s.heap.objs.size [])) e (iu m e C (some s.heap.objs.size))) s.heap.objs.size (gY s.heap.objs.size [(f,y)])=upd (upd H s.heap.objs.size (gY s.heap.objs.size [(f,y)])) e (iu m e C (some s.heap.objs.size)):=by
   funext b;by_cases z:b=s.heap.objs.size
   ·subst z;rw[b6,aQ (cY hne),b6]
   ·rw[aQ z];by_cases z2:b=e
    ·subst z2;rw[b6,b6]
    ·rw[aQ z2,aQ z2,aQ z,aQ z]
  rw[eH]at I3;exact I3
 ·have:=p8 f g y [];show pq ((iJ f y []).lookup g) _;rw[this];by_cases z:g=f
  ·rw[if_pos z,if_pos z];exact ry
  ·rw[if_neg z,if_neg z];trivial
theorem Yc{y:V}(I:Inv X pins O H s)(q:H e=some (iu m e C (some d)))(qd:H d=some (gY d fs))(c:u7 X.K C)(n:jB X.K C f)(hl:fs.length<1000)(ry:RelV y u)
  (h:∀s',Inv X pins O (upd H d (gY d (iJ f y fs))) s'->Q () s'):aD (aH X.prog X.w) A (setAttr (.ref e) f u) Q E s:=by
 obtain⟨oe,vs,he,hc,hdi,hd,hz⟩:=zG I.hok q;obtain⟨mA,n1,rl,wi,_⟩:=FH I.hok qd;obtain⟨od,ho,_⟩:=tO n1;have J:PySem.W.InstAt s.heap e oe C (some od):=⟨he,hc,by unfold PySem.W.notCls;rw[hd],by rw[hdi];exact ho⟩;refine PySem.W.set_plain I.ki J c.sa (Wf (s:={ s with toks:=s.toks+1 }) I.ki J c.toxR c.tl n ?_);obtain⟨cd,hcd,hhd⟩:=PySem.W.any_some c.hd;obtain⟨oc,odi,oda,osl⟩:=oe;dsimp only at hc hdi hd;subst hc hdi hd;unfold ja;refine au (a7 (au ?_));unfold mD Iz;refine au (vF he (au (PySem.W.Looks.here (s:={ s with toks:=s.toks+1 }) (PySem.W.looks_clsIn I.ki hcd) ?_)));dsimp only;rw[hhd];refine a7 ?_;dsimp only;unfold o6;refine au (a7 (au (IA (s:={ s with toks:=s.toks+1 }) n1 fun h' n3 sb=>?_)));obtain⟨oD,esD,epD,hoD,hdD,hcD⟩:=n3.count (PySem.Within.cons f u wi);refine au (Bu hoD (by rw[hdD];exact Bv (d_ hcD (by rw[aC,ah,eE];omega))) ?_);refine a7 (h _ ?_);refine I.write (x:=d) (e:=d) (o:=gY d (iJ f y fs)) (h':=h') (t':=s.toks+2) (by rw[qd];exact ie) (.inl rfl) (fun b u hb z=>(sb.2 b hb).trans z) ⟨oD,hoD⟩ (Gm ⟨_,n3,fun g=>?_,fun g hg=>?_,by have:=uy f y fs;omega⟩)
 ·rw[p8];by_cases z:g=f
  ·rw[if_pos z,if_pos z];exact ry
  ·rw[if_neg z,if_neg z];exact rl g
 ·have hg:(if g=f then some u else mA g)≠none:=hg;have key:(iJ f y fs).lookup g≠none:=by
   rw[p8];by_cases z:g=f
   ·rw[if_pos z];exact fun k=>nomatch k
   ·rw[if_neg z]at hg ⊢;intro k;have:=rl g;rw[k]at this;cases w:mA g with
    |none=>exact hg w
    |some v=>rw[w]at this;exact this
  cases k:(iJ f y fs).lookup g with
  |none=>exact absurd k key
  |some v=>exact b7.mpr ⟨(g,v),PySem.mem_of_lookup k,rfl⟩
theorem T_{v:V}{b:Bool}{Q:Value->aj->Prop}(I:Inv X pins O H s)(q:H e=some (iu m e C (some d)))(qd:H d=some (gY d fs))(c:xR X.K C)(n:jB X.K C f)(l:fs.lookup f=some v)
  (h:∀u s',Inv X pins O H s'->RelV v u->Q u s'):aD (aH X.prog X.w) A (DR (.ref e) f b) Q E s:=by
 obtain⟨oe,vs,he,hc,hdi,hd,hz⟩:=zG I.hok q;obtain⟨mA,n1,rl,wi,_⟩:=FH I.hok qd;obtain⟨od,ho,hlk⟩:=tO n1;have J:PySem.W.InstAt s.heap e oe C (some od):=⟨he,hc,by unfold PySem.W.notCls;rw[hd],by rw[hdi];exact ho⟩;obtain⟨u,hu,ru⟩:=pq.some_of (v:=v) (o:=mA f) (by rw[<-l];exact rl f);exact ZT I.ki J c (PySem.W.findObj_own c.hd n rfl (by rw[hlk,hu])) (Mr ru) (h u _ (I.tok _) ru)
end
section
variable{X:Cx}{C:Addr}{f:Str}{o value:Expr}{ta tv:TE}{pos pos':Pos}
def Sy(C:Addr)(f:Str)(ta tv:TE):TS:=fun D O H=>tv O H fun y H1=>ta O H1 fun x H2=>∃m e,x=.ref e /\
 ((H2 e=some (iu m e C none)/\∀d,H2 d=none->D.nx O (upd (upd H2 d (gY d [(f,y)])) e (iu m e C (some d)))) \/
  ∃d fs,H2 e=some (iu m e C (some d))/\H2 d=some (gY d fs)/\fs.length<1000/\D.nx O (upd H2 d (gY d (iJ f y fs))))
theorem Ua(c:u7 X.K C)(n:jB X.K C f)(ha:PE X o ta)(hv:PE X value tv)(hs:nS value (some (.Attribute o f pos')) pos.line X.env=pure false):PS X (.Assign [.Attribute o f pos'] value pos) (Sy C f ta tv):=by
 intro pins s O H D I h;refine plainObj_wpAny_Assign_Attribute (aT (hv pins s O H _ I h) fun u s1 ⟨y,H1,I1,ry,q⟩=>aT (ha pins s1 O H1 _ I1 q) fun ov s2 ⟨x,H2,I2,rx,m,e,ex,q2⟩=>?_) hs;subst ex;obtain rfl:ov=bG e:=rx;rcases q2 with⟨q3,q4⟩|⟨d,fs,q3,q4,q5,q6⟩
 ·exact Yb I2 q3 c n ry fun d s3 hd I3=>⟨O,_,I3,q4 d hd⟩
 ·exact Yc I2 q3 q4 c n q5 ry fun s3 I3=>⟨O,_,I3,q6⟩
end
noncomputable def rY(N:List Str):List (Str×Nat)->List Stmt->Bool
|[],[]=>true
|(f,j)::r,.Assign [.Attribute (.Name a _) g _] (.Name b _) _::sts=>decide (N[0]?=some a)&&decide (N[j]?=some b)&&decide (f=g)&&rY N r sts
|_,_=>false
def FI(C:Addr):List (Str×Nat)->TS
|[]=>fun D O H=>D.nx O H
|(f,j)::r=>fun D O H=>Sy C f (O6 0) (O6 j) { D with nx:=FI C r D } O H
variable{X:Cx}
theorem Gn(c:u7 X.K C)(hv:∀x∈X.N,DZ X.env.scope x/\(x==("__debug__":Str))=false/\(x==("__classdict__":Str))=false):∀(fs:List (Str×Nat)) (sts:List Stmt),(∀p∈fs,jB X.K C p.1)->rY X.N fs sts=true->nY X sts (FI C fs)
|[],[],_,_=>Jv
|[],_::_,_,h=>by cases h
|(f,j)::r,sts,n,h=>by
 unfold rY at h;split at h
 ·rename_i h1;cases h1
 ·rename_i f' j' r' a pa g pg b pb ps sts' h1;cases h1;simp only[bu,decide_eq_true_eq]at h;obtain⟨⟨⟨h2,h3⟩,h4⟩,h5⟩:=h;subst h4;have va:=hv a (gA h2);have vb:=hv b (gA h3);exact vP (Ua c (n (f,j) ao) (F8 h2 va.1 va.2.1 va.2.2) (F8 h3 vb.1 vb.2.1 vb.2.2) rfl) (Gn c hv r sts' (fun p hp=>n p (ai _ hp)) h5)
 ·cases h
noncomputable def mG:List (Str×Nat)->List V->List (Str×V)->List (Str×V)
|[],_,acc=>acc
|(f,j)::r,vs,acc=>mG r vs (iJ f (vs.getD j .non) acc)
noncomputable def xS(C:Addr)(fs:List (Str×Nat))(n:Nat):Sp:=fun vs H Q _=>vs.length=n/\∃e vr,vs=.ref e::vr/\H e=some (iu true e C none)/\∀d,H d=none->Q .non (upd (upd H d (gY d (mG fs vs []))) e (iu true e C (some d)))
theorem Pq{a b c:HO}(h:d≠e):upd (upd (upd H d a) e b) d c=upd (upd H d c) e b:=by
 funext x;by_cases z:x=d
 ·subst z;rw[b6,aQ h,b6]
 ·rw[aQ z];by_cases z2:x=e
  ·subst z2;rw[b6,b6]
  ·rw[aQ z2,aQ z2,aQ z,aQ z]
variable{O:St}{vs:List V}
theorem Eg{D:Ends}(hde:d≠e)(h0:O[0]?=some (some (.ref e))):∀(fs:List (Str×Nat)) (acc:List (Str×V)),(∀p∈fs,∃v,O[p.2]?=some (some v)/\vs.getD p.2 .non=v)->acc.length+fs.length<=1000->
 D.nx O (upd (upd H d (gY d (mG fs vs acc))) e (iu true e C (some d)))->FI C fs D O (upd (upd H d (gY d acc)) e (iu true e C (some d)))
|[],acc,_,_,h=>h
|(f,j)::r,acc,hv,hl,h=>by
 obtain⟨v,h1,h2⟩:=hv (f,j) ao;have h2:vs.getD j .non=v:=h2;simp only[aC]at hl;refine⟨v,h1,.ref e,h0,true,e,rfl,.inr ⟨d,acc,b6,by rw[aQ hde,b6],by omega,?_⟩⟩;rw[Pq hde];refine Eg hde h0 r _ (fun p hp=>hv p (ai _ hp)) ?_ ?_
 ·have:=uy f v acc;omega
 ·have h:D.nx O (upd (upd H d (gY d (mG r vs (iJ f (vs.getD j .non) acc)))) e (iu true e C (some d))):=h;rw[h2]at h;exact h
variable{fd:fO}{ps:List Str}
theorem Ub{st:Stmt}{fa:Addr}{fs:List (Str×Nat)}(F:qT K "__init__" qual st fa fd)(S:l9 ps ps (ck st))(c:u7 K C)(hn:∀p∈fs,jB K C p.1)
  (hc:rY ps fs (gc st)=true) (hd:∀x∈ps,(x==("__debug__":Str))=false/\(x==("__classdict__":Str))=false) (hj:∀p∈fs,p.2<ps.length) (hl:fs.length<=900) (h0:0<fs.length):fN P w K mg base Al 1 fa fd ps (xS C fs ps.length):=by
 refine F.ok S (fun vs H Q E h=>h.1) fun cdv A outer s H vs Q E hr hsp=>⟨FI C fs,?_,?_⟩
 ·refine Gn (X:=(kW Al P w K mg base ps qual (ck st) fa cdv A outer s H E).xM) c (fun x hx=>⟨?_,hd x hx⟩) fs _ hn hc;rcases S.par x hx with z|z
  ·exact .inl z
  ·exact .inr (.inl z)
 ·obtain⟨hlen,e,vr,rfl,he,q⟩:=hsp;have hst:∀j,j<ps.length->∃v,(start ps (.ref e::vr))[j]?=some (some v)/\(V.ref e::vr).getD j .non=v:=fun j hj=>by
   have hj':j<(V.ref e::vr).length:=by rw[hlen];exact hj
   refine⟨(V.ref e::vr)[j],?_,?_⟩
   ·unfold start;rw[fu (by rw[ah];exact hj'),bD,aA hj'];rfl
   ·rw[b8,aA hj'];rfl
  match fs,hj,hl,h0,q with
  |(f,j)::r,hj,hl,h0,q=>
   obtain⟨v,h1,h2⟩:=hst j (hj (f,j) ao);refine⟨v,h1,.ref e,rfl,true,e,rfl,.inl ⟨he,fun d hd=>?_⟩⟩;have hde:d≠e:=fun z=>by rw[z,he]at hd;cases hd
   have q:=q d hd;simp only[mG]at q;rw[h2]at q;refine Eg (vs:=.ref e::vr) hde rfl r [(f,v)] (fun p hp=>hst p.2 (hj p (ai _ hp))) ?_ q;simp only[aC,fU]at hl ⊢;omega
noncomputable def zH(H:Hp)(b:Addr):Hp:=fun c=>if c=b then none else H c
variable{b c:Addr}
theorem nC(h:c≠b):zH H b c=H c:=if_neg h
theorem BO:zH H b b=none:=if_pos rfl
theorem rA(h:H c=none):zH H b c=none:=by
 unfold zH;split
 ·rfl
 ·exact h
variable{pins:List (Addr×Obj)}
theorem Inv.drop{φ:Heap->Prop}(I:Inv X pins O H s)(hx:H b=some (.ext φ)):Inv X pins O (zH H b) s:=by
 have ne:∀c o,H c=some o->(∀ψ,o≠.ext ψ)->c≠b:=fun c o q n z=>by subst z;rw[hx]at q;cases q;exact n φ rfl
 refine⟨I.ok,I.os,I.bare,⟨I.base.keep,I.base.slot,fun c o q n x=>rA (I.base.free c o q n x),I.base.there,fun c xs q=>?_,fun c o u q=>?_,fun c ps q=>?_⟩,I.loc,I.cell,rA I.free,fun x c q=>rA (I.freeC x c q),fun p hp=>?_,fun a o q=>?_,I.len⟩
 ·have z:=I.base.tups c xs q;rw[nC (ne c _ z fun _ k=>nomatch k)];exact z
 ·have z:=I.base.aB c o u q;rw[nC (ne c _ z fun _ k=>nomatch k)];exact z
 ·obtain⟨more,z⟩:=I.base.tbls c ps q;exact⟨more,by rw[nC (ne c _ z fun _ k=>nomatch k)];exact z⟩
 ·obtain⟨h1,h2,h3⟩:=I.pin p hp;exact⟨h1,rA h2,h3⟩
 ·have hab:a≠b:=fun z=>by subst z;rw[BO]at q;cases q
  rw[nC hab]at q;refine(I.hok a o q).stay (fun _ _ _ z=>z) (fun c z=>?_) fun c xs z=>?_
  ·rw[nC (ne c _ z fun _ k=>nomatch k)];exact z
  ·rw[nC (ne c _ z fun _ k=>nomatch k)];exact z
structure Gp (K:PySem.W.Frag) (C fI:Addr):Prop extends u7 K C where
 ini:PySem.W.findIn K (.ref C) "__init__"=some (some (.ref fI))
 fn:PySem.W.typeIn K (.ref fI)=some (.type "function")
 kp:PySem.W.keepIn K (.ref C)=true
 cls:∃nm q N bs B hdct sn sub ab col dd k0 k1 k2 k3 k5,K.lookup C=some (i_ nm q C N bs (.ref B::[.type "ValueError",.type "Exception",.type "BaseException",.type "object"]) hdct sn sub ab col dd k0 k1 k2 k3 k5 "ValueError.__new__") /\
  ∃c0 dB cd sl c1 d1 es ep s1,K.lookup B=some ⟨c0,dB,.cls cd,sl⟩/\K.lookup cd.ns=some ⟨c1,d1,.dict es ep,s1⟩/\(es.all fun e=>match e.key with|.str _ _=>true|_=>false)=true/\CL es "__init__"=none
theorem Gp.at{fI:Addr}(c:Gp K C fI)(X:K.In h):∃nm q N bs bm hdct sn sub ab col dd k0 k1 k2 k3 k5,h.get? C=some (i_ nm q C N bs bm hdct sn sub ab col dd k0 k1 k2 k3 k5 "ValueError.__new__") /\
  Kv h [.type "ValueError",.type "Exception",.type "BaseException",.type "object"] bm/\bm.contains (.type "BaseException")=true:=by
 obtain⟨nm,q,N,bs,B,hdct,sn,sub,ab,col,dd,k0,k1,k2,k3,k5,l,c0,dB,cd,sl,c1,d1,es,ep,s1,l1,l2,a,n⟩:=c.cls;refine⟨nm,q,N,bs,_,hdct,sn,sub,ab,col,dd,k0,k1,k2,k3,k5,X _ _ l,.own (mA:=fun x=>CL es x) (X _ _ l1) ⟨_,es,ep,X _ _ l2,rfl,fun e he=>?_,fun _=>rfl⟩ n .base,by
  rw[lY,show([Value.type "ValueError",.type "Exception",.type "BaseException",.type "object"].contains (.type "BaseException"))=true from by decide +kernel,tF]⟩
 have:=Array.all_eq_true_iff_forall_mem.mp a e he;cases k:e.key with
 |str x t=>exact⟨x,t,rfl⟩
 |_=>rw[k]at this;cases this
variable{M:LX}
variable{us:List Value}
variable{k:Nat}
variable{x:Str}{a:Expr}{as:List Expr}{ta:TA}{np pos:Pos}
section
variable{X:Cx}{C fI:Addr}
theorem Wh{env:Env}{x:Sem Value}{Q:Flow->aj->Prop}{nm q:Str}{N:Addr}{bs bm:List Value}{hdct:Bool}{sn:List Str}{sub:List Value}{ab:Bool}{col:Option Bool}{dd:Option Addr}{k0 k1 k2 k3 k5:Option Value}{newId:String}
  (hb:bm.contains (.type "BaseException")=true) (hh:A.handled=none)
  (h:aD M A x (fun v aaz=>∃e od vs sl,v=.ref e/\aaz.heap.get? C=some (i_ nm q C N bs bm hdct sn sub ab col dd k0 k1 k2 k3 k5 newId)/\aaz.heap.get? e=some ⟨.ref C,od,.fields vs,sl⟩/\vs[1]?=some .none/\E (.ref e) aaz) E s) :
  aD M A (raiseStmt env (some x) none) Q E s:=by
 have hcB:(bG C::bm).contains (.type "BaseException")=true:=by rw[lY,hb,tF]
 unfold raiseStmt;refine au (dR h (fun v aaz aaD=>?_) fun _ _ x=>x);obtain⟨e,od,vs,sl,rfl,hC,he,h1,hE⟩:=aaD;obtain⟨hp,g,d,tk,os⟩:=aaz
 repeat (first
  |with_reducible refine gE he ?_
  |with_reducible refine gE hC ?_
  |(with_reducible refine ph hC ?_;rw[hcB])
  |wp_step)
 rw[h1];exact a7 (a7 (wpAny_raiseNew_none hh hE))
theorem Inv.Yd(I:Inv X pins O H s):Inv X pins O (upd H (s.heap.objs.size+1) (iu true (s.heap.objs.size+1) C none)) { s with heap:=(s.heap.push (An us)).push (Am C s.heap.objs.size) }:=by
 have I1:Inv X pins O H { s with heap:=s.heap.push (An us) }:=I.kept (t':=s.toks) fun b u q=>aJ _ q;have e2:((s.heap.push (An us)).push (Am C s.heap.objs.size)).get? (s.heap.objs.size+1)=some (Am C s.heap.objs.size):=by
  have:=bL (s.heap.push (An us)) (o:=Am C s.heap.objs.size) rfl;rwa[fL]at this
 exact I1.laid (a:=s.heap.objs.size+1) (t':=s.toks) (fun b u q=>aJ _ q) (zx (fL _ _)) (Gk ⟨_,_,e2,rfl,rfl,rfl,rfl,fun _=>rfl⟩)
theorem MB{fs:List (Str×Nat)}{Q:Value->aj->Prop}(c:Gp X.K C fI)(F:fN X.prog X.w X.K X.mg X.base Al k fI fd ps (xS C fs ps.length))(hr:ir (k+1) X.A)
  (hb:Binds X.K fd ps []) (I:Inv X pins O H s) (r:bE vs us) (hl:vs.length+1=ps.length) (hps:ps.length<=1000)
  (h:∀d s',H d=none->Inv X pins O (upd (upd (upd H (s.heap.objs.size+1) (iu true (s.heap.objs.size+1) C none)) d (gY d (mG fs (.ref (s.heap.objs.size+1)::vs) []))) (s.heap.objs.size+1) (iu true (s.heap.objs.size+1) C (some d))) s'->d≠s.heap.objs.size+1->Q (.ref (s.heap.objs.size+1)) s') :
  aD (aH X.prog X.w) X.A (call (.ref C) us) Q X.xe s:=by
 obtain⟨nm,q,N,bs,bm,hdct,sn,sub,ab,col,dd,k0,k1,k2,k3,k5,hC,T,hbase⟩:=c.at I.ki;have I2:=I.Yd (C:=C) (us:=us);have lus:us.length=vs.length:=r.length.symm;have hz:us.length<=aa:=by
  rw[eE];omega
 obtain⟨hh,g,d,t,os⟩:=s;refine Wd PySem.F.excBase_ValueError T hC I.ki c.ini c.fn hz ?_;have r2:bE (V.ref (hh.objs.size+1)::vs) (bG (hh.objs.size+1)::us):=.cons rfl r;have hl2:(bG (hh.objs.size+1)::us++[]).length=ps.length:=by simp;omega
 have sp:xS C fs ps.length (V.ref (hh.objs.size+1)::vs) (upd H (hh.objs.size+1) (iu true (hh.objs.size+1) C none)) (fun v H2=>v=.non/\∃d,H d=none/\d≠hh.objs.size+1/\H2=upd (upd (upd H (hh.objs.size+1) (iu true (hh.objs.size+1) C none)) d (gY d (mG fs (.ref (hh.objs.size+1)::vs) []))) (hh.objs.size+1) (iu true (hh.objs.size+1) C (some d))) E0:=by
  refine⟨by simp;omega,_,_,rfl,b6,fun d hd=>⟨rfl,d,?_,?_,rfl⟩⟩
  ·by_cases z:d=hh.objs.size+1
   ·subst z;rw[b6]at hd;cases hd
   ·rw[aQ z]at hd;exact hd
  ·intro z;subst z;rw[b6]at hd;cases hd
 refine mz (jm (F.run _ X.stack _ _ ⟨bG (hh.objs.size+1)::us,[]⟩ (bG (hh.objs.size+1)::us) _ _ E0 (hr.make C us []) (I2.Pg.make C us []) (by have:=hb _ (bG (hh.objs.size+1)::us) I2.ki hl2;rwa[dm]at this) r2 sp) fun r s' hq'=>?_);cases r with
 |error e=>exact hq'.elim
 |ok fl=>
  cases fl with
  |ret u=>
   obtain⟨v,H3,I3,rv,rfl,d,hd,hde,rfl⟩:=I2.after hq';cases(show u=d7 from rv);exact⟨rfl,h d s' hd I3 hde⟩
  |next=>exact ay hq'
  |brk=>exact ay hq'
  |cont=>exact ay hq'
theorem Gq{a b:V}:∀(fs:List (Str×Nat)) (acc:List (Str×V)),(∀p∈fs,1<=p.2)->mG fs (a::vs) acc=mG fs (b::vs) acc
|[],_,_=>rfl
|(f,j)::r,acc,h=>by
 have hj:1<=j:=h (f,j) ao
 match j,hj with
 |j+1,_=>
  show mG r (a::vs) (iJ f (vs.getD j .non) acc)=mG r (b::vs) (iJ f (vs.getD j .non) acc);exact Gq r _ fun p hp=>h p (ai _ hp)
def xT(C:Addr)(fs:List (Str×Nat))(n:Nat)(ta:TA)(E:XK):TS:=fun _ O H=>ta O H fun vs H1=>vs.length+1=n/\∀d,H1 d=none->E (.ref C) (some d) (upd H1 d (gY d (mG fs (.non::vs) [])))
theorem Pr{E:XK}{fs:List (Str×Nat)}{cpos:Pos}(c:Gp X.K C fI)(F:fN X.prog X.w X.K X.mg X.base Al k fI fd ps (xS C fs ps.length))(hr:ir (k+1) X.A)(hh:X.A.handled=none)
  (hb:Binds X.K fd ps []) (hps:ps.length<=1000) (hj:∀p∈fs,1<=p.2) (hg:Gl X x) (hm:X.mg x=some (.ref C)) (ha:PA (X.jP (uB X E)) (a::as) ta) (hdb:(x==("__debug__":Str))=false:=by decide)
  (he:cV (a::as) X.env=(false,eval a X.env)::cV as X.env) (hpl:(kP cpos (cV as X.env)).any (·.1)=false) :
  PS (X.jP (uB X E)) (.Raise (some (.Call (.Name x np) (a::as) [] cpos)) none pos) (xT C fs ps.length ta E):=by
 intro pins s O H D I h;obtain⟨nm,q,N,bs,B,hdct,sn,sub,ab,col,dd,k0,k1,k2,k3,k5,l,_⟩:=id c.cls;rw[arm_exec_Raise];refine au (nv ?_);refine Wh (C:=C) (nm:=nm) (q:=q) (N:=N) (bs:=bs) (hdct:=hdct) (sn:=sn) (sub:=sub) (ab:=ab) (col:=col) (dd:=dd) (k0:=k0) (k1:=k1) (k2:=k2) (k3:=k3) (k5:=k5) (bm:=.ref B::[.type "ValueError",.type "Exception",.type "BaseException",.type "object"]) (newId:="ValueError.__new__")
  (by rw[lY,show([Value.type "ValueError",.type "Exception",.type "BaseException",.type "object"].contains (.type "BaseException"))=true from by decide +kernel,tF]) hh ?_
 refine au (dR (eK (pD I hg hm ?_ hdb)) (fun v aaF aaJ=>au (nv (a7 aaJ))) fun _ _ x=>x);refine PySem.W.callWith_K (h₀:=X.base) I.ok.mod.kin c.kp (aT (ha cpos pins s O H _ I h) fun us s1 ⟨vs,H1,I1,r,hl,q1⟩=>⟨I1.ki,?_⟩) he hpl;refine MB (X:=X.jP (uB X E)) c F hr hb I1 r hl hps fun d s2 hd I2 hde=>?_;obtain⟨oe,ws,g1,g2,g3,g4,g5,g6⟩:=zG I2.hok b6;obtain⟨oc,od,oda,osl⟩:=oe;dsimp only at g2 g3 g4;subst g2 g3 g4;refine⟨_,_,ws,osl,rfl,I2.ki _ _ l,g1,g6 rfl,?_⟩;have hn:H1 (s1.heap.objs.size+1)=none:=I1.hok.fresh (jV _);have eH:zH (upd (upd (upd H1 (s1.heap.objs.size+1) (iu true (s1.heap.objs.size+1) C none)) d (gY d (mG fs (.ref (s1.heap.objs.size+1)::vs) []))) (s1.heap.objs.size+1) (iu true (s1.heap.objs.size+1) C (some d))) (s1.heap.objs.size+1)=upd H1 d (gY d (mG fs (.non::vs) [])):=by
  rw[Gq (b:=.non) fs [] hj];funext b;by_cases z:b=s1.heap.objs.size+1
  ·subst z;rw[BO,aQ (cY hde),hn]
  ·rw[nC z,aQ z];by_cases z2:b=d
   ·subst z2;rw[b6,b6]
   ·rw[aQ z2,aQ z2,aQ z]
 have I3:=I2.je.drop (φ:=Sx true (s1.heap.objs.size+1) C (some d)) b6;rw[eH]at I3;have hn2:(upd H1 d (gY d (mG fs (.non::vs) []))) (s1.heap.objs.size+1)=none:=by rw[aQ (cY hde)];exact hn
 exact⟨false,_,C,some d,pins,O,_,rfl,I3,⟨⟨_,ws,.none,g1,rfl,rfl,rfl,g5,g6 rfl,.inl ⟨rfl,rfl⟩⟩,I1.je.qJ (jV _) hn2⟩,q1 d hd⟩
end
def BP(K:PySem.W.Frag)(B:Addr):Prop:=∃nm q N bs bm hdct sn sub ab col dd k0 k1 k2 k3 k5 nid,K.lookup B=some (i_ nm q B N bs bm hdct sn sub ab col dd k0 k1 k2 k3 k5 nid)/\bm.contains (.type "BaseException")=true
variable{B:Addr}
theorem Wi{oe:Obj}{Q:Bool->aj->Prop}(X:K.In s.heap)(b:BP K B)(he:s.heap.get? e=some oe)(hc:oe.cls=.ref C)(hs:PySem.W.mroIn K C (.ref B)=some true)(hq:Q true s) :
  aD M A (L8 (.ref e) (.ref B)) Q E s:=by
 obtain⟨nm,q,N,bs,bm,hdct,sn,sub,ab,col,dd,k0,k1,k2,k3,k5,nid,l,hb⟩:=b;have hB:=X _ _ l;have hcB:(bG B::bm).contains (.type "BaseException")=true:=by rw[lY,hb,tF]
 have f:=tc_notTuple;have L:=PySem.W.looks_mroIn (M:=M) X hs;obtain⟨h,g,d,t,os⟩:=s;unfold L8
 repeat (first
  |(with_reducible refine gE he ?_;rw[hc])
  |with_reducible refine gE hB ?_
  |(with_reducible refine ph hB ?_;rw[hcB])
  |(with_reducible refine L.at ?_)
  |wp_step)
 exact hq
noncomputable abbrev Cx.hand(X:Cx)(v:Value):Cx:={ X with A:=X.A.mark (some v),calm:=false,xe:=fun _ _=>False }
theorem Inv.hand(I:Inv X pins O H s)(v:Value):Inv (X.hand v) pins O H s:=
 ⟨⟨I.ok.mod,I.ok.kind,I.ok.glob,I.ok.blt,I.ok.above,I.ok.inj,I.ok.has,I.ok.cab,fun z=>(nomatch z),I.ok.frames,I.ok.stk,I.ok.exf,I.ok.bs,I.ok.bsz,I.ok.noex,I.ok.exfs,I.ok.nX,I.ok.frf⟩,I.os,I.bare,I.base,I.loc,I.cell,I.free,I.freeC,I.pin,I.hok,I.len⟩
theorem Inv.Wj(ok:X.Ok)(I:Inv (X.hand v) pins O H s):Inv X pins O H s:=
 ⟨ok,I.os,I.bare,I.base,I.loc,I.cell,I.free,I.freeC,I.pin,I.hok,I.len⟩
variable{sp:Sp}{dvs:List V}{ds:List Value}
variable{tb:XK->St->Hp->(Hp->Prop)->Prop}
section
variable{X:Cx}
def KQ(X:Cx)(pins:List (Addr×Obj))(O:St)(E:XK):Value->aj->Prop:=fun v s'=>∃e C od H',v=.ref e/\Inv X pins O H' s'/\Gj true X pins H' s' e C od (fun f=>f=.none)/\E (.ref C) od H'
def PB(X:Cx)(body:List Stmt)(t:XK->St->Hp->(Hp->Prop)->Prop):Prop:=∀(pins:List (Addr×Obj)) (s:aj) (O:St) (H:Hp) (E:XK) (nx:Hp->Prop),Inv X pins O H s->t E O H nx->
 aD (aH X.prog X.w) X.A (execs body X.env) (fun f s'=>f=.next/\∃H',Inv X pins O H' s'/\nx H') (KQ X pins O E) s
theorem Uc{E:XK}{Q:VK}(F:fN X.prog X.w X.K X.mg X.base (ko X.prog X.w) k f fd ps sp)(hr:ir k X.A)(hb:Binds X.K fd ps ds)(hd:bE dvs ds)
  (I:Inv X pins O H s) (r:bE vs us) (h:sp (vs++dvs) H Q E):aD (aH X.prog X.w) X.A (call (.ref f) us) (EP X pins O Q) (KQ X pins O E) s:=by
 have r2:bE (vs++dvs) (us++ds):=r.append hd;have hl:(us++ds).length=ps.length:=by rw[<-r2.length];exact F.len _ _ _ _ h
 refine mz (jm (F.run X.A X.stack s H ⟨us,[]⟩ (us++ds) (vs++dvs) Q E hr I.Pg (hb s us I.ki hl) r2 h) fun r s' hq=>?_);cases r with
 |error v=>
  obtain⟨e,C,od,H',rfl,os,bare,un,hok,x,q⟩:=hq;obtain⟨hh,g,d,t,os'⟩:=s';obtain rfl:os'=s.os:=os;have I1:Inv X pins O H' { s with heap:=hh,gens:=g,drawn:=d,toks:=t }:=I.call (h':=hh) (g':=g) (d':=d) (t':=t) (ch:=[]) un hok bare (fun b z=>absurd z (by simp));exact⟨e,C,od,H',rfl,I1,x.imp (fun b hb=>I.qJ hb.2 hb.1) fun _ z=>z,q⟩
 |ok fl=>
  cases fl with
  |ret u=>exact I.after hq
  |next=>exact ay hq
  |brk=>exact ay hq
  |cont=>exact ay hq
theorem Ud{p epos:Pos}(F:fN X.prog X.w X.K X.mg X.base (ko X.prog X.w) k f fd ps sp)(hr:ir k X.A)(hg:Gl X x)(hm:X.mg x=some (.ref f))(hk:PySem.W.keepIn X.K (.ref f)=true)
  (hb:Binds X.K fd ps ds) (hd:bE dvs ds) (ha:PA X.xM (a::as) ta) (hdb:(x==("__debug__":Str))=false:=by decide) (he:cV (a::as) X.env=(false,eval a X.env)::cV as X.env) (hpl:(kP pos (cV as X.env)).any (·.1)=false) :
  PB X [.Expr (.Call (.Name x p) (a::as) [] pos) epos] (fun E O H nx=>ta O H fun vs H1=>sp (vs++dvs) H1 (fun _ H2=>nx H2) E):=by
 intro pins s O H E nx I h;refine tB (DQ ?_ I.quiet rfl);refine dR (?_:aD _ _ _ (EP X pins O fun _ H2=>nx H2) (KQ X pins O E) s) (fun v s' ⟨y,H',I',_,q⟩=>jM ⟨rfl,H',I',q⟩) fun _ _ z=>z;refine eK (pD I hg hm ?_ hdb);refine PySem.W.callWith_K (h₀:=X.base) I.ok.mod.kin hk (dR (ha pos pins s O H _ (I.jP _) h) (fun us s1 ⟨vs,H1,I1,r,q⟩=>⟨I1.ki,?_⟩) fun _ _ z=>ay z) he hpl;exact Uc F hr hb hd I1.je r q
theorem Ye{c:Expr}{a b:List Stmt}{tc:TT}{ta:XK->St->Hp->(Hp->Prop)->Prop}(hc:PT X.xM c tc)(ha:PB X a ta)(hb:PB X b tb):PB X [.If c a b pos] (fun E O H nx=>tc O H fun k H1=>if k=true then ta E O H1 nx else tb E O H1 nx):=by
 intro pins s O H E nx I h;refine tB (wpAny_If (dR (hc pins s O H _ (I.jP _) h) (fun k s1 ⟨H1,I1,q⟩=>?_) fun _ _ z=>ay z));have fin:∀{f:Flow}{s':aj},(f=.next/\∃H',Inv X pins O H' s'/\nx H')->(match f with|.next=>aD (aH X.prog X.w) X.A (execs [] X.env) (fun f s'=>f=.next/\∃H',Inv X pins O H' s'/\nx H') (KQ X pins O E) s'|f=>(f=.next/\∃H',Inv X pins O H' s'/\nx H')):=by
  rintro f s' ⟨rfl,q⟩;exact jM ⟨rfl,q⟩
 cases k with
 |true=>exact dR (ha pins s1 O H1 E nx I1.je q) (fun f s' z=>fin z) fun _ _ z=>z
 |false=>exact dR (hb pins s1 O H1 E nx I1.je q) (fun f s' z=>fin z) fun _ _ z=>z
end
variable{i:Nat}{n:Str}
section
variable{X:Cx}{pins:List (Addr×Obj)}{O σ':St}{H:Hp}{s:aj}
theorem Inv.frame{m':Str->Option Value}{t':Nat}(I:Inv X pins O H s)(hs:lT X.env.locals s.heap h')(hn:h'.Ns X.env.locals m')(hl:σ'.length=O.length)
  (hm:∀(j:Nat) (x:Str) (v:V),X.N[j]?=some x->σ'[j]?=some (some v)->DZ X.env.scope x->∃u,RelV v u/\Look X.env h' m' x u):Inv X pins σ' H { s with heap:=h',toks:=t' }:=by
 have neL:∀b o,X.aax.heap.get? b=some o->b≠X.env.locals:=fun b o e=>bM (bP (aP e) I.ok.above);refine⟨I.ok,I.os,I.bare,⟨fun b o e n hb hx=>(hs.2 b (neL b o e)).trans (I.base.keep b o e n hb hx),fun b o e n hb hx=>?_,I.base.free,fun b o e hx=>?_,I.base.tups,I.base.aB,I.base.tbls⟩,⟨m',hn,hm⟩,fun x c e=>?_,I.free,I.freeC,fun p hp=>?_,fun a o q=>?_,hl.trans I.len⟩
 ·obtain⟨sl,z⟩:=I.base.slot b o e n hb hx;exact⟨sl,(hs.2 b (neL b o e)).trans z⟩
 ·obtain⟨o',z⟩:=I.base.there b o e hx;exact⟨o',(hs.2 b (neL b o e)).trans z⟩
 ·obtain⟨v,o,ho,hd⟩:=I.cell x c e;exact⟨v,o,(hs.2 c (I.BC x c e)).trans ho,hd⟩
 ·obtain⟨h1,h2,h3,h4⟩:=I.pin p hp;exact⟨(hs.2 p.1 h3).trans h1,h2,h3,h4⟩
 ·have hk:∀b u,(b=a\/H b=some (.own a))->s.heap.get? b=some u->h'.get? b=some u:=fun b u hb e=>by
   refine(hs.2 b fun z=>?_).trans e;rcases hb with z2|z2
   ·rw[<-z2,z,I.free]at q;cases q
   ·rw[z,I.free]at z2;cases z2
  exact(I.hok a o q).stay hk (fun _ z=>z) fun _ _ z=>z
theorem name_goes(I:Inv X pins O H s)(nd:X.N.Nodup)(hi:X.N[i]?=some n)(hl:X.env.scope.names.lookup n=some .local)
  (h:∀s',Inv X pins (O.set i none) H s'->Q () s'):aD M A (do bindName X.env n .none;o7 X.env n pos) Q E s:=by
 refine au (wpAny_bindName (vO (v:=.non) I nd hi (.inl hl) rfl (fun s1 I1=>?_) (.inr hl)));have hk:X.env.kindOf n=some .local:=hl;obtain⟨m,hn,hlk⟩:=id I1.loc;have hlt:i<O.length:=by rw[I.len];exact(bZ.mp hi).1
 obtain⟨u,ru,look⟩:=hlk i n .non hi (by rw[fq];simp[hlt]) (.inl hl);have hv:m n=some u:=by
  rcases look with⟨_,z⟩|⟨z,_⟩
  ·exact z
  ·rw[hk]at z;rcases z with z|z<;>cases z
 have hp:(X.env.scope.kind==.class||(X.env.scope.kind==.module&&X.env.locals != X.env.globals))=false:=by rw[I.ok.kind];rfl
 unfold o7;refine wpAny_onRaise (wpAny_unbindName_local hk hn hv hp fun h' w n' sb=>h _ ?_);refine I1.frame (t':=s1.toks) sb n' (by simp) fun j x v e1 e2 e3=>?_;have hji:j≠i:=fun z=>by
  subst z;rw[fq]at e2;simp[hlt]at e2
 have hxn:x≠n:=fun z=>hji (AR nd (by rw[<-z];exact e1) hi);obtain⟨u',r',look'⟩:=hlk j x v e1 (by rw[cH (cY hji)]at e2 ⊢;exact e2) e3;refine⟨u',r',?_⟩;rcases look' with⟨z1,z2⟩|⟨z1,c,z2,o,ho,hd⟩
 ·exact .inl ⟨z1,(if_neg hxn).trans z2⟩
 ·exact .inr ⟨z1,c,z2,o,(sb.2 c (I1.BC x c z2)).trans ho,hd⟩
theorem Inv.Yg{o:HO}(I:Inv X pins O H s)(f:mJ X pins H b)(ok:gj X.prog X.w (upd H b o) s.heap b o):Inv X pins O (upd H b o) s:=by
 obtain⟨f0,f1,f2,f3,f4,f5⟩:=f;have ne:∀c u,H c=some u->c≠b:=fun c u q z=>by rw[z,f0]at q;cases q
 refine⟨I.ok,I.os,I.bare,⟨I.base.keep,I.base.slot,fun c u q n x=>?_,I.base.there,fun c xs q=>?_,fun c u w q=>?_,fun c ps q=>?_⟩,I.loc,I.cell,?_,fun x c q=>?_,fun p hp=>?_,fun a u q=>?_,I.len⟩
 ·have hcb:c≠b:=fun z=>by
   subst z;rcases f3 with z|z
   ·exact x z
   ·exact absurd (bP (aP q) z) (d8 _)
  rw[aQ hcb];exact I.base.free c u q n x
 ·have z:=I.base.tups c xs q;rw[aQ (ne c _ z)];exact z
 ·have z:=I.base.aB c u w q;rw[aQ (ne c _ z)];exact z
 ·obtain⟨more,z⟩:=I.base.tbls c ps q;exact⟨more,by rw[aQ (ne c _ z)];exact z⟩
 ·rw[aQ (cY f1)];exact I.free
 ·rw[aQ (f4 x c q)];exact I.freeC x c q
 ·obtain⟨h1,h2,h3⟩:=I.pin p hp;exact⟨h1,by rw[aQ (f5 p hp)];exact h2,h3⟩
 ·by_cases z:a=b
  ·subst z;rw[b6]at q;cases q;exact ok
  ·rw[aQ z]at q;exact(I.hok a u q).stay (fun _ _ _ k=>k) (fun c k=>by rw[aQ (ne c _ k)];exact k) fun c xs k=>by rw[aQ (ne c _ k)];exact k
def Gr(K:PySem.W.Frag)(i:Nat)(B:Addr)(tb:XK->St->Hp->(Hp->Prop)->Prop)(ts:TS):TS:=fun D O H=>
 tb (fun c od H1=>∃C,c=.ref C/\PySem.W.mroIn K C (.ref B)=some true/\∀e,H1 e=none->ts { nx:=fun σ2 H2=>D.nx (σ2.set i none) H2,rt:=D.rt } (O.set i (some (.ref e))) (upd H1 e (iu false e C od))) O H (fun H1=>D.nx O H1)
theorem Wk{suite:List Stmt}{aaY:Stmt}{ts:TS}{hpos:Pos}(hst:X.stack=X.env::X.outer)(hf:X.env.frame=some X.env.locals)(hb:PB X body tb)(hs:∀e,nY (X.hand (.ref e)) (aaY::suite) ts)
  (hg:Gl X x) (hm:X.mg x=some (.ref B)) (b:BP X.K B) (nd:X.N.Nodup) (hi:X.N[i]?=some n) (hl:X.env.scope.names.lookup n=some .local) (hdb:(x==("__debug__":Str))=false:=by decide) :
  PS X (.Try body [.ExceptHandler (some (.Name x np)) (some n) (aaY::suite) hpos] [] [] pos) (Gr X.K i B tb ts):=by
 intro pins s O H D I h;refine wpAny_Try_except (dR (hb pins s O H _ _ I h) (fun f s1 ⟨hf,H1,I1,q⟩=>?_) fun v s1 hx=>?_)
 ·subst hf;exact jM ⟨O,H1,I1,q⟩
 ·obtain⟨e,C,od,H1,rfl,I1,F1,C',ec,hmro,q⟩:=hx;cases ec;refine Dh hst hf I1 (F1.imp (fun _ z=>z) fun _ z=>.inl z) fun s2 I2 F2=>?_;refine tS I2 F2 fun s3 I3 F3=>?_;refine wpAny_handleBy_cons (codeAny_handlers_test (pD (X:=X.hand (.ref e)) (I3.hand _) hg hm ?_ hdb)) (by intro z;cases z);obtain⟨⟨oe,vs,v,g1,g2,g3,g4,g5,g6,g7⟩,fe⟩:=id F3;refine Wi I3.ki b g1 g2 hmro ?_;show kg _ _ _ _ _;refine codeAny_handlers_suite_as ?_;refine tS (X:=X.hand (.ref e)) (I3.hand _) F3 fun s4 I4 F4=>?_;obtain⟨⟨oe',vs',v',k1,k2,k3,k4,k5,k6,k7⟩,fe'⟩:=id F4;have I5:Inv (X.hand (.ref e)) pins O (upd H1 e (iu false e C od)) s4:=I4.Yg fe' (Gk ⟨oe',vs',k1,k2,k3,k4,k5,fun z=>nomatch z⟩);refine vO (X:=X.hand (.ref e)) (v:=.ref e) I5 nd hi (.inl hl) rfl (fun s5 I6=>?_) (.inr hl);refine dR (hs e pins s5 _ _ _ I6 (q e fe.1)) (fun f s6 hq=>?_) fun _ _ z=>ay z;show aD _ _ _ _ _ _;have go:∀{σ2:St}{H2:Hp}{Q:Unit->aj->Prop},Inv (X.hand (.ref e)) pins σ2 H2 s6->(∀s7,Inv X pins (σ2.set i none) H2 s7->Q () s7)->aD (aH X.prog X.w) X.A (do bindName X.env n .none;o7 X.env n hpos) Q X.xe s6:=fun J k=>name_goes (J.Wj I.ok) nd hi hl k;cases f with
  |next=>obtain⟨σ2,H2,J,z⟩:=hq;exact go J fun s7 J7=>⟨_,H2,J7,z⟩
  |ret u=>obtain⟨w,σ2,H2,J,r,z⟩:=hq;exact go J fun s7 J7=>⟨w,_,H2,J7,r,z⟩
  |brk=>obtain⟨σ2,H2,J,z⟩:=hq;exact z.elim
  |cont=>obtain⟨σ2,H2,J,z⟩:=hq;exact z.elim
end
end L2
end
section
namespace L3
open PySem PySem.Spec L2
inductive Bf where
 |len|all|any|int|str|abs|min
 deriving DecidableEq
noncomputable def Bf.name:Bf->Str
|.len=>"len"|.all=>"all"|.any=>"any"|.int=>"int"|.str=>"str"|.abs=>"abs"|.min=>"min"
inductive Mt where
 |append|startswith|split|count|index|join|upper
 deriving DecidableEq
noncomputable def Mt.name:Mt->Str
|.append=>"append"|.startswith=>"startswith"|.split=>"split"|.count=>"count"|.index=>"index"|.join=>"join"|.upper=>"upper"
inductive Ty where
 |int|bool|str|list|tuple|dict|none
 deriving DecidableEq
mutual
inductive CE where
|var (i:Nat)
|con (v:V)
|glo (g:Nat)
|bin (op:kK) (a b:CE)
|neg (a:CE)
|nset (a:CE)
|not (a:CE)
|and (a b:CE)
|or (a b:CE)
|ite (c a b:CE)
|cmp (op:qz) (a b:CE)
|chain (o1 o2:qz) (a b c:CE)
|call (g:Nat) (as:iP)
|blt (f:Bf) (as:iP)
|mth (m:Mt) (o:CE) (as:iP)
|ix (a b:CE)
|sl (a:CE) (lo hi:CO)
|lst (as:iP)
|tup (as:iP)
|comp (nl:List Str) (fr:List Nat) (elt:CE) (tg:CG) (src:CI) (cond:CO)
|isx (one:Bool) (gs:List Nat) (a:CE)
|isv (g:Nat) (a:CE)
|att (g:Nat) (a:CE) (f:Str)
|slp (a:CE) (lo hi:CO) (k:Int)
inductive iP where
|nil
|cons (a:CE) (r:iP)
inductive CO where
|none
|some (a:CE)
inductive CG where
|name (i:Nat)
|tup (gs:qB)
|sub (o i:CE)
inductive qB where
|nil
|cons (g:CG) (r:qB)
inductive CI where
|seq (a:CE)
|range (as:iP)
|enum (a:CE)
|zip (as:iP)
end
inductive CB where
|call (g:Nat) (as:iP)
|ite (c:CE) (a b:CB)
mutual
inductive CS where
|expr (e:CE)
|asg (g:CG) (e:CE)
|casg (i:Nat) (e:CE)
|aug (i:Nat) (e:CE)
|tasg (g:CG) (e:CE)
|ret (e:CE)
|ifs (c:CE) (a b:cC)
|whil (c:CE) (b:cC)
|forr (g:CG) (src:CI) (b:cC)
|brk
|cont
|never
|rais (g:Nat) (as:iP)
|tri (i g:Nat) (b:CB) (h:cC)
inductive cC where
|nil
|cons (s:CS) (r:cC)
|two (s t:CS) (r:cC)
end
noncomputable def qB.len:qB->Nat
|.nil=>0
|.cons _ r=>r.len+1
inductive G where
|val (v:V)
|tup (a:Addr) (xs:List V)
|fn (sp:Sp) (dvs:List V)
|cls (C:Addr) (fs:List (Str×Nat)) (n:Nat)
|iQ (D:Addr) (Cs:List Addr)
|pe (Cs:List Addr) (as:List Str)
|exb (B:Addr) (Cs:List Addr)
|nop
noncomputable def G.hand:G->G
|.fn _ _=>.nop
|.cls _ _ _=>.nop
|g=>g
def Eh(K:PySem.W.Frag)(a:Addr)(t:Bool)(xs:List V):Prop:=
 ∃(o:Obj) (its:Array Value) (n:Nat),K.lookup a=some o/\o.cls=.type (if t then "tuple" else "list")/\o.dict=none/\o.data=.seq its n/\its.size<=aa/\bE xs its.toList
noncomputable def Di(H:Hp)(a:Addr):Option (Bool×List V):=match H a with
|some (.lst xs)=>some (false,xs)
|some (.tup xs)=>some (true,xs)
|some (.bz _ (.lst xs))=>some (false,xs)
|some (.bz _ (.tup xs))=>some (true,xs)
|_=>none
def gq(K:PySem.W.Frag)(H:Hp)(a:Addr)(t:Bool)(xs:List V):Prop:=Di H a=some (t,xs)\/Eh K a t xs
theorem tupS{K:PySem.W.Frag}{H:Hp}{a:Addr}{xs:List V}(h:H a=some (.tup xs)):gq K H a true xs:=.inl (by unfold Di;rw[h])
def uC(K:PySem.W.Frag)(H:Hp)(a:Addr)(k:Bool->List V->Prop):Prop:=∃t xs,gq K H a t xs/\k t xs
inductive D where
|non|bl (b:Bool)|int (i:Int)|str (x:Str)
|lst (o:Bool) (xs:List D)
|tup (xs:List D)
|cst (xs:List D)
|exc (C:Addr) (ks:List Str) (xs:List D)
mutual
noncomputable def bz:D->D
|.non=>.non
|.bl b=>.bl b
|.int i=>.int i
|.str x=>.str x
|.lst _ xs=>.lst false (aB xs)
|.tup xs=>.tup (aB xs)
|.cst xs=>.cst (aB xs)
|.exc C ks xs=>.exc C ks (aB xs)
noncomputable def aB:List D->List D
|[]=>[]
|d::r=>bz d::aB r
end
mutual
noncomputable def aV:D->Bool
|.lst o xs=>o&&cE xs
|.tup xs=>cE xs
|.cst _=>false
|.exc _ _ _=>false
|_=>true
noncomputable def cE:List D->Bool
|[]=>true
|d::r=>aV d&&cE r
end
mutual
noncomputable def jC:D->D->Bool
|.non,y=>match y with
 |.non=>true
 |_=>false
|.bl a,y=>match y with
 |.bl b=>a==b
 |.int j=>(if a then 1 else 0)==j
 |_=>false
|.int i,y=>match y with
 |.int j=>i==j
 |.bl b=>i==(if b then 1 else 0)
 |_=>false
|.str a,y=>match y with
 |.str b=>a==b
 |_=>false
|.lst _ xs,y=>match y with
 |.lst _ ys=>n6 xs ys
 |_=>false
|.tup xs,y=>match y with
 |.tup ys=>n6 xs ys
 |_=>false
|.cst _,_=>false
|.exc _ _ _,_=>false
noncomputable def n6:List D->List D->Bool
|[],ys=>match ys with
 |[]=>true
 |_=>false
|x::xs,ys=>match ys with
 |y::ys=>jC x y&&n6 xs ys
 |[]=>false
end
mutual
noncomputable def mK:D->Nat->Bool
|.lst _ xs,n=>match n with
 |0=>false
 |n+1=>fP xs n
|.tup xs,n=>match n with
 |0=>false
 |n+1=>fP xs n
|.cst _,_=>false
|.exc _ _ _,_=>false
|_,_=>true
noncomputable def fP:List D->Nat->Bool
|[],_=>true
|d::r,n=>mK d n&&fP r n
end
noncomputable def cX(d:D):Bool:=mK d 12
noncomputable def iR(ds:List D):Bool:=fP ds 12
mutual
def aU(K:PySem.W.Frag)(H:Hp):D->V->Prop
|.non,v=>v=.non
|.bl b,v=>v=.bl b
|.int i,v=>v=.int i
|.str x,v=>v=.str x/\x.length<=aa
|.lst _ ds,v=>∃a vs,v=.ref a/\Rd H a (.lst vs)/\vs.length<=aa/\aE K H ds vs
|.tup ds,v=>∃a vs,v=.ref a/\H a=some (.tup vs)/\vs.length<=aa/\aE K H ds vs
|.cst ds,v=>∃a vs,v=.ref a/\Eh K a true vs/\vs.length<=aa/\aE K H ds vs
|.exc C ks ds,v=>∃e d vs,v=.ref e/\H e=some (iu false e C (some d))/\H d=some (gY d (ks.zip vs))/\aE K H ds vs
def aE(K:PySem.W.Frag)(H:Hp):List D->List V->Prop
|[],vs=>vs=[]
|d::ds,vs=>∃v r,vs=v::r/\aU K H d v/\aE K H ds r
end
def Pu(K:PySem.W.Frag)(op:kK)(x y:V)(H:Hp)(Q:VK):Prop:=match op,x,y with
|.Add,.int i,.int j=>Q (.int (i+j)) H
|.Sub,.int i,.int j=>Q (.int (i-j)) H
|.Mult,.int i,.int j=>ux i j/\Q (.int (i*j)) H
|.FloorDiv,.int i,.int j=>sD i j/\Q (.int (i / j)) H
|.Mod,.int i,.int j=>0<j/\Q (.int (i%j)) H
|.Add,.str i,.str j=>i.length+j.length<=aa/\Q (.str (i++j)) H
|.Mult,.str i,.int j=>(0<=j/\j<2 ^ 40/\i.length*j.toNat<=aa)/\Q (.str ⟨(aO j.toNat i.cps.toList).flatten.toArray⟩) H
|.RShift,.int i,.int j=>0<=j/\Q (.int (i / 2 ^ j.toNat)) H
|.Pow,.int i,.int j=>F_ i j/\Q (.int (i ^ j.toNat)) H
|.Add,.ref a,.ref b=>(∃xs ys,Rd H a (.lst xs)/\Rd H b (.lst ys)/\xs.length+ys.length<=aa/\∀p,H p=none->Q (.ref p) (upd H p (.lst (xs++ys))))
  \/ (∃xs ys,gq K H a true xs/\gq K H b true ys/\xs≠[]/\ys≠[]/\xs.length+ys.length<=aa/\∀p,H p=none->Q (.ref p) (upd H p (.tup (xs++ys))))
|.Mult,.ref a,.int k=>∃xs,Rd H a (.lst xs)/\(-(2 ^ 63)<=k/\k<2 ^ 63)/\xs.length*k.toNat<=aa/\∀p,H p=none->Q (.ref p) (upd H p (.lst (aO k.toNat xs).flatten))
|_,_,_=>False
noncomputable def memD(x:D)(xs:List D):Bool:=xs.any fun y=>jC y x
def nD(K:PySem.W.Frag)(op:qz)(x y:V)(H:Hp)(Q:VK):Prop:=match op,x,y with
|.Lt,.int i,.int j=>Q (.bl (decide (i<j))) H
|.LtE,.int i,.int j=>Q (.bl (decide (i<=j))) H
|.Gt,.int i,.int j=>Q (.bl (decide (j<i))) H
|.GtE,.int i,.int j=>Q (.bl (decide (j<=i))) H
|.Lt,.str i,.str j=>Q (.bl (decide (i.cps.toList<j.cps.toList))) H
|.LtE,.str i,.str j=>Q (.bl (!decide (j.cps.toList<i.cps.toList))) H
|.Eq,x,y=>∃dx dy,aU K H dx x/\aU K H dy y/\cX dx=true/\cX dy=true/\Q (.bl (jC dx dy)) H
|.NotEq,x,y=>∃dx dy,aU K H dx x/\aU K H dy y/\cX dx=true/\cX dy=true/\Q (.bl (!jC dx dy)) H
|.Is,x,.non=>Q (.bl (decide (x=.non))) H
|.IsNot,x,.non=>Q (.bl (!decide (x=.non))) H
|.In,x,.ref a=>(∃t xs dx ds,gq K H a t xs/\aU K H dx x/\aE K H ds xs/\cX dx=true/\iR ds=true/\Q (.bl (memD dx ds)) H)
  \/ ∃kvs k,Rd H a (.dK kvs)/\x=kV k/\Q (.bl (kB kvs k).isSome) H
|.NotIn,x,.ref a=>(∃t xs dx ds,gq K H a t xs/\aU K H dx x/\aE K H ds xs/\cX dx=true/\iR ds=true/\Q (.bl (!memD dx ds)) H)
  \/ ∃kvs k,Rd H a (.dK kvs)/\x=kV k/\Q (.bl (!(kB kvs k).isSome)) H
|_,_,_=>False
def j6(K:PySem.W.Frag)(x:V)(H:Hp)(Q:Bool->Prop):Prop:=match x with
|.bl b=>Q b
|.non=>Q false
|.int i=>Q (i != 0)
|.str z=>z.length<=aa/\Q (z.length != 0)
|.ref a=>(uC K H a fun _ xs=>Q (!xs.isEmpty))\/∃kvs,H a=some (.dK kvs)/\Q (!kvs.isEmpty)
|_=>False
def Gs(K:PySem.W.Frag)(x y:V)(H:Hp)(Q:VK):Prop:=match x,y with
|.str z,.int i=>z.length<=aa/\∃c,e_ z.cps.toList i=some c/\Q (.str ⟨#[c]⟩) H
|.ref a,y=>(∃t xs i v,y=.int i/\gq K H a t xs/\e_ xs i=some v/\Q v H)\/(∃kvs k v,Rd H a (.dK kvs)/\y=kV k/\kB kvs k=some v/\Q v H)
  \/ ∃kvs k b v,Rd H a (.dT kvs)/\y=.ref b/\H b=some (.tup (k.map kV))/\kB kvs k=some v/\Q v H
|_,_=>False
noncomputable def cut{α:Type}(xs:List α)(lo hi:Option Int):List α:=(xs.drop (HT.kj xs.length 0 lo)).take (HT.kj xs.length xs.length hi-HT.kj xs.length 0 lo)
def Sz(K:PySem.W.Frag)(x:V)(lo hi:Option Int)(H:Hp)(Q:VK):Prop:=match x with
|.str z=>z.length<=aa/\Q (.str ⟨(cut z.cps.toList lo hi).toArray⟩) H
|.ref a=>(uC K H a fun t xs=>t=false/\∀p,H p=none->Q (.ref p) (upd H p (.lst (cut xs lo hi))))
  \/ ∃(n:Nat) (xs:List V),gq K H a true xs/\lo=some (n:Int)/\hi=none/\1<=n/\n<=xs.length/\∀p,H p=none->Q (.ref p) (upd H p (.tup (xs.drop n)))
|_=>False
noncomputable def mZ{α:Type}(xs:List α)(lo hi:Option Int)(k:Int):List α:=(wU (fJ lo hi (some k) xs.length).1 (fJ lo hi (some k) xs.length).2.1 (fJ lo hi (some k) xs.length).2.2).filterMap (xs[·]?)
def Pw(K:PySem.W.Frag)(x:V)(lo hi:Option Int)(k:Int)(H:Hp)(Q:VK):Prop:=match x with
|.ref a=>uC K H a fun t xs=>t=false/\(k≠0/\(mZ xs lo hi k).length<=aa)/\∀p,H p=none->Q (.ref p) (upd H p (.lst (mZ xs lo hi k)))
|_=>False
noncomputable def n9:V->Bool
|.bl true=>true
|_=>false
noncomputable def Yh:V->Bool
|.bl _=>true
|_=>false
noncomputable def zJ(xs:List V):Bool:=xs.all Yh
noncomputable def n_(i:Int):Str:=toString i
def AY(K:PySem.W.Frag)(f:Bf)(vs:List V)(H:Hp)(Q:VK):Prop:=match f,vs with
|.len,[.str z]=>z.length<=aa/\Q (.int z.length) H
|.len,[.ref a]=>(uC K H a fun _ xs=>Q (.int xs.length) H)\/∃kvs,Rd H a (.dK kvs)/\Q (.int kvs.length) H
|.all,[.ref a]=>uC K H a fun t xs=>t=false/\zJ xs=true/\Q (.bl (xs.all n9)) H
|.any,[.ref a]=>uC K H a fun t xs=>t=false/\zJ xs=true/\Q (.bl (xs.any n9)) H
|.int,[.int i]=>Q (.int i) H
|.int,[.bl b]=>Q (.int (if b then 1 else 0)) H
|.abs,[.int i]=>Q (.int (if i<0 then -i else i)) H
|.min,[.int i,.int j]=>Q (.int (if j<i then j else i)) H
|.int,[.str z]=>z.length<=640/\∃n,intText? z=some n/\Q (.int n) H
|.str,[.int i]=>i.natAbs.log2<1920/\Q (.str (n_ i)) H
|_,_=>False
noncomputable def dM(c:Nat):List Nat->List (List Nat)
|[]=>[[]]
|x::r=>if x=c then[]::dM c r else match dM c r with
 |h::t=>(x::h)::t
 |[]=>[[x]]
noncomputable def strOf(l:List Nat):Str:=⟨l.toArray⟩
def oj(H:Hp)(a:Addr):Prop:=match H a with
|some (.lst _)=>True
|_=>False
def SA(H:Hp)(a:Addr):Prop:=match H a with
|some (.dK _)=>True
|some (.dT _)=>True
|_=>False
def tT(m:Mt)(x:V)(H:Hp):Prop:=match m,x with
|.append,.ref a=>oj H a
|.join,.str _=>True
|.startswith,.str _=>True
|.upper,.str _=>True
|.split,.str _=>True
|.count,.ref a=>∃xs,Rd H a (.lst xs)
|.index,.ref a=>∃xs,Rd H a (.lst xs)
|.count,.str _=>True
|.index,.str _=>True
|_,_=>False
def xU(K:PySem.W.Frag)(m:Mt)(x:V)(vs:List V)(H:Hp)(Q:VK):Prop:=match m,x,vs with
|.append,.ref l,[y]=>match H l with
 |some (.lst xs)=>xs.length<aa/\Q .non (upd H l (.lst (xs++[y])))
 |_=>False
|.join,.str x,[.ref a]=>uC K H a fun t xs=>t=false/\∃ss:List Str,xs=ss.map V.str/\(ss.map (·.length)).sum+ss.length*x.length<=aa/\Q (.str (ee x ss)) H
|.upper,.str x,[]=>x.length<=5592405/\Q (.str (nW x)) H
|.startswith,.str x,[.str y]=>Q (.bl (y.cps.toList.isPrefixOf x.cps.toList)) H
|.split,.str x,[.str y]=>y.length=1/\x.length+2<=aa/\∀p,H p=none->Q (.ref p) (upd H p (.lst ((dM (y.cps.getD 0 0) x.cps.toList).map fun l=>V.str (strOf l))))
|.count,.ref l,[.bl k]=>∃bs:List Bool,Rd H l (.lst (bs.map V.bl))/\Q (.int (bs.count k)) H
|.index,.ref l,[.bl k]=>∃bs:List Bool,Rd H l (.lst (bs.map V.bl))/\k∈bs/\Q (.int (bs.idxOf k)) H
|.count,.str x,[.str y]=>y.length=1/\x.length<=aa/\Q (.int (x.cps.toList.count (y.cps.getD 0 0))) H
|.index,.str x,[.str y]=>y.length=1/\x.length<=aa/\(y.cps.getD 0 0)∈x.cps.toList/\Q (.int (x.cps.toList.idxOf (y.cps.getD 0 0))) H
|.split,.str x,[]=>(x.length<=aa/\(iE x).length<=aa)/\∀p,H p=none->Q (.ref p) (upd H p (.lst ((iE x).map V.str)))
|_,_,_=>False
inductive Item where
|v (x:V)
|tup (xs:List V)
def mkItem(it:Item)(H:Hp)(k:V->Hp->Prop):Prop:=match it with
|.v x=>k x H
|.tup xs=>∀p,H p=none->k (.ref p) (upd H p (.tup xs))
noncomputable def m6:Nat->List V->List Item
|_,[]=>[]
|n,x::r=>.tup [.int (n:Int),x]::m6 (n+1) r
noncomputable def uD:List V->List V->List Item
|x::xs,y::ys=>.tup [x,y]::uD xs ys
|_,_=>[]
def ZU(x y:V)(H:Hp)(k:(Hp->Prop)->List Item->Hp->Prop):Prop:=∃a b xs ys,x=.ref a/\y=.ref b/\Rd H a (.lst xs)/\Rd H b (.lst ys)/\k (fun H'=>Rd H' a (.lst xs)/\Rd H' b (.lst ys)) (uD xs ys) H
def KR(vs:List V)(H:Hp)(k:(Hp->Prop)->List Item->Hp->Prop):Prop:=match vs with
|[x,y]=>ZU x y H k
|_=>False
noncomputable abbrev SD:=St->Hp->((Hp->Prop)->List Item->Hp->Prop)->Prop
def forL(ok:Hp->Prop)(g:TG)(body:TS)(D:Ends):List Item->St->Hp->Prop
|[],O,H=>ok H/\D.nx O H
|it::r,O,H=>ok H/\mkItem it H fun x H1=>g x O H1 fun σ2 H2=>body { D with nx:=forL ok g body D r,ct:=forL ok g body D r,bk:=D.nx } σ2 H2
def rB(ok:Hp->Prop)(g:TG)(cond:TT)(elt:TE)(k:List V->Hp->Prop):List Item->List V->St->Hp->Prop
|[],acc,_,H=>ok H/\k acc H
|it::r,acc,O,H=>ok H/\acc.length<aa/\mkItem it H fun x H1=>g x O H1 fun σ2 H2=>cond σ2 H2 fun b H3=>
  if b=true then elt σ2 H3 fun y H4=>rB ok g cond elt k r (acc++[y]) σ2 H4 else rB ok g cond elt k r acc σ2 H3
noncomputable def chars(z:Str):List V:=z.cps.toList.map fun c=>V.str ⟨#[c]⟩
def Dj(K:PySem.W.Frag)(x:V)(H:Hp)(k:(Hp->Prop)->List Item->Hp->Prop):Prop:=match x with
|.str z=>z.length<=aa/\k (fun _=>True) ((chars z).map .v) H
|.ref a=>uC K H a fun t xs=>k (fun H'=>gq K H' a t xs) (xs.map .v) H
|_=>False
def xV(vs:List V)(H:Hp)(k:(Hp->Prop)->List Item->Hp->Prop):Prop:=match vs with
|[.int j]=>(-(2 ^ 62)<=j/\j<2 ^ 62)/\k (fun _=>True) ((bS j.toNat).map fun(i:Nat)=>Item.v (.int (i:Int))) H
|[.int i,.int j]=>(-(2 ^ 62)<=i/\i<2 ^ 62/\-(2 ^ 62)<=j/\j<2 ^ 62)/\k (fun _=>True) ((bS (j-i).toNat).map fun(n:Nat)=>Item.v (.int (i+(n:Int)))) H
|_=>False
def mh(O:St)(i:Nat)(k:V->Prop):Prop:=match O[i]? with
|some (some v)=>k v
|_=>False
noncomputable def uE(Y:List G):List Nat->Option Addr->Option Bool
|[],_=>some false
|g::r,c=>match Y[g]? with
 |some (.iQ D Cs)=>match c with
  |none=>uE Y r c
  |some C=>if C∈Cs then(if C=D then some true else uE Y r c)else none
 |_=>none
def zK(Y:List G):List Nat->List Addr->Prop
|[],Ds=>Ds=[]
|g::gs,Ds=>∃D r Cs,Ds=D::r/\Y[g]?=some (G.iQ D Cs)/\zK Y gs r
def Px(H:Hp)(e:Addr)(k:Addr->List (Str×V)->Prop):Prop:=∃m C d fs,H e=some (iu m e C (some d))/\H d=some (gY d fs)/\k C fs
def Gu(Y:List G)(gs:List Nat)(x:V)(H:Hp)(Q:Bool->Prop):Prop:=gs≠[]/\gs.length<=1000/\(∃Ds,zK Y gs Ds)/\match x with
|.non=>∃b,uE Y gs none=some b/\Q b
|.ref e=>Px H e fun C _=>∃b,uE Y gs (some C)=some b/\Q b
|_=>False
def Dk(Y:List G)(g:Nat)(x:V)(H:Hp)(Q:Bool->Prop):Prop:=match Y[g]? with
|some (.pe Cs _)=>match x with
 |.non=>Q false
 |.ref e=>Px H e fun C _=>C∈Cs/\Q true
 |_=>False
|_=>False
def Gv(Y:List G)(g:Nat)(f:Str)(x:V)(H:Hp)(Q:VK):Prop:=match Y[g]? with
|some (.pe Cs as)=>match x with
 |.ref e=>Px H e fun C fs=>(C∈Cs/\f∈as)/\∃v,fs.lookup f=some v/\Q v H
 |_=>False
|_=>False
noncomputable def m9(ss:List Str):List Str:=ss.foldl jx []
def SE(x:V)(H:Hp)(Q:VK):Prop:=∃b ss,x=.ref b/\Rd H b (.lst (ss.map V.str))/\ss.length<4000/\Q (.int (m9 ss).length) H
mutual
def wE(K:PySem.W.Frag)(Y:List G)(E:XK):CE->TE
|.var i=>fun O H Q=>mh O i fun v=>Q v H
|.con v=>fun _ H Q=>Q v H
|.glo g=>fun _ H Q=>match Y[g]? with
 |some (.val v)=>Q v H
 |some (.tup a _)=>Q (.ref a) H
 |_=>False
|.bin op a b=>fun O H Q=>wE K Y E a O H fun x H1=>wE K Y E b O H1 fun y H2=>Pu K op x y H2 Q
|.nset a=>fun O H Q=>wE K Y E a O H fun x H1=>SE x H1 Q
|.neg a=>fun O H Q=>wE K Y E a O H fun x H1=>match x with
 |.int i=>Q (.int (-i)) H1
 |_=>False
|.not a=>fun O H Q=>wE K Y E a O H fun x H1=>j6 K x H1 fun b=>Q (.bl (!b)) H1
|.and a b=>fun O H Q=>wE K Y E a O H fun x H1=>match x with
 |.bl c=>if c=true then wE K Y E b O H1 Q else Q (.bl false) H1
 |_=>False
|.or a b=>fun O H Q=>wE K Y E a O H fun x H1=>match x with
 |.bl c=>if c=true then Q (.bl true) H1 else wE K Y E b O H1 Q
 |_=>False
|.ite c a b=>fun O H Q=>wT K Y E c O H fun k H1=>if k=true then wE K Y E a O H1 Q else wE K Y E b O H1 Q
|.cmp op a b=>fun O H Q=>wE K Y E a O H fun x H1=>wE K Y E b O H1 fun y H2=>nD K op x y H2 Q
|.chain o1 o2 a b c=>fun O H Q=>wE K Y E a O H fun x H1=>wE K Y E b O H1 fun y H2=>nD K o1 x y H2 fun z H3=>match z with
 |.bl k=>if k=true then wE K Y E c O H3 fun u H4=>nD K o2 y u H4 Q else Q (.bl false) H3
 |_=>False
|.call g as=>fun O H Q=>match Y[g]? with
 |some (.fn sp dvs)=>wEs K Y E as O H fun vs H1=>sp (vs++dvs) H1 Q E
 |_=>False
|.blt f as=>fun O H Q=>wEs K Y E as O H fun vs H1=>AY K f vs H1 Q
|.mth m o as=>fun O H Q=>wE K Y E o O H fun x H1=>tT m x H1/\wEs K Y E as O H1 fun vs H2=>xU K m x vs H2 Q
|.ix a b=>fun O H Q=>wE K Y E a O H fun x H1=>wE K Y E b O H1 fun y H2=>Gs K x y H2 Q
|.sl a lo hi=>fun O H Q=>wE K Y E a O H fun x H1=>wO K Y E lo O H1 fun l H2=>wO K Y E hi O H2 fun h H3=>Sz K x l h H3 Q
|.lst as=>fun O H Q=>wEs K Y E as O H fun vs H1=>vs.length<=aa/\∀p,H1 p=none->Q (.ref p) (upd H1 p (.lst vs))
|.tup as=>fun O H Q=>wEs K Y E as O H fun vs H1=>vs.length<=aa/\∀p,H1 p=none->Q (.ref p) (upd H1 p (.tup vs))
|.comp nl fr elt tg src cond=>fun O H Q=>wI K Y E src O H fun ok items H1=>
  rB ok (wG K Y E0 tg) (wC K Y E0 cond) (wE K Y E0 elt) (fun vs H2=>∀p,H2 p=none->Q (.ref p) (upd H2 p (.lst vs))) items [] (nl.map (fun _=>none)++fr.map (fun i=>O.getD i none)) H1
|.isx _ gs a=>fun O H Q=>wE K Y E a O H fun x H1=>Gu Y gs x H1 fun b=>Q (.bl b) H1
|.isv g a=>fun O H Q=>wE K Y E a O H fun x H1=>Dk Y g x H1 fun b=>Q (.bl b) H1
|.att g a f=>fun O H Q=>wE K Y E a O H fun x H1=>Gv Y g f x H1 Q
|.slp a lo hi k=>fun O H Q=>wE K Y E a O H fun x H1=>wO K Y E lo O H1 fun l H2=>wO K Y E hi O H2 fun h H3=>Pw K x l h k H3 Q
def wT(K:PySem.W.Frag)(Y:List G)(E:XK):CE->TT
|.not a=>fun O H Q=>wT K Y E a O H fun b H1=>Q (!b) H1
|.and a b=>fun O H Q=>wT K Y E a O H fun c H1=>if c=true then wT K Y E b O H1 Q else Q false H1
|.or a b=>fun O H Q=>wT K Y E a O H fun c H1=>if c=true then Q true H1 else wT K Y E b O H1 Q
|.ite c a b=>fun O H Q=>wT K Y E c O H fun k H1=>if k=true then wT K Y E a O H1 Q else wT K Y E b O H1 Q
|.cmp op a b=>fun O H Q=>wE K Y E a O H fun x H1=>wE K Y E b O H1 fun y H2=>nD K op x y H2 fun z H3=>match z with
 |.bl k=>Q k H3
 |_=>False
|.chain o1 o2 a b c=>fun O H Q=>wE K Y E a O H fun x H1=>wE K Y E b O H1 fun y H2=>nD K o1 x y H2 fun z H3=>match z with
 |.bl k=>if k=true then wE K Y E c O H3 fun u H4=>nD K o2 y u H4 fun z H5=>match z with
  |.bl k=>Q k H5
  |_=>False
  else Q false H3
 |_=>False
|.var i=>fun O H Q=>mh O i fun v=>j6 K v H fun b=>Q b H
|.ix a b=>fun O H Q=>wE K Y E a O H fun x H1=>wE K Y E b O H1 fun y H2=>Gs K x y H2 fun v H3=>j6 K v H3 fun b=>Q b H3
|.call g as=>fun O H Q=>match Y[g]? with
 |some (.fn sp dvs)=>wEs K Y E as O H fun vs H1=>sp (vs++dvs) H1 (fun x H2=>j6 K x H2 fun b=>Q b H2) E
 |_=>False
|.blt f as=>fun O H Q=>wEs K Y E as O H fun vs H1=>AY K f vs H1 fun x H2=>j6 K x H2 fun b=>Q b H2
|.mth m o as=>fun O H Q=>wE K Y E o O H fun x H1=>tT m x H1/\wEs K Y E as O H1 fun vs H2=>xU K m x vs H2 fun y H3=>j6 K y H3 fun b=>Q b H3
|.isx _ gs a=>fun O H Q=>wE K Y E a O H fun x H1=>Gu Y gs x H1 fun b=>j6 K (.bl b) H1 fun b=>Q b H1
|.isv g a=>fun O H Q=>wE K Y E a O H fun x H1=>Dk Y g x H1 fun b=>j6 K (.bl b) H1 fun b=>Q b H1
|_=>fun _ _ _=>False
def wEs(K:PySem.W.Frag)(Y:List G)(E:XK):iP->TA
|.nil=>fun _ H Q=>Q [] H
|.cons a r=>fun O H Q=>wE K Y E a O H fun x H1=>wEs K Y E r O H1 fun xs H2=>Q (x::xs) H2
def wO(K:PySem.W.Frag)(Y:List G)(E:XK):CO->St->Hp->(Option Int->Hp->Prop)->Prop
|.none=>fun _ H Q=>Q none H
|.some a=>fun O H Q=>wE K Y E a O H fun x H1=>match x with
 |.int i=>Q (some i) H1
 |_=>False
def wC(K:PySem.W.Frag)(Y:List G)(E:XK):CO->TT
|.none=>fun _ H Q=>Q true H
|.some a=>wT K Y E a
def wG(K:PySem.W.Frag)(Y:List G)(E:XK):CG->TG
|.name i=>fun v O H Q=>Q (O.set i (some v)) H
|.tup gs=>fun v O H Q=>match v with
 |.ref a=>uC K H a fun t xs=>t=true/\xs.length=gs.len/\JB K Y E gs xs O H Q
 |_=>False
|.sub o i=>fun v O H Q=>wE K Y E o O H fun x H1=>wE K Y E i O H1 fun y H2=>match x with
 |.ref a=>match H2 a with
  |some (.lst xs)=>∃k j,y=.int k/\iF xs.length k=some j/\Q O (upd H2 a (.lst (xs.set j v)))
  |some (.dK kvs)=>∃k,y=kV k/\kvs.length<aa/\Q O (upd H2 a (.dK (putK kvs k v)))
  |some (.dT kvs)=>∃k b,y=.ref b/\H2 b=some (.tup (k.map kV))/\kvs.length<aa/\Q O (upd H2 a (.dT (putK kvs k v)))
  |_=>False
 |_=>False
def JB(K:PySem.W.Frag)(Y:List G)(E:XK):qB->Ah
|.nil=>fun vs O H Q=>match vs with
 |[]=>Q O H
 |_=>False
|.cons g r=>fun vs O H Q=>match vs with
 |v::vr=>wG K Y E g v O H fun σ' H'=>JB K Y E r vr σ' H' Q
 |_=>False
def wI(K:PySem.W.Frag)(Y:List G)(E:XK):CI->SD
|.seq a=>fun O H k=>wE K Y E a O H fun x H1=>Dj K x H1 k
|.range as=>fun O H k=>wEs K Y E as O H fun vs H1=>xV vs H1 k
|.zip as=>fun O H k=>wEs K Y E as O H fun vs H1=>KR vs H1 k
|.enum a=>fun O H k=>wE K Y E a O H fun x H1=>match x with
 |.ref b=>∃xs,Rd H1 b (.lst xs)/\k (fun H'=>Rd H' b (.lst xs)) (m6 0 xs) H1
 |_=>False
end
def wB(K:PySem.W.Frag)(Y:List G):CB->XK->St->Hp->(Hp->Prop)->Prop
|.call g as=>fun E O H nx=>match Y[g]? with
 |some (.fn sp dvs)=>wEs K Y E0 as O H fun vs H1=>sp (vs++dvs) H1 (fun _ H2=>nx H2) E
 |_=>False
|.ite c a b=>fun E O H nx=>wT K Y E0 c O H fun k H1=>if k=true then wB K Y a E O H1 nx else wB K Y b E O H1 nx
mutual
def wS(K:PySem.W.Frag)(Y:List G)(E:XK):CS->TS
|.expr e=>fun D O H=>wE K Y E e O H fun _ H1=>D.nx O H1
|.asg g e=>fun D O H=>wE K Y E e O H fun x H1=>wG K Y E g x O H1 D.nx
|.casg i e=>fun D O H=>wE K Y E e O H fun x H1=>D.nx (O.set i (some x)) H1
|.aug i e=>L2.VJ i (wE K Y E e) (L2.Y_ fun i j=>i+j)
|.tasg g e=>fun D O H=>wE K Y E e O H fun x H1=>wG K Y E g x O H1 D.nx
|.ret e=>fun D O H=>wE K Y E e O H D.rt
|.ifs c a b=>fun D O H=>wT K Y E c O H fun k H1=>if k=true then wSs K Y E a D O H1 else wSs K Y E b D O H1
|.whil c b=>fun D O H=>∃W:Nat->St->Hp->Prop,(∃m,W m O H)/\∀m O H,W m O H->
  wT K Y E c O H fun k H1=>if k=true then ∃N:St->Hp->Prop,(∀σ' H',N σ' H'->∃m',m'<m/\W m' σ' H')/\wSs K Y E b { D with nx:=N,ct:=N,bk:=D.nx } O H1 else D.nx O H1
|.forr g src b=>fun D O H=>wI K Y E src O H fun ok items H1=>forL ok (wG K Y E g) (wSs K Y E b) D items O H1
|.brk=>fun D O H=>D.bk O H
|.cont=>fun D O H=>D.ct O H
|.never=>fun _ _ _=>False
|.rais g as=>fun D O H=>match Y[g]? with
 |some (.cls C fs n)=>xT C fs n (wEs K Y E as) E D O H
 |_=>False
|.tri i g b h=>fun D O H=>match Y[g]? with
 |some (.exb B _)=>Gr K i B (wB K Y b) (wSs K (Y.map G.hand) E0 h) D O H
 |_=>False
def wSs(K:PySem.W.Frag)(Y:List G)(E:XK):cC->TS
|.nil=>fun D O H=>D.nx O H
|.cons s r=>fun D O H=>wS K Y E s { D with nx:=wSs K Y E r D } O H
|.two s t r=>fun D O H=>wS K Y E s { D with nx:=wS K Y E t { D with nx:=wSs K Y E r D } } O H
end
end L3
end
section
namespace L3
open PySem PySem.Spec PyProof.Rows L2
variable{K:PySem.W.Frag}{H:Hp}{a:Addr}{xs:List V}
theorem gq.sq{t:Bool}(h:gq K H a t xs):(t=false/\gO K H a xs)\/(t=true/\qS K H a xs):=by
 rcases h with h|⟨o,its,n,hk,hc,hd,hs,hz,r⟩
 ·unfold Di at h;split at h<;>first|(cases h)|skip
  ·exact .inl ⟨rfl,.inl (.inl (by assumption))⟩
  ·exact .inr ⟨rfl,.inl (.inl (by assumption))⟩
  ·exact .inl ⟨rfl,.inl (.inr ⟨_,by assumption⟩)⟩
  ·exact .inr ⟨rfl,.inl (.inr ⟨_,by assumption⟩)⟩
 ·cases t with
  |false=>exact .inl ⟨rfl,.inr ⟨o,its,n,hk,hc,hd,hs,hz,r⟩⟩
  |true=>exact .inr ⟨rfl,.inr ⟨o,its,n,hk,hc,hs,hz,r⟩⟩
theorem gq.qU(h:gq K H a true xs):qS K H a xs:=by
 rcases h.sq with⟨z,_⟩|⟨_,z⟩
 ·cases z
 ·exact z
theorem gq.JC(h:gq K H a false xs):gO K H a xs:=by
 rcases h.sq with⟨_,z⟩|⟨z,_⟩
 ·exact z
 ·cases z
variable{pins:List (Addr×Obj)}{O:L2.St}{s:aj}
variable{A:dF}
variable{b:Addr}{its its2:List Value}{ds es:List D}
variable{h:Heap}
variable{dx:D}
section
variable{X:Cx}
theorem toList_replicate(j:Nat)(x:Str):(⟨(aO j x.cps).foldl (·++·) #[]⟩:Str)=⟨(aO j x.cps.toList).flatten.toArray⟩:=by
 have h:∀(j:Nat) (acc:Array Nat),((aO j x.cps).foldl (·++·) acc)=acc++(aO j x.cps.toList).flatten.toArray:=by
  intro j;induction j with
  |zero=>intro acc;simp
  |succ j ih=>
   intro acc;rw[b_,CU,ih,b_,dc];apply Array.ext';simp
 rw[h];simp
theorem KS:jv X (gz .Mult) (fun x y H Q=>∃i j,x=.str i/\y=.int j/\(0<=j/\j<2 ^ 40/\i.length*j.toNat<=aa)/\Q (.str ⟨(aO j.toNat i.cps.toList).flatten.toArray⟩) H):=by
 intro pins s O H x y v u Q I rx ry h;obtain⟨i,j,rfl,rfl,⟨h0,h1,h2⟩,q⟩:=h;obtain⟨t,rfl⟩:=rx;obtain⟨t',rfl⟩:=ry;have hs:aa=16777216:=eE;refine SB.mul ⟨?_,fun hn hc=>?_,fun hn hc=>?_⟩ fun t' k=>⟨.str (Kw i j),H,I.tok _,⟨_,rfl⟩,?_⟩
 ·have e1:decide (j < -(2 ^ 63:Int))=false:=decide_eq_false (by omega);have e2:decide (j≥2 ^ 63)=false:=decide_eq_false (by omega);rw[e1,e2];rfl
 ·have hj:0<j:=by omega
  intro hgt;have h3:(2 ^ 63-1) / j<(i.length:Int):=hgt;have h4:(2 ^ 63-1:Int)<(i.length:Int)*j:=(Int.ediv_lt_iff_lt_mul hj).mp h3;have h5:((i.length*j.toNat:Nat):Int)=(i.length:Int)*j:=by
   rw[Int.natCast_mul,xF h0]
  omega
 ·unfold Mb;simp only[decide_eq_false_iff_not];omega
 ·have e:Kw i j=⟨(aO j.toNat i.cps.toList).flatten.toArray⟩:=by
   unfold Kw;by_cases h3:j<1
   ·have:j.toNat=0:=by omega
    rw[if_pos h3,this];rfl
   ·rw[if_neg h3];by_cases h4:(j==1||i.length==0)=true
    ·rw[if_pos h4];rw[uo]at h4;rcases h4 with h4|h4
     ·have:j=1:=by simpa using h4
      subst this;simp
     ·have h5:i.length=0:=by simpa using h4
      have h6:i.cps.toList=[]:=by
       apply gK;simpa[f9]using h5
      rw[h6];cases i with
      |mk c=>
       simp at h6;subst h6;simp
    ·rw[if_neg h4,toList_replicate]
  rw[e];exact q
theorem Inv.Wl{l:Addr}(I:L2.Inv X pins O H s)(hH:Rd H l (.lst xs)):xs.length<=aa/\∃(its:List Value) (n:Nat),bE xs its/\xs.length=its.length/\s.heap.get? l=some { cls:=.type "list",data:=.seq its.toArray n }:=by
 obtain⟨z,its,n,r,e⟩:=hH.ok I.hok;exact⟨z,its,n,r,r.length,e⟩
theorem op_cat':jv X (gz .Add) (fun x y H Q=>∃l b xs zs,x=.ref l/\y=.ref b/\Rd H l (.lst xs)/\Rd H b (.lst zs)/\xs.length+zs.length<=aa/\∀p,H p=none->Q (.ref p) (upd H p (.lst (xs++zs)))):=by
 intro pins s O H x y v u Q I rx ry h;obtain⟨l,b,xs,zs,rfl,rfl,hH,hB,hz,q⟩:=h;cases rx;cases ry;obtain⟨z,its,n,r,hl,e⟩:=Inv.Wl I hH;obtain⟨z2,its2,n2,r2,hl2,e2⟩:=Inv.Wl I hB;refine PySem.P.add_list e e2 ?_ (by rw[aZ,aZ];omega);have ea:its.toArray++its2.toArray=(its++its2).toArray:=by simp
 rw[ea];exact⟨.ref _,_,I.KN (t':=s.toks) (r.append r2) (by rw[ak];omega),rfl,q _ I.fresh⟩
theorem op_rep':jv X (gz .Mult) (fun x y H Q=>∃l k xs,x=.ref l/\y=.int k/\Rd H l (.lst xs)/\-(2 ^ 63)<=k/\k<2 ^ 63/\xs.length*k.toNat<=aa/\∀p,H p=none->Q (.ref p) (upd H p (.lst (aO k.toNat xs).flatten))):=by
 intro pins s O H x y v u Q I rx ry h;obtain⟨l,k,xs,rfl,rfl,hH,h1,h2,hz,q⟩:=h;cases rx;obtain⟨t,rfl⟩:=ry;obtain⟨z,its,n,r,hl,e⟩:=Inv.Wl I hH;have hlen:its.toArray.size*k.toNat<=aa:=by rw[aZ,<-hl];exact hz
 have hcap:¬its.toArray.size*k.toNat>(2 ^ 63-1) / 8:=by
  have:(aa:Nat)<=(2 ^ 63-1) / 8:=by decide
  omega
 have hfit:¬(!Fy k)=true:=by
  rw[fitsIndex_both h1 h2];exact aK
 have hlong:¬lU (its.toArray.size*k.toNat)=true:=by
  rw[Pk hlen];exact aK
 have hnew:CT (fun x1 x2=>x1++x2) #[] (aO (if its.toArray.isEmpty=true then 0 else k.toNat) its.toArray)=(aO k.toNat its).flatten.toArray:=by
  have f0:∀m:Nat,CT (fun x1 x2=>x1++x2) #[] (aO m its.toArray)=(aO m its).flatten.toArray:=fun m=>by
   have:=foldl_rep its m [];rw[lu]at this;exact this
  rw[f0];cases its with
  |nil=>simp
  |cons a r'=>rw[if_neg (by simp)]
 refine wpAny_binaryOp_repeat_ref (T:="list") (U:="int") (by decide) ⟨_,e,rfl⟩ (fun s'=>CQ s' k t) noFill_list_mul F.fills_int_mul F.slot_int_rmul repeat_list F.slot_int_index.lookup
  (ic F.slot_int_rmul (CQ s k t) F.entry_int_rmul (F.args_int_rmul_2 _ _) (int___rmul___int_list k t l its.toArray n)
   ⟨e,rfl,⟨_,e,rfl⟩,ic F.slot_list_mul ⟨_,e,rfl⟩ F.entry_list_mul (F.args_list_mul_2 _ _) (AO l its.toArray n k t hfit hcap hlong) ⟨e,?_⟩⟩)
 rw[hnew];exact⟨.ref _,_,I.KN (t':=s.toks) (r.rep k.toNat) (by rw[len_rep,IB];exact hz),rfl,q _ I.fresh⟩
theorem Yi(op:kK):jv X (gz op) (Pu X.K op):=by
 intro pins s O H x y v u Q I rx ry h;cases op<;>first|(cases x<;>first|exact ay h|(cases y<;>exact ay h))|skip
 case Add=>
  cases x<;>first|exact ay h|(cases y<;>first|exact ay h|skip)
  ·exact VS pins s O H _ _ v u Q I rx ry ⟨_,_,rfl,rfl,h⟩
  ·exact KG pins s O H _ _ v u Q I rx ry ⟨_,_,rfl,rfl,h⟩
  ·rcases h with⟨xs,ys,h1,h2,h3,h4⟩|⟨xs,ys,h1,h2,h3,h4,h5,h6⟩
   ·exact op_cat' pins s O H _ _ v u Q I rx ry ⟨_,_,xs,ys,rfl,rfl,h1,h2,h3,h4⟩
   ·have t1:=h1.qU;have t2:=h2.qU;exact TZ pins s O H _ _ v u Q I rx ry ⟨_,_,xs,ys,rfl,rfl,t1,t2,h3,h5,fun z=>absurd z h4,fun _=>h6⟩
 case Sub=>
  cases x<;>first|exact ay h|(cases y<;>first|exact ay h|skip)
  ·exact VT pins s O H _ _ v u Q I rx ry ⟨_,_,rfl,rfl,h⟩
 case Mult=>
  cases x<;>first|exact ay h|(cases y<;>first|exact ay h|skip)
  ·exact VU pins s O H _ _ v u Q I rx ry ⟨_,_,rfl,rfl,h⟩
  ·exact KS pins s O H _ _ v u Q I rx ry ⟨_,_,rfl,rfl,h⟩
  ·obtain⟨xs,h1,⟨h2,h3⟩,h4,h5⟩:=h;exact op_rep' pins s O H _ _ v u Q I rx ry ⟨_,_,xs,rfl,rfl,h1,h2,h3,h4,h5⟩
 case FloorDiv=>
  cases x<;>first|exact ay h|(cases y<;>first|exact ay h|skip)
  ·exact TM pins s O H _ _ v u Q I rx ry ⟨_,_,rfl,rfl,h⟩
 case Mod=>
  cases x<;>first|exact ay h|(cases y<;>first|exact ay h|skip)
  ·exact VV pins s O H _ _ v u Q I rx ry ⟨_,_,rfl,rfl,h⟩
 case RShift=>
  cases x<;>first|exact ay h|(cases y<;>first|exact ay h|skip)
  ·exact VX pins s O H _ _ v u Q I rx ry ⟨_,_,rfl,rfl,h⟩
 case Pow=>
  cases x<;>first|exact ay h|(cases y<;>first|exact ay h|skip)
  ·exact VW pins s O H _ _ v u Q I rx ry ⟨_,_,rfl,rfl,h⟩
theorem MC:jv X (gh .LtE) (fun x y H Q=>∃i j,x=.str i/\y=.str j/\Q (.bl (!decide (j.cps.toList<i.cps.toList))) H):=by
 intro pins s O H x y v u Q I rx ry h;obtain⟨i,j,rfl,rfl,q⟩:=h;obtain⟨t,rfl⟩:=rx;obtain⟨t',rfl⟩:=ry;exact PySem.P.le_str (BE I q rfl)
section
open PySem.SeqAt
variable{pins:List (Addr×Obj)}{O:L2.St}{H:Hp}{s:aj}
theorem aE.len':∀{ds:List D}{vs:List V},aE K H ds vs->vs.length=ds.length
|[],_,h=>by cases h;rfl
|d::ds,_,h=>by
 obtain⟨v,r,rfl,_,h3⟩:=h;simp[aE.len' h3]
theorem Rd.qK(h:Rd H a (.lst xs)):gO K H a xs:=.inl h
mutual
theorem Dl(I:L2.Inv X pins O H s):∀(dx dy:D) (v:V) (n m:Nat),mK dx n=true->mK dy m=true->aU X.K H dx v->aU X.K H dy v->jC dx dy=true
|.non,dy,v,n,m,hn,hm,r,q=>by
 cases r;cases dy with
 |non=>rfl
 |str z=>cases q.1
 |lst o es=>obtain⟨a,vs,z,_⟩:=q;cases z
 |tup es=>obtain⟨a,vs,z,_⟩:=q;cases z
 |cst es=>cases hm
 |exc C ks es=>cases hm
 |_=>cases q
|.bl b,dy,v,n,m,hn,hm,r,q=>by
 cases r;cases dy with
 |bl c=>cases q;simp[jC]
 |str z=>cases q.1
 |lst o es=>obtain⟨a,vs,z,_⟩:=q;cases z
 |tup es=>obtain⟨a,vs,z,_⟩:=q;cases z
 |cst es=>cases hm
 |exc C ks es=>cases hm
 |_=>cases q
|.int b,dy,v,n,m,hn,hm,r,q=>by
 cases r;cases dy with
 |int c=>cases q;simp[jC]
 |str z=>cases q.1
 |lst o es=>obtain⟨a,vs,z,_⟩:=q;cases z
 |tup es=>obtain⟨a,vs,z,_⟩:=q;cases z
 |cst es=>cases hm
 |exc C ks es=>cases hm
 |_=>cases q
|.str b,dy,v,n,m,hn,hm,r,q=>by
 obtain⟨rfl,_⟩:=r;cases dy with
 |str c=>cases q.1;simp[jC]
 |lst o es=>obtain⟨a,vs,z,_⟩:=q;cases z
 |tup es=>obtain⟨a,vs,z,_⟩:=q;cases z
 |cst es=>cases hm
 |exc C ks es=>cases hm
 |_=>cases q
|.lst o ds,dy,v,n,m,hn,hm,r,q=>by
 obtain⟨a,vs,rfl,h2,h3,h4⟩:=r;cases n with
 |zero=>cases hn
 |succ n=>
 cases dy with
 |lst o' es=>
  obtain⟨a',us,e,k2,k3,k4⟩:=q;cases e;cases m with
  |zero=>cases hm
  |succ m=>
  have e:=I.sC (Rd.qK h2) (Rd.qK k2);subst e;exact AZ I ds es vs n m hn hm h4 k4
 |tup es=>
  obtain⟨a',us,e,k2,k3,k4⟩:=q;cases e;obtain⟨its,_,⟨o1,n1,e1,c1,_⟩,_⟩:=I.list (Rd.qK h2);obtain⟨its2,_,⟨o2,e2,c2,_⟩,_⟩:=I.tuple (tupS k2).qU;rw[e1]at e2;cases e2;rw[c1]at c2;exact absurd c2 (by decide)
 |str z=>cases q.1
 |cst es=>cases hm
 |exc C ks es=>cases hm
 |_=>cases q
|.tup ds,dy,v,n,m,hn,hm,r,q=>by
 obtain⟨a,vs,rfl,h2,h3,h4⟩:=r;cases n with
 |zero=>cases hn
 |succ n=>
 cases dy with
 |tup es=>
  obtain⟨a',us,e,k2,k3,k4⟩:=q;cases e;cases m with
  |zero=>cases hm
  |succ m=>
  have e:=I.D3 (tupS h2).qU (tupS k2).qU;subst e;exact AZ I ds es vs n m hn hm h4 k4
 |lst o es=>
  obtain⟨a',us,e,k2,k3,k4⟩:=q;cases e;obtain⟨its,_,⟨o1,n1,e1,c1,_⟩,_⟩:=I.list (Rd.qK k2);obtain⟨its2,_,⟨o2,e2,c2,_⟩,_⟩:=I.tuple (tupS h2).qU;rw[e1]at e2;cases e2;rw[c1]at c2;exact absurd c2 (by decide)
 |str z=>cases q.1
 |cst es=>cases hm
 |exc C ks es=>cases hm
 |_=>cases q
|.cst _,dy,v,n,m,hn,hm,r,q=>by cases hn
|.exc _ _ _,dy,v,n,m,hn,hm,r,q=>by cases hn
theorem AZ(I:L2.Inv X pins O H s):∀(ds es:List D) (vs:List V) (n m:Nat),fP ds n=true->fP es m=true->aE X.K H ds vs->aE X.K H es vs->n6 ds es=true
|[],es,vs,n,m,hn,hm,r,q=>by
 cases r;cases es with
 |nil=>rfl
 |cons e es=>obtain⟨_,_,z,_⟩:=q;cases z
|d::ds,es,vs,n,m,hn,hm,r,q=>by
 obtain⟨v,r',rfl,r1,r2⟩:=r;cases es with
 |nil=>cases q
 |cons e es=>
  obtain⟨w,q',z,q1,q2⟩:=q;cases z;have hn':mK d n=true/\fP ds n=true:=by simpa[fP]using hn
  have hm':mK e m=true/\fP es m=true:=by simpa[fP]using hm
  show(jC d e&&n6 ds es)=true;rw[Dl I d e v n m hn'.1 hm'.1 r1 q1,AZ I ds es r' n m hn'.2 hm'.2 r2 q2];rfl
end
structure Eqs (A:dF) (s:aj) (v u:Value) (b:Bool):Prop where
 eq:EqAt A s v u b
 rc:RcAt A s v u b
 ne:RcNeAt A s v u (!b)
def pF(A:dF)(s:aj):List D->List D->List Value->List Value->Prop
|d::ds,e::es,v::vs,u::us=>EqAt A s v u (jC d e)/\pF A s ds es vs us
|_,_,_,_=>True
theorem pF.get:∀{ds es:List D}{vs us:List Value} (j:Nat) {d e:D}{v u:Value},pF A s ds es vs us->ds[j]?=some d->es[j]?=some e->vs[j]?=some v->us[j]?=some u->EqAt A s v u (jC d e)
|d::ds,e::es,v::vs,u::us,0,_,_,_,_,h,a,b,c,f=>by
 simp at a b c f;subst a b c f;exact h.1
|d::ds,e::es,v::vs,u::us,j+1,_,_,_,_,h,a,b,c,f=>pF.get j h.2 (by simpa using a) (by simpa using b) (by simpa using c) (by simpa using f)
|[],_,_,_,j,_,_,_,_,_,a,_,_,_=>by simp at a
|_::_,[],_,_,j,_,_,_,_,_,_,b,_,_=>by simp at b
|_::_,_::_,[],_,j,_,_,_,_,_,_,_,c,_=>by simp at c
|_::_,_::_,_::_,[],j,_,_,_,_,_,_,_,_,f=>by simp at f
noncomputable def eqAt'(ds es:List D)(j:Nat):Bool:=match ds[j]?,es[j]? with
|some d,some e=>jC d e
|_,_=>true
theorem A0:∀(ds es:List D),ds.length=es.length->(bS ds.length).all (eqAt' ds es)=n6 ds es
|[],[],_=>rfl
|d::ds,e::es,h=>by
 have ih:=A0 ds es (by simpa using h);rw[aC,mY,qR,lZ];show(jC d e&&(bS ds.length).all (eqAt' (d::ds) (e::es)∘Nat.succ))=(jC d e&&n6 ds es);rw[<-ih];congr 1
|[],_::_,h=>by simp at h
|_::_,[],h=>by simp at h
theorem A1:∀(ds es:List D),ds.length≠es.length->n6 ds es=false
|[],[],h=>absurd rfl h
|[],_::_,_=>rfl
|_::_,[],_=>rfl
|d::ds,e::es,h=>by
 show(jC d e&&n6 ds es)=false;rw[A1 ds es (fun z=>h (by simp[z]))];simp
theorem MD(hl:s.heap.IsList a its.toArray)(hb:s.heap.IsList b its2.toArray)(l1:its.length=ds.length)(l2:its2.length=es.length)(hu:A.units<dS)(he:pF A.in1 s ds es its its2) :
  RcAt A s (.ref a) (.ref b) (n6 ds es)/\RcNeAt A s (.ref a) (.ref b) (!n6 ds es):=by
 by_cases hz:ds.length=es.length
 ·have hsz:its.toArray.size=its2.toArray.size:=by simp;omega
  have he':∀j (h1:j<its.toArray.size) (h2:j<its2.toArray.size),EqAt A.in1 s its.toArray[j] its2.toArray[j] (eqAt' ds es j):=by
   intro j h1 h2;have g1:j<its.length:=by simpa using h1
   have g2:j<its2.length:=by simpa using h2
   have e1:=aA (l:=ds) (i:=j) (by omega);have e2:=aA (l:=es) (i:=j) (by omega);have:=he.get j e1 e2 (aA g1) (aA g2);unfold eqAt';rw[e1,e2];simpa using this
  have r1:=RcAt.lists hl hb hsz hu he';have r2:=RcNeAt.lists hl hb hsz hu he';have ez:its.toArray.size=ds.length:=by simp;omega
  rw[ez,A0 ds es hz]at r1 r2;exact⟨r1,r2⟩
 ·have hsz:(its.toArray.size != its2.toArray.size)=true:=by simp;omega
  rw[A1 ds es hz];exact⟨RcAt.lists_lengths hl hb hsz hu,RcNeAt.lists_lengths hl hb hsz hu⟩
theorem KU(hl:s.heap.IsTuple a its.toArray)(hb:s.heap.IsTuple b its2.toArray)(l1:its.length=ds.length)(l2:its2.length=es.length)(hu:A.units<dS)(he:pF A.in1 s ds es its its2) :
  RcAt A s (.ref a) (.ref b) (n6 ds es)/\RcNeAt A s (.ref a) (.ref b) (!n6 ds es):=by
 have he':∀j (h1:j<its.toArray.size) (h2:j<its2.toArray.size),EqAt A.in1 s its.toArray[j] its2.toArray[j] (eqAt' ds es j):=by
  intro j h1 h2;have g1:j<its.length:=by simpa using h1
  have g2:j<its2.length:=by simpa using h2
  have e1:=aA (l:=ds) (i:=j) (by omega);have e2:=aA (l:=es) (i:=j) (by omega);have:=he.get j e1 e2 (aA g1) (aA g2);unfold eqAt';rw[e1,e2];simpa using this
 have r1:=RcAt.tuples hl hb hu he';have r2:=RcNeAt.tuples hl hb hu he';have key:((bS (min its.toArray.size its2.toArray.size)).all (eqAt' ds es)&&its.toArray.size==its2.toArray.size)=n6 ds es:=by
  by_cases hz:ds.length=es.length
  ·have e1:min its.toArray.size its2.toArray.size=ds.length:=by simp;omega
   have e2:(its.toArray.size==its2.toArray.size)=true:=by simp;omega
   rw[e1,e2,A0 ds es hz,Fz]
  ·have e2:(its.toArray.size==its2.toArray.size)=false:=by simp;omega
   rw[e2,gi,A1 ds es hz]
 rw[key]at r1 r2;exact⟨r1,r2⟩
theorem PlainL.is{its:Array Value}(p:PlainL h a its):h.IsList a its:=by
 obtain⟨o,n,e,c,_,d⟩:=p;exact⟨o,e,c,n,d⟩
theorem IsTup.is{its:Array Value}(p:IsTup h a its):h.IsTuple a its:=p
mutual
theorem FJ(I:L2.Inv X pins O H s):∀(dx dy:D) (n m:Nat) (x y:V) (v u:Value) (A:dF),mK dx n=true->mK dy m=true->aU X.K H dx x->L2.RelV x v->aU X.K H dy y->L2.RelV y u->A.units+n<dS->Eqs A s v u (jC dx dy)
|.non,dy,n,m,x,y,v,u,A,hn,hm,r,rv,q,qu,hu=>by
 have hu':A.units<dS:=by omega
 cases r;cases rv;cases dy with
 |non=>cases q;cases qu;exact⟨EqAt.same _,RcAt.none_none,RcNeAt.none_none⟩
 |bl b=>cases q;cases qu;exact⟨EqAt.none_bool b,RcAt.none_bool b,RcNeAt.none_bool b⟩
 |int i=>cases q;obtain⟨t,rfl⟩:=qu;exact⟨EqAt.none_int i t,RcAt.none_int i t,RcNeAt.none_int i t⟩
 |str z=>obtain⟨rfl,_⟩:=q;obtain⟨t,rfl⟩:=qu;exact⟨EqAt.none_str z t,RcAt.none_str z t,RcNeAt.none_str z t⟩
 |lst o es=>
  obtain⟨b,us,rfl,k2,k3,k4⟩:=q;cases qu;obtain⟨its,_,p,_⟩:=I.list (Rd.qK k2);exact⟨EqAt.none_list (PlainL.is p) hu',RcAt.none_list (PlainL.is p) hu',RcNeAt.none_list (PlainL.is p) hu'⟩
 |tup es=>
  obtain⟨b,us,rfl,k2,k3,k4⟩:=q;cases qu;obtain⟨its,_,p,_⟩:=I.tuple (tupS k2).qU;exact⟨EqAt.none_tuple (IsTup.is p) hu',RcAt.none_tuple (IsTup.is p) hu',RcNeAt.none_tuple (IsTup.is p) hu'⟩
 |cst _=>cases hm
 |exc _ _ _=>cases hm
|.bl a,dy,n,m,x,y,v,u,A,hn,hm,r,rv,q,qu,hu=>by
 have hu':A.units<dS:=by omega
 cases r;cases rv;cases dy with
 |non=>cases q;cases qu;exact⟨EqAt.bool_none a,RcAt.bool_none a,RcNeAt.bool_none a⟩
 |bl b=>cases q;cases qu;exact⟨EqAt.bool_bool a b,RcAt.bool_bool a b,RcNeAt.bool_bool a b⟩
 |int i=>cases q;obtain⟨t,rfl⟩:=qu;exact⟨EqAt.bool_int a i t,RcAt.bool_int a i t,RcNeAt.bool_int a i t⟩
 |str z=>obtain⟨rfl,_⟩:=q;obtain⟨t,rfl⟩:=qu;exact⟨EqAt.bool_str a z t,RcAt.bool_str a z t,RcNeAt.bool_str a z t⟩
 |lst o es=>
  obtain⟨b,us,rfl,k2,k3,k4⟩:=q;cases qu;obtain⟨its,_,p,_⟩:=I.list (Rd.qK k2);exact⟨EqAt.bool_list a (PlainL.is p) hu',RcAt.bool_list a (PlainL.is p) hu',RcNeAt.bool_list a (PlainL.is p) hu'⟩
 |tup es=>
  obtain⟨b,us,rfl,k2,k3,k4⟩:=q;cases qu;obtain⟨its,_,p,_⟩:=I.tuple (tupS k2).qU;exact⟨EqAt.bool_tuple a (IsTup.is p) hu',RcAt.bool_tuple a (IsTup.is p) hu',RcNeAt.bool_tuple a (IsTup.is p) hu'⟩
 |cst _=>cases hm
 |exc _ _ _=>cases hm
|.int a,dy,n,m,x,y,v,u,A,hn,hm,r,rv,q,qu,hu=>by
 have hu':A.units<dS:=by omega
 cases r;obtain⟨tt,rfl⟩:=rv;cases dy with
 |non=>cases q;cases qu;exact⟨EqAt.int_none a tt,RcAt.int_none a tt,RcNeAt.int_none a tt⟩
 |bl b=>cases q;cases qu;exact⟨EqAt.int_bool a tt b,RcAt.int_bool a tt b,RcNeAt.int_bool a tt b⟩
 |int i=>cases q;obtain⟨t,rfl⟩:=qu;exact⟨EqAt.int_int a tt i t,RcAt.int_int a tt i t,RcNeAt.int_int a tt i t⟩
 |str z=>obtain⟨rfl,_⟩:=q;obtain⟨t,rfl⟩:=qu;exact⟨EqAt.int_str a tt z t,RcAt.int_str a tt z t,RcNeAt.int_str a tt z t⟩
 |lst o es=>
  obtain⟨b,us,rfl,k2,k3,k4⟩:=q;cases qu;obtain⟨its,_,p,_⟩:=I.list (Rd.qK k2);exact⟨EqAt.int_list a tt (PlainL.is p) hu',RcAt.int_list a tt (PlainL.is p) hu',RcNeAt.int_list a tt (PlainL.is p) hu'⟩
 |tup es=>
  obtain⟨b,us,rfl,k2,k3,k4⟩:=q;cases qu;obtain⟨its,_,p,_⟩:=I.tuple (tupS k2).qU;exact⟨EqAt.int_tuple a tt (IsTup.is p) hu',RcAt.int_tuple a tt (IsTup.is p) hu',RcNeAt.int_tuple a tt (IsTup.is p) hu'⟩
 |cst _=>cases hm
 |exc _ _ _=>cases hm
|.str a,dy,n,m,x,y,v,u,A,hn,hm,r,rv,q,qu,hu=>by
 have hu':A.units<dS:=by omega
 obtain⟨rfl,_⟩:=r;obtain⟨tt,rfl⟩:=rv;cases dy with
 |non=>cases q;cases qu;exact⟨EqAt.str_none a tt,RcAt.str_none a tt,RcNeAt.str_none a tt⟩
 |bl b=>cases q;cases qu;exact⟨EqAt.str_bool a tt b,RcAt.str_bool a tt b,RcNeAt.str_bool a tt b⟩
 |int i=>cases q;obtain⟨t,rfl⟩:=qu;exact⟨EqAt.str_int a tt i t,RcAt.str_int a tt i t,RcNeAt.str_int a tt i t⟩
 |str z=>obtain⟨rfl,_⟩:=q;obtain⟨t,rfl⟩:=qu;exact⟨EqAt.str_str a tt z t,RcAt.str_str a tt z t,RcNeAt.str_str a tt z t⟩
 |lst o es=>
  obtain⟨b,us,rfl,k2,k3,k4⟩:=q;cases qu;obtain⟨its,_,p,_⟩:=I.list (Rd.qK k2);exact⟨EqAt.str_list a tt (PlainL.is p) hu',RcAt.str_list a tt (PlainL.is p) hu',RcNeAt.str_list a tt (PlainL.is p) hu'⟩
 |tup es=>
  obtain⟨b,us,rfl,k2,k3,k4⟩:=q;cases qu;obtain⟨its,_,p,_⟩:=I.tuple (tupS k2).qU;exact⟨EqAt.str_tuple a tt (IsTup.is p) hu',RcAt.str_tuple a tt (IsTup.is p) hu',RcNeAt.str_tuple a tt (IsTup.is p) hu'⟩
 |cst _=>cases hm
 |exc _ _ _=>cases hm
|.lst o ds,dy,n,m,x,y,v,u,A,hn,hm,r,rv,q,qu,hu=>by
 have hu':A.units<dS:=by omega
 have hr:=r;obtain⟨a,vs,rfl,h2,h3,h4⟩:=r;cases rv;obtain⟨its,rits,p,_⟩:=I.list (Rd.qK h2);have hn0:=hn;cases n with
 |zero=>cases hn
 |succ n=>
 cases dy with
 |non=>cases q;cases qu;exact⟨EqAt.list_none (PlainL.is p) hu',RcAt.list_none (PlainL.is p) hu',RcNeAt.list_none (PlainL.is p) hu'⟩
 |bl b=>cases q;cases qu;exact⟨EqAt.list_bool b (PlainL.is p) hu',RcAt.list_bool b (PlainL.is p) hu',RcNeAt.list_bool b (PlainL.is p) hu'⟩
 |int i=>cases q;obtain⟨t,rfl⟩:=qu;exact⟨EqAt.list_int i t (PlainL.is p) hu',RcAt.list_int i t (PlainL.is p) hu',RcNeAt.list_int i t (PlainL.is p) hu'⟩
 |str z=>obtain⟨rfl,_⟩:=q;obtain⟨t,rfl⟩:=qu;exact⟨EqAt.list_str z t (PlainL.is p) hu',RcAt.list_str z t (PlainL.is p) hu',RcNeAt.list_str z t (PlainL.is p) hu'⟩
 |lst o' es=>
  have hq:=q;obtain⟨b,us,rfl,k2,k3,k4⟩:=q;cases qu;obtain⟨its2,rits2,p2,_⟩:=I.list (Rd.qK k2);have hm0:=hm;cases m with
  |zero=>cases hm
  |succ m=>
  obtain⟨r1,r2⟩:=MD (A:=A) (ds:=ds) (es:=es) (PlainL.is p) (PlainL.is p2) (by rw[<-rits.length,aE.len' h4]) (by rw[<-rits2.length,aE.len' k4]) hu' (Gw I ds es n m vs us its its2 A.in1 hn hm h4 rits k4 rits2 (by show A.units+1+n<dS;omega));refine⟨?_,r1,r2⟩;by_cases e:a=b
  ·subst e;have z:=Dl I (.lst o ds) (.lst o' es) (.ref a) (n+1) (m+1) hn0 hm0 hr hq;rw[z];exact EqAt.same _
  ·exact EqAt.of_refs e r1
 |tup es=>
  obtain⟨b,us,rfl,k2,k3,k4⟩:=q;cases qu;obtain⟨its2,_,p2,_⟩:=I.tuple (tupS k2).qU;exact⟨EqAt.list_tuple (PlainL.is p) (IsTup.is p2) hu',RcAt.list_tuple (PlainL.is p) (IsTup.is p2) hu',RcNeAt.list_tuple (PlainL.is p) (IsTup.is p2) hu'⟩
 |cst _=>cases hm
 |exc _ _ _=>cases hm
|.tup ds,dy,n,m,x,y,v,u,A,hn,hm,r,rv,q,qu,hu=>by
 have hu':A.units<dS:=by omega
 have hr:=r;obtain⟨a,vs,rfl,h2,h3,h4⟩:=r;cases rv;obtain⟨its,rits,p,_⟩:=I.tuple (tupS h2).qU;have hn0:=hn;cases n with
 |zero=>cases hn
 |succ n=>
 cases dy with
 |non=>cases q;cases qu;exact⟨EqAt.tuple_none (IsTup.is p) hu',RcAt.tuple_none (IsTup.is p) hu',RcNeAt.tuple_none (IsTup.is p) hu'⟩
 |bl b=>cases q;cases qu;exact⟨EqAt.tuple_bool b (IsTup.is p) hu',RcAt.tuple_bool b (IsTup.is p) hu',RcNeAt.tuple_bool b (IsTup.is p) hu'⟩
 |int i=>cases q;obtain⟨t,rfl⟩:=qu;exact⟨EqAt.tuple_int i t (IsTup.is p) hu',RcAt.tuple_int i t (IsTup.is p) hu',RcNeAt.tuple_int i t (IsTup.is p) hu'⟩
 |str z=>obtain⟨rfl,_⟩:=q;obtain⟨t,rfl⟩:=qu;exact⟨EqAt.tuple_str z t (IsTup.is p) hu',RcAt.tuple_str z t (IsTup.is p) hu',RcNeAt.tuple_str z t (IsTup.is p) hu'⟩
 |tup es=>
  have hq:=q;obtain⟨b,us,rfl,k2,k3,k4⟩:=q;cases qu;obtain⟨its2,rits2,p2,_⟩:=I.tuple (tupS k2).qU;have hm0:=hm;cases m with
  |zero=>cases hm
  |succ m=>
  obtain⟨r1,r2⟩:=KU (A:=A) (ds:=ds) (es:=es) (IsTup.is p) (IsTup.is p2) (by rw[<-rits.length,aE.len' h4]) (by rw[<-rits2.length,aE.len' k4]) hu' (Gw I ds es n m vs us its its2 A.in1 hn hm h4 rits k4 rits2 (by show A.units+1+n<dS;omega));refine⟨?_,r1,r2⟩;by_cases e:a=b
  ·subst e;have z:=Dl I (.tup ds) (.tup es) (.ref a) (n+1) (m+1) hn0 hm0 hr hq;rw[z];exact EqAt.same _
  ·exact EqAt.of_refs e r1
 |lst o es=>
  obtain⟨b,us,rfl,k2,k3,k4⟩:=q;cases qu;obtain⟨its2,_,p2,_⟩:=I.list (Rd.qK k2);exact⟨EqAt.tuple_list (IsTup.is p) (PlainL.is p2) hu',RcAt.tuple_list (IsTup.is p) (PlainL.is p2) hu',RcNeAt.tuple_list (IsTup.is p) (PlainL.is p2) hu'⟩
 |cst _=>cases hm
 |exc _ _ _=>cases hm
|.cst _,dy,n,m,x,y,v,u,A,hn,hm,r,rv,q,qu,hu=>by cases hn
|.exc _ _ _,dy,n,m,x,y,v,u,A,hn,hm,r,rv,q,qu,hu=>by cases hn
theorem Gw(I:L2.Inv X pins O H s):∀(ds es:List D) (n m:Nat) (vs us:List V) (its its2:List Value) (A:dF),fP ds n=true->fP es m=true->aE X.K H ds vs->bE vs its->aE X.K H es us->bE us its2->A.units+n<dS->pF A s ds es its its2
|[],es,n,m,vs,us,its,its2,A,hn,hm,r,rv,q,qu,hu=>by cases its<;>trivial
|d::ds,[],n,m,vs,us,its,its2,A,hn,hm,r,rv,q,qu,hu=>by cases its<;>trivial
|d::ds,e::es,n,m,vs,us,its,its2,A,hn,hm,r,rv,q,qu,hu=>by
 have hn':mK d n=true/\fP ds n=true:=by simpa[fP]using hn
 have hm':mK e m=true/\fP es m=true:=by simpa[fP]using hm
 obtain⟨x,vr,rfl,r1,r2⟩:=r;obtain⟨y,ur,rfl,q1,q2⟩:=q;cases rv with
 |cons rv1 rv2=>
  cases qu with
  |cons qu1 qu2=>
   exact⟨(FJ I d e n m x y _ _ A hn'.1 hm'.1 r1 rv1 q1 qu1 hu).eq,Gw I ds es n m vr ur _ _ A hn'.2 hm'.2 r2 rv2 q2 qu2 hu⟩
end
end
theorem Yj(hu:X.A.units+60<dS):jv X (gh .Eq) (fun x y H Q=>∃dx dy,aU X.K H dx x/\aU X.K H dy y/\cX dx=true/\cX dy=true/\Q (.bl (jC dx dy)) H):=by
 intro pins s O H x y v u Q I rx ry h;obtain⟨dx,dy,h1,h2,h3,h4,q⟩:=h;exact(FJ I dx dy 12 12 x y v u X.A h3 h4 h1 rx h2 ry (by omega)).rc X.prog X.w X.xe _ ⟨.bl (jC dx dy),H,I,rfl,q⟩
theorem Yk(hu:X.A.units+60<dS):jv X (gh .NotEq) (fun x y H Q=>∃dx dy,aU X.K H dx x/\aU X.K H dy y/\cX dx=true/\cX dy=true/\Q (.bl (!jC dx dy)) H):=by
 intro pins s O H x y v u Q I rx ry h;obtain⟨dx,dy,h1,h2,h3,h4,q⟩:=h;exact(FJ I dx dy 12 12 x y v u X.A h3 h4 h1 rx h2 ry (by omega)).ne X.prog X.w X.xe _ ⟨.bl (!jC dx dy),H,I,rfl,q⟩
theorem BQ{x:Value}:∀(ds:List D) (its:List Value),its.length=ds.length->(∀(j:Nat) d v,ds[j]?=some d->its[j]?=some v->PySem.SeqAt.EqAt A s v x (jC d dx))->
  ∃e:Value->Bool,(∀y,y∈its.toArray->PySem.SeqAt.EqAt A s y x (e y))/\its.toArray.any e=memD dx ds:=by
 intro ds its hl he
 classical
 refine⟨fun v=>decide (∃(j:Nat) (d:D),its[j]?=some v/\ds[j]?=some d/\jC d dx=true),fun y hy=>?_,?_⟩
 ·have hy:y∈its:=by simpa using hy
  obtain⟨j,hj,ej⟩:=xG hy;dsimp only;by_cases h:∃(j:Nat) (d:D),its[j]?=some y/\ds[j]?=some d/\jC d dx=true
  ·rw[decide_eq_true h];obtain⟨k,d,h1,h2,h3⟩:=h;have:=he k d y h2 h1;rw[h3]at this;exact this
  ·rw[decide_eq_false h];have e1:ds[j]?=some ds[j]:=aA (by omega);have e2:its[j]?=some y:=by rw[aA hj,ej]
   have:=he j _ y e1 e2;cases q:jC ds[j] dx with
   |true=>exact absurd ⟨j,_,e2,e1,q⟩ h
   |false=>rw[q]at this;exact this
 ·rw[iH];unfold memD;simp only[List.any_toArray,nL,decide_eq_true_eq];constructor
  ·rintro⟨v,_,j,d,h1,h2,h3⟩;exact⟨d,gA h2,h3⟩
  ·rintro⟨d,hd,h3⟩;obtain⟨j,hj,ej⟩:=xG hd;have g1:its[j]?=some its[j]:=aA (by omega);exact⟨its[j],gb _,j,d,g1,by rw[aA hj,ej],h3⟩
theorem sI(hu:X.A.units+60<dS)(I:L2.Inv X pins O H s){x:V}{v:Value}(rx:aU X.K H dx x)(rv:L2.RelV x v)(hx:mK dx 12=true) :
 ∀{ds:List D}{xs:List V}{its:List Value},aE X.K H ds xs->bE xs its->fP ds 12=true->∀(j:Nat) d w,ds[j]?=some d->its[j]?=some w->PySem.SeqAt.EqAt X.A.in1 s w v (jC d dx)
|[],_,_,_,_,_,j,d,w,h,_=>by simp at h
|e::ds,_,_,r,rr,ho,j,d,w,h1,h2=>by
 obtain⟨y,ys,rfl,r1,r2⟩:=r;have ho':mK e 12=true/\fP ds 12=true:=by simpa[fP]using ho
 cases rr with
 |cons ra rb=>
  cases j with
  |zero=>
   simp at h1 h2;subst h1 h2;exact(FJ I e dx 12 12 y x _ v X.A.in1 ho'.1 hx r1 ra rx rv (by show X.A.units+1+12<dS;omega)).eq
  |succ j=>exact sI hu I rx rv hx r2 rb ho'.2 j d w (by simpa using h1) (by simpa using h2)
theorem zL(hu:X.A.units+60<dS)(op:qz):jv X (gh op) (nD X.K op):=by
 intro pins s O H x y v u Q I rx ry h;unfold nD at h;split at h
 ·exact XW pins s O H _ _ v u Q I rx ry ⟨_,_,rfl,rfl,h⟩
 ·exact XX pins s O H _ _ v u Q I rx ry ⟨_,_,rfl,rfl,h⟩
 ·exact XY pins s O H _ _ v u Q I rx ry ⟨_,_,rfl,rfl,h⟩
 ·exact XZ pins s O H _ _ v u Q I rx ry ⟨_,_,rfl,rfl,h⟩
 ·exact Mp pins s O H _ _ v u Q I rx ry ⟨_,_,rfl,rfl,h⟩
 ·exact MC pins s O H _ _ v u Q I rx ry ⟨_,_,rfl,rfl,h⟩
 ·exact Yj hu pins s O H _ _ v u Q I rx ry h
 ·exact Yk hu pins s O H _ _ v u Q I rx ry h
 ·exact VZ pins s O H _ _ v u Q I rx ry ⟨rfl,h⟩
 ·exact TN pins s O H _ _ v u Q I rx ry ⟨rfl,h⟩
 ·rename_i a;cases(show u=bG a from ry);rcases h with⟨t,xs,dx,ds,hx,h1,h2,h3,h4,q⟩|⟨kvs,k,hk,rfl,q⟩
  ·cases t with
   |false=>
    obtain⟨its,r,p,_⟩:=I.list hx.JC;obtain⟨e,e1,e2⟩:=BQ (A:=X.A.in1) (s:=s) (x:=v) (dx:=dx) ds its (by rw[<-r.length,aE.len' h2]) (sI hu I h1 rx h3 h2 r h4);exact PySem.SeqAt.in_listAt e (PlainL.is p) e1 ⟨.bl (its.toArray.any e),H,I,rfl,by rw[e2];exact q⟩
   |true=>
    obtain⟨its,r,p,_⟩:=I.tuple hx.qU;obtain⟨e,e1,e2⟩:=BQ (A:=X.A.in1) (s:=s) (x:=v) (dx:=dx) ds its (by rw[<-r.length,aE.len' h2]) (sI hu I h1 rx h3 h2 r h4);exact PySem.SeqAt.in_tupleAt e (IsTup.is p) e1 ⟨.bl (its.toArray.any e),H,I,rfl,by rw[e2];exact q⟩
  ·exact ZR (by omega) I (.inl ⟨kvs,k,hk,rfl,rfl⟩) rx fun s3 I3=>⟨.bl (kB kvs k).isSome,H,I3,rfl,q⟩
 ·rename_i a;cases(show u=bG a from ry);rcases h with⟨t,xs,dx,ds,hx,h1,h2,h3,h4,q⟩|⟨kvs,k,hk,rfl,q⟩
  ·cases t with
   |false=>
    obtain⟨its,r,p,_⟩:=I.list hx.JC;obtain⟨e,e1,e2⟩:=BQ (A:=X.A.in1) (s:=s) (x:=v) (dx:=dx) ds its (by rw[<-r.length,aE.len' h2]) (sI hu I h1 rx h3 h2 r h4);exact PySem.SeqAt.notIn_listAt e (PlainL.is p) e1 ⟨.bl (!its.toArray.any e),H,I,rfl,by rw[e2];exact q⟩
   |true=>
    obtain⟨its,r,p,_⟩:=I.tuple hx.qU;obtain⟨e,e1,e2⟩:=BQ (A:=X.A.in1) (s:=s) (x:=v) (dx:=dx) ds its (by rw[<-r.length,aE.len' h2]) (sI hu I h1 rx h3 h2 r h4);exact PySem.SeqAt.notIn_tupleAt e (IsTup.is p) e1 ⟨.bl (!its.toArray.any e),H,I,rfl,by rw[e2];exact q⟩
  ·exact T6 (by omega) I (.inl ⟨kvs,k,hk,rfl,rfl⟩) rx fun s3 I3=>⟨.bl (!(kB kvs k).isSome),H,I3,rfl,q⟩
 ·exact h.elim
theorem SG:VP X (fun x H Q=>j6 X.K x H fun b=>Q b H):=by
 intro pins s O H x v Q I rx h;refine V3 pins s O H x v Q I rx ?_;cases x with
 |bl b=>exact⟨b,rfl,h⟩
 |non=>exact⟨false,rfl,h⟩
 |int i=>exact⟨_,rfl,h⟩
 |str z=>
  obtain⟨hz,h⟩:=h;refine⟨_,⟨hz,rfl⟩,?_⟩;have e:((z.length:Int) != 0)=(z.length != 0):=by
   rw[iH];simp
  rw[e];exact h
 |ref a=>
  rcases h with⟨t,xs,hx,h⟩|⟨kvs,hk,h⟩
  ·refine⟨_,?_,h⟩;rcases hx.sq with⟨_,z⟩|⟨_,z⟩
   ·exact .inl ⟨xs,z,rfl⟩
   ·exact .inr (.inl ⟨xs,z,rfl⟩)
  ·exact⟨_,.inr (.inr ⟨kvs,hk,rfl⟩),h⟩
 |_=>exact ay h
theorem Ue(hu:X.A.units+60<dS):Gd X (fun x y H Q=>∃a kvs k v,x=.ref a/\Rd H a (.dK kvs)/\y=kV k/\kB kvs k=some v/\Q v H):=by
 intro value slice pins s O H x y v u Q I rx ry h hs;obtain⟨a,kvs,k,z,rfl,hk,rfl,e,q⟩:=h;cases(show v=bG a from rx);have g:Df H a (kV k) (some z):=.inl ⟨kvs,k,hk,rfl,e.symm⟩;have hT:=Ak I g;unfold ny;refine au ?_;rw[vG hT.not_modules];refine au (C3 hT PySem.F.slot_dict_getitem.lookup ?_);have fin:aD (aH X.prog X.w) X.A (uU slice false (.ref a) u) (fun r aaF=>aD (aH X.prog X.w) X.A (DV value (.ref a) r >>= fun _=>pure r) (EP X pins O Q) X.xe aaF) X.xe s:=by
  rw[hs];exact C4 (dR (Ea (by omega) I g ry fun w' s3 I3 rw'=>(⟨z,H,I3,rw',q⟩:EP X pins O Q w' s3)) (fun r aaF aaJ=>au (wV (a7 aaJ))) fun _ _ x=>x)
 first
  |exact a7 (au fin)
  |exact au (a7 (au fin))
  |exact au fin
theorem Py(hu:X.A.units+60<dS):Gd X (fun x y H Q=>∃a kvs k b v,x=.ref a/\Rd H a (.dT kvs)/\y=.ref b/\H b=some (.tup (k.map kV))/\kB kvs k=some v/\Q v H):=by
 intro value slice pins s O H x y v u Q I rx ry h hs;obtain⟨a,kvs,k,b,z,rfl,hk,rfl,hb,e,q⟩:=h;cases(show v=bG a from rx);have g:Df H a (.ref b) (some z):=.inr ⟨kvs,k,b,hk,rfl,hb,e.symm⟩;have hT:=Ak I g;unfold ny;refine au ?_;rw[vG hT.not_modules];refine au (C3 hT PySem.F.slot_dict_getitem.lookup ?_);have fin:aD (aH X.prog X.w) X.A (uU slice false (.ref a) u) (fun r aaF=>aD (aH X.prog X.w) X.A (DV value (.ref a) r >>= fun _=>pure r) (EP X pins O Q) X.xe aaF) X.xe s:=by
  rw[hs];exact C4 (dR (Ea (by omega) I g ry fun w' s3 I3 rw'=>(⟨z,H,I3,rw',q⟩:EP X pins O Q w' s3)) (fun r aaF aaJ=>au (wV (a7 aaJ))) fun _ _ x=>x)
 first
  |exact a7 (au fin)
  |exact au (a7 (au fin))
  |exact au fin
theorem ZV(hu:X.A.units+60<dS):Gd X (Gs X.K):=by
 intro value slice pins s O H x y v u Q I rx ry h;unfold Gs at h;split at h
 ·obtain⟨hz,c,e,q⟩:=h;exact V9 value slice pins s O H _ _ v u Q I rx ry ⟨_,_,c,rfl,rfl,hz,e,q⟩
 ·rcases h with⟨t,xs,i,w,rfl,hx,e,q⟩|⟨kvs,k,w,hk,rfl,e,q⟩|⟨kvs,k,b,w,hk,rfl,hb,e,q⟩
  ·rcases hx.sq with⟨_,z⟩|⟨_,z⟩
   ·exact T3 value slice pins s O H _ _ v u Q I rx ry ⟨_,xs,_,w,rfl,rfl,z,e,q⟩
   ·exact V8 value slice pins s O H _ _ v u Q I rx ry ⟨_,xs,_,w,rfl,rfl,z,e,q⟩
  ·exact Ue hu value slice pins s O H _ _ v u Q I rx ry ⟨_,kvs,k,w,rfl,hk,rfl,e,q⟩
  ·exact Py hu value slice pins s O H _ _ v u Q I rx ry ⟨_,kvs,k,b,w,rfl,hk,rfl,hb,e,q⟩
 ·exact h.elim
end
theorem FL(n d:Nat)(v:Int):max 0 (min (if v<0 then v+(n:Int)else v) (n:Int))=((HT.kj n d (some v):Nat):Int):=by
 show max 0 (min (if v<0 then v+(n:Int)else v) (n:Int))=(((if v<0 then(v+(n:Int)).toNat else min v.toNat n):Nat):Int);by_cases hv:v<0
 ·simp only[if_pos hv];omega
 ·simp only[if_neg hv];omega
theorem Dm(a b:Nat):wU (a:Int) (b:Int) 1=(bS (b-a)).map fun m=>a+m:=by
 unfold wU;have h1:(1:Int)>0:=by omega
 simp only[h1,if_true];have e3:(if(a:Int)<(b:Int)then((b:Int)-(a:Int)+1-1) / 1 else 0).toNat=b-a:=by
  split<;>omega
 rw[e3];congr 1;funext k;omega
theorem idx_eq(lo hi:Option Int)(n:Nat):dH lo hi 1 n=(bS (HT.kj n n hi-HT.kj n 0 lo)).map fun m=>HT.kj n 0 lo+m:=by
 rw[<-Dm];have h1:(1:Int)>0:=by omega
 unfold dH;simp only[h1,if_true];cases lo with
 |none=>cases hi with
  |none=>rfl
  |some v=>simp only[FL n n v];rfl
 |some w=>cases hi with
  |none=>simp only[FL n 0 w];rfl
  |some v=>simp only[FL n n v,FL n 0 w]
variable{α:Type}
theorem KW(l:List α)(i:Nat):∀k:Nat,((bS k).map fun(m:Nat)=>i+m).filterMap (l[·]?)=(l.drop i).take k:=by
 intro k;induction k with
 |zero=>simp
 |succ k ih=>
  rw[CV,bR,List.filterMap_append,ih,List.map_singleton,gQ,List.filterMap_nil];cases h:l[i+k]? with
  |none=>
   have hl:l.length<=i+k:=rS.mp h;simp only[dm];rw[di (by rw[c9];omega),di (by rw[c9];omega)]
  |some c=>
   rw[List.take_succ,List.getElem?_drop,h];rfl
theorem Gx(a:Array Nat):∀is:List Nat,is.filterMap (a[·]?)=is.filterMap (a.toList[·]?)
|[]=>rfl
|i::r=>by
 rw[gQ,gQ,Gx a r,vH]
theorem Gy(x:Str)(lo hi:Option Int):(dH lo hi 1 x.length).filterMap (x.cps[·]?)=cut x.cps.toList lo hi:=by
 have len:x.cps.toList.length=x.length:=by simp[f9]
 rw[Gx,idx_eq,KW];unfold cut;rw[len]
theorem Wm(l:List α)(lo hi:Option Int):(cut l lo hi).length<=l.length:=by
 unfold cut;rw[b9,c9];omega
theorem Ug(x:Str)(lo hi:Option Int)(h:(dH lo hi 1 x.length).length=x.length):cut x.cps.toList lo hi=x.cps.toList:=by
 have len:x.cps.toList.length=x.length:=by simp[f9]
 rw[idx_eq,ah,j4]at h;have h2:=HT.V6 x.length x.length (aM _) hi;unfold cut;rw[len];by_cases hz:x.length=0
 ·have:x.cps.toList=[]:=gK (by omega);rw[this];simp
 ·have e0:HT.kj x.length 0 lo=0:=by omega
  rw[e0,mE,di (by omega)]
section
variable{X:Cx}
theorem ZW:V7 X (Sz X.K):=by
 intro pins s O H x v vl vu lo hi sl Q I rx hs pl pu h;unfold Sz at h;split at h
 ·rename_i z;obtain⟨hz,q⟩:=h;obtain⟨t,rfl⟩:=rx;refine⟨"str",_,Bs.lookup,ia s z t,?_⟩;have key:∀l u:Option (Int×Tok),vl=partValue l->vu=partValue u->l.map (·.1)=lo->u.map (·.1)=hi->aD (aH X.prog X.w) X.A (z6 (.str z t) (.ref sl)) (EP X pins O Q) X.xe s:=by
   rintro l u rfl rfl rfl rfl;have hs':s.heap.IsSlice sl l u none:=hs;refine wpAny_getItem_str_slice (st:=none) hs' rfl ?_;have len:z.cps.toList.length=z.length:=by simp[f9]
   have hle:=Wm z.cps.toList (l.map (·.1)) (u.map (·.1));have ec:=Gy z (l.map (·.1)) (u.map (·.1));have fin:∀t' k,EP X pins O Q (.str ⟨(cut z.cps.toList (l.map (·.1)) (u.map (·.1))).toArray⟩ t') { s with toks:=k }:=fun t' k=>⟨V.str ⟨(cut z.cps.toList (l.map (·.1)) (u.map (·.1))).toArray⟩,H,I.tok _,⟨t',rfl⟩,q⟩;show(if((1:Int)==1&&(dH (l.map (·.1)) (u.map (·.1)) 1 z.length).length==z.length)=true then Made.val (.str z t)else Made.str ⟨((dH (l.map (·.1)) (u.map (·.1)) 1 z.length).filterMap (z.cps[·]?)).toArray⟩).post (EP X pins O Q) s;rw[ec];by_cases hc:((1:Int)==1&&(dH (l.map (·.1)) (u.map (·.1)) 1 z.length).length==z.length)=true
   ·rw[if_pos hc];have hall:cut z.cps.toList (l.map (·.1)) (u.map (·.1))=z.cps.toList:=Ug z _ _ (by
     rw[bu]at hc;simpa using hc.2)
    have f:=fin t s.toks;rw[hall]at f;exact f
   ·rw[if_neg hc];exact⟨by show(List.toArray _).size<=aa;rw[aZ];omega,fin _ _⟩
  cases pl with
  |none=>cases pu with
   |none=>exact key none none rfl rfl rfl rfl
   |int j tj=>exact key none (some (j,tj)) rfl rfl rfl rfl
  |int i ti=>cases pu with
   |none=>exact key (some (i,ti)) none rfl rfl rfl rfl
   |int j tj=>exact key (some (i,ti)) (some (j,tj)) rfl rfl rfl rfl
 ·rcases h with⟨t,xs,hx,ht,q⟩|⟨n,xs,hx,rfl,rfl,h1,h2,q⟩
  ·rcases hx.sq with⟨_,z⟩|⟨hf,z⟩
   ·exact T4 pins s O H _ v vl vu lo hi sl Q I rx hs pl pu ⟨_,xs,rfl,z,q⟩
   ·rw[ht]at hf;cases hf
  ·cases rx;obtain⟨its,r,pt,hz⟩:=I.tuple hx.qU;have hlen:=r.length;cases pl with
   |int _ tl=>
    cases pu;refine⟨"tuple",_,zo.lookup,IsTup.typeIs pt,?_⟩;refine getItem_tuple_from pt hs h1 (by rw[aZ];omega) ?_ (by rw[aZ];omega);refine⟨.ref s.heap.objs.size,_,I.laid (t':=s.toks) (o:=.tup (xs.drop n)) (fun b ob q=>aJ _ q) (aM _) ⟨by rw[c9];omega,its.drop n,r.drop n,IsTup.new _ _⟩,rfl,q _ (I.hok.fresh (aM _))⟩
 ·exact h.elim
theorem Ei:∀{xs:List V}{its:List Value}{i:Nat} (r:bE xs its) (h:i<xs.length) (h':i<its.length),RelV xs[i] its[i]
|_,_,_,.nil,h,_=>absurd h (Nat.not_lt_zero _)
|_,_,0,.cons r1 _,_,_=>r1
|_,_,i+1,.cons _ r2,h,h'=>Ei r2 (uX h) (uX h')
theorem xW(r:bE xs its):∀is:List Nat,bE (is.filterMap (xs[·]?)) (is.filterMap (its[·]?))
|[]=>.nil
|i::is=>by
 have hl:=r.length;by_cases h:i<xs.length
 ·have h':i<its.length:=by omega
  rw[jr (aA h),jr (aA h')];exact .cons (Ei r h h') (xW r is)
 ·rw[jt (by simp;omega),jt (by simp;omega)];exact xW r is
theorem Wn{e:Expr}{te:TE}{lo hi:Option Expr}{tl th:TO}{k:Int}{j:Nat}{kp p2 pos:Pos}(he:PE X e te)(hl:PO X lo tl)(hu:PO X hi th):PE X (.Subscript e (.Slice lo hi (some (.Constant (.int k) j kp)) p2) pos) (fun O H Q=>te O H fun x H1=>tl O H1 fun l H2=>th O H2 fun u H3=>Pw X.K x l u k H3 Q):=by
 intro pins s O H Q I h;refine CN (aT (he pins s O H _ I h) fun v s1 ⟨x,H1,I1,r1,q1⟩=>?_);refine Jo (aT (hl pins s1 O H1 _ I1 q1) fun vl s2 ⟨l,H2,I2,pl,q2⟩=>aT (hu pins s2 O H2 _ I2 q2) fun vu s3 ⟨u,H3,I3,pu,q3⟩=>?_);rw[FA];refine aT (Mi (X:=X) pins s3 O H3 (fun y H'=>y=.int k/\H'=H3) I3 ⟨rfl,rfl⟩) fun vk s4 ⟨y,H4,I4,r4,ey,eH⟩=>?_;subst ey eH;obtain⟨tk,rfl⟩:=r4;have I5:L2.Inv X pins O H4 { s4 with heap:=s4.heap.push { cls:=.type "slice",data:=.fields #[vl,vu,.int k tk] } }:=I4.kept (t':=s4.toks) fun b ob q=>aJ _ q;cases x with
 |ref a=>
  cases(show v=bG a from r1);obtain⟨t,xs,hx,ht,⟨hk,hz⟩,q⟩:=q3;subst ht;obtain⟨its,r,ht,hz'⟩:=I5.list hx.JC;have hlen:=r.length;show aD (aH X.prog X.w) X.A (ny e (.Slice lo hi (some (.Constant (.int k) j kp)) p2) (.ref a) (.ref s4.heap.objs.size)) (EP X pins O Q) X.xe { s4 with heap:=s4.heap.push { cls:=.type "slice",data:=.fields #[vl,vu,.int k tk] } };refine Io (ops:=[.ref a,.ref s4.heap.objs.size]) ht.isList.typeIs qX.lookup ?_ (by with_unfolding_all rfl);refine tD ht.isList (zj ..) pl pu (.int k tk) (by simpa using hk) ?_ (by rw[aZ];omega);have e1:zp its.toArray l u (some k)=(mZ its l u k).toArray:=by
   unfold zp mZ;simp
  rw[e1];refine⟨.ref _,_,I5.laid (t':=s4.toks) (o:=.lst (mZ xs l u k)) (fun b ob q=>aJ _ q) (aM _) ?_,rfl,q _ (I5.hok.fresh (aM _))⟩;refine⟨hz,_,0,?_,bL _ rfl⟩;have:=xW r (wU (fJ l u (some k) xs.length).1 (fJ l u (some k) xs.length).2.1 (fJ l u (some k) xs.length).2.2);unfold mZ;rw[<-hlen];exact this
 |_=>exact ay q3
end
noncomputable def Bf.val:Bf->Value
|.len=>.builtin "len"|.all=>.builtin "all"|.any=>.builtin "any"|.int=>.type "int"|.str=>.type "str"|.abs=>.builtin "abs"|.min=>.builtin "min"
theorem Bf.boot:∀f:Bf,oV f.name=some f.val:=by
 intro f;cases f<;>decide +kernel
theorem Bf.ok(f:Bf):f.name≠"__name__"/\(f.name==("__debug__":Str))=false:=by
 cases f<;>decide +kernel
variable{p:Nat->Bool}
section
variable{X:Cx}
theorem BR{Q:Value->aj->Prop}{E:Value->aj->Prop}(hc:X.calm=true)(I:L2.Inv X pins O H s)(hx:gO X.K H a xs)
  (h:∀(its:List Value),bE xs its->xs.length<=aa->∀aaB:aj,aaB={ s with heap:=s.heap.push { cls:=.type "list_iterator",data:=.fields #[.ref a,.int 0 0] } }->
   Walks X.prog X.w X.A.in1 s.heap.objs.size [s.heap.objs.size,a] [s.heap.objs.size] its.toArray.size (fun i v=>its.toArray[i]?=some v) (fun i h=>h.IsListIter s.heap.objs.size a i/\h.IsList a its.toArray)->
   (aaB.heap.IsListIter s.heap.objs.size a 0/\aaB.heap.IsList a its.toArray)->(∀b∈[s.heap.objs.size,a],b<aaB.heap.objs.size)->
   (∀h' tk,(∀b o,b∉[s.heap.objs.size]->aaB.heap.get? b=some o->h'.get? b=some o)->L2.Inv X pins O H { aaB with heap:=h',toks:=tk })->Q (.ref s.heap.objs.size) aaB) :
  aD (aH X.prog X.w) X.A.in1 (vC (.ref a)) Q E s:=by
 obtain⟨its,r,pl,hz⟩:=I.list hx;have hlt:a<s.heap.objs.size:=by obtain⟨o,n,e,_⟩:=pl;exact aP e
 refine qZ pl.isList ?_;have hh:X.A.in1.handled=none:=I.ok.hd hc;refine h its r hz _ rfl (L6 hh s.heap.objs.size a (bM hlt) its.toArray) ⟨⟨_,bL _ rfl,rfl,rfl⟩,pl.isList.push _⟩ (fun b hb=>?_) fun h' tk k=>?_
 ·show b<(s.heap.push _).objs.size;rw[fL];rcases aF.mp hb with rfl|hb
  ·exact jq _
  ·rw[aW.mp hb];exact j3 hlt
 ·exact I.kept fun b o e=>k b o (fun z=>absurd (aP e) (by rw[aW.mp z];exact d8 _)) (aJ _ e)
theorem range_all(f:V->Bool)(h:∀i x,xs[i]?=some x->p i=f x):(bS xs.length).all p=xs.all f:=by
 rw[iH,bF,bF];constructor
 ·intro q x hx;obtain⟨i,hi⟩:=o8 hx;rw[<-h i x hi];exact q i (jc.mpr (bZ.mp hi).1)
 ·intro q i hi;have hi:=jc.mp hi;rw[h i xs[i] (aA hi)];exact q _ (gb hi)
theorem Fd(hc:X.calm=true):p7 X (.builtin "all") (fun vs H Q=>∃a xs,vs=[.ref a]/\gO X.K H a xs/\zJ xs=true/\Q (.bl (xs.all n9)) H):=by
 intro pins s O H vs us Q I r h;obtain⟨a,xs,rfl,hx,hb,q⟩:=h;obtain⟨u,rfl,ru⟩:=vals1 r;cases ru;refine call_all_walk (BR hc I hx fun its rv hz aaB e W st hfp fin=>⟨_,_,_,_,_,_,fun i=>(xs[i]?.map n9).getD false,rfl,W,st,?_,fun h' tk k=>?_⟩)
 ·intro i v s' Q' E' hP hQ;have hi:its[i]?=some v:=by simpa using hP
  have hlen:=rv.length;have hl:i<xs.length:=by
   have:=(bZ.mp hi).1;omega
  have hxi:xs[i]?=some xs[i]:=aA hl;obtain⟨u,hu,ru⟩:=rv.get hxi;rw[hi]at hu;cases hu;have hQ:Q' ((xs[i]?.map n9).getD false) s':=hQ;rw[hxi]at hQ;have hbl:∃b,xs[i]=.bl b:=by
   have:=bF.mp hb _ (gb hl);revert this;cases xs[i]<;>intro this<;>first|exact⟨_,rfl⟩|(exact absurd (show false=true from this) aK)
  obtain⟨b,eb⟩:=hbl;rw[eb]at ru hQ;cases ru;refine fj ?_;cases b<;>exact hQ
 ·have e1:its.toArray.size=xs.length:=by rw[aZ];exact rv.length.symm
  rw[e1];have e2:=range_all (p:=fun i=>(xs[i]?.map n9).getD false) (xs:=xs) n9 (fun i x hi=>by rw[hi];rfl);rw[e2];exact⟨.bl _,H,fin h' tk k,rfl,q⟩
theorem range_any(f:V->Bool)(h:∀i x,xs[i]?=some x->p i=f x):(bS xs.length).any p=xs.any f:=by
 rw[iH,nL,nL];constructor
 ·rintro⟨i,hi,q⟩;have hi:=jc.mp hi;rw[h i xs[i] (aA hi)]at q;exact⟨_,gb hi,q⟩
 ·rintro⟨x,hx,q⟩;obtain⟨i,hi⟩:=o8 hx;rw[<-h i x hi]at q;exact⟨i,jc.mpr (bZ.mp hi).1,q⟩
theorem Fe(hc:X.calm=true):p7 X (.builtin "any") (fun vs H Q=>∃a xs,vs=[.ref a]/\gO X.K H a xs/\zJ xs=true/\Q (.bl (xs.any n9)) H):=by
 intro pins s O H vs us Q I r h;obtain⟨a,xs,rfl,hx,hb,q⟩:=h;obtain⟨u,rfl,ru⟩:=vals1 r;cases ru;refine call_any_walk (BR hc I hx fun its rv hz aaB e W st hfp fin=>⟨_,_,_,_,_,_,fun i=>(xs[i]?.map n9).getD false,rfl,W,st,?_,fun h' tk k=>?_⟩)
 ·intro i v s' Q' E' hP hQ;have hi:its[i]?=some v:=by simpa using hP
  have hlen:=rv.length;have hl:i<xs.length:=by
   have:=(bZ.mp hi).1;omega
  have hxi:xs[i]?=some xs[i]:=aA hl;obtain⟨u,hu,ru⟩:=rv.get hxi;rw[hi]at hu;cases hu;have hQ:Q' ((xs[i]?.map n9).getD false) s':=hQ;rw[hxi]at hQ;have hbl:∃b,xs[i]=.bl b:=by
   have:=bF.mp hb _ (gb hl);revert this;cases xs[i]<;>intro this<;>first|exact⟨_,rfl⟩|(exact absurd (show false=true from this) aK)
  obtain⟨b,eb⟩:=hbl;rw[eb]at ru hQ;cases ru;refine fj ?_;cases b<;>exact hQ
 ·have e1:its.toArray.size=xs.length:=by rw[aZ];exact rv.length.symm
  rw[e1];have e2:=range_any (p:=fun i=>(xs[i]?.map n9).getD false) (xs:=xs) n9 (fun i x hi=>by rw[hi];rfl);rw[e2];exact⟨.bl _,H,fin h' tk k,rfl,q⟩
theorem Gz:p7 X (.type "int") (fun vs H Q=>∃z n,vs=[.str z]/\z.length<=640/\intText? z=some n/\Q (.int n) H):=by
 intro pins s O H vs us Q I r h;obtain⟨z,n,rfl,hz,hn,q⟩:=h;obtain⟨u,rfl,ru⟩:=vals1 r;obtain⟨t,rfl⟩:=ru;exact PySem.W.KIN.call_text hn hz ⟨.int n,H,I.tok _,⟨_,rfl⟩,q⟩
theorem zE{P:bH}{w:bY}{k:Key}{u:Value}(h:RelV (kV k) u):(gS P w).is k u=true:=by
 cases k with
 |inl i=>obtain⟨t,rfl⟩:=h;exact Af P w i t
 |inr x=>obtain⟨t,rfl⟩:=h;exact Ag P w x t
theorem Yl(hc:X.calm=true)(hu:X.A.units+60<dS)(f:Bf):p7 X f.val (AY X.K f):=by
 intro pins s O H vs us Q I r h;cases f<;>cases vs<;>first|exact ay h|skip
 case len.cons y w=>
  cases y<;>first|exact ay h|(cases w<;>first|exact ay h|skip)
  ·obtain⟨hz,q⟩:=h;exact Gg pins s O H _ us Q I r ⟨_,rfl,hz,q⟩
  ·rcases h with⟨t,xs,hx,q⟩|⟨kvs,hk,q⟩
   ·refine Gf pins s O H _ us Q I r ⟨_,xs,rfl,?_,q⟩;rcases hx.sq with⟨_,z⟩|⟨_,z⟩
    ·exact .inl z
    ·exact .inr z
   ·obtain⟨u,rfl,ru⟩:=vals1 r;cases ru;exact X_ I hk fun t s' I'=>⟨.int kvs.length,H,I',⟨t,rfl⟩,q⟩
 case all.cons y w=>
  cases y<;>first|exact ay h|(cases w<;>first|exact ay h|skip)
  ·obtain⟨t,xs,hx,ht,hb,q⟩:=h;subst ht;exact Fd hc pins s O H _ us Q I r ⟨_,xs,rfl,hx.JC,hb,q⟩
 case any.cons y w=>
  cases y<;>first|exact ay h|(cases w<;>first|exact ay h|skip)
  ·obtain⟨t,xs,hx,ht,hb,q⟩:=h;subst ht;exact Fe hc pins s O H _ us Q I r ⟨_,xs,rfl,hx.JC,hb,q⟩
 case int.cons y w=>
  cases y<;>first|exact ay h|(cases w<;>first|exact ay h|skip)
  ·exact D5 pins s O H _ us Q I r (.inr ⟨_,rfl,h⟩)
  ·exact D5 pins s O H _ us Q I r (.inl ⟨_,rfl,h⟩)
  ·obtain⟨hz,n,hn,q⟩:=h;exact Gz pins s O H _ us Q I r ⟨_,n,rfl,hz,hn,q⟩
 case str.cons y w=>
  cases y<;>first|exact ay h|(cases w<;>first|exact ay h|skip)
  ·exact Ga pins s O H _ us Q I r ⟨_,rfl,h.1,h.2⟩
 case abs.cons y w=>
  cases y<;>first|exact ay h|(cases w<;>first|exact ay h|skip)
  ·exact Pf pins s O H _ us Q I r ⟨_,rfl,h⟩
 case min.cons y w=>
  cases y<;>first|exact ay h|(cases w<;>first|exact ay h|skip)
  rename_i y w;cases y<;>first|exact ay h|(cases w<;>first|exact ay h|skip)
  ·exact Mq hc pins s O H _ us Q I r ⟨_,_,rfl,h⟩
end
end L3
end
section
namespace L3
open PySem PySem.Spec PyProof.Rows L2
open PySem.Builtin PySem.Builtin.Str
variable{y:Str}
theorem BS(h:y.length=1):y=⟨#[y.cps.getD 0 0]⟩:=by
 obtain⟨a⟩:=y;have h:a.size=1:=h;obtain⟨l⟩:=a
 match l,h with
 |[c],_=>rfl
theorem ME(x:Str)(c:Nat):(occurrences x ⟨#[c]⟩ 0 x.length (x.length+1)).length=x.cps.toList.count c:=by
 obtain⟨f,hG,hn⟩:=O3 x ⟨#[c]⟩ (aM 1);have h:=chain_count x c _ 0 f hG hn;rw[mE]at h;have cnt_eq:∀l:List Nat,cnt c l=(l.count c:Nat):=by
  intro l;induction l with
  |nil=>rfl
  |cons n r ih=>
   rw[cnt_cons,ih,CY];by_cases e:n=c
   ·subst e;simp;omega
   ·simp[e]
 rw[cnt_eq]at h;have h2:((x.cps.toList.count c:Nat):Int)=((occurrences x ⟨#[c]⟩ 0 x.length (x.length+1)).length:Nat):=h;omega
theorem GA(c:Nat):∀(l:List Nat) (a:Nat),l[a]?=some c->l.idxOf c<=a
|[],a,h=>by simp at h
|n::r,0,h=>by
 have e:n=c:=by simpa using h
 rw[C5,e];simp
|n::r,a+1,h=>by
 have ih:=GA c r a (by simpa using h);rw[C5];cases n==c<;>simp<;>omega
theorem MF(x:Str)(c:Nat)(hm:c∈x.cps.toList):∃rest,occurrences x ⟨#[c]⟩ 0 x.length 1=x.cps.toList.idxOf c::rest:=by
 rcases Sl x ⟨#[c]⟩ 1 (aM 1)with⟨h1,h2⟩|⟨a,r,h1,h2,h3⟩
 ·exfalso;obtain⟨i,hi⟩:=o8 hm;exact h2 i ((q9 x c i).mpr hi)
 ·refine⟨r,?_⟩;rw[h1];congr 1;have ha:x.cps.toList[a]?=some c:=(q9 x c a).mp h2;have hlt:x.cps.toList.idxOf c<x.cps.toList.length:=tE.mpr hm;have hg:x.cps.toList[x.cps.toList.idxOf c]?=some c:=by
   rw[aA hlt,List.getElem_idxOf hlt]
  have h4:¬x.cps.toList.idxOf c<a:=fun q=>h3 _ q ((q9 x c _).mpr hg);have h5:=GA c _ _ ha;omega
theorem MG(x y:Str):(decide (0+y.length<=x.length)&&subAt x y 0)=y.cps.toList.isPrefixOf x.cps.toList:=by
 rw[iH,List.isPrefixOf_iff_prefix,Sm,bu,beq_iff_eq,mE];have l1:y.cps.toList.length=y.length:=by simp[f9]
 have l2:x.cps.toList.length=x.length:=by simp[f9]
 constructor
 ·rintro⟨_,h⟩;rw[<-h];exact List.take_prefix _ _
 ·intro h;refine⟨?_,?_⟩
  ·have:=h.length_le;simp only[decide_eq_true_eq];omega
  ·rw[List.prefix_iff_eq_take]at h;rw[<-l1];exact h.symm
theorem Ao(c:Nat):∀l:List Nat,c∉l->dM c l=[l]
|[],_=>rfl
|x::r,hp=>by
 have hx:¬x=c:=fun z=>hp (by rw[z];exact ao);have hr:c∉r:=fun z=>hp (ai _ z);unfold dM;rw[if_neg hx,Ao c r hr]
theorem vR(c:Nat):∀(p l:List Nat),c∉p->dM c (p++c::l)=p::dM c l
|[],l,_=>by
 show dM c (c::l)=_;rw[dM,if_pos rfl]
|x::r,l,hp=>by
 have hx:¬x=c:=fun z=>hp (by rw[z];exact ao);have hr:c∉r:=fun z=>hp (ai _ z);show dM c (x::(r++c::l))=_;rw[dM,if_neg hx,vR c r l hr]
theorem mP(c:Nat):∀(ps:List (List Nat)) (l:List Nat),ps≠[]->(∀p∈ps,c∉p)->l=[c].intercalate ps->dM c l=ps
|[],_,h,_,_=>absurd rfl h
|[p],l,_,hp,e=>by
 have e:l=p:=by simpa[kM]using e
 subst e;have hp:=hp l ao;exact Ao c l hp
|p::q::ps,l,_,hp,e=>by
 have e:l=p++c::[c].intercalate (q::ps):=by
  rw[e];simp[kM]
 have hpp:=hp p ao;have ih:=mP c (q::ps) _ (by simp) (fun z hz=>hp z (ai _ hz)) rfl;subst e;rw[vR c p _ hpp,ih]
theorem join_list(c:Nat):∀ps:List Str,ps≠[]->(ee ⟨#[c]⟩ ps).cps.toList=[c].intercalate (ps.map fun p=>p.cps.toList)
|[],h=>absurd rfl h
|[p],_=>by
 show p.cps.toList=_;simp[kM]
|p::q::r,_=>by
 have ih:=join_list c (q::r) (by simp);show(p++⟨#[c]⟩++ee ⟨#[c]⟩ (q::r)).cps.toList=_;have e:(p++⟨#[c]⟩++ee ⟨#[c]⟩ (q::r)).cps=p.cps++#[c]++(ee ⟨#[c]⟩ (q::r)).cps:=rfl;rw[e,xH,xH,ih];simp[kM]
theorem Pz(x:Str)(c:Nat):jb x ⟨#[c]⟩=(dM c x.cps.toList).map strOf:=by
 have h1:=OR x ⟨#[c]⟩;have h2:=OS x c;have hne:jb x ⟨#[c]⟩≠[]:=by
  have z:=split_len x c;have z2:(0:Int)<=cnt c x.cps.toList:=by
   have:∀l:List Nat,(0:Int)<=cnt c l:=by
    intro l;induction l with
    |nil=>exact Int.le_refl 0
    |cons n r ih=>rw[cnt_cons];split<;>omega
   exact this _
  intro e;rw[e]at z;have z:(0:Int)=1+cnt c x.cps.toList:=z;omega
 have h3:=mP c ((jb x ⟨#[c]⟩).map fun p=>p.cps.toList) x.cps.toList (by simpa using hne) (fun p hp=>by
  obtain⟨q,hq,rfl⟩:=b7.mp hp;exact h2 q hq) (by rw[<-join_list c _ hne,h1])
 rw[h3,bq];have:∀l:List Str,l.map (strOf∘fun p=>p.cps.toList)=l:=by
  intro l;induction l with
  |nil=>rfl
  |cons a r ih=>rw[cR,ih];rfl
 rw[this]
variable{x:Str}{t:Tok}{Q:Value->aj->Prop}
section
variable{prog:bH}{w:bY}{A:dF}{E:Value->aj->Prop}{s:aj}
theorem KY{u:Tok}(hy:(y.length==0)=false)(hsz:x.length+2<=aa)
  (h:∀l tk,l.map (·.1)=jb x y->Q (.ref s.heap.objs.size) { s with heap:=s.heap.push { cls:=.type "list",data:=.seq (E9 l).toArray },toks:=tk }) :
  aD (aH prog w) A (call (.builtin "str.split") [.str x t,.str y u]) Q E s:=by
 have F0:Fr s.heap s.heap.objs.size { s.heap with objs:=s.heap.objs } (fun _=>none)->True:=fun _=>trivial;have hn:(partsBetween x (occurrences x y 0 x.length (x.length+1)) y.length).length<=aa:=by
  have e1:=Ky x y 0 x.length (x.length+1);rw[length_partsBetween];omega
 cases h1:(decide (x.length<y.length)||decide (strKind x<strKind y))
 ·cases hf:(occurrences x y 0 x.length (x.length+1)).isEmpty
  ·refine ic F.slot_str_split (ia _ _ _) F.entry_str_split (F.args_str_split_2 _ _) (meets_str_split_sep x y t u h1 hy hf (by omega) hn) ?_;rw[Jr];refine h (numbered s.toks _) _ ((DW _ _).trans ?_);unfold jb;simp[h1,hf]
  ·refine ic F.slot_str_split (ia _ _ _) F.entry_str_split (F.args_str_split_2 _ _) (meets_str_split_not_found x y t u h1 hy hf) ?_;refine h [(x,t)] s.toks ?_;unfold jb;simp[h1,hf]
 ·refine ic F.slot_str_split (ia _ _ _) F.entry_str_split (F.args_str_split_2 _ _) (meets_str_split_cannot_occur x y t u h1) ?_;refine h [(x,t)] s.toks ?_;unfold jb;simp[h1]
theorem IT(hx:x.length<=aa)(hn:(iE x).length<=aa)
  (h:∀l tk,l.map (·.1)=iE x->Q (.ref s.heap.objs.size) { s with heap:=s.heap.push { cls:=.type "list",data:=.seq (E9 l).toArray },toks:=tk }) :
  aD (aH prog w) A (call (.builtin "str.split") [.str x t]) Q E s:=by
 by_cases hc:(jW x (x.length+1)==[(0,x.length)])=true
 ·have e1:iE x=[x]:=by unfold iE;rw[if_pos hc]
  have hn':(jW x (x.length+1)).length<=aa:=by
   rw[eq_of_beq hc];show 1<=aa;decide
  refine ic F.slot_str_split (ia _ _ _) F.entry_str_split (F.args_str_split_1 _) (vI x t hx hn') ?_;rw[if_pos hc];exact h [(x,t)] s.toks e1.symm
 ·have e1:iE x=(jW x (x.length+1)).map fun p=>OT x p.1 p.2:=by unfold iE;rw[if_neg hc];rfl
  have hn':(jW x (x.length+1)).length<=aa:=by
   rw[e1,ah]at hn;exact hn
  refine ic F.slot_str_split (ia _ _ _) F.entry_str_split (F.args_str_split_1 _) (vI x t hx hn') ?_;rw[if_neg hc,Jr];exact h (numbered s.toks _) _ ((DW _ _).trans (by rw[e1];rfl))
theorem xX:∀(l:List (Str×Tok)),bE ((l.map (·.1)).map V.str) (E9 l)
|[]=>.nil
|(x,t)::r=>.cons ⟨t,rfl⟩ (xX r)
end
variable{pins:List (Addr×Obj)}{O:L2.St}{H:Hp}{s:aj}{m:Mt}{v:Value}
section
variable{X:Cx}
noncomputable def FN:Mt->V->String
|_,.str _=>"str"
|_,_=>"list"
noncomputable def KZ:Mt->V->String
|.append,_=>"list.append"
|.join,.str _=>"str.join"
|.startswith,_=>"str.startswith"
|.upper,_=>"str.upper"
|.split,_=>"str.split"
|.count,.str _=>"str.count"
|.index,.str _=>"str.index"
|.count,_=>"list.count"
|.index,_=>"list.index"
|_,_=>""
structure Uh (T:String) (m:Mt) (id:String):Prop where
 pa:PlainAttrs T
 slot:Slot T m.name id
 ty:typeOf (.builtin id)=pure (.type "method_descriptor")
theorem GB(m:Mt)(x:V)(H:Hp)(h:tT m x H):Uh (FN m x) m (KZ m x):=by
 cases m<;>cases x<;>first
  |exact ay h
  |exact⟨F.plainAttrs_list,F.slot_list_append,F.type_list_append⟩
  |exact⟨F.plainAttrs_list,F.slot_list_insert,F.type_list_insert⟩
  |exact⟨F.plainAttrs_str,F.slot_str_startswith,F.type_str_startswith⟩
  |exact⟨F.plainAttrs_str,F.slot_str_upper,F.type_str_upper⟩
  |exact⟨F.plainAttrs_str,F.slot_str_split,F.type_str_split⟩
  |exact⟨F.plainAttrs_str,F.slot_str_count,F.type_str_count⟩
  |exact⟨F.plainAttrs_str,F.slot_str_index,F.type_str_index⟩
  |exact⟨F.plainAttrs_str,F.slot_str_join,F.type_str_join⟩
  |exact⟨F.plainAttrs_dict,F.slot_dict_get,F.type_dict_get⟩
  |exact⟨F.plainAttrs_list,F.slot_list_pop,F.type_list_pop⟩
  |exact⟨F.plainAttrs_list,F.slot_list_count,F.type_list_count⟩
  |exact⟨F.plainAttrs_list,F.slot_list_index,F.type_list_index⟩
  |exact⟨F.plainAttrs_list,F.slot_list_extend,F.type_list_extend⟩
  |exact⟨F.plainAttrs_list,F.slot_list_clear,F.type_list_clear⟩
theorem JD{x:V}(I:L2.Inv X pins O H s)(r:RelV x v)(h:tT m x H) :
  s.TypeIs v (FN m x)/\∀a,v=.ref a->∃ob,s.heap.get? a=some ob/\ob.dict=none:=by
 have hl:∀a,x=.ref a->oj H a->tP X.K "list" x H:=by
  rintro a rfl h;unfold oj at h;split at h
  ·exact .inl ⟨rfl,_,.inl (.inl (by assumption))⟩
  ·exact h.elim
 have hd:∀a,x=.ref a->SA H a->tP X.K "dict" x H:=by
  rintro a rfl h;unfold SA at h;split at h
  ·exact .inr (.inr (.inl ⟨rfl,.inl ⟨_,by assumption⟩⟩))
  ·exact .inr (.inr (.inl ⟨rfl,.inr ⟨_,by assumption⟩⟩))
  ·exact h.elim
 have hr:∀a,x=.ref a->(∃xs,Rd H a (.lst xs))->tP X.K "list" x H:=by
  rintro a rfl ⟨xs,h⟩;exact .inl ⟨rfl,xs,.inl h⟩
 cases m<;>cases x<;>first|exact ay h|exact BG I r (hl _ rfl h)|exact BG I r (hr _ rfl h)|exact BG I r rfl|exact BG I r (hd _ rfl h)
theorem GC:∀{ss:List Str}{its:List Value},bE (ss.map V.str) its->StrsAre its ss
|[],_,h=>by cases h;first|exact .nil|trivial|rfl
|x::ss,_,h=>by
 cases h with
 |cons a b=>
  obtain⟨t,rfl⟩:=a;exact .cons x t (GC b)
theorem JE{x:V}{vs:List V}{us:List Value}{Q:VK}(hu:X.A.units+60<dS)(I:L2.Inv X pins O H s)(rx:RelV x v)(rv:bE vs us)(h:xU X.K m x vs H Q) :
  aD (aH X.prog X.w) X.A (call (.builtin (KZ m x)) (v::us)) (EP X pins O Q) X.xe s:=by
 cases m<;>cases x<;>first|exact ay h|skip
 case append.ref l=>
  cases vs<;>first|exact ay h|skip
  rename_i y r;cases r<;>first|exact ay h|skip
  ·dsimp only[xU]at h;split at h
   ·exact Mv pins s O H _ _ v us Q I rx rv ⟨_,_,_,rfl,rfl,by assumption,h.1,h.2⟩
   ·exact h.elim
 case upper.str z=>
  cases vs<;>first|exact ay h|skip
  ·cases rv;obtain⟨t,rfl⟩:=rx;obtain⟨h1,h⟩:=h;show aD _ _ (call (.builtin "str.upper") _) _ _ _;exact Js h1 fun _=>⟨.str _,H,I.tok _,⟨_,rfl⟩,h⟩
 case startswith.str z=>
  cases vs<;>first|exact ay h|skip
  rename_i c r;cases c<;>first|exact ay h|(cases r<;>first|exact ay h|skip)
  rename_i y
  ·obtain⟨u,rfl,ru⟩:=vals1 rv;obtain⟨t,rfl⟩:=rx;obtain⟨t',rfl⟩:=ru;show aD _ _ (call (.builtin "str.startswith") _) _ _ _;refine C6 F.slot_str_startswith (ia s _ t) F.entry_str_startswith (F.args_str_startswith_2 _ _) (gives_str_startswith _ _ t t') ?_;replace h:Q (.bl (y.cps.toList.isPrefixOf z.cps.toList)) H:=h;rw[<-MG]at h;exact⟨.bl _,H,I,rfl,h⟩
 case split.str z=>
  cases vs with
  |nil=>
   obtain⟨⟨h1,h2⟩,h⟩:=h;cases rv;obtain⟨t,rfl⟩:=rx;show aD _ _ (call (.builtin "str.split") _) _ _ _;refine IT h1 h2 fun l tk el=>?_;rw[<-el]at h h2;exact⟨.ref s.heap.objs.size,_,I.KN (xX l) (by rw[ah];exact h2),rfl,h _ (I.hok.fresh (aM _))⟩
  |cons c r=>
   cases c<;>first|exact ay h|(cases r<;>first|exact ay h|skip)
   rename_i y;obtain⟨h1,h2,h⟩:=h;obtain⟨u,rfl,ru⟩:=vals1 rv;obtain⟨t,rfl⟩:=rx;obtain⟨t',rfl⟩:=ru;show aD _ _ (call (.builtin "str.split") _) _ _ _;refine KY (by rw[h1];rfl) h2 fun l tk el=>?_;have e1:((dM (y.cps.getD 0 0) z.cps.toList).map fun l=>V.str (strOf l))=(l.map (·.1)).map V.str:=by
    rw[el];have e2:jb z y=jb z ⟨#[y.cps.getD 0 0]⟩:=by rw[<-BS h1]
    rw[e2,Pz,bq];rfl
   rw[e1]at h;have hz:((l.map (·.1)).map V.str).length<=aa:=by
    rw[ah,el];have e2:jb z y=jb z ⟨#[y.cps.getD 0 0]⟩:=by rw[<-BS h1]
    rw[e2];have:=split_weight z ⟨#[y.cps.getD 0 0]⟩ (aM 1);omega
   exact⟨.ref s.heap.objs.size,_,I.KN (xX l) hz,rfl,h _ (I.hok.fresh (aM _))⟩
 case count.str z=>
  cases vs<;>first|exact ay h|skip
  rename_i c r;cases c<;>first|exact ay h|(cases r<;>first|exact ay h|skip)
  rename_i y
  ·obtain⟨h1,h2,h⟩:=h;obtain⟨u,rfl,ru⟩:=vals1 rv;obtain⟨t,rfl⟩:=rx;obtain⟨t',rfl⟩:=ru;show aD _ _ (call (.builtin "str.count") _) _ _ _;refine C6 F.slot_str_count (ia s _ t) F.entry_str_count (F.args_str_count_2 _ _) (gives_str_count _ _ t t') ?_;rw[<-ME,<-BS h1]at h;exact⟨.int _,H,I.tok _,⟨_,rfl⟩,h⟩
 case index.str z=>
  cases vs<;>first|exact ay h|skip
  rename_i c r;cases c<;>first|exact ay h|(cases r<;>first|exact ay h|skip)
  rename_i y
  ·obtain⟨h1,h2,h3,h⟩:=h;obtain⟨u,rfl,ru⟩:=vals1 rv;obtain⟨t,rfl⟩:=rx;obtain⟨t',rfl⟩:=ru;obtain⟨rest,e⟩:=MF z _ h3;rw[<-BS h1]at e;show aD _ _ (call (.builtin "str.index") _) _ _ _;exact C6 F.slot_str_index (ia s _ t) F.entry_str_index (F.args_str_index_2 _ _) (gives_str_index _ _ t t' _ rest e) ⟨.int _,H,I.tok _,⟨_,rfl⟩,h⟩
 case count.ref l=>
  cases vs<;>first|exact ay h|skip
  rename_i c r;cases c<;>first|exact ay h|(cases r<;>first|exact ay h|skip)
  rename_i k
  ·obtain⟨bs,hx,q⟩:=h;obtain⟨u,rfl,ru⟩:=vals1 rv;cases rx;cases ru;obtain⟨its,r,p,_⟩:=I.list (.inl hx:gO X.K H l _);exact IP (PlainL.is p) r ⟨.int _,H,I.tok _,⟨_,rfl⟩,q⟩
 case index.ref l=>
  cases vs<;>first|exact ay h|skip
  rename_i c r;cases c<;>first|exact ay h|(cases r<;>first|exact ay h|skip)
  rename_i k
  ·obtain⟨bs,hx,hk,q⟩:=h;obtain⟨u,rfl,ru⟩:=vals1 rv;cases rx;cases ru;obtain⟨its,r,p,hz⟩:=I.list (.inl hx:gO X.K H l _);exact IQ (PlainL.is p) r (by rw[ah]at hz;exact hz) hk ⟨.int _,H,I.tok _,⟨_,rfl⟩,q⟩
 case join.str z=>
  cases vs<;>first|exact ay h|skip
  rename_i c r;cases c<;>first|exact ay h|(cases r<;>first|exact ay h|skip)
  rename_i a
  ·obtain⟨t,xs,hx,ht,ss,rfl,hz,q⟩:=h;subst ht;obtain⟨u,rfl,ru⟩:=vals1 rv;obtain⟨tt,rfl⟩:=rx;cases ru;obtain⟨its,r,p,_⟩:=I.list hx.JC;refine Jt (PlainL.is p) (GC r) (by have:=eE;omega) fun t' k=>⟨.str _,H,I.tok _,⟨_,rfl⟩,?_⟩;have e:∀(a:Str) (b:List Str),PySem.Txt.join a b=ee a b:=fun a b=>PySem.StrLaws.glued_eq_join a b
   first|(rw[e];exact q)|exact(e _ _▸q)
end
end L3
end
section
namespace L3
open PySem PySem.Spec PyProof.Rows L2
noncomputable def SH(z:Str):It:=⟨fun i _=>i<z.length,fun i H x H'=>H'=H/\∃c,z.cps[i]?=some c/\x=.str ⟨#[c]⟩,fun i _=>z.length<=i⟩
variable{P:bH}{w:bY}{K:PySem.W.Frag}
theorem PC{tg:Expr}(it:Addr)(z:Str)(t:Tok)(T:String)(hT:T="str_ascii_iterator"\/T="str_iterator") :
  Turn P w K tg (SH z) [it] it (fun i h=>h.IsStrIter it T z t i) where
 mem:=by simp
 obj:=fun i h st b hb=>by
  have e:b=it:=by simpa using hb
  subst e;obtain⟨o,e,c,d⟩:=st;exact⟨o,e,fun v z=>by rw[d]at z;cases z⟩
 keep:=fun i h h' st k=>let⟨o,ho,r⟩:=st;⟨o,k it (by simp) o ho,r⟩
 item:=by
  intro X hP hw hK hc i pins s O H E I hf st hg;subst hP hw hK;obtain⟨f0,f1,f2,f3,f4,f5⟩:=hf it (by simp);have hh:X.A.handled=none:=I.ok.hd hc;have W:Walks X.prog X.w X.A it [it] [it] z.cps.size (SignAt z) (fun i h=>h.IsStrIter it T z t i):=by
   rcases hT with rfl|rfl
   ·exact Walks.strAscii hh it z t
   ·exact Walks.strWide hh it z t
  refine W.item i s _ _ hg st fun v h' tk hv st' kk=>?_;obtain⟨c,u,hc,rfl⟩:=hv;have I1:L2.Inv X pins O H { s with heap:=h',toks:=tk }:=I.turned (fun b o hb e=>kk b o (by simpa using hb) e) f0 f1 f3 f4 f5;obtain⟨o,e,c',d⟩:=id st';refine⟨_,rfl,FG (s:={ s with heap:=h',toks:=tk }) (n:=T) e c' d (by rcases hT with rfl|rfl<;>decide) ⟨.str ⟨#[c]⟩,H,I1,⟨u,rfl⟩,⟨rfl,c,hc,rfl⟩,st',fun b hb=>(hf b hb).1⟩⟩
 done:=by
  intro X hP hw hK hc i pins s O H E I hf st hg;subst hP hw hK;obtain⟨f0,f1,f2,f3,f4,f5⟩:=hf it (by simp);have hg:z.cps.size<=i:=hg;have hn:z.cps[i]?=none:=Array.getElem?_eq_none_iff.mpr hg;rcases hT with rfl|rfl
  ·exact wpAny_pyNext_ascii_end (I.ok.hd hc) st hn fun h' eb=>⟨rfl,I.turned (t':=s.toks) (fun b o hb e=>eb b o hb e) f0 f1 f3 f4 f5⟩
  ·exact wpAny_pyNext_wide_end (I.ok.hd hc) st hn fun h' eb=>⟨rfl,I.turned (t':=s.toks) (fun b o hb e=>eb b o hb e) f0 f1 f3 f4 f5⟩
 self:=fun _ _ _ _ _ st h=>by
  rcases hT with rfl|rfl
  ·exact wpAny_pyIter_striter_ascii st h
  ·exact wpAny_pyIter_striter_wide st h
variable{X:Cx}{pins:List (Addr×Obj)}{O:L2.St}{H:Hp}{s:aj}
theorem Inv.zM{H':Hp}{h':Heap}{t':Nat}{ch:List Addr}(I:L2.Inv X pins O H s)(hf:∀b∈ch,mJ X pins H b)(k:∀b o,b∉ch->s.heap.get? b=some o->h'.get? b=some o)
  (free:∀b o,b∉ch->s.heap.get? b=some o->H b=none->H' b=none) (grow:∀b o,H b=some o->H' b=some o) (hok:fW X.prog X.w H' h'):L2.Inv X pins O H' { s with heap:=h',toks:=t' }:=by
 refine I.step (g':=s.gens) (d':=s.drawn) (ch:=ch) (fun b hb=>?_) (fun b o _ _ hc e _=>k b o hc e) (fun b o _ _ hc e _=>⟨o.slots,k b o hc e⟩) free
  (fun b o hc e=>⟨o,k b o hc e⟩) (fun _ _ e=>grow _ _ e) (fun _ _ _ e=>grow _ _ e) (fun b ps e=>⟨#[],by rw[grow _ _ e];simp⟩) (fun m hm=>?_) hok I.bare
 ·obtain⟨f0,f1,f2,f3,f4,f5⟩:=hf b hb;exact⟨f3,f1,f4,f5⟩
 ·obtain⟨o,es,ep,ho,r⟩:=hm;exact⟨o,es,ep,k _ o (fun z=>(hf _ z).2.1 rfl) ho,r⟩
theorem rC{X:Cx}{pins:List (Addr×Obj)}{H:Hp}{h h':Heap}{ch:List Addr}(x:fW X.prog X.w H h)(hf:∀b∈ch,H b=none)(k:∀b o,b∉ch->h.get? b=some o->h'.get? b=some o):fW X.prog X.w H h':=fun b u e=>by
 refine(x b u e).stay (fun c v hc q=>k c v (fun z=>?_) q) (fun _ q=>q) fun _ _ q=>q;rcases hc with rfl|hc
 ·rw[hf c z]at e;cases e
 ·rw[hf c z]at hc;cases hc
noncomputable def Wo(a:Addr):It:=
 ⟨fun i H=>∃xs x,Rd H a (.lst xs)/\xs[i]?=some x,fun i H x H'=>∃p v,H p=none/\x=.ref p/\H'=upd H p (.tup [.int (i:Int),v])/\∀xs,Rd H a (.lst xs)->xs[i]?=some v,fun i H=>∃xs,Rd H a (.lst xs)/\xs.length<=i⟩
variable{elts:List Expr}{pos:Pos}
theorem MH{x1}(a e it:Addr)(hne:e≠it):Turn P w K (.Tuple elts x1 pos) (Wo a) [e,it] e (fun i h=>(∃old,IsEnum h e it (i:Int) old)/\h.IsListIter it a i) where
 mem:=by simp
 obj:=fun i h st b hb=>by
  obtain⟨⟨old,st1⟩,st2⟩:=st;have hb:b=e\/b=it:=by simpa using hb
  rcases hb with rfl|rfl
  ·exact⟨_,st1,fun v z=>by cases z⟩
  ·obtain⟨o,e,c,d⟩:=st2;exact⟨o,e,fun v z=>by rw[d]at z;cases z⟩
 keep:=fun i h h' st k=>by
  obtain⟨⟨old,st1⟩,st2⟩:=st;exact⟨⟨old,k e (by simp) _ st1⟩,st2.at fun o q=>k it (by simp) o q⟩
 item:=by
  intro X hP hw hK hc i pins s O H E I hf st hg;subst hP hw hK;obtain⟨⟨old,st1⟩,st2⟩:=st;obtain⟨xs,x,hq,hx⟩:=hg;obtain⟨its,rv,p,hz⟩:=I.list (.inl hq:gO X.K H a xs);obtain⟨u,hu,ru⟩:=rv.get hx;refine wpAny_pyNext_enum_item st1 st2 p.isList (x:=u) (by simpa using hu) hne fun h1 heo hit1 ht1 hz1 hk1=>?_;refine⟨_,rfl,wpAny_letOwnedTupleGo_enum (s:={ s with heap:=h1,toks:=s.toks+1 }) heo fun h2 he2 hs2=>?_⟩;have hs2:lT e h1 h2:=hs2;have lee:e<s.heap.objs.size:=aP st1;have ne_e:s.heap.objs.size≠e:=oW lee;have ht2:h2.get? s.heap.objs.size=some { cls:=.type "tuple",data:=.seq #[.int i s.toks,u] }:=(hs2.2 _ ne_e).trans ht1;have hk2:∀b o,b∉[e,it]->s.heap.get? b=some o->h2.get? b=some o:=fun b o hb q=>by
   have hb:b≠e/\b≠it:=by simpa using hb
   exact(hs2.2 b hb.1).trans (hk1 b o hb.1 hb.2 q)
  have hn:H s.heap.objs.size=none:=I.hok.fresh (aM _);have hfr:∀b∈[e,it],H b=none:=fun b hb=>(hf b hb).1;have hok2:fW X.prog X.w (upd H s.heap.objs.size (.tup [.int (i:Int),x])) h2:=by
   have h0:fW X.prog X.w H h2:=rC (X:=X) (pins:=pins) I.hok hfr hk2;intro b o q;by_cases hb:b=s.heap.objs.size
   ·subst hb;rw[b6]at q;cases q;refine⟨by show(2:Nat)<=_;have:=eE;omega,[.int (i:Int) s.toks,u],.cons ⟨_,rfl⟩ (.cons ru .nil),⟨_,ht2,rfl,_,rfl⟩⟩
   ·rw[aQ hb]at q;exact(h0 b o q).stay (fun _ _ _ r=>r) (fun c r=>by rw[aQ (cP r hn)];exact r) fun c ys r=>by rw[aQ (cP r hn)];exact r
  have I2:L2.Inv X pins O (upd H s.heap.objs.size (.tup [.int (i:Int),x])) { s with heap:=h2,toks:=s.toks+1 }:=
   Inv.zM (ch:=[e,it]) I hf hk2 (fun b o hb q n=>by rw[aQ (bM (aP q))];exact n) (fun b o q=>by rw[aQ (cP q hn)];exact q) hok2
  refine⟨.ref s.heap.objs.size,_,I2,rfl,⟨_,x,hn,rfl,rfl,fun ys hy=>by rw[I.sC (.inl hy) (.inl hq:gO X.K H a xs)];exact hx⟩,⟨⟨u,?_⟩,?_⟩,fun b hb=>?_⟩
  ·have:((i:Int)+1)=((i+1:Nat):Int):=by omega
   rw[<-this];exact he2
  ·exact hit1.at fun o q=>(hs2.2 it (cY hne)).trans q
  ·have hlt:b<s.heap.objs.size:=by
    have hb:b=e\/b=it:=by simpa using hb
    rcases hb with rfl|rfl
    ·exact lee
    ·obtain⟨o,q,_⟩:=st2;exact aP q
   rw[aQ (bM hlt)];exact hfr b hb
 done:=by
  intro X hP hw hK hc i pins s O H E I hf st hg;subst hP hw hK;obtain⟨⟨old,st1⟩,st2⟩:=st;obtain⟨xs,hq,hx⟩:=hg;obtain⟨its,rv,p,hz⟩:=I.list (.inl hq:gO X.K H a xs);have hl:=rv.length;have hfr:∀b∈[e,it],H b=none:=fun b hb=>(hf b hb).1;refine wpAny_pyNext_enum_end (I.ok.hd hc) st1 st2 p.isList (by simp;omega) fun h' eb=>⟨rfl,?_⟩;have hk:∀b o,b∉[e,it]->s.heap.get? b=some o->h'.get? b=some o:=fun b o hb q=>eb b o (fun z=>hb (by simp[z])) q;exact Inv.zM (t':=s.toks) (ch:=[e,it]) I hf hk (fun _ _ _ _ n=>n) (fun _ _ q=>q) (rC (X:=X) (pins:=pins) I.hok hfr hk)
 self:=fun _ _ _ _ _ st h=>by
  obtain⟨⟨old,st1⟩,_⟩:=st;exact Ac st1 h
structure pH (J:It) (ok:Hp->Prop) (items:List Item):Prop where
 go:∀i H it,ok H->items[i]?=some it->J.go i H
 yld:∀i H it x H',ok H->items[i]?=some it->J.yld i H x H'->∀k,mkItem it H k->k x H'
 stop:∀i H,ok H->items.length<=i->J.stop i H
variable{a:Addr}{xs:List V}
theorem MI:pH (Zb K a) (fun H=>gO K H a xs) (xs.map .v) where
 go:=fun i H it ok hi=>by
  rw[bD]at hi;cases e:xs[i]? with
  |none=>rw[e]at hi;cases hi
  |some x=>exact⟨xs,x,ok,e⟩
 yld:=fun i H it x H' ok hi hy k hk=>by
  obtain⟨rfl,hy⟩:=hy;rw[bD,hy xs ok]at hi;cases hi;exact hk
 stop:=fun i H ok hi=>⟨xs,ok,by rw[ah]at hi;exact hi⟩
theorem xY:∀(xs:List V) (n i:Nat),(m6 n xs)[i]?=(xs[i]?).map fun x=>Item.tup [.int ((n+i:Nat):Int),x]
|[],n,i=>by simp[m6]
|x::r,n,0=>by simp[m6]
|x::r,n,i+1=>by
 simp only[m6,mH,xY r (n+1) i];have:n+1+i=n+(i+1):=by omega
 rw[this]
theorem Ej:∀(xs:List V) (n:Nat),(m6 n xs).length=xs.length
|[],_=>rfl
|x::r,n=>by simp[m6,Ej r (n+1)]
theorem MJ:pH (Wo a) (fun H=>Rd H a (.lst xs)) (m6 0 xs) where
 go:=fun i H it ok hi=>by
  rw[xY]at hi;cases e:xs[i]? with
  |none=>rw[e]at hi;cases hi
  |some x=>exact⟨xs,x,ok,e⟩
 yld:=fun i H it x H' ok hi hy k hk=>by
  obtain⟨p,v,hp,rfl,rfl,hy⟩:=hy;rw[xY,hy xs ok,l6]at hi;cases hi;exact hk p hp
 stop:=fun i H ok hi=>⟨xs,ok,by rw[Ej]at hi;exact hi⟩
theorem PD:pH (Zc K a) (fun H=>qS K H a xs) (xs.map .v) where
 go:=fun i H it ok hi=>by
  rw[bD]at hi;cases e:xs[i]? with
  |none=>rw[e]at hi;cases hi
  |some x=>exact⟨xs,x,ok,e⟩
 yld:=fun i H it x H' ok hi hy k hk=>by
  obtain⟨rfl,hy⟩:=hy;rw[bD,hy xs ok]at hi;cases hi;exact hk
 stop:=fun i H ok hi=>⟨xs,ok,by rw[ah]at hi;exact hi⟩
theorem PF{z:Str}:pH (SH z) (fun _=>True) ((chars z).map .v) where
 go:=fun i H it ok hi=>by
  have:=(bZ.mp hi).1;have:i<z.length:=by simpa[chars,f9]using this
  exact this
 yld:=fun i H it x H' ok hi hy k hk=>by
  obtain⟨rfl,c,hc,rfl⟩:=hy;unfold chars at hi;rw[bq,bD,vH,hc]at hi;cases hi;exact hk
 stop:=fun i H ok hi=>by
  have:z.length<=i:=by simpa[chars,f9]using hi
  exact this
variable{lo:Int}{n:Nat}
theorem K0:pH (Ss lo n) (fun _=>True) ((bS n).map fun(i:Nat)=>Item.v (.int (lo+(i:Int)))) where
 go:=fun i H it ok hi=>by
  have:=(bZ.mp hi).1;have:i<n:=by simpa using this
  exact this
 yld:=fun i H it x H' ok hi hy k hk=>by
  obtain⟨rfl,rfl⟩:=hy;have hl:=(bZ.mp hi).1;have hl:i<n:=by simpa using hl
  rw[bD,xJ hl]at hi;cases hi;exact hk
 stop:=fun i H ok hi=>by
  have:n<=i:=by simpa using hi
  exact this
variable{J:It}{ok:Hp->Prop}{items:List Item}
theorem pH.mono{ok':Hp->Prop}(h:pH J ok items)(m:∀H,ok' H->ok H):pH J ok' items:=
 ⟨fun i H it o=>h.go i H it (m H o),fun i H it x H' o=>h.yld i H it x H' (m H o),fun i H o=>h.stop i H (m H o)⟩
theorem PJ{g:TG}{body:TS}{D:Ends}(hJ:pH J ok items)(h:forL ok g body D items O H) :
  ∃W:Nat->Nat->L2.St->Hp->Prop,(∃m,W 0 m O H)/\∀i m O H,W i m O H->
   (J.stop i H/\D.nx O H)\/(J.go i H/\∃N:L2.St->Hp->Prop,(∀σ' H',N σ' H'->∃m',m'<m/\W (i+1) m' σ' H')/\∀x H',J.yld i H x H'->g x O H' fun σ2 H2=>body { D with nx:=N,ct:=N,bk:=D.nx } σ2 H2):=by
 refine⟨fun i m O H=>m=items.length-i/\i<=items.length/\forL ok g body D (items.drop i) O H,⟨items.length,by simp,mX _,by simpa using h⟩,?_⟩;rintro i m O H ⟨rfl,hi,p⟩;by_cases hlt:i<items.length
 ·rw[rT hlt]at p;obtain⟨hok,p⟩:=p;have e:items[i]?=some items[i]:=aA hlt;refine .inr ⟨hJ.go i H _ hok e,forL ok g body D (items.drop (i+1)),fun σ' H' p'=>⟨items.length-(i+1),by omega,rfl,hlt,p'⟩,fun x H' y=>?_⟩;exact hJ.yld i H _ x H' hok e y _ p
 ·rw[ig (by omega)]at p;obtain⟨hok,p⟩:=p;exact .inl ⟨hJ.stop i H hok (by omega),p⟩
variable{iter:Expr}
variable{e:Expr}{te:TE}
variable{E:Value->aj->Prop}
variable{tp p:Pos}
variable{es:List Expr}
section
variable{X:Cx}{tg:Expr}
def PK(X:Cx)(pins:List (Addr×Obj))(O:L2.St)(tg:Expr)(k:(Hp->Prop)->List Item->Hp->Prop)(itv:Value)(s2:aj):Prop:=
 ∃(it:Addr) (fp:List Addr) (tn:Nat->Heap->Prop) (J:It) (H':Hp),itv=.ref it/\L2.Inv X pins O H' s2/\Turn X.prog X.w X.K tg J fp it tn/\tn 0 s2.heap/\(∀b∈fp,mJ X pins H' b)/\∃ok items,pH J ok items/\k ok items H'
def Ek(X:Cx)(tg iter:Expr)(wi:SD):Prop:=
 ∀(pins:List (Addr×Obj)) (s:aj) (O:L2.St) (H:Hp) (k:(Hp->Prop)->List Item->Hp->Prop),L2.Inv X pins O H s->wi O H k->
  aD (aH X.prog X.w) X.A (eval iter X.env) (fun v s1=>aD (aH X.prog X.w) X.A (vC v) (PK X pins O tg k) X.xe s1) X.xe s
theorem Ym{body:List Stmt}{wi:SD}{g:TG}{tb:TS}(hp:ue (aH X.prog X.w) X.A X.env X.xe)(hc:X.calm=true)(hi:Ek X tg iter wi)(hg:PG X tg g)(hb:nY X body tb)
  (hs:∀x,jZ iter X.env x=pure x):PS X (.For tg iter body [] pos) (fun D O H=>wi O H fun ok items H1=>forL ok g tb D items O H1):=by
 intro pins s O H D I h;have hI:PI X tg iter (fun σ0 H0 R=>wi σ0 H0 (fun ok items H1=>forL ok g tb D items O H1)/\∀ok items H1 J,forL ok g tb D items O H1->pH J ok items->R J H1):=by
  intro pins' s' σ' H' R I' h';refine aT (hi pins' s' σ' H' _ I' h'.1) fun v s1 h1=>aT h1 fun itv s2 h2=>?_;obtain⟨it,fp,tn,J,H2,e,I2,T,st,hf,ok,items,hJ,hk⟩:=h2;exact⟨it,fp,tn,J,H2,e,I2,T,st,hf,h'.2 ok items H2 J hk hJ⟩
 exact VO hp hc hI hg hb hs pins s O H D I ⟨h,fun ok items H1 J hk hJ=>PJ hJ hk⟩
theorem Ui(he:PE X e te):Ek X tg e (fun O H k=>te O H fun x H1=>Dj X.K x H1 k):=by
 intro pins s O H k I h;refine aT (he pins s O H _ I h) fun v s1 ⟨x,H1,I1,r1,q1⟩=>?_;cases x with
 |str z=>
  obtain⟨t,rfl⟩:=r1;obtain⟨hz,q⟩:=q1;have fin:∀T,T="str_ascii_iterator"\/T="str_iterator"->PK X pins O tg k (.ref s1.heap.objs.size) { s1 with heap:=s1.heap.push { cls:=.type T,data:=.fields #[.str z t,.int 0 0] } }:=fun T hT=>by
   refine⟨s1.heap.objs.size,[s1.heap.objs.size],_,_,H1,rfl,I1.kept (t':=s1.toks) fun b o e=>aJ _ e,PC s1.heap.objs.size z t T hT,⟨_,bL _ rfl,rfl,rfl⟩,fun b hb=>?_,_,_,PF,q⟩;have e:b=s1.heap.objs.size:=by simpa using hb
   subst e;exact I1.qJ (aM _) (I1.hok.fresh (aM _))
  cases ha:z.cps.all (·<128)
  ·exact wpAny_pyIter_wide ha (fin _ (.inr rfl))
  ·exact wpAny_pyIter_ascii ha (fin _ (.inl rfl))
 |ref a=>
  obtain⟨t,xs,hx,q⟩:=q1;cases r1;rcases hx.sq with⟨rfl,z⟩|⟨rfl,z⟩
  ·obtain⟨its,rv,p,hz⟩:=I1.list z;refine qZ p.isList ?_;refine⟨s1.heap.objs.size,[s1.heap.objs.size],_,_,H1,rfl,I1.kept (t':=s1.toks) fun b o e=>aJ _ e,Ml a _,⟨_,bL _ rfl,rfl,rfl⟩,fun b hb=>?_,fun H'=>gq X.K H' a false xs,_,MI.mono fun H' o=>?_,q⟩
   ·have e:b=s1.heap.objs.size:=by simpa using hb
    subst e;exact I1.qJ (aM _) (I1.hok.fresh (aM _))
   ·rcases o.sq with⟨_,z⟩|⟨hf,_⟩
    ·exact z
    ·cases hf
  ·obtain⟨its,rv,p,hz⟩:=I1.tuple z;refine wpAny_pyIter_tuple (show s1.heap.IsTuple a its.toArray from p) ?_;refine⟨s1.heap.objs.size,[s1.heap.objs.size],_,_,H1,rfl,I1.kept (t':=s1.toks) fun b o e=>aJ _ e,Kz a _,⟨_,bL _ rfl,rfl,rfl⟩,fun b hb=>?_,fun H'=>gq X.K H' a true xs,_,PD.mono fun H' o=>?_,q⟩
   ·have e:b=s1.heap.objs.size:=by simpa using hb
    subst e;exact I1.qJ (aM _) (I1.hok.fresh (aM _))
   ·rcases o.sq with⟨hf,_⟩|⟨_,z⟩
    ·cases hf
    ·exact z
 |_=>exact ay q1
theorem range_it'{k:(Hp->Prop)->List Item->Hp->Prop}{hi:Int}{t u v:Tok}{tk:Nat}(I:L2.Inv X pins O H s)(h1:-(2 ^ 62)<=lo)(h2:lo<2 ^ 62)(h3:-(2 ^ 62)<=hi)(h4:hi<2 ^ 62)
  (q:k (fun _=>True) ((bS (hi-lo).toNat).map fun(i:Nat)=>Item.v (.int (lo+(i:Int)))) H) :
  aD (aH X.prog X.w) X.A (vC (.ref s.heap.objs.size)) (PK X pins O tg k) E { s with heap:=s.heap.push { cls:=.type "range",data:=.fields #[.int lo t,.int hi u,.int 1 v] },toks:=tk }:=by
 refine aT (Pd (tg:=tg) (R:=fun J H'=>J=Ss lo (hi-lo).toNat/\H'=H) I h1 h2 h3 h4 ⟨rfl,rfl⟩) fun itv s2 h=>?_;obtain⟨it,fp,tn,J,H',e,I2,T,st,hf,rfl,rfl⟩:=h;exact⟨it,fp,tn,_,H',e,I2,T,st,hf,_,_,K0,q⟩
theorem PL{x1:Nat}(hg:Gl X "enumerate")(hm:X.mg "enumerate"=none)(he:PE X e te)(hs:cV [e] X.env=[(false,eval e X.env)]) :
  Ek X (.Tuple elts x1 tp) (.Call (.Name "enumerate" p) [e] [] pos) (fun O H k=>te O H fun x H1=>match x with
   |.ref b=>∃xs,Rd H1 b (.lst xs)/\k (fun H'=>Rd H' b (.lst xs)) (m6 0 xs) H1
   |_=>False):=by
 intro pins s O H k I h;have ha:=Dd he Gb hs;refine Call_ (nZ I hg hm boot_enumerate (fV (aT (ha pos pins s O H (fun vs H1=>match vs with
   |[x]=>(match x with
    |.ref b=>∃xs,Rd H1 b (.lst xs)/\k (fun H'=>Rd H' b (.lst xs)) (m6 0 xs) H1
    |_=>False)
   |_=>False) I h) fun us s1 ⟨vs,H1,I1,r1,q⟩=>?_) hs rfl))
 match vs,r1,q with
 |[],r1,q=>exact q.elim
 |_::_::_,r1,q=>exact q.elim
 |[x],r1,q=>
  obtain⟨u,rfl,ru⟩:=vals1 r1;cases x with
  |ref b=>
   cases ru;obtain⟨xs,hx,q⟩:=q;obtain⟨its,rv,pl,hz⟩:=I1.list (.inl hx:gO X.K H1 b xs);refine call_enumerate_list pl.isList fun h' he' hi' hz' hk'=>?_;refine Ac (s:={ s1 with heap:=h' }) he' ?_;refine⟨s1.heap.objs.size+1,[s1.heap.objs.size+1,s1.heap.objs.size],_,_,H1,rfl,I1.kept (t':=s1.toks) hk',MH b _ _ (Nat.succ_ne_self _),⟨⟨_,he'⟩,hi'⟩,fun c hc=>?_,_,_,MJ,q⟩;have hc:c=s1.heap.objs.size+1\/c=s1.heap.objs.size:=by simpa using hc
   rcases hc with rfl|rfl
   ·exact I1.qJ (jV _) (I1.hok.fresh (jV _))
   ·exact I1.qJ (aM _) (I1.hok.fresh (aM _))
  |_=>exact ay q
theorem MK{ta:TA}(hg:Gl X "range")(hm:X.mg "range"=none)(ha:PA X (e::es) ta)(he:cV (e::es) X.env=(false,eval e X.env)::cV es X.env)(hpl:(kP pos (cV es X.env)).any (·.1)=false) :
  Ek X tg (.Call (.Name "range" p) (e::es) [] pos) (fun O H k=>ta O H fun vs H1=>xV vs H1 k):=by
 intro pins s O H k I h;refine Call_ (nZ I hg hm boot_range (fV (aT (ha pos pins s O H _ I h) fun us s1 ⟨vs,H1,I1,r1,q⟩=>?_) he hpl));have q:xV vs H1 k:=q;unfold xV at q;split at q
 ·obtain⟨⟨q1,q2⟩,q⟩:=q;obtain⟨u,rfl,ru⟩:=vals1 r1;obtain⟨t,rfl⟩:=ru;refine call_range_1 (range_it' I1 (by omega) (by omega) q1 q2 ?_);simpa using q
 ·obtain⟨⟨q1,q2,q3,q4⟩,q⟩:=q;obtain⟨u,u',rfl,ru,ru'⟩:=vals2 r1;obtain⟨t,rfl⟩:=ru;obtain⟨t',rfl⟩:=ru';exact call_range_2 (range_it' I1 q1 q2 q3 q4 q)
 ·exact q.elim
end
section
variable{P:bH}{w:bY}{H:Hp}{h h':Heap}{a:Addr}{o:HO}
theorem ML(x:fW P w H h)(hn:H a=none)(new:gj P w (upd H a o) h a o):fW P w (upd H a o) h:=fun b u e=>by
 by_cases hb:b=a
 ·subst hb;rw[b6]at e;cases e;exact new
 ·rw[aQ hb]at e;exact(x b u e).stay (fun c v _ q=>q) (fun c q=>by rw[aQ (cP q hn)];exact q) fun c xs q=>by rw[aQ (cP q hn)];exact q
end
noncomputable def pJ(cells:List (Str×Addr)):List (Str×jo)->List (Str×Addr)->List (Str×Addr)
|[],acc=>acc
|(n,k)::r,acc=>if(k==.free)=true then(match cells.lookup n with|some c=>pJ cells r ((n,c)::acc)|none=>pJ cells r acc)else pJ cells r acc
variable{env:Env}
theorem vS:∀(names:List (Str×jo)) (acc:List (Str×Addr)),(∀n,(n,cB)∈names->∃c,env.cells.lookup n=some c)->
 (forIn names acc fun(x:Str×jo) (r:List (Str×Addr))=>(match x with
  |(name,kind)=>if(kind==.free)=true then(do let a <-OU env name;pure (jO ((name,a)::r)))else pure (jO r):Sem (ForInStep (List (Str×Addr)))))=pure (pJ env.cells names acc)
|[],acc,_=>rfl
|(n,k)::r,acc,hn=>by
 rw[List.forIn_cons];have hr:∀m,(m,cB)∈r->∃c,env.cells.lookup m=some c:=fun m hm=>hn m (ai _ hm);unfold pJ;by_cases hk:(k==cB)=true
 ·have e:k=.free:=by simpa using hk
  subst e;obtain⟨c,hc⟩:=hn n ao;have hco:OU env n=pure c:=by unfold OU;rw[hc]
  simp only[hc,hco,beq_self_eq_true,if_true];exact vS r _ hr
 ·simp only[hk,if_false];exact vS r _ hr
variable{scope:fS}
theorem wZ(h:∀n,(n,cB)∈scope.names->∃c,env.cells.lookup n=some c):L_ scope env=pure (pJ env.cells scope.names []):=by
 have e:=vS (env:=env) scope.names [] h;unfold L_;exact Eq.trans (congrArg (fun t=>t >>= fun cs=>pure cs) e) rfl
variable{cells:List (Str×Addr)}
theorem vU:∀(names:List (Str×jo)) (acc:List (Str×Addr)),(∀x c,acc.lookup x=some c->cells.lookup x=some c)->∀x c,(pJ cells names acc).lookup x=some c->cells.lookup x=some c
|[],acc,h=>h
|(n,k)::r,acc,h=>by
 unfold pJ;by_cases hk:(k==cB)=true
 ·simp only[hk,if_true];cases hc:cells.lookup n with
  |none=>exact vU r acc h
  |some c=>
   refine vU r _ fun x d hx=>?_;rw[cJ]at hx;cases e:x==n with
   |true=>
    rw[e]at hx;have:x=n:=by simpa using e
    subst this;cases hx;exact hc
   |false=>rw[e]at hx;exact h x d hx
 ·simp only[hk,if_false];exact vU r acc h
theorem sJ:∀(names:List (Str×jo)) (acc:List (Str×Addr)) (x:Str),((∃c,acc.lookup x=some c)\/((x,cB)∈names/\∃c,cells.lookup x=some c))->∃c,(pJ cells names acc).lookup x=some c
|[],acc,x,h=>by
 rcases h with h|⟨h,_⟩
 ·exact h
 ·cases h
|(n,k)::r,acc,x,h=>by
 unfold pJ;by_cases hk:(k==cB)=true
 ·simp only[hk,if_true];have ek:k=.free:=by simpa using hk
  subst ek;cases hc:cells.lookup n with
  |none=>
   refine sJ r acc x ?_;rcases h with h|⟨h,h2⟩
   ·exact .inl h
   ·rcases aF.mp h with e|h
    ·cases e;obtain⟨c,hc2⟩:=h2;rw[hc]at hc2;cases hc2
    ·exact .inr ⟨h,h2⟩
  |some c=>
   refine sJ r _ x ?_;by_cases e:x=n
   ·subst e;exact .inl ⟨c,by rw[cJ];simp⟩
   ·rcases h with⟨d,h⟩|⟨h,h2⟩
    ·exact .inl ⟨d,by rw[cJ,beq_eq_false_iff_ne.mpr e];exact h⟩
    ·rcases aF.mp h with q|h
     ·cases q;exact absurd rfl e
     ·exact .inr ⟨h,h2⟩
 ·simp only[hk,if_false];refine sJ r acc x ?_;rcases h with h|⟨h,h2⟩
  ·exact .inl h
  ·rcases aF.mp h with e|h
   ·cases e;exact absurd rfl hk
   ·exact .inr ⟨h,h2⟩
variable{α:Type}{x:Str}
theorem om{m:Str}{n c:α}{acc:List (Str×α)}(h:((m,n)::acc).lookup x=some c):(x=m/\c=n)\/((x=m->False)/\acc.lookup x=some c):=by
 rw[cJ]at h;cases e:x==m with
 |true=>
  rw[e]at h;exact .inl ⟨by simpa using e,(bJ h).symm⟩
 |false=>
  rw[e]at h;exact .inr ⟨fun z=>by rw[z]at e;simp at e,h⟩
theorem vV:∀(names:List (Str×jo)) (n:Nat) (acc:List (Str×Addr)) (x:Str) (c:Addr),(eL n names acc).lookup x=some c->(n<=c/\(x,cL)∈names)\/((x,cL)∉names/\acc.lookup x=some c)
|[],_,_,_,_,h=>.inr ⟨(fun z=>nomatch z),h⟩
|(m,k)::r,n,acc,x,c,h=>by
 unfold eL at h;by_cases hk:(k==cL)=true
 ·rw[if_pos hk]at h;have ek:k=.cell:=by simpa using hk
  subst ek;rcases vV r (n+1) _ x c h with⟨h1,h2⟩|⟨h1,h2⟩
  ·exact .inl ⟨by omega,ai _ h2⟩
  ·rcases om h2 with⟨e1,e2⟩|⟨e1,e2⟩
   ·subst e1;subst e2;exact .inl ⟨aM _,ao⟩
   ·refine .inr ⟨fun z=>?_,e2⟩;rcases aF.mp z with q|q
    ·cases q;exact e1 rfl
    ·exact h1 q
 ·rw[if_neg hk]at h;rcases vV r n acc x c h with⟨h1,h2⟩|⟨h1,h2⟩
  ·exact .inl ⟨h1,ai _ h2⟩
  ·refine .inr ⟨fun z=>?_,h2⟩;rcases aF.mp z with q|q
   ·cases q;exact hk rfl
   ·exact h1 q
theorem A2:∀(names:List (Str×jo)) (n:Nat) (acc:List (Str×Addr)) (x:Str),(x,cL)∉names->(eL n names acc).lookup x=acc.lookup x
|[],_,_,_,_=>rfl
|(m,k)::r,n,acc,x,h=>by
 unfold eL;by_cases hk:(k==cL)=true
 ·rw[if_pos hk,A2 r _ _ x fun z=>h (ai _ z),cJ];have ek:k=.cell:=by simpa using hk
  have ne:(x==m)=false:=beq_eq_false_iff_ne.mpr fun z=>h (by rw[z,ek];exact ao);rw[ne]
 ·rw[if_neg hk];exact A2 r _ _ x fun z=>h (ai _ z)
theorem Dn:∀(names:List (Str×jo)) (n:Nat) (acc:List (Str×Addr)) (x:Str),(x,cL)∈names\/(∃c,acc.lookup x=some c)->∃c,(eL n names acc).lookup x=some c
|[],_,_,_,h=>by
 rcases h with h|h
 ·cases h
 ·exact h
|(m,k)::r,n,acc,x,h=>by
 unfold eL;by_cases hk:(k==cL)=true
 ·rw[if_pos hk];refine Dn r _ _ x ?_;by_cases e:x=m
  ·subst e;exact .inr ⟨n,by rw[cJ];simp⟩
  ·rcases h with h|⟨c,h⟩
   ·rcases aF.mp h with q|q
    ·cases q;exact absurd rfl e
    ·exact .inl q
   ·exact .inr ⟨c,by rw[cJ,beq_eq_false_iff_ne.mpr e];exact h⟩
 ·rw[if_neg hk];refine Dn r _ _ x ?_;rcases h with h|h
  ·rcases aF.mp h with q|q
   ·cases q;exact absurd rfl hk
   ·exact .inl q
  ·exact .inr h
theorem Dp:∀(names:List (Str×jo)) (n:Nat) (acc:List (Str×Addr)),(∀x c,acc.lookup x=some c->c<n)->(∀x y c,acc.lookup x=some c->acc.lookup y=some c->x=y)->∀x y c,(eL n names acc).lookup x=some c->(eL n names acc).lookup y=some c->x=y
|[],_,_,_,h=>h
|(m,k)::r,n,acc,hb,h=>by
 unfold eL;by_cases hk:(k==cL)=true
 ·rw[if_pos hk];refine Dp r _ _ (fun x c hx=>?_) fun x y c hx hy=>?_
  ·rcases om hx with⟨_,e⟩|⟨_,e⟩
   ·rw[e];exact jq _
   ·exact j3 (hb x c e)
  ·rcases om hx with⟨e1,e2⟩|⟨_,e2⟩<;>rcases om hy with⟨e3,e4⟩|⟨_,e4⟩
   ·rw[e1,e3]
   ·exact absurd (hb y c e4) (by rw[e2];exact d8 _)
   ·exact absurd (hb x c e2) (by rw[e4];exact d8 _)
   ·exact h x y c e2 e4
 ·rw[if_neg hk];exact Dp r n acc hb h
theorem A3:∀(names:List (Str×jo)) (h:Heap) (acc:List (Str×Addr)) (x:Str) (c:Addr),(eL h.objs.size names acc).lookup x=some c->(pushCells h names).IsCell c none\/acc.lookup x=some c
|[],_,_,_,_,e=>.inr e
|(m,k)::r,h,acc,x,c,e=>by
 unfold eL at e;unfold pushCells;by_cases hk:(k==cL)=true
 ·rw[if_pos hk]at e ⊢;have e':(eL (h.push { cls:=.type "cell",data:=.cell none }).objs.size r ((m,h.objs.size)::acc)).lookup x=some c:=by rw[fL];exact e
  rcases A3 r _ _ x c e' with q|q
  ·exact .inl q
  ·rcases om q with⟨_,e2⟩|⟨_,e2⟩
   ·subst e2;exact .inl ⟨_,uq r _ _ _ (bL _ rfl),rfl⟩
   ·exact .inr e2
 ·rw[if_neg hk]at e ⊢;exact A3 r h acc x c e
theorem PM{M:LX}{A:dF}{closure:List (Str×Addr)}{Q:Env->aj->Prop}
  (hQ:∀h',h'.Ns s.heap.objs.size (fun _=>none)->(∀b o,s.heap.get? b=some o->h'.get? b=some o)->(∀x c,(eL (s.heap.objs.size+1) scope.names closure).lookup x=some c->h'.IsCell c none\/closure.lookup x=some c)->
   Q { scope,locals:=s.heap.objs.size,globals:=env.globals,cells:=eL (s.heap.objs.size+1) scope.names closure,qual:=env.qual,func:=none,code:=env.code,frame:=env.frame,builtins:=env.builtins } { s with heap:=h' }) :
  aD M A (vJ scope env.globals closure [] env.qual none .none (some env)) Q E s:=by
 simp only[vJ,zw,if_true];refine au (Jq ?_);refine au (wpAny_layCells _ (fun name kind cells=>by cases hkc:kind==cL<;>simp[hkc]) _ _ _ _ ?_);have hc:=A3 scope.names (s.heap.push { cls:=.type "dict",data:=.dict #[] }) closure;rw[fL]at hc;rw[show({ s with heap:=s.heap.push { cls:=.type "dict",data:=.dict #[] } }:aj).heap.objs.size=s.heap.objs.size+1 from fL ..];rw[List.forIn_nil];exact au (a7 (a7 (hQ _ ((XI s.heap (.type "dict")).keeps (uq _ _)) (fun b o e=>uq _ _ b o (aJ _ e)) hc)))
noncomputable def ly(X:Cx)(N:List Str)(scope:fS)(C:Addr)(aax:aj)(aaI:Hp)(ex:List Addr):Cx where
 prog:=X.prog
 w:=X.w
 K:=X.K
 mg:=X.mg
 base:=X.base
 A:=X.A
 N:=N
 aax:=aax
 aaI:=aaI
 env:=compEnvC scope (eL (C+1) scope.names (pJ X.env.cells scope.names [])) C X.env
 outer:=X.stack
 stack:=X.stack
 ex:=ex
 fn:=fun x=>scope.names.lookup x==some .cell
 calm:=X.calm
 pn:=[]
 xe:=fun _ _=>False
def JF(X:Cx)(ifs:List Expr)(t:TT):Prop:=
 ∀(pins:List (Addr×Obj)) (s:aj) (O:L2.St) (H:Hp) (Q:Bool->Hp->Prop),L2.Inv X pins O H s->t O H Q->
  aD (aH X.prog X.w) X.A (forIn ifs true fun c r=>if r=true then do let ok <-tw c X.env (eval c X.env);pure (jO ok)else pure (jO r)) (TP X pins O Q) X.xe s
theorem Uj:JF X [] (fun _ H Q=>Q true H):=fun _ _ _ H _ I h=>wpAny_tests_nil ⟨H,I,h⟩
variable{c:Expr}
theorem Uk{t:TT}(h:PT X c t):JF X [c] t:=fun pins s O H Q I q=>wpAny_tests_one (h pins s O H Q I q)
section
variable{prog:bH}{w:bY}{A:dF}{R:CM->aj->Prop}{s:aj}
theorem MM{elt target:Expr}{ifs:List Expr}{it acc:Value}(I:Nat->aj->Prop)
  (turn:∀n s,I n s->aD (aH prog w) A (CJ it) (fun r aaz=>match r with
   |none=>R (.ok .next) aaz
   |some v=>aD (aH prog w) A (oY target it v) (fun _ aaB=>aD (aH prog w) A (qH target env v) (fun _ aaF=>
     aD (aH prog w) A (forIn ifs true fun c r=>if r=true then do let ok <-tw c env (eval c env);pure (jO ok)else pure (jO r))
      (fun ok aaK=>if ok=true then aD (aH prog w) A (eval elt env) (fun x aaZ=>aD (aH prog w) A (call (.builtin "list.append") [acc,x]) (fun _ aa0=>∃m,m<n/\I m aa0) (fun _ _=>False) aaZ) (fun _ _=>False) aaK
       else ∃m,m<n/\I m aaK) (fun _ _=>False) aaF) (fun _ _=>False) aaB) (fun _ _=>False) aaz) (fun _ _=>False) s)
  (n:Nat) (h:I n s):kg (aH prog w) A (.compLoop (.ListComp elt [⟨target,iter,ifs,0⟩] scope pos) 0 it acc env) R s:=by
 refine codeAny_loop rfl I (fun n s hI=>?_) n h;show aD _ A ((compTurn (.ListComp elt [⟨target,iter,ifs,0⟩] scope pos) 0 it acc env).onRaise (fun x=>do E8 x env;theTreesLotGoes x)) _ _ s;refine wpAny_noted (wpAny_noRaise ?_);rw[compTurn_list];refine au (nv (au (aT (turn n s hI) fun r aaz aaD=>?_)));cases r with
 |none=>exact a7 aaD
 |some v=>
  refine au (aT aaD fun _ aaB aaL=>au (aT aaL fun _ aaF aaJ=>au (aT aaJ fun ok aaK aa1=>?_)));cases ok with
  |false=>exact a7 ⟨rfl,aa1⟩
  |true=>exact au (au (aT aa1 fun x aaZ aa5=>au (aT aa5 fun _ aa0 aa6=>a7 (a7 ⟨rfl,aa6⟩))))
end
noncomputable abbrev pK(its:List Value)(n:Nat):Obj:={ cls:=.type "list",data:=.seq its.toArray n }
section
variable{X:Cx}{pins:List (Addr×Obj)}{O:L2.St}{H:Hp}{aaB:aj}{tgt iter elt:Expr}{ifs:List Expr}{scope:fS}{pos:Pos}{N:List Str}{σ':L2.St}{it:Addr}{fp:List Addr}{tn:Nat->Heap->Prop}{J:It}
 {ok:Hp->Prop}{items:List Item}{g:TG}{cond:TT}{te:TE}{k:List V->Hp->Prop}{E:Value->aj->Prop}{RR:Value->Addr->CM->aj->Prop}
theorem BU(hc:X.calm=true)(I:L2.Inv X pins O H aaB)(T:Turn X.prog X.w X.K tgt J fp it tn)(st:tn 0 aaB.heap)(hf:∀b∈fp,mJ X pins H b)(hJ:pH J ok items)
  (hcell:∀y∈scope.names,y.2=.free->(y.1,cL)∉scope.names) (hkind:scope.kind=.function) (hfree:∀n,(n,cB)∈scope.names->∃c,X.env.cells.lookup n=some c) (hlen:σ'.length=N.length)
  (hσ:∀(i:Nat) (x:Str) (v:V),N[i]?=some x->σ'[i]?=some (some v)->(x,cB)∈scope.names/\(mF scope X.env).names.lookup x≠some .local/\∃c u,X.env.cells.lookup x=some c/\RelV v u/\aaB.heap.IsCell c (some u))
  (hvis:∀x,(mF scope X.env).names.lookup x=some .cell\/(mF scope X.env).names.lookup x=some .free->(x,cB)∈scope.names\/(x,cL)∈scope.names)
  (hg:∀(C:Addr) (aax:aj) (ex:List Addr),PG (ly X N scope C aax H ex) tgt g)
  (ht:∀(C:Addr) (aax:aj) (ex:List Addr),JF (ly X N scope C aax H ex) ifs cond)
  (he:∀(C:Addr) (aax:aj) (ex:List Addr),PE (ly X N scope C aax H ex) elt te)
  (h:rB ok g cond te k items [] σ' H)
  (hRR:∀D C s' H2 vs,H2 D=none->k vs H2->L2.Inv X pins O (upd H2 D (.lst vs)) s'->mJ X pins (upd H2 D (.lst vs)) C->(∃m,s'.heap.Ns C m)->RR (.ref D) C (.ok .next) s') :
  aD (aH X.prog X.w) X.A (newList []) (fun acc aaF=>aD (aH X.prog X.w) X.A (vJ scope X.env.globals (pJ X.env.cells scope.names []) [] X.env.qual none .none (some X.env)) (fun cenv aaK=>
   kg (aH X.prog X.w) X.A (.compStart (.ListComp elt [⟨tgt,iter,ifs,0⟩] scope pos) 0 (.ref it) acc { cenv with scope:=mF scope X.env }) (RR acc cenv.locals) aaK) E aaF) E aaB:=by
 refine Ab (PM fun aaD aaP aaQ aaR=>?_);dsimp only at aaP aaQ aaR ⊢;generalize aaN:({ aaB with heap:=aaB.heap.push { cls:=.type "list",dict:=none,data:=.seq ([]:List Value).toArray } }:aj)=aax at aaP aaQ aaR ⊢;have aaS:aax.heap=aaB.heap.push { cls:=.type "list",dict:=none,data:=.seq ([]:List Value).toArray }:=by rw[<-aaN]
 have hH2:aaB.heap.push { cls:=.type "list",dict:=none,data:=.seq ([]:List Value).toArray }=aax.heap:=aaS.symm;have eos:aax.os=aaB.os:=by rw[<-aaN]
 have egn:aax.gens=aaB.gens:=by rw[<-aaN]
 have etk:aax.toks=aaB.toks:=by rw[<-aaN]
 rw[hH2]at aaP aaQ aaR ⊢;have hsz:aax.heap.objs.size=aaB.heap.objs.size+1:=by rw[aaS,fL]
 generalize hD:aaB.heap.objs.size=D at *;generalize hC:aax.heap.objs.size=C at *;have hDC:D≠C:=by rw[hsz];exact bM (jq _)
 have up:∀b o,aaB.heap.get? b=some o->aax.heap.get? b=some o:=fun b o e=>by rw[aaS];exact aJ _ e
 have lt2:∀b o,aaB.heap.get? b=some o->b<D:=fun b o e=>by rw[<-hD];exact aP e
 have up1:∀b o,aax.heap.get? b=some o->aaD.get? b=some o:=aaQ;have aa7:aax.heap.get? D=some (pK [] 0):=by rw[aaS,<-hD];exact bL _ rfl
 have fpD:∀b∈fp,b<D:=fun b hb=>by obtain⟨o,e,_⟩:=T.obj 0 _ st b hb;exact lt2 b o e
 have cellD:∀x c,X.env.cells.lookup x=some c->c<D:=fun x c e=>by obtain⟨v,q⟩:=I.cell x c e;obtain⟨o,ho,_⟩:=q;exact lt2 c o ho
 have DltC:D<C:=by rw[hsz];exact jq _
 have fpC:∀b∈fp,b≠C:=fun b hb=>bM (l7 (fpD b hb) DltC);have fpnD:∀b∈fp,b≠D:=fun b hb=>bM (fpD b hb);have freshH:∀b,D<=b->H b=none:=fun b hb=>I.hok.fresh (by rw[hD];exact hb)
 let ex:=D::fp
 let X':=ly X N scope C aax H ex
 have clsub0:∀x c,(pJ X.env.cells scope.names []).lookup x=some c->X.env.cells.lookup x=some c:=vU _ _ (fun x c e=>by simp at e);have clsub:∀x c,X'.env.cells.lookup x=some c->C<c\/X.env.cells.lookup x=some c:=fun x c e=>by
  rcases vV _ _ _ _ _ e with⟨q,_⟩|⟨_,q⟩
  ·exact .inl q
  ·exact .inr (clsub0 x c q)
 have neD:∀x c,X'.env.cells.lookup x=some c->c≠D:=fun x c e z=>by
  rcases clsub x c e with q|q
  ·rw[z]at q;exact d8 _ (l7 q DltC)
  ·exact bM (cellD x c q) z
 have neF:∀x c,X'.env.cells.lookup x=some c->∀b∈fp,c≠b:=fun x c e b hb z=>by
  rcases clsub x c e with q|q
  ·rw[z]at q;exact d8 _ (l7 (l7 q (fpD b hb)) DltC)
  ·exact(hf b hb).2.2.2.2.1 x c q z
 have stkD:∀b∈frs X.stack,b<D:=fun b hb=>by
  rcases aF.mp (I.u5 b hb)with e|hb
  ·rw[e,<-hD];exact I.lt
  ·obtain⟨_,o,ho,_⟩:=I.nX.mem hb;exact lt2 b o ho
 have ok':X'.Ok:=by
  refine⟨I.ok.mod,?_,I.ok.glob,I.ok.blt,zx hC,Dp _ _ _ (fun x c e=>j3 (l7 (cellD x c (clsub0 x c e)) DltC)) fun x y c h1 h2=>I.ok.inj x y c (clsub0 x c h1) (clsub0 y c h2),fun x hx=>?_,fun x c hx=>?_,I.ok.hd,I.ok.frames,.inl rfl,fun b hb=>?_,fun b o e=>?_,?_,fun b o e hb=>?_,fun b hb z=>?_,?_,I.C_⟩
  ·exact hkind
  ·refine Dn _ _ _ x ?_;rcases hvis x hx with q|q
   ·obtain⟨c,hc'⟩:=hfree x q;exact .inr (sJ _ _ x (.inr ⟨q,c,hc'⟩))
   ·exact .inl q
  ·intro hx2;have hm:(x,cL)∈scope.names:=PySem.mem_of_lookup (by simpa using(show(scope.names.lookup x==some .cell)=true from hx));rcases vV _ _ _ _ _ hx2 with⟨q,_⟩|⟨q,_⟩
   ·show aax.heap.objs.size<=c;rw[hC];exact jl q
   ·exact absurd hm q
  ·rcases aF.mp hb with e|hb
   ·subst e;exact⟨hDC,neD⟩
   ·refine⟨?_,fun x c e=>neF x c e b hb⟩;exact fpC b hb
  ·exact⟨up b o (I.bs b o e).1,(I.bs b o e).2⟩
  ·show X.base.objs.size<=aax.heap.objs.size;refine d_ (d_ I.ok.bsz I.sz) ?_;rw[hD,hC];exact jl DltC
  ·have hbD:b<D:=lt2 b o (I.bk b o e);rcases aF.mp hb with q|hb
   ·exact bM hbD q
   ·rcases(hf b hb).2.2.2.1 with q|q
    ·exact I.ok.noex b o e q
    ·have h1:=aP (I.ok.bs b o e).1;exact absurd (bP h1 q) (d8 _)
  ·rcases aF.mp hb with q|hb
   ·exact bM (stkD b z) q
   ·obtain⟨_,f1,f2,_⟩:=hf b hb;rcases aF.mp (I.u5 b z)with q|q
    ·exact f1 q
    ·exact f2 q
  ·have hfr:=I.stack;have keepF:∀l:List Env,aaB.heap.FunFrames X.base l->aax.heap.FunFrames X.base l:=by
    intro l;induction l with
    |nil=>intro _;trivial
    |cons env r ih=>
     intro hl;obtain⟨hk,⟨L,o,hf',hn,ho,hd⟩,hr⟩:=hl;exact⟨hk,⟨L,o,hf',hn,up L o ho,hd⟩,ih hr⟩
   exact keepF _ hfr
 have fpok:∀(H':Hp) (its:List Value) (n:Nat),(∀b∈fp,H' b=none)->∀b∈fp,mJ X' [(D,pK its n)] H' b:=fun H' its n hn b hb=>by
  refine⟨hn b hb,?_,?_,.inl (ai _ hb),fun x c e=>neF x c e b hb,fun p hp=>?_⟩
  ·exact fpC b hb
  ·intro z;obtain⟨_,f1,f2,_⟩:=hf b hb;rcases aF.mp (I.u5 b z)with q|q
   ·exact f1 q
   ·exact f2 q
  ·have hp:p∈[(D,pK its n)]:=hp;have e:p=(D,pK its n):=by simpa using hp
   subst e;exact cY (fpnD b hb)
 have pinD:∀(s:aj) (H':Hp) (its:List Value) (n:Nat),s.heap.get? D=some (pK its n)->H' D=none->∀p∈[(D,pK its n)],s.heap.get? p.1=some p.2/\H' p.1=none/\p.1≠X'.env.locals/\p.1∉X'.fs/\∀v,p.2.data≠.cell v:=by
  intro s H' its n e hn p hp;have q:p=(D,pK its n):=by simpa using hp
  subst q;refine⟨e,hn,hDC,fun z=>?_,fun v z=>nomatch z⟩;exact d8 _ (stkD D z)
 let Iv:Nat->aj->Prop:=fun n s=>∃(i:Nat) (acc:List V) (its:List Value) (m:Nat) (σ1:L2.St) (H1:Hp),n=items.length+1-i/\i<=items.length/\L2.Inv X' [(D,pK its m)] σ1 H1 s/\tn i s.heap/\(∀b∈fp,H1 b=none)/\bE acc its/\acc.length<=aa /\
  rB ok g cond te k (items.drop i) acc σ1 H1
 have start:∀tk,L2.Inv X' [(D,pK [] 0)] σ' H { aax with heap:=aaD,toks:=tk }:=fun tk=>by
  refine⟨ok',rfl,by show kU aax.gens;rw[egn];exact I.bare,Un.kept up1,⟨_,aaP,fun i x v h1 h2 h3=>?_⟩,fun x c e=>?_,freshH C (jl DltC),fun x c e=>?_,fun p hp=>?_,?_,hlen⟩
  ·obtain⟨hx,hnl,c,u,hcu,ru,cellu⟩:=hσ i x v h1 h2;refine⟨u,ru,.inr ⟨?_,?_⟩⟩
   ·rcases h3 with q|q|q
    ·exact absurd q hnl
    ·exact .inl q
    ·exact .inr q
   ·obtain⟨c',hc'⟩:=sJ (cells:=X.env.cells) scope.names [] x (.inr ⟨hx,c,hcu⟩);have e1:=clsub0 x c' hc';rw[hcu]at e1;cases e1;obtain⟨o,ho,hd⟩:=cellu;exact⟨c,(A2 _ _ _ x (hcell _ hx rfl)).trans hc',o,up1 _ _ (up _ _ ho),hd⟩
  ·rcases aaR x c e with q|q
   ·exact⟨none,q⟩
   ·obtain⟨v,o,ho,hd⟩:=I.cell x c (clsub0 x c q);exact⟨v,o,up1 _ _ (up _ _ ho),hd⟩
  ·rcases clsub x c e with q|q
   ·exact freshH c (jl (l7 DltC q))
   ·exact I.freeC x c q
  ·exact pinD { aax with heap:=aaD,toks:=tk } H [] 0 (up1 _ _ aa7) (freshH D (aM _)) p hp
  ·have hk:fW X.prog X.w H aaD:=I.hok.kept fun b u e=>up1 b u (up b u e);exact hk
 have loop:∀tk,kg (aH X.prog X.w) X.A (.compLoop (.ListComp elt [⟨tgt,iter,ifs,0⟩] scope pos) 0 (.ref it) (.ref D) X'.env) (RR (.ref D) C) { aax with heap:=aaD,toks:=tk }:=fun tk=>by
  refine MM Iv ?_ (items.length+1) ⟨0,[],[],0,σ',H,rfl,mX _,start tk,T.keep 0 _ _ st fun b hb o e=>up1 b o (up b o e),fun b hb=>(hf b hb).1,.nil,mX _,by simpa using h⟩;rintro n s ⟨i,acc,its,m,σ1,H1,rfl,hi,J1,st1,fr1,rv,hz,q⟩;by_cases hlt:i<items.length
  ·rw[rT hlt]at q;obtain⟨hok,hz1,q⟩:=q;have ei:items[i]?=some items[i]:=aA hlt;refine aT (T.item X' rfl rfl rfl hc i _ s σ1 H1 _ J1 (fpok H1 its m fr1) st1 (hJ.go i H1 _ hok ei)) fun r s4 ⟨u,hr,h4⟩=>?_;subst hr;refine aT h4 fun _ s5 ⟨x,H5,I5,r5,y5,st5,fr5⟩=>?_;have I5':=I5.pinned (fpok H5 its m fr5) (T.obj _ _ st5);refine aT (hg C aax ex _ s5 σ1 H5 x u _ I5' r5 (hJ.yld i H1 _ x H5 hok ei y5 _ q)) fun _ s6 ⟨σ6,H6,I6,q6⟩=>?_;refine aT (ht C aax ex _ s6 σ6 H6 _ I6 q6) fun b s7 ⟨H7,I7,q7⟩=>?_;have keepT:∀{σ8:L2.St}{H8:Hp}{s8:aj},L2.Inv X' ([(D,pK its m)]++xN fp s5.heap) σ8 H8 s8->tn (i+1) s8.heap/\(∀b∈fp,H8 b=none):=fun{σ8 H8 s8} I8=>by
    refine⟨T.keep _ _ _ st5 fun b hb o e=>(I8.pin (b,o) (az _ (az _ (rq hb e)))).1,fun b hb=>?_⟩;obtain⟨o,e,_⟩:=T.obj _ _ st5 b hb;exact(I8.pin (b,o) (az _ (az _ (rq hb e)))).2.1
   cases b with
   |false=>
    have q7:=(if_neg aK)▸q7;obtain⟨t1,t2⟩:=keepT I7;exact⟨items.length+1-(i+1),by omega,i+1,acc,its,m,σ6,H7,rfl,hlt,I7.vQ,t1,t2,rv,hz,by simpa using q7⟩
   |true=>
    have q7:te σ6 H7 (fun y H4=>rB ok g cond te k (items.drop (i+1)) (acc++[y]) σ6 H4):=by simpa using q7
    refine aT (he C aax ex _ s7 σ6 H7 _ I7 q7) fun yv s8 ⟨y,H8,I8,r8,q8⟩=>?_;obtain⟨t1,t2⟩:=keepT I8;have hD8:=I8.pin (D,pK its m) (az _ (aN _ (aW.mpr rfl)));obtain⟨e8,n8,_⟩:=hD8;have hl:=rv.length;refine ic F.slot_list_append ⟨_,e8,rfl⟩ F.entry_list_append (F.args_list_append_2 _ _) (PySem.list_append D its.toArray m yv (by rw[aZ];omega)) ⟨e8,?_⟩;have I9:L2.Inv X' [] σ6 H8 s8:=I8.zD fun p hp=>nomatch hp
    have kk:∀b o,b≠D->s8.heap.get? b=some o->(s8.heap.update D (kL fun x=>x.push yv)).get? b=some o:=fun b o hb e=>(eZ _ _ (cY hb)).trans e;have I10:L2.Inv X' [] σ6 H8 { s8 with heap:=s8.heap.update D (kL fun x=>x.push yv),toks:=s8.toks }:=
     I9.turned kk n8 hDC (.inl ao) neD (fun p hp=>nomatch hp)
    have e9:=PySem.IsL.update e8 (fun x=>x.push yv);rw[List.push_toArray]at e9;obtain⟨m',e10⟩:∃m',({ s8 with heap:=s8.heap.update D (kL fun x=>x.push yv),toks:=s8.toks }:aj).heap.get? D=some (pK (its++[yv]) m'):=⟨_,e9⟩;refine⟨items.length+1-(i+1),by omega,i+1,acc++[y],its++[yv],m',σ6,H8,rfl,hlt,I10.zD (pinD _ H8 _ m' e10 n8),?_,t2,rv.append (.cons r8 .nil),by rw[ak,aG];omega,q8⟩;exact T.keep _ _ _ t1 fun b hb o e=>kk b o (fpnD b hb) e
  ·rw[ig (by omega)]at q;obtain⟨hok,q⟩:=q;refine aT (T.done X' rfl rfl rfl hc i _ s σ1 H1 _ J1 (fpok H1 its m fr1) st1 (hJ.stop i H1 hok (by omega))) fun r s4 ⟨hr,I4⟩=>?_;subst hr;obtain⟨e4,n4,_⟩:=I4.pin (D,pK its m) (az _ (aW.mpr rfl));obtain⟨mC,hnC,_⟩:=I4.loc;have hCn:H1 C=none:=I4.free;have exD:∀b,b<D->b∉fp->b∉X'.ex:=fun b hb hn z=>by
    rcases aF.mp z with q|q
    ·exact bM hb q
    ·exact hn q
   have hok':fW X.prog X.w (upd H1 D (.lst acc)) s4.heap:=ML I4.hok n4 ⟨hz,its,m,rv,e4⟩;have hU:Un (frs X.stack) fp H (upd H1 D (.lst acc)) aaB.heap s4.heap:=by
    have b4:=I4.base;refine⟨fun b o e n hb hx=>?_,fun b o e n hb hx=>?_,fun b o e n hx=>?_,fun b o e hx=>?_,fun b xs e=>?_,fun b o u e=>?_,fun b ps e=>?_⟩
    ·exact b4.keep b o (up b o e) n hb (exD b (lt2 b o e) hx)
    ·exact b4.slot b o (up b o e) n hb (exD b (lt2 b o e) hx)
    ·rw[aQ (bM (lt2 b o e))];exact b4.free b o (up b o e) n (exD b (lt2 b o e) hx)
    ·exact b4.there b o (up b o e) (exD b (lt2 b o e) hx)
    ·have z:=b4.tups b xs e;rw[aQ (cP z n4)];exact z
    ·have z:=b4.aB b o u e;rw[aQ (cP z n4)];exact z
    ·obtain⟨more,z⟩:=b4.tbls b ps e;exact⟨more,by rw[aQ (cP z n4)];exact z⟩
   have I5:L2.Inv X pins O (upd H1 D (.lst acc)) s4:=I.call' (ch:=fp) (I4.os.trans eos) hU hok' I4.bare fun b hb=>by
    obtain⟨f0,f1,f2,f3,f4,f5⟩:=hf b hb;exact⟨f3,f1,f4,f5⟩
   refine hRR D C s4 H1 acc n4 q I5 ?_ ⟨mC,hnC⟩;have hle:aaB.heap.objs.size<=C:=by rw[hD];exact jl DltC
   have z:=I.qJ (H':=upd H1 D (.lst acc)) (b:=C) hle (by rw[aQ (cY hDC)];exact hCn);exact z
 subst aaN;exact codeAny_compStart_list (loop _) (T.self _ 0 _ _ _ (T.keep 0 _ _ st fun b hb o e=>up1 b o (up b o e)) (loop _))
end
noncomputable def jX(N nl:List Str)(fr:List Nat):List Str:=nl++fr.map fun i=>N.getD i OV
noncomputable def zN(nl:List Str)(fr:List Nat)(O:L2.St):L2.St:=nl.map (fun _=>none)++fr.map fun i=>O.getD i none
structure u9 (sc:fS) (N:List Str) (scope:fS) (nl:List Str) (fr:List Nat):Prop where
 kind:scope.kind=.function
 cell:∀y∈scope.names,y.2=.free->(y.1,cL)∉scope.names
 names:∀x∈scope.names,x.2=.local->scope.names.lookup x.1=some .local
 free:∀n,(n,cB)∈scope.names->sc.names.lookup n=some .cell\/sc.names.lookup n=some .free
 fr:∀i∈fr,∃x,N[i]?=some x/\scope.names.lookup x=some .free
theorem xZ(x:Str)(h:(mF scope env).names.lookup x=some .cell\/(mF scope env).names.lookup x=some .free):(x,cB)∈scope.names\/(x,cL)∈scope.names:=by
 have key:∃k,(x,k)∈(mF scope env).names/\(k=.cell\/k=.free):=by
  rcases h with h|h
  ·exact⟨_,PySem.mem_of_lookup h,.inl rfl⟩
  ·exact⟨_,PySem.mem_of_lookup h,.inr rfl⟩
 obtain⟨k,hm,hk⟩:=key;unfold mF at hm;simp only[b7]at hm;obtain⟨⟨n,k0⟩,h0,e⟩:=hm;simp only at e;split at e
 ·rename_i hc;have:k0=.free:=by
   simp only[bu,beq_iff_eq]at hc;exact hc.1.1
  subst this;cases e;exact .inl h0
 ·cases e;rcases hk with rfl|rfl
  ·exact .inr h0
  ·exact .inl h0
theorem x_{env:Env}:∀{names:List (Str×jo)}{x:Str},names.lookup x=some .free->
 (names.map fun(n,k)=>if(k==cB&&env.scope.kind==.function&&env.kindOf n==some .cell)then(n,cL)else(n,k)).lookup x≠some .local
|[],_,h=>by simp at h
|(n,k)::r,x,h=>by
 have ih:=@x_ env r x;show jU x ((if(k==cB&&env.scope.kind==.function&&env.kindOf n==some .cell)=true then(n,cL)else(n,k))::_)≠_;cases hx:x==n with
 |true=>
  simp only[cJ,hx]at h;cases h;by_cases hc:(cB==cB&&env.scope.kind==.function&&env.kindOf n==some .cell)=true
  ·rw[if_pos hc];simp only[cJ,hx];decide
  ·rw[if_neg hc];simp only[cJ,hx];decide
 |false=>
  simp only[cJ,hx]at h;by_cases hc:(k==cB&&env.scope.kind==.function&&env.kindOf n==some .cell)=true
  ·rw[if_pos hc];simp only[cJ,hx];exact ih h
  ·rw[if_neg hc];simp only[cJ,hx];exact ih h
variable{i:Nat}{y:Str}{py:Pos}
section
variable{X:Cx}{tgt iter elt:Expr}{ifs:List Expr}{scope:fS}{pos:Pos}{nl:List Str}{fr:List Nat}{wi:SD}{g:TG}{cond:TT}{te:TE}
theorem BV(S:u9 X.env.scope X.N scope nl fr)(I:L2.Inv X pins O H s)(i:Nat)(x:Str)(v:V)(h1:(jX X.N nl fr)[i]?=some x)(h2:(zN nl fr O)[i]?=some (some v)) :
  (x,cB)∈scope.names/\(mF scope X.env).names.lookup x≠some .local/\∃c u,X.env.cells.lookup x=some c/\RelV v u/\s.heap.IsCell c (some u):=by
 unfold jX at h1;unfold zN at h2;by_cases hi:i<nl.length
 ·rw[fu (by simpa using hi),bD,aA hi]at h2;cases h2
 ·rw[c8 (by omega)]at h1;rw[c8 (by simp;omega)]at h2;rw[bD]at h1 h2;rw[ah]at h2;cases e:fr[i-nl.length]? with
  |none=>rw[e]at h1;cases h1
  |some j=>
   rw[e]at h1 h2;have h1:X.N.getD j OV=x:=bJ h1;have h2:O.getD j none=some v:=bJ h2;obtain⟨y,hy,hf⟩:=S.fr j (gA e);have exy:y=x:=by
    rw[<-h1];simp[hy]
   subst exy;have hσ:O[j]?=some (some v):=by
    cases q:O[j]? with
    |none=>simp[q]at h2
    |some o=>
     simp[q]at h2;rw[h2]
   have hm:=PySem.mem_of_lookup hf;refine⟨hm,x_ hf,?_⟩;obtain⟨m,hn,hl⟩:=I.loc;have hk:=S.free y hm;obtain⟨u,ru,l⟩:=hl j y v hy hσ (by rcases hk with q|q;exact .inr (.inl q);exact .inr (.inr q));rcases l with⟨l,_⟩|⟨_,c,hc,hcell⟩
   ·exfalso;have l:X.env.scope.names.lookup y=some .local:=l;rcases hk with q|q<;>rw[q]at l<;>cases l
   ·exact⟨c,u,hc,ru,hcell⟩
theorem tU(S:u9 X.env.scope X.N scope nl fr)(I:L2.Inv X pins O H s):∀n,(n,cB)∈scope.names->∃c,X.env.cells.lookup n=some c:=fun n hn=>I.ok.has n (S.free n hn)
theorem Ul(hc:X.calm=true)(S:u9 X.env.scope X.N scope nl fr)(hi:Ek X tgt iter wi)(hs:∀x,jZ iter X.env x=pure x)
  (hg:∀(C:Addr) (aax:aj) (H:Hp) (ex:List Addr),PG (ly X (jX X.N nl fr) scope C aax H ex) tgt g)
  (ht:∀(C:Addr) (aax:aj) (H:Hp) (ex:List Addr),JF (ly X (jX X.N nl fr) scope C aax H ex) ifs cond)
  (he:∀(C:Addr) (aax:aj) (H:Hp) (ex:List Addr),PE (ly X (jX X.N nl fr) scope C aax H ex) elt te) :
  PE X (.ListComp elt [⟨tgt,iter,ifs,0⟩] scope pos) (fun O H Q=>wi O H fun ok items H1=>rB ok g cond te (fun vs H2=>∀p,H2 p=none->Q (.ref p) (upd H2 p (.lst vs))) items [] (zN nl fr O) H1):=by
 intro pins s O H Q I h;rw[eval_ListComp];refine tG (use:=none) rfl hs (wZ (tU S I)) S.kind S.names (aT (hi pins s O H _ I h) fun v aaz aaD=>aT aaD fun itv aaB aaL=>?_);obtain⟨it,fp,tn,J,H2,e,I2,T,st,hf,ok,items,hJ,hk⟩:=aaL;subst e;refine BU (RR:=fun acc C=>compPost (aH X.prog X.w) X.A X.xe none (EP X pins O Q) acc C) hc I2 T st hf hJ S.cell S.kind (tU S I2) ?_ (BV S I2) xZ
  (fun C aax ex=>hg C aax H2 ex) (fun C aax ex=>ht C aax H2 ex) (fun C aax ex=>he C aax H2 ex) hk fun D C s' H3 vs hD q I3 f3 hn=>?_
 ·unfold zN jX;simp
 ·obtain⟨m,hn⟩:=hn;obtain⟨f0,f1,f2,f3,f4,f5⟩:=f3;refine⟨m,hn,fun h' hsb=>⟨.ref D,_,I3.turned (t':=s'.toks) (fun b o hb e=>hsb.extBut b o hb e) f0 f1 f3 f4 f5,rfl,q D hD⟩⟩
theorem Um{spos:Pos}(hc:X.calm=true)(hN:X.N.Nodup)(hiy:X.N[i]?=some y)(hy:X.env.scope.names.lookup y=some .local)(S:u9 X.env.scope X.N scope nl fr)(hi:Ek X tgt iter wi)(hs:∀x,jZ iter X.env x=pure x)
  (hsw:nS (.ListComp elt [⟨tgt,iter,ifs,0⟩] scope pos) (some (.Name y py)) spos.line X.env=pure true)
  (hg:∀(C:Addr) (aax:aj) (H:Hp) (ex:List Addr),PG (ly X (jX X.N nl fr) scope C aax H ex) tgt g)
  (ht:∀(C:Addr) (aax:aj) (H:Hp) (ex:List Addr),JF (ly X (jX X.N nl fr) scope C aax H ex) ifs cond)
  (he:∀(C:Addr) (aax:aj) (H:Hp) (ex:List Addr),PE (ly X (jX X.N nl fr) scope C aax H ex) elt te) :
  PS X (.Assign [.Name y py] (.ListComp elt [⟨tgt,iter,ifs,0⟩] scope pos) spos) (fun D O H=>wi O H fun ok items H1=>rB ok g cond te (fun vs H2=>∀p,H2 p=none->D.nx (O.set i (some (.ref p))) (upd H2 p (.lst vs))) items [] (zN nl fr O) H1):=by
 intro pins s O H D I h;rw[PySem.exec_Assign_Name_used _ _ _ _ hsw];refine au (nv (au ?_));show aD _ X.A (do let _ <-comprehension (.ListComp elt [⟨tgt,iter,ifs,0⟩] scope pos) scope X.env _ (newList []) false (eval iter X.env) (some (qH (.Name y py) X.env))) _ _ s;refine au (dR (tG (use:=some (qH (.Name y py) X.env)) (Q:=fun _ s'=>SP X pins D .next s') rfl hs (wZ (tU S I)) S.kind S.names
  (aT (hi pins s O H _ I h) fun v aaz aaD=>aT aaD fun itv aaB aaL=>?_)) (fun _ s' hq=>a7 (a7 hq)) fun _ _ e=>e)
 obtain⟨it,fp,tn,J,H2,e,I2,T,st,hf,ok,items,hJ,hk⟩:=aaL;subst e;refine BU (RR:=fun acc C=>compPost (aH X.prog X.w) X.A X.xe (some (qH (.Name y py) X.env)) (fun _ s'=>SP X pins D .next s') acc C) hc I2 T st hf hJ S.cell S.kind (tU S I2) ?_ (BV S I2) xZ
  (fun C aax ex=>hg C aax H2 ex) (fun C aax ex=>ht C aax H2 ex) (fun C aax ex=>he C aax H2 ex) hk fun DD C s' H3 vs hD q I3 f3 hn=>?_
 ·unfold zN jX;simp
 ·obtain⟨m,hn⟩:=hn;obtain⟨f0,f1,f2,f3,f4,f5⟩:=f3;refine z9 (D0 (v:=.ref DD) (u:=.ref DD) I3 hN hiy (.inl hy) rfl (fun s'' I4 hsame=>?_) (.inr hy));obtain⟨a,hs',ha⟩:=hsame;have hCa:C≠a:=by
   rcases ha with q|q
   ·rw[q];exact f1
   ·exact fun z=>f4 y a q z.symm
  refine⟨m,hn.sameBut hs' hCa,fun h' hsb=>⟨_,_,I4.turned (t':=s''.toks) (fun b o hb e=>hsb.extBut b o hb e) f0 f1 f3 f4 f5,q DD hD⟩⟩
end
structure Tab where
 N:List Str
 sc:fS
 gl:List Str
 bn:List Str
 own:Str->Bool
 calm:Bool
noncomputable def K1(sc:fS)(x:Str):Bool:=match sc.names.lookup x with
|some .local=>true
|some .cell=>true
|some .free=>true
|_=>false
noncomputable def PN(T:Tab)(x:Str):Bool:=match T.sc.names.lookup x with
|some .local=>true
|some .cell=>T.own x
|_=>false
noncomputable def qV(sc:fS)(x:Str):Bool:=decide (sc.names.lookup x=some .globalImplicit)
noncomputable def noStar:Expr->Bool
|.Starred ..=>false
|_=>true
noncomputable def bN(es:List Expr):Bool:=es.all noStar
noncomputable def vW:Expr->Bool
|.Call (.Name id _) [] [] _=>!(id==("super":Str))
|_=>true
noncomputable def vX:Expr->Bool
|.Slice ..=>false
|_=>true
noncomputable def GD:Expr->Bool
|.Set ..=>false
|_=>true
noncomputable def rZ:Expr->Bool
|.ListComp ..=>false
|.SetComp ..=>false
|.DictComp ..=>false
|_=>true
noncomputable def notTuple:Expr->Bool
|.Tuple ..=>false
|.List ..=>false
|_=>true
noncomputable def PR:V->Const->Bool
|.int i,.int j=>decide (i=j)
|.bl a,.bool b=>decide (a=b)
|.str a,.str b=>decide (a=b)
|.non,.none=>true
|_,_=>false
noncomputable def El(scope sc:fS):fS:=
 { scope with names:=scope.names.map fun(n,k)=>if(k==.free&&sc.kind==.function&&sc.names.lookup n==some .cell)then(n,.cell)else(n,k) }
noncomputable def FO(T:Tab)(scope:fS)(nl:List Str)(fr:List Nat):Tab:={ N:=jX T.N nl fr,sc:=El scope T.sc,gl:=T.gl,bn:=T.bn,own:=(fun x=>scope.names.lookup x==some .cell),calm:=T.calm }
noncomputable def r6(sc:fS)(N:List Str)(scope:fS)(nl:List Str)(fr:List Nat):Bool:=
 decide (scope.kind=.function)&&scope.names.all (fun y=>decide (y.2=.free->(y.1,cL)∉scope.names))&&scope.names.all (fun x=>decide (x.2=.local->scope.names.lookup x.1=some .local))
 && scope.names.all (fun x=>decide (x.2=.free->sc.names.lookup x.1=some .cell\/sc.names.lookup x.1=some .free))&&fr.all (fun i=>match N[i]? with|some x=>decide (scope.names.lookup x=some .free)|none=>false)
 && decide (jX N nl fr).Nodup
noncomputable def PU:CI->Expr->Bool
|.enum _,e=>match e with
 |.Tuple ..=>true
 |_=>false
|.zip _,e=>match e with
 |.Tuple ..=>true
 |_=>false
|_,_=>true
noncomputable def PX(sc:fS):Expr->Bool
|.Name y _=>!decide (sc.names.lookup y=some .local)
|_=>true
noncomputable def FP(sc scope:fS)(t:Str)(pos vpos:Pos):Bool:=decide (sc.names.lookup t=some .local)&&decide (pos.line=vpos.line)&&!(scope.names.any fun(n,k)=>n==t&&(k==.local||k==.cell))
noncomputable def rD(T:Tab)(g:Nat):Expr->Bool
|.Name y _=>decide (T.gl[g]?=some y)&&qV T.sc y&&!(y==("__debug__":Str))
|_=>false
noncomputable def p9(T:Tab):List Nat->List Expr->Bool
|[],es=>es.isEmpty
|g::gs,es=>match es with
 |e::er=>rD T g e&&p9 T gs er
 |_=>false
noncomputable def K3(T:Tab)(one:Bool)(gs:List Nat)(e:Expr):Bool:=match one with
|true=>match gs with
 |[g]=>rD T g e
 |_=>false
|false=>match e with
 |.Tuple es _ _=>bN es&&p9 T gs es
 |_=>false
noncomputable def fI(k:Nat):Expr->Bool
|.Call f _ _ _=>f.ctorIdx==k
|_=>false
noncomputable def nI:Expr->Bool
|.Call _ [c] _ _=>c.ctorIdx==16&&fI 23 c
|_=>false
noncomputable def aI:Expr->Bool
|.Call _ [_,c] _ _=>c.ctorIdx==23
|_=>false
noncomputable def uI:Expr->Bool
|.Subscript _ r _=>r.ctorIdx==26
|_=>false
noncomputable def gI2:Stmt->Bool
|.AugAssign t _ _ _=>t.ctorIdx==23
|_=>false
noncomputable def cI2:Stmt->Bool
|.Assign (t::_) e _=>t.ctorIdx==23&&e.ctorIdx==8
|_=>false
noncomputable def rI:Stmt->Bool
|.Raise (some e) _ _=>e.ctorIdx==16&&fI 23 e
|_=>false
noncomputable def tI:Stmt->Bool
|.Try _ (.ExceptHandler (some a) _ _ _::_) _ _ _=>a.ctorIdx==23
|_=>false
noncomputable def bI1:List Stmt->Bool
|s::_=>s.ctorIdx==24&&match s with
 |.Expr e _=>e.ctorIdx==16&&fI 23 e
 |_=>false
|_=>false
noncomputable def bI2:List Stmt->Bool
|s::_=>s.ctorIdx==12
|_=>false
noncomputable def Yn:List (Str×Int)->List (Option Expr)->List Expr->Bool
|[],ks,vs=>ks.isEmpty&&vs.isEmpty
|p::r,ks,vs=>match ks,vs with
 |some (.Constant (.str x) _ _)::ks,.Constant (.int i) _ _::vs=>decide (x=p.1/\i=p.2)&&Yn r ks vs
 |_,_=>false
noncomputable def Yo(T:Tab):List (Str×Nat)->List Expr->Bool
|[],es=>es.isEmpty
|p::r,es=>match es with
 |.Constant (.str x) _ _::.FormattedValue (.Name y _) c none _::es=>decide (x=p.1)&&decide (c=-1)&&decide (T.N[p.2]?=some y)&&K1 T.sc y&&!(y==("__debug__":Str))&&!(y==("__classdict__":Str))&&Yo T r es
 |_=>false
mutual
noncomputable def dw(T:Tab):CE->Expr->Bool
|.var i,e=>e.ctorIdx==23&&match e with
 |.Name x _=>decide (T.N[i]?=some x)&&K1 T.sc x&&!(x==("__debug__":Str))&&!(x==("__classdict__":Str))
 |_=>false
|.con v,e=>e.ctorIdx==19&&match e with
 |.Constant c _ _=>PR v c
 |_=>false
|.glo g,e=>e.ctorIdx==23&&match e with
 |.Name x _=>decide (T.gl[g]?=some x)&&qV T.sc x&&!(x==("__debug__":Str))
 |_=>false
|.bin op a b,e=>e.ctorIdx==2&&match e with
 |.BinOp l o r _=>decide (op=o)&&dw T a l&&dw T b r
 |_=>false
|.nset a,e=>e.ctorIdx==16&&(fI 23 e&&(nI e&&match e with
 |.Call (.Name x _) [.Call (.Name y _) [l] [] _] [] _=>T.calm&&(decide (x=("len":Str))&&qV T.sc x&&T.bn.contains x&&decide (y=("set":Str))&&qV T.sc y&&T.bn.contains y&&noStar l&&dw T a l)
 |_=>false))
|.neg a,e=>e.ctorIdx==3&&match e with
 |.UnaryOp .USub l _=>dw T a l
 |_=>false
|.not a,e=>e.ctorIdx==3&&match e with
 |.UnaryOp .Not l _=>dw T a l
 |_=>false
|.and a b,e=>e.ctorIdx==0&&match e with
 |.BoolOp .And [x,y] _=>dw T a x&&dw T b y
 |.BoolOp .And (x::y::z::r) pos=>dw T a x&&dw T b (.BoolOp .And (y::z::r) pos)
 |_=>false
|.or a b,e=>e.ctorIdx==0&&match e with
 |.BoolOp .Or [x,y] _=>dw T a x&&dw T b y
 |.BoolOp .Or (x::y::z::r) pos=>dw T a x&&dw T b (.BoolOp .Or (y::z::r) pos)
 |_=>false
|.ite c a b,e=>e.ctorIdx==5&&match e with
 |.IfExp t x y _=>dw T c t&&dw T a x&&dw T b y
 |_=>false
|.cmp op a b,e=>e.ctorIdx==15&&match e with
 |.Compare l [o] [r] _=>decide (op=o)&&!xy o r&&dw T a l&&dw T b r
 |_=>false
|.chain o1 o2 a b c,e=>e.ctorIdx==15&&match e with
 |.Compare l [p1,p2] [m,r] _=>decide (o1=p1)&&decide (o2=p2)&&!E_ [p1,p2] [m,r]&&dw T a l&&dw T b m&&dw T c r
 |_=>false
|.call g as,e=>e.ctorIdx==16&&(fI 23 e&&match e with
 |.Call (.Name x _) es [] _=>decide (T.gl[g]?=some x)&&qV T.sc x&&!(x==("__debug__":Str))&&bN es&&m_ T as es
 |_=>false)
|.blt f as,e=>e.ctorIdx==16&&(fI 23 e&&match e with
 |.Call (.Name x _) es [] _=>T.calm&&(decide (x=f.name)&&qV T.sc x&&T.bn.contains x&&bN es&&!es.isEmpty&&m_ T as es)
 |_=>false)
|.mth m o as,e=>e.ctorIdx==16&&(fI 20 e&&match e with
 |.Call (.Attribute l nm apos) es [] cpos=>decide (nm=m.name)&&vW l&&(apos.endLine==cpos.line)&&bN es&&decide (es.length<30)&&dw T o l&&m_ T as es
 |_=>false)
|.ix a b,e=>e.ctorIdx==21&&match e with
 |.Subscript l r _=>vX r&&dw T a l&&dw T b r
 |_=>false
|.sl a lo hi,e=>e.ctorIdx==21&&(uI e&&match e with
 |.Subscript l (.Slice x y none _) _=>dw T a l&&GF T lo x&&GF T hi y
 |_=>false)
|.lst as,e=>e.ctorIdx==24&&match e with
 |.List es _=>bN es&&m_ T as es
 |_=>false
|.tup as,e=>e.ctorIdx==25&&match e with
 |.Tuple es _ _=>bN es&&m_ T as es
 |_=>false
|.comp nl fr elt tg src cond,e=>e.ctorIdx==8&&match e with
 |.ListComp l [⟨t,it,ifs,0⟩] sc _=>T.calm&&(r6 T.sc T.N sc nl fr&&(GD it&&PU src t)&&PY T src it&&A4 (FO T sc nl fr) tg t&&Wp (FO T sc nl fr) cond ifs&&dw (FO T sc nl fr) elt l)
 |_=>false
|.isx one gs a,e=>e.ctorIdx==16&&(fI 23 e&&match e with
 |.Call (.Name x _) [l,c] [] _=>decide (x=("isinstance":Str))&&qV T.sc x&&T.bn.contains x&&noStar l&&K3 T one gs c&&dw T a l
 |_=>false)
|.isv g a,e=>e.ctorIdx==16&&(fI 23 e&&(aI e&&match e with
 |.Call (.Name x _) [l,.Name y _] [] _=>decide (x=("isinstance":Str))&&qV T.sc x&&T.bn.contains x&&decide (y=("ValueError":Str))&&qV T.sc y&&T.bn.contains y&&noStar l&&dw T a l&&decide (g<T.gl.length)
 |_=>false))
|.slp a lo hi k,e=>match e with
 |.Subscript l (.Slice x y (some (.Constant c _ _)) _) _=>PR (.int k) c&&dw T a l&&GF T lo x&&GF T hi y
 |_=>false
|.att g a f,e=>e.ctorIdx==20&&match e with
 |.Attribute l nm _=>decide (nm=f)&&vW l&&dw T a l&&decide (g<T.gl.length)
 |_=>false
noncomputable def m_(T:Tab):iP->List Expr->Bool
|.nil,es=>match es with
 |[]=>true
 |_=>false
|.cons a r,es=>match es with
 |e::er=>dw T a e&&m_ T r er
 |_=>false
noncomputable def GF(T:Tab):CO->Option Expr->Bool
|.none,e=>match e with
 |none=>true
 |_=>false
|.some a,e=>match e with
 |some x=>dw T a x
 |_=>false
noncomputable def Wp(T:Tab):CO->List Expr->Bool
|.none,es=>match es with
 |[]=>true
 |_=>false
|.some a,es=>match es with
 |[x]=>dw T a x
 |_=>false
noncomputable def A4(T:Tab):CG->Expr->Bool
|.name i,e=>e.ctorIdx==23&&match e with
 |.Name x _=>decide (T.N[i]?=some x)&&PN T x
 |_=>false
|.tup gs,e=>e.ctorIdx==25&&match e with
 |.Tuple es _ _=>T.calm&&(bN es&&FQ T gs es)
 |_=>false
|.sub o i,e=>e.ctorIdx==21&&match e with
 |.Subscript l r _=>vX r&&dw T o l&&dw T i r
 |_=>false
noncomputable def FQ(T:Tab):qB->List Expr->Bool
|.nil,es=>match es with
 |[]=>true
 |_=>false
|.cons g r,es=>match es with
 |e::er=>A4 T g e&&FQ T r er
 |_=>false
noncomputable def PY(T:Tab):CI->Expr->Bool
|.seq a,e=>dw T a e
|.range as,e=>e.ctorIdx==16&&(fI 23 e&&match e with
 |.Call (.Name x _) es [] _=>decide (x=("range":Str))&&qV T.sc x&&T.bn.contains x&&bN es&&!es.isEmpty&&m_ T as es
 |_=>false)
|.zip as,e=>e.ctorIdx==16&&(fI 23 e&&match e with
 |.Call (.Name x _) es [] _=>decide (x=("zip":Str))&&qV T.sc x&&T.bn.contains x&&bN es&&!es.isEmpty&&m_ T as es
 |_=>false)
|.enum a,e=>e.ctorIdx==16&&(fI 23 e&&match e with
 |.Call (.Name x _) [l] [] _=>decide (x=("enumerate":Str))&&qV T.sc x&&T.bn.contains x&&noStar l&&dw T a l
 |_=>false)
end
noncomputable def K4(T:Tab):CB->List Stmt->Bool
|.call g as,sts=>bI1 sts&&match sts with
 |[.Expr (.Call (.Name x _) es [] _) _]=>decide (T.gl[g]?=some x)&&qV T.sc x&&!(x==("__debug__":Str))&&bN es&&!es.isEmpty&&m_ T as es
 |_=>false
|.ite c a b,sts=>bI2 sts&&match sts with
 |[.If t x y _]=>dw T c t&&K4 T a x&&K4 T b y
 |_=>false
noncomputable def K5(T:Tab):Tab:={ T with calm:=false }
mutual
noncomputable def K6(T:Tab):CS->Stmt->Bool
|.expr c,st=>st.ctorIdx==24&&match st with
 |.Expr e _=>rZ e&&dw T c e
 |_=>false
|.asg g c,st=>st.ctorIdx==5&&match st with
 |.Assign [t] e _=>(rZ e||PX T.sc t)&&notTuple t&&A4 T g t&&dw T c e
 |_=>false
|.aug i c,st=>st.ctorIdx==7&&(gI2 st&&match st with
 |.AugAssign (.Name x _) .Add e _=>decide (T.N[i]?=some x)&&decide (T.sc.names.lookup x=some .local)&&dw T c e
 |_=>false)
|.casg i c,st=>st.ctorIdx==5&&(cI2 st&&match st with
 |.Assign [.Name y py] (.ListComp l gs sc vpos) _=>T.calm&&(decide (T.N[i]?=some y)&&FP T.sc sc y py vpos&&dw T c (.ListComp l gs sc vpos))
 |_=>false)
|.tasg g c,st=>match st with
 |.Assign [t] e _=>rZ e&&notTuple e&&A4 T g t&&dw T c e
 |_=>false
|.ret c,st=>st.ctorIdx==3&&match st with
 |.Return (some e) _=>dw T c e
 |_=>false
|.ifs c a b,st=>st.ctorIdx==12&&match st with
 |.If t x y _=>dw T c t&&oq T a x&&oq T b y
 |_=>false
|.whil c b,st=>match st with
 |.While t x [] _=>dw T c t&&oq T b x
 |_=>false
|.forr g src b,st=>st.ctorIdx==9&&match st with
 |.For t it x [] _=>T.calm&&((GD it&&PU src t)&&PY T src it&&A4 T g t&&oq T b x)
 |_=>false
|.brk,st=>st.ctorIdx==26&&match st with
 |.Break _=>true
 |_=>false
|.cont,st=>st.ctorIdx==27&&match st with
 |.Continue _=>true
 |_=>false
|.never,_=>true
|.rais g as,st=>st.ctorIdx==16&&(rI st&&match st with
 |.Raise (some (.Call (.Name x _) es [] _)) none _=>T.calm&&(decide (T.gl[g]?=some x)&&qV T.sc x&&!(x==("__debug__":Str))&&bN es&&!es.isEmpty&&m_ T as es)
 |_=>false)
|.tri i g b h,st=>st.ctorIdx==17&&(tI st&&match st with
 |.Try body [.ExceptHandler (some (.Name x _)) (some n) (s0::sr) _] [] [] _=>T.calm&&(decide (T.gl[g]?=some x)&&qV T.sc x&&!(x==("__debug__":Str))&&decide (T.N[i]?=some n)&&decide (T.sc.names.lookup n=some .local)&&K4 T b body&&oq (K5 T) h (s0::sr))
 |_=>false)
noncomputable def oq(T:Tab):cC->List Stmt->Bool
|.nil,sts=>match sts with
 |[]=>true
 |_=>false
|.cons s r,sts=>match sts with
 |st::sr=>K6 T s st&&oq T r sr
 |_=>false
|.two s t r,sts=>match sts with
 |st::su::sr=>K6 T s st&&(K6 T t su&&oq T r sr)
 |_=>false
end
structure uF (K:PySem.W.Frag) (C:Addr):Prop extends xR K C where
 ha:PySem.W.findIn K (.ref C) "__class__"=some (some (.builtin "object.__class__"))
 hn:PySem.W.specialIn K (.builtin "object.__class__") "__get__"=some (some (.builtin "getset_descriptor.__get__"))
 htk:PySem.W.takesIn K (.builtin "object.__class__")=some true
def g9(K:PySem.W.Frag)(D:Addr)(Cs:List Addr):Prop:=PySem.W.kitOne K (.type "NoneType") (.ref D)=some false/\∀C∈Cs,uF K C/\PySem.W.kitOne K (.ref C) (.ref D)=some (decide (C=D))
def tV(K:PySem.W.Frag)(Cs:List Addr)(as:List Str):Prop:=PySem.W.kitOne K (.type "NoneType") (.type "ValueError")=some false/\∀C∈Cs,uF K C/\PySem.W.kitOne K (.ref C) (.type "ValueError")=some true/\∀f∈as,jB K C f
def FT(P:bH)(w:bY)(K:PySem.W.Frag)(mg:Str->Option Value)(base:Heap)(k:Nat)(C:Addr)(fs:List (Str×Nat))(n:Nat):Prop:=
 ∃(fI:Addr) (fd:fO) (ps:List Str),Gp K C fI/\fN P w K mg base Al k fI fd ps (xS C fs ps.length)/\Binds K fd ps []/\ps.length<=1000/\(∀p∈fs,1<=p.2)/\ps.length=n
def GOk(X:Cx)(E:XK)(x:Str):G->Prop
|.val v=>∃u,X.mg x=some u/\RelV v u
|.tup a xs=>X.mg x=some (.ref a)/\Eh X.K a true xs
|.fn sp dvs=>∃(k:Nat) (f:Addr) (fd:fO) (ps:List Str) (ds:List Value),fN X.prog X.w X.K X.mg X.base (ko X.prog X.w) k f fd ps sp/\ir k X.A/\X.mg x=some (.ref f)/\PySem.W.keepIn X.K (.ref f)=true/\Binds X.K fd ps ds/\bE dvs ds /\
  xO (ko X.prog X.w) X E
|.cls C fs n=>X.mg x=some (.ref C)/\∃k,ir (k+1) X.A/\FT X.prog X.w X.K X.mg X.base k C fs n
|.iQ D Cs=>X.mg x=some (.ref D)/\g9 X.K D Cs
|.pe Cs as=>tV X.K Cs as
|.exb B _=>X.mg x=some (.ref B)/\BP X.K B
|.nop=>True
theorem PZ{outer:List Env}{e:Value}{s':aj}(h:ko P w outer H s E0 e s'):False:=by
 obtain⟨_,_,_,_,_,_,_,_,_,_,q⟩:=h;exact q
structure Ok (X:Cx) (T:Tab) (Y:List G) (E:XK):Prop where
 N:X.N=T.N
 nd:X.N.Nodup
 sc:X.env.scope=T.sc
 kind:X.env.scope.kind=.function
 gl:∀(i:Nat) (x:Str) (g:G),T.gl[i]?=some x->Y[i]?=some g->GOk X E x g
 bn:∀x∈T.bn,X.mg x=none
 own:∀x,T.own x=true->X.fn x=true
 calm:T.calm=true->X.calm=true
 po:ue (aH X.prog X.w) X.A X.env X.xe
 room:X.A.units+60<dS
variable{T:Tab}{Y:List G}{sc:fS}{nl:List Str}{fr:List Nat}
theorem pL{E:XK}(ok:Ok X T Y E)(h:r6 T.sc T.N sc nl fr=true)(C:Addr)(aax:aj)(H:Hp)(ex:List Addr) :
  Ok (ly X (jX X.N nl fr) sc C aax H ex) (FO T sc nl fr) Y E0:=by
 unfold r6 at h;simp only[bu,decide_eq_true_eq]at h;obtain⟨⟨⟨⟨⟨h1,h2⟩,h3⟩,h4⟩,h5⟩,h6⟩:=h;refine⟨?_,?_,?_,h1,fun i x g hx hg=>?_,ok.bn,fun x z=>z,ok.calm,uu,ok.room⟩
 ·show jX X.N nl fr=jX T.N nl fr;rw[ok.N]
 ·show(jX X.N nl fr).Nodup;rw[ok.N];exact h6
 ·show mF sc X.env=El sc T.sc;rw[<-ok.sc];rfl
 ·have q:=ok.gl i x g hx hg;cases g with
  |val v=>exact q
  |tup a xs=>exact q
  |fn sp dvs=>
   obtain⟨k,f,fd,ps,ds,q1,q2,q3,q4,q5,q6,q7⟩:=q;exact⟨k,f,fd,ps,ds,q1,q2,q3,q4,q5,q6,fun pins O H s e s' I z=>(PZ z).elim⟩
  |_=>exact q
variable{N:List Str}
theorem MN(h:r6 sc N scope nl fr=true):u9 sc N scope nl fr:=by
 unfold r6 at h;simp only[bu,decide_eq_true_eq]at h;obtain⟨⟨⟨⟨⟨h1,h2⟩,h3⟩,h4⟩,h5⟩,h6⟩:=h;refine⟨h1,fun y hy=>of_decide_eq_true (bF.mp h2 y hy),fun x hx=>of_decide_eq_true (bF.mp h3 x hx),fun n hn=>?_,fun i hi=>?_⟩
 ·exact of_decide_eq_true (bF.mp h4 (n,.free) hn) rfl
 ·have q:=bF.mp h5 i hi;revert q;cases N[i]? with
  |none=>intro q;exact absurd q aK
  |some x=>intro q;exact⟨x,rfl,of_decide_eq_true q⟩
variable{o:Expr}
variable{b:Expr}
section
variable{env:Env}
theorem eF(h:noStar e=true):cV (e::es) env=(false,eval e env)::cV es env:=by
 cases e<;>first|rfl|exact absurd (show false=true from h) aK
theorem A5:∀{es:List Expr},bN es=true->cV es env=es.map fun e=>(false,eval e env)
|[],_=>rfl
|e::es,h=>by
 have h':noStar e=true/\bN es=true:=by simpa[bN]using h
 rw[eF h'.1,A5 h'.2];rfl
theorem mj(h:bN es=true):(kP pos (cV es env)).any (·.1)=false:=by
 rw[A5 h];unfold kP;rw[bq,zy];rw[j0];intro x _;simp
theorem P0(h:bN es=true)(hl:es.length<30) :
  ((kP pos (cV es env)).all (fun x=>!x.1)&&(backToKw pos (keywordEach [] env)).all (fun x=>x.1.isSome)&&decide (es.length+([]:List DX).length+(if([]:List DX).isEmpty then 0 else 1)<30))=true:=by
 rw[A5 h];unfold kP;rw[bq,lZ];have e1:(es.all ((fun x:Bool×Sem Value=>!x.1)∘(fun x:Bool×Sem Value=>(x.1,if x.1 then do let v <-x.2;vB pos;pure v else x.2))∘fun e=>(false,eval e env)))=true:=by
  rw[bF];intro x _;rfl
 have e2:decide (es.length+([]:List DX).length+(if([]:List DX).isEmpty then 0 else 1)<30)=true:=by
  simpa using hl
 rw[e2,Fz];exact o9.mpr ⟨e1,rfl⟩
theorem Dq{nm:Str}{whole:Sem Value}(h:vW o=true):xA o nm env whole=whole:=by
 unfold xA;split
 ·rename_i id p pos;have:(id==("super":Str))=false:=by simpa[vW]using h
  have h2:(id != ("super":Str))=true:=by simp[bne,this]
  simp only[h2,Ip,if_true]
 ·rfl
theorem K7(h:vX b=true):Jy b:=by
 intro o i;cases b<;>first|rfl|exact absurd (show false=true from h) aK
theorem ya(h:GD e=true):∀x,jZ e env x=pure x:=by
 intro x;cases e<;>first|rfl|exact absurd (show false=true from h) aK
theorem BW{t:Option Expr}(h:rZ e=true):nS e t n env=pure false:=by
 cases e<;>first|rfl|exact absurd (show false=true from h) aK
theorem Wq(h:K1 env.scope x=true):DZ env.scope x:=by
 unfold K1 at h;unfold DZ;split at h
 ·exact .inl (by assumption)
 ·exact .inr (.inl (by assumption))
 ·exact .inr (.inr (by assumption))
 ·exact absurd h aK
theorem p_(h:noStar e=true):iZ (e::es) env=(false,qH e env)::iZ es env:=by
 cases e<;>first|rfl|exact absurd (show false=true from h) aK
theorem vY:∀{es:List Expr},bN es=true->(iZ es env).length=es.length/\(iZ es env).findIdx? (·.1)=none
|[],_=>⟨rfl,rfl⟩
|e::es,h=>by
 have h':noStar e=true/\bN es=true:=by simpa[bN]using h
 obtain⟨a,b⟩:=vY h'.2;rw[p_ h'.1];refine⟨by simp[a],?_⟩;rw[List.findIdx?_cons];simp[b]
end
variable{rest:List Expr}
variable{op op':qz}
variable{er:List Expr}
section
variable{X:Cx}{a b c:Expr}{ta tb tc:TE}{pos:Pos}{o:Expr}{to:TE}{es:List Expr}{t:TA}{apos cpos:Pos}{m:Mt}
theorem pe_and'(ha:PE X a ta)(hb:PE X (.BoolOp .And (b::rest) pos) tb):PE X (.BoolOp .And (a::b::rest) pos) (fun O H Q=>ta O H fun x H1=>match x with
  |.bl c=>if c=true then tb O H1 Q else Q (.bl false) H1
  |_=>False):=by
 intro pins s O H Q I h;refine BoolOp_and (aT (ha pins s O H _ I h) fun v s1 ⟨x,H1,I1,r1,q1⟩=>?_);cases x with
 |bl c=>
  cases r1;refine fj ?_;cases c with
  |true=>exact hb pins s1 O H1 Q I1 q1
  |false=>exact⟨.bl false,H1,I1,rfl,q1⟩
 |_=>exact ay q1
theorem pe_or'(ha:PE X a ta)(hb:PE X (.BoolOp .Or (b::rest) pos) tb):PE X (.BoolOp .Or (a::b::rest) pos) (fun O H Q=>ta O H fun x H1=>match x with
  |.bl c=>if c=true then Q (.bl true) H1 else tb O H1 Q
  |_=>False):=by
 intro pins s O H Q I h;refine BoolOp_or (aT (ha pins s O H _ I h) fun v s1 ⟨x,H1,I1,r1,q1⟩=>?_);cases x with
 |bl c=>
  cases r1;refine fj ?_;cases c with
  |false=>exact hb pins s1 O H1 Q I1 q1
  |true=>exact⟨.bl true,H1,I1,rfl,q1⟩
 |_=>exact ay q1
theorem pe_not'(ha:PE X a ta):PE X (.UnaryOp .Not a pos) (fun O H Q=>ta O H fun x H1=>j6 X.K x H1 fun b=>Q (.bl (!b)) H1):=by
 intro pins s O H Q I h;refine UnaryOp_ (aT (ha pins s O H _ I h) fun v s1 ⟨x,H1,I1,r1,q1⟩=>?_);refine not_of (aT (SG pins s1 O H1 x v (fun b H2=>Q (.bl (!b)) H2) I1 r1 ?_) fun b s2 ⟨H2,I2,q2⟩=>⟨.bl (!b),H2,I2,rfl,q2⟩);exact q1
theorem pe_neg'(ha:PE X a ta):PE X (.UnaryOp .USub a pos) (fun O H Q=>ta O H fun x H1=>match x with
  |.int i=>Q (.int (-i)) H1
  |_=>False):=by
 intro pins s O H Q I h;refine UnaryOp_ (aT (ha pins s O H _ I h) fun v s1 ⟨x,H1,I1,r1,q1⟩=>?_);cases x with
 |int i=>exact VY pins s1 O H1 (.int i) v Q I1 r1 ⟨i,rfl,q1⟩
 |_=>exact ay q1
theorem pe_chain'(hu:X.A.units+60<dS)(ha:PE X a ta)(hb:PE X b tb)(hc:PE X c tc)(hm:E_ [op,op'] [b,c]=false):PE X (.Compare a [op,op'] [b,c] pos) (fun O H Q=>ta O H fun x H1=>tb O H1 fun y H2=>nD X.K op x y H2 fun z H3=>match z with
  |.bl k=>if k=true then tc O H3 fun u H4=>nD X.K op' y u H4 Q else Q (.bl false) H3
  |_=>False):=by
 intro pins s O H Q I h;refine Compare_chain (aT (ha pins s O H _ I h) fun v s1 ⟨x,H1,I1,r1,q1⟩=>chain_link (aT (hb pins s1 O H1 _ I1 q1) fun u s2 ⟨y,H2,I2,r2,q2⟩=>
  aT (zL hu op pins s2 O H2 x y v u _ I2 r1 r2 q2) fun d s3 ⟨z,H3,I3,r3,q3⟩=>?_)) hm
 cases z with
 |bl k=>
  cases r3;refine fj ?_;cases k with
  |false=>exact ite_ff ⟨.bl false,H3,I3,rfl,q3⟩
  |true=>exact ite_tt (chain_last (aT (hc pins s3 O H3 _ I3 q3) fun w' s4 ⟨z',H4,I4,r4,q4⟩=>zL hu op' pins s4 O H4 y z' u w' Q I4 r2 r4 q4))
 |_=>exact ay q3
theorem pt_chain'(hu:X.A.units+60<dS)(ha:PE X a ta)(hb:PE X b tb)(hc:PE X c tc)(hm:E_ [op,op'] [b,c]=false):PT X (.Compare a [op,op'] [b,c] pos) (fun O H Q=>ta O H fun x H1=>tb O H1 fun y H2=>nD X.K op x y H2 fun z H3=>match z with
  |.bl k=>if k=true then tc O H3 fun u H4=>nD X.K op' y u H4 fun z H5=>match z with
   |.bl k=>Q k H5
   |_=>False
   else Q false H3
  |_=>False):=by
 intro pins s O H Q I h;refine isTrue_chain (aT (ha pins s O H _ I h) fun v s1 ⟨x,H1,I1,r1,q1⟩=>test_link (aT (hb pins s1 O H1 _ I1 q1) fun u s2 ⟨y,H2,I2,r2,q2⟩=>
  aT (zL hu op pins s2 O H2 x y v u _ I2 r1 r2 q2) fun d s3 ⟨z,H3,I3,r3,q3⟩=>?_)) hm
 cases z with
 |bl k=>
  cases r3;refine fj ?_;cases k with
  |false=>exact ite_ff ⟨H3,I3,q3⟩
  |true=>
   refine ite_tt (test_last (aT (hc pins s3 O H3 _ I3 q3) fun w' s4 ⟨z',H4,I4,r4,q4⟩=>aT (zL hu op' pins s4 O H4 y z' u w' _ I4 r2 r4 q4) fun d' s5 ⟨z2,H5,I5,r5,q5⟩=>?_));cases z2 with
   |bl k2=>
    cases r5;exact fj ⟨H5,I5,q5⟩
   |_=>exact ay q5
 |_=>exact ay q3
theorem pt_cmp'(hu:X.A.units+60<dS)(ha:PE X a ta)(hb:PE X b tb)(hm:xy op b=false):PT X (.Compare a [op] [b] pos) (fun O H Q=>ta O H fun x H1=>tb O H1 fun y H2=>nD X.K op x y H2 fun z H3=>match z with
  |.bl k=>Q k H3
  |_=>False):=by
 intro pins s O H Q I h;refine wpAny_isTrue_Compare1 (aT (ha pins s O H _ I h) fun v s1 ⟨x,H1,I1,r1,q1⟩=>aT (hb pins s1 O H1 _ I1 q1) fun u s2 ⟨y,H2,I2,r2,q2⟩=>aT (zL hu op pins s2 O H2 x y v u _ I2 r1 r2 q2) fun d s3 ⟨z,H3,I3,r3,q3⟩=>?_) hm;cases z with
 |bl k=>
  cases r3;exact fj ⟨H3,I3,q3⟩
 |_=>exact ay q3
theorem pt_val'(ha:PE X a ta)(he:∀whole,tw a X.env whole=(do let v <-whole;vB a.pos;nU [v] (CK v))):PT X a (fun O H Q=>ta O H fun x H1=>j6 X.K x H1 fun b=>Q b H1):=by
 intro pins s O H Q I h;exact isTrue_plain (aT (ha pins s O H _ I h) fun v s1 ⟨x,H1,I1,r1,q1⟩=>SG pins s1 O H1 x v Q I1 r1 q1) (he _)
theorem Wr(hu:X.A.units+60<dS)(ho:PE X o to)(ha:PA X (e::er) t)(hb:vW o=true)(hl:(apos.endLine==cpos.line)=true)(hs:bN (e::er)=true)(hf:(e::er).length<30) :
  PE X (.Call (.Attribute o m.name apos) (e::er) [] cpos) (fun O H Q=>to O H fun x H1=>tT m x H1/\t O H1 fun vs H2=>xU X.K m x vs H2 Q):=by
 intro pins s O H Q I h;refine wpAny_Call_method_late (Dq hb) (P0 hs hf) hl rfl (aT (ho pins s O H _ I h) fun v s1 ⟨x,H1,I1,r1,hr,q1⟩=>?_);obtain⟨h1,h2⟩:=JD I1 r1 hr;have fx:=GB m x H1 hr;refine⟨FN m x,KZ m x,fx.pa,fx.slot,fx.ty,h1,h2,?_⟩;have run:=aT (ha cpos pins s1 O H1 _ I1 q1) fun us s2 ⟨vs,H2,I2,r2,q2⟩=>JE hu I2 r1 r2 q2;have hs':noStar e=true/\bN er=true:=by simpa[bN]using hs
 rw[eF hs'.1]at run ⊢;exact uY (by show(false||(kP cpos (cV er X.env)).any (·.1))=false;rw[mj hs'.2]<;>rfl) (Calls.evalArgs_plain run)
theorem Uo(hu:X.A.units+60<dS)(ho:PE X o to)(hb:vW o=true)(hl:(apos.endLine==cpos.line)=true) :
  PE X (.Call (.Attribute o m.name apos) [] [] cpos) (fun O H Q=>to O H fun x H1=>tT m x H1/\xU X.K m x [] H1 Q):=by
 intro pins s O H Q I h;refine wpAny_Call_method0_late (Dq hb) hl (aT (ho pins s O H _ I h) fun v s1 ⟨x,H1,I1,r1,hr,q1⟩=>?_);obtain⟨h1,h2⟩:=JD I1 r1 hr;have fx:=GB m x H1 hr;exact⟨FN m x,KZ m x,fx.pa,fx.slot,fx.ty,h1,h2,uY rfl (PySem.evalArgs_none (JE (us:=[]) hu I1 r1 .nil q1))⟩
theorem Bf.Up(f:Bf):(∃id,f.val=.builtin id)\/∃T,f.val=.type T:=by
 cases f<;>first|exact .inl ⟨_,rfl⟩|exact .inr ⟨_,rfl⟩
theorem Ws{f:Bf}(hc:X.calm=true)(hu:X.A.units+60<dS)(hg:Gl X x)(hx:x=f.name)(hm:X.mg x=none)(ha:PA X (e::er) t)(hs:bN (e::er)=true):PE X (.Call (.Name x p) (e::er) [] pos) (fun O H Q=>t O H fun vs H1=>AY X.K f vs H1 Q):=by
 subst hx;have hs':noStar e=true/\bN er=true:=by simpa[bN]using hs
 intro pins s O H Q I h;refine eK (nZ I hg hm f.boot ?_ f.ok.1 f.ok.2);have run:=aT (ha pos pins s O H _ I h) fun us s1 ⟨vs,H1,I1,r1,q1⟩=>Yl hc hu f pins s1 O H1 vs us Q I1 r1 q1;rcases f.Up with⟨id,ev⟩|⟨T,ev⟩
 ·rw[ev]at run ⊢;exact gD run (eF hs'.1) (mj hs'.2)
 ·rw[ev]at run ⊢;exact fV run (eF hs'.1) (mj hs'.2)
end
variable{g:Nat}
variable{gs:List Nat}
variable{one:Bool}
section
variable{X:Cx}{T:Tab}{Y:List G}{E:XK}{a:Expr}{ta:TE}{pos:Pos}
theorem Ok.xM(ok:Ok X T Y E):Ok X.xM T Y E0:=by
 refine⟨ok.N,ok.nd,ok.sc,ok.kind,fun i x g hx hg=>?_,ok.bn,ok.own,ok.calm,uu,ok.room⟩;have q:=ok.gl i x g hx hg;cases g with
 |fn sp dvs=>
  obtain⟨k,f,fd,ps,ds,q1,q2,q3,q4,q5,q6,q7⟩:=q;exact⟨k,f,fd,ps,ds,q1,q2,q3,q4,q5,q6,fun pins O H s e s' I z=>(PZ z).elim⟩
 |_=>exact q
theorem Ok.hand(ok:Ok X T Y E)(v:Value):Ok (X.hand v) (K5 T) (Y.map G.hand) E0:=by
 refine⟨ok.N,ok.nd,ok.sc,ok.kind,fun i x g hx hg=>?_,ok.bn,ok.own,(fun z=>nomatch z),uu,ok.room⟩;rw[bD]at hg;cases e:Y[i]? with
 |none=>rw[e]at hg;cases hg
 |some g0=>
  rw[e]at hg;cases hg;have q:=ok.gl i x g0 hx e;cases g0 with
  |fn sp dvs=>exact ie
  |cls C fs n=>exact ie
  |_=>exact q
noncomputable def tP:Option Addr->Value
|none=>.type "NoneType"
|some C=>.ref C
theorem BX{c:Option Addr}:∀(gs:List Nat) (b:Bool),(∀g∈gs,∀(D:Addr) (Cs:List Addr),Y[g]?=some (G.iQ D Cs)->g9 K D Cs)->uE Y gs c=some b->∀Ds,zK Y gs Ds->PySem.W.kitAny K (tP c) (Ds.map bG)=some b
|[],b,hK,h,Ds,hD=>by
 cases h;cases(show Ds=[]from hD);rfl
|g::gs,b,hK,h,Ds,hD=>by
 obtain⟨D,r,Cs,rfl,hg,hr⟩:=hD;have hK':=fun g' (hg':g'∈gs)=>hK g' (ai _ hg');unfold uE at h;rw[hg]at h;obtain⟨k1,k2⟩:=hK g ao D Cs hg;show(match PySem.W.kitOne K (tP c) (.ref D)with|some true=>some true|some false=>PySem.W.kitAny K (tP c) (r.map bG)|none=>none)=some b;cases c with
 |none=>
  rw[show PySem.W.kitOne K (tP none) (.ref D)=some false from k1];exact BX gs b hK' h r hr
 |some C=>
  dsimp only at h;split at h
  ·rename_i hC;rw[show PySem.W.kitOne K (tP (some C)) (.ref D)=some (decide (C=D))from(k2 C hC).2];split at h
   ·rename_i hD;rw[decide_eq_true hD];exact h
   ·rename_i hD;rw[decide_eq_false hD];exact BX gs b hK' h r hr
  ·cases h
theorem JG{x:V}{u cv:Value}{Q:Bool->Prop}(I:L2.Inv X pins O H s)(rx:RelV x u)(h:Gu Y gs x H Q)(hK:∀g∈gs,∀(D:Addr) (Cs:List Addr),Y[g]?=some (G.iQ D Cs)->g9 X.K D Cs)
  (run:∀(c:Option Addr) (b:Bool) (Hx:Heap->Prop),PySem.W.KitX X.K u (tP c) Hx->Hx s.heap->(u=.builtin "__main__.__loader__#opaque"->False)->uE Y gs c=some b->Q b->
   aD (aH X.prog X.w) X.A (call (.builtin "isinstance") [u,cv]) (EP X pins O fun y H'=>H'=H/\∃b,y=.bl b/\Q b) X.xe s) :
  aD (aH X.prog X.w) X.A (call (.builtin "isinstance") [u,cv]) (EP X pins O fun y H'=>H'=H/\∃b,y=.bl b/\Q b) X.xe s:=by
 obtain⟨hne,_,_,h⟩:=h;cases x with
 |non=>
  cases(show u=d7 from rx);obtain⟨b,h1,h2⟩:=h;exact run none b _ PySem.W.kitx_none ie (fun z=>nomatch z) h1 h2
 |ref e=>
  cases(show u=bG e from rx);obtain⟨m,C,d,fs,he,hd,b,h1,h2⟩:=h;obtain⟨oe,vs,g1,g2,g3,g4,g5⟩:=zG I.hok he;obtain⟨mA,n1,_⟩:=FH I.hok hd;obtain⟨od,ho,_⟩:=tO n1;have J:PySem.W.InstAt s.heap e oe C (some od):=⟨g1,g2,by unfold PySem.W.notCls;rw[g4],by rw[g3];exact ho⟩;have xk:uF X.K C:=by
   cases gs with
   |nil=>exact absurd rfl hne
   |cons g gs=>
    unfold uE at h1;split at h1
    ·rename_i D Cs hg;split at h1
     ·rename_i z;cases z
     ·rename_i C' z;cases z;split at h1
      ·rename_i hC;exact((hK g ao D Cs hg).2 C hC).1
      ·cases h1
    ·cases h1
  exact run (some C) b _ (We xk.toxR xk.ha xk.hn xk.htk) J (fun z=>nomatch z) h1 h2
 |_=>exact h.elim
theorem Ok.iQ(ok:Ok X T Y E):∀{gs:List Nat}{es:List Expr},p9 T gs es=true->∀g∈gs,∀(D:Addr) (Cs:List Addr),Y[g]?=some (G.iQ D Cs)->g9 X.K D Cs
|[],es,h,g,hg=>absurd hg aR
|g::gs,[],h,_,_=>absurd (show false=true from h) aK
|g::gs,e::er,h,g',hg=>by
 have h':rD T g e=true/\p9 T gs er=true:=by simpa[p9]using h
 rcases aF.mp hg with rfl|hg
 ·intro D Cs e1;obtain⟨h1,_⟩:=h';unfold rD at h1;split at h1
  ·simp only[bu,decide_eq_true_eq]at h1;exact(ok.gl g' _ _ h1.1.1 e1).2
  ·exact absurd h1 aK
 ·exact ok.iQ h'.2 g' hg
theorem SI(ok:Ok X T Y E){D:Addr}{Cs:List Addr}(h:rD T g e=true)(hg:Y[g]?=some (G.iQ D Cs)):∃y p,e=.Name y p/\Gl X y/\X.mg y=some (.ref D)/\(y==("__debug__":Str))=false:=by
 unfold rD at h;split at h
 ·rename_i y p;simp only[bu,decide_eq_true_eq]at h;refine⟨y,p,rfl,?_,(ok.gl g y _ h.1.1 hg).1,by simpa using h.2⟩;have h2:=of_decide_eq_true h.1.2;rw[<-ok.sc]at h2;exact h2
 ·exact absurd h aK
theorem MO(ok:Ok X T Y E):∀(gs:List Nat) (es:List Expr),p9 T gs es=true->PA X es (fun _ H Q=>∃Ds,zK Y gs Ds/\Q (Ds.map V.ref) H)
|[],es,h=>by
 cases es with
 |nil=>
  intro pos pins s O H Q I q;obtain⟨Ds,e,q⟩:=q;cases(show Ds=[]from e);exact Gb pos pins s O H Q I q
 |cons e er=>exact absurd (show false=true from h) aK
|g::gs,[],h=>absurd (show false=true from h) aK
|g::gs,e::er,h=>by
 have h':rD T g e=true/\p9 T gs er=true:=by simpa[p9]using h
 intro pos pins s O H Q I q;obtain⟨_,⟨D,r,Cs,rfl,hg,hr⟩,q⟩:=q;obtain⟨y,p,rfl,z1,z2,z3⟩:=SI ok h'.1 hg;exact Dd (Dc (v:=.ref D) z1 z2 rfl z3) (MO ok gs er h'.2) rfl pos pins s O H Q I ⟨r,hr,q⟩
theorem tQ:∀(Ds:List Addr) (us:List Value),bE (Ds.map V.ref) us->us=Ds.map bG
|[],us,h=>by cases h;rfl
|D::Ds,us,h=>by
 cases h with
 |cons h1 h2=>rw[tQ Ds _ h2,show _=bG D from h1];rfl
theorem Wt(ok:Ok X T Y E)(hg:Gl X x)(hx:x="isinstance")(hm:X.mg x=none)(ha:PE X a ta)(hs:noStar a=true)(hc:K3 T one gs c=true) :
  PE X (.Call (.Name x p) [a,c] [] pos) (fun O H Q=>ta O H fun v H1=>Gu Y gs v H1 fun b=>Q (.bl b) H1):=by
 subst hx;intro pins s O H Q I h;refine eK (nZ I hg hm C7 ?_);have hn:noStar c=true:=by
  cases one with
  |true=>cases gs with
   |nil=>exact absurd (show false=true from hc) aK
   |cons g gs=>cases gs with
    |nil=>cases c<;>first|rfl|exact absurd (show false=true from hc) aK
    |cons g' gs=>exact absurd (show false=true from hc) aK
  |false=>cases c<;>first|rfl|exact absurd (show false=true from hc) aK
 have hst:cV [a,c] X.env=[(false,eval a X.env),(false,eval c X.env)]:=by rw[eF hs,eF hn];rfl
 refine gD ?_ (eF hs) (mj (by simp[bN,hn]));rw[hst];show aD _ _ (vA ((false,eval a X.env)::[(false,if false=true then _ else eval c X.env)])) _ _ s;refine fH (aT (ha pins s O H _ I h) fun u s1 ⟨v,H1,I1,r1,q1⟩=>?_);have fin:∀{s2:aj}{cv:Value},L2.Inv X pins O H1 s2->(aD (aH X.prog X.w) X.A (call (.builtin "isinstance") [u,cv]) (EP X pins O fun y H'=>H'=H1/\∃b,y=.bl b/\Q (.bl b) H1) X.xe s2)->aD (aH X.prog X.w) X.A (call (.builtin "isinstance") [u,cv]) (EP X pins O Q) X.xe s2:=
  fun I2 z=>aT z fun w s3 ⟨y,H3,I3,r3,e3,b,e4,qb⟩=>by subst e3 e4;exact⟨.bl b,_,I3,r3,qb⟩
 obtain⟨hne,hl,⟨Ds,hD⟩,_⟩:=id q1;cases one with
 |true=>
  cases gs with
  |nil=>exact absurd rfl hne
  |cons g gs=>cases gs with
   |cons g' gs=>exact absurd (show false=true from hc) aK
   |nil=>
    obtain⟨D,r,Cs,rfl,e1,hr⟩:=hD;obtain⟨y,py,rfl,z1,z2,z3⟩:=SI ok (show rD T g c=true from hc) e1;refine fH (pD I1 z1 z2 (iW ?_) z3);have hK:=ok.iQ (gs:=[g]) (es:=[.Name y py]) (by simpa[p9]using(show rD T g (.Name y py)=true from hc));refine fin I1 (JG I1 r1 q1 hK fun c b Hx Z p hx e2 hq=>?_);have k:=BX [g] b hK e2 [D] ⟨D,[],Cs,rfl,e1,rfl⟩;have k1:PySem.W.kitOne X.K (tP c) (.ref D)=some b:=by
     have k:(match PySem.W.kitOne X.K (tP c) (.ref D)with|some true=>some true|some false=>some false|none=>none)=some b:=k;cases z:PySem.W.kitOne X.K (tP c) (.ref D)with
     |none=>rw[z]at k;cases k
     |some b'=>rw[z]at k;cases b'<;>exact k
    exact PySem.W.kia_one Z I1.ki p k1 hx fun tk=>⟨.bl b,H1,I1.tok _,rfl,rfl,b,rfl,hq⟩
 |false=>
  cases c<;>first|exact absurd (show false=true from hc) aK|skip
  rename_i es k tpos;have hc':bN es=true/\p9 T gs es=true:=by simpa[K3]using hc
  have hlD:∀{Ds:List Addr}{gs:List Nat},zK Y gs Ds->Ds.length=gs.length:=by
   intro Ds gs;induction gs generalizing Ds with
   |nil=>intro z;cases(show Ds=[]from z);rfl
   |cons g gs ih=>rintro⟨D,r,Cs,rfl,_,z⟩;simp[ih z]
  refine fH (xD (x1:=k) (aT (MO ok gs es hc'.2 tpos pins s1 O H1 (fun xs H2=>H2=H1/\xs=Ds.map V.ref) I1 ⟨Ds,hD,rfl,rfl⟩) fun us s2 ⟨xs,H2,I2,r,eH,ex⟩=>?_));subst eH ex;have eu:=tQ Ds us r;subst eu;refine⟨by rw[ah,hlD hD,eE];omega,iW ?_⟩;have I3:L2.Inv X pins O H2 { s2 with heap:=s2.heap.push (An (Ds.map bG)) }:=I2.kept (t':=s2.toks) fun b u q=>aJ _ q;have hK:=ok.iQ hc'.2;refine fin I3 (JG I3 r1 q1 hK fun c b Hx Z p hx e2 hq=>?_);exact PySem.W.kia_tup Z I3.ki p (bL _ rfl) (BX gs b hK e2 Ds hD) hx fun tk=>⟨.bl b,H2,I3.tok _,rfl,rfl,b,rfl,hq⟩
theorem Uq:oV ("ValueError":Str)=some (.type "ValueError"):=by decide +kernel
theorem Wu(hK:∀Cs as,Y[g]?=some (G.pe Cs as)->tV X.K Cs as)(hg:Gl X x)(hx:x="isinstance")(hm:X.mg x=none)(hgy:Gl X y)(hy:y="ValueError")(hmy:X.mg y=none)(ha:PE X a ta)(hs:noStar a=true) :
  PE X (.Call (.Name x p) [a,.Name y py] [] pos) (fun O H Q=>ta O H fun v H1=>Dk Y g v H1 fun b=>Q (.bl b) H1):=by
 subst hx hy;intro pins s O H Q I h;refine eK (nZ I hg hm C7 ?_);have hst:cV [a,.Name ("ValueError":Str) py] X.env=[(false,eval a X.env),(false,eval (.Name ("ValueError":Str) py) X.env)]:=by rw[eF hs];rfl
 refine gD ?_ (by rw[hst];rfl) rfl;rw[hst];show aD _ _ (vA ((false,eval a X.env)::[(false,eval (.Name ("ValueError":Str) py) X.env)])) _ _ s;refine fH (aT (ha pins s O H _ I h) fun u s1 ⟨v,H1,I1,r1,q1⟩=>?_);refine fH (nZ I1 hgy hmy Uq (iW ?_));unfold Dk at q1;split at q1
 ·rename_i Cs as e1;obtain⟨k1,k2⟩:=hK Cs as e1;split at q1
  ·cases(show u=d7 from r1);exact PySem.W.kia_one PySem.W.kitx_none I1.ki ie k1 (fun z=>nomatch z) fun tk=>⟨.bl false,H1,I1.tok _,rfl,q1⟩
  ·rename_i e;cases(show u=bG e from r1);obtain⟨m,C,d,fs,he,hd,hC,q⟩:=q1;obtain⟨oe,vs,g1,g2,g3,g4,g5⟩:=zG I1.hok he;obtain⟨mA,n1,_⟩:=FH I1.hok hd;obtain⟨od,ho,_⟩:=tO n1;have J:PySem.W.InstAt s1.heap e oe C (some od):=⟨g1,g2,by unfold PySem.W.notCls;rw[g4],by rw[g3];exact ho⟩;have xk:=(k2 C hC).1;exact PySem.W.kia_one (We xk.toxR xk.ha xk.hn xk.htk) I1.ki J (k2 C hC).2.1 (fun z=>nomatch z) fun tk=>⟨.bl true,H1,I1.tok _,rfl,q⟩
  ·exact q1.elim
 ·exact q1.elim
theorem Wv{f:Str}(hK:∀Cs as,Y[g]?=some (G.pe Cs as)->tV X.K Cs as)(ha:PE X a ta)(hb:vW a=true):PE X (.Attribute a f pos) (fun O H Q=>ta O H fun v H1=>Gv Y g f v H1 Q):=by
 intro pins s O H Q I h;refine TR (Dq hb) (aT (ha pins s O H _ I h) fun u s1 ⟨v,H1,I1,r1,q1⟩=>?_);unfold Gv at q1;split at q1
 ·rename_i Cs as e1;split at q1
  ·rename_i e;cases(show u=bG e from r1);obtain⟨m,C,d,fs,he,hd,⟨hC,hf⟩,v,l,q⟩:=q1;have k:=(hK Cs as e1).2 C hC;exact T_ I1 he hd k.1.toxR (k.2.2 f hf) l fun u' s2 I2 ru=>⟨v,H1,I2,ru,q⟩
  ·exact q1.elim
 ·exact q1.elim
end
theorem range_getD(d:α)(ss:List α):(bS ss.length).map (fun i=>ss.getD i d)=ss:=by
 apply List.ext_getElem
 ·simp
 ·intro i h1 h2;simp[b8,h2]
theorem Em(ss:List Str):uA (fun i=>ss.getD i ⟨#[]⟩) ss.length=m9 ss:=by
 unfold uA m9;rw[range_getD]
theorem Aq:∀{ss:List Str}{its:List Value},bE (ss.map V.str) its->∀(i:Nat) (v:Value),its[i]?=some v->∃t,v=.str (ss.getD i ⟨#[]⟩) t
|[],_,.nil,i,v,h=>by simp at h
|s::ss,_,.cons r q,0,v,h=>by
 obtain⟨t,e⟩:=r;exact⟨t,by rw[List.getElem?_cons_zero]at h;rw[<-bJ h,e];rfl⟩
|s::ss,_,.cons r q,i+1,v,h=>by
 rw[mH]at h;obtain⟨t,e⟩:=Aq q i v h;exact⟨t,by rw[e];rfl⟩
section
variable{X:Cx}
theorem Ur{p1 p2 p3:Pos}(hc:X.calm=true)(hg1:Gl X "len")(hm1:X.mg "len"=none)(hg2:Gl X "set")(hm2:X.mg "set"=none)(he:PE X e te)(hs:noStar e=true) :
  PE X (.Call (.Name "len" p1) [.Call (.Name "set" p2) [e] [] p3] [] pos) (fun O H Q=>te O H fun x H1=>SE x H1 Q):=by
 intro pins s O H Q I h;refine eK (nZ I hg1 hm1 (Bf.boot .len) ?_ (Bf.ok .len).1 (Bf.ok .len).2);refine gD ?_ rfl rfl;show aD _ _ (vA ((false,eval (.Call (.Name "set" p2) [e] [] p3) X.env)::kP pos (cV [] X.env))) _ _ s;refine fH (eK (nZ I hg2 hm2 (u:=.type "set") (by decide +kernel) ?_ (by decide) (by decide)));refine fV ?_ (eF hs) rfl;rw[eF hs];show aD _ _ (vA ((false,eval e X.env)::kP p3 (cV [] X.env))) _ _ s;refine fH (aT (he pins s O H _ I h) fun u s1 ⟨x,H1,I1,r1,b,ss,ex,hx,hl,q⟩=>?_);refine iW ?_;subst ex;cases r1;obtain⟨its,r,p,_⟩:=I1.list (Rd.qK hx);have hlen:its.length=ss.length:=by rw[<-r.length,ah]
 have hsz:its.toArray.size=ss.length:=by rw[aZ,hlen]
 refine Fc (strKind X.prog X.w) (fun i=>ss.getD i ⟨#[]⟩) (I1.ok.hd hc) (PlainL.is p) (fun i v hv=>?_) (by rw[hsz];unfold uh;omega) fun h' tk hS keep=>?_
 ·obtain⟨t,rfl⟩:=Aq r i v (by simpa using hv);exact⟨strKind_is _ _ _ _,rfl⟩
 ·refine iW ?_;have hS:h'.SetOf (strKind X.prog X.w) s1.heap.objs.size _ (uA (fun i=>ss.getD i ⟨#[]⟩) its.toArray.size).length:=hS;rw[hsz,Em]at hS;obtain⟨o,es,ep,t,ho,hex,hd,hel,hmem,hb,hf,hn⟩:=hS;refine call_len_set ho hex hd hf (by rw[hn];have:(m9 ss).length<=ss.length:=(by rw[<-Em];exact Dg _ _);omega) ⟨.int _,H1,(I1.kept (t':=tk) fun b u e=>keep b u (aP e) e).tok _,⟨_,rfl⟩,?_⟩;rw[hn];exact q
end
theorem A6:∀(xs ys:List V) (i:Nat) (it:Item),(uD xs ys)[i]?=some it->∃x y,xs[i]?=some x/\ys[i]?=some y/\it=.tup [x,y]
|x::xs,y::ys,0,it,h=>by cases h;exact⟨x,y,rfl,rfl,rfl⟩
|x::xs,y::ys,i+1,it,h=>by
 have h:(uD xs ys)[i]?=some it:=h;obtain⟨a,b,h1,h2,h3⟩:=A6 xs ys i it h;exact⟨a,b,h1,h2,h3⟩
|[],ys,i,it,h=>by cases ys<;>cases h
|_::_,[],i,it,h=>by cases h
theorem GG:∀(xs ys:List V),(uD xs ys).length=min xs.length ys.length
|x::xs,y::ys=>by
 show(uD xs ys).length+1=min (xs.length+1) (ys.length+1);rw[GG xs ys];omega
|[],ys=>by cases ys<;>simp[uD]
|_::_,[]=>by simp[uD]
noncomputable def Ww(a b:Addr):It:=
 ⟨fun i H=>∃xs ys x y,Rd H a (.lst xs)/\Rd H b (.lst ys)/\xs[i]?=some x/\ys[i]?=some y,
fun i H v H'=>∃p x y,H p=none/\v=.ref p/\H'=upd H p (.tup [x,y])/\(∀xs,Rd H a (.lst xs)->xs[i]?=some x)/\∀ys,Rd H b (.lst ys)->ys[i]?=some y,
fun i H=>∃xs ys,Rd H a (.lst xs)/\Rd H b (.lst ys)/\(xs.length<=i\/ys.length<=i)⟩
theorem P_{b:Addr}{ys:List V}:pH (Ww a b) (fun H=>Rd H a (.lst xs)/\Rd H b (.lst ys)) (uD xs ys) where
 go:=fun i H it ok hi=>by
  obtain⟨x,y,h1,h2,_⟩:=A6 xs ys i it hi;exact⟨xs,ys,x,y,ok.1,ok.2,h1,h2⟩
 yld:=fun i H it x H' ok hi hy k hk=>by
  obtain⟨x,y,h1,h2,rfl⟩:=A6 xs ys i it hi;obtain⟨p,u,v,hp,rfl,rfl,k1,k2⟩:=hy;have e1:=k1 xs ok.1;have e2:=k2 ys ok.2;rw[h1]at e1;rw[h2]at e2;cases e1;cases e2;exact hk p hp
 stop:=fun i H ok hi=>⟨xs,ys,ok.1,ok.2,by rw[GG]at hi;omega⟩
def Yp(a b z t1 t2 i1 i2:Addr)(i:Nat)(h:Heap):Prop:=IsZip h z t1 t2 .none/\IsPair h t1 (.ref i1) (.ref i2)/\(∃u v,IsPair h t2 u v)/\h.IsListIter i1 a i/\h.IsListIter i2 b i
theorem Qa{x1}(a b z t1 t2 i1 i2:Addr)(D:ZipApart z t1 t2 i1 i2 a b):Turn P w K (.Tuple elts x1 pos) (Ww a b) [z,t1,t2,i1,i2] z (Yp a b z t1 t2 i1 i2) where
 mem:=by simp
 obj:=fun i h st c hc=>by
  obtain⟨s1,s2,⟨u,v,s3⟩,s4,s5⟩:=st;have hc:c=z\/c=t1\/c=t2\/c=i1\/c=i2:=by simpa using hc
  rcases hc with rfl|rfl|rfl|rfl|rfl
  ·exact⟨_,s1,fun v z=>by cases z⟩
  ·exact⟨_,s2,fun v z=>by cases z⟩
  ·exact⟨_,s3,fun v z=>by cases z⟩
  ·obtain⟨o,e,c,d⟩:=s4;exact⟨o,e,fun v z=>by rw[d]at z;cases z⟩
  ·obtain⟨o,e,c,d⟩:=s5;exact⟨o,e,fun v z=>by rw[d]at z;cases z⟩
 keep:=fun i h h' st k=>by
  obtain⟨s1,s2,⟨u,v,s3⟩,s4,s5⟩:=st;exact⟨k z (by simp) _ s1,k t1 (by simp) _ s2,⟨u,v,k t2 (by simp) _ s3⟩,s4.at fun o q=>k i1 (by simp) o q,s5.at fun o q=>k i2 (by simp) o q⟩
 item:=by
  intro X hP hw hK hc i pins s O H E I hf st hg;subst hP hw hK;obtain⟨s1,s2,⟨u0,v0,s3⟩,s4,s5⟩:=st;obtain⟨xs,ys,x,y,hq,hr,hx,hy⟩:=hg;obtain⟨its,rv,p,hz⟩:=I.list (.inl hq:gO X.K H a xs);obtain⟨its',rv',p',hz'⟩:=I.list (.inl hr:gO X.K H b ys);obtain⟨u,hu,ru⟩:=rv.get hx;obtain⟨v,hv,rw'⟩:=rv'.get hy;refine wpAny_pyNext_zip_item D s1 s2 s3 s4 s5 p.isList p'.isList (x:=u) (y:=v) (by simpa using hu) (by simpa using hv) fun h1 hz1 ho1 hi1 hi2 hn1 hsz hk1=>?_;refine⟨_,rfl,wpAny_letOwnedTupleGo_zip (s:={ s with heap:=h1 }) hz1 fun h2 hz2 hs2=>?_⟩;have hs2:lT z h1 h2:=hs2;have lee:z<s.heap.objs.size:=aP s1;have ne_e:s.heap.objs.size≠z:=oW lee;have ht2:h2.get? s.heap.objs.size=some { cls:=.type "tuple",data:=.seq #[u,v] }:=(hs2.2 _ ne_e).trans hn1;have hk2:∀c o,c∉[z,t1,t2,i1,i2]->s.heap.get? c=some o->h2.get? c=some o:=fun c o hc q=>by
   have hc:c≠z/\c≠t1/\c≠t2/\c≠i1/\c≠i2:=by simpa using hc
   exact(hs2.2 c hc.1).trans (hk1 c o hc.1 hc.2.2.1 hc.2.2.2.1 hc.2.2.2.2 q)
  have hn:H s.heap.objs.size=none:=I.hok.fresh (aM _);have hfr:∀c∈[z,t1,t2,i1,i2],H c=none:=fun c hc=>(hf c hc).1;have hok2:fW X.prog X.w (upd H s.heap.objs.size (.tup [x,y])) h2:=by
   have h0:fW X.prog X.w H h2:=rC (X:=X) (pins:=pins) I.hok hfr hk2;intro c o q;by_cases hb:c=s.heap.objs.size
   ·subst hb;rw[b6]at q;cases q;refine⟨by show(2:Nat)<=_;have:=eE;omega,[u,v],.cons ru (.cons rw' .nil),⟨_,ht2,rfl,_,rfl⟩⟩
   ·rw[aQ hb]at q;exact(h0 c o q).stay (fun _ _ _ r=>r) (fun c r=>by rw[aQ (cP r hn)];exact r) fun c ys r=>by rw[aQ (cP r hn)];exact r
  have I2:L2.Inv X pins O (upd H s.heap.objs.size (.tup [x,y])) { s with heap:=h2,toks:=s.toks }:=
   Inv.zM (ch:=[z,t1,t2,i1,i2]) I hf hk2 (fun c o hb q n=>by rw[aQ (bM (aP q))];exact n) (fun c o q=>by rw[aQ (cP q hn)];exact q) hok2
  refine⟨.ref s.heap.objs.size,_,I2,rfl,⟨_,x,y,hn,rfl,rfl,fun zs hy'=>by rw[I.sC (.inl hy') (.inl hq:gO X.K H a xs)];exact hx,fun zs hy'=>by rw[I.sC (.inl hy') (.inl hr:gO X.K H b ys)];exact hy⟩,⟨hz2,?_,⟨u,v,?_⟩,?_,?_⟩,fun c hc=>?_⟩
  ·exact(hs2.2 _ D.TIz).trans (hk1 _ _ D.TIz D.TITO D.TIi1 D.TIi2 s2)
  ·exact(hs2.2 _ D.TOz).trans ho1
  ·exact hi1.at fun o q=>(hs2.2 i1 D.i1z).trans q
  ·exact hi2.at fun o q=>(hs2.2 i2 D.i2z).trans q
  ·have hlt:c<s.heap.objs.size:=by
    have hc:c=z\/c=t1\/c=t2\/c=i1\/c=i2:=by simpa using hc
    rcases hc with rfl|rfl|rfl|rfl|rfl
    ·exact lee
    ·exact aP s2
    ·exact aP s3
    ·obtain⟨o,q,_⟩:=s4;exact aP q
    ·obtain⟨o,q,_⟩:=s5;exact aP q
   rw[aQ (bM hlt)];exact hfr c hc
 done:=by
  intro X hP hw hK hc i pins s O H E I hf st hg;subst hP hw hK;obtain⟨s1,s2,⟨u0,v0,s3⟩,s4,s5⟩:=st;obtain⟨xs,ys,hq,hr,hx⟩:=hg;obtain⟨its,rv,p,hz⟩:=I.list (.inl hq:gO X.K H a xs);obtain⟨its',rv',p',hz'⟩:=I.list (.inl hr:gO X.K H b ys);have hl:=rv.length;have hl':=rv'.length;have hfr:∀c∈[z,t1,t2,i1,i2],H c=none:=fun c hc=>(hf c hc).1;refine wpAny_pyNext_zip_end (I.ok.hd hc) D s1 s2 s3 s4 s5 p.isList p'.isList ?_ fun h' eb=>⟨rfl,?_⟩
  ·rcases hx with hx|hx
   ·exact .inl (by simp;omega)
   ·exact .inr (by simp;omega)
  ·have hk:∀c o,c∉[z,t1,t2,i1,i2]->s.heap.get? c=some o->h'.get? c=some o:=fun c o hb q=>by
    have hc:c≠z/\c≠t1/\c≠t2/\c≠i1/\c≠i2:=by simpa using hb
    exact eb c o hc.1 hc.2.2.1 hc.2.2.2.1 hc.2.2.2.2 q
   exact Inv.zM (t':=s.toks) (ch:=[z,t1,t2,i1,i2]) I hf hk (fun _ _ _ _ n=>n) (fun _ _ q=>q) (rC (X:=X) (pins:=pins) I.hok hfr hk)
 self:=fun _ _ _ _ _ st h=>Bw st.1 h
section
variable{X:Cx}
theorem Us{x1:Nat}{t:TA}(hg:Gl X "zip")(hm:X.mg "zip"=none)(ha:PA X (e::er) t)(n1:noStar e=true)(n2:bN er=true) :
  Ek X (.Tuple elts x1 tp) (.Call (.Name "zip" p) (e::er) [] pos) (fun O H k=>t O H fun vs H1=>KR vs H1 k):=by
 intro pins s O H k I h;refine Call_ (nZ I hg hm boot_zip (fV (aT (ha pos pins s O H (fun vs H1=>KR vs H1 k) I h) fun us s1 ⟨vs,H1,I1,r1,q⟩=>?_) (eF n1) (mj n2)))
 match vs,r1,q with
 |[],r1,q=>exact q.elim
 |[_],r1,q=>exact q.elim
 |_::_::_::_,r1,q=>exact q.elim
 |[x,y],r1,q=>
  obtain⟨u,v,rfl,ru,rv⟩:=vals2 r1;obtain⟨a,b,xs,ys,rfl,rfl,hx,hy,q⟩:=q;cases ru;cases rv;obtain⟨its,r1,p1,_⟩:=I1.list (.inl hx:gO X.K H1 a xs);obtain⟨its',r2,p2,_⟩:=I1.list (.inl hy:gO X.K H1 b ys);have l1:a<s1.heap.objs.size:=by obtain⟨_,e,_⟩:=p1.isList;exact aP e
  have l2:b<s1.heap.objs.size:=by obtain⟨_,e,_⟩:=p2.isList;exact aP e
  refine call_zip_2 p1.isList p2.isList fun h' z1 z2 z3 z4 z5 hsz hk=>?_;refine Bw (s:={ s1 with heap:=h' }) z1 ?_;refine⟨s1.heap.objs.size+4,[s1.heap.objs.size+4,s1.heap.objs.size+2,s1.heap.objs.size+3,s1.heap.objs.size,s1.heap.objs.size+1],_,_,H1,rfl,I1.kept (t':=s1.toks) hk,Qa a b _ _ _ _ _ (zipApart_new l1 l2),⟨z1,z2,⟨_,_,z3⟩,z4,z5⟩,fun c hc=>?_,_,_,P_,q⟩;have hle:s1.heap.objs.size<=c:=by
   have hc:c=s1.heap.objs.size+4\/c=s1.heap.objs.size+2\/c=s1.heap.objs.size+3\/c=s1.heap.objs.size\/c=s1.heap.objs.size+1:=by simpa using hc
   rcases hc with rfl|rfl|rfl|rfl|rfl<;>first|exact Nat.le_add_right _ _|exact aM _
  exact I1.qJ hle (I1.hok.fresh hle)
end
theorem band{a b:Bool}(h:(a&&b)=true):a=true/\b=true:=by simpa using h
variable{x1 x2 x3:Bool}
theorem ou(h:(x1&&x2&&x3)=true):(x1=true/\x2=true)/\x3=true:=⟨band (band h).1,(band h).2⟩
variable{x4:Bool}
theorem vZ(h:(x1&&x2&&x3&&x4)=true):((x1=true/\x2=true)/\x3=true)/\x4=true:=⟨ou (band h).1,(band h).2⟩
variable{x5:Bool}
theorem FU(h:(x1&&x2&&x3&&x4&&x5)=true):(((x1=true/\x2=true)/\x3=true)/\x4=true)/\x5=true:=⟨vZ (band h).1,(band h).2⟩
variable{x6:Bool}
theorem qg(h:(x1&&x2&&x3&&x4&&x5&&x6)=true):((((x1=true/\x2=true)/\x3=true)/\x4=true)/\x5=true)/\x6=true:=⟨FU (band h).1,(band h).2⟩
variable{x7:Bool}
theorem FW(h:(x1&&x2&&x3&&x4&&x5&&x6&&x7)=true):(((((x1=true/\x2=true)/\x3=true)/\x4=true)/\x5=true)/\x6=true)/\x7=true:=⟨qg (band h).1,(band h).2⟩
variable{x8:Bool}
theorem Yq(h:(x1&&x2&&x3&&x4&&x5&&x6&&x7&&x8)=true):((((((x1=true/\x2=true)/\x3=true)/\x4=true)/\x5=true)/\x6=true)/\x7=true)/\x8=true:=⟨FW (band h).1,(band h).2⟩
theorem Yr{x9:Bool}(h:(x1&&x2&&x3&&x4&&x5&&x6&&x7&&x8&&x9)=true):(((((((x1=true/\x2=true)/\x3=true)/\x4=true)/\x5=true)/\x6=true)/\x7=true)/\x8=true)/\x9=true:=⟨Yq (band h).1,(band h).2⟩
theorem sL{a:Bool}(h:(!a)=true):a=false:=by simpa using h
theorem no{P:Prop}(h:false=true):P:=absurd h aK
variable{k:Nat}
variable{as:iP}
section
variable{X:Cx}{T:Tab}{Y:List G}{E:XK}
theorem Ok.kZ(ok:Ok X T Y E)(h:qV T.sc x=true):Gl X x:=by
 have h:=of_decide_eq_true h;rw[<-ok.sc]at h;exact h
theorem Ok.rE(ok:Ok X T Y E)(h:T.bn.contains x=true):X.mg x=none:=ok.bn x (by simpa using h)
theorem Ok.GH(ok:Ok X T Y E)(h:decide (T.N[i]?=some x)=true):X.N[i]?=some x:=by rw[ok.N];exact of_decide_eq_true h
theorem Ok.BY(ok:Ok X T Y E)(h:r6 T.sc T.N scope nl fr=true):u9 X.env.scope X.N scope nl fr:=by rw[ok.sc,ok.N];exact MN h
theorem Wx{v:V}{c:Const}{j:Nat}(h:PR v c=true):PE X (.Constant c j pos) (fun _ H Q=>Q v H):=by
 cases v<;>cases c<;>first|exact no h|skip
 ·exact VB
 ·have e:=of_decide_eq_true h;subst e;exact XM
 ·have e:=of_decide_eq_true h;subst e;exact Mi
 ·have e:=of_decide_eq_true h;subst e;exact VC
theorem Ut(hN:X.N[i]?=some x)(hv:DZ X.env.scope x)(h1:(x==("__debug__":Str))=false)(h2:(x==("__classdict__":Str))=false):PE X (.Name x p) (fun O H Q=>mh O i fun v=>Q v H):=by
 intro pins s O H Q I h;refine F8 hN hv h1 h2 pins s O H Q I ?_;unfold mh at h;split at h
 ·exact⟨_,by assumption,h⟩
 ·exact h.elim
theorem Wy(ok:Ok X T Y E)(hx:T.gl[g]?=some x)(hg:Gl X x)(hd:(x==("__debug__":Str))=false):PE X (.Name x p) (fun _ H Q=>match Y[g]? with
  |some (.val v)=>Q v H
  |some (.tup a _)=>Q (.ref a) H
  |_=>False):=by
 intro pins s O H Q I h;split at h
 ·rename_i v e;obtain⟨u,hm,r⟩:=ok.gl g x _ hx e;exact Dc hg hm r hd pins s O H Q I h
 ·rename_i a xs e;obtain⟨hm,_⟩:=ok.gl g x _ hx e;exact Dc (v:=.ref a) hg hm rfl hd pins s O H Q I h
 ·exact h.elim
theorem Ys{t:TA}(ok:Ok X T Y E)(hx:T.gl[g]?=some x)(hg:Gl X x)(hd:(x==("__debug__":Str))=false)(ha:PA X es t)(hn:es=[]->t=fun _ H Q=>Q [] H)(hs:bN es=true) :
  PE X (.Call (.Name x p) es [] pos) (fun O H Q=>match Y[g]? with
   |some (.fn sp dvs)=>t O H fun vs H1=>sp (vs++dvs) H1 Q E
   |_=>False):=by
 intro pins s O H Q I h;split at h
 ·rename_i sp dvs e;obtain⟨k,f,fd,ps,ds,q1,q2,q3,q4,q5,q6,q7⟩:=ok.gl g x _ hx e;cases es with
  |nil=>
   have e:=hn rfl;subst e;exact Ph q1 q2 hg q3 q4 q5 q6 q7 hd pins s O H Q I h
  |cons e er=>
   have hs':noStar e=true/\bN er=true:=by simpa[bN]using hs
   exact TU q1 q2 hg q3 q4 q5 q6 q7 ha hd (eF hs'.1) (mj hs'.2) pins s O H Q I h
 ·exact h.elim
theorem Uu(ok:Ok X T Y E)(hi:X.N[i]?=some x)(hl:PN T x=true):PG X (.Name x p) (fun v O H Q=>Q (O.set i (some v)) H):=by
 unfold PN at hl;have hsc:=ok.sc;split at hl
 ·rename_i e;rw[<-hsc]at e;exact Jw ok.nd hi (.inl e) (.inr e)
 ·rename_i e;rw[<-hsc]at e;exact Jw ok.nd hi (.inr e) (.inl (ok.own x hl))
 ·exact no hl
theorem pg_tup'{gs:qB}{t:Ah}(hc:X.calm=true)(h:BD X es t)(hn:es.length=gs.len)(hs:bN es=true):PG X (.Tuple es k pos) (fun v O H Q=>match v with
  |.ref a=>uC X.K H a fun t' xs=>t'=true/\xs.length=gs.len/\t xs O H Q
  |_=>False):=by
 intro pins s O H v u Q I r hw;cases v with
 |ref a=>
  obtain⟨t',xs,hx,ht,hl,hw⟩:=hw;subst ht;rcases hx.sq with⟨hf,_⟩|⟨_,z⟩
  ·cases hf
  ·exact VH (n:=es.length) hc h (vY hs).1 (vY hs).2 pins s O H _ u Q I r ⟨a,xs,rfl,z,by omega,hw⟩
 |_=>exact ay hw
theorem pg_sub'{i:Expr}{to ti:TE}(hu:X.A.units+60<dS)(hp:vX i=true)(ho:PE X o to)(hi:PE X i ti):PG X (.Subscript o i pos) (fun v O H Q=>to O H fun x H1=>ti O H1 fun y H2=>match x with
  |.ref a=>match H2 a with
   |some (.lst xs)=>∃k j,y=.int k/\iF xs.length k=some j/\Q O (upd H2 a (.lst (xs.set j v)))
   |some (.dK kvs)=>∃k,y=kV k/\kvs.length<aa/\Q O (upd H2 a (.dK (putK kvs k v)))
   |some (.dT kvs)=>∃k b,y=.ref b/\H2 b=some (.tup (k.map kV))/\kvs.length<aa/\Q O (upd H2 a (.dT (putK kvs k v)))
   |_=>False
  |_=>False):=by
 have hS:Pa X (fun x y v H2 Q=>match x with
  |.ref a=>match H2 a with
   |some (.lst xs)=>∃k j,y=.int k/\iF xs.length k=some j/\Q (upd H2 a (.lst (xs.set j v)))
   |some (.dK kvs)=>∃k,y=kV k/\kvs.length<aa/\Q (upd H2 a (.dK (putK kvs k v)))
   |some (.dT kvs)=>∃k b,y=.ref b/\H2 b=some (.tup (k.map kV))/\kvs.length<aa/\Q (upd H2 a (.dT (putK kvs k v)))
   |_=>False
  |_=>False):=by
  intro pins s O H o i v ov iv u Q I ro ri rv h;split at h
  ·split at h
   ·obtain⟨k,j,rfl,hj,q⟩:=h;exact set_list pins s O H _ _ v ov iv u Q I ro ri rv ⟨_,_,_,j,rfl,rfl,by assumption,hj,q⟩
   ·rename_i a _ kvs hk;obtain⟨k,rfl,hl,q⟩:=h;cases(show ov=bG a from ro);exact Eb (by omega) I (.inl ⟨kvs,k,hk,rfl,hl,rfl⟩) ri rv fun s' I'=>⟨_,I',q⟩
   ·rename_i a _ kvs hk;obtain⟨k,b,rfl,hb,hl,q⟩:=h;cases(show ov=bG a from ro);exact Eb (by omega) I (.inr ⟨kvs,k,b,hk,rfl,hb,hl,rfl⟩) ri rv fun s' I'=>⟨_,I',q⟩
   ·exact h.elim
  ·exact h.elim
 intro pins s O H v u Q I r h;refine VI ho hi hS (fun _=>by cases i<;>first|rfl|exact no hp) pins s O H v u Q I r ?_;exact h
theorem jf:PT X e (fun _ _ _=>False):=fun _ _ _ _ _ _ h=>h.elim
theorem Wz{a:Expr}{tc ta tb:TT}(hc:PT X c tc)(ha:PT X a ta)(hb:PT X b tb):PT X (.IfExp c a b pos) (fun O H Q=>tc O H fun k H1=>if k=true then ta O H1 Q else tb O H1 Q):=by
 intro pins s O H Q I h;refine isTrue_IfExp (aT (hc pins s O H _ I h) fun d s1 ⟨H1,I1,q1⟩=>?_);cases d with
 |true=>exact ha pins s1 O H1 Q I1 q1
 |false=>exact hb pins s1 O H1 Q I1 q1
theorem JH{Q:Bool->Hp->Prop}:wT K Y E (.call g as) O H Q=wE K Y E (.call g as) O H (fun x H2=>j6 K x H2 fun b=>Q b H2):=by
 show(match Y[g]? with
  |some (.fn sp dvs)=>wEs K Y E as O H fun vs H1=>sp (vs++dvs) H1 (fun x H2=>j6 K x H2 fun b=>Q b H2) E
  |_=>False)=(match Y[g]? with
  |some (.fn sp dvs)=>wEs K Y E as O H fun vs H1=>sp (vs++dvs) H1 (fun x H2=>j6 K x H2 fun b=>Q b H2) E
  |_=>False)
 rfl
theorem Uv(ok:Ok X T Y E)(h:PE X e (wE X.K Y E (.call g as)))(he:∀whole,tw e X.env whole=(do let v <-whole;vB e.pos;nU [v] (CK v))):PT X e (wT X.K Y E (.call g as)):=by
 have z:=pt_val' h he;intro pins s O H Q I q;rw[JH]at q;exact z pins s O H Q I q
theorem po_some'(h:PE X e te):PO X (some e) (fun O H Q=>te O H fun x H1=>match x with
  |.int i=>Q (some i) H1
  |_=>False):=by
 intro pins s O H Q I q;rw[FA];refine aT (h pins s O H _ I q) fun v s1 ⟨x,H1,I1,r1,q1⟩=>?_;cases x with
 |int i=>
  obtain⟨t,rfl⟩:=r1;exact⟨some i,H1,I1,.int i t,q1⟩
 |_=>exact ay q1
theorem pgs_nil':BD X [] (fun vs O H Q=>match vs with
  |[]=>Q O H
  |_=>False):=by
 intro pins s O H vs us Q I r h;cases vs with
 |nil=>exact TL pins s O H [] us Q I r ⟨rfl,h⟩
 |cons v vr=>exact ay h
theorem pgs_cons'{t:TG}{u:Ah}(h1:PG X e t)(h2:BD X es u)(hs:noStar e=true):BD X (e::es) (fun vs O H Q=>match vs with
  |v::vr=>t v O H fun σ' H'=>u vr σ' H' Q
  |_=>False):=by
 intro pins s O H vs us Q I r h;cases vs with
 |nil=>exact ay h
 |cons v vr=>exact Pb h1 h2 (by rw[p_ hs];rfl) pins s O H (v::vr) us Q I r ⟨v,vr,rfl,h⟩
theorem SJ:∀(gs:qB) (es:List Expr),FQ T gs es=true->es.length=gs.len
|.nil,es,h=>by
 cases es with
 |nil=>rfl
 |cons e er=>exact no h
|.cons g r,es,h=>by
 cases es with
 |nil=>exact no h
 |cons e er=>
  obtain⟨_,h2⟩:=band h;show er.length+1=r.len+1;rw[SJ r er h2]
theorem SK(as:iP)(es:List Expr)(h:m_ T as es=true):es=[]->wEs X.K Y E as=fun _ H Q=>Q [] H:=by
 rintro rfl;cases as with
 |nil=>rfl
 |cons a r=>exact no h
theorem WA{a:CE}(h:PE X e (wE X.K Y E (.isx one gs a)))(he:∀whole,tw e X.env whole=(do let v <-whole;vB e.pos;nU [v] (CK v))):PT X e (wT X.K Y E (.isx one gs a)):=pt_val' h he
theorem WB{a:CE}(h:PE X e (wE X.K Y E (.isv g a)))(he:∀whole,tw e X.env whole=(do let v <-whole;vB e.pos;nU [v] (CK v))):PT X e (wT X.K Y E (.isv g a)):=pt_val' h he
theorem Ok.pe(ok:Ok X T Y E)(h:decide (g<T.gl.length)=true):∀Cs as,Y[g]?=some (G.pe Cs as)->tV X.K Cs as:=fun Cs as e=>by
 have hl:=of_decide_eq_true h;exact ok.gl g (T.gl[g]) _ (aA hl) e
theorem hid{G:α->Prop}{e:α}(h:∀P:α->Prop,(∀x,G x->P x)->P e):G e:=h G fun _ h=>h
mutual
theorem dz:∀(c:CE) (e:Expr) {X:Cx}{T:Tab}{E:XK},Ok X T Y E->dw T c e=true->PE X e (wE X.K Y E c)/\PT X e (wT X.K Y E c)/\∀op vs p,e=.BoolOp op vs p->PW X e (wT X.K Y E c)
|.var i,e,X,T,E,ok,h=>by
 obtain⟨h0,h⟩:=band h;revert h;refine cg e (eq_of_beq h0) ?_;intro x p h;obtain⟨⟨⟨h1,h2⟩,h3⟩,h4⟩:=vZ h;rw[<-ok.sc]at h2;have z':PE X (.Name x p) (wE X.K Y E (.var i)):=Ut (ok.GH h1) (Wq h2) (sL h3) (sL h4);exact⟨z',pt_val' z' (fun _=>rfl),fun _ _ _ z=>nomatch z⟩
|.con v,e,X,T,E,ok,h=>by
 obtain⟨h0,h⟩:=band h;revert h;refine OW e (eq_of_beq h0) ?_;intro _ _ _ h;exact⟨Wx h,jf,fun _ _ _ z=>nomatch z⟩
|.glo g,e,X,T,E,ok,h=>by
 obtain⟨h0,h⟩:=band h;revert h;refine cg e (eq_of_beq h0) ?_;intro x p h;obtain⟨⟨h1,h2⟩,h3⟩:=ou h;exact⟨Wy ok (of_decide_eq_true h1) (ok.kZ h2) (sL h3),jf,fun _ _ _ z=>nomatch z⟩
|.bin op a b,e,X,T,E,ok,h=>by
 obtain⟨h0,h⟩:=band h;revert h;refine Tt e (eq_of_beq h0) ?_;intro l o r p h;obtain⟨⟨h1,h2⟩,h3⟩:=ou h;have e:=of_decide_eq_true h1;subst e;exact⟨XU (Yi op) (dz a l ok h2).1 (dz b r ok h3).1,jf,fun _ _ _ z=>nomatch z⟩
|.nset a,e,X,T,E,ok,h=>by
 obtain⟨h0,h⟩:=band h;obtain⟨hf,h⟩:=band h;obtain⟨ha,h⟩:=band h;revert hf ha h;refine eB e (eq_of_beq h0) ?_;intro fn es kw p hf ha h;revert h;refine cg fn (eq_of_beq hf) ?_;intro x px h
 match es,ha,h with
 |[],ha,h=>exact no ha
 |_::_::_,ha,h=>exact no ha
 |[c],ha,h=>
  obtain⟨hb,ha⟩:=band ha;revert h ha;refine eB c (eq_of_beq hb) ?_;intro f2 es2 kw2 p2 h ha;revert h;refine cg f2 (eq_of_beq ha) ?_;intro y py h
  match es2,kw2,kw,h with
  |[],_,_,h=>exact no h
  |_::_::_,_,_,h=>exact no h
  |[_],_::_,_,h=>exact no h
  |[_],[],_::_,h=>exact no h
  |[l],[],[],h=>
   obtain⟨hcm,h⟩:=band h;obtain⟨h,h8⟩:=band h;obtain⟨⟨⟨⟨⟨⟨h1,h2⟩,h3⟩,h4⟩,h5⟩,h6⟩,h7⟩:=FW h;have e1:=of_decide_eq_true h1;have e2:=of_decide_eq_true h4;subst e1 e2;exact⟨Ur (ok.calm hcm) (ok.kZ h2) (ok.rE h3) (ok.kZ h5) (ok.rE h6) (dz a l ok h8).1 h7,jf,fun _ _ _ z=>nomatch z⟩
|.neg a,e,X,T,E,ok,h=>by
 obtain⟨h0,h⟩:=band h;revert h;refine Ad e (eq_of_beq h0) ?_;intro op l p h;cases op<;>first|exact no h|skip
 exact⟨pe_neg' (dz a l ok h).1,jf,fun _ _ _ z=>nomatch z⟩
|.not a,e,X,T,E,ok,h=>by
 obtain⟨h0,h⟩:=band h;revert h;refine Ad e (eq_of_beq h0) ?_;intro op l p h;cases op<;>first|exact no h|skip
 exact⟨pe_not' (dz a l ok h).1,VD (dz a l ok h).2.1,fun _ _ _ z=>nomatch z⟩
|.and a b,e,X,T,E,ok,h=>by
 obtain⟨h0,h⟩:=band h;revert h;refine Bx e (eq_of_beq h0) ?_;intro op vs p h;cases op<;>first|exact no h|skip
 match vs,h with
 |[x,y],h=>
  obtain⟨h1,h2⟩:=band h;have w:=pw_and (pos:=p) (dz a x ok h1).2.1 (pw_and1 (dz b y ok h2).2.1);exact⟨pe_and' (dz a x ok h1).1 (Mj (dz b y ok h2).1),w.pt,fun _ _ _ _=>w⟩
 |x::y::z::r,h=>
  obtain⟨h1,h2⟩:=band h;have w:=pw_and (dz a x ok h1).2.1 ((dz b _ ok h2).2.2 _ _ _ rfl);exact⟨pe_and' (dz a x ok h1).1 (dz b _ ok h2).1,w.pt,fun _ _ _ _=>w⟩
 |[],h=>exact no h
 |[x],h=>exact no h
|.or a b,e,X,T,E,ok,h=>by
 obtain⟨h0,h⟩:=band h;revert h;refine Bx e (eq_of_beq h0) ?_;intro op vs p h;cases op<;>first|exact no h|skip
 match vs,h with
 |[x,y],h=>
  obtain⟨h1,h2⟩:=band h;have w:=pw_or (pos:=p) (dz a x ok h1).2.1 (pw_or1 (dz b y ok h2).2.1);exact⟨pe_or' (dz a x ok h1).1 (Mj (dz b y ok h2).1),w.pt,fun _ _ _ _=>w⟩
 |x::y::z::r,h=>
  obtain⟨h1,h2⟩:=band h;have w:=pw_or (dz a x ok h1).2.1 ((dz b _ ok h2).2.2 _ _ _ rfl);exact⟨pe_or' (dz a x ok h1).1 (dz b _ ok h2).1,w.pt,fun _ _ _ _=>w⟩
 |[],h=>exact no h
 |[x],h=>exact no h
|.ite c a b,e,X,T,E,ok,h=>by
 obtain⟨h0,h⟩:=band h;revert h;refine Tu e (eq_of_beq h0) ?_;intro t x y p h;obtain⟨⟨h1,h2⟩,h3⟩:=ou h;exact⟨O7 (dz c t ok h1).2.1 (dz a x ok h2).1 (dz b y ok h3).1,Wz (dz c t ok h1).2.1 (dz a x ok h2).2.1 (dz b y ok h3).2.1,fun _ _ _ z=>nomatch z⟩
|.cmp op a b,e,X,T,E,ok,h=>by
 obtain⟨h0,h⟩:=band h;revert h;refine Ae e (eq_of_beq h0) ?_;intro l os rs p h
 match os,rs,h with
 |[o],[r],h=>
  obtain⟨⟨⟨h1,h2⟩,h3⟩,h4⟩:=vZ h;have e:=of_decide_eq_true h1;subst e;exact⟨TQ (zL ok.room op) (dz a l ok h3).1 (dz b r ok h4).1 (sL h2),pt_cmp' ok.room (dz a l ok h3).1 (dz b r ok h4).1 (sL h2),fun _ _ _ z=>nomatch z⟩
 |[],_,h=>exact no h
 |_::_::_,_,h=>exact no h
 |[_],[],h=>exact no h
 |[_],_::_::_,h=>exact no h
|.chain o1 o2 a b c,e,X,T,E,ok,h=>by
 obtain⟨h0,h⟩:=band h;revert h;refine Ae e (eq_of_beq h0) ?_;intro l os rs p h
 match os,rs,h with
 |[p1,p2],[m,r],h=>
  obtain⟨⟨⟨⟨⟨h1,h2⟩,h3⟩,h4⟩,h5⟩,h6⟩:=qg h;have e1:=of_decide_eq_true h1;have e2:=of_decide_eq_true h2;subst e1 e2;exact⟨pe_chain' ok.room (dz a l ok h4).1 (dz b m ok h5).1 (dz c r ok h6).1 (sL h3),pt_chain' ok.room (dz a l ok h4).1 (dz b m ok h5).1 (dz c r ok h6).1 (sL h3),fun _ _ _ z=>nomatch z⟩
 |[],_,h=>exact no h
 |[_],_,h=>exact no h
 |_::_::_::_,_,h=>exact no h
 |[_,_],[],h=>exact no h
 |[_,_],[_],h=>exact no h
 |[_,_],_::_::_::_,h=>exact no h
|.call g as,e,X,T,E,ok,h=>by
 obtain⟨h0,h⟩:=band h;obtain⟨hf,h⟩:=band h;revert hf h;refine eB e (eq_of_beq h0) ?_;intro f es kw p hf h;revert h;refine cg f (eq_of_beq hf) ?_;intro x px h;cases kw<;>first|exact no h|skip
 obtain⟨⟨⟨⟨h1,h2⟩,h3⟩,h4⟩,h5⟩:=FU h;have z':PE X (.Call (.Name x px) es [] p) (wE X.K Y E (.call g as)):=Ys ok (of_decide_eq_true h1) (ok.kZ h2) (sL h3) (uG as es ok h4 h5) (SK as es h5) h4;exact⟨z',Uv ok z' (fun _=>rfl),fun _ _ _ z=>nomatch z⟩
|.blt f as,e,X,T,E,ok,h=>by
 obtain⟨h0,h⟩:=band h;obtain⟨hf,h⟩:=band h;revert hf h;refine eB e (eq_of_beq h0) ?_;intro fn es kw p hf h;revert h;refine cg fn (eq_of_beq hf) ?_;intro x px h;cases kw<;>first|exact no h|skip
 obtain⟨hcm,h⟩:=band h;obtain⟨⟨⟨⟨⟨h1,h2⟩,h3⟩,h4⟩,h5⟩,h6⟩:=qg h;cases es with
 |nil=>exact no h5
 |cons e er=>
  have z':PE X (.Call (.Name x px) (e::er) [] p) (wE X.K Y E (.blt f as)):=Ws (ok.calm hcm) ok.room (ok.kZ h2) (of_decide_eq_true h1) (ok.rE h3) (uG as _ ok h4 h6) h4;exact⟨z',pt_val' z' (fun _=>rfl),fun _ _ _ z=>nomatch z⟩
|.mth m o as,e,X,T,E,ok,h=>by
 obtain⟨h0,h⟩:=band h;obtain⟨hf,h⟩:=band h;revert hf h;refine eB e (eq_of_beq h0) ?_;intro fn es kw p hf h;revert h;refine xK fn (eq_of_beq hf) ?_;intro l nm ap h;cases kw<;>first|exact no h|skip
 obtain⟨⟨⟨⟨⟨⟨h1,h2⟩,h3⟩,h4⟩,h5⟩,h6⟩,h7⟩:=FW h;have e:=of_decide_eq_true h1;subst e;have ho:=(dz o l ok h6).1;have ha:=uG as es ok h4 h7;cases es with
 |nil=>
  have q:=SK (X:=X) (Y:=Y) (E:=E) as [] h7 rfl;have z:=Uo ok.room (m:=m) (apos:=ap) (cpos:=p) ho h2 h3;have z':PE X (.Call (.Attribute l m.name ap) [] [] p) (wE X.K Y E (.mth m o as)):=by
   show PE X _ (fun O H Q=>wE X.K Y E o O H fun x H1=>tT m x H1/\wEs X.K Y E as O H1 fun vs H2=>xU X.K m x vs H2 Q);rw[q];exact z
  exact⟨z',pt_val' z' (fun _=>rfl),fun _ _ _ z=>nomatch z⟩
 |cons e er=>
  have z':PE X (.Call (.Attribute l m.name ap) (e::er) [] p) (wE X.K Y E (.mth m o as)):=Wr ok.room ho ha h2 h3 h4 (of_decide_eq_true h5);exact⟨z',pt_val' z' (fun _=>rfl),fun _ _ _ z=>nomatch z⟩
|.ix a b,e,X,T,E,ok,h=>by
 obtain⟨h0,h⟩:=band h;revert h;refine kY e (eq_of_beq h0) ?_;intro l r p h;obtain⟨⟨h1,h2⟩,h3⟩:=ou h;have z':PE X (.Subscript l r p) (wE X.K Y E (.ix a b)):=X5 (ZV ok.room) (dz a l ok h2).1 (dz b r ok h3).1 (K7 h1);exact⟨z',pt_val' z' (fun _=>rfl),fun _ _ _ z=>nomatch z⟩
|.sl a lo hi,e,X,T,E,ok,h=>by
 obtain⟨h0,h⟩:=band h;obtain⟨hf,h⟩:=band h;revert hf h;refine kY e (eq_of_beq h0) ?_;intro l r p hf h;revert h;refine Tv r (eq_of_beq hf) ?_;intro x y st ps h;cases st<;>first|exact no h|skip
 obtain⟨⟨h1,h2⟩,h3⟩:=ou h;exact⟨Pj ZW (dz a l ok h1).1 (SM lo x ok h2) (SM hi y ok h3),jf,fun _ _ _ z=>nomatch z⟩
|.lst as,e,X,T,E,ok,h=>by
 obtain⟨h0,h⟩:=band h;revert h;refine Vt e (eq_of_beq h0) ?_;intro _ _ h;obtain⟨h1,h2⟩:=band h;exact⟨sG (uG as _ ok h1 h2),jf,fun _ _ _ z=>nomatch z⟩
|.tup as,e,X,T,E,ok,h=>by
 obtain⟨h0,h⟩:=band h;revert h;refine uv e (eq_of_beq h0) ?_;intro _ _ _ h;obtain⟨h1,h2⟩:=band h;exact⟨V5 (uG as _ ok h1 h2),jf,fun _ _ _ z=>nomatch z⟩
|.comp nl fr elt tg src cond,e,X,T,E,ok,h=>by
 obtain⟨h0,h⟩:=band h;revert h;refine zz e (eq_of_beq h0) ?_;intro l gs sc p h
 match gs,h with
 |[],h=>exact no h
 |⟨_,_,_,.ofNat 0⟩::_::_,h=>exact no h
 |⟨_,_,_,.ofNat (n+1)⟩::_,h=>exact no h
 |⟨_,_,_,.negSucc n⟩::_,h=>exact no h
 |[⟨t,it,ifs,.ofNat 0⟩],h=>
  obtain⟨hcm,h⟩:=band h;obtain⟨⟨⟨⟨⟨h2,h3⟩,h4⟩,h5⟩,h6⟩,h7⟩:=qg h;obtain⟨h3,h3'⟩:=band h3;exact⟨Ul (ok.calm hcm) (ok.BY h2) (WC src it h3' ok h4) (ya h3) (fun C aax H ex=>JI tg t (pL ok h2 C aax H ex) h5) (fun C aax H ex=>Ze cond ifs (pL ok h2 C aax H ex) h6)
   (fun C aax H ex=>(dz elt l (pL ok h2 C aax H ex) h7).1),jf,fun _ _ _ z=>nomatch z⟩
|.isx one gs a,e,X,T,E,ok,h=>by
 obtain⟨h0,h⟩:=band h;obtain⟨hf,h⟩:=band h;revert hf h;refine eB e (eq_of_beq h0) ?_;intro fn es kw p hf h;revert h;refine cg fn (eq_of_beq hf) ?_;intro x px h
 match es,h with
 |[],h=>exact no h
 |[_],h=>exact no h
 |_::_::_::_,h=>exact no h
 |[l,c],h=>
  cases kw<;>first|exact no h|skip
  obtain⟨⟨⟨⟨⟨h1,h2⟩,h3⟩,h4⟩,h5⟩,h6⟩:=qg h;have z':PE X (.Call (.Name x px) [l,c] [] p) (wE X.K Y E (.isx one gs a)):=Wt ok (ok.kZ h2) (of_decide_eq_true h1) (ok.rE h3) (dz a l ok h6).1 h4 h5;exact⟨z',WA z' (fun _=>rfl),fun _ _ _ z=>nomatch z⟩
|.isv g a,e,X,T,E,ok,h=>by
 obtain⟨h0,h⟩:=band h;obtain⟨hf,h⟩:=band h;obtain⟨ha,h⟩:=band h;revert hf ha h;refine eB e (eq_of_beq h0) ?_;intro fn es kw p hf ha h;revert h;refine cg fn (eq_of_beq hf) ?_;intro x px h
 match es,ha,h with
 |[],ha,h=>exact no ha
 |[_],ha,h=>exact no ha
 |_::_::_::_,ha,h=>exact no ha
 |[l,c],ha,h=>
  revert h;refine cg c (eq_of_beq ha) ?_;intro y py h;cases kw<;>first|exact no h|skip
  obtain⟨⟨⟨⟨⟨⟨⟨⟨h1,h2⟩,h3⟩,h4⟩,h5⟩,h6⟩,h7⟩,h8⟩,h9⟩:=Yr h;have z':PE X (.Call (.Name x px) [l,.Name y py] [] p) (wE X.K Y E (.isv g a)):=Wu (ok.pe h9) (ok.kZ h2) (of_decide_eq_true h1) (ok.rE h3) (ok.kZ h5) (of_decide_eq_true h4) (ok.rE h6) (dz a l ok h8).1 h7;exact⟨z',WB z' (fun _=>rfl),fun _ _ _ z=>nomatch z⟩
|.slp a lo hi k,e,X,T,E,ok,h=>by
 cases e<;>first|exact no h|skip
 rename_i l r p;cases r<;>first|exact no h|skip
 rename_i x y st p2;cases st<;>first|exact no h|skip
 rename_i st;cases st<;>first|exact no h|skip
 rename_i c j kp
 ·skip
  obtain⟨⟨⟨h1,h2⟩,h3⟩,h4⟩:=vZ h;cases c<;>first|exact no h1|skip
  have e:=of_decide_eq_true h1;subst e;exact⟨Wn (dz a l ok h2).1 (SM lo x ok h3) (SM hi y ok h4),jf,fun _ _ _ z=>nomatch z⟩
|.att g a f,e,X,T,E,ok,h=>by
 obtain⟨h0,h⟩:=band h;revert h;refine xK e (eq_of_beq h0) ?_;intro l nm p h
 ·skip
  obtain⟨⟨⟨h1,h2⟩,h3⟩,h4⟩:=vZ h;have e:=of_decide_eq_true h1;subst e;exact⟨Wv (ok.pe h4) (dz a l ok h3).1 h2,jf,fun _ _ _ z=>nomatch z⟩
theorem uG:∀(cs:iP) (es:List Expr) {X:Cx}{T:Tab}{E:XK},Ok X T Y E->bN es=true->m_ T cs es=true->PA X es (wEs X.K Y E cs)
|.nil,es,X,T,E,ok,hs,h=>by
 cases es with
 |nil=>exact Gb
 |cons e er=>exact no h
|.cons a r,es,X,T,E,ok,hs,h=>by
 cases es with
 |nil=>exact no h
 |cons e er=>
  obtain⟨h1,h2⟩:=band h;have hs':noStar e=true/\bN er=true:=by simpa[bN]using hs
  exact Dd (dz a e ok h1).1 (uG r er ok hs'.2 h2) (eF hs'.1)
theorem SM:∀(c:CO) (e:Option Expr) {X:Cx}{T:Tab}{E:XK},Ok X T Y E->GF T c e=true->PO X e (wO X.K Y E c)
|.none,e,X,T,E,ok,h=>by
 cases e with
 |none=>exact TY
 |some x=>exact no h
|.some a,e,X,T,E,ok,h=>by
 cases e with
 |none=>exact no h
 |some x=>exact po_some' (dz a x ok h).1
theorem Ze:∀(c:CO) (es:List Expr) {X:Cx}{T:Tab}{E:XK},Ok X T Y E->Wp T c es=true->JF X es (wC X.K Y E c)
|.none,es,X,T,E,ok,h=>by
 cases es with
 |nil=>exact Uj
 |cons x r=>exact no h
|.some a,es,X,T,E,ok,h=>by
 match es,h with
 |[x],h=>exact Uk (dz a x ok h).2.1
 |[],h=>exact no h
 |_::_::_,h=>exact no h
theorem JI:∀(c:CG) (e:Expr) {X:Cx}{T:Tab}{E:XK},Ok X T Y E->A4 T c e=true->PG X e (wG X.K Y E c)
|.name i,e,X,T,E,ok,h=>by
 obtain⟨h0,h⟩:=band h;revert h;refine cg e (eq_of_beq h0) ?_;intro _ _ h;obtain⟨h1,h2⟩:=band h;exact Uu ok (ok.GH h1) h2
|.tup gs,e,X,T,E,ok,h=>by
 obtain⟨h0,h⟩:=band h;revert h;refine uv e (eq_of_beq h0) ?_;intro _ _ _ h;obtain⟨hcm,h⟩:=band h;obtain⟨h1,h2⟩:=band h;exact pg_tup' (ok.calm hcm) (WD gs _ ok h1 h2) (SJ gs _ h2) h1
|.sub o i,e,X,T,E,ok,h=>by
 obtain⟨h0,h⟩:=band h;revert h;refine kY e (eq_of_beq h0) ?_;intro _ _ _ h;obtain⟨⟨h1,h2⟩,h3⟩:=ou h;exact pg_sub' ok.room h1 (dz o _ ok h2).1 (dz i _ ok h3).1
theorem WD:∀(cs:qB) (es:List Expr) {X:Cx}{T:Tab}{E:XK},Ok X T Y E->bN es=true->FQ T cs es=true->BD X es (JB X.K Y E cs)
|.nil,es,X,T,E,ok,hs,h=>by
 cases es with
 |nil=>exact pgs_nil'
 |cons e er=>exact no h
|.cons g r,es,X,T,E,ok,hs,h=>by
 cases es with
 |nil=>exact no h
 |cons e er=>
  obtain⟨h1,h2⟩:=band h;have hs':noStar e=true/\bN er=true:=by simpa[bN]using hs
  exact pgs_cons' (JI g e ok h1) (WD r er ok hs'.2 h2) hs'.1
theorem WC:∀(c:CI) (e:Expr) {tg:Expr}{X:Cx}{T:Tab}{E:XK},PU c tg=true->Ok X T Y E->PY T c e=true->Ek X tg e (wI X.K Y E c)
|.seq a,e,tg,X,T,E,_,ok,h=>Ui (dz a e ok h).1
|.range as,e,tg,X,T,E,_,ok,h=>by
 obtain⟨h0,h⟩:=band h;obtain⟨hf,h⟩:=band h;revert hf h;refine eB e (eq_of_beq h0) ?_;intro fn es kw p hf h;revert h;refine cg fn (eq_of_beq hf) ?_;intro x px h;cases kw<;>first|exact no h|skip
 ·skip
  obtain⟨⟨⟨⟨⟨h1,h2⟩,h3⟩,h4⟩,h5⟩,h6⟩:=qg h;have e:=of_decide_eq_true h1;subst e;cases es with
  |nil=>exact no h5
  |cons e er=>
   have hs':noStar e=true/\bN er=true:=by simpa[bN]using h4
   exact MK (ok.kZ h2) (ok.rE h3) (uG as _ ok h4 h6) (eF hs'.1) (mj hs'.2)
|.zip as,e,tg,X,T,E,tb,ok,h=>by
 cases tg<;>first|exact no tb|skip
 obtain⟨h0,h⟩:=band h;obtain⟨hf,h⟩:=band h;revert hf h;refine eB e (eq_of_beq h0) ?_;intro fn es kw p hf h;revert h;refine cg fn (eq_of_beq hf) ?_;intro x px h;cases kw<;>first|exact no h|skip
 obtain⟨⟨⟨⟨⟨h1,h2⟩,h3⟩,h4⟩,h5⟩,h6⟩:=qg h;have e:=of_decide_eq_true h1;subst e;cases es with
 |nil=>exact no h5
 |cons e er=>
  have hs':noStar e=true/\bN er=true:=by simpa[bN]using h4
  exact Us (ok.kZ h2) (ok.rE h3) (uG as _ ok h4 h6) hs'.1 hs'.2
|.enum a,e,tg,X,T,E,tb,ok,h=>by
 cases tg<;>first|exact no tb|skip
 obtain⟨h0,h⟩:=band h;obtain⟨hf,h⟩:=band h;revert hf h;refine eB e (eq_of_beq h0) ?_;intro fn es kw p hf h;revert h;refine cg fn (eq_of_beq hf) ?_;intro x px h
 match es,h with
 |[],h=>exact no h
 |_::_::_,h=>exact no h
 |[l],h=>
  cases kw<;>first|exact no h|skip
  obtain⟨⟨⟨⟨h1,h2⟩,h3⟩,h4⟩,h5⟩:=FU h;have e:=of_decide_eq_true h1;subst e;exact PL (ok.kZ h2) (ok.rE h3) (dz a l ok h5).1 (by rw[eF h4];rfl)
end
end
theorem Uw{l:Expr}{gs:List Comprehension}{vpos:Pos}(hk:env.scope.kind=.function)(h:FP env.scope sc y py vpos=true):nS (.ListComp l gs sc vpos) (some (.Name y py)) n env=pure true:=by
 unfold FP at h;simp only[bu,decide_eq_true_eq]at h;obtain⟨⟨h1,h2⟩,h3⟩:=h;have hb:env.blockKind=.function:=by
  unfold Env.blockKind;rw[hk];rfl
 show pure (env.blockKind==.function&&env.kindOf y==some .local&&py.line==vpos.line&&!(sc.names.any fun(n,k)=>n==y&&(k==.local||k==.cell)))=pure true;have e1:(env.blockKind==OX)=true:=by rw[hb];rfl
 have e2:(env.kindOf y==some NameKind.local)=true:=by
  have:env.kindOf y=some .local:=h1;rw[this];rfl
 have e3:(py.line==vpos.line)=true:=by rw[h2];simp
 rw[e1,e2,e3,h3];rfl
variable{t:Expr}
theorem yb(h:notTuple t=true\/notTuple e=true):xx [t] e env=pure none:=by
 unfold xx;rcases h with h|h
 ·cases t<;>first|rfl|exact no h
 ·cases t<;>first|rfl|(cases e<;>first|rfl|exact no h)
theorem En(h:rZ e=true):xw [t] e n env=pure false:=BW h
theorem Qc(hs:env.scope=sc)(h:(rZ e||PX sc t)=true):xw [t] e n env=pure false:=by
 rcases Bool.or_eq_true_iff.mp h with h|h
 ·exact En h
 ·subst hs;show nS e (some t) n env=pure false;unfold nS;split
  ·cases t with
   |Name y p=>
    have e2:(env.kindOf y==some NameKind.local)=false:=by
     have:¬env.scope.names.lookup y=some .local:=by simpa[PX]using h
     exact beq_eq_false_iff_ne.mpr this
    simp only[e2,gi,jd]
   |_=>rfl
  ·rfl
structure JJ (X:Cx) (T:Tab) (Y:List G) (E:XK):Prop extends Ok X T Y E where
 rz:T.calm=true->∃X0:Cx,X=X0.jP (uB X0 E)/\X.stack=X.env::X.outer/\X.env.frame=some X.env.locals/\X.A.handled=none
theorem JJ.hand{E:XK}(ok:JJ X T Y E)(v:Value):JJ (X.hand v) (K5 T) (Y.map G.hand) E0:={ ok.toOk.hand v with rz:=fun z=>nomatch z }
theorem GI{g:CG}(h:A4 T g t=true):noStar t=true:=by
 cases g with
 |name i=>exact cg t (eq_of_beq (band h).1) fun _ _=>rfl
 |tup gs=>exact uv t (eq_of_beq (band h).1) fun _ _ _=>rfl
 |sub o i=>exact kY t (eq_of_beq (band h).1) fun _ _ _=>rfl
theorem eO:∀(b:CB) (sts:List Stmt) {X:Cx}{T:Tab}{E:XK},Ok X T Y E->K4 T b sts=true->PB X sts (wB X.K Y b)
|.call g as,sts,X,T,E,ok,h=>by
 obtain⟨hf,h⟩:=band h
 match sts,hf,h with
 |[],hf,h=>exact no hf
 |st::sr,hf,h=>
  obtain⟨hf,hg⟩:=band hf;revert h hg;refine DY st (eq_of_beq hf) ?_;intro e p h hg;obtain⟨hg,hh⟩:=band hg;revert h hh;refine eB e (eq_of_beq hg) ?_;intro fn es kw pc h hh;revert h;refine cg fn (eq_of_beq hh) ?_;intro x px h;cases kw<;>first|exact no h|skip
  cases sr<;>first|exact no h|skip
  obtain⟨⟨⟨⟨⟨h1,h2⟩,h3⟩,h4⟩,h5⟩,h6⟩:=qg h;cases es with
  |nil=>exact no h5
  |cons e er=>
   have hs':noStar e=true/\bN er=true:=by simpa[bN]using h4
   intro pins s O H E' nx I q;unfold wB at q;split at q
   ·rename_i sp dvs e1;obtain⟨k,f,fd,ps,ds,q1,q2,q3,q4,q5,q6,q7⟩:=ok.gl g x _ (of_decide_eq_true h1) e1;exact Ud q1 q2 (ok.kZ h2) q3 q4 q5 q6 (uG as (e::er) ok.xM h4 h6) (sL h3) (eF hs'.1) (mj hs'.2) pins s O H E' nx I q
   ·exact q.elim
|.ite c a b,sts,X,T,E,ok,h=>by
 obtain⟨hf,h⟩:=band h
 match sts,hf,h with
 |[],hf,h=>exact no hf
 |st::sr,hf,h=>
  revert h;refine IC st (eq_of_beq hf) ?_;intro t x y p h;cases sr<;>first|exact no h|skip
  obtain⟨⟨h1,h2⟩,h3⟩:=ou h;exact Ye (dz c t ok.xM h1).2.1 (eO a x ok h2) (eO b y ok h3)
section
mutual
theorem WE:∀{Y:List G} (c:CS) (st:Stmt) {X:Cx}{T:Tab}{E:XK},JJ X T Y E->K6 T c st=true->PS X st (wS X.K Y E c)
|Y,.expr c,st,X,T,E,ok,h=>by
 obtain⟨h0,h⟩:=band h;revert h;refine DY st (eq_of_beq h0) ?_;intro _ _ h;obtain⟨h1,h2⟩:=band h;exact TJ (dz c _ ok.toOk h2).1 (BW h1)
|Y,.asg g c,st,X,T,E,ok,h=>by
 obtain⟨h0,h⟩:=band h;revert h;refine By st (eq_of_beq h0) ?_;intro ts e p h
 match ts,h with
 |[],h=>exact no h
 |_::_::_,h=>exact no h
 |[t],h=>
  obtain⟨⟨⟨h1,h2⟩,h3⟩,h4⟩:=vZ h;exact Mk (dz c e ok.toOk h4).1 (JI g t ok.toOk h3) (Qc ok.sc h1) (yb (.inl h2)) (by rw[p_ (GI h3)];rfl)
|Y,.tasg g c,st,X,T,E,ok,h=>by
 apply hid (e:=st);intro P zk;cases st<;>first|exact no h|skip
 rename_i ts e p
 match ts,h with
 |[],h=>exact no h
 |_::_::_,h=>exact no h
 |[t],h=>
  obtain⟨⟨⟨h1,h2⟩,h3⟩,h4⟩:=vZ h;refine zk _ ?_;exact Mk (dz c e ok.toOk h4).1 (JI g t ok.toOk h3) (En h1) (yb (.inr h2)) (by rw[p_ (GI h3)];rfl)
|Y,.aug i c,st,X,T,E,ok,h=>by
 obtain⟨h0,h⟩:=band h;obtain⟨hf,h⟩:=band h;revert hf h;refine Mc st (eq_of_beq h0) ?_;intro t op e p hf h;revert h;refine cg t (eq_of_beq hf) ?_;intro y py h;cases op<;>first|exact no h|skip
 obtain⟨⟨h1,h2⟩,h3⟩:=ou h;have hl:X.env.scope.names.lookup y=some .local:=by rw[ok.sc];exact of_decide_eq_true h2
 exact VL ok.nd (ok.toOk.GH h1) (.inl hl) (dz c e ok.toOk h3).1 VM (.inr hl)
|Y,.casg i c,st,X,T,E,ok,h=>by
 obtain⟨h0,h⟩:=band h;obtain⟨hf,h⟩:=band h;revert hf h;refine By st (eq_of_beq h0) ?_;intro ts e p hf h
 match ts,hf,h with
 |[],hf,h=>exact no hf
 |t::tr,hf,h=>
  obtain⟨hf,hg⟩:=band hf;revert h;refine cg t (eq_of_beq hf) ?_;intro y py h;cases tr<;>first|exact no h|skip
  revert h;refine zz e (eq_of_beq hg) ?_;intro l gs sc vpos h;have hcm:=(band h).1;replace h:=(band h).2;obtain⟨⟨h1,h2⟩,h3⟩:=ou h;cases c<;>first|exact no h3|skip
  rename_i nl fr elt tg src cond _ _ _
  match gs,h3 with
  |[],h=>exact no h
  |⟨_,_,_,.ofNat 0⟩::_::_,h=>exact no h
  |⟨_,_,_,.ofNat (n+1)⟩::_,h=>exact no h
  |⟨_,_,_,.negSucc n⟩::_,h=>exact no h
  |[⟨t,it,ifs,.ofNat 0⟩],h3=>
   replace h3:=(band (band h3).2).2;obtain⟨⟨⟨⟨⟨k2,k3⟩,k4⟩,k5⟩,k6⟩,k7⟩:=qg h3;obtain⟨k3,k3'⟩:=band k3;have hl:X.env.scope.names.lookup y=some .local:=by
    unfold FP at h2;simp only[bu,decide_eq_true_eq]at h2;rw[ok.sc];exact h2.1.1
   exact Um (ok.calm hcm) ok.nd (ok.toOk.GH h1) hl (ok.toOk.BY k2) (WC src it k3' ok.toOk k4) (ya k3) (Uw ok.kind (by rw[ok.sc];exact h2)) (fun C aax H ex=>JI tg t (pL ok.toOk k2 C aax H ex) k5) (fun C aax H ex=>Ze cond ifs (pL ok.toOk k2 C aax H ex) k6)
    (fun C aax H ex=>(dz elt _ (pL ok.toOk k2 C aax H ex) k7).1)
|Y,.ret c,st,X,T,E,ok,h=>by
 obtain⟨h0,h⟩:=band h;revert h;refine Sn st (eq_of_beq h0) ?_;intro e p h;cases e<;>first|exact no h|skip
 ·exact VF (dz c _ ok.toOk h).1
|Y,.ifs c a b,st,X,T,E,ok,h=>by
 obtain⟨h0,h⟩:=band h;revert h;refine IC st (eq_of_beq h0) ?_;intro _ _ _ _ h;obtain⟨⟨h1,h2⟩,h3⟩:=ou h;exact XR (dz c _ ok.toOk h1).2.1 (yc a _ ok h2) (yc b _ ok h3)
|Y,.whil c b,st,X,T,E,ok,h=>by
 apply hid (e:=st);intro P zk;cases st<;>first|exact no h|skip
 rename_i e x l p;cases l<;>first|exact no h|skip
 ·obtain⟨h1,h2⟩:=band h;refine zk _ ?_;exact Pc ok.po (dz c _ ok.toOk h1).2.1 (yc b _ ok h2)
|Y,.forr g src b,st,X,T,E,ok,h=>by
 obtain⟨h0,h⟩:=band h;revert h;refine Vv st (eq_of_beq h0) ?_;intro t it x l p h;cases l<;>first|exact no h|skip
 ·obtain⟨hcm,h⟩:=band h;obtain⟨⟨⟨⟨h1,h1'⟩,h2⟩,h3⟩,h4⟩:=FU h;exact Ym ok.po (ok.calm hcm) (WC src _ h1' ok.toOk h2) (JI g _ ok.toOk h3) (yc b _ ok h4) (ya h1)
|Y,.brk,st,X,T,E,ok,h=>by
 obtain⟨h0,h⟩:=band h;revert h;refine Tw st (eq_of_beq h0) ?_;intro _ h;exact O8
|Y,.cont,st,X,T,E,ok,h=>by
 obtain⟨h0,h⟩:=band h;revert h;refine OY st (eq_of_beq h0) ?_;intro _ h;exact IK
|Y,.never,st,X,T,E,ok,h=>O9
|Y,.rais g as,st,X,T,E,ok,h=>by
 obtain⟨h0,h⟩:=band h;obtain⟨hf,h⟩:=band h;revert hf h;refine Tz st (eq_of_beq h0) ?_;intro e f p hf h;cases e with
 |none=>exact no hf
 |some e=>
 obtain⟨hf,hg⟩:=band hf;revert h hg;refine eB e (eq_of_beq hf) ?_;intro fn es kw pc h hg;revert h;refine cg fn (eq_of_beq hg) ?_;intro x px h;cases kw<;>first|exact no h|skip
 cases f<;>first|exact no h|skip
 ·skip
  obtain⟨hcm,h⟩:=band h;obtain⟨⟨⟨⟨⟨h1,h2⟩,h3⟩,h4⟩,h5⟩,h6⟩:=qg h;cases es with
  |nil=>exact no h5
  |cons e er=>
   have hs':noStar e=true/\bN er=true:=by simpa[bN]using h4
   intro pins s O H D I q;replace q:(match Y[g]? with
    |some (.cls C fs n)=>xT C fs n (wEs X.K Y E as) E D O H
    |_=>False):=q
   split at q
   ·rename_i C fs n e1;obtain⟨hm,k,hr,fI,fd,ps,c1,c2,c3,c4,c5,rfl⟩:=ok.gl g x _ (of_decide_eq_true h1) e1;obtain⟨X0,eX,hst,hf,hh⟩:=ok.rz hcm;have pa:=uG as (e::er) ok.toOk h4 h6;have gl:=ok.toOk.kZ h2;subst eX;exact Pr (X:=X0) c1 c2 hr hh c3 c4 c5 gl hm pa (sL h3) (eF hs'.1) (mj hs'.2) pins s O H D I q
   ·exact q.elim
|Y,.tri i g b hd,st,X,T,E,ok,h=>by
 obtain⟨h0,h⟩:=band h;obtain⟨hf,h⟩:=band h;revert hf h;refine Vw st (eq_of_beq h0) ?_;intro body hs oe fe p hf h
 match hs,hf,h with
 |[],hf,h=>exact no hf
 |.ExceptHandler a b c d::hr,hf,h=>
  cases a with
  |none=>exact no hf
  |some a=>
  revert h;refine cg a (eq_of_beq hf) ?_;intro x px h;cases b<;>first|exact no h|skip
  rename_i n;cases c<;>first|exact no h|skip
  rename_i s0 sr;cases hr<;>first|exact no h|skip
  cases oe<;>first|exact no h|skip
  cases fe<;>first|exact no h|skip
  obtain⟨hcm,h⟩:=band h;obtain⟨⟨⟨⟨⟨⟨h1,h2⟩,h3⟩,h4⟩,h5⟩,h6⟩,h7⟩:=FW h;intro pins s O H D I q;replace q:(match Y[g]? with
   |some (.exb B _)=>Gr X.K i B (wB X.K Y b) (wSs X.K (Y.map G.hand) E0 hd) D O H
   |_=>False):=q
  split at q
  ·rename_i B Cs e1;obtain⟨hm,hB⟩:=ok.gl g x _ (of_decide_eq_true h1) e1;obtain⟨X0,eX,hst,hf,hh⟩:=ok.rz hcm;have hl:=of_decide_eq_true h5;rw[<-ok.sc]at hl;exact Wk hst hf (eO b body ok.toOk h6) (fun e=>yc hd (s0::sr) (ok.hand (.ref e)) h7) (ok.toOk.kZ h2) hm hB ok.nd (ok.toOk.GH h4) hl (sL h3) pins s O H D I q
  ·exact q.elim
theorem yc:∀{Y:List G} (cs:cC) (sts:List Stmt) {X:Cx}{T:Tab}{E:XK},JJ X T Y E->oq T cs sts=true->nY X sts (wSs X.K Y E cs)
|Y,.nil,sts,X,T,E,ok,h=>by
 cases sts with
 |nil=>exact Jv
 |cons s r=>exact no h
|Y,.cons c r,sts,X,T,E,ok,h=>by
 cases sts with
 |nil=>exact no h
 |cons s sr=>
  obtain⟨h1,h2⟩:=band h;exact vP (WE c s ok h1) (yc r sr ok h2)
|Y,.two c d r,sts,X,T,E,ok,h=>by
 cases sts with
 |nil=>exact no h
 |cons s sr=>
  cases sr with
  |nil=>exact no h
  |cons s' sr=>
   obtain⟨h1,h2⟩:=band h;obtain⟨h2,h3⟩:=band h2;exact vP (WE c s ok h1) (vP (WE d s' ok h2) (yc r sr ok h3))
end
end
def GJ(P:bH)(w:bY)(K:PySem.W.Frag)(mg:Str->Option Value)(base:Heap)(k:Nat)(x:Str):G->Prop
|.val v=>∃u,mg x=some u/\RelV v u
|.tup a xs=>mg x=some (.ref a)/\Eh K a true xs
|.fn sp dvs=>∃(f:Addr) (fd:fO) (ps:List Str) (ds:List Value),fN P w K mg base (ko P w) k f fd ps sp/\mg x=some (.ref f)/\PySem.W.keepIn K (.ref f)=true/\Binds K fd ps ds/\bE dvs ds
|.cls C fs n=>mg x=some (.ref C)/\∃j,j+1<=k/\FT P w K mg base j C fs n
|.iQ D Cs=>mg x=some (.ref D)/\g9 K D Cs
|.pe Cs as=>tV K Cs as
|.exb B _=>mg x=some (.ref B)/\BP K B
|.nop=>True
def A7(P:bH)(w:bY)(K:PySem.W.Frag)(mg:Str->Option Value)(base:Heap)(k:Nat):List Str->List G->Prop
|x::xs,g::gs=>GJ P w K mg base k x g/\A7 P w K mg base k xs gs
|_,_=>True
theorem A7.get{mg:Str->Option Value}{base:Heap}:∀{xs:List Str}{gs:List G},A7 P w K mg base k xs gs->∀(i:Nat) x g,xs[i]?=some x->gs[i]?=some g->GJ P w K mg base k x g
|[],_,_,i,x,g,h,_=>by simp at h
|_::_,[],_,i,x,g,_,h=>by simp at h
|x::xs,g::gs,a,0,y,g',h1,h2=>by
 simp at h1 h2;subst h1 h2;exact a.1
|x::xs,g::gs,a,i+1,y,g',h1,h2=>A7.get a.2 i y g' (by simpa using h1) (by simpa using h2)
variable{qual:Str}{st:Stmt}{f:Addr}{fd:fO}{ps:List Str}{sp:Sp}
section
variable{P:bH}{w:bY}{K:PySem.W.Frag}{mg:Str->Option Value}{base:Heap}
theorem qT.okE(F:qT K x qual st f fd)(S:l9 N ps (ck st))(len:∀vs H Q E,sp vs H Q E->vs.length=ps.length)
  (hbody:∀(cdv:Value) (A:dF) (outer:List Env) (s:aj) (H:Hp) (vs:List V) (Q:VK) (E:XK),ir k (A.deeper (mW qual (ck st) s.heap.objs.size f cdv))->sp vs H Q E->
   ∃t,nY ((kW (ko P w) P w K mg base N qual (ck st) f cdv A outer s H E).jP (uB (kW (ko P w) P w K mg base N qual (ck st) f cdv A outer s H E) E)) (gc st) t/\t { nx:=fun _ H'=>Q .non H',rt:=Q } (start N vs) H):fN P w K mg base (ko P w) (k+1) f fd ps sp:=by
 obtain⟨oc,od,kV,doc,pm,an,cdv,ct,osl,rfl,lk,hcd⟩:=F.ex;refine Sv lk hcd S len fun A outer s H vs Q E hr hsp=>?_;obtain⟨t,h,q⟩:=hbody cdv A outer s H vs Q E hr hsp;exact⟨t,Wc h,q⟩
theorem WG{gl bn:List Str}(c:cC)(F:qT K x qual st f fd)(S:l9 N ps (ck st))(hc:oq ⟨N,ck st,gl,bn,(fun _=>true),true⟩ c (gc st)=true)
  (hg:A7 P w K mg base k gl Y) (hb:∀x∈bn,mg x=none) (len:∀vs H Q E,sp vs H Q E->vs.length=ps.length)
  (h:∀vs H Q E,sp vs H Q E->wSs K Y E c { nx:=fun _ H'=>Q .non H',rt:=Q } (start N vs) H):fN P w K mg base (ko P w) (k+1) f fd ps sp:=by
 refine qT.okE F S len fun cdv A outer s H vs Q E hr hsp=>⟨wSs K Y E c,?_,h vs H Q E hsp⟩;have ok:JJ ((kW (ko P w) P w K mg base N qual (ck st) f cdv A outer s H E).jP (uB (kW (ko P w) P w K mg base N qual (ck st) f cdv A outer s H E) E)) ⟨N,ck st,gl,bn,(fun _=>true),true⟩ Y E:=by
  refine⟨⟨rfl,S.nd,rfl,S.kind,fun i x g hx hg'=>?_,hb,fun _ _=>rfl,fun _=>rfl,KP (X:=kW (ko P w) P w K mg base N qual (ck st) f cdv A outer s H E) rfl rfl,by have:=hr.un;show(A.deeper (mW qual (ck st) s.heap.objs.size f cdv)).units+60<dS;omega⟩,fun _=>⟨_,rfl,rfl,rfl,hr.hd⟩⟩;have q:=hg.get i x g hx hg';cases g with
  |fn sp dvs=>
   obtain⟨f,fd,ps,ds,q1,q2,q3,q4,q5⟩:=q;exact⟨k,f,fd,ps,ds,q1,hr,q2,q3,q4,q5,T8⟩
  |cls C fs n=>
   obtain⟨q1,j,q2,q3⟩:=q;exact⟨q1,j,hr.mono q2,q3⟩
  |_=>exact q
 exact yc c _ ok hc
theorem fN.calm(F:fN P w K mg base (ko P w) k f fd ps sp):fN P w K mg base Al k f fd ps (fun vs H Q _=>sp vs H Q E0):=
 ⟨fun vs H Q E h=>F.len vs H Q E0 h,fun A outer s H args us vs Q E hr he hb hv hs=>jm (F.run A outer s H args us vs Q E0 hr he hb hv hs) fun r s' q=>by
  cases r with
  |error v=>exact(PZ q).elim
  |ok fl=>cases fl<;>exact q⟩
end
end L3
end
section
namespace L3
open PySem L2
theorem Zf(a c:Nat):decide ([c]<[a])=decide (c<a):=by
 rw[Ma,OZ];simp
theorem len_str(x:Str):x.cps.toList.length=x.length:=by simp[f9]
mutual
def bV(K:PySem.W.Frag)(H F:Hp):D->V->List Addr->Prop
|.non,v,fp=>v=.non/\fp=[]
|.bl b,v,fp=>v=.bl b/\fp=[]
|.int i,v,fp=>v=.int i/\fp=[]
|.str x,v,fp=>(v=.str x/\x.length<=aa)/\fp=[]
|.lst o ds,v,fp=>if o=true then ∃a vs fs,v=.ref a/\H a=some (.lst vs)/\vs.length<=aa/\bg K H F ds vs fs/\fp=a::fs else aU K F (.lst o ds) v/\fp=[]
|.tup ds,v,fp=>∃a vs,v=.ref a/\F a=some (.tup vs)/\vs.length<=aa/\bg K H F ds vs fp
|.cst ds,v,fp=>aU K F (.cst ds) v/\fp=[]
|.exc C ks ds,v,fp=>aU K F (.exc C ks ds) v/\fp=[]
def bg(K:PySem.W.Frag)(H F:Hp):List D->List V->List Addr->Prop
|[],vs,fp=>vs=[]/\fp=[]
|d::ds,vs,fp=>∃v r f1 f2,vs=v::r/\fp=f1++f2/\bV K H F d v f1/\bg K H F ds r f2
end
variable{d:D}{v:V}{fp:List Addr}
section
variable{K:PySem.W.Frag}{H H' F F':Hp}
theorem gq.same'{a:Addr}{t:Bool}{xs:List V}(e:be H H')(h:gq K H a t xs):gq K H' a t xs:=by
 rcases h with h|h
 ·refine .inl ?_;unfold Di at h ⊢;cases q:H a with
  |none=>rw[q]at h;cases h
  |some o=>rw[q]at h;rw[e a o q];exact h
 ·exact .inr h
theorem Rd.same{a:Addr}{u:HO}(e:be H H')(h:Rd H a u):Rd H' a u:=by
 rcases h with h|⟨o,h⟩
 ·exact .inl (e _ _ h)
 ·exact .inr ⟨o,e _ _ h⟩
theorem Rd.seq{a:Addr}{xs:List V}(h:Rd H a (.lst xs)):gq K H a false xs:=by
 refine .inl ?_;unfold Di;rcases h with h|⟨o,h⟩<;>rw[h]
mutual
theorem aU.mono(e:be H H'):∀(d:D) (v:V),aU K H d v->aU K H' d v
|.non,v,h=>h
|.bl b,v,h=>h
|.int i,v,h=>h
|.str x,v,h=>h
|.lst o ds,v,h=>by
 obtain⟨a,vs,h1,h2,h3,h4⟩:=h;exact⟨a,vs,h1,Rd.same e h2,h3,aE.mono e ds vs h4⟩
|.tup ds,v,h=>by
 obtain⟨a,vs,h1,h2,h3,h4⟩:=h;exact⟨a,vs,h1,e _ _ h2,h3,aE.mono e ds vs h4⟩
|.cst ds,v,h=>by
 obtain⟨a,vs,h1,h2,h3,h4⟩:=h;exact⟨a,vs,h1,h2,h3,aE.mono e ds vs h4⟩
|.exc C ks ds,v,h=>by
 obtain⟨a,d,vs,h1,h2,h3,h4⟩:=h;exact⟨a,d,vs,h1,e _ _ h2,e _ _ h3,aE.mono e ds vs h4⟩
theorem aE.mono(e:be H H'):∀(ds:List D) (vs:List V),aE K H ds vs->aE K H' ds vs
|[],vs,h=>h
|d::ds,vs,h=>by
 obtain⟨v,r,h1,h2,h3⟩:=h;exact⟨v,r,h1,aU.mono e d v h2,aE.mono e ds r h3⟩
end
mutual
theorem aU.bz:∀(d:D) (v:V),aU K F (bz d) v↔aU K F d v
|.non,v=>z8
|.bl b,v=>z8
|.int i,v=>z8
|.str x,v=>z8
|.lst o ds,v=>by
 constructor
 ·rintro⟨a,vs,h1,h2,h3,h4⟩;exact⟨a,vs,h1,h2,h3,(aE.aB ds vs).mp h4⟩
 ·rintro⟨a,vs,h1,h2,h3,h4⟩;exact⟨a,vs,h1,h2,h3,(aE.aB ds vs).mpr h4⟩
|.tup ds,v=>by
 constructor
 ·rintro⟨a,vs,h1,h2,h3,h4⟩;exact⟨a,vs,h1,h2,h3,(aE.aB ds vs).mp h4⟩
 ·rintro⟨a,vs,h1,h2,h3,h4⟩;exact⟨a,vs,h1,h2,h3,(aE.aB ds vs).mpr h4⟩
|.cst ds,v=>by
 constructor
 ·rintro⟨a,vs,h1,h2,h3,h4⟩;exact⟨a,vs,h1,h2,h3,(aE.aB ds vs).mp h4⟩
 ·rintro⟨a,vs,h1,h2,h3,h4⟩;exact⟨a,vs,h1,h2,h3,(aE.aB ds vs).mpr h4⟩
|.exc C ks ds,v=>by
 constructor
 ·rintro⟨a,d,vs,h1,h2,h3,h4⟩;exact⟨a,d,vs,h1,h2,h3,(aE.aB ds vs).mp h4⟩
 ·rintro⟨a,d,vs,h1,h2,h3,h4⟩;exact⟨a,d,vs,h1,h2,h3,(aE.aB ds vs).mpr h4⟩
theorem aE.aB:∀(ds:List D) (vs:List V),aE K F (aB ds) vs↔aE K F ds vs
|[],vs=>z8
|d::ds,vs=>by
 constructor
 ·rintro⟨v,r,h1,h2,h3⟩;exact⟨v,r,h1,(aU.bz d v).mp h2,(aE.aB ds r).mp h3⟩
 ·rintro⟨v,r,h1,h2,h3⟩;exact⟨v,r,h1,(aU.bz d v).mpr h2,(aE.aB ds r).mpr h3⟩
end
mutual
theorem aU.Ar:∀(d:D) (v:V),aU K F d v->bV K H F (bz d) v []
|.non,v,h=>⟨h,rfl⟩
|.bl b,v,h=>⟨h,rfl⟩
|.int i,v,h=>⟨h,rfl⟩
|.str x,v,h=>⟨h,rfl⟩
|.lst o ds,v,h=>⟨(aU.bz (.lst o ds) v).mpr h,rfl⟩
|.tup ds,v,h=>by
 obtain⟨a,vs,h1,h2,h3,h4⟩:=h;exact⟨a,vs,h1,h2,h3,aE.Ar ds vs h4⟩
|.cst ds,v,h=>⟨(aU.bz (.cst ds) v).mpr h,rfl⟩
|.exc C ks ds,v,h=>⟨(aU.bz (.exc C ks ds) v).mpr h,rfl⟩
theorem aE.Ar:∀(ds:List D) (vs:List V),aE K F ds vs->bg K H F (aB ds) vs []
|[],vs,h=>⟨h,rfl⟩
|d::ds,vs,h=>by
 obtain⟨v,r,h1,h2,h3⟩:=h;exact⟨v,r,[],[],h1,rfl,aU.Ar d v h2,aE.Ar ds r h3⟩
end
mutual
theorem bV.mono(e:be F F'):∀(d:D) (v:V) (fp:List Addr),(∀a∈fp,H' a=H a)->bV K H F d v fp->bV K H' F' d v fp
|.non,v,fp,_,h=>h
|.bl b,v,fp,_,h=>h
|.int i,v,fp,_,h=>h
|.str x,v,fp,_,h=>h
|.lst o ds,v,fp,s,h=>by
 unfold bV at h ⊢;split at h
 ·rename_i ho;rw[if_pos ho];obtain⟨a,vs,fs,h1,h2,h3,h4,rfl⟩:=h;exact⟨a,vs,fs,h1,by rw[s a ao];exact h2,h3,bg.mono e ds vs fs (fun b hb=>s b (ai _ hb)) h4,rfl⟩
 ·rename_i ho;rw[if_neg ho];exact⟨aU.mono e _ v h.1,h.2⟩
|.tup ds,v,fp,s,h=>by
 obtain⟨a,vs,h1,h2,h3,h4⟩:=h;exact⟨a,vs,h1,e _ _ h2,h3,bg.mono e ds vs fp s h4⟩
|.cst ds,v,fp,s,h=>⟨aU.mono e _ v h.1,h.2⟩
|.exc C ks ds,v,fp,s,h=>⟨aU.mono e _ v h.1,h.2⟩
theorem bg.mono(e:be F F'):∀(ds:List D) (vs:List V) (fp:List Addr),(∀a∈fp,H' a=H a)->bg K H F ds vs fp->bg K H' F' ds vs fp
|[],vs,fp,_,h=>h
|d::ds,vs,fp,s,h=>by
 obtain⟨v,r,f1,f2,h1,rfl,h3,h4⟩:=h;exact⟨v,r,f1,f2,h1,rfl,bV.mono e d v f1 (fun b hb=>s b (aN _ hb)) h3,bg.mono e ds r f2 (fun b hb=>s b (az _ hb)) h4⟩
end
mutual
theorem bV.fix(e:be F F'):∀(d:D) (v:V) (fp:List Addr),(∀a∈fp,F' a=H a)->bV K H F d v fp->aU K F' d v
|.non,v,fp,_,h=>h.1
|.bl b,v,fp,_,h=>h.1
|.int i,v,fp,_,h=>h.1
|.str x,v,fp,_,h=>h.1
|.lst o ds,v,fp,s,h=>by
 unfold bV at h;split at h
 ·obtain⟨a,vs,fs,h1,h2,h3,h4,rfl⟩:=h;exact⟨a,vs,h1,.inl (by rw[s a ao];exact h2),h3,bg.fix e ds vs fs (fun b hb=>s b (ai _ hb)) h4⟩
 ·exact aU.mono e _ v h.1
|.tup ds,v,fp,s,h=>by
 obtain⟨a,vs,h1,h2,h3,h4⟩:=h;exact⟨a,vs,h1,e _ _ h2,h3,bg.fix e ds vs fp s h4⟩
|.cst ds,v,fp,s,h=>aU.mono e _ v h.1
|.exc C ks ds,v,fp,s,h=>aU.mono e _ v h.1
theorem bg.fix(e:be F F'):∀(ds:List D) (vs:List V) (fp:List Addr),(∀a∈fp,F' a=H a)->bg K H F ds vs fp->aE K F' ds vs
|[],vs,fp,_,h=>h.1
|d::ds,vs,fp,s,h=>by
 obtain⟨v,r,f1,f2,h1,rfl,h3,h4⟩:=h;exact⟨v,r,h1,bV.fix e d v f1 (fun b hb=>s b (aN _ hb)) h3,bg.fix e ds r f2 (fun b hb=>s b (az _ hb)) h4⟩
end
def GK:HO->Prop
|.lst _=>True
|.dK _=>True
|.dT _=>True
|_=>False
def A8(F' F:Hp):Prop:=∀b o,F' b=some o->F b=some o\/GK o
theorem A8.tup{a:Addr}{xs:List V}(e:A8 F' F)(h:F' a=some (.tup xs)):F a=some (.tup xs):=by
 rcases e a _ h with z|z
 ·exact z
 ·exact z.elim
mutual
theorem bV.less(e:A8 F' F):∀(d:D) (v:V) (fp:List Addr),aV d=true->bV K H F' d v fp->bV K H F d v fp
|.non,v,fp,_,h=>h
|.bl b,v,fp,_,h=>h
|.int i,v,fp,_,h=>h
|.str x,v,fp,_,h=>h
|.lst o ds,v,fp,s,h=>by
 have s':o=true/\cE ds=true:=by simpa[aV]using s
 unfold bV at h ⊢;rw[if_pos s'.1]at h ⊢;obtain⟨a,vs,fs,h1,h2,h3,h4,rfl⟩:=h;exact⟨a,vs,fs,h1,h2,h3,bg.less e ds vs fs s'.2 h4,rfl⟩
|.tup ds,v,fp,s,h=>by
 obtain⟨a,vs,h1,h2,h3,h4⟩:=h;exact⟨a,vs,h1,e.tup h2,h3,bg.less e ds vs fp s h4⟩
|.cst ds,v,fp,s,h=>by cases s
|.exc C ks ds,v,fp,s,h=>by cases s
theorem bg.less(e:A8 F' F):∀(ds:List D) (vs:List V) (fp:List Addr),cE ds=true->bg K H F' ds vs fp->bg K H F ds vs fp
|[],vs,fp,_,h=>h
|d::ds,vs,fp,s,h=>by
 have s':aV d=true/\cE ds=true:=by simpa[cE]using s
 obtain⟨v,r,f1,f2,h1,rfl,h3,h4⟩:=h;exact⟨v,r,f1,f2,h1,rfl,bV.less e d v f1 s'.1 h3,bg.less e ds r f2 s'.2 h4⟩
end
theorem aE.len:∀{ds:List D}{vs:List V},aE K H ds vs->vs.length=ds.length
|[],_,h=>by cases h;rfl
|d::ds,_,h=>by
 obtain⟨v,r,rfl,_,h3⟩:=h;simp[aE.len h3]
theorem bg.len:∀{ds:List D}{vs:List V}{fp:List Addr},bg K H F ds vs fp->vs.length=ds.length
|[],_,_,h=>by cases h.1;rfl
|d::ds,_,_,h=>by
 obtain⟨v,r,_,_,rfl,_,_,h3⟩:=h;simp[bg.len h3]
theorem aE.get:∀{ds:List D}{vs:List V} (i:Nat) {d:D},aE K H ds vs->ds[i]?=some d->∃v,vs[i]?=some v/\aU K H d v
|[],_,i,_,_,e=>by simp at e
|d::ds,_,0,_,h,e=>by
 obtain⟨v,r,rfl,h2,_⟩:=h;simp at e;subst e;exact⟨v,rfl,h2⟩
|d::ds,_,i+1,_,h,e=>by
 obtain⟨v,r,rfl,_,h3⟩:=h;obtain⟨w,e1,e2⟩:=aE.get i h3 (by simpa using e);exact⟨w,by simpa using e1,e2⟩
theorem aE.app:∀{ds ds':List D}{vs vs':List V},aE K H ds vs->aE K H ds' vs'->aE K H (ds++ds') (vs++vs')
|[],_,_,_,h,h'=>by cases h;exact h'
|d::ds,_,_,_,h,h'=>by
 obtain⟨v,r,rfl,h2,h3⟩:=h;exact⟨v,_,rfl,h2,aE.app h3 h'⟩
theorem bg.app:∀{ds ds':List D}{vs vs':List V}{f f':List Addr},bg K H F ds vs f->bg K H F ds' vs' f'->bg K H F (ds++ds') (vs++vs') (f++f')
|[],_,_,_,_,_,h,h'=>by obtain⟨rfl,rfl⟩:=h;exact h'
|d::ds,_,_,_,_,_,h,h'=>by
 obtain⟨v,r,f1,f2,rfl,rfl,h2,h3⟩:=h;exact⟨v,_,f1,_,rfl,by simp,h2,bg.app h3 h'⟩
theorem bg.one(h:bV K H F d v fp):bg K H F [d] [v] fp:=⟨v,[],fp,[],rfl,by simp,h,rfl,rfl⟩
end
inductive R (α:Type) where
|ok (a:α)|ex (x:D)|bad
noncomputable def R.bind{α β:Type}:R α->(α->R β)->R β
|.ok a,f=>f a
|.ex x,_=>.ex x
|.bad,_=>.bad
noncomputable def R.opt{α:Type}:Option α->R α
|some a=>.ok a
|none=>.bad
noncomputable def R.fy{α:Type}:R α->R α
|.ok a=>.ok a
|_=>.bad
noncomputable def R.bw{α:Type}(b:Bool)(r:R α):R α:=match b with
|true=>r
|false=>.bad
instance (i j:Int):Decidable (ux i j):=by unfold ux;infer_instance
instance (i j:Int):Decidable (sD i j):=by unfold sD;infer_instance
instance (i j:Int):Decidable (F_ i j):=by unfold F_;infer_instance
noncomputable def ZX:D->Option Key
|.int i=>some (.inl i)
|.str x=>some (.inr x)
|_=>none
noncomputable def SN:List D->Option (List Key)
|[]=>some []
|d::r=>(ZX d).bind fun k=>(SN r).map (k::·)
noncomputable def ZS:D->Option (List Key)
|.tup xs=>SN xs
|_=>none
noncomputable def ZY{κ:Type}[DecidableEq κ]:List κ->List D->κ->Option D
|k::ks,d::ds,q=>if k=q then some d else ZY ks ds q
|_,_,_=>none
noncomputable def BZ(z:Str)(n:Nat):Str:=⟨(aO n z.cps.toList).flatten.toArray⟩
noncomputable def gf:D->Bool
|.non=>true
|_=>false
noncomputable def qh:D->Bool
|.bl _=>true
|_=>false
noncomputable def rF:D->Bool
|.bl true=>true
|_=>false
noncomputable def kC:List D->Option (List Str)
|[]=>some []
|.str x::r=>(kC r).map (x::·)
|_::_=>none
noncomputable def uH:List D->Option (List Bool)
|[]=>some []
|.bl b::r=>(uH r).map (b::·)
|_::_=>none
noncomputable def K8(m:Mt)(xs:List D)(k:Bool):R D:=match m with
|.count=>(R.opt (uH xs)).bind fun bs=>.ok (.int (bs.count k))
|.index=>(R.opt (uH xs)).bind fun bs=>.bw (decide (k∈bs)) (.ok (.int (bs.idxOf k)))
|_=>.bad
noncomputable def dN(op:kK)(x y:D):R D:=match x,y with
|.int i,.int j=>match op with
 |.Add=>.ok (.int (i+j))
 |.Sub=>.ok (.int (i-j))
 |.Mult=>.bw (decide (ux i j)) (.ok (.int (i*j)))
 |.FloorDiv=>.bw (decide (sD i j)) (.ok (.int (i / j)))
 |.Mod=>.bw (decide (0<j)) (.ok (.int (i%j)))
 |.RShift=>.bw (decide (0<=j)) (.ok (.int (i / 2 ^ j.toNat)))
 |.Pow=>.bw (decide (F_ i j)) (.ok (.int (i ^ j.toNat)))
 |_=>.bad
|.str i,.str j=>match op with
 |.Add=>.bw (decide (i.length+j.length<=aa)) (.ok (.str (i++j)))
 |_=>.bad
|.str i,.int j=>match op with
 |.Mult=>.bw (decide (0<=j/\j<2 ^ 40/\i.length*j.toNat<=aa)) (.ok (.str (BZ i j.toNat)))
 |_=>.bad
|.lst _ xs,.lst _ ys=>match op with
 |.Add=>.bw (decide (xs.length+ys.length<=aa)) (.ok (.lst true (aB xs++aB ys)))
 |_=>.bad
|.tup xs,.tup ys=>match op with
 |.Add=>.bw (!xs.isEmpty&&!ys.isEmpty&&decide (xs.length+ys.length<=aa)) (.ok (.tup (aB xs++aB ys)))
 |_=>.bad
|.lst _ xs,.int k=>match op with
 |.Mult=>.bw (decide ((-(2 ^ 63)<=k/\k<2 ^ 63)/\xs.length*k.toNat<=aa)) (.ok (.lst true (aO k.toNat (aB xs)).flatten))
 |_=>.bad
|_,_=>.bad
noncomputable def WH(op:qz)(x y:D):R D:=match x,y with
|.int i,.int j=>match op with
 |.Lt=>.ok (.bl (decide (i<j)))
 |.LtE=>.ok (.bl (decide (i<=j)))
 |.Gt=>.ok (.bl (decide (j<i)))
 |.GtE=>.ok (.bl (decide (j<=i)))
 |_=>.bad
|.str i,.str j=>match op with
 |.Lt=>.ok (.bl (decide (i.cps.toList<j.cps.toList)))
 |.LtE=>.ok (.bl (!decide (j.cps.toList<i.cps.toList)))
 |_=>.bad
|_,_=>.bad
noncomputable def inD(x y:D):R Bool:=match y with
|.lst _ ys=>.bw (cX x&&iR ys) (.ok (memD x ys))
|.tup ys=>.bw (cX x&&iR ys) (.ok (memD x ys))
|.cst ys=>.bw (cX x&&iR ys) (.ok (memD x ys))
|_=>.bad
noncomputable def bK(op:qz)(x y:D):R D:=match op with
|.Eq=>.bw (cX x&&cX y) (.ok (.bl (jC x y)))
|.NotEq=>.bw (cX x&&cX y) (.ok (.bl (!jC x y)))
|.Is=>.bw (gf y) (.ok (.bl (gf x)))
|.IsNot=>.bw (gf y) (.ok (.bl (!gf x)))
|.In=>(inD x y).bind fun b=>.ok (.bl b)
|.NotIn=>(inD x y).bind fun b=>.ok (.bl (!b))
|op=>WH op x y
noncomputable def iX:D->R Bool
|.bl b=>.ok b
|.non=>.ok false
|.int i=>.ok (i != 0)
|.str z=>.ok (z.length != 0)
|.lst _ xs=>.ok (!xs.isEmpty)
|.tup xs=>.ok (!xs.isEmpty)
|.cst _=>.bad
|.exc _ _ _=>.bad
noncomputable def u_(x y:D):R D:=match x with
|.str z=>match y with
 |.int i=>(R.opt (e_ z.cps.toList i)).bind fun c=>.ok (.str ⟨#[c]⟩)
 |_=>.bad
|.lst _ xs=>match y with
 |.int i=>(R.opt (e_ xs i)).bind fun d=>.ok (bz d)
 |_=>.bad
|.tup xs=>match y with
 |.int i=>(R.opt (e_ xs i)).bind fun d=>.ok (bz d)
 |_=>.bad
|_=>.bad
noncomputable def JK(x:D)(lo hi:Option Int):R D:=match x with
|.str z=>.ok (.str ⟨(cut z.cps.toList lo hi).toArray⟩)
|.lst _ xs=>.ok (.lst true (aB (cut xs lo hi)))
|.tup xs=>match lo,hi with
 |some n,none=>.bw (decide (1<=n/\n<=xs.length)) (.ok (.tup (aB (xs.drop n.toNat))))
 |_,_=>.bad
|_=>.bad
noncomputable def Qd(x:D)(lo hi:Option Int)(k:Int):R D:=match x with
|.lst _ xs=>.bw (decide (k≠0)&&decide ((mZ xs lo hi k).length<=aa)) (.ok (.lst true (aB (mZ xs lo hi k))))
|_=>.bad
noncomputable def kD(f:Bf)(vs:List D):R D:=match vs with
|[x]=>match f with
 |.len=>match x with
  |.str z=>.ok (.int z.length)
  |.lst _ xs=>.ok (.int xs.length)
  |.tup xs=>.ok (.int xs.length)
  |_=>.bad
 |.all=>match x with
  |.lst _ xs=>.bw (xs.all qh) (.ok (.bl (xs.all rF)))
  |_=>.bad
 |.any=>match x with
  |.lst _ xs=>.bw (xs.all qh) (.ok (.bl (xs.any rF)))
  |_=>.bad
 |.int=>match x with
  |.int i=>.ok (.int i)
  |.bl b=>.ok (.int (if b then 1 else 0))
  |.str z=>.bw (decide (z.length<=640)) ((R.opt (intText? z)).bind fun n=>.ok (.int n))
  |_=>.bad
 |.str=>match x with
  |.int i=>.bw (decide (i.natAbs.log2<1920)&&decide ((n_ i).length<=aa)) (.ok (.str (n_ i)))
  |_=>.bad
 |.abs=>match x with
  |.int i=>.ok (.int (if i<0 then -i else i))
  |_=>.bad
 |_=>.bad
|[x,y]=>match x,y with
 |.int i,.int j=>match f with
  |.min=>.ok (.int (if j<i then j else i))
  |_=>.bad
 |_,_=>.bad
|_=>.bad
noncomputable def sM(c:Nat)(l:List Nat):List D:=(dM c l).map fun p=>D.str (strOf p)
noncomputable def jg(m:Mt)(x:D)(vs:List D):R D:=match x with
|.str z=>match vs with
 |[y]=>match y with
  |.str q=>match m with
   |.startswith=>.ok (.bl (q.cps.toList.isPrefixOf z.cps.toList))
   |.split=>.bw (decide (q.length=1)&&decide (z.length+2<=aa)) (.ok (.lst true (sM (q.cps.getD 0 0) z.cps.toList)))
   |.count=>.bw (decide (q.length=1)) (.ok (.int (z.cps.toList.count (q.cps.getD 0 0))))
   |.index=>.bw (decide (q.length=1)&&decide ((q.cps.getD 0 0)∈z.cps.toList)) (.ok (.int (z.cps.toList.idxOf (q.cps.getD 0 0))))
   |_=>.bad
  |.lst _ ys=>match m with
   |.join=>(R.opt (kC ys)).bind fun ss=>.bw (decide ((ss.map (·.length)).sum+ss.length*z.length<=aa)) (.ok (.str (ee z ss)))
   |_=>.bad
  |_=>.bad
 |[]=>match m with
  |.upper=>.bw (decide (z.length<=5592405)&&decide ((nW z).length<=aa)) (.ok (.str (nW z)))
  |.split=>.bw (decide ((iE z).length<=aa)&&(iE z).all fun w=>decide (w.length<=aa)) (.ok (.lst true ((iE z).map D.str)))
  |_=>.bad
 |_=>.bad
|.lst _ xs=>match vs with
 |[y]=>match y with
  |.bl k=>K8 m xs k
  |_=>.bad
 |_=>.bad
|_=>.bad
noncomputable abbrev br:=List (Option D)
inductive PG where
|val (d:D)
|fn (m:List D->R D) (dds:List D)
|cls (C:Addr) (fs:List (Str×Nat)) (n:Nat)
|iQ (D:Addr) (Cs:List Addr)
|pe (Cs:List Addr) (as:List Str)
|exb (Cs:List Addr)
|nop
inductive Fl where
|nx (O:br)|rt (d:D)|bk (O:br)|ct (O:br)|ex (x:D)|bad
noncomputable def R.aT{α:Type}:R α->(α->Fl)->Fl
|.ok a,f=>f a
|.ex x,_=>.ex x
|.bad,_=>.bad
noncomputable def R.sN{α:Type}(b:Bool):R α->(α->Fl)->Fl
|.ok a,f=>f a
|.ex x,_=>match b with
 |true=>.ex x
 |false=>.bad
|.bad,_=>.bad
noncomputable def PG.hand:PG->PG
|.fn _ _=>.nop
|.cls _ _ _=>.nop
|p=>p
noncomputable def yd:V->R D
|.non=>.ok .non
|.bl b=>.ok (.bl b)
|.int i=>.ok (.int i)
|.str x=>.ok (.str x)
|_=>.bad
noncomputable def vc(z:Str):List D:=z.cps.toList.map fun c=>D.str ⟨#[c]⟩
noncomputable def jD(lo:Int)(n:Nat):List D:=(bS n).map fun(i:Nat)=>D.int (lo+(i:Int))
noncomputable def uJ:List D->List D->List D
|x::xs,y::ys=>.tup [x,y]::uJ xs ys
|_,_=>[]
noncomputable def v5:List D->R (Bool×List D)
|[.lst _ xs,.lst _ ys]=>.ok (false,uJ (aB xs) (aB ys))
|_=>.bad
noncomputable def fB:Nat->List D->List D
|_,[]=>[]
|n,x::r=>.tup [.int (n:Int),x]::fB (n+1) r
noncomputable def pN:D->R (List D)
|.str z=>.ok (vc z)
|.lst _ xs=>.ok (aB xs)
|.tup xs=>.ok (aB xs)
|_=>.bad
noncomputable def oz:List D->R (List D)
|[.int j]=>.bw (decide (-(2 ^ 62)<=j/\j.toNat<=aa)) (.ok (jD 0 j.toNat))
|[.int i,.int j]=>.bw (decide (-(2 ^ 62)<=i/\i<2 ^ 62/\-(2 ^ 62)<=j/\j<2 ^ 62/\(j-i).toNat<=aa)) (.ok (jD i (j-i).toNat))
|_=>.bad
noncomputable def dg(g:D->br->R br)(c:br->R Bool)(e:br->R D):List D->br->R (List D)
|[],_=>.ok []
|d::r,O=>(g d O).bind fun σ2=>(c σ2).bind fun b=>if b=true then(e σ2).bind fun y=>(dg g c e r σ2).bind fun ys=>.ok (y::ys)else dg g c e r σ2
noncomputable def forR(g:D->br->R br)(b:br->Fl):List D->br->Fl
|[],O=>.nx O
|d::r,O=>(g d O).aT fun σ2=>match b σ2 with
 |.nx σ3=>forR g b r σ3
 |.ct σ3=>forR g b r σ3
 |.bk σ3=>.nx σ3
 |.rt d=>.rt d
 |.ex x=>.ex x
 |.bad=>.bad
noncomputable def uK(c:br->R Bool)(b:br->Fl):Nat->br->Fl
|0,_=>.bad
|n+1,O=>(c O).aT fun k=>if k=true then match b O with
 |.nx σ3=>uK c b n σ3
 |.ct σ3=>uK c b n σ3
 |.bk σ3=>.nx σ3
 |.rt d=>.rt d
 |.ex x=>.ex x
 |.bad=>.bad
 else .nx O
noncomputable def Dr(Y:List PG):List Nat->Option Addr->Option Bool
|[],_=>some false
|g::r,c=>match Y[g]? with
 |some (.iQ D Cs)=>match c with
  |none=>Dr Y r c
  |some C=>if C∈Cs then(if C=D then some true else Dr Y r c)else none
 |_=>none
noncomputable def Qe(Y:List PG)(gs:List Nat):Bool:=gs.all fun g=>match Y[g]? with
|some (.iQ _ _)=>true
|_=>false
noncomputable def ye(Y:List PG)(gs:List Nat)(x:D):R Bool:=.bw (!gs.isEmpty&&decide (gs.length<=1000)&&Qe Y gs) (match x with
|.non=>R.opt (Dr Y gs none)
|.exc C _ _=>R.opt (Dr Y gs (some C))
|_=>.bad)
noncomputable def yf(Y:List PG)(g:Nat)(x:D):R Bool:=match Y[g]? with
|some (.pe Cs _)=>match x with
 |.non=>.ok false
 |.exc C _ _=>.bw (decide (C∈Cs)) (.ok true)
 |_=>.bad
|_=>.bad
noncomputable def K9:List Str->List D->Str->Option D
|k::ks,d::ds,f=>if f=k then some d else K9 ks ds f
|_,_,_=>none
noncomputable def Dt(Y:List PG)(g:Nat)(f:Str)(x:D):R D:=match Y[g]? with
|some (.pe Cs as)=>match x with
 |.exc C ks xs=>.bw (decide (C∈Cs)&&decide (f∈as)) ((R.opt (K9 ks xs f)).bind fun d=>.ok (bz d))
 |_=>.bad
|_=>.bad
noncomputable def zO:D->R D
|.lst _ ds=>match kC ds with
 |some ss=>.bw (decide (ss.length<4000)) (.ok (.int (m9 ss).length))
 |none=>.bad
|_=>.bad
mutual
noncomputable def pE(Y:List PG):CE->br->R D
|.var i=>fun O=>match O[i]? with
 |some (some d)=>.ok (bz d)
 |_=>.bad
|.con v=>fun _=>yd v
|.glo g=>fun _=>match Y[g]? with
 |some (.val d)=>.ok (bz d)
 |_=>.bad
|.bin op a b=>fun O=>(pE Y a O).bind fun x=>(pE Y b O).bind fun y=>dN op x y
|.nset a=>fun O=>(pE Y a O).bind fun x=>zO x
|.neg a=>fun O=>(pE Y a O).bind fun x=>match x with
 |.int i=>.ok (.int (-i))
 |_=>.bad
|.not a=>fun O=>(pE Y a O).bind fun x=>(iX x).bind fun b=>.ok (.bl (!b))
|.and a b=>fun O=>(pE Y a O).bind fun x=>match x with
 |.bl c=>if c=true then pE Y b O else .ok (.bl false)
 |_=>.bad
|.or a b=>fun O=>(pE Y a O).bind fun x=>match x with
 |.bl c=>if c=true then .ok (.bl true)else pE Y b O
 |_=>.bad
|.ite c a b=>fun O=>(pT Y c O).bind fun k=>if k=true then pE Y a O else pE Y b O
|.cmp op a b=>fun O=>(pE Y a O).bind fun x=>(pE Y b O).bind fun y=>bK op x y
|.chain o1 o2 a b c=>fun O=>(pE Y a O).bind fun x=>(pE Y b O).bind fun y=>(bK o1 x y).bind fun z=>match z with
 |.bl k=>if k=true then(pE Y c O).bind fun u=>bK o2 y u else .ok (.bl false)
 |_=>.bad
|.call g as=>fun O=>match Y[g]? with
 |some (.fn m dds)=>(dW Y as O).bind fun ds=>m (aB ds++dds)
 |_=>.bad
|.blt f as=>fun O=>(dW Y as O).bind fun ds=>kD f ds
|.mth m o as=>fun O=>(pE Y o O).bind fun x=>(dW Y as O).fy.bind fun ds=>jg m x ds
|.ix a b=>fun O=>(pE Y a O).bind fun x=>(pE Y b O).bind fun y=>u_ x y
|.sl a lo hi=>fun O=>(pE Y a O).bind fun x=>(pO Y lo O).bind fun l=>(pO Y hi O).bind fun h=>JK x l h
|.lst as=>fun O=>(dW Y as O).bind fun ds=>.bw (decide (ds.length<=aa)) (.ok (.lst true ds))
|.tup as=>fun O=>(dW Y as O).bind fun ds=>.bw (decide (ds.length<=aa)) (.ok (.tup ds))
|.comp nl fr elt tg src cond=>fun O=>(pI Y src O).bind fun items=>(dg (pG tg) (pC Y cond) (pE Y elt) items.2 (nl.map (fun _=>none)++fr.map (fun i=>O.getD i none))).fy.bind fun ds=>.ok (.lst true ds)
|.isx _ gs a=>fun O=>(pE Y a O).bind fun x=>(ye Y gs x).bind fun b=>.ok (.bl b)
|.isv g a=>fun O=>(pE Y a O).bind fun x=>(yf Y g x).bind fun b=>.ok (.bl b)
|.att g a f=>fun O=>(pE Y a O).bind fun x=>Dt Y g f x
|.slp a lo hi k=>fun O=>(pE Y a O).bind fun x=>(pO Y lo O).bind fun l=>(pO Y hi O).bind fun h=>Qd x l h k
noncomputable def pT(Y:List PG):CE->br->R Bool
|.not a=>fun O=>(pT Y a O).bind fun b=>.ok (!b)
|.and a b=>fun O=>(pT Y a O).bind fun c=>if c=true then pT Y b O else .ok false
|.or a b=>fun O=>(pT Y a O).bind fun c=>if c=true then .ok true else pT Y b O
|.ite c a b=>fun O=>(pT Y c O).bind fun k=>if k=true then pT Y a O else pT Y b O
|.cmp op a b=>fun O=>(pE Y a O).bind fun x=>(pE Y b O).bind fun y=>(bK op x y).bind fun z=>match z with
 |.bl k=>.ok k
 |_=>.bad
|.chain o1 o2 a b c=>fun O=>(pE Y a O).bind fun x=>(pE Y b O).bind fun y=>(bK o1 x y).bind fun z=>match z with
 |.bl k=>if k=true then(pE Y c O).bind fun u=>(bK o2 y u).bind fun z=>match z with
  |.bl k=>.ok k
  |_=>.bad
  else .ok false
 |_=>.bad
|.var i=>fun O=>match O[i]? with
 |some (some d)=>iX d
 |_=>.bad
|.ix a b=>fun O=>((pE Y a O).bind fun x=>(pE Y b O).bind fun y=>u_ x y).bind iX
|.call g as=>fun O=>match Y[g]? with
 |some (.fn m dds)=>((dW Y as O).bind fun ds=>m (aB ds++dds)).bind iX
 |_=>.bad
|.blt f as=>fun O=>((dW Y as O).bind fun ds=>kD f ds).bind iX
|.mth m o as=>fun O=>(pE Y o O).bind fun x=>(dW Y as O).fy.bind fun ds=>(jg m x ds).bind iX
|.isx _ gs a=>fun O=>(pE Y a O).bind fun x=>ye Y gs x
|.isv g a=>fun O=>(pE Y a O).bind fun x=>yf Y g x
|_=>fun _=>.bad
noncomputable def dW(Y:List PG):iP->br->R (List D)
|.nil=>fun _=>.ok []
|.cons a r=>fun O=>(pE Y a O).bind fun x=>(dW Y r O).bind fun xs=>.ok (x::xs)
noncomputable def pO(Y:List PG):CO->br->R (Option Int)
|.none=>fun _=>.ok none
|.some a=>fun O=>(pE Y a O).bind fun x=>match x with
 |.int i=>.ok (some i)
 |_=>.bad
noncomputable def pC(Y:List PG):CO->br->R Bool
|.none=>fun _=>.ok true
|.some a=>pT Y a
noncomputable def pG:CG->D->br->R br
|.name i=>fun d O=>.ok (O.set i (some d))
|.tup gs=>fun d O=>match d with
 |.tup ds=>.bw (decide (ds.length=gs.len)) (w4 gs ds O)
 |_=>.bad
|.sub _ _=>fun _ _=>.bad
noncomputable def w4:qB->List D->br->R br
|.nil=>fun ds O=>match ds with
 |[]=>.ok O
 |_=>.bad
|.cons g r=>fun ds O=>match ds with
 |d::dr=>(pG g d O).bind fun σ'=>w4 r dr σ'
 |_=>.bad
noncomputable def pI(Y:List PG):CI->br->R (Bool×List D)
|.seq a=>fun O=>(pE Y a O).bind fun x=>(pN x).bind fun ds=>.ok (aV x,ds)
|.range as=>fun O=>(dW Y as O).bind fun xs=>(oz xs).bind fun ds=>.ok (true,ds)
|.zip as=>fun O=>(dW Y as O).bind fun xs=>v5 xs
|.enum a=>fun O=>(pE Y a O).bind fun x=>match x with
 |.lst _ xs=>.ok (aV x,fB 0 (aB xs))
 |_=>.bad
end
mutual
noncomputable def c_:CE->Bool
|.con v=>match v with
 |.str x=>decide (x.length<=aa)
 |_=>true
|.bin _ a b=>c_ a&&c_ b
|.nset a=>c_ a
|.neg a=>c_ a
|.not a=>c_ a
|.and a b=>c_ a&&c_ b
|.or a b=>c_ a&&c_ b
|.ite c a b=>c_ c&&(c_ a&&c_ b)
|.cmp _ a b=>c_ a&&c_ b
|.chain _ _ a b c=>c_ a&&(c_ b&&c_ c)
|.call _ as=>j7 as
|.blt _ as=>j7 as
|.mth _ o as=>c_ o&&j7 as
|.ix a b=>c_ a&&c_ b
|.sl a lo hi=>c_ a&&(GL lo&&GL hi)
|.lst as=>j7 as
|.tup as=>j7 as
|.comp _ _ elt _ src cond=>c_ elt&&(ltI src&&GL cond)
|.isx _ _ a=>c_ a
|.isv _ a=>c_ a
|.att _ a _=>c_ a
|.slp a lo hi _=>c_ a&&(GL lo&&GL hi)
|_=>true
noncomputable def j7:iP->Bool
|.nil=>true
|.cons a r=>c_ a&&j7 r
noncomputable def GL:CO->Bool
|.none=>true
|.some a=>c_ a
noncomputable def ltI:CI->Bool
|.seq a=>c_ a
|.range as=>j7 as
|.zip as=>j7 as
|.enum a=>c_ a
end
noncomputable def uz:Bf->iP->Bool
|.len,.cons (.var _) .nil=>true
|_,_=>false
mutual
noncomputable def cK:CE->List Nat
|.var i=>[i]
|.con _=>[]
|.glo _=>[]
|.bin _ a b=>cK a++cK b
|.nset a=>cK a
|.neg a=>cK a
|.not a=>cK a
|.and a b=>cK a++cK b
|.or a b=>cK a++cK b
|.ite c a b=>cK c++(cK a++cK b)
|.cmp _ a b=>cK a++cK b
|.chain _ _ a b c=>cK a++(cK b++cK c)
|.call _ as=>kE as
|.blt f as=>if uz f as=true then[]else kE as
|.mth _ o as=>cK o++kE as
|.ix a b=>cK a++cK b
|.sl a lo hi=>cK a++(GN lo++GN hi)
|.lst as=>kE as
|.tup as=>kE as
|.comp _ fr _ _ src _=>vd src++fr
|.isx _ _ a=>cK a
|.isv _ a=>cK a
|.att _ a _=>cK a
|.slp a lo hi _=>cK a++(GN lo++GN hi)
noncomputable def kE:iP->List Nat
|.nil=>[]
|.cons a r=>cK a++kE r
noncomputable def GN:CO->List Nat
|.none=>[]
|.some a=>cK a
noncomputable def vd:CI->List Nat
|.seq a=>cK a
|.range as=>kE as
|.zip as=>kE as
|.enum a=>cK a
end
def NT:Option HO->Prop
|none=>True
|some (.tup _)=>True
|_=>False
theorem NT.of{o:Option HO}(h:o=none):NT o:=by rw[h];trivial
theorem NT.own{o:Option HO}{u:HO}(h:NT o)(e:o=some u)(k:GK u):False:=by
 subst e;cases u<;>first|exact h.elim|exact k.elim
structure bT (F H F' H':Hp):Prop where
 h:be H H'
 f:be F F'
 s:be F' H'
 n:∀b o,F' b=some o->F b=none->NT (H b)
structure gu (fp:List Addr) (H F':Hp):Prop where
 nd:fp.Nodup
 nh:∀a∈fp,H a=none
 nf:∀a∈fp,F' a=none
variable{ds:List D}{vs:List V}
variable{f1 f2:List Addr}
variable{p:Addr}
section
variable{K:PySem.W.Frag}{H H1 H2 F F1 F2:Hp}
theorem bT.refl(s:be F H):bT F H F H:=⟨be.refl _,be.refl _,s,fun b o h h'=>by rw[h]at h';cases h'⟩
theorem be.none(e:be H H1){a:Addr}(h:H1 a=none):H a=none:=by
 cases q:H a with
 |none=>rfl
 |some o=>rw[e a o q]at h;cases h
theorem NT.back(e:be H H1){a:Addr}(h:NT (H1 a)):NT (H a):=by
 cases q:H a with
 |none=>trivial
 |some o=>rw[e a o q]at h;exact h
theorem bT.trans(g:bT F H F1 H1)(g':bT F1 H1 F2 H2):bT F H F2 H2:=⟨g.h.trans g'.h,g.f.trans g'.f,g'.s,fun b o h h'=>by
 cases q:F1 b with
 |none=>exact NT.back g.h (g'.n b o h q)
 |some u=>exact g.n b u q h'⟩
theorem gu.nil:gu [] H F:=⟨gW,fun _ h=>absurd h aR,fun _ h=>absurd h aR⟩
mutual
theorem bV.ex:∀(d:D) (v:V) (fp:List Addr),bV K H F d v fp->∀a∈fp,∃o,H a=some o/\GK o
|.non,v,fp,h=>by rw[h.2];intro a ha;cases ha
|.bl b,v,fp,h=>by rw[h.2];intro a ha;cases ha
|.int i,v,fp,h=>by rw[h.2];intro a ha;cases ha
|.str x,v,fp,h=>by rw[h.2];intro a ha;cases ha
|.lst o ds,v,fp,h=>by
 unfold bV at h;split at h
 ·obtain⟨a,vs,fs,h1,h2,h3,h4,rfl⟩:=h;intro b hb;rcases aF.mp hb with rfl|hb
  ·exact⟨_,h2,trivial⟩
  ·exact bg.ex ds vs fs h4 b hb
 ·rw[h.2];intro a ha;cases ha
|.tup ds,v,fp,h=>by
 obtain⟨a,vs,h1,h2,h3,h4⟩:=h;exact bg.ex ds vs fp h4
|.cst ds,v,fp,h=>by rw[h.2];intro a ha;cases ha
|.exc C ks ds,v,fp,h=>by rw[h.2];intro a ha;cases ha
theorem bg.ex:∀(ds:List D) (vs:List V) (fp:List Addr),bg K H F ds vs fp->∀a∈fp,∃o,H a=some o/\GK o
|[],vs,fp,h=>by rw[h.2];intro a ha;cases ha
|d::ds,vs,fp,h=>by
 obtain⟨v,r,f1,f2,h1,rfl,h3,h4⟩:=h;intro a ha;rcases aY.mp ha with ha|ha
 ·exact bV.ex d v f1 h3 a ha
 ·exact bg.ex ds r f2 h4 a ha
end
noncomputable def adopt(F H:Hp)(fp:List Addr):Hp:=fun b=>if b∈fp then H b else F b
theorem jQ{a:Addr}(h:a∈fp):adopt F H fp a=H a:=if_pos h
theorem kq{a:Addr}(h:a∉fp):adopt F H fp a=F a:=if_neg h
theorem dG(s:be F H):be F (adopt F H fp):=fun b o h=>by
 by_cases q:b∈fp
 ·rw[jQ q];exact s b o h
 ·rw[kq q];exact h
theorem eG(s:be F H):be (adopt F H fp) H:=fun b o h=>by
 by_cases q:b∈fp
 ·rw[jQ q]at h;exact h
 ·rw[kq q]at h;exact s b o h
theorem rG(g:bT F H F1 H1)(n:∀a∈fp,H a=none):bT F H (adopt F1 H1 fp) H1:=⟨g.h,g.f.trans (dG g.s),eG g.s,fun b o h h'=>by
 by_cases q:b∈fp
 ·exact .of (n b q)
 ·rw[kq q]at h;exact g.n b o h h'⟩
theorem Qf(g:bT F H F1 H1)(fr:gu fp H F1)(r:bV K H1 F1 d v fp):∃F2,bT F H F2 H1/\be F1 F2/\aU K F2 d v:=
 ⟨adopt F1 H1 fp,rG g fr.nh,dG g.s,bV.fix (dG g.s) d v fp (fun _ ha=>jQ ha) r⟩
theorem zP(g:bT F H F1 H1)(fr:gu fp H F1)(r:bg K H1 F1 ds vs fp):∃F2,bT F H F2 H1/\be F1 F2/\aE K F2 ds vs:=
 ⟨adopt F1 H1 fp,rG g fr.nh,dG g.s,bg.fix (dG g.s) ds vs fp (fun _ ha=>jQ ha) r⟩
theorem carry(g:bT F1 H1 F2 H2)(fr:gu fp H F1)(r:bV K H1 F1 d v fp):bV K H2 F2 d v fp/\(∀a∈fp,F2 a=none):=by
 refine⟨bV.mono g.f d v fp (fun a ha=>?_) r,fun a ha=>?_⟩
 ·obtain⟨o,e,_⟩:=bV.ex d v fp r a ha;rw[e,g.h a o e]
 ·obtain⟨o,e,k⟩:=bV.ex d v fp r a ha;cases q:F2 a with
  |none=>rfl
  |some u=>exact((g.n a u q (fr.nf a ha)).own e k).elim
theorem WI(g:bT F1 H1 F2 H2)(fr:gu fp H F1)(r:bg K H1 F1 ds vs fp):bg K H2 F2 ds vs fp/\(∀a∈fp,F2 a=none):=by
 refine⟨bg.mono g.f ds vs fp (fun a ha=>?_) r,fun a ha=>?_⟩
 ·obtain⟨o,e,_⟩:=bg.ex ds vs fp r a ha;rw[e,g.h a o e]
 ·obtain⟨o,e,k⟩:=bg.ex ds vs fp r a ha;cases q:F2 a with
  |none=>rfl
  |some u=>exact((g.n a u q (fr.nf a ha)).own e k).elim
theorem gu.app(s:be H H1)(a1:gu f1 H F1)(e1:∀a∈f1,∃o,H1 a=some o)(k1:∀a∈f1,F2 a=none)(a2:gu f2 H1 F2):gu (f1++f2) H F2:=by
 refine⟨bU.mpr ⟨a1.nd,a2.nd,fun a h1 b h2 z=>?_⟩,fun a ha=>?_,fun a ha=>?_⟩
 ·subst z;obtain⟨o,e⟩:=e1 a h1;rw[a2.nh a h2]at e;cases e
 ·rcases aY.mp ha with h|h
  ·exact a1.nh a h
  ·exact be.none s (a2.nh a h)
 ·rcases aY.mp ha with h|h
  ·exact k1 a h
  ·exact a2.nf a h
theorem newList{p:Addr}{vs:List V}{o:HO}(s:be F H)(hp:H p=none):bT F H F (upd H p o)/\F p=none:=by
 have hf:F p=none:=be.none s hp;refine⟨⟨fun b u q=>by rw[aQ (cP q hp)];exact q,be.refl _,fun b u q=>by rw[aQ (cP q hf)];exact s b u q,fun b o h h'=>by rw[h]at h';cases h'⟩,hf⟩
theorem ve{o:HO}(s:be F H)(hp:H p=none):bT F H (upd F p o) (upd H p o):=by
 have hf:F p=none:=be.none s hp;refine⟨fun b u q=>by rw[aQ (cP q hp)];exact q,fun b u q=>by rw[aQ (cP q hf)];exact q,fun b u q=>?_,fun b u q q'=>?_⟩
 ·by_cases e:b=p
  ·subst e;rw[b6]at q ⊢;exact q
  ·rw[aQ e]at q ⊢;exact s b u q
 ·by_cases e:b=p
  ·subst e;exact .of hp
  ·rw[aQ e]at q;rw[q]at q';cases q'
end
class Ex where
 E:XK
def jh[Ex](K:PySem.W.Frag)(F H:Hp)(x:D):Prop:=match x with
|.exc C ks xs=>∀F' H' d vs,bT F H F' H'->F' d=some (gY d (ks.zip vs))->aE K F' xs vs->Ex.E (.ref C) (some d) H'
|_=>False
variable{K:PySem.W.Frag}{F H F1 H1:Hp}{x:D}
theorem jh.grow[Ex](h:jh K F H x)(g:bT F H F1 H1):jh K F1 H1 x:=by
 cases x with
 |exc C ks xs=>exact fun F' H' d vs g'=>h F' H' d vs (g.trans g')
 |_=>exact h
def PV[Ex](K:PySem.W.Frag)(F H:Hp)(r:R D)(Q:VK):Prop:=match r with
|.ok d=>∀F' H' v fp,bT F H F' H'->gu fp H F'->bV K H' F' d v fp->Q v H'
|.ex x=>jh K F H x
|.bad=>False
def yg[Ex](K:PySem.W.Frag)(F H:Hp)(r:R (List D))(Q:List V->Hp->Prop):Prop:=match r with
|.ok ds=>∀F' H' vs fp,bT F H F' H'->gu fp H F'->bg K H' F' ds vs fp->Q vs H'
|.ex x=>jh K F H x
|.bad=>False
def PB[Ex]{α:Type}(K:PySem.W.Frag)(F H:Hp)(r:R α)(Q:α->Hp->Prop):Prop:=match r with
|.ok b=>∀F' H',bT F H F' H'->Q b H'
|.ex x=>jh K F H x
|.bad=>False
def WJ(K:PySem.W.Frag)(F:Hp)(d:D):Item->Prop
|.v x=>aU K F d x
|.tup xs=>∃ds,d=.tup ds/\aE K F ds xs/\xs.length<=aa
def lz(K:PySem.W.Frag)(F:Hp):List D->List Item->Prop
|[],its=>its=[]
|d::ds,its=>∃it r,its=it::r/\WJ K F d it/\lz K F ds r
noncomputable def minus(F:Hp)(A:List Addr):Hp:=fun b=>if b∈A then none else F b
noncomputable def rH(own:Bool)(F:Hp)(A:List Addr):Hp:=if own=true then minus F A else F
def PI'[Ex](K:PySem.W.Frag)(A:List Addr)(F H:Hp)(r:R (Bool×List D))(k:(Hp->Prop)->List Item->Hp->Prop):Prop:=match r with
|.ok ds=>∀F' H' ok its,bT F H F' H'->(∀H'',be (rH ds.1 F' A) H''->ok H'')->lz K (rH ds.1 F' A) ds.2 its->ds.2.length<=aa->k ok its H'
|.ex x=>jh K F H x
|.bad=>False
def WK(K:PySem.W.Frag)(H:Hp)(σd:br)(O:L2.St):Prop:=∀(k:Nat) d,σd[k]?=some (some d)->∃v F',O[k]?=some (some v)/\be F' H/\aU K F' d v
structure ji (K:PySem.W.Frag) (F H:Hp) (is:List Nat) (σd:br) (O:L2.St):Prop where
 e:∀i∈is,∀d,σd[i]?=some (some d)->∃v,O[i]?=some (some v)/\aU K F d v
 n:WK K H σd O
noncomputable def GO(K:PySem.W.Frag)(m:List D->R D):Sp:=fun vs H Q E=>∃F ds,be F H/\aB ds=ds/\aE K F ds vs/\@PV ⟨E⟩ K F H (m ds) Q
def Qg(K:PySem.W.Frag):PG->G->Prop
|.val d,.val v=>aU K (fun _=>none) d v
|.val d,.tup a _=>aU K (fun _=>none) d (.ref a)
|.fn m dds,.fn sp dvs=>(∀vs H Q E,GO K m vs H Q E->sp vs H Q E)/\aB dds=dds/\aE K (fun _=>none) dds dvs
|.cls C fs n,.cls C' fs' n'=>C=C'/\fs=fs'/\n=n'
|.iQ D Cs,.iQ D' Cs'=>D=D'/\Cs=Cs'
|.pe Cs as,.pe Cs' as'=>Cs=Cs'/\as=as'
|.exb Cs,.exb B Cs'=>Cs=Cs'/\∀C∈Cs,PySem.W.mroIn K C (.ref B)=some true
|.nop,.nop=>True
|_,_=>False
def cQ(K:PySem.W.Frag):List PG->List G->Prop
|p::ps,gs=>∃g r,gs=g::r/\Qg K p g/\cQ K ps r
|[],_=>True
theorem cQ.hand:∀{ps:List PG}{gs:List G},cQ K ps gs->cQ K (ps.map PG.hand) (gs.map G.hand)
|[],_,_=>trivial
|p::ps,_,h=>by
 obtain⟨g,r,rfl,h2,h3⟩:=h;refine⟨_,_,rfl,?_,cQ.hand h3⟩;cases p<;>cases g<;>first|exact h2|exact trivial|exact h2.elim
theorem cQ.get:∀{ps:List PG}{gs:List G} (i:Nat) {p:PG},cQ K ps gs->ps[i]?=some p->∃g,gs[i]?=some g/\Qg K p g
|[],_,i,_,_,e=>by simp at e
|p::ps,_,0,_,h,e=>by
 obtain⟨g,r,rfl,h2,_⟩:=h;simp at e;subst e;exact⟨g,rfl,h2⟩
|p::ps,_,i+1,_,h,e=>by
 obtain⟨g,r,rfl,_,h3⟩:=h;obtain⟨w,e1,e2⟩:=cQ.get i h3 (by simpa using e);exact⟨w,by simpa using e1,e2⟩
variable{A:List Addr}
theorem fC{b:Addr}(h:b∉A):minus F A b=F b:=if_neg h
theorem A9{b:Addr}(h:b∈A):minus F A b=none:=if_pos h
theorem Eo(F:Hp):minus F []=F:=by funext b;exact fC aR
theorem MP(o:Bool)(F:Hp):rH o F []=F:=by unfold rH;rw[Eo];split<;>rfl
theorem kr(F:Hp)(A:List Addr):be (minus F A) F:=fun b o h=>by
 by_cases q:b∈A
 ·rw[A9 q]at h;cases h
 ·rw[fC q]at h;exact h
theorem Ep(o:Bool)(F:Hp)(A:List Addr):be (rH o F A) F:=by
 unfold rH;split
 ·exact kr F A
 ·exact be.refl F
def nM(H:Hp)(A:List Addr):Prop:=∀a∈A,∃o,H a=some o/\GK o
theorem kF(s:be F H)(h:nM H A):A8 F (minus F A):=fun b o q=>by
 by_cases z:b∈A
 ·obtain⟨u,e,k⟩:=h b z;rw[s b o q]at e;cases e;exact .inr k
 ·exact .inl (by rw[fC z];exact q)
variable{H':Hp}
theorem nM.mono(s:be H H')(h:nM H A):nM H' A:=fun a ha=>by
 obtain⟨o,e,k⟩:=h a ha;exact⟨o,s a o e,k⟩
theorem WL(hA:nM H A)(g:bT F H F1 H1)(fr:gu fp H F1)(r:bV K H1 F1 d v fp):∃F2,bT F H F2 H1/\aU K (rH (aV d) F2 A) d v:=by
 have g2:=rG g fr.nh;refine⟨adopt F1 H1 fp,g2,?_⟩;unfold rH;by_cases ho:aV d=true
 ·rw[if_pos ho];have r2:=bV.less (kF g.s (hA.mono g.h)) d v fp ho r;refine bV.fix (F':=minus (adopt F1 H1 fp) A) ?_ d v fp ?_ r2
  ·intro b o q;by_cases z:b∈A
   ·rw[A9 z]at q;cases q
   ·rw[fC z]at q ⊢;exact dG g.s b o q
  ·intro a ha;have z:a∉A:=fun z=>by
    obtain⟨o,e,_⟩:=hA a z;rw[fr.nh a ha]at e;cases e
   rw[fC z,jQ ha]
 ·rw[if_neg ho];exact bV.fix (dG g.s) d v fp (fun _ ha=>jQ ha) r
variable{b:Bool}
variable{F':Hp}{Q:VK}
variable{α:Type}
section
variable{K:PySem.W.Frag}{H H1 F F1:Hp}{σd:br}{O:L2.St}
theorem ji.l{a b:List Nat}(h:ji K F H (a++b) σd O):ji K F H a σd O:=⟨fun i hi=>h.e i (aN _ hi),h.n⟩
theorem ji.r{a b:List Nat}(h:ji K F H (a++b) σd O):ji K F H b σd O:=⟨fun i hi=>h.e i (az _ hi),h.n⟩
theorem ji.mono{a:List Nat}(h:ji K F H a σd O)(g:bT F H F1 H1):ji K F1 H1 a σd O:=⟨fun i hi d hd=>by
 obtain⟨v,h1,h2⟩:=h.e i hi d hd;exact⟨v,h1,aU.mono g.f d v h2⟩,fun k d e=>by
 obtain⟨v,F',h1,h2,h3⟩:=h.n k d e;exact⟨v,F',h1,h2.trans g.h,h3⟩⟩
theorem PV.int[Ex]{n:Int}(h:PV K F H (.ok (.int n)) Q)(s:be F H):PV K F' H (.ok (.int n)) Q:=fun F2 H2 v fp g fr r=>by
 obtain⟨rfl,rfl⟩:=r;exact h F H2 _ [] ⟨g.h,be.refl _,s.trans g.h,fun b o q q'=>by rw[q]at q';cases q'⟩ .nil ⟨rfl,rfl⟩
theorem PV.grow[Ex]{r:R D}(h:PV K F H r Q)(g:bT F H F1 H1):PV K F1 H1 r Q:=by
 cases r with
 |ok d=>exact fun F' H' v fp g' fr rx=>h F' H' v fp (g.trans g') ⟨fr.nd,fun a ha=>be.none g.h (fr.nh a ha),fr.nf⟩ rx
 |ex x=>exact jh.grow (K:=K) (x:=x) h g
 |bad=>exact h
theorem PB.grow[Ex]{r:R α}{Q:α->Hp->Prop}(h:PB K F H r Q)(g:bT F H F1 H1):PB K F1 H1 r Q:=by
 cases r with
 |ok d=>exact fun F' H' g'=>h F' H' (g.trans g')
 |ex x=>exact jh.grow (K:=K) (x:=x) h g
 |bad=>exact h
theorem PV.here[Ex](h:PV K F H (.ok (bz d)) Q)(s:be F H)(r:aU K F d v):Q v H:=h F H v [] (bT.refl s) .nil (aU.Ar d v r)
theorem PV.flat[Ex](h:PV K F H (.ok d) Q)(s:be F H)(r:bV K H F d v []):Q v H:=h F H v [] (bT.refl s) .nil r
theorem iS{r:R α}{a:α}(h:R.bw b r=.ok a):b=true/\r=.ok a:=by
 cases b with
 |true=>exact⟨rfl,h⟩
 |false=>cases h
theorem PV.bw[Ex]{r:R D}(h:PV K F H (R.bw b r) Q):b=true/\PV K F H r Q:=by
 cases b with
 |true=>exact⟨rfl,h⟩
 |false=>exact h.elim
end
theorem szl:aa=16777216:=by unfold aa;rfl
theorem vf(x:Str):x.cps.toList.length=x.length:=by simp[f9]
theorem gv(l:List Nat):(⟨l.toArray⟩:Str).length=l.length:=by simp[f9]
theorem MQ(l:List Nat):(strOf l).length=l.length:=by simp[strOf,f9]
theorem GP(z:Str):∀ss:List Str,(ee z ss).length<=(ss.map (·.length)).sum+ss.length*z.length
|[]=>by show(0:Nat)<=_;omega
|[x]=>by simp[ee]
|x::y::r=>by
 have ih:=GP z (y::r);show(x++z++ee z (y::r)).length<=_;rw[q_,q_];simp only[cR,FE,aC,zq]at ih ⊢;omega
theorem K_(z:Str)(n:Nat):(BZ z n).length=z.length*n:=by
 unfold BZ;rw[gv];induction n with
 |zero=>simp
 |succ n ih=>rw[b_,dc,ak,ih,vf,ID,zu]
theorem JL(l:List α)(lo hi:Option Int):(cut l lo hi).length<=l.length:=by
 unfold cut;rw[b9,c9];omega
theorem rJ(c:Nat):∀(l:List Nat),(∀p∈dM c l,p.length<=l.length)/\(dM c l).length<=l.length+1
|[]=>by
 constructor
 ·intro p hp;simp[dM]at hp;subst hp;simp
 ·simp[dM]
|x::r=>by
 obtain⟨h1,h2⟩:=rJ c r;unfold dM;by_cases e:x=c
 ·rw[if_pos e];constructor
  ·intro p hp;rcases aF.mp hp with rfl|hp
   ·simp
   ·have:=h1 p hp;simp;omega
  ·simp;omega
 ·rw[if_neg e];cases q:dM c r with
  |nil=>simp
  |cons h t=>
   rw[q]at h1 h2;constructor
   ·intro p hp;rcases aF.mp hp with rfl|hp
    ·have:=h1 h ao;simp;omega
    ·have:=h1 p (ai _ hp);simp;omega
   ·simp at h2 ⊢;omega
variable{i:Int}
theorem rX{xs:List α}{x:α}(h:e_ xs i=some x):∃j,iF xs.length i=some j/\xs[j]?=some x:=by
 unfold e_ at h;cases q:iF xs.length i with
 |none=>rw[q]at h;cases h
 |some j=>rw[q]at h;exact⟨j,rfl,h⟩
theorem B0{xs:List α}{j:Nat}{x:α}(h:iF xs.length i=some j)(e:xs[j]?=some x):e_ xs i=some x:=by
 unfold e_;rw[h];exact e
def R.bh{α:Type}(r:R α):Prop:=∀x,r≠.ex x
theorem bh.ok{a:α}:(R.ok a).bh:=fun _ h=>by cases h
theorem bh.bad:(R.bad:R α).bh:=fun _ h=>by cases h
theorem bh.opt{o:Option α}:(R.opt o).bh:=fun _ h=>by cases o<;>cases h
theorem bh.bw{r:R α}(n:r.bh):(R.bw b r).bh:=fun x h=>by
 cases b with
 |true=>exact n x h
 |false=>cases h
variable{β:Type}
theorem bh.bind{r:R α}{f:α->R β}(n:r.bh)(k:∀a,(f a).bh):(r.bind f).bh:=fun x h=>by
 cases r with
 |ok a=>exact k a x h
 |ex y=>exact n y rfl
 |bad=>cases h
theorem bh.fy(r:R α):r.fy.bh:=fun x h=>by cases r<;>cases h
theorem JM(x y:D):(inD x y).bh:=by unfold inD;(repeat' (first|exact bh.ok|exact bh.bad|exact bh.opt|exact bh.fy _|refine bh.bw ?_|(refine bh.bind ?_ fun _=>?_)|split))
theorem v8(x:D):(iX x).bh:=by unfold iX;(repeat' (first|exact bh.ok|exact bh.bad|exact bh.opt|exact bh.fy _|refine bh.bw ?_|(refine bh.bind ?_ fun _=>?_)|split))
theorem Du(x y:D):(u_ x y).bh:=by unfold u_;(repeat' (first|exact bh.ok|exact bh.bad|exact bh.opt|exact bh.fy _|refine bh.bw ?_|(refine bh.bind ?_ fun _=>?_)|split))
theorem Qh(x:D):(pN x).bh:=by unfold pN;(repeat' (first|exact bh.ok|exact bh.bad|exact bh.opt|exact bh.fy _|refine bh.bw ?_|(refine bh.bind ?_ fun _=>?_)|split))
theorem Qi(xs:List D):(oz xs).bh:=by unfold oz;(repeat' (first|exact bh.ok|exact bh.bad|exact bh.opt|exact bh.fy _|refine bh.bw ?_|(refine bh.bind ?_ fun _=>?_)|split))
theorem Qj(m:Mt)(xs:List D)(k:Bool):(K8 m xs k).bh:=by unfold K8;(repeat' (first|exact bh.ok|exact bh.bad|exact bh.opt|exact bh.fy _|refine bh.bw ?_|(refine bh.bind ?_ fun _=>?_)|split))
theorem sO(m:Mt)(x:D)(ds:List D):(jg m x ds).bh:=by unfold jg;(repeat' (first|exact Qj _ _ _|exact bh.ok|exact bh.bad|exact bh.opt|exact bh.fy _|refine bh.bw ?_|(refine bh.bind ?_ fun _=>?_)|split))
variable{u:V}{y:D}
variable{op:qz}
variable{lo hi:Option Int}
variable{m:Mt}
section
variable{K:PySem.W.Frag}{H H0 F F0:Hp}
theorem Er(r:aU K F x v):decide (v=.non)=gf x:=by
 cases x with
 |non=>rw[show v=.non from r];rfl
 |bl b=>rw[show v=.bl b from r];rfl
 |int i=>rw[show v=.int i from r];rfl
 |str z=>rw[show v=.str z from r.1];rfl
 |lst o ds=>obtain⟨a,vs,rfl,_⟩:=r;rfl
 |tup ds=>obtain⟨a,vs,rfl,_⟩:=r;rfl
 |cst ds=>obtain⟨a,vs,rfl,_⟩:=r;rfl
 |exc C ks ds=>obtain⟨a,d,vs,rfl,_⟩:=r;rfl
theorem MR(r:aU K F x v)(h:gf x=true):v=.non:=by
 cases x<;>first|exact r|(cases h)
theorem nE:∀(xs ys:List D),aB (xs++ys)=aB xs++aB ys
|[],_=>rfl
|x::r,ys=>by show bz x::aB (r++ys)=_;rw[nE r ys];rfl
theorem kG:∀xs:List D,(aB xs).length=xs.length
|[]=>rfl
|x::r=>by show(aB r).length+1=_;rw[kG r];rfl
theorem PV.lst[Ex](h:PV K F H (.ok (.lst true (aB ds))) Q)(s:be F H)(r:aE K F ds vs)(hl:vs.length<=aa)(hp:H p=none):Q (.ref p) (upd H p (.lst vs)):=by
 obtain⟨g,hf⟩:=newList (vs:=vs) (o:=.lst vs) s hp;refine h F _ (.ref p) [p] g ⟨by simp,?_,?_⟩ ?_
 ·intro a ha;rw[aW.mp ha];exact hp
 ·intro a ha;rw[aW.mp ha];exact hf
 ·unfold bV;rw[if_pos rfl];exact⟨p,vs,[],rfl,b6,hl,aE.Ar ds vs r,rfl⟩
theorem PV.tup[Ex](h:PV K F H (.ok (.tup (aB ds))) Q)(s:be F H)(r:aE K F ds vs)(hl:vs.length<=aa)(hp:H p=none):Q (.ref p) (upd H p (.tup vs)):=by
 have g:=ve (o:=.tup vs) s hp;refine h _ _ (.ref p) [] g .nil ?_;exact⟨p,vs,rfl,b6,hl,aE.Ar ds vs (aE.mono g.f ds vs r)⟩
theorem GQ:∀(n:Nat) {ds:List D}{vs:List V},aE K F ds vs->aE K F (aO n ds).flatten (aO n vs).flatten
|0,_,_,_=>rfl
|n+1,ds,vs,r=>by
 rw[b_,b_,dc,dc];exact aE.app r (GQ n r)
theorem Qk(n:Nat)(xs:List D):(aO n (aB xs)).flatten=aB (aO n xs).flatten:=by
 induction n with
 |zero=>rfl
 |succ n ih=>rw[b_,b_,dc,dc,nE,ih]
theorem Yt[Ex]{op:kK}(s:be F H)(rx:aU K F x v)(ry:aU K F y u)(h:PV K F H (dN op x y) Q):Pu K op v u H Q:=by
 cases x with
 |int i=>
  cases rx;cases y with
  |int j=>
   cases ry;cases op<;>first|exact h.elim|exact h.flat s ⟨rfl,rfl⟩|(obtain⟨c,h⟩:=h.bw;exact⟨of_decide_eq_true c,h.flat s ⟨rfl,rfl⟩⟩)
  |_=>exact h.elim
 |str z=>
  obtain⟨rfl,hz⟩:=rx;cases y with
  |int j=>
   cases ry;cases op<;>first|exact h.elim|skip
   obtain⟨c,h⟩:=h.bw;have c:=of_decide_eq_true c;exact⟨c,h.flat s ⟨⟨rfl,by rw[K_];exact c.2.2⟩,rfl⟩⟩
  |str q=>
   obtain⟨rfl,hq⟩:=ry;cases op<;>first|exact h.elim|skip
   obtain⟨c,h⟩:=h.bw;have c:=of_decide_eq_true c;exact⟨c,h.flat s ⟨⟨rfl,by rw[q_];exact c⟩,rfl⟩⟩
  |_=>exact h.elim
 |lst o xs=>
  obtain⟨a,vs,rfl,h2,h3,h4⟩:=rx;cases y with
  |lst o' ys=>
   obtain⟨b,us,rfl,k2,k3,k4⟩:=ry;cases op<;>first|exact h.elim|skip
   obtain⟨c,h⟩:=h.bw;have c:=of_decide_eq_true c;rw[<-h4.len,<-k4.len]at c;rw[<-nE]at h;exact .inl ⟨vs,us,Rd.same s h2,Rd.same s k2,c,fun p hp=>h.lst s (h4.app k4) (by rw[ak];exact c) hp⟩
  |int k=>
   cases ry;cases op<;>first|exact h.elim|skip
   obtain⟨c,h⟩:=h.bw;have c:=of_decide_eq_true c;rw[<-h4.len]at c;rw[Qk]at h;refine⟨vs,Rd.same s h2,c.1,c.2,fun p hp=>h.lst s (GQ _ h4) ?_ hp⟩;have z:∀n,(aO n vs).flatten.length=vs.length*n:=by
    intro n;induction n with
    |zero=>rfl
    |succ n ih=>rw[b_,dc,ak,ih,ID,zu]
   rw[z];exact c.2
  |_=>exact h.elim
 |tup xs=>
  obtain⟨a,vs,rfl,h2,h3,h4⟩:=rx;cases y with
  |tup ys=>
   obtain⟨b,us,rfl,k2,k3,k4⟩:=ry;cases op<;>first|exact h.elim|skip
   obtain⟨c,h⟩:=h.bw;simp only[bu,decide_eq_true_eq,rm,List.isEmpty_eq_false_iff]at c;obtain⟨⟨c1,c2⟩,c3⟩:=c;rw[<-h4.len,<-k4.len]at c3;rw[<-nE]at h;refine .inr ⟨vs,us,(tupS h2).same' s,(tupS k2).same' s,?_,?_,c3,fun p hp=>h.tup s (h4.app k4) (by rw[ak];exact c3) hp⟩
   ·rintro rfl;exact c1 (gK (by rw[<-h4.len];rfl))
   ·rintro rfl;exact c2 (gK (by rw[<-k4.len];rfl))
  |_=>exact h.elim
 |_=>exact h.elim
theorem okIn(s:be F H)(rx:aU K F x v)(ry:aU K F y u)(h:inD x y=.ok b){Q:Bool->Prop}(q:Q b):∃a,u=.ref a/\((∃t xs dx ds,gq K H a t xs/\aU K H dx v/\aE K H ds xs/\cX dx=true/\iR ds=true/\Q (memD dx ds))\/∃kvs k,Rd H a (.dK kvs)/\v=kV k/\Q (kB kvs k).isSome):=by
 cases y with
 |lst o ys=>
  obtain⟨a,us,rfl,k2,k3,k4⟩:=ry;obtain⟨c,e⟩:=iS h;cases e;have c:cX x=true/\iR ys=true:=by simpa using c
  exact⟨a,rfl,.inl ⟨false,us,x,ys,(Rd.seq k2).same' s,aU.mono s _ _ rx,aE.mono s _ _ k4,c.1,c.2,q⟩⟩
 |tup ys=>
  obtain⟨a,us,rfl,k2,k3,k4⟩:=ry;obtain⟨c,e⟩:=iS h;cases e;have c:cX x=true/\iR ys=true:=by simpa using c
  exact⟨a,rfl,.inl ⟨true,us,x,ys,(tupS k2).same' s,aU.mono s _ _ rx,aE.mono s _ _ k4,c.1,c.2,q⟩⟩
 |cst ys=>
  obtain⟨a,us,rfl,k2,k3,k4⟩:=ry;obtain⟨c,e⟩:=iS h;cases e;have c:cX x=true/\iR ys=true:=by simpa using c
  exact⟨a,rfl,.inl ⟨true,us,x,ys,.inr k2,aU.mono s _ _ rx,aE.mono s _ _ k4,c.1,c.2,q⟩⟩
 |_=>cases h
theorem zQ[Ex](s:be F H)(rx:aU K F x v)(ry:aU K F y u)(h:PV K F H (bK op x y) Q):nD K op v u H Q:=by
 have ord:(op=.Lt\/op=.LtE\/op=.Gt\/op=.GtE)->PV K F H (WH op x y) Q->nD K op v u H Q:=by
  intro ho h;cases x with
  |int i=>
   cases rx;cases y with
   |int j=>
    cases ry;rcases ho with rfl|rfl|rfl|rfl<;>exact h.flat s ⟨rfl,rfl⟩
   |_=>exact h.elim
  |str z=>
   obtain⟨rfl,_⟩:=rx;cases y with
   |str j=>
    obtain⟨rfl,_⟩:=ry;rcases ho with rfl|rfl|rfl|rfl<;>first|exact h.flat s ⟨rfl,rfl⟩|exact h.elim
   |_=>exact h.elim
  |_=>exact h.elim
 cases op with
 |Lt=>exact ord (.inl rfl) h
 |LtE=>exact ord (.inr (.inl rfl)) h
 |Gt=>exact ord (.inr (.inr (.inl rfl))) h
 |GtE=>exact ord (.inr (.inr (.inr rfl))) h
 |Eq=>
  obtain⟨c,h⟩:=h.bw;have c:cX x=true/\cX y=true:=by simpa using c
  exact⟨x,y,aU.mono s _ _ rx,aU.mono s _ _ ry,c.1,c.2,h.flat s ⟨rfl,rfl⟩⟩
 |NotEq=>
  obtain⟨c,h⟩:=h.bw;have c:cX x=true/\cX y=true:=by simpa using c
  exact⟨x,y,aU.mono s _ _ rx,aU.mono s _ _ ry,c.1,c.2,h.flat s ⟨rfl,rfl⟩⟩
 |Is=>
  obtain⟨c,h⟩:=h.bw;rw[MR ry c];show Q (.bl (decide (v=.non))) H;rw[Er rx];exact h.flat s ⟨rfl,rfl⟩
 |IsNot=>
  obtain⟨c,h⟩:=h.bw;rw[MR ry c];show Q (.bl (!decide (v=.non))) H;rw[Er rx];exact h.flat s ⟨rfl,rfl⟩
 |In=>
  have h:PV K F H ((inD x y).bind fun b=>.ok (.bl b)) Q:=h;cases e:inD x y with
  |ok b=>
   rw[e]at h;obtain⟨a,rfl,z⟩:=okIn s rx ry e (Q:=fun b=>Q (.bl b) H) (h.flat s ⟨rfl,rfl⟩);exact z
  |ex z=>exact absurd e (JM x y z)
  |bad=>rw[e]at h;exact h.elim
 |NotIn=>
  have h:PV K F H ((inD x y).bind fun b=>.ok (.bl (!b))) Q:=h;cases e:inD x y with
  |ok b=>
   rw[e]at h;obtain⟨a,rfl,z⟩:=okIn s rx ry e (Q:=fun b=>Q (.bl (!b)) H) (h.flat s ⟨rfl,rfl⟩);exact z
  |ex z=>exact absurd e (JM x y z)
  |bad=>rw[e]at h;exact h.elim
theorem As{xs:List α}{ys:List β}(h:xs.length=ys.length):xs.isEmpty=ys.isEmpty:=by
 cases xs<;>cases ys<;>first|rfl|(simp at h)
theorem La{Q:Bool->Prop}(s:be F H)(rx:aU K F x v)(h:iX x=.ok b)(q:Q b):j6 K v H Q:=by
 cases x with
 |non=>cases rx;cases h;exact q
 |bl k=>cases rx;cases h;exact q
 |int i=>cases rx;cases h;exact q
 |str z=>obtain⟨rfl,hz⟩:=rx;cases h;exact⟨hz,q⟩
 |lst o ds=>
  obtain⟨a,vs,rfl,h2,h3,h4⟩:=rx;cases h;exact .inl ⟨false,vs,(Rd.seq h2).same' s,by show Q (!vs.isEmpty);rw[As h4.len];exact q⟩
 |tup ds=>
  obtain⟨a,vs,rfl,h2,h3,h4⟩:=rx;cases h;exact .inl ⟨true,vs,(tupS h2).same' s,by show Q (!vs.isEmpty);rw[As h4.len];exact q⟩
 |cst ds=>cases h
 |exc C ks ds=>cases h
theorem cy{r:R α}{f:α->R β}{b:β}(h:r.bind f=.ok b):∃a,r=.ok a/\f a=.ok b:=by
 cases r with
 |ok a=>exact⟨a,rfl,h⟩
 |ex x=>cases h
 |bad=>cases h
theorem oA{o:Option α}{a:α}(h:R.opt o=.ok a):o=some a:=by
 cases o with
 |none=>cases h
 |some b=>cases h;rfl
theorem PV.some[Ex]{r:R D}(h:PV K F H r Q)(n:r.bh):∃d,r=.ok d:=by
 cases r with
 |ok d=>exact⟨d,rfl⟩
 |ex x=>exact absurd rfl (n x)
 |bad=>exact h.elim
theorem WM[Ex](s:be F H)(rx:aU K F x v)(ry:aU K F y u)(h:PV K F H (u_ x y) Q):Gs K v u H Q:=by
 obtain⟨d,e⟩:=h.some (by first|exact Du _ _|exact sO _ _ _|(repeat' (first|exact bh.ok|exact bh.bad|exact bh.opt|exact bh.fy _|refine bh.bw ?_|(refine bh.bind ?_ fun _=>?_)|split)));rw[e]at h;have hs:=szl;cases x with
 |str z=>
  obtain⟨rfl,hz⟩:=rx;cases y with
  |int i=>
   cases ry;obtain⟨c,e1,e2⟩:=cy e;cases e2;exact⟨hz,c,oA e1,h.flat s ⟨⟨rfl,by show(1:Nat)<=_;omega⟩,rfl⟩⟩
  |_=>cases e
 |lst o ds=>
  obtain⟨a,vs,rfl,h2,h3,h4⟩:=rx;cases y with
  |int i=>
   cases ry;obtain⟨c,e1,e2⟩:=cy e;cases e2;obtain⟨j,i1,i2⟩:=rX (oA e1);obtain⟨w,w1,w2⟩:=h4.get j i2;exact .inl ⟨false,vs,i,w,rfl,(Rd.seq h2).same' s,B0 (by rw[h4.len];exact i1) w1,h.here s w2⟩
  |_=>cases e
 |tup ds=>
  obtain⟨a,vs,rfl,h2,h3,h4⟩:=rx;cases y with
  |int i=>
   cases ry;obtain⟨c,e1,e2⟩:=cy e;cases e2;obtain⟨j,i1,i2⟩:=rX (oA e1);obtain⟨w,w1,w2⟩:=h4.get j i2;exact .inl ⟨true,vs,i,w,rfl,(tupS h2).same' s,B0 (by rw[h4.len];exact i1) w1,h.here s w2⟩
  |_=>cases e
 |_=>cases e
theorem aE.cut:∀{ds:List D}{vs:List V},aE K F ds vs->∀lo hi,aE K F (L3.cut ds lo hi) (L3.cut vs lo hi):=by
 have dr:∀(n:Nat) {ds:List D}{vs:List V},aE K F ds vs->aE K F (ds.drop n) (vs.drop n):=by
  intro n;induction n with
  |zero=>intro ds vs h;exact h
  |succ n ih=>
   intro ds vs h;cases ds with
   |nil=>cases h;exact rfl
   |cons d ds=>
    obtain⟨v,r,rfl,_,h3⟩:=h;exact ih h3
 have tk:∀(n:Nat) {ds:List D}{vs:List V},aE K F ds vs->aE K F (ds.take n) (vs.take n):=by
  intro n;induction n with
  |zero=>intro ds vs h;exact rfl
  |succ n ih=>
   intro ds vs h;cases ds with
   |nil=>cases h;exact rfl
   |cons d ds=>
    obtain⟨v,r,rfl,h2,h3⟩:=h;exact⟨v,_,rfl,h2,ih h3⟩
 intro ds vs h lo hi;unfold L3.cut;rw[h.len];exact tk _ (dr _ h)
theorem ZZ[Ex](s:be F H)(rx:aU K F x v)(h:PV K F H (JK x lo hi) Q):Sz K v lo hi H Q:=by
 cases x with
 |str z=>
  obtain⟨rfl,hz⟩:=rx;refine⟨hz,h.flat s ⟨⟨rfl,?_⟩,rfl⟩⟩;rw[gv];have:=JL z.cps.toList lo hi;rw[vf]at this;omega
 |lst o ds=>
  obtain⟨a,vs,rfl,h2,h3,h4⟩:=rx;exact .inl ⟨false,vs,(Rd.seq h2).same' s,rfl,fun p hp=>h.lst s (h4.cut lo hi) (d_ (JL _ _ _) h3) hp⟩
 |tup ds=>
  obtain⟨a,vs,rfl,h2,h3,h4⟩:=rx;cases lo with
  |none=>exact h.elim
  |some n=>
   cases hi with
   |some _=>exact h.elim
   |none=>
    obtain⟨c,h⟩:=h.bw;have c:=of_decide_eq_true c;have en:((n.toNat:Nat):Int)=n:=by omega
    have dr:∀(n:Nat) {ds:List D}{vs:List V},aE K F ds vs->aE K F (ds.drop n) (vs.drop n):=by
     intro n;induction n with
     |zero=>intro ds vs h;exact h
     |succ n ih=>
      intro ds vs h;cases ds with
      |nil=>cases h;exact rfl
      |cons d ds=>
       obtain⟨v,r,rfl,_,h3⟩:=h;exact ih h3
    have hl:=h4.len;exact .inr ⟨n.toNat,vs,(tupS h2).same' s,by rw[en],rfl,by omega,by omega,fun p hp=>h.tup s (dr n.toNat h4) (by rw[c9];omega) hp⟩
 |_=>exact h.elim
theorem aE.pick(h:aE K F ds vs):∀is:List Nat,aE K F (is.filterMap (ds[·]?)) (is.filterMap (vs[·]?))
|[]=>rfl
|i::is=>by
 have hl:=h.len;cases e:ds[i]? with
 |none=>
  have:vs[i]?=none:=by
   rw[rS]at e ⊢;omega
  rw[jt e,jt this];exact aE.pick h is
 |some d=>
  obtain⟨v,e1,e2⟩:=h.get i e;rw[jr e,jr e1];exact⟨v,_,rfl,e2,aE.pick h is⟩
theorem Yu[Ex]{k:Int}(s:be F H)(rx:aU K F x v)(h:PV K F H (Qd x lo hi k) Q):Pw K v lo hi k H Q:=by
 cases x with
 |lst o ds=>
  obtain⟨a,vs,rfl,h2,h3,h4⟩:=rx;obtain⟨c,h⟩:=h.bw;simp only[bu,decide_eq_true_eq]at c;have r:aE K F (mZ ds lo hi k) (mZ vs lo hi k):=by
   unfold mZ;rw[h4.len];exact h4.pick _
  have hz:(mZ vs lo hi k).length<=aa:=by rw[r.len];exact c.2
  exact⟨false,vs,(Rd.seq h2).same' s,rfl,⟨c.1,hz⟩,fun p hp=>h.lst s r hz hp⟩
 |_=>exact h.elim
theorem yh:∀{ds:List D}{vs:List V},aE K F ds vs->ds.all qh=true->zJ vs=true/\vs.all n9=ds.all rF/\vs.any n9=ds.any rF
|[],_,h,_=>by cases h;exact⟨rfl,rfl,rfl⟩
|d::ds,_,h,e=>by
 obtain⟨v,r,rfl,h2,h3⟩:=h;have e':qh d=true/\ds.all qh=true:=by simpa using e
 obtain⟨i1,i2,i3⟩:=yh h3 e'.2;cases d with
 |bl b=>
  cases h2;refine⟨by show(true&&zJ r)=true;rw[i1];rfl,?_,?_⟩
  ·rw[qR,qR,i2];cases b<;>rfl
  ·rw[nB,nB,i3];cases b<;>rfl
 |_=>exact absurd e'.1 aK
theorem Lb[Ex]{f:Bf}(s:be F H)(r:aE K F ds vs)(h:PV K F H (kD f ds) Q):AY K f vs H Q:=by
 match ds,r,h with
 |[],_,h=>exact h.elim
 |[x],r,h=>
  obtain⟨v,r',rfl,rx,e⟩:=r;cases e;cases f with
  |len=>
   cases x with
   |str z=>obtain⟨rfl,hz⟩:=rx;exact⟨hz,h.flat s ⟨rfl,rfl⟩⟩
   |lst o ds=>
    obtain⟨a,vs,rfl,h2,h3,h4⟩:=rx;exact .inl ⟨false,vs,(Rd.seq h2).same' s,by show Q (.int vs.length) H;rw[h4.len];exact h.flat s ⟨rfl,rfl⟩⟩
   |tup ds=>
    obtain⟨a,vs,rfl,h2,h3,h4⟩:=rx;exact .inl ⟨true,vs,(tupS h2).same' s,by show Q (.int vs.length) H;rw[h4.len];exact h.flat s ⟨rfl,rfl⟩⟩
   |_=>exact h.elim
  |all=>
   cases x with
   |lst o ds=>
    obtain⟨a,vs,rfl,h2,h3,h4⟩:=rx;obtain⟨c,h⟩:=h.bw;obtain⟨i1,i2,i3⟩:=yh h4 c;exact⟨false,vs,(Rd.seq h2).same' s,rfl,i1,by rw[i2];exact h.flat s ⟨rfl,rfl⟩⟩
   |_=>exact h.elim
  |any=>
   cases x with
   |lst o ds=>
    obtain⟨a,vs,rfl,h2,h3,h4⟩:=rx;obtain⟨c,h⟩:=h.bw;obtain⟨i1,i2,i3⟩:=yh h4 c;exact⟨false,vs,(Rd.seq h2).same' s,rfl,i1,by rw[i3];exact h.flat s ⟨rfl,rfl⟩⟩
   |_=>exact h.elim
  |int=>
   cases x with
   |int i=>cases rx;exact h.flat s ⟨rfl,rfl⟩
   |bl b=>cases rx;exact h.flat s ⟨rfl,rfl⟩
   |str z=>
    obtain⟨rfl,hz⟩:=rx;obtain⟨c,h⟩:=h.bw;obtain⟨d,e⟩:=h.some (by first|exact Du _ _|exact sO _ _ _|(repeat' (first|exact bh.ok|exact bh.bad|exact bh.opt|exact bh.fy _|refine bh.bw ?_|(refine bh.bind ?_ fun _=>?_)|split)));obtain⟨n,e1,e2⟩:=cy e;rw[e]at h;cases e2;exact⟨of_decide_eq_true c,n,oA e1,h.flat s ⟨rfl,rfl⟩⟩
   |_=>exact h.elim
  |str=>
   cases x with
   |int i=>
    cases rx;obtain⟨c,h⟩:=h.bw;have c:i.natAbs.log2<1920/\(n_ i).length<=aa:=by simpa using c
    exact⟨c.1,h.flat s ⟨⟨rfl,c.2⟩,rfl⟩⟩
   |_=>exact h.elim
  |abs=>
   cases x with
   |int i=>cases rx;exact h.flat s ⟨rfl,rfl⟩
   |_=>exact h.elim
  |_=>exact h.elim
 |[x,y],r,h=>
  obtain⟨v,r',rfl,rx,u,r2,rfl,ry,e⟩:=r;cases e;cases x with
  |int i=>
   cases rx;cases y with
   |int j=>
    cases ry;cases f<;>first|exact h.elim|exact h.flat s ⟨rfl,rfl⟩
   |_=>exact h.elim
  |_=>exact h.elim
 |_::_::_::_,_,h=>exact h.elim
theorem yi:∀{ds:List D}{vs:List V}{ss:List Str},aE K F ds vs->kC ds=some ss->vs=ss.map V.str
|[],_,_,h,e=>by cases h;cases e;rfl
|d::ds,_,ss,h,e=>by
 obtain⟨v,r,rfl,h2,h3⟩:=h;cases d with
 |str z=>
  have e:(kC ds).map (z::·)=some ss:=e;cases q:kC ds with
  |none=>rw[q]at e;cases e
  |some s2=>
   rw[q]at e;cases e;rw[yi h3 q,h2.1];rfl
 |_=>cases e
theorem Lc(c:Nat)(l:List Nat)(hl:l.length<=aa):aE K F (sM c l) ((dM c l).map fun p=>V.str (strOf p)):=by
 obtain⟨h1,_⟩:=rJ c l;unfold sM;revert h1;generalize dM c l=ps;intro h1;induction ps with
 |nil=>exact rfl
 |cons p r ih=>
  refine⟨_,_,rfl,⟨rfl,?_⟩,ih fun q hq=>h1 q (ai _ hq)⟩;rw[MQ];have:=h1 p ao;omega
theorem yj:∀ps:List (List Nat),aB (ps.map fun p=>D.str (strOf p))=ps.map fun p=>D.str (strOf p)
|[]=>rfl
|p::r=>by show D.str (strOf p)::aB _=_;rw[yj r];rfl
theorem A_:∀{ds:List D}{vs:List V}{bs:List Bool},aE K F ds vs->uH ds=some bs->vs=bs.map V.bl
|[],_,_,h,e=>by cases h;cases e;rfl
|d::ds,_,bs,h,e=>by
 obtain⟨v,r,rfl,h2,h3⟩:=h;cases d<;>first|(cases e;done)|skip
 rename_i b;have e:(uH ds).map (b::·)=some bs:=e;cases q:uH ds with
 |none=>rw[q]at e;cases e
 |some cs=>
  rw[q]at e;cases e;rw[A_ h3 q];cases h2;rfl
theorem MS(s:be F H)(rx:aU K F x v)(h:jg m x ds=.ok d):tT m v H:=by
 cases x with
 |str z=>
  obtain⟨rfl,_⟩:=rx
  match ds,h with
  |[y],h=>
   cases y with
   |str q=>cases m<;>first|exact trivial|(cases h)
   |lst o ys=>cases m<;>first|exact trivial|(cases h)
   |_=>cases h
  |[],h=>cases m<;>first|exact trivial|(cases h)
  |_::_::_,h=>cases h
 |lst o xs=>
  obtain⟨a,us,rfl,h2,_⟩:=rx
  match ds,h with
  |[y],h=>
   cases y<;>first|(cases h;done)|skip
   cases m<;>first|exact⟨us,Rd.same s h2⟩|(cases h)
  |[],h=>cases h
  |_::_::_,h=>cases h
 |_=>cases h
theorem frzs_strs':∀ws:List Str,aB (ws.map D.str)=ws.map D.str
|[]=>rfl
|w::r=>by show D.str w::aB (r.map D.str)=_;rw[frzs_strs' r];rfl
theorem SO[Ex](s:be F H)(rx:aU K F x v)(r:aE K F ds vs)(h:PV K F H (jg m x ds) Q):xU K m v vs H Q:=by
 cases x with
 |str z=>
  obtain⟨rfl,hz⟩:=rx
  match ds,r,h with
  |[y],r,h=>
   obtain⟨u,r',rfl,ry,e⟩:=r;cases e;cases y with
   |str q=>
    obtain⟨rfl,hq⟩:=ry;cases m with
    |startswith=>
     exact h.flat s ⟨rfl,rfl⟩
    |split=>
     obtain⟨c,h⟩:=h.bw;have c:q.length=1/\z.length+2<=aa:=by simpa using c
     refine⟨c.1,c.2,fun p hp=>?_⟩;have r:=Lc (K:=K) (F:=F) (q.cps.getD 0 0) z.cps.toList (by rw[vf];exact hz);have h':PV K F H (.ok (.lst true (aB (sM (q.cps.getD 0 0) z.cps.toList)))) Q:=by
      unfold sM at h ⊢;rw[yj];exact h
     refine h'.lst s r ?_ hp;rw[ah];have:=(rJ (q.cps.getD 0 0) z.cps.toList).2;rw[vf]at this;omega
    |count=>
     obtain⟨c,h⟩:=h.bw;exact⟨of_decide_eq_true c,hz,h.flat s ⟨rfl,rfl⟩⟩
    |index=>
     obtain⟨c,h⟩:=h.bw;have c:q.length=1/\(q.cps.getD 0 0)∈z.cps.toList:=by simpa only[bu,decide_eq_true_eq]using c
     exact⟨c.1,hz,c.2,h.flat s ⟨rfl,rfl⟩⟩
    |_=>exact h.elim
   |lst o ys=>
    obtain⟨a,us,rfl,h2,h3,h4⟩:=ry;cases m with
    |join=>
     obtain⟨d,e⟩:=h.some (by first|exact Du _ _|exact sO _ _ _|(repeat' (first|exact bh.ok|exact bh.bad|exact bh.opt|exact bh.fy _|refine bh.bw ?_|(refine bh.bind ?_ fun _=>?_)|split)));obtain⟨ss,e1,e2⟩:=cy (show((R.opt (kC ys)).bind fun ss=>R.bw (decide ((ss.map (·.length)).sum+ss.length*z.length<=aa)) (.ok (.str (ee z ss))))=.ok d from e);obtain⟨c,e3⟩:=iS e2;rw[e]at h;cases e3;exact⟨false,us,(Rd.seq h2).same' s,rfl,ss,yi h4 (oA e1),of_decide_eq_true c,h.flat s ⟨⟨rfl,d_ (GP z ss) (of_decide_eq_true c)⟩,rfl⟩⟩
    |_=>exact h.elim
   |_=>exact h.elim
  |[],r,h=>
   cases m with
   |upper=>
    cases r;obtain⟨c,h⟩:=h.bw;simp only[bu,decide_eq_true_eq]at c;exact⟨c.1,h.flat s ⟨⟨rfl,c.2⟩,rfl⟩⟩
   |split=>
    cases r;obtain⟨c,h⟩:=h.bw;simp only[bu,decide_eq_true_eq]at c;refine⟨⟨hz,c.1⟩,fun p hp=>?_⟩;have r:∀ws:List Str,(ws.all fun w=>decide (w.length<=aa))=true->aE K F (ws.map D.str) (ws.map V.str):=by
     intro ws;induction ws with
     |nil=>intro _;exact rfl
     |cons w ws ih=>
      intro hc;obtain⟨c1,c2⟩:=o9.mp hc;exact⟨_,_,rfl,⟨rfl,of_decide_eq_true c1⟩,ih c2⟩
    have h':PV K F H (.ok (.lst true (aB ((iE z).map D.str)))) Q:=by
     rw[frzs_strs'];exact h
    exact h'.lst s (r _ c.2) (by rw[ah];exact c.1) hp
   |_=>exact h.elim
  |_::_::_,_,h=>exact h.elim
 |lst o xs=>
  obtain⟨a,us,rfl,h2,h3,h4⟩:=rx
  match ds,r,h with
  |[y],r,h=>
   obtain⟨u,r',rfl,ry,e⟩:=r;cases e;cases y<;>first|exact h.elim|skip
   rename_i k;cases ry;have h:PV K F H (K8 m xs k) Q:=h;cases m<;>first|exact h.elim|skip
   ·have h:PV K F H ((R.opt (uH xs)).bind fun bs=>.ok (.int (bs.count k))) Q:=h;cases q:uH xs with
    |none=>rw[q]at h;exact h.elim
    |some bs=>
     rw[q]at h;have e:=A_ h4 q;subst e;exact⟨bs,Rd.same s h2,PV.flat (d:=.int (bs.count k)) h s ⟨rfl,rfl⟩⟩
   ·have h:PV K F H ((R.opt (uH xs)).bind fun bs=>.bw (decide (k∈bs)) (.ok (.int (bs.idxOf k)))) Q:=h;cases q:uH xs with
    |none=>rw[q]at h;exact h.elim
    |some bs=>
     rw[q]at h;have e:=A_ h4 q;subst e;obtain⟨c,h⟩:=PV.bw (show PV K F H (.bw (decide (k∈bs)) (.ok (.int (bs.idxOf k)))) Q from h);exact⟨bs,Rd.same s h2,of_decide_eq_true c,h.flat s ⟨rfl,rfl⟩⟩
  |[],_,h=>exact h.elim
  |_::_::_,_,h=>exact h.elim
 |_=>exact h.elim
end
variable{Q':List V->Hp->Prop}
variable{σd:br}{is:List Nat}
variable{E:XK}
variable{nl:List Str}{fr:List Nat}
section
variable{K:PySem.W.Frag}{Γp:List PG}{Y:List G}
theorem PV.bind[Ex]{r:R D}{f:D->R D}{Q':VK}(h:PV K F H (r.bind f) Q)(k:∀x F1 H1 v,bT F H F1 H1->aU K F1 x v->PV K F1 H1 (f x) Q->Q' v H1):PV K F H r Q':=by
 cases r with
 |ok x=>
  intro F1 H1 v fp g fr rx;obtain⟨F2,g2,s2,rf⟩:=Qf g fr rx;exact k x F2 H1 v g2 rf (PV.grow h g2)
 |ex x=>exact h
 |bad=>exact h.elim
theorem PB.mq[Ex]{r:R D}{f:D->R α}{Q:α->Hp->Prop}{Q':VK}(h:PB K F H (r.bind f) Q)(k:∀x F1 H1 v,bT F H F1 H1->aU K F1 x v->PB K F1 H1 (f x) Q->Q' v H1):PV K F H r Q':=by
 cases r with
 |ok x=>
  intro F1 H1 v fp g fr rx;obtain⟨F2,g2,s2,rf⟩:=Qf g fr rx;exact k x F2 H1 v g2 rf (PB.grow h g2)
 |ex x=>exact h
 |bad=>exact h.elim
theorem PB.bindB[Ex]{r:R β}{f:β->R α}{Q:α->Hp->Prop}{Q':β->Hp->Prop}(h:PB K F H (r.bind f) Q)(k:∀x F1 H1,bT F H F1 H1->PB K F1 H1 (f x) Q->Q' x H1):PB K F H r Q':=by
 cases r with
 |ok x=>exact fun F1 H1 g=>k x F1 H1 g (PB.grow h g)
 |ex x=>exact h
 |bad=>exact h.elim
theorem PV.bindB[Ex]{r:R β}{f:β->R D}{Q':β->Hp->Prop}(h:PV K F H (r.bind f) Q)(k:∀x F1 H1,bT F H F1 H1->PV K F1 H1 (f x) Q->Q' x H1):PB K F H r Q':=by
 cases r with
 |ok x=>exact fun F1 H1 g=>k x F1 H1 g (PV.grow h g)
 |ex x=>exact h
 |bad=>exact h.elim
theorem yg.FY[Ex]{r:R (List D)}{f:List D->R D}(h:PV K F H (r.bind f) Q)(k:∀xs F1 H1 vs,bT F H F1 H1->aE K F1 xs vs->PV K F1 H1 (f xs) Q->Q' vs H1):yg K F H r Q':=by
 cases r with
 |ok x=>
  intro F1 H1 v fp g fr rx;obtain⟨F2,g2,s2,rf⟩:=zP g fr rx;exact k x F2 H1 v g2 rf (PV.grow h g2)
 |ex x=>exact h
 |bad=>exact h.elim
theorem PB.WN[Ex]{r:R (List D)}{f:List D->R α}{Q:α->Hp->Prop}(h:PB K F H (r.bind f) Q)(k:∀xs F1 H1 vs,bT F H F1 H1->aE K F1 xs vs->PB K F1 H1 (f xs) Q->Q' vs H1):yg K F H r Q':=by
 cases r with
 |ok x=>
  intro F1 H1 v fp g fr rx;obtain⟨F2,g2,s2,rf⟩:=zP g fr rx;exact k x F2 H1 v g2 rf (PB.grow h g2)
 |ex x=>exact h
 |bad=>exact h.elim
theorem PV.WO[Ex](h:PV K F H (.ok (.lst true ds)) Q)(g:bT F H F1 H1)(fr:gu fp H F1)(r:bg K H1 F1 ds vs fp)(hl:vs.length<=aa)(hp:H1 p=none):Q (.ref p) (upd H1 p (.lst vs)):=by
 obtain⟨g2,hf⟩:=newList (vs:=vs) (o:=.lst vs) g.s hp;have np:p∉fp:=fun z=>by
  obtain⟨o,e,_⟩:=bg.ex ds vs fp r p z;rw[hp]at e;cases e
 refine h F1 _ (.ref p) (p::fp) (g.trans g2) ⟨cZ.mpr ⟨np,fr.nd⟩,?_,?_⟩ ?_
 ·intro a ha;rcases aF.mp ha with rfl|ha
  ·exact be.none g.h hp
  ·exact fr.nh a ha
 ·intro a ha;rcases aF.mp ha with rfl|ha
  ·exact hf
  ·exact fr.nf a ha
 ·unfold bV;rw[if_pos rfl];exact⟨p,vs,fp,rfl,b6,hl,bg.mono (be.refl _) ds vs fp (fun a ha=>aQ (fun z=>np (by rw[<-z];exact ha))) r,rfl⟩
theorem PV.Z0[Ex](h:PV K F H (.ok (.tup ds)) Q)(g:bT F H F1 H1)(fr:gu fp H F1)(r:bg K H1 F1 ds vs fp)(hl:vs.length<=aa)(hp:H1 p=none):Q (.ref p) (upd H1 p (.tup vs)):=by
 have g2:=ve (o:=.tup vs) g.s hp;have np:p∉fp:=fun z=>by
  obtain⟨o,e,_⟩:=bg.ex ds vs fp r p z;rw[hp]at e;cases e
 refine h _ _ (.ref p) fp (g.trans g2) ⟨fr.nd,fr.nh,fun a ha=>?_⟩ ?_
 ·rw[aQ (fun z=>np (by rw[<-z];exact ha))];exact fr.nf a ha
 ·exact⟨p,vs,rfl,b6,hl,bg.mono g2.f ds vs fp (fun a ha=>aQ (fun z=>np (by rw[<-z];exact ha))) r⟩
theorem MT(z:Str):lz K F (vc z) ((chars z).map .v):=by
 unfold vc chars;have hs:=szl;induction z.cps.toList with
 |nil=>exact rfl
 |cons c r ih=>exact⟨_,_,rfl,⟨rfl,by show(1:Nat)<=_;omega⟩,ih⟩
theorem yk:∀{ds:List D}{vs:List V},aE K F ds vs->lz K F (aB ds) (vs.map .v)
|[],_,h=>by cases h;exact rfl
|d::ds,_,h=>by
 obtain⟨v,r,rfl,h2,h3⟩:=h;exact⟨_,_,rfl,(aU.bz d v).mpr h2,yk h3⟩
theorem JN:∀{ds es:List D}{vs us:List V},aE K F ds vs->aE K F es us->lz K F (uJ (aB ds) (aB es)) (uD vs us)
|[],_,_,_,h,h'=>by cases h;exact rfl
|d::ds,[],_,_,h,h'=>by
 obtain⟨v,r,rfl,h2,h3⟩:=h;cases h';exact rfl
|d::ds,e::es,_,_,h,h'=>by
 obtain⟨v,r,rfl,h2,h3⟩:=h;obtain⟨v',r',rfl,h2',h3'⟩:=h';have hs:=szl;exact⟨_,_,rfl,⟨_,rfl,⟨_,_,rfl,(aU.bz d v).mpr h2,_,_,rfl,(aU.bz e v').mpr h2',rfl⟩,by show(2:Nat)<=_;omega⟩,JN h3 h3'⟩
theorem GS:∀(ds es:List D),(uJ ds es).length<=ds.length
|[],es=>by cases es<;>exact aM _
|d::ds,[]=>mX _
|d::ds,e::es=>Nat.succ_le_succ (GS ds es)
theorem GU:∀{ds:List D}{vs:List V} (n:Nat),aE K F ds vs->lz K F (fB n (aB ds)) (m6 n vs)
|[],_,n,h=>by cases h;exact rfl
|d::ds,_,n,h=>by
 obtain⟨v,r,rfl,h2,h3⟩:=h;have hs:=szl;exact⟨_,_,rfl,⟨_,rfl,⟨_,_,rfl,rfl,_,_,rfl,(aU.bz d v).mpr h2,rfl⟩,by show(2:Nat)<=_;omega⟩,GU (n+1) h3⟩
theorem Es(lo:Int)(n:Nat):lz K F (jD lo n) ((bS n).map fun(i:Nat)=>Item.v (.int (lo+(i:Int)))):=by
 unfold jD;induction bS n with
 |nil=>exact rfl
 |cons c r ih=>exact⟨_,_,rfl,rfl,ih⟩
theorem Et:∀(ds:List D) (n:Nat),(fB n ds).length=ds.length
|[],n=>rfl
|d::r,n=>by show(fB (n+1) r).length+1=_;rw[Et r];rfl
theorem lz.mono(e:be F F'):∀{ds:List D}{its:List Item},lz K F ds its->lz K F' ds its
|[],_,h=>h
|d::ds,_,h=>by
 obtain⟨it,r,h1,h2,h3⟩:=h;refine⟨it,r,h1,?_,lz.mono e h3⟩;cases it with
 |v x=>exact aU.mono e d x h2
 |tup xs=>obtain⟨es,q1,q2,q3⟩:=h2;exact⟨es,q1,aE.mono e es xs q2,q3⟩
theorem Eu{it:Item}{k:V->Hp->Prop}(s:be F H)(r:WJ K F d it)(h:∀F1 H1 v,bT F H F1 H1->aU K F1 d v->k v H1):mkItem it H k:=by
 cases it with
 |v x=>exact h F H x (bT.refl s) r
 |tup xs=>
  obtain⟨ds,rfl,r2,r3⟩:=r;intro p hp;have g:=ve (o:=.tup xs) s hp;exact h _ _ _ g ⟨p,xs,rfl,b6,r3,aE.mono g.f ds xs r2⟩
def mL(K:PySem.W.Frag)(F:Hp)(σd:br)(O:L2.St):Prop:=∀(i:Nat) d,σd[i]?=some (some d)->∃v,O[i]?=some (some v)/\aU K F d v
theorem mL.env{O:L2.St}(h:mL K F σd O)(s:be F H):ji K F H is σd O:=⟨fun i _ d e=>h i d e,fun k d e=>let⟨v,h1,h2⟩:=h k d e;⟨v,F,h1,s,h2⟩⟩
theorem mL.mono{O:L2.St}(h:mL K F σd O)(e:be F F'):mL K F' σd O:=fun i d q=>by
 obtain⟨v,h1,h2⟩:=h i d q;exact⟨v,h1,aU.mono e d v h2⟩
theorem mL.set{O:L2.St}{i:Nat}(h:mL K F σd O)(hl:σd.length=O.length)(r:aU K F d v):mL K F (σd.set i (some d)) (O.set i (some v)):=fun j e q=>by
 by_cases hij:i=j
 ·subst hij;rw[fq]at q;by_cases hi:i<σd.length
  ·simp[hi]at q;subst q;exact⟨v,by rw[fq];simp[<-hl,hi],r⟩
  ·simp[hi]at q
 ·rw[cH hij]at q;obtain⟨w,h1,h2⟩:=h j e q;exact⟨w,by rw[cH hij];exact h1,h2⟩
mutual
theorem Zg:∀(g:CG) {d:D}{v:V}{σd aaC:br}{O:L2.St}{F H:Hp}{Q:L2.St->Hp->Prop},mL K F σd O->σd.length=O.length->be F H->aU K F d v->pG g d σd=.ok aaC->(∀σ',mL K F aaC σ'->aaC.length=σ'.length->Q σ' H)->wG K Y E g v O H Q
|.name i,d,v,σd,aaC,O,F,H,Q,a,hl,s,r,e,h=>by
 cases e;exact h _ (a.set hl r) (by simp[hl])
|.tup gs,d,v,σd,aaC,O,F,H,Q,a,hl,s,r,e,h=>by
 cases d with
 |tup ds=>
  obtain⟨b,vs,rfl,h2,h3,h4⟩:=r;obtain⟨c,e⟩:=iS e;exact⟨true,vs,(tupS h2).same' s,rfl,by rw[h4.len];exact of_decide_eq_true c,WQ gs a hl s h4 e h⟩
 |_=>cases e
|.sub _ _,d,v,σd,aaC,O,F,H,Q,a,hl,s,r,e,h=>by cases e
theorem WQ:∀(g:qB) {ds:List D}{vs:List V}{σd aaC:br}{O:L2.St}{F H:Hp}{Q:L2.St->Hp->Prop},mL K F σd O->σd.length=O.length->be F H->aE K F ds vs->w4 g ds σd=.ok aaC->(∀σ',mL K F aaC σ'->aaC.length=σ'.length->Q σ' H)->JB K Y E g vs O H Q
|.nil,ds,vs,σd,aaC,O,F,H,Q,a,hl,s,r,e,h=>by
 cases ds with
 |nil=>cases r;cases e;exact h O a hl
 |cons d dr=>cases e
|.cons g gr,ds,vs,σd,aaC,O,F,H,Q,a,hl,s,r,e,h=>by
 cases ds with
 |nil=>cases e
 |cons d dr=>
  obtain⟨v,vr,rfl,r1,r2⟩:=r;obtain⟨σ2,e1,e2⟩:=cy e;exact Zg g a hl s r1 e1 fun σ' a' hl'=>WQ gr a' hl' s r2 e2 h
end
theorem MU{O:L2.St}(h:ji K F H fr σd O):mL K F (nl.map (fun _=>none)++fr.map (fun i=>σd.getD i none)) (nl.map (fun _=>none)++fr.map (fun i=>O.getD i none)):=by
 intro i d e;by_cases hi:i<nl.length
 ·rw[fu (by simpa using hi)]at e;rw[bD]at e;cases q:nl[i]? with
  |none=>rw[q]at e;cases e
  |some x=>rw[q]at e;cases e
 ·rw[c8 (by simpa using hi)]at e ⊢;simp only[ah,bD]at e ⊢;cases q:fr[i-nl.length]? with
  |none=>rw[q]at e;cases e
  |some j=>
   rw[q]at e;have e:σd.getD j none=some d:=by simpa using e
   have e':σd[j]?=some (some d):=by
    rw[b8]at e;cases z:σd[j]? with
    |none=>rw[z]at e;cases e
    |some o=>rw[z]at e;simp at e;rw[e]
   obtain⟨v,h1,h2⟩:=h.e j (gA q) d e';refine⟨v,?_,h2⟩;simp[b8,h1]
theorem MV{O:L2.St}:(nl.map (fun _=>(none:Option D))++fr.map (fun i=>σd.getD i none)).length=(nl.map (fun _=>(none:Option V))++fr.map (fun i=>O.getD i none)).length:=by simp
theorem GV[Ex]{E:XK}{tg:CG}{cond:CO}{elt:CE}{k:List V->Hp->Prop}
 (hc:∀{σd:br}{O:L2.St}{F H:Hp}{Q:Bool->Hp->Prop},mL K F σd O->be F H->PB K F H (pC Γp cond σd) Q->wC K Y E cond O H Q)
 (he:∀{σd:br}{O:L2.St}{F H:Hp}{Q:VK},mL K F σd O->be F H->PV K F H (pE Γp elt σd) Q->wE K Y E elt O H Q) (ok:Hp->Prop) (H0:Hp) (F0:Hp) :
 ∀(ds:List D) (its:List Item) (acc:List D) (vacc:List V) (fp:List Addr) (σd:br) (O:L2.St) (F H:Hp),mL K F σd O->σd.length=O.length->bT F0 H0 F H->lz K F ds its->(∀H'',be F H''->ok H'')->acc.length+ds.length<=aa->
  bg K H F acc vacc fp->gu fp H0 F->
  (∀ys,dg (pG tg) (pC Γp cond) (pE Γp elt) ds σd=.ok ys->∀F' H' vs fp',bT F0 H0 F' H'->bg K H' F' (acc++ys) vs fp'->gu fp' H0 F'->k vs H')->(∃ys,dg (pG tg) (pC Γp cond) (pE Γp elt) ds σd=.ok ys)->
  rB ok (wG K Y E tg) (wC K Y E cond) (wE K Y E elt) k its vacc O H
|[],its,acc,vacc,fp,σd,O,F,H,a,hl,g,hi,hok,hz,ra,fr,hk,hy=>by
 cases hi;refine⟨hok H g.s,hk [] rfl F H vacc fp g (by rw[dm];exact ra) fr⟩
|d::ds,its,acc,vacc,fp,σd,O,F,H,a,hl,g,hi,hok,hz,ra,fr,hk,hy=>by
 obtain⟨it,r,rfl,i1,i2⟩:=hi;obtain⟨ys,ey⟩:=hy;obtain⟨σ2,e1,e2⟩:=cy ey;obtain⟨b,e3,e4⟩:=cy e2;simp only[aC]at hz;refine⟨hok H g.s,by rw[ra.len];omega,Eu g.s i1 fun F1 H1 v g1 r1=>?_⟩;have fresh1:∀{F' H':Hp},bT F H F' H'->bg K H' F' acc vacc fp/\gu fp H0 F':=fun g'=>by
  obtain⟨c1,c2⟩:=WI g' fr ra;exact⟨c1,fr.nd,fr.nh,c2⟩
 refine Zg tg (a.mono g1.f) hl g1.s r1 e1 fun σ' a' hl'=>?_;refine hc a' g1.s ?_;rw[e3];intro F2 H2 g2;have g12:=g1.trans g2;have hok2:∀{F' H':Hp},bT F H F' H'->∀H'',be F' H''->ok H'':=fun g' H'' s''=>hok H'' (g'.f.trans s'');cases b with
 |false=>
  rw[if_neg aK];have e4:dg (pG tg) (pC Γp cond) (pE Γp elt) ds σ2=.ok ys:=e4;obtain⟨c1,c2⟩:=fresh1 g12;refine GV hc he ok H0 F0 ds r acc vacc fp σ2 σ' F2 H2 (a'.mono g2.f) hl' (g.trans g12) (lz.mono g12.f i2) (hok2 g12) (by omega) c1 c2 (fun zs ez=>?_) ⟨ys,e4⟩;refine hk zs ?_;simp only[dg,e1,R.bind,e3,Bool.false_eq_true,if_false];exact ez
 |true=>
  rw[if_pos rfl];have e4:((pE Γp elt σ2).bind fun y=>(dg (pG tg) (pC Γp cond) (pE Γp elt) ds σ2).bind fun ys=>.ok (y::ys))=.ok ys:=e4;obtain⟨y,e5,e6⟩:=cy e4;obtain⟨zs,e7,e8⟩:=cy e6;refine he (a'.mono g2.f) g2.s ?_;rw[e5];intro F3 H3 w f3 g3 fr3 r3;have g123:=g12.trans g3;obtain⟨c1,c2⟩:=fresh1 g123;have hx:∀a∈fp,∃o,H a=some o:=fun a ha=>by
   obtain⟨o,e,_⟩:=bg.ex acc vacc fp ra a ha;exact⟨o,e⟩
  have fr':gu (fp++f3) H0 F3:=gu.app (H1:=H) g.h fr hx c2.nf ⟨fr3.nd,fun a ha=>be.none g12.h (fr3.nh a ha),fr3.nf⟩;refine GV hc he ok H0 F0 ds r (acc++[y]) (vacc++[w]) (fp++f3) σ2 σ' F3 H3 (a'.mono (g2.f.trans g3.f)) hl' (g.trans g123) (lz.mono g123.f i2) (hok2 g123) (by simp;omega) (bg.app c1 (bg.one r3)) fr' (fun zs' ez=>?_) ⟨zs,e7⟩;rw[a_];refine hk (y::zs') ?_;simp only[dg,e1,R.bind,e3,e5,ez,if_true]
end
variable{k:(Hp->Prop)->List Item->Hp->Prop}
variable{g:Nat}
variable{as:iP}
section
variable{K:PySem.W.Frag}{Γp:List PG}{Y:List G}
mutual
theorem Dv:∀d:D,bz (bz d)=bz d
|.non=>rfl
|.bl _=>rfl
|.int _=>rfl
|.str _=>rfl
|.lst o xs=>by show D.lst false (aB (aB xs))=_;rw[fE xs];rfl
|.tup xs=>by show D.tup (aB (aB xs))=_;rw[fE xs];rfl
|.cst xs=>by show D.cst (aB (aB xs))=_;rw[fE xs];rfl
|.exc C ks xs=>by show D.exc C ks (aB (aB xs))=_;rw[fE xs];rfl
theorem fE:∀ds:List D,aB (aB ds)=aB ds
|[]=>rfl
|d::r=>by show bz (bz d)::aB (aB r)=_;rw[Dv d,fE r];rfl
end
theorem PV.isOk[Ex]{r:R D}(h:PV K F H r Q)(n:r.bh):∃d,r=.ok d:=h.some n
theorem PI'.isOk[Ex]{r:R (Bool×List D)}(h:PI' K A F H r k)(n:r.bh):∃d,r=.ok d:=by
 cases r with
 |ok d=>exact⟨d,rfl⟩
 |ex x=>exact absurd rfl (n x)
 |bad=>exact h.elim
theorem PB.isOk[Ex]{r:R α}{Q:α->Hp->Prop}(h:PB K F H r Q)(n:r.bh):∃d,r=.ok d:=by
 cases r with
 |ok d=>exact⟨d,rfl⟩
 |ex x=>exact absurd rfl (n x)
 |bad=>exact h.elim
theorem Dw{r:R α}{a:α}(h:r.fy=.ok a):r=.ok a:=by
 cases r with
 |ok b=>exact h
 |ex x=>cases h
 |bad=>cases h
theorem B3(hΓ:cQ K Γp Y){c:Option Addr}:∀(gs:List Nat) {b:Bool},Dr Γp gs c=some b->uE Y gs c=some b
|[],b,h=>h
|g::gs,b,h=>by
 unfold Dr at h;unfold uE;cases q:Γp[g]? with
 |none=>rw[q]at h;cases h
 |some p=>
  obtain⟨g',e1,e2⟩:=hΓ.get g q;rw[q]at h;rw[e1];cases p<;>first|cases h|skip
  cases g'<;>first|exact e2.elim|skip
  obtain⟨rfl,rfl⟩:=e2;cases c with
  |none=>exact B3 hΓ gs h
  |some C=>
   dsimp only at h ⊢;split at h
   ·rename_i hC;rw[if_pos hC];split at h
    ·rename_i hD;rw[if_pos hD];exact h
    ·rename_i hD;rw[if_neg hD];exact B3 hΓ gs h
   ·cases h
theorem JO(hΓ:cQ K Γp Y):∀(gs:List Nat),Qe Γp gs=true->∃Ds,zK Y gs Ds
|[],_=>⟨[],rfl⟩
|g::gs,h=>by
 unfold Qe at h;rw[qR]at h;obtain⟨h1,h2⟩:=o9.mp h;obtain⟨Ds,hD⟩:=JO hΓ gs h2;cases q:Γp[g]? with
 |none=>rw[q]at h1;cases h1
 |some p=>
  obtain⟨g',e1,e2⟩:=hΓ.get g q;rw[q]at h1;cases p<;>first|cases h1|skip
  cases g'<;>first|exact e2.elim|skip
  rename_i D Cs _ _;obtain⟨rfl,rfl⟩:=e2;exact⟨_,_,_,_,rfl,e1,hD⟩
theorem GW(Γp:List PG)(gs:List Nat)(x:D):(ye Γp gs x).bh:=by unfold ye;(repeat' (first|exact bh.ok|exact bh.bad|exact bh.opt|exact bh.fy _|refine bh.bw ?_|(refine bh.bind ?_ fun _=>?_)|split))
theorem GX(Γp:List PG)(g:Nat)(x:D):(yf Γp g x).bh:=by unfold yf;(repeat' (first|exact bh.ok|exact bh.bad|exact bh.opt|exact bh.fy _|refine bh.bw ?_|(refine bh.bind ?_ fun _=>?_)|split))
theorem Ql(Γp:List PG)(g:Nat)(f:Str)(x:D):(Dt Γp g f x).bh:=by unfold Dt;(repeat' (first|exact bh.ok|exact bh.bad|exact bh.opt|exact bh.fy _|refine bh.bw ?_|(refine bh.bind ?_ fun _=>?_)|split))
theorem SQ(hΓ:cQ K Γp Y){gs:List Nat}{Q:Bool->Prop}(s:be F H)(r:aU K F x v)(e:ye Γp gs x=.ok b)(q:Q b):Gu Y gs v H Q:=by
 unfold ye at e;obtain⟨c,e⟩:=iS e;simp only[bu,decide_eq_true_eq]at c;obtain⟨⟨c1,c2⟩,c3⟩:=c;refine⟨(fun z=>by subst z;cases c1),c2,JO hΓ gs c3,?_⟩;cases x<;>first|cases e|skip
 ·cases r;exact⟨b,B3 hΓ gs (oA e),q⟩
 ·obtain⟨a,d,vs,rfl,h2,h3,h4⟩:=r;exact⟨false,_,d,_,s _ _ h2,s _ _ h3,b,B3 hΓ gs (oA e),q⟩
theorem SR(hΓ:cQ K Γp Y){Q:Bool->Prop}(s:be F H)(r:aU K F x v)(e:yf Γp g x=.ok b)(q:Q b):Dk Y g v H Q:=by
 unfold yf at e;unfold Dk;cases z:Γp[g]? with
 |none=>rw[z]at e;cases e
 |some p=>
  obtain⟨g',e1,e2⟩:=hΓ.get g z;rw[z]at e;rw[e1];cases p<;>first|cases e|skip
  cases g'<;>first|exact e2.elim|skip
  obtain⟨rfl,rfl⟩:=e2;cases x<;>first|cases e|skip
  ·cases r;exact q
  ·obtain⟨a,d,vs,rfl,h2,h3,h4⟩:=r;obtain⟨c,e⟩:=iS e;cases e;exact⟨false,_,d,_,s _ _ h2,s _ _ h3,of_decide_eq_true c,q⟩
theorem JP{f:Str}:∀{ks:List Str}{ds:List D}{vs:List V},aE K F ds vs->K9 ks ds f=some d->∃v,(ks.zip vs).lookup f=some v/\aU K F d v
|[],_,_,_,e=>by cases e
|k::ks,[],_,_,e=>by cases e
|k::ks,x::ds,_,h,e=>by
 obtain⟨v,r,rfl,h2,h3⟩:=h;unfold K9 at e;rw[List.zip_cons_cons,cJ];by_cases z:f=k
 ·rw[if_pos z]at e;cases e;rw[show(f==k)=true from by simp[z]];exact⟨v,rfl,h2⟩
 ·rw[if_neg z]at e;rw[show(f==k)=false from by simp[z]];exact JP h3 e
theorem Yv[Ex](hΓ:cQ K Γp Y){f:Str}(s:be F H)(r:aU K F x v)(h:PV K F H (Dt Γp g f x) Q):Gv Y g f v H Q:=by
 obtain⟨y,e⟩:=h.isOk (Ql Γp g f x);rw[e]at h;unfold Dt at e;unfold Gv;cases z:Γp[g]? with
 |none=>rw[z]at e;cases e
 |some p=>
  obtain⟨g',e1,e2⟩:=hΓ.get g z;rw[z]at e;rw[e1];cases p<;>first|cases e|skip
  cases g'<;>first|exact e2.elim|skip
  obtain⟨rfl,rfl⟩:=e2;cases x<;>first|cases e|skip
  obtain⟨a,d,vs,rfl,h2,h3,h4⟩:=r;obtain⟨c,e⟩:=iS e;obtain⟨y',e3,e4⟩:=cy e;cases e4;obtain⟨w,k1,k2⟩:=JP h4 (oA e3);simp only[bu,decide_eq_true_eq]at c;exact⟨false,_,d,_,s _ _ h2,s _ _ h3,c,w,k1,h.here s k2⟩
theorem PB.SS[Ex]{r:R D}{Q:Bool->Hp->Prop}(h:PB K F H (r.bind iX) Q):PV K F H r (fun x H1=>j6 K x H1 fun b=>Q b H1):=by
 refine h.mq fun x F1 H1 v g r hb=>?_;obtain⟨b,e⟩:=hb.isOk (v8 x);rw[e]at hb;exact La g.s r e (hb F1 H1 (bT.refl g.s))
theorem tW(F:Hp):be (fun _=>none) F:=fun b o h=>by cases h
theorem Qm(r:aU K F x v)(h:pN x=.ok ds):ds.length<=aa:=by
 cases x with
 |str z=>cases h;unfold vc;rw[ah,vf];exact r.2
 |lst o xs=>cases h;obtain⟨a,vs,_,_,h3,h4⟩:=r;rw[kG,<-h4.len];exact h3
 |tup xs=>cases h;obtain⟨a,vs,_,_,h3,h4⟩:=r;rw[kG,<-h4.len];exact h3
 |_=>cases h
theorem Yw{G:Hp}(s:be G H)(r:aU K G x v)(e:pN x=.ok ds)(h:∀ok its,(∀H'',be G H''->ok H'')->lz K G ds its->ds.length<=aa->k ok its H):Dj K v H k:=by
 have hl:=Qm r e;cases x with
 |str z=>cases e;obtain⟨rfl,hz⟩:=r;exact⟨hz,h _ _ (fun _ _=>trivial) (MT z) hl⟩
 |lst o xs=>
  cases e;obtain⟨a,vs,rfl,h2,h3,h4⟩:=r;exact⟨false,vs,(Rd.seq h2).same' s,h _ _ (fun _ s'=>(Rd.seq h2).same' s') (yk h4) hl⟩
 |tup xs=>
  cases e;obtain⟨a,vs,rfl,h2,h3,h4⟩:=r;exact⟨true,vs,(tupS h2).same' s,h _ _ (fun _ s'=>(tupS h2).same' s') (yk h4) hl⟩
 |_=>cases e
theorem Yx{is:List D}(r:aE K F ds vs)(e:oz ds=.ok is)(h:∀its,(∀G,lz K G is its)->is.length<=aa->k (fun _=>True) its H):xV vs H k:=by
 have hs:=szl
 match ds,r,e with
 |[x],r,e=>
  obtain⟨v,r',rfl,rx,er⟩:=r;cases er;cases x with
  |int j=>
   cases rx;obtain⟨c,e2⟩:=iS e;cases e2;have c:=of_decide_eq_true c;refine⟨⟨c.1,by omega⟩,h _ (fun G=>?_) (by unfold jD;rw[ah,j4];exact c.2)⟩;have q:=Es (K:=K) (F:=G) 0 j.toNat;simpa using q
  |_=>cases e
 |[x,y],r,e=>
  obtain⟨v,r',rfl,rx,u,r2,rfl,ry,er⟩:=r;cases er;cases x with
  |int i=>
   cases rx;cases y with
   |int j=>
    cases ry;obtain⟨c,e2⟩:=iS e;cases e2;have c:=of_decide_eq_true c;exact⟨⟨c.1,c.2.1,c.2.2.1,c.2.2.2.1⟩,h _ (fun G=>Es i _) (by unfold jD;rw[ah,j4];exact c.2.2.2.2)⟩
   |_=>cases e
  |_=>cases e
 |[],_,e=>cases e
 |_::_::_::_,_,e=>
  unfold oz at e;split at e<;>first|(cases e)|(rename_i z;cases z)
theorem band'{a:Bool}(h:(a&&b)=true):a=true/\b=true:=by simpa using h
theorem Yy[Ex](h:PV K F H (kD .len [x]) Q)(s:be F H):PV K F' H (kD .len [x]) Q:=by
 cases x<;>first|exact PV.int h s|exact h.elim
theorem SV[Ex]{f:Bf}{O:L2.St}(n:WK K H σd O)(s:be F H)(hl:uz f as=true)(h:PV K F H ((dW Γp as σd).bind fun ds=>kD f ds) Q):wEs K Y Ex.E as O H fun vs H1=>AY K f vs H1 Q:=by
 unfold uz at hl;split at hl
 ·rename_i k;have h:PV K F H (((match σd[k]? with
   |some (some d)=>R.ok (bz d)
   |_=>.bad).bind fun x=>(R.ok []).bind fun xs=>.ok (x::xs)).bind fun ds=>kD .len ds) Q:=h
  show mh O k fun v=>AY K .len [v] H Q;unfold mh;cases q:σd[k]? with
  |none=>rw[q]at h;exact h.elim
  |some o=>
   cases o with
   |none=>rw[q]at h;exact h.elim
   |some d=>
    rw[q]at h;obtain⟨v,F',h1,h2,h3⟩:=n k d q;rw[h1];exact Lb h2 (show aE K F' [bz d] [v]from⟨v,[],rfl,(aU.bz d v).mpr h3,rfl⟩) (Yy (show PV K F H (kD .len [bz d]) Q from h) s)
 ·cases hl
theorem MW(hΓ:cQ K Γp Y)[Ex]{O:L2.St}(hE:∀QA:List V->Hp->Prop,yg K F H (dW Γp as σd) QA->wEs K Y Ex.E as O H QA)(h:PV K F H (pE Γp (.call g as) σd) Q):wE K Y Ex.E (.call g as) O H Q:=by
 have h:PV K F H (match Γp[g]? with
  |some (.fn m dds)=>(dW Γp as σd).bind fun ds=>m (aB ds++dds)
  |_=>.bad) Q:=h
 show(match Y[g]? with
  |some (.fn sp dvs)=>wEs K Y Ex.E as O H fun vs H1=>sp (vs++dvs) H1 Q Ex.E
  |_=>False)
 cases q:Γp[g]? with
 |none=>rw[q]at h;exact h.elim
 |some p=>
  obtain⟨g',e1,e2⟩:=hΓ.get g q;rw[q]at h;rw[e1];cases p<;>first|exact h.elim|skip
  ·rename_i m dds;cases g'<;>first|exact e2.elim|skip
   ·rename_i sp dvs;refine hE _ (yg.FY (show PV K F H ((dW Γp as σd).bind fun ds=>m (aB ds++dds)) Q from h) fun ds F1 H1 vs g1 r1 h1=>?_);exact e2.1 _ _ _ _ ⟨F1,aB ds++dds,g1.s,by rw[nE,fE,e2.2.1],aE.app ((aE.aB ds vs).mpr r1) (aE.mono (tW F1) dds dvs e2.2.2),h1⟩
mutual
theorem fK(hΓ:cQ K Γp Y)[Ex]:∀(e:CE) {σd:br}{O:L2.St}{F H:Hp}{Q:VK},ji K F H (cK e) σd O->be F H->c_ e=true->PV K F H (pE Γp e σd) Q->wE K Y Ex.E e O H Q
|.var i,σd,O,F,H,Q,env,s,lt,h=>by
 have h:PV K F H (match σd[i]? with
  |some (some d)=>.ok (bz d)
  |_=>.bad) Q:=h
 show mh O i fun v=>Q v H;unfold mh;cases q:σd[i]? with
 |none=>rw[q]at h;exact h.elim
 |some o=>
  cases o with
  |none=>rw[q]at h;exact h.elim
  |some d=>
   rw[q]at h;obtain⟨v,h1,h2⟩:=env.e i (aW.mpr rfl) d q;rw[h1];exact h.here s h2
|.con v,σd,O,F,H,Q,env,s,lt,h=>by
 have h:PV K F H (yd v) Q:=h;show Q v H;unfold yd at h;cases v<;>first|exact h.elim|exact h.flat s ⟨rfl,rfl⟩|exact h.flat s ⟨⟨rfl,of_decide_eq_true lt⟩,rfl⟩
|.glo g,σd,O,F,H,Q,env,s,lt,h=>by
 have h:PV K F H (match Γp[g]? with
  |some (.val d)=>.ok (bz d)
  |_=>.bad) Q:=h
 show(match Y[g]? with
  |some (.val v)=>Q v H
  |some (.tup a _)=>Q (.ref a) H
  |_=>False)
 cases q:Γp[g]? with
 |none=>rw[q]at h;exact h.elim
 |some p=>
  obtain⟨g',e1,e2⟩:=hΓ.get g q;rw[q]at h;rw[e1];cases p with
  |val d=>
   cases g' with
   |val v=>exact h.here s (aU.mono (tW F) d v e2)
   |tup a xs=>exact h.here s (aU.mono (tW F) d _ e2)
   |_=>exact e2.elim
  |_=>exact h.elim
|.bin op a b,σd,O,F,H,Q,env,s,lt,h=>by
 obtain⟨l1,l2⟩:=band' lt;refine fK hΓ a env.l s l1 (PV.bind (show PV K F H ((pE Γp a σd).bind fun x=>(pE Γp b σd).bind fun y=>dN op x y) Q from h) fun x F1 H1 v g1 r1 h1=>?_);refine fK hΓ b (env.r.mono g1) g1.s l2 (h1.bind fun y F2 H2 u g2 r2 h2=>?_);exact Yt g2.s (aU.mono g2.f x v r1) r2 h2
|.nset a,σd,O,F,H,Q,env,s,lt,h=>by
 refine fK hΓ a env s lt (PV.bind (show PV K F H ((pE Γp a σd).bind fun x=>zO x) Q from h) fun x F1 H1 v g1 r1 h1=>?_);cases x with
 |lst o ds=>
  have h1:PV K F1 H1 (match kC ds with
   |some ss=>.bw (decide (ss.length<4000)) (.ok (.int (m9 ss).length))
   |none=>.bad) Q:=h1
  split at h1
  ·rename_i ss e1;obtain⟨c,h1⟩:=PV.bw h1;obtain⟨b,us,rfl,k2,k3,k4⟩:=r1;have e2:=yi k4 e1;subst e2;exact⟨b,ss,rfl,Rd.same g1.s k2,of_decide_eq_true c,h1.flat g1.s ⟨rfl,rfl⟩⟩
  ·exact h1.elim
 |_=>exact h1.elim
|.neg a,σd,O,F,H,Q,env,s,lt,h=>by
 refine fK hΓ a env s lt (PV.bind (show PV K F H ((pE Γp a σd).bind fun x=>match x with|.int i=>.ok (.int (-i))|_=>.bad) Q from h) fun x F1 H1 v g1 r1 h1=>?_);cases x with
 |int i=>cases r1;exact h1.flat g1.s ⟨rfl,rfl⟩
 |_=>exact h1.elim
|.not a,σd,O,F,H,Q,env,s,lt,h=>by
 refine fK hΓ a env s lt (PV.bind (show PV K F H ((pE Γp a σd).bind fun x=>(iX x).bind fun b=>.ok (.bl (!b))) Q from h) fun x F1 H1 v g1 r1 h1=>?_);obtain⟨d,e⟩:=h1.isOk (bh.bind (v8 x) fun _=>bh.ok);obtain⟨b,e1,e2⟩:=cy e;rw[e1]at h1;exact La g1.s r1 e1 (h1.flat g1.s ⟨rfl,rfl⟩)
|.and a b,σd,O,F,H,Q,env,s,lt,h=>by
 obtain⟨l1,l2⟩:=band' lt;refine fK hΓ a env.l s l1 (PV.bind (show PV K F H ((pE Γp a σd).bind fun x=>match x with|.bl c=>if c=true then pE Γp b σd else .ok (.bl false)|_=>.bad) Q from h) fun x F1 H1 v g1 r1 h1=>?_);cases x with
 |bl c=>
  cases r1;cases c with
  |true=>exact fK hΓ b (env.r.mono g1) g1.s l2 h1
  |false=>exact h1.flat g1.s ⟨rfl,rfl⟩
 |_=>exact h1.elim
|.or a b,σd,O,F,H,Q,env,s,lt,h=>by
 obtain⟨l1,l2⟩:=band' lt;refine fK hΓ a env.l s l1 (PV.bind (show PV K F H ((pE Γp a σd).bind fun x=>match x with|.bl c=>if c=true then .ok (.bl true)else pE Γp b σd|_=>.bad) Q from h) fun x F1 H1 v g1 r1 h1=>?_);cases x with
 |bl c=>
  cases r1;cases c with
  |false=>exact fK hΓ b (env.r.mono g1) g1.s l2 h1
  |true=>exact h1.flat g1.s ⟨rfl,rfl⟩
 |_=>exact h1.elim
|.ite c a b,σd,O,F,H,Q,env,s,lt,h=>by
 obtain⟨l1,l2⟩:=band' lt;obtain⟨l2,l3⟩:=band' l2;refine w5 hΓ c env.l s l1 (PV.bindB (K:=K) (show PV K F H ((pT Γp c σd).bind fun k=>if k=true then pE Γp a σd else pE Γp b σd) Q from h) fun k F1 H1 g1 h1=>?_);cases k with
 |true=>exact fK hΓ a (env.r.l.mono g1) g1.s l2 h1
 |false=>exact fK hΓ b (env.r.r.mono g1) g1.s l3 h1
|.cmp op a b,σd,O,F,H,Q,env,s,lt,h=>by
 obtain⟨l1,l2⟩:=band' lt;refine fK hΓ a env.l s l1 (PV.bind (show PV K F H ((pE Γp a σd).bind fun x=>(pE Γp b σd).bind fun y=>bK op x y) Q from h) fun x F1 H1 v g1 r1 h1=>?_);refine fK hΓ b (env.r.mono g1) g1.s l2 (h1.bind fun y F2 H2 u g2 r2 h2=>?_);exact zQ g2.s (aU.mono g2.f x v r1) r2 h2
|.chain o1 o2 a b c,σd,O,F,H,Q,env,s,lt,h=>by
 obtain⟨l1,l2⟩:=band' lt;obtain⟨l2,l3⟩:=band' l2;refine fK hΓ a env.l s l1 (PV.bind (show PV K F H ((pE Γp a σd).bind fun x=>(pE Γp b σd).bind fun y=>(bK o1 x y).bind fun z=>match z with|.bl k=>if k=true then(pE Γp c σd).bind fun u=>bK o2 y u else .ok (.bl false)|_=>.bad) Q from h) fun x F1 H1 v g1 r1 h1=>?_);refine fK hΓ b (env.r.l.mono g1) g1.s l2 (h1.bind fun y F2 H2 u g2 r2 h2=>?_);refine zQ g2.s (aU.mono g2.f x v r1) r2 (h2.bind fun z F3 H3 w g3 r3 h3=>?_);cases z with
 |bl k=>
  cases r3;cases k with
  |true=>exact fK hΓ c (env.r.r.mono (g1.trans (g2.trans g3))) g3.s l3 (PV.bind (show PV K F3 H3 ((pE Γp c σd).bind fun u=>bK o2 y u) Q from h3) fun z F4 H4 w g4 r4 h4=>zQ g4.s (aU.mono (g3.f.trans g4.f) y u r2) r4 h4)
  |false=>exact h3.flat g3.s ⟨rfl,rfl⟩
 |_=>exact h3.elim
|.call g as,σd,O,F,H,Q,env,s,lt,h=>MW hΓ (fun _ h=>nF hΓ as env s lt h) h
|.blt f as,σd,O,F,H,Q,env,s,lt,h=>by
 by_cases hl:uz f as=true
 ·exact SV env.n s hl h
 have env:ji K F H (kE as) σd O:=by
  have e:ji K F H (if uz f as=true then[]else kE as) σd O:=env;rw[if_neg hl]at e;exact e
 refine nF hΓ as env s lt (yg.FY (show PV K F H ((dW Γp as σd).bind fun ds=>kD f ds) Q from h) fun ds F1 H1 vs g1 r1 h1=>Lb g1.s r1 h1)
|.mth m o as,σd,O,F,H,Q,env,s,lt,h=>by
 obtain⟨l1,l2⟩:=band' lt;refine fK hΓ o env.l s l1 (PV.bind (show PV K F H ((pE Γp o σd).bind fun x=>(dW Γp as σd).fy.bind fun ds=>jg m x ds) Q from h) fun x F1 H1 v g1 r1 h1=>?_);obtain⟨d,e⟩:=h1.isOk (bh.bind (bh.fy _) fun _=>sO _ _ _);obtain⟨ds,e1,e2⟩:=cy e;have e1':=Dw e1;rw[e1,<-e1']at h1;refine⟨MS g1.s r1 e2,nF hΓ as (env.r.mono g1) g1.s l2 (yg.FY h1 fun ds F2 H2 vs g2 r2 h2=>?_)⟩;exact SO g2.s (aU.mono g2.f x v r1) r2 h2
|.ix a b,σd,O,F,H,Q,env,s,lt,h=>by
 obtain⟨l1,l2⟩:=band' lt;refine fK hΓ a env.l s l1 (PV.bind (show PV K F H ((pE Γp a σd).bind fun x=>(pE Γp b σd).bind fun y=>u_ x y) Q from h) fun x F1 H1 v g1 r1 h1=>?_);refine fK hΓ b (env.r.mono g1) g1.s l2 (h1.bind fun y F2 H2 u g2 r2 h2=>?_);exact WM g2.s (aU.mono g2.f x v r1) r2 h2
|.sl a lo hi,σd,O,F,H,Q,env,s,lt,h=>by
 obtain⟨l1,l2⟩:=band' lt;obtain⟨l2,l3⟩:=band' l2;refine fK hΓ a env.l s l1 (PV.bind (show PV K F H ((pE Γp a σd).bind fun x=>(pO Γp lo σd).bind fun l=>(pO Γp hi σd).bind fun h=>JK x l h) Q from h) fun x F1 H1 v g1 r1 h1=>?_);refine SW hΓ lo (env.r.l.mono g1) g1.s l2 (h1.bindB fun l F2 H2 g2 h2=>?_);refine SW hΓ hi (env.r.r.mono (g1.trans g2)) g2.s l3 (h2.bindB fun l' F3 H3 g3 h3=>?_);exact ZZ g3.s (aU.mono (g2.f.trans g3.f) x v r1) h3
|.lst as,σd,O,F,H,Q,env,s,lt,h=>by
 have h:PV K F H ((dW Γp as σd).bind fun ds=>.bw (decide (ds.length<=aa)) (.ok (.lst true ds))) Q:=h;refine nF hΓ as env s lt ?_;cases e1:dW Γp as σd with
 |ex x=>rw[e1]at h;exact h
 |bad=>rw[e1]at h;exact h.elim
 |ok ds=>
 rw[e1]at h;obtain⟨c,h⟩:=PV.bw h;intro F1 H1 vs fp g fr r;have hl:vs.length<=aa:=by rw[r.len];exact of_decide_eq_true c
 exact⟨hl,fun p hp=>h.WO g fr r hl hp⟩
|.tup as,σd,O,F,H,Q,env,s,lt,h=>by
 have h:PV K F H ((dW Γp as σd).bind fun ds=>.bw (decide (ds.length<=aa)) (.ok (.tup ds))) Q:=h;refine nF hΓ as env s lt ?_;cases e1:dW Γp as σd with
 |ex x=>rw[e1]at h;exact h
 |bad=>rw[e1]at h;exact h.elim
 |ok ds=>
 rw[e1]at h;obtain⟨c,h⟩:=PV.bw h;intro F1 H1 vs fp g fr r;have hl:vs.length<=aa:=by rw[r.len];exact of_decide_eq_true c
 exact⟨hl,fun p hp=>h.Z0 g fr r hl hp⟩
|.comp nl fr elt tg src cond,σd,O,F,H,Q,env,s,lt,h=>by
 obtain⟨l1,l2⟩:=band' lt;obtain⟨l2,l3⟩:=band' l2;have h:PV K F H ((pI Γp src σd).bind fun items=>(dg (pG tg) (pC Γp cond) (pE Γp elt) items.2 (nl.map (fun _=>none)++fr.map (fun i=>σd.getD i none))).fy.bind fun ds=>.ok (.lst true ds)) Q:=h;refine WR hΓ src [] env.l s (fun _ h=>absurd h aR) l2 ?_;cases e1:pI Γp src σd with
 |ex x=>rw[e1]at h;exact h
 |bad=>rw[e1]at h;exact h.elim
 |ok items=>
 rw[e1]at h;have h:PV K F H ((dg (pG tg) (pC Γp cond) (pE Γp elt) items.2 (nl.map (fun _=>none)++fr.map (fun i=>σd.getD i none))).fy.bind fun ds=>.ok (.lst true ds)) Q:=h;obtain⟨d,e⟩:=h.isOk (bh.bind (bh.fy _) fun _=>bh.ok);obtain⟨ys,e3,e4⟩:=cy e;rw[e]at h;cases e4;replace e3:=Dw e3;intro F1 H1 ok its g1 hok hi hl;rw[MP]at hok hi;refine@GV K Γp Y ⟨E0⟩ E0 tg cond elt _ (fun a s' hb=>@ruC hΓ ⟨E0⟩ cond _ _ _ _ _ (a.env s') s' l3 hb) (fun a s' hv=>@fK hΓ ⟨E0⟩ elt _ _ _ _ _ (a.env s') s' l1 hv) ok H1 F1 items.2 its [] [] [] _ _ F1 H1 (MU (env.r.mono g1)) MV (bT.refl g1.s) hi hok (by simpa using hl) ⟨rfl,rfl⟩ .nil (fun zs ez F' H' vs fp' g' r' fr' p hp=>?_) ⟨ys,e3⟩;rw[e3]at ez;cases ez;have hz:vs.length<=aa:=by
  rw[r'.len,lu];have:∀(ds:List D) (σd:br) (ys:List D),dg (pG tg) (pC Γp cond) (pE Γp elt) ds σd=.ok ys->ys.length<=ds.length:=by
   intro ds;induction ds with
   |nil=>intro σd ys h;cases h;exact aM _
   |cons d ds ih=>
    intro σd ys h;obtain⟨σ2,i1,i2⟩:=cy h;obtain⟨b,i3,i4⟩:=cy i2;cases b with
    |false=>have:=ih σ2 ys i4;simp;omega
    |true=>
     obtain⟨y,i5,i6⟩:=cy (show((pE Γp elt σ2).bind fun y=>(dg (pG tg) (pC Γp cond) (pE Γp elt) ds σ2).bind fun ys=>.ok (y::ys))=.ok ys from i4);obtain⟨zs,i7,i8⟩:=cy i6;cases i8;have:=ih σ2 zs i7;simp;omega
  have:=this items.2 _ ys e3;omega
 refine h.WO (g1.trans g') ⟨fr'.nd,fun a ha=>be.none g1.h (fr'.nh a ha),fr'.nf⟩ r' hz hp
|.isx one gs a,σd,O,F,H,Q,env,s,lt,h=>by
 refine fK hΓ a env s lt (PV.bind (show PV K F H ((pE Γp a σd).bind fun x=>(ye Γp gs x).bind fun b=>.ok (.bl b)) Q from h) fun x F1 H1 v g1 r1 h1=>?_);obtain⟨d,e⟩:=h1.isOk (bh.bind (GW _ _ _) fun _=>bh.ok);obtain⟨b,e1,e2⟩:=cy e;rw[e1]at h1;exact SQ hΓ g1.s r1 e1 (h1.flat g1.s ⟨rfl,rfl⟩)
|.isv g a,σd,O,F,H,Q,env,s,lt,h=>by
 refine fK hΓ a env s lt (PV.bind (show PV K F H ((pE Γp a σd).bind fun x=>(yf Γp g x).bind fun b=>.ok (.bl b)) Q from h) fun x F1 H1 v g1 r1 h1=>?_);obtain⟨d,e⟩:=h1.isOk (bh.bind (GX _ _ _) fun _=>bh.ok);obtain⟨b,e1,e2⟩:=cy e;rw[e1]at h1;exact SR hΓ g1.s r1 e1 (h1.flat g1.s ⟨rfl,rfl⟩)
|.slp a lo hi k,σd,O,F,H,Q,env,s,lt,h=>by
 obtain⟨l1,l2⟩:=band' lt;obtain⟨l2,l3⟩:=band' l2;refine fK hΓ a env.l s l1 (PV.bind (show PV K F H ((pE Γp a σd).bind fun x=>(pO Γp lo σd).bind fun l=>(pO Γp hi σd).bind fun h=>Qd x l h k) Q from h) fun x F1 H1 v g1 r1 h1=>?_);refine SW hΓ lo (env.r.l.mono g1) g1.s l2 (h1.bindB fun l F2 H2 g2 h2=>?_);refine SW hΓ hi (env.r.r.mono (g1.trans g2)) g2.s l3 (h2.bindB fun l' F3 H3 g3 h3=>?_);exact Yu g3.s (aU.mono (g2.f.trans g3.f) x v r1) h3
|.att g a f,σd,O,F,H,Q,env,s,lt,h=>by
 exact fK hΓ a env s lt (PV.bind (show PV K F H ((pE Γp a σd).bind fun x=>Dt Γp g f x) Q from h) fun x F1 H1 v g1 r1 h1=>Yv hΓ g1.s r1 h1)
theorem w5(hΓ:cQ K Γp Y)[Ex]:∀(e:CE) {σd:br}{O:L2.St}{F H:Hp}{Q:Bool->Hp->Prop},ji K F H (cK e) σd O->be F H->c_ e=true->PB K F H (pT Γp e σd) Q->wT K Y Ex.E e O H Q
|.not a,σd,O,F,H,Q,env,s,lt,h=>by
 exact w5 hΓ a env s lt (PB.bindB (show PB K F H ((pT Γp a σd).bind fun b=>.ok (!b)) Q from h) fun b F1 H1 g1 h1=>h1 F1 H1 (bT.refl g1.s))
|.and a b,σd,O,F,H,Q,env,s,lt,h=>by
 obtain⟨l1,l2⟩:=band' lt;refine w5 hΓ a env.l s l1 (PB.bindB (show PB K F H ((pT Γp a σd).bind fun c=>if c=true then pT Γp b σd else .ok false) Q from h) fun c F1 H1 g1 h1=>?_);cases c with
 |true=>exact w5 hΓ b (env.r.mono g1) g1.s l2 h1
 |false=>exact h1 F1 H1 (bT.refl g1.s)
|.or a b,σd,O,F,H,Q,env,s,lt,h=>by
 obtain⟨l1,l2⟩:=band' lt;refine w5 hΓ a env.l s l1 (PB.bindB (show PB K F H ((pT Γp a σd).bind fun c=>if c=true then .ok true else pT Γp b σd) Q from h) fun c F1 H1 g1 h1=>?_);cases c with
 |false=>exact w5 hΓ b (env.r.mono g1) g1.s l2 h1
 |true=>exact h1 F1 H1 (bT.refl g1.s)
|.ite c a b,σd,O,F,H,Q,env,s,lt,h=>by
 obtain⟨l1,l2⟩:=band' lt;obtain⟨l2,l3⟩:=band' l2;refine w5 hΓ c env.l s l1 (PB.bindB (show PB K F H ((pT Γp c σd).bind fun k=>if k=true then pT Γp a σd else pT Γp b σd) Q from h) fun k F1 H1 g1 h1=>?_);cases k with
 |true=>exact w5 hΓ a (env.r.l.mono g1) g1.s l2 h1
 |false=>exact w5 hΓ b (env.r.r.mono g1) g1.s l3 h1
|.cmp op a b,σd,O,F,H,Q,env,s,lt,h=>by
 obtain⟨l1,l2⟩:=band' lt;refine fK hΓ a env.l s l1 (PB.mq (show PB K F H ((pE Γp a σd).bind fun x=>(pE Γp b σd).bind fun y=>(bK op x y).bind fun z=>match z with|.bl k=>.ok k|_=>.bad) Q from h) fun x F1 H1 v g1 r1 h1=>?_);refine fK hΓ b (env.r.mono g1) g1.s l2 (h1.mq fun y F2 H2 u g2 r2 h2=>?_);refine zQ g2.s (aU.mono g2.f x v r1) r2 (h2.mq fun z F3 H3 w g3 r3 h3=>?_);cases z with
 |bl k=>cases r3;exact h3 F3 H3 (bT.refl g3.s)
 |_=>exact h3.elim
|.chain o1 o2 a b c,σd,O,F,H,Q,env,s,lt,h=>by
 obtain⟨l1,l2⟩:=band' lt;obtain⟨l2,l3⟩:=band' l2;refine fK hΓ a env.l s l1 (PB.mq (show PB K F H ((pE Γp a σd).bind fun x=>(pE Γp b σd).bind fun y=>(bK o1 x y).bind fun z=>match z with|.bl k=>if k=true then(pE Γp c σd).bind fun u=>(bK o2 y u).bind fun z=>match z with|.bl k=>.ok k|_=>.bad else .ok false|_=>.bad) Q from h) fun x F1 H1 v g1 r1 h1=>?_);refine fK hΓ b (env.r.l.mono g1) g1.s l2 (h1.mq fun y F2 H2 u g2 r2 h2=>?_);refine zQ g2.s (aU.mono g2.f x v r1) r2 (h2.mq fun z F3 H3 w g3 r3 h3=>?_);cases z with
 |bl k=>
  cases r3;cases k with
  |true=>
   refine fK hΓ c (env.r.r.mono (g1.trans (g2.trans g3))) g3.s l3 (PB.mq (show PB K F3 H3 ((pE Γp c σd).bind fun u=>(bK o2 y u).bind fun z=>match z with|.bl k=>.ok k|_=>.bad) Q from h3) fun z F4 H4 w g4 r4 h4=>?_);refine zQ g4.s (aU.mono (g3.f.trans g4.f) y u r2) r4 (h4.mq fun z F5 H5 w g5 r5 h5=>?_);cases z with
   |bl k=>cases r5;exact h5 F5 H5 (bT.refl g5.s)
   |_=>exact h5.elim
  |false=>exact h3 F3 H3 (bT.refl g3.s)
 |_=>exact h3.elim
|.var i,σd,O,F,H,Q,env,s,lt,h=>by
 have h:PB K F H (match σd[i]? with
  |some (some d)=>iX d
  |_=>.bad) Q:=h
 show mh O i fun v=>j6 K v H fun b=>Q b H;unfold mh;cases q:σd[i]? with
 |none=>rw[q]at h;exact h.elim
 |some o=>
  cases o with
  |none=>rw[q]at h;exact h.elim
  |some d=>
   rw[q]at h;obtain⟨v,h1,h2⟩:=env.e i (aW.mpr rfl) d q;rw[h1];obtain⟨b,e⟩:=h.isOk (v8 d);rw[e]at h;exact La s h2 e (h F H (bT.refl s))
|.call g as,σd,O,F,H,Q,env,s,lt,h=>by
 rw[JH];have h':PB K F H ((pE Γp (.call g as) σd).bind iX) Q:=by
  revert h;show PB K F H (match Γp[g]? with
   |some (.fn m dds)=>((dW Γp as σd).bind fun ds=>m (aB ds++dds)).bind iX
   |_=>.bad) Q->PB K F H ((match Γp[g]? with
   |some (.fn m dds)=>(dW Γp as σd).bind fun ds=>m (aB ds++dds)
   |_=>.bad).bind iX) Q
  cases Γp[g]? with
  |none=>exact fun h=>h
  |some p=>cases p<;>exact fun h=>h
 have hv:=PB.SS (K:=K) h';exact MW hΓ (fun _ h=>nF hΓ as env s lt h) hv
|.blt f as,σd,O,F,H,Q,env,s,lt,h=>by
 have hv:=PB.SS (K:=K) (show PB K F H (((dW Γp as σd).bind fun ds=>kD f ds).bind iX) Q from h);by_cases hl:uz f as=true
 ·exact SV (Q:=fun x H2=>j6 K x H2 fun b=>Q b H2) env.n s hl hv
 have env:ji K F H (kE as) σd O:=by
  have e:ji K F H (if uz f as=true then[]else kE as) σd O:=env;rw[if_neg hl]at e;exact e
 exact nF hΓ as env s lt (yg.FY hv fun ds F1 H1 vs g1 r1 h1=>Lb g1.s r1 h1)
|.mth m o as,σd,O,F,H,Q,env,s,lt,h=>by
 obtain⟨l1,l2⟩:=band' lt;refine fK hΓ o env.l s l1 (PB.mq (show PB K F H ((pE Γp o σd).bind fun x=>(dW Γp as σd).fy.bind fun ds=>(jg m x ds).bind iX) Q from h) fun x F1 H1 v g1 r1 h1=>?_);obtain⟨d,e⟩:=h1.isOk (bh.bind (bh.fy _) fun _=>bh.bind (sO _ _ _) fun _=>v8 _);obtain⟨ds,e1,e2⟩:=cy e;have e1':=Dw e1;rw[e1,<-e1']at h1;obtain⟨d',e3,e4⟩:=cy e2;refine⟨MS g1.s r1 e3,nF hΓ as (env.r.mono g1) g1.s l2 (PB.WN h1 fun ds F2 H2 vs g2 r2 h2=>?_)⟩;exact SO g2.s (aU.mono g2.f x v r1) r2 (PB.SS h2)
|.con v,σd,O,F,H,Q,env,s,lt,h=>h.elim
|.glo g,σd,O,F,H,Q,env,s,lt,h=>h.elim
|.bin op a b,σd,O,F,H,Q,env,s,lt,h=>h.elim
|.nset a,σd,O,F,H,Q,env,s,lt,h=>h.elim
|.neg a,σd,O,F,H,Q,env,s,lt,h=>h.elim
|.ix a b,σd,O,F,H,Q,env,s,lt,h=>by
 obtain⟨l1,l2⟩:=band' lt;have hv:=PB.SS (K:=K) (show PB K F H (((pE Γp a σd).bind fun x=>(pE Γp b σd).bind fun y=>u_ x y).bind iX) Q from h);refine fK hΓ a env.l s l1 (PV.bind hv fun x F1 H1 v g1 r1 h1=>?_);refine fK hΓ b (env.r.mono g1) g1.s l2 (h1.bind fun y F2 H2 u g2 r2 h2=>?_);exact WM g2.s (aU.mono g2.f x v r1) r2 h2
|.sl a lo hi,σd,O,F,H,Q,env,s,lt,h=>h.elim
|.lst as,σd,O,F,H,Q,env,s,lt,h=>h.elim
|.tup as,σd,O,F,H,Q,env,s,lt,h=>h.elim
|.comp nl fr elt tg src cond,σd,O,F,H,Q,env,s,lt,h=>h.elim
|.att g a f,σd,O,F,H,Q,env,s,lt,h=>h.elim
|.slp a lo hi k,σd,O,F,H,Q,env,s,lt,h=>h.elim
|.isx one gs a,σd,O,F,H,Q,env,s,lt,h=>by
 refine fK hΓ a env s lt (PB.mq (show PB K F H ((pE Γp a σd).bind fun x=>ye Γp gs x) Q from h) fun x F1 H1 v g1 r1 h1=>?_);obtain⟨b,e1⟩:=h1.isOk (GW _ _ _);rw[e1]at h1;exact SQ hΓ g1.s r1 e1 (show j6 K (.bl b) H1 fun b=>Q b H1 from h1 F1 H1 (bT.refl g1.s))
|.isv g a,σd,O,F,H,Q,env,s,lt,h=>by
 refine fK hΓ a env s lt (PB.mq (show PB K F H ((pE Γp a σd).bind fun x=>yf Γp g x) Q from h) fun x F1 H1 v g1 r1 h1=>?_);obtain⟨b,e1⟩:=h1.isOk (GX _ _ _);rw[e1]at h1;exact SR hΓ g1.s r1 e1 (show j6 K (.bl b) H1 fun b=>Q b H1 from h1 F1 H1 (bT.refl g1.s))
theorem nF(hΓ:cQ K Γp Y)[Ex]:∀(as:iP) {σd:br}{O:L2.St}{F H:Hp}{Q:List V->Hp->Prop},ji K F H (kE as) σd O->be F H->j7 as=true->yg K F H (dW Γp as σd) Q->wEs K Y Ex.E as O H Q
|.nil,σd,O,F,H,Q,env,s,lt,h=>(show yg K F H (.ok []) Q from h) F H [] [] (bT.refl s) .nil ⟨rfl,rfl⟩
|.cons a r,σd,O,F,H,Q,env,s,lt,h=>by
 obtain⟨l1,l2⟩:=band' lt;have h:yg K F H ((pE Γp a σd).bind fun x=>(dW Γp r σd).bind fun xs=>.ok (x::xs)) Q:=h;refine fK hΓ a env.l s l1 ?_;cases e1:pE Γp a σd with
 |ex x=>rw[e1]at h;exact h
 |bad=>rw[e1]at h;exact h.elim
 |ok x=>
  cases e2:dW Γp r σd with
  |ex x=>
   rw[e1]at h;simp only[R.bind,e2]at h;intro F1 H1 v f1 g1 fr1 r1;refine nF hΓ r (env.r.mono g1) g1.s l2 ?_;rw[e2];exact jh.grow (K:=K) (x:=x) h g1
  |bad=>rw[e1]at h;simp only[R.bind,e2]at h;exact h.elim
  |ok xs=>
   rw[e1]at h;simp only[R.bind,e2]at h;intro F1 H1 v f1 g1 fr1 r1;refine nF hΓ r (env.r.mono g1) g1.s l2 ?_;rw[e2];intro F2 H2 vs f2 g2 fr2 r2;obtain⟨c1,c2⟩:=carry g2 fr1 r1;refine h F2 H2 (v::vs) (f1++f2) (g1.trans g2) (gu.app g1.h fr1 (fun a ha=>?_) c2 fr2) ⟨v,vs,f1,f2,rfl,rfl,c1,r2⟩;obtain⟨o,e,_⟩:=bV.ex x v f1 r1 a ha;exact⟨o,e⟩
theorem SW(hΓ:cQ K Γp Y)[Ex]:∀(c:CO) {σd:br}{O:L2.St}{F H:Hp}{Q:Option Int->Hp->Prop},ji K F H (GN c) σd O->be F H->GL c=true->PB K F H (pO Γp c σd) Q->wO K Y Ex.E c O H Q
|.none,σd,O,F,H,Q,env,s,lt,h=>(show PB K F H (.ok none) Q from h) F H (bT.refl s)
|.some a,σd,O,F,H,Q,env,s,lt,h=>by
 refine fK hΓ a env s lt (PB.mq (show PB K F H ((pE Γp a σd).bind fun x=>match x with|.int i=>.ok (some i)|_=>.bad) Q from h) fun x F1 H1 v g1 r1 h1=>?_);cases x with
 |int i=>cases r1;exact h1 F1 H1 (bT.refl g1.s)
 |_=>exact h1.elim
theorem ruC(hΓ:cQ K Γp Y)[Ex]:∀(c:CO) {σd:br}{O:L2.St}{F H:Hp}{Q:Bool->Hp->Prop},ji K F H (GN c) σd O->be F H->GL c=true->PB K F H (pC Γp c σd) Q->wC K Y Ex.E c O H Q
|.none,σd,O,F,H,Q,env,s,lt,h=>(show PB K F H (.ok true) Q from h) F H (bT.refl s)
|.some a,σd,O,F,H,Q,env,s,lt,h=>w5 hΓ a env s lt h
theorem WR(hΓ:cQ K Γp Y)[Ex]:∀(c:CI) (A:List Addr) {σd:br}{O:L2.St}{F H:Hp}{k:(Hp->Prop)->List Item->Hp->Prop},ji K F H (vd c) σd O->be F H->nM H A->ltI c=true->PI' K A F H (pI Γp c σd) k->wI K Y Ex.E c O H k
|.seq a,A,σd,O,F,H,k,env,s,hA,lt,h=>by
 have h:PI' K A F H ((pE Γp a σd).bind fun x=>(pN x).bind fun ds=>.ok (aV x,ds)) k:=h;refine fK hΓ a env s lt ?_;cases e1:pE Γp a σd with
 |ex x=>rw[e1]at h;exact h
 |bad=>rw[e1]at h;exact h.elim
 |ok x=>
 rw[e1]at h;have h:PI' K A F H ((pN x).bind fun ds=>.ok (aV x,ds)) k:=h;obtain⟨o,e⟩:=h.isOk (bh.bind (Qh x) fun _=>bh.ok);obtain⟨ds,e3,e4⟩:=cy (show((pN x).bind fun ds=>R.ok (aV x,ds))=.ok o from e);rw[e]at h;cases e4;intro F1 H1 v fp g fr r;obtain⟨F2,g2,r2⟩:=WL hA g fr r;exact Yw ((Ep _ _ _).trans g2.s) r2 e3 fun ok its h1 h2 h3=>h F2 H1 ok its g2 h1 h2 h3
|.range as,A,σd,O,F,H,k,env,s,hA,lt,h=>by
 have h:PI' K A F H ((dW Γp as σd).bind fun xs=>(oz xs).bind fun ds=>.ok (true,ds)) k:=h;refine nF hΓ as env s lt ?_;cases e1:dW Γp as σd with
 |ex x=>rw[e1]at h;exact h
 |bad=>rw[e1]at h;exact h.elim
 |ok xs=>
 rw[e1]at h;have h:PI' K A F H ((oz xs).bind fun ds=>.ok (true,ds)) k:=h;obtain⟨o,e⟩:=h.isOk (bh.bind (Qi xs) fun _=>bh.ok);obtain⟨ds,e3,e4⟩:=cy (show((oz xs).bind fun ds=>R.ok (true,ds))=.ok o from e);rw[e]at h;cases e4;intro F1 H1 vs fp g fr r;obtain⟨F2,g2,_,r2⟩:=zP g fr r;exact Yx r2 e3 fun its h1 h2=>h F2 H1 _ its g2 (fun _ _=>trivial) (h1 _) h2
|.zip as,A,σd,O,F,H,k,env,s,hA,lt,h=>by
 have h:PI' K A F H ((dW Γp as σd).bind fun xs=>v5 xs) k:=h;refine nF hΓ as env s lt ?_;cases e1:dW Γp as σd with
 |ex x=>rw[e1]at h;exact h
 |bad=>rw[e1]at h;exact h.elim
 |ok xs=>
 rw[e1]at h;have h:PI' K A F H (v5 xs) k:=h;unfold v5 at h;split at h
 ·rename_i o1 xs o2 ys;intro F1 H1 vs fp g fr r;obtain⟨F2,g2,_,r2⟩:=zP g fr r;obtain⟨v,r',rfl,⟨b,us,rfl,h2,h3,h4⟩,v',r'',rfl,⟨b',us',rfl,h2',h3',h4'⟩,hr⟩:=r2;cases hr;exact⟨b,b',us,us',rfl,rfl,Rd.same g2.s h2,Rd.same g2.s h2',h F2 H1 _ _ g2 (fun _ s'=>⟨Rd.same s' h2,Rd.same s' h2'⟩) (JN h4 h4') (d_ (GS _ _) (by rw[kG,<-h4.len];exact h3))⟩
 ·exact h.elim
|.enum a,A,σd,O,F,H,k,env,s,hA,lt,h=>by
 have h:PI' K A F H ((pE Γp a σd).bind fun x=>match x with|.lst _ xs=>.ok (aV x,fB 0 (aB xs))|_=>.bad) k:=h;refine fK hΓ a env s lt ?_;cases e1:pE Γp a σd with
 |ex x=>rw[e1]at h;exact h
 |bad=>rw[e1]at h;exact h.elim
 |ok x=>
 rw[e1]at h;intro F1 H1 v fp g fr r;obtain⟨F2,g2,r2⟩:=WL hA g fr r;cases x with
 |lst o xs=>
  have s2:=(Ep (aV (.lst o xs)) F2 A).trans g2.s;obtain⟨b,vs,rfl,h2,h3,h4⟩:=r2;exact⟨vs,Rd.same s2 h2,h F2 H1 _ _ g2 (fun _ s'=>Rd.same s' h2) (GU 0 h4) (by rw[Et,kG,<-h4.len];exact h3)⟩
 |_=>exact h.elim
end
end
noncomputable def nG:Nat->br->br
|_,[]=>[]
|0,o::r=>o.map bz::r
|n+1,o::r=>o::nG n r
noncomputable def nc:List Nat->br->br
|[],O=>O
|i::is,O=>nc is (nG i O)
noncomputable def iw(is:List Nat)(o:Bool)(O:br):br:=match o with
|true=>O
|false=>nc is O
noncomputable def Ld:CE->Option Nat
|.var i=>some i
|_=>none
noncomputable def lA(Y:List PG):iP->br->R (List D)
|.nil=>fun _=>.ok []
|.cons a r=>fun O=>match Ld a with
 |some i=>match O[i]? with
  |some (some d)=>(lA Y r (O.set i none)).bind fun ds=>.ok (d::ds)
  |_=>.bad
 |none=>(pE Y a O).bind fun d=>.bw (aV d) ((lA Y r O).bind fun ds=>.ok (d::ds))
noncomputable def R.alt{α β:Type}(x:R α)(f:α->R β)(y:R β):R β:=match x with
|.ok a=>f a
|_=>y
noncomputable def pM(Y:List PG)(e:CE)(O:br):R D:=match e with
|.var i=>match O[i]? with
 |some (some d)=>.ok d
 |_=>.bad
|.tup as=>(lA Y as O).alt (fun ds=>.bw (decide (ds.length<=aa)) (.ok (.tup ds))) (pE Y (.tup as) O)
|e=>pE Y e O
noncomputable def yl:Option (Option D)->Bool
|some (some (.lst true _))=>true
|_=>false
noncomputable def Dy(O:br):CE->Option Int
|.var j=>match O[j]? with
 |some (some (.int n))=>some n
 |_=>none
|.con (.int n)=>some n
|.neg (.con (.int n))=>some (-n)
|_=>none
noncomputable def sP(O:br):CE->Option (Nat×List Int)
|.var k=>some (k,[])
|.ix o i=>(sP O o).bind fun p=>(Dy O i).map fun n=>(p.1,p.2++[n])
|_=>none
noncomputable def eW:List Int->D->D->Option D
|[],x,d=>match x with
 |.lst true xs=>if xs.length<aa then some (.lst true (xs++[d]))else none
 |_=>none
|i::r,x,d=>match x with
 |.lst true xs=>(iF xs.length i).bind fun n=>(xs[n]?).bind fun y=>(eW r y d).map fun y'=>.lst true (xs.set n y')
 |.tup xs=>(iF xs.length i).bind fun n=>(xs[n]?).bind fun y=>(eW r y d).map fun y'=>.tup (xs.set n y')
 |_=>none
noncomputable def ju:List Int->D->Option D
|[],x=>some x
|i::r,x=>match x with
 |.lst true xs=>(iF xs.length i).bind fun n=>(xs[n]?).bind fun y=>ju r y
 |.tup xs=>(iF xs.length i).bind fun n=>(xs[n]?).bind fun y=>ju r y
 |_=>none
noncomputable def Dz(Y:List PG)(o a:CE)(O:br):Fl:=match sP O o with
|some p=>(pE Y a O).sN false fun d=>match O[p.1]? with
 |some (some x)=>if aV d=true then(R.opt (eW p.2 x d)).aT fun x'=>.nx (O.set p.1 (some x'))else .bad
 |_=>.bad
|none=>.bad
noncomputable def pX(Y:List PG)(e:CE)(O:br):Fl:=match e with
|.mth m (.var k) as=>match m with
 |.append=>match as with
  |.cons a .nil=>(pE Y a O).sN (yl O[k]?) fun d=>match O[k]? with
   |some (some (.lst true xs))=>if(decide (xs.length<aa)&&(aV d||!(cK a).contains k))=true then .nx ((iw (cK a) (aV d) O).set k (some (.lst true (xs++[d]))))else .bad
   |_=>.bad
  |_=>.bad
 |_=>(pE Y e O).aT fun _=>.nx O
|.mth m (.ix o i) as=>match m with
 |.append=>match as with
  |.cons a .nil=>Dz Y (.ix o i) a O
  |_=>.bad
 |_=>(pE Y e O).aT fun _=>.nx O
|e=>(pE Y e O).aT fun _=>.nx O
mutual
noncomputable def Le:D->Bool
|.lst _ _=>false
|.cst _=>false
|.exc _ _ _=>false
|.tup xs=>qC xs
|_=>true
noncomputable def qC:List D->Bool
|[]=>true
|d::r=>Le d&&qC r
end
noncomputable def putL(xs:List D)(d j:D):Option D:=match j with
|.int j=>(iF xs.length j).map fun n=>.lst true (xs.set n d)
|_=>none
noncomputable def putIn(x d j:D):Option D:=match x with
|.lst true xs=>putL xs d j
|_=>none
noncomputable def pA(Y:List PG)(g:CG)(e:CE)(O:br):Fl:=match g with
|.name i=>(pE Y e O).aT fun d=>.nx ((iw (cK e) (aV d) O).set i (some d))
|.tup gs=>(pE Y e O).aT fun d=>(pG (.tup gs) d (iw (cK e) (aV d) O)).aT .nx
|.sub o i=>match o with
 |.var k=>(pE Y e O).aT fun d=>(pE Y i (iw (cK e) (aV d) O)).sN false fun j=>match O[k]? with
  |some (some x)=>if(aV d||!(cK e).contains k)=true then(R.opt (putIn x d j)).aT fun x'=>.nx ((iw (cK e) (aV d) O).set k (some x'))else .bad
  |_=>.bad
 |_=>.bad
noncomputable def pB(Y:List PG):CB->br->R D
|.call g as=>fun O=>match Y[g]? with
 |some (.fn m dds)=>(dW Y as O).fy.bind fun ds=>m (aB ds++dds)
 |_=>.bad
|.ite c a b=>fun O=>(pT Y c O).fy.bind fun k=>if k=true then pB Y a O else pB Y b O
noncomputable def ltB:CB->Bool
|.call _ as=>j7 as
|.ite c a b=>c_ c&&(ltB a&&ltB b)
noncomputable def GY(i:Nat):Fl->Fl
|.nx O=>.nx (O.set i none)
|.rt d=>.rt d
|_=>.bad
noncomputable def B4(C:Addr)(fs:List (Str×Nat))(ds:List D):D:=.exc C (fs.map (·.1)) (fs.map fun p=>bz ((D.non::ds).getD p.2 .non))
noncomputable def DA(Y:List PG)(k:Nat)(is:List Int)(j:Nat)(a:CE)(O:br):Fl:=match O[k]? with
|some (some x)=>match ju is x with
 |some (.lst true ys)=>if j<O.length then(pE Y a (O.set j (some (.lst true ys)))).aT fun d=>if aV d=true then(R.opt (eW is x d)).aT fun x'=>.nx ((O.set k (some x')).set j none)else .bad else .bad
 |_=>.bad
|_=>.bad
noncomputable def v9(Y:List PG)(s t:CS)(O:br):Fl:=match s,t with
|.asg (.name j) o,.expr (.mth .append (.var i) (.cons a .nil))=>if i=j then(match sP O o with|some p=>DA Y p.1 p.2 j a O|none=>.bad)else .bad
|_,_=>.bad
noncomputable def F9(i:Nat)(a:Int)(O:br):D->Fl
|.int b=>.nx (O.set i (some (.int (a+b))))
|_=>.bad
mutual
noncomputable def pS(Y:List PG)(n:Nat):CS->br->Fl
|.expr e=>fun O=>pX Y e O
|.asg g e=>fun O=>pA Y g e O
|.aug i e=>fun O=>match O[i]? with
 |some (some (.int a))=>(pE Y e O).aT fun d=>F9 i a O d
 |_=>.bad
|.casg i e=>fun O=>(pE Y e O).aT fun d=>.nx ((iw (cK e) (aV d) O).set i (some d))
|.tasg g e=>fun O=>pA Y g e O
|.ret e=>fun O=>(pM Y e O).aT .rt
|.ifs c a b=>fun O=>(pT Y c O).aT fun k=>if k=true then cU Y n a O else cU Y n b O
|.whil c b=>fun O=>uK (pT Y c) (cU Y n b) n O
|.forr g src b=>fun O=>(pI Y src O).aT fun items=>forR (pG g) (cU Y n b) items.2 (iw (vd src) items.1 O)
|.brk=>fun O=>.bk O
|.cont=>fun O=>.ct O
|.never=>fun _=>.bad
|.rais g as=>fun O=>match Y[g]? with
 |some (.cls C fs k)=>(dW Y as O).aT fun ds=>if(decide (ds.length+1=k)&&decide (fs.map (·.1)).Nodup)=true then .ex (B4 C fs ds)else .bad
 |_=>.bad
|.tri i g b h=>fun O=>match Y[g]? with
 |some (.exb Cs)=>match pB Y b O with
  |.ok _=>.nx O
  |.ex (.exc C ks xs)=>if(decide (C∈Cs)&&qC xs)=true then GY i (cU (Y.map PG.hand) n h (O.set i (some (.exc C ks xs))))else .bad
  |_=>.bad
 |_=>.bad
noncomputable def cU(Y:List PG)(n:Nat):cC->br->Fl
|.nil=>fun O=>.nx O
|.cons s r=>fun O=>match pS Y n s O with
 |.nx σ'=>cU Y n r σ'
 |x=>x
|.two s t r=>fun O=>match v9 Y s t O with
 |.nx σ'=>cU Y n r σ'
 |x=>x
end
noncomputable def vg(N:List Str)(ds:List D):br:=ds.map some++aO (N.length-ds.length) none
noncomputable def Ba:Fl->R D
|.nx _=>.ok .non
|.rt d=>.ok d
|.ex x=>.ex x
|_=>.bad
noncomputable def GZ(Y:List PG)(n:Nat)(N:List Str)(c:cC)(ds:List D):R D:=Ba (cU Y n c (vg N ds))
mutual
noncomputable def Ew:CS->Bool
|.expr e=>c_ e
|.asg g e=>WS g&&c_ e
|.aug _ e=>c_ e
|.casg _ e=>c_ e
|.tasg g e=>WS g&&c_ e
|.ret e=>c_ e
|.ifs c a b=>c_ c&&(kX a&&kX b)
|.whil c b=>c_ c&&kX b
|.forr _ src b=>ltI src&&kX b
|.rais _ as=>j7 as
|.tri _ _ b h=>ltB b&&kX h
|_=>true
noncomputable def kX:cC->Bool
|.nil=>true
|.cons s r=>Ew s&&kX r
|.two s t r=>Ew s&&(Ew t&&kX r)
noncomputable def WS:CG->Bool
|.sub o i=>c_ o&&c_ i
|_=>true
end
structure bx (K:PySem.W.Frag) (F0 H0:Hp) (σd:br) (O:L2.St) (F H:Hp) (fp:Nat->List Addr):Prop where
 g:bT F0 H0 F H
 len:σd.length=O.length
 rep:∀(i:Nat) d,σd[i]?=some (some d)->∃v,O[i]?=some (some v)/\bV K H F d v (fp i)
 ex:∀i,nM H (fp i)
 nd:∀i,(fp i).Nodup
 nf:∀i a,a∈fp i->F a=none
 nh:∀i a,a∈fp i->H0 a=none
 dis:∀i j a,a∈fp i->a∈fp j->i=j
structure j8 (K:PySem.W.Frag) (H0 F H:Hp) (fp:Nat->List Addr) (d:D) (v:V) (f:List Addr):Prop where
 r:bV K H F d v f
 nd:f.Nodup
 nf:∀a∈f,F a=none
 nh:∀a∈f,H0 a=none
 dis:∀i a,a∈f->a∉fp i
variable{f:List Addr}
section
variable{K:PySem.W.Frag}{F0 H0 F H:Hp}{σd:br}{O:L2.St}{fp:Nat->List Addr}
theorem Bb:∀(n:Nat) (O:br) (i:Nat),(nG n O)[i]?=if i=n then(O[i]?).map (Option.map bz)else O[i]?
|n,[],i=>by cases n<;>simp[nG]
|0,o::r,0=>by simp[nG]
|0,o::r,i+1=>by simp[nG]
|n+1,o::r,0=>by simp[nG]
|n+1,o::r,i+1=>by
 simp only[nG,mH,Bb n r i];by_cases h:i=n
 ·simp[h]
 ·simp[h]
theorem G0:∀(n:Nat) (O:br),(nG n O).length=O.length
|n,[]=>by cases n<;>rfl
|0,o::r=>rfl
|n+1,o::r=>by simp[nG,G0 n r]
theorem Ey:∀(is:List Nat) (O:br),(nc is O).length=O.length
|[],O=>rfl
|i::is,O=>by rw[nc,Ey is,G0]
noncomputable def ownAt(fp:Nat->List Addr)(is:List Nat):List Addr:=is.flatMap fp
theorem fh{a:Addr}:a∈ownAt fp is↔∃i∈is,a∈fp i:=by simp[ownAt,List.mem_flatMap]
theorem bx.lists(I:bx K F0 H0 σd O F H fp)(is:List Nat):nM H (ownAt fp is):=fun a ha=>by
 obtain⟨i,_,h⟩:=fh.mp ha;exact I.ex i a h
theorem bx.env(I:bx K F0 H0 σd O F H fp)(is:List Nat):ji K (adopt F H (ownAt fp is)) H is σd O:=⟨fun i hi d e=>by
 obtain⟨v,h1,h2⟩:=I.rep i d e;exact⟨v,h1,bV.fix (dG I.g.s) d v _ (fun a ha=>jQ (fh.mpr ⟨i,hi,ha⟩)) h2⟩,fun k d e=>by
 obtain⟨v,h1,h2⟩:=I.rep k d e;exact⟨v,adopt F H (ownAt fp [k]),h1,eG I.g.s,bV.fix (dG I.g.s) d v _ (fun a ha=>jQ (fh.mpr ⟨k,aW.mpr rfl,ha⟩)) h2⟩⟩
theorem bx.SX(I:bx K F0 H0 σd O F H fp)(g:bT (adopt F H (ownAt fp is)) H F' H'){i:Nat}{a:Addr}(ha:a∈fp i)(hn:a∉ownAt fp is):F' a=none:=by
 obtain⟨o,e,k⟩:=I.ex i a ha;cases q:F' a with
 |none=>rfl
 |some u=>exact((g.n a u q (by rw[kq hn];exact I.nf i a ha)).own e k).elim
theorem bx.SY(I:bx K F0 H0 σd O F H fp)(g:bT (adopt F H (ownAt fp is)) H F' H'):bT F0 H0 F' H':=by
 refine⟨I.g.h.trans g.h,(I.g.f.trans (dG I.g.s)).trans g.f,g.s,fun b o h h'=>?_⟩;cases q:adopt F H (ownAt fp is) b with
 |none=>exact NT.back I.g.h (g.n b o h q)
 |some u=>
  by_cases z:b∈ownAt fp is
  ·obtain⟨i,_,hb⟩:=fh.mp z;exact .of (I.nh i b hb)
  ·rw[kq z]at q;exact I.g.n b u q h'
theorem bx.back(I:bx K F0 H0 σd O F H fp)(g:bT (adopt F H (ownAt fp is)) H F' H'):bx K F0 H0 σd O (minus F' (ownAt fp is)) H' fp where
 g:=by
  have g0:=I.SY g;refine⟨g0.h,fun b o h=>?_,(kr _ _).trans g0.s,fun b o h h'=>g0.n b o (kr _ _ b o h) h'⟩;have hn:b∉ownAt fp is:=fun z=>by
   obtain⟨i,_,hb⟩:=fh.mp z;have:=I.nf i b hb;rw[I.g.f b o h]at this;cases this
  rw[fC hn];exact g0.f b o h
 len:=I.len
 rep:=fun i d e=>by
  obtain⟨v,h1,h2⟩:=I.rep i d e;refine⟨v,h1,bV.mono ?_ d v _ (fun a ha=>?_) h2⟩
  ·intro b o h;have hn:b∉ownAt fp is:=fun z=>by
    obtain⟨i,_,hb⟩:=fh.mp z;have:=I.nf i b hb;rw[h]at this;cases this
   rw[fC hn];exact g.f b o (dG I.g.s b o h)
  ·obtain⟨o,e,_⟩:=I.ex i a ha;rw[e,g.h a o e]
 ex:=fun i=>(I.ex i).mono g.h
 nd:=I.nd
 nf:=fun i a ha=>by
  by_cases hn:a∈ownAt fp is
  ·exact A9 hn
  ·rw[fC hn];exact I.SX g ha hn
 nh:=I.nh
 dis:=I.dis
theorem MX:∀(is:List Nat) (O:br) (i:Nat),(nc is O)[i]?=some (some d)->∃d',O[i]?=some (some d')/\((i∈is/\d=bz d')\/(i∉is/\d=d')):=by
 have ff:∀d:D,L3.bz (L3.bz d)=L3.bz d:=Dv;intro is;induction is with
 |nil=>intro O i h;exact⟨d,h,.inr ⟨aR,rfl⟩⟩
 |cons j is ih=>
  intro O i h;obtain⟨d1,e1,e2⟩:=ih (nG j O) i h;rw[Bb]at e1;by_cases hj:i=j
  ·rw[if_pos hj]at e1;cases q:O[i]? with
   |none=>rw[q]at e1;cases e1
   |some o=>
    cases o with
    |none=>rw[q]at e1;cases e1
    |some d'=>
     rw[q]at e1;cases e1;refine⟨d',rfl,.inl ⟨by rw[hj];exact ao,?_⟩⟩;rcases e2 with⟨_,rfl⟩|⟨_,rfl⟩
     ·exact ff d'
     ·rfl
  ·rw[if_neg hj]at e1;refine⟨d1,e1,?_⟩;rcases e2 with⟨h1,h2⟩|⟨h1,h2⟩
   ·exact .inl ⟨ai _ h1,h2⟩
   ·exact .inr ⟨fun z=>by rcases aF.mp z with z|z;exact hj z;exact h1 z,h2⟩
theorem bx.WT(I:bx K F0 H0 σd O F H fp)(g:bT (adopt F H (ownAt fp is)) H F' H'):bx K F0 H0 (nc is σd) O F' H' (fun i=>if i∈is then[]else fp i) where
 g:=I.SY g
 len:=by rw[Ey];exact I.len
 rep:=fun i d e=>by
  obtain⟨d',e1,e2⟩:=MX is σd i e;rcases e2 with⟨h1,rfl⟩|⟨h1,rfl⟩
  ·obtain⟨v,q1,q2⟩:=(I.env is).e i h1 d' e1;exact⟨v,q1,by rw[if_pos h1];exact aU.Ar d' v (aU.mono g.f d' v q2)⟩
  ·obtain⟨v,q1,q2⟩:=I.rep i d e1;refine⟨v,q1,?_⟩;rw[if_neg h1];refine bV.mono ((dG I.g.s).trans g.f) d v _ (fun a ha=>?_) q2;obtain⟨o,e,_⟩:=I.ex i a ha;rw[e,g.h a o e]
 ex:=fun i=>by
  by_cases h:i∈is
  ·rw[if_pos h];exact fun a ha=>absurd ha aR
  ·rw[if_neg h];exact(I.ex i).mono g.h
 nd:=fun i=>by
  by_cases h:i∈is
  ·rw[if_pos h];exact gW
  ·rw[if_neg h];exact I.nd i
 nf:=fun i a ha=>by
  by_cases h:i∈is
  ·rw[if_pos h]at ha;exact absurd ha aR
  ·rw[if_neg h]at ha;refine I.SX g ha fun z=>?_;obtain⟨j,hj,hb⟩:=fh.mp z;have:=I.dis i j a ha hb;subst this;exact h hj
 nh:=fun i a ha=>by
  by_cases h:i∈is
  ·rw[if_pos h]at ha;exact absurd ha aR
  ·rw[if_neg h]at ha;exact I.nh i a ha
 dis:=fun i j a ha hb=>by
  by_cases h:i∈is
  ·rw[if_pos h]at ha;exact absurd ha aR
  ·by_cases h':j∈is
   ·rw[if_pos h']at hb;exact absurd hb aR
   ·rw[if_neg h]at ha;rw[if_neg h']at hb;exact I.dis i j a ha hb
theorem bx.told(I:bx K F0 H0 σd O F H fp)(g:bT (adopt F H (ownAt fp is)) H F' H')(fr:gu f H F')(r:bV K H' F' d v f) :
  ∃F1 fp1,bx K F0 H0 (iw is (aV d) σd) O F1 H' fp1/\j8 K H0 F1 H' fp1 d v f/\(aV d=true->fp1=fp)/\∀i,i∉is->fp1 i=fp i:=by
 have nn:∀i a,a∈f->a∉fp i:=fun i a ha hb=>by
  obtain⟨o,e,_⟩:=I.ex i a hb;rw[fr.nh a ha]at e;cases e
 cases ho:aV d with
 |true=>
  refine⟨_,fp,I.back g,⟨bV.less (kF g.s ((I.lists is).mono g.h)) d v f ho r,fr.nd,fun a ha=>?_,fun a ha=>be.none I.g.h (fr.nh a ha),nn⟩,fun _=>rfl,fun _ _=>rfl⟩;exact be.none (kr _ _) (fr.nf a ha)
 |false=>
  refine⟨_,_,I.WT g,⟨r,fr.nd,fr.nf,fun a ha=>be.none I.g.h (fr.nh a ha),fun i a ha hb=>?_⟩,(fun z=>nomatch z),fun i hi=>if_neg hi⟩;by_cases h:i∈is
  ·rw[if_pos h]at hb;exact absurd hb aR
  ·rw[if_neg h]at hb;exact nn i a ha hb
theorem bx.set(I:bx K F0 H0 σd O F H fp)(V:j8 K H0 F H fp d v f)(k:Nat):bx K F0 H0 (σd.set k (some d)) (O.set k (some v)) F H (fun i=>if i=k then f else fp i) where
 g:=I.g
 len:=by simp[I.len]
 rep:=fun i d' e=>by
  by_cases h:i=k
  ·subst h;rw[if_pos rfl];rw[fq]at e;by_cases hi:i<σd.length
   ·simp[hi]at e;subst e;exact⟨v,by rw[fq];simp[<-I.len,hi],V.r⟩
   ·simp[hi]at e
  ·rw[if_neg h];rw[cH (cY h)]at e;obtain⟨w,h1,h2⟩:=I.rep i d' e;exact⟨w,by rw[cH (cY h)];exact h1,h2⟩
 ex:=fun i=>by
  by_cases h:i=k
  ·rw[if_pos h];exact bV.ex d v f V.r
  ·rw[if_neg h];exact I.ex i
 nd:=fun i=>by
  by_cases h:i=k
  ·rw[if_pos h];exact V.nd
  ·rw[if_neg h];exact I.nd i
 nf:=fun i a ha=>by
  by_cases h:i=k
  ·rw[if_pos h]at ha;exact V.nf a ha
  ·rw[if_neg h]at ha;exact I.nf i a ha
 nh:=fun i a ha=>by
  by_cases h:i=k
  ·rw[if_pos h]at ha;exact V.nh a ha
  ·rw[if_neg h]at ha;exact I.nh i a ha
 dis:=fun i j a ha hb=>by
  by_cases h:i=k
  ·rw[if_pos h]at ha;by_cases h':j=k
   ·rw[h,h']
   ·rw[if_neg h']at hb;exact absurd hb (V.dis j a ha)
  ·rw[if_neg h]at ha;by_cases h':j=k
   ·rw[if_pos h']at hb;exact absurd ha (V.dis i a hb)
   ·rw[if_neg h']at hb;exact I.dis i j a ha hb
theorem bx.put{k:Nat}{a:Addr}{o:HO}(I:bx K F0 H0 σd O F H fp)(ha:a∈fp k)(hv:O[k]?=some (some v))(hr:bV K (upd H a o) F d v f)(nd:f.Nodup)(nf:∀b∈f,F b=none)(nh:∀b∈f,H0 b=none)(dis:∀i,i≠k->∀b∈f,b∉fp i) :
  bx K F0 H0 (σd.set k (some d)) O F (upd H a o) (fun i=>if i=k then f else fp i):=by
 have hF:=I.nf k a ha;have hH0:=I.nh k a ha;have hne:∀i,i≠k->∀b∈fp i,b≠a:=fun i hi b hb z=>by
  subst z;exact hi (I.dis i k b hb ha)
 refine⟨⟨fun b u q=>by rw[aQ (cP q hH0)];exact I.g.h b u q,I.g.f,fun b u q=>by rw[aQ (cP q hF)];exact I.g.s b u q,I.g.n⟩,by simp[I.len],fun i d' e=>?_,fun i=>?_,fun i=>?_,fun i b hb=>?_,fun i b hb=>?_,fun i j b hb hc=>?_⟩
 ·by_cases h:i=k
  ·subst h;rw[if_pos rfl];rw[fq]at e;by_cases hi:i<σd.length
   ·simp[hi]at e;subst e;exact⟨v,hv,hr⟩
   ·simp[hi]at e
  ·rw[if_neg h];rw[cH (cY h)]at e;obtain⟨w,h1,h2⟩:=I.rep i d' e;exact⟨w,h1,bV.mono (be.refl _) d' w _ (fun b hb=>aQ (hne i h b hb)) h2⟩
 ·by_cases h:i=k
  ·rw[if_pos h];exact bV.ex d v f hr
  ·rw[if_neg h];intro b hb;obtain⟨u,e,q⟩:=I.ex i b hb;exact⟨u,by rw[aQ (hne i h b hb)];exact e,q⟩
 ·by_cases h:i=k
  ·rw[if_pos h];exact nd
  ·rw[if_neg h];exact I.nd i
 ·by_cases h:i=k
  ·rw[if_pos h]at hb;exact nf b hb
  ·rw[if_neg h]at hb;exact I.nf i b hb
 ·by_cases h:i=k
  ·rw[if_pos h]at hb;exact nh b hb
  ·rw[if_neg h]at hb;exact I.nh i b hb
 ·by_cases h:i=k
  ·rw[if_pos h]at hb;by_cases h':j=k
   ·rw[h,h']
   ·rw[if_neg h']at hc;exact absurd hc (dis j h' b hb)
  ·rw[if_neg h]at hb;by_cases h':j=k
   ·rw[if_pos h']at hc;exact absurd hb (dis i h b hc)
   ·rw[if_neg h']at hc;exact I.dis i j b hb hc
theorem bx.rebase(I:bx K F0 H0 σd O F H fp):bx K F H0 σd O F H fp:=⟨⟨I.g.h,be.refl _,I.g.s,fun b o h h'=>by rw[h]at h';cases h'⟩,I.len,I.rep,I.ex,I.nd,I.nf,I.nh,I.dis⟩
theorem bx.G1(g0:bT F0 H0 F1 H1)(I:bx K F1 H0 σd O F H fp):bx K F0 H0 σd O F H fp:=⟨⟨I.g.h,g0.f.trans I.g.f,I.g.s,fun b o h h'=>by
 cases q:F1 b with
 |none=>exact I.g.n b o h q
 |some u=>exact g0.n b u q h'⟩,I.len,I.rep,I.ex,I.nd,I.nf,I.nh,I.dis⟩
end
def cW[Ex](K:PySem.W.Frag)(F0 H0:Hp)(fl:Fl)(X:Ends):Prop:=match fl with
|.nx σd=>∀O F H fp,bx K F0 H0 σd O F H fp->X.nx O H
|.bk σd=>∀O F H fp,bx K F0 H0 σd O F H fp->X.bk O H
|.ct σd=>∀O F H fp,bx K F0 H0 σd O F H fp->X.ct O H
|.rt d=>∀v F H f,bT F0 H0 F H->gu f H0 F->bV K H F d v f->X.rt v H
|.ex x=>jh K F0 H0 x
|.bad=>False
variable{xs:List D}
variable{o:Bool}
variable{e:CE}
variable{f0:List Addr}
section
variable{K:PySem.W.Frag}{Γp:List PG}{Y:List G}{F0 H0 F H:Hp}{σd:br}{O:L2.St}{fp:Nat->List Addr}{X:Ends}
theorem JQ(g0:bT F0 H0 F1 H1)(g:bT F1 H0 F H):bT F0 H0 F H:=⟨g.h,g0.f.trans g.f,g.s,fun b o h h'=>by
 cases q:F1 b with
 |none=>exact g.n b o h q
 |some u=>exact g0.n b u q h'⟩
theorem cW.rebase[Ex]{fl:Fl}(g0:bT F0 H0 F1 H1)(h:cW K F0 H0 fl X):cW K F1 H0 fl X:=by
 cases fl with
 |nx σd=>exact fun O F H fp I=>h O F H fp (I.G1 g0)
 |bk σd=>exact fun O F H fp I=>h O F H fp (I.G1 g0)
 |ct σd=>exact fun O F H fp I=>h O F H fp (I.G1 g0)
 |rt d=>exact fun v F H f g fr r=>h v F H f (JQ g0 g) fr r
 |ex x=>
  cases x with
  |exc C ks xs=>exact fun F' H' d vs g=>h F' H' d vs (JQ g0 g)
  |_=>exact h
 |bad=>exact h
theorem G2[Ex]{r:R α}{f:α->Fl}(h:cW K F0 H0 (r.aT f) X)(n:r.bh):∃a,r=.ok a/\cW K F0 H0 (f a) X:=by
 cases r with
 |ok a=>exact⟨a,rfl,h⟩
 |ex x=>exact absurd rfl (n x)
 |bad=>exact h.elim
theorem kN[Ex]{r:R α}{f:α->Fl}(h:cW K F0 H0 (r.aT f) X):(∃x,r=.ex x/\jh K F0 H0 x)\/∃a,r=.ok a/\cW K F0 H0 (f a) X:=by
 cases r with
 |ok a=>exact .inr ⟨a,rfl,h⟩
 |ex x=>exact .inl ⟨x,rfl,h⟩
 |bad=>exact h.elim
theorem JR[Ex]{r:R α}{f:α->Fl}(h:cW K F0 H0 (r.sN b f) X):(b=true/\∃x,r=.ex x/\jh K F0 H0 x)\/∃a,r=.ok a/\cW K F0 H0 (f a) X:=by
 cases r with
 |ok a=>exact .inr ⟨a,rfl,h⟩
 |ex x=>
  cases b with
  |true=>exact .inl ⟨rfl,x,rfl,h⟩
  |false=>exact h.elim
 |bad=>exact h.elim
theorem JS[Ex]{r:R α}{f:α->Fl}(h:cW K F0 H0 (r.sN false f) X):∃a,r=.ok a/\cW K F0 H0 (f a) X:=by
 rcases JR h with⟨z,_⟩|z
 ·cases z
 ·exact z
mutual
theorem G3:∀(g:CG) (d:D) (O:br),(pG g d O).bh
|.name i,d,O=>bh.ok
|.tup gs,d,O=>by
 cases d<;>first|exact bh.bad|skip
 exact bh.bw (JT gs _ O)
|.sub _ _,d,O=>bh.bad
theorem JT:∀(g:qB) (ds:List D) (O:br),(w4 g ds O).bh
|.nil,ds,O=>by cases ds<;>first|exact bh.ok|exact bh.bad
|.cons g r,ds,O=>by
 cases ds with
 |nil=>exact bh.bad
 |cons d dr=>exact bh.bind (G3 g d O) fun σ'=>JT r dr σ'
end
theorem MY(F H:Hp):adopt F H []=F:=by funext b;exact kq aR
theorem bx.grow(I:bx K F0 H0 σd O F H fp)(g:bT F H F1 H1):bx K F0 H0 σd O F1 H1 fp:=by
 have e:ownAt fp []=[]:=rfl;have q:=I.back (is:=[]) (F':=F1) (H':=H1) (by rw[e,MY];exact g);rw[e,Eo]at q;exact q
theorem j8.WU(r:aU K F d v):j8 K H0 F H fp (bz d) v []:=⟨aU.Ar d v r,gW,fun _ h=>absurd h aR,fun _ h=>absurd h aR,fun _ _ h=>absurd h aR⟩
mutual
theorem ruG':∀(g:CG) {d:D}{v:V}{σd aaC:br}{O:L2.St}{fp:Nat->List Addr}{Q:L2.St->Hp->Prop},bx K F0 H0 σd O F H fp->aU K F d v->pG g (bz d) σd=.ok aaC->(∀σ' fp',bx K F0 H0 aaC σ' F H fp'->Q σ' H)->wG K Y E g v O H Q
|.name i,d,v,σd,aaC,O,fp,Q,I,r,e,h=>by
 cases e;exact h _ _ (I.set (j8.WU r) i)
|.tup gs,d,v,σd,aaC,O,fp,Q,I,r,e,h=>by
 cases d with
 |tup ds=>
  obtain⟨b,vs,rfl,h2,h3,h4⟩:=r;obtain⟨c,e⟩:=iS (show R.bw (decide ((aB ds).length=gs.len)) (w4 gs (aB ds) σd)=.ok aaC from e);have c:=of_decide_eq_true c;rw[kG]at c;exact⟨true,vs,(tupS h2).same' I.g.s,rfl,by rw[h4.len];exact c,ruGs' gs I h4 e h⟩
 |_=>cases e
|.sub _ _,d,v,σd,aaC,O,fp,Q,I,r,e,h=>by cases e
theorem ruGs':∀(g:qB) {ds:List D}{vs:List V}{σd aaC:br}{O:L2.St}{fp:Nat->List Addr}{Q:L2.St->Hp->Prop},bx K F0 H0 σd O F H fp->aE K F ds vs->w4 g (aB ds) σd=.ok aaC->(∀σ' fp',bx K F0 H0 aaC σ' F H fp'->Q σ' H)->JB K Y E g vs O H Q
|.nil,ds,vs,σd,aaC,O,fp,Q,I,r,e,h=>by
 cases ds with
 |nil=>cases r;cases e;exact h O fp I
 |cons d dr=>cases e
|.cons g gr,ds,vs,σd,aaC,O,fp,Q,I,r,e,h=>by
 cases ds with
 |nil=>cases e
 |cons d dr=>
  obtain⟨v,vr,rfl,r1,r2⟩:=r;obtain⟨σ2,e1,e2⟩:=cy (show((pG g (bz d) σd).bind fun σ'=>w4 gr (aB dr) σ')=.ok aaC from e);exact ruG' g I r1 e1 fun σ' fp' I'=>ruGs' gr I' r2 e2 h
end
mutual
theorem WV:∀(g:CG) {d:D}{v:V}{σd aaC:br}{O:L2.St}{fp:Nat->List Addr}{f:List Addr}{Q:L2.St->Hp->Prop},bx K F0 H0 σd O F H fp->j8 K H0 F H fp d v f->pG g d σd=.ok aaC->
 (∀σ' fp',bx K F0 H0 aaC σ' F H fp'->(∀i a,a∈fp' i->a∈f\/a∈fp i)->Q σ' H)->wG K Y E g v O H Q
|.name i,d,v,σd,aaC,O,fp,f,Q,I,V,e,h=>by
 cases e;refine h _ _ (I.set V i) fun j a ha=>?_;by_cases c:j=i
 ·rw[if_pos c]at ha;exact .inl ha
 ·rw[if_neg c]at ha;exact .inr ha
|.tup gs,d,v,σd,aaC,O,fp,f,Q,I,V,e,h=>by
 cases d with
 |tup ds=>
  obtain⟨b,vs,rfl,h2,h3,h4⟩:=V.r;obtain⟨c,e⟩:=iS e;exact⟨true,vs,(tupS h2).same' I.g.s,rfl,by rw[h4.len];exact of_decide_eq_true c,S0 gs I h4 V.nd V.nf V.nh V.dis e h⟩
 |_=>cases e
|.sub _ _,d,v,σd,aaC,O,fp,f,Q,I,V,e,h=>by cases e
theorem S0:∀(g:qB) {ds:List D}{vs:List V}{σd aaC:br}{O:L2.St}{fp:Nat->List Addr}{f:List Addr}{Q:L2.St->Hp->Prop},bx K F0 H0 σd O F H fp->bg K H F ds vs f->f.Nodup->(∀a∈f,F a=none)->(∀a∈f,H0 a=none)->
 (∀i a,a∈f->a∉fp i)->w4 g ds σd=.ok aaC->(∀σ' fp',bx K F0 H0 aaC σ' F H fp'->(∀i a,a∈fp' i->a∈f\/a∈fp i)->Q σ' H)->JB K Y E g vs O H Q
|.nil,ds,vs,σd,aaC,O,fp,f,Q,I,r,nd,nf,nh,dis,e,h=>by
 cases ds with
 |nil=>
  obtain⟨rfl,_⟩:=r;cases e;exact h O fp I fun _ _ z=>.inr z
 |cons d dr=>cases e
|.cons g gr,ds,vs,σd,aaC,O,fp,f,Q,I,r,nd,nf,nh,dis,e,h=>by
 cases ds with
 |nil=>cases e
 |cons d dr=>
  obtain⟨v,vr,f1,f2,rfl,rfl,r1,r2⟩:=r;obtain⟨σ2,e1,e2⟩:=cy e;obtain⟨n1,n2,n3⟩:=bU.mp nd;refine WV g I ⟨r1,n1,fun a ha=>nf a (aN _ ha),fun a ha=>nh a (aN _ ha),fun i a ha=>dis i a (aN _ ha)⟩ e1 fun σ' fp' I' sub=>?_;refine S0 gr I' r2 n2 (fun a ha=>nf a (az _ ha)) (fun a ha=>nh a (az _ ha)) (fun i a ha z=>?_) e2 fun σ3 fp3 I3 sub3=>h σ3 fp3 I3 fun i a ha=>?_
  ·rcases sub i a z with q|q
   ·exact n3 a q a ha rfl
   ·exact dis i a (az _ ha) q
  ·rcases sub3 i a ha with q|q
   ·exact .inl (az _ q)
   ·rcases sub i a q with q|q
    ·exact .inl (aN _ q)
    ·exact .inr q
end
theorem DB[Ex](hΓ:cQ K Γp Y)(I:bx K F0 H0 σd O F H fp)(lt:c_ e=true)(he:pE Γp e σd=.ok d)
  (h:∀v F1 H1 fp1 f,bx K F0 H0 (iw (cK e) (aV d) σd) O F1 H1 fp1->j8 K H0 F1 H1 fp1 d v f->Q v H1):wE K Y Ex.E e O H Q:=by
 refine fK hΓ e (I.env (cK e)) (eG I.g.s) lt ?_;rw[he];intro F' H' v f g fr r;obtain⟨F1,fp1,I1,V1,_,_⟩:=I.told g fr r;exact h v F1 H' fp1 f I1 V1
theorem runD'[Ex](hΓ:cQ K Γp Y)(I:bx K F0 H0 σd O F H fp)(lt:c_ e=true)(he:pE Γp e σd=.ok d)
  (h:∀v F1 H1,bx K F0 H0 σd O F1 H1 fp->be H H1->(aV d=true->∃f,j8 K H0 F1 H1 fp d v f)->Q v H1):wE K Y Ex.E e O H Q:=by
 refine fK hΓ e (I.env (cK e)) (eG I.g.s) lt ?_;rw[he];intro F' H' v f g fr r;refine h v _ H' (I.back g) g.h fun ho=>?_;refine⟨f,bV.less (kF g.s ((I.lists _).mono g.h)) d v f ho r,fr.nd,fun a ha=>be.none (kr _ _) (fr.nf a ha),fun a ha=>be.none I.g.h (fr.nh a ha),fun i a ha hb=>?_⟩;obtain⟨o,e,_⟩:=I.ex i a hb;rw[fr.nh a ha]at e;cases e
theorem j8.back(I:bx K F0 H0 σd O F H fp)(V:j8 K H0 F H fp d v f)(g:bT (adopt F H (ownAt fp is)) H F' H'):j8 K H0 (minus F' (ownAt fp is)) H' fp d v f:=by
 have hn:∀a∈f,a∉ownAt fp is:=fun a ha z=>by
  obtain⟨i,_,hb⟩:=fh.mp z;exact V.dis i a ha hb
 have hx:=bV.ex d v f V.r;refine⟨bV.mono ?_ d v f (fun a ha=>?_) V.r,V.nd,fun a ha=>?_,V.nh,V.dis⟩
 ·intro b o h;have hb:b∉ownAt fp is:=fun z=>by
   obtain⟨i,_,hb⟩:=fh.mp z;have:=I.nf i b hb;rw[h]at this;cases this
  rw[fC hb];exact g.f b o (dG I.g.s b o h)
 ·obtain⟨o,e,_⟩:=hx a ha;rw[e,g.h a o e]
 ·rw[fC (hn a ha)];obtain⟨o,e,k⟩:=hx a ha;cases q:F' a with
  |none=>rfl
  |some u=>exact((g.n a u q (by rw[kq (hn a ha)];exact V.nf a ha)).own e k).elim
structure ng (K:PySem.W.Frag) (H0 F H:Hp) (fp:Nat->List Addr) (ds:List D) (vs:List V) (f:List Addr):Prop where
 r:bg K H F ds vs f
 nd:f.Nodup
 nf:∀a∈f,F a=none
 nh:∀a∈f,H0 a=none
 dis:∀i a,a∈f->a∉fp i
theorem ng.back(I:bx K F0 H0 σd O F H fp){d:List D}{v:List V}(V:ng K H0 F H fp d v f)(g:bT (adopt F H (ownAt fp is)) H F' H'):ng K H0 (minus F' (ownAt fp is)) H' fp d v f:=by
 have hn:∀a∈f,a∉ownAt fp is:=fun a ha z=>by
  obtain⟨i,_,hb⟩:=fh.mp z;exact V.dis i a ha hb
 have hx:=bg.ex d v f V.r;refine⟨bg.mono ?_ d v f (fun a ha=>?_) V.r,V.nd,fun a ha=>?_,V.nh,V.dis⟩
 ·intro b o h;have hb:b∉ownAt fp is:=fun z=>by
   obtain⟨i,_,hb⟩:=fh.mp z;have:=I.nf i b hb;rw[h]at this;cases this
  rw[fC hb];exact g.f b o (dG I.g.s b o h)
 ·obtain⟨o,e,_⟩:=hx a ha;rw[e,g.h a o e]
 ·rw[fC (hn a ha)];obtain⟨o,e,k⟩:=hx a ha;cases q:F' a with
  |none=>rfl
  |some u=>exact((g.n a u q (by rw[kq (hn a ha)];exact V.nf a ha)).own e k).elim
theorem ng.snoc{f':List Addr}(V:ng K H0 F H fp ds vs f)(W:j8 K H0 F H fp d v f')(hd:∀a∈f,a∉f'):ng K H0 F H fp (ds++[d]) (vs++[v]) (f++f'):=by
 refine⟨V.r.app ⟨v,[],f',[],rfl,by simp,W.r,rfl,rfl⟩,bU.mpr ⟨V.nd,W.nd,fun a ha b hb z=>hd a ha (by rw[z];exact hb)⟩,fun a ha=>?_,fun a ha=>?_,fun i a ha=>?_⟩
 ·rcases aY.mp ha with q|q
  ·exact V.nf a q
  ·exact W.nf a q
 ·rcases aY.mp ha with q|q
  ·exact V.nh a q
  ·exact W.nh a q
 ·rcases aY.mp ha with q|q
  ·exact V.dis i a q
  ·exact W.dis i a q
theorem runN[Ex](hΓ:cQ K Γp Y)(I:bx K F0 H0 σd O F H fp)(V0:ng K H0 F H fp ds vs f0)(lt:c_ e=true)(he:pE Γp e σd=.ok d)(ho:aV d=true)
  (h:∀v F1 H1 f,bx K F0 H0 σd O F1 H1 fp->ng K H0 F1 H1 fp (ds++[d]) (vs++[v]) f->Q v H1):wE K Y Ex.E e O H Q:=by
 refine fK hΓ e (I.env (cK e)) (eG I.g.s) lt ?_;rw[he];intro F' H' v f g fr r;refine h v _ H' _ (I.back g) ((V0.back I g).snoc (f':=f) ⟨bV.less (kF g.s ((I.lists _).mono g.h)) d v f ho r,fr.nd,fun a ha=>be.none (kr _ _) (fr.nf a ha),fun a ha=>be.none I.g.h (fr.nh a ha),fun i a ha hb=>?_⟩ fun a ha hb=>?_)
 ·obtain⟨o,e,_⟩:=I.ex i a hb;rw[fr.nh a ha]at e;cases e
 ·obtain⟨o,e,_⟩:=bg.ex ds vs f0 V0.r a ha;rw[fr.nh a hb]at e;cases e
theorem bx.Yz(I:bx K F0 H0 σd O F H fp)(k:Nat):bx K F0 H0 (σd.set k none) O F H (fun i=>if i=k then[]else fp i):=by
 have sub:∀i a,a∈(if i=k then[]else fp i)->a∈fp i:=fun i a ha=>by
  by_cases c:i=k
  ·rw[if_pos c]at ha;cases ha
  ·rw[if_neg c]at ha;exact ha
 refine⟨I.g,by simp[I.len],fun i d e=>?_,fun i a ha=>I.ex i a (sub i a ha),fun i=>?_,fun i a ha=>I.nf i a (sub i a ha),fun i a ha=>I.nh i a (sub i a ha),fun i j a ha hb=>I.dis i j a (sub i a ha) (sub j a hb)⟩
 ·by_cases c:i=k
  ·subst c;rw[fq]at e;by_cases hi:i<σd.length
   ·simp[hi]at e
   ·simp[hi]at e
  ·rw[cH (cY c)]at e;rw[if_neg c];exact I.rep i d e
 ·by_cases c:i=k
  ·rw[if_pos c];exact gW
  ·rw[if_neg c];exact I.nd i
theorem Z1[Ex](hΓ:cQ K Γp Y){d0:D}{v0:V}(I:bx K F0 H0 σd O F H fp)(V0:j8 K H0 F H fp d0 v0 f0)(lt:c_ e=true)(he:pE Γp e σd=.ok d)
  (h:∀v F1 H1,bx K F0 H0 σd O F1 H1 fp->j8 K H0 F1 H1 fp d0 v0 f0->(∀{x:D},d=x->aV x=true->aU K H1 x v)->Q v H1):wE K Y Ex.E e O H Q:=by
 refine fK hΓ e (I.env (cK e)) (eG I.g.s) lt ?_;rw[he];intro F' H' v f g fr r;refine h v _ H' (I.back g) (V0.back I g) fun z ho=>?_;subst z;obtain⟨F2,g2,s2,rf⟩:=Qf g fr r;exact aU.mono g2.s d v rf
theorem Qn[Ex](hΓ:cQ K Γp Y){Q:Bool->Hp->Prop}(I:bx K F0 H0 σd O F H fp)(lt:c_ e=true)(he:pT Γp e σd=.ok b)
  (h:∀F1 H1,bx K F0 H0 σd O F1 H1 fp->Q b H1):wT K Y Ex.E e O H Q:=by
 refine w5 hΓ e (I.env (cK e)) (eG I.g.s) lt ?_;rw[he];exact fun F' H' g=>h _ H' (I.back g)
theorem bx.own(I:bx K F0 H0 σd O F H fp)(is:List Nat):bT F0 H0 (adopt F H (ownAt fp is)) H:=rG I.g fun a ha=>by
 obtain⟨i,_,hi⟩:=fh.mp ha;exact I.nh i a hi
theorem ym[Ex](hΓ:cQ K Γp Y)(I:bx K F0 H0 σd O F H fp)(lt:c_ e=true)(he:pE Γp e σd=.ex x)(h:jh K F0 H0 x):wE K Y Ex.E e O H Q:=by
 refine fK hΓ e (I.env (cK e)) (eG I.g.s) lt ?_;rw[he];exact jh.grow (K:=K) (x:=x) h (I.own (cK e))
theorem S1[Ex](hΓ:cQ K Γp Y){Q:Bool->Hp->Prop}(I:bx K F0 H0 σd O F H fp)(lt:c_ e=true)(he:pT Γp e σd=.ex x)(h:jh K F0 H0 x):wT K Y Ex.E e O H Q:=by
 refine w5 hΓ e (I.env (cK e)) (eG I.g.s) lt ?_;rw[he];exact jh.grow (K:=K) (x:=x) h (I.own (cK e))
theorem YA[Ex](hΓ:cQ K Γp Y){c:CI}(I:bx K F0 H0 σd O F H fp)(lt:ltI c=true)(he:pI Γp c σd=.ex x)(h:jh K F0 H0 x):wI K Y Ex.E c O H k:=by
 refine WR hΓ c (ownAt fp (vd c)) (I.env (vd c)) (eG I.g.s) (I.lists _) lt ?_;rw[he];exact jh.grow (K:=K) (x:=x) h (I.own (vd c))
theorem YB[Ex](hΓ:cQ K Γp Y){c:iP}{Q:List V->Hp->Prop}(I:bx K F0 H0 σd O F H fp)(lt:j7 c=true)(he:dW Γp c σd=.ex x)(h:jh K F0 H0 x):wEs K Y Ex.E c O H Q:=by
 refine nF hΓ c (I.env (kE c)) (eG I.g.s) lt ?_;rw[he];exact jh.grow (K:=K) (x:=x) h (I.own (kE c))
theorem JU{O:br}{k:Nat}(h:(o||!is.contains k)=true):(iw is o O)[k]?=O[k]?:=by
 cases o with
 |true=>rfl
 |false=>
  have hk:k∉is:=by simpa using h
  show(nc is O)[k]?=_;clear h;induction is generalizing O with
  |nil=>rfl
  |cons i is ih=>
   rw[nc,ih (fun z=>hk (ai _ z)),Bb,if_neg (fun z=>hk (by rw[z];exact ao))]
theorem bx.lst{k:Nat}(I:bx K F0 H0 σd O F H fp)(e:σd[k]?=some (some (.lst true xs))):∃a vs fs,O[k]?=some (some (.ref a))/\H a=some (.lst vs)/\vs.length<=aa/\bg K H F xs vs fs/\fp k=a::fs:=by
 obtain⟨v,h1,h2⟩:=I.rep k _ e;unfold bV at h2;rw[if_pos rfl]at h2;obtain⟨a,vs,fs,rfl,q⟩:=h2;exact⟨a,vs,fs,h1,q⟩
theorem slot_of{i:Nat}{k:V->Prop}(h:O[i]?=some (some v))(q:k v):mh O i k:=by
 unfold mh;rw[h];exact q
theorem bg.set:∀{ds:List D}{vs:List V}{fs f:List Addr} (n:Nat) {d:D}{v:V},bg K H F ds vs fs->bV K H F d v f->(fs++f).Nodup->∃fs',bg K H F (ds.set n d) (vs.set n v) fs'/\fs'.Nodup/\∀b∈fs',b∈fs\/b∈f
|[],_,_,_,n,_,_,h,_,nd=>by
 obtain⟨rfl,rfl⟩:=h;exact⟨[],⟨rfl,rfl⟩,gW,fun b hb=>absurd hb aR⟩
|e::ds,_,_,f,0,d,v,h,hd,nd=>by
 obtain⟨w,r,f1,f2,rfl,rfl,h3,h4⟩:=h;refine⟨f++f2,⟨v,r,f,f2,rfl,rfl,hd,h4⟩,?_,?_⟩
 ·simp only[a_,bU,aY]at nd ⊢;obtain⟨n1,⟨n2,n3,n4⟩,n5⟩:=nd;exact⟨n3,n2,fun a ha b hb z=>n4 b hb a ha z.symm⟩
 ·intro b hb;rcases aY.mp hb with hb|hb
  ·exact .inr hb
  ·exact .inl (az _ hb)
|e::ds,_,_,f,n+1,d,v,h,hd,nd=>by
 obtain⟨w,r,f1,f2,rfl,rfl,h3,h4⟩:=h;have nd':(f2++f).Nodup/\f1.Nodup/\∀a∈f1,∀b,(b∈f2\/b∈f)->a≠b:=by
  rw[a_]at nd;obtain⟨n1,n2,n3⟩:=bU.mp nd;exact⟨n2,n1,fun a ha b hb=>n3 a ha b (aY.mpr hb)⟩
 obtain⟨fs',q1,q2,q3⟩:=bg.set n h4 hd nd'.1;refine⟨f1++fs',⟨w,_,f1,fs',rfl,rfl,h3,q1⟩,bU.mpr ⟨nd'.2.1,q2,fun a ha b hb=>nd'.2.2 a ha b (q3 b hb)⟩,?_⟩;intro b hb;rcases aY.mp hb with hb|hb
 ·exact .inl (aN _ hb)
 ·rcases q3 b hb with z|z
  ·exact .inl (az _ z)
  ·exact .inr z
theorem bx.MZ{k:Nat}{xs xs':List D}{a:Addr}{vs vs':List V}{fs fs' f:List Addr}{d:D}{v:V}(I:bx K F0 H0 σd O F H fp)(V:j8 K H0 F H fp d v f)(hσ:O[k]?=some (some (.ref a)))(hk:fp k=a::fs)(hl:vs'.length<=aa)
  (hr:∀{H':Hp},(∀b∈fs,H' b=H b)->(∀b∈f,H' b=H b)->bg K H' F xs' vs' fs') (nd:fs'.Nodup) (sub:∀b∈fs',b∈fs\/b∈f) :
  ∃fp',bx K F0 H0 (σd.set k (some (.lst true xs'))) O F (upd H a (.lst vs')) fp':=by
 have hak:a∈fp k:=by rw[hk];exact ao
 have nda:a∉fs/\fs.Nodup:=by have:=I.nd k;rw[hk]at this;exact cZ.mp this
 have haf:a∉f:=fun z=>V.dis k a z hak;have hs:∀b∈fs',b∈fp k\/b∈f:=fun b hb=>by
  rcases sub b hb with z|z
  ·exact .inl (by rw[hk];exact ai _ z)
  ·exact .inr z
 refine⟨_,I.put hak hσ (d:=.lst true xs') (f:=a::fs') ?_ ?_ ?_ ?_ ?_⟩
 ·unfold bV;rw[if_pos rfl];refine⟨a,vs',fs',rfl,b6,hl,hr (fun b hb=>aQ (fun z=>nda.1 (by rw[<-z];exact hb))) (fun b hb=>aQ (fun z=>haf (by rw[<-z];exact hb))),rfl⟩
 ·refine cZ.mpr ⟨fun z=>?_,nd⟩;rcases sub a z with z|z
  ·exact nda.1 z
  ·exact haf z
 ·intro b hb;rcases aF.mp hb with rfl|hb
  ·exact I.nf k b hak
  ·rcases hs b hb with z|z
   ·exact I.nf k b z
   ·exact V.nf b z
 ·intro b hb;rcases aF.mp hb with rfl|hb
  ·exact I.nh k b hak
  ·rcases hs b hb with z|z
   ·exact I.nh k b z
   ·exact V.nh b z
 ·intro i hi b hb hc;rcases aF.mp hb with rfl|hb
  ·exact hi (I.dis i k b hc hak)
  ·rcases hs b hb with z|z
   ·exact hi (I.dis i k b hc z)
   ·exact V.dis i b z hc
end
variable{a:CE}
variable{f3:List Addr}
variable{src:CI}
variable{n:Nat}
section
variable{K:PySem.W.Frag}{Γp:List PG}{Y:List G}{F0 H0 F H:Hp}{σd:br}{O:L2.St}{fp:Nat->List Addr}{X:Ends}
theorem Qo[Ex](hΓ:cQ K Γp Y):∀(as:iP) {ds acc:List D}{av:List V}{af:List Addr}{σd:br}{F H:Hp}{fp:Nat->List Addr}{Q:List V->Hp->Prop},bx K F0 H0 σd O F H fp->ng K H0 F H fp acc av af->j7 as=true->lA Γp as σd=.ok ds->
 (∀vs F1 H1 σ1 fp1 f,bx K F0 H0 σ1 O F1 H1 fp1->ng K H0 F1 H1 fp1 (acc++ds) (av++vs) f->Q vs H1)->wEs K Y Ex.E as O H Q
|.nil,ds,acc,av,af,σd,F,H,fp,Q,I,V,lt,e,h=>by
 cases e;exact h [] F H σd fp af I (by rw[dm,dm];exact V)
|.cons a r,ds,acc,av,af,σd,F,H,fp,Q,I,V,lt,e,h=>by
 obtain⟨l1,l2⟩:=band' lt;have e:(match Ld a with
  |some i=>match σd[i]? with
   |some (some d)=>(lA Γp r (σd.set i none)).bind fun ds=>.ok (d::ds)
   |_=>.bad
  |none=>(pE Γp a σd).bind fun d=>.bw (aV d) ((lA Γp r σd).bind fun ds=>.ok (d::ds)))=R.ok ds:=e
 cases va:Ld a with
 |some i=>
  have ea:a=.var i:=by cases a<;>first|(cases va;rfl)|(cases va)
  subst ea;rw[va]at e;simp only at e;cases q:σd[i]? with
  |none=>rw[q]at e;cases e
  |some o=>
   cases o with
   |none=>rw[q]at e;cases e
   |some d=>
    rw[q]at e;obtain⟨ds',e1,e2⟩:=cy (show((lA Γp r (σd.set i none)).bind fun ds=>.ok (d::ds))=R.ok ds from e);cases e2;obtain⟨v,h1,h2⟩:=I.rep i d q;have V1:ng K H0 F H (fun j=>if j=i then[]else fp j) (acc++[d]) (av++[v]) (af++fp i):=by
     refine ng.snoc ⟨V.r,V.nd,V.nf,V.nh,fun j a ha=>?_⟩ ⟨h2,I.nd i,I.nf i,I.nh i,fun j a ha=>?_⟩ fun a ha hb=>V.dis i a ha hb
     ·by_cases c:j=i
      ·rw[if_pos c];exact aR
      ·rw[if_neg c];exact V.dis j a ha
     ·by_cases c:j=i
      ·rw[if_pos c];exact aR
      ·rw[if_neg c];exact fun z=>c (I.dis j i a z ha)
    refine slot_of h1 (Qo hΓ r (I.Yz i) V1 l2 e1 fun vs F1 H1 σ1 fp1 f I1 W=>h (v::vs) F1 H1 σ1 fp1 f I1 ?_);rw[a_,a_]at W;exact W
 |none=>
  rw[va]at e;simp only at e;obtain⟨d,e1,e2⟩:=cy e;obtain⟨ho,e2⟩:=iS e2;obtain⟨ds',e3,e4⟩:=cy e2;cases e4;refine runN hΓ I V l1 e1 ho fun v F1 H1 f I1 V1=>?_;refine Qo hΓ r I1 V1 l2 e3 fun vs F2 H2 σ2 fp2 f2 I2 W=>h (v::vs) F2 H2 σ2 fp2 f2 I2 ?_;rw[a_,a_]at W;exact W
theorem YC[Ex](hΓ:cQ K Γp Y)(I:bx K F0 H0 σd O F H fp)(lt:c_ e=true)(h:cW K F0 H0 ((pM Γp e σd).aT .rt) X):wE K Y Ex.E e O H X.rt:=by
 rcases kN h with⟨x,e1,hx⟩|⟨d,e1,h'⟩
 ·have gen:pE Γp e σd=.ex x->wE K Y Ex.E e O H X.rt:=fun he=>ym hΓ I lt he hx;cases e with
  |var i=>
   have e1:(match σd[i]? with|some (some d)=>R.ok d|_=>.bad)=.ex x:=e1;split at e1<;>cases e1
  |tup as=>
   have e1:(lA Γp as σd).alt (fun ds=>.bw (decide (ds.length<=aa)) (.ok (.tup ds))) (pE Γp (.tup as) σd)=.ex x:=e1;unfold R.alt at e1;split at e1
   ·exact absurd e1 (bh.bw bh.ok x)
   ·exact gen e1
  |_=>exact gen e1
 clear h;have gen:pE Γp e σd=.ok d->wE K Y Ex.E e O H X.rt:=fun he=>DB hΓ I lt he fun v F1 H1 fp1 f I1 V1=>h' v F1 H1 f I1.g ⟨V1.nd,V1.nh,V1.nf⟩ V1.r;cases e with
 |var i=>
  have e1:(match σd[i]? with|some (some d)=>R.ok d|_=>.bad)=.ok d:=e1;cases q:σd[i]? with
  |none=>rw[q]at e1;cases e1
  |some o=>
   cases o with
   |none=>rw[q]at e1;cases e1
   |some d'=>
    rw[q]at e1;cases e1;obtain⟨v,h1,h2⟩:=I.rep i d q;exact slot_of h1 (h' v F H (fp i) I.g ⟨I.nd i,I.nh i,I.nf i⟩ h2)
 |tup as=>
  have e1:(lA Γp as σd).alt (fun ds=>.bw (decide (ds.length<=aa)) (.ok (.tup ds))) (pE Γp (.tup as) σd)=.ok d:=e1;cases e2:lA Γp as σd with
  |ok ds=>
   rw[e2]at e1;obtain⟨c3,e4⟩:=iS e1;cases e4;refine Qo hΓ as I (acc:=[]) (av:=[]) (af:=[]) ⟨⟨rfl,rfl⟩,gW,fun _ z=>absurd z aR,fun _ z=>absurd z aR,fun _ _ z=>absurd z aR⟩ lt e2 fun vs F1 H1 σ1 fp1 f I1 V=>?_;have hr:bg K H1 F1 ds vs f:=V.r;have hl:vs.length<=aa:=by rw[hr.len];exact of_decide_eq_true c3
   refine⟨hl,fun p hp=>?_⟩;have g2:=ve (o:=.tup vs) I1.g.s hp;have I2:=I1.grow g2;have np:∀a∈f,a≠p:=fun a ha z=>by
    obtain⟨o,e,_⟩:=bg.ex ds vs f hr a ha;rw[z,hp]at e;cases e
   exact h' (.ref p) _ _ f I2.g ⟨V.nd,V.nh,fun a ha=>by rw[aQ (np a ha)];exact V.nf a ha⟩ ⟨p,vs,rfl,b6,hl,bg.mono g2.f ds vs f (fun a ha=>aQ (np a ha)) hr⟩
  |_=>
   rw[e2]at e1;exact gen e1
 |_=>exact gen e1
theorem B5{g:List Addr}(nd:(f1++(f2++f3)).Nodup)(g3:∀b∈g,b∈f2\/b∈f)(g2:g.Nodup)(df:∀a∈f,a∉f1++(f2++f3)):(f1++(g++f3)).Nodup:=by
 obtain⟨n1,n23,n4⟩:=bU.mp nd;obtain⟨n2,n3,n5⟩:=bU.mp n23;refine bU.mpr ⟨n1,bU.mpr ⟨g2,n3,fun a ha b hb z=>?_⟩,fun a ha b hb z=>?_⟩
 ·rcases g3 a ha with q|q
  ·exact n5 a q b hb z
  ·exact df a q (by rw[z];exact az _ (az _ hb))
 ·rcases aY.mp hb with hb|hb
  ·rcases g3 b hb with q|q
   ·exact n4 a ha b (aN _ q) z
   ·exact df b q (by rw[<-z];exact aN _ ha)
  ·exact n4 a ha b (az _ hb) z
theorem Bc{g:List Addr}(g3:∀b∈g,b∈f2\/b∈f):∀b∈f1++(g++f3),b∈f1++(f2++f3)\/b∈f:=fun b hb=>by
 rcases aY.mp hb with z|z
 ·exact .inl (aN _ z)
 ·rcases aY.mp z with z|z
  ·rcases g3 b z with q|q
   ·exact .inl (az _ (aN _ q))
   ·exact .inr q
  ·exact .inl (az _ (az _ z))
theorem M0{a:Addr}{g:List Addr}(nd:(a::(f1++(f2++f3))).Nodup)(g3:∀b∈g,b∈f2\/b∈f)(g2:g.Nodup)(df:∀b∈f,b∉a::(f1++(f2++f3))):(a::(f1++(g++f3))).Nodup:=by
 have nd':=cZ.mp nd;refine cZ.mpr ⟨fun z=>?_,B5 nd'.2 g3 g2 fun b hb z=>df b hb (ai _ z)⟩;rcases Bc g3 a z with q|q
 ·exact nd'.1 q
 ·exact df a q ao
theorem Ux{a:Addr}{g:List Addr}(g3:∀b∈g,b∈f2\/b∈f):∀b∈a::(f1++(g++f3)),b∈a::(f1++(f2++f3))\/b∈f:=fun b hb=>by
 rcases aF.mp hb with rfl|hb
 ·exact .inl ao
 ·rcases Bc g3 b hb with q|q
  ·exact .inl (ai _ q)
  ·exact .inr q
def Reach(K:PySem.W.Frag)(H:Hp):V->List Int->V->Prop
|v,[],w=>v=w
|v,i::r,w=>∃a t xs u,v=.ref a/\gq K H a t xs/\e_ xs i=some u/\Reach K H u r w
theorem Reach.snoc:∀{is:List Int}{v w:V}{n:Int},Reach K H v (is++[n]) w->∃x,Reach K H v is x/\Reach K H x [n] w
|[],v,w,n,h=>⟨v,rfl,h⟩
|i::r,v,w,n,h=>by
 obtain⟨a,t,xs,u,e1,e2,e3,h⟩:=h;obtain⟨x,q1,q2⟩:=Reach.snoc h;exact⟨x,⟨a,t,xs,u,e1,e2,e3,q1⟩,q2⟩
theorem Qp[Ex](I:bx K F0 H0 σd O F H fp):∀(o:CE) {k:Nat}{is:List Int}{v w:V}{Q:VK},sP σd o=some (k,is)->O[k]?=some (some v)->Reach K H v is w->Q w H->wE K Y Ex.E o O H Q
|.var j,k,is,v,w,Q,e,hv,hr,q=>by
 cases e;cases hr;exact slot_of hv q
|.ix o i,k,is,v,w,Q,e,hv,hr,q=>by
 have e:((sP σd o).bind fun p=>(Dy σd i).map fun n=>(p.1,p.2++[n]))=some (k,is):=e;cases e1:sP σd o with
 |none=>rw[e1]at e;cases e
 |some p=>
  rw[e1]at e;cases e2:Dy σd i with
  |none=>
   have e:((Dy σd i).map fun n=>(p.1,p.2++[n]))=some (k,is):=e;rw[e2]at e;cases e
  |some n=>
   have e:((Dy σd i).map fun n=>(p.1,p.2++[n]))=some (k,is):=e;rw[e2]at e;cases e;obtain⟨x,q1,a,t,xs,u,rfl,q2,q3,q4⟩:=Reach.snoc hr;cases q4;refine Qp I o e1 hv q1 (show wE K Y Ex.E i O H fun y H2=>Gs K (.ref a) y H2 Q from ?_);have fin:Gs K (.ref a) (.int n) H Q:=.inl ⟨t,xs,n,_,rfl,q2,q3,q⟩;unfold Dy at e2;split at e2
   ·split at e2
    ·rename_i j _ m hj;cases e2;obtain⟨v',h1,h2⟩:=I.rep _ _ hj;obtain⟨rfl,_⟩:=h2;exact slot_of h1 fin
    ·cases e2
   ·cases e2;exact fin
   ·cases e2;exact fin
   ·cases e2
|.con _,k,is,v,w,Q,e,hv,hr,q=>by cases e
|.glo _,k,is,v,w,Q,e,hv,hr,q=>by cases e
|.bin _ _ _,k,is,v,w,Q,e,hv,hr,q=>by cases e
|.nset _,k,is,v,w,Q,e,hv,hr,q=>by cases e
|.neg _,k,is,v,w,Q,e,hv,hr,q=>by cases e
|.not _,k,is,v,w,Q,e,hv,hr,q=>by cases e
|.and _ _,k,is,v,w,Q,e,hv,hr,q=>by cases e
|.or _ _,k,is,v,w,Q,e,hv,hr,q=>by cases e
|.ite _ _ _,k,is,v,w,Q,e,hv,hr,q=>by cases e
|.cmp _ _ _,k,is,v,w,Q,e,hv,hr,q=>by cases e
|.chain _ _ _ _ _,k,is,v,w,Q,e,hv,hr,q=>by cases e
|.call _ _,k,is,v,w,Q,e,hv,hr,q=>by cases e
|.blt _ _,k,is,v,w,Q,e,hv,hr,q=>by cases e
|.mth _ _ _,k,is,v,w,Q,e,hv,hr,q=>by cases e
|.sl _ _ _,k,is,v,w,Q,e,hv,hr,q=>by cases e
|.lst _,k,is,v,w,Q,e,hv,hr,q=>by cases e
|.tup _,k,is,v,w,Q,e,hv,hr,q=>by cases e
|.comp _ _ _ _ _ _,k,is,v,w,Q,e,hv,hr,q=>by cases e
|.isx _ _ _,k,is,v,w,Q,e,hv,hr,q=>by cases e
|.isv _ _,k,is,v,w,Q,e,hv,hr,q=>by cases e
|.att _ _ _,k,is,v,w,Q,e,hv,hr,q=>by cases e
|.slp _ _ _ _,k,is,v,w,Q,e,hv,hr,q=>by cases e
theorem bg.at:∀{ds:List D}{vs:List V}{fs:List Addr} (n:Nat) {y:D},bg K H F ds vs fs->ds[n]?=some y->
 ∃w f1 f2 f3,vs[n]?=some w/\fs=f1++(f2++f3)/\bV K H F y w f2/\∀{F1 H':Hp}{y':D}{g:List Addr},be F F1->(∀b∈f1,H' b=H b)->(∀b∈f3,H' b=H b)->bV K H' F1 y' w g->bg K H' F1 (ds.set n y') vs (f1++(g++f3))
|[],_,_,n,y,h,e=>by simp at e
|d::ds,_,_,0,y,h,e=>by
 obtain⟨v,r,g1,g2,rfl,rfl,h1,h2⟩:=h;simp at e;subst e;exact⟨v,[],g1,g2,rfl,rfl,h1,fun s1 _ h3 hr=>⟨v,r,_,g2,rfl,rfl,hr,bg.mono s1 _ _ _ h3 h2⟩⟩
|d::ds,_,_,n+1,y,h,e=>by
 obtain⟨v,r,g1,g2,rfl,rfl,h1,h2⟩:=h;obtain⟨w,f1,f2,f3,e1,rfl,q1,q2⟩:=bg.at n h2 (by simpa using e);refine⟨w,g1++f1,f2,f3,by simpa using e1,by simp,q1,fun s1 h3 h4 hr=>⟨v,r,g1,_,rfl,by simp,bV.mono s1 _ _ _ (fun b hb=>h3 b (aN _ hb)) h1,q2 s1 (fun b hb=>h3 b (az _ hb)) h4 hr⟩⟩
theorem JV:∀(is:List Int) {x x' d:D},eW is x d=some x'->∃ys,ju is x=some (.lst true ys)
|[],x,x',d,e=>by
 unfold eW at e;split at e
 ·exact⟨_,rfl⟩
 ·cases e
|i::r,x,x',d,e=>by
 unfold eW at e;have key:∀(xs:List D) (f:D->D),(((iF xs.length i).bind fun n=>(xs[n]?).bind fun y=>(eW r y d).map fun y'=>f (.lst true (xs.set n y')))=some x'\/((iF xs.length i).bind fun n=>(xs[n]?).bind fun y=>(eW r y d).map fun y'=>f (.tup (xs.set n y')))=some x')->∃ys,((iF xs.length i).bind fun n=>(xs[n]?).bind fun y=>ju r y)=some (.lst true ys):=by
  intro xs f e;cases e1:iF xs.length i with
  |none=>rw[e1]at e;rcases e with e|e<;>cases e
  |some n=>
   rw[e1]at e;show ∃ys,((xs[n]?).bind fun y=>ju r y)=some (.lst true ys);cases e2:xs[n]? with
   |none=>simp[e2]at e
   |some y=>
    show ∃ys,ju r y=some (.lst true ys);cases e3:eW r y d with
    |none=>simp[e2,e3]at e
    |some y'=>exact JV r e3
 unfold ju;split at e
 ·exact key _ id (.inl e)
 ·exact key _ id (.inr e)
 ·cases e
theorem v_:∀(is:List Int) {x:D}{ys:List D}{v:V}{fs:List Addr},be F H->bV K H F x v fs->ju is x=some (.lst true ys)->fs.Nodup->
 ∃c ws f2,c∈fs/\H c=some (.lst ws)/\Reach K H v is (.ref c)/\bV K H F (.lst true ys) (.ref c) f2/\(∀b∈f2,b∈fs)/\∀{d x':D},eW is x d=some x'->ws.length<aa /\
  ∀{F1 H':Hp}{u:V}{f:List Addr},be F F1->bV K H' F1 d u f->f.Nodup->(∀a∈f,a∉fs)->(∀b∈fs,b≠c->H' b=H b)->H' c=some (.lst (ws++[u]))->∃fs',bV K H' F1 x' v fs'/\fs'.Nodup/\∀b∈fs',b∈fs\/b∈f
|[],x,ys,v,fs,s,r,e,nd=>by
 cases e;have r0:=r;unfold bV at r;rw[if_pos rfl]at r;obtain⟨a,vs,f1,rfl,r2,r3,r4,rfl⟩:=r;have nd':=cZ.mp nd;refine⟨a,vs,a::f1,ao,r2,rfl,r0,fun b hb=>hb,fun{d x'} e=>?_⟩;unfold eW at e;have e:(if ys.length<aa then some (D.lst true (ys++[d]))else none)=some x':=e;split at e
 ·rename_i hl;cases e;refine⟨by rw[r4.len];exact hl,fun{F1 H' u f} s1 rd nf df h1 h2=>⟨a::(f1++f),?_,?_,?_⟩⟩
  ·unfold bV;rw[if_pos rfl];exact⟨a,vs++[u],f1++f,rfl,h2,by rw[ak,r4.len];exact hl,bg.app (bg.mono s1 _ _ _ (fun b hb=>h1 b (ai _ hb) fun z=>nd'.1 (by rw[<-z];exact hb)) r4) (bg.one rd),rfl⟩
  ·refine cZ.mpr ⟨fun z=>?_,bU.mpr ⟨nd'.2,nf,fun p hp q hq z=>df q hq (by rw[<-z];exact ai _ hp)⟩⟩;rcases aY.mp z with z|z
   ·exact nd'.1 z
   ·exact df a z ao
  ·intro b hb;rcases aF.mp hb with rfl|hb
   ·exact .inl ao
   ·rcases aY.mp hb with z|z
    ·exact .inl (ai _ z)
    ·exact .inr z
 ·cases e
|i::r,x,ys,v,fs,s,rx,e,nd=>by
 unfold ju at e;split at e
 ·rename_i xs;cases e1:iF xs.length i with
  |none=>rw[e1]at e;cases e
  |some n=>
   rw[e1]at e;have e:((xs[n]?).bind fun y=>ju r y)=some (.lst true ys):=e;cases e2:xs[n]? with
   |none=>rw[e2]at e;cases e
   |some y=>
    rw[e2]at e;have e:ju r y=some (.lst true ys):=e;unfold bV at rx;rw[if_pos rfl]at rx;obtain⟨a,vs,f0,rfl,r2,r3,r4,rfl⟩:=rx;obtain⟨w,f1,f2,f3,w1,rfl,w2,w3⟩:=bg.at n r4 e2;have nd':=cZ.mp nd;obtain⟨n1,n23,n4⟩:=bU.mp nd'.2;obtain⟨n2,n3,n5⟩:=bU.mp n23;obtain⟨c,ws,f4,c1,c2,c4,c6,c7,c5⟩:=v_ r s w2 e n2;have cf:c∈f1++(f2++f3):=az _ (aN _ c1);refine⟨c,ws,f4,ai _ cf,c2,⟨a,false,vs,w,rfl,.inl (by unfold Di;rw[r2]),B0 (by rw[r4.len];exact e1) w1,c4⟩,c6,fun b hb=>ai _ (az _ (aN _ (c7 b hb))),fun{d x'} e3=>?_⟩;have e3:((iF xs.length i).bind fun n=>(xs[n]?).bind fun y=>(eW r y d).map fun y'=>D.lst true (xs.set n y'))=some x':=e3;rw[e1]at e3;have e3:((xs[n]?).bind fun y=>(eW r y d).map fun y'=>D.lst true (xs.set n y'))=some x':=e3;rw[e2]at e3;have e3:((eW r y d).map fun y'=>D.lst true (xs.set n y'))=some x':=e3;cases e4:eW r y d with
    |none=>rw[e4]at e3;cases e3
    |some y'=>
     rw[e4]at e3;cases e3;obtain⟨c3,c5⟩:=c5 e4;refine⟨c3,fun{F1 H' u f} s1 rd nf df h1 h2=>?_⟩;obtain⟨g,g1,g2,g3⟩:=c5 s1 rd nf (fun b hb z=>df b hb (ai _ (az _ (aN _ z)))) (fun b hb hc=>h1 b (ai _ (az _ (aN _ hb))) hc) h2;refine⟨a::(f1++(g++f3)),?_,?_,?_⟩
     ·unfold bV;rw[if_pos rfl];refine⟨a,vs,_,rfl,by rw[h1 a ao fun z=>nd'.1 (by rw[z];exact cf)];exact r2,r3,w3 s1 (fun b hb=>h1 b (ai _ (aN _ hb)) fun z=>n4 b hb c (aN _ c1) z) (fun b hb=>h1 b (ai _ (az _ (az _ hb))) fun z=>n5 c c1 b hb z.symm) g1,rfl⟩
     ·exact M0 nd (fun b hb=>g3 b hb) g2 df
     ·exact Ux g3
 ·rename_i xs;cases e1:iF xs.length i with
  |none=>rw[e1]at e;cases e
  |some n=>
   rw[e1]at e;have e:((xs[n]?).bind fun y=>ju r y)=some (.lst true ys):=e;cases e2:xs[n]? with
   |none=>rw[e2]at e;cases e
   |some y=>
    rw[e2]at e;have e:ju r y=some (.lst true ys):=e;obtain⟨a,vs,rfl,r2,r3,r4⟩:=rx;obtain⟨w,f1,f2,f3,w1,rfl,w2,w3⟩:=bg.at n r4 e2;obtain⟨n1,n23,n4⟩:=bU.mp nd;obtain⟨n2,n3,n5⟩:=bU.mp n23;obtain⟨c,ws,f4,c1,c2,c4,c6,c7,c5⟩:=v_ r s w2 e n2;refine⟨c,ws,f4,az _ (aN _ c1),c2,⟨a,true,vs,w,rfl,tupS (s _ _ r2),B0 (by rw[r4.len];exact e1) w1,c4⟩,c6,fun b hb=>az _ (aN _ (c7 b hb)),fun{d x'} e3=>?_⟩;have e3:((iF xs.length i).bind fun n=>(xs[n]?).bind fun y=>(eW r y d).map fun y'=>D.tup (xs.set n y'))=some x':=e3;rw[e1]at e3;have e3:((xs[n]?).bind fun y=>(eW r y d).map fun y'=>D.tup (xs.set n y'))=some x':=e3;rw[e2]at e3;have e3:((eW r y d).map fun y'=>D.tup (xs.set n y'))=some x':=e3;cases e4:eW r y d with
    |none=>rw[e4]at e3;cases e3
    |some y'=>
     rw[e4]at e3;cases e3;obtain⟨c3,c5⟩:=c5 e4;refine⟨c3,fun{F1 H' u f} s1 rd nf df h1 h2=>?_⟩;obtain⟨g,g1,g2,g3⟩:=c5 s1 rd nf (fun b hb z=>df b hb (az _ (aN _ z))) (fun b hb hc=>h1 b (az _ (aN _ hb)) hc) h2;refine⟨f1++(g++f3),⟨a,vs,rfl,s1 _ _ r2,r3,w3 s1 (fun b hb=>h1 b (aN _ hb) fun z=>n4 b hb c (aN _ c1) z) (fun b hb=>h1 b (az _ (az _ hb)) fun z=>n5 c c1 b hb z.symm) g1⟩,?_,?_⟩
     ·exact B5 nd (fun b hb=>g3 b hb) g2 df
     ·exact Bc g3
 ·cases e
theorem Z2[Ex](hΓ:cQ K Γp Y)(I:bx K F0 H0 σd O F H fp)(lt:c_ e=true)(he:pE Γp e σd=.ok d)
  (h:∀v F1 H1,bx K F0 H0 σd O F1 H1 fp->be F F1->be H H1->(aV d=true->∃f,j8 K H0 F1 H1 fp d v f)->Q v H1):wE K Y Ex.E e O H Q:=by
 refine fK hΓ e (I.env (cK e)) (eG I.g.s) lt ?_;rw[he];intro F' H' v f g fr r;refine h v _ H' (I.back g) (fun b o q=>?_) g.h fun ho=>?_
 ·have hb:b∉ownAt fp (cK e):=fun z=>by
   obtain⟨i,_,hb⟩:=fh.mp z;rw[I.nf i b hb]at q;cases q
  rw[fC hb];exact g.f b o (dG I.g.s b o q)
 refine⟨f,bV.less (kF g.s ((I.lists _).mono g.h)) d v f ho r,fr.nd,fun a ha=>be.none (kr _ _) (fr.nf a ha),fun a ha=>be.none I.g.h (fr.nh a ha),fun i a ha hb=>?_⟩;obtain⟨o,e,_⟩:=I.ex i a hb;rw[fr.nh a ha]at e;cases e
theorem YD[Ex](hΓ:cQ K Γp Y){o:CE}(I:bx K F0 H0 σd O F H fp)(la:c_ a=true)(h:cW K F0 H0 (Dz Γp o a σd) X):wE K Y Ex.E (.mth .append o (.cons a .nil)) O H fun _ H1=>X.nx O H1:=by
 unfold Dz at h;split at h
 ·rename_i p ep;obtain⟨d,e1,h⟩:=JS h;split at h
  ·rename_i x ex;split at h
   ·rename_i ho;cases e3:eW p.2 x d with
    |none=>rw[e3]at h;exact h.elim
    |some x'=>
     rw[e3]at h;have h:cW K F0 H0 (.nx (σd.set p.1 (some x'))) X:=h;obtain⟨v,hv,rx⟩:=I.rep _ _ ex;obtain⟨ys,eg⟩:=JV p.2 e3;obtain⟨c,ws,f2,c1,c2,c4,_,_,c5⟩:=v_ p.2 I.g.s rx eg (I.nd _);obtain⟨c3,c5⟩:=c5 e3;refine Qp I o (show sP σd o=some (p.1,p.2)from ep) hv c4 ⟨?_,?_⟩
     ·show oj H c;unfold oj;rw[c2];trivial
     ·simp only[wEs];refine Z2 hΓ I la e1 fun u F1 H1 I1 sF sH V1=>?_;obtain⟨f,V1⟩:=V1 ho;show(match H1 c with|some (.lst xs)=>xs.length<aa/\X.nx O (upd H1 c (.lst (xs++[u])))|_=>False);rw[sH _ _ c2];refine⟨c3,?_⟩;have hcf:c∉f:=fun z=>V1.dis p.1 c z c1;obtain⟨fs',g1,g2,g3⟩:=c5 (H':=upd H1 c (.lst (ws++[u]))) sF (bV.mono (be.refl _) _ _ _ (fun b hb=>aQ fun z=>hcf (by rw[<-z];exact hb)) V1.r) V1.nd (fun b hb=>V1.dis p.1 b hb) (fun b hb hc=>by
       rw[aQ hc];obtain⟨o,eo,_⟩:=I.ex p.1 b hb;rw[eo,sH b o eo]) b6
      refine h O F1 _ _ (I1.put c1 hv g1 g2 (fun b hb=>?_) (fun b hb=>?_) fun i hi b hb z=>?_)
      ·rcases g3 b hb with q|q
       ·exact I1.nf p.1 b q
       ·exact V1.nf b q
      ·rcases g3 b hb with q|q
       ·exact I1.nh p.1 b q
       ·exact V1.nh b q
      ·rcases g3 b hb with q|q
       ·exact hi (I1.dis i p.1 b z q)
       ·exact V1.dis i b q z
   ·exact h.elim
  ·exact h.elim
 ·exact h.elim
theorem okX[Ex](hΓ:cQ K Γp Y)(I:bx K F0 H0 σd O F H fp)(lt:c_ e=true)(h:cW K F0 H0 (pX Γp e σd) X):wE K Y Ex.E e O H fun _ H1=>X.nx O H1:=by
 have gen:cW K F0 H0 ((pE Γp e σd).aT fun _=>.nx σd) X->wE K Y Ex.E e O H fun _ H1=>X.nx O H1:=fun h=>by
  rcases kN h with⟨x,e1,hx⟩|⟨d,e1,h⟩
  ·exact ym hΓ I lt e1 hx
  exact runD' hΓ I lt e1 fun v F1 H1 I1 _ _=>h O F1 H1 fp I1
 cases e with
 |mth m o as=>
  cases o with
  |var k=>
   obtain⟨_,lt2⟩:=band' (show(c_ (.var k)&&j7 as)=true from lt);cases m with
   |append=>
    cases as with
    |nil=>exact h.elim
    |cons a r=>
     cases r with
     |cons _ _=>exact h.elim
     |nil=>
      obtain⟨la,_⟩:=band' (show(c_ a&&j7 .nil)=true from lt2);rcases JR (show cW K F0 H0 ((pE Γp a σd).sN (yl σd[k]?) fun d=>match σd[k]? with|some (some (.lst true xs))=>if(decide (xs.length<aa)&&(aV d||!(cK a).contains k))=true then .nx ((iw (cK a) (aV d) σd).set k (some (.lst true (xs++[d]))))else .bad|_=>.bad) X from h)with⟨hb,x,e1,hx⟩|⟨d,e1,h⟩
      ·unfold yl at hb;split at hb
       ·rename_i xs q;obtain⟨a0,us,fs,s1,s2,s3,s4,s5⟩:=I.lst q;refine slot_of s1 ⟨?_,?_⟩
        ·show oj H a0;unfold oj;rw[s2];trivial
        ·simp only[wEs];exact ym hΓ I la e1 hx
       ·cases hb
      split at h
      ·rename_i xs q;split at h
       ·rename_i c;obtain⟨c1,c2⟩:=band' c;have c1:=of_decide_eq_true c1;obtain⟨a0,us,fs,s1,s2,s3,s4,s5⟩:=I.lst q;refine slot_of s1 ⟨?_,?_⟩
        ·show oj H a0;unfold oj;rw[s2];trivial
        ·simp only[wEs];refine DB hΓ I la e1 fun v F1 H1 fp1 f I1 V1=>?_;obtain⟨a1,us1,fs1,t1,t2,t3,t4,t5⟩:=I1.lst (k:=k) (xs:=xs) (by rw[JU c2];exact q);rw[s1]at t1;cases t1;show(match H1 a0 with|some (.lst xs)=>xs.length<aa/\X.nx O (upd H1 a0 (.lst (xs++[v])))|_=>False);rw[t2];refine⟨by rw[t4.len];exact c1,?_⟩;have nd1:(fs1++f).Nodup:=by
          have n:=I1.nd k;rw[t5]at n;refine bU.mpr ⟨(cZ.mp n).2,V1.nd,fun a ha b hb z=>?_⟩;subst z;exact V1.dis k a hb (by rw[t5];exact ai _ ha)
         obtain⟨fp',I'⟩:=I1.MZ (xs:=xs) (xs':=xs++[d]) (vs:=us1) (vs':=us1++[v]) (fs:=fs1) (fs':=fs1++f) V1 s1 t5 (by rw[ak,t4.len];simp;omega)
          (fun h1 h2=>bg.app (bg.mono (be.refl _) _ _ _ h1 t4) (bg.one (bV.mono (be.refl _) _ _ _ h2 V1.r))) nd1 (fun b hb=>aY.mp hb)
         exact h O F1 _ fp' I'
       ·exact h.elim
      ·exact h.elim
   |_=>exact gen h
  |ix o i=>
   obtain⟨_,lt2⟩:=band' (show(c_ (.ix o i)&&j7 as)=true from lt);cases m with
   |append=>
    cases as with
    |nil=>exact h.elim
    |cons a r=>
     cases r with
     |cons _ _=>exact h.elim
     |nil=>
      obtain⟨la,_⟩:=band' (show(c_ a&&j7 .nil)=true from lt2);exact YD hΓ I la h
   |_=>exact gen h
  |_=>exact gen h
 |_=>exact gen h
theorem WW[Ex](hΓ:cQ K Γp Y){g:CG}(I:bx K F0 H0 σd O F H fp)(lg:WS g=true)(lt:c_ e=true)(h:cW K F0 H0 (pA Γp g e σd) X):wE K Y Ex.E e O H fun x H1=>wG K Y Ex.E g x O H1 X.nx:=by
 cases g with
 |name i=>
  rcases kN (show cW K F0 H0 ((pE Γp e σd).aT fun d=>.nx ((iw (cK e) (aV d) σd).set i (some d))) X from h)with⟨x,e1,hx⟩|⟨d,e1,h⟩
  ·exact ym hΓ I lt e1 hx
  exact DB hΓ I lt e1 fun v F1 H1 fp1 f I1 V1=>h _ F1 H1 _ (I1.set V1 i)
 |tup gs=>
  rcases kN (show cW K F0 H0 ((pE Γp e σd).aT fun d=>(pG (.tup gs) d (iw (cK e) (aV d) σd)).aT .nx) X from h)with⟨x,e1,hx⟩|⟨d,e1,h⟩
  ·exact ym hΓ I lt e1 hx
  obtain⟨σ2,e2,h⟩:=G2 h (G3 _ _ _);refine DB hΓ I lt e1 fun v F1 H1 fp1 f I1 V1=>?_;exact WV (.tup gs) I1 V1 e2 fun σ' fp' I' _=>h σ' _ H1 fp' I'
 |sub o i=>
  obtain⟨_,li⟩:=band' (show(c_ o&&c_ i)=true from lg);cases o with
  |var k=>
   rcases kN (show cW K F0 H0 ((pE Γp e σd).aT fun d=>(pE Γp i (iw (cK e) (aV d) σd)).sN false fun j=>match σd[k]? with
    |some (some x)=>if(aV d||!(cK e).contains k)=true then(R.opt (putIn x d j)).aT fun x'=>.nx ((iw (cK e) (aV d) σd).set k (some x'))else .bad
    |_=>.bad) X from h)with⟨x,e1,hx⟩|⟨d,e1,h⟩
   ·exact ym hΓ I lt e1 hx
   obtain⟨j,e2,h⟩:=JS h;cases q:σd[k]? with
   |none=>simp only[q]at h;exact h.elim
   |some o=>
    cases o with
    |none=>simp only[q]at h;exact h.elim
    |some x=>
     simp only[q]at h;by_cases c:(aV d||!(cK e).contains k)=true
     ·rw[if_pos c]at h;obtain⟨x',e3,h⟩:=G2 h bh.opt;have e3:=oA e3;refine DB hΓ I lt e1 fun v F1 H1 fp1 f I1 V1=>?_;show mh O k fun x=>wE K Y Ex.E i O H1 fun y H2=>match x with
       |.ref a=>match H2 a with
        |some (.lst xs)=>∃k j,y=.int k/\iF xs.length k=some j/\X.nx O (upd H2 a (.lst (xs.set j v)))
        |some (.dK kvs)=>∃k,y=kV k/\kvs.length<aa/\X.nx O (upd H2 a (.dK (putK kvs k v)))
        |some (.dT kvs)=>∃k b,y=.ref b/\H2 b=some (.tup (k.map kV))/\kvs.length<aa/\X.nx O (upd H2 a (.dT (putK kvs k v)))
        |_=>False
       |_=>False
      have nd1:∀{F2 H2:Hp}{a0:Addr}{fs1:List Addr},bx K F0 H0 (iw (cK e) (aV d) σd) O F2 H2 fp1->j8 K H0 F2 H2 fp1 d v f->fp1 k=a0::fs1->(fs1++f).Nodup:=fun I2 V2 t5=>by
       have n:=I2.nd k;rw[t5]at n;refine bU.mpr ⟨(cZ.mp n).2,V2.nd,fun a ha b hb z=>?_⟩;subst z;exact V2.dis k a hb (by rw[t5];exact ai _ ha)
      have q1:(iw (cK e) (aV d) σd)[k]?=some (some x):=by rw[JU c];exact q
      cases x with
      |lst o xs=>
       cases o with
       |false=>cases e3
       |true=>
        cases j with
        |int j=>
         have e3:(iF xs.length j).map (fun n=>D.lst true (xs.set n d))=some x':=e3;cases en:iF xs.length j with
         |none=>rw[en]at e3;cases e3
         |some n=>
          rw[en]at e3;cases e3;obtain⟨a0,us,fs,s1,s2,s3,s4,s5⟩:=I1.lst q1;refine slot_of s1 (Z1 hΓ I1 V1 li e2 fun w F2 H2 I2 V2 rj=>?_);have rj:w=.int j:=rj rfl rfl;subst rj;obtain⟨a1,us1,fs1,t1,t2,t3,t4,t5⟩:=I2.lst q1;rw[s1]at t1;cases t1;simp only[t2];refine⟨j,n,rfl,by rw[t4.len];exact en,?_⟩;obtain⟨fs',q1,q2,q3⟩:=bg.set n t4 V2.r (nd1 I2 V2 t5);obtain⟨fp',I'⟩:=I2.MZ (xs:=xs) (xs':=xs.set n d) (vs:=us1) (vs':=us1.set n v) (fs:=fs1) (fs':=fs') V2 s1 t5 (by rw[CP];exact t3)
           (fun h1 h2=>bg.mono (be.refl _) _ _ _ (fun b hb=>by
            rcases q3 b hb with z|z
            ·exact h1 b z
            ·exact h2 b z) q1) q2 q3
          exact h O F2 _ fp' I'
        |_=>cases e3
      |_=>cases e3
     ·rw[if_neg c]at h;exact h.elim
  |_=>exact h.elim
theorem lB(f:α->D)(h:∀a,bz (f a)=f a):∀l:List α,aB (l.map f)=l.map f
|[]=>rfl
|a::r=>by show bz (f a)::aB (r.map f)=_;rw[h a,lB f h r];rfl
theorem G4:∀(ds es:List D),aB ds=ds->aB es=es->aB (uJ ds es)=uJ ds es
|[],es,_,_=>by cases es<;>rfl
|d::r,[],_,_=>rfl
|d::r,e::t,h,h'=>by
 have h:bz d::aB r=d::r:=h;have h':bz e::aB t=e::t:=h';injection h with h1 h2;injection h' with h3 h4;show D.tup [bz d,bz e]::aB (uJ r t)=_;rw[h1,h3,G4 r t h2 h4];rfl
theorem Ez:∀(ds:List D) (n:Nat),aB ds=ds->aB (fB n ds)=fB n ds
|[],_,_=>rfl
|d::r,n,h=>by
 have h':bz d::aB r=d::r:=h;injection h' with h1 h2;show D.tup [.int (n:Int),bz d]::aB (fB (n+1) r)=_;rw[h1,Ez r (n+1) h2];rfl
theorem WX{items:Bool×List D}(h:pI Γp src σd=.ok items):aB items.2=items.2:=by
 cases src with
 |seq a=>
  obtain⟨x,e1,e2⟩:=cy h;obtain⟨ds,e3,e4⟩:=cy e2;cases e4;cases x with
  |str z=>cases e3;exact lB _ (fun _=>rfl) _
  |lst o xs=>cases e3;exact fE xs
  |tup xs=>cases e3;exact fE xs
  |_=>cases e3
 |range as=>
  obtain⟨x,e1,e2⟩:=cy h;obtain⟨ds,e3,e4⟩:=cy e2;cases e4;unfold oz at e3;split at e3
  ·obtain⟨_,e5⟩:=iS e3;cases e5;exact lB _ (fun _=>rfl) _
  ·obtain⟨_,e5⟩:=iS e3;cases e5;exact lB _ (fun _=>rfl) _
  ·cases e3
 |zip as=>
  obtain⟨xs,e1,e2⟩:=cy h;unfold v5 at e2;split at e2
  ·cases e2;exact G4 _ _ (fE _) (fE _)
  ·cases e2
 |enum a=>
  obtain⟨x,e1,e2⟩:=cy h;cases x with
  |lst o xs=>cases e2;exact Ez _ 0 (fE xs)
  |_=>cases e2
theorem Lf[Ex]{g:CG}{b:cC}{B:Hp}{ok:Hp->Prop}(hok:∀H'',be B H''->ok H'')
 (hb:∀{σd:br}{O:L2.St}{F H:Hp}{fp:Nat->List Addr}{X:Ends},bx K B H0 σd O F H fp->cW K B H0 (cU Γp n b σd) X->wSs K Y Ex.E b X O H) :
 ∀(ds:List D) (its:List Item) {σd:br}{O:L2.St}{F H:Hp}{fp:Nat->List Addr},bx K B H0 σd O F H fp->lz K B ds its->cW K B H0 (forR (pG g) (cU Γp n b) (aB ds) σd) X->forL ok (wG K Y Ex.E g) (wSs K Y Ex.E b) X its O H
|[],its,σd,O,F,H,fp,I,hi,h=>by
 cases hi;exact⟨hok H (I.g.f.trans I.g.s),h O F H fp I⟩
|d::ds,its,σd,O,F,H,fp,I,hi,h=>by
 obtain⟨it,r,rfl,i1,i2⟩:=hi;have hit:WJ K F d it:=by
  cases it with
  |v x=>exact aU.mono I.g.f d x i1
  |tup xs=>obtain⟨es,q1,q2,q3⟩:=i1;exact⟨es,q1,aE.mono I.g.f es xs q2,q3⟩
 refine⟨hok H (I.g.f.trans I.g.s),Eu I.g.s hit fun F1 H1 v g1 r1=>?_⟩;obtain⟨σ2,e1,h⟩:=G2 (show cW K B H0 ((pG g (bz d) σd).aT fun σ2=>match cU Γp n b σ2 with
  |.nx σ3=>forR (pG g) (cU Γp n b) (aB ds) σ3
  |.ct σ3=>forR (pG g) (cU Γp n b) (aB ds) σ3
  |.bk σ3=>.nx σ3
  |.rt d=>.rt d
  |.ex x=>.ex x
  |.bad=>.bad) X from h) (G3 _ _ _)
 refine ruG' g (I.grow g1) r1 e1 fun σ' fp' I'=>?_;refine hb I' ?_;cases q:cU Γp n b σ2 with
 |nx σ3=>simp only[q]at h;exact fun O F H fp I3=>Lf hok hb ds r I3 i2 h
 |ct σ3=>simp only[q]at h;exact fun O F H fp I3=>Lf hok hb ds r I3 i2 h
 |bk σ3=>simp only[q]at h;exact h
 |rt d=>simp only[q]at h;exact h
 |ex x=>simp only[q]at h;exact h
 |bad=>simp only[q]at h;exact h.elim
end
theorem JW:∀(fs:List (Str×Nat)) (acc:List (Str×V)),(acc.map (·.1)++fs.map (·.1)).Nodup->mG fs vs acc=acc++fs.map fun p=>(p.1,vs.getD p.2 .non)
|[],acc,_=>by simp[mG]
|(f,j)::r,acc,h=>by
 have hp:∀(acc:List (Str×V)) (v:V),f∉acc.map (·.1)->iJ f v acc=acc++[(f,v)]:=by
  intro acc v;induction acc with
  |nil=>intro _;rfl
  |cons p acc ih=>
   obtain⟨g,x⟩:=p;intro hn;simp only[cR,aF,not_or]at hn;show(if g=f then(g,v)::acc else(g,x)::iJ f v acc)=_;rw[if_neg (fun z=>hn.1 z.symm),ih hn.2];rfl
 have hf:f∉acc.map (·.1):=fun z=>by
  have:=(bU.mp h).2.2 f z f (by simp);exact this rfl
 show mG r vs (iJ f (vs.getD j .non) acc)=_;rw[hp acc _ hf,JW r (acc++[(f,vs.getD j .non)]) (by simpa[a_]using h)];simp[a_]
theorem aE.getD:∀{ds:List D}{vs:List V} (j:Nat),aE K F ds vs->aU K F (bz (ds.getD j .non)) (vs.getD j .non)
|[],_,j,h=>by cases h;rfl
|d::ds,_,0,h=>by
 obtain⟨v,r,rfl,h2,_⟩:=h;exact(aU.bz d v).mpr h2
|d::ds,_,j+1,h=>by
 obtain⟨v,r,rfl,_,h3⟩:=h;exact aE.getD j h3
theorem G5(h:aE K F ds vs):∀fs:List (Str×Nat),aE K F (fs.map fun p=>bz (ds.getD p.2 .non)) (fs.map fun p=>vs.getD p.2 .non)
|[]=>rfl
|p::fs=>⟨_,_,rfl,aE.getD p.2 h,G5 h fs⟩
mutual
theorem aU.B6(e:A8 F' F):∀(d:D) (v:V),Le d=true->aU K F' d v->aU K F d v
|.non,v,_,h=>h
|.bl b,v,_,h=>h
|.int i,v,_,h=>h
|.str x,v,_,h=>h
|.lst _ _,v,s,h=>by cases s
|.exc _ _ _,v,s,h=>by cases s
|.tup ds,v,s,h=>by
 obtain⟨a,vs,h1,h2,h3,h4⟩:=h;exact⟨a,vs,h1,e.tup h2,h3,aE.B6 e ds vs s h4⟩
theorem aE.B6(e:A8 F' F):∀(ds:List D) (vs:List V),qC ds=true->aE K F' ds vs->aE K F ds vs
|[],vs,_,h=>h
|d::ds,vs,s,h=>by
 obtain⟨s1,s2⟩:=band' (show(Le d&&qC ds)=true from s);obtain⟨v,r,h1,h2,h3⟩:=h;exact⟨v,r,h1,aU.B6 e d v s1 h2,aE.B6 e ds r s2 h3⟩
end
variable{F0 H0:Hp}
theorem bx.drop{O:L2.St}{fp:Nat->List Addr}{i:Nat}{w:Option V}(I:bx K F0 H0 σd O F H fp):bx K F0 H0 (σd.set i none) (O.set i w) F H fp where
 g:=I.g
 len:=by simp[I.len]
 rep:=fun j d e=>by
  by_cases hij:i=j
  ·subst hij;rw[fq]at e;split at e
   ·split at e<;>cases e
   ·rename_i z;exact absurd rfl z
  ·rw[cH hij]at e ⊢;exact I.rep j d e
 ex:=I.ex
 nd:=I.nd
 nf:=I.nf
 nh:=I.nh
 dis:=I.dis
variable{Γp:List PG}{X:Ends}{s:CS}
theorem YE[Ex]{Y:List G}{O:L2.St}{fp:Nat->List Addr}(hΓ:cQ K Γp Y){t:CS}(I:bx K F0 H0 σd O F H fp)(lt:Ew t=true)(h:cW K F0 H0 (v9 Γp s t σd) X):wS K Y Ex.E s { X with nx:=wS K Y Ex.E t X } O H:=by
 unfold v9 at h;split at h
 ·rename_i j o i a;split at h
  ·rename_i hij;subst hij;split at h
   ·rename_i p ep;unfold DA at h;split at h
    ·rename_i x ex;split at h
     ·rename_i ys eg;split at h
      ·rename_i hl;have hi:i<O.length:=by rw[<-I.len];exact hl
       obtain⟨v,hv,rx⟩:=I.rep _ _ ex;obtain⟨c,ws,f2,c1,c2,c4,c6,c7,c5⟩:=v_ p.2 I.g.s rx eg (I.nd _);obtain⟨_,lt2⟩:=band' (show(c_ (.var i)&&j7 (.cons a .nil))=true from lt);obtain⟨la,_⟩:=band' (show(c_ a&&j7 .nil)=true from lt2);show wE K Y Ex.E o O H fun v H1=>wE K Y Ex.E (.mth .append (.var i) (.cons a .nil)) (O.set i (some v)) H1 fun _ H2=>X.nx (O.set i (some v)) H2;refine Qp I o (show sP σd o=some (p.1,p.2)from ep) hv c4 ?_;refine slot_of (eY hi) ⟨?_,?_⟩
       ·show oj H c;unfold oj;rw[c2];trivial
       ·simp only[wEs];have env:ji K (adopt F H (ownAt fp (p.1::cK a))) H (cK a) (σd.set i (some (.lst true ys))) (O.set i (some (.ref c))):=⟨fun b hb d e=>by
         by_cases hbi:b=i
         ·subst hbi;rw[eY hl]at e;cases e;exact⟨.ref c,eY hi,bV.fix (dG I.g.s) _ _ f2 (fun a ha=>jQ (fh.mpr ⟨p.1,ao,c7 a ha⟩)) c6⟩
         ·rw[cH (cY hbi)]at e ⊢;exact(I.env (p.1::cK a)).e b (ai _ hb) d e,fun b d e=>by
         by_cases hbi:b=i
         ·subst hbi;rw[eY hl]at e;cases e;exact⟨.ref c,adopt F H (ownAt fp (p.1::cK a)),eY hi,eG I.g.s,bV.fix (dG I.g.s) _ _ f2 (fun a ha=>jQ (fh.mpr ⟨p.1,ao,c7 a ha⟩)) c6⟩
         ·rw[cH (cY hbi)]at e ⊢;exact(I.env []).n b d e⟩
        refine fK hΓ a env (eG I.g.s) la ?_;rcases kN h with⟨x0,e1,hx⟩|⟨d,e1,h⟩
        ·rw[e1];exact jh.grow (K:=K) (x:=x0) hx (I.own (p.1::cK a))
        ·rw[e1];intro F' H' u f g fr r;split at h
         ·rename_i ho;cases e3:eW p.2 x d with
          |none=>rw[e3]at h;exact h.elim
          |some x'=>
           rw[e3]at h;have h:cW K F0 H0 (.nx ((σd.set p.1 (some x')).set i none)) X:=h;obtain⟨c3,c5⟩:=c5 e3;have I1:=I.back g;have V1:j8 K H0 (minus F' (ownAt fp (p.1::cK a))) H' fp d u f:=⟨bV.less (kF g.s ((I.lists _).mono g.h)) d u f ho r,fr.nd,fun a ha=>be.none (kr _ _) (fr.nf a ha),fun a ha=>be.none I.g.h (fr.nh a ha),fun i a ha hb=>by
            obtain⟨o,e,_⟩:=I.ex i a hb;rw[fr.nh a ha]at e;cases e⟩
           have sF:be F (minus F' (ownAt fp (p.1::cK a))):=fun b o q=>by
            have hb:b∉ownAt fp (p.1::cK a):=fun z=>by
             obtain⟨i,_,hb⟩:=fh.mp z;rw[I.nf i b hb]at q;cases q
            rw[fC hb];exact g.f b o (dG I.g.s b o q)
           show(match H' c with|some (.lst xs)=>xs.length<aa/\X.nx (O.set i (some (.ref c))) (upd H' c (.lst (xs++[u])))|_=>False);rw[g.h _ _ c2];refine⟨c3,?_⟩;have hcf:c∉f:=fun z=>V1.dis p.1 c z c1;obtain⟨fs',g1,g2,g3⟩:=c5 (H':=upd H' c (.lst (ws++[u]))) sF (bV.mono (be.refl _) _ _ _ (fun b hb=>aQ fun z=>hcf (by rw[<-z];exact hb)) V1.r) V1.nd (fun b hb=>V1.dis p.1 b hb) (fun b hb hc=>by
            rw[aQ hc];obtain⟨o,eo,_⟩:=I.ex p.1 b hb;rw[eo,g.h b o eo]) b6
           refine h _ _ _ _ (I1.put c1 hv g1 g2 (fun b hb=>?_) (fun b hb=>?_) fun i hi b hb z=>?_).drop
           ·rcases g3 b hb with q|q
            ·exact I1.nf p.1 b q
            ·exact V1.nf b q
           ·rcases g3 b hb with q|q
            ·exact I1.nh p.1 b q
            ·exact V1.nh b q
           ·rcases g3 b hb with q|q
            ·exact hi (I1.dis i p.1 b z q)
            ·exact V1.dis i b q z
         ·exact h.elim
      ·exact h.elim
     ·exact h.elim
    ·exact h.elim
   ·exact h.elim
  ·exact h.elim
 ·exact h.elim
theorem okB'{Y:List G}(hΓ:cQ K Γp Y){E':XK}{nx:Hp->Prop}{O:L2.St}{fp:Nat->List Addr}:∀(b:CB) {F H:Hp},bx K F0 H0 σd O F H fp->ltB b=true->
 (∀d,pB Γp b σd=.ok d->∀F1 H1,bx K F0 H0 σd O F1 H1 fp->nx H1)->
 (∀x,pB Γp b σd=.ex x->∃C ks xs,x=.exc C ks xs/\qC xs=true/\∀F1 H1 d vs,bx K F0 H0 σd O F1 H1 fp->F1 d=some (gY d (ks.zip vs))->aE K F1 xs vs->E' (.ref C) (some d) H1)->
 (pB Γp b σd=.bad->False)->wB K Y b E' O H nx
|.call g as,F,H,I,lt,h1,h2,h3=>by
 unfold wB;have ep:pB Γp (.call g as) σd=(match Γp[g]? with|some (.fn m dds)=>(dW Γp as σd).fy.bind fun ds=>m (aB ds++dds)|_=>.bad):=rfl;rw[ep]at h1 h2 h3;cases q:Γp[g]? with
 |none=>rw[q]at h3;exact(h3 rfl).elim
 |some p=>
  obtain⟨g',e1,e2⟩:=hΓ.get g q;rw[q]at h1 h2 h3;rw[e1];cases p<;>first|exact(h3 rfl).elim|skip
  cases g'<;>first|exact e2.elim|skip
  rename_i m dds sp dvs;dsimp only at h1 h2 h3 ⊢;refine@nF K Γp Y hΓ ⟨E0⟩ as σd O (adopt F H (ownAt fp (kE as))) H _ (I.env (kE as)) (eG I.g.s) lt ?_;cases e3:dW Γp as σd with
  |ex x=>rw[e3]at h3;exact(h3 rfl).elim
  |bad=>rw[e3]at h3;exact(h3 rfl).elim
  |ok ds=>
   rw[e3]at h1 h2 h3;intro F1 H1 vs f g1 fr r;obtain⟨F2,g2,_,rf⟩:=zP g1 fr r;refine e2.1 _ _ _ _ ⟨F2,aB ds++dds,g2.s,by rw[nE,fE,e2.2.1],aE.app ((aE.aB ds vs).mpr rf) (aE.mono (tW F2) dds dvs e2.2.2),?_⟩;have h1:∀d,m (aB ds++dds)=.ok d->∀F1 H1,bx K F0 H0 σd O F1 H1 fp->nx H1:=h1;have h2:∀x,m (aB ds++dds)=.ex x->_:=h2;have h3:m (aB ds++dds)=.bad->False:=h3;cases em:m (aB ds++dds)with
   |bad=>exact(h3 em).elim
   |ok d=>exact fun F3 H3 v f3 g3 _ _=>h1 d em _ H3 (I.back (g2.trans g3))
   |ex x=>
    obtain⟨C,ks,xs,rfl,hf,hx⟩:=h2 x em;intro F3 H3 d vs3 g3 hd hr;have gg:=g2.trans g3;refine hx _ H3 d vs3 (I.back gg) ?_ (aE.B6 (kF gg.s ((I.lists _).mono gg.h)) xs vs3 hf hr);rw[fC,hd];intro z;obtain⟨o,e,k⟩:=I.lists _ d z;have e':=gg.h _ _ e;rw[gg.s _ _ hd]at e';cases e';rcases k with⟨_,k⟩|⟨_,k⟩<;>cases k
|.ite c a b,F,H,I,lt,h1,h2,h3=>by
 obtain⟨l1,l2⟩:=band' (show(c_ c&&(ltB a&&ltB b))=true from lt);obtain⟨l2,l3⟩:=band' l2;unfold wB;have ep:pB Γp (.ite c a b) σd=(pT Γp c σd).fy.bind fun k=>if k=true then pB Γp a σd else pB Γp b σd:=rfl
 rw[ep]at h1 h2 h3;cases e3:pT Γp c σd with
 |ex x=>rw[e3]at h3;exact(h3 rfl).elim
 |bad=>rw[e3]at h3;exact(h3 rfl).elim
 |ok k=>
  rw[e3]at h1 h2 h3
  letI:Ex:=⟨E0⟩
  refine L3.Qn hΓ I l1 e3 fun F1 H1 I1=>?_;cases k with
  |true=>exact okB' hΓ a I1 l2 h1 h2 h3
  |false=>exact okB' hΓ b I1 l3 h1 h2 h3
theorem WY[Ex]{Y:List G}(hΓ:cQ K Γp Y){O:L2.St}{fp:Nat->List Addr}(I:bx K F0 H0 σd O F H fp)(lt:j7 as=true)(h:cW K F0 H0 (pS Γp n (.rais g as) σd) X):wS K Y Ex.E (.rais g as) X O H:=by
 have h:cW K F0 H0 (match Γp[g]? with
  |some (.cls C fs k)=>(dW Γp as σd).aT fun ds=>if(decide (ds.length+1=k)&&decide (fs.map (·.1)).Nodup)=true then .ex (B4 C fs ds)else .bad
  |_=>.bad) X:=h
 show(match Y[g]? with
  |some (.cls C fs n)=>xT C fs n (wEs K Y Ex.E as) Ex.E X O H
  |_=>False)
 cases q:Γp[g]? with
 |none=>rw[q]at h;exact h.elim
 |some p=>
  obtain⟨g',e1,e2⟩:=hΓ.get g q;rw[q]at h;rw[e1];cases p<;>first|exact h.elim|skip
  cases g'<;>first|exact e2.elim|skip
  rename_i C fs k _ _ _;obtain⟨rfl,rfl,rfl⟩:=e2;dsimp only at h ⊢;unfold xT;rcases kN h with⟨x,e3,hx⟩|⟨ds,e3,h⟩
  ·exact YB hΓ I lt e3 hx
  split at h
  ·rename_i c;obtain⟨c1,c2⟩:=band' c;refine nF hΓ as (I.env (kE as)) (eG I.g.s) lt ?_;rw[e3];intro F1 H1 vs fp1 g1 fr r;obtain⟨F2,g2,_,rf⟩:=zP g1 fr r;refine⟨by rw[rf.len];exact of_decide_eq_true c1,fun d hd=>?_⟩;have h:jh K F0 H0 (B4 C fs ds):=h;have g3:=ve (o:=gY d (mG fs (.non::vs) [])) g2.s hd;have eq:mG fs (.non::vs) []=(fs.map (·.1)).zip (fs.map fun p=>(V.non::vs).getD p.2 .non):=by
    rw[JW fs [] (by simpa using of_decide_eq_true c2),lu,List.zip_map']
   refine h (upd F2 d (gY d (mG fs (.non::vs) []))) _ d (fs.map fun p=>(V.non::vs).getD p.2 .non) (((I.own _).trans g2).trans g3) (by rw[b6,eq]) ?_;have hn:aE K (upd F2 d (gY d (mG fs (.non::vs) []))) (D.non::ds) (V.non::vs):=⟨_,_,rfl,rfl,aE.mono g3.f ds vs rf⟩;exact G5 hn fs
  ·exact h.elim
theorem YF[Ex]{Y:List G}(hΓ:cQ K Γp Y){i:Nat}{O:L2.St}{fp:Nat->List Addr}(I:bx K F0 H0 σd O F H fp)(lt:c_ e=true)(h:cW K F0 H0 (pS Γp n (.aug i e) σd) X):wS K Y Ex.E (.aug i e) X O H:=by
 have h:cW K F0 H0 (match σd[i]? with
  |some (some (.int a))=>(pE Γp e σd).aT fun d=>F9 i a σd d
  |_=>.bad) X:=h
 show ∃x,O[i]?=some (some x)/\wE K Y Ex.E e O H fun y H1=>∃i' j,x=.int i'/\y=.int j/\X.nx (O.set i (some (.int (i'+j)))) H1;split at h
 ·rename_i a q;obtain⟨v,h1,h2⟩:=(I.env [i]).e i (aW.mpr rfl) (.int a) q;obtain rfl:v=.int a:=h2;refine⟨.int a,h1,?_⟩;rcases kN h with⟨x,e1,hx⟩|⟨d,e1,h⟩
  ·exact ym hΓ I lt e1 hx
  unfold F9 at h;split at h
  ·rename_i b;refine runD' hΓ I lt e1 fun w F1 H1 I1 _ V1=>?_;obtain⟨f0,V1⟩:=V1 rfl;obtain⟨rfl,_⟩:=V1.r;exact⟨a,b,rfl,rfl,h _ F1 H1 _ (I1.set (j8.WU (d:=.int (a+b)) (show aU K F1 (.int (a+b)) (.int (a+b))from rfl)) i)⟩
  ·exact h.elim
 ·exact h.elim
mutual
theorem ruS{K:PySem.W.Frag}{Γp:List PG}{Y:List G}(hΓ:cQ K Γp Y)[Ex]{n:Nat}:∀(c:CS) {F0 H0 F H:Hp}{σd:br}{O:L2.St}{fp:Nat->List Addr}{X:Ends},bx K F0 H0 σd O F H fp->Ew c=true->cW K F0 H0 (pS Γp n c σd) X->wS K Y Ex.E c X O H
|.expr e,F0,H0,F,H,σd,O,fp,X,I,lt,h=>okX hΓ I lt h
|.asg g e,F0,H0,F,H,σd,O,fp,X,I,lt,h=>WW hΓ I (band' lt).1 (band' lt).2 h
|.aug i e,F0,H0,F,H,σd,O,fp,X,I,lt,h=>YF hΓ I lt h
|.casg i e,F0,H0,F,H,σd,O,fp,X,I,lt,h=>by
 rcases kN (show cW K F0 H0 ((pE Γp e σd).aT fun d=>.nx ((iw (cK e) (aV d) σd).set i (some d))) X from h)with⟨x,e1,hx⟩|⟨d,e1,h⟩
 ·exact ym hΓ I lt e1 hx
 exact DB hΓ I lt e1 fun v F1 H1 fp1 f I1 V1=>h _ F1 H1 _ (I1.set V1 i)
|.tasg g e,F0,H0,F,H,σd,O,fp,X,I,lt,h=>WW hΓ I (band' lt).1 (band' lt).2 h
|.ret e,F0,H0,F,H,σd,O,fp,X,I,lt,h=>YC hΓ I lt h
|.ifs c a b,F0,H0,F,H,σd,O,fp,X,I,lt,h=>by
 obtain⟨l1,l2⟩:=band' (show(c_ c&&(kX a&&kX b))=true from lt);obtain⟨l2,l3⟩:=band' l2;rcases kN (show cW K F0 H0 ((pT Γp c σd).aT fun k=>if k=true then cU Γp n a σd else cU Γp n b σd) X from h)with⟨x,e1,hx⟩|⟨k,e1,h⟩
 ·exact S1 hΓ I l1 e1 hx
 refine Qn hΓ I l1 e1 fun F1 H1 I1=>?_;cases k with
 |true=>exact yo hΓ a I1 l2 h
 |false=>exact yo hΓ b I1 l3 h
|.whil c b,F0,H0,F,H,σd,O,fp,X,I,lt,h=>by
 obtain⟨l1,l2⟩:=band' (show(c_ c&&kX b)=true from lt);refine⟨fun m O H=>∃σd F fp,bx K F0 H0 σd O F H fp/\cW K F0 H0 (uK (pT Γp c) (cU Γp n b) m σd) X,⟨n,σd,F,fp,I,h⟩,?_⟩;rintro m O H ⟨σd,F,fp,I,h⟩;cases m with
 |zero=>exact h.elim
 |succ m=>
  rcases kN (show cW K F0 H0 ((pT Γp c σd).aT fun k=>if k=true then match cU Γp n b σd with
   |.nx σ3=>uK (pT Γp c) (cU Γp n b) m σ3
   |.ct σ3=>uK (pT Γp c) (cU Γp n b) m σ3
   |.bk σ3=>.nx σ3
   |.rt d=>.rt d
   |.ex x=>.ex x
   |.bad=>.bad
   else .nx σd) X from h)with⟨x,e1,hx⟩|⟨k,e1,h⟩
  ·exact S1 hΓ I l1 e1 hx
  refine Qn hΓ I l1 e1 fun F1 H1 I1=>?_;cases k with
  |false=>
   rw[if_neg aK]at h;rw[if_neg aK];exact h O F1 H1 fp I1
  |true=>
   rw[if_pos rfl]at h;rw[if_pos rfl];refine⟨fun O H=>∃σd F fp,bx K F0 H0 σd O F H fp/\cW K F0 H0 (uK (pT Γp c) (cU Γp n b) m σd) X,fun σ' H' z=>⟨m,jq m,z⟩,?_⟩;refine yo (n:=n) hΓ b I1 l2 ?_;cases q:cU Γp n b σd with
   |nx σ3=>simp only[q]at h;exact fun O F H fp I3=>⟨σ3,F,fp,I3,h⟩
   |ct σ3=>simp only[q]at h;exact fun O F H fp I3=>⟨σ3,F,fp,I3,h⟩
   |bk σ3=>simp only[q]at h;exact h
   |rt d=>simp only[q]at h;exact h
   |ex x=>simp only[q]at h;exact h
   |bad=>simp only[q]at h;exact h.elim
|.forr g src b,F0,H0,F,H,σd,O,fp,X,I,lt,h=>by
 obtain⟨l1,l2⟩:=band' (show(ltI src&&kX b)=true from lt);rcases kN (show cW K F0 H0 ((pI Γp src σd).aT fun items=>forR (pG g) (cU Γp n b) items.2 (iw (vd src) items.1 σd)) X from h)with⟨x,e1,hx⟩|⟨items,e1,h⟩
 ·exact YA hΓ I l1 e1 hx
 refine WR hΓ src (ownAt fp (vd src)) (I.env (vd src)) (eG I.g.s) (I.lists _) l1 ?_;rw[e1];intro F' H' ok its g1 hok hi hl;obtain⟨fp',I'⟩:∃fp',bx K F0 H0 (iw (vd src) items.1 σd) O (rH items.1 F' (ownAt fp (vd src))) H' fp':=by
  cases items.1 with
  |true=>exact⟨fp,I.back g1⟩
  |false=>exact⟨_,I.WT g1⟩
 have hf:aB items.2=items.2:=WX e1;have h:=cW.rebase I'.g h;rw[<-hf]at h;exact Lf hok (fun I3 h3=>yo hΓ b I3 l2 h3) items.2 its I'.rebase hi h
|.brk,F0,H0,F,H,σd,O,fp,X,I,lt,h=>h O F H fp I
|.cont,F0,H0,F,H,σd,O,fp,X,I,lt,h=>h O F H fp I
|.never,F0,H0,F,H,σd,O,fp,X,I,lt,h=>h.elim
|.rais g as,F0,H0,F,H,σd,O,fp,X,I,lt,h=>WY hΓ I lt h
|.tri i g b hd,F0,H0,F,H,σd,O,fp,X,I,lt,h=>by
 obtain⟨l1,l2⟩:=band' (show(ltB b&&kX hd)=true from lt);have h:cW K F0 H0 (match Γp[g]? with
  |some (.exb Cs)=>match pB Γp b σd with
   |.ok _=>.nx σd
   |.ex (.exc C ks xs)=>if(decide (C∈Cs)&&qC xs)=true then GY i (cU (Γp.map PG.hand) n hd (σd.set i (some (.exc C ks xs))))else .bad
   |_=>.bad
  |_=>.bad) X:=h
 show(match Y[g]? with
  |some (.exb B _)=>Gr K i B (wB K Y b) (wSs K (Y.map G.hand) E0 hd) X O H
  |_=>False)
 cases q:Γp[g]? with
 |none=>rw[q]at h;exact h.elim
 |some p=>
  obtain⟨g',e1,e2⟩:=hΓ.get g q;rw[q]at h;rw[e1];cases p<;>first|exact h.elim|skip
  cases g'<;>first|exact e2.elim|skip
  rename_i Cs B _;obtain⟨rfl,hmro⟩:=e2;dsimp only at h ⊢;unfold Gr;refine okB' hΓ b I l1 (fun d e F1 H1 I1=>?_) (fun x e=>?_) (fun e=>?_)
  ·rw[e]at h;exact h O F1 H1 fp I1
  ·rw[e]at h;cases x<;>first|exact h.elim|skip
   rename_i C ks xs;dsimp only at h;split at h
   ·rename_i c;obtain⟨c1,c2⟩:=band' c;refine⟨C,ks,xs,rfl,c2,fun F1 H1 d vs I1 hd' hr=>⟨C,rfl,hmro C (of_decide_eq_true c1),fun e he=>?_⟩⟩;have g2:=ve (o:=iu false e C (some d)) I1.g.s he;have I2:=I1.grow g2;have V2:j8 K H0 (upd F1 e (iu false e C (some d))) (upd H1 e (iu false e C (some d))) fp (.exc C ks xs) (.ref e) []:=
     ⟨⟨⟨e,d,vs,rfl,b6,g2.f _ _ hd',aE.mono g2.f xs vs hr⟩,rfl⟩,gW,fun _ z=>absurd z aR,fun _ z=>absurd z aR,fun _ _ z=>absurd z aR⟩
    refine@yo K (Γp.map PG.hand) (Y.map G.hand) hΓ.hand ⟨E0⟩ n hd _ _ _ _ _ _ _ _ (I2.set V2 i) l2 ?_;cases q2:cU (Γp.map PG.hand) n hd (σd.set i (some (.exc C ks xs)))with
    |nx σ2=>rw[q2]at h;exact fun O F H fp I3=>h _ F H fp I3.drop
    |rt d=>rw[q2]at h;exact h
    |bk σ2=>rw[q2]at h;exact h.elim
    |ct σ2=>rw[q2]at h;exact h.elim
    |ex x=>rw[q2]at h;exact h.elim
    |bad=>rw[q2]at h;exact h.elim
   ·exact h.elim
  ·rw[e]at h;exact h.elim
theorem yo{K:PySem.W.Frag}{Γp:List PG}{Y:List G}(hΓ:cQ K Γp Y)[Ex]{n:Nat}:∀(c:cC) {F0 H0 F H:Hp}{σd:br}{O:L2.St}{fp:Nat->List Addr}{X:Ends},bx K F0 H0 σd O F H fp->kX c=true->cW K F0 H0 (cU Γp n c σd) X->wSs K Y Ex.E c X O H
|.nil,F0,H0,F,H,σd,O,fp,X,I,lt,h=>h O F H fp I
|.cons s r,F0,H0,F,H,σd,O,fp,X,I,lt,h=>by
 obtain⟨l1,l2⟩:=band' (show(Ew s&&kX r)=true from lt);have h:cW K F0 H0 (match pS Γp n s σd with|.nx σ'=>cU Γp n r σ'|x=>x) X:=h;refine ruS (n:=n) hΓ s I l1 ?_;cases q:pS Γp n s σd with
 |nx σ'=>simp only[q]at h;exact fun O F H fp I'=>yo hΓ r I' l2 h
 |bk σ'=>simp only[q]at h;exact h
 |ct σ'=>simp only[q]at h;exact h
 |rt d=>simp only[q]at h;exact h
 |ex x=>simp only[q]at h;exact h
 |bad=>simp only[q]at h;exact h.elim
|.two s t r,F0,H0,F,H,σd,O,fp,X,I,lt,h=>by
 obtain⟨l1,l2⟩:=band' (show(Ew s&&(Ew t&&kX r))=true from lt);obtain⟨l2,l3⟩:=band' l2;have h:cW K F0 H0 (match v9 Γp s t σd with|.nx σ'=>cU Γp n r σ'|x=>x) X:=h;show wS K Y Ex.E s { X with nx:=wS K Y Ex.E t { X with nx:=wSs K Y Ex.E r X } } O H;refine YE (X:={ X with nx:=wSs K Y Ex.E r X }) hΓ I l2 ?_;cases q:v9 Γp s t σd with
 |nx σ'=>simp only[q]at h;exact fun O F H fp I'=>yo hΓ r I' l3 h
 |bk σ'=>simp only[q]at h;exact h
 |ct σ'=>simp only[q]at h;exact h
 |rt d=>simp only[q]at h;exact h
 |ex x=>simp only[q]at h;exact h
 |bad=>simp only[q]at h;exact h.elim
end
theorem Uy[Ex]{K:PySem.W.Frag}{Γp:List PG}{Y:List G}(hΓ:cQ K Γp Y){n:Nat}{N:List Str}{c:cC}(lt:kX c=true){m:List D->R D}{vs:List V}{H:Hp}{Q:VK}(hm:∀ds,m ds≠.bad->ds.length<=N.length/\GZ Γp n N c ds=m ds)
  (h:∃F ds,be F H/\aB ds=ds/\aE K F ds vs/\PV K F H (m ds) Q):wSs K Y Ex.E c { nx:=fun _ H'=>Q .non H',rt:=Q } (vs.map some++aO (N.length-vs.length) none) H:=by
 obtain⟨F,ds,s,hz,r,h⟩:=h;have hb:m ds≠.bad:=fun z=>by rw[z]at h;exact h
 obtain⟨hl,hr⟩:=hm ds hb;rw[<-hr]at h;have I:bx K F H (vg N ds) (vs.map some++aO (N.length-vs.length) none) F H (fun _=>[]):=by
  refine⟨bT.refl s,?_,fun i d' q=>?_,fun _ _ ha=>absurd ha aR,fun _=>gW,fun _ _ ha=>absurd ha aR,fun _ _ ha=>absurd ha aR,fun _ _ _ ha=>absurd ha aR⟩
  ·unfold vg;simp[r.len]
  ·unfold vg at q;by_cases hi:i<ds.length
   ·rw[fu (by simpa using hi),bD]at q;cases z:ds[i]? with
    |none=>rw[z]at q;cases q
    |some d2=>
     rw[z]at q;cases q;obtain⟨v,e1,e2⟩:=r.get i z;have hf:bz d'=d':=by
      have:∀(l:List D) (i:Nat) (x:D),aB l=l->l[i]?=some x->bz x=x:=by
       intro l;induction l with
       |nil=>intro i x _ h;simp at h
       |cons y l ih=>
        intro i x h1 h2;have h1:bz y::aB l=y::l:=h1;injection h1 with h3 h4;cases i with
        |zero=>simp at h2;subst h2;exact h3
        |succ i=>exact ih i x h4 (by simpa using h2)
      exact this ds i d' hz z
     refine⟨v,?_,?_⟩
     ·rw[fu (by simp[r.len,hi]),bD,e1];rfl
     ·have:=aU.Ar (H:=H) d' v e2;rw[hf]at this;exact this
   ·rw[c8 (by simpa using hi)]at q;rw[tM]at q;split at q<;>cases q
 refine yo (n:=n) hΓ c I lt ?_;unfold GZ at h;cases q:cU Γp n c (vg N ds)with
 |nx O=>rw[q]at h;exact fun O F' H' fp I'=>h F' H' .non [] I'.g .nil ⟨rfl,rfl⟩
 |rt d'=>rw[q]at h;exact fun v F' H' f g fr rx=>h F' H' v f g fr rx
 |ex x=>rw[q]at h;exact h
 |bk O=>rw[q]at h;exact h.elim
 |ct O=>rw[q]at h;exact h.elim
 |bad=>rw[q]at h;exact h.elim
def FZ(K:PySem.W.Frag)(mg:Str->Option Value)(x:Str)(st:Stmt)(ps:List Str):Prop:=
 ∃(f:Addr) (fd:fO),qT K x x st f fd/\mg x=some (.ref f)/\Binds K fd ps []
variable{P:bH}{w:bY}{mg:Str->Option Value}{base:Heap}{st:Stmt}{ps:List Str}
theorem FZ.has{k:Nat}{x:Str}{sp:Sp}(D:FZ K mg x st ps)
  (hok:∀f fd,qT K x x st f fd->fN P w K mg base (ko P w) k f fd ps sp):GJ P w K mg base k x (.fn sp []):=by
 obtain⟨f,fd,F,hm,hb⟩:=D;exact⟨f,fd,ps,[],hok f fd F,hm,F.kp,hb,.nil⟩
noncomputable def dJ(Γp:List PG)(n:Nat)(N:List Str)(k:Nat)(c:cC)(ds:List D):R D:=if ds.length=k then GZ Γp n N c ds else .bad
variable{qual:Str}{fd:fO}
section
variable{P:bH}{w:bY}{K:PySem.W.Frag}{mg:Str->Option Value}{base:Heap}
theorem YG{x:Str}{f:Addr}{N gl bn:List Str}{k:Nat}{Y:List G}(c:cC)(F:qT K x qual st f fd)(S:l9 N ps (ck st))(hc:oq ⟨N,ck st,gl,bn,(fun _=>true),true⟩ c (gc st)=true)
  (hg:A7 P w K mg base k gl Y) (hΓ:cQ K Γp Y) (lt:kX c=true) (hb:∀x∈bn,mg x=none) (hN:ps.length<=N.length):fN P w K mg base (ko P w) (k+1) f fd ps (GO K (dJ Γp n N ps.length c)):=by
 have hm:∀ds,dJ Γp n N ps.length c ds≠.bad->ds.length=ps.length/\GZ Γp n N c ds=dJ Γp n N ps.length c ds:=by
  intro ds h;unfold dJ at h ⊢;by_cases e:ds.length=ps.length
  ·rw[if_pos e];exact⟨e,rfl⟩
  ·rw[if_neg e]at h;exact absurd rfl h
 refine WG c F S hc hg hb ?_ ?_
 ·rintro vs H Q E ⟨Fh,ds,s,hz,r,h⟩;rw[r.len];exact(hm ds fun z=>by rw[z]at h;exact h).1
 ·intro vs H Q E h;exact@Uy ⟨E⟩ K Γp Y hΓ n N c lt _ vs H Q (fun ds e=>⟨by rw[(hm ds e).1];exact hN,(hm ds e).2⟩) h
end
noncomputable def Qq:Value->Bool
|.type n=>n=="list"
|_=>false
theorem YH{a:Addr}{xs:List V}(nk:(K.all fun p=>!Qq p.2.cls)=true)(h:gO K H a xs):Rd H a (.lst xs):=by
 rcases h with h|⟨o,its,n,hk,hc,_⟩
 ·exact h
 ·exfalso;have hm:∀(K:PySem.W.Frag),K.lookup a=some o->(a,o)∈K:=by
   intro K;induction K with
   |nil=>intro z;cases z
   |cons p r ih=>
    intro z;obtain⟨b,u⟩:=p;rw[cJ]at z;split at z
    ·rename_i e;have e:=eq_of_beq e;cases z;subst e;exact ao
    ·exact ai _ (ih z)
  have q:=bF.mp nk _ (hm K hk);rw[hc]at q;exact absurd q (by decide)
noncomputable def jz(ns:List Int):D:=.lst false (ns.map D.int)
theorem EA:∀ns:List Int,aE K H (ns.map D.int) (ns.map V.int)
|[]=>rfl
|n::r=>⟨_,_,rfl,rfl,EA r⟩
theorem EB:∀ns:List Int,aB (ns.map D.int)=ns.map D.int
|[]=>rfl
|n::r=>by show D.int n::aB (r.map D.int)=_;rw[EB r];rfl
theorem WZ{k:Nat}{f:Addr}{m:List D->R D}(F:fN P w K mg base (ko P w) k f fd ps (GO K m))
  (h:∀ns:List Int,ns.length<=63->m [jz ns]=.ok (.bl true)):fN P w K mg base Al k f fd ps (fun vs H Q E=>∃(a:Addr) (ns:List Int),vs=[.ref a]/\Rd H a (.lst (ns.map V.int))/\ns.length<=63/\∀H',Q (.bl true) H'):=by
 refine(L3.fN.calm F).imp ?_;rintro vs H Q E ⟨a,ns,rfl,hS,hl,q⟩;have hs:=szl;refine⟨H,[jz ns],be.refl H,?_,⟨_,_,rfl,⟨a,ns.map V.int,rfl,hS,by rw[ah];omega,EA ns⟩,rfl⟩,?_⟩
 ·show[D.lst false (aB (ns.map D.int))]=_;rw[EB];rfl
 ·rw[h ns hl];intro F' H' v fp g fr r;obtain⟨rfl,_⟩:=r;exact q H'
theorem EC{a:α}{f:α->R β}:(R.ok a).bind f=f a:=rfl
theorem pq_thn_ok'{a:α}{f:α->Fl}:(R.ok a).aT f=f a:=rfl
theorem M1{f:α->Fl}:(R.ex x:R α).aT f=Fl.ex x:=rfl
theorem pq_thnL_ok'{a:α}{f:α->Fl}:(R.ok a).sN b f=f a:=rfl
theorem M2{a:α}:(R.ok a).fy=R.ok a:=rfl
theorem Uz:yl (some (some (.lst true xs)))=true:=rfl
theorem Au{a:α}:R.opt (some a)=R.ok a:=rfl
theorem Qs{r:R α}:R.bw true r=r:=rfl
theorem M3{r:R α}(h:n<=aa):R.bw (decide (n<=aa)) r=r:=by
 rw[decide_eq_true h];rfl
variable{j:Int}
theorem Qt:dN .Add (.int i) (.int j)=.ok (.int (i+j)):=rfl
theorem Qu:dN .Sub (.int i) (.int j)=.ok (.int (i-j)):=rfl
theorem Qv(h:ux i j):dN .Mult (.int i) (.int j)=.ok (.int (i*j)):=by
 show R.bw (decide (ux i j)) _=_;rw[decide_eq_true h];rfl
theorem Qw(h:sD i j):dN .FloorDiv (.int i) (.int j)=.ok (.int (i / j)):=by
 show R.bw (decide (sD i j)) _=_;rw[decide_eq_true h];rfl
theorem Qx(h:0<j):dN .Mod (.int i) (.int j)=.ok (.int (i%j)):=by
 show R.bw (decide (0<j)) _=_;rw[decide_eq_true h];rfl
theorem Qy(h:0<=j):dN .RShift (.int i) (.int j)=.ok (.int (i / 2 ^ j.toNat)):=by
 show R.bw (decide (0<=j)) _=_;rw[decide_eq_true h];rfl
theorem G6{x y:Str}(h:x.length+y.length<=aa):dN .Add (.str x) (.str y)=.ok (.str (x++y)):=by
 show R.bw (decide (x.length+y.length<=aa)) _=_;rw[decide_eq_true h];rfl
theorem G7{x:Str}(h:0<=j/\j<2 ^ 40/\x.length*j.toNat<=aa):dN .Mult (.str x) (.int j)=.ok (.str (BZ x j.toNat)):=by
 show R.bw (decide (0<=j/\j<2 ^ 40/\x.length*j.toNat<=aa)) _=_;rw[decide_eq_true h];rfl
variable{ys:List D}
theorem nN{o':Bool}(h:xs.length+ys.length<=aa):dN .Add (.lst o xs) (.lst o' ys)=.ok (.lst true (aB xs++aB ys)):=by
 show R.bw (decide (xs.length+ys.length<=aa)) _=_;rw[decide_eq_true h];rfl
theorem UA:bK .Lt (.int i) (.int j)=.ok (.bl (decide (i<j))):=rfl
theorem Qz:bK .LtE (.int i) (.int j)=.ok (.bl (decide (i<=j))):=rfl
theorem UB:bK .Gt (.int i) (.int j)=.ok (.bl (decide (j<i))):=rfl
theorem QB:bK .GtE (.int i) (.int j)=.ok (.bl (decide (j<=i))):=rfl
theorem M4{x y:Str}:bK .LtE (.str x) (.str y)=.ok (.bl (!decide (y.cps.toList<x.cps.toList))):=rfl
theorem M5:bK .Eq (.int i) (.int j)=.ok (.bl (i==j)):=rfl
theorem M6:bK .NotEq (.int i) (.int j)=.ok (.bl (!(i==j))):=rfl
theorem M7{x:Str}{y:Str}:bK .Eq (.str x) (.str y)=.ok (.bl (x==y)):=rfl
theorem M8{x:Str}{y:Str}:bK .NotEq (.str x) (.str y)=.ok (.bl (!(x==y))):=rfl
theorem UC:bK .Is x .non=.ok (.bl (gf x)):=rfl
theorem Lg:bK .IsNot x .non=.ok (.bl (!gf x)):=rfl
theorem pP(h:cX x=true)(h':cX y=true):bK .Eq x y=.ok (.bl (jC x y)):=by
 show R.bw (cX x&&cX y) _=_;rw[h,h'];rfl
theorem JX(h:cX x=true)(h':cX y=true):bK .NotEq x y=.ok (.bl (!jC x y)):=by
 show R.bw (cX x&&cX y) _=_;rw[h,h'];rfl
theorem G8(h:cX x=true)(h':iR ys=true):bK .In x (.lst o ys)=.ok (.bl (memD x ys)):=by
 show R.bind (R.bw (cX x&&iR ys) _) _=_;rw[h,h'];rfl
theorem UD:iX (.bl b)=.ok b:=rfl
variable{z:Str}
theorem QC:u_ (.str z) (.int i)=(R.opt (e_ z.cps.toList i)).bind fun c=>.ok (.str ⟨#[c]⟩):=rfl
theorem QD:u_ (.lst o xs) (.int i)=(R.opt (e_ xs i)).bind fun d=>.ok (bz d):=rfl
theorem QE:u_ (.tup xs) (.int i)=(R.opt (e_ xs i)).bind fun d=>.ok (bz d):=rfl
theorem QF:JK (.str z) lo hi=.ok (.str ⟨(cut z.cps.toList lo hi).toArray⟩):=rfl
theorem QG:JK (.lst o xs) lo hi=.ok (.lst true (aB (cut xs lo hi))):=rfl
theorem M9:kD .len [.str z]=.ok (.int z.length):=rfl
theorem M_:kD .len [.lst o xs]=.ok (.int xs.length):=rfl
theorem QH:kD .all [.lst o xs]=R.bw (xs.all qh) (.ok (.bl (xs.all rF))):=rfl
theorem Na:kD .int [.bl b]=.ok (.int (if b then 1 else 0)):=rfl
theorem B7(h:z.length<=5592405)(h':(nW z).length<=aa):jg .upper (.str z) []=.ok (.str (nW z)):=by
 show R.bw (decide (z.length<=5592405)&&decide ((nW z).length<=aa)) _=_;rw[decide_eq_true h,decide_eq_true h'];rfl
variable{q:Str}
theorem IU:jg .startswith (.str z) [.str q]=.ok (.bl (q.cps.toList.isPrefixOf z.cps.toList)):=rfl
theorem Lh(h:q.length=1)(h':z.length+2<=aa):jg .split (.str z) [.str q]=.ok (.lst true (sM (q.cps.getD 0 0) z.cps.toList)):=by
 show R.bw (decide (q.length=1)&&decide (z.length+2<=aa)) _=_;rw[decide_eq_true h,decide_eq_true h'];rfl
theorem ED:jg .join (.str z) [.lst o ys]=(R.opt (kC ys)).bind fun ss=>R.bw (decide ((ss.map (·.length)).sum+ss.length*z.length<=aa)) (.ok (.str (ee z ss))):=rfl
theorem QI:pN (.str z)=.ok (vc z):=rfl
theorem QJ:pN (.lst o xs)=.ok (aB xs):=rfl
theorem QK:pN (.tup xs)=.ok (aB xs):=rfl
theorem Nb(h:-(2 ^ 62)<=j/\j.toNat<=aa):oz [.int j]=.ok (jD 0 j.toNat):=by
 show R.bw (decide (-(2 ^ 62)<=j/\j.toNat<=aa)) _=_;rw[decide_eq_true h];rfl
theorem Nc(h:-(2 ^ 62)<=i/\i<2 ^ 62/\-(2 ^ 62)<=j/\j<2 ^ 62/\(j-i).toNat<=aa):oz [.int i,.int j]=.ok (jD i (j-i).toNat):=by
 show R.bw (decide (-(2 ^ 62)<=i/\i<2 ^ 62/\-(2 ^ 62)<=j/\j<2 ^ 62/\(j-i).toNat<=aa)) _=_;rw[decide_eq_true h];rfl
theorem QL:yd .non=.ok .non:=rfl
theorem UE:yd (.bl b)=.ok (.bl b):=rfl
theorem QM:yd (.int i)=.ok (.int i):=rfl
theorem QN{x:Str}:yd (.str x)=.ok (.str x):=rfl
theorem QO:bz .non=.non:=rfl
theorem UG:bz (.bl b)=.bl b:=rfl
theorem QR:bz (.int i)=.int i:=rfl
theorem QS{x:Str}:bz (.str x)=.str x:=rfl
theorem QT:bz (.lst o xs)=.lst false (aB xs):=rfl
theorem QU:bz (.tup xs)=.tup (aB xs):=rfl
theorem Nd:aB []=[]:=rfl
theorem Li{r:List D}:aB (d::r)=bz d::aB r:=rfl
theorem QV:aV .non=true:=rfl
theorem UH:aV (.bl b)=true:=rfl
theorem QW:aV (.int i)=true:=rfl
theorem QX{x:Str}:aV (.str x)=true:=rfl
theorem QY:aV (.lst o xs)=(o&&cE xs):=rfl
theorem QZ:aV (.tup xs)=cE xs:=rfl
theorem Nf:cE []=true:=rfl
theorem Lj{r:List D}:cE (d::r)=(aV d&&cE r):=rfl
variable{O:br}
theorem W0:iw is true O=O:=rfl
theorem W5:iw is false O=nc is O:=rfl
theorem Ng:nc [] O=O:=rfl
theorem Lk{i:Nat}:nc (i::is) O=nc is (nG i O):=rfl
theorem UI{o:Option D}{r:br}:nG 0 (o::r)=o.map bz::r:=rfl
theorem UJ{o:Option D}{r:br}:nG (n+1) (o::r)=o::nG n r:=rfl
theorem UK:Ba (.ex x)=.ex x:=rfl
theorem UL:Ba (.rt d)=.ok d:=rfl
noncomputable def B8(O:br)(i:Nat):R D:=match O[i]? with
|some (some d)=>.ok (bz d)
|_=>.bad
noncomputable def zR(O:br)(i:Nat):R D:=match O[i]? with
|some (some d)=>.ok d
|_=>.bad
noncomputable def nH(x:Fl)(f:br->Fl):Fl:=match x with
|.nx O=>f O
|x=>x
noncomputable def Ll(Y:List PG)(g:Nat):R D:=match Y[g]? with
|some (.val d)=>.ok (bz d)
|_=>.bad
noncomputable def Bd(Y:List PG)(g:Nat)(r:R (List D)):R D:=match Y[g]? with
|some (.fn m dds)=>r.bind fun ds=>m (aB ds++dds)
|_=>.bad
noncomputable def Lm{α:Type}(c:R Bool)(a b:R α):R α:=c.bind fun k=>if k=true then a else b
noncomputable def Zh(c:R Bool)(a b:Fl):Fl:=c.aT fun k=>if k=true then a else b
noncomputable def W6(x:D)(b:R D):R D:=match x with
|.bl c=>if c=true then b else .ok (.bl false)
|_=>.bad
noncomputable def Zi(x:D)(b:R D):R D:=match x with
|.bl c=>if c=true then .ok (.bl true)else b
|_=>.bad
noncomputable def W7:D->R D
|.int i=>.ok (.int (-i))
|_=>.bad
noncomputable def W8:D->R (Option Int)
|.int i=>.ok (some i)
|_=>.bad
noncomputable def Zj(z:D)(r:R D):R D:=match z with
|.bl k=>if k=true then r else .ok (.bl false)
|_=>.bad
noncomputable def Zk(z:D)(r:R Bool):R Bool:=match z with
|.bl k=>if k=true then r else .ok false
|_=>.bad
noncomputable def W9:D->R Bool
|.bl k=>.ok k
|_=>.bad
noncomputable def Zl:D->R (Bool×List D)
|.lst o xs=>.ok (aV (.lst o xs),fB 0 (aB xs))
|_=>.bad
noncomputable def Q0(k:Nat)(vs:List Nat)(O:br)(d:D):Fl:=match O[k]? with
|some (some (.lst true xs))=>if(decide (xs.length<aa)&&(aV d||!vs.contains k))=true then .nx ((iw vs (aV d) O).set k (some (.lst true (xs++[d]))))else .bad
|_=>.bad
noncomputable def iJ(k:Nat)(vs:List Nat)(O:br)(d j:D):Fl:=match O[k]? with
|some (some x)=>if(aV d||!vs.contains k)=true then(R.opt (putIn x d j)).aT fun x'=>.nx ((iw vs (aV d) O).set k (some x'))else .bad
|_=>.bad
noncomputable def Ln(Y:List PG)(g:Nat)(r:R (List D)):Fl:=match Y[g]? with
|some (.cls C fs k)=>r.aT fun ds=>if(decide (ds.length+1=k)&&decide (fs.map (·.1)).Nodup)=true then .ex (B4 C fs ds)else .bad
|_=>.bad
noncomputable def Z3(Y:List PG)(n i g:Nat)(h:cC)(O:br)(r:R D):Fl:=match Y[g]? with
|some (.exb Cs)=>match r with
 |.ok _=>.nx O
 |.ex (.exc C ks xs)=>if(decide (C∈Cs)&&qC xs)=true then GY i (cU (Y.map PG.hand) n h (O.set i (some (.exc C ks xs))))else .bad
 |_=>.bad
|_=>.bad
theorem Q2{r:br}:B8 (some d::r) 0=.ok (bz d):=rfl
theorem Q3{o:Option D}{r:br}:B8 (o::r) (n+1)=B8 r n:=rfl
theorem Nh{r:br}:zR (some d::r) 0=.ok d:=rfl
theorem Ni{o:Option D}{r:br}:zR (o::r) (n+1)=zR r n:=rfl
theorem EE{f:br->Fl}:nH (.nx O) f=f O:=rfl
theorem Nj{f:br->Fl}:nH (.rt d) f=.rt d:=rfl
theorem Nk{f:br->Fl}:nH (.ex x) f=.ex x:=rfl
theorem Nl{f:br->Fl}:nH (.ct O) f=.ct O:=rfl
variable{r:List PG}
theorem UM:Ll (.val d::r) 0=.ok (bz d):=rfl
theorem UN{o:PG}:Ll (o::r) (n+1)=Ll r n:=rfl
theorem UO{m:List D->R D}{dds:List D}{x:R (List D)}:Bd (.fn m dds::r) 0 x=x.bind fun ds=>m (aB ds++dds):=rfl
theorem UP{o:PG}{x:R (List D)}:Bd (o::r) (n+1) x=Bd r n x:=rfl
theorem Nm{k:Bool}{a b:R α}:Lm (.ok k) a b=if k=true then a else b:=rfl
theorem Q4{k:Bool}{a b:Fl}:Zh (.ok k) a b=if k=true then a else b:=rfl
theorem Nn{c:Bool}{b:R D}:W6 (.bl c) b=if c=true then b else .ok (.bl false):=rfl
theorem Q5{c:Bool}{b:R D}:Zi (.bl c) b=if c=true then .ok (.bl true)else b:=rfl
theorem Q6:W7 (.int i)=.ok (.int (-i)):=rfl
theorem Q7:W8 (.int i)=.ok (some i):=rfl
theorem Q8{k:Bool}{r:R D}:Zj (.bl k) r=if k=true then r else .ok (.bl false):=rfl
theorem Np{k:Bool}{r:R Bool}:Zk (.bl k) r=if k=true then r else .ok false:=rfl
theorem Q9{k:Bool}:W9 (.bl k)=.ok k:=rfl
theorem UQ:Zl (.lst o xs)=.ok (aV (.lst o xs),fB 0 (aB xs)):=rfl
variable{Y:List PG}
theorem G9{i:Nat}:pE Y (.var i) O=B8 O i:=rfl
theorem Q_:pE Y (.con v) O=yd v:=rfl
theorem Ra:pE Y (.glo g) O=Ll Y g:=rfl
theorem nJ{op:kK}{b:CE}:pE Y (.bin op a b) O=(pE Y a O).bind fun x=>(pE Y b O).bind fun y=>dN op x y:=rfl
theorem DC{ss:List Str}(h:kC ds=some ss)(h2:ss.length<4000):zO (.lst o ds)=.ok (.int (m9 ss).length):=by
 show(match kC ds with|some ss=>R.bw (decide (ss.length<4000)) (R.ok (D.int (m9 ss).length))|none=>.bad)=_;rw[h];show R.bw (decide _) _=_;rw[decide_eq_true h2];rfl
theorem Nq:pE Y (.nset a) O=(pE Y a O).bind zO:=rfl
theorem Rb:pE Y (.neg a) O=(pE Y a O).bind W7:=by
 show(pE Y a O).bind _=_;congr
theorem Rc:pE Y (.not a) O=(pE Y a O).bind fun x=>(iX x).bind fun b=>.ok (.bl (!b)):=rfl
theorem Rf{b:CE}:pE Y (.and a b) O=(pE Y a O).bind fun x=>W6 x (pE Y b O):=rfl
theorem UR{b:CE}:pE Y (.or a b) O=(pE Y a O).bind fun x=>Zi x (pE Y b O):=rfl
variable{c:CE}
theorem Rg{b:CE}:pE Y (.ite c a b) O=Lm (pT Y c O) (pE Y a O) (pE Y b O):=rfl
theorem Rh{b:CE}:pE Y (.cmp op a b) O=(pE Y a O).bind fun x=>(pE Y b O).bind fun y=>bK op x y:=rfl
variable{o1 o2:qz}
theorem Lo{b:CE}:pE Y (.chain o1 o2 a b c) O=(pE Y a O).bind fun x=>(pE Y b O).bind fun y=>(bK o1 x y).bind fun z=>Zj z ((pE Y c O).bind fun u=>bK o2 y u):=rfl
theorem Nr:pE Y (.call g as) O=Bd Y g (dW Y as O):=rfl
theorem Ri{f:Bf}:pE Y (.blt f as) O=(dW Y as O).bind (kD f):=rfl
theorem Rj{o:CE}:pE Y (.mth m o as) O=(pE Y o O).bind fun x=>(dW Y as O).fy.bind fun ds=>jg m x ds:=rfl
theorem US{b:CE}:pE Y (.ix a b) O=(pE Y a O).bind fun x=>(pE Y b O).bind fun y=>u_ x y:=rfl
theorem UT{lo hi:CO}:pE Y (.sl a lo hi) O=(pE Y a O).bind fun x=>(pO Y lo O).bind fun l=>(pO Y hi O).bind fun h=>JK x l h:=rfl
theorem G_:pE Y (.lst as) O=(dW Y as O).bind fun ds=>R.bw (decide (ds.length<=aa)) (.ok (.lst true ds)):=by
 rfl
theorem Rk:pE Y (.tup as) O=(dW Y as O).bind fun ds=>R.bw (decide (ds.length<=aa)) (.ok (.tup ds)):=by
 rfl
variable{elt:CE}{tg:CG}{cond:CO}
theorem EF:pE Y (.comp nl fr elt tg src cond) O=(pI Y src O).bind fun items=>(dg (pG tg) (pC Y cond) (pE Y elt) items.2 (nl.map (fun _=>none)++fr.map (fun i=>O.getD i none))).fy.bind fun ds=>.ok (.lst true ds):=rfl
theorem Rl:pT Y (.not a) O=(pT Y a O).bind fun b=>.ok (!b):=rfl
theorem Rm{b:CE}:pT Y (.and a b) O=Lm (pT Y a O) (pT Y b O) (.ok false):=rfl
theorem UU{b:CE}:pT Y (.or a b) O=Lm (pT Y a O) (.ok true) (pT Y b O):=rfl
theorem Rn{b:CE}:pT Y (.cmp op a b) O=(pE Y a O).bind fun x=>(pE Y b O).bind fun y=>(bK op x y).bind W9:=rfl
theorem Lp{b:CE}:pT Y (.chain o1 o2 a b c) O=(pE Y a O).bind fun x=>(pE Y b O).bind fun y=>(bK o1 x y).bind fun z=>Zk z ((pE Y c O).bind fun u=>(bK o2 y u).bind W9):=rfl
theorem Nt:pT Y (.call g as) O=(Bd Y g (dW Y as O)).bind iX:=by
 show(match Y[g]? with|some (.fn m dds)=>((dW Y as O).bind fun ds=>m (aB ds++dds)).bind iX|_=>.bad)=_;unfold Bd;cases Y[g]? with
 |none=>rfl
 |some p=>cases p<;>rfl
theorem UW{b:CE}:pT Y (.ix a b) O=((pE Y a O).bind fun x=>(pE Y b O).bind fun y=>u_ x y).bind iX:=rfl
theorem Ro{o:CE}:pT Y (.mth m o as) O=(pE Y o O).bind fun x=>(dW Y as O).fy.bind fun ds=>(jg m x ds).bind iX:=rfl
theorem Nu:dW Y .nil O=.ok []:=rfl
theorem oB{r:iP}:dW Y (.cons a r) O=(pE Y a O).bind fun x=>(dW Y r O).bind fun xs=>.ok (x::xs):=rfl
theorem Nv:pO Y .none O=.ok none:=rfl
theorem Nx:pO Y (.some a) O=(pE Y a O).bind W8:=rfl
theorem Ny:pC Y .none=fun _=>.ok true:=rfl
theorem Nz:pC Y (.some a)=pT Y a:=rfl
theorem NB{i:Nat}:pG (.name i) d O=.ok (O.set i (some d)):=rfl
variable{gs:qB}
theorem Rp:pG (.tup gs) (.tup ds) O=R.bw (decide (ds.length=gs.len)) (w4 gs ds O):=rfl
theorem NC:w4 .nil [] O=.ok O:=rfl
theorem Lq{g:CG}{r:qB}{dr:List D}:w4 (.cons g r) (d::dr) O=(pG g d O).bind fun σ'=>w4 r dr σ':=rfl
theorem Hf:pI Y (.seq a) O=(pE Y a O).bind fun x=>(pN x).bind fun ds=>.ok (aV x,ds):=rfl
theorem Lr:pI Y (.range as) O=(dW Y as O).bind fun xs=>(oz xs).bind fun ds=>.ok (true,ds):=rfl
theorem Rq:pI Y (.zip as) O=(dW Y as O).bind v5:=rfl
theorem UX{p:Bool}:v5 [.lst o xs,.lst p ys]=.ok (false,uJ (aB xs) (aB ys)):=rfl
theorem ND:pI Y (.enum a) O=(pE Y a O).bind Zl:=by
 show(pE Y a O).bind _=_;congr 1;funext x;cases x<;>rfl
theorem NF:cU Y n .nil O=.nx O:=rfl
theorem oE{r:cC}:cU Y n (.cons s r) O=nH (pS Y n s O) (cU Y n r):=by
 show(match pS Y n s O with|.nx σ'=>cU Y n r σ'|x=>x)=_;unfold nH;cases pS Y n s O<;>rfl
theorem Rr{k:Nat}:pS Y n (.expr (.mth .append (.var k) (.cons a .nil))) O=(pE Y a O).sN (yl O[k]?) (Q0 k (cK a) O):=rfl
theorem Be{i:Nat}:pS Y n (.asg (.name i) e) O=(pE Y e O).aT fun d=>.nx ((iw (cK e) (aV d) O).set i (some d)):=rfl
theorem Rt{k:Nat}{i:CE}:pS Y n (.asg (.sub (.var k) i) e) O=(pE Y e O).aT fun d=>(pE Y i (iw (cK e) (aV d) O)).sN false fun j=>iJ k (cK e) O d j:=rfl
theorem Ru{i:Nat}:pS Y n (.aug i e) O=(match O[i]? with|some (some (.int a))=>(pE Y e O).aT fun d=>F9 i a O d|_=>.bad):=rfl
theorem NG{i:Nat}:pS Y n (.casg i e) O=(pE Y e O).aT fun d=>.nx ((iw (cK e) (aV d) O).set i (some d)):=rfl
theorem NH:pS Y n (.tasg (.tup gs) e) O=(pE Y e O).aT fun d=>(pG (.tup gs) d (iw (cK e) (aV d) O)).aT .nx:=rfl
theorem Rv:pS Y n (.ret e) O=(pM Y e O).aT .rt:=rfl
theorem Hg{a b:cC}:pS Y n (.ifs c a b) O=Zh (pT Y c O) (cU Y n a O) (cU Y n b O):=rfl
theorem NI{b:cC}:pS Y n (.whil c b) O=uK (pT Y c) (cU Y n b) n O:=rfl
theorem NJ{g:CG}{b:cC}:pS Y n (.forr g src b) O=(pI Y src O).aT fun items=>forR (pG g) (cU Y n b) items.2 (iw (vd src) items.1 O):=rfl
theorem NK:pS Y n (.rais g as) O=Ln Y g (dW Y as O):=rfl
variable{C:Addr}{fs:List (Str×Nat)}
theorem UY{k:Nat}{x:R (List D)}:Ln (.cls C fs k::r) 0 x=x.aT fun ds=>if(decide (ds.length+1=k)&&decide (fs.map (·.1)).Nodup)=true then .ex (B4 C fs ds)else .bad:=rfl
theorem UZ{o:PG}{x:R (List D)}:Ln (o::r) (n+1) x=Ln r n x:=rfl
theorem Rx{i:Nat}{b:CB}{h:cC}:pS Y n (.tri i g b h) O=Z3 Y n i g h O (pB Y b O):=rfl
theorem NL:pB Y (.call g as) O=Bd Y g (dW Y as O).fy:=rfl
theorem NO:gf .non=true:=rfl
theorem NQ:gf (.int i)=false:=rfl
theorem NR:gf (.lst o xs)=false:=rfl
theorem NS:gf (.tup xs)=false:=rfl
theorem NU:pS Y n .cont O=.ct O:=rfl
theorem Ry{i:Nat}:pM Y (.var i) O=zR O i:=rfl
theorem Rz:pM Y (.con v) O=pE Y (.con v) O:=rfl
theorem RA{op:kK}{b:CE}:pM Y (.bin op a b) O=pE Y (.bin op a b) O:=rfl
theorem RB{b:CE}:pM Y (.and a b) O=pE Y (.and a b) O:=rfl
theorem U0{b:CE}:pM Y (.or a b) O=pE Y (.or a b) O:=rfl
theorem RC{b:CE}:pM Y (.cmp op a b) O=pE Y (.cmp op a b) O:=rfl
theorem NV:pM Y (.call g as) O=pE Y (.call g as) O:=rfl
theorem RD{f:Bf}:pM Y (.blt f as) O=pE Y (.blt f as) O:=rfl
theorem RE{o:CE}:pM Y (.mth m o as) O=pE Y (.mth m o as) O:=rfl
theorem U1{b:CE}:pM Y (.ix a b) O=pE Y (.ix a b) O:=rfl
theorem RG:pM Y (.lst as) O=pE Y (.lst as) O:=rfl
theorem NW:pM Y (.comp nl fr elt tg src cond) O=pE Y (.comp nl fr elt tg src cond) O:=rfl
theorem RH:pM Y (.tup as) O=(lA Y as O).alt (fun ds=>R.bw (decide (ds.length<=aa)) (.ok (.tup ds))) (pE Y (.tup as) O):=by
 rfl
theorem NX:lA Y .nil O=.ok []:=rfl
theorem NY{i:Nat}{r:iP}:lA Y (.cons (.var i) r) O=(zR O i).bind fun d=>(lA Y r (O.set i none)).bind fun ds=>.ok (d::ds):=by
 show(match O[i]? with|some (some d)=>(lA Y r (O.set i none)).bind fun ds=>.ok (d::ds)|_=>.bad)=_;unfold zR;cases O[i]? with
 |none=>rfl
 |some o=>cases o<;>rfl
theorem NZ{a:α}{f:α->R β}{y:R β}:(R.ok a:R α).alt f y=f a:=rfl
theorem RI{o i:CE}:pS Y n (.expr (.mth .append (.ix o i) (.cons a .nil))) O=Dz Y (.ix o i) a O:=rfl
theorem N1{r:iP}:lA Y (.cons (.con v) r) O=(pE Y (.con v) O).bind fun d=>R.bw (aV d) ((lA Y r O).bind fun ds=>.ok (d::ds)):=rfl
theorem Ls{r:iP}:lA Y (.cons (.call g as) r) O=(pE Y (.call g as) O).bind fun d=>R.bw (aV d) ((lA Y r O).bind fun ds=>.ok (d::ds)):=rfl
theorem RJ{b:CE}{r:iP}:lA Y (.cons (.ix a b) r) O=(pE Y (.ix a b) O).bind fun d=>R.bw (aV d) ((lA Y r O).bind fun ds=>.ok (d::ds)):=rfl
theorem N3{b:CE}{r:iP}:lA Y (.cons (.cmp op a b) r) O=(pE Y (.cmp op a b) O).bind fun d=>R.bw (aV d) ((lA Y r O).bind fun ds=>.ok (d::ds)):=rfl
theorem nO{k:Nat}{vs:List Nat}(h:O[k]?=some (some (.lst true xs)))(h1:xs.length<aa)(h2:(aV d||!vs.contains k)=true):Q0 k vs O d=.nx ((iw vs (aV d) O).set k (some (.lst true (xs++[d])))):=by
 unfold Q0;simp only[h];rw[decide_eq_true h1,h2];rfl
theorem EG{k:Nat}{vs:List Nat}{j x':D}(h:O[k]?=some (some x))(h1:(aV d||!vs.contains k)=true)(h2:putIn x d j=some x'):iJ k vs O d j=.nx ((iw vs (aV d) O).set k (some x')):=by
 unfold iJ;simp only[h];rw[h1,h2];rfl
theorem frzs_map'(f:α->D)(h:∀a,bz (f a)=f a)(l:List α):aB (l.map f)=l.map f:=lB f h l
theorem iy{g:D->br->R br}{e:br->R D}(enc:β->D)(I:br->Prop)(f:β->D):∀(xs:List β) (O:br),I O->(∀x∈xs,∀O,I O->∃σ2,g (enc x) O=.ok σ2/\I σ2/\e σ2=.ok (f x))->dg g (fun _=>.ok true) e (xs.map enc) O=.ok (xs.map f)
|[],O,_,_=>rfl
|x::r,O,hi,h=>by
 obtain⟨σ2,h1,h2,h3⟩:=h x ao O hi;have ih:=iy enc I f r σ2 h2 fun y hy=>h y (ai _ hy);show(g (enc x) O).bind _=_;rw[h1];simp only[R.bind,if_true,h3,ih];rfl
theorem lC{g:D->br->R br}{c:br->R Bool}{e:br->R D}(enc:β->D)(I:br->Prop)(p:β->Bool)(f:β->D):∀(xs:List β) (O:br),I O->(∀x∈xs,∀O,I O->∃σ2,g (enc x) O=.ok σ2/\I σ2/\c σ2=.ok (p x)/\e σ2=.ok (f x))->dg g c e (xs.map enc) O=.ok ((xs.filter p).map f)
|[],O,_,_=>rfl
|x::r,O,hi,h=>by
 obtain⟨σ2,h1,h2,h3,h4⟩:=h x ao O hi;have ih:=lC enc I p f r σ2 h2 fun y hy=>h y (ai _ hy);show(g (enc x) O).bind _=_;rw[h1];simp only[R.bind,h3];cases q:p x with
 |true=>rw[if_pos rfl,tN q,h4];simp only[R.bind,ih];rfl
 |false=>rw[if_neg (by decide),List.filter_cons_of_neg (by simp[q])];exact ih
noncomputable def F6(K:PySem.W.Frag)(C:Addr)(as:List Str):Bool:=
 (PySem.W.findIn K (.ref C) "__getattribute__"==some (some (.builtin "BaseException.__getattribute__")))&&(PySem.W.findIn K (.ref C) "__getattr__"==some none)&&(PySem.W.findIn K (.ref C) "__setattr__"==some (some (.builtin "object.__setattr__")))
 && PySem.W.hasDictIn K C&&(PySem.W.mroIn K C (.type "BaseException")==some true)&&(PySem.W.mroIn K C (.type "object")==some true)&&(PySem.W.clsIn K C).any (fun cd=>u6 cd.mro)
 && (PySem.W.findIn K (.ref C) "__class__"==some (some (.builtin "object.__class__")))&&as.all (fun f=>PySem.W.findIn K (.ref C) f==some none)
theorem U3{as:List Str}(h:F6 K C as=true)(hn:PySem.W.specialIn K (.builtin "object.__class__") "__get__"=some (some (.builtin "getset_descriptor.__get__")))(htk:PySem.W.takesIn K (.builtin "object.__class__")=some true) :
  u7 K C/\uF K C/\∀f∈as,jB K C f:=by
 unfold F6 at h;simp only[bu,beq_iff_eq,bF]at h;obtain⟨⟨⟨⟨⟨⟨⟨⟨h1,h2⟩,h3⟩,h4⟩,h5⟩,h6⟩,h7⟩,h8⟩,h9⟩:=h;have c:xR K C:=⟨h1,h2,h3,h4,h5,h6⟩;exact⟨{ c with tl:=h7 },{ c with ha:=h8,hn:=hn,htk:=htk },h9⟩
variable{Cs:List Addr}
theorem RK{as:List Str}(h:(Cs.all fun C=>F6 K C as)=true)(hn:PySem.W.specialIn K (.builtin "object.__class__") "__get__"=some (some (.builtin "getset_descriptor.__get__")))(htk:PySem.W.takesIn K (.builtin "object.__class__")=some true) :
  ∀C∈Cs,u7 K C/\uF K C/\∀f∈as,jB K C f:=fun C hC=>U3 (bF.mp h C hC) hn htk
theorem jE{D:Addr}{as:List Str}(hx:∀C∈Cs,u7 K C/\uF K C/\∀f∈as,jB K C f)(h0:PySem.W.kitOne K (.type "NoneType") (.ref D)=some false)(h:(Cs.all fun C=>PySem.W.kitOne K (.ref C) (.ref D)==some (decide (C=D)))=true):g9 K D Cs:=
 ⟨h0,fun C hC=>⟨(hx C hC).2.1,by simpa using bF.mp h C hC⟩⟩
theorem W_{as:List Str}(hx:∀C∈Cs,u7 K C/\uF K C/\∀f∈as,jB K C f)(h0:PySem.W.kitOne K (.type "NoneType") (.type "ValueError")=some false)(h:(Cs.all fun C=>PySem.W.kitOne K (.ref C) (.type "ValueError")==some true)=true):tV K Cs as:=
 ⟨h0,fun C hC=>⟨(hx C hC).2.1,by simpa using bF.mp h C hC,(hx C hC).2.2⟩⟩
variable{B:Addr}
theorem Xa(h:(Cs.all fun C=>PySem.W.mroIn K C (.ref B)==some true)=true):∀C∈Cs,PySem.W.mroIn K C (.ref B)=some true:=fun C hC=>by simpa using bF.mp h C hC
def Hh(K:PySem.W.Frag)(B:Addr):Prop:=∃c0 dB cd sl c1 d1 es ep s1,K.lookup B=some ⟨c0,dB,.cls cd,sl⟩/\K.lookup cd.ns=some ⟨c1,d1,.dict es ep,s1⟩/\(es.all fun e=>match e.key with|.str _ _=>true|_=>false)=true/\CL es "__init__"=none
theorem Xb{fI N:Addr}{as:List Str}{nm:Str}{bs:List Value}{hdct:Bool}{sn:List Str}{sub:List Value}{ab:Bool}{col:Option Bool}{dd:Option Addr}{k0 k1 k2 k3 k5:Option Value}
  (hx:u7 K C/\uF K C/\∀f∈as,jB K C f) (xi:PySem.W.findIn K (.ref C) "__init__"=some (some (.ref fI))) (xf:PySem.W.typeIn K (.ref fI)=some (.type "function")) (xk:PySem.W.keepIn K (.ref C)=true)
  (xl:K.lookup C=some (i_ nm q C N bs (.ref B::[.type "ValueError",.type "Exception",.type "BaseException",.type "object"]) hdct sn sub ab col dd k0 k1 k2 k3 k5 "ValueError.__new__")) (xb:Hh K B) (F:qT K "__init__" qual st fI fd) (hb:Binds K fd ps []) (S:l9 ps ps (ck st))
  (ha:∀p∈fs,p.1∈as) (hc:rY ps fs (gc st)=true) (hd:∀x∈ps,(x==("__debug__":Str))=false/\(x==("__classdict__":Str))=false) (hj:∀p∈fs,p.2<ps.length/\1<=p.2) (hl:fs.length<=900) (h0:0<fs.length) (hp:ps.length<=1000):FT P w K mg base 1 C fs ps.length:=
 ⟨fI,fd,ps,{ hx.1 with ini:=xi,fn:=xf,kp:=xk,cls:=⟨_,_,_,_,_,_,_,_,_,_,_,_,_,_,_,_,xl,xb⟩ },Ub F S hx.1 (fun p hp=>hx.2.2 p.1 (ha p hp)) hc hd (fun p hp=>(hj p hp).1) hl h0,hb,hp,fun p hp=>(hj p hp).2,rfl⟩
end L3
end
local macro_rules | `(tactic| simp_arith $c:optConfig [$ls,*]) => do let q <- ("EC pq_thn_ok' M1 pq_thnL_ok' M2 Uz Au Qs M3 Qt Qu Qv Qw Qx Qy G6 G7 nN UA Qz UB QB M4 M5 M6 M7 M8 UC Lg pP JX G8 UD QC QD QE QF QG M9 M_ QH Na B7 IU Lh ED QI QJ QK Nb Nc QL UE QM QN QO UG QR QS QT QU Nd Li QV UH QW QX QY QZ Nf Lj W0 W5 Ng Lk UI UJ UK UL Q2 Q3 Nh Ni EE Nj Nk Nl UM UN UO UP Nm Q4 Nn Q5 Q6 Q7 Q8 Np Q9 UQ G9 Q_ Ra nJ DC Nq Rb Rc Rf UR Rg Rh Lo Nr Ri Rj US UT G_ Rk EF Rl Rm UU Rn Lp Nt UW Ro Nu oB Nv Nx Ny Nz NB Rp NC Lq Hf Lr Rq UX ND NF oE Rr Be Rt Ru NG NH Rv Hg NI NJ NK UY UZ Rx NL NO NQ NR NS NU Ry Rz RA RB U0 RC NV RD RE U1 RG NW RH NX NY NZ RI N1 Ls RJ N3 nO EG dJ GZ uz cK kE GN vd vg qB.len cR Iq aC fU ah List.cons_append lu dm b_ List.replicate_zero List.getElem?_cons_zero mH List.set_cons_zero List.set_cons_succ List.getD_cons_zero List.getD_cons_succ Nat.reduceAdd Nat.reduceSub l6 o_ Nat.reduceBEq cZ aF aR gW Nat.reduceEqDiff or_false true_or false_or not_false_eq_true and_self and_true true_and and_false false_and decide_true decide_false Bool.not_true Bool.not_false Ip Bool.or_false Bool.false_or Fz Bool.true_and gi jd if_true if_false Bool.false_eq_true Option.map_some beq_self_eq_true Int.cast_ofNat_Int Int.reduceLE Int.reduceLT Int.reduceBEq Int.reduceSub Int.reduceAdd".splitOn " ").toArray.mapM fun x => `(Lean.Parser.Tactic.simpLemma| $(Lean.mkIdent x.toName):ident); `(tactic| simp $c:optConfig (disch := first | assumption | (with_reducible rfl) | (show L3.cX _ = true; rfl) | omega | (unfold L2.ux; omega) | (unfold L2.sD; omega) | (simp only [aC, fU, ah, ak]; omega)) only [$q,*, $ls,*])
section
namespace L3
open PySem L2
structure FD where
 n:Str
 s:Stmt
 N:List Str
 k:Nat
 gl:List Str
def FD.ps(d:FD):List Str:=d.N.take d.k
noncomputable def S2(N P:List Str)(sc:fS):Bool:=(match sc.kind with|.function=>true|_=>false)&&(!sc.isCoroutine&&(!sc.isGenerator&&(decide N.Nodup&&(decide (N.take P.length=P)&&(decide (∀x∈P,sc.names.lookup x=some .local\/sc.names.lookup x=some .cell)&&decide (∀y∈sc.names,y.2≠.free))))))
theorem BY{N P:List Str}{sc:fS}(h:S2 N P sc=true):l9 N P sc:=by
 unfold S2 at h;simp only[bu,decide_eq_true_eq,rm]at h;obtain⟨h1,h2,h3,h4,h5,h6,h7⟩:=h;refine⟨?_,h2,h3,h4,h5,h6,h7⟩;revert h1;cases sc.kind<;>intro h1<;>first|rfl|cases h1
noncomputable def FD.eO(bn:List Str)(d:FD)(c:cC):Bool:=oq ⟨d.N,ck d.s,d.gl,bn,(fun _=>true),true⟩ c (gc d.s)&&(S2 d.N d.ps (ck d.s)&&(kX c&&(d.ps.length==d.k)))
def DI(K:PySem.W.Frag)(mg:Str->Option Value)(d:FD):Prop:=FZ K mg d.n d.s d.ps
variable{k:Nat}
variable{n:Nat}
variable{Cs:List Addr}
variable{as:List Str}
variable{B:Addr}
variable{bn:List Str}{d:FD}{f:Addr}{Γp:List PG}{c:cC}
variable{oc kV doc pm cdv ct:Value}{od an:Option Addr}{osl:Array (Option Value)}
variable{x:Str}
variable{N:Addr}{nm q:Str}{bs:List Value}{sn:List Str}{ab:Bool}{dd:Option Addr}{k0 k1 k2 k3 k5:Option Value}
section
variable{P:bH}{w:bY}{K:PySem.W.Frag}{mg:Str->Option Value}{base:Heap}
abbrev gm(P:bH)(w:bY)(K:PySem.W.Frag)(mg:Str->Option Value)(base:Heap)(k:Nat)(x:Str)(m:List D->R D):Prop:=GJ P w K mg base k x (.fn (GO K m) [])
def GR(P:bH)(w:bY)(K:PySem.W.Frag)(mg:Str->Option Value)(base:Heap)(k:Nat)(gl:List Str)(Γp:List PG):Prop:=∃Y,A7 P w K mg base k gl Y/\cQ K Γp Y
theorem gN:GR P w K mg base k [] []:=⟨[],trivial,trivial⟩
section
variable{k:Nat}{x:Str}{gl:List Str}{Γp:List PG}
theorem gG{p:PG}(g:G)(h:GJ P w K mg base k x g)(e:Qg K p g)(r:GR P w K mg base k gl Γp):GR P w K mg base k (x::gl) (p::Γp):=by
 obtain⟨Y,a,b⟩:=r;exact⟨g::Y,⟨h,a⟩,⟨_,_,rfl,e,b⟩⟩
theorem gF{j:Nat}{m:List D->R D}(h:gm P w K mg base j x m)(r:GR P w K mg base k gl Γp)(l:j<=k:=by decide):GR P w K mg base k (x::gl) (.fn m []::Γp):=by
 obtain⟨f,fd,ps,ds,F,q⟩:=h;exact gG (.fn (GO K m) []) ⟨f,fd,ps,ds,F.mono l,q⟩ ⟨fun _ _ _ _ h=>h,rfl,rfl⟩ r
def N4(P:bH)(w:bY)(K:PySem.W.Frag)(mg:Str->Option Value)(x:Str)(C:Addr)(fs:List (Str×Nat))(n:Nat):Prop:=mg x=some (.ref C)/\∀base,FT P w K mg base 1 C fs n
theorem gC{C:Addr}{fs:List (Str×Nat)}(h:N4 P w K mg x C fs n)(r:GR P w K mg base k gl Γp)(l:2<=k:=by decide):GR P w K mg base k (x::gl) (.cls C fs n::Γp):=gG (.cls C fs n) ⟨h.1,1,l,h.2 base⟩ ⟨rfl,rfl,rfl⟩ r
theorem gI{D:Addr}(h:mg x=some (.ref D)/\g9 K D Cs)(r:GR P w K mg base k gl Γp):GR P w K mg base k (x::gl) (.iQ D Cs::Γp):=gG (.iQ D Cs) h ⟨rfl,rfl⟩ r
theorem gX(h:tV K Cs as)(r:GR P w K mg base k gl Γp):GR P w K mg base k (x::gl) (.pe Cs as::Γp):=gG (.pe Cs as) h ⟨rfl,rfl⟩ r
def Xc(K:PySem.W.Frag)(mg:Str->Option Value)(x:Str)(B:Addr)(Cs:List Addr):Prop:=(mg x=some (.ref B)/\BP K B)/\∀C∈Cs,PySem.W.mroIn K C (.ref B)=some true
theorem gB(h:Xc K mg x B Cs)(r:GR P w K mg base k gl Γp):GR P w K mg base k (x::gl) (.exb Cs::Γp):=gG (.exb B Cs) h.1 ⟨rfl,h.2⟩ r
theorem gV{d:D}{v:V}(h:∃u,mg x=some u/\RelV v u)(e:aU K (fun _=>none) d v)(r:GR P w K mg base k gl Γp):GR P w K mg base k (x::gl) (.val d::Γp):=gG (.val v) h e r
theorem gT{d:D}{a:Addr}{xs:List V}(h:mg x=some (.ref a)/\Eh K a true xs)(e:aU K (fun _=>none) d (.ref a))(r:GR P w K mg base k gl Γp):GR P w K mg base k (x::gl) (.val d::Γp):=gG (.tup a xs) h e r
end
theorem fF{fd:fO}(F:qT K d.n d.n d.s f fd)(h:d.eO bn c=true)(hb:∀x∈bn,mg x=none)(r:GR P w K mg base k d.gl Γp):fN P w K mg base (ko P w) (k+1) f fd d.ps (GO K (dJ Γp n d.N d.k c)):=by
 obtain⟨Y,a,b⟩:=r;unfold FD.eO at h;simp only[bu,beq_iff_eq]at h;obtain⟨h1,h2,h3,h4⟩:=h;rw[<-h4];refine YG (Y:=Y) c F (BY h2) h1 a b h3 hb ?_;unfold FD.ps;rw[b9];omega
theorem fD(D:DI K mg d)(h:d.eO bn c=true)(hb:∀x∈bn,mg x=none)(r:GR P w K mg base k d.gl Γp):gm P w K mg base (k+1) d.n (dJ Γp n d.N d.k c):=
 FZ.has D fun _ _ F=>fF F h hb r
variable{h:Heap}
theorem dI(X:K.In h)(G:h.Ns dh mg)(a:PySem.W.nsIn K dh d.n=some (some (.ref f)):=by k_is)
  (l:K.lookup f=some ⟨oc,od,.func (PySem.W.fnOf d.n d.n (l_ d.s) (gc d.s) (ck d.s) .none kV doc pm an cdv ct),osl⟩:=by k_is) (c:PySem.W.codeIn K cdv d.n=true:=by k_is) (k:PySem.W.keepIn K (.ref f)=true:=by k_is)
  (b:∀(kV doc pm:Value) (an:Option Addr) (cdv ct:Value) (us:List Value),us.length=d.ps.length->wM (PySem.W.fnOf d.n d.n (l_ d.s) (gc d.s) (ck d.s) .none kV doc pm an cdv ct) ⟨us,[]⟩=pure (d.ps.zip us):=by(intro _ _ _ _ _ _ us hl;rcases us with _|⟨_,_|⟨_,_|⟨_,_|⟨_,_|⟨_,_|⟨_,_⟩⟩⟩⟩⟩⟩<;>first|rfl|cases hl)):DI K mg d:=
 ⟨_,_,fun_mk l c k,PySem.W.mg_of X G a,(fun_mk l c k).binds b⟩
theorem iI{v:Value}(X:K.In h)(G:h.Ns dh mg)(a:PySem.W.nsIn K dh x=some (some v):=by k_is):mg x=some v:=PySem.W.mg_of X G a
noncomputable def Z4:Option (Option Value)->Bool
|some none=>true
|_=>false
theorem zI(X:K.In h)(G:h.Ns dh mg)(a:(bn.all fun x=>Z4 (PySem.W.nsIn K dh x))=true:=by kernel_rfl):∀x∈bn,mg x=none:=fun x hx=>PySem.W.mg_none_of X G (by
 have q:=bF.mp a x hx;revert q;rcases PySem.W.nsIn K dh x with _|_|_<;>intro q<;>first|rfl|cases q)
theorem hXI(X:K.In h)(a:(Cs.all fun C=>F6 K C as)=true:=by kernel_rfl)(hn:PySem.W.specialIn K (.builtin "object.__class__") "__get__"=some (some (.builtin "getset_descriptor.__get__")):=by k_is)(htk:PySem.W.takesIn K (.builtin "object.__class__")=some true:=by k_is) :
  ∀C∈Cs,u7 K C/\uF K C/\∀f∈as,jB K C f:=RK a hn htk
structure CD where
 n:Str
 C:Addr
 s:Stmt
 ps:List Str
 fs:List (Str×Nat)
noncomputable def CD.eO(as:List Str)(d:CD):Bool:=rY d.ps d.fs (gc d.s)&&(S2 d.ps d.ps (ck d.s)&&(decide (∀p∈d.fs,p.1∈as)&&(decide (∀x∈d.ps,(x==("__debug__":Str))=false/\(x==("__classdict__":Str))=false)&&(decide (∀p∈d.fs,p.2<d.ps.length/\1<=p.2)&&decide (d.fs.length<=900/\0<d.fs.length/\d.ps.length<=1000)))))
theorem cI{d:CD}{fI:Addr}{hdct:Bool}{sub:List Value}{col:Option Bool}
  (X:K.In h) (G:h.Ns dh mg) (hx:u7 K d.C/\uF K d.C/\∀f∈as,jB K d.C f) (xb:Hh K B) (o:d.eO as=true) (a:PySem.W.nsIn K dh d.n=some (some (.ref d.C)):=by k_is) (xi:PySem.W.findIn K (.ref d.C) "__init__"=some (some (.ref fI)):=by k_is) (xf:PySem.W.typeIn K (.ref fI)=some (.type "function"):=by k_is) (xk:PySem.W.keepIn K (.ref d.C)=true:=by k_is)
  (xl:K.lookup d.C=some (i_ nm q d.C N bs (.ref B::[.type "ValueError",.type "Exception",.type "BaseException",.type "object"]) hdct sn sub ab col dd k0 k1 k2 k3 k5 "ValueError.__new__"):=by k_is)
  (l:K.lookup fI=some ⟨oc,od,.func (PySem.W.fnOf "__init__" (d.n++".__init__") (l_ d.s) (gc d.s) (ck d.s) .none kV doc pm an cdv ct),osl⟩:=by k_is) (c:PySem.W.codeIn K cdv (d.n++".__init__")=true:=by k_is) (k:PySem.W.keepIn K (.ref fI)=true:=by k_is)
  (b:∀(kV doc pm:Value) (an:Option Addr) (cdv ct:Value) (us:List Value),us.length=d.ps.length->wM (PySem.W.fnOf "__init__" (d.n++".__init__") (l_ d.s) (gc d.s) (ck d.s) .none kV doc pm an cdv ct) ⟨us,[]⟩=pure (d.ps.zip us):=by(intro _ _ _ _ _ _ us hl;rcases us with _|⟨_,_|⟨_,_|⟨_,_|⟨_,_|⟨_,_|⟨_,_⟩⟩⟩⟩⟩⟩<;>first|rfl|cases hl)):N4 P w K mg d.n d.C d.fs d.ps.length:=by
 refine⟨PySem.W.mg_of X G a,fun base=>?_⟩;unfold CD.eO at o;simp only[bu,decide_eq_true_eq]at o;obtain⟨h1,h2,h3,h4,h5,h6,h7,h8⟩:=o;exact Xb hx xi xf xk xl xb (fun_mk l c k) ((fun_mk l c k).binds b) (BY h2) h3 h1 h4 h5 h6 h7 h8
theorem eI{bm:List Value}{hd:Bool}{sb:List Value}{cl:Option Bool}{ni:String}(X:K.In h)(G:h.Ns dh mg)(a:PySem.W.nsIn K dh x=some (some (.ref B)):=by k_is)
  (l:K.lookup B=some (i_ nm q B N bs bm hd sn sb ab cl dd k0 k1 k2 k3 k5 ni):=by k_is) (c:bm.contains (.type "BaseException")=true:=by kernel_rfl) (m:(Cs.all fun C=>PySem.W.mroIn K C (.ref B)==some true)=true:=by kernel_rfl):Xc K mg x B Cs:=
 ⟨⟨PySem.W.mg_of X G a,_,_,_,_,_,_,_,_,_,_,_,_,_,_,_,_,_,l,c⟩,Xa m⟩
theorem bI{c0:Value}{d0:Option Addr}{cd:ClassData}{s0:Array (Option Value)}{c1:Value}{d1:Option Addr}{es:Array DictEntry}{ep:Nat}{s1:Array (Option Value)}(X:K.In h)(l:K.lookup B=some ⟨c0,d0,.cls cd,s0⟩:=by k_is)(q:cd.ns=N:=by rfl)(n:K.lookup N=some ⟨c1,d1,.dict es ep,s1⟩:=by k_is)
  (a:(es.all fun e=>match e.key with|.str _ _=>true|_=>false)=true:=by kernel_rfl) (f:CL es "__init__"=none:=by kernel_rfl):Hh K B:=⟨_,_,_,_,_,_,_,_,_,l,by rw[q];exact n,a,f⟩
end
end L3
end
section
namespace Tr
open PySem L2 L3
def top(i:Nat):Stmt:=PySem.Challenge.pw_claimwise_k09_rows_of_no_form.main.body.getD i (.Pass ⟨0,0,0,0⟩)
abbrev EH:List Str:=["text"]
noncomputable def yp:cC:=
 (.cons (.ifs (.not (.chain .LtE .LtE (.con (.int 1)) (.blt .len (.cons (.var 0) .nil)) (.glo 2)))
  (.cons (.ret (.con (.bl false)))
 .nil)
  .nil)
 (.cons (.ret (.and (.call 1 (.cons (.var 0) (.cons (.con (.str "a")) (.cons (.con (.str "z")) .nil)))) (.cmp .NotIn (.var 0) (.glo 0))))
 .nil))
abbrev Av:List Str:=["text","figures"]
noncomputable def qm:cC:=
 (.cons (.asg (.name 1) (.ite (.mth .startswith (.var 0) (.cons (.con (.str "-")) .nil)) (.sl (.var 0) (.some (.con (.int 1))) .none) (.var 0)))
 (.cons (.ifs (.or (.not (.call 0 (.cons (.var 1) .nil))) (.cmp .Eq (.var 0) (.con (.str "-0"))))
  (.cons (.ret (.con .non))
 .nil)
  .nil)
 (.cons (.ret (.blt .int (.cons (.var 0) .nil)))
 .nil)))
abbrev yq:List Str:=["text"]
noncomputable def sQ:cC:=
 (.cons (.ifs (.or (.not (.chain .LtE .LtE (.con (.int 1)) (.blt .len (.cons (.var 0) .nil)) (.glo 1))) (.not (.call 0 (.cons (.var 0) (.cons (.con (.str "0")) (.cons (.con (.str "9")) .nil))))))
  (.cons (.ret (.con (.bl false)))
 .nil)
  .nil)
 (.cons (.ret (.or (.cmp .Eq (.var 0) (.con (.str "0"))) (.not (.mth .startswith (.var 0) (.cons (.con (.str "0")) .nil)))))
 .nil))
abbrev yr:List Str:=["text","first","last"]
noncomputable def sR:cC:=
 (.cons (.ret (.blt .all (.cons (.comp ["sign"] [1,2] (.chain .LtE .LtE (.var 1) (.var 0) (.var 2)) (.name 0) (.seq (.var 0)) .none) .nil)))
 .nil)
abbrev EI:List Str:=["text"]
noncomputable def yt:cC:=
 (.cons (.ret (.comp ["row"] [] (.call 0 (.cons (.var 0) .nil)) (.name 0) (.seq (.mth .split (.var 0) (.cons (.con (.str "\n")) .nil))) .none))
 .nil)
abbrev B9:List Str:=["row"]
noncomputable def wc:cC:=
 (.cons (.ret (.comp ["word"] [] (.var 0) (.name 0) (.seq (.mth .split (.var 0) (.cons (.con (.str " ")) .nil))) (.some (.cmp .NotEq (.var 0) (.con (.str ""))))))
 .nil)
abbrev w6:List Str:=["text","claims","row","words","takes","rows"]
noncomputable def f_:cC:=
 (.cons (.ifs (.cmp .Eq (.var 3) (.lst .nil))
  (.cons (.cont)
 .nil)
  .nil)
 (.cons (.ifs (.cmp .Eq (.ix (.var 3) (.con (.int 0))) (.con (.str "claim")))
  (.cons (.asg (.name 4) (.call 3 (.cons (.var 3) (.cons (.var 2) (.cons (.blt .len (.cons (.var 1) .nil)) .nil)))))
 (.cons (.ifs (.cmp .GtE (.blt .len (.cons (.var 1) .nil)) (.glo 1))
  (.cons (.rais 2 (.cons (.con (.int 0)) (.cons (.var 2) .nil)))
 .nil)
  .nil)
 (.cons (.expr (.mth .append (.var 1) (.cons (.tup (.cons (.var 4) (.cons (.lst .nil) .nil))) .nil)))
 .nil)))
  (.cons (.ifs (.cmp .Eq (.var 1) (.lst .nil))
  (.cons (.rais 4 (.cons (.var 2) .nil))
 .nil)
  (.two (.asg (.name 5) (.ix (.ix (.var 1) (.neg (.con (.int 1)))) (.con (.int 1))))
 (.expr (.mth .append (.var 5) (.cons (.call 5 (.cons (.var 3) (.cons (.var 2) (.cons (.blt .len (.cons (.var 5) .nil)) .nil)))) .nil)))
 .nil))
 .nil))
 .nil))
noncomputable def nj:cC:=
 (.cons (.asg (.name 1) (.lst .nil))
 (.cons (.forr (.tup (.cons (.name 2) (.cons (.name 3) .nil))) (.enum (.call 0 (.cons (.var 0) .nil))) f_)
 (.cons (.ret (.var 1))
 .nil)))
abbrev B_:List Str:=["words","row","above","takes","number"]
noncomputable def qL:cC:=
 (.cons (.ifs (.not (.chain .LtE .LtE (.con (.int 1)) (.var 4) (.var 2)))
  (.cons (.rais 0 (.cons (.var 1) .nil))
 .nil)
  .nil)
 .nil)
noncomputable def rK:cC:=
 (.cons (.asg (.name 3) (.call 2 (.cons (.sl (.var 0) (.some (.con (.int 1))) .none) .nil)))
 (.cons (.ifs (.cmp .Is (.var 3) (.con .non))
  (.cons (.rais 1 (.cons (.var 1) .nil))
 .nil)
  .nil)
 (.cons (.forr (.name 4) (.seq (.var 3)) qL)
 (.cons (.ret (.var 3))
 .nil))))
abbrev Hi:List Str:=["words","row","above","told"]
noncomputable def we:cC:=
 (.cons (.asg (.name 3) (.call 3 (.cons (.var 0) .nil)))
 (.cons (.ifs (.cmp .Is (.var 3) (.con .non))
  (.cons (.rais 2 (.cons (.var 1) .nil))
 .nil)
  .nil)
 (.cons (.ifs (.cmp .GtE (.var 2) (.glo 0))
  (.cons (.rais 1 (.cons (.con (.int 0)) (.cons (.var 1) .nil)))
 .nil)
  .nil)
 (.cons (.ret (.var 3))
 .nil))))
abbrev tX:List Str:=["words","chosen","numbers","one","other"]
noncomputable def lF:cC:=
 (.cons (.ifs (.cmp .GtE (.var 3) (.var 4))
  (.cons (.ret (.con .non))
 .nil)
  .nil)
 .nil)
noncomputable def k8:cC:=
 (.cons (.ifs (.cmp .Eq (.var 0) (.lst .nil))
  (.cons (.ret (.lst .nil))
 .nil)
  .nil)
 (.cons (.asg (.name 1) (.call 1 (.cons (.sl (.var 0) (.some (.con (.int 1))) .none) .nil)))
 (.cons (.ifs (.or (.cmp .NotEq (.ix (.var 0) (.con (.int 0))) (.con (.str "on"))) (.cmp .Is (.var 1) (.con .non)))
  (.cons (.ret (.con .non))
 .nil)
  .nil)
 (.cons (.casg 2 (.comp ["word"] [] (.call 0 (.cons (.var 0) .nil)) (.name 0) (.seq (.var 1)) .none))
 (.cons (.ifs (.or (.cmp .In (.con .non) (.var 2)) (.cmp .Lt (.ix (.var 2) (.con (.int 0))) (.con (.int 0))))
  (.cons (.ret (.con .non))
 .nil)
  .nil)
 (.cons (.forr (.tup (.cons (.name 3) (.cons (.name 4) .nil))) (.zip (.cons (.var 2) (.cons (.sl (.var 2) (.some (.con (.int 1))) .none) .nil))) lF)
 (.cons (.ret (.var 2))
 .nil)))))))
abbrev yu:List Str:=["words"]
noncomputable def yw:cC:=
 (.cons (.ifs (.cmp .Eq (.bin .Mod (.blt .len (.cons (.var 0) .nil)) (.con (.int 2))) (.con (.int 0)))
  (.cons (.ret (.con .non))
 .nil)
  .nil)
 (.cons (.ifs (.blt .any (.cons (.comp ["word"] [] (.cmp .NotEq (.var 0) (.con (.str "or"))) (.name 0) (.seq (.slp (.var 0) (.some (.con (.int 1))) .none 2)) .none) .nil))
  (.cons (.ret (.con .non))
 .nil)
  .nil)
 (.cons (.ret (.slp (.var 0) (.some (.con (.int 0))) .none 2))
 .nil)))
abbrev Ca:List Str:=["words"]
noncomputable def iY:cC:=
 (.cons (.ifs (.cmp .In (.ix (.var 0) (.con (.int 0))) (.glo 4))
  (.cons (.ret (.call 3 (.cons (.con (.bl false)) (.cons (.bin .Add (.lst (.cons (.con (.str "1")) .nil)) (.sl (.var 0) (.some (.con (.int 1))) .none)) .nil))))
 .nil)
  .nil)
 (.cons (.ifs (.cmp .Eq (.sl (.var 0) .none (.some (.con (.int 2)))) (.lst (.cons (.con (.str "at")) (.cons (.con (.str "least")) .nil))))
  (.cons (.ret (.call 3 (.cons (.con (.bl false)) (.cons (.sl (.var 0) (.some (.con (.int 2))) .none) .nil))))
 .nil)
  .nil)
 (.cons (.ifs (.cmp .Eq (.ix (.var 0) (.con (.int 0))) (.con (.str "just")))
  (.cons (.ret (.call 3 (.cons (.con (.bl true)) (.cons (.sl (.var 0) (.some (.con (.int 1))) .none) .nil))))
 .nil)
  .nil)
 (.cons (.ifs (.cmp .Eq (.ix (.var 0) (.con (.int 0))) (.con (.str "then")))
  (.cons (.ret (.call 2 (.cons (.sl (.var 0) (.some (.con (.int 1))) .none) .nil)))
 .nil)
  .nil)
 (.cons (.ifs (.cmp .In (.ix (.var 0) (.con (.int 0))) (.glo 0))
  (.cons (.ret (.call 1 (.cons (.sl (.var 0) (.some (.con (.int 1))) .none) .nil)))
 .nil)
  .nil)
 (.cons (.ret (.con .non))
 .nil))))))
abbrev yx:List Str:=["closed","words","many","label","kinds"]
noncomputable def iz:cC:=
 (.cons (.ifs (.cmp .Lt (.blt .len (.cons (.var 1) .nil)) (.con (.int 2)))
  (.cons (.ret (.con .non))
 .nil)
  .nil)
 (.cons (.asg (.name 2) (.call 3 (.cons (.ix (.var 1) (.con (.int 0))) .nil)))
 (.cons (.ifs (.or (.cmp .Is (.var 2) (.con .non)) (.not (.chain .LtE .LtE (.con (.int 1)) (.var 2) (.glo 2))))
  (.cons (.ret (.con .non))
 .nil)
  .nil)
 (.cons (.asg (.name 3) (.ite (.and (.cmp .Gt (.blt .len (.cons (.var 1) .nil)) (.con (.int 2))) (.cmp .NotEq (.ix (.var 1) (.con (.int 2))) (.con (.str "or")))) (.ix (.var 1) (.con (.int 1))) (.con (.str ""))))
 (.cons (.asg (.name 4) (.call 1 (.cons (.ite (.cmp .Eq (.var 3) (.con (.str ""))) (.sl (.var 1) (.some (.con (.int 1))) .none) (.sl (.var 1) (.some (.con (.int 2))) .none)) .nil)))
 (.cons (.ifs (.or (.cmp .Is (.var 4) (.con .non)) (.not (.or (.cmp .Eq (.var 3) (.con (.str ""))) (.call 0 (.cons (.var 3) .nil)))))
  (.cons (.ret (.con .non))
 .nil)
  .nil)
 (.cons (.ret (.tup (.cons (.con (.str "parts")) (.cons (.var 2) (.cons (.var 0) (.cons (.var 3) (.cons (.var 4) .nil)))))))
 .nil)))))))
abbrev yy:List Str:=["words","kinds"]
noncomputable def lG:cC:=
 (.cons (.asg (.name 1) (.call 2 (.cons (.var 0) .nil)))
 (.cons (.ifs (.or (.cmp .Is (.var 1) (.con .non)) (.cmp .Gt (.blt .len (.cons (.var 1) .nil)) (.glo 1)))
  (.cons (.ret (.con .non))
 .nil)
  .nil)
 (.cons (.ifs (.or (.not (.call 0 (.cons (.var 1) .nil))) (.cmp .NotEq (.nset (.var 1)) (.blt .len (.cons (.var 1) .nil))))
  (.cons (.ret (.con .non))
 .nil)
  .nil)
 (.cons (.ret (.var 1))
 .nil))))
abbrev Aw:List Str:=["words","ref"]
noncomputable def mQ:cC:=
 (.cons (.ifs (.or (.cmp .Lt (.blt .len (.cons (.var 0) .nil)) (.con (.int 2))) (.or (.not (.call 2 (.cons (.ix (.var 0) (.con (.int 0))) .nil))) (.cmp .NotIn (.ix (.var 0) (.con (.int 1))) (.glo 1))))
  (.cons (.ret (.con .non))
 .nil)
  .nil)
 (.cons (.asg (.name 1) (.call 0 (.cons (.sl (.var 0) (.some (.con (.int 2))) .none) .nil)))
 (.cons (.ifs (.cmp .Is (.var 1) (.con .non))
  (.cons (.ret (.con .non))
 .nil)
  .nil)
 (.cons (.ret (.tup (.cons (.con (.str "then")) (.cons (.ix (.var 0) (.con (.int 0))) (.cons (.var 1) .nil)))))
 .nil))))
abbrev Cb:List Str:=["words","label"]
noncomputable def rL:cC:=
 (.cons (.ifs (.or (.not (.chain .LtE .LtE (.con (.int 1)) (.blt .len (.cons (.var 0) .nil)) (.con (.int 2)))) (.not (.call 0 (.cons (.var 0) .nil))))
  (.cons (.ret (.con .non))
 .nil)
  .nil)
 (.cons (.asg (.name 1) (.ite (.cmp .Eq (.blt .len (.cons (.var 0) .nil)) (.con (.int 2))) (.ix (.var 0) (.con (.int 0))) (.con (.str ""))))
 (.cons (.ret (.tup (.cons (.var 1) (.cons (.ix (.var 0) (.neg (.con (.int 1)))) .nil))))
 .nil)))
abbrev w9:List Str:=["words","count","behind","ref"]
noncomputable def gH:cC:=
 (.cons (.asg (.name 1) (.call 5 (.cons (.var 0) .nil)))
 (.cons (.ifs (.cmp .Eq (.var 1) (.blt .len (.cons (.var 0) .nil)))
  (.cons (.ret (.con .non))
 .nil)
  .nil)
 (.cons (.asg (.name 2) (.sl (.var 0) (.some (.var 1)) .none))
 (.cons (.ifs (.cmp .Eq (.ix (.var 2) (.con (.int 0))) (.con (.str "is")))
  (.cons (.ret (.call 4 (.cons (.sl (.var 0) .none (.some (.var 1))) (.cons (.sl (.var 2) (.some (.con (.int 1))) .none) .nil))))
 .nil)
  .nil)
 (.cons (.ifs (.cmp .Lt (.var 1) (.con (.int 2)))
  (.cons (.ret (.con .non))
 .nil)
  .nil)
 (.cons (.asg (.name 3) (.call 3 (.cons (.sl (.var 0) .none (.some (.bin .Sub (.var 1) (.con (.int 1))))) .nil)))
 (.cons (.ifs (.cmp .Is (.var 3) (.con .non))
  (.cons (.ret (.con .non))
 .nil)
  .nil)
 (.cons (.ifs (.cmp .In (.ix (.var 2) (.con (.int 0))) (.glo 1))
  (.cons (.ret (.call 2 (.cons (.var 3) (.cons (.ix (.var 0) (.bin .Sub (.var 1) (.con (.int 1)))) (.cons (.sl (.var 2) (.some (.con (.int 1))) .none) .nil)))))
 .nil)
  .nil)
 (.cons (.ret (.call 0 (.cons (.var 3) (.cons (.ix (.var 0) (.bin .Sub (.var 1) (.con (.int 1)))) (.cons (.var 2) .nil)))))
 .nil)))))))))
abbrev mR:List Str:=["words","count"]
noncomputable def k9:cC:=
 (.cons (.aug 1 (.con (.int 1)))
 .nil)
noncomputable def jR:cC:=
 (.cons (.asg (.name 1) (.con (.int 0)))
 (.cons (.whil (.and (.cmp .Lt (.var 1) (.blt .len (.cons (.var 0) .nil))) (.call 0 (.cons (.ix (.var 0) (.var 1)) .nil))) k9)
 (.cons (.ret (.var 1))
 .nil)))
abbrev EJ:List Str:=["ref_words","words","ref","kinds"]
noncomputable def tY:cC:=
 (.cons (.asg (.name 2) (.call 2 (.cons (.var 0) .nil)))
 (.cons (.asg (.name 3) (.call 1 (.cons (.sl (.var 1) (.some (.con (.int 1))) .none) .nil)))
 (.cons (.ifs (.or (.cmp .Is (.var 2) (.con .non)) (.or (.cmp .Is (.var 3) (.con .non)) (.cmp .NotIn (.ix (.var 1) (.con (.int 0))) (.glo 0))))
  (.cons (.ret (.con .non))
 .nil)
  .nil)
 (.cons (.ret (.tup (.cons (.con (.str "is")) (.cons (.var 2) (.cons (.var 3) .nil)))))
 .nil))))
abbrev Ax:List Str:=["ref","word","words","other"]
noncomputable def uL:cC:=
 (.cons (.asg (.name 3) (.call 0 (.cons (.var 2) .nil)))
 (.cons (.ifs (.cmp .Is (.var 3) (.con .non))
  (.cons (.ret (.con .non))
 .nil)
  .nil)
 (.cons (.ret (.tup (.cons (.con (.str "join")) (.cons (.var 0) (.cons (.var 1) (.cons (.var 3) .nil))))))
 .nil)))
abbrev Ay:List Str:=["ref","word","words","bounds"]
noncomputable def qo:cC:=
 (.cons (.asg (.name 3) (.call 0 (.cons (.var 2) .nil)))
 (.cons (.ifs (.cmp .Is (.var 3) (.con .non))
  (.cons (.ret (.con .non))
 .nil)
  .nil)
 (.cons (.ret (.tup (.cons (.con (.str "size")) (.cons (.var 0) (.cons (.var 1) (.cons (.ix (.var 3) (.con (.int 0))) (.cons (.ix (.var 3) (.con (.int 1))) .nil)))))))
 .nil)))
abbrev w_:List Str:=["words","form","numbers"]
noncomputable def iK:cC:=
 (.cons (.casg 1 (.comp ["word"] [] (.ite (.cmp .Is (.call 0 (.cons (.var 0) .nil)) (.con .non)) (.var 0) (.con (.str ""))) (.name 0) (.seq (.var 0)) .none))
 (.cons (.casg 2 (.comp ["word"] [] (.call 0 (.cons (.var 0) .nil)) (.name 0) (.seq (.var 0)) (.some (.cmp .IsNot (.call 0 (.cons (.var 0) .nil)) (.con .non)))))
 (.cons (.ifs (.cmp .Eq (.var 1) (.lst (.cons (.con (.str "of")) (.cons (.con (.str "")) .nil))))
  (.cons (.ret (.tup (.cons (.ix (.var 2) (.con (.int 0))) (.cons (.ix (.var 2) (.con (.int 0))) .nil))))
 .nil)
  .nil)
 (.cons (.ifs (.cmp .Eq (.var 1) (.lst (.cons (.con (.str "at")) (.cons (.con (.str "least")) (.cons (.con (.str "")) .nil)))))
  (.cons (.ret (.tup (.cons (.ix (.var 2) (.con (.int 0))) (.cons (.con .non) .nil))))
 .nil)
  .nil)
 (.cons (.ifs (.cmp .Eq (.var 1) (.lst (.cons (.con (.str "at")) (.cons (.con (.str "most")) (.cons (.con (.str "")) .nil)))))
  (.cons (.ret (.tup (.cons (.con .non) (.cons (.ix (.var 2) (.con (.int 0))) .nil))))
 .nil)
  .nil)
 (.cons (.ifs (.and (.cmp .Eq (.var 1) (.lst (.cons (.con (.str "from")) (.cons (.con (.str "")) (.cons (.con (.str "to")) (.cons (.con (.str "")) .nil)))))) (.cmp .LtE (.ix (.var 2) (.con (.int 0))) (.ix (.var 2) (.con (.int 1)))))
  (.cons (.ret (.tup (.cons (.ix (.var 2) (.con (.int 0))) (.cons (.ix (.var 2) (.con (.int 1))) .nil))))
 .nil)
  .nil)
 (.cons (.ret (.con .non))
 .nil)))))))
abbrev Az:List Str:=["words"]
noncomputable def uM:cC:=
 (.cons (.ret (.blt .all (.cons (.comp ["word"] [] (.call 0 (.cons (.var 0) .nil)) (.name 0) (.seq (.var 0)) .none) .nil)))
 .nil)
abbrev Hj:List Str:=["_law_script","_law_k"]
noncomputable def wg:cC:=
 (.cons (.ifs (.cmp .Lt (.var 1) (.blt .len (.cons (.var 0) .nil)))
  (.cons (.ret (.ix (.var 0) (.var 1)))
 .nil)
  .nil)
 (.cons (.ret (.bin .Mult (.con (.int 2377)) (.bin .Add (.var 1) (.con (.int 1)))))
 .nil))
abbrev EK:List Str:=["_law_cell_here","_law_k","_law_once"]
noncomputable def yz:cC:=
 (.cons (.asg (.name 2) (.bin .Mod (.bin .Mult (.bin .Add (.bin .Add (.bin .Mod (.var 0) (.con (.int 2147483647))) (.bin .Mult (.con (.int 7919)) (.var 1))) (.con (.int 1))) (.con (.int 48271))) (.con (.int 2147483647))))
 (.cons (.ret (.bin .FloorDiv (.bin .Mod (.bin .Mult (.var 2) (.bin .Add (.bin .Mod (.var 2) (.con (.int 1009))) (.con (.int 1)))) (.con (.int 2147483629))) (.con (.int 3))))
 .nil))
abbrev Hl:List Str:=["_law_seed","_law_which","_law_letters","_law_size","_law_rest","_law_spot","_law_sign"]
noncomputable def Bg:cC:=
 (.cons (.asg (.name 2) (.con (.str "abcdefghijklmnopqrstuvwxyz")))
 (.cons (.asg (.name 3) (.bin .Add (.con (.int 1)) (.bin .Mod (.var 0) (.con (.int 8)))))
 (.cons (.ifs (.cmp .Eq (.var 3) (.con (.int 1)))
  (.cons (.ret (.ix (.var 2) (.bin .Add (.con (.int 1)) (.bin .Mod (.bin .Add (.bin .FloorDiv (.var 0) (.con (.int 8))) (.bin .Mult (.con (.int 3)) (.var 1))) (.con (.int 25))))))
 .nil)
  .nil)
 (.cons (.asg (.name 4) (.ix (.con (.str "bgkpqvwxyz")) (.bin .Mod (.bin .FloorDiv (.var 0) (.con (.int 8))) (.con (.int 10)))))
 (.cons (.asg (.name 5) (.bin .Mod (.bin .FloorDiv (.var 0) (.con (.int 80))) (.var 3)))
 (.cons (.asg (.name 6) (.ix (.var 2) (.bin .Mod (.bin .Add (.bin .FloorDiv (.var 0) (.con (.int 640))) (.bin .Mult (.con (.int 5)) (.var 1))) (.con (.int 26)))))
 (.cons (.ret (.bin .Add (.bin .Add (.bin .Mult (.var 4) (.var 5)) (.var 6)) (.bin .Mult (.var 4) (.bin .Sub (.bin .Sub (.var 3) (.con (.int 1))) (.var 5)))))
 .nil)))))))
abbrev JY:List Str:=["_law_seed","_law_d","_law_label"]
noncomputable def zS:cC:=
 (.cons (.asg (.name 2) (.con (.str "")))
 (.cons (.ifs (.cmp .Eq (.bin .Mod (.var 1) (.con (.int 2))) (.con (.int 1)))
  (.cons (.asg (.name 2) (.call 0 (.cons (.var 0) (.cons (.bin .Mod (.bin .FloorDiv (.var 1) (.con (.int 2))) (.con (.int 26))) .nil))))
 .nil)
  .nil)
 (.cons (.ret (.tup (.cons (.var 2) (.cons (.call 0 (.cons (.var 0) (.cons (.bin .Mod (.bin .FloorDiv (.var 1) (.con (.int 52))) (.con (.int 26))) .nil))) .nil))))
 .nil)))
abbrev Ho:List Str:=["_law_seed","_law_d"]
noncomputable def Bh:cC:=
 (.cons (.ret (.comp ["_law_k"] [0,1] (.call 0 (.cons (.var 1) (.cons (.bin .Add (.bin .Mod (.bin .FloorDiv (.var 2) (.con (.int 3))) (.con (.int 26))) (.var 0)) .nil))) (.name 0) (.range (.cons (.bin .Add (.con (.int 1)) (.bin .Mod (.var 1) (.con (.int 3)))) .nil)) .none))
 .nil)
abbrev Cc:List Str:=["_law_cell_here","_law_d","_law_low","_law_high"]
noncomputable def rM:cC:=
 (.cons (.asg (.name 2) (.ix (.lst (.cons (.bin .Sub (.bin .Mod (.var 1) (.con (.int 5))) (.con (.int 2))) (.cons (.bin .Mod (.var 0) (.bin .Pow (.con (.int 10)) (.con (.int 30)))) (.cons (.bin .Sub (.con (.int 0)) (.bin .Mod (.var 0) (.bin .Pow (.con (.int 10)) (.con (.int 30))))) .nil)))) (.bin .Mod (.bin .FloorDiv (.var 1) (.con (.int 5))) (.con (.int 3)))))
 (.cons (.asg (.name 3) (.bin .Add (.var 2) (.ix (.lst (.cons (.con (.int 0)) (.cons (.bin .Add (.con (.int 1)) (.bin .Mod (.bin .FloorDiv (.var 1) (.con (.int 15))) (.con (.int 7)))) (.cons (.bin .Mod (.var 0) (.bin .Pow (.con (.int 10)) (.con (.int 20)))) .nil)))) (.bin .Mod (.bin .FloorDiv (.var 1) (.con (.int 105))) (.con (.int 3))))))
 (.cons (.ifs (.cmp .Gt (.blt .abs (.cons (.var 3) .nil)) (.bin .Sub (.bin .Pow (.con (.int 10)) (.con (.int 30))) (.con (.int 1))))
  (.cons (.asg (.name 3) (.var 2))
 .nil)
  .nil)
 (.cons (.ifs (.cmp .Eq (.bin .Mod (.bin .FloorDiv (.var 1) (.con (.int 315))) (.con (.int 4))) (.con (.int 0)))
  (.cons (.ret (.tup (.cons (.var 2) (.cons (.con .non) .nil))))
 .nil)
  .nil)
 (.cons (.ifs (.cmp .Eq (.bin .Mod (.bin .FloorDiv (.var 1) (.con (.int 315))) (.con (.int 4))) (.con (.int 1)))
  (.cons (.ret (.tup (.cons (.con .non) (.cons (.var 3) .nil))))
 .nil)
  .nil)
 (.cons (.ret (.tup (.cons (.var 2) (.cons (.var 3) .nil))))
 .nil))))))
abbrev JZ:List Str:=["_law_cell_here","_law_k","_law_seed","_law_d","_law_e","_law_f","_law_label","_law_many","_law_low","_law_high"]
noncomputable def pQ:cC:=
 (.cons (.asg (.name 3) (.call 4 (.cons (.var 0) (.cons (.var 1) .nil))))
 (.cons (.asg (.name 4) (.call 4 (.cons (.var 0) (.cons (.bin .Add (.var 1) (.con (.int 40))) .nil))))
 (.cons (.asg (.name 5) (.call 4 (.cons (.var 0) (.cons (.bin .Add (.var 1) (.con (.int 80))) .nil))))
 (.cons (.ifs (.cmp .Lt (.bin .Mod (.var 3) (.con (.int 7))) (.con (.int 3)))
  (.cons (.asg (.name 6) (.ix (.lst (.cons (.con (.str "")) (.cons (.call 1 (.cons (.var 2) (.cons (.bin .Mod (.bin .FloorDiv (.var 4) (.con (.int 78))) (.con (.int 26))) .nil))) .nil))) (.bin .Mod (.bin .FloorDiv (.var 3) (.con (.int 7))) (.con (.int 2)))))
 (.cons (.asg (.name 7) (.ix (.lst (.cons (.con (.int 1)) (.cons (.bin .Add (.con (.int 1)) (.bin .Mod (.var 5) (.con (.int 5)))) (.cons (.bin .Add (.con (.int 1)) (.bin .Mod (.var 5) (.con (.int 5)))) .nil)))) (.bin .Mod (.var 3) (.con (.int 7)))))
 (.cons (.ret (.tup (.cons (.con (.str "parts")) (.cons (.var 7) (.cons (.cmp .Eq (.bin .Mod (.var 3) (.con (.int 7))) (.con (.int 2))) (.cons (.var 6) (.cons (.call 2 (.cons (.var 2) (.cons (.var 4) .nil))) .nil)))))))
 .nil)))
  .nil)
 (.cons (.ifs (.cmp .Eq (.bin .Mod (.var 3) (.con (.int 7))) (.con (.int 3)))
  (.cons (.ret (.tup (.cons (.con (.str "join")) (.cons (.call 0 (.cons (.var 2) (.cons (.var 4) .nil))) (.cons (.call 1 (.cons (.var 2) (.cons (.bin .Mod (.bin .FloorDiv (.var 3) (.con (.int 7))) (.con (.int 26))) .nil))) (.cons (.call 0 (.cons (.var 2) (.cons (.var 5) .nil))) .nil))))))
 .nil)
  .nil)
 (.cons (.ifs (.cmp .Eq (.bin .Mod (.var 3) (.con (.int 7))) (.con (.int 4)))
  (.cons (.tasg (.tup (.cons (.name 8) (.cons (.name 9) .nil))) (.call 3 (.cons (.var 0) (.cons (.var 5) .nil))))
 (.cons (.ret (.tup (.cons (.con (.str "size")) (.cons (.call 0 (.cons (.var 2) (.cons (.var 4) .nil))) (.cons (.call 1 (.cons (.var 2) (.cons (.bin .Mod (.bin .FloorDiv (.var 3) (.con (.int 7))) (.con (.int 26))) .nil))) (.cons (.var 8) (.cons (.var 9) .nil)))))))
 .nil))
  .nil)
 (.cons (.ifs (.cmp .Eq (.bin .Mod (.var 3) (.con (.int 7))) (.con (.int 5)))
  (.cons (.ret (.tup (.cons (.con (.str "is")) (.cons (.call 0 (.cons (.var 2) (.cons (.var 4) .nil))) (.cons (.call 2 (.cons (.var 2) (.cons (.var 5) .nil))) .nil)))))
 .nil)
  .nil)
 (.cons (.ret (.tup (.cons (.con (.str "then")) (.cons (.call 1 (.cons (.var 2) (.cons (.bin .Mod (.bin .FloorDiv (.var 3) (.con (.int 7))) (.con (.int 26))) .nil))) (.cons (.call 0 (.cons (.var 2) (.cons (.var 4) .nil))) .nil)))))
 .nil))))))))
abbrev EL:List Str:=["_law_d","_law_above","_law_takes_here","_law_number"]
noncomputable def lI:cC:=
 (.cons (.ifs (.and (.cmp .Eq (.bin .Mod (.bin .RShift (.var 0) (.var 3)) (.con (.int 3))) (.con (.int 0))) (.cmp .Lt (.blt .len (.cons (.var 2) .nil)) (.con (.int 4))))
  (.cons (.expr (.mth .append (.var 2) (.cons (.var 3) .nil)))
 .nil)
  .nil)
 .nil)
noncomputable def yC:cC:=
 (.cons (.asg (.name 2) (.lst .nil))
 (.cons (.forr (.name 3) (.range (.cons (.con (.int 1)) (.cons (.bin .Add (.var 1) (.con (.int 1))) .nil))) lI)
 (.cons (.ret (.var 2))
 .nil)))
abbrev Cd:List Str:=["_law_script","_law_seed","_law_claims_here","_law_k","_law_cell_here","_law_d"]
noncomputable def dO:cC:=
 (.cons (.asg (.name 5) (.call 2 (.cons (.var 4) (.cons (.bin .Add (.var 3) (.con (.int 120))) .nil))))
 (.cons (.ifs (.and (.cmp .Lt (.blt .len (.cons (.var 2) .nil)) (.con (.int 12))) (.or (.cmp .Eq (.bin .Mod (.var 5) (.con (.int 6))) (.con (.int 0))) (.cmp .Eq (.blt .len (.cons (.ix (.ix (.var 2) (.neg (.con (.int 1)))) (.con (.int 1))) .nil)) (.con (.int 12)))))
  (.cons (.expr (.mth .append (.var 2) (.cons (.tup (.cons (.call 0 (.cons (.bin .FloorDiv (.var 5) (.con (.int 6))) (.cons (.blt .len (.cons (.var 2) .nil)) .nil))) (.cons (.lst .nil) .nil))) .nil)))
 .nil)
  (.cons (.ifs (.cmp .Lt (.blt .len (.cons (.ix (.ix (.var 2) (.neg (.con (.int 1)))) (.con (.int 1))) .nil)) (.con (.int 12)))
  (.cons (.expr (.mth .append (.ix (.ix (.var 2) (.neg (.con (.int 1)))) (.con (.int 1))) (.cons (.call 1 (.cons (.var 4) (.cons (.var 3) (.cons (.var 1) .nil)))) .nil)))
 .nil)
  .nil)
 .nil))
 .nil))
noncomputable def wj:cC:=
 (.cons (.asg (.name 1) (.call 2 (.cons (.call 3 (.cons (.var 0) (.cons (.con (.int 0)) .nil))) (.cons (.con (.int 1)) .nil))))
 (.cons (.asg (.name 2) (.lst (.cons (.tup (.cons (.lst .nil) (.cons (.lst .nil) .nil))) .nil)))
 (.cons (.forr (.tup (.cons (.name 3) (.cons (.name 4) .nil))) (.enum (.sl (.var 0) (.some (.con (.int 1))) (.some (.con (.int 63))))) dO)
 (.cons (.ret (.var 2))
 .nil))))
abbrev yD:List Str:=["_law_ref_here"]
noncomputable def sS:cC:=
 (.cons (.ret (.mth .join (.con (.str " ")) (.cons (.comp ["_law_word_here"] [] (.var 0) (.name 0) (.seq (.tup (.cons (.con (.str "the")) (.cons (.ix (.var 0) (.con (.int 0))) (.cons (.ix (.var 0) (.con (.int 1))) .nil))))) (.some (.cmp .NotEq (.var 0) (.con (.str ""))))) .nil)))
 .nil)
abbrev xg:List Str:=["_law_low","_law_high"]
noncomputable def kO:cC:=
 (.cons (.ifs (.cmp .Is (.var 1) (.con .non))
  (.cons (.ret (.bin .Add (.con (.str "at least ")) (.blt .str (.cons (.var 0) .nil))))
 .nil)
  .nil)
 (.cons (.ifs (.cmp .Is (.var 0) (.con .non))
  (.cons (.ret (.bin .Add (.con (.str "at most ")) (.blt .str (.cons (.var 1) .nil))))
 .nil)
  .nil)
 (.cons (.ifs (.cmp .Eq (.var 0) (.var 1))
  (.cons (.ret (.bin .Add (.con (.str "of ")) (.blt .str (.cons (.var 0) .nil))))
 .nil)
  .nil)
 (.cons (.ret (.bin .Add (.bin .Add (.bin .Add (.con (.str "from ")) (.blt .str (.cons (.var 0) .nil))) (.con (.str " to "))) (.blt .str (.cons (.var 1) .nil))))
 .nil))))
abbrev Hq:List Str:=["_law_row_here","_law_head"]
noncomputable def nK:cC:=
 (.cons (.ifs (.cmp .Eq (.ix (.var 0) (.con (.int 0))) (.con (.str "parts")))
  (.cons (.asg (.name 1) (.bin .Add (.con (.str "at least ")) (.blt .str (.cons (.ix (.var 0) (.con (.int 1))) .nil))))
 (.cons (.ifs (.cmp .Eq (.ix (.var 0) (.con (.int 1))) (.con (.int 1)))
  (.cons (.asg (.name 1) (.con (.str "a")))
 .nil)
  .nil)
 (.cons (.ifs (.ix (.var 0) (.con (.int 2)))
  (.cons (.asg (.name 1) (.bin .Add (.con (.str "just ")) (.blt .str (.cons (.ix (.var 0) (.con (.int 1))) .nil))))
 .nil)
  .nil)
 (.cons (.ret (.mth .join (.con (.str " ")) (.cons (.comp ["_law_word_here"] [] (.var 0) (.name 0) (.seq (.tup (.cons (.var 1) (.cons (.ix (.var 0) (.con (.int 3))) (.cons (.mth .join (.con (.str " or ")) (.cons (.ix (.var 0) (.con (.int 4))) .nil)) .nil))))) (.some (.cmp .NotEq (.var 0) (.con (.str ""))))) .nil)))
 .nil))))
  .nil)
 (.cons (.ifs (.cmp .Eq (.ix (.var 0) (.con (.int 0))) (.con (.str "join")))
  (.cons (.ret (.bin .Add (.bin .Add (.bin .Add (.bin .Add (.call 0 (.cons (.ix (.var 0) (.con (.int 1))) .nil)) (.con (.str " "))) (.ix (.var 0) (.con (.int 2)))) (.con (.str " "))) (.call 0 (.cons (.ix (.var 0) (.con (.int 3))) .nil))))
 .nil)
  .nil)
 (.cons (.ifs (.cmp .Eq (.ix (.var 0) (.con (.int 0))) (.con (.str "size")))
  (.cons (.ret (.bin .Add (.bin .Add (.bin .Add (.bin .Add (.call 0 (.cons (.ix (.var 0) (.con (.int 1))) .nil)) (.con (.str " "))) (.ix (.var 0) (.con (.int 2)))) (.con (.str " "))) (.call 1 (.cons (.ix (.var 0) (.con (.int 3))) (.cons (.ix (.var 0) (.con (.int 4))) .nil)))))
 .nil)
  .nil)
 (.cons (.ifs (.cmp .Eq (.ix (.var 0) (.con (.int 0))) (.con (.str "is")))
  (.cons (.ret (.bin .Add (.bin .Add (.call 0 (.cons (.ix (.var 0) (.con (.int 1))) .nil)) (.con (.str " is a "))) (.mth .join (.con (.str " or ")) (.cons (.ix (.var 0) (.con (.int 2))) .nil))))
 .nil)
  .nil)
 (.cons (.ret (.bin .Add (.bin .Add (.bin .Add (.con (.str "then ")) (.ix (.var 0) (.con (.int 1)))) (.con (.str " "))) (.call 0 (.cons (.ix (.var 0) (.con (.int 2))) .nil))))
 .nil)))))
abbrev EM:List Str:=["_law_claims_here","_law_lines_here","_law_takes_here","_law_rows"]
noncomputable def sU:cC:=
 (.cons (.expr (.mth .append (.var 1) (.cons (.mth .join (.con (.str " or ")) (.cons (.comp ["_law_k"] [2] (.bin .Add (.bin .Mult (.con (.str "claim on ")) (.blt .int (.cons (.cmp .Eq (.var 0) (.con (.int 0))) .nil))) (.blt .str (.cons (.ix (.var 1) (.var 0)) .nil))) (.name 0) (.range (.cons (.blt .len (.cons (.var 2) .nil)) .nil)) .none) .nil)) .nil)))
 (.cons (.ifs (.cmp .Eq (.var 2) (.lst .nil))
  (.cons (.asg (.sub (.var 1) (.neg (.con (.int 1)))) (.con (.str "claim")))
 .nil)
  .nil)
 (.cons (.asg (.name 1) (.bin .Add (.var 1) (.comp ["_law_row_here"] [] (.call 0 (.cons (.var 0) .nil)) (.name 0) (.seq (.var 3)) .none)))
 .nil)))
noncomputable def yE:cC:=
 (.cons (.asg (.name 1) (.lst .nil))
 (.cons (.forr (.tup (.cons (.name 2) (.cons (.name 3) .nil))) (.seq (.var 0)) sU)
 (.cons (.ret (.var 1))
 .nil)))
abbrev AA:List Str:=["_law_text_here","_law_told","_law_e","_law_kinds","_law_others"]
noncomputable def uN:cC:=
 (.cons (.asg (.name 1) (.con .non))
 (.cons (.tri 2 0 (.call 1 (.cons (.var 0) .nil))
  (.cons (.asg (.name 3) (.lst (.cons (.isx true [16] (.var 2)) (.cons (.isx true [15] (.var 2)) (.cons (.isx true [14] (.var 2)) .nil)))))
 (.cons (.asg (.name 4) (.isx false [7,8,9,10,11,12,13] (.var 2)))
 (.cons (.asg (.name 4) (.or (.var 4) (.or (.isx false [3,4,5,6] (.var 2)) (.not (.isv 2 (.var 2))))))
 (.cons (.ifs (.and (.cmp .Eq (.mth .count (.var 3) (.cons (.con (.bl true)) .nil)) (.con (.int 1))) (.not (.var 4)))
  (.cons (.asg (.name 1) (.tup (.cons (.ix (.lst (.cons (.con (.str "row")) (.cons (.con (.str "claim")) (.cons (.con (.str "big")) .nil)))) (.mth .index (.var 3) (.cons (.con (.bl true)) .nil))) (.cons (.att 2 (.var 2) "row") .nil))))
 (.cons (.ifs (.and (.ix (.var 3) (.con (.int 2))) (.cmp .NotEq (.att 2 (.var 2) "claim") (.con (.int 0))))
  (.cons (.asg (.name 1) (.con .non))
 .nil)
  .nil)
 .nil))
  .nil)
 .nil)))))
 (.cons (.ret (.var 1))
 .nil)))
abbrev J0:List Str:=["_law_seed","_law_d","_law_a","_law_b","_law_c","_law_the","_law_rows","_law_ends"]
noncomputable def vh:cC:=
 (.cons (.asg (.name 2) (.call 0 (.cons (.var 0) (.cons (.bin .Mod (.var 1) (.con (.int 26))) .nil))))
 (.cons (.asg (.name 3) (.call 0 (.cons (.var 0) (.cons (.bin .Add (.bin .Mod (.var 1) (.con (.int 26))) (.con (.int 1))) .nil))))
 (.cons (.asg (.name 4) (.call 0 (.cons (.var 0) (.cons (.bin .Add (.bin .Mod (.var 1) (.con (.int 26))) (.con (.int 2))) .nil))))
 (.cons (.asg (.name 5) (.bin .Add (.con (.str "the ")) (.var 2)))
 (.cons (.asg (.name 6) (.lst (.cons (.con (.str "the")) (.cons (.var 5) (.cons (.bin .Add (.bin .Add (.var 5) (.con (.str " "))) (.var 3)) (.cons (.bin .Add (.bin .Add (.bin .Add (.bin .Add (.var 5) (.con (.str " "))) (.var 3)) (.con (.str " "))) (.var 4)) (.cons (.con (.str "a")) (.cons (.bin .Add (.con (.str "a or ")) (.var 3)) (.cons (.bin .Add (.bin .Add (.con (.str "a ")) (.var 2)) (.con (.str " or"))) (.cons (.con (.str "a the")) (.cons (.var 2) (.cons (.con (.str "an on")) .nil))))))))))))
 (.cons (.asg (.name 6) (.bin .Add (.var 6) (.lst (.cons (.bin .Add (.bin .Add (.bin .Add (.con (.str "a ")) (.var 2)) (.con (.str " or "))) (.var 2)) (.cons (.bin .Add (.bin .Add (.bin .Add (.bin .Add (.bin .Add (.con (.str "a ")) (.var 2)) (.con (.str " "))) (.var 3)) (.con (.str " "))) (.var 4)) (.cons (.bin .Add (.bin .Add (.bin .Add (.bin .Add (.bin .Add (.con (.str "a ")) (.var 2)) (.con (.str " "))) (.var 3)) (.con (.str " or "))) (.var 3)) (.cons (.bin .Add (.con (.str "A ")) (.var 2)) .nil)))))))
 (.cons (.asg (.name 6) (.bin .Add (.var 6) (.lst (.cons (.bin .Add (.con (.str "a ")) (.mth .join (.con (.str " or ")) (.cons (.lst (.cons (.var 2) (.cons (.var 3) (.cons (.var 4) (.cons (.call 0 (.cons (.var 0) (.cons (.bin .Add (.bin .Mod (.var 1) (.con (.int 26))) (.con (.int 3))) .nil))) .nil))))) .nil))) (.cons (.bin .Add (.bin .Add (.con (.str "a ")) (.var 2)) (.con (.str "1"))) (.cons (.bin .Add (.con (.str "a ")) (.mth .upper (.var 2) .nil)) .nil))))))
 (.cons (.asg (.name 6) (.bin .Add (.var 6) (.lst (.cons (.bin .Add (.con (.str "at ")) (.var 2)) (.cons (.bin .Add (.con (.str "at least ")) (.var 2)) (.cons (.bin .Add (.con (.str "at least 0 ")) (.var 2)) (.cons (.bin .Add (.con (.str "at least 6 ")) (.var 2)) (.cons (.bin .Add (.con (.str "at least 01 ")) (.var 2)) (.cons (.con (.str "at least 2")) .nil)))))))))
 (.cons (.asg (.name 6) (.bin .Add (.var 6) (.lst (.cons (.bin .Add (.con (.str "at most 2 ")) (.var 2)) (.cons (.bin .Add (.con (.str "just ")) (.var 2)) (.cons (.con (.str "just 2")) (.cons (.bin .Add (.con (.str "just -1 ")) (.var 2)) (.cons (.bin .Add (.con (.str "just 6 ")) (.var 2)) (.cons (.bin .Add (.con (.str "just 2 3 ")) (.var 2)) (.cons (.bin .Add (.con (.str "is ")) (.var 2)) .nil))))))))))
 (.cons (.asg (.name 6) (.bin .Add (.var 6) (.lst (.cons (.bin .Add (.bin .Add (.bin .Add (.var 5) (.con (.str " "))) (.var 3)) (.con (.str " the"))) (.cons (.bin .Add (.bin .Add (.var 5) (.con (.str " the "))) (.var 3)) (.cons (.bin .Add (.bin .Add (.bin .Add (.bin .Add (.bin .Add (.bin .Add (.bin .Add (.bin .Add (.bin .Add (.con (.str "the ")) (.var 3)) (.con (.str " "))) (.var 4)) (.con (.str " "))) (.var 2)) (.con (.str " "))) (.var 3)) (.con (.str " "))) (.var 5)) .nil))))))
 (.cons (.asg (.name 6) (.bin .Add (.var 6) (.lst (.cons (.bin .Add (.bin .Add (.bin .Add (.bin .Add (.bin .Add (.bin .Add (.bin .Add (.bin .Add (.var 5) (.con (.str " "))) (.var 3)) (.con (.str " the "))) (.var 2)) (.con (.str " "))) (.var 3)) (.con (.str " "))) (.var 4)) (.cons (.bin .Add (.bin .Add (.bin .Add (.var 5) (.con (.str " "))) (.var 3)) (.con (.str " from 2 to 1"))) (.cons (.bin .Add (.var 5) (.con (.str " of 1"))) .nil))))))
 (.cons (.asg (.name 7) (.lst (.cons (.con (.str " from 1")) (.cons (.con (.str " from 1 to")) (.cons (.con (.str " at least")) (.cons (.bin .Add (.con (.str " of ")) (.var 4)) (.cons (.con (.str " of -0")) (.cons (.con (.str " of 00")) (.cons (.con (.str " of 1 1")) (.cons (.bin .Add (.con (.str " of ")) (.bin .Mult (.con (.str "1")) (.con (.int 31)))) .nil))))))))))
 (.cons (.asg (.name 6) (.bin .Add (.var 6) (.comp ["_law_end"] [3,5] (.bin .Add (.bin .Add (.bin .Add (.var 2) (.con (.str " "))) (.var 1)) (.var 0)) (.name 0) (.seq (.bin .Add (.var 7) (.lst (.cons (.con (.str " least 1")) (.cons (.con (.str " at 1")) (.cons (.con (.str " from 1 or 2")) .nil)))))) .none)))
 (.cons (.asg (.name 6) (.bin .Add (.var 6) (.lst (.cons (.bin .Add (.bin .Add (.var 5) (.con (.str " is "))) (.var 2)) (.cons (.bin .Add (.var 5) (.con (.str " is a"))) (.cons (.bin .Add (.bin .Add (.var 5) (.con (.str " is the "))) (.var 3)) (.cons (.bin .Add (.bin .Add (.bin .Add (.bin .Add (.var 5) (.con (.str " is a "))) (.var 3)) (.con (.str " or "))) (.var 3)) (.cons (.con (.str "then")) .nil))))))))
 (.cons (.asg (.name 6) (.bin .Add (.var 6) (.lst (.cons (.bin .Add (.con (.str "the is a ")) (.var 2)) (.cons (.bin .Add (.bin .Add (.bin .Add (.bin .Add (.bin .Add (.bin .Add (.var 5) (.con (.str " "))) (.var 3)) (.con (.str " "))) (.var 4)) (.con (.str " is a "))) (.var 3)) (.cons (.bin .Add (.bin .Add (.bin .Add (.bin .Add (.var 5) (.con (.str " is a "))) (.var 3)) (.con (.str " "))) (.var 4)) (.cons (.bin .Add (.con (.str "then ")) (.var 2)) .nil)))))))
 (.cons (.asg (.name 6) (.bin .Add (.var 6) (.lst (.cons (.bin .Add (.bin .Add (.bin .Add (.con (.str "then ")) (.var 2)) (.con (.str " "))) (.var 3)) (.cons (.bin .Add (.con (.str "then the ")) (.var 2)) (.cons (.bin .Add (.bin .Add (.con (.str "then ")) (.var 2)) (.con (.str " the"))) (.cons (.bin .Add (.con (.str "then a the ")) (.var 2)) .nil)))))))
 (.cons (.asg (.name 6) (.bin .Add (.var 6) (.lst (.cons (.bin .Add (.bin .Add (.bin .Add (.bin .Add (.bin .Add (.bin .Add (.bin .Add (.con (.str "then ")) (.var 2)) (.con (.str " the "))) (.var 3)) (.con (.str " "))) (.var 4)) (.con (.str " "))) (.var 2)) .nil))))
 (.cons (.asg (.name 6) (.bin .Add (.var 6) (.lst (.cons (.bin .Add (.con (.str "then on the ")) (.var 2)) (.cons (.con (.str "claim claim")) (.cons (.con (.str "claim on")) (.cons (.con (.str "claim 1")) (.cons (.con (.str "claim on 0 1")) (.cons (.con (.str "claim on 0 or")) (.cons (.con (.str "claims")) .nil))))))))))
 (.cons (.asg (.name 6) (.bin .Add (.var 6) (.lst (.cons (.bin .Add (.con (.str "claim on ")) (.var 2)) (.cons (.con (.str "claim on 01")) (.cons (.con (.str "claim on -1")) (.cons (.con (.str "claim on 0 or 0")) (.cons (.con (.str "claim on 1 or 0")) (.cons (.con (.str "claim or 1")) .nil)))))))))
 (.cons (.ret (.ix (.var 6) (.bin .Mod (.bin .FloorDiv (.var 1) (.con (.int 26))) (.blt .len (.cons (.var 6) .nil)))))
 .nil))))))))))))))))))))
abbrev S3:List Str:=["_law_script","_law_lines_here","_law_seed","_law_d","_law_at","_law_row_here","_law_rest"]
noncomputable def zT:cC:=
 (.cons (.asg (.name 1) (.call 7 (.cons (.call 8 (.cons (.var 0) .nil)) .nil)))
 (.cons (.asg (.name 2) (.call 6 (.cons (.call 5 (.cons (.var 0) (.cons (.con (.int 0)) .nil))) (.cons (.con (.int 1)) .nil))))
 (.cons (.asg (.name 3) (.call 6 (.cons (.call 5 (.cons (.var 0) (.cons (.con (.int 1)) .nil))) (.cons (.con (.int 300)) .nil))))
 (.cons (.asg (.name 4) (.bin .Mod (.var 3) (.bin .Add (.blt .len (.cons (.var 1) .nil)) (.con (.int 1)))))
 (.cons (.asg (.name 5) (.call 2 (.cons (.var 2) (.cons (.bin .FloorDiv (.var 3) (.con (.int 64))) .nil))))
 (.cons (.asg (.name 6) (.sl (.var 1) (.some (.bin .Add (.var 4) (.bin .Mod (.bin .FloorDiv (.var 3) (.con (.int 7))) (.con (.int 2))))) .none))
 (.cons (.ifs (.cmp .Eq (.bin .Mod (.var 3) (.con (.int 11))) (.con (.int 0)))
  (.cons (.asg (.name 4) (.con (.int 0)))
 (.cons (.asg (.name 5) (.call 3 (.cons (.call 4 (.cons (.call 5 (.cons (.var 0) (.cons (.con (.int 2)) .nil))) (.cons (.con (.int 3)) (.cons (.var 2) .nil)))) .nil)))
 (.cons (.asg (.name 6) (.var 1))
 .nil)))
  .nil)
 (.cons (.ifs (.cmp .Eq (.bin .Mod (.bin .FloorDiv (.var 3) (.con (.int 14))) (.con (.int 2))) (.con (.int 1)))
  (.cons (.asg (.name 6) (.bin .Add (.var 6) (.lst (.cons (.call 2 (.cons (.var 2) (.cons (.bin .FloorDiv (.var 3) (.con (.int 91))) .nil))) .nil))))
 .nil)
  .nil)
 (.cons (.ifs (.cmp .NotEq (.call 1 (.cons (.mth .join (.con (.str "\n")) (.cons (.bin .Add (.bin .Add (.sl (.var 1) .none (.some (.var 4))) (.lst (.cons (.var 5) .nil))) (.var 6)) .nil)) .nil)) (.tup (.cons (.con (.str "row")) (.cons (.var 4) .nil))))
  (.cons (.ret (.con (.bl false)))
 .nil)
  .nil)
 (.cons (.ret (.cmp .Gt (.blt .len (.cons (.call 0 (.cons (.mth .join (.con (.str "\n")) (.cons (.var 1) .nil)) .nil)) .nil)) (.con (.int 0))))
 .nil))))))))))
noncomputable def iT:List Addr:=[44,101,139]
noncomputable def J2:List Str:=["row","claim","word"]
noncomputable def dD:List D:=[(.str "a"),(.str "an"),(.str "the"),(.str "said"),(.str "claim"),(.str "on"),(.str "or"),(.str "then"),(.str "from"),(.str "to"),(.str "of"),(.str "at"),(.str "least"),(.str "most"),(.str "just"),(.str "is")]
noncomputable def sV:List D:=[(.str "a"),(.str "an")]
noncomputable def nq:List D:=[(.str "the"),(.str "said")]
noncomputable def Ce:List PG:=[]
noncomputable def rN:List D->R D:=dJ Ce 1000 B9 1 wc
noncomputable def EN:List PG:=[.fn rN []]
noncomputable def tZ:List D->R D:=dJ EN 1000 EI 1 yt
noncomputable def yF:List PG:=[]
noncomputable def lJ:List D->R D:=dJ yF 1000 yr 3 sR
noncomputable def yG:List PG:=[.fn lJ [],.val (.int 30)]
noncomputable def oF:List D->R D:=dJ yG 1000 yq 1 sQ
noncomputable def uO:List PG:=[.fn oF []]
noncomputable def cN:List D->R D:=dJ uO 1000 Av 1 qm
noncomputable def Hr:List PG:=[]
noncomputable def d9:List D->R D:=dJ Hr 1000 yu 1 yw
noncomputable def dP:List PG:=[.fn cN [],.fn d9 []]
noncomputable def dj:List D->R D:=dJ dP 1000 tX 1 k8
noncomputable def oG:List PG:=[.cls 101 [("row",1)] 2,.cls 44 [("row",1)] 2,.fn dj []]
noncomputable def jF:List D->R D:=dJ oG 1000 B_ 3 rK
noncomputable def iL:List PG:=[.fn cN []]
noncomputable def b5:List D->R D:=dJ iL 1000 w_ 1 iK
noncomputable def uP:List PG:=[.fn b5 []]
noncomputable def gn:List D->R D:=dJ uP 1000 Ay 3 qo
noncomputable def EO:List PG:=[.val (.cst dD),.fn lJ [],.val (.int 8)]
noncomputable def lM:List D->R D:=dJ EO 1000 EH 1 yp
noncomputable def AB:List PG:=[.fn lM []]
noncomputable def g_:List D->R D:=dJ AB 1000 Az 1 uM
noncomputable def wk:List PG:=[.fn g_ []]
noncomputable def cS:List D->R D:=dJ wk 1000 Cb 1 rL
noncomputable def AD:List PG:=[.fn cS []]
noncomputable def jS:List D->R D:=dJ AD 1000 Ax 3 uL
noncomputable def oH:List PG:=[.fn g_ [],.val (.int 3),.fn d9 []]
noncomputable def bW:List D->R D:=dJ oH 1000 yy 1 lG
noncomputable def yH:List PG:=[.val (.cst sV),.fn bW [],.fn cS []]
noncomputable def iA:List D->R D:=dJ yH 1000 EJ 2 tY
noncomputable def mS:List PG:=[.fn lM []]
noncomputable def cT:List D->R D:=dJ mS 1000 mR 1 jR
noncomputable def iM:List PG:=[.fn gn [],.val (.cst nq),.fn jS [],.fn cS [],.fn iA [],.fn cT []]
noncomputable def bO:List D->R D:=dJ iM 1000 w9 1 gH
noncomputable def qp:List PG:=[.fn cS [],.val (.cst nq),.fn lM []]
noncomputable def gp:List D->R D:=dJ qp 1000 Aw 1 mQ
noncomputable def jj:List PG:=[.fn lM [],.fn bW [],.val (.int 5),.fn cN []]
noncomputable def cz:List D->R D:=dJ jj 1000 yx 2 iz
noncomputable def jG:List PG:=[.val (.cst nq),.fn bO [],.fn gp [],.fn cz [],.val (.cst sV)]
noncomputable def cG:List D->R D:=dJ jG 1000 Ca 1 iY
noncomputable def Bj:List PG:=[.val (.int 12),.cls 139 [("claim",1),("row",2)] 3,.cls 44 [("row",1)] 2,.fn cG []]
noncomputable def pR:List D->R D:=dJ Bj 1000 Hi 3 we
noncomputable def eU:List PG:=[.fn tZ [],.val (.int 12),.cls 139 [("claim",1),("row",2)] 3,.fn jF [],.cls 44 [("row",1)] 2,.fn pR []]
noncomputable def eV:List D->R D:=dJ eU 1000 w6 1 nj
noncomputable def AE:List PG:=[.exb iT,.fn eV [],.pe iT J2,.iQ 227 iT,.iQ 239 iT,.iQ 251 iT,.iQ 263 iT,.iQ 63 iT,.iQ 82 iT,.iQ 120 iT,.iQ 158 iT,.iQ 177 iT,.iQ 196 iT,.iQ 215 iT,.iQ 139 iT,.iQ 101 iT,.iQ 44 iT]
noncomputable def jT:List D->R D:=dJ AE 1000 AA 1 uN
noncomputable def Hs:List PG:=[]
noncomputable def jk:List D->R D:=dJ Hs 1000 Hl 2 Bg
noncomputable def j9:List PG:=[.fn jk []]
noncomputable def DE:List D->R D:=dJ j9 1000 J0 2 vh
noncomputable def yI:List PG:=[]
noncomputable def fY:List D->R D:=dJ yI 1000 yD 1 sS
noncomputable def nt:List PG:=[]
noncomputable def f6:List D->R D:=dJ nt 1000 xg 2 kO
noncomputable def kH:List PG:=[.fn fY [],.fn f6 []]
noncomputable def dU:List D->R D:=dJ kH 1000 Hq 1 nK
noncomputable def DF:List PG:=[.fn jk []]
noncomputable def pU:List D->R D:=dJ DF 1000 JY 2 zS
noncomputable def Ht:List PG:=[.fn jk []]
noncomputable def wm:List D->R D:=dJ Ht 1000 Ho 2 Bh
noncomputable def wo:List PG:=[]
noncomputable def oJ:List D->R D:=dJ wo 1000 Cc 2 rM
noncomputable def ER:List PG:=[]
noncomputable def nP:List D->R D:=dJ ER 1000 EK 2 yz
noncomputable def r9:List PG:=[.fn pU [],.fn jk [],.fn wm [],.fn oJ [],.fn nP []]
noncomputable def mw:List D->R D:=dJ r9 1000 JZ 3 pQ
noncomputable def Bk:List PG:=[]
noncomputable def kI:List D->R D:=dJ Bk 1000 Hj 2 wg
noncomputable def jH:List PG:=[.fn dU []]
noncomputable def t6:List D->R D:=dJ jH 1000 EM 1 yE
noncomputable def nQ:List PG:=[]
noncomputable def t7:List D->R D:=dJ nQ 1000 EL 2 yC
noncomputable def gw:List PG:=[.fn t7 [],.fn mw [],.fn nP [],.fn kI []]
noncomputable def rO:List D->R D:=dJ gw 1000 Cd 1 wj
noncomputable def Cf:List PG:=[.fn eV [],.fn jT [],.fn DE [],.fn dU [],.fn mw [],.fn kI [],.fn nP [],.fn t6 [],.fn rO []]
noncomputable def zU:List D->R D:=dJ Cf 1000 S3 1 zT
noncomputable def BN:List Str:=["ValueError","abs","all","any","enumerate","int","isinstance","len","range","set","str","zip"]
def Cg:FD:=⟨"words_in",top 25,B9,1,[]⟩
theorem Lu:Cg.eO BN wc=true:=by decide +kernel
def ES:FD:=⟨"rows_in",top 24,EI,1,["words_in"]⟩
theorem N5:ES.eO BN yt=true:=by decide +kernel
def yJ:FD:=⟨"all_within",top 23,yr,3,[]⟩
theorem Hu:yJ.eO BN sR=true:=by decide +kernel
def yK:FD:=⟨"is_figures",top 22,yq,1,["all_within","MOST_FIGURES"]⟩
theorem Hv:yK.eO BN sQ=true:=by decide +kernel
def AF:FD:=⟨"number_in",top 21,Av,1,["is_figures"]⟩
theorem IV:AF.eO BN qm=true:=by decide +kernel
def yL:FD:=⟨"choices_in",top 37,yu,1,[]⟩
theorem Hw:yL.eO BN yw=true:=by decide +kernel
def t8:FD:=⟨"taken_numbers",top 36,tX,1,["number_in","choices_in"]⟩
theorem Ci:t8.eO BN k8=true:=by decide +kernel
def Cj:FD:=⟨"takes_in",top 34,B_,3,["NoClaim","BadRow","taken_numbers"]⟩
theorem Lv:Cj.eO BN rK=true:=by decide +kernel
def xh:FD:=⟨"bounds_told",top 48,w_,1,["number_in"]⟩
theorem Ff:xh.eO BN iK=true:=by decide +kernel
def AG:FD:=⟨"size_told",top 47,Ay,3,["bounds_told"]⟩
theorem IW:AG.eO BN qo=true:=by decide +kernel
def ET:FD:=⟨"is_word",top 20,EH,1,["KEPT_WORDS","all_within","MOST_LETTERS"]⟩
theorem N6:ET.eO BN yp=true:=by decide +kernel
def AH:FD:=⟨"all_words",top 49,Az,1,["is_word"]⟩
theorem IX:AH.eO BN uM=true:=by decide +kernel
def Ck:FD:=⟨"ref_told",top 42,Cb,1,["all_words"]⟩
theorem Lw:Ck.eO BN rL=true:=by decide +kernel
def AI:FD:=⟨"join_told",top 46,Ax,3,["ref_told"]⟩
theorem IY:AI.eO BN uL=true:=by decide +kernel
def yM:FD:=⟨"kinds_told",top 40,yy,1,["all_words","MOST_KINDS","choices_in"]⟩
theorem Hz:yM.eO BN lG=true:=by decide +kernel
def EU:FD:=⟨"is_told",top 45,EJ,2,["A","kinds_told","ref_told"]⟩
theorem N7:EU.eO BN tY=true:=by decide +kernel
def mT:FD:=⟨"count_of_words_ahead",top 44,mR,1,["is_word"]⟩
theorem uQ:mT.eO BN jR=true:=by decide +kernel
def xj:FD:=⟨"told_of_ref",top 43,w9,1,["size_told","THE","join_told","ref_told","is_told","count_of_words_ahead"]⟩
theorem Fg:xj.eO BN gH=true:=by decide +kernel
def AJ:FD:=⟨"step_told",top 41,Aw,1,["ref_told","THE","is_word"]⟩
theorem IZ:AJ.eO BN mQ=true:=by decide +kernel
def yN:FD:=⟨"parts_told",top 39,yx,2,["is_word","kinds_told","MOST_PARTS","number_in"]⟩
theorem HA:yN.eO BN iz=true:=by decide +kernel
def Cm:FD:=⟨"row_told",top 38,Ca,1,["THE","told_of_ref","step_told","parts_told","A"]⟩
theorem Lx:Cm.eO BN iY=true:=by decide +kernel
def HC:FD:=⟨"row_in",top 35,Hi,3,["MOST_ROWS","TooBig","BadRow","row_told"]⟩
theorem RL:HC.eO BN we=true:=by decide +kernel
def xm:FD:=⟨"read_claims",top 33,w6,1,["rows_in","MOST_CLAIMS","TooBig","takes_in","BadRow","row_in"]⟩
theorem Fi:xm.eO BN nj=true:=by decide +kernel
def AK:FD:=⟨"_law_refusal",top 64,AA,1,["ClaimError","read_claims","$x","TooMany","NoFit","NoChange","NotOwn","Twice","NoPart","NoKind","NotUnder","NoRange","NoGround","TwoGrounds","TooBig","NoClaim","BadRow"]⟩
theorem I_:AK.eO BN uN=true:=by decide +kernel
def HD:FD:=⟨"_law_word",top 53,Hl,2,[]⟩
theorem RM:HD.eO BN Bg=true:=by decide +kernel
def J3:FD:=⟨"_law_odd",top 65,J0,2,["_law_word"]⟩
theorem U4:J3.eO BN vh=true:=by decide +kernel
def yO:FD:=⟨"_law_ref_text",top 60,yD,1,[]⟩
theorem HE:yO.eO BN sS=true:=by decide +kernel
def xo:FD:=⟨"_law_size_text",top 61,xg,2,[]⟩
theorem Fj:xo.eO BN kO=true:=by decide +kernel
def HF:FD:=⟨"_law_text",top 62,Hq,1,["_law_ref_text","_law_size_text"]⟩
theorem RN:HF.eO BN nK=true:=by decide +kernel
def J4:FD:=⟨"_law_ref",top 54,JY,2,["_law_word"]⟩
theorem U5:J4.eO BN zS=true:=by decide +kernel
def HG:FD:=⟨"_law_some",top 55,Ho,2,["_law_word"]⟩
theorem RO:HG.eO BN Bh=true:=by decide +kernel
def Cn:FD:=⟨"_law_bounds",top 56,Cc,2,[]⟩
theorem Ly:Cn.eO BN rM=true:=by decide +kernel
def EV:FD:=⟨"_law_mixed",top 52,EK,2,[]⟩
theorem N8:EV.eO BN yz=true:=by decide +kernel
def J5:FD:=⟨"_law_row",top 57,JZ,3,["_law_ref","_law_word","_law_some","_law_bounds","_law_mixed"]⟩
theorem U6:J5.eO BN pQ=true:=by decide +kernel
def HH:FD:=⟨"_law_cell",top 51,Hj,2,[]⟩
theorem RP:HH.eO BN wg=true:=by decide +kernel
def EW:FD:=⟨"_law_lines",top 63,EM,1,["_law_text"]⟩
theorem N9:EW.eO BN yE=true:=by decide +kernel
def EX:FD:=⟨"_law_takes",top 58,EL,2,[]⟩
theorem N_:EX.eO BN yC=true:=by decide +kernel
def Co:FD:=⟨"_law_claims",top 59,Cd,1,["_law_takes","_law_row","_law_mixed","_law_cell"]⟩
theorem Lz:Co.eO BN wj=true:=by decide +kernel
def t9:FD:=⟨"law",top 66,S3,1,["read_claims","_law_refusal","_law_odd","_law_text","_law_row","_law_cell","_law_mixed","_law_lines","_law_claims"]⟩
theorem YI:t9.eO BN zT=true:=by decide +kernel
def DG(s:Stmt):List Stmt:=match s with
|.ClassDef _ _ _ b _ _ _ _ _ _ _=>b
|_=>[]
def RQ:CD:=⟨"BadRow",44,(DG (top 2)).getD 0 (.Pass ⟨0,0,0,0⟩),["self","row"],[("row",1)]⟩
theorem RS:RQ.eO J2=true:=by decide +kernel
def Oa:CD:=⟨"NoClaim",101,(DG (top 5)).getD 0 (.Pass ⟨0,0,0,0⟩),["self","row"],[("row",1)]⟩
theorem Ob:Oa.eO J2=true:=by decide +kernel
def RT:CD:=⟨"TooBig",139,(DG (top 7)).getD 0 (.Pass ⟨0,0,0,0⟩),["self","claim","row"],[("claim",1),("row",2)]⟩
theorem RU:RT.eO J2=true:=by decide +kernel
end Tr
end
section
namespace K2
open PySem L2 L3
noncomputable def wordsOf(l:List Nat):List (List Nat):=(dM 32 l).filter fun w=>!w.isEmpty
theorem yP(w l:List Nat)(hw:w≠[])(h:32∉w):wordsOf (w++32::l)=w::wordsOf l:=by
 unfold wordsOf;rw[vR 32 w l h,tN];cases w with
 |nil=>exact absurd rfl hw
 |cons a b=>rfl
noncomputable def rep(n:Int)(c:Nat):List Nat:=aO n.toNat c
theorem cA(a:Int){b:Int}(h:0<b):0<=a%b/\a%b<b:=⟨Int.emod_nonneg _ (by omega),Int.emod_lt_of_pos _ h⟩
noncomputable def oK:List (List Nat):=[[97],[97,110],[116,104,101],[115,97,105,100],[99,108,97,105,109],[111,110],[111,114],[116,104,101,110],[102,114,111,109],[116,111],[111,102],[97,116],[108,101,97,115,116],[109,111,115,116],[106,117,115,116],[105,115]]
end K2
end
section
namespace K2
open PySem L2 L3 Tr
theorem gU(l:List Int):aB (l.map D.int)=l.map D.int:=lB _ (fun _=>rfl) l
theorem r_:∀l:List Int,cE (l.map D.int)=true
|[]=>rfl
|_::r=>r_ r
variable{α:Type}
theorem iN(l:List α)(k:Nat):cut l none (some (k:Int))=l.take k:=by
 unfold cut;rw[HT.rW,HT.AU,mE,Nat.sub_zero];by_cases h:k<=l.length
 ·rw[uw h]
 ·rw[BA (by omega),di (aM _),di (by omega)]
theorem cM(l:List α)(k:Nat)(h:k<=l.length):cut l (some (k:Int)) none=l.drop k:=by
 unfold cut;rw[HT.rW,HT.AU,uw h,di (by rw[c9];omega)]
theorem pV(a b:List Nat):strOf a++strOf b=strOf (a++b):=by
 have h:∀x y:Str,x.cps=y.cps->x=y:=fun x y e=>by cases x;cases y;cases e;rfl
 refine h _ _ ?_;show a.toArray++b.toArray=(a++b).toArray;simp
theorem U7(n:Nat)(c:Nat):(⟨(aO n [c]).flatten.toArray⟩:Str)=strOf (aO n c):=by
 have e:(aO n [c]).flatten=aO n c:=by
  induction n with
  |zero=>rfl
  |succ n ih=>rw[b_,dc,ih];rfl
 rw[e];rfl
theorem gv(l:List Nat):(strOf l).length=l.length:=by
 rw[<-len_str];rfl
theorem J6(c:Nat)(j:Int)(h:0<=j/\j<100):dN .Mult (.str ⟨#[c]⟩) (.int j)=.ok (.str (strOf (rep j c))):=by
 have hs:=szl;have e:(⟨#[c]⟩:Str).length=1:=rfl;rw[G7 ⟨h.1,by omega,by rw[e];omega⟩];show R.ok (D.str ⟨(aO j.toNat [c]).flatten.toArray⟩)=_;rw[U7];rfl
theorem DH(j:Int)(c:Nat):(rep j c).length=j.toNat:=by unfold rep;rw[vD]
theorem iB(a b:List Nat)(h:a.length+b.length<=16777216):dN .Add (.str (strOf a)) (.str (strOf b))=.ok (.str (strOf (a++b))):=by
 have hs:=szl;rw[G6 (by rw[gv,gv,hs];exact h),pV]
theorem fG(x:α)(r:List α):e_ (x::r) 0=some x:=jy (j:=0) rfl
theorem j_(x y:α)(r:List α):e_ (x::y::r) 1=some y:=jy (j:=1) rfl
theorem at2(x y z:α)(r:List α):e_ (x::y::z::r) 2=some z:=jy (j:=2) rfl
theorem J8(x y z u:α)(r:List α):e_ (x::y::z::u::r) 3=some u:=jy (j:=3) rfl
theorem Oc(x y z u v:α)(r:List α):e_ (x::y::z::u::v::r) 4=some v:=jy (j:=4) rfl
noncomputable def wD(w:List Nat):D:=.str (strOf w)
noncomputable def a6(r:List (List Nat)):D:=.lst false (r.map wD)
theorem bQ(r:List (List Nat)):aB (r.map wD)=r.map wD:=lB wD (fun _=>rfl) r
theorem qD(r:List (List Nat)):bz (a6 r)=a6 r:=by
 show D.lst false (aB (r.map wD))=_;rw[bQ];rfl
theorem sp1:aq " "=⟨#[32]⟩:=by decide +kernel
theorem str_beq(x y:Str):(x==y)=decide (x=y):=by
 rw[iH];simp
theorem yQ{a b:List Nat}(h:strOf a=strOf b):a=b:=by
 have:=congrArg (fun z:Str=>z.cps.toList) h;simpa[strOf]using this
theorem lN(a b:List Nat):(strOf a==strOf b)=decide (a=b):=by
 rw[str_beq];by_cases h:a=b
 ·subst h;simp
 ·rw[decide_eq_false h,decide_eq_false fun z=>h (yQ z)]
noncomputable def k_(a b:Nat)(x:Str):Bool:=x.cps.toList.all fun c=>decide (a<=c)&&decide (c<=b)
theorem yR(x:Str)(a b:Nat):lJ [.str x,.str ⟨#[a]⟩,.str ⟨#[b]⟩]=.ok (.bl (k_ a b x)):=by
 unfold lJ sR yF;simp_arith [];unfold vc;rw[iy (fun c:Nat=>D.str ⟨#[c]⟩) (fun O=>∃o,O=[o,some (D.str ⟨#[a]⟩),some (D.str ⟨#[b]⟩)]) (fun c=>D.bl (decide (a<=c)&&decide (c<=b))) x.cps.toList _ ⟨none,rfl⟩ (by
  rintro c _ O ⟨o,rfl⟩;refine⟨_,rfl,⟨_,rfl⟩,?_⟩;simp_arith [];rw[Zf,Zf];by_cases h1:c<a
  ·rw[decide_eq_true h1,decide_eq_false (show ¬a<=c by omega)];rfl
  ·rw[decide_eq_false h1,decide_eq_true (show a<=c by omega)];have e2:(!decide (b<c))=decide (c<=b):=by rw[iH];simp
   rw[e2];rfl)]
 simp_arith [];have e1:(x.cps.toList.map (fun c=>D.bl (decide (a<=c)&&decide (c<=b)))).all qh=true:=by rw[lZ];simp[qh]
 have e2:(x.cps.toList.map (fun c=>D.bl (decide (a<=c)&&decide (c<=b)))).all rF=k_ a b x:=by
  rw[lZ];unfold k_;congr 1;funext c;show rF (D.bl (decide (a<=c)&&decide (c<=b)))=_;cases(decide (a<=c)&&decide (c<=b))<;>rfl
 rw[e1,e2];simp_arith []
noncomputable def isWord(x:Str):Bool:=decide (1<=x.length)&&decide (x.length<=8)&&k_ 97 122 x&&!memD (.str x) dD
theorem lO(x:Str):lM [.str x]=.ok (.bl (isWord x)):=by
 unfold lM yp EO;simp_arith [];have ea:(aq "a")=⟨#[97]⟩:=by decide +kernel
 have ez:(aq "z")=⟨#[122]⟩:=by decide +kernel
 rw[ea,ez];unfold isWord;by_cases h1:1<=x.length
 ·by_cases h2:x.length<=8
  ·rw[decide_eq_true (show(1:Int)<=(x.length:Int)by omega),decide_eq_true (show(x.length:Int)<=8 by omega),decide_eq_true h1,decide_eq_true h2];simp_arith [];rw[yR];simp_arith [];have hk:iR dD=true:=by decide +kernel
   have hz:aB dD=dD:=by rfl
   cases k_ 97 122 x with
   |false=>simp_arith []
   |true=>
    have e:bK .NotIn (.str x) (bz (D.cst dD))=.ok (.bl (!memD (.str x) dD)):=by
     have e0:bz (D.cst dD)=D.cst dD:=by
      show D.cst (aB dD)=_;rw[hz]
     rw[e0];show(R.bw (cX (.str x)&&iR dD) (.ok (memD (.str x) dD))).bind (fun b=>R.ok (D.bl (!b)))=_;rw[hk];rfl
    rw[e];simp_arith []
  ·rw[decide_eq_true (show(1:Int)<=(x.length:Int)by omega),decide_eq_false (show ¬(x.length:Int)<=8 by omega),decide_eq_true h1,decide_eq_false h2];simp_arith []
 ·rw[decide_eq_false (show ¬(1:Int)<=(x.length:Int)by omega),decide_eq_false h1];simp_arith []
theorem Bl(f:α->Str)(x:Str)(l:List α):memD (.str x) (l.map fun a=>D.str (f a))=l.any fun a=>f a==x:=by
 unfold memD;rw[zy];rfl
theorem J9:dD=oK.map fun w=>D.str (strOf w):=by
 have e1:dD=(["a","an","the","said","claim","on","or","then","from","to","of","at","least","most","just","is"]:List Str).map D.str:=rfl;have e2:(["a","an","the","said","claim","on","or","then","from","to","of","at","least","most","just","is"]:List Str)=oK.map strOf:=by decide +kernel
 rw[e1,e2,bq];rfl
noncomputable def wl(x:Str):List (List Nat):=wordsOf x.cps.toList
theorem Od(x:Str):(dM 32 x.cps.toList).filter (fun p=>!(strOf p==aq ""))=wl x:=by
 unfold wl wordsOf;congr 1;funext p;have e:aq ""=strOf []:=by decide +kernel
 cases p with
 |nil=>rw[e];simp
 |cons a b=>
  rw[e,str_beq,decide_eq_false (fun h=>by cases yQ h)];rfl
theorem g32:(#[32]:Array Nat).getD 0 0=32:=rfl
theorem g10:(#[10]:Array Nat).getD 0 0=10:=rfl
theorem HJ(c:Nat)(l:List Nat):aB (sM c l)=(dM c l).map wD:=yj _
theorem LA(x:Str)(hx:x.length+2<=aa):rN [.str x]=.ok (.lst true ((wl x).map wD)):=by
 have sp1l:(⟨#[32]⟩:Str).length=1:=rfl;unfold rN wc Ce;simp_arith [sp1,g32,HJ];rw[lC wD (fun O=>∃o,O=[o]) (fun p=>!(strOf p==aq "")) wD (dM 32 x.cps.toList) _ ⟨none,rfl⟩ (by
  rintro p _ O ⟨o,rfl⟩;refine⟨[some (wD p)],rfl,⟨_,rfl⟩,?_,?_⟩
  ·unfold wD;simp_arith []
  ·unfold wD;simp_arith []),Od]
 simp_arith []
noncomputable def uR(r:List (List Nat)):D:=.lst true (r.map wD)
noncomputable def gx(x:Str):List (List (List Nat)):=(dM 10 x.cps.toList).map wordsOf
theorem EY(x:Str)(hx:x.length+2<=aa):tZ [.str x]=.ok (.lst true ((gx x).map uR)):=by
 have nll:(⟨#[10]⟩:Str).length=1:=rfl;have nl:aq "\n"=⟨#[10]⟩:=by decide +kernel
 unfold tZ yt EN;simp_arith [nl,g10,HJ];rw[iy wD (fun O=>∃o,O=[o]) (fun p=>uR (wordsOf p)) (dM 10 x.cps.toList) _ ⟨none,rfl⟩ (by
  rintro p hp O ⟨o,rfl⟩;have hpl:=(rJ 10 x.cps.toList).1 p hp;have q:=LA (strOf p) (by rw[gv];have:x.length=x.cps.toList.length:=(len_str x).symm;omega);refine⟨[some (wD p)],rfl,⟨_,rfl⟩,?_⟩;unfold wD;simp_arith [q];rfl)]
 simp_arith [];unfold gx;rw[bq];rfl
end K2
end
section
namespace K2
open PySem L2 L3 Tr
open PySem.NumText
noncomputable def gy:Nat->Nat->List Nat
|0,m=>[48+m%10]
|k+1,m=>if m<10 then[48+m]else gy k (m / 10)++[48+m%10]
theorem RV(l:List Nat)(c:Nat):digitsVal (l++[c])=digitsVal l*10+(c-48):=by
 unfold digitsVal;rw[Aa];rfl
theorem zV:∀(k m:Nat),m<10 ^ (k+1)->AllDigits (gy k m)/\gy k m≠[]/\(gy k m).length<=k+1/\digitsVal (gy k m)=m/\(m≠0->∀r,gy k m≠48::r)/\(m=0->gy k m=[48])
|0,m,h=>by
 have h:m<10:=by simpa using h
 show AllDigits [48+m%10]/\_;rw[tH h];refine⟨fun c hc=>by rw[aW.mp hc];omega,by simp[gy],by simp[gy],?_,?_,?_⟩
 ·show digitsVal [48+m%10]=m;rw[tH h];show 0*10+(48+m-48)=m;omega
 ·intro hm r e;have e:[48+m%10]=48::r:=e;rw[tH h]at e;have:=(jA e).1;omega
 ·rintro rfl;rfl
|k+1,m,h=>by
 unfold gy;by_cases c:m<10
 ·rw[if_pos c];refine⟨fun c hc=>by rw[aW.mp hc];omega,by simp,by simp,?_,?_,?_⟩
  ·show 0*10+(48+m-48)=m;omega
  ·intro hm r e;have:=(jA e).1;omega
  ·rintro rfl;rfl
 ·rw[if_neg c];obtain⟨h1,h2,h3,h4,h5,_⟩:=zV k (m / 10) (by
   have e:10 ^ (k+1+1)=10*10 ^ (k+1):=by rw[Nat.pow_succ,IB]
   rw[e]at h;exact Nat.div_lt_of_lt_mul h)
  refine⟨fun c hc=>?_,by simp,by simp;omega,?_,?_,fun z=>by omega⟩
  ·rcases aY.mp hc with hc|hc
   ·exact h1 c hc
   ·rw[aW.mp hc];omega
  ·rw[RV,h4];omega
  ·intro _ r e;cases q:gy k (m / 10)with
   |nil=>exact h2 q
   |cons a b=>
    rw[q]at e;have:=(jA e).1;subst this;exact h5 (by omega) b q
variable{c:Nat}
theorem LB(h:48<=c/\c<=57):(C8 c).toNat=c:=by
 obtain⟨h1,h2⟩:=h;have:∀k:Nat,k<10->(C8 (48+k)).toNat=48+k:=by decide
 have q:=this (c-48) (by omega);rw[show 48+(c-48)=c by omega]at q;exact q
theorem AL:∀{l:List Nat},AllDigits l->(l.map C8).map wW=l
|[],_=>rfl
|c::r,h=>by
 rw[cR,cR,LB h.head,AL h.tail]
theorem S4(m:Nat)(h:m<10 ^ 30):(zA 10 m).map wW=gy 29 m:=by
 obtain⟨h1,h2,h3,h4,h5,h6⟩:=zV 29 m h;have e:=toDigits_all (gy 29 m) h1;rw[h4]at e;rw[e];by_cases hm:m=0
 ·rw[h6 hm];decide
 ·cases q:gy 29 m with
  |nil=>exact absurd q h2
  |cons c r=>
   have hc:c≠48:=fun z=>h5 hm r (by rw[q,z]);rw[List.dropWhile_cons,if_neg (by simpa using hc)];have z:=AL h1;rw[q]at z;exact z
theorem HK(m:Nat)(h:m<10 ^ 30):n_ (m:Int)=strOf (gy 29 m):=by
 have e:n_ (m:Int)=⟨((zA 10 m).map wW).toArray⟩:=IJ m;rw[e,S4 m h];rfl
theorem HL(m:Nat)(h0:0<m)(h:m<10 ^ 30):n_ (-(m:Int))=strOf (45::gy 29 m):=by
 obtain⟨k,rfl⟩:∃k,m=k+1:=⟨m-1,by omega⟩;have e4:=S4 (k+1) h;have e1:(-((k+1:Nat):Int))=AQ k:=rfl;have e3:∀s:String,(aq s).cps=(s.toList.map wW).toArray:=fun s=>by
  rw[Str.ofString_eq_toList]
 have e5:(IE (k+1)).toList=zA 10 (k+1):=by
  unfold IE;simp
 rw[e1];have e2:toString (AQ k)="-"++IE (k+1):=rfl;have:(aq (toString (AQ k))).cps=(strOf (45::gy 29 (k+1))).cps:=by
  rw[e2,e3,String.toList_append,bR,e5,e4];rfl
 exact Str.ext' this
noncomputable def sW(x:Str):Bool:=decide (1<=x.length)&&decide (x.length<=30)&&k_ 48 57 x&&(x==aq "0"||!([48].isPrefixOf x.cps.toList))
theorem oN(x:Str):oF [.str x]=.ok (.bl (sW x)):=by
 have e0:(aq "0")=⟨#[48]⟩:=by decide +kernel
 have e9:(aq "9")=⟨#[57]⟩:=by decide +kernel
 have q:=yR x 48 57;unfold sW;unfold oF sQ yG;by_cases h1:1<=x.length
 ·by_cases h2:x.length<=30
  ·have g1:=decide_eq_true (show(1:Int)<=(x.length:Int)by omega);have g2:=decide_eq_true (show(x.length:Int)<=30 by omega);rw[decide_eq_true h1,decide_eq_true h2];simp_arith [g1,g2,e0,e9,q];cases k_ 48 57 x with
   |false=>simp_arith []
   |true=>
    cases hc:(x==(⟨#[48]⟩:Str))with
    |false=>simp_arith [hc]
    |true=>simp_arith [hc]
  ·have g1:=decide_eq_true (show(1:Int)<=(x.length:Int)by omega);have g2:=decide_eq_false (show ¬(x.length:Int)<=30 by omega);rw[decide_eq_true h1,decide_eq_false h2];simp_arith [g1,g2]
 ·have g1:=decide_eq_false (show ¬(1:Int)<=(x.length:Int)by omega);rw[decide_eq_false h1];simp_arith [g1]
noncomputable def mU(x:Str):Str:=if[45].isPrefixOf x.cps.toList then⟨(cut x.cps.toList (some 1) none).toArray⟩else x
theorem Xd(x:Str)(h:sW (mU x)=false):cN [.str x]=.ok .non:=by
 have em:(aq "-").cps.toList=[45]:=by decide +kernel
 unfold mU at h;unfold cN qm uO;cases c:[45].isPrefixOf x.cps.toList with
 |false=>
  rw[c,if_neg aK]at h;have q:=oN x;rw[h]at q;simp_arith [em,c,q]
 |true=>
  rw[c,if_pos rfl]at h;have q:=oN ⟨(cut x.cps.toList (some 1) none).toArray⟩;rw[h]at q;simp_arith [em,c,q]
theorem J_(x:Str)(n:Int)(h:sW (mU x)=true)(h0:(x==aq "-0")=false)(hl:x.length<=640)(hn:intText? x=some n):cN [.str x]=.ok (.int n):=by
 have em:(aq "-").cps.toList=[45]:=by decide +kernel
 have hi:kD .int [.str x]=.ok (.int n):=by
  show R.bw (decide (x.length<=640)) ((R.opt (intText? x)).bind fun n=>R.ok (D.int n))=_;rw[decide_eq_true hl,hn];rfl
 unfold mU at h;unfold cN qm uO;cases c:[45].isPrefixOf x.cps.toList with
 |false=>
  rw[c,if_neg aK]at h;have q:=oN x;rw[h]at q;simp_arith [em,c,q,h0,hi]
 |true=>
  rw[c,if_pos rfl]at h;have q:=oN ⟨(cut x.cps.toList (some 1) none).toArray⟩;rw[h]at q;simp_arith [em,c,q,h0,hi]
variable{l:List Nat}
theorem RW(h:AllDigits l):k_ 48 57 (strOf l)=true:=by
 unfold k_;rw[bF];intro c hc;have:=h c hc;simp[this.1,this.2]
theorem HM(h:∀r,l≠c::r):[c].isPrefixOf l=false:=by
 cases l with
 |nil=>rfl
 |cons a r=>
  have:a≠c:=fun z=>h r (by rw[z]);simp[C9,cY this]
theorem Ka(m:Nat)(h:m<10 ^ 30):sW (strOf (gy 29 m))=true:=by
 obtain⟨h1,h2,h3,h4,h5,h6⟩:=zV 29 m h;have l1:(strOf (gy 29 m)).length=(gy 29 m).length:=gv _;have l2:1<=(gy 29 m).length:=List.length_pos_iff.mpr h2;unfold sW;rw[l1,decide_eq_true l2,decide_eq_true h3,RW h1];by_cases hm:m=0
 ·rw[h6 hm];have:(strOf [48]==aq "0")=true:=by decide +kernel
  rw[this];rfl
 ·have:[48].isPrefixOf (strOf (gy 29 m)).cps.toList=false:=HM (h5 hm);rw[this];simp
theorem S5{x:Str}(h:x=strOf l)(hl:l≠[45,48]):(x==aq "-0")=false:=by
 have e:aq "-0"=strOf [45,48]:=by decide +kernel
 rw[h,e,str_beq,decide_eq_false fun z=>hl (yQ z)]
theorem YJ(n:Int)(h0:-(10 ^ 30)<n)(h1:n<10 ^ 30):cN [.str (n_ n)]=.ok (.int n):=by
 by_cases hn:0<=n
 ·obtain⟨m,rfl⟩:∃m:Nat,n=(m:Int):=⟨n.toNat,by omega⟩;have hm:m<10 ^ 30:=by
   have:((10 ^ 30:Nat):Int)=10 ^ 30:=by decide
   omega
  obtain⟨d1,d2,d3,d4,d5,d6⟩:=zV 29 m hm;have l1:(strOf (gy 29 m)).length=(gy 29 m).length:=gv _;have ef:mU (strOf (gy 29 m))=strOf (gy 29 m):=by
   unfold mU;rw[if_neg];rw[show(strOf (gy 29 m)).cps.toList=gy 29 m from rfl,HM fun r e=>by
    have:=d1 45 (by rw[e];simp);omega]
   decide
  rw[HK m hm];refine J_ _ _ (by rw[ef];exact Ka m hm) (S5 rfl fun e=>?_) (by omega) ?_
  ·have:=d1 45 (by rw[e];simp);omega
  ·have q:=intText_digits (x:=strOf (gy 29 m)) d1 d2 (by omega);rw[q];show some ((digitsVal (gy 29 m):Nat):Int)=_;rw[d4]
 ·obtain⟨m,rfl,hp⟩:∃m:Nat,n=-(m:Int)/\0<m:=⟨(-n).toNat,by omega,by omega⟩;have hm:m<10 ^ 30:=by
   have:((10 ^ 30:Nat):Int)=10 ^ 30:=by decide
   omega
  obtain⟨d1,d2,d3,d4,d5,d6⟩:=zV 29 m hm;have l1:(strOf (45::gy 29 m)).length=(gy 29 m).length+1:=gv _;have ef:mU (strOf (45::gy 29 m))=strOf (gy 29 m):=by
   unfold mU;rw[if_pos (by show[45].isPrefixOf (45::gy 29 m)=true;simp[C9])];show strOf (cut (45::gy 29 m) (some ((1:Nat):Int)) none)=_;unfold cut;rw[HT.rW,HT.AU,uw (by simp),List.drop_succ_cons,mE,di (by simp)]
  rw[HL m hp hm];refine J_ _ _ (by rw[ef];exact Ka m hm) (S5 rfl fun e=>?_) (by omega) ?_
  ·have e2:=(jA e).2;exact d5 (by omega) [] e2
  ·have q:=intText_neg (x:=strOf (45::gy 29 m)) rfl d1 d2 (by omega);rw[q,d4]
end K2
end
section
namespace K2
open PySem L2 L3 Tr
abbrev W(w:List Nat):Prop:=isWord (strOf w)=true
noncomputable def dX:List Nat:=[111,114]
noncomputable def aL:List Nat:=[97]
noncomputable def a8:List Nat:=[116,104,101]
noncomputable def eS:List Nat:=[97,116]
noncomputable def dQ:List Nat:=[108,101,97,115,116]
noncomputable def nu:List Nat:=[109,111,115,116]
noncomputable def jI:List Nat:=[106,117,115,116]
noncomputable def dZ:List Nat:=[116,104,101,110]
noncomputable def dY:List Nat:=[105,115]
noncomputable def iC:List Nat:=[111,102]
noncomputable def fQ:List Nat:=[102,114,111,109]
noncomputable def toL:List Nat:=[116,111]
noncomputable def aX:List Nat:=[99,108,97,105,109]
noncomputable def gZ:List Nat:=[111,110]
theorem Oe:aq "or"=strOf dX:=by decide +kernel
theorem nR:aq ""=strOf []:=by decide +kernel
variable{w v:List Nat}
theorem W.nk(h:W w)(hv:v∈oK):(strOf w==strOf v)=false:=by
 rw[lN,decide_eq_false];rintro rfl;unfold W isWord at h;rw[J9,Bl]at h;have:(oK.any fun a=>strOf a==strOf w)=true:=nL.mpr ⟨w,hv,by simp⟩;rw[this]at h;simp at h
theorem W.ne(h:W w):(strOf w==strOf [])=false:=by
 rw[lN,decide_eq_false];rintro rfl;revert h;decide +kernel
theorem mV(ws:List (List Nat))(o:Bool):g_ [.lst o (ws.map wD)]=.ok (.bl (ws.all fun w=>isWord (strOf w))):=by
 have fr:=bQ ws;unfold g_ uM AB;simp_arith [fr];rw[iy wD (fun O=>∃o,O=[o]) (fun w=>D.bl (isWord (strOf w))) ws _ ⟨none,rfl⟩ (by
  rintro w _ O ⟨o,rfl⟩;refine⟨[some (wD w)],rfl,⟨_,rfl⟩,?_⟩;have q:=lO (strOf w);unfold wD;simp_arith [q])]
 simp_arith [];have e1:(ws.map fun w=>D.bl (isWord (strOf w))).all qh=true:=by rw[lZ];simp[qh]
 have e2:(ws.map fun w=>D.bl (isWord (strOf w))).all rF=ws.all fun w=>isWord (strOf w):=by
  rw[lZ];congr 1;funext w;show rF (D.bl (isWord (strOf w)))=_;cases isWord (strOf w)<;>rfl
 rw[e1,e2];simp_arith []
noncomputable def bf(l k:List Nat):List (List Nat):=if l=[]then[k]else[l,k]
noncomputable def fZ(l k:List Nat):D:=.tup [wD l,wD k]
def f7(l k:List Nat):Prop:=(l=[]\/W l)/\W k
theorem W.nn(h:W w):w≠[]:=by
 rintro rfl;revert h;decide +kernel
variable{l k:List Nat}
theorem Cp(h:f7 l k):cS [a6 (bf l k)]=.ok (fZ l k):=by
 have hs:=szl;obtain⟨hl,hk⟩:=h;rcases hl with rfl|hl
 ·have q:g_ [.lst false [.str (strOf k)]]=.ok (.bl true):=by
   have q:=mV [k] false;rw[show([k].all fun w=>isWord (strOf w))=true by simp[hk]]at q;exact q
  show cS [.lst false [.str (strOf k)]]=.ok (.tup [.str (strOf []),.str (strOf k)]);have e:e_ [D.str (strOf k)] (-1)=some (.str (strOf k)):=rfl;unfold cS rL wk;simp_arith [q,e,nR]
 ·have q:g_ [.lst false [.str (strOf l),.str (strOf k)]]=.ok (.bl true):=by
   have q:=mV [l,k] false;rw[show([l,k].all fun w=>isWord (strOf w))=true by simp[hk,hl]]at q;exact q
  have e:e_ [D.str (strOf l),.str (strOf k)] (-1)=some (.str (strOf k)):=rfl;unfold bf;rw[if_neg hl.nn];show cS [.lst false [.str (strOf l),.str (strOf k)]]=.ok (.tup [.str (strOf l),.str (strOf k)]);unfold cS rL wk;simp_arith [q,e,fG]
noncomputable def bX:List (List Nat)->List (List Nat)
|[]=>[]
|[a]=>[a]
|a::r=>a::dX::bX r
theorem S6(a:List Nat):d9 [a6 [a]]=.ok (.lst true [wD a]):=by kernel_rfl
theorem Xe(a b:List Nat):d9 [a6 [a,dX,b]]=.ok (.lst true [wD a,wD b]):=by kernel_rfl
theorem Zm(a b c:List Nat):d9 [a6 [a,dX,b,dX,c]]=.ok (.lst true [wD a,wD b,wD c]):=by kernel_rfl
def sX(ks:List (List Nat)):Prop:=(∀w∈ks,W w)/\(1<=ks.length/\ks.length<=3)/\(m9 (ks.map strOf)).length=ks.length
theorem Of(ks:List (List Nat))(h:1<=ks.length/\ks.length<=3):d9 [a6 (bX ks)]=.ok (.lst true (ks.map wD)):=by
 rcases ks with _|⟨a,_|⟨b,_|⟨c,_|⟨d,r⟩⟩⟩⟩
 ·exact absurd h.1 (by decide)
 ·exact S6 a
 ·exact Xe a b
 ·exact Zm a b c
 ·exact absurd h.2 (by simp only[aC];omega)
theorem h_:∀l:List (List Nat),cE (l.map wD)=true
|[]=>rfl
|_::r=>h_ r
variable{ks:List (List Nat)}
theorem zW(h:sX ks):bW [a6 (bX ks)]=.ok (.lst true (ks.map wD)):=by
 have hs:=szl;obtain⟨h1,h2,h3⟩:=h;have q:=Of ks h2;have q2:=mV ks false;rw[show(ks.all fun w=>isWord (strOf w))=true from bF.mpr h1]at q2;have fr:=qD (bX ks);have fk:=bQ ks;have hl:decide (3<(ks.length:Int))=false:=decide_eq_false (by omega);have hn:zO (.lst false (ks.map wD))=.ok (.int (ks.length:Int)):=by
  rw[DC (ss:=ks.map strOf) (by
   have:∀l:List (List Nat),kC (l.map wD)=some (l.map strOf):=fun l=>by
    induction l with
    |nil=>rfl
    |cons a r ih=>
     show(kC (r.map wD)).map (strOf a::·)=_;rw[ih];rfl
   exact this ks) (by rw[ah];omega),h3]
 have ho:=h_ ks;unfold bW lG oH;generalize a6 (bX ks)=d at q fr ⊢;simp_arith [q,q2,fr,fk,hl,hn,ho]
theorem pW(k:List Nat)(r:List (List Nat)):∃tl,bX (k::r)=k::tl:=by
 cases r with
 |nil=>exact⟨_,rfl⟩
 |cons=>exact⟨_,rfl⟩
noncomputable def sY(n:Int)(c:Bool)(l:List Nat)(ks:List (List Nat)):D:=.tup [.str "parts",.int n,.bl c,wD l,.lst true (ks.map wD)]
theorem U8(c:Bool)(u l:List Nat)(n:Int)(hu:cN [.str (strOf u)]=.ok (.int n))(h1:1<=n)(h5:n<=5)(hk:sX ks)(hl:W l):cz [.bl c,a6 (u::l::bX ks)]=.ok (sY n c l ks):=by
 have hs:=szl;have qk:=zW hk;obtain⟨k1,k2,k3⟩:=hk;have ho:=h_ ks;have fk:=bQ ks;obtain⟨k,tl,e,hw⟩:∃k tl,bX ks=k::tl/\W k:=by
  cases ks with
  |nil=>exact absurd k2.1 (by decide)
  |cons k r=>obtain⟨tl,e⟩:=pW k r;exact⟨k,tl,e,k1 k ao⟩
 rw[e]at qk ⊢;have ft:=bQ tl;have g1:=hw.nk (v:=dX) (by decide);have g2:=hl.ne;have g3:=decide_eq_true h1;have g4:=decide_eq_true h5;have g5:=lO (strOf l);rw[hl]at g5;unfold sY;show cz [.bl c,.lst false (.str (strOf u)::.str (strOf l)::.str (strOf k)::tl.map wD)]=.ok (.tup [.str "parts",.int n,.bl c,.str (strOf l),.lst true (ks.map wD)]);have qk:bW [.lst false (.str (strOf k)::tl.map wD)]=_:=qk;generalize tl.map wD=t at ft qk ⊢;have c2:cut (D.str (strOf u)::.str (strOf l)::.str (strOf k)::t) (some 2) none=.str (strOf k)::t:=cM _ 2 (by simp);have l2:decide (((t.length+1+1+1:Nat):Int)<2)=false:=decide_eq_false (by omega);have l3:decide (2<((t.length+1+1+1:Nat):Int))=true:=decide_eq_true (by omega);unfold cz iz jj;simp_arith [ft,fG,j_,at2,hu,l2,l3,g1,g2,g3,g4,g5,c2,qk,Oe,nR,fk,ho]
theorem U9(c:Bool)(u:List Nat)(n:Int)(hu:cN [.str (strOf u)]=.ok (.int n))(h1:1<=n)(h5:n<=5)(hk:sX ks):cz [.bl c,a6 (u::bX ks)]=.ok (sY n c [] ks):=by
 have hs:=szl;have qk:=zW hk;obtain⟨k1,k2,k3⟩:=hk;have ho:=h_ ks;have fk:=bQ ks;have g3:=decide_eq_true h1;have g4:=decide_eq_true h5;unfold sY;rcases ks with _|⟨a,_|⟨b,r⟩⟩
 ·exact absurd k2.1 (by decide)
 ·have qk:bW [.lst false [.str (strOf a)]]=.ok (.lst true [.str (strOf a)]):=qk;show cz [.bl c,.lst false [.str (strOf u),.str (strOf a)]]=.ok (.tup [.str "parts",.int n,.bl c,.str (strOf []),.lst true [.str (strOf a)]]);have c2:cut [D.str (strOf u),.str (strOf a)] (some 1) none=[.str (strOf a)]:=cM _ 1 (by simp);unfold cz iz jj;simp_arith [fG,j_,at2,hu,g3,g4,c2,qk,nR]
 ·obtain⟨tl,e⟩:∃tl,bX (a::b::r)=a::dX::tl:=⟨_,rfl⟩;rw[e]at qk ⊢;have ft:=bQ tl;show cz [.bl c,.lst false (.str (strOf u)::.str (strOf a)::.str (strOf dX)::tl.map wD)]=.ok (.tup [.str "parts",.int n,.bl c,.str (strOf []),.lst true ((a::b::r).map wD)]);have qk:bW [.lst false (.str (strOf a)::.str (strOf dX)::tl.map wD)]=_:=qk;generalize tl.map wD=t at ft qk ⊢;generalize(a::b::r).map wD=ks at fk ho qk ⊢;have c2:cut (D.str (strOf u)::.str (strOf a)::.str (strOf dX)::t) (some 1) none=.str (strOf a)::.str (strOf dX)::t:=cM _ 1 (by simp);have l2:decide (((t.length+1+1+1:Nat):Int)<2)=false:=decide_eq_false (by omega);have l3:decide (2<((t.length+1+1+1:Nat):Int))=true:=decide_eq_true (by omega);unfold cz iz jj;simp_arith [ft,fG,j_,at2,hu,l2,l3,g3,g4,c2,qk,Oe,nR,fk,ho]
theorem Og(o:qz):bK .NotIn (.str (strOf a8)) (bz (.cst nq))=.ok (.bl false):=by kernel_rfl
theorem DJ:bK .NotIn (.str (strOf aL)) (bz (.cst sV))=.ok (.bl false):=by kernel_rfl
theorem Xf(hv:W v)(h:f7 l k):gp [a6 (v::a8::bf l k)]=.ok (.tup [.str "then",wD v,fZ l k]):=by
 have hs:=szl;have q:=Cp h;have g:=lO (strOf v);rw[hv]at g;have gt:=Og .In;have ft:=bQ (bf l k);have q:cS [.lst false ((bf l k).map wD)]=.ok (.tup [.str (strOf l),.str (strOf k)]):=q;show gp [.lst false (.str (strOf v)::.str (strOf a8)::(bf l k).map wD)]=.ok (.tup [.str "then",.str (strOf v),.tup [.str (strOf l),.str (strOf k)]]);generalize(bf l k).map wD=t at q ft ⊢;have c2:cut (D.str (strOf v)::.str (strOf a8)::t) (some 2) none=t:=cM _ 2 (by simp);have l2:decide (((t.length+1+1:Nat):Int)<2)=false:=decide_eq_false (by omega);unfold gp mQ qp;simp_arith [ft,fG,j_,l2,g,gt,c2,q]
theorem Z5(h:f7 l k)(hk:sX ks):iA [a6 (bf l k),a6 (aL::bX ks)]=.ok (.tup [.str "is",fZ l k,.lst true (ks.map wD)]):=by
 have hs:=szl;have q:=Cp h;have qk:=zW hk;have ga:=DJ;have fr:=bQ (bf l k);have ft:=bQ (bX ks);have ho:=h_ ks;have fk:=bQ ks;have q:cS [.lst false ((bf l k).map wD)]=.ok (.tup [.str (strOf l),.str (strOf k)]):=q;have qk:bW [.lst false ((bX ks).map wD)]=_:=qk;show iA [.lst false ((bf l k).map wD),.lst false (.str (strOf aL)::(bX ks).map wD)]=.ok (.tup [.str "is",.tup [.str (strOf l),.str (strOf k)],.lst true (ks.map wD)]);generalize(bf l k).map wD=r at q fr ⊢;generalize(bX ks).map wD=t at qk ft ⊢;have c2:cut (D.str (strOf aL)::t) (some 1) none=t:=cM _ 1 (by simp);unfold iA tY yH;simp_arith [ft,fr,fG,ga,c2,q,qk,fk,ho]
variable{l2 k2:List Nat}
theorem Xg(h:f7 l2 k2):jS [fZ l k,wD v,a6 (bf l2 k2)]=.ok (.tup [.str "join",fZ l k,wD v,fZ l2 k2]):=by
 have hs:=szl;have q:=Cp h;have fr:=bQ (bf l2 k2);have q:cS [.lst false ((bf l2 k2).map wD)]=.ok (.tup [.str (strOf l2),.str (strOf k2)]):=q;show jS [.tup [.str (strOf l),.str (strOf k)],.str (strOf v),.lst false ((bf l2 k2).map wD)]=.ok (.tup [.str "join",.tup [.str (strOf l),.str (strOf k)],.str (strOf v),.tup [.str (strOf l2),.str (strOf k2)]]);generalize(bf l2 k2).map wD=r at q fr ⊢;unfold jS uL AD;simp_arith [fr,q]
noncomputable def oD:Option Int->D
|some n=>.int n
|none=>.non
abbrev mO(u:List Nat)(o:Option Int):Prop:=cN [wD u]=.ok (oD o)
theorem Oh(o:Option Int):gf (oD o)=o.isNone:=by cases o<;>rfl
theorem t_(o:Option Int):bz (oD o)=oD o:=by cases o<;>rfl
noncomputable abbrev NP:=List Nat×Option Int
noncomputable def Xh(p:NP):D:=if p.2.isNone=true then wD p.1 else .str (strOf [])
theorem qE(ps:List NP)(h:∀p∈ps,mO p.1 p.2):dg (pG (.name 0)) (fun _=>.ok true) (pE iL (.ite (.cmp .Is (.call 0 (.cons (.var 0) .nil)) (.con .non)) (.var 0) (.con (.str (strOf []))))) (ps.map fun p=>wD p.1) [none]=.ok (ps.map Xh):=by
 refine iy (fun p:NP=>wD p.1) (fun O=>∃o,O=[o]) Xh ps _ ⟨none,rfl⟩ ?_;rintro p hp O ⟨o,rfl⟩;refine⟨[some (wD p.1)],rfl,⟨_,rfl⟩,?_⟩;have q:=h p hp;have e:=Oh p.2;unfold Xh;unfold mO wD at q;unfold iL wD;cases hn:p.2.isNone with
 |false=>rw[hn]at e;simp_arith [q,e]
 |true=>rw[hn]at e;simp_arith [q,e]
theorem qF(ps:List NP)(h:∀p∈ps,mO p.1 p.2):dg (pG (.name 0)) (pT iL (.cmp .IsNot (.call 0 (.cons (.var 0) .nil)) (.con .non))) (pE iL (.call 0 (.cons (.var 0) .nil))) (ps.map fun p=>wD p.1) [none]=.ok ((ps.filter fun p=>!p.2.isNone).map fun p=>oD p.2):=by
 refine lC (fun p:NP=>wD p.1) (fun O=>∃o,O=[o]) (fun p=>!p.2.isNone) (fun p=>oD p.2) ps _ ⟨none,rfl⟩ ?_;rintro p hp O ⟨o,rfl⟩;have q:=h p hp;have e:=Oh p.2;unfold mO wD at q;refine⟨[some (wD p.1)],rfl,⟨_,rfl⟩,?_,?_⟩
 ·unfold iL wD;simp_arith [q,e]
 ·unfold iL wD;simp_arith [q,e]
noncomputable def a9(n:Int):List Nat:=(n_ n).cps.toList
theorem DK(n:Int):strOf (a9 n)=n_ n:=by
 show(⟨(n_ n).cps.toList.toArray⟩:Str)=_;rw[Array.toArray_toList]
def Num(n:Int):Prop:=-(10 ^ 30)<n/\n<10 ^ 30
variable{n:Int}
theorem wu(h:Num n):mO (a9 n) (some n):=by
 show cN [.str (strOf (a9 n))]=_;rw[DK];exact YJ n h.1 h.2
noncomputable def qW:Option Int->Option Int->List (List Nat)
|some a,none=>[eS,dQ,a9 a]
|none,some b=>[eS,nu,a9 b]
|some a,some b=>if a=b then[iC,a9 a]else[fQ,a9 a,toL,a9 b]
|_,_=>[]
def uS:Option Int->Option Int->Prop
|some a,none=>Num a
|none,some b=>Num b
|some a,some b=>Num a/\Num b/\a<=b
|_,_=>False
theorem S7:mO iC none:=by kernel_rfl
theorem S8:mO eS none:=by kernel_rfl
theorem YK:mO dQ none:=by kernel_rfl
theorem YL:mO nu none:=by kernel_rfl
theorem YM:mO fQ none:=by kernel_rfl
theorem YN:mO toL none:=by kernel_rfl
variable{α:Type}
theorem all2{p:α->Prop}{a b:α}(h1:p a)(h2:p b):∀x∈[a,b],p x:=by simp[h1,h2]
theorem Bm{p:α->Prop}{a b c:α}(h1:p a)(h2:p b)(h3:p c):∀x∈[a,b,c],p x:=by simp[h1,h2,h3]
theorem RX{p:α->Prop}{a b c d:α}(h1:p a)(h2:p b)(h3:p c)(h4:p d):∀x∈[a,b,c,d],p x:=by simp[h1,h2,h3,h4]
theorem U_{a:Int}(h:Num a):b5 [a6 [iC,a9 a]]=.ok (.tup [.int a,.int a]):=by
 have hs:=szl;have A:∀p∈([(iC,none),(a9 a,some a)]:List NP),mO p.1 p.2:=all2 S7 (wu h);have f:dg _ _ _ [D.str (strOf iC),.str (strOf (a9 a))] [none]=R.ok [D.str (strOf iC),.str (strOf [])]:=qE _ A;have g:dg _ _ _ [D.str (strOf iC),.str (strOf (a9 a))] [none]=R.ok [D.int a]:=qF _ A;have e:bK .Eq (.lst false [D.str (strOf iC),.str (strOf [])]) (.lst true [.str "of",.str (strOf [])])=.ok (.bl true):=by kernel_rfl
 show b5 [.lst false [.str (strOf iC),.str (strOf (a9 a))]]=_;unfold b5 iK;simp_arith [nR,f,g,e,fG]
theorem Va{a:Int}(h:Num a):b5 [a6 [eS,dQ,a9 a]]=.ok (.tup [.int a,.non]):=by
 have hs:=szl;have A:∀p∈([(eS,none),(dQ,none),(a9 a,some a)]:List NP),mO p.1 p.2:=Bm S8 YK (wu h);have f:dg _ _ _ [D.str (strOf eS),.str (strOf dQ),.str (strOf (a9 a))] [none]=R.ok [D.str (strOf eS),.str (strOf dQ),.str (strOf [])]:=qE _ A;have g:dg _ _ _ [D.str (strOf eS),.str (strOf dQ),.str (strOf (a9 a))] [none]=R.ok [D.int a]:=qF _ A;have e:bK .Eq (.lst false [D.str (strOf eS),.str (strOf dQ),.str (strOf [])]) (.lst true [.str "of",.str (strOf [])])=.ok (.bl false):=by kernel_rfl
 have e2:bK .Eq (.lst false [D.str (strOf eS),.str (strOf dQ),.str (strOf [])]) (.lst true [.str "at",.str "least",.str (strOf [])])=.ok (.bl true):=by kernel_rfl
 show b5 [.lst false [.str (strOf eS),.str (strOf dQ),.str (strOf (a9 a))]]=_;unfold b5 iK;simp_arith [nR,f,g,e,e2,fG]
theorem Vb{a:Int}(h:Num a):b5 [a6 [eS,nu,a9 a]]=.ok (.tup [.non,.int a]):=by
 have hs:=szl;have A:∀p∈([(eS,none),(nu,none),(a9 a,some a)]:List NP),mO p.1 p.2:=Bm S8 YL (wu h);have f:dg _ _ _ [D.str (strOf eS),.str (strOf nu),.str (strOf (a9 a))] [none]=R.ok [D.str (strOf eS),.str (strOf nu),.str (strOf [])]:=qE _ A;have g:dg _ _ _ [D.str (strOf eS),.str (strOf nu),.str (strOf (a9 a))] [none]=R.ok [D.int a]:=qF _ A;have e:bK .Eq (.lst false [D.str (strOf eS),.str (strOf nu),.str (strOf [])]) (.lst true [.str "of",.str (strOf [])])=.ok (.bl false):=by kernel_rfl
 have e2:bK .Eq (.lst false [D.str (strOf eS),.str (strOf nu),.str (strOf [])]) (.lst true [.str "at",.str "least",.str (strOf [])])=.ok (.bl false):=by kernel_rfl
 have e3:bK .Eq (.lst false [D.str (strOf eS),.str (strOf nu),.str (strOf [])]) (.lst true [.str "at",.str "most",.str (strOf [])])=.ok (.bl true):=by kernel_rfl
 show b5 [.lst false [.str (strOf eS),.str (strOf nu),.str (strOf (a9 a))]]=_;unfold b5 iK;simp_arith [nR,f,g,e,e2,e3,fG]
theorem Vc{a b:Int}(h:Num a)(h2:Num b)(hab:a<=b):b5 [a6 [fQ,a9 a,toL,a9 b]]=.ok (.tup [.int a,.int b]):=by
 have hs:=szl;have A:∀p∈([(fQ,none),(a9 a,some a),(toL,none),(a9 b,some b)]:List NP),mO p.1 p.2:=RX YM (wu h) YN (wu h2);have f:dg _ _ _ [D.str (strOf fQ),.str (strOf (a9 a)),.str (strOf toL),.str (strOf (a9 b))] [none]=R.ok [D.str (strOf fQ),.str (strOf []),.str (strOf toL),.str (strOf [])]:=qE _ A;have g:dg _ _ _ [D.str (strOf fQ),.str (strOf (a9 a)),.str (strOf toL),.str (strOf (a9 b))] [none]=R.ok [D.int a,.int b]:=qF _ A;have e:bK .Eq (.lst false [D.str (strOf fQ),.str (strOf []),.str (strOf toL),.str (strOf [])]) (.lst true [.str "of",.str (strOf [])])=.ok (.bl false):=by kernel_rfl
 have e2:bK .Eq (.lst false [D.str (strOf fQ),.str (strOf []),.str (strOf toL),.str (strOf [])]) (.lst true [.str "at",.str "least",.str (strOf [])])=.ok (.bl false):=by kernel_rfl
 have e3:bK .Eq (.lst false [D.str (strOf fQ),.str (strOf []),.str (strOf toL),.str (strOf [])]) (.lst true [.str "at",.str "most",.str (strOf [])])=.ok (.bl false):=by kernel_rfl
 have e4:bK .Eq (.lst false [D.str (strOf fQ),.str (strOf []),.str (strOf toL),.str (strOf [])]) (.lst true [.str "from",.str (strOf []),.str "to",.str (strOf [])])=.ok (.bl true):=by kernel_rfl
 have le:=decide_eq_true hab;show b5 [.lst false [.str (strOf fQ),.str (strOf (a9 a)),.str (strOf toL),.str (strOf (a9 b))]]=_;unfold b5 iK;simp_arith [nR,f,g,e,e2,e3,e4,fG,j_,le]
variable{b:Option Int}
theorem RY{a:Option Int}(h:uS a b):b5 [a6 (qW a b)]=.ok (.tup [oD a,oD b]):=by
 rcases a with _|a<;>rcases b with _|b
 ·exact h.elim
 ·exact Vb h
 ·exact Va h
 ·obtain⟨h1,h2,h3⟩:=h;show b5 [a6 (if a=b then[iC,a9 a]else[fQ,a9 a,toL,a9 b])]=_;by_cases e:a=b
  ·subst e;rw[if_pos rfl];exact U_ h1
  ·rw[if_neg e];exact Vc h1 h2 h3
theorem Xi{a:Option Int}(h:uS a b):gn [fZ l k,wD v,a6 (qW a b)]=.ok (.tup [.str "size",fZ l k,wD v,oD a,oD b]):=by
 have hs:=szl;have q:=RY h;have fa:=t_ a;have fb:=t_ b;have fr:=bQ (qW a b);have q:b5 [.lst false ((qW a b).map wD)]=.ok (.tup [oD a,oD b]):=q;show gn [.tup [.str (strOf l),.str (strOf k)],.str (strOf v),.lst false ((qW a b).map wD)]=.ok (.tup [.str "size",.tup [.str (strOf l),.str (strOf k)],.str (strOf v),oD a,oD b]);generalize(qW a b).map wD=r at q fr ⊢;have oa:aV (oD a)=true:=by cases a<;>rfl
 have ob:aV (oD b)=true:=by cases b<;>rfl
 unfold gn qo uP;simp_arith [fr,q,fa,fb,fG,j_,oa,ob]
theorem YO{c:br->R Bool}{b:br->Fl}(O:Nat->br)(σ0:br)(h0:O 0=σ0)(n N:Nat)(h:∀i<n,c (O i)=.ok true/\b (O i)=.nx (O (i+1)))(h2:c (O n)=.ok false)(hN:n<N):uK c b N σ0=.nx (O n):=by
 subst h0;have go:∀k i N,i+k=n->k<N->uK c b N (O i)=.nx (O n):=by
  intro k;induction k with
  |zero=>
   intro i N e hN;obtain⟨N,rfl⟩:∃m,N=m+1:=⟨N-1,by omega⟩;have e:i=n:=by omega
   subst e;show(c (O i)).aT _=_;rw[h2];rfl
  |succ k ih=>
   intro i N e hN;obtain⟨N,rfl⟩:∃m,N=m+1:=⟨N-1,by omega⟩;show(c (O i)).aT _=_;rw[(h i (by omega)).1];have q:=ih (i+1) N (by omega) (by omega);simp only[R.aT,(h i (by omega)).2,if_true];exact q
 exact go n 0 N (by omega) hN
theorem RZ(r:List (List Nat))(i:Nat)(h:i<r.length):e_ (r.map wD) (i:Int)=some (.str (strOf r[i])):=jy (by rw[bD,aA h];rfl)
theorem vj(ws t:List (List Nat))(hw:∀w∈ws,W w)(ht:∀x r,t=x::r->isWord (strOf x)=false)(hl:ws.length<900):cT [a6 (ws++t)]=.ok (.int (ws.length:Int)):=by
 have hs:=szl;have fr:=bQ (ws++t);have ln:((ws++t).map wD).length=ws.length+t.length:=by rw[ah,ak]
 have hat:∀i<ws.length,∃w,W w/\e_ ((ws++t).map wD) (i:Int)=some (.str (strOf w)):=fun i hi=>⟨ws[i],hw _ (gb hi),by
  rw[RZ _ i (by rw[ak];omega),List.getElem_append_left hi]⟩
 have hend:∀x r,t=x::r->e_ ((ws++t).map wD) (ws.length:Int)=some (.str (strOf x)):=fun x r e=>by
  subst e;rw[RZ _ ws.length (by simp),rV (aM _)];simp
 unfold cT jR k9 mS a6;generalize(ws++t).map wD=R at fr ln hat hend;simp_arith [fr];rw[YO (fun i=>[some (.lst false R),some (.int (i:Int))]) [some (.lst false R),some (.int 0)] rfl ws.length 1000 (fun i hi=>by
  obtain⟨w,h1,h2⟩:=hat i hi;have q:=lO (strOf w);rw[h1]at q;have g:decide ((i:Int)<(R.length:Int))=true:=decide_eq_true (by omega);constructor
  ·simp_arith [fr,g,h2,q]
  ·simp_arith [];rfl) (by
  cases t with
  |nil=>
   have g:decide ((ws.length:Int)<(R.length:Int))=false:=decide_eq_false (by rw[ln];simp);simp_arith [fr,g]
  |cons x r=>
   have g:decide ((ws.length:Int)<(R.length:Int))=true:=decide_eq_true (by rw[ln];simp;omega);have h2:=hend x r rfl;have q:=lO (strOf x);rw[ht x r rfl]at q;simp_arith [fr,g,h2,q]) (by omega)]
 simp_arith []
theorem k_is:isWord (strOf dY)=false:=by decide +kernel
theorem Cq:isWord (strOf a8)=false:=by decide +kernel
theorem Xj:isWord (strOf iC)=false:=by decide +kernel
theorem Z6:isWord (strOf eS)=false:=by decide +kernel
theorem Xk:isWord (strOf fQ)=false:=by decide +kernel
theorem Kc:aq "is"=strOf dY:=by decide +kernel
theorem HN(h:f7 l k):∀w∈bf l k,W w:=by
 unfold bf;obtain⟨h1,h2⟩:=h;split
 ·intro w hw;rw[aW.mp hw];exact h2
 ·rename_i e;rcases h1 with h1|h1
  ·exact absurd h1 e
  ·intro w hw;rcases aF.mp hw with rfl|hw
   ·exact h1
   ·rw[aW.mp hw];exact h2
theorem iO(l k:List Nat):1<=(bf l k).length/\(bf l k).length<=2:=by
 unfold bf;split<;>simp
theorem Vd(h:f7 l k)(hk:sX ks):bO [a6 (bf l k++dY::aL::bX ks)]=.ok (.tup [.str "is",fZ l k,.lst true (ks.map wD)]):=by
 have q:=vj (bf l k) (dY::aL::bX ks) (HN h) (by intro x r e;cases e;exact k_is) (by have:=iO l k;omega);have qi:=Z5 h hk;have fr:=bQ (bf l k++dY::aL::bX ks);have f1:=bQ (bf l k);have f2:=bQ (dY::aL::bX ks);have ho:=h_ (dY::aL::bX ks);have c1:cut ((bf l k++dY::aL::bX ks).map wD) (some ((bf l k).length:Int)) none=(dY::aL::bX ks).map wD:=by
  rw[cM _ _ (by simp),<-kQ,gM (aM _),tK];rfl
 have c2:cut ((bf l k++dY::aL::bX ks).map wD) none (some ((bf l k).length:Int))=(bf l k).map wD:=by
  rw[iN,<-kR,vK]
 have c3:cut ((dY::aL::bX ks).map wD) (some 1) none=(aL::bX ks).map wD:=cM _ 1 (by simp);have i0:e_ ((dY::aL::bX ks).map wD) 0=some (.str (strOf dY)):=fG _ _;have ne:(((bf l k).length:Int)==(((bf l k++dY::aL::bX ks).map wD).length:Int))=false:=by
  rw[beq_eq_false_iff_ne,ah,ak,aC];omega
 have f3:=bQ (aL::bX ks);have q:cT [.lst false ((bf l k++dY::aL::bX ks).map wD)]=_:=q;have qi:iA [.lst false ((bf l k).map wD),.lst false ((aL::bX ks).map wD)]=_:=qi;show bO [.lst false ((bf l k++dY::aL::bX ks).map wD)]=_;generalize(bf l k++dY::aL::bX ks).map wD=X at *;generalize(dY::aL::bX ks).map wD=aas at *;generalize(bf l k).map wD=Z at *;generalize(aL::bX ks).map wD=U at *;generalize(bf l k).length=n at *;unfold bO gH iM;simp_arith [q,fr,ne,c1,f2,i0,Kc,c2,c3,f1,f3,qi,ho]
variable{x:List Nat}{t:List (List Nat)}
theorem lP{r:D}{J:Bool}(h:f7 l k)(hv:W v)(hx:isWord (strOf x)=false)(hi:(strOf x==strOf dY)=false)(hJ:bK .In (.str (strOf x)) (bz (.cst nq))=.ok (.bl J))
  (q1:J=true->jS [fZ l k,wD v,a6 t]=.ok r) (q2:J=false->gn [fZ l k,wD v,a6 (x::t)]=.ok r):bO [a6 (bf l k++v::x::t)]=.ok r:=by
 have hs:=szl;have hl:=iO l k;have q:=vj (bf l k++[v]) (x::t) (fun w hw=>by
  rcases aY.mp hw with hw|hw
  ·exact HN h w hw
  ·rw[aW.mp hw];exact hv) (by intro x r e;cases e;exact hx) (by rw[ak,aG];omega)
 have e:bf l k++[v]++x::t=bf l k++v::x::t:=by simp
 rw[e,ak,aG]at q;have qr:=Cp h;have fr:=bQ (bf l k++v::x::t);have f1:=bQ (bf l k);have o1:=h_ (x::t);have f2:=bQ t;have c1:cut ((bf l k++v::x::t).map wD) (some (((bf l k).length+1:Nat):Int)) none=.str (strOf x)::t.map wD:=by
  rw[cM _ _ (by simp),<-kQ,<-e,gM (by simp),ig (by simp)];rfl
 have c2:cut ((bf l k++v::x::t).map wD) none (some ((((bf l k).length+1:Nat):Int)-1))=(bf l k).map wD:=by
  rw[show(((bf l k).length+1:Nat):Int)-1=((bf l k).length:Int)by omega,iN,<-kR,vK]
 have i1:e_ ((bf l k++v::x::t).map wD) ((((bf l k).length+1:Nat):Int)-1)=some (.str (strOf v)):=by
  rw[show(((bf l k).length+1:Nat):Int)-1=((bf l k).length:Int)by omega,RZ _ _ (by simp),rV (aM _)];simp
 have c3:cut (D.str (strOf x)::t.map wD) (some 1) none=t.map wD:=cM _ 1 (by simp);have ne:((((bf l k).length+1:Nat):Int)==(((bf l k++v::x::t).map wD).length:Int))=false:=by
  rw[beq_eq_false_iff_ne,ah,ak,aC,aC];omega
 have lt:decide ((((bf l k).length+1:Nat):Int)<2)=false:=decide_eq_false (by omega);have q:cT [.lst false ((bf l k++v::x::t).map wD)]=_:=q;have qr:cS [.lst false ((bf l k).map wD)]=.ok (.tup [.str (strOf l),.str (strOf k)]):=qr;have o1:cE (t.map wD)=true:=o1;have q1:J=true->jS [.tup [.str (strOf l),.str (strOf k)],.str (strOf v),.lst false (t.map wD)]=.ok r:=q1;have q2:J=false->gn [.tup [.str (strOf l),.str (strOf k)],.str (strOf v),.lst false (.str (strOf x)::t.map wD)]=.ok r:=q2;show bO [.lst false ((bf l k++v::x::t).map wD)]=_;generalize(bf l k++v::x::t).map wD=X at fr c1 c2 i1 ne q ⊢;generalize t.map wD=aas at o1 f2 c1 c3 q1 q2 ⊢;generalize(bf l k).map wD=Z at f1 c2 qr ⊢;generalize(((bf l k).length+1:Nat):Int)=n at q c1 c2 i1 ne lt ⊢;unfold bO gH iM;cases J with
 |true=>
  have q1:=q1 rfl;simp_arith [q,fr,ne,c1,f2,o1,fG,Kc,hi,lt,c2,f1,qr,hJ,i1,c3,q1]
 |false=>
  have q2:=q2 rfl;simp_arith [q,fr,ne,c1,f2,o1,fG,Kc,hi,lt,c2,f1,qr,hJ,i1,c3,q2]
theorem Oi(h:f7 l k)(hv:W v)(h2:f7 l2 k2):bO [a6 (bf l k++v::a8::bf l2 k2)]=.ok (.tup [.str "join",fZ l k,wD v,fZ l2 k2]):=
 lP (J:=true) h hv Cq (by decide +kernel) (by kernel_rfl) (fun _=>Xg h2) (by intro z;cases z)
theorem Oj{a:Option Int}(h:f7 l k)(hv:W v)(h2:uS a b):bO [a6 (bf l k++v::qW a b)]=.ok (.tup [.str "size",fZ l k,wD v,oD a,oD b]):=by
 have q:=Xi (l:=l) (k:=k) (v:=v) h2;have key:∀x t,qW a b=x::t->x∈[iC,eS,fQ]->bO [a6 (bf l k++v::qW a b)]=.ok (.tup [.str "size",fZ l k,wD v,oD a,oD b]):=by
  intro x t e hx;rw[e]at q ⊢;have hh:isWord (strOf x)=false/\(strOf x==strOf dY)=false/\bK .In (.str (strOf x)) (bz (.cst nq))=.ok (.bl false):=by
   rcases aF.mp hx with rfl|hx
   ·exact⟨Xj,by decide +kernel,by kernel_rfl⟩
   ·rcases aF.mp hx with rfl|hx
    ·exact⟨Z6,by decide +kernel,by kernel_rfl⟩
    ·rw[aW.mp hx];exact⟨Xk,by decide +kernel,by kernel_rfl⟩
  exact lP (J:=false) h hv hh.1 hh.2.1 hh.2.2 (by intro z;cases z) fun _=>q
 rcases a with _|a<;>rcases b with _|b
 ·exact h2.elim
 ·exact key _ _ rfl (by decide)
 ·exact key _ _ rfl (by decide)
 ·by_cases e:a=b
  ·exact key iC [a9 a] (by show(if a=b then _ else _)=_;rw[if_pos e]) (by decide)
  ·exact key fQ [a9 a,toL,a9 b] (by show(if a=b then _ else _)=_;rw[if_neg e]) (by decide)
section
variable{t:List D}{y:List Nat}{r:D} (ft:aB t=t)
include ft
theorem wx(hl:t.length<=100)(q:cz [.bl false,.lst false (.str (strOf [49])::t)]=.ok r):cG [.lst false (.str (strOf aL)::t)]=.ok r:=by
 have hs:=szl;have e1:bK .In (.str (strOf aL)) (bz (.cst sV))=.ok (.bl true):=by kernel_rfl
 have n1:aq "1"=strOf [49]:=by decide +kernel
 have c1:cut (D.str (strOf aL)::t) (some 1) none=t:=cM _ 1 (by simp);unfold cG iY jG;simp_arith [ft,fG,e1,c1,n1,q]
theorem Xl(q:cz [.bl false,.lst false t]=.ok r):cG [.lst false (.str (strOf eS)::.str (strOf dQ)::t)]=.ok r:=by
 have hs:=szl;have e1:bK .In (.str (strOf eS)) (bz (.cst sV))=.ok (.bl false):=by kernel_rfl
 have c0:cut (D.str (strOf eS)::.str (strOf dQ)::t) none (some 2)=[.str (strOf eS),.str (strOf dQ)]:=iN _ 2;have c1:cut (D.str (strOf eS)::.str (strOf dQ)::t) (some 2) none=t:=cM _ 2 (by simp);have e2:bK .Eq (.lst true [D.str (strOf eS),.str (strOf dQ)]) (.lst true [.str "at",.str "least"])=.ok (.bl true):=by kernel_rfl
 unfold cG iY jG;simp_arith [ft,fG,e1,c0,e2,c1,q]
theorem HP(q:cz [.bl true,.lst false (.str (strOf y)::t)]=.ok r):cG [.lst false (.str (strOf jI)::.str (strOf y)::t)]=.ok r:=by
 have hs:=szl;have e1:bK .In (.str (strOf jI)) (bz (.cst sV))=.ok (.bl false):=by kernel_rfl
 have c0:cut (D.str (strOf jI)::.str (strOf y)::t) none (some 2)=[.str (strOf jI),.str (strOf y)]:=iN _ 2;have c1:cut (D.str (strOf jI)::.str (strOf y)::t) (some 1) none=.str (strOf y)::t:=cM _ 1 (by simp);have e2:bK .Eq (.lst true [D.str (strOf jI),.str (strOf y)]) (.lst true [.str "at",.str "least"])=.ok (.bl false):=by kernel_rfl
 have e3:(strOf jI==aq "just")=true:=by decide +kernel
 unfold cG iY jG;simp_arith [ft,fG,e1,c0,e2,e3,c1,q]
theorem wy(q:gp [.lst false (.str (strOf y)::t)]=.ok r):cG [.lst false (.str (strOf dZ)::.str (strOf y)::t)]=.ok r:=by
 have hs:=szl;have e1:bK .In (.str (strOf dZ)) (bz (.cst sV))=.ok (.bl false):=by kernel_rfl
 have c0:cut (D.str (strOf dZ)::.str (strOf y)::t) none (some 2)=[.str (strOf dZ),.str (strOf y)]:=iN _ 2;have c1:cut (D.str (strOf dZ)::.str (strOf y)::t) (some 1) none=.str (strOf y)::t:=cM _ 1 (by simp);have e2:bK .Eq (.lst true [D.str (strOf dZ),.str (strOf y)]) (.lst true [.str "at",.str "least"])=.ok (.bl false):=by kernel_rfl
 have e3:(strOf dZ==aq "just")=false:=by decide +kernel
 have e4:(strOf dZ==aq "then")=true:=by decide +kernel
 unfold cG iY jG;simp_arith [ft,fG,e1,c0,e2,e3,e4,c1,q]
theorem Ve(q:bO [.lst false (.str (strOf y)::t)]=.ok r):cG [.lst false (.str (strOf a8)::.str (strOf y)::t)]=.ok r:=by
 have hs:=szl;have e1:bK .In (.str (strOf a8)) (bz (.cst sV))=.ok (.bl false):=by kernel_rfl
 have c0:cut (D.str (strOf a8)::.str (strOf y)::t) none (some 2)=[.str (strOf a8),.str (strOf y)]:=iN _ 2;have c1:cut (D.str (strOf a8)::.str (strOf y)::t) (some 1) none=.str (strOf y)::t:=cM _ 1 (by simp);have e2:bK .Eq (.lst true [D.str (strOf a8),.str (strOf y)]) (.lst true [.str "at",.str "least"])=.ok (.bl false):=by kernel_rfl
 have e3:(strOf a8==aq "just")=false:=by decide +kernel
 have e4:(strOf a8==aq "then")=false:=by decide +kernel
 have e5:bK .In (.str (strOf a8)) (bz (.cst nq))=.ok (.bl true):=by kernel_rfl
 unfold cG iY jG;simp_arith [ft,fG,e1,c0,e2,e3,e4,e5,c1,q]
end
inductive Rw where
|parts (n:Int) (c:Bool) (l:List Nat) (ks:List (List Nat))
|join (l k v l2 k2:List Nat)
|size (l k v:List Nat) (a b:Option Int)
|isa (l k:List Nat) (ks:List (List Nat))
|aT (v l k:List Nat)
noncomputable def i9(n:Int)(c:Bool):List (List Nat):=if c=true then[jI,a9 n]else if n=1 then[aL]else[eS,dQ,a9 n]
noncomputable def ku(l:List Nat):List (List Nat):=if l=[]then[]else[l]
noncomputable def Rw.words:Rw->List (List Nat)
|.parts n c l ks=>i9 n c++(ku l++bX ks)
|.join l k v l2 k2=>a8::(bf l k++v::a8::bf l2 k2)
|.size l k v a b=>a8::(bf l k++v::qW a b)
|.isa l k ks=>a8::(bf l k++dY::aL::bX ks)
|.aT v l k=>dZ::v::a8::bf l k
noncomputable def Rw.val:Rw->D
|.parts n c l ks=>sY n c l ks
|.join l k v l2 k2=>.tup [.str "join",fZ l k,wD v,fZ l2 k2]
|.size l k v a b=>.tup [.str "size",fZ l k,wD v,oD a,oD b]
|.isa l k ks=>.tup [.str "is",fZ l k,.lst true (ks.map wD)]
|.aT v l k=>.tup [.str "then",wD v,fZ l k]
def Rw.Ok:Rw->Prop
|.parts n _ l ks=>(1<=n/\n<=5)/\(l=[]\/W l)/\sX ks
|.join l k v l2 k2=>f7 l k/\W v/\f7 l2 k2
|.size l k v a b=>f7 l k/\W v/\uS a b
|.isa l k ks=>f7 l k/\sX ks
|.aT v l k=>W v/\f7 l k
theorem vm(h:sX ks):(bX ks).length<=5:=by
 obtain⟨_,⟨_,h⟩,_⟩:=h;rcases ks with _|⟨a,_|⟨b,_|⟨c,_|⟨d,r⟩⟩⟩⟩
 ·simp[bX]
 ·simp[bX]
 ·simp[bX]
 ·simp[bX]
 ·exact absurd h (by simp only[aC];omega)
theorem Bo(h:1<=n/\n<=5):Num n:=by
 have:(5:Int)<10 ^ 30:=by decide
 exact⟨by omega,by omega⟩
theorem yS(c:Bool)(u l:List Nat)(n:Int)(hu:cN [.str (strOf u)]=.ok (.int n))(h:1<=n/\n<=5)(hk:sX ks)(hl:l=[]\/W l):cz [.bl c,.lst false (.str (strOf u)::(ku l++bX ks).map wD)]=.ok (sY n c l ks):=by
 unfold ku;rcases hl with rfl|hl
 ·exact U9 c u n hu h.1 h.2 hk
 ·rw[if_neg hl.nn];exact U8 c u l n hu h.1 h.2 hk hl
theorem yT(l k:List Nat)(t:List (List Nat)):∃y s,bf l k++t=y::s:=by
 unfold bf;split<;>exact⟨_,_,rfl⟩
variable{ws:List (List Nat)}
theorem eN{r:D}(hne:∃y s,ws=y::s)(q:bO [a6 ws]=.ok r):cG [a6 (a8::ws)]=.ok r:=by
 obtain⟨y,s,rfl⟩:=hne;exact Ve (bQ s) q
theorem YQ(w:Rw)(h:w.Ok):cG [a6 w.words]=.ok w.val:=by
 cases w with
 |parts n c l ks=>
  obtain⟨h1,h2,h3⟩:=h;have hl:((ku l++bX ks).map wD).length<=100:=by
   have:=vm h3;rw[ah,ak];unfold ku;split<;>simp<;>omega
  have ft:=bQ (ku l++bX ks);have hu:cN [.str (strOf (a9 n))]=.ok (.int n):=wu (Bo h1);show cG [a6 (i9 n c++(ku l++bX ks))]=.ok (sY n c l ks);unfold i9;cases c with
  |true=>exact HP ft (yS true _ l n hu h1 h3 h2)
  |false=>
   rw[if_neg (by decide)];by_cases e:n=1
   ·subst e;rw[if_pos rfl];exact wx ft hl (yS false [49] l 1 (by kernel_rfl) h1 h3 h2)
   ·rw[if_neg e];exact Xl (bQ (a9 n::(ku l++bX ks))) (yS false _ l n hu h1 h3 h2)
 |join l k v l2 k2=>exact eN (yT l k _) (Oi h.1 h.2.1 h.2.2)
 |size l k v a b=>exact eN (yT l k _) (Oj h.1 h.2.1 h.2.2)
 |isa l k ks=>exact eN (yT l k _) (Vd h.1 h.2)
 |aT v l k=>exact wy (bQ (a8::bf l k)) (Xf h.1 h.2)
theorem Ol(ns:List Int):∃c:Int,kI [jz ns,.int 0]=.ok (.int c):=by
 have fi:=gU ns;unfold kI wg Bk jz;cases ns with
 |nil=>
  exact⟨2377,by kernel_rfl⟩
 |cons a r=>
  refine⟨a,?_⟩;have l:decide ((0:Int)<((((a::r).map D.int).length:Nat):Int))=true:=decide_eq_true (by simp);have h0:e_ ((a::r).map D.int) 0=some (.int a):=fG _ _;generalize(a::r).map D.int=X at fi l h0 ⊢;simp_arith [fi,l,h0]
theorem pY(c k:Int)(hk:0<=k/\k<=300):∃m:Int,0<=m/\m<800000000/\nP [.int c,.int k]=.ok (.int m):=by
 have b1:=cA c (b:=2147483647) (by decide);obtain⟨o,ho⟩:∃o,o=(c%2147483647+7919*k+1)*48271%2147483647:=⟨_,rfl⟩;have b2:=cA ((c%2147483647+7919*k+1)*48271) (b:=2147483647) (by decide);rw[<-ho]at b2;have b3:=cA o (b:=1009) (by decide);have b4:=cA (o*(o%1009+1)) (b:=2147483629) (by decide);refine⟨o*(o%1009+1)%2147483629 / 3,by omega,by omega,?_⟩;unfold nP yz ER;simp_arith [];rw[<-ho]
noncomputable def ua(s:Int):Nat:=[98,103,107,112,113,118,119,120,121,122].getD (s / 8%10).toNat 98
noncomputable def lw(s w:Int):List Nat:=if s%8=0 then[97+(1+(s / 8+3*w)%25).toNat]else rep (s / 80%(1+s%8)) (ua s)++(97+((s / 640+5*w)%26).toNat)::rep (s%8-s / 80%(1+s%8)) (ua s)
theorem S9(i:Int)(h0:0<=i)(h1:i<26):e_ (aq "abcdefghijklmnopqrstuvwxyz").cps.toList i=some (97+i.toNat):=by
 have e:(aq "abcdefghijklmnopqrstuvwxyz").cps.toList=(bS 26).map (97+·):=by decide +kernel
 have hi:i=(i.toNat:Int):=by omega
 have q:=jy (xs:=(bS 26).map (97+·)) (j:=i.toNat) (v:=97+i.toNat) (by
  rw[bD,xJ (by omega)];rfl)
 rw[e];rw[<-hi]at q;exact q
theorem Vf(s:Int)(h0:0<=s):e_ (aq "bgkpqvwxyz").cps.toList (s / 8%10)=some (ua s):=by
 have e:(aq "bgkpqvwxyz").cps.toList=[98,103,107,112,113,118,119,120,121,122]:=by decide +kernel
 have b:=cA (s / 8) (b:=10) (by decide);rw[e];unfold ua;generalize s / 8%10=i at b ⊢;obtain⟨n,rfl,hn⟩:∃n:Nat,i=(n:Int)/\n<10:=⟨i.toNat,by omega,by omega⟩;have q:∀n<10,([98,103,107,112,113,118,119,120,121,122]:List Nat)[n]?=some ([98,103,107,112,113,118,119,120,121,122].getD n 98):=by decide
 exact jy (q n hn)
theorem Vg(s:Int):ua s∈[98,103,107,112,113,118,119,120,121,122]:=by
 have b:=cA (s / 8) (b:=10) (by decide);have q:∀n<10,([98,103,107,112,113,118,119,120,121,122]:List Nat).getD n 98∈[98,103,107,112,113,118,119,120,121,122]:=by decide
 exact q _ (by omega)
theorem wz(s w:Int)(h0:0<=s)(hw:0<=w):W (lw s w):=by
 have r:=Vg s;have m8:=cA s (b:=8) (by decide);have hl:1<=(lw s w).length/\(lw s w).length<=8:=by
  unfold lw;split
  ·simp
  ·have msp:=cA (s / 80) (b:=1+s%8) (by omega);simp only[ak,aC,DH];omega
 have ha:∀c∈lw s w,97<=c/\c<=122:=by
  have hr:97<=ua s/\ua s<=122:=by
   revert r;generalize ua s=x;revert x;simp
  have m25:=cA (s / 8+3*w) (b:=25) (by decide);have m26:=cA (s / 640+5*w) (b:=26) (by decide);intro c hc;unfold lw at hc;split at hc
  ·rw[aW.mp hc];omega
  ·rcases aY.mp hc with h|h
   ·rw[(l8.mp h).2];omega
   ·rcases aF.mp h with rfl|h
    ·omega
    ·rw[(l8.mp h).2];omega
 have hk:lw s w∉oK:=by
  intro h;have m25:=cA (s / 8+3*w) (b:=25) (by decide);have q1:∀w∈oK,∀c∈[98,103,107,112,113,118,119,120,121,122],c∉w:=by decide
  have q3:∀w∈oK,∀a,w=[a]->a=97:=by
   intro w hw a e;have h2:∀w∈oK,(match w with|[a]=>decide (a=97)|_=>true)=true:=by decide
   have:=h2 w hw;rw[e]at this;simpa using this
  by_cases c:s%8=0
  ·unfold lw at h;rw[if_pos c]at h;have:=q3 _ h _ rfl;omega
  ·refine q1 _ h _ r ?_;have msp:=cA (s / 80) (b:=1+s%8) (by omega);unfold lw;rw[if_neg c,aY,aF];by_cases z:0<s / 80%(1+s%8)
   ·exact .inl (l8.mpr ⟨by omega,rfl⟩)
   ·exact .inr (.inr (l8.mpr ⟨by omega,rfl⟩))
 unfold W isWord;rw[gv,decide_eq_true hl.1,decide_eq_true hl.2];have h1:k_ 97 122 (strOf (lw s w))=true:=by
  unfold k_;rw[bF];intro c hc;have:=ha c hc;rw[decide_eq_true this.1,decide_eq_true this.2];rfl
 have h2:memD (.str (strOf (lw s w))) dD=false:=by
  rw[J9,Bl,j0];intro v hv h;rw[lN,decide_eq_true_eq]at h;exact hk (h▸hv)
 rw[h1,h2];rfl
theorem oO(s w:Int)(h0:0<=s)(hw:0<=w/\w<1000):jk [.int s,.int w]=.ok (wD (lw s w)):=by
 have hs:=szl;have m8:=cA s (b:=8) (by decide);have m25:=cA (s / 8+3*w) (b:=25) (by decide);have m26:=cA (s / 640+5*w) (b:=26) (by decide);have msp:=cA (s / 80) (b:=1+s%8) (by omega);have l1:=S9 (1+(s / 8+3*w)%25) (by omega) (by omega);have l2:=S9 ((s / 640+5*w)%26) m26.1 m26.2;have l3:=Vf s h0;have e1:1+s%8-1-s / 80%(1+s%8)=s%8-s / 80%(1+s%8):=by omega
 have hd:∀j:Int,0<j->j<10000->sD s j:=fun j h1 h2=>⟨h1,by omega⟩;have d1:=hd 8 (by decide) (by decide);have d2:=hd 80 (by decide) (by decide);have d3:=hd 640 (by decide) (by decide);unfold wD lw;unfold jk Bg Hs;by_cases c:s%8=0
 ·have g:((1+s%8:Int)==1)=true:=by rw[beq_iff_eq];omega
  rw[if_pos c];simp_arith [g,l1];rfl
 ·have g:((1+s%8:Int)==1)=false:=by rw[beq_eq_false_iff_ne];omega
  rw[if_neg c];simp_arith [g,l2,l3];rw[J6 _ _ (by omega),e1];simp_arith [];rw[J6 _ _ (by omega),show(⟨#[97+((s / 640+5*w)%26).toNat]⟩:Str)=strOf [97+((s / 640+5*w)%26).toNat]from rfl,iB _ _ (by simp only[DH,aC,fU];omega)];simp_arith [];rw[iB _ _ (by simp only[DH,aC,fU,ak];omega)];simp_arith [];rw[a_];rfl
theorem LC(s w:Int)(j:Int)(hj:j=1\/j=2)(h:lw s w=lw s (w+j)):False:=by
 unfold lw at h;by_cases c:s%8=0
 ·rw[if_pos c,if_pos c]at h;have a:=cA (s / 8+3*w) (b:=25) (by decide);have b:=cA (s / 8+3*(w+j)) (b:=25) (by decide);have:=(jA h).1;omega
 ·rw[if_neg c,if_neg c]at h;have a:=cA (s / 640+5*w) (b:=26) (by decide);have b:=cA (s / 640+5*(w+j)) (b:=26) (by decide);have:=(jA (List.append_cancel_left h)).1;omega
noncomputable def iU(s d:Int):List (List Nat):=(bS (1+d%3).toNat).map fun(i:Nat)=>lw s (d / 3%26+(i:Int))
theorem HQ(s d:Int)(h0:0<=s)(hd:0<=d):sX (iU s d):=by
 have m3:=cA d (b:=3) (by decide);have m26:=cA (d / 3) (b:=26) (by decide);refine⟨fun w hw=>?_,⟨?_,?_⟩,?_⟩
 ·obtain⟨i,_,rfl⟩:=b7.mp hw;exact wz _ _ h0 (by omega)
 ·unfold iU;rw[ah,j4];omega
 ·unfold iU;rw[ah,j4];omega
 ·have n1:=LC s (d / 3%26) 1 (.inl rfl);have n2:=LC s (d / 3%26) 2 (.inr rfl);have n3:=LC s (d / 3%26+1) 1 (.inl rfl);rw[show d / 3%26+1+1=d / 3%26+2 by omega]at n3;have e:iU s d=if d%3=0 then[lw s (d / 3%26)]else if d%3=1 then[lw s (d / 3%26),lw s (d / 3%26+1)]else[lw s (d / 3%26),lw s (d / 3%26+1),lw s (d / 3%26+2)]:=by
   unfold iU;by_cases c0:d%3=0
   ·rw[c0,if_pos rfl];show[lw s (d / 3%26+0)]=_;rw[zB]
   ·rw[if_neg c0];by_cases c1:d%3=1
    ·rw[c1,if_pos rfl];show[lw s (d / 3%26+0),lw s (d / 3%26+1)]=_;rw[zB]
    ·rw[if_neg c1,show d%3=2 by omega];show[lw s (d / 3%26+0),lw s (d / 3%26+1),lw s (d / 3%26+2)]=_;rw[zB]
  rw[e];have b1:(strOf (lw s (d / 3%26))==strOf (lw s (d / 3%26+1)))=false:=by rw[lN,decide_eq_false n1]
  have b2:(strOf (lw s (d / 3%26))==strOf (lw s (d / 3%26+2)))=false:=by rw[lN,decide_eq_false n2]
  have b3:(strOf (lw s (d / 3%26+1))==strOf (lw s (d / 3%26+2)))=false:=by rw[lN,decide_eq_false n3]
  generalize lw s (d / 3%26)=x at b1 b2 ⊢;generalize lw s (d / 3%26+1)=y at b1 b3 ⊢;generalize lw s (d / 3%26+2)=z at b2 b3 ⊢;split
  ·rfl
  ·split
   ·simp[m9,jx,b1]
   ·simp[m9,jx,b1,b2,b3]
theorem Om(s d:Int)(h0:0<=s)(hd:0<=d/\d<800000000):wm [.int s,.int d]=.ok (.lst true ((iU s d).map wD)):=by
 have hs:=szl;have m3:=cA d (b:=3) (by decide);have m26:=cA (d / 3) (b:=26) (by decide);unfold wm Bh Ht iU;simp_arith [];unfold jD;rw[iy (fun i:Nat=>D.int (0+(i:Int))) (fun O=>∃o,O=[o,some (.int s),some (.int d)]) (fun i=>wD (lw s (d / 3%26+(i:Int)))) (bS (1+d%3).toNat) _ ⟨none,rfl⟩ (by
  rintro i hi O ⟨o,rfl⟩;have hi:=jc.mp hi;have q:=oO s (d / 3%26+(i:Int)) h0 (by omega);refine⟨[some (.int (0+(i:Int))),some (.int s),some (.int d)],rfl,⟨_,rfl⟩,?_⟩;rw[IF];simp_arith [q])]
 simp_arith [];rw[bq];rfl
theorem Kd(s d:Int)(h0:0<=s)(hd:0<=d/\d<800000000):∃l k,f7 l k/\pU [.int s,.int d]=.ok (fZ l k):=by
 have hs:=szl;have m1:=cA (d / 2) (b:=26) (by decide);have m2:=cA (d / 52) (b:=26) (by decide);have q1:jk [.int s,.int (d / 2%26)]=.ok (.str _):=oO s (d / 2%26) h0 (by omega);have q2:jk [.int s,.int (d / 52%26)]=.ok (.str _):=oO s (d / 52%26) h0 (by omega);have w1:=wz s (d / 2%26) h0 (by omega);have w2:=wz s (d / 52%26) h0 (by omega);by_cases c:d%2=1
 ·refine⟨_,_,⟨.inr w1,w2⟩,?_⟩;have g:(d%2==1)=true:=by rw[beq_iff_eq];exact c
  unfold pU zS DF fZ wD;simp_arith [g,q1,q2]
 ·refine⟨[],_,⟨.inl rfl,w2⟩,?_⟩;have g:(d%2==1)=false:=by rw[beq_eq_false_iff_ne];exact c
  unfold pU zS DF fZ wD;simp_arith [g,q2,nR]
theorem LD(x y z i:Int)(h:0<=i/\i<3):e_ [D.int x,.int y,.int z] i=some (.int (if i=0 then x else if i=1 then y else z)):=by
 obtain⟨h0,h1⟩:=h;by_cases c0:i=0
 ·rw[if_pos c0,c0];exact fG _ _
 ·rw[if_neg c0];by_cases c1:i=1
  ·rw[if_pos c1,c1];exact j_ _ _ _
  ·rw[if_neg c1,show i=2 by omega];exact at2 _ _ _ _
theorem LF(c d:Int)(hd:0<=d/\d<800000000):∃a b,uS a b/\oJ [.int c,.int d]=.ok (.tup [oD a,oD b]):=by
 have hs:=szl;have p30:dN .Pow (.int 10) (.int 30)=.ok (.int 1000000000000000000000000000000):=by kernel_rfl
 have p20:dN .Pow (.int 10) (.int 20)=.ok (.int 100000000000000000000):=by kernel_rfl
 have m3:=cA (d / 5) (b:=3) (by decide);have m5:=cA d (b:=5) (by decide);have m7:=cA (d / 15) (b:=7) (by decide);have n3:=cA (d / 105) (b:=3) (by decide);have c30:=cA c (b:=1000000000000000000000000000000) (by decide);have c20:=cA c (b:=100000000000000000000) (by decide);have a1:=LD (d%5-2) (c%1000000000000000000000000000000) (0-c%1000000000000000000000000000000) (d / 5%3) m3;have a2:=LD 0 (1+d / 15%7) (c%100000000000000000000) (d / 105%3) n3;obtain⟨lo,elo⟩:∃lo,(if d / 5%3=0 then d%5-2 else if d / 5%3=1 then c%1000000000000000000000000000000 else 0-c%1000000000000000000000000000000)=lo:=⟨_,rfl⟩;obtain⟨up,eup⟩:∃up,(if d / 105%3=0 then 0 else if d / 105%3=1 then 1+d / 15%7 else c%100000000000000000000)=up:=⟨_,rfl⟩;rw[elo]at a1;rw[eup]at a2;have hlo:-1000000000000000000000000000000<lo/\lo<1000000000000000000000000000000:=by
  rw[<-elo];split
  ·omega
  ·split<;>omega
 have hup:0<=up:=by
  rw[<-eup];split
  ·omega
  ·split<;>omega
 clear elo eup;have T:(10:Int) ^ 30=1000000000000000000000000000000:=by decide
 obtain⟨hi,ehi,hhi⟩:∃hi,(if(999999999999999999999999999999:Int)<((lo+up).natAbs:Int)then lo else lo+up)=hi/\Num hi/\lo<=hi:=by
  refine⟨_,rfl,?_⟩;unfold Num;rw[T];split
  ·exact⟨⟨by omega,by omega⟩,by omega⟩
  ·exact⟨⟨by omega,by omega⟩,by omega⟩
 have nlo:Num lo:=by unfold Num;rw[T];omega
 have e9:(1000000000000000000000000000000-1:Int)=999999999999999999999999999999:=rfl;have ab:kD .abs [.int (lo+up)]=.ok (.int ((lo+up).natAbs:Int)):=by
  rw[show((lo+up).natAbs:Int)=if lo+up<0 then -(lo+up)else lo+up by split<;>omega];rfl
 have hfin:∀h:Int,hi=h->∃a b,uS a b/\Ba (cU [] 1000 (.cons (.ifs (.cmp .Eq (.bin .Mod (.bin .FloorDiv (.var 1) (.con (.int 315))) (.con (.int 4))) (.con (.int 0)))
  (.cons (.ret (.tup (.cons (.var 2) (.cons (.con .non) .nil))))
 .nil)
  .nil)
 (.cons (.ifs (.cmp .Eq (.bin .Mod (.bin .FloorDiv (.var 1) (.con (.int 315))) (.con (.int 4))) (.con (.int 1)))
  (.cons (.ret (.tup (.cons (.con .non) (.cons (.var 3) .nil))))
 .nil)
  .nil)
 (.cons (.ret (.tup (.cons (.var 2) (.cons (.var 3) .nil))))
 .nil))) [some (.int c),some (.int d),some (.int lo),some (.int h)])=.ok (.tup [oD a,oD b]):=by
  rintro _ rfl;cases g0:(d / 315%4==0)with
  |true=>exact⟨some lo,none,nlo,by simp_arith [g0];rfl⟩
  |false=>
   cases g1:(d / 315%4==1)with
   |true=>exact⟨none,some hi,hhi.1,by simp_arith [g0,g1];rfl⟩
   |false=>exact⟨some lo,some hi,⟨nlo,hhi.1,hhi.2⟩,by simp_arith [g0,g1];rfl⟩
 by_cases cc:(999999999999999999999999999999:Int)<((lo+up).natAbs:Int)
 ·rw[if_pos cc]at ehi;obtain⟨a,b,h1,h2⟩:=hfin lo ehi.symm;refine⟨a,b,h1,?_⟩;have g:=decide_eq_true cc;rw[<-h2];unfold oJ rM wo;simp_arith [p30,p20,a1,a2,ab,e9,g]
 ·rw[if_neg cc]at ehi;obtain⟨a,b,h1,h2⟩:=hfin (lo+up) ehi.symm;refine⟨a,b,h1,?_⟩;have g:=decide_eq_false cc;rw[<-h2];unfold oJ rM wo;simp_arith [p30,p20,a1,a2,ab,e9,g]
theorem YR(x y:D)(i:Int)(h:0<=i/\i<2):e_ [x,y] i=some (if i=0 then x else y):=by
 by_cases c0:i=0
 ·rw[if_pos c0,c0];exact fG _ _
 ·rw[if_neg c0,show i=1 by omega];exact j_ _ _ _
theorem Ke(c k s:Int)(hk:0<=k/\k<=63)(h0:0<=s):∃w:Rw,w.Ok/\mw [.int c,.int k,.int s]=.ok w.val:=by
 have hs:=szl;obtain⟨d,d0,d1,qd⟩:=pY c k (by omega);obtain⟨e,e0,e1,qe⟩:=pY c (k+40) (by omega);obtain⟨f,f0,f1,qf⟩:=pY c (k+80) (by omega);have m7:=cA d (b:=7) (by decide);have m26:=cA (d / 7) (b:=26) (by decide);have qv:jk [.int s,.int (d / 7%26)]=.ok (.str _):=oO s (d / 7%26) h0 (by omega);have wv:=wz s (d / 7%26) h0 (by omega);obtain⟨l1,k1,r1,q1⟩:=Kd s e h0 ⟨e0,e1⟩;obtain⟨l2,k2,r2,q2⟩:=Kd s f h0 ⟨f0,f1⟩;have q1:pU [.int s,.int e]=.ok (.tup [.str (strOf l1),.str (strOf k1)]):=q1;have q2:pU [.int s,.int f]=.ok (.tup [.str (strOf l2),.str (strOf k2)]):=q2;by_cases c3:d%7<3
 ·have m2:=cA (d / 7) (b:=2) (by decide);have m5:=cA f (b:=5) (by decide);have n26:=cA (e / 78) (b:=26) (by decide);have qw:jk [.int s,.int (e / 78%26)]=.ok (.str _):=oO s (e / 78%26) h0 (by omega);have ww:=wz s (e / 78%26) h0 (by omega);have qs:=Om s e h0 ⟨e0,e1⟩;have hk:=HQ s e h0 e0;have g:=decide_eq_true c3;have a1:=LD 1 (1+f%5) (1+f%5) (d%7) ⟨m7.1,c3⟩;obtain⟨n,en⟩:∃n,(if d%7=0 then 1 else if d%7=1 then 1+f%5 else 1+f%5)=n:=⟨_,rfl⟩;rw[en]at a1;have hn:1<=n/\n<=5:=by
   rw[<-en];split
   ·omega
   ·split<;>omega
  obtain⟨l,hl,al⟩:∃l,(l=[]\/W l)/\e_ [D.str (strOf []),.str (strOf (lw s (e / 78%26)))] (d / 7%2)=some (.str (strOf l)):=by
   have a2:=YR (.str (strOf [])) (.str (strOf (lw s (e / 78%26)))) (d / 7%2) m2;by_cases c0:d / 7%2=0
   ·rw[if_pos c0]at a2;exact⟨_,.inl rfl,a2⟩
   ·rw[if_neg c0]at a2;exact⟨_,.inr ww,a2⟩
  refine⟨.parts n (d%7==2) l (iU s e),⟨hn,hl,hk⟩,?_⟩;have fk:=bQ (iU s e);have ok:=h_ (iU s e);show _=R.ok (D.tup [.str "parts",.int n,.bl (d%7==2),.str (strOf l),.lst true ((iU s e).map wD)]);unfold mw pQ r9;generalize(iU s e).map wD=K at qs fk ok ⊢;simp_arith [qd,qe,qf,g,qw,nR,al,a1,qs,fk,ok]
 ·have g:=decide_eq_false c3;cases g3:(d%7==3)with
  |true=>
   refine⟨.join l1 k1 _ l2 k2,⟨r1,wv,r2⟩,?_⟩;show _=R.ok (D.tup [.str "join",.tup [.str (strOf l1),.str (strOf k1)],.str (strOf _),.tup [.str (strOf l2),.str (strOf k2)]]);unfold mw pQ r9;simp_arith [qd,qe,qf,g,g3,q1,q2,qv]
  |false=>
   cases g4:(d%7==4)with
   |true=>
    obtain⟨a,b,hb,qb⟩:=LF c f ⟨f0,f1⟩;refine⟨.size l1 k1 _ a b,⟨r1,wv,hb⟩,?_⟩;have fa:=t_ a;have fb:=t_ b;have oa:aV (oD a)=true:=by cases a<;>rfl
    have ob:aV (oD b)=true:=by cases b<;>rfl
    show _=R.ok (D.tup [.str "size",.tup [.str (strOf l1),.str (strOf k1)],.str (strOf _),oD a,oD b]);unfold mw pQ r9;simp_arith [qd,qe,qf,g,g3,g4,q1,qv,qb,fa,fb,oa,ob]
   |false=>
    cases g5:(d%7==5)with
    |true=>
     have qs:=Om s f h0 ⟨f0,f1⟩;have hk:=HQ s f h0 f0;have fk:=bQ (iU s f);have ok:=h_ (iU s f);refine⟨.isa l1 k1 _,⟨r1,hk⟩,?_⟩;show _=R.ok (D.tup [.str "is",.tup [.str (strOf l1),.str (strOf k1)],.lst true ((iU s f).map wD)]);unfold mw pQ r9;generalize(iU s f).map wD=K at qs fk ok ⊢;simp_arith [qd,qe,qf,g,g3,g4,g5,q1,qs,fk,ok]
    |false=>
     refine⟨.aT _ l1 k1,⟨wv,r1⟩,?_⟩;show _=R.ok (D.tup [.str "then",.str (strOf _),.tup [.str (strOf l1),.str (strOf k1)]]);unfold mw pQ r9;simp_arith [qd,qe,qf,g,g3,g4,g5,q1,qv]
noncomputable def jn:List (List Nat)->List Nat
|[]=>[]
|[w]=>w
|w::r=>w++32::jn r
theorem sd(w x:List Nat)(r:List (List Nat)):jn (w::x::r)=w++32::jn (x::r):=rfl
theorem DL:∀ws:List (List Nat),ee (strOf [32]) (ws.map strOf)=strOf (jn ws)
|[]=>rfl
|[_]=>rfl
|w::x::r=>by
 show strOf w++strOf [32]++ee (strOf [32]) ((x::r).map strOf)=_;rw[DL (x::r),pV,pV,sd,a_];rfl
theorem zX:∀ws:List (List Nat),ee (strOf [32,111,114,32]) (ws.map strOf)=strOf (jn (bX ws))
|[]=>rfl
|[_]=>rfl
|w::x::r=>by
 show strOf w++strOf [32,111,114,32]++ee (strOf [32,111,114,32]) ((x::r).map strOf)=_;rw[zX (x::r),pV,pV];show _=strOf (jn (w::dX::bX (x::r)));obtain⟨tl,e⟩:=pW x r;rw[e,sd,sd,a_];rfl
theorem vn:∀(a:List (List Nat)) (y:List Nat) (b:List (List Nat)),a≠[]->jn a++32::jn (y::b)=jn (a++y::b)
|[],_,_,h=>absurd rfl h
|[w],y,b,_=>rfl
|w::x::r,y,b,_=>by
 have ih:=vn (x::r) y b (by simp);show(w++32::jn (x::r))++32::jn (y::b)=w++32::jn (x::(r++y::b));rw[a_,List.cons_append,ih];rfl
def fR(w:List Nat):Prop:=w≠[]/\32∉w/\10∉w/\w.length<=40
theorem sZ:∀ws:List (List Nat),(∀w∈ws,fR w)->wordsOf (jn ws)=ws
|[],_=>rfl
|[w],h=>by
 obtain⟨h1,h2,_⟩:=h w ao;have q:=yP w [] h1 h2;show wordsOf w=[w];have e:dM 32 w=[w]:=mP 32 [w] w (by simp) (by simpa using h2) (by simp[kM]);unfold wordsOf;rw[e];cases w with
 |nil=>exact absurd rfl h1
 |cons=>rfl
|w::x::r,h=>by
 obtain⟨h1,h2,_⟩:=h w ao;rw[sd,yP w _ h1 h2,sZ (x::r) fun y hy=>h y (ai _ hy)]
theorem LG:∀ws:List (List Nat),(∀w∈ws,fR w)->10∉jn ws
|[],_=>by simp[jn]
|[w],h=>(h w ao).2.2.1
|w::x::r,h=>by
 have ih:=LG (x::r) fun y hy=>h y (ai _ hy);rw[sd,aY,aF];rintro(q|q|q)
 ·exact(h w ao).2.2.1 q
 ·exact absurd q (by decide)
 ·exact ih q
theorem Oo:∀ws:List (List Nat),(∀w∈ws,fR w)->(jn ws).length<=41*ws.length
|[],_=>by simp[jn]
|[w],h=>by have:=(h w ao).2.2.2;show w.length<=41*1;omega
|w::x::r,h=>by
 have ih:=Oo (x::r) fun y hy=>h y (ai _ hy);have:=(h w ao).2.2.2;rw[sd,ak,aC,aC];omega
theorem W.ok(h:W w):fR w:=by
 unfold W isWord at h;simp only[bu,decide_eq_true_eq]at h;obtain⟨⟨⟨h1,h2⟩,h3⟩,_⟩:=h;rw[gv]at h1 h2;have h3:∀c∈w,97<=c/\c<=122:=fun c hc=>by
  have:=bF.mp h3 c hc;simpa using this
 exact⟨fun e=>by rw[e]at h1;simp at h1,fun hc=>by have:=h3 _ hc;omega,fun hc=>by have:=h3 _ hc;omega,by omega⟩
theorem Xm(h:Num n):∃m,m<10 ^ 30/\(a9 n=gy 29 m\/a9 n=45::gy 29 m):=by
 obtain⟨h1,h2⟩:=h;have T:((10 ^ 30:Nat):Int)=10 ^ 30:=by decide
 by_cases hn:0<=n
 ·obtain⟨m,rfl⟩:∃m:Nat,n=(m:Int):=⟨n.toNat,by omega⟩;have hm:m<10 ^ 30:=by omega
  exact⟨m,hm,.inl (by unfold a9;rw[HK m hm];rfl)⟩
 ·obtain⟨m,rfl,hp⟩:∃m:Nat,n=-(m:Int)/\0<m:=⟨(-n).toNat,by omega,by omega⟩;have hm:m<10 ^ 30:=by omega
  exact⟨m,hm,.inr (by unfold a9;rw[HL m hp hm];rfl)⟩
theorem iV(h:Num n):fR (a9 n):=by
 obtain⟨m,hm,e⟩:=Xm h;obtain⟨d1,d2,d3,_⟩:=zV 29 m hm;rcases e with e|e<;>rw[e]
 ·exact⟨d2,fun hc=>by have:=d1 _ hc;omega,fun hc=>by have:=d1 _ hc;omega,by omega⟩
 ·refine⟨by simp,fun hc=>?_,fun hc=>?_,by simp;omega⟩
  ·rcases aF.mp hc with q|q
   ·exact absurd q (by decide)
   ·have:=d1 _ q;omega
  ·rcases aF.mp hc with q|q
   ·exact absurd q (by decide)
   ·have:=d1 _ q;omega
theorem se(h:Num n):kD .str [.int n]=.ok (.str (strOf (a9 n))):=by
 have hs:=szl;have hl:(n_ n).length<=40:=by rw[<-DK,gv];exact(iV h).2.2.2
 have h1:n.natAbs<10 ^ 30:=by
  obtain⟨a,b⟩:=h;have:((10 ^ 30:Nat):Int)=10 ^ 30:=by decide
  omega
 have h2:n.natAbs.log2<1920:=by
  by_cases hz:n.natAbs=0
  ·rw[hz];decide
  ·exact(Nat.log2_lt hz).mpr (bP h1 (by decide +kernel))
 rw[DK];show R.bw (decide (n.natAbs.log2<1920)&&decide ((n_ n).length<=aa)) (R.ok (D.str (n_ n)))=_;rw[decide_eq_true h2,decide_eq_true (by omega)];rfl
theorem vo:∀w∈oK,fR w:=by
 unfold fR;decide +kernel
theorem sX.ok(h:sX ks):∀w∈bX ks,fR w:=by
 have hw:=h.1;have:∀ks:List (List Nat),(∀w∈ks,W w)->∀w∈bX ks,fR w:=by
  intro ks;induction ks with
  |nil=>intro _ w h;cases h
  |cons a r ih=>
   intro h w hw;cases r with
   |nil=>rw[aW.mp hw];exact(h a ao).ok
   |cons b t=>
    have hw:w∈a::dX::bX (b::t):=hw;rcases aF.mp hw with rfl|hw
    ·exact(h w ao).ok
    ·rcases aF.mp hw with rfl|hw
     ·exact vo _ (by decide)
     ·exact ih (fun x hx=>h x (ai _ hx)) w hw
 exact this ks hw
theorem f7.ok(h:f7 l k):∀w∈bf l k,fR w:=fun w hw=>(HN h w hw).ok
theorem S_{a:Option Int}(h:uS a b):∀w∈qW a b,fR w:=by
 have k:=vo;rcases a with _|a<;>rcases b with _|b
 ·exact h.elim
 ·exact Bm (k _ (by decide)) (k _ (by decide)) (iV h)
 ·exact Bm (k _ (by decide)) (k _ (by decide)) (iV h)
 ·show ∀w∈(if a=b then[iC,a9 a]else[fQ,a9 a,toL,a9 b]),fR w;split
  ·exact all2 (k _ (by decide)) (iV h.1)
  ·exact RX (k _ (by decide)) (iV h.1) (k _ (by decide)) (iV h.2.1)
theorem Oq(n:Nat):∀l:List Nat,(∀x∈l,x<=n)->l.sum<=l.length*n
|[],_=>by simp
|a::r,h=>by
 have:=Oq n r fun x hx=>h x (ai _ hx);have:=h a ao;rw[FE,aC,zq];omega
theorem Kf:∀l:List (List Nat),kC (l.map wD)=some (l.map strOf)
|[]=>rfl
|a::r=>by
 show(kC (r.map wD)).map (strOf a::·)=_;rw[Kf r];rfl
theorem s9(sep:List Nat)(ws:List (List Nat))(o:Bool)(hl:ws.length<=1000)(hw:∀w∈ws,w.length<=1000)(hp:sep.length<=10):jg .join (.str (strOf sep)) [.lst o (ws.map wD)]=.ok (.str (ee (strOf sep) (ws.map strOf))):=by
 have hs:=szl;rw[ED,Kf,Au,EC];have h1:=Oq 1000 ((ws.map strOf).map (·.length)) (fun x hx=>by
  rw[bq]at hx;obtain⟨w,h,rfl⟩:=b7.mp hx;show(strOf w).length<=_;rw[gv];exact hw w h)
 rw[ah,ah]at h1;have h2:ws.length*1000<=1000*1000:=Nat.mul_le_mul_right _ hl;have h3:ws.length*sep.length<=1000*10:=Nat.mul_le_mul hl hp;rw[decide_eq_true (by rw[ah,gv];omega)];rfl
theorem spS:aq " "=strOf [32]:=by decide +kernel
theorem Kg:aq " or "=strOf [32,111,114,32]:=by decide +kernel
theorem oQ(h:f7 l k):fY [fZ l k]=.ok (.str (strOf (jn (a8::bf l k)))):=by
 have hs:=szl;have fe:[a8,l,k].filter (fun w=>!(strOf w==strOf []))=a8::bf l k:=by
  have e0:(strOf a8==strOf [])=false:=by decide +kernel
  have e2:=h.2.ne;unfold bf;rcases h.1 with rfl|hl
  ·have e1:=beq_self_eq_true (strOf []);simp[uZ,e0,e1,e2]
  ·rw[if_neg hl.nn];simp[uZ,e0,hl.ne,e2]
 have theS:aq "the"=strOf a8:=by decide +kernel
 have q:dg (pG (.name 0)) (pT [] (.cmp .NotEq (.var 0) (.con (.str (strOf []))))) (pE [] (.var 0)) [D.str (strOf a8),.str (strOf l),.str (strOf k)] [none]=.ok ((a8::bf l k).map wD):=by
  rw[<-fe];refine lC wD (fun O=>∃o,O=[o]) (fun w=>!(strOf w==strOf [])) wD [a8,l,k] _ ⟨none,rfl⟩ ?_;rintro p _ O ⟨o,rfl⟩;refine⟨[some (wD p)],rfl,⟨_,rfl⟩,?_,?_⟩
  ·unfold wD;simp_arith []
  ·rfl
 have qj:=s9 [32] (a8::bf l k) true (by have:=iO l k;rw[aC];omega) (fun w hw=>by
  rcases aF.mp hw with rfl|hw
  ·decide
  ·have:=(h.ok w hw).2.2.2;omega) (by decide)
 rw[DL]at qj;show fY [.tup [.str (strOf l),.str (strOf k)]]=_;generalize(a8::bf l k).map wD=X at q qj;unfold fY sS yI;simp_arith [spS,nR,theS,fG,j_,q,qj]
theorem Ja{a:Option Int}(h:uS a b):f6 [oD a,oD b]=.ok (.str (strOf (jn (qW a b)))):=by
 have e1:aq "at least "=strOf [97,116,32,108,101,97,115,116,32]:=by decide +kernel
 have e2:aq "at most "=strOf [97,116,32,109,111,115,116,32]:=by decide +kernel
 have e3:aq "of "=strOf [111,102,32]:=by decide +kernel
 have e4:aq "from "=strOf [102,114,111,109,32]:=by decide +kernel
 have e5:aq " to "=strOf [32,116,111,32]:=by decide +kernel
 have C:∀(x:List Nat) (n:Int),Num n->x.length<=100->dN .Add (.str (strOf x)) (.str (strOf (a9 n)))=.ok (.str (strOf (x++a9 n))):=fun x n hn hx=>iB _ _ (by have:=(iV hn).2.2.2;omega);rcases a with _|a<;>rcases b with _|b
 ·exact h.elim
 ·have q:=se (n:=b) h;have c1:=C [97,116,32,109,111,115,116,32] b h (by decide);show f6 [.non,.int b]=.ok (.str (strOf ([97,116,32,109,111,115,116,32]++a9 b)));unfold f6 kO nt;simp_arith [e1,e2,e3,e4,e5,q,c1]
 ·have q:=se (n:=a) h;have c1:=C [97,116,32,108,101,97,115,116,32] a h (by decide);show f6 [.int a,.non]=.ok (.str (strOf ([97,116,32,108,101,97,115,116,32]++a9 a)));unfold f6 kO nt;simp_arith [e1,e2,e3,e4,e5,q,c1]
 ·obtain⟨h1,h2,h3⟩:=h;have q:=se h1;have q2:=se h2;show f6 [.int a,.int b]=.ok (.str (strOf (jn (if a=b then[iC,a9 a]else[fQ,a9 a,toL,a9 b]))));unfold f6 kO nt;by_cases e:a=b
  ·have g:(a==b)=true:=by rw[beq_iff_eq];exact e
   rw[if_pos e];have c1:=C [111,102,32] a h1 (by decide);simp_arith [g,e1,e2,e3,e4,e5,q,c1];rfl
  ·have g:(a==b)=false:=by rw[beq_eq_false_iff_ne];exact e
   rw[if_neg e];have la:=(iV h1).2.2.2;have c1:=C [102,114,111,109,32] a h1 (by decide);have c2:=iB ([102,114,111,109,32]++a9 a) [32,116,111,32] (by simp;omega);have c3:=C ([102,114,111,109,32]++a9 a++[32,116,111,32]) b h2 (by simp;omega);have e6:[102,114,111,109,32]++a9 a++[32,116,111,32]++a9 b=jn [fQ,a9 a,toL,a9 b]:=by
    rw[a_,a_];rfl
   rw[e6]at c3;generalize[102,114,111,109,32]++a9 a++[32,116,111,32]=X at c2 c3;generalize[102,114,111,109,32]++a9 a=aas at c1 c2;generalize jn [fQ,a9 a,toL,a9 b]=Z at c3 ⊢;simp_arith [g,e1,e2,e3,e4,e5,q,q2,c1,c2,c3]
theorem R0(A:List (List Nat))(h:(jn A).length<=1000):dN .Add (.str (strOf (jn A))) (.str (strOf [32]))=.ok (.str (strOf (jn A++[32]))):=iB _ _ (by simp;omega)
theorem Ot(A:List (List Nat))(y:List Nat)(B:List (List Nat))(hA:A≠[])(h:(jn A).length<=1000)(h2:(jn (y::B)).length<=1000):dN .Add (.str (strOf (jn A++[32]))) (.str (strOf (jn (y::B))))=.ok (.str (strOf (jn (A++y::B)))):=by
 rw[iB _ _ (by simp;omega),<-vn A y B hA,a_];rfl
theorem Rw.Zn{w:Rw}(h:w.Ok):(∀x∈w.words,fR x)/\w.words.length<=12:=by
 have k:=vo;have app:∀{a b:List (List Nat)},(∀x∈a,fR x)->(∀x∈b,fR x)->∀x∈a++b,fR x:=fun ha hb x hx=>by
  rcases aY.mp hx with hx|hx
  ·exact ha x hx
  ·exact hb x hx
 have cns:∀{a:List Nat}{b:List (List Nat)},fR a->(∀x∈b,fR x)->∀x∈a::b,fR x:=fun ha hb x hx=>by
  rcases aF.mp hx with rfl|hx
  ·exact ha
  ·exact hb x hx
 cases w with
 |parts n c l ks=>
  obtain⟨h1,h2,h3⟩:=h;have hl:=vm h3;refine⟨app ?_ (app ?_ h3.ok),?_⟩
  ·unfold i9;split
   ·exact all2 (k _ (by decide)) (iV (Bo h1))
   ·split
    ·exact cns (k _ (by decide)) (by simp)
    ·exact Bm (k _ (by decide)) (k _ (by decide)) (iV (Bo h1))
  ·unfold ku;rcases h2 with rfl|h2
   ·simp
   ·rw[if_neg h2.nn];exact cns h2.ok (by simp)
  ·show(i9 n c++(ku l++bX ks)).length<=12;have a1:(i9 n c).length<=3:=by
    unfold i9;split
    ·simp
    ·split<;>simp
   have a2:(ku l).length<=1:=by unfold ku;split<;>simp
   rw[ak,ak];omega
 |join l x v l2 x2=>
  obtain⟨h1,h2,h3⟩:=h;refine⟨cns (k _ (by decide)) (app h1.ok (cns h2.ok (cns (k _ (by decide)) h3.ok))),?_⟩;have a1:=iO l x;have a2:=iO l2 x2;show(a8::(bf l x++v::a8::bf l2 x2)).length<=12;simp only[aC,ak];omega
 |size l x v a b=>
  obtain⟨h1,h2,h3⟩:=h;refine⟨cns (k _ (by decide)) (app h1.ok (cns h2.ok (S_ h3))),?_⟩;have a1:=iO l x;have a2:(qW a b).length<=4:=by
   rcases a with _|a<;>rcases b with _|b
   ·exact h3.elim
   ·exact jV 3
   ·exact jV 3
   ·show(if a=b then[iC,a9 a]else[fQ,a9 a,toL,a9 b]).length<=4;split<;>simp
  show(a8::(bf l x++v::qW a b)).length<=12;simp only[aC,ak];omega
 |isa l x ks=>
  obtain⟨h1,h2⟩:=h;refine⟨cns (k _ (by decide)) (app h1.ok (cns (k _ (by decide)) (cns (k _ (by decide)) h2.ok))),?_⟩;have a1:=iO l x;have a2:=vm h2;show(a8::(bf l x++dY::aL::bX ks)).length<=12;simp only[aC,ak];omega
 |aT v l x=>
  obtain⟨h1,h2⟩:=h;refine⟨cns (k _ (by decide)) (cns h1.ok (cns (k _ (by decide)) h2.ok)),?_⟩;have a1:=iO l x;show(dZ::v::a8::bf l x).length<=12;simp only[aC];omega
theorem jJ(h:∀w∈ws,fR w)(hl:ws.length<=12):(jn ws).length<=1000:=by
 have:=Oo ws h;omega
variable{a:List Nat}
theorem jK{b:List (List Nat)}(ha:fR a)(hb:∀x∈b,fR x):∀x∈a::b,fR x:=fun x hx=>by
 rcases aF.mp hx with rfl|hx
 ·exact ha
 ·exact hb x hx
theorem Ou{a b:List (List Nat)}(ha:∀x∈a,fR x)(hb:∀x∈b,fR x):∀x∈a++b,fR x:=fun x hx=>by
 rcases aY.mp hx with hx|hx
 ·exact ha x hx
 ·exact hb x hx
theorem kw(w:List Nat)(h:w∈oK:=by decide):fR w:=vo w h
theorem ne_str:(aq "join"==aq "parts")=false/\(aq "size"==aq "parts")=false/\(aq "size"==aq "join")=false/\(aq "is"==aq "parts")=false/\(aq "is"==aq "join")=false/\(aq "is"==aq "size")=false/\(aq "then"==aq "parts")=false/\(aq "then"==aq "join")=false/\(aq "then"==aq "size")=false/\(aq "then"==aq "is")=false:=by decide +kernel
variable{y:List Nat}
theorem Xn{B:List (List Nat)}(h:f7 l k)(hv:W v)(hB:∀w∈y::B,fR w)(hl:(y::B).length<=6) :
  ∃x2 x3 x4,dN .Add (.str (strOf (jn (a8::bf l k)))) (.str (strOf [32]))=.ok (.str x2)/\dN .Add (.str x2) (.str (strOf v))=.ok (.str x3)/\dN .Add (.str x3) (.str (strOf [32]))=.ok (.str x4)/\dN .Add (.str x4) (.str (strOf (jn (y::B))))=.ok (.str (strOf (jn (a8::(bf l k++v::y::B))))):=by
 have a1:=iO l k;have o1:=jK (kw a8) h.ok;have o2:∀w∈[v],fR w:=jK hv.ok (by simp);have o3:=Ou o1 o2;have l1:=jJ o1 (by rw[aC];omega);have l3:=jJ o3 (by simp only[ak,aC,fU];omega);refine⟨_,_,_,R0 _ l1,Ot _ v [] (by simp) l1 (jJ o2 (by simp)),R0 _ l3,?_⟩;have q:=Ot (a8::bf l k++[v]) y B (by simp) l3 (jJ hB (by omega));rw[a_]at q;exact q
theorem R1(h:f7 l k)(hv:W v)(h2:f7 l2 k2):dU [.tup [.str "join",fZ l k,wD v,fZ l2 k2]]=.ok (.str (strOf (jn (a8::(bf l k++v::a8::bf l2 k2))))):=by
 obtain⟨n1,_⟩:=ne_str;obtain⟨x2,x3,x4,b1,b2,b3,b4⟩:=Xn (y:=a8) h hv (jK (kw a8) h2.ok) (by have:=iO l2 k2;rw[aC];omega);have q1:fY [.tup [.str (strOf l),.str (strOf k)]]=_:=oQ h;have q2:fY [.tup [.str (strOf l2),.str (strOf k2)]]=_:=oQ h2;show dU [.tup [.str "join",.tup [.str (strOf l),.str (strOf k)],.str (strOf v),.tup [.str (strOf l2),.str (strOf k2)]]]=_;generalize strOf (jn (a8::bf l k))=x1 at b1 q1;generalize strOf (jn (a8::bf l2 k2))=y1 at b4 q2;generalize strOf (jn (a8::(bf l k++v::a8::bf l2 k2)))=z at b4 ⊢;unfold dU nK kH;simp_arith [fG,j_,at2,J8,n1,q1,q2,spS,b1,b2,b3,b4]
theorem Vh{a:Option Int}(h:uS a b):∃y B,qW a b=y::B/\(y::B).length<=6:=by
 rcases a with _|a<;>rcases b with _|b
 ·exact h.elim
 ·exact⟨_,_,rfl,by simp⟩
 ·exact⟨_,_,rfl,by simp⟩
 ·by_cases e:a=b
  ·exact⟨iC,[a9 a],by show(if a=b then _ else _)=_;rw[if_pos e],by simp⟩
  ·exact⟨fQ,[a9 a,toL,a9 b],by show(if a=b then _ else _)=_;rw[if_neg e],by simp⟩
theorem R3{a:Option Int}(h:f7 l k)(hv:W v)(h2:uS a b):dU [.tup [.str "size",fZ l k,wD v,oD a,oD b]]=.ok (.str (strOf (jn (a8::(bf l k++v::qW a b))))):=by
 obtain⟨_,n1,n2,_⟩:=ne_str;obtain⟨y,B,e,hB⟩:=Vh h2;have o:=S_ h2;have q2:=Ja h2;rw[e]at o q2 ⊢;obtain⟨x2,x3,x4,b1,b2,b3,b4⟩:=Xn h hv o hB;have q1:fY [.tup [.str (strOf l),.str (strOf k)]]=_:=oQ h;have fa:=t_ a;have fb:=t_ b;show dU [.tup [.str "size",.tup [.str (strOf l),.str (strOf k)],.str (strOf v),oD a,oD b]]=_;generalize strOf (jn (a8::bf l k))=x1 at b1 q1;generalize strOf (jn (y::B))=y1 at b4 q2;generalize strOf (jn (a8::(bf l k++v::y::B)))=z at b4 ⊢;unfold dU nK kH;simp_arith [fG,j_,at2,J8,Oc,fa,fb,n1,n2,q1,q2,spS,b1,b2,b3,b4]
theorem R4(hv:W v)(h:f7 l k):dU [.tup [.str "then",wD v,fZ l k]]=.ok (.str (strOf (jn (dZ::v::a8::bf l k)))):=by
 obtain⟨_,_,_,_,_,_,n1,n2,n3,n4⟩:=ne_str;have q1:fY [.tup [.str (strOf l),.str (strOf k)]]=_:=oQ h;have e1:aq "then "=strOf (jn [dZ]++[32]):=by decide +kernel
 have a1:=iO l k;have o2:∀w∈[v],fR w:=jK hv.ok (by simp);have o3:∀w∈[dZ,v],fR w:=jK (kw dZ) o2;have l3:=jJ o3 (by simp);have b1:dN .Add (.str (strOf (jn [dZ]++[32]))) (.str (strOf v))=_:=Ot [dZ] v [] (by simp) (by decide) (jJ o2 (by simp));have b2:=R0 _ l3;have b3:=Ot [dZ,v] a8 (bf l k) (by simp) l3 (jJ (jK (kw a8) h.ok) (by rw[aC];omega));show dU [.tup [.str "then",.str (strOf v),.tup [.str (strOf l),.str (strOf k)]]]=.ok (.str (strOf (jn ([dZ,v]++a8::bf l k))));generalize strOf (jn [dZ]++[32])=x0 at e1 b1;change dN .Add (.str x0) (.str (strOf v))=.ok (.str (strOf (jn [dZ,v])))at b1;generalize strOf (jn (a8::bf l k))=x1 at b3 q1;generalize strOf (jn ([dZ,v]++a8::bf l k))=z at b3 ⊢;generalize strOf (jn [dZ,v]++[32])=x2 at b2 b3;generalize strOf (jn [dZ,v])=x3 at b1 b2;unfold dU nK kH;simp_arith [fG,j_,at2,n1,n2,n3,n4,e1,q1,spS,b1,b2,b3]
theorem Cr(h:sX ks):jg .join (.str (strOf [32,111,114,32])) [.lst false (ks.map wD)]=.ok (.str (strOf (jn (bX ks)))):=by
 rw[s9 _ ks false (by have:=h.2.1.2;omega) (fun w hw=>by have:=(h.1 w hw).ok.2.2.2;omega) (by decide),zX]
theorem R5(h:f7 l k)(hk:sX ks):dU [.tup [.str "is",fZ l k,.lst false (ks.map wD)]]=.ok (.str (strOf (jn (a8::(bf l k++dY::aL::bX ks))))):=by
 obtain⟨_,_,_,n1,n2,n3,_⟩:=ne_str;have q1:fY [.tup [.str (strOf l),.str (strOf k)]]=_:=oQ h;have q2:=Cr hk;have e1:aq " is a "=strOf [32,105,115,32,97,32]:=by decide +kernel
 have a1:=iO l k;have o1:=jK (kw a8) h.ok;have o2:=Ou o1 (jK (kw dY) (jK (kw aL) (by simp:∀w∈[],fR w)));have l1:=jJ o1 (by rw[aC];omega);have l2:=jJ o2 (by simp only[ak,aC,fU];omega);have b1:dN .Add (.str (strOf (jn (a8::bf l k)))) (.str (strOf [32,105,115,32,97,32]))=.ok (.str (strOf (jn (a8::bf l k++[dY,aL])++[32]))):=by
  rw[iB _ _ (by simp;omega),<-vn (a8::bf l k) dY [aL] (by simp),a_];rfl
 have b2:dN .Add (.str (strOf (jn (a8::bf l k++[dY,aL])++[32]))) (.str (strOf (jn (bX ks))))=.ok (.str (strOf (jn (a8::(bf l k++dY::aL::bX ks))))):=by
  have ok:=hk.ok;have ol:=vm hk;obtain⟨y,B,e⟩:∃y B,bX ks=y::B:=by
   cases ks with
   |nil=>exact absurd hk.2.1.1 (by decide)
   |cons a r=>obtain⟨tl,e⟩:=pW a r;exact⟨_,_,e⟩
  rw[e]at ok ol ⊢;have q:=Ot (a8::bf l k++[dY,aL]) y B (by simp) l2 (jJ ok (by omega));rw[a_]at q;exact q
 have fk:=bQ ks;show dU [.tup [.str "is",.tup [.str (strOf l),.str (strOf k)],.lst false (ks.map wD)]]=_;generalize strOf (jn (a8::(bf l k++dY::aL::bX ks)))=z at b2 ⊢;generalize strOf (jn (a8::bf l k++[dY,aL])++[32])=x2 at b1 b2;generalize strOf (jn (a8::bf l k))=x1 at b1 q1;generalize strOf (jn (bX ks))=y1 at b2 q2;generalize ks.map wD=K at q2 fk ⊢;unfold dU nK kH;simp_arith [fG,j_,at2,fk,n1,n2,n3,q1,e1,b1,Kg,q2,b2]
theorem pZ{p:α->Prop}{a:α}{b:List α}(ha:p a)(hb:∀x∈b,p x):∀x∈a::b,p x:=fun x hx=>by
 rcases aF.mp hx with rfl|hx
 ·exact ha
 ·exact hb x hx
theorem R6{c:Bool}(hn:1<=n/\n<=5)(hl:l=[]\/W l)(hk:sX ks):dU [.tup [.str "parts",.int n,.bl c,wD l,.lst false (ks.map wD)]]=.ok (.str (strOf (jn (i9 n c++(ku l++bX ks))))):=by
 have hs:=szl;have q2:=Cr hk;have fk:=bQ ks;have qn:=se (Bo hn);have nl:=(iV (Bo hn)).2.2.2;have e1:aq "at least "=strOf [97,116,32,108,101,97,115,116,32]:=by decide +kernel
 have e2:aq "a"=strOf aL:=by decide +kernel
 have e3:aq "just "=strOf [106,117,115,116,32]:=by decide +kernel
 have e0:(aq "parts"==aq "parts")=true:=by decide +kernel
 have b1:dN .Add (.str (strOf [97,116,32,108,101,97,115,116,32])) (.str (strOf (a9 n)))=.ok (.str (strOf (jn [eS,dQ,a9 n]))):=iB _ _ (by simp;omega);have b2:dN .Add (.str (strOf [106,117,115,116,32])) (.str (strOf (a9 n)))=.ok (.str (strOf (jn [jI,a9 n]))):=iB _ _ (by simp;omega);have oh:(∀w∈i9 n c,fR w)/\∃a r,i9 n c=a::r/\r.length<=2:=by
  unfold i9;split
  ·exact⟨all2 (kw jI) (iV (Bo hn)),_,_,rfl,by simp⟩
  ·split
   ·exact⟨jK (kw aL) (by simp),_,_,rfl,by simp⟩
   ·exact⟨Bm (kw eS) (kw dQ) (iV (Bo hn)),_,_,rfl,by simp⟩
 obtain⟨oh,ha,hr,eh,hlr⟩:=oh;have hH:jn (i9 n c)≠[]:=by
  intro z;have:=sZ _ oh;rw[z,eh]at this;cases this
 obtain⟨y,B,ek⟩:∃y B,bX ks=y::B:=by
  cases ks with
  |nil=>exact absurd hk.2.1.1 (by decide)
  |cons a r=>obtain⟨tl,e⟩:=pW a r;exact⟨_,_,e⟩
 have hK:jn (bX ks)≠[]:=by
  intro z;have:=sZ _ hk.ok;rw[z,ek]at this;cases this
 have ne:∀{w:List Nat},w≠[]->(strOf w==strOf [])=false:=fun h=>by rw[lN,decide_eq_false h]
 have fe:[jn (i9 n c),l,jn (bX ks)].filter (fun w=>!(strOf w==strOf []))=jn (i9 n c)::(ku l++[jn (bX ks)]):=by
  unfold ku;rcases hl with rfl|hl
  ·have e1:=beq_self_eq_true (strOf []);simp[uZ,ne hH,ne hK,e1]
  ·rw[if_neg hl.nn];simp[uZ,ne hH,ne hK,hl.ne]
 have lH:=jJ oh (by rw[eh,aC];omega);have lK:=jJ hk.ok (by have:=vm hk;omega);have ej:jn (jn (i9 n c)::(ku l++[jn (bX ks)]))=jn (i9 n c++(ku l++bX ks)):=by
  have hne:i9 n c≠[]:=by rw[eh];simp
  unfold ku;rw[ek];rcases hl with rfl|hl
  ·rw[if_pos rfl];exact vn (i9 n c) y B hne
  ·rw[if_neg hl.nn];show jn (i9 n c)++32::(l++32::jn (y::B))=_;exact vn (i9 n c) l (y::B) hne
 have q:dg (pG (.name 0)) (pT kH (.cmp .NotEq (.var 0) (.con (.str (strOf []))))) (pE kH (.var 0)) [D.str (strOf (jn (i9 n c))),.str (strOf l),.str (strOf (jn (bX ks)))] [none]=.ok ((jn (i9 n c)::(ku l++[jn (bX ks)])).map wD):=by
  rw[<-fe];refine lC wD (fun O=>∃o,O=[o]) (fun w=>!(strOf w==strOf [])) wD [jn (i9 n c),l,jn (bX ks)] _ ⟨none,rfl⟩ ?_;rintro p _ O ⟨o,rfl⟩;refine⟨[some (wD p)],rfl,⟨_,rfl⟩,?_,?_⟩
  ·unfold wD;simp_arith []
  ·rfl
 have ll:l.length<=40:=by
  rcases hl with rfl|hl
  ·simp
  ·exact hl.ok.2.2.2
 have qj:=s9 [32] (jn (i9 n c)::(ku l++[jn (bX ks)])) true (by unfold ku;split<;>simp) (pZ lH (by
  unfold ku;split
  ·exact pZ lK (by simp)
  ·exact pZ (by omega) (pZ lK (by simp)))) (by decide)
 rw[DL,ej]at qj;unfold kH at q;show dU [.tup [.str "parts",.int n,.bl c,.str (strOf l),.lst false (ks.map wD)]]=_;generalize strOf (jn (i9 n c++(ku l++bX ks)))=z at qj ⊢;generalize(jn (i9 n c)::(ku l++[jn (bX ks)])).map wD=X at q qj;generalize strOf (jn (bX ks))=y1 at q q2;generalize ks.map wD=K at q2 fk ⊢;unfold dU nK kH;unfold i9 at q;cases c with
 |true=>
  rw[if_pos rfl]at q;generalize strOf (jn [jI,a9 n])=x1 at b2 q;cases g:(n==1)with
  |true=>simp_arith [fG,j_,at2,J8,Oc,e0,e1,e2,e3,qn,b1,b2,g,fk,Kg,q2,nR,q,spS,qj]
  |false=>simp_arith [fG,j_,at2,J8,Oc,e0,e1,e2,e3,qn,b1,b2,g,fk,Kg,q2,nR,q,spS,qj]
 |false=>
  rw[if_neg (by decide)]at q;by_cases g:n=1
  ·rw[if_pos g]at q;have g:(n==1)=true:=by rw[beq_iff_eq];exact g
   have q:dg _ _ _ [D.str (strOf aL),_,_] _=_:=q;simp_arith [fG,j_,at2,J8,Oc,e0,e1,e2,e3,qn,b1,b2,g,fk,Kg,q2,nR,q,spS,qj]
  ·rw[if_neg g]at q;have g:(n==1)=false:=by rw[beq_eq_false_iff_ne];exact g
   generalize strOf (jn [eS,dQ,a9 n])=x1 at b1 q;simp_arith [fG,j_,at2,J8,Oc,e0,e1,e2,e3,qn,b1,b2,g,fk,Kg,q2,nR,q,spS,qj]
theorem Ov(w:Rw)(h:w.Ok):dU [bz w.val]=.ok (.str (strOf (jn w.words))):=by
 cases w with
 |parts n c l ks=>
  have q:=R6 (c:=c) h.1 h.2.1 h.2.2;rw[<-bQ ks]at q;exact q
 |join l k v l2 k2=>exact R1 h.1 h.2.1 h.2.2
 |size l k v a b=>
  have q:=R3 h.1 h.2.1 h.2.2;show dU [.tup [.str "size",fZ l k,wD v,bz (oD a),bz (oD b)]]=_;rw[t_ a,t_ b];exact q
 |isa l k ks=>
  have q:=R5 h.1 h.2;rw[<-bQ ks]at q;exact q
 |aT v l k=>exact R4 h.1 h.2
section
variable{g:D->br->R br}{b:br->Fl}{d:D}{r:List D}{O σ2 σ3:br} (h1:g d O=.ok σ2)
include h1
theorem lQ(h2:b σ2=.nx σ3):forR g b (d::r) O=forR g b r σ3:=by
 show(g d O).aT _=_;rw[h1];simp only[R.aT,h2]
end
noncomputable def gP(ns:List Int):List (List Nat):=if ns=[]then[]else gZ::bX (ns.map a9)
def rising:List Int->Prop
|a::b::r=>a<b/\rising (b::r)
|_=>True
structure p5 (ns:List Int) (above:Int):Prop where
 l:ns.length<=4
 r:rising ns
 b:∀n∈ns,1<=n/\n<=above
theorem Zo:aq "on"=strOf gZ:=by decide +kernel
theorem ch4(a b c d:List Nat):d9 [a6 [a,dX,b,dX,c,dX,d]]=.ok (.lst true [wD a,wD b,wD c,wD d]):=by kernel_rfl
theorem LH(ks:List (List Nat))(h:1<=ks.length/\ks.length<=4):d9 [a6 (bX ks)]=.ok (.lst true (ks.map wD)):=by
 rcases ks with _|⟨a,_|⟨b,_|⟨c,_|⟨d,_|⟨e,r⟩⟩⟩⟩⟩
 ·exact absurd h.1 (by decide)
 ·exact S6 a
 ·exact Xe a b
 ·exact Zm a b c
 ·exact ch4 a b c d
 ·exact absurd h.2 (by simp only[aC];omega)
theorem R7(ns:List Int)(h:∀n∈ns,Num n):dg (pG (.name 0)) (fun _=>.ok true) (pE dP (.call 0 (.cons (.var 0) .nil))) (ns.map fun n=>wD (a9 n)) [none]=.ok (ns.map D.int):=by
 refine iy (fun n=>wD (a9 n)) (fun O=>∃o,O=[o]) D.int ns _ ⟨none,rfl⟩ ?_;rintro n hn O ⟨o,rfl⟩;refine⟨[some (wD (a9 n))],rfl,⟨_,rfl⟩,?_⟩;have q:cN [.str (strOf (a9 n))]=.ok (.int n):=wu (h n hn);unfold dP wD;simp_arith [q]
theorem HR(s0 s1 s2:Option D):∀(a:Int) (r:List Int) (h:rising (a::r)) (s3 s4:Option D),∃t3 t4,forR (pG (.tup (.cons (.name 3) (.cons (.name 4) .nil)))) (cU dP 1000 lF) (uJ ((a::r).map D.int) (r.map D.int)) [s0,s1,s2,s3,s4]=.nx [s0,s1,s2,t3,t4]
|a,[],h,s3,s4=>⟨s3,s4,rfl⟩
|a,b::r,h,s3,s4=>by
 obtain⟨t3,t4,ih⟩:=HR s0 s1 s2 b r h.2 (some (.int a)) (some (.int b));refine⟨t3,t4,?_⟩;have l1:decide (b<=a)=false:=decide_eq_false (by have:=h.1;omega);show forR _ _ (.tup [.int a,.int b]::uJ ((b::r).map D.int) (r.map D.int)) _=_;rw[lQ (σ3:=[s0,s1,s2,some (.int a),some (.int b)]) rfl (by
  unfold lF dP;simp_arith [l1])]
 exact ih
theorem Xo(ns:List Int):memD .non (ns.map D.int)=false:=by
 unfold memD;rw[zy,j0];intro n _ h;cases h
theorem sf(n:Nat):∀l:List D,(∀d∈l,mK d n=true)->fP l n=true
|[],_=>rfl
|d::r,h=>by
 show(mK d n&&fP r n)=true;rw[h d ao,sf n r fun x hx=>h x (ai _ hx)];rfl
theorem HS{o:Bool}{l:List D}(h:∀d∈l,mK d 11=true):cX (.lst o l)=true:=sf 11 l h
theorem vp(a:List Nat)(r:List (List Nat)):bK .Eq (a6 (a::r)) (.lst true [])=.ok (.bl false):=by
 rw[pP (show cX (a6 (a::r))=true from HS fun d hd=>by obtain⟨i,_,rfl⟩:=b7.mp hd;rfl) rfl];rfl
variable{ns:List Int}{ab:Int}
theorem yU(h:p5 ns ab)(ha:ab<=12):∀n∈ns,Num n:=fun n hn=>by
 have:=h.b n hn;have:(12:Int)<10 ^ 30:=by decide
 exact⟨by omega,by omega⟩
theorem Vi(h:p5 ns ab)(ha:ab<=12):∃o,dj [a6 (gP ns)]=.ok (.lst o (ns.map D.int)):=by
 have hs:=szl;cases ns with
 |nil=>exact⟨true,by kernel_rfl⟩
 |cons a r=>
  refine⟨false,?_⟩;have hn:=yU h ha;have fi:=gU (a::r);have fr':=gU r;have nr:=vp gZ (bX ((a::r).map a9));have fw:=bQ (bX ((a::r).map a9));have qc:=LH ((a::r).map a9) (by have:=h.l;rw[ah];exact⟨by simp,this⟩);have q:=R7 (a::r) hn;have fm:aB (((a::r).map a9).map wD)=((a::r).map a9).map wD:=bQ _;have q:dg (pG (.name 0)) (fun _=>.ok true) (pE dP (.call 0 (.cons (.var 0) .nil))) (((a::r).map a9).map wD) [none]=.ok ((a::r).map D.int):=by rw[bq];exact q
  have mo:bK .In .non (.lst false ((a::r).map D.int))=.ok (.bl false):=by
   rw[G8 rfl (sf 12 _ fun d hd=>by obtain⟨i,_,rfl⟩:=b7.mp hd;rfl),Xo]
  have l0:decide (a<0)=false:=decide_eq_false (by have:=h.b a ao;omega);have i0:e_ ((a::r).map D.int) 0=some (.int a):=fG _ _;have c2:cut ((a::r).map D.int) (some 1) none=r.map D.int:=cM _ 1 (by simp);have c1:cut (D.str (strOf gZ)::(bX ((a::r).map a9)).map wD) (some 1) none=(bX ((a::r).map a9)).map wD:=cM _ 1 (by simp);have oi:=r_ (a::r);have ow:=h_ ((a::r).map a9);have zl:=fun s0 s1 s2=>HR s0 s1 s2 a r h.r none none;have qc:d9 [.lst false ((bX ((a::r).map a9)).map wD)]=_:=qc;have nr:bK .Eq (.lst false (.str (strOf gZ)::(bX ((a::r).map a9)).map wD)) (.lst true [])=.ok (.bl false):=nr;show dj [.lst false (.str (strOf gZ)::(bX ((a::r).map a9)).map wD)]=_;generalize(bX ((a::r).map a9)).map wD=W1 at *;generalize((a::r).map a9).map wD=W2 at *;generalize(a::r).map D.int=W3 at *;generalize r.map D.int=W4 at *;unfold dj k8;unfold dP at q zl ⊢;simp_arith [nr,fw,fG,Zo,c1,qc,fm,ow,q,fi,mo,i0,l0,c2,fr',oi];obtain⟨t3,t4,zl⟩:=zl _ _ _;rw[zl];simp_arith []
theorem Ct(row ab:Int)(w t:Option D):∀(ns:List Int) (h:∀n∈ns,1<=n/\n<=ab) (x:Option D),∃y,forR (pG (.name 4)) (cU oG 1000 qL) (ns.map D.int) [w,some (.int row),some (.int ab),t,x]=.nx [w,some (.int row),some (.int ab),t,y]
|[],_,x=>⟨x,rfl⟩
|n::r,h,x=>by
 obtain⟨y,q⟩:=Ct row ab w t r (fun m hm=>h m (ai _ hm)) (some (.int n));refine⟨y,?_⟩;have g1:=decide_eq_true (h n ao).1;have g2:=decide_eq_true (h n ao).2;rw[cR,lQ (σ3:=[w,some (.int row),some (.int ab),t,some (.int n)]) rfl (by
  unfold qL oG;simp_arith [g1,g2]),q]
theorem Vj(h:p5 ns ab)(ha:ab<=12)(row:Int):jF [a6 (aX::gP ns),.int row,.int ab]=.ok (.lst false (ns.map D.int)):=by
 have fr:=bQ (gP ns);have fi:=gU ns;obtain⟨o,q⟩:=Vi h ha;have q:dj [.lst false ((gP ns).map wD)]=_:=q;have c1:cut (D.str (strOf aX)::(gP ns).map wD) (some 1) none=(gP ns).map wD:=cM _ 1 (by simp);show jF [.lst false (.str (strOf aX)::(gP ns).map wD),.int row,.int ab]=_;generalize(gP ns).map wD=T at fr q c1 ⊢;have hl:=fun w t=>Ct row ab w t ns h.b none;unfold jF rK;unfold oG at hl ⊢;have ho:=r_ ns;have key:∀b,iw [0] b [some (.lst false (.str (strOf aX)::T)),some (.int row),some (.int ab),none,none]=[some (.lst false (.str (strOf aX)::T)),some (.int row),some (.int ab),none,none]:=fun b=>by
  cases b with
  |true=>rfl
  |false=>simp_arith [fr]
 simp_arith [fr,c1,q,fi,ho,key];obtain⟨y,hl⟩:=hl (some (.lst false (.str (strOf aX)::T))) (some (.lst false (ns.map D.int)));rw[hl];simp_arith []
theorem Xp(w:Rw):gf (bz w.val)=false:=by cases w<;>rfl
theorem Cu(w:Rw):aV w.val=true:=by
 cases w with
 |parts n c l ks=>show(cE (ks.map wD)&&true)=true;rw[h_];rfl
 |isa l k ks=>show(cE (ks.map wD)&&true)=true;rw[h_];rfl
 |size l k v a b=>rcases a with _|a<;>rcases b with _|b<;>rfl
 |_=>rfl
theorem Tc(ks:List (List Nat))(n:Nat):fP (ks.map wD) n=true:=sf _ _ fun d hd=>by obtain⟨i,_,rfl⟩:=b7.mp hd;rfl
theorem Xq(w:Rw):mK (bz w.val) 9=true:=by
 cases w with
 |parts n c l ks=>show(fP (aB (ks.map wD)) 7&&true)=true;rw[bQ,Tc];rfl
 |isa l k ks=>show(fP (aB (ks.map wD)) 7&&true)=true;rw[bQ,Tc];rfl
 |size l k v a b=>rcases a with _|a<;>rcases b with _|b<;>rfl
 |_=>rfl
theorem R8{w:Rw}(h:w.Ok)(row ab:Int)(ha:ab<12):pR [a6 w.words,.int row,.int ab]=.ok w.val:=by
 have q:=YQ w h;have fr:=qD w.words;have hn:=Xp w;have ho:=Cu w;have g:=decide_eq_false (show ¬(12:Int)<=ab by omega);unfold pR we Bj;generalize a6 w.words=d at q fr ⊢;generalize w.val=v at q hn ho ⊢;simp_arith [q,fr,hn,ho,g]
noncomputable abbrev Cl:=List Int×List Rw
noncomputable def cD(p:Cl):D:=.tup [.lst false (p.1.map D.int),.lst true (p.2.map Rw.val)]
noncomputable def cF(p:Cl):D:=.tup [.lst false (p.1.map D.int),.lst false (aB (p.2.map Rw.val))]
theorem wA:∀C:List Cl,aB (C.map cD)=C.map cF
|[]=>rfl
|p::r=>by
 show bz (cD p)::aB (r.map cD)=_;rw[wA r];show D.tup [.lst false (aB (p.1.map D.int)),.lst false (aB (p.2.map Rw.val))]::_=_;rw[gU];rfl
theorem frzs_map':∀l:List D,aB l=l.map bz
|[]=>rfl
|d::r=>by
 show bz d::aB r=_;rw[frzs_map' r];rfl
theorem Td(C:List Cl)(hn:C≠[]):bK .Eq (.lst false (C.map cF)) (.lst true [])=.ok (.bl false):=by
 rw[pP (HS (l:=C.map cF) fun d hd=>by
  obtain⟨p,hp,rfl⟩:=b7.mp hd;show(fP (p.1.map D.int) 9&&(fP (aB (p.2.map Rw.val)) 9&&true))=true;rw[sf _ _ (fun d hd=>by obtain⟨i,_,rfl⟩:=b7.mp hd;rfl),sf _ _ (fun d hd=>by
   rw[frzs_map',bq]at hd;obtain⟨w,_,rfl⟩:=b7.mp hd;exact Xq w)]
  rfl) rfl]
 cases C with
 |nil=>exact absurd rfl hn
 |cons=>rfl
theorem yV(a:List Nat)(r:List (List Nat)):u_ (a6 (a::r)) (.int 0)=.ok (.str (strOf a)):=by
 show(R.opt (e_ ((a::r).map wD) 0)).bind _=_;rw[show e_ ((a::r).map wD) 0=some (wD a)from jy (j:=0) rfl];rfl
theorem vq:aq "claim"=strOf aX:=by decide +kernel
noncomputable abbrev qG(tx:Option D)(C:List Cl)(k:Int)(ws:List (List Nat))(tk:Option D):br:=[tx,some (.lst true (C.map cD)),some (.int k),some (a6 ws),tk,none]
noncomputable abbrev lq:br->Fl:=cU eU 1000 f_
theorem HU(tx tk:Option D)(C:List Cl)(hl:C.length<12)(k:Int)(h:p5 ns (C.length:Int)):lq (qG tx C k (aX::gP ns) tk)=.nx (qG tx (C++[(ns,[])]) k (aX::gP ns) (some (.lst false (ns.map D.int)))):=by
 have hs:=szl;have nr:=vp aX (gP ns);have fr:=qD (aX::gP ns);have h0:=yV aX (gP ns);have q:=Vj h (by omega) k;have fi:=gU ns;have fc:=wA C;have cl:(C.map cD).length=C.length:=ah _;have cf:(C.map cF).length=C.length:=ah _;have eb:=beq_self_eq_true (strOf aX);have ea:C.map cD++[.tup [.lst false (ns.map D.int),.lst true []]]=(C++[(ns,[])]).map cD:=by rw[bR];rfl
 have g:=decide_eq_false (show ¬(12:Int)<=(C.length:Int)by omega);unfold lq f_ eU qG;rw[<-ea];generalize a6 (aX::gP ns)=d at nr fr h0 q ⊢;generalize C.map cD=X at fc cl ⊢;generalize C.map cF=aas at fc cf ⊢;simp_arith [nr,fr,h0,vq,eb,fc,cf,q,fi,g];rw[nO (xs:=X) rfl (by omega) rfl];simp_arith [fi]
variable{Y:List PG}{O:br}
theorem Ow{n:Nat}{s t:CS}{r:cC}:cU Y n (.two s t r) O=nH (v9 Y s t O) (cU Y n r):=by
 show(match v9 Y s t O with|.nx σ'=>cU Y n r σ'|x=>x)=_;unfold nH;cases v9 Y s t O<;>rfl
variable{is:List Int}{o:CE}
theorem Ox{j k:Nat}{a:CE}(h:sP O o=some (k,is)):v9 Y (.asg (.name j) o) (.expr (.mth .append (.var j) (.cons a .nil))) O=DA Y k is j a O:=by
 show(if j=j then(match sP O o with|some p=>DA Y p.1 p.2 j a O|none=>.bad)else .bad)=_;rw[if_pos rfl,h]
theorem zY(n:Nat):iF (n+1) (-1)=some n:=by
 unfold iF;simp;omega
theorem R9(Q:List D)(y:D)(r:List Int):ju (-1::r) (.lst true (Q++[y]))=ju r y:=by
 show((iF (Q++[y]).length (-1)).bind fun n=>((Q++[y])[n]?).bind fun y=>ju r y)=_;rw[ak,aG,zY _];show((Q++[y])[Q.length]?).bind _=_;rw[c8 (aM _),o_];rfl
theorem HV(Q:List D)(t:D)(vs:List D)(hz:vs.length<=1000)(z:D):eW [-1,1] (.lst true (Q++[.tup [t,.lst true vs]])) z=some (.lst true (Q++[.tup [t,.lst true (vs++[z])]])):=by
 have hs:=szl;have e:eW [1] (.tup [t,.lst true vs]) z=some (.tup [t,.lst true (vs++[z])]):=by
  show(if vs.length<aa then some (D.lst true (vs++[z]))else none).map (fun y'=>D.tup [t,y'])=_;rw[if_pos (by omega)];rfl
 show((iF (Q++[D.tup [t,.lst true vs]]).length (-1)).bind fun n=>((Q++[D.tup [t,.lst true vs]])[n]?).bind fun y=>(eW [1] y z).map fun y'=>D.lst true ((Q++[D.tup [t,.lst true vs]]).set n y'))=_;rw[ak,aG,zY _];show((Q++[D.tup [t,.lst true vs]])[Q.length]?).bind _=_;rw[c8 (aM _),o_];show(eW [1] (D.tup [t,.lst true vs]) z).map _=_;rw[e];show some (D.lst true ((Q++[D.tup [t,.lst true vs]]).set Q.length (.tup [t,.lst true (vs++[z])])))=_;rw[vL _ _ (aM _),o_];rfl
theorem Te{a:CE}(s0 s2 s3 s4:Option D)(Q:List D)(p:Cl):DA Y 1 [-1,1] 5 a [s0,some (.lst true (Q++[cD p])),s2,s3,s4,none]=(pE Y a [s0,some (.lst true (Q++[cD p])),s2,s3,s4,some (.lst true (p.2.map Rw.val))]).aT fun d=>if aV d=true then(R.opt (eW [-1,1] (.lst true (Q++[cD p])) d)).aT fun x'=>.nx [s0,some x',s2,s3,s4,none]else .bad:=by
 unfold DA;show(match ju [-1,1] (.lst true (Q++[cD p]))with
  |some (.lst true ys)=>if 5<6 then(pE Y a [s0,some (.lst true (Q++[cD p])),s2,s3,s4,some (.lst true ys)]).aT fun d=>if aV d=true then(R.opt (eW [-1,1] (.lst true (Q++[cD p])) d)).aT fun x'=>.nx [s0,some x',s2,s3,s4,none]else .bad else .bad
  |_=>.bad)=_
 rw[R9];rfl
theorem Z7(w:Rw):∃a r,w.words=a::r/\(strOf a==strOf aX)=false:=by
 cases w with
 |parts n c l ks=>
  show ∃a r,i9 n c++_=a::r/\_;unfold i9;split
  ·exact⟨_,_,rfl,by decide +kernel⟩
  ·split
   ·exact⟨_,_,rfl,by decide +kernel⟩
   ·exact⟨_,_,rfl,by decide +kernel⟩
 |join=>exact⟨_,_,rfl,by decide +kernel⟩
 |size=>exact⟨_,_,rfl,by decide +kernel⟩
 |isa=>exact⟨_,_,rfl,by decide +kernel⟩
 |aT=>exact⟨_,_,rfl,by decide +kernel⟩
theorem Oz(tx tk:Option D)(k:Int)(w:Rw)(h:w.Ok)(Q:List Cl)(p:Cl)(hp:p.2.length<12):lq (qG tx (Q++[p]) k w.words tk)=.nx (qG tx (Q++[(p.1,p.2++[w])]) k w.words tk):=by
 have hs:=szl;obtain⟨a,r,ew,ha⟩:=Z7 w;have hx:=R8 h k (p.2.length:Int) (by omega);have o:=Cu w;rw[ew]at hx ⊢;have nr:=vp a r;have fr:=qD (a::r);have h0:=yV a r;have e:=Td (Q++[p]) (by simp);have fc:=wA (Q++[p]);have fl:(aB (p.2.map Rw.val)).length=p.2.length:=by rw[kG,ah]
 have e1:∀p,(Q++[p]).map cD=Q.map cD++[cD p]:=fun p=>by rw[bR];rfl
 have al:=HV (Q.map cD) (.lst false (p.1.map D.int)) (p.2.map Rw.val) (by rw[ah];omega) w.val;have em:p.2.map Rw.val++[w.val]=(p.2++[w]).map Rw.val:=by rw[bR];rfl
 rw[em]at al;unfold lq f_ eU qG;rw[e1]at fc ⊢;rw[e1];generalize a6 (a::r)=d at nr fr h0 hx ⊢;generalize(Q++[p]).map cF=aas at fc e ⊢;simp_arith [nr,fr,h0,vq,ha,fc,e,Ow];rw[Ox (k:=1) (is:=[-1,1]) rfl,Te,show pE _ _ _=.ok w.val by
  simp_arith [fr,fl,hx],pq_thn_ok',if_pos o,show eW [-1,1] (.lst true (Q.map cD++[cD p])) w.val=_ from al]
 simp_arith [];rfl
def HW(i:Nat)(p:Cl):Prop:=p5 p.1 (i:Int)/\p.2.length<=12/\∀w∈p.2,w.Ok
def oR:Nat->List Cl->Prop
|_,[]=>True
|i,p::r=>HW i p/\oR (i+1) r
noncomputable def yW(p:Cl):List (List (List Nat)):=(aX::gP p.1)::p.2.map Rw.words
noncomputable def lines(C:List Cl):List (List (List Nat)):=C.flatMap yW
noncomputable abbrev oU:D->br->R br:=pG (.tup (.cons (.name 2) (.cons (.name 3) .nil)))
theorem EZ(tx s4:Option D)(Q:List Cl)(L:List D):∀(ws:List Rw) (h:∀w∈ws,w.Ok) (p:Cl) (hp:p.2.length+ws.length<=12) (j:Nat) (s2 s3:Option D),∃t2 t3,forR oU lq (fB j ((ws.map Rw.words).map a6++L)) [tx,some (.lst true ((Q++[p]).map cD)),s2,s3,s4,none]=forR oU lq (fB (j+ws.length) L) [tx,some (.lst true ((Q++[(p.1,p.2++ws)]).map cD)),t2,t3,s4,none]
|[],_,p,_,j,s2,s3=>⟨s2,s3,by rw[dm];rfl⟩
|w::ws,h,p,hp,j,s2,s3=>by
 have hp:p.2.length+(ws.length+1)<=12:=hp;obtain⟨t2,t3,q⟩:=EZ tx s4 Q L ws (fun x hx=>h x (ai _ hx)) (p.1,p.2++[w]) (by rw[ak,aG];omega) (j+1) (some (.int (j:Int))) (some (a6 w.words));refine⟨t2,t3,?_⟩;have g1:oU (.tup [.int (j:Int),a6 w.words]) [tx,some (.lst true ((Q++[p]).map cD)),s2,s3,s4,none]=.ok (qG tx (Q++[p]) (j:Int) w.words s4):=rfl;show forR oU lq (.tup [.int (j:Int),a6 w.words]::fB (j+1) ((ws.map Rw.words).map a6++L)) _=_;rw[lQ g1 (Oz tx s4 (j:Int) w (h w ao) Q p (by omega)),q,aC,show p.2++[w]++ws=p.2++w::ws by simp,show j+1+ws.length=j+(ws.length+1)by omega]
theorem Kh(tx:Option D):∀(C:List Cl) (C0:List Cl) (h:oR C0.length C) (hl:C0.length+C.length<=12) (j:Nat) (s2 s3 s4:Option D),∃t2 t3 t4,forR oU lq (fB j ((lines C).map a6)) [tx,some (.lst true (C0.map cD)),s2,s3,s4,none]=.nx [tx,some (.lst true ((C0++C).map cD)),t2,t3,t4,none]
|[],C0,_,_,j,s2,s3,s4=>⟨s2,s3,s4,by rw[dm];rfl⟩
|p::r,C0,h,hl,j,s2,s3,s4=>by
 have hl:C0.length+(r.length+1)<=12:=hl;obtain⟨⟨h1,h2,h3⟩,h4⟩:=h;have g1:oU (.tup [.int (j:Int),a6 (aX::gP p.1)]) [tx,some (.lst true (C0.map cD)),s2,s3,s4,none]=.ok (qG tx C0 (j:Int) (aX::gP p.1) s4):=rfl;obtain⟨u2,u3,q1⟩:=EZ tx (some (.lst false (p.1.map D.int))) C0 ((lines r).map a6) p.2 h3 (p.1,[]) (by simpa using h2) (j+1) (some (.int (j:Int))) (some (a6 (aX::gP p.1)));obtain⟨t2,t3,t4,q2⟩:=Kh tx r (C0++[p]) (by rw[ak,aG];exact h4) (by rw[ak,aG];omega) (j+1+p.2.length) u2 u3 (some (.lst false (p.1.map D.int)));refine⟨t2,t3,t4,?_⟩;have e:(lines (p::r)).map a6=a6 (aX::gP p.1)::((p.2.map Rw.words).map a6++(lines r).map a6):=by
  show((yW p++lines r).map a6)=_;rw[bR];rfl
 rw[e];show forR oU lq (.tup [.int (j:Int),a6 (aX::gP p.1)]::fB (j+1) ((p.2.map Rw.words).map a6++(lines r).map a6)) _=_;rw[lQ g1 (HU tx s4 C0 (by omega) (j:Int) h1),q1,lu,q2,a_];rfl
theorem Xr(C:List Cl)(h:oR 0 C)(hl:C.length<=12)(x:Str)(hx:gx x=lines C)(hb:x.length+2<=aa):eV [.str x]=.ok (.lst true (C.map cD)):=by
 have hs:=szl;have q:=EY x hb;obtain⟨t2,t3,t4,l⟩:=Kh (some (.str x)) C [] h (by simpa using hl) 0 none none none;have e:aB ((gx x).map uR)=(lines C).map a6:=by
  rw[hx];refine(frzs_map' _).trans ?_;rw[bq];refine gR fun i _=>?_;show D.lst false (aB (i.map wD))=_;rw[bQ];rfl
 have ho:cE ((gx x).map uR)=true:=by
  have:∀l:List (List (List Nat)),cE (l.map uR)=true:=fun l=>by
   induction l with
   |nil=>rfl
   |cons a r ih=>show((true&&cE (a.map wD))&&cE (r.map uR))=true;rw[ih,h_];rfl
  exact this _
 have key:eV [.str x]=Ba (nH (forR oU lq (fB 0 ((lines C).map a6)) [some (.str x),some (.lst true (([]:List Cl).map cD)),none,none,none,none]) (cU eU 1000 (.cons (.ret (.var 1)) .nil))):=by
  unfold eV nj eU;simp_arith [q,e,ho];rfl
 rw[key,l,lu];simp_arith []
noncomputable def txt(C:List Cl):Str:=ee (strOf [10]) (((lines C).map jn).map strOf)
theorem Tf:∀(ks:List (List Nat)),(∀w∈ks,fR w)->∀w∈bX ks,fR w
|[],_,w,h=>by cases h
|[a],h,w,hw=>h w hw
|a::b::t,h,w,hw=>by
 have hw:w∈a::dX::bX (b::t):=hw;rcases aF.mp hw with rfl|hw
 ·exact h w ao
 ·rcases aF.mp hw with rfl|hw
  ·exact vo _ (by decide)
  ·exact Tf (b::t) (fun x hx=>h x (ai _ hx)) w hw
theorem R_(ks:List (List Nat))(h:ks.length<=4):(bX ks).length<=7:=by
 rcases ks with _|⟨a,_|⟨b,_|⟨c,_|⟨d,_|⟨e,r⟩⟩⟩⟩⟩
 ·simp[bX]
 ·simp[bX]
 ·simp[bX]
 ·simp[bX]
 ·simp[bX]
 ·exact absurd h (by simp only[aC];omega)
theorem YS(h:p5 ns ab)(ha:ab<=12):(∀w∈aX::gP ns,fR w)/\(aX::gP ns).length<=12:=by
 unfold gP;split
 ·exact⟨jK (kw aX) (by simp),by simp⟩
 ·refine⟨jK (kw aX) (jK (kw gZ) (Tf _ fun w hw=>?_)),?_⟩
  ·obtain⟨n,hn,rfl⟩:=b7.mp hw;exact iV (yU h ha n hn)
  ·have:=R_ (ns.map a9) (by rw[ah];exact h.l);simp only[aC];omega
theorem Cv:∀(C:List Cl) (i:Nat) (h:oR i C) (hl:i+C.length<=12),∀l∈lines C,(∀w∈l,fR w)/\l.length<=12
|[],i,_,_,l,h=>by cases h
|p::r,i,h,hl,l,hm=>by
 have hl:i+(r.length+1)<=12:=hl;have hm:l∈yW p++lines r:=hm;rcases aY.mp hm with hm|hm
 ·rcases aF.mp hm with rfl|hm
  ·exact YS h.1.1 (by omega)
  ·obtain⟨w,hw,rfl⟩:=b7.mp hm;exact Rw.Zn (h.1.2.2 w hw)
 ·exact Cv r (i+1) h.2 (by omega) l hm
theorem yX:∀(C:List Cl) (i:Nat) (h:oR i C),(lines C).length<=13*C.length
|[],_,_=>by simp[lines]
|p::r,i,h=>by
 have ih:=yX r (i+1) h.2;show(yW p++lines r).length<=13*(r.length+1);have:=h.1.2.1;have e:(yW p).length=p.2.length+1:=by show(p.2.map Rw.words).length+1=_;rw[ah]
 rw[ak,e];omega
theorem Kl(ls:List (List Nat))(h:∀l∈ls,l.length<=1000):∃l,ee (strOf [10]) (ls.map strOf)=strOf l/\l.length<=1001*ls.length:=by
 induction ls with
 |nil=>exact⟨[],rfl,by simp⟩
 |cons a r ih=>
  obtain⟨l,e,hl⟩:=ih fun x hx=>h x (ai _ hx);have ha:=h a ao;cases r with
  |nil=>exact⟨a,rfl,by simp;omega⟩
  |cons b t=>
   refine⟨a++[10]++l,?_,by simp only[ak,aC,fU]at hl ⊢;omega⟩;show strOf a++strOf [10]++ee (strOf [10]) ((b::t).map strOf)=_;rw[e,pV,pV]
theorem LI(C:List Cl)(h:oR 0 C)(hl:C.length<=12)(hn:C≠[]):eV [.str (txt C)]=.ok (.lst true (C.map cD)):=by
 have hs:=szl;have ok:=Cv C 0 h (by omega);have ll:=yX C 0 h;have hb:(txt C).length+2<=aa:=by
  obtain⟨l,e,hl2⟩:=Kl ((lines C).map jn) fun l hl=>by
   obtain⟨i,hi,rfl⟩:=b7.mp hl;exact jJ (ok i hi).1 (ok i hi).2
  unfold txt;rw[e,gv];rw[ah]at hl2;omega
 refine Xr C h hl _ ?_ hb;have hne:lines C≠[]:=by
  cases C with
  |nil=>exact absurd rfl hn
  |cons p r=>exact fun z=>by cases z
 have q:=mP 10 ((((lines C).map jn).map strOf).map fun p:Str=>p.cps.toList) (txt C).cps.toList (by simpa using hne) (by
  intro p hp;rw[bq,bq]at hp;obtain⟨i,hi,rfl⟩:=b7.mp hp;exact LG i (ok i hi).1) (join_list 10 _ (by simpa using hne))
 unfold gx;rw[q,bq,bq,bq];exact(gR fun i hi=>sZ i (ok i hi).1).trans (Ju _)
theorem Sa(ns:List Int):bK .Eq (.lst false (ns.map D.int)) (.lst true [])=.ok (.bl ns.isEmpty):=by
 rw[pP (HS fun d hd=>by obtain⟨i,_,rfl⟩:=b7.mp hd;rfl) rfl];cases ns<;>rfl
theorem Zp:aq "claim on "=strOf (jn [aX,gZ]++[32]):=by decide +kernel
theorem Vk(a:Int)(r:List Int):aX::gP (a::r)=[aX,gZ]++bX ((a::r).map a9):=by
 unfold gP;rw[if_neg (by simp)];rfl
theorem Vl(h:p5 ns ab)(ha:ab<=12):∀w∈ns.map a9,fR w:=fun w hw=>by
 obtain⟨n,hn,rfl⟩:=b7.mp hw;exact iV (yU h ha n hn)
noncomputable abbrev lD(l:List (List Nat)):D:=wD (jn l)
theorem OA(m:List D->R D)(hm:∀w:Rw,w.Ok->m [bz w.val]=.ok (.str (strOf (jn w.words))))(Y:List PG)(ws:List Rw)(h:∀w∈ws,w.Ok):dg (pG (.name 0)) (fun _=>.ok true) (pE (.fn m []::Y) (.call 0 (.cons (.var 0) .nil))) (aB (ws.map Rw.val)) [none]=.ok ((ws.map Rw.words).map lD):=by
 rw[frzs_map',bq,bq];refine iy (fun w:Rw=>bz w.val) (fun O=>∃o,O=[o]) (fun w=>lD w.words) ws _ ⟨none,rfl⟩ ?_;rintro w hw O ⟨o,rfl⟩;refine⟨[some (bz w.val)],rfl,⟨_,rfl⟩,?_⟩;have f:=Dv w.val;have q:=hm w (h w hw);unfold lD wD;generalize bz w.val=v at f q ⊢;simp_arith [f,q]
noncomputable abbrev Xs:D->br->R br:=pG (.tup (.cons (.name 2) (.cons (.name 3) .nil)))
theorem Cw(ls:List (List (List Nat))):cE (ls.map lD)=true:=by
 have:=h_ (ls.map jn);rwa[bq]at this
theorem rP(ls:List (List (List Nat))):aB (ls.map lD)=ls.map lD:=lB _ (fun _=>rfl) ls
variable{i:Nat}{p:Cl}
theorem Vm(h:HW i p):(yW p).length<=13:=by
 have:(yW p).length=p.2.length+1:=by show(p.2.map Rw.words).length+1=_;rw[ah]
 have:=h.2.1;omega
theorem YT(C:List Cl):aB (C.map cF)=C.map cF:=by rw[<-wA C,fE]
theorem LJ(C:List Cl)(h:oR 0 C)(hl:C.length<=12)(o:Bool):jg .join (.str (strOf [10])) [.lst o ((lines C).map lD)]=.ok (.str (txt C)):=by
 have ok:=Cv C 0 h (by omega);have ll:=yX C 0 h;have q:=s9 [10] ((lines C).map jn) o (by rw[ah];omega) (fun w hw=>by
  obtain⟨i,hi,rfl⟩:=b7.mp hw;exact jJ (ok i hi).1 (ok i hi).2) (by decide)
 rw[bq]at q;exact q
theorem Tg:aq "\n"=strOf [10]:=by decide +kernel
theorem Xu(x y:List Nat):∀r:List (List Nat),jn (bX ((x++y)::r))=x++jn (bX (y::r))
|[]=>rfl
|b::r=>by
 obtain⟨tl,e⟩:=pW b r;show(x++y)++32::jn (dX::bX (b::r))=x++(y++32::jn (dX::bX (b::r)));rw[a_]
theorem OB(h:p5 ns ab)(ha:ab<=12):∃x ds,(ns=[]\/x=strOf (jn (aX::gP ns)))/\dg (pG (.name 0)) (fun _=>.ok true) (pE jH (.bin .Add (.bin .Mult (.con (.str "claim on ")) (.blt .int (.cons (.cmp .Eq (.var 0) (.con (.int 0))) .nil))) (.blt .str (.cons (.ix (.var 1) (.var 0)) .nil)))) (jD 0 ns.length) [none,some (.lst false (ns.map D.int))]=.ok ds/\jg .join (.str (strOf [32,111,114,32])) [.lst true ds]=.ok (.str x):=by
 cases ns with
 |nil=>exact⟨strOf [],[],.inl rfl,rfl,by kernel_rfl⟩
 |cons a r=>
  have on:=Vl h ha;have fi:=gU (a::r);have hc:dg (pG (.name 0)) (fun _=>.ok true) (pE jH (.bin .Add (.bin .Mult (.con (.str "claim on ")) (.blt .int (.cons (.cmp .Eq (.var 0) (.con (.int 0))) .nil))) (.blt .str (.cons (.ix (.var 1) (.var 0)) .nil)))) (jD 0 (a::r).length) [none,some (.lst false ((a::r).map D.int))]=.ok ((((jn [aX,gZ]++[32])++a9 a)::r.map a9).map wD):=by
   unfold jD;rw[iy (fun i:Nat=>D.int (0+(i:Int))) (fun O=>∃o,O=[o,some (.lst false ((a::r).map D.int))]) (fun i=>if i=0 then wD ((jn [aX,gZ]++[32])++a9 a)else wD (a9 ((a::r).getD i 0))) (bS (a::r).length) _ ⟨none,rfl⟩ (by
    rintro i hi O ⟨o,rfl⟩;have hi:i<(a::r).length:=jc.mp hi;refine⟨[some (.int (0+(i:Int))),some (.lst false ((a::r).map D.int))],rfl,⟨_,rfl⟩,?_⟩;have hat:e_ ((a::r).map D.int) (i:Int)=some (.int ((a::r).getD i 0)):=jy (by rw[bD,b8,aA hi];rfl);have hm:(a::r).getD i 0∈a::r:=by rw[b8,aA hi];exact gb hi
    have q:=se (yU h ha _ hm);have nl:=(iV (yU h ha _ hm)).2.2.2;rw[IF];by_cases c:i=0
    ·subst c;have g:(((0:Nat):Int)==0)=true:=rfl;have b1:dN .Mult (.str (strOf (jn [aX,gZ]++[32]))) (.int 1)=.ok (.str (strOf (jn [aX,gZ]++[32]))):=by kernel_rfl
     have b2:=iB (jn [aX,gZ]++[32]) (a9 a) (by have e:(jn [aX,gZ]++[32]).length=9:=rfl;have nl:(a9 a).length<=40:=nl;omega);have q:kD .str [.int a]=_:=q;have hat:e_ ((a::r).map D.int) 0=some (.int a):=hat;rw[if_pos rfl];show pE jH _ [some (.int 0),_]=_;unfold wD;have co:=Zp;generalize strOf ((jn [aX,gZ]++[32])++a9 a)=z at b2 ⊢;generalize strOf (jn [aX,gZ]++[32])=x at b1 b2 co;generalize(a::r).map D.int=N at fi hat ⊢;unfold jH;simp_arith [co,fi,hat,q,b1,b2]
    ·have g:((i:Int)==0)=false:=by rw[beq_eq_false_iff_ne];omega
     have b1:dN .Mult (.str (strOf (jn [aX,gZ]++[32]))) (.int 0)=.ok (.str (strOf [])):=by kernel_rfl
     have b2:dN .Add (.str (strOf [])) (.str (strOf (a9 ((a::r).getD i 0))))=.ok (.str (strOf (a9 ((a::r).getD i 0)))):=iB [] _ (by rw[fU];omega);rw[if_neg c];unfold wD;have co:=Zp;generalize strOf (a9 ((a::r).getD i 0))=z at b2 q ⊢;generalize strOf (jn [aX,gZ]++[32])=x at b1 co;generalize(a::r).getD i 0=n at hat q;generalize(a::r).map D.int=N at fi hat ⊢;unfold jH;simp_arith [co,fi,hat,q,g,b1,b2])]
   rw[aC,mY,cR,bq];have e:=range_getD 0 r;refine congrArg R.ok (congrArg (O0 _) ?_);show(bS r.length).map (fun i=>wD (a9 (r.getD i 0)))=(r.map a9).map wD
   conv=>rhs;rw[<-e]
   rw[bq,bq];rfl
  refine⟨_,_,.inr rfl,hc,?_⟩;show jg .join (.str (strOf [32,111,114,32])) [.lst true ((((jn [aX,gZ]++[32])++a9 a)::r.map a9).map wD)]=_;rw[s9 _ _ true (by have:=h.l;rw[aC,ah];have:r.length+1<=4:=this;omega) (pZ (by rw[ak];have e:(jn [aX,gZ]++[32]).length=9:=rfl;have:=(on (a9 a) (by simp)).2.2.2;omega) fun w hw=>by have:=(on w (by simp[hw])).2.2.2;omega) (by decide),zX,Xu,Vk];obtain⟨tl,e⟩:=pW (a9 a) (r.map a9);have q:=vn [aX,gZ] (a9 a) tl (by simp);rw[cR,e,<-q,a_];rfl
noncomputable abbrev OC:br->Fl:=cU jH 1000 sU
theorem Sb(Q:List D)(m d:D):putIn (.lst true (Q++[m])) d (.int (-1))=some (.lst true (Q++[d])):=by
 show(iF (Q++[m]).length (-1)).map (fun k=>D.lst true ((Q++[m]).set k d))=_;rw[ak,aG,zY];show some (D.lst true ((Q++[m]).set Q.length d))=_;rw[vL _ _ (aM _),o_];rfl
theorem Vn(a:Option D)(ls:List (List (List Nat)))(hl:ls.length<=500)(hp:HW i p)(hi:i<=12):OC [a,some (.lst true (ls.map lD)),some (.lst false (p.1.map D.int)),some (.lst false (aB (p.2.map Rw.val)))]=.nx [a,some (.lst true ((ls++yW p).map lD)),some (.lst false (p.1.map D.int)),some (.lst false (aB (p.2.map Rw.val)))]:=by
 have hs:=szl;obtain⟨h1,h2,h3⟩:=hp;have h4:=h1.l;obtain⟨x,ds,hx,q0,qj⟩:=OB h1 (by omega);have q2:=OA dU Ov [] p.2 h3;have fi:=gU p.1;have fv:=fE (p.2.map Rw.val);have ce:=Sa p.1;have rg:oz [.int ((p.1.map D.int).length:Int)]=.ok (jD 0 p.1.length):=by
  rw[Nb ⟨by omega,by rw[ah];omega⟩,ah];rfl
 have ll:(ls.map lD).length=ls.length:=ah _;have lr:((p.2.map Rw.words).map lD).length=p.2.length:=by rw[ah,ah]
 have oo:=Cw (p.2.map Rw.words);have fo:=rP (p.2.map Rw.words);have fl:=rP ls;have e:(ls++yW p).map lD=ls.map lD++.str (strOf (jn (aX::gP p.1)))::(p.2.map Rw.words).map lD:=by
  show(ls++((aX::gP p.1)::p.2.map Rw.words)).map lD=_;rw[bR];rfl
 rw[e];have hz:p.1.isEmpty=true->strOf (jn (aX::gP p.1))=aq "claim":=fun z=>by
  rw[List.isEmpty_iff.mp z,vq];rfl
 have hz2:p.1.isEmpty=false->x=strOf (jn (aX::gP p.1)):=fun z=>hx.resolve_left fun y=>by rw[y]at z;cases z
 have cl:=Sb (ls.map lD) (.str x) (.str (aq "claim"));generalize strOf (jn (aX::gP p.1))=y at hz hz2 ⊢;unfold lD at ll lr oo q2 fo fl cl ⊢;unfold wD at ll lr oo q2 fo fl cl ⊢;generalize ls.map (fun l=>D.str (strOf (jn l)))=X at ll fl cl ⊢;generalize(p.2.map Rw.words).map (fun l=>D.str (strOf (jn l)))=aas at lr oo q2 fo ⊢;generalize aB (p.2.map Rw.val)=V at fv q2 ⊢;generalize p.1.map D.int=N at fi q0 ce rg ⊢;generalize p.1.isEmpty=b at ce hz hz2;have fx:∀d,aB (X++[D.str d])=X++[.str d]:=fun d=>by rw[nE,fl];rfl
 have lx:∀d,(X++[D.str d]).length+aas.length<=aa:=fun d=>by rw[ak,aG];omega
 have fin:∀b d,Fl.nx (List.set (iw [1,3] b [a,some (.lst true (X++[D.str d])),some (.lst false N),some (.lst false V)]) 1 (some (.lst true (X++[.str d]++aas))))=.nx [a,some (.lst true (X++.str d::aas)),some (.lst false N),some (.lst false V)]:=fun b d=>by
  rw[show X++[.str d]++aas=X++.str d::aas by simp];cases b with
  |true=>rfl
  |false=>simp_arith [fv]
 unfold OC sU;unfold jH at q0 ⊢;simp_arith [fi,rg,q0,Kg,qj];rw[nO (xs:=X) rfl (by omega) rfl];cases b with
 |true=>
  rw[hz rfl];simp_arith [fi,ce];rw[EG rfl rfl cl];have lc:=nN (o:=false) (o':=true) (lx (aq "claim"));have fc:=fx (aq "claim");simp_arith [fv,q2,fc,lc,fo,oo];exact fin _ _
 |false=>
  rw[<-hz2 rfl];have lc:=nN (o:=false) (o':=true) (lx x);have fc:=fx x;simp_arith [fi,ce,fv,q2,fc,lc,fo,oo];exact fin _ _
theorem Km(a:Option D):∀(C:List Cl) (i:Nat) (h:oR i C) (hi:i+C.length<=12) (ls:List (List (List Nat))) (hl:ls.length<=13*i) (s2 s3:Option D),∃t2 t3,forR Xs OC (C.map cF) [a,some (.lst true (ls.map lD)),s2,s3]=.nx [a,some (.lst true ((ls++lines C).map lD)),t2,t3]
|[],i,_,_,ls,hl,s2,s3=>⟨s2,s3,by show _=Fl.nx [a,some (.lst true ((ls++[]).map lD)),s2,s3];rw[dm];rfl⟩
|p::r,i,h,hi,ls,hl,s2,s3=>by
 have hi:i+(r.length+1)<=12:=hi;have l1:=Vm h.1;obtain⟨t2,t3,q⟩:=Km a r (i+1) h.2 (by omega) (ls++yW p) (by rw[ak];omega) (some (.lst false (p.1.map D.int))) (some (.lst false (aB (p.2.map Rw.val))));refine⟨t2,t3,?_⟩;rw[cR,lQ (σ2:=[a,some (.lst true (ls.map lD)),some (.lst false (p.1.map D.int)),some (.lst false (aB (p.2.map Rw.val)))]) rfl (Vn a ls (by omega) h.1 (by omega)),q,a_];rfl
theorem Vo(C:List Cl)(h:oR 0 C)(hl:C.length<=12):t6 [.lst false (C.map cF)]=.ok (.lst true ((lines C).map lD)):=by
 have fc:=YT C;obtain⟨t2,t3,q⟩:=Km (some (.lst false (C.map cF))) C 0 h (by omega) [] (by simp) none none;have q:forR Xs OC (C.map cF) [some (.lst false (C.map cF)),some (.lst true []),none,none]=.nx [some (.lst false (C.map cF)),some (.lst true ((lines C).map lD)),t2,t3]:=q;generalize C.map cF=aas at fc q ⊢;generalize(lines C).map lD=L at q ⊢;unfold t6 yE;unfold OC Xs at q;unfold jH at q ⊢;simp_arith [fc,q]
theorem HY:∀(ns:List Int) (n:Int),rising ns->(∀m∈ns,m<n)->rising (ns++[n])
|[],n,_,_=>trivial
|[a],n,_,h=>⟨h a ao,trivial⟩
|a::b::r,n,h,hn=>⟨h.1,HY (b::r) n h.2 fun m hm=>hn m (ai _ hm)⟩
theorem zZ(d:Int)(hd:0<=d)(ab:Nat):∀(k:Nat) (j:Nat) (hj:j+k=ab) (ns:List Int) (h:p5 ns (j:Int)) (x:Option D),∃ns' y,p5 ns' (ab:Int)/\forR (pG (.name 3)) (cU nQ 1000 lI) ((bS k).map fun i=>D.int (1+((j+i:Nat):Int))) [some (.int d),some (.int (ab:Int)),some (.lst true (ns.map D.int)),x]=.nx [some (.int d),some (.int (ab:Int)),some (.lst true (ns'.map D.int)),y]
|0,j,hj,ns,h,x=>⟨ns,x,by rw[<-hj];exact h,rfl⟩
|k+1,j,hj,ns,h,x=>by
 have hs:=szl;have fi:=gU ns;have ln:(ns.map D.int).length=ns.length:=ah _;have hl:=h.l;have e:(bS (k+1)).map (fun i=>D.int (1+((j+i:Nat):Int)))=D.int (1+(j:Int))::(bS k).map fun i=>D.int (1+((j+1+i:Nat):Int)):=by
  rw[mY,cR,bq];refine congrArg (O0 _) (gR fun i _=>?_);show D.int (1+((j+(i+1):Nat):Int))=_;rw[show j+(i+1)=j+1+i by omega]
 rw[e];have wide:p5 ns ((j+1:Nat):Int):=⟨h.l,h.r,fun n hn=>by have:=h.b n hn;omega⟩;cases g1:(d / 2 ^ (1+(j:Int)).toNat%3==0)with
 |true=>
  by_cases c:ns.length<4
  ·have g2:=decide_eq_true (show(ns.length:Int)<4 by omega);obtain⟨ns',y,t1,t2⟩:=zZ d hd ab k (j+1) (by omega) (ns++[1+(j:Int)]) ⟨by rw[ak,aG];omega,HY ns _ h.r fun m hm=>by have:=h.b m hm;omega,fun n hn=>by
    rcases aY.mp hn with hn|hn
    ·have:=h.b n hn;omega
    ·rw[aW.mp hn];omega⟩ (some (.int (1+(j:Int))))
   refine⟨ns',y,t1,?_⟩;have ea:ns.map D.int++[.int (1+(j:Int))]=(ns++[1+(j:Int)]).map D.int:=by rw[bR];rfl
   rw[lQ (σ3:=[some (.int d),some (.int (ab:Int)),some (.lst true ((ns++[1+(j:Int)]).map D.int)),some (.int (1+(j:Int)))]) rfl (by
    rw[<-ea];unfold lI nQ;simp_arith [g1,fi,ln,g2];rw[nO (xs:=ns.map D.int) rfl (by omega) rfl];simp_arith [])]
   exact t2
  ·have g2:=decide_eq_false (show ¬(ns.length:Int)<4 by omega);obtain⟨ns',y,t1,t2⟩:=zZ d hd ab k (j+1) (by omega) ns wide (some (.int (1+(j:Int))));refine⟨ns',y,t1,?_⟩;rw[lQ (σ3:=[some (.int d),some (.int (ab:Int)),some (.lst true (ns.map D.int)),some (.int (1+(j:Int)))]) rfl (by
    unfold lI nQ;simp_arith [g1,fi,ln,g2])]
   exact t2
 |false=>
  obtain⟨ns',y,t1,t2⟩:=zZ d hd ab k (j+1) (by omega) ns wide (some (.int (1+(j:Int))));refine⟨ns',y,t1,?_⟩;rw[lQ (σ3:=[some (.int d),some (.int (ab:Int)),some (.lst true (ns.map D.int)),some (.int (1+(j:Int)))]) rfl (by
   unfold lI nQ;simp_arith [g1,fi,ln])]
  exact t2
theorem OD(d:Int)(hd:0<=d)(ab:Nat)(ha:ab<=12):∃ns,p5 ns (ab:Int)/\t7 [.int d,.int (ab:Int)]=.ok (.lst true (ns.map D.int)):=by
 have hs:=szl;obtain⟨ns,y,t1,t2⟩:=zZ d hd ab ab 0 (by omega) [] ⟨by simp,trivial,by simp⟩ none;refine⟨ns,t1,?_⟩;have rg:oz [.int 1,.int ((ab:Int)+1)]=.ok ((bS ab).map fun i=>D.int (1+((0+i:Nat):Int))):=by
  rw[Nc ⟨by omega,by omega,by omega,by omega,by omega⟩];unfold jD;rw[show((ab:Int)+1-1).toNat=ab by omega];refine congrArg R.ok (gR fun i _=>?_);rw[l6]
 have t2:forR _ _ ((bS ab).map fun i=>D.int (1+((0+i:Nat):Int))) [some (.int d),some (.int (ab:Int)),some (.lst true []),none]=_:=t2;generalize(bS ab).map (fun i=>D.int (1+((0+i:Nat):Int)))=L at rg t2;unfold t7 yC;unfold nQ at t2 ⊢;simp_arith -implicitDefEqProofs [rg,t2]
noncomputable def cO(p:Cl):D:=.tup [.lst true (p.1.map D.int),.lst true (p.2.map Rw.val)]
theorem LK:∀C:List Cl,aB (C.map cO)=C.map cF
|[]=>rfl
|p::r=>by
 show bz (cO p)::aB (r.map cO)=_;rw[LK r];show D.tup [.lst false (aB (p.1.map D.int)),.lst false (aB (p.2.map Rw.val))]::_=_;rw[gU];rfl
theorem Kn:∀ws:List Rw,cE (ws.map Rw.val)=true
|[]=>rfl
|w::r=>by
 show(aV w.val&&cE (r.map Rw.val))=true;rw[Cu,Kn r];rfl
theorem Th:∀C:List Cl,cE (C.map cO)=true
|[]=>rfl
|p::r=>by
 show((cE (p.1.map D.int)&&(cE (p.2.map Rw.val)&&true))&&cE (r.map cO))=true;rw[r_,Kn,Th r];rfl
theorem oR.app:∀{C:List Cl}{i:Nat}{p:Cl},oR i C->HW (i+C.length) p->oR i (C++[p])
|[],i,p,_,h=>⟨h,trivial⟩
|q::r,i,p,hC,h=>⟨hC.1,oR.app hC.2 (by rw[show i+1+r.length=i+(r.length+1)by omega];exact h)⟩
theorem oR.last:∀{C:List Cl}{i:Nat}{p:Cl},oR i (C++[p])->oR i C/\HW (i+C.length) p
|[],i,p,h=>⟨trivial,h.1⟩
|q::r,i,p,h=>by
 obtain⟨h1,h2⟩:=oR.last h.2;rw[show i+1+r.length=i+(r.length+1)by omega]at h2;exact⟨⟨h.1,h1⟩,h2⟩
noncomputable abbrev yY:br->Fl:=cU gw 1000 dO
noncomputable abbrev jw(a:Option D)(s:Int)(C:List Cl)(k c d:Option D):br:=[a,some (.int s),some (.lst true (C.map cO)),k,c,d]
theorem Sd(Q:List D)(y:D):e_ (Q++[y]) (-1)=some y:=by
 unfold e_;rw[ak,aG,zY];show(Q++[y])[Q.length]?=_;rw[c8 (aM _),o_];rfl
structure E3 (C:List Cl):Prop where
 ok:oR 0 C
 l:C.length<=12
 n:C≠[]
noncomputable def b1:cC->CS
|.cons a _=>a
|_=>.cont
noncomputable def bC:cC->CE
|.cons _ (.cons (.ifs c _ _) _)=>c
|_=>.con .non
noncomputable def bA:cC->cC
|.cons _ (.cons (.ifs _ a _) _)=>a
|r=>r
noncomputable def bB:cC->cC
|.cons _ (.cons (.ifs _ _ b) _)=>b
|r=>r
theorem YU{n:Nat}{c:CE}{A B:cC}{b:Bool}(h:pT Y c O=.ok b):cU Y n (.cons (.ifs c A B) .nil) O=if b=true then cU Y n A O else cU Y n B O:=by
 rw[oE,Hg,h];cases b with
 |true=>show nH (cU Y n A O) _=cU Y n A O;cases cU Y n A O<;>rfl
 |false=>show nH (cU Y n B O) _=cU Y n B O;cases cU Y n B O<;>rfl
variable{d:D}
theorem Xv{a:CE}{k:Nat}{x x':D}(h:sP O o=some (k,is))(q:pE Y a O=.ok d)(hd:aV d=true)(hx:O[k]?=some (some x))(ha:eW is x d=some x'):Dz Y o a O=.nx (O.set k (some x')):=by
 unfold Dz;rw[h];show(pE Y a O).sN false _=_;rw[q,pq_thnL_ok'];simp only[hx,hd,if_true,ha];rfl
theorem Se(a:Option D)(s:Int)(hs0:0<=s)(C:List Cl)(hC:E3 C)(k c:Int)(hk:0<=k/\k<=62)(d:Option D):∃C' d',E3 C'/\yY (jw a s C (some (.int k)) (some (.int c)) d)=.nx (jw a s C' (some (.int k)) (some (.int c)) d'):=by
 have hs:=szl;obtain⟨v,v0,v1,qv⟩:=pY c (k+120) (by omega);obtain⟨hok,hl,hn⟩:=hC;obtain⟨Q,p,rfl⟩:∃Q p,C=Q++[p]:=by
  cases C with
  |nil=>exact absurd rfl hn
  |cons a r=>exact⟨(a::r).dropLast,(a::r).getLast (by simp),(kh (by simp)).symm⟩
 obtain⟨hQ,hp⟩:=hok.last;rw[l6]at hp;have fc:=LK (Q++[p]);have lf:((Q++[p]).map cF).length=(Q++[p]).length:=ah _;have lo:((Q++[p]).map cO).length=(Q++[p]).length:=ah _;have al:e_ ((Q++[p]).map cF) (-1)=some (.tup [.lst false (p.1.map D.int),.lst false (aB (p.2.map Rw.val))]):=by
  rw[bR];exact Sd _ _
 have fi:=gU p.1;have fv:=fE (p.2.map Rw.val);have lv:(aB (p.2.map Rw.val)).length=p.2.length:=by rw[kG,ah]
 have e1:(Q++[p]).map cO=Q.map cO++[.tup [.lst true (p.1.map D.int),.lst true (p.2.map Rw.val)]]:=by rw[bR];rfl
 have hp2:=hp.2.1;have more:(Q++[p]).length<12->(v%6=0\/p.2.length=12)->∃C' d',E3 C'/\yY (jw a s (Q++[p]) (some (.int k)) (some (.int c)) d)=.nx (jw a s C' (some (.int k)) (some (.int c)) d'):=by
  intro h12 hor;obtain⟨ns,t1,t2⟩:=OD (v / 6) (by omega) (Q++[p]).length (by omega);refine⟨(Q++[p])++[(ns,[])],some (.int v),⟨hok.app ⟨by rw[l6];exact t1,by simp,by simp⟩,by rw[ak,aG];omega,by simp⟩,?_⟩;have ea:((Q++[p])++[(ns,[])]).map cO=(Q++[p]).map cO++[.tup [.lst true (ns.map D.int),.lst true []]]:=by rw[bR];rfl
  have oi:=r_ ns;have g0:=decide_eq_true (show(((Q++[p]).length:Nat):Int)<12 by omega);unfold yY dO gw jw;rw[ea];generalize(Q++[p]).map cO=X at fc lo ⊢;generalize(Q++[p]).map cF=aas at fc lf al;generalize(Q++[p]).length=m at *;generalize aB (p.2.map Rw.val)=V at al fv lv;generalize p.1.map D.int=N at al fi;generalize ns.map D.int=NN at t2 oi ⊢;cases g1:(v%6==0)with
  |true=>
   simp_arith -implicitDefEqProofs [qv,fc,lf,g0,g1,t2];rw[nO (xs:=X) rfl (by omega) (by rw[uo];exact .inl (by simp_arith -implicitDefEqProofs [oi]))];simp_arith -implicitDefEqProofs [oi]
  |false=>
   have g2:((p.2.length:Int)==12)=true:=by
    rw[beq_iff_eq];have:=hor.resolve_left fun z=>by rw[z]at g1;cases g1
    omega
   simp_arith -implicitDefEqProofs [qv,fc,lf,g0,g1,al,fi,fv,j_,lv,g2,t2];rw[nO (xs:=X) rfl (by omega) (by rw[uo];exact .inl (by simp_arith -implicitDefEqProofs [oi]))];simp_arith -implicitDefEqProofs [oi]
 have rows:¬((Q++[p]).length<12/\(v%6=0\/p.2.length=12))->∃C' d',E3 C'/\yY (jw a s (Q++[p]) (some (.int k)) (some (.int c)) d)=.nx (jw a s C' (some (.int k)) (some (.int c)) d'):=by
  intro hno;obtain⟨w,hw,qr⟩:=Ke c k s ⟨hk.1,by omega⟩ hs0;have ow:=Cu w;have app:=HV (Q.map cO) (.lst true (p.1.map D.int)) (p.2.map Rw.val) (by rw[ah];omega) w.val;have em:(Q++[(p.1,p.2++[w])]).map cO=Q.map cO++[.tup [.lst true (p.1.map D.int),.lst true (p.2.map Rw.val++[w.val])]]:=by
   rw[bR];show _++[D.tup [.lst true (p.1.map D.int),.lst true ((p.2++[w]).map Rw.val)]]=_;rw[bR];rfl
  rw[<-e1,<-em]at app;have test:∀Y:List PG,pT Y (.and (.cmp .Lt (.blt .len (.cons (.var 2) .nil)) (.con (.int 12))) (.or (.cmp .Eq (.bin .Mod (.var 5) (.con (.int 6))) (.con (.int 0))) (.cmp .Eq (.blt .len (.cons (.ix (.ix (.var 2) (.neg (.con (.int 1)))) (.con (.int 1))) .nil)) (.con (.int 12))))) (jw a s (Q++[p]) (some (.int k)) (some (.int c)) (some (.int v)))=.ok false:=by
   intro Y;unfold jw;generalize(Q++[p]).map cO=X at fc;generalize(Q++[p]).map cF=aas at fc lf al;generalize(Q++[p]).length=m at *;generalize aB (p.2.map Rw.val)=V at al fv lv;generalize p.1.map D.int=N at al fi;by_cases h12:m<12
   ·have g0:=decide_eq_true (show(m:Int)<12 by omega);have g1:(v%6==0)=false:=by rw[beq_eq_false_iff_ne];exact fun z=>hno ⟨h12,.inl z⟩
    have g2:((p.2.length:Int)==12)=false:=by rw[beq_eq_false_iff_ne];exact fun z=>hno ⟨h12,.inr (by omega)⟩
    simp_arith -implicitDefEqProofs [fc,lf,g0,g1,al,fi,fv,j_,lv,g2]
   ·have g0:=decide_eq_false (show ¬(m:Int)<12 by omega);simp_arith -implicitDefEqProofs [fc,lf,g0]
  have hd:pS gw 1000 (b1 dO) (jw a s (Q++[p]) (some (.int k)) (some (.int c)) d)=.nx (jw a s (Q++[p]) (some (.int k)) (some (.int c)) (some (.int v))):=by
   unfold b1 dO gw jw;generalize(Q++[p]).map cO=X;simp_arith -implicitDefEqProofs [qv]
  have test:pT gw (bC dO) (jw a s (Q++[p]) (some (.int k)) (some (.int c)) (some (.int v)))=.ok false:=test _;have key:yY (jw a s (Q++[p]) (some (.int k)) (some (.int c)) d)=cU gw 1000 (bB dO) (jw a s (Q++[p]) (some (.int k)) (some (.int c)) (some (.int v))):=by
   show cU gw 1000 (.cons (b1 dO) (.cons (.ifs (bC dO) (bA dO) (bB dO)) .nil)) _=_;rw[oE,hd,EE,YU test,if_neg (by decide)]
  rw[key];by_cases hr:p.2.length<12
  ·refine⟨Q++[(p.1,p.2++[w])],some (.int v),⟨hQ.app ⟨by rw[l6];exact hp.1,by show(p.2++[w]).length<=12;rw[ak,aG];omega,fun x hx=>?_⟩,by simpa using hl,by simp⟩,?_⟩
   ·rcases aY.mp hx with hx|hx
    ·exact hp.2.2 x hx
    ·rw[aW.mp hx];exact hw
   have g:=decide_eq_true (show(p.2.length:Int)<12 by omega);unfold jw;generalize(Q++[(p.1,p.2++[w])]).map cO=X2 at app ⊢;generalize(Q++[p]).map cO=X at fc app ⊢;generalize(Q++[p]).map cF=aas at fc lf al;generalize aB (p.2.map Rw.val)=V at al fv lv;generalize p.1.map D.int=N at al fi;generalize w.val=z at qr ow app;unfold bB dO gw;simp_arith -implicitDefEqProofs [fc,al,fi,fv,j_,lv,g];rw[Xv (k:=2) (is:=[-1,1]) (d:=z) rfl (by simp_arith -implicitDefEqProofs [qr]) ow rfl app];simp_arith -implicitDefEqProofs []
  ·refine⟨Q++[p],some (.int v),⟨hok,hl,by simp⟩,?_⟩;have g:=decide_eq_false (show ¬(p.2.length:Int)<12 by omega);unfold jw;generalize(Q++[p]).map cO=X at fc ⊢;generalize(Q++[p]).map cF=aas at fc lf al;generalize aB (p.2.map Rw.val)=V at al fv lv;generalize p.1.map D.int=N at al fi;unfold bB dO gw;simp_arith -implicitDefEqProofs [fc,al,fi,fv,j_,lv,g]
 by_cases hc:(Q++[p]).length<12/\(v%6=0\/p.2.length=12)
 ·exact more hc.1 hc.2
 ·exact rows hc
noncomputable abbrev LL:D->br->R br:=pG (.tup (.cons (.name 3) (.cons (.name 4) .nil)))
theorem HZ(a:Option D)(s:Int)(hs0:0<=s):∀(cs:List Int) (j:Nat) (hj:j+cs.length<=62) (C:List Cl) (hC:E3 C) (k c d:Option D),∃C' k' c' d',E3 C'/\forR LL yY (fB j (cs.map D.int)) (jw a s C k c d)=.nx (jw a s C' k' c' d')
|[],j,hj,C,hC,k,c,d=>⟨C,k,c,d,hC,rfl⟩
|x::cs,j,hj,C,hC,k,c,d=>by
 have hj:j+(cs.length+1)<=62:=hj;obtain⟨C1,d1,h1,e1⟩:=Se a s hs0 C hC (j:Int) x (by omega) d;obtain⟨C2,k2,c2,d2,h2,e2⟩:=HZ a s hs0 cs (j+1) (by omega) C1 h1 (some (.int (j:Int))) (some (.int x)) d1;have g1:LL (.tup [.int (j:Int),.int x]) (jw a s C k c d)=.ok (jw a s C (some (.int (j:Int))) (some (.int x)) d):=rfl;exact⟨C2,k2,c2,d2,h2,(lQ g1 e1).trans e2⟩
theorem Sf(ns:List Int)(hn:ns.length<=63):∃C,E3 C/\rO [jz ns]=.ok (.lst true (C.map cO)):=by
 obtain⟨c,qc⟩:=Ol ns;obtain⟨s,s0,s1,qs⟩:=pY c 1 (by omega);have fi:=gU ns;obtain⟨M,hM,c1⟩:∃M:List Int,M.length<=62/\cut (ns.map D.int) (some 1) (some 63)=M.map D.int:=by
  refine⟨ns.drop (min 1 ns.length),by rw[c9];omega,?_⟩;show cut (ns.map D.int) (some ((1:Nat):Int)) (some ((63:Nat):Int))=_;unfold cut;rw[HT.rW,HT.rW,di (by rw[c9,ah];omega),ah,kQ]
 unfold jz at qc ⊢;obtain⟨C,k,c',d,hC,e⟩:=HZ (some (.lst false (ns.map D.int))) s s0 M 0 (by omega) [([],[])] ⟨⟨⟨⟨by simp,trivial,by simp⟩,by simp,by simp⟩,trivial⟩,by simp,by simp⟩ none none none;refine⟨C,hC,?_⟩;have fM:=gU M;have oM:=r_ M;have e:forR LL yY (fB 0 (M.map D.int)) [some (.lst false (ns.map D.int)),some (.int s),some (.lst true [.tup [.lst true [],.lst true []]]),none,none,none]=_:=e;generalize ns.map D.int=N at *;generalize M.map D.int=N2 at *;unfold rO wj;unfold LL yY jw at e;unfold gw at e ⊢;have hs:=szl;simp_arith [fi,qc,qs,c1,fM,oM,e]
noncomputable def uT(row:Int):D:=.exc 44 ["row"] [.int row]
inductive AM:List (List Nat)->Prop
|r {a:List Nat}{r:List (List Nat)} (ha:(strOf a==strOf aX)=false) (q:cG [a6 (a::r)]=.ok .non):AM (a::r)
|c {r:List (List Nat)} (q:dj [a6 r]=.ok .non):AM (aX::r)
variable{r:List (List Nat)}
theorem Sg(q:cG [a6 r]=.ok .non)(row ab:Int):pR [a6 r,.int row,.int ab]=.ex (uT row):=by
 have fr:=qD r;unfold pR we Bj;generalize a6 r=d at q fr ⊢;simp_arith [q,fr];rfl
theorem LM(q:dj [a6 r]=.ok .non)(row ab:Int):jF [a6 (aX::r),.int row,.int ab]=.ex (uT row):=by
 have fr:=bQ r;have q:dj [.lst false (r.map wD)]=_:=q;have c1:cut (D.str (strOf aX)::r.map wD) (some 1) none=r.map wD:=cM _ 1 (by simp);show jF [.lst false (.str (strOf aX)::r.map wD),.int row,.int ab]=_;generalize r.map wD=T at fr q c1 ⊢;unfold jF rK oG;simp_arith [fr,c1,q];rfl
theorem H9(tx tk:Option D)(k:Int)(a:List Nat)(r:List (List Nat))(ha:(strOf a==strOf aX)=false):lq (qG tx [] k (a::r) tk)=.ex (uT k):=by
 have nr:=vp a r;have fr:=qD (a::r);have h0:=yV a r;have e:bK .Eq (.lst false []) (.lst true [])=.ok (.bl true):=rfl;unfold lq f_ eU qG;generalize a6 (a::r)=d at nr fr h0 ⊢;simp_arith [nr,fr,h0,vq,ha,e];rfl
theorem Xw(tx tk:Option D)(C:List Cl)(k:Int)(h:AM ws):lq (qG tx C k ws tk)=.ex (uT k):=by
 have hs:=szl;cases h with
 |@r a r ha q=>
  by_cases hn:C=[]
  ·subst hn;exact H9 tx tk k a r ha
  obtain⟨Q,p,rfl⟩:∃Q p,C=Q++[p]:=by
   cases C with
   |nil=>exact absurd rfl hn
   |cons a r=>exact⟨(a::r).dropLast,(a::r).getLast (by simp),(kh (by simp)).symm⟩
  have hx:=Sg q k ((p.2.length:Nat):Int);have nr:=vp a r;have fr:=qD (a::r);have h0:=yV a r;have e:=Td (Q++[p]) hn;have fc:=wA (Q++[p]);have fl:(aB (p.2.map Rw.val)).length=p.2.length:=by rw[kG,ah]
  have e1:∀p,(Q++[p]).map cD=Q.map cD++[cD p]:=fun p=>by rw[bR];rfl
  unfold lq f_ eU qG;rw[e1]at fc ⊢;generalize a6 (a::r)=d at nr fr h0 hx ⊢;generalize(Q++[p]).map cF=aas at fc e ⊢;simp_arith [nr,fr,h0,vq,ha,fc,e,Ow];rw[Ox (k:=1) (is:=[-1,1]) rfl,Te,show pE _ _ _=.ex (uT k)by
   simp_arith [fr,fl,hx]]
  rfl
 |@c r q=>
  have hx:=LM q k (C.length:Int);have nr:=vp aX r;have fr:=qD (aX::r);have h0:=yV aX r;have fc:=wA C;have cf:(C.map cF).length=C.length:=ah _;have eb:=beq_self_eq_true (strOf aX);unfold lq f_ eU qG;generalize a6 (aX::r)=d at nr fr h0 hx ⊢;generalize C.map cD=X at fc ⊢;generalize C.map cF=aas at fc cf ⊢;simp_arith [nr,fr,h0,vq,eb,fc,cf,hx]
noncomputable abbrev Gi:=Sum (List Int) Rw
noncomputable def Gi.words:Gi->List (List Nat)
|.inl ns=>aX::gP ns
|.inr w=>w.words
def wF:Nat->Nat->List Gi->Prop
|_,_,[]=>True
|n,_,.inl ns::r=>p5 ns (n:Int)/\n<12/\wF (n+1) 0 r
|n,m,.inr w::r=>w.Ok/\0<n/\m<12/\wF n (m+1) r
theorem yZ:∀(g:List Gi) (k n m:Nat),wF n m g->wF n m (g.take k)
|[],k,n,m,_=>by rw[FF];trivial
|_::_,0,n,m,_=>trivial
|.inl ns::r,k+1,n,m,h=>⟨h.1,h.2.1,yZ r k _ _ h.2.2⟩
|.inr w::r,k+1,n,m,h=>⟨h.1,h.2.1,h.2.2.1,yZ r k _ _ h.2.2.2⟩
noncomputable def LN:List Cl->Nat
|[]=>0
|[p]=>p.2.length
|_::r=>LN r
theorem y9(Q:List Cl)(p:Cl):LN (Q++[p])=p.2.length:=by
 induction Q with
 |nil=>rfl
 |cons a r ih=>
  cases r with
  |nil=>rfl
  |cons b t=>exact ih
theorem DM(tx:Option D)(L:List D):∀(g:List Gi) (C:List Cl) (h:wF C.length (LN C) g) (j:Nat) (s2 s3 s4:Option D),∃(C':List Cl) (t2 t3 t4:Option D),forR oU lq (fB j ((g.map Gi.words).map a6++L)) [tx,some (.lst true (C.map cD)),s2,s3,s4,none]=forR oU lq (fB (j+g.length) L) [tx,some (.lst true (C'.map cD)),t2,t3,t4,none]
|[],C,_,j,s2,s3,s4=>⟨C,s2,s3,s4,rfl⟩
|.inl ns::r,C,h,j,s2,s3,s4=>by
 obtain⟨C',t2,t3,t4,q⟩:=DM tx L r (C++[(ns,[])]) (by rw[y9,ak,aG];exact h.2.2) (j+1) (some (.int (j:Int))) (some (a6 (aX::gP ns))) (some (.lst false (ns.map D.int)));refine⟨C',t2,t3,t4,?_⟩;have g1:oU (.tup [.int (j:Int),a6 (aX::gP ns)]) [tx,some (.lst true (C.map cD)),s2,s3,s4,none]=.ok (qG tx C (j:Int) (aX::gP ns) s4):=rfl;show forR oU lq (.tup [.int (j:Int),a6 (aX::gP ns)]::fB (j+1) ((r.map Gi.words).map a6++L)) _=_;rw[lQ g1 (HU tx s4 C h.2.1 (j:Int) h.1),q,aC,show j+1+r.length=j+(r.length+1)by omega]
|.inr w::r,C,h,j,s2,s3,s4=>by
 obtain⟨Q,p,rfl⟩:∃Q p,C=Q++[p]:=by
  cases C with
  |nil=>exact absurd h.2.1 (by decide)
  |cons a r=>exact⟨(a::r).dropLast,(a::r).getLast (by simp),(kh (by simp)).symm⟩
 obtain⟨hw,_,hm,hr⟩:=h;rw[y9]at hm hr;obtain⟨C',t2,t3,t4,q⟩:=DM tx L r (Q++[(p.1,p.2++[w])]) (by rw[y9,ak,aG,ak,aG];rw[ak,aG]at hr;exact hr) (j+1) (some (.int (j:Int))) (some (a6 w.words)) s4;refine⟨C',t2,t3,t4,?_⟩;have g1:oU (.tup [.int (j:Int),a6 w.words]) [tx,some (.lst true ((Q++[p]).map cD)),s2,s3,s4,none]=.ok (qG tx (Q++[p]) (j:Int) w.words s4):=rfl;show forR oU lq (.tup [.int (j:Int),a6 w.words]::fB (j+1) ((r.map Gi.words).map a6++L)) _=_;rw[lQ g1 (Oz tx s4 (j:Int) w hw Q p (by omega)),q,aC,show j+1+r.length=j+(r.length+1)by omega]
theorem kA:sV=[aL,[97,110]].map fun w=>D.str (strOf w):=by
 have e2:(["a","an"]:List Str)=[aL,[97,110]].map strOf:=by decide +kernel
 have e1:sV=(["a","an"]:List Str).map D.str:=rfl;rw[e1,e2,bq];rfl
theorem kT:nq=[a8,[115,97,105,100]].map fun w=>D.str (strOf w):=by
 have e2:(["the","said"]:List Str)=[a8,[115,97,105,100]].map strOf:=by decide +kernel
 have e1:nq=(["the","said"]:List Str).map D.str:=rfl;rw[e1,e2,bq];rfl
variable{L:List (List Nat)}
theorem Zq{K:List D}(e:K=L.map fun w=>D.str (strOf w))(hL:∀v∈L,v∈oK)(fz:bz (.cst K)=.cst K)(nd:iR K=true)(h:W w):bK .In (.str (strOf w)) (bz (.cst K))=.ok (.bl false)/\bK .NotIn (.str (strOf w)) (bz (.cst K))=.ok (.bl true):=by
 have m:memD (.str (strOf w)) K=false:=by
  rw[e,Bl,j0];intro v hv z;have n:=h.nk (hL v hv);rw[str_beq,decide_eq_true_eq]at z;rw[z,beq_self_eq_true]at n;cases n
 rw[fz];constructor
 ·show(R.bw (cX (.str (strOf w))&&iR K) (.ok (memD (.str (strOf w)) K))).bind (fun b=>R.ok (D.bl b))=_;rw[nd,m];rfl
 ·show(R.bw (cX (.str (strOf w))&&iR K) (.ok (memD (.str (strOf w)) K))).bind (fun b=>R.ok (D.bl (!b)))=_;rw[nd,m];rfl
theorem nA(h:W w):bK .In (.str (strOf w)) (bz (.cst sV))=.ok (.bl false)/\bK .NotIn (.str (strOf w)) (bz (.cst sV))=.ok (.bl true):=Zq kA (by decide) (by kernel_rfl) (by decide +kernel) h
theorem nT(h:W w):bK .In (.str (strOf w)) (bz (.cst nq))=.ok (.bl false)/\bK .NotIn (.str (strOf w)) (bz (.cst nq))=.ok (.bl true):=Zq kT (by decide) (by kernel_rfl) (by decide +kernel) h
theorem H_(ws:List (List Nat))(h:∀w∈ws,W w)(hl:ws.length<900):bO [a6 ws]=.ok .non:=by
 have q:=vj ws [] h (by intro x r e;cases e) hl;rw[dm]at q;have fr:=bQ ws;have q:cT [.lst false (ws.map wD)]=.ok (.int (ws.length:Int)):=q;have ln:(ws.map wD).length=ws.length:=ah _;have g:=beq_self_eq_true (ws.length:Int);show bO [.lst false (ws.map wD)]=_;generalize ws.map wD=X at q fr ln ⊢;unfold bO gH iM;simp_arith [q,fr,ln,g]
theorem wH(ws t:List (List Nat))(h:∀w∈ws,W w)(hl:ws.length<900){r:D}(qi:iA [a6 ws,a6 t]=.ok r):bO [a6 (ws++dY::t)]=.ok r:=by
 have q:=vj ws (dY::t) h (by intro x r e;cases e;exact k_is) hl;have fr:=bQ (ws++dY::t);have f1:=bQ ws;have f2:=bQ (dY::t);have ho:=h_ (dY::t);have f3:=bQ t;have c1:cut ((ws++dY::t).map wD) (some (ws.length:Int)) none=(dY::t).map wD:=by
  rw[cM _ _ (by simp),<-kQ,gM (aM _),tK];rfl
 have c2:cut ((ws++dY::t).map wD) none (some (ws.length:Int))=ws.map wD:=by
  rw[iN,<-kR,vK]
 have c3:cut ((dY::t).map wD) (some 1) none=t.map wD:=cM _ 1 (by simp);have i0:e_ ((dY::t).map wD) 0=some (.str (strOf dY)):=fG _ _;have ne:((ws.length:Int)==(((ws++dY::t).map wD).length:Int))=false:=by
  rw[beq_eq_false_iff_ne,ah,ak,aC];omega
 have q:cT [.lst false ((ws++dY::t).map wD)]=_:=q;have qi:iA [.lst false (ws.map wD),.lst false (t.map wD)]=_:=qi;show bO [.lst false ((ws++dY::t).map wD)]=_;generalize(ws++dY::t).map wD=X at *;generalize(dY::t).map wD=aas at *;generalize ws.map wD=Z at *;generalize t.map wD=U at *;generalize ws.length=n at *;unfold bO gH iM;simp_arith [q,fr,ne,c1,f2,i0,Kc,c2,c3,f1,f3,qi,ho]
theorem LO(ws:List (List Nat))(x:List Nat)(t:List (List Nat))(h:∀w∈ws,W w)(hl:ws.length<900)(hx:isWord (strOf x)=false)(hi:(strOf x==strOf dY)=false)(q3:ws.length<2\/cS [a6 (ws.take (ws.length-1))]=.ok .non):bO [a6 (ws++x::t)]=.ok .non:=by
 have q:=vj ws (x::t) h (by intro x r e;cases e;exact hx) hl;have fr:=bQ (ws++x::t);have f2:=bQ (x::t);have ho:=h_ (x::t);have f1:=bQ (ws.take (ws.length-1));have c1:cut ((ws++x::t).map wD) (some (ws.length:Int)) none=(x::t).map wD:=by
  rw[cM _ _ (by simp),<-kQ,gM (aM _),tK];rfl
 have i0:e_ ((x::t).map wD) 0=some (.str (strOf x)):=fG _ _;have ne:((ws.length:Int)==(((ws++x::t).map wD).length:Int))=false:=by
  rw[beq_eq_false_iff_ne,ah,ak,aC];omega
 have q:cT [.lst false ((ws++x::t).map wD)]=_:=q;by_cases h2:ws.length<2
 ·have lt:=decide_eq_true (show(ws.length:Int)<2 by omega);show bO [.lst false ((ws++x::t).map wD)]=_;generalize(ws++x::t).map wD=X at *;generalize(x::t).map wD=aas at *;generalize ws.length=n at *;unfold bO gH iM;simp_arith [q,fr,ne,c1,f2,ho,i0,Kc,hi,lt]
 ·have lt:=decide_eq_false (show ¬(ws.length:Int)<2 by omega);have c2:cut ((ws++x::t).map wD) none (some ((ws.length:Int)-1))=(ws.take (ws.length-1)).map wD:=by
   rw[show(ws.length:Int)-1=((ws.length-1:Nat):Int)by omega,iN,<-kR,List.take_append_of_le_length (by omega)]
  have q4:cS [.lst false ((ws.take (ws.length-1)).map wD)]=.ok .non:=q3.resolve_left h2;clear q3;show bO [.lst false ((ws++x::t).map wD)]=_;generalize(ws++x::t).map wD=X at *;generalize(x::t).map wD=aas at *;generalize(ws.take (ws.length-1)).map wD=Z at *;generalize ws.length=n at *;unfold bO gH iM;simp_arith [q,fr,ne,c1,f2,ho,i0,Kc,hi,lt,c2,f1,q4]
theorem wJ{z:List Nat}{x y:D}{b:Bool}(hx:cS [a6 ws]=.ok x)(hy:bW [a6 t]=.ok y)(hb:bK .NotIn (.str (strOf z)) (bz (.cst sV))=.ok (.bl b))(ox:aV x=true)(oy:aV y=true)(h:gf (bz x)=true\/gf (bz y)=true\/b=true):iA [a6 ws,a6 (z::t)]=.ok .non:=by
 have f1:=bQ ws;have f2:=bQ t;have hx:cS [.lst false (ws.map wD)]=_:=hx;have hy:bW [.lst false (t.map wD)]=_:=hy;have c2:cut (D.str (strOf z)::t.map wD) (some 1) none=t.map wD:=cM _ 1 (by simp);show iA [.lst false (ws.map wD),.lst false (.str (strOf z)::t.map wD)]=_;generalize ws.map wD=X at *;generalize t.map wD=aas at *;unfold iA tY yH;cases n1:gf (bz x)with
 |true=>simp_arith [f1,f2,hx,c2,hy,ox,oy,fG,n1]
 |false=>
  cases n2:gf (bz y)with
  |true=>simp_arith [f1,f2,hx,c2,hy,ox,oy,fG,n1,n2]
  |false=>
   have hb:bK .NotIn (.str (strOf z)) (bz (.cst sV))=.ok (.bl true):=by
    rcases h with h|h|h
    ·rw[h]at n1;cases n1
    ·rw[h]at n2;cases n2
    ·rw[<-h];exact hb
   simp_arith [f1,f2,hx,c2,hy,ox,oy,fG,n1,n2,hb]
theorem Ia(h:W x):bW [a6 [x,dX,x]]=.ok .non:=by
 have q:d9 [.lst false [.str (strOf x),.str (strOf dX),.str (strOf x)]]=.ok (.lst true [.str (strOf x),.str (strOf x)]):=Xe x x;have q2:g_ [.lst false [.str (strOf x),.str (strOf x)]]=.ok (.bl true):=by
  have q2:=mV [x,x] false;rw[show([x,x].all fun w=>isWord (strOf w))=true by simp[h]]at q2;exact q2
 have hn:zO (.lst false [.str (strOf x),.str (strOf x)])=.ok (.int 1):=by
  rw[DC (ss:=[strOf x,strOf x]) rfl (by simp)];simp[m9,jx]
 show bW [.lst false [.str (strOf x),.str (strOf dX),.str (strOf x)]]=_;unfold bW lG oH;simp_arith [q,q2,hn]
theorem Ti(h:isWord (strOf x)=false):bW [a6 [x]]=.ok .non:=by
 have q:d9 [.lst false [.str (strOf x)]]=.ok (.lst true [.str (strOf x)]):=S6 x;have q2:g_ [.lst false [.str (strOf x)]]=.ok (.bl false):=by
  have q2:=mV [x] false;rw[show([x].all fun w=>isWord (strOf w))=false by simp[h]]at q2;exact q2
 show bW [.lst false [.str (strOf x)]]=_;unfold bW lG oH;simp_arith [q,q2]
variable{u:List Nat}
theorem Cy{c:Bool}{k:D}{b:Bool}(hu:cN [.str (strOf u)]=.ok (.int n))(hn:1<=n/\n<=5)(hy:W y)(hx0:(strOf x==strOf [])=false)(hk:bW [a6 (y::t)]=.ok k)(ok:aV k=true)(hb:isWord (strOf x)=b)(h:gf (bz k)=true\/b=false):cz [.bl c,.lst false (.str (strOf u)::.str (strOf x)::.str (strOf y)::t.map wD)]=.ok .non:=by
 have ft:=bQ t;have g1:=hy.nk (v:=dX) (by decide);have g3:=decide_eq_true hn.1;have g4:=decide_eq_true hn.2;have g5:=lO (strOf x);rw[hb]at g5;have hk:bW [.lst false (.str (strOf y)::t.map wD)]=_:=hk;generalize t.map wD=T at ft hk ⊢;have c2:cut (D.str (strOf u)::.str (strOf x)::.str (strOf y)::T) (some 2) none=.str (strOf y)::T:=cM _ 2 (by simp);have l2:decide (((T.length+1+1+1:Nat):Int)<2)=false:=decide_eq_false (by omega);have l3:decide (2<((T.length+1+1+1:Nat):Int))=true:=decide_eq_true (by omega);unfold cz iz jj;cases n1:gf (bz k)with
 |true=>simp_arith [ft,fG,j_,at2,hu,l2,l3,g1,hx0,g3,g4,g5,c2,hk,Oe,nR,ok,n1]
 |false=>
  have hb:b=false:=h.resolve_left fun z=>by rw[z]at n1;cases n1
  subst hb;simp_arith [ft,fG,j_,at2,hu,l2,l3,g1,hx0,g3,g4,g5,c2,hk,Oe,nR,ok,n1]
theorem YV{c:Bool}(hu:cN [.str (strOf u)]=.ok (.int n))(hn:1<=n/\n<=5)(hk:bW [a6 (x::dX::t)]=.ok .non):cz [.bl c,.lst false (.str (strOf u)::.str (strOf x)::.str (strOf dX)::t.map wD)]=.ok .non:=by
 have ft:=bQ t;have g3:=decide_eq_true hn.1;have g4:=decide_eq_true hn.2;have hk:bW [.lst false (.str (strOf x)::.str (strOf dX)::t.map wD)]=_:=hk;generalize t.map wD=T at ft hk ⊢;have c2:cut (D.str (strOf u)::.str (strOf x)::.str (strOf dX)::T) (some 1) none=.str (strOf x)::.str (strOf dX)::T:=cM _ 1 (by simp);have l2:decide (((T.length+1+1+1:Nat):Int)<2)=false:=decide_eq_false (by omega);have l3:decide (2<((T.length+1+1+1:Nat):Int))=true:=decide_eq_true (by omega);unfold cz iz jj;simp_arith [ft,fG,j_,at2,hu,l2,l3,g3,g4,c2,hk,Oe,nR]
theorem OE{c:Bool}(hu:cN [.str (strOf u)]=.ok (.int n))(hn:1<=n/\n<=5)(hk:bW [a6 [x]]=.ok .non):cz [.bl c,.lst false [.str (strOf u),.str (strOf x)]]=.ok .non:=by
 have g3:=decide_eq_true hn.1;have g4:=decide_eq_true hn.2;have hk:bW [.lst false [.str (strOf x)]]=_:=hk;have c2:cut [D.str (strOf u),.str (strOf x)] (some 1) none=[.str (strOf x)]:=cM _ 1 (by simp);unfold cz iz jj;simp_arith [fG,j_,hu,g3,g4,c2,hk,nR]
theorem LP(hv:W v)(t:List (List Nat))(h:W x\/(x=a8/\cS [a6 t]=.ok .non)):gp [a6 (v::x::t)]=.ok .non:=by
 have g:=lO (strOf v);rw[hv]at g;have ft:=bQ t;show gp [.lst false (.str (strOf v)::.str (strOf x)::t.map wD)]=_;rcases h with h|⟨rfl,h⟩
 ·have gt:=(nT h).2;generalize t.map wD=T at ft ⊢;have l2:decide (((T.length+1+1:Nat):Int)<2)=false:=decide_eq_false (by omega);unfold gp mQ qp;simp_arith [ft,fG,j_,l2,g,gt]
 ·have gt:=Og .In;have h:cS [.lst false (t.map wD)]=_:=h;generalize t.map wD=T at ft h ⊢;have c2:cut (D.str (strOf v)::.str (strOf a8)::T) (some 2) none=T:=cM _ 2 (by simp);have l2:decide (((T.length+1+1:Nat):Int)<2)=false:=decide_eq_false (by omega);unfold gp mQ qp;simp_arith [ft,fG,j_,l2,g,gt,c2,h]
theorem YW(h:W a):cG [a6 [a]]=.ok .non:=by
 have hs:=szl;have e1:=(nA h).1;have e5:=(nT h).1;have c0:cut [D.str (strOf a)] none (some 2)=[.str (strOf a)]:=iN _ 2;have e2:bK .Eq (.lst true [D.str (strOf a)]) (.lst true [.str "at",.str "least"])=.ok (.bl false):=by
  have n:=h.nk (v:=eS) (by decide);rw[pP rfl rfl];show R.ok (D.bl ((strOf a==aq "at")&&false))=_;rw[gi]
 have e3:(strOf a==aq "just")=false:=by rw[show aq "just"=strOf jI by decide +kernel];exact h.nk (by decide)
 have e4:(strOf a==aq "then")=false:=by rw[show aq "then"=strOf dZ by decide +kernel];exact h.nk (by decide)
 show cG [.lst false [.str (strOf a)]]=_;unfold cG iY jG;simp_arith [fG,e1,c0,e2,e3,e4,e5]
theorem Sh(h:W a):cG [a6 [eS,a]]=.ok .non:=by
 have hs:=szl;have e1:bK .In (.str (strOf eS)) (bz (.cst sV))=.ok (.bl false):=by kernel_rfl
 have e5:bK .In (.str (strOf eS)) (bz (.cst nq))=.ok (.bl false):=by kernel_rfl
 have c0:cut [D.str (strOf eS),.str (strOf a)] none (some 2)=[.str (strOf eS),.str (strOf a)]:=iN _ 2;have e2:bK .Eq (.lst true [D.str (strOf eS),.str (strOf a)]) (.lst true [.str "at",.str "least"])=.ok (.bl false):=by
  have n:=h.nk (v:=dQ) (by decide);rw[pP rfl rfl,show aq "least"=strOf dQ by decide +kernel];show R.ok (D.bl ((strOf eS==aq "at")&&((strOf a==strOf dQ)&&true)))=_;rw[n,jd,gi]
 have e3:(strOf eS==aq "just")=false:=by decide +kernel
 have e4:(strOf eS==aq "then")=false:=by decide +kernel
 show cG [.lst false [.str (strOf eS),.str (strOf a)]]=_;unfold cG iY jG;simp_arith [fG,e1,c0,e2,e3,e4,e5]
theorem Tj(h:W w):cN [.str (strOf w)]=.ok .non:=by
 refine Xd _ ?_;have hw:=h;unfold W isWord at hw;simp only[bu,decide_eq_true_eq]at hw;obtain⟨⟨⟨h1,_⟩,h3⟩,_⟩:=hw;have h3:∀c∈w,97<=c/\c<=122:=fun c hc=>by
  have:=bF.mp h3 c hc;simpa using this
 cases w with
 |nil=>exact absurd rfl h.nn
 |cons a r=>
  have ha:=h3 a ao;have ef:mU (strOf (a::r))=strOf (a::r):=by
   unfold mU;rw[if_neg];rw[show(strOf (a::r)).cps.toList=a::r from rfl,HM fun s e=>by have:=(jA e).1;omega];decide
  rw[ef];unfold sW;have:k_ 48 57 (strOf (a::r))=false:=by
   show((decide (48<=a)&&decide (a<=57))&&_)=false;rw[decide_eq_false (show ¬a<=57 by omega),gi,jd]
  rw[this,gi,jd]
theorem Vp(h:W a):dj [a6 [gZ,a]]=.ok .non:=by
 have qc:d9 [.lst false [.str (strOf a)]]=.ok (.lst true [.str (strOf a)]):=S6 a;have qn:=Tj h;have q:dg (pG (.name 0)) (fun _=>.ok true) (pE dP (.call 0 (.cons (.var 0) .nil))) [.str (strOf a)] [none]=.ok [.non]:=by
  refine iy wD (fun O=>∃o,O=[o]) (fun _=>.non) [a] _ ⟨none,rfl⟩ ?_;rintro w hw O ⟨o,rfl⟩;rw[aW.mp hw];refine⟨[some (wD a)],rfl,⟨_,rfl⟩,?_⟩;unfold dP wD;simp_arith [qn]
 have n0:bK .Eq (.lst false [.str (strOf gZ),.str (strOf a)]) (.lst true [])=.ok (.bl false):=rfl;have c1:cut [D.str (strOf gZ),.str (strOf a)] (some 1) none=[.str (strOf a)]:=cM _ 1 (by simp);have m0:bK .In .non (.lst false [.non])=.ok (.bl true):=rfl;unfold dP at q;show dj [.lst false [.str (strOf gZ),.str (strOf a)]]=_;unfold dj k8 dP;simp_arith [n0,fG,Zo,c1,qc,q,m0]
variable{c:List Nat}
theorem Xx(h:W c):b5 [a6 [iC,c]]=.ok .non:=by
 have hs:=szl;have A:∀p∈([(iC,none),(c,none)]:List NP),mO p.1 p.2:=all2 S7 (Tj h);have f:dg _ _ _ [D.str (strOf iC),.str (strOf c)] [none]=R.ok [D.str (strOf iC),.str (strOf c)]:=qE _ A;have g:dg _ _ _ [D.str (strOf iC),.str (strOf c)] [none]=R.ok []:=qF _ A;have n:=h.ne;have e:bK .Eq (.lst false [D.str (strOf iC),.str (strOf c)]) (.lst true [.str "of",.str (strOf [])])=.ok (.bl false):=by
  rw[pP rfl rfl];show R.ok (D.bl ((strOf iC==aq "of")&&((strOf c==strOf [])&&true)))=_;rw[n,jd,gi]
 have e2:bK .Eq (.lst false [D.str (strOf iC),.str (strOf c)]) (.lst true [.str "at",.str "least",.str (strOf [])])=.ok (.bl false):=by kernel_rfl
 have e3:bK .Eq (.lst false [D.str (strOf iC),.str (strOf c)]) (.lst true [.str "at",.str "most",.str (strOf [])])=.ok (.bl false):=by kernel_rfl
 have e4:bK .Eq (.lst false [D.str (strOf iC),.str (strOf c)]) (.lst true [.str "from",.str (strOf []),.str "to",.str (strOf [])])=.ok (.bl false):=by kernel_rfl
 show b5 [.lst false [.str (strOf iC),.str (strOf c)]]=_;unfold b5 iK;simp_arith [nR,f,g,e,e2,e3,e4]
theorem F7(h:b5 [a6 t]=.ok .non):gn [fZ l k,wD v,a6 t]=.ok .non:=by
 have fr:=bQ t;have h:b5 [.lst false (t.map wD)]=_:=h;show gn [.tup [.str (strOf l),.str (strOf k)],.str (strOf v),.lst false (t.map wD)]=_;generalize t.map wD=r at h fr ⊢;unfold gn qo uP;simp_arith [fr,h]
noncomputable def tab(a b c e u:List Nat):List (List (List Nat)):=[[a8],[a8,a],[a8,a,b],[a8,a,b,c],[aL],[aL,dX,b],[aL,a,dX],[aL,a8],[a],[[97,110],gZ],[aL,a,dX,a],[aL,a,b,c],[aL,a,b,dX,b],[[65],a],[aL,a,dX,b,dX,c,dX,e],[aL,(a++[49])],[aL,u],[eS,a],[eS,dQ,a],[eS,dQ,[48],a],[eS,dQ,[54],a],[eS,dQ,[48,49],a],[eS,dQ,[50]],[eS,nu,[50],a],[jI,a],[jI,[50]],[jI,[45,49],a],[jI,[54],a],[jI,[50],[51],a],[dY,a],[a8,a,b,a8],[a8,a,a8,b],[a8,b,c,a,b,a8,a],[a8,a,b,a8,a,b,c],[a8,a,b,fQ,[50],toL,[49]],[a8,a,iC,[49]],[a8,a,b,fQ,[49]],[a8,a,b,fQ,[49],toL],[a8,a,b,eS,dQ],[a8,a,b,iC,c],[a8,a,b,iC,[45,48]],[a8,a,b,iC,[48,48]],[a8,a,b,iC,[49],[49]],[a8,a,b,iC,[49,49,49,49,49,49,49,49,49,49,49,49,49,49,49,49,49,49,49,49,49,49,49,49,49,49,49,49,49,49,49]],[a8,a,b,dQ,[49]],[a8,a,b,eS,[49]],[a8,a,b,fQ,[49],dX,[50]],[a8,a,dY,a],[a8,a,dY,aL],[a8,a,dY,a8,b],[a8,a,dY,aL,b,dX,b],[dZ],[a8,dY,aL,a],[a8,a,b,c,dY,aL,b],[a8,a,dY,aL,b,c],[dZ,a],[dZ,a,b],[dZ,a8,a],[dZ,a,a8],[dZ,aL,a8,a],[dZ,a,a8,b,c,a],[dZ,gZ,a8,a],[aX,aX],[aX,gZ],[aX,[49]],[aX,gZ,[48],[49]],[aX,gZ,[48],dX],[[99,108,97,105,109,115]],[aX,gZ,a],[aX,gZ,[48,49]],[aX,gZ,[45,49]],[aX,gZ,[48],dX,[48]],[aX,gZ,[49],dX,[48]],[aX,dX,[49]]]
theorem rQ(ha:W a):∀w∈[a],W w:=by simpa using ha
theorem YX{b:List Nat}(ha:W a)(hb:W b):∀w∈[a,b],W w:=all2 ha hb
theorem Tn{b:List Nat}(ha:W a)(hb:W b)(hc:W c):∀w∈[a,b,c],W w:=Bm ha hb hc
theorem YY{b d:List Nat}(ha:W a)(hb:W b)(hc:W c)(hd:W d):∀w∈[a,b,c,d],W w:=RX ha hb hc hd
theorem hA:(strOf aL==strOf aX)=false:=by decide +kernel
theorem hT:(strOf a8==strOf aX)=false:=by decide +kernel
theorem k1(h:W x):bW [a6 [x]]=.ok (.lst true [wD x]):=zW (ks:=[x]) ⟨rQ h,by simp,rfl⟩
theorem r1(h:W x):cS [a6 [x]]=.ok (fZ [] x):=Cp (l:=[]) ⟨.inl rfl,h⟩
variable{e:List Nat}
theorem Vq{b:List Nat}(ha:W a)(hb:W b)(hc:W c)(h1:isWord (strOf (a++[49]))=false)(hu:isWord (strOf u)=false):∀ws∈tab a b c e u,AM ws:=by
 have key:∀{p:List (List Nat)}{l:List (List (List Nat))},AM p->(∀x∈l,AM x)->∀x∈p::l,AM x:=fun hp hl=>pZ hp hl;refine key (.r (by decide +kernel) (by kernel_rfl)) ?_;refine key (.r hT (eN ⟨_,_,rfl⟩ (H_ [a] (rQ ha) (by simp)))) ?_;refine key (.r hT (eN ⟨_,_,rfl⟩ (H_ [a,b] (YX ha hb) (by simp)))) ?_;refine key (.r hT (eN ⟨_,_,rfl⟩ (H_ [a,b,c] (Tn ha hb hc) (by simp)))) ?_;refine key (.r (by decide +kernel) (by kernel_rfl)) ?_;refine key (.r hA (wx rfl (by simp) (Cy (n:=1) (t:=[]) (by kernel_rfl) ⟨by decide,by decide⟩ hb (by decide +kernel) (k1 hb) rfl rfl (.inr (by decide +kernel))))) ?_
 iterate 2 (refine key (.r (by decide +kernel) (by kernel_rfl)) ?_)
 refine key (.r (ha.nk (by decide)) (YW ha)) ?_;refine key (.r (by decide +kernel) (by kernel_rfl)) ?_;refine key (.r hA (wx rfl (by simp) (YV (n:=1) (t:=[a]) (by kernel_rfl) ⟨by decide,by decide⟩ (Ia ha)))) ?_;refine key (.r hA (wx rfl (by simp) (Cy (n:=1) (k:=.non) (t:=[c]) (by kernel_rfl) ⟨by decide,by decide⟩ hb ha.ne (by kernel_rfl) rfl rfl (.inl rfl)))) ?_;refine key (.r hA (wx rfl (by simp) (Cy (n:=1) (k:=.non) (t:=[dX,b]) (by kernel_rfl) ⟨by decide,by decide⟩ hb ha.ne (Ia hb) rfl rfl (.inl rfl)))) ?_
 iterate 2 (refine key (.r (by decide +kernel) (by kernel_rfl)) ?_)
 refine key (.r hA (wx rfl (by simp) (OE (n:=1) (by kernel_rfl) ⟨by decide,by decide⟩ (Ti h1)))) ?_;refine key (.r hA (wx rfl (by simp) (OE (n:=1) (by kernel_rfl) ⟨by decide,by decide⟩ (Ti hu)))) ?_;refine key (.r (by decide +kernel) (Sh ha)) ?_
 iterate 10 (refine key (.r (by decide +kernel) (by kernel_rfl)) ?_)
 refine key (.r (by decide +kernel) (HP rfl (Cy (n:=2) (t:=[]) (by kernel_rfl) ⟨by decide,by decide⟩ ha (by decide +kernel) (k1 ha) rfl rfl (.inr (by decide +kernel))))) ?_;refine key (.r (by decide +kernel) (by kernel_rfl)) ?_;refine key (.r hT (eN ⟨_,_,rfl⟩ (lP (l:=[]) (J:=true) ⟨.inl rfl,ha⟩ hb Cq (by decide +kernel) (by kernel_rfl) (fun _=>by kernel_rfl) (by intro z;cases z)))) ?_;refine key (.r hT (eN ⟨_,_,rfl⟩ (LO [a] a8 [b] (rQ ha) (by simp) Cq (by decide +kernel) (.inl (by simp))))) ?_;refine key (.r hT (eN ⟨_,_,rfl⟩ (LO [b,c,a,b] a8 [a] (YY hb hc ha hb) (by simp) Cq (by decide +kernel) (.inr (by kernel_rfl))))) ?_;refine key (.r hT (eN ⟨_,_,rfl⟩ (lP (l:=[]) (J:=true) ⟨.inl rfl,ha⟩ hb Cq (by decide +kernel) (by kernel_rfl) (fun _=>by kernel_rfl) (by intro z;cases z)))) ?_;refine key (.r hT (eN ⟨_,_,rfl⟩ (lP (l:=[]) (J:=false) ⟨.inl rfl,ha⟩ hb (by decide +kernel) (by decide +kernel) (by kernel_rfl) (by intro z;cases z) (fun _=>F7 (by kernel_rfl))))) ?_;refine key (.r hT (eN ⟨_,_,rfl⟩ (LO [a] iC [[49]] (rQ ha) (by simp) Xj (by decide +kernel) (.inl (by simp))))) ?_
 iterate 3 (refine key (.r hT (eN ⟨_,_,rfl⟩ (lP (l:=[]) (J:=false) ⟨.inl rfl,ha⟩ hb (by decide +kernel) (by decide +kernel) (by kernel_rfl) (by intro z;cases z) (fun _=>F7 (by kernel_rfl))))) ?_)
 refine key (.r hT (eN ⟨_,_,rfl⟩ (lP (l:=[]) (J:=false) ⟨.inl rfl,ha⟩ hb (by decide +kernel) (by decide +kernel) (by kernel_rfl) (by intro z;cases z) (fun _=>F7 (Xx hc))))) ?_
 iterate 7 (refine key (.r hT (eN ⟨_,_,rfl⟩ (lP (l:=[]) (J:=false) ⟨.inl rfl,ha⟩ hb (by decide +kernel) (by decide +kernel) (by kernel_rfl) (by intro z;cases z) (fun _=>F7 (by kernel_rfl))))) ?_)
 refine key (.r hT (eN ⟨_,_,rfl⟩ (wH [a] [a] (rQ ha) (by simp) (wJ (y:=.non) (r1 ha) (by kernel_rfl) (nA ha).2 rfl rfl (.inr (.inl rfl)))))) ?_;refine key (.r hT (eN ⟨_,_,rfl⟩ (wH [a] [aL] (rQ ha) (by simp) (wJ (y:=.non) (r1 ha) (by kernel_rfl) DJ rfl rfl (.inr (.inl rfl)))))) ?_;refine key (.r hT (eN ⟨_,_,rfl⟩ (wH [a] [a8,b] (rQ ha) (by simp) (wJ (b:=true) (r1 ha) (k1 hb) (by kernel_rfl) rfl rfl (.inr (.inr rfl)))))) ?_;refine key (.r hT (eN ⟨_,_,rfl⟩ (wH [a] [aL,b,dX,b] (rQ ha) (by simp) (wJ (r1 ha) (Ia hb) DJ rfl rfl (.inr (.inl rfl)))))) ?_;refine key (.r (by decide +kernel) (by kernel_rfl)) ?_;refine key (.r hT (eN ⟨_,_,rfl⟩ (wH [] [aL,a] (by simp) (by simp) (wJ (x:=.non) (by kernel_rfl) (k1 ha) DJ rfl rfl (.inl rfl))))) ?_;refine key (.r hT (eN ⟨_,_,rfl⟩ (wH [a,b,c] [aL,b] (Tn ha hb hc) (by simp) (wJ (x:=.non) (by kernel_rfl) (k1 hb) DJ rfl rfl (.inl rfl))))) ?_;refine key (.r hT (eN ⟨_,_,rfl⟩ (wH [a] [aL,b,c] (rQ ha) (by simp) (wJ (y:=.non) (r1 ha) (by kernel_rfl) DJ rfl rfl (.inr (.inl rfl)))))) ?_;refine key (.r (by decide +kernel) (by kernel_rfl)) ?_;refine key (.r (by decide +kernel) (wy rfl (LP ha [] (.inl hb)))) ?_;refine key (.r (by decide +kernel) (by kernel_rfl)) ?_;refine key (.r (by decide +kernel) (wy rfl (LP ha [] (.inr ⟨rfl,by kernel_rfl⟩)))) ?_;refine key (.r (by decide +kernel) (by kernel_rfl)) ?_;refine key (.r (by decide +kernel) (wy rfl (LP ha [b,c,a] (.inr ⟨rfl,by kernel_rfl⟩)))) ?_;refine key (.r (by decide +kernel) (by kernel_rfl)) ?_
 iterate 5 (refine key (.c (by kernel_rfl)) ?_)
 refine key (.r (by decide +kernel) (by kernel_rfl)) ?_;refine key (.c (Vp ha)) ?_
 iterate 5 (refine key (.c (by kernel_rfl)) ?_)
 exact fun _ z=>nomatch z
noncomputable def ap(v r:List Nat):List Nat:=match r with
|[]=>v
|x::l=>v++x::l
theorem YZ(v r:List Nat):ap v r=v++r:=by cases r<;>simp[ap]
noncomputable def tx:Nat->(Nat->Option (List Nat))->CE->List Nat->Option (List Nat)
|_+1,_,.con (.str s),r=>some (s.cps.toList++r)
|_+1,E,.var i,r=>(E i).map fun v=>ap v r
|n+1,E,.bin .Add x y,r=>(tx n E y r).bind fun m=>tx n E x m
|_+1,_,.bin .Mult (.con (.str s)) (.con (.int k)),r=>if s.cps.toList=[49]/\k=31 then some (aO 31 49++r)else none
|_,_,_,_=>none
noncomputable def Ko:Nat->(Nat->Option (List Nat))->iP->Option (List (List Nat))
|_+1,_,.nil=>some []
|n+1,E,.cons a r=>(tx 20 E a []).bind fun u=>(Ko n E r).map fun l=>u::l
|_,_,_=>none
section
variable{Y:List PG}{O:br}{E:Nat->Option (List Nat)} (hE:∀i v,E i=some v->pE Y (.var i) O=.ok (wD v))
include hE
theorem LQ:∀(n:Nat) (e:CE) (r out:List Nat),tx n E e r=some out->out.length<=1000->∃u,pE Y e O=.ok (wD u)/\out=u++r:=by
 intro n;induction n with
 |zero=>intro e r out h;cases h
 |succ n ih=>
  intro e r out h hl;cases e
  case var i=>
   have h:(E i).map (fun v=>ap v r)=some out:=h;cases q:E i with
   |none=>rw[q]at h;cases h
   |some v=>
    rw[q]at h;exact⟨v,hE i v q,(bJ h).symm.trans (YZ v r)⟩
  case con v=>
   cases v<;>try (cases h;done)
   rename_i s;have h:some (s.cps.toList++r)=some out:=h;refine⟨s.cps.toList,?_,(bJ h).symm⟩;rfl
  case bin op x y=>
   cases op<;>try (cases h;done)
   case Mult=>
    cases x<;>try (cases h;done)
    rename_i v1;cases v1<;>try (cases h;done)
    rename_i s;cases y<;>try (cases h;done)
    rename_i v2;cases v2<;>try (cases h;done)
    rename_i k;have h:(if s.cps.toList=[49]/\k=31 then some (aO 31 49++r)else none)=some out:=h;by_cases c:s.cps.toList=[49]/\k=31
    ·rw[if_pos c]at h;refine⟨_,?_,(bJ h).symm⟩;have e:s=strOf [49]:=(show s=strOf s.cps.toList from rfl).trans (by rw[c.1]);rw[e,c.2];kernel_rfl
    ·rw[if_neg c]at h;cases h
   have h:(tx n E y r).bind (fun m=>tx n E x m)=some out:=h;cases q:tx n E y r with
   |none=>rw[q]at h;cases h
   |some m=>
    rw[q]at h;have h:tx n E x m=some out:=h;obtain⟨u,q1,e1⟩:=ih x m out h hl;have hm:m.length<=1000:=by rw[e1,ak]at hl;omega
    obtain⟨v,q2,e2⟩:=ih y r m q hm;refine⟨u++v,?_,by rw[e1,e2,a_]⟩;rw[nJ,q1,q2];show dN .Add (.str (strOf u)) (.str (strOf v))=_;refine iB u v ?_;rw[e2,ak]at hm;rw[e1,ak]at hl;omega
  all_goals cases h
theorem Cz:∀(n:Nat) (es:iP) (L:List (List Nat)),Ko n E es=some L->(∀w∈L,w.length<=1000)->dW Y es O=.ok (L.map wD):=by
 intro n;induction n with
 |zero=>intro es L h;cases h
 |succ n ih=>
  intro es L h hl;cases es with
  |nil=>rw[<-bJ (show some []=some L from h)];rfl
  |cons a r=>
   have h:(tx 20 E a []).bind (fun u=>(Ko n E r).map fun l=>u::l)=some L:=h;cases q:tx 20 E a []with
   |none=>rw[q]at h;cases h
   |some u=>
    rw[q]at h;have h:(Ko n E r).map (fun l=>u::l)=some L:=h;cases q2:Ko n E r with
    |none=>rw[q2]at h;cases h
    |some l=>
     rw[q2]at h;have h:u::l=L:=bJ h;subst h;obtain⟨v,q3,e3⟩:=LQ hE 20 a [] u q (hl u ao);rw[dm]at e3;subst e3;rw[oB,q3,ih r l q2 fun w hw=>hl w (ai _ hw)];rfl
end
noncomputable def env(a b c t:List Nat):Nat->Option (List Nat)
|2=>some a
|3=>some b
|4=>some c
|5=>some t
|_=>none
noncomputable abbrev oS(s0 s1:Option D)(a b c t:List Nat)(x6 s7:Option D):br:=[s0,s1,some (wD a),some (wD b),some (wD c),some (wD t),x6,s7]
theorem vt(s0 s1 x6 s7:Option D)(a b c t:List Nat):∀i v,env a b c t i=some v->pE Y (.var i) (oS s0 s1 a b c t x6 s7)=.ok (wD v):=by
 intro i v h;rcases i with _|_|_|_|_|_|i
 ·cases h
 ·cases h
 ·rw[<-bJ (show some a=some v from h)];rfl
 ·rw[<-bJ (show some b=some v from h)];rfl
 ·rw[<-bJ (show some c=some v from h)];rfl
 ·rw[<-bJ (show some t=some v from h)];rfl
 ·cases h
variable{T:List (List (List Nat))}
variable{es:iP}
section
variable{Y:List PG}{N:Nat}{rest:cC}{s0 s1 s7 x6:Option D}{a b c t:List Nat}
theorem Vr{m n:Nat}:(T.take m).map jn++((T.drop m).take n).map jn=(T.take (m+n)).map jn:=by rw[<-bR,List.take_add]
theorem OF(hT:∀ws∈T,(jn ws).length<=1000)(m n:Nat):∀w∈((T.drop m).take n).map jn,w.length<=1000:=fun w hw=>by
 obtain⟨ws,h,rfl⟩:=b7.mp hw;exact hT ws (wX (wY h))
theorem sG(q:dW Y es O=.ok (L.map wD))(hl:L.length<=1000):pE Y (.lst es) O=.ok (.lst true (L.map wD)):=by
 have hs:=szl;rw[G_,q];show R.bw (decide ((L.map wD).length<=aa)) _=_;rw[decide_eq_true (by rw[ah,hs];omega)];rfl
theorem Ib{e:CE}(m n:Nat)(hl:T.length<=500)(q:pE Y e (oS s0 s1 a b c t (some (.lst true (((T.take m).map jn).map wD))) s7)=.ok (.lst true ((((T.drop m).take n).map jn).map wD))) :
  cU Y N (.cons (.asg (.name 6) (.bin .Add (.var 6) e)) rest) (oS s0 s1 a b c t (some (.lst true (((T.take m).map jn).map wD))) s7)=cU Y N rest (oS s0 s1 a b c t (some (.lst true (((T.take (m+n)).map jn).map wD))) s7):=by
 have hs:=szl;rw[<-Vr];have l1:((T.take m).map jn).length<=500:=by rw[ah,b9];omega
 have l2:(((T.drop m).take n).map jn).length<=500:=by rw[ah,b9,c9];omega
 generalize(T.take m).map jn=L at *;generalize((T.drop m).take n).map jn=L' at *;rw[oE,Be,nJ,q];have e:(pE Y (.var 6) (oS s0 s1 a b c t (some (.lst true (L.map wD))) s7))=.ok (.lst false (L.map wD)):=by
  show R.ok (D.lst false (aB (L.map wD)))=_;rw[bQ]
 rw[e];show nH ((dN .Add (.lst false (L.map wD)) (.lst true (L'.map wD))).aT _) _=_;rw[nN (by rw[ah,ah,hs];omega),bQ,bQ,<-bR];show nH (.nx ((iw _ (cE ((L++L').map wD)) _).set 6 _)) _=_;rw[h_];rfl
theorem lS(m n:Nat)(hT:∀ws∈T,(jn ws).length<=1000)(hl:T.length<=500)(q:Ko 20 (env a b c t) es=some (((T.drop m).take n).map jn)) :
  cU Y N (.cons (.asg (.name 6) (.bin .Add (.var 6) (.lst es))) rest) (oS s0 s1 a b c t (some (.lst true (((T.take m).map jn).map wD))) s7)=cU Y N rest (oS s0 s1 a b c t (some (.lst true (((T.take (m+n)).map jn).map wD))) s7):=
 Ib m n hl (sG (Cz (vt _ _ _ _ _ _ _ _) 20 es _ q (OF hT m n)) (by rw[ah,b9,c9];omega))
theorem vv{e:CE}(q:pE Y e O=.ok d)(ho:aV d=true):cU Y N (.cons (.asg (.name i) e) rest) O=cU Y N rest (O.set i (some d)):=by
 rw[oE,Be,q];show nH (.nx ((iw _ (aV d) _).set i _)) _=_;rw[ho];rfl
noncomputable def qq(c:List Nat):List (List Nat):=[[32,102,114,111,109,32,49],[32,102,114,111,109,32,49,32,116,111],[32,97,116,32,108,101,97,115,116],[32,111,102,32]++c,[32,111,102,32,45,48],[32,111,102,32,48,48],[32,111,102,32,49,32,49],[32,111,102,32]++aO 31 49]
noncomputable def CA:List (List Nat):=[[32,108,101,97,115,116,32,49],[32,97,116,32,49],[32,102,114,111,109,32,49,32,111,114,32,50]]
theorem Vs{E2:List (List Nat)}{E1:List (List Nat)}(h7:O.getD 7 none=some (.lst true (E1.map wD)))(h3:O.getD 3 none=some (wD b))(h5:O.getD 5 none=some (wD t))(q:dW Y es O=.ok (E2.map wD))(hb:b.length<=100)(ht:t.length<=100)(hE:∀w∈E1++E2,w.length<=100)(hl:E1.length+E2.length<=100) :
  pE Y (.comp ["_law_end"] [3,5] (.bin .Add (.bin .Add (.bin .Add (.var 2) (.con (.str " "))) (.var 1)) (.var 0)) (.name 0) (.seq (.bin .Add (.var 7) (.lst es))) .none) O=.ok (.lst true ((E1++E2).map fun w=>wD (t++([32]++(b++w))))):=by
 have hs:=szl;have e7:pE Y (.var 7) O=.ok (.lst false (E1.map wD)):=by
  rw[G9];unfold B8;rw[b8]at h7;cases g:O[7]? with
  |none=>rw[g]at h7;cases h7
  |some x=>
   rw[g]at h7;have h7:x=_:=h7;subst h7;show R.ok (D.lst false (aB (E1.map wD)))=_;rw[bQ]
 have eI:pI Y (.seq (.bin .Add (.var 7) (.lst es))) O=.ok (true,(E1++E2).map wD):=by
  rw[Hf,nJ,e7,sG q (by omega)];show((dN .Add (.lst false (E1.map wD)) (.lst true (E2.map wD))).bind _)=_;rw[nN (by rw[ah,ah,hs];omega),bQ,bQ,<-bR];show(pN (.lst true ((E1++E2).map wD))).bind (fun ds=>R.ok (cE ((E1++E2).map wD),ds))=_;rw[h_];show R.ok (true,aB ((E1++E2).map wD))=_;rw[bQ]
 have key:dg (pG (.name 0)) (pC Y .none) (pE Y (.bin .Add (.bin .Add (.bin .Add (.var 2) (.con (.str " "))) (.var 1)) (.var 0))) ((E1++E2).map wD) [none,some (wD b),some (wD t)]=.ok ((E1++E2).map fun w=>wD (t++([32]++(b++w)))):=by
  refine iy wD (fun O=>∃o,O=[o,some (wD b),some (wD t)]) _ _ _ ⟨none,rfl⟩ ?_;rintro w hw O ⟨o,rfl⟩;refine⟨[some (wD w),some (wD b),some (wD t)],rfl,⟨_,rfl⟩,?_⟩;have:=hE w hw;rw[nJ,nJ,nJ];show((((dN .Add (.str (strOf t)) (.str (strOf [32]))).bind fun x=>(R.ok (wD b)).bind fun y=>dN .Add x y)).bind fun x=>(R.ok (wD w)).bind fun y=>dN .Add x y)=_;rw[iB _ _ (by simp;omega)];show((dN .Add (.str (strOf _)) (.str (strOf b)))).bind _=_;rw[iB _ _ (by simp;omega)];rw[<-a_,<-a_];exact iB _ _ (by simp;omega)
 rw[EF,eI];show(dg (pG (.name 0)) (pC Y .none) _ ((E1++E2).map wD) [none,O.getD 3 none,O.getD 5 none]).fy.bind _=_;rw[h3,h5,key];rfl
end
noncomputable def Zr(w:List Nat):Bool:=!w.isEmpty&&!w.contains 32&&!w.contains 10&&decide (w.length<=40)
theorem lit(w:List Nat)(h:Zr w=true):fR w:=by
 unfold Zr at h;simp only[bu,rm,decide_eq_true_eq]at h;obtain⟨⟨⟨h1,h2⟩,h3⟩,h4⟩:=h;exact⟨fun z=>(by rw[z]at h1;cases h1),fun z=>(by rw[vM.mpr z]at h2;cases h2),fun z=>(by rw[vM.mpr z]at h3;cases h3),h4⟩
def jY(ws:List (List Nat)):Prop:=(∀w∈ws,fR w)/\ws.length<=12
theorem Xy{b:List Nat}(ha:W a)(hb:W b)(hc:W c)(he:W e)(h1:fR (a++[49]))(hu:fR u):∀ws∈tab a b c e u,jY ws:=by
 have key:∀{p:List (List Nat)}{l:List (List (List Nat))},jY p->(∀x∈l,jY x)->∀x∈p::l,jY x:=fun hp hl=>pZ hp hl;unfold tab
 repeat' first|refine key ⟨?_,by simp⟩ ?_|refine jK ?_ ?_|exact ha.ok|exact hb.ok|exact hc.ok|exact he.ok|exact h1|exact hu|exact lit _ (by decide)|exact fun _ z=>nomatch z
theorem W.cs(h:W w):(∀c∈w,97<=c/\c<=122)/\1<=w.length/\w.length<=8:=by
 unfold W isWord at h;simp only[bu,decide_eq_true_eq,gv]at h;obtain⟨⟨⟨h1,h2⟩,h3⟩,_⟩:=h;exact⟨fun c hc=>by
  have:=bF.mp h3 c hc;simpa using this,h1,h2⟩
noncomputable def s_(w:List Nat):List Nat:=w.map BB
theorem To(h:W w):nW (strOf w)=strOf (s_ w):=by
 rw[IG fun c hc=>by have:=h.cs.1 c hc;omega];unfold strOf s_;simp
theorem Kp{c:Nat}(hc:c∈w)(h:¬(97<=c/\c<=122)):isWord (strOf w)=false:=by
 have:k_ 97 122 (strOf w)=false:=by
  unfold k_;rw[List.all_eq_false];exact⟨c,hc,by simpa using h⟩
 unfold isWord;rw[this,gi,jd]
theorem Tp(h:W w):∀c∈s_ w,65<=c/\c<=90:=fun c hc=>by
 obtain⟨d,hd,rfl⟩:=b7.mp hc;have:=h.cs.1 d hd;unfold BB;rw[if_pos this];omega
theorem Y0(h:W w):isWord (strOf (s_ w))=false:=by
 have q:=Tp h;have l:=h.cs.2.1;cases w with
 |nil=>exact absurd l (by decide)
 |cons a r=>exact Kp ao fun z=>by have:=q _ ao;omega
theorem Y6(h:W w):fR (s_ w):=by
 have q:=Tp h;have l:(s_ w).length=w.length:=ah _;have:=h.cs;exact⟨fun z=>by rw[z]at l;have l:0=w.length:=l;omega,fun z=>by have:=q _ z;omega,fun z=>by have:=q _ z;omega,by omega⟩
theorem Y7:isWord (strOf (w++[49]))=false:=Kp (c:=49) (by simp) (by decide)
theorem Y8(h:W w):fR (w++[49]):=by
 obtain⟨h1,h2,h3,h4⟩:=h.ok;have:=h.cs;exact⟨by simp,by simp[h2],by simp[h3],by simp;omega⟩
theorem Tq(s d:Int)(h0:0<=s)(hd:0<=d/\d<800000000):∃ws,AM ws/\jY ws/\DE [.int s,.int d]=.ok (.str (strOf (jn ws))):=by
 have hs:=szl;have m26:=cA d (b:=26) (by decide);have m74:=cA (d / 26) (b:=74) (by decide);have ha:=wz s (d%26) h0 m26.1;have hb:=wz s (d%26+1) h0 (by omega);have hc:=wz s (d%26+2) h0 (by omega);have he:=wz s (d%26+3) h0 (by omega);have qa:=oO s (d%26) h0 (by omega);have qb:=oO s (d%26+1) h0 (by omega);have qc:=oO s (d%26+2) h0 (by omega);have qe:=oO s (d%26+3) h0 (by omega);have d1:sD d 26:=⟨by decide,by omega⟩;generalize lw s (d%26)=a at ha qa;generalize lw s (d%26+1)=b at hb qb;generalize lw s (d%26+2)=c at hc qc;generalize lw s (d%26+3)=e at he qe;have bad:=Vq (e:=e) ha hb hc Y7 (Y0 ha);have ok:=Xy ha hb hc he (Y8 ha) (Y6 ha);have le:∀ws∈tab a b c e (s_ a),(jn ws).length<=1000:=fun ws h=>jJ (ok ws h).1 (ok ws h).2;have len:(tab a b c e (s_ a)).length=74:=rfl;obtain⟨T,hT⟩:∃T,T=tab a b c e (s_ a):=⟨_,rfl⟩;obtain⟨t,ht⟩:∃t,t=a8++32::a:=⟨_,rfl⟩;have la:=ha.cs.2.2;have lb:=hb.cs.2.2;have lc:=hc.cs.2.2;have lt:t.length<=20:=by rw[ht];simp[a8];omega
 rw[<-hT]at bad ok le len;have l5:T.length<=500:=by omega
 have key:cU j9 1000 vh [some (.int s),some (.int d),none,none,none,none,none,none]=.rt (wD (jn (T.getD (d / 26%74).toNat []))):=by
  unfold vh;refine(vv (d:=wD a) (by unfold j9;simp_arith [qa]) rfl).trans ?_;refine(vv (d:=wD b) (by unfold j9;simp_arith [qb]) rfl).trans ?_;refine(vv (d:=wD c) (by unfold j9;simp_arith [qc]) rfl).trans ?_;refine(vv (d:=wD t) (by
   obtain⟨u,q,e1⟩:=LQ (Y:=j9) (vt (some (.int s)) (some (.int d)) none none a b c []) 20 (.bin .Add (.con (.str "the ")) (.var 2)) [] t (by rw[ht];kernel_rfl) (by omega);rw[dm]at e1;rw[e1];exact q) rfl).trans ?_
  show cU _ _ _ (oS (some (.int s)) (some (.int d)) a b c t none none)=_;refine(vv (sG (L:=(T.take 10).map jn) (Cz (vt _ _ _ _ _ _ _ _) 20 _ _ (by rw[hT,ht];kernel_rfl) (OF le 0 10)) (by rw[ah,b9];omega)) (h_ _)).trans ?_;show cU _ _ _ (oS (some (.int s)) (some (.int d)) a b c t (some (.lst true (((T.take 10).map jn).map wD))) none)=_;refine(lS 10 4 le l5 (by rw[hT,ht];kernel_rfl)).trans ?_;refine(Ib 14 3 l5 (sG (L:=((T.drop 14).take 3).map jn) (by
   have e15:pE j9 (.bin .Add (.bin .Add (.con (.str "a ")) (.var 2)) (.con (.str "1"))) (oS (some (.int s)) (some (.int d)) a b c t (some (.lst true (((T.take (10+4)).map jn).map wD))) none)=.ok (wD (jn [aL,a++[49]])):=by
    obtain⟨u,q,e1⟩:=LQ (Y:=j9) (vt (some (.int s)) (some (.int d)) (some (.lst true (((T.take (10+4)).map jn).map wD))) none a b c t) 20 (.bin .Add (.bin .Add (.con (.str "a ")) (.var 2)) (.con (.str "1"))) [] (jn [aL,a++[49]]) (by kernel_rfl) (by show(97::32::(a++[49])).length<=1000;simp;omega);rw[dm]at e1;rw[e1];exact q
   have fw:=bQ ((T.take (10+4)).map jn);have e3:((T.drop 14).take 3).map jn=[jn [aL,a,dX,b,dX,c,dX,e],jn [aL,a++[49]],jn [aL,s_ a]]:=by rw[hT];rfl
   rw[e3,oB,oB,oB,e15];have aS:aq "a "=strOf [97,32]:=by decide +kernel
   have oS':aq " or "=strOf [32,111,114,32]:=by decide +kernel
   have qj:jg .join (.str (strOf [32,111,114,32])) [.lst true [.str (strOf a),.str (strOf b),.str (strOf c),.str (strOf e)]]=.ok (.str (strOf (jn [a,dX,b,dX,c,dX,e]))):=by
    have:=s9 [32,111,114,32] [a,b,c,e] true (by simp) (by
     have le:=he.cs.2.2;intro w hw;simp only[aF,aR,or_false]at hw;rcases hw with rfl|rfl|rfl|rfl<;>omega) (by simp)
    rw[zX]at this;exact this
   have cj:dN .Add (.str (strOf [97,32])) (.str (strOf (jn [a,dX,b,dX,c,dX,e])))=.ok (.str (strOf (jn [aL,a,dX,b,dX,c,dX,e]))):=iB _ _ (by
    have le:=he.cs.2.2;simp[jn,dX];omega)
   have qu:jg .upper (.str (strOf a)) []=.ok (.str (strOf (s_ a))):=by
    rw[B7 (by rw[gv];omega) (by rw[To ha,gv,hs];unfold s_;rw[ah];omega),To ha]
   have cu:dN .Add (.str (strOf [97,32])) (.str (strOf (s_ a)))=.ok (.str (strOf (jn [aL,s_ a]))):=iB _ _ (by unfold s_;simp;omega);generalize((T.take (10+4)).map jn).map wD=X at fw ⊢;unfold oS;unfold wD at qe ⊢;unfold j9;simp_arith [fw,qe,aS,oS',qj,cj,qu,cu]) (by rw[ah,b9];omega))).trans ?_
  refine(lS 17 6 le l5 (by rw[hT,ht];kernel_rfl)).trans ?_;refine(lS 23 7 le l5 (by rw[hT,ht];kernel_rfl)).trans ?_;refine(lS 30 3 le l5 (by rw[hT,ht];kernel_rfl)).trans ?_;refine(lS 33 3 le l5 (by rw[hT,ht];kernel_rfl)).trans ?_;have lE:∀w∈qq c++CA,w.length<=100:=by
   have:∀w∈qq c,w.length<=100:=by
    unfold qq;intro w hw;simp only[aF,aR,or_false]at hw;rcases hw with rfl|rfl|rfl|rfl|rfl|rfl|rfl|rfl<;>simp<;>omega
   intro w hw;rcases aY.mp hw with h|h
   ·exact this w h
   ·have:∀w∈CA,w.length<=100:=by decide
    exact this w h
  refine(vv (sG (L:=qq c) (Cz (vt _ _ _ _ _ _ _ _) 20 _ _ (by kernel_rfl) (fun w hw=>by have:=lE w (aN _ hw);omega)) (by simp[qq])) (h_ _)).trans ?_;show cU _ _ _ (oS (some (.int s)) (some (.int d)) a b c t (some (.lst true (((T.take 36).map jn).map wD))) (some (.lst true ((qq c).map wD))))=_;refine(Ib 36 11 l5 (by
   have e:(((T.drop 36).take 11).map jn).map wD=(qq c++CA).map fun w=>wD (t++([32]++(b++w))):=by rw[hT,ht];kernel_rfl
   rw[e];exact Vs (E2:=CA) rfl rfl rfl (Cz (vt _ _ _ _ _ _ _ _) 20 _ _ (by kernel_rfl) (by decide)) (by omega) (by omega) lE (by simp[qq,CA]))).trans ?_
  refine(lS 47 5 le l5 (by rw[hT,ht];kernel_rfl)).trans ?_;refine(lS 52 4 le l5 (by rw[hT,ht];kernel_rfl)).trans ?_;refine(lS 56 4 le l5 (by rw[hT,ht];kernel_rfl)).trans ?_;refine(lS 60 1 le l5 (by rw[hT,ht];kernel_rfl)).trans ?_;refine(lS 61 7 le l5 (by rw[hT,ht];kernel_rfl)).trans ?_;refine(lS 68 6 le l5 (by rw[hT,ht];kernel_rfl)).trans ?_;have eT:T.take (68+6)=T:=di (by omega);rw[eT];have fw:=bQ (T.map jn);have fe:=bQ (qq c);have hlen:((T.map jn).map wD).length=74:=by rw[ah,ah,len]
  have hat:e_ ((T.map jn).map wD) (d / 26%74)=some (wD (jn (T.getD (d / 26%74).toNat []))):=by
   have:d / 26%74=(((d / 26%74).toNat:Nat):Int):=by omega
   rw[this,z_];refine jy ?_;rw[bD,bD,b8,aA (by omega)];rfl
  generalize(T.map jn).map wD=X at fw hlen hat ⊢;generalize(qq c).map wD=aas at fe ⊢;generalize jn (T.getD (d / 26%74).toNat [])=z at hat ⊢;unfold oS;unfold wD at hat ⊢;unfold j9;simp_arith [fw,fe,hlen,hat]
 have hi:(d / 26%74).toNat<T.length:=by omega
 have hm:T.getD (d / 26%74).toNat []∈T:=by
  rw[b8,aA hi];exact gb hi
 refine⟨_,bad _ hm,ok _ hm,?_⟩;show Ba (cU j9 1000 vh [some (.int s),some (.int d),none,none,none,none,none,none])=_;rw[key];rfl
theorem OG(x:Str)(k:Int)(q:eV [.str x]=.ex (uT k)):jT [.str x]=.ok (.tup [.str "row",.int k]):=by
 unfold jT uN AE;unfold uT at q;simp_arith [q];kernel_rfl
theorem Xz{g:D->br->R br}{b:br->Fl}{r:List D}{σ2:br}{x:D}(h1:g d O=.ok σ2)(h2:b σ2=.ex x):forR g b (d::r) O=.ex x:=by
 show(g d O).aT _=_;rw[h1];simp only[R.aT,h2]
noncomputable def Ic:List Cl->List Gi
|[]=>[]
|p::r=>.inl p.1::(p.2.map .inr++Ic r)
theorem y_:∀C:List Cl,(Ic C).map Gi.words=lines C
|[]=>rfl
|p::r=>by
 show(aX::gP p.1)::((p.2.map (p6:Rw->Gi)++Ic r).map Gi.words)=yW p++lines r;rw[bR,y_ r,bq];rfl
theorem E4(n:Nat)(hn:0<n)(G:List Gi)(hG:∀m,wF n m G):∀(ws:List Rw) (m:Nat),(∀w∈ws,w.Ok)->m+ws.length<=12->wF n m (ws.map .inr++G)
|[],m,_,_=>hG m
|w::ws,m,h,hl=>by
 have hl:m+(ws.length+1)<=12:=hl;exact⟨h w ao,hn,by omega,E4 n hn G hG ws (m+1) (fun x hx=>h x (ai _ hx)) (by omega)⟩
theorem Ie:∀(C:List Cl) (i:Nat),oR i C->i+C.length<=12->∀m,wF i m (Ic C)
|[],_,_,_,_=>trivial
|p::r,i,h,hl,m=>by
 have hl:i+(r.length+1)<=12:=hl;exact⟨h.1.1,by omega,E4 (i+1) (by omega) _ (Ie r (i+1) h.2 (by omega)) p.2 0 h.1.2.2 (by have:=h.1.2.1;omega)⟩
def Hit(g:List Gi)(ws:List (List Nat)):Prop:=AM ws\/(g=[]/\∃a r,ws=a::r/\(strOf a==strOf aX)=false)
theorem LR(g:List Gi)(h:wF 0 0 g)(ws:List (List Nat))(hb:Hit g ws)(R:List (List (List Nat)))(x:Str)(hx:gx x=g.map Gi.words++ws::R)(hl:x.length+2<=aa):eV [.str x]=.ex (uT (g.length:Int)):=by
 have hs:=szl;have q:=EY x hl;obtain⟨C',t2,t3,t4,l,g2⟩:∃(C':List Cl) (t2 t3 t4:Option D),forR oU lq (fB 0 ((g.map Gi.words).map a6++(ws::R).map a6)) [some (.str x),some (.lst true (([]:List Cl).map cD)),none,none,none,none]=forR oU lq (fB (0+g.length) ((ws::R).map a6)) [some (.str x),some (.lst true (C'.map cD)),t2,t3,t4,none]/\lq (qG (some (.str x)) C' (g.length:Int) ws t4)=.ex (uT (g.length:Int)):=by
  rcases hb with hb|⟨rfl,a,r,rfl,ha⟩
  ·obtain⟨C',t2,t3,t4,l⟩:=DM (some (.str x)) ((ws::R).map a6) g [] h 0 none none none;exact⟨C',t2,t3,t4,l,Xw _ _ C' _ hb⟩
  ·exact⟨[],none,none,none,rfl,H9 _ _ _ a r ha⟩
 have e:aB ((gx x).map uR)=(gx x).map a6:=by
  refine(frzs_map' _).trans ?_;rw[bq];refine gR fun i _=>?_;show D.lst false (aB (i.map wD))=_;rw[bQ];rfl
 have ho:cE ((gx x).map uR)=true:=by
  have:∀l:List (List (List Nat)),cE (l.map uR)=true:=fun l=>by
   induction l with
   |nil=>rfl
   |cons a r ih=>show((true&&cE (a.map wD))&&cE (r.map uR))=true;rw[ih,h_];rfl
  exact this _
 have key:eV [.str x]=Ba (nH (forR oU lq (fB 0 ((gx x).map a6)) [some (.str x),some (.lst true (([]:List Cl).map cD)),none,none,none,none]) (cU eU 1000 (.cons (.ret (.var 1)) .nil))):=by
  unfold eV nj eU;simp_arith [q,e,ho];rfl
 have e2:(gx x).map a6=(g.map Gi.words).map a6++(ws::R).map a6:=by rw[hx,bR]
 rw[key,e2,l,l6];have g1:oU (.tup [.int (g.length:Int),a6 ws]) [some (.str x),some (.lst true (C'.map cD)),t2,t3,t4,none]=.ok (qG (some (.str x)) C' (g.length:Int) ws t4):=rfl;rw[show forR oU lq (fB g.length ((ws::R).map a6)) _=.ex (uT (g.length:Int))from Xz (r:=fB (g.length+1) (R.map a6)) g1 g2];rfl
noncomputable def za(ls:List (List (List Nat))):Str:=ee (strOf [10]) ((ls.map jn).map strOf)
theorem XA(ls:List (List (List Nat)))(h:∀l∈ls,jY l)(hl:ls.length<=900)(o:Bool):jg .join (.str (strOf [10])) [.lst o (ls.map lD)]=.ok (.str (za ls)):=by
 have q:=s9 [10] (ls.map jn) o (by rw[ah];omega) (fun w hw=>by
  obtain⟨i,hi,rfl⟩:=b7.mp hw;exact jJ (h i hi).1 (h i hi).2) (by decide)
 rw[bq]at q;exact q
theorem XC(ls:List (List (List Nat)))(ok:∀l∈ls,jY l)(hl:ls.length<=900)(hn:ls≠[]):gx (za ls)=ls/\(za ls).length+2<=aa:=by
 have hs:=szl;refine⟨?_,?_⟩
 ·have q:=mP 10 (((ls.map jn).map strOf).map fun p:Str=>p.cps.toList) (za ls).cps.toList (by simpa using hn) (by
   intro p hp;rw[bq,bq]at hp;obtain⟨i,hi,rfl⟩:=b7.mp hp;exact LG i (ok i hi).1) (join_list 10 _ (by simpa using hn))
  unfold gx;rw[q,bq,bq,bq];exact(gR fun i hi=>sZ i (ok i hi).1).trans (Ju _)
 ·obtain⟨l,e,hl2⟩:=Kl (ls.map jn) fun l hl=>by
   obtain⟨i,hi,rfl⟩:=b7.mp hl;exact jJ (ok i hi).1 (ok i hi).2
  unfold za;rw[e,gv];rw[ah]at hl2;omega
theorem Kq(ns:List Int)(k:Nat):∃c:Int,kI [jz ns,.int (k:Int)]=.ok (.int c):=by
 have fi:=gU ns;have ln:(ns.map D.int).length=ns.length:=ah _;unfold kI wg Bk jz;by_cases h:k<ns.length
 ·refine⟨ns[k],?_⟩;have l:decide ((k:Int)<(((ns.map D.int).length:Nat):Int))=true:=decide_eq_true (by omega);have h0:e_ (ns.map D.int) (k:Int)=some (.int ns[k]):=jy (by rw[bD,aA h];rfl);generalize ns.map D.int=X at fi l h0 ⊢;simp_arith [fi,l,h0]
 ·refine⟨2377*((k:Int)+1),?_⟩;have l:decide ((k:Int)<(((ns.map D.int).length:Nat):Int))=false:=decide_eq_false (by omega);generalize ns.map D.int=X at fi l ⊢;simp_arith [fi,l]
theorem qx(A B:List (List (List Nat)))(h:A.length+B.length<=1000)(o o':Bool):dN .Add (.lst o (A.map lD)) (.lst o' (B.map lD))=.ok (.lst true ((A++B).map lD)):=by
 have hs:=szl;rw[nN (by rw[ah,ah,hs];omega),rP,rP,<-bR]
theorem OH(l:List α)(k:Nat):cut l (some (k:Int)) none=l.drop k:=by
 by_cases h:k<=l.length
 ·exact cM l k h
 ·unfold cut;rw[HT.rW,BA (by omega),ig (aM _),ig (by omega),FF]
theorem rw_head(w:Rw):∃a r,w.words=a::r/\(strOf a==strOf aX)=false:=by
 cases w with
 |parts n c l ks=>
  have:∃a r,i9 n c=a::r/\(strOf a==strOf aX)=false:=by
   unfold i9;split
   ·exact⟨_,_,rfl,by decide +kernel⟩
   ·split
    ·exact⟨_,_,rfl,by decide +kernel⟩
    ·exact⟨_,_,rfl,by decide +kernel⟩
  obtain⟨a,r,e,h⟩:=this;exact⟨a,r++(ku l++bX ks),by show i9 n c++(ku l++bX ks)=_;rw[e];rfl,h⟩
 |join l k v l2 k2=>exact⟨a8,_,rfl,by decide +kernel⟩
 |size l k v a b=>exact⟨a8,_,rfl,by decide +kernel⟩
 |isa l k ks=>exact⟨a8,_,rfl,by decide +kernel⟩
 |aT v l k=>exact⟨dZ,_,rfl,by decide +kernel⟩
theorem z0{C:List Cl}(hC:E3 C)(k:Nat)(hk:k<=(lines C).length)(ws:List (List Nat))(hw:jY ws)(hh:AM ws\/(k=0/\∃a r,ws=a::r/\(strOf a==strOf aX)=false))(R:List (List (List Nat)))(hR:∀l∈R,jY l)(hl:R.length<=300) :
  (∀o,jg .join (.str (strOf [10])) [.lst o (((lines C).take k++[ws]++R).map lD)]=.ok (.str (za ((lines C).take k++[ws]++R))))/\jT [.str (za ((lines C).take k++[ws]++R))]=.ok (.tup [.str "row",.int (k:Int)]):=by
 have ok:=Cv C 0 hC.ok (by have:=hC.l;omega);have ll:=yX C 0 hC.ok;have l12:=hC.l;have all:∀l∈(lines C).take k++[ws]++R,jY l:=fun l hl=>by
  rcases aY.mp hl with hl|hl
  ·rcases aY.mp hl with hl|hl
   ·exact ok l (wY hl)
   ·rw[aW.mp hl];exact hw
  ·exact hR l hl
 have len:((lines C).take k++[ws]++R).length<=900:=by
  rw[ak,ak,b9,aG];omega
 refine⟨fun o=>XA _ all len o,?_⟩;obtain⟨r1,r2⟩:=XC _ all len (by simp);have gk:((Ic C).take k).length=k:=by
  have:(Ic C).length=(lines C).length:=by rw[<-y_,ah]
  rw[b9];omega
 have q:=LR ((Ic C).take k) (yZ _ k 0 0 (Ie C 0 hC.ok (by omega) 0)) ws (by
  rcases hh with h|⟨rfl,h⟩
  ·exact .inl h
  ·exact .inr ⟨rfl,h⟩) R _ (by rw[r1,a_,kR,y_];rfl) r2
 rw[gk]at q;exact OG _ _ q
theorem OI(k:Int):bK .NotEq (.tup [.str "row",.int k]) (.tup [.str "row",.int k])=.ok (.bl false):=by
 rw[JX rfl rfl];show R.ok (D.bl (!((aq "row"==aq "row")&&((k==k)&&true))))=_;rw[beq_self_eq_true,beq_self_eq_true];rfl
theorem fin(ns:List Int)(h:ns.length<=63):zU [jz ns]=.ok (.bl true):=by
 have hs:=szl;obtain⟨C,hC,q⟩:=Sf ns h;have ql:=Vo C hC.ok hC.l;have qr:=LI C hC.ok hC.l hC.n;have qj:=LJ C hC.ok hC.l;have ok:=Cv C 0 hC.ok (by have:=hC.l;omega);have ll:=yX C 0 hC.ok;have l12:=hC.l;obtain⟨c0,q0⟩:=Ol ns;obtain⟨c1,q1⟩:=Kq ns 1;obtain⟨c2,q2⟩:=Kq ns 2;have q1:kI [jz ns,.int 1]=.ok (.int c1):=q1;have q2:kI [jz ns,.int 2]=.ok (.int c2):=q2;obtain⟨s,s0,s1,qs⟩:=pY c0 1 (by omega);obtain⟨d,d0,d1,qd⟩:=pY c1 300 (by omega);obtain⟨w1,bad1,ok1,qo1⟩:=Tq s (d / 64) s0 (by omega);obtain⟨w2,_,ok2,qo2⟩:=Tq s (d / 91) s0 (by omega);obtain⟨w,hw,qw⟩:=Ke c2 3 s (by omega) s0;have qt:=Ov w hw;have okw:jY w.words:=Rw.Zn hw;have hdw:=rw_head w;have lX:((lines C).map lD).length=(lines C).length:=ah _;have mk:=cA d (b:=((((lines C).map lD).length:Nat):Int)+1) (by omega);obtain⟨k,ek⟩:∃k:Nat,d%(((((lines C).map lD).length:Nat):Int)+1)=(k:Int):=⟨_,(xF mk.1).symm⟩;have hk:k<=(lines C).length:=by omega
 have hp:(0:Int)<((((lines C).map lD).length:Nat):Int)+1:=by omega
 have m2:=cA (d / 7) (b:=2) (by decide);obtain⟨j,ej⟩:∃j:Nat,(k:Int)+d / 7%2=(j:Int):=⟨((k:Int)+d / 7%2).toNat,by omega⟩;have c2':cut ((lines C).map lD) (some ((k:Int)+d / 7%2)) none=((lines C).drop j).map lD:=by rw[ej,OH,kQ]
 have c1':cut ((lines C).map lD) none (some (k:Int))=((lines C).take k).map lD:=by rw[iN,kR]
 have c0':cut ((lines C).map lD) none (some 0)=[]:=iN _ 0;have okd:∀l∈(lines C).drop j,jY l:=fun l hl=>ok l (wX hl);have ldr:((lines C).drop j).length<=156:=by rw[c9];omega
 have ltk:((lines C).take k).length<=156:=by rw[b9];omega
 have dd:∀i:Int,0<i->i<10000->sD d i:=fun i h1 h2=>⟨h1,by omega⟩;have v7:=dd 7 (by decide) (by decide);have v14:=dd 14 (by decide) (by decide);have v64:=dd 64 (by decide) (by decide);have v91:=dd 91 (by decide) (by decide);have oX:=Cw (lines C);have o2:=Cw ((lines C).drop j);have fX:=rP (lines C);have f2:=rP ((lines C).drop j);have f1:=rP ((lines C).take k);have f0:aB []=[]:=rfl;have fo:=LK C;have oo:=Th C;have fc:=wA C;have fi:=gU ns;have hz:decide ((0:Int)<(((C.map cD).length:Nat):Int))=true:=decide_eq_true (by
  have:=hC.n;rw[ah];cases C with
  |nil=>exact absurd rfl this
  |cons p r=>simp only[aC];omega)
 have en:=OI (k:Int);have en0:=OI 0;unfold jz at q q0 q1 q2 ⊢;cases g11:(d%11==0)<;>cases g14:(d / 14%2==1)
 ·skip
  have okR:∀l∈(lines C).drop j,jY l:=okd;have lR:((lines C).drop j).length<=300:=by omega
  obtain⟨qj1,qf⟩:=z0 hC k (by omega) w1 ok1 (.inl bad1) ((lines C).drop j) okR lR;have b2:=qx ((lines C).take k) [w1] (by rw[aG];omega);have b3:=qx ((lines C).take k++[w1]) ((lines C).drop j) (by rw[ak,aG];omega);generalize za _=x at qj1 qf;generalize((lines C).take k++[w1]++(lines C).drop j).map lD=Y4 at qj1 b3;generalize((lines C).take k++[w1]).map lD=Y3 at b2 b3;generalize((lines C).drop j).map lD=Y2 at *;generalize((lines C).take k).map lD=Y1 at *;generalize(lines C).map lD=X at *;generalize C.map cO=A at *;generalize C.map cF=B at *;generalize C.map cD=Z at *;generalize txt C=y at *;generalize ns.map D.int=N at *;generalize w.val=v at *;have e1:[w1].map lD=[.str (strOf (jn w1))]:=rfl;rw[e1]at b2;generalize strOf (jn w1)=z1 at *;unfold zU zT Cf;simp_arith [fi,q,oo,fo,ql,oX,fX,q0,q1,q2,qs,qd,hp,ek,qo1,qo2,v7,v14,v64,v91,c2',o2,f2,f1,f0,g11,g14,Tg,b2,b3,qj1,qf,c1',en,qj,qr,hz]
 ·skip
  have okR:∀l∈((lines C).drop j++[w2]),jY l:=fun l hl=>by
   rcases aY.mp hl with hl|hl
   ·exact okd l hl
   ·rw[aW.mp hl];exact ok2
  have b1:=qx ((lines C).drop j) [w2] (by rw[aG];omega);have o5:=Cw ((lines C).drop j++[w2]);have f5:=rP ((lines C).drop j++[w2]);have lR:(((lines C).drop j++[w2])).length<=300:=by rw[ak,aG];omega
  obtain⟨qj1,qf⟩:=z0 hC k (by omega) w1 ok1 (.inl bad1) (((lines C).drop j++[w2])) okR lR;have b2:=qx ((lines C).take k) [w1] (by rw[aG];omega);have b3:=qx ((lines C).take k++[w1]) (((lines C).drop j++[w2])) (by rw[ak,aG];omega);generalize za _=x at qj1 qf;generalize((lines C).take k++[w1]++((lines C).drop j++[w2])).map lD=Y4 at qj1 b3;generalize((lines C).take k++[w1]).map lD=Y3 at b2 b3;generalize((lines C).drop j++[w2]).map lD=Y5 at b1 b3 o5 f5;generalize((lines C).drop j).map lD=Y2 at *;generalize((lines C).take k).map lD=Y1 at *;generalize(lines C).map lD=X at *;generalize C.map cO=A at *;generalize C.map cF=B at *;generalize C.map cD=Z at *;generalize txt C=y at *;generalize ns.map D.int=N at *;generalize w.val=v at *;have e1:[w1].map lD=[.str (strOf (jn w1))]:=rfl;rw[e1]at b2;have e2:[w2].map lD=[.str (strOf (jn w2))]:=rfl;rw[e2]at b1;generalize strOf (jn w1)=z1 at *;unfold zU zT Cf;simp_arith [fi,q,oo,fo,ql,oX,fX,q0,q1,q2,qs,qd,hp,ek,qo1,qo2,v7,v14,v64,v91,c2',o2,f2,f1,f0,g11,g14,Tg,b2,b3,qj1,qf,c1',en,b1,o5,f5,qj,qr,hz]
 ·skip
  have okR:∀l∈lines C,jY l:=ok;have lR:(lines C).length<=300:=by omega
  obtain⟨qj1,qf⟩:=z0 hC 0 (by omega) w.words okw (.inr ⟨rfl,hdw⟩) (lines C) okR lR;have b2:=qx ((lines C).take 0) [w.words] (by rw[aG,b9];omega);have b3:=qx ((lines C).take 0++[w.words]) (lines C) (by rw[ak,aG,b9];omega);have b2:∀o o':Bool,dN .Add (.lst o []) (.lst o' ([w.words].map lD))=_:=b2;have qf:jT _=.ok (.tup [.str "row",.int 0]):=qf;generalize za _=x at qj1 qf;generalize((lines C).take 0++[w.words]++lines C).map lD=Y4 at qj1 b3;generalize((lines C).take 0++[w.words]).map lD=Y3 at b2 b3;generalize((lines C).drop j).map lD=Y2 at *;generalize((lines C).take k).map lD=Y1 at *;generalize(lines C).map lD=X at *;generalize C.map cO=A at *;generalize C.map cF=B at *;generalize C.map cD=Z at *;generalize txt C=y at *;generalize ns.map D.int=N at *;generalize w.val=v at *;have e1:[w.words].map lD=[.str (strOf (jn w.words))]:=rfl;rw[e1]at b2;generalize strOf (jn w.words)=z1 at *;unfold zU zT Cf;simp_arith [fi,q,oo,fo,ql,oX,fX,q0,q1,q2,qs,qd,hp,ek,qo1,qo2,v7,v14,v64,v91,c2',o2,f2,f1,f0,g11,g14,Tg,b2,b3,qj1,qf,c0',qw,qt,en0,qj,qr,hz]
 ·skip
  have okR:∀l∈(lines C++[w2]),jY l:=fun l hl=>by
   rcases aY.mp hl with hl|hl
   ·exact ok l hl
   ·rw[aW.mp hl];exact ok2
  have b1:=qx (lines C) [w2] (by rw[aG];omega);have o5:=Cw (lines C++[w2]);have f5:=rP (lines C++[w2]);have lR:((lines C++[w2])).length<=300:=by rw[ak,aG];omega
  obtain⟨qj1,qf⟩:=z0 hC 0 (by omega) w.words okw (.inr ⟨rfl,hdw⟩) ((lines C++[w2])) okR lR;have b2:=qx ((lines C).take 0) [w.words] (by rw[aG,b9];omega);have b3:=qx ((lines C).take 0++[w.words]) ((lines C++[w2])) (by rw[ak,aG,b9];omega);have b2:∀o o':Bool,dN .Add (.lst o []) (.lst o' ([w.words].map lD))=_:=b2;have qf:jT _=.ok (.tup [.str "row",.int 0]):=qf;generalize za _=x at qj1 qf;generalize((lines C).take 0++[w.words]++(lines C++[w2])).map lD=Y4 at qj1 b3;generalize((lines C).take 0++[w.words]).map lD=Y3 at b2 b3;generalize(lines C++[w2]).map lD=Y5 at b1 b3 o5 f5;generalize((lines C).drop j).map lD=Y2 at *;generalize((lines C).take k).map lD=Y1 at *;generalize(lines C).map lD=X at *;generalize C.map cO=A at *;generalize C.map cF=B at *;generalize C.map cD=Z at *;generalize txt C=y at *;generalize ns.map D.int=N at *;generalize w.val=v at *;have e1:[w.words].map lD=[.str (strOf (jn w.words))]:=rfl;rw[e1]at b2;have e2:[w2].map lD=[.str (strOf (jn w2))]:=rfl;rw[e2]at b1;generalize strOf (jn w.words)=z1 at *;unfold zU zT Cf;simp_arith [fi,q,oo,fo,ql,oX,fX,q0,q1,q2,qs,qd,hp,ek,qo1,qo2,v7,v14,v64,v91,c2',o2,f2,f1,f0,g11,g14,Tg,b2,b3,qj1,qf,c0',qw,qt,en0,b1,o5,f5,qj,qr,hz]
end K2
end
namespace Fin
open PySem L2 L3 Tr
section
variable{P:bH}{w:bY}{K:PySem.W.Frag}{mg:Str->Option Value}
structure Hy (P:bH) (w:bY) (K:PySem.W.Frag) (mg:Str->Option Value) (a_THE:Addr) (a_KEPT_WORDS:Addr) (a_A:Addr):Prop where
 z:∀x∈BN,mg x=none
 D_law:DI K mg t9
 D_read_claims:DI K mg xm
 D_rows_in:DI K mg ES
 D_words_in:DI K mg Cg
 D_takes_in:DI K mg Cj
 D_taken_numbers:DI K mg t8
 D_number_in:DI K mg AF
 D_is_figures:DI K mg yK
 D_all_within:DI K mg yJ
 D_choices_in:DI K mg yL
 D_row_in:DI K mg HC
 D_row_told:DI K mg Cm
 D_told_of_ref:DI K mg xj
 D_size_told:DI K mg AG
 D_bounds_told:DI K mg xh
 D_join_told:DI K mg AI
 D_ref_told:DI K mg Ck
 D_all_words:DI K mg AH
 D_is_word:DI K mg ET
 D_is_told:DI K mg EU
 D_kinds_told:DI K mg yM
 D_count_of_words_ahead:DI K mg mT
 D_step_told:DI K mg AJ
 D_parts_told:DI K mg yN
 D_l_refusal:DI K mg AK
 D_l_odd:DI K mg J3
 D_l_word:DI K mg HD
 D_l_text:DI K mg HF
 D_l_ref_text:DI K mg yO
 D_l_size_text:DI K mg xo
 D_l_row:DI K mg J5
 D_l_ref:DI K mg J4
 D_l_some:DI K mg HG
 D_l_bounds:DI K mg Cn
 D_l_mixed:DI K mg EV
 D_l_cell:DI K mg HH
 D_l_lines:DI K mg EW
 D_l_claims:DI K mg Co
 D_l_takes:DI K mg EX
 V_MOST_CLAIMS:∃u,mg "MOST_CLAIMS"=some u/\RelV (V.int 12) u
 V_MOST_FIGURES:∃u,mg "MOST_FIGURES"=some u/\RelV (V.int 30) u
 V_MOST_ROWS:∃u,mg "MOST_ROWS"=some u/\RelV (V.int 12) u
 V_THE:mg "THE"=some (.ref a_THE)/\Eh K a_THE true [.str "the",.str "said"]
 V_KEPT_WORDS:mg "KEPT_WORDS"=some (.ref a_KEPT_WORDS)/\Eh K a_KEPT_WORDS true [.str "a",.str "an",.str "the",.str "said",.str "claim",.str "on",.str "or",.str "then",.str "from",.str "to",.str "of",.str "at",.str "least",.str "most",.str "just",.str "is"]
 V_MOST_LETTERS:∃u,mg "MOST_LETTERS"=some u/\RelV (V.int 8) u
 V_A:mg "A"=some (.ref a_A)/\Eh K a_A true [.str "a",.str "an"]
 V_MOST_KINDS:∃u,mg "MOST_KINDS"=some u/\RelV (V.int 3) u
 V_MOST_PARTS:∃u,mg "MOST_PARTS"=some u/\RelV (V.int 5) u
 C_TooBig:N4 P w K mg "TooBig" 139 [("claim",1),("row",2)] 3
 C_NoClaim:N4 P w K mg "NoClaim" 101 [("row",1)] 2
 C_BadRow:N4 P w K mg "BadRow" 44 [("row",1)] 2
 I_TooMany:mg "TooMany"=some (.ref 227)/\g9 K 227 iT
 I_NoFit:mg "NoFit"=some (.ref 239)/\g9 K 239 iT
 I_NoChange:mg "NoChange"=some (.ref 251)/\g9 K 251 iT
 I_NotOwn:mg "NotOwn"=some (.ref 263)/\g9 K 263 iT
 I_Twice:mg "Twice"=some (.ref 63)/\g9 K 63 iT
 I_NoPart:mg "NoPart"=some (.ref 82)/\g9 K 82 iT
 I_NoKind:mg "NoKind"=some (.ref 120)/\g9 K 120 iT
 I_NotUnder:mg "NotUnder"=some (.ref 158)/\g9 K 158 iT
 I_NoRange:mg "NoRange"=some (.ref 177)/\g9 K 177 iT
 I_NoGround:mg "NoGround"=some (.ref 196)/\g9 K 196 iT
 I_TwoGrounds:mg "TwoGrounds"=some (.ref 215)/\g9 K 215 iT
 I_TooBig:mg "TooBig"=some (.ref 139)/\g9 K 139 iT
 I_NoClaim:mg "NoClaim"=some (.ref 101)/\g9 K 101 iT
 I_BadRow:mg "BadRow"=some (.ref 44)/\g9 K 44 iT
 X_0:tV K iT J2
 B_ClaimError:Xc K mg "ClaimError" 24 iT
variable{base:Heap}{a_THE:Addr}{a_KEPT_WORDS:Addr}{a_A:Addr} (Z:Hy P w K mg a_THE a_KEPT_WORDS a_A)
include Z
theorem Jb:gm P w K mg base 1 "words_in" rN:=fD (k:=0) Z.D_words_in Lu Z.z gN
theorem LS:gm P w K mg base 2 "rows_in" tZ:=fD (k:=1) Z.D_rows_in N5 Z.z (gF (Jb Z) gN)
theorem xq:gm P w K mg base 1 "all_within" lJ:=fD (k:=0) Z.D_all_within Hu Z.z gN
theorem Fk:gm P w K mg base 2 "is_figures" oF:=fD (k:=1) Z.D_is_figures Hv Z.z (gF (xq Z) (gV Z.V_MOST_FIGURES rfl gN))
theorem tu:gm P w K mg base 3 "number_in" cN:=fD (k:=2) Z.D_number_in IV Z.z (gF (Fk Z) gN)
theorem xr:gm P w K mg base 1 "choices_in" d9:=fD (k:=0) Z.D_choices_in Hw Z.z gN
theorem Bp:gm P w K mg base 4 "taken_numbers" dj:=fD (k:=3) Z.D_taken_numbers Ci Z.z (gF (tu Z) (gF (xr Z) gN))
theorem Jc:gm P w K mg base 5 "takes_in" jF:=fD (k:=4) Z.D_takes_in Lv Z.z (gC Z.C_NoClaim (gC Z.C_BadRow (gF (Bp Z) gN)))
theorem DN:gm P w K mg base 4 "bounds_told" b5:=fD (k:=3) Z.D_bounds_told Ff Z.z (gF (tu Z) gN)
theorem Ig:gm P w K mg base 5 "size_told" gn:=fD (k:=4) Z.D_size_told IW Z.z (gF (DN Z) gN)
theorem rR:gm P w K mg base 2 "is_word" lM:=fD (k:=1) Z.D_is_word N6 Z.z (gT Z.V_KEPT_WORDS ⟨a_KEPT_WORDS,_,rfl,Z.V_KEPT_WORDS.2,by decide +kernel,by repeat (first|exact rfl|refine⟨_,_,rfl,⟨rfl,by decide +kernel⟩,?_⟩|refine⟨_,_,rfl,rfl,?_⟩)⟩ (gF (xq Z) (gV Z.V_MOST_LETTERS rfl gN)))
theorem zb:gm P w K mg base 3 "all_words" g_:=fD (k:=2) Z.D_all_words IX Z.z (gF (rR Z) gN)
theorem qy:gm P w K mg base 4 "ref_told" cS:=fD (k:=3) Z.D_ref_told Lw Z.z (gF (zb Z) gN)
theorem Ih:gm P w K mg base 5 "join_told" jS:=fD (k:=4) Z.D_join_told IY Z.z (gF (qy Z) gN)
theorem xu:gm P w K mg base 4 "kinds_told" bW:=fD (k:=3) Z.D_kinds_told Hz Z.z (gF (zb Z) (gV Z.V_MOST_KINDS rfl (gF (xr Z) gN)))
theorem LU:gm P w K mg base 5 "is_told" iA:=fD (k:=4) Z.D_is_told N7 Z.z (gT Z.V_A ⟨a_A,_,rfl,Z.V_A.2,by decide +kernel,by repeat (first|exact rfl|refine⟨_,_,rfl,⟨rfl,by decide +kernel⟩,?_⟩|refine⟨_,_,rfl,rfl,?_⟩)⟩ (gF (xu Z) (gF (qy Z) gN)))
theorem tL:gm P w K mg base 3 "count_of_words_ahead" cT:=fD (k:=2) Z.D_count_of_words_ahead uQ Z.z (gF (rR Z) gN)
theorem DO:gm P w K mg base 6 "told_of_ref" bO:=fD (k:=5) Z.D_told_of_ref Fg Z.z (gF (Ig Z) (gT Z.V_THE ⟨a_THE,_,rfl,Z.V_THE.2,by decide +kernel,by repeat (first|exact rfl|refine⟨_,_,rfl,⟨rfl,by decide +kernel⟩,?_⟩|refine⟨_,_,rfl,rfl,?_⟩)⟩ (gF (Ih Z) (gF (qy Z) (gF (LU Z) (gF (tL Z) gN))))))
theorem Ii:gm P w K mg base 5 "step_told" gp:=fD (k:=4) Z.D_step_told IZ Z.z (gF (qy Z) (gT Z.V_THE ⟨a_THE,_,rfl,Z.V_THE.2,by decide +kernel,by repeat (first|exact rfl|refine⟨_,_,rfl,⟨rfl,by decide +kernel⟩,?_⟩|refine⟨_,_,rfl,rfl,?_⟩)⟩ (gF (rR Z) gN)))
theorem Fo:gm P w K mg base 5 "parts_told" cz:=fD (k:=4) Z.D_parts_told HA Z.z (gF (rR Z) (gF (xu Z) (gV Z.V_MOST_PARTS rfl (gF (tu Z) gN))))
theorem Jd:gm P w K mg base 7 "row_told" cG:=fD (k:=6) Z.D_row_told Lx Z.z (gT Z.V_THE ⟨a_THE,_,rfl,Z.V_THE.2,by decide +kernel,by repeat (first|exact rfl|refine⟨_,_,rfl,⟨rfl,by decide +kernel⟩,?_⟩|refine⟨_,_,rfl,rfl,?_⟩)⟩ (gF (DO Z) (gF (Ii Z) (gF (Fo Z) (gT Z.V_A ⟨a_A,_,rfl,Z.V_A.2,by decide +kernel,by repeat (first|exact rfl|refine⟨_,_,rfl,⟨rfl,by decide +kernel⟩,?_⟩|refine⟨_,_,rfl,rfl,?_⟩)⟩ gN)))))
theorem OJ:gm P w K mg base 8 "row_in" pR:=fD (k:=7) Z.D_row_in RL Z.z (gV Z.V_MOST_ROWS rfl (gC Z.C_TooBig (gC Z.C_BadRow (gF (Jd Z) gN))))
theorem vz:gm P w K mg base 9 "read_claims" eV:=fD (k:=8) Z.D_read_claims Fi Z.z (gF (LS Z) (gV Z.V_MOST_CLAIMS rfl (gC Z.C_TooBig (gF (Jc Z) (gC Z.C_BadRow (gF (OJ Z) gN))))))
theorem Ij:gm P w K mg base 10 "_law_refusal" jT:=fD (k:=9) Z.D_l_refusal I_ Z.z (gB Z.B_ClaimError (gF (vz Z) (gX Z.X_0 (gI Z.I_TooMany (gI Z.I_NoFit (gI Z.I_NoChange (gI Z.I_NotOwn (gI Z.I_Twice (gI Z.I_NoPart (gI Z.I_NoKind (gI Z.I_NotUnder (gI Z.I_NoRange (gI Z.I_NoGround (gI Z.I_TwoGrounds (gI Z.I_TooBig (gI Z.I_NoClaim (gI Z.I_BadRow gN)))))))))))))))))
theorem uc:gm P w K mg base 1 "_law_word" jk:=fD (k:=0) Z.D_l_word RM Z.z gN
theorem Si:gm P w K mg base 2 "_law_odd" DE:=fD (k:=1) Z.D_l_odd U4 Z.z (gF (uc Z) gN)
theorem Fp:gm P w K mg base 1 "_law_ref_text" fY:=fD (k:=0) Z.D_l_ref_text HE Z.z gN
theorem DP:gm P w K mg base 1 "_law_size_text" f6:=fD (k:=0) Z.D_l_size_text Fj Z.z gN
theorem E5:gm P w K mg base 2 "_law_text" dU:=fD (k:=1) Z.D_l_text RN Z.z (gF (Fp Z) (gF (DP Z) gN))
theorem Sj:gm P w K mg base 2 "_law_ref" pU:=fD (k:=1) Z.D_l_ref U5 Z.z (gF (uc Z) gN)
theorem OL:gm P w K mg base 2 "_law_some" wm:=fD (k:=1) Z.D_l_some RO Z.z (gF (uc Z) gN)
theorem Je:gm P w K mg base 1 "_law_bounds" oJ:=fD (k:=0) Z.D_l_bounds Ly Z.z gN
theorem wK:gm P w K mg base 1 "_law_mixed" nP:=fD (k:=0) Z.D_l_mixed N8 Z.z gN
theorem Ik:gm P w K mg base 3 "_law_row" mw:=fD (k:=2) Z.D_l_row U6 Z.z (gF (Sj Z) (gF (uc Z) (gF (OL Z) (gF (Je Z) (gF (wK Z) gN)))))
theorem E6:gm P w K mg base 1 "_law_cell" kI:=fD (k:=0) Z.D_l_cell RP Z.z gN
theorem LV:gm P w K mg base 3 "_law_lines" t6:=fD (k:=2) Z.D_l_lines N9 Z.z (gF (E5 Z) gN)
theorem LW:gm P w K mg base 1 "_law_takes" t7:=fD (k:=0) Z.D_l_takes N_ Z.z gN
theorem Jf:gm P w K mg base 4 "_law_claims" rO:=fD (k:=3) Z.D_l_claims Lz Z.z (gF (LW Z) (gF (Ik Z) (gF (wK Z) (gF (E6 Z) gN))))
theorem XD{f:Addr}{fd:fO}(F:qT K "law" "law" t9.s f fd):fN P w K mg base (ko P w) 11 f fd t9.ps (GO K zU):=fF (d:=t9) F YI Z.z (gF (vz Z) (gF (Ij Z) (gF (Si Z) (gF (E5 Z) (gF (Ik Z) (gF (E6 Z) (gF (wK Z) (gF (LV Z) (gF (Jf Z) gN)))))))))
end
theorem walk{l:PySem.W.OpenLaw}{q:bH}{loose:List Str}{XP:(Str->Option Value)->Heap->Prop}{YP:bY->Heap->Prop}{d:OQ}{K:Ir->PySem.W.Frag}(hn:l.most=some 63)(hdf:d.params.defaults=[])(hdn:d.name="law")
  (hY:∀(w:bY) (h:Heap),YP w h->(K w.params).In h) (nk:∀p:Ir,((K p).all fun x=>!Qq x.2.cls)=true)
  (F:∀(w:bY) (mg:Str->Option Value) (h:Heap),(K w.params).In h->h.Ns dh mg->∃a_THE,∃a_KEPT_WORDS,∃a_A,Hy l.prog w (K w.params) mg a_THE a_KEPT_WORDS a_A) (bd:∀(kV doc pm:Value) (an:Option Addr) (cdv ct:Value) (u:Value),wM (PySem.W.fnOf "law" "law" (l_ t9.s) (gc t9.s) (ck t9.s) .none kV doc pm an cdv ct) ⟨[u],[]⟩=pure [(("_law_script":Str),u)]) :
  PySem.W.WalkO q loose XP YP l.row.toRowW d [] (fun f vs=>PySem.call f vs):=
 L2.T7 (n:=63) (k:=11) (x:="_law_script") (CX:=fun _=>Al) (sp:=fun w=>(fun vs H Q E=>∃(a:Addr) (ns:List Int),vs=[.ref a]/\Rd H a (.lst (ns.map V.int))/\ns.length<=63/\∀H',Q (.bl true) H')) hn (by decide) hdf ⟨rfl,by decide,by decide⟩ hY (fun w mg fa h X G hfa=>by
  obtain⟨_,_,_,Z⟩:=F w mg h X G;rw[hdn]at hfa;obtain⟨f,fd,L,hm,hb⟩:=Z.D_law;have e:=hfa.symm.trans hm;cases e;obtain⟨_,_,kV,doc,pm,an,cdv,ct,_,rfl,_⟩:=L.ex;exact⟨_,fun s v=>.of_eq (bd _ _ _ _ _ _ v),fun base _ _=>WZ (XD Z L) K2.fin⟩) (fun w _ a ns hl _ hS=>⟨a,ns,rfl,YH (nk w.params) hS,hl,fun _=>rfl⟩) fun _ _ _ _ _ z=>z
end Fin
namespace PySem.W.Fast
def tw18062807568994247526 :=0
def tw2083836898698185645 :=0
def tw3734655759146555170 :=0
def tw953383799479388968 :=0
def tw13650868197554030708 :=0
def tw3812130951165530191 :=0
def tw7327425407318792016 :=0
def tw4842254153024263406 :=0
def tw432382125303734503 :=0
def tw13200671741374873530 :=0
def tw2489236952439352939 :=0
def tw1978795810623266185 :=0
def tw11873043338678532004 :=0
def tw2797813787196815398 :=0
def tw3763043431512774700 :=0
def tw14832639744335515602 :=0
def tw9759138357249671727 :=0
def tw12271549387672240814 :=0
def tw16548172489902254145 :=0
def tw12106086396902764266 :=0
def tw16324150350494930015 :=0
def tw8936648564422641863 :=0
def tw7058818669165437868 :=0
def tw1484051313989210387 :=0
def tw10376383781356574890 :=0
def tw17443436061419408681 :=0
def tw11994076462368223048 :=0
def tw5670602025095247099 :=0
def tw15745213763889778998 :=0
def tw10928370253521805512 :=0
def tw7511822694943523626 :=0
def tw1833037395145974643 :=0
def tw6775651544015687966 :=0
def tw7556741365135778690 :=0
def tw3851519026182501438 :=0
def tw11441028611732590350 :=0
def tw4641220791288285107 :=0
def tw12168090937637801770 :=0
def tw14670786298164940031 :=0
def tw10692324272311638933 :=0
def tw16291219448325635761 :=0
def tw1784404352511720534 :=0
def tw15644398429572186539 :=0
def tw7454164336450272393 :=0
def tw13154482423032010961 :=0
def tw10871359173633076186 :=0
def tw17684143875626962873 :=0
def tw6826776132826236442 :=0
def tw18056237522047915992 :=0
def tw9031560105167262392 :=0
def tw13574701502801122127 :=0
def tw8361403716398125457 :=0
def tw5991860856800104967 :=0
def tw17156646299052061937 :=0
def tw13463271018678737440 :=0
def tw5764759272767760480 :=0
def tw50038215508483795 :=0
def tw13958877294880755552 :=0
def tw15543788971683801407 :=0
def tw12002670870739439557 :=0
def tw18230154261579857430 :=0
def tw10271310192637052904 :=0
def tw17423149801609386422 :=0
def tw15956582073000868524 :=0
def tw11299613095957342966 :=0
def tw5214245163962377235 :=0
def tw6464887628667002290 :=0
def tw17599357659048287242 :=0
def tw11309355083364029813 :=0
def tw6095598200933094596 :=0
def tw9912011209624040243 :=0
def tw2958673541085940760 :=0
def tw11001130768025905775 :=0
def tw16965365667156930389 :=0
def tw8490572211248144019 :=0
def tw1101322059181205048 :=0
def tw7556302003646552022 :=0
def tw11345949682400025683 :=0
def tw3388655624244216526 :=0
def tw9953553948666019942 :=0
def tw2217667905058937592 :=0
def tw7017897700595031785 :=0
def tw6130768157811585249 :=0
def tw14672587926368373310 :=0
def tw11094116286036323695 :=0
def tw7727588802912512061 :=0
def tw1525955524745073066 :=0
def tw17552166049460020998 :=0
def tw12208602890905736049 :=0
def tw12006663855267514538 :=0
def tw14283474143367929537 :=0
def tw14097909356158471294 :=0
def tw355990464360744696 :=0
def tw5641018329014093089 :=0
def tw10782302535269189654 :=0
def tw15332943126635754267 :=0
def tw5239330825385201915 :=0
def tw887529150625767119 :=0
def tw3257836979588460270 :=0
def tw16064960587934433286 :=0
def tw848870736470117604 :=0
def tw12900676529988132939 :=0
def tw8909608483872904518 :=0
def tw9658212236870945649 :=0
def tw7796390551968451880 :=0
def tw10581462012717641438 :=0
def tw6874199524293614186 :=0
def tw15034426568213749041 :=0
def tw1813994297696568456 :=0
def tw12066002687341437048 :=0
def tw13156050920694989823 :=0
def tw2860354214247568099 :=0
def tw198110319636734617 :=0
def tw17505332100321387547 :=0
def tw18403922825746051810 :=0
def tw1259585992945667408 :=0
def tw16908033994978425958 :=0
def tw4737368979678613895 :=0
def tw1184957035661152340 :=0
def tw667906532646879230 :=0
def tw9118866083591378558 :=0
def tw3533442259788090299 :=0
def tw10534616578932784063 :=0
def tw14427753176669800779 :=0
def tw1980127398588521018 :=0
def tw12363003810975502949 :=0
def tw1843257029066448931 :=0
def tw18265386771366237172 :=0
def tw7514935048055016770 :=0
def tw10780501913237376628 :=0
def tw10056819002727070241 :=0
def tw4220441946527229634 :=0
def tw7222752355669343778 :=0
def tw2528745081485586743 :=0
def tw4744483651364022547 :=0
def tw1034302154144944997 :=0
def tw15978582020926017538 :=0
def tw7437568212317605625 :=0
def tw11517621049532684081 :=0
def tw13652441985210073369 :=0
def tw7425851045681505296 :=0
def tw10289718141233571001 :=0
def tw11727923131466615072 :=0
def tw16840641828802748295 :=0
def tw5340977113508538469 :=0
def tw660993268207215082 :=0
def tw4093483034724681960 :=0
def tw16769458477985622601 :=0
def tw14561612985575589920 :=0
def tw15699355942922972364 :=0
def tw3534964491546912825 :=0
def tw7598995850370308797 :=0
def tw1658808862897894259 :=0
def tw1398984292012711620 :=0
def tw5691724503647798273 :=0
def tw11381738356005191193 :=0
def tw16962137873748888304 :=0
def tw11385261294342807933 :=0
def tw12726464666190678509 :=0
def tw483235472648458345 :=0
def tw5463648492940430640 :=0
def tw8083131338322539473 :=0
def tw2477027142644733057 :=0
def tw7904647218395938765 :=0
def tw13827564288747025286 :=0
def tw14119742543144829430 :=0
def tw8278048936327633727 :=0
def tw11345080118945482806 :=0
def tw2364943849153601560 :=0
def tw2552567448019091947 :=0
def tw8619662561373823787 :=0
def tw8450510528244316223 :=0
def tw9622419007703642073 :=0
def tw5176827906073641481 :=0
def tw15112607302737221931 :=0
def tw5775388847447365475 :=0
def tw5263503820202176545 :=0
def tw6659519029925733538 :=0
def tw4128700716898669228 :=0
def tw14198763939367241870 :=0
def tw1532926343607986834 :=0
def tw2414506135395614618 :=0
def tw578339795832255687 :=0
def tw11221431618526940682 :=0
def tw14854501035965903754 :=0
def tw2530653237437820360 :=0
def tw7873809607506275778 :=0
def tw7646151901318304792 :=0
def tw7445417032049956130 :=0
def tw10875772680678859166 :=0
def tw18313777026991201628 :=0
def tw12523562703170534511 :=0
def tw13255779266150072759 :=0
def tw1388704717057763117 :=0
def tw5654075760057700330 :=0
def tw13225545196494797632 :=0
def tw9566326033413073757 :=0
def tw6611564680851723660 :=0
def tw499763611143779913 :=0
def tw372758603239054301 :=0
def tw5900460454208641112 :=0
def tw6862935998969091935 :=0
def tw8001103045192980680 :=0
def tw12069681788963444817 :=0
def tw18075870926806149455 :=0
def tw13808026960165374236 :=0
def tw11810190066637896565 :=0
def tw8109600061078296022 :=0
def tw5547973388528812926 :=0
def tw1421559198334117115 :=0
def tw4455859250654925232 :=0
def tw1346788171037126249 :=0
def tw6075886084734340374 :=0
def tw12397128137675095598 :=0
def tw12198848037916249650 :=0
def tw10114090473149482182 :=0
def tw778053825602082388 :=0
def tw7294522158052793589 :=0
def tw9971634124361370359 :=0
end PySem.W.Fast
open PySem PySem.W PyProof.Rows
set_option maxRecDepth 100000 in
set_option maxHeartbeats 0 in
open L3 Tr in
theorem PySem.Challenge.cw_claimwise_k09_rows_of_no_form_holds : PySem.Challenge.rw_claimwise_k09_rows_of_no_form.Holds := by
 w_on;o_law;k_head;(case hw=>w_witness2)
 k_fill
 refine Fin.walk (l:=PySem.Challenge.rw_claimwise_k09_rows_of_no_form) rfl rfl rfl (fun w h aas=>PySem.W.kIn_of aas) ?nk ?F ?b
 case nk=>intro p;first|rfl|decide +kernel|k_is|simp[L3.Qq]
 case b=>intros;rfl
 case F=>
  intro w mg h KX G;have HX:=hXI (Cs:=iT) (as:=J2) KX;have HB:=bI (B:=24) KX;exact⟨_,_,_,⟨zI KX G,
   dI KX G,
   dI KX G,
   dI KX G,
   dI KX G,
   dI KX G,
   dI KX G,
   dI KX G,
   dI KX G,
   dI KX G,
   dI KX G,
   dI KX G,
   dI KX G,
   dI KX G,
   dI KX G,
   dI KX G,
   dI KX G,
   dI KX G,
   dI KX G,
   dI KX G,
   dI KX G,
   dI KX G,
   dI KX G,
   dI KX G,
   dI KX G,
   dI KX G,
   dI KX G,
   dI KX G,
   dI KX G,
   dI KX G,
   dI KX G,
   dI KX G,
   dI KX G,
   dI KX G,
   dI KX G,
   dI KX G,
   dI KX G,
   dI KX G,
   dI KX G,
   dI KX G,
   ⟨_,iI KX G,_,rfl⟩,
   ⟨_,iI KX G,_,rfl⟩,
   ⟨_,iI KX G,_,rfl⟩,
   ⟨iI KX G,_,_,_,by k_is,rfl,rfl,rfl,by simp[eE],by repeat (first|exact Paired.nil|refine Paired.cons ⟨_,rfl⟩ ?_)⟩,
   ⟨iI KX G,_,_,_,by k_is,rfl,rfl,rfl,by simp[eE],by repeat (first|exact Paired.nil|refine Paired.cons ⟨_,rfl⟩ ?_)⟩,
   ⟨_,iI KX G,_,rfl⟩,
   ⟨iI KX G,_,_,_,by k_is,rfl,rfl,rfl,by simp[eE],by repeat (first|exact Paired.nil|refine Paired.cons ⟨_,rfl⟩ ?_)⟩,
   ⟨_,iI KX G,_,rfl⟩,
   ⟨_,iI KX G,_,rfl⟩,
   cI KX G (HX 139 (by decide)) HB RU,
   cI KX G (HX 101 (by decide)) HB Ob,
   cI KX G (HX 44 (by decide)) HB RS,
   ⟨iI KX G,jE HX (by kernel_rfl) (by kernel_rfl)⟩,
   ⟨iI KX G,jE HX (by kernel_rfl) (by kernel_rfl)⟩,
   ⟨iI KX G,jE HX (by kernel_rfl) (by kernel_rfl)⟩,
   ⟨iI KX G,jE HX (by kernel_rfl) (by kernel_rfl)⟩,
   ⟨iI KX G,jE HX (by kernel_rfl) (by kernel_rfl)⟩,
   ⟨iI KX G,jE HX (by kernel_rfl) (by kernel_rfl)⟩,
   ⟨iI KX G,jE HX (by kernel_rfl) (by kernel_rfl)⟩,
   ⟨iI KX G,jE HX (by kernel_rfl) (by kernel_rfl)⟩,
   ⟨iI KX G,jE HX (by kernel_rfl) (by kernel_rfl)⟩,
   ⟨iI KX G,jE HX (by kernel_rfl) (by kernel_rfl)⟩,
   ⟨iI KX G,jE HX (by kernel_rfl) (by kernel_rfl)⟩,
   ⟨iI KX G,jE HX (by kernel_rfl) (by kernel_rfl)⟩,
   ⟨iI KX G,jE HX (by kernel_rfl) (by kernel_rfl)⟩,
   ⟨iI KX G,jE HX (by kernel_rfl) (by kernel_rfl)⟩,
   W_ HX (by kernel_rfl) (by kernel_rfl),
   eI KX G⟩⟩
