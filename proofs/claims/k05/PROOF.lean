import PyProof.Rows.All
import Wide.All
import OpenK.AllK
import Wide.FinOn
import Lean
import KE.KDictOf
import PyProof.TupleIter
import PyProof.CollectWalk
import PyProof.AttrMissHeap
import PyProof.EqAt
import PyProof.EqKinds
import PyProof.TupleCall
import KE.KSortTup
import KE.KDictSum
import PyProof.DictIter
import PyProof.ConsumeS
import PyProof.Rows.SetFrom
import PyProof.SetRoads
import PyProof.Rows.CountFlat
import PyProof.StationsW
import PyProof.ExcInit
import PyProof.ExcClass2
import PyProof.ExcBaseAll.ValueError
import PyProof.ExcAttrAll.ValueError
import KE.KIsAll
import PyProof.RulesAs
import PyProof.RulesDel
import PyProof.NeKinds
import KE.KDictList
import KE.KRevIter
import PyProof.EnumMake
import PyProof.ListRange
import PyProof.TupleOfGen
import KE.KMinBuiltin
import PyProof.Rows.CallKwBuiltin
import PyProof.FString
import PyProof.ZipIter
import PyProof.Rows.ZipGen
import PyProof.Rows.FactsT2
import PyProof.DictWalks
import KE.IntTextText
import PySem.Challenge.RW_claimwise_k05_things_read_and_written
set_option Elab.async false
set_option linter.all false
set_option maxRecDepth 100000
set_option maxHeartbeats 4000000
set_option bootstrap.genMatcherCode false
set_option compiler.extract_closed false
set_option genSizeOf false
set_option genInjectivity false
open PySem renaming sizeLine->aa,Shared->ak,wpAny_bind->au,model->aF,wpAny->aH,wpAny_pure->bh,Program->bx,World->bL,Around->cV,cLine->dc,starEach->dJ,sizeLine_eq->dM,wpAny_truthy_bool->dR,mainGlobals->dX,cellsFrom->dY,Scope->eL,call_meets->fV,compareOp->f6,wpAny_Call_Name_kw->f9,FuncData->gq,wpAny_holding->gA,binaryOp->gP,wpAny_tryCatch->gR,sysModules->gX,typeIs_str->gY,tupleKind_room_in1->g8,wpAny_passesOwn->h_,plainId_quiet->ig,assignEach->iD,NameKind->iW,codeAny_builtin->jq,wpAny_updateSeq->jr,wpAny_letGo->jz,foldedSetIterable->jG,rawInt->jV,wpAny_seqItems->j0,wpAny_mono->kh,codeAny->kL,sliceBounds->kM,backTo->lD,relabel->lK,wpAny_newObj_type->lU,strLen_append->mE,GenState->mQ,tupleKind->mZ,bootBuiltins->nL,letOwnedTupleGo->nM,CmpOp->nN,swapsWith->pH,assign->pJ,pyNext->pK,seqItems?->pP,holding->qW,valueAt->qX,callerA->qY,Operator->sy,codeAny_mono->sA,call_meetsIn->sC,wpAny_comprehension_free->sI,wpAny_execs_nil->tT,PassesOwn->tU,atKey->tW,pushCells_keeps->tY,subscripted->uy,wpAny_field->uA,pyIter->u0,Keyword->u6,wpAny_setField->u7,getitemInPython_of_ne->u9,meets_str_split_space->vc,newFunctionEnv->vd,bindL->vU,bindC->vV,wpAny_letTemporaryGo->vW,wpAny_standAt->wu,swapsWithSole->wx,swappedStores->wy,behindInMarks->wz,attributeBase->wA,wpAny_Tuple_spliced->wF,isTrue->ya,seqIndex_neg->yd,preSum->ym,WalksS->yp,updateSeq->yq,spliced->yL,getItem->yM,wpAny_assign_Name->yP,slot_list_getitem->yQ,wpAny_pyIter_list->yR,wpAny_pyIter_enum->yS,seqIndex_of->zA,keywordEach->zB,wpAny_eqBool_int->Ar,bindArgs->Au,noFill_tuple_add->Av,builtinsNs->BG,wpAny_Name->BH,Result->BI,typeIs_int->BJ,wpAny_specialOf->BU,wpAny_operating->BV,call_gives->BY,standAt->CH,recursionLimit->CK,BindsTo->CL,fitsIndex_both->CN,letTemporaryGo->CP,numbered_texts->CQ,intText_digits->CV,noteFrame->Eh,strValues->Ei,lastMarks->Ej,intBits_le_64->Et,seq_tuple_add->Eu,evalPart_none->Ew,call_list_seq->Ey,wpAny_newList->EB,concat_meets->GQ,backToKw->GU,Params->GV,argsOk->G0,interactive->Hz,IsRangeIter->HA,strsFrom_eq->HE,richCompare->HG,wpAny_of_eq->HH,intText_neg->HK,setItem->I_,leaving->Ja,Model->KJ,sliceRange->KR,closureFor->KS,Moved->KU,truthy->N8,IsPart->N_,DefRec->Oc,cellOf->Og
open List renaming length_map->ah,mem_cons_of_mem->ai,getElem?_eq_getElem->aj,mem_cons_self->ao,mem_append_right->aq,length_append->az,mem_append_left->aC,mem_append->aD,mem_cons->aE,size_toArray->aG,not_mem_nil->aJ,getD_eq_getElem?_getD->aK,mem_singleton->aM,replicate->aQ,mem_map->aV,getElem?_map->aX,nodup_append->a6,map_append->a_,length_cons->bz,range->bA,map_cons->bD,nodup_cons->bF,all_eq_true->bH,append_nil->bI,map_map->bK,replicate_succ->bN,getElem?_eq_some_iff->bQ,getElem?_set_ne->bR,append_assoc->bS,length_singleton->bU,take_of_length_le->cu,getElem?_append_right->cC,lookup_cons->cI,flatten_cons->cT,getElem?_set_self->cW,mem_replicate->dF,length_drop->dN,getElem?_append_left->eB,length_take->eT,any_eq_false->fq,getElem?_set->fu,find?_cons->fC,length_nil->fE,length_replicate->f_,eq_nil_of_length_eq_zero->gD,filterMap_cons->gJ,mem_map_of_mem->gM,getElem_mem->gQ,nodup_nil->gS,filter_append->g_,drop_eq_getElem_cons->iE,all_map->jX,drop_zero->jZ,mem_of_getElem?->ki,intercalate->kq,mem_flatMap->ku,any_cons->kF,all_cons->kG,map_congr_left->kQ,nil_append->kU,filter_cons_of_pos->lN,flatMap_cons->lV,drop_of_length_le->l9,take_length->mR,getElem?_eq_none->m5,length_set->nP,foldl_cons->nQ,getElem?_of_mem->nS,getElem_of_mem->nV,mem_range->oH,sum_cons->qc,length_range->qq,extract_eq_take_drop->qN,mapIdx_eq_zipIdx_map->qO,ext_getElem->sE,idxOf_lt_length_iff->sG,any_map->sJ,map->sL,map_id'->sQ,getElem?_replicate->sR,getElem?_cons_succ->sS,of_mem_zip->tV,take_succ->u_,getElem?_range->wJ,drop_succ_cons->wK,flatMap_append->wM,filter_eq_self->wN,mem_filterMap->yc,map_nil->yi,getElem?_drop->yl,foldl_append->yW,length->zz,getElem_inj->As,any_eq_true->AA,drop_length->AD,getElem_map->AG,mem_filter->BF,foldl->BK,count_cons->BR,range_succ->BW,idxOf_cons->BX,isPrefixOf->B5,lt_irrefl->CM,foldl_nil->CT,all_nil->G3,range'->HJ,not_lt->HL
open False renaming elim->ay
open Nat renaming le_refl->aB,lt_of_lt_of_le->bG,ne_of_lt->bT,lt_irrefl->cM,zero_le->cX,le_trans->dB,le_of_lt->iV,min_eq_left->jm,lt_trans->jW,lt_succ_self->kj,lt_succ_of_lt->qv,mod_eq_of_lt->sM,sub_self->sN,ne_of_gt->yb,succ_mul->yf,add_comm->yg,toDigits->yt,le_succ->zC,min_eq_right->AB,not_lt_zero->BP,le_of_eq->GW,mul_comm->GY,succ_pos->GZ,mul_succ->G1,repr->G2,log2_lt->HM
open PySem.Heap renaming get?_push_of_some->aP,lt_size->a8,get?_update_other->bC,get?_push_size->bJ,get?_update_self->gb,size_push->lJ,get?_update_ne->nW,SameBut->sj
open Bool renaming false_ne_true->aR,and_eq_true->aU,eq_iff_iff->eE,and_true->ie,and_eq_true_iff->kr,not_eq_true'->qy,and_false->u5,false_eq_true->yk,false_and->CJ,false_or->Ez,true_or->GS
open PySem.Str renaming ofString->aS,join->dS,length->fU,empty->jj,length_append->qz
open PySem.Value renaming ref->bV,none->dZ,bool->iC,int->mY,str->pB,isStrOf->Es,isInt->Hv,float->Hx
open PySem.NameKind renaming free->cg,cell->cD
open Option.some renaming inj->cZ
open PySem.Builtin.Str renaming strSliceIndices->dh,spaceWords->jy,tooLong->KY,strSub->Of
open Ne renaming symm->dm
open Int renaming emod_lt_of_pos->dD,emod_nonneg->eG,toNat_natCast->iy,emod_eq_of_lt->yX,negSucc->zF,le_refl->HD
open PySem.Expr.Name renaming elim->dU
open True renaming intro->eu
open PySem.Obj renaming mapSeq->eY,mapFields->p9
open PySem.Calls renaming spliced_cons->f7,spliced_nil->lT,Name_function_global->p6,callWith_builtin->uB
open PyProof.Rows renaming callWith_builtin1->gu,seqObj->gK,callWith_type1->j6,AllBare->kK,envOfC->nO,subscriptTail->p7,getElem?_bubble->tZ,subscriptTail_builtinR->uz,getElem?_mirror_all->wL,slot_tuple_getitem->ye,bubble->yj,IntsAre->yN,slot_str_getitem->Aw,get?_update_seq->BQ,boot_isinstance->BZ,listUpdate_at->EA,failedOf->GX,text_ofNat->G6,seqEpoch_at->HC,join_list->HF,isTrue_and->KL,Subscript_->KN,arrOf->KQ,lt_int->N9
open PySem.Around renaming under_plainId->gv
open PySem.Txt renaming words->g9,split->iM,mul->Jb
open PySem.W renaming kas_rev->iN,kas_desc->iY,kas_asc->ja,kas_sort->jx,kas_descPart->nR,kas_tail3->pL,kas_place->pN,kas_bin->qZ,kas_count->tX,pre_splitW->KO
open PySem.Expr.Call renaming elim->iO
open PySem.Builtin.List renaming listTooLong->iX,listFitsIndex->qa,listUpdate->G5
open Array renaming length_toList->i0,getElem?_toList->jY,getD_eq_getD_getElem?->j7,toArray_toList->ko,toList_append->nX,getElem?_eq_some_iff->p_,toList_extract->vX,toList_inj->Az,getD->BL,ext'->BS,toList->GP
open ForInStep renaming yield->jo
open List.cons renaming inj->kH
open Sum renaming inr->kJ,inl->qV
open PySem.Expr.Subscript renaming elim->kP
open Sum.inr renaming inj->l8
open PySem.Moved renaming trans->l_,drop_new->CU,eq_with->EC
open PySem.Expr.Tuple renaming elim->nT
open PySem.Builtin.Builtins renaming bindParams->pQ
open Option renaming isSome_map->qo,isSome_some->yh,getD_none->Ax
open PySem.StrLaws renaming subAt_one->qw,occ_length_le->Jc,lt_cons_cons->KW,join_split->Od,split_free->Oe,lt_nil_nil->Ol,occ_tight->Oo,occ_head->RV,subAt_eq->RW
open Char renaming toNat->vY,ofNat->B0
open PySem.W.Looks renaming of_pure->wB
open PySem.EntryCells renaming newEntry->wH
open PySem.AutoListH renaming list_insert_list_int_val_1->yo,list___mul___list_int_3->zE
open PySem.Expr.ListComp renaming elim->yr
open Iff renaming rfl->yO
open PySem.Expr.UnaryOp renaming elim->yT
open PySem.Expr.Compare renaming elim->yU
open List.Sublist renaming refl->yV,append->K1
open PySem.AutoSeq1 renaming list_extend_list_list_0->Ay
open PySem.Expr.BoolOp renaming elim->AE
open PySem.Stmt.Assign renaming elim->AF
open Array.Perm renaming refl->BO
open PySem.Stmt.For renaming elim->ED
open PySem.Builtin.Range renaming rangeSize->G4
open Sum.inl renaming inj->Hw
open PyProof renaming noPylong_small->HB
open PySem.W.WShape renaming has->KP
open PySem.Expr.Attribute renaming elim->KZ
open PySem.Expr.JoinedStr renaming elim->K0
open PySem.SeqAt.EqAt renaming int_str->N6,str_int->N7
open PySem.Heap.IsSliceOf renaming new->Oa
open PySem.W.WData renaming int->Ob
open PySem.Expr.Constant renaming elim->Oh
open PySem.ScopeKind renaming function->Oi
open PySem.Stmt.Continue renaming elim->Oj
open List.Pairwise renaming nil->Om
open PySem.DictEntry renaming refKey->RU
open PySem.Stmt.Return renaming elim->RX
open PySem.Heap.DictOf renaming new->SY
open PySem.PassesOwn renaming never->S1
open PySem.Expr.BinOp renaming elim->S2
open PySem.Expr.IfExp renaming elim->S3
open PySem.Expr.Slice renaming elim->S4
open PySem.Stmt.Break renaming elim->S5
open PySem.Expr.List renaming elim->U5
open PySem.Expr.Dict renaming elim->U6
open PySem.Stmt.Expr renaming elim->U7
open List.Perm renaming refl->U8
open PySem.Stmt.If renaming elim->Xh
open PySem.IsRange renaming new->Xi
open PySem.W.OpenLaw renaming pre->Xj
open PySem.Heap.Ns renaming new->Xk
section
namespace L2
open PySem PySem.Spec PyProof.Rows
noncomputable abbrev Key:=Sum Int Str
noncomputable def yu:Key->Value->Bool
|.inl k,v=>Hv k v
|.inr x,v=>Es x v
noncomputable def YX(w:bL):Key->Int
|.inl k=>hashInt k
|.inr x=>hashStr w x
theorem fG:∀{k:Key}{v:Value},yu k v=true->(∃i t,k=qV i/\v=mY i t)\/(∃x t,k=kJ x/\v=pB x t)
|.inl i,v,h=>by
 obtain⟨t,e⟩:=Value.isInt_shape (k:=i) (v:=v) h;exact .inl ⟨i,t,rfl,e⟩
|.inr x,v,h=>by
 obtain⟨t,e⟩:=Value.isStrOf_shape (x:=x) (v:=v) h;exact .inr ⟨x,t,rfl,e⟩
theorem K3(i:Int)(t:Tok):yu (.inl i) (.int i t)=true:=by simp[yu,Hv]
theorem K4(x:Str)(t:Tok):yu (.inr x) (.str x t)=true:=by simp[yu,Es]
theorem U9(a b:Int):decide ((qV a:Key)=qV b)=(a==b):=by
 by_cases e:a=b
 ·subst e;simp
 ·have h:¬(qV a:Key)=qV b:=fun q=>e (Hw q);rw[decide_eq_false h];exact(beq_eq_false_iff_ne.mpr e).symm
theorem U_(a b:Str):decide ((kJ a:Key)=kJ b)=decide (a=b):=by
 by_cases e:a=b
 ·subst e;simp
 ·have h:¬(kJ a:Key)=kJ b:=fun q=>e (l8 q);rw[decide_eq_false h,decide_eq_false e]
theorem Va(a:Int)(b:Str):decide ((qV a:Key)=kJ b)=false:=decide_eq_false (fun q=>nomatch q)
theorem Vb(a:Str)(b:Int):decide ((kJ a:Key)=qV b)=false:=decide_eq_false (fun q=>nomatch q)
noncomputable def dg(prog:bx)(w:bL):PySem.KeyKind prog w Key where
 is:=yu
 hash:=YX w
 inj:=fun v a b ha hb=>by
  rcases fG ha with⟨i,t,rfl,rfl⟩|⟨x,t,rfl,rfl⟩
  ·rcases fG hb with⟨j,u,rfl,e⟩|⟨y,u,rfl,e⟩
   ·injection e with e1 _;rw[e1]
   ·exact nomatch e
  ·rcases fG hb with⟨j,u,rfl,e⟩|⟨y,u,rfl,e⟩
   ·exact nomatch e
   ·injection e with e1 _;rw[e1]
 byValue:=fun k v h=>by
  rcases fG h with⟨i,t,rfl,rfl⟩|⟨x,t,rfl,rfl⟩<;>rfl
 pyHash:=fun hv h=>by
  rcases fG hv with⟨i,t,rfl,rfl⟩|⟨x,t,rfl,rfl⟩
  ·exact wpAny_pyHash_int h
  ·exact wpAny_pyHash_str h
 eqBool:=fun hu hv h=>by
  rcases fG hu with⟨i,t,rfl,rfl⟩|⟨x,t,rfl,rfl⟩
  ·rcases fG hv with⟨j,u,rfl,rfl⟩|⟨y,u,rfl,rfl⟩
   ·rw[U9]at h;exact Ar h
   ·rw[Va]at h;exact N6 i t y u _ _ _ _ h
  ·rcases fG hv with⟨j,u,rfl,rfl⟩|⟨y,u,rfl,rfl⟩
   ·rw[Vb]at h;exact N7 x t j u _ _ _ _ h
   ·rw[U_]at h;exact wpAny_eqBool_str h
 «strs»:=fun k x t v h=>by
  rcases fG h with⟨i,u,rfl,e⟩|⟨y,u,rfl,e⟩
  ·exact nomatch e
  ·injection e with e1 _;subst e1;cases v<;>rfl
theorem yY(prog:bx)(w:bL)(i:Int)(t:Tok):(dg prog w).is (.inl i) (.int i t)=true:=K3 i t
theorem yZ(prog:bx)(w:bL)(x:Str)(t:Tok):(dg prog w).is (.inr x) (.str x t)=true:=K4 x t
end L2
namespace L2
open PySem PySem.Spec PyProof.Rows
inductive V where
 |non|bl (b:Bool)|int (i:Int)|str (x:Str)|byt (b:Array UInt8)|flt (b:UInt64)|ref (a:Addr)|ty (n:String)
 deriving DecidableEq
def RelV:V->Value->Prop
|.non,u=>u=dZ
|.bl b,u=>u=iC b
|.int i,u=>∃t,u=mY i t
|.str x,u=>∃t,u=pB x t
|.byt b,u=>∃t,u=Value.bytes b t
|.flt b,u=>∃t,u=Hx b t
|.ref a,u=>u=bV a
|.ty n,u=>u=Value.type n
abbrev bB:List V->List Value->Prop:=Paired RelV
theorem bB.length{xs:List V}{us:List Value}(r:bB xs us):xs.length=us.length:=Paired.length r
theorem bB.get:∀{xs:List V}{us:List Value}{i:Nat}{x:V},bB xs us->xs[i]?=some x->∃u,us[i]?=some u/\RelV x u
|_,_,_,_,.nil,e=>by simp at e
|_,_,0,_,.cons r _,e=>by simp at e;subst e;exact⟨_,rfl,r⟩
|_,_,i+1,x,.cons _ t,e=>by
 obtain⟨u,h1,h2⟩:=bB.get (i:=i) (x:=x) t (by simpa using e);exact⟨u,by simpa using h1,h2⟩
theorem bB.set{x:V}{u:Value}(r:RelV x u):∀{xs:List V}{us:List Value} (i:Nat),bB xs us->bB (xs.set i x) (us.set i u)
|_,_,_,.nil=>.nil
|_,_,0,.cons _ t=>.cons r t
|_,_,i+1,.cons q t=>.cons q (bB.set r i t)
theorem bB.append:∀{xs ys:List V}{us ws:List Value},bB xs us->bB ys ws->bB (xs++ys) (us++ws)
|_,_,_,_,.nil,s=>s
|_,_,_,_,.cons r t,s=>.cons r (bB.append t s)
theorem bB.take:∀{xs:List V}{us:List Value} (n:Nat),bB xs us->bB (xs.take n) (us.take n)
|_,_,0,_=>.nil
|_,_,_+1,.nil=>.nil
|_,_,n+1,.cons r t=>.cons r (bB.take n t)
theorem bB.drop:∀{xs:List V}{us:List Value} (n:Nat),bB xs us->bB (xs.drop n) (us.drop n)
|_,_,0,r=>r
|_,_,_+1,.nil=>.nil
|_,_,n+1,.cons _ t=>bB.drop n t
def nY:Option V->Option Value->Prop
|some v,some u=>RelV v u
|none,none=>True
|_,_=>False
def KV{κ:Type}:List (κ×V)->List (κ×Value)->Prop:=Paired fun(p:κ×V) (q:κ×Value)=>p.1=q.1/\RelV p.2 q.2
noncomputable def kV:Key->V
|.inl i=>.int i
|.inr x=>.str x
inductive HO where
|lst (xs:List V)
|tup (xs:List V)
|dK (kvs:List (Key×V))|dT (kvs:List (List Key×V))
|set (S:Int->Bool) (n:Nat)
|ins (C dx:Addr) (fs:List (Str×V))
|own (x:Addr)
|xd (fs:List (Str×V))
|met (f x:Addr)
|rng (lo hi:Int)
|br (o:Obj) (u:HO)
|tbl (ps:Array Value)
|ext (φ:Heap->Prop)
noncomputable abbrev Hp:=Addr->Option HO
noncomputable def upd(H:Hp)(a:Addr)(o:HO):Hp:=fun b=>if b=a then some o else H b
variable{H:Hp}{a:Addr}{o:HO}
theorem dG:upd H a o a=some o:=by unfold upd;rw[if_pos rfl]
variable{b:Addr}
theorem bw(h:b≠a):upd H a o b=H b:=by unfold upd;rw[if_neg h]
variable{u:HO}
theorem Xl(h:H a=some o)(h':H b=some u)(d:o≠u):a≠b:=by
 intro e;subst e;rw[h]at h';exact d (cZ h')
theorem cK(h:H a=some o)(h':H b=none):a≠b:=by
 intro e;subst e;rw[h]at h';cases h'
section
variable(P:bx) (w:bL)
def cY(H:Hp)(h:Heap)(a:Addr):HO->Prop
|.lst xs=>xs.length<=aa/\∃(its:List Value) (n:Nat),bB xs its/\h.get? a=some { cls:=.type "list",data:=.seq its.toArray n }
|.tup xs=>xs.length<=aa/\∃its:List Value,bB xs its/\IsTup h a its.toArray
|.dK kvs=>kvs.length<=aa/\(a==gX)=false/\∃vs,KV kvs vs/\h.DictOf (dg P w) a vs
|.dT kvs=>kvs.length<=aa/\(a==gX)=false/\∃xs:List (List Key×Addr×Value),
  Paired (fun(p:List Key×V) (q:List Key×Addr×Value)=>p.1=q.1/\H q.2.1=some (.tup (p.1.map kV))/\RelV p.2 q.2.2) kvs xs /\
  ∃o es ep,h.get? a=some o/\o.ExactDict/\o.data=.dict es ep/\es.toList=xs.map (entryOfKey (mZ (dg P w)))/\(xs.map (·.1)).Nodup
|.set S n=>h.SetOf (intKind P w) a S n
|.ins C dx fs=>H dx=some (.own a)/\fs.length<=1000/\dx≠a/\h.get? a=some (PySem.W.instObj C dx) /\
  ∃mA,h.Ns1 dx mA/\(∀f,nY (fs.lookup f) (mA f))/\PySem.Within mA (fs.map (·.1))
|.own _=>∃o,h.get? a=some o
|.xd fs=>∃mA,h.Ns1 a mA/\∀f,nY (fs.lookup f) (mA f)
|.rng lo hi=>∃t u v,h.get? a=some { cls:=.type "range",data:=.fields #[.int lo t,.int hi u,.int 1 v] }
|.br o u=>h.get? a=some o/\cY H h a u
|.tbl ps=>h.get? a=some { cls:=.none,data:=.fields ps }
|.met f x=>h.get? a=some (PySem.W.methodObj (.ref f) (.ref x))
|.ext φ=>φ h/\(∃o,h.get? a=some o)/\∀h1 h2:Heap,φ h1->(∀o,h1.get? a=some o->h2.get? a=some o)->φ h2
def fH(H:Hp)(h:Heap):Prop:=∀a o,H a=some o->cY P w H h a o
end
variable{α β:Type}
section
variable{P:bx}{w:bL}{H H':Hp}{h h':Heap}{a:Addr}{o:HO}
theorem cY.lt(x:cY P w H h a o):a<h.objs.size:=by
 cases o with
 |lst xs=>obtain⟨_,_,_,_,e⟩:=x;exact a8 e
 |tup xs=>obtain⟨_,_,_,p⟩:=x;exact p.lt
 |dK kvs=>obtain⟨_,_,_,_,o,_,_,e,_⟩:=x;exact a8 e
 |dT kvs=>obtain⟨_,_,_,_,o,_,_,e,_⟩:=x;exact a8 e
 |set S n=>obtain⟨o,_,_,_,e,_⟩:=x;exact a8 e
 |ins C dx fs=>obtain⟨_,_,_,e,_⟩:=x;exact a8 e
 |own y=>obtain⟨_,e⟩:=x;exact a8 e
 |xd fs=>obtain⟨_,⟨_,_,_,e,_⟩,_⟩:=x;exact a8 e
 |rng lo hi=>obtain⟨_,_,_,e⟩:=x;exact a8 e
 |br ob u=>obtain⟨e,_⟩:=x;exact a8 e
 |tbl ps=>exact a8 (show h.get? a=some _ from x)
 |met f y=>exact a8 (show h.get? a=some _ from x)
 |ext φ=>obtain⟨_,⟨_,e⟩,_⟩:=x;exact a8 e
theorem Paired.Jd{F G:α->β->Prop}:∀{Z_:List α}{aaa:List β},Paired F Z_ aaa->(∀a b,F a b->G a b)->Paired G Z_ aaa
|_,_,.nil,_=>.nil
|_,_,.cons r t,f=>.cons (f _ _ r) (Paired.Jd t f)
theorem Paired.imp'{F G:α->β->Prop}(f:∀a b,F a b->G a b){Z_:List α}{aaa:List β}(r:Paired F Z_ aaa):Paired G Z_ aaa:=Paired.Jd r f
theorem cY.stay(x:cY P w H h a o)(k:∀b u,(b=a\/H b=some (.own a))->h.get? b=some u->h'.get? b=some u)
  (ho:∀b,H b=some (.own a)->H' b=some (.own a)) (ht:∀b xs,H b=some (.tup xs)->H' b=some (.tup xs)):cY P w H' h' a o:=by
 induction o with
 |lst xs=>obtain⟨z,its,n,r,e⟩:=x;exact⟨z,its,n,r,k _ _ (.inl rfl) e⟩
 |tup xs=>obtain⟨z,its,r,ob,e,c⟩:=x;exact⟨z,its,r,ob,k _ _ (.inl rfl) e,c⟩
 |dK kvs=>obtain⟨z,y,vs,r,ob,es,ep,e,c⟩:=x;exact⟨z,y,vs,r,ob,es,ep,k _ _ (.inl rfl) e,c⟩
 |dT kvs=>
  obtain⟨z,y,xs,r,ob,es,ep,e,c⟩:=x;exact⟨z,y,xs,Paired.Jd r fun p q z=>⟨z.1,ht _ _ z.2.1,z.2.2⟩,ob,es,ep,k _ _ (.inl rfl) e,c⟩
 |set S n=>obtain⟨ob,es,ep,t,e,c⟩:=x;exact⟨ob,es,ep,t,k _ _ (.inl rfl) e,c⟩
 |ins C dx fs=>
  obtain⟨d,z,ne,e,mA,⟨od,es,ep,e2,c⟩,r⟩:=x;exact⟨ho _ d,z,ne,k _ _ (.inl rfl) e,mA,⟨od,es,ep,k _ _ (.inr d) e2,c⟩,r⟩
 |own y=>obtain⟨ob,e⟩:=x;exact⟨ob,k _ _ (.inl rfl) e⟩
 |xd fs=>obtain⟨mA,⟨od,es,ep,e,c⟩,r⟩:=x;exact⟨mA,⟨od,es,ep,k _ _ (.inl rfl) e,c⟩,r⟩
 |rng lo hi=>obtain⟨t,u,v,e⟩:=x;exact⟨t,u,v,k _ _ (.inl rfl) e⟩
 |br ob u ih=>obtain⟨e,q⟩:=x;exact⟨k _ _ (.inl rfl) e,ih q⟩
 |tbl ps=>
  have e:h.get? a=some { cls:=.none,data:=.fields ps }:=x;show h'.get? a=some { cls:=.none,data:=.fields ps };exact k a _ (.inl rfl) e
 |met f y=>
  have e:h.get? a=some (PySem.W.methodObj (.ref f) (.ref y)):=x;show h'.get? a=some (PySem.W.methodObj (.ref f) (.ref y));exact k a _ (.inl rfl) e
 |ext φ=>obtain⟨p,⟨o,e⟩,st⟩:=x;exact⟨st _ _ p fun o q=>k _ _ (.inl rfl) q,⟨o,k _ _ (.inl rfl) e⟩,st⟩
theorem fH.lt(x:fH P w H h)(e:H a=some o):a<h.objs.size:=(x a o e).lt
theorem fH.fresh(x:fH P w H h)(e:h.objs.size<=a):H a=none:=by
 cases q:H a with
 |none=>rfl
 |some u=>exact absurd (bG (x.lt q) e) (cM _)
theorem fH.kept(x:fH P w H h)(k:∀b u,h.get? b=some u->h'.get? b=some u):fH P w H h':=fun a o e=>
 (x a o e).stay (fun b u _ q=>k b u q) (fun _ q=>q) fun _ _ q=>q
theorem fH.laid(x:fH P w H h)(k:∀b u,h.get? b=some u->h'.get? b=some u)(hp:h.objs.size<=a)(new:cY P w (upd H a o) h' a o):fH P w (upd H a o) h':=fun b u e=>by
 have hn:=x.fresh hp;by_cases hb:b=a
 ·subst hb;rw[dG]at e;cases e;exact new
 ·rw[bw hb]at e;exact(x b u e).stay (fun c v _ q=>k c v q) (fun c q=>by rw[bw (cK q hn)];exact q) fun c xs q=>by rw[bw (cK q hn)];exact q
end
def Rd(H:Hp)(a:Addr)(u:HO):Prop:=H a=some u\/∃o,H a=some (.br o u)
variable{h:Heap}
theorem Rd.ok{P:bx}{w:bL}(r:Rd H a u)(x:fH P w H h):cY P w H h a u:=by
 rcases r with r|⟨o,r⟩
 ·exact x a u r
 ·obtain⟨_,q⟩:=x a _ r;exact q
def K5:Option HO->Prop
|some (.lst _)=>True
|some (.dK _)=>True
|some (.dT _)=>True
|some (.set _ _)=>True
|some (.ins _ _ _)=>True
|some (.ext _)=>True
|_=>False
section
variable{P:bx}{w:bL}{H:Hp}{h h':Heap}{x e:Addr}{o':HO}
theorem fH.write(ok:fH P w H h)(mu:K5 (H x))(he:e=x\/H e=some (.own x))(k:∀b u,b≠e->h.get? b=some u->h'.get? b=some u)(heo:∃u,h'.get? e=some u)
  (new:cY P w (upd H x o') h' x o'):fH P w (upd H x o') h':=fun b u q=>by
 have nown:∀c y,H c=some (.own y)->c≠x:=fun c y r z=>by subst z;rw[r]at mu;exact mu
 have ntup:∀c xs,H c=some (.tup xs)->c≠x:=fun c xs r z=>by subst z;rw[r]at mu;exact mu
 by_cases hb:b=x
 ·subst hb;rw[dG]at q;cases q;exact new
 ·rw[bw hb]at q;by_cases hbe:b=e
  ·have q':H b=some (.own x):=by
    rcases he with z|z
    ·exact absurd (hbe.trans z) hb
    ·rw[hbe];exact z
   rw[q]at q';cases q';obtain⟨v,hv⟩:=heo;exact⟨v,by rw[hbe];exact hv⟩
  ·refine(ok b u q).stay (fun c v hc r=>k c v ?_ r) (fun c r=>by rw[bw (nown c b r)];exact r) fun c xs r=>by rw[bw (ntup c xs r)];exact r
   rcases hc with rfl|hc
   ·exact hbe
   ·rintro rfl;rcases he with z|z
    ·exact nown c b hc z
    ·rw[hc]at z;cases z;exact hb rfl
end
structure Un (fs ex:List Addr) (H H':Hp) (h h':Heap):Prop where
 keep:∀b o,h.get? b=some o->H b=none->b∉fs->b∉ex->h'.get? b=some o
 slot:∀b o,h.get? b=some o->H b=none->b∈fs->b∉ex->∃sl,h'.get? b=some { o with slots:=sl }
 free:∀b o,h.get? b=some o->H b=none->b∉ex->H' b=none
 there:∀b o,h.get? b=some o->b∉ex->∃o',h'.get? b=some o'
 tups:∀b xs,H b=some (.tup xs)->H' b=some (.tup xs)
 aA:∀b o u,H b=some (.br o u)->H' b=some (.br o u)
 tbls:∀b ps,H b=some (.tbl ps)->∃more,H' b=some (.tbl (ps++more))
section
variable{fs fs' ex ex':List Addr}{H H1 H2:Hp}{h h1 h2 h':Heap}{a x e:Addr}{o:HO}
theorem Un.any(u:Un fs ex H H1 h h1){ob:Obj}(q:h.get? b=some ob)(n:H b=none)(hx:b∉ex):∃sl,h1.get? b=some { ob with slots:=sl }:=by
 by_cases hb:b∈fs
 ·exact u.slot b ob q n hb hx
 ·exact⟨ob.slots,u.keep b ob q n hb hx⟩
theorem Un.kept(k:∀b u,h.get? b=some u->h'.get? b=some u):Un fs ex H H h h':=
 ⟨fun b ob q _ _ _=>k b ob q,fun b ob q _ _ _=>⟨ob.slots,k b ob q⟩,fun _ _ _ n _=>n,fun b ob q _=>⟨ob,k b ob q⟩,fun _ _ q=>q,fun _ _ _ q=>q,fun _ ps q=>⟨#[],by rw[q];simp⟩⟩
theorem Un.refl:Un fs ex H H h h:=Un.kept fun _ _ q=>q
theorem Un.laid(k:∀b u,h.get? b=some u->h'.get? b=some u)(hp:h.objs.size<=a)(hn:H a=none):Un fs ex H (upd H a o) h h' where
 keep:=fun b u q _ _ _=>k b u q
 slot:=fun b u q _ _ _=>⟨u.slots,k b u q⟩
 free:=fun b u q n _=>by rw[bw (bT (bG (a8 q) hp))];exact n
 there:=fun b u q _=>⟨u,k b u q⟩
 tups:=fun b xs q=>by rw[bw (cK q hn)];exact q
 aA:=fun b u xs q=>by rw[bw (cK q hn)];exact q
 tbls:=fun b ps q=>⟨#[],by rw[bw (cK q hn),q];simp⟩
theorem Un.write(mu:K5 (H x))(he:e=x\/H e=some (.own x))(k:∀b u,b≠e->h.get? b=some u->h'.get? b=some u)(heo:∃u,h'.get? e=some u):Un fs ex H (upd H x o) h h':=by
 have hx:∀b,H b=none->b≠x:=fun b n z=>by subst z;rw[n]at mu;exact mu
 have hb:∀b,H b=none->b≠e:=fun b n z=>by
  subst z;rcases he with r|r
  ·exact hx b n r
  ·rw[n]at r;cases r
 have hm:∀b u,H b=some u->¬K5 (some u)->b≠x:=fun b u q nm z=>by subst z;rw[q]at mu;exact nm mu
 refine⟨fun b u q n _ _=>k b u (hb b n) q,fun b u q n _ _=>⟨u.slots,k b u (hb b n) q⟩,fun b u q n _=>by rw[bw (hx b n)];exact n,fun b u q _=>?_,
  fun b xs q=>by rw[bw (hm b _ q fun z=>z)];exact q,fun b u xs q=>by rw[bw (hm b _ q fun z=>z)];exact q,fun b ps q=>⟨#[],by rw[bw (hm b _ q fun z=>z),q];simp⟩⟩
 by_cases hbe:b=e
 ·subst hbe;exact heo
 ·exact⟨u,k b u hbe q⟩
end
noncomputable def RY(h:Heap)(H:Hp):List Addr:=(bA h.objs.size).filter fun a=>(H a).isSome
noncomputable def ve(h:Heap)(H:Hp):Heap:=PySem.W.hideAll h (RY h H)
theorem K6(h:Heap)(H:Hp):(ve h H).objs.size=h.objs.size:=PySem.W.hideAll_size _ _
theorem Oq{o:Obj}(e:h.get? b=some o)(n:H b=none):(ve h H).get? b=some o:=
 PySem.W.hideAll_get _ e fun hm=>by
  have q:(H b).isSome=true:=(BF.mp hm).2;rw[n]at q;simp at q
theorem S6{o:Obj}(e:(ve h H).get? b=some o):h.get? b=some o/\H b=none:=by
 have e':h.get? b=some o:=PySem.W.of_hideAll (RY h H) e;refine⟨e',?_⟩;cases q:H b with
 |none=>rfl
 |some x=>
  have hm:b∈RY h H:=BF.mpr ⟨oH.mpr (a8 e'),by simp[q]⟩;have z:(ve h H).get? b=none:=PySem.W.hideAll_none (RY h H) hm;rw[z]at e;cases e
noncomputable def S7(g h:Heap)(ZT:Addr):List (Addr×Obj):=(bA h.objs.size).filterMap fun a=>if a=ZT\/(g.get? a).isSome=true then none else(h.get? a).map fun o=>(a,o)
noncomputable def rest(g h:Heap)(ZT d:Addr):List (Addr×Obj):=(S7 g h ZT).filter fun p=>decide (p.1≠d)
end L2
namespace L2
open PySem PySem.Spec PyProof.Rows
structure Mod (K:PySem.W.Frag) (mg:Str->Option Value) (base:Heap):Prop where
 kin:K.In base
 glob:base.Ns dX mg
 blt:∃mb,base.Ns BG mb/\∀x:Str,x≠"__name__"->mb x=nL x
 nolimit:base.NoLimit
structure Cx where
 prog:bx
 w:bL
 K:PySem.W.Frag
 mg:Str->Option Value
 base:Heap
 A:cV
 N:List Str
 ZX:ak
 Z9:Hp
 env:Env
 outer:List Env
 stack:List Env
 ex:List Addr
 fn:Str->Bool
 calm:Bool
 pn:List (Addr×Obj)
 xe:Value->ak->Prop
noncomputable def frs(l:List Env):List Addr:=l.filterMap (·.frame)
noncomputable abbrev Cx.fs(X:Cx):List Addr:=frs X.outer
def K7(sc:eL)(x:Str):Prop:=sc.names.lookup x=some .local\/sc.names.lookup x=some .cell\/sc.names.lookup x=some .free
def Loc(sc:eL)(x:Str):Prop:=sc.names.lookup x=some .local\/sc.names.lookup x=some .cell
def Look(env:Env)(h:Heap)(m:Str->Option Value)(x:Str)(u:Value):Prop:=
 (env.kindOf x=some .local/\m x=some u)\/((env.kindOf x=some .cell\/env.kindOf x=some .free)/\∃c,env.cells.lookup x=some c/\h.IsCell c (some u))
structure Cx.Ok (X:Cx):Prop where
 mod:Mod X.K X.mg X.base
 kind:X.env.scope.kind=.function
 glob:X.env.globals=dX
 blt:X.env.builtins=BG
 above:X.ZX.heap.objs.size<=X.env.locals
 inj:∀x y c,X.env.cells.lookup x=some c->X.env.cells.lookup y=some c->x=y
 has:∀x,(X.env.kindOf x=some .cell\/X.env.kindOf x=some .free)->∃c,X.env.cells.lookup x=some c
 cab:∀x c,X.fn x=true->X.env.cells.lookup x=some c->X.ZX.heap.objs.size<=c
 hd:X.calm=true->X.A.handled=none
 frames:X.A.frames=some X.stack
 stk:X.stack=X.outer\/(X.stack=X.env::X.outer/\X.env.frame=some X.env.locals)
 exf:∀b∈X.ex,b≠X.env.locals/\∀x c,X.env.cells.lookup x=some c->c≠b
 bs:∀b o,X.base.get? b=some o->X.ZX.heap.get? b=some o/\X.Z9 b=none
 bsz:X.base.objs.size<=X.ZX.heap.objs.size
 noex:∀b o,X.base.get? b=some o->b∉X.ex
 exfs:∀b∈X.ex,b∉X.fs
 pR:X.ZX.heap.FunFrames X.base X.outer
 frf:∀b∈X.fs,X.Z9 b=none
structure Inv (X:Cx) (pins:List (Addr×Obj)) (O:List (Option V)) (H:Hp) (s:ak):Prop where
 ok:X.Ok
 os:s.os=X.ZX.os
 bare:kK s.gens
 base:Un X.fs X.ex X.Z9 H X.ZX.heap s.heap
 loc:∃m,s.heap.Ns X.env.locals m/\∀(i:Nat) (x:Str) (v:V),X.N[i]?=some x->O[i]?=some (some v)->K7 X.env.scope x->∃u,RelV v u/\Look X.env s.heap m x u
 cell:∀x c,X.env.cells.lookup x=some c->∃v,s.heap.IsCell c v
 free:H X.env.locals=none
 freeC:∀x c,X.env.cells.lookup x=some c->H c=none
 pin:∀p∈X.pn++pins,s.heap.get? p.1=some p.2/\H p.1=none/\p.1≠X.env.locals/\p.1∉X.fs/\∀v,p.2.data≠.cell v
 hok:fH X.prog X.w H s.heap
 len:O.length=X.N.length
variable{a:Addr}
variable{g':Array mQ}{t':Nat}{d':Drawn}{ch:List Addr}
variable{i:Nat}{x:Str}
variable{M:KJ}{A:cV}{E:Value->ak->Prop}{u:Value}{Q:Unit->ak->Prop}
section
variable{X:Cx}{pins:List (Addr×Obj)}{O:List (Option V)}{H H':Hp}{s:ak}{h':Heap}
theorem Cx.Ok.YY(ok:X.Ok){b:Addr}{o:Obj}(e:X.base.get? b=some o):b∉X.fs:=fun hb=>by
 have:=(ok.pR.mem hb).1;rw[e]at this;cases this
theorem Inv.bs(I:Inv X pins O H s):∀b o,X.base.get? b=some o->s.heap.get? b=some o/\H b=none:=fun b o e=>
 ⟨I.base.keep b o (I.ok.bs b o e).1 (I.ok.bs b o e).2 (I.ok.YY e) (I.ok.noex b o e),I.base.free b o (I.ok.bs b o e).1 (I.ok.bs b o e).2 (I.ok.noex b o e)⟩
theorem Inv.bk(I:Inv X pins O H s):∀b o,X.base.get? b=some o->s.heap.get? b=some o:=fun b o e=>(I.bs b o e).1
theorem Inv.mod(I:Inv X pins O H s):Mod X.K X.mg X.base:=I.ok.mod
theorem Inv.jb(I:Inv X pins O H s):X.K.In s.heap:=I.ok.mod.kin.keeps I.bk
theorem Inv.lt(I:Inv X pins O H s):X.env.locals<s.heap.objs.size:=let⟨_,hn,_⟩:=I.loc;hn.lt
theorem Inv.sz(I:Inv X pins O H s):X.ZX.heap.objs.size<=s.heap.objs.size:=dB I.ok.above (iV I.lt)
theorem Inv.YZ(I:Inv X pins O H s)(h:s.heap.objs.size<=a):a∉X.fs:=fun hb=>by
 obtain⟨_,o,ho,_⟩:=I.ok.pR.mem hb;exact absurd (bG (a8 ho) (dB I.sz h)) (cM _)
theorem Inv.EY(I:Inv X pins O H s):∀x c,X.env.cells.lookup x=some c->c≠X.env.locals:=fun x c e z=>by
 obtain⟨v,o,ho,hd⟩:=I.cell x c e;obtain⟨m,⟨o',es,ep,ho',hd',_⟩,_⟩:=I.loc;rw[z,ho']at ho;cases ho;rw[hd']at hd;cases hd
theorem Inv.pR(I:Inv X pins O H s):s.heap.FunFrames X.base X.outer:=by
 have all:∀(l:List Env),(∀b∈frs l,b∈X.fs)->X.ZX.heap.FunFrames X.base l->s.heap.FunFrames X.base l:=by
  intro l;induction l with
  |nil=>intro _ _;trivial
  |cons env r ih=>
   intro hs hl;obtain⟨hk,⟨ZT,o,hf,hn,ho,hd⟩,hr⟩:=hl;have hL:ZT∈X.fs:=hs ZT (by unfold frs;rw[gJ,hf];exact ao);obtain⟨sl,e⟩:=I.base.slot ZT o ho (I.ok.frf ZT hL) hL fun z=>I.ok.exfs ZT z hL;exact⟨hk,⟨ZT,_,hf,hn,e,hd⟩,ih (fun b hb=>hs b (by unfold frs;rw[gJ,hf];exact ai _ hb)) hr⟩
 exact all X.outer (fun _ hb=>hb) I.ok.pR
theorem Inv.stack(I:Inv X pins O H s):s.heap.FunFrames X.base X.stack:=by
 rcases I.ok.stk with e|⟨e,hf⟩
 ·rw[e];exact I.pR
 ·rw[e];obtain⟨m,hn,_⟩:=I.loc;refine .cons (by rw[I.ok.kind];decide) hf hn ?_ I.pR;exact Heap.get?_none_of_le (dB I.ok.bsz I.ok.above)
theorem Inv.uC(I:Inv X pins O H s):∀b∈frs X.stack,b∈X.env.locals::X.fs:=fun b hb=>by
 rcases I.ok.stk with e|⟨e,hf⟩
 ·rw[e]at hb;exact ai _ hb
 ·rw[e]at hb;unfold frs at hb;rw[gJ,hf]at hb;exact hb
theorem Inv.B6(I:Inv X pins O H s):∀b∈frs X.stack,H b=none:=fun b hb=>by
 rcases aE.mp (I.uC b hb)with e|hb
 ·rw[e];exact I.free
 ·obtain⟨_,o,ho,_⟩:=I.ok.pR.mem hb;exact I.base.free b o ho (I.ok.frf b hb) fun z=>I.ok.exfs b z hb
theorem Inv.step(I:Inv X pins O H s)
  (hch:∀b∈ch,(b∈X.ex\/X.ZX.heap.objs.size<=b)/\b≠X.env.locals/\(∀x c,X.env.cells.lookup x=some c->c≠b)/\∀p∈X.pn++pins,p.1≠b)
  (keep:∀b o,b≠X.env.locals->b∉X.fs->b∉ch->s.heap.get? b=some o->H b=none->h'.get? b=some o)
  (slot:∀b o,b≠X.env.locals->b∈X.fs->b∉ch->s.heap.get? b=some o->H b=none->∃sl,h'.get? b=some { o with slots:=sl }) (free:∀b o,b∉ch->s.heap.get? b=some o->H b=none->H' b=none)
  (there:∀b o,b∉ch->s.heap.get? b=some o->∃o',h'.get? b=some o')
  (tups:∀b xs,H b=some (.tup xs)->H' b=some (.tup xs)) (aA:∀b o u,H b=some (.br o u)->H' b=some (.br o u)) (tbls:∀b ps,H b=some (.tbl ps)->∃more,H' b=some (.tbl (ps++more)))
  (ns:∀m,s.heap.Ns X.env.locals m->h'.Ns X.env.locals m) (hok:fH X.prog X.w H' h') (hg:kK g') :
  Inv X pins O H' { s with heap:=h',gens:=g',drawn:=d',toks:=t' }:=by
 have neL:∀b o,X.ZX.heap.get? b=some o->b≠X.env.locals:=fun b o e=>bT (bG (a8 e) I.ok.above);have neC:∀b o,X.ZX.heap.get? b=some o->b∉X.ex->b∉ch:=fun b o e hx hb=>by
  rcases(hch b hb).1 with z|z
  ·exact hx z
  ·exact absurd (bG (a8 e) z) (cM _)
 have cellK:∀x c,X.env.cells.lookup x=some c->∀v,s.heap.IsCell c v->h'.IsCell c v:=fun x c e v ⟨o,ho,hd⟩=>by
  have nch:c∉ch:=fun z=>(hch c z).2.2.1 x c e rfl;by_cases hc:c∈X.fs
  ·obtain⟨sl,q⟩:=slot c o (I.EY x c e) hc nch ho (I.freeC x c e);exact⟨_,q,hd⟩
  ·exact⟨o,keep c o (I.EY x c e) hc nch ho (I.freeC x c e),hd⟩
 refine⟨I.ok,I.os,hg,⟨fun b o e n hb hx=>?_,fun b o e n hb hx=>?_,fun b o e n hx=>?_,fun b o e hx=>?_,fun b xs e=>tups b xs (I.base.tups b xs e),fun b o xs e=>aA b o xs (I.base.aA b o xs e),fun b ps e=>?_⟩,?_,fun x c e=>?_,?_,fun x c e=>?_,fun p hp=>?_,hok,I.len⟩
 ·exact keep b o (neL b o e) hb (neC b o e hx) (I.base.keep b o e n hb hx) (I.base.free b o e n hx)
 ·obtain⟨sl,e1⟩:=I.base.slot b o e n hb hx;obtain⟨sl',e2⟩:=slot b _ (neL b o e) hb (neC b o e hx) e1 (I.base.free b o e n hx);exact⟨sl',e2⟩
 ·obtain⟨o',e1⟩:=I.base.there b o e hx;exact free b o' (neC b o e hx) e1 (I.base.free b o e n hx)
 ·obtain⟨o',e1⟩:=I.base.there b o e hx;exact there b o' (neC b o e hx) e1
 ·obtain⟨m1,e1⟩:=I.base.tbls b ps e;obtain⟨m2,e2⟩:=tbls b _ e1;exact⟨m1++m2,by rw[e2,Array.append_assoc]⟩
 ·obtain⟨m,hn,hl⟩:=I.loc;refine⟨m,ns m hn,fun i x v e1 e2 e3=>?_⟩;obtain⟨u,r,l⟩:=hl i x v e1 e2 e3;refine⟨u,r,?_⟩;rcases l with l|⟨k,c,e,z⟩
  ·exact .inl l
  ·exact .inr ⟨k,c,e,cellK x c e _ z⟩
 ·obtain⟨v,z⟩:=I.cell x c e;exact⟨v,cellK x c e v z⟩
 ·obtain⟨m,⟨o,_,_,ho,_⟩,_⟩:=I.loc;exact free _ o (fun z=>(hch _ z).2.1 rfl) ho I.free
 ·obtain⟨v,o,ho,hd⟩:=I.cell x c e;exact free c o (fun z=>(hch c z).2.2.1 x c e rfl) ho (I.freeC x c e)
 ·obtain⟨e,n,ne,nf,d⟩:=I.pin p hp;have nch:p.1∉ch:=fun z=>(hch p.1 z).2.2.2 p hp rfl;exact⟨keep p.1 p.2 ne nf nch e n,free p.1 p.2 nch e n,ne,nf,d⟩
theorem Inv.un(I:Inv X pins O H s)(u:Un X.fs [] H H' s.heap h')(hok:fH X.prog X.w H' h'):Inv X pins O H' { s with heap:=h',toks:=t' }:=by
 obtain⟨m,⟨o,es,ep,ho,r⟩,_⟩:=id I.loc;obtain⟨sl,hL⟩:=u.any ho I.free (by simp);exact I.step (g':=s.gens) (d':=s.drawn) (ch:=[]) (fun _ z=>nomatch z) (fun b o _ hb _ e n=>u.keep b o e n hb (by simp)) (fun b o _ hb _ e n=>u.slot b o e n hb (by simp)) (fun b o _ e n=>u.free b o e n (by simp)) (fun b o _ e=>u.there b o e (by simp)) u.tups u.aA u.tbls (fun m' hm=>by
  obtain⟨o',es',ep',ho',r'⟩:=hm;rw[ho]at ho';cases ho';exact⟨_,es',ep',hL,r'⟩) hok I.bare
theorem Inv.call(I:Inv X pins O H s)(u:Un (frs X.stack) ch H H' s.heap h')(hok:fH X.prog X.w H' h')(hg:kK g')
  (hch:∀b∈ch,(b∈X.ex\/X.ZX.heap.objs.size<=b)/\b≠X.env.locals/\(∀x c,X.env.cells.lookup x=some c->c≠b)/\∀p∈X.pn++pins,p.1≠b) :
  Inv X pins O H' { s with heap:=h',gens:=g',drawn:=d',toks:=t' }:=by
 obtain⟨m,⟨o,es,ep,ho,r⟩,_⟩:=id I.loc;obtain⟨sl,hL⟩:=u.any ho I.free fun z=>(hch _ z).2.1 rfl;exact I.step (ch:=ch) hch (fun b o hL hb hc e n=>u.keep b o e n (fun z=>(aE.mp (I.uC b z)).elim hL hb) hc) (fun b o _ _ hc e n=>u.any e n hc) (fun b o hc e n=>u.free b o e n hc) (fun b o hc e=>u.there b o e hc) u.tups u.aA u.tbls (fun m' hm=>by
  obtain⟨o',es',ep',ho',r'⟩:=hm;rw[ho]at ho';cases ho';exact⟨_,es',ep',hL,r'⟩) hok hg
theorem Inv.turned{it:Addr}(I:Inv X pins O H s)(k:∀b o,b≠it->s.heap.get? b=some o->h'.get? b=some o)(hn:H it=none)(hL:it≠X.env.locals)
  (h1:it∈X.ex\/X.ZX.heap.objs.size<=it) (h2:∀x c,X.env.cells.lookup x=some c->c≠it) (h3:∀p∈X.pn++pins,p.1≠it):Inv X pins O H { s with heap:=h',toks:=t' }:=by
 have nit:∀b u,H b=some u->b≠it:=fun b u e z=>by rw[z,hn]at e;cases e
 refine I.step (g':=s.gens) (d':=s.drawn) (ch:=[it]) (fun b hb=>?_) (fun b o _ _ hc e _=>k b o (fun z=>hc (by simp[z])) e) (fun b o _ _ hc e _=>⟨o.slots,k b o (fun z=>hc (by simp[z])) e⟩) (fun _ _ _ _ n=>n)
  (fun b o hc e=>⟨o,k b o (fun z=>hc (by simp[z])) e⟩) (fun _ _ e=>e) (fun _ _ _ e=>e) (fun b ps e=>⟨#[],by rw[e];simp⟩) (fun m hm=>?_) (fun b u e=>?_) I.bare
 ·have e:b=it:=by simpa using hb
  subst e;exact⟨h1,hL,h2,h3⟩
 ·obtain⟨o,es,ep,ho,r⟩:=hm;exact⟨o,es,ep,k _ o (dm hL) ho,r⟩
 ·refine(I.hok b u e).stay (fun c v hc q=>k c v ?_ q) (fun _ q=>q) fun _ _ q=>q;rcases hc with z|z
  ·rw[z];exact nit b u e
  ·exact nit c _ z
theorem Inv.tok(I:Inv X pins O H s)(t:Nat):Inv X pins O H { s with toks:=t }:=I.un (h':=s.heap) (t':=t) Un.refl I.hok
theorem Inv.kept(I:Inv X pins O H s)(k:∀b u,s.heap.get? b=some u->h'.get? b=some u):Inv X pins O H { s with heap:=h',toks:=t' }:=I.un (Un.kept k) (I.hok.kept k)
theorem Inv.laid{o:HO}(I:Inv X pins O H s)(k:∀b u,s.heap.get? b=some u->h'.get? b=some u)(hp:s.heap.objs.size<=a)(new:cY X.prog X.w (upd H a o) h' a o) :
  Inv X pins O (upd H a o) { s with heap:=h',toks:=t' }:=I.un (Un.laid k hp (I.hok.fresh hp)) (I.hok.laid k hp new)
theorem Inv.write{x e:Addr}{o:HO}{t':Nat}(I:Inv X pins O H s)(mu:K5 (H x))(he:e=x\/H e=some (.own x))(k:∀b u,b≠e->s.heap.get? b=some u->h'.get? b=some u)(heo:∃u,h'.get? e=some u)
  (new:cY X.prog X.w (upd H x o) h' x o):Inv X pins O (upd H x o) { s with heap:=h',toks:=t' }:=I.un (Un.write mu he k heo) (I.hok.write mu he k heo new)
theorem Inv.yw{pins':List (Addr×Obj)}(I:Inv X pins O H s)(h:∀p∈pins',s.heap.get? p.1=some p.2/\H p.1=none/\p.1≠X.env.locals/\p.1∉X.fs/\∀v,p.2.data≠.cell v):Inv X pins' O H s:=
 ⟨I.ok,I.os,I.bare,I.base,I.loc,I.cell,I.free,I.freeC,fun p hp=>(aD.mp hp).elim (fun z=>I.pin p (aC _ z)) (h p),I.hok,I.len⟩
theorem EZ{N:List Str}(hN:N.Nodup){j:Nat}(a:N[i]?=some x)(b:N[j]?=some x):i=j:=by
 obtain⟨h1,e1⟩:=bQ.mp a;obtain⟨h2,e2⟩:=bQ.mp b;exact(As hN).mp (e1.trans e2.symm)
theorem CW{v:V}(I:Inv X pins O H s)(hN:X.N.Nodup)(hi:X.N[i]?=some x)(hx:Loc X.env.scope x)(r:RelV v u)
  (h:∀s',Inv X pins (O.set i (some v)) H s'->(∃a,sj a s.heap s'.heap/\(a=X.env.locals\/X.env.cells.lookup x=some a))->Q () s') (hf:X.fn x=true\/X.env.scope.names.lookup x=some .local:=by first|exact .inl rfl|exact .inr rfl|assumption):aH M A (storeName X.env x u) Q E s:=by
 obtain⟨m,hn,hl⟩:=id I.loc;have hcls:(X.env.scope.kind==.class||(X.env.scope.kind==.module&&X.env.locals != X.env.globals))=false:=by rw[I.ok.kind];rfl
 have aak:i<O.length:=by rw[I.len];exact(bQ.mp hi).1
 have EY:=I.EY;have tracked:∀{a:Addr}{h':Heap},(∃o,s.heap.get? a=some o/\H a=none)->sj a s.heap h'->fH X.prog X.w H h':=fun{a h'} ha hs b ob e=>by
  obtain⟨_,_,hfree⟩:=ha;refine(I.hok b ob e).stay (fun c w' hc q=>(hs.2 c ?_).trans q) (fun _ q=>q) fun _ _ q=>q;rintro rfl;rcases hc with rfl|hc
  ·rw[hfree]at e;cases e
  ·rw[hfree]at hc;cases hc
 rcases hx with hk|hk
 ·refine wpAny_storeName_local hk hn (fun h' hn' hs=>?_) hcls;obtain⟨oL,_,_,hoL,_⟩:=id hn;refine h _ ⟨I.ok,I.os,I.bare,⟨fun b o e n hb hx=>?_,fun b o e n hb hx=>?_,I.base.free,fun b o e hx=>?_,I.base.tups,I.base.aA,I.base.tbls⟩,⟨_,hn',fun j y v' e1 e2 e3=>?_⟩,fun y c e=>?_,I.free,I.freeC,fun p hp=>?_,tracked ⟨oL,hoL,I.free⟩ hs,by simpa using I.len⟩ ⟨_,hs,.inl rfl⟩
  ·exact(hs.2 b (bT (bG (a8 e) I.ok.above))).trans (I.base.keep b o e n hb hx)
  ·obtain⟨sl,e1⟩:=I.base.slot b o e n hb hx;exact⟨sl,(hs.2 b (bT (bG (a8 e) I.ok.above))).trans e1⟩
  ·obtain⟨o',e1⟩:=I.base.there b o e hx;exact⟨o',(hs.2 b (bT (bG (a8 e) I.ok.above))).trans e1⟩
  ·by_cases hj:j=i
   ·subst hj;rw[hi]at e1;cases e1;rw[cW aak]at e2;cases e2;exact⟨u,r,.inl ⟨hk,by simp⟩⟩
   ·rw[bR (dm hj)]at e2;obtain⟨u',r',q⟩:=hl j y v' e1 e2 e3;refine⟨u',r',?_⟩;rcases q with⟨k,e⟩|⟨k,c,e,z⟩
    ·refine .inl ⟨k,?_⟩;have:y≠x:=fun e=>hj (EZ hN e1 (e▸hi));simp[this,e]
    ·exact .inr ⟨k,c,e,z.sameBut hs (EY y c e)⟩
  ·obtain⟨w',z⟩:=I.cell y c e;exact⟨w',z.sameBut hs (EY y c e)⟩
  ·obtain⟨e,n,ne,nf,d⟩:=I.pin p hp;exact⟨(hs.2 p.1 ne).trans e,n,ne,nf,d⟩
 ·have hfn:X.fn x=true:=by
   rcases hf with z|z
   ·exact z
   ·rw[z]at hk;cases hk
  obtain⟨c,hc⟩:=I.ok.has x (.inl hk);obtain⟨w',z⟩:=I.cell x c hc;refine wpAny_storeName_cell I.ok.kind hk hc z (fun h' hc' hs=>?_);obtain⟨oc,hoc,hocd⟩:=id z;refine h { s with heap:=h' } ⟨I.ok,I.os,I.bare,⟨fun b o e n hb hx=>?_,fun b o e n hb hx=>?_,I.base.free,fun b o e hx=>?_,I.base.tups,I.base.aA,I.base.tbls⟩,⟨m,hn.sameBut hs (dm (EY x c hc)),fun j y v' e1 e2 e3=>?_⟩,fun y c' e=>?_,I.free,I.freeC,fun p hp=>?_,tracked ⟨oc,hoc,I.freeC x c hc⟩ hs,by simpa using I.len⟩ ⟨c,hs,.inr hc⟩
  ·exact(hs.2 b (bT (bG (a8 e) (I.ok.cab x c hfn hc)))).trans (I.base.keep b o e n hb hx)
  ·obtain⟨sl,e1⟩:=I.base.slot b o e n hb hx;exact⟨sl,(hs.2 b (bT (bG (a8 e) (I.ok.cab x c hfn hc)))).trans e1⟩
  ·obtain⟨o',e1⟩:=I.base.there b o e hx;exact⟨o',(hs.2 b (bT (bG (a8 e) (I.ok.cab x c hfn hc)))).trans e1⟩
  ·by_cases hj:j=i
   ·subst hj;rw[hi]at e1;cases e1;rw[cW aak]at e2;cases e2;exact⟨u,r,.inr ⟨.inl hk,c,hc,hc'⟩⟩
   ·rw[bR (dm hj)]at e2;obtain⟨u',r',q⟩:=hl j y v' e1 e2 e3;refine⟨u',r',?_⟩;rcases q with q|⟨k,c',e,z'⟩
    ·exact .inl q
    ·refine .inr ⟨k,c',e,z'.sameBut hs ?_⟩;rintro rfl;exact hj (EZ hN e1 (I.ok.inj _ _ _ e hc▸hi))
  ·by_cases hcc:c'=c
   ·subst hcc;exact⟨_,hc'⟩
   ·obtain⟨w2,z2⟩:=I.cell y c' e;exact⟨w2,z2.sameBut hs hcc⟩
  ·obtain⟨e,n,ne,nf,d⟩:=I.pin p hp;refine⟨(hs.2 p.1 ?_).trans e,n,ne,nf,d⟩;intro q;rw[q,hoc]at e;have q':oc=p.2:=cZ e;exact d w' (by rw[<-q'];exact hocd)
theorem Ot{v:V}(I:Inv X pins O H s)(hN:X.N.Nodup)(hi:X.N[i]?=some x)(hx:Loc X.env.scope x)(r:RelV v u)
  (h:∀s',Inv X pins (O.set i (some v)) H s'->Q () s') (hf:X.fn x=true\/X.env.scope.names.lookup x=some .local:=by first|exact .inl rfl|exact .inr rfl|assumption):aH M A (storeName X.env x u) Q E s:=
 CW I hN hi hx r (fun s' I' _=>h s' I') hf
theorem Inv.call'{s':ak}(I:Inv X pins O H s)(ho:s'.os=s.os)(u:Un (frs X.stack) ch H H' s.heap s'.heap)(hok:fH X.prog X.w H' s'.heap)(hg:kK s'.gens)
  (hch:∀b∈ch,(b∈X.ex\/X.ZX.heap.objs.size<=b)/\b≠X.env.locals/\(∀x c,X.env.cells.lookup x=some c->c≠b)/\∀p∈X.pn++pins,p.1≠b):Inv X pins O H' s':=by
 obtain⟨h',g',d',t',o'⟩:=s';have e:o'=s.os:=ho;subst e;exact I.call (g':=g') (t':=t') (d':=d') u hok hg hch
end
noncomputable abbrev XK:=Value->Option Addr->Hp->Prop
noncomputable abbrev St:=List (Option V)
noncomputable abbrev VK:=V->Hp->Prop
noncomputable abbrev TE:=St->Hp->VK->Prop
noncomputable abbrev TT:=St->Hp->(Bool->Hp->Prop)->Prop
noncomputable abbrev TA:=St->Hp->(List V->Hp->Prop)->Prop
structure Ends where
 nx:St->Hp->Prop
 rt:VK
 bk:St->Hp->Prop:=fun _ _=>False
 ct:St->Hp->Prop:=fun _ _=>False
noncomputable abbrev TS:=Ends->St->Hp->Prop
def EP(X:Cx)(pins:List (Addr×Obj))(O:St)(Q:VK)(u:Value)(s':ak):Prop:=∃v H',Inv X pins O H' s'/\RelV v u/\Q v H'
def TP(X:Cx)(pins:List (Addr×Obj))(O:St)(Q:Bool->Hp->Prop)(b:Bool)(s':ak):Prop:=∃H',Inv X pins O H' s'/\Q b H'
def AP(X:Cx)(pins:List (Addr×Obj))(O:St)(Q:List V->Hp->Prop)(us:List Value)(s':ak):Prop:=∃vs H',Inv X pins O H' s'/\bB vs us/\Q vs H'
def SP(X:Cx)(pins:List (Addr×Obj))(D:Ends)(f:Flow)(s':ak):Prop:=
 match f with
 |.next=>∃ZV H',Inv X pins ZV H' s'/\D.nx ZV H'
 |.brk=>∃ZV H',Inv X pins ZV H' s'/\D.bk ZV H'
 |.cont=>∃ZV H',Inv X pins ZV H' s'/\D.ct ZV H'
 |.ret u=>∃v ZV H',Inv X pins ZV H' s'/\RelV v u/\D.rt v H'
def PE(X:Cx)(e:Expr)(t:TE):Prop:=
 ∀(pins:List (Addr×Obj)) (s:ak) (O:St) (H:Hp) (Q:VK),Inv X pins O H s->t O H Q->aH (aF X.prog X.w) X.A (eval e X.env) (EP X pins O Q) X.xe s
def PT(X:Cx)(e:Expr)(t:TT):Prop:=
 ∀(pins:List (Addr×Obj)) (s:ak) (O:St) (H:Hp) (Q:Bool->Hp->Prop),Inv X pins O H s->t O H Q->aH (aF X.prog X.w) X.A (ya e X.env (eval e X.env)) (TP X pins O Q) X.xe s
def PW(X:Cx)(e:Expr)(t:TT):Prop:=
 ∀(whole:Sem Value) (pins:List (Addr×Obj)) (s:ak) (O:St) (H:Hp) (Q:Bool->Hp->Prop),Inv X pins O H s->t O H Q->aH (aF X.prog X.w) X.A (ya e X.env whole) (TP X pins O Q) X.xe s
theorem PW.pt{X:Cx}{e:Expr}{t:TT}(h:PW X e t):PT X e t:=h _
def PA(X:Cx)(es:List Expr)(t:TA):Prop:=
 ∀(pos:Pos) (pins:List (Addr×Obj)) (s:ak) (O:St) (H:Hp) (Q:List V->Hp->Prop),Inv X pins O H s->t O H Q->aH (aF X.prog X.w) X.A (yL (lD pos (dJ es X.env))) (AP X pins O Q) X.xe s
def PS(X:Cx)(st:Stmt)(t:TS):Prop:=
 ∀(pins:List (Addr×Obj)) (s:ak) (O:St) (H:Hp) (D:Ends),Inv X pins O H s->t D O H->aH (aF X.prog X.w) X.A (exec st X.env) (SP X pins D) X.xe s
def q9(X:Cx)(st:List Stmt)(t:TS):Prop:=
 ∀(pins:List (Addr×Obj)) (s:ak) (O:St) (H:Hp) (D:Ends),Inv X pins O H s->t D O H->aH (aF X.prog X.w) X.A (execs st X.env) (SP X pins D) X.xe s
theorem a7{α:Type}{t:Sem α}{Q Q':α->ak->Prop}{s:ak}(h:aH M A t Q E s)(hQ:∀a s,Q a s->Q' a s):aH M A t Q' E s:=kh h hQ fun _ _ x=>x
end L2
namespace L2
open PySem PySem.Spec PyProof.Rows
variable{pins:List (Addr×Obj)}{s:ak}{O:St}{H:Hp}
variable{x:Str}
variable{E Q:Value->ak->Prop}{u:Value}
section
variable{X:Cx}
theorem bin(ha:PE X a ta)(hb:PE X b tb){R:V->V->Hp->Prop}(I:Inv X pins O H s)(h:ta O H fun x H1=>tb O H1 fun y H2=>R x y H2)
  {α:Type}{Q:α->ak->Prop}{f:Value->Value->Sem α}
  (hf:∀v u s2 x y H2,Inv X pins O H2 s2->RelV x v->RelV y u->R x y H2->aH (aF X.prog X.w) X.A (f v u) Q X.xe s2) :
  aH (aF X.prog X.w) X.A (eval a X.env) (fun v Z0=>aH (aF X.prog X.w) X.A (eval b X.env) (fun u Z1=>aH (aF X.prog X.w) X.A (f v u) Q X.xe Z1) X.xe Z0) X.xe s:=by
 refine a7 (ha pins s O H _ I h) fun v s1 ⟨x,H1,I1,r1,q1⟩=>?_;refine a7 (hb pins s1 O H1 _ I1 q1) fun u s2 ⟨y,H2,I2,r2,q2⟩=>?_;exact hf v u s2 x y H2 I2 r1 r2 q2
def Y0(i:Nat):TE:=fun O H Q=>∃v,O[i]?=some (some v)/\Q v H
def tC(v:V):TE:=fun _ H Q=>Q v H
theorem K8{i:Nat}(hN:X.N[i]?=some x)(hv:K7 X.env.scope x)(hd:(x==("__debug__":Str))=false:=by decide)(hcd:(x==("__classdict__":Str))=false:=by decide):PE X (.Name x pos) (Y0 i):=by
 intro pins s O H Q I h;obtain⟨v,e,h⟩:=h;obtain⟨m,hn,hl⟩:=I.loc;obtain⟨u,r,l⟩:=hl i x v hN e hv;have fin:EP X pins O Q u s:=⟨v,H,I,r,h⟩;rcases l with⟨hk,hm⟩|⟨hk,c,hc,hcell⟩
 ·exact BH (wpAny_loadName_local I.ok.kind hk hn hm fin) hd
 ·rcases hk with hk|hk
  ·exact BH (wpAny_loadName_cell I.ok.kind hk hc hcell fin) hd
  ·exact BH (wpAny_loadName_free I.ok.kind hk hc hcell fin hcd) hd
theorem Vc{i j pos}:PE X (.Constant (.int i) j pos) (tC (.int i)):=fun _ _ _ H _ I h=>wpAny_Constant_int ⟨.int i,H,I.tok _,⟨_,rfl⟩,h⟩
theorem Xm{b j pos}:PE X (.Constant (.bool b) j pos) (tC (.bl b)):=fun _ _ _ H _ I h=>Constant_bool ⟨.bl b,H,I,rfl,h⟩
theorem Vd{j pos}:PE X (.Constant .none j pos) (tC .non):=fun _ _ _ H _ I h=>Constant_none ⟨.non,H,I,rfl,h⟩
theorem K9{x j pos}:PE X (.Constant (.str x) j pos) (tC (.str x)):=fun _ _ _ H _ I h=>Calls.Constant_str ⟨.str x,H,I.tok _,⟨_,rfl⟩,h⟩
def Gl(X:Cx)(x:Str):Prop:=X.env.kindOf x=some .globalImplicit
theorem B7(I:Inv X pins O H s)(hg:Gl X x)(hm:X.mg x=some u)(h:Q u s)
  (hd:(x==("__debug__":Str))=false:=by decide):aH (aF X.prog X.w) X.A (eval (.Name x pos) X.env) Q E s:=
 p6 I.ok.kind hg (Calls.loadGlobal_global (by rw[I.ok.glob];exact I.mod.glob.keeps I.bk) hm h) hd
theorem lW(I:Inv X pins O H s)(hg:Gl X x)(hm:X.mg x=none)(hv:nL x=some u)(h:Q u s)
  (hn:x≠"__name__":=by decide) (hd:(x==("__debug__":Str))=false:=by decide):aH (aF X.prog X.w) X.A (eval (.Name x pos) X.env) Q E s:=by
 obtain⟨mb,h1,h2⟩:=I.mod.blt;exact p6 I.ok.kind hg (Calls.loadGlobal_builtin (by rw[I.ok.glob];exact I.mod.glob.keeps I.bk) hm (by rw[I.ok.blt];exact h1.keeps I.bk) ((h2 x hn).trans hv) h) hd
theorem HN{v:V}(hg:Gl X x)(hm:X.mg x=some u)(r:RelV v u)(hd:(x==("__debug__":Str))=false:=by decide):PE X (.Name x pos) (tC v):=
 fun _ _ _ H _ I h=>B7 I hg hm ⟨v,H,I,r,h⟩ hd
variable{a b:Expr}{ta tb:TE}{pos:Pos}
variable{tA tB':TT}{rest:List Expr}
def Y3(t u:TT):TT:=fun O H Q=>t O H fun c H1=>if c=true then u O H1 Q else Q false H1
def tOr(t u:TT):TT:=fun O H Q=>t O H fun c H1=>if c=true then Q true H1 else u O H1 Q
def Y4(t:TT):TT:=fun O H Q=>t O H fun c H1=>Q (!c) H1
theorem pw_and1(ha:PT X a tA):PW X (.BoolOp .And [a] pos) tA:=by
 intro wh pins s O H Q I h;refine KL (a7 (ha pins s O H Q I h) fun c s1 e=>?_);cases c with
 |true=>exact isTrue_and_nil e
 |false=>exact e
theorem pw_or1(ha:PT X a tA):PW X (.BoolOp .Or [a] pos) tA:=by
 intro wh pins s O H Q I h;refine isTrue_or (a7 (ha pins s O H Q I h) fun c s1 e=>?_);cases c with
 |false=>exact isTrue_or_nil e
 |true=>exact e
theorem pw_and(ha:PT X a tA)(hb:PW X (.BoolOp .And (b::rest) pos) tB'):PW X (.BoolOp .And (a::b::rest) pos) (Y3 tA tB'):=by
 intro wh pins s O H Q I h;refine KL (a7 (ha pins s O H _ I h) fun c s1 ⟨H1,I1,q1⟩=>?_);cases c with
 |true=>exact hb wh pins s1 O H1 Q I1 q1
 |false=>exact⟨H1,I1,q1⟩
theorem pw_or(ha:PT X a tA)(hb:PW X (.BoolOp .Or (b::rest) pos) tB'):PW X (.BoolOp .Or (a::b::rest) pos) (tOr tA tB'):=by
 intro wh pins s O H Q I h;refine isTrue_or (a7 (ha pins s O H _ I h) fun c s1 ⟨H1,I1,q1⟩=>?_);cases c with
 |true=>exact⟨H1,I1,q1⟩
 |false=>exact hb wh pins s1 O H1 Q I1 q1
theorem Ve(ha:PT X a tA):PT X (.UnaryOp .Not a pos) (Y4 tA):=by
 intro pins s O H Q I h;exact isTrue_not (ha pins s O H (fun c H1=>Q (!c) H1) I h)
theorem K_{op}{t:TE}(h:PE X a t):PE X (.BoolOp op [a] pos) t:=fun pins s O H Q I hw=>BoolOp_one (h pins s O H Q I hw)
def tIf(t:TT)(ta tb:TE):TE:=fun O H Q=>t O H fun c H1=>if c=true then ta O H1 Q else tb O H1 Q
theorem Ou{c:Expr}(hc:PT X c tA)(ha:PE X a ta)(hb:PE X b tb):PE X (.IfExp c a b pos) (tIf tA ta tb):=by
 intro pins s O H Q I h;refine wpAny_IfExp (a7 (hc pins s O H _ I h) fun d s1 ⟨H1,I1,q1⟩=>?_);cases d with
 |true=>exact ha pins s1 O H1 Q I1 q1
 |false=>exact hb pins s1 O H1 Q I1 q1
end
end L2
namespace L2
open PySem PySem.Spec PyProof.Rows
def gx(K:PySem.W.Frag)(H:Hp)(a:Addr)(xs:List V):Prop:=
 Rd H a (.lst xs) \/
  ∃(o:Obj) (its:Array Value) (n:Nat),K.lookup a=some o/\o.cls=.type "list"/\o.dict=none/\o.data=.seq its n/\its.size<=aa/\bB xs its.toList
def oS(K:PySem.W.Frag)(H:Hp)(a:Addr)(xs:List V):Prop:=
 Rd H a (.tup xs) \/
  ∃(o:Obj) (its:Array Value) (n:Nat),K.lookup a=some o/\o.cls=.type "tuple"/\o.data=.seq its n/\its.size<=aa/\bB xs its.toList
noncomputable def Y5:Value->Option V
|.none=>some .non
|.bool b=>some (.bl b)
|.int i _=>some (.int i)
|.str x _=>some (.str x)
|.bytes b _=>some (.byt b)
|.float b _=>some (.flt b)
|.ref a=>some (.ref a)
|.type n=>some (.ty n)
|_=>none
variable{u:Value}
theorem RelV.abs{x:V}(r:RelV x u):Y5 u=some x:=by
 cases x with
 |non=>cases r;rfl
 |bl _=>cases r;rfl
 |int _=>obtain⟨t,rfl⟩:=r;rfl
 |str _=>obtain⟨t,rfl⟩:=r;rfl
 |byt _=>obtain⟨t,rfl⟩:=r;rfl
 |flt _=>obtain⟨t,rfl⟩:=r;rfl
 |ref _=>cases r;rfl
 |ty _=>cases r;rfl
theorem RelV.inj{x y:V}(r:RelV x u)(q:RelV y u):x=y:=cZ (r.abs.symm.trans q.abs)
theorem bB.inj:∀{xs ys:List V}{us:List Value},bB xs us->bB ys us->xs=ys
|_,_,_,.nil,.nil=>rfl
|_,_,_,.cons r t,.cons r' t'=>by rw[r.inj r',bB.inj t t']
section
variable{X:Cx}{pins:List (Addr×Obj)}{O:St}{H:Hp}{s:ak}{a:Addr}{xs ys:List V}
theorem Inv.list(I:Inv X pins O H s)(h:gx X.K H a xs):∃its:List Value,bB xs its/\PlainL s.heap a its.toArray/\xs.length<=aa:=by
 rcases h with h|⟨o,its,n,hk,hc,hd,hs,hz,r⟩
 ·obtain⟨z,its,n,r,e⟩:=h.ok I.hok;exact⟨its,r,⟨_,n,e,rfl,rfl,rfl⟩,z⟩
 ·refine⟨its.toList,r,⟨o,n,I.jb a o hk,hc,hd,by simpa using hs⟩,?_⟩;have e:=r.length;simp only[i0]at e;omega
theorem Inv.tuple(I:Inv X pins O H s)(h:oS X.K H a xs):∃its:List Value,bB xs its/\IsTup s.heap a its.toArray/\xs.length<=aa:=by
 rcases h with h|⟨o,its,n,hk,hc,hs,hz,r⟩
 ·obtain⟨z,its,r,p⟩:=h.ok I.hok;exact⟨its,r,p,z⟩
 ·refine⟨its.toList,r,⟨o,I.jb a o hk,hc,n,by simpa using hs⟩,?_⟩;have e:=r.length;simp only[i0]at e;omega
theorem Inv.zG(I:Inv X pins O H s)(h:gx X.K H a xs)(h':gx X.K H a ys):xs=ys:=by
 obtain⟨its,r,⟨o,n,e,_,_,d⟩,_⟩:=I.list h;obtain⟨its',r',⟨o',n',e',_,_,d'⟩,_⟩:=I.list h';rw[e]at e';cases e';rw[d]at d';injection d' with d1 _;have:its=its':=by simpa using congrArg GP d1
 subst this;exact r.inj r'
theorem Inv.CY(I:Inv X pins O H s)(h:oS X.K H a xs)(h':oS X.K H a ys):xs=ys:=by
 obtain⟨its,r,⟨o,e,_,n,d⟩,_⟩:=I.tuple h;obtain⟨its',r',⟨o',e',_,n',d'⟩,_⟩:=I.tuple h';rw[e]at e';cases e';rw[d]at d';injection d' with d1 _;have:its=its':=by simpa using congrArg GP d1
 subst this;exact r.inj r'
end
noncomputable abbrev Cx.m6(X:Cx)(E:Value->ak->Prop):Cx:={ X with xe:=E }
variable{X:Cx}
theorem Cx.Ok.m6(ok:X.Ok)(E:Value->ak->Prop):(X.m6 E).Ok:=
 ⟨ok.mod,ok.kind,ok.glob,ok.blt,ok.above,ok.inj,ok.has,ok.cab,ok.hd,ok.frames,ok.stk,ok.exf,ok.bs,ok.bsz,ok.noex,ok.exfs,ok.pR,ok.frf⟩
variable{E:Value->ak->Prop}
theorem Cx.Ok.m9(ok:(X.m6 E).Ok):X.Ok:=
 ⟨ok.mod,ok.kind,ok.glob,ok.blt,ok.above,ok.inj,ok.has,ok.cab,ok.hd,ok.frames,ok.stk,ok.exf,ok.bs,ok.bsz,ok.noex,ok.exfs,ok.pR,ok.frf⟩
section
variable{X:Cx}{pins:List (Addr×Obj)}{O:St}{H:Hp}{s:ak}{E:Value->ak->Prop}
theorem Inv.m6(I:Inv X pins O H s)(E:Value->ak->Prop):Inv (X.m6 E) pins O H s:=⟨I.ok.m6 E,I.os,I.bare,I.base,I.loc,I.cell,I.free,I.freeC,I.pin,I.hok,I.len⟩
theorem Inv.m9(I:Inv (X.m6 E) pins O H s):Inv X pins O H s:=⟨I.ok.m9,I.os,I.bare,I.base,I.loc,I.cell,I.free,I.freeC,I.pin,I.hok,I.len⟩
theorem SP.m9{D:Ends}{f:Flow}{s':ak}(h:SP (X.m6 E) pins D f s'):SP X pins D f s':=by
 cases f with
 |next=>obtain⟨ZV,H',I,q⟩:=h;exact⟨ZV,H',I.m9,q⟩
 |brk=>obtain⟨ZV,H',I,q⟩:=h;exact⟨ZV,H',I.m9,q⟩
 |cont=>obtain⟨ZV,H',I,q⟩:=h;exact⟨ZV,H',I.m9,q⟩
 |ret u=>obtain⟨v,ZV,H',I,r,q⟩:=h;exact⟨v,ZV,H',I.m9,r,q⟩
end
variable{pins:List (Addr×Obj)}{O:St}{H:Hp}{s:ak}
variable{c:Expr}{tc:TT}
section
variable{X:Cx}{st:Stmt}{rest:List Stmt}{t u:TS}{e:Expr}{te:TE}{pos:Pos}
def Xn:TS:=fun D O H=>D.nx O H
def Y6(t u:TS):TS:=fun D O H=>t { D with nx:=u D } O H
theorem S8:q9 X [] Xn:=fun _ _ O H _ I h=>tT ⟨O,H,I,h⟩
theorem vf(h1:PS X st t)(h2:q9 X rest u):q9 X (st::rest) (Y6 t u):=by
 intro pins s O H D I h;refine wpAny_execs_cons (a7 (h1 pins s O H { D with nx:=u D } I h) fun f s1 q=>?_);cases f with
 |next=>
  obtain⟨ZV,H',I',q⟩:=q;exact h2 pins s1 ZV H' D I' q
 |ret v=>exact q
 |brk=>exact q
 |cont=>exact q
def Vf:TS:=fun D O H=>D.bk O H
def Xo:TS:=fun D O H=>D.ct O H
theorem Ov:PS X (.Break pos) Vf:=fun _ _ O H _ I h=>wpAny_Break ⟨O,H,I,h⟩
theorem G7:PS X (.Continue pos) Xo:=fun _ _ O H _ I h=>wpAny_Continue ⟨O,H,I,h⟩
theorem Inv.quiet(I:Inv X pins O H s):Hz X.env=false:=by simp[Hz,I.ok.kind]
def Xp(te:TE):TS:=fun D O H=>te O H fun _ H1=>D.nx O H1
theorem S9(he:PE X e te)(hs:pH e none pos.line X.env=pure false:=by rfl):PS X (.Expr e pos) (Xp te):=by
 intro pins s O H D I h;exact wpAny_Expr_any (a7 (he pins s O H _ I h) fun v s1 ⟨x,H1,I1,r1,q1⟩=>⟨O,H1,I1,q1⟩) I.quiet hs
def Y7(te:TE):TS:=fun D O H=>te O H D.rt
theorem Vg(he:PE X e te):PS X (.Return (some e) pos) (Y7 te):=by
 intro pins s O H D I h;exact wpAny_Return_some (a7 (he pins s O H _ I h) fun v s1 ⟨x,H1,I1,r1,q1⟩=>⟨x,O,H1,I1,r1,q1⟩)
def Y8(c:TT)(t u:TS):TS:=fun D O H=>c O H fun b H1=>if b=true then t D O H1 else u D O H1
theorem Xq{a b:List Stmt}(hc:PT X c tc)(ha:q9 X a t)(hb:q9 X b u):PS X (.If c a b pos) (Y8 tc t u):=by
 intro pins s O H D I h;refine wpAny_If (a7 (hc pins s O H _ I h) fun d s1 ⟨H1,I1,q1⟩=>?_);cases d with
 |true=>exact ha pins s1 O H1 D I1 q1
 |false=>exact hb pins s1 O H1 D I1 q1
def Vh:TS:=fun _ _ _=>False
theorem Ow:PS X st Vh:=fun _ _ _ _ _ _ h=>h.elim
end
noncomputable abbrev TG:=V->St->Hp->(St->Hp->Prop)->Prop
noncomputable abbrev y9:=List V->St->Hp->(St->Hp->Prop)->Prop
def PG(X:Cx)(target:Expr)(t:TG):Prop:=
 ∀(pins:List (Addr×Obj)) (s:ak) (O:St) (H:Hp) (v:V) (u:Value) (Q:St->Hp->Prop),Inv X pins O H s->RelV v u->t v O H Q->
  aH (aF X.prog X.w) X.A (pJ target X.env u) (fun _ s'=>∃ZV H',Inv X pins ZV H' s'/\Q ZV H') X.xe s
def AH(X:Cx)(ts:List Expr)(t:y9):Prop:=
 ∀(pins:List (Addr×Obj)) (s:ak) (O:St) (H:Hp) (vs:List V) (us:List Value) (Q:St->Hp->Prop),Inv X pins O H s->bB vs us->t vs O H Q->
  aH (aF X.prog X.w) X.A (assignInOrder ((iD ts X.env).map (·.2)) us) (fun _ s'=>∃ZV H',Inv X pins ZV H' s'/\Q ZV H') X.xe s
noncomputable abbrev Ox:=V->V->V->Hp->(Hp->Prop)->Prop
def Oz(X:Cx)(t:Ox):Prop:=
 ∀(pins:List (Addr×Obj)) (s:ak) (O:St) (H:Hp) (o i v:V) (ov iv u:Value) (Q:Hp->Prop),Inv X pins O H s->RelV o ov->RelV i iv->RelV v u->t o i v H Q->
  aH (aF X.prog X.w) X.A (I_ ov iv u) (fun _ s'=>∃H',Inv X pins O H' s'/\Q H') X.xe s
variable{e:Expr}{es:List Expr}
variable{tg:Expr}
section
variable{X:Cx}{pos:Pos}
def Xr(i:Nat):TG:=fun v O H Q=>Q (O.set i (some v)) H
theorem HP{i:Nat}{x:Str}(hN:X.N.Nodup)(hi:X.N[i]?=some x)(hx:Loc X.env.scope x)(hf:X.fn x=true\/X.env.scope.names.lookup x=some .local:=by first|exact .inl rfl|exact .inr rfl|assumption):PG X (.Name x pos) (Xr i):=by
 intro pins s O H v u Q I r h;exact yP (Ot I hN hi hx r (fun s' I'=>⟨_,H,I',h⟩) hf)
def Y9:y9:=fun vs O H Q=>vs=[]/\Q O H
def Xs(t:TG)(u:y9):y9:=fun vs O H Q=>∃v r,vs=v::r/\t v O H fun ZV H'=>u r ZV H' Q
theorem S_:AH X [] Y9:=by
 intro pins s O H vs us Q I r h;obtain⟨e,h⟩:=h;subst e;cases r;exact assignInOrder_nil ⟨O,H,I,h⟩
theorem OA{t:TG}{u:y9}(h1:PG X e t)(h2:AH X es u)
  (hs:(iD (e::es) X.env).map (·.2)=pJ e X.env::(iD es X.env).map (·.2):=by rfl):AH X (e::es) (Xs t u):=by
 intro pins s O H vs us Q I r h;obtain⟨v,vr,e1,h⟩:=h;subst e1;cases r with
 |cons r rr=>
  rw[hs];refine assignInOrder_cons (a7 (h1 pins s O H _ _ _ I r h) fun _ s1 ⟨Z4,H1,I1,q1⟩=>?_);exact h2 pins s1 Z4 H1 _ _ Q I1 rr q1
def Y_(K:PySem.W.Frag)(n:Nat)(t:y9):TG:=fun v O H Q=>∃a xs,v=.ref a/\oS K H a xs/\xs.length=n/\t xs O H Q
theorem Vi{k:Nat}{t:y9}{n:Nat}(hc:X.calm=true)(h:AH X es t)
  (hn:(iD es X.env).length=n:=by rfl) (hst:(iD es X.env).findIdx? (·.1)=none:=by rfl):PG X (.Tuple es k pos) (Y_ X.K n t):=by
 intro pins s O H v u Q I r hw;obtain⟨a,xs,e1,hq,hl,hw⟩:=hw;subst e1;cases r;obtain⟨its,rv,ht,hz⟩:=I.tuple hq;refine assign_Tuple_tuple (I.ok.hd hc) ht (by simp[hn,<-hl,rv.length]) hst fun h' hx=>?_;have I1:Inv X pins O H { s with heap:=h' }:=I.kept (t':=s.toks) fun b o e=>hx b o (bT (a8 e)) e;exact h pins _ O H xs _ Q I1 (by simpa using rv) hw
def Za(to ti:TE)(t:Ox):TG:=fun v O H Q=>to O H fun o H1=>ti O H1 fun i H2=>t o i v H2 fun H3=>Q O H3
theorem Vj{o i:Expr}{to ti:TE}{t:Ox}(ho:PE X o to)(hi:PE X i ti)(hs:Oz X t)
  (ha:∀v,pJ (.Subscript o i pos) X.env v=(do
   let ov <-qW [v] (eval o X.env)
   let iv <-qW [v,ov] (eval i X.env)
   CH pos
   qW [v,ov,iv] (I_ ov iv v)
   release [v,ov,iv] []):=by intro _;rfl):PG X (.Subscript o i pos) (Za to ti t):=by
 intro pins s O H v u Q I r h;rw[ha];refine au (gA (a7 (ho pins s O H _ I h) fun ov s1 ⟨x,H1,I1,r1,q1⟩=>?_));refine au (gA (a7 (hi pins s1 O H1 _ I1 q1) fun iv s2 ⟨y,H2,I2,r2,q2⟩=>?_));refine au (wu (au (gA (a7 (hs pins s2 O H2 x y v ov iv u _ I2 r1 r2 r q2) fun _ s3 ⟨H3,I3,q3⟩=>?_))));exact wpAny_release ⟨O,H3,I3,q3⟩
def Zb(te:TE)(g:TG):TS:=fun D O H=>te O H fun x H1=>g x O H1 D.nx
theorem Vk{te:TE}{g:TG}(he:PE X e te)(hg:PG X tg g)(hs:wx [tg] e pos.line X.env=pure false:=by rfl)(hw:wy [tg] e X.env=pure none:=by rfl)
  (h1:(iD [tg] X.env).map (·.2)=[pJ tg X.env]:=by rfl):PS X (.Assign [tg] e pos) (Zb te g):=by
 intro pins s O H D I h;refine wpAny_Assign_stores (a7 (he pins s O H _ I h) fun v s1 ⟨x,H1,I1,r1,q1⟩=>?_) hs hw;rw[h1];exact a7 (hg pins s1 O H1 x v _ I1 r1 q1) fun _ s2 q=>q
end
section
variable{X:Cx}{pos:Pos}
def Vl(c:TT)(tb:TS):TS:=fun D O H=>∃W:Nat->St->Hp->Prop,(∃m,W m O H)/\∀m O H,W m O H->
 c O H fun b H1=>if b=true then ∃N:St->Hp->Prop,(∀ZV H',N ZV H'->∃m',m'<m/\W m' ZV H')/\tb { D with nx:=N,ct:=N,bk:=D.nx } O H1 else D.nx O H1
theorem OB{body:List Stmt}{tb:TS}(hp:tU (aF X.prog X.w) X.A X.env X.xe)(hc:PT X c tc)(hb:q9 X body tb):PS X (.While c body [] pos) (Vl tc tb):=by
 intro pins s O H D I h;obtain⟨W,⟨m0,w0⟩,turn⟩:=h;refine wpAny_While (codeAny_whileLoop (fun n s'=>∃ZV H',Inv X pins ZV H' s'/\W n ZV H') ?_ m0 ⟨O,H,I,w0⟩);rintro n s1 ⟨Z4,H1,I1,w1⟩;refine h_ hp (a7 (hc pins s1 Z4 H1 _ I1 (turn n Z4 H1 w1)) fun b s2 ⟨H2,I2,q2⟩=>?_);cases b with
 |true=>
  obtain⟨N,hN,q2⟩:=q2;rw[if_pos rfl];refine h_ hp (a7 (hb pins s2 Z4 H2 _ I2 q2) fun f s3 q3=>?_);cases f with
  |next=>
   obtain⟨ZY,H3,I3,n3⟩:=q3;obtain⟨m',hm,w3⟩:=hN ZY H3 n3;exact⟨m',hm,ZY,H3,I3,w3⟩
  |cont=>
   obtain⟨ZY,H3,I3,n3⟩:=q3;obtain⟨m',hm,w3⟩:=hN ZY H3 n3;exact⟨m',hm,ZY,H3,I3,w3⟩
  |brk=>exact q3
  |ret v=>exact q3
 |false=>
  rw[if_neg aR];exact tT ⟨Z4,H2,I2,q2⟩
end
structure It where
 go:Nat->Hp->Prop
 yld:Nat->Hp->V->Hp->Prop
 stop:Nat->Hp->Prop
def mF(X:Cx)(pins:List (Addr×Obj))(H:Hp)(b:Addr):Prop:=
 H b=none/\b≠X.env.locals/\b∉X.fs/\(b∈X.ex\/X.ZX.heap.objs.size<=b)/\(∀x c,X.env.cells.lookup x=some c->c≠b)/\∀p∈X.pn++pins,p.1≠b
theorem Inv.t7{H':Hp}{b:Addr}(I:Inv X pins O H s)(hb:s.heap.objs.size<=b)(hn:H' b=none):mF X pins H' b:=by
 refine⟨hn,yb (bG I.lt hb),I.YZ hb,.inr (dB I.sz hb),fun x c e z=>?_,fun p hp z=>?_⟩
 ·obtain⟨v,q⟩:=I.cell x c e;exact absurd (bG q.lt (by rw[z];exact hb)) (cM _)
 ·exact absurd (bG (a8 (I.pin p hp).1) (by rw[z];exact hb)) (cM _)
structure Turn (P:bx) (w:bL) (K:PySem.W.Frag) (tg:Expr) (J:It) (fp:List Addr) (it:Addr) (tn:Nat->Heap->Prop):Prop where
 mem:it∈fp
 obj:∀i h,tn i h->∀b∈fp,∃o,h.get? b=some o/\∀v,o.data≠.cell v
 keep:∀i h h',tn i h->(∀b∈fp,∀o,h.get? b=some o->h'.get? b=some o)->tn i h'
 item:∀(X:Cx),X.prog=P->X.w=w->X.K=K->X.calm=true->∀(i:Nat) (pins:List (Addr×Obj)) (s:ak) (O:St) (H:Hp) (E:Value->ak->Prop),Inv X pins O H s->(∀b∈fp,mF X pins H b)->tn i s.heap->J.go i H->
  aH (aF P w) X.A (pK (.ref it)) (fun r s1=>∃u,r=some u /\
   aH (aF P w) X.A (nM tg (.ref it) u) (fun _ s2=>∃x H',Inv X pins O H' s2/\RelV x u/\J.yld i H x H'/\tn (i+1) s2.heap/\∀b∈fp,H' b=none) E s1) E s
 done:∀(X:Cx),X.prog=P->X.w=w->X.K=K->X.calm=true->∀(i:Nat) (pins:List (Addr×Obj)) (s:ak) (O:St) (H:Hp) (E:Value->ak->Prop),Inv X pins O H s->(∀b∈fp,mF X pins H b)->tn i s.heap->J.stop i H->
  aH (aF P w) X.A (pK (.ref it)) (fun r s1=>r=none/\Inv X pins O H s1) E s
 self:∀(A:cV) (i:Nat) (s:ak) (Q:Value->ak->Prop) (E:Value->ak->Prop),tn i s.heap->Q (.ref it) s->aH (aF P w) A (u0 (.ref it)) Q E s
noncomputable abbrev TI:=St->Hp->(It->Hp->Prop)->Prop
def YC(X:Cx)(pins:List (Addr×Obj))(O:St)(tg:Expr)(R:It->Hp->Prop)(itv:Value)(s2:ak):Prop:=
 ∃(it:Addr) (fp:List Addr) (tn:Nat->Heap->Prop) (J:It) (H':Hp),itv=.ref it/\Inv X pins O H' s2/\Turn X.prog X.w X.K tg J fp it tn/\tn 0 s2.heap/\(∀b∈fp,mF X pins H' b)/\R J H'
def PI(X:Cx)(tg iter:Expr)(wi:TI):Prop:=
 ∀(pins:List (Addr×Obj)) (s:ak) (O:St) (H:Hp) (R:It->Hp->Prop),Inv X pins O H s->wi O H R->
  aH (aF X.prog X.w) X.A (eval iter X.env) (fun v s1=>aH (aF X.prog X.w) X.A (u0 v) (YC X pins O tg R) X.xe s1) X.xe s
theorem AI{M:KJ}{A:cV}{it:Addr}{o:Obj}{n:String}{vs:Array Value}{Q:Unit->ak->Prop}(ho:s.heap.get? it=some o)(hc:o.cls=.type n)(hd:o.data=.fields vs)
  (hn:["enumerate","zip","dict_itemiterator","dict_reverseitemiterator","odict_iterator","itertools.zip_longest","itertools.pairwise"].contains n=false) (hQ:Q () s):aH M A (nM tg (.ref it) u) Q E s:=by
 unfold nM;cases tg<;>first
  |exact bh hQ
  |(cases u<;>first
    |exact bh hQ
    |(refine au (wpAny_load ho ?_)
      rw[hc,hd];show aH M A (if(["enumerate","zip","dict_itemiterator","dict_reverseitemiterator","odict_iterator","itertools.zip_longest","itertools.pairwise"].contains n&&vs[0]?==some (jV _))=true then _ else _) Q E s;rw[if_neg (by intro h;rw[hn,CJ]at h;cases h)];exact bh hQ))
noncomputable def YD(K:PySem.W.Frag)(a:Addr):It:=
 ⟨fun i H=>∃xs x,gx K H a xs/\xs[i]?=some x,fun i H x H'=>H'=H/\∀xs,gx K H a xs->xs[i]?=some x,fun i H=>∃xs,gx K H a xs/\xs.length<=i⟩
noncomputable def YE(K:PySem.W.Frag)(a:Addr):It:=
 ⟨fun i H=>∃xs x,oS K H a xs/\xs[i]?=some x,fun i H x H'=>H'=H/\∀xs,oS K H a xs->xs[i]?=some x,fun i H=>∃xs,oS K H a xs/\xs.length<=i⟩
noncomputable def RZ(lo:Int)(n:Nat):It:=⟨fun i _=>i<n,fun i H x H'=>H'=H/\x=.int (lo+i),fun i _=>n<=i⟩
variable{P:bx}{w:bL}{K:PySem.W.Frag}
theorem La(a it:Addr):Turn P w K tg (YD K a) [it] it (fun i h=>h.IsListIter it a i) where
 mem:=by simp
 obj:=fun i h st b hb=>by
  have e:b=it:=by simpa using hb
  subst e;obtain⟨o,e,c,d⟩:=st;exact⟨o,e,fun v z=>by rw[d]at z;cases z⟩
 keep:=fun i h h' st k=>st.at fun o e=>k it (by simp) o e
 item:=by
  intro X hP hw hK hc i pins s O H E I hf st hg;subst hP hw hK;obtain⟨xs,x,hq,hx⟩:=hg;obtain⟨its,rv,p,hz⟩:=I.list hq;obtain⟨u,hu,ru⟩:=rv.get hx;obtain⟨f0,f1,f2,f3,f4,f5⟩:=hf it (by simp);refine wpAny_pyNext_list_item st p.isList (x:=u) (by simpa using hu) fun h' st' sb=>?_;have I1:Inv X pins O H { s with heap:=h' }:=I.turned (t':=s.toks) (fun b o hb e=>(sb.2 b hb).trans e) f0 f1 f3 f4 f5;obtain⟨o,e,c,d⟩:=id st';exact⟨u,rfl,AI (s:={ s with heap:=h' }) e c d (by decide) ⟨x,H,I1,ru,⟨rfl,fun ys hy=>by rw[I.zG hy hq];exact hx⟩,st',fun b hb=>(hf b hb).1⟩⟩
 done:=by
  intro X hP hw hK hc i pins s O H E I hf st hg;subst hP hw hK;obtain⟨xs,hq,hx⟩:=hg;obtain⟨its,rv,p,hz⟩:=I.list hq;obtain⟨f0,f1,f2,f3,f4,f5⟩:=hf it (by simp);have hl:=rv.length;exact wpAny_pyNext_list_end (I.ok.hd hc) st p.isList (by simp;omega) fun h' eb=>⟨rfl,I.turned (t':=s.toks) (fun b o hb e=>eb b o hb e) f0 f1 f3 f4 f5⟩
 self:=fun _ _ _ _ _ st h=>wpAny_pyIter_listiter st h
theorem Je(a it:Addr):Turn P w K tg (YE K a) [it] it (fun i h=>h.IsTupleIter it a i) where
 mem:=by simp
 obj:=fun i h st b hb=>by
  have e:b=it:=by simpa using hb
  subst e;obtain⟨o,e,c,d⟩:=st;exact⟨o,e,fun v z=>by rw[d]at z;cases z⟩
 keep:=fun i h h' st k=>st.at fun o e=>k it (by simp) o e
 item:=by
  intro X hP hw hK hc i pins s O H E I hf st hg;subst hP hw hK;obtain⟨xs,x,hq,hx⟩:=hg;obtain⟨its,rv,p,hz⟩:=I.tuple hq;obtain⟨u,hu,ru⟩:=rv.get hx;obtain⟨f0,f1,f2,f3,f4,f5⟩:=hf it (by simp);refine wpAny_pyNext_tuple_item st (show s.heap.IsTuple a its.toArray from p) (x:=u) (by simpa using hu) fun h' st' sb=>?_;have I1:Inv X pins O H { s with heap:=h' }:=I.turned (t':=s.toks) (fun b o hb e=>(sb.2 b hb).trans e) f0 f1 f3 f4 f5;obtain⟨o,e,c,d⟩:=id st';exact⟨u,rfl,AI (s:={ s with heap:=h' }) e c d (by decide) ⟨x,H,I1,ru,⟨rfl,fun ys hy=>by rw[I.CY hy hq];exact hx⟩,st',fun b hb=>(hf b hb).1⟩⟩
 done:=by
  intro X hP hw hK hc i pins s O H E I hf st hg;subst hP hw hK;obtain⟨xs,hq,hx⟩:=hg;obtain⟨its,rv,p,hz⟩:=I.tuple hq;obtain⟨f0,f1,f2,f3,f4,f5⟩:=hf it (by simp);have hl:=rv.length;exact wpAny_pyNext_tuple_end (I.ok.hd hc) st (show s.heap.IsTuple a its.toArray from p) (by simp;omega) fun h' eb=>⟨rfl,I.turned (t':=s.toks) (fun b o hb e=>eb b o hb e) f0 f1 f3 f4 f5⟩
 self:=fun _ _ _ _ _ st h=>wpAny_pyIter_tupleiter st h
theorem Jf(it:Addr)(lo:Int)(n:Nat):Turn P w K tg (RZ lo n) [it] it (fun i h=>HA h it (lo+(i:Nat)*1) ((n:Int)-(i:Nat)) 1) where
 mem:=by simp
 obj:=fun i h st b hb=>by
  have e:b=it:=by simpa using hb
  subst e;exact⟨_,st,fun v z=>by
   have z':Data.fields _=Data.cell v:=z;cases z'⟩
 keep:=fun i h h' st k=>k it (by simp) _ st
 item:=by
  intro X hP hw hK hc i pins s O H E I hf st hg;subst hP hw hK;obtain⟨f0,f1,f2,f3,f4,f5⟩:=hf it (by simp);have W:=Walks.range (prog:=X.prog) (w:=X.w) (I.ok.hd hc) it lo 1 n;refine W.item i s _ _ hg st fun v h' tk hv st' kk=>?_;obtain⟨t,rfl⟩:=hv;have I1:Inv X pins O H { s with heap:=h',toks:=tk }:=I.turned (fun b o hb e=>kk b o (by simpa using hb) e) f0 f1 f3 f4 f5;refine⟨_,rfl,AI (s:={ s with heap:=h',toks:=tk }) (n:="range_iterator") st' rfl rfl (by decide) ⟨.int (lo+i),H,I1,⟨t,?_⟩,⟨rfl,rfl⟩,st',fun b hb=>(hf b hb).1⟩⟩;rw[Int.mul_one]
 done:=by
  intro X hP hw hK hc i pins s O H E I hf st hg;subst hP hw hK;obtain⟨f0,f1,f2,f3,f4,f5⟩:=hf it (by simp);exact wpAny_pyNext_range_end (I.ok.hd hc) st (by have:n<=i:=hg;omega) fun h' eb=>⟨rfl,I.turned (t':=s.toks) (fun b o hb e=>eb b o hb e) f0 f1 f3 f4 f5⟩
 self:=fun _ _ _ _ _ st h=>wpAny_pyIter_rangeiter st h
end L2
namespace L2
open PySem PySem.Spec PyProof.Rows
variable{pins:List (Addr×Obj)}{O:St}{H:Hp}{s:ak}
variable{fp:List Addr}{h:Heap}
section
variable{X:Cx}{tg:Expr}
theorem OC{R:It->Hp->Prop}{E:Value->ak->Prop}{lo hi:Int}{t u v:Tok}{tk:Nat}(I:Inv X pins O H s)(h1:-(2 ^ 62)<=lo)(h2:lo<2 ^ 62)(h3:-(2 ^ 62)<=hi)(h4:hi<2 ^ 62)
  (q:R (RZ lo (hi-lo).toNat) H):aH (aF X.prog X.w) X.A (u0 (.ref s.heap.objs.size)) (YC X pins O tg R) E { s with heap:=s.heap.push { cls:=.type "range",data:=.fields #[.int lo t,.int hi u,.int 1 v] },toks:=tk }:=by
 refine wpAny_pyIter_range (Xi ..) (small_one h1 h2 h3 h4) ?_;have I1:Inv X pins O H { s with heap:=s.heap.push { cls:=.type "range",data:=.fields #[.int lo t,.int hi u,.int 1 v] },toks:=tk }:=I.kept fun b o e=>aP _ e;refine⟨(s.heap.push { cls:=.type "range",data:=.fields #[.int lo t,.int hi u,.int 1 v] }).objs.size,[(s.heap.push { cls:=.type "range",data:=.fields #[.int lo t,.int hi u,.int 1 v] }).objs.size],_,_,H,rfl,
  I1.kept (t':=tk) fun b o e=>aP _ e,Jf _ lo (hi-lo).toNat,?_,fun b hb=>?_,q⟩
 ·have e1:lo+((0:Nat):Int)*1=lo:=by simp
  have e2:(((hi-lo).toNat:Nat):Int)-((0:Nat):Int)=G4 lo hi 1:=by rw[rangeSize_one];split<;>omega
  show HA _ _ (lo+((0:Nat):Int)*1) ((((hi-lo).toNat:Nat):Int)-((0:Nat):Int)) 1;rw[e1,e2];exact bJ _ rfl
 ·have e:b=(s.heap.push { cls:=.type "range",data:=.fields #[.int lo t,.int hi u,.int 1 v] }).objs.size:=by simpa using hb
  subst e;exact I1.t7 (aB _) (I1.hok.fresh (aB _))
def Zc(wi:TI)(g:TG)(tb:TS):TS:=fun D O H=>wi O H fun J H1=>∃W:Nat->Nat->St->Hp->Prop,(∃m,W 0 m O H1)/\∀i m O H,W i m O H->
 (J.stop i H/\D.nx O H)\/(J.go i H/\∃N:St->Hp->Prop,(∀ZV H',N ZV H'->∃m',m'<m/\W (i+1) m' ZV H')/\∀x H',J.yld i H x H'->g x O H' fun ZZ H2=>tb { D with nx:=N,ct:=N,bk:=D.nx } ZZ H2)
noncomputable def wQ(fp:List Addr)(h:Heap):List (Addr×Obj):=fp.filterMap fun b=>(h.get? b).map fun o=>(b,o)
theorem qA{b:Addr}{o:Obj}(hb:b∈fp)(e:h.get? b=some o):(b,o)∈wQ fp h:=yc.mpr ⟨b,hb,by rw[e];rfl⟩
theorem Lb{p:Addr×Obj}(hp:p∈wQ fp h):p.1∈fp/\h.get? p.1=some p.2:=by
 obtain⟨b,hb,e⟩:=yc.mp hp;cases q:h.get? b with
 |none=>rw[q]at e;cases e
 |some o=>
  rw[q]at e;have e':(b,o)=p:=cZ e;subst e';exact⟨hb,q⟩
theorem Inv.pinned(I:Inv X pins O H s)(hf:∀b∈fp,mF X pins H b)(ho:∀b∈fp,∃o,s.heap.get? b=some o/\∀v,o.data≠.cell v):Inv X (pins++wQ fp s.heap) O H s:=
 I.yw fun p hp=>(aD.mp hp).elim (fun z=>I.pin p (aq _ z)) fun z=>by
  obtain⟨hb,e⟩:=Lb z;obtain⟨f0,f1,f2,_⟩:=hf p.1 hb;obtain⟨o,e',d⟩:=ho p.1 hb;rw[e]at e';cases e';exact⟨e,f0,f1,f2,d⟩
theorem Inv.vg{pl:List (Addr×Obj)}(I:Inv X (pins++pl) O H s):Inv X pins O H s:=I.yw fun p hp=>I.pin p (aq _ (aC _ hp))
theorem Vm{iter:Expr}{body:List Stmt}{wi:TI}{g:TG}{tb:TS}{pos:Pos}(hp:tU (aF X.prog X.w) X.A X.env X.xe)(hc:X.calm=true)(hi:PI X tg iter wi)(hg:PG X tg g)(hb:q9 X body tb)
  (hs:∀x,jG iter X.env x=pure x:=by intro _;rfl):PS X (.For tg iter body [] pos) (Zc wi g tb):=by
 intro pins s O H D I h;refine wpAny_For (a7 (hi pins s O H _ I h) fun v s1 h1=>a7 h1 fun itv s2 h2=>?_) hs;obtain⟨it,fp,tn,J,H2,e,I2,T,st2,f2,W,⟨m0,w0⟩,turn⟩:=h2;subst e;have stat:∀{H':Hp},(∀b∈fp,H' b=none)->∀b∈fp,mF X pins H' b:=fun hn b hb=>⟨hn b hb,(f2 b hb).2⟩;refine codeAny_forLoop_any (fun n s'=>∃i ZV H',Inv X pins ZV H' s'/\tn i s'.heap/\(∀b∈fp,H' b=none)/\W i n ZV H') ?_ m0 ⟨0,O,H2,I2,st2,fun b hb=>(f2 b hb).1,w0⟩;rintro n s3 ⟨i,ZY,H3,I3,st3,fr3,w3⟩;rcases turn i n ZY H3 w3 with⟨stop,qn⟩|⟨go,N,hN,step⟩
 ·refine h_ hp (a7 (T.done X rfl rfl rfl hc i pins s3 ZY H3 X.xe I3 (stat fr3) st3 stop) fun r s4 ⟨hr,I4⟩=>?_);subst hr;exact tT ⟨ZY,H3,I4,qn⟩
 ·refine h_ hp (a7 (T.item X rfl rfl rfl hc i pins s3 ZY H3 X.xe I3 (stat fr3) st3 go) fun r s4 ⟨u,hr,h4⟩=>?_);subst hr;refine h_ hp (a7 h4 fun _ s5 ⟨x,H5,I5,r5,y5,st5,fr5⟩=>?_);have I5':=I5.pinned (stat fr5) (T.obj _ _ st5);refine h_ hp (a7 (hg _ s5 ZY H5 x u _ I5' r5 (step x H5 y5)) fun _ s6 ⟨Z7,H6,I6,q6⟩=>?_);refine h_ hp (a7 (hb _ s6 Z7 H6 _ I6 q6) fun f s7 q7=>?_);have again:∀{Z6:St}{H7:Hp},Inv X (pins++wQ fp s5.heap) Z6 H7 s7->N Z6 H7->∃m,m<n/\∃i ZV H',Inv X pins ZV H' s7/\tn i s7.heap/\(∀b∈fp,H' b=none)/\W i m ZV H':=fun{Z6 H7} I7 n7=>by
   obtain⟨m',hm,w7⟩:=hN Z6 H7 n7;refine⟨m',hm,i+1,Z6,H7,I7.vg,T.keep _ _ _ st5 fun b hb o e=>(I7.pin (b,o) (aq _ (aq _ (qA hb e)))).1,fun b hb=>?_,w7⟩;obtain⟨o,e,d⟩:=T.obj _ _ st5 b hb;exact(I7.pin (b,o) (aq _ (aq _ (qA hb e)))).2.1
  cases f with
  |next=>obtain⟨Z6,H7,I7,n7⟩:=q7;exact again I7 n7
  |cont=>obtain⟨Z6,H7,I7,n7⟩:=q7;exact again I7 n7
  |brk=>obtain⟨Z6,H7,I7,q7⟩:=q7;exact⟨Z6,H7,I7.vg,q7⟩
  |ret v=>obtain⟨x7,Z6,H7,I7,r7,q7⟩:=q7;exact⟨x7,Z6,H7,I7.vg,r7,q7⟩
end
end L2
namespace L2
open PySem PySem.Spec PyProof.Rows
noncomputable abbrev R2:=V->V->Hp->VK->Prop
def jA(X:Cx)(f:Value->Value->Sem Value)(r:R2):Prop:=
 ∀(pins:List (Addr×Obj)) (s:ak) (O:St) (H:Hp) (x y:V) (v u:Value) (Q:VK),Inv X pins O H s->RelV x v->RelV y u->r x y H Q->
  aH (aF X.prog X.w) X.A (f v u) (EP X pins O Q) X.xe s
def YF(X:Cx)(f:Value->Sem Value)(r:V->Hp->VK->Prop):Prop:=
 ∀(pins:List (Addr×Obj)) (s:ak) (O:St) (H:Hp) (x:V) (v:Value) (Q:VK),Inv X pins O H s->RelV x v->r x H Q->
  aH (aF X.prog X.w) X.A (f v) (EP X pins O Q) X.xe s
def mh(X:Cx)(f:Value)(r:List V->Hp->VK->Prop):Prop:=
 ∀(pins:List (Addr×Obj)) (s:ak) (O:St) (H:Hp) (xs:List V) (us:List Value) (Q:VK),Inv X pins O H s->bB xs us->r xs H Q->
  aH (aF X.prog X.w) X.A (call f us) (EP X pins O Q) X.xe s
def Vn(X:Cx)(r:V->Hp->(Bool->Hp->Prop)->Prop):Prop:=
 ∀(pins:List (Addr×Obj)) (s:ak) (O:St) (H:Hp) (x:V) (v:Value) (Q:Bool->Hp->Prop),Inv X pins O H s->RelV x v->r x H Q->
  aH (aF X.prog X.w) X.A (N8 v) (TP X pins O Q) X.xe s
def Vo(r:R2)(ta tb:TE):TE:=fun O H Q=>ta O H fun x H1=>tb O H1 fun y H2=>r x y H2 Q
noncomputable def rI(C:Int->Int->Prop)(g:Int->Int->V):R2:=fun x y H Q=>∃i j,x=.int i/\y=.int j/\C i j/\Q (g i j) H
noncomputable def CZ(g:Int->Int->V):R2:=fun x y H Q=>∃i j,x=.int i/\y=.int j/\Q (g i j) H
def rU(g:Int->V):V->Hp->VK->Prop:=fun x H Q=>∃i,x=.int i/\Q (g i) H
variable{pins:List (Addr×Obj)}{s:ak}{O:St}{H:Hp}
variable{r:R2}
variable{f:Value->Value->Sem Value}{g:Int->Int->Int}
section
variable{X:Cx}{a b c:Expr}{ta tb tc:TE}{pos:Pos}
theorem OD(ha:PE X a ta)(hb:PE X b tb){R:V->V->Hp->Prop}(I:Inv X pins O H s)
  (h:ta O H fun x H1=>tb O H1 fun y H2=>R x y H2) {Q:Value->ak->Prop}{f:Value->Value->Sem Value}
  (hf:∀v u s2 x y H2,Inv X pins O H2 s2->RelV x v->RelV y u->R x y H2->aH (aF X.prog X.w) X.A (f v u) Q X.xe s2) :
  aH (aF X.prog X.w) X.A (eval a X.env) (fun v Z0=>aH (aF X.prog X.w) X.A (eval b X.env) (fun u Z1=>aH (aF X.prog X.w) X.A (f v u) Q X.xe Z1) X.xe Z0) X.xe s:=by
 refine a7 (ha pins s O H _ I h) fun v s1 ⟨x,H1,I1,r1,q1⟩=>?_;refine a7 (hb pins s1 O H1 _ I1 q1) fun u s2 ⟨y,H2,I2,r2,q2⟩=>?_;exact hf v u s2 x y H2 I2 r1 r2 q2
theorem Xu{op:sy}(ho:jA X (gP op) r)(ha:PE X a ta)(hb:PE X b tb):PE X (.BinOp a op b pos) (Vo r ta tb):=by
 intro pins s O H Q I h;exact wpAny_BinOp (OD ha hb I h fun v u s2 x y H2 I2 rx ry q=>ho pins s2 O H2 x y v u Q I2 rx ry q)
theorem R0{C:Int->Int->Prop}
  (rule:∀(i j:Int) (t u:Tok) (s:ak) (Q:Value->ak->Prop) (E:Value->ak->Prop),C i j->Q (.int (g i j) s.toks) { s with toks:=s.toks+1 }->aH (aF X.prog X.w) X.A (f (.int i t) (.int j u)) Q E s) :
  jA X f (rI C fun i j=>.int (g i j)):=by
 intro pins s O H x y v u Q I rx ry h;obtain⟨i,j,rfl,rfl,hc,q⟩:=h;obtain⟨t,rfl⟩:=rx;obtain⟨t',rfl⟩:=ry;exact rule i j t t' s _ _ hc ⟨.int (g i j),H,I.tok _,⟨_,rfl⟩,q⟩
theorem Vp
  (rule:∀(i j:Int) (t u:Tok) (s:ak) (Q:Value->ak->Prop) (E:Value->ak->Prop),Q (.int (g i j) s.toks) { s with toks:=s.toks+1 }->aH (aF X.prog X.w) X.A (f (.int i t) (.int j u)) Q E s) :
  jA X f (CZ fun i j=>.int (g i j)):=by
 intro pins s O H x y v u Q I rx ry h;obtain⟨i,j,rfl,rfl,q⟩:=h;obtain⟨t,rfl⟩:=rx;obtain⟨t',rfl⟩:=ry;exact rule i j t t' s _ _ ⟨.int (g i j),H,I.tok _,⟨_,rfl⟩,q⟩
theorem Jg{g:Int->Int->Bool}
  (rule:∀(i j:Int) (t u:Tok) (s:ak) (Q:Value->ak->Prop) (E:Value->ak->Prop),Q (.bool (g i j)) s->aH (aF X.prog X.w) X.A (f (.int i t) (.int j u)) Q E s) :
  jA X f (CZ fun i j=>.bl (g i j)):=by
 intro pins s O H x y v u Q I rx ry h;obtain⟨i,j,rfl,rfl,q⟩:=h;obtain⟨t,rfl⟩:=rx;obtain⟨t',rfl⟩:=ry;exact rule i j t t' s _ _ ⟨.bl (g i j),H,I,rfl,q⟩
def q_(i j:Int):Prop:=0<j/\j<1073741824
def wR(i j:Int):Prop:=0<=j/\j<=1000000/\i.natAbs<2 ^ 64
def t8(i j:Int):Prop:=(-(2 ^ 64)<i/\i<2 ^ 64)\/(-(2 ^ 64)<j/\j<2 ^ 64)
theorem t8.ok{i j:Int}(h:t8 i j):IntMulOk i j:=by
 rcases h with⟨h1,h2⟩|⟨h1,h2⟩
 ·exact .of_left (Et h1 h2)
 ·exact .of_right (Et h1 h2)
theorem Vq:jA X (gP .Add) (CZ fun i j=>.int (i+j)):=Vp fun _ _ _ _ _ _ _ q=>add_int q
theorem Vr:jA X (gP .Sub) (CZ fun i j=>.int (i-j)):=Vp fun _ _ _ _ _ _ _ q=>sub_int q
theorem Vs:jA X (gP .Mult) (rI t8 fun i j=>.int (i*j)):=R0 fun _ _ _ _ _ _ _ hc q=>mul_int q hc.ok
theorem Tc:jA X (gP .FloorDiv) (rI q_ fun i j=>.int (i / j)):=R0 fun i j _ _ _ _ _ hc q=>by
 have h1:(0:Int)<j:=hc.1;have h2:j<1073741824:=hc.2;exact floordiv_int (by omega) (by rw[Int.fdiv_eq_ediv_of_nonneg i (by omega)];exact q) (.inl (HB (by omega)))
theorem Vt:jA X (gP .Mod) (rI (fun _ j=>0<j) fun i j=>.int (i%j)):=R0 fun i j _ _ _ _ _ hc q=>by
 have h1:(0:Int)<j:=hc;exact mod_int' (by omega) (by rw[Int.fmod_eq_emod_of_nonneg i (by omega)];exact q)
theorem Vu:jA X (gP .Pow) (rI wR fun i j=>.int (i ^ j.toNat)):=R0 fun _ _ _ _ _ _ _ hc q=>pow_int_small hc.1 hc.2.1 hc.2.2 q
theorem unI{f:Value->Sem Value}{g:Int->Int}
  (rule:∀(i:Int) (t:Tok) (s:ak) (Q:Value->ak->Prop) (E:Value->ak->Prop),Q (.int (g i) s.toks) { s with toks:=s.toks+1 }->aH (aF X.prog X.w) X.A (f (.int i t)) Q E s) :
  YF X f (rU fun i=>.int (g i)):=by
 intro pins s O H x v Q I rx h;obtain⟨i,rfl,q⟩:=h;obtain⟨t,rfl⟩:=rx;exact rule i t s _ _ ⟨.int (g i),H,I.tok _,⟨_,rfl⟩,q⟩
theorem Vv:YF X (unaryOp .USub) (rU fun i=>.int (-i)):=unI fun _ _ _ _ _ q=>neg_int q
end
variable{us:List Value}
section
variable{X:Cx}{a b c:Expr}{ta tb tc:TE}{pos:Pos}
theorem AJ{Q:VK}{k k':Bool}(I:Inv X pins O H s)(q:Q (.bl k) H)(e:k=k'):EP X pins O Q (.bool k') s:=by
 subst e;exact⟨.bl k,H,I,rfl,q⟩
theorem Xv:jA X (f6 .Lt) (CZ fun i j=>.bl (decide (i<j))):=Jg fun _ _ _ _ _ _ _ q=>N9 q
theorem Xw:jA X (f6 .LtE) (CZ fun i j=>.bl (decide (i<=j))):=Jg fun _ _ _ _ _ _ _ q=>le_int q
theorem Xx:jA X (f6 .Gt) (CZ fun i j=>.bl (decide (j<i))):=Jg fun _ _ _ _ _ _ _ q=>gt_int q
theorem Xy:jA X (f6 .GtE) (CZ fun i j=>.bl (decide (j<=i))):=Jg fun _ _ _ _ _ _ _ q=>ge_int q
theorem Lc:jA X (f6 .Lt) (fun x y H Q=>∃i j,x=.str i/\y=.str j/\Q (.bl (decide (i.cps.toList<j.cps.toList))) H):=by
 intro pins s O H x y v u Q I rx ry h;obtain⟨i,j,rfl,rfl,q⟩:=h;obtain⟨t,rfl⟩:=rx;obtain⟨t',rfl⟩:=ry;exact lt_str (AJ I q rfl)
theorem Vw:jA X (f6 .Is) (fun x y H Q=>y=.non/\Q (.bl (decide (x=.non))) H):=by
 intro pins s O H x y v u Q I rx ry h;obtain⟨rfl,q⟩:=h;cases ry;refine is_none_gen (AJ I q ?_);cases x<;>first
  |(cases rx;rfl)
  |(obtain⟨t,rfl⟩:=rx;rfl)
theorem Td:jA X (f6 .IsNot) (fun x y H Q=>y=.non/\Q (.bl (!decide (x=.non))) H):=by
 intro pins s O H x y v u Q I rx ry h;obtain⟨rfl,q⟩:=h;cases ry;refine isnot_none_gen (AJ I q ?_);cases x<;>first
  |(cases rx;rfl)
  |(obtain⟨t,rfl⟩:=rx;rfl)
theorem Te{op:nN}(ho:jA X (f6 op) r)(ha:PE X a ta)(hb:PE X b tb)(hm:wz op b=false):PE X (.Compare a [op] [b] pos) (Vo r ta tb):=by
 intro pins s O H Q I h;exact wpAny_Compare1 (OD ha hb I h fun v u s2 x y H2 I2 rx ry q=>ho pins s2 O H2 x y v u Q I2 rx ry q) hm
def Zd(K:PySem.W.Frag)(x:V)(H:Hp)(k:Bool):Prop:=
 match x with
 |.non=>k=false
 |.bl b=>k=b
 |.int i=>k=(i != 0)
 |.str y=>y.length<=aa/\k=((y.length:Int) != 0)
 |.byt y=>y.size<=aa/\k=((y.size:Int) != 0)
 |.ref p=>(∃xs,gx K H p xs/\k=!xs.isEmpty)\/(∃xs,oS K H p xs/\k=!xs.isEmpty)\/∃kvs,H p=some (.dK kvs)/\k=!kvs.isEmpty
 |_=>False
theorem Jh{κ:Type}{kvs:List (κ×V)}{vs:List (κ×Value)}(r:KV kvs vs):(!vs.isEmpty)=!kvs.isEmpty:=by
 cases r<;>rfl
theorem AK{xs:List V}{its:List Value}(r:bB xs its):(!its.toArray.isEmpty)=!xs.isEmpty:=by
 cases r<;>simp
theorem rm:(aa:Nat)<2 ^ 63:=by rw[dM];decide
theorem Vx:Vn X (fun x H Q=>∃k,Zd X.K x H k/\Q k H):=by
 intro pins s O H x v Q I rx h;obtain⟨k,e,q⟩:=h;have hl:=rm;have hs:aa=16777216:=dM;cases x with
 |non=>
  cases rx;have e':k=false:=e;subst e';exact truthy_none ⟨H,I,q⟩
 |bl b=>
  cases rx;have e':k=b:=e;subst e';exact dR ⟨H,I,q⟩
 |int i=>
  obtain⟨t,rfl⟩:=rx;have e':k=(i != 0):=e;subst e';exact PySem.P.truthy_int ⟨H,I,q⟩
 |str y=>
  obtain⟨t,rfl⟩:=rx;obtain⟨hy,e'⟩:y.length<=aa/\k=((y.length:Int) != 0):=e;subst e';exact PySem.P.truthy_str (by omega) ⟨H,I.tok _,q⟩
 |byt y=>
  obtain⟨t,rfl⟩:=rx;obtain⟨hy,e'⟩:y.size<=aa/\k=((y.size:Int) != 0):=e;subst e';exact PySem.W.truthy_bytes (by omega) ⟨H,I.tok _,q⟩
 |ref p=>
  cases rx;have e':(∃xs,gx X.K H p xs/\k=!xs.isEmpty)\/(∃xs,oS X.K H p xs/\k=!xs.isEmpty)\/∃kvs,H p=some (.dK kvs)/\k=!kvs.isEmpty:=e;rcases e' with⟨xs,hx,e'⟩|⟨xs,hx,e'⟩|⟨kvs,hx,e'⟩
  ·subst e';obtain⟨its,r,pl,hz⟩:=I.list hx;have hlen:=r.length;exact wpAny_truthy_list pl.isList (by simp only[aG];omega) ⟨H,I.tok _,by rw[AK r];exact q⟩
  ·subst e';obtain⟨its,r,pl,hz⟩:=I.tuple hx;have hlen:=r.length;exact truthy_tuple pl (by simp only[aG];omega) ⟨H,I.tok _,by rw[AK r];exact q⟩
  ·subst e';obtain⟨hz,hS,vs,r,m⟩:kvs.length<=aa/\(p==gX)=false/\∃vs,KV kvs vs/\s.heap.DictOf (dg X.prog X.w) p vs:=I.hok p _ hx;have hlen:kvs.length=vs.length:=Paired.length r;exact wpAny_truthy_dict hS m (by omega) ⟨H,I.tok _,by rw[Jh r];exact q⟩
 |_=>exact(show False from e).elim
theorem Ji:jA X (gP .Add) (fun x y H Q=>∃i j,x=.str i/\y=.str j/\i.length+j.length<=aa/\Q (.str (i++j)) H):=by
 intro pins s O H x y v u Q I rx ry h;obtain⟨i,j,rfl,rfl,hz,q⟩:=h;obtain⟨t,rfl⟩:=rx;obtain⟨t',rfl⟩:=ry;exact add_str (fun t' tk=>⟨.str (i++j),H,I.tok _,⟨_,rfl⟩,q⟩) hz
theorem vals1{x:V}(r:bB [x] us):∃u,us=[u]/\RelV x u:=by
 cases r with
 |cons r1 r2=>cases r2;exact⟨_,rfl,r1⟩
theorem vals2{x y:V}(r:bB [x,y] us):∃u w',us=[u,w']/\RelV x u/\RelV y w':=by
 cases r with
 |cons r1 r2=>
  cases r2 with
  |cons r3 r4=>cases r4;exact⟨_,_,rfl,r1,r3⟩
theorem Ld(hc:X.calm=true):mh X (.builtin "max") (fun xs H Q=>∃i j,xs=[.int i,.int j]/\Q (.int (if j>i then j else i)) H):=by
 intro pins s O H xs us Q I r h;obtain⟨i,j,rfl,q⟩:=h;obtain⟨u,w',rfl,⟨t,rfl⟩,⟨t',rfl⟩⟩:=vals2 r;refine max_two_ints (I.ok.hd hc) fun h' tk k=>⟨_,H,I.kept k,?_,q⟩;by_cases hj:j>i
 ·rw[if_pos hj,if_pos hj];exact⟨_,rfl⟩
 ·rw[if_neg hj,if_neg hj];exact⟨_,rfl⟩
theorem C0:mh X (.type "int") (fun xs H Q=>(∃i,xs=[.int i]/\Q (.int i) H)\/∃k,xs=[.bl k]/\Q (.int (if k then 1 else 0)) H):=by
 intro pins s O H xs us Q I r h;rcases h with⟨i,rfl,q⟩|⟨k,rfl,q⟩
 ·obtain⟨u,rfl,t,rfl⟩:=vals1 r;exact call_int_int ⟨.int i,H,I,⟨_,rfl⟩,q⟩
 ·obtain⟨u,rfl,r1⟩:=vals1 r;cases r1;exact call_int_bool ⟨.int (if k then 1 else 0),H,I.tok _,⟨_,rfl⟩,q⟩
theorem E1:mh X (.type "str") (fun xs H Q=>∃i,xs=[.int i]/\i.natAbs.log2<1920/\Q (.str (toString i)) H):=by
 intro pins s O H xs us Q I r h;obtain⟨i,rfl,hz,q⟩:=h;obtain⟨u,rfl,t,rfl⟩:=vals1 r;exact PySem.P.str_of_int hz ⟨.str _,H,I.tok _,⟨_,rfl⟩,q⟩
end
end L2
namespace L2
open PySem PySem.Spec PyProof.Rows
structure OE (h:Heap) (x dx C:Addr) (mA:Str->Option Value):Prop where
 obj:h.get? x=some (PySem.W.instObj C dx)
 ns:h.Ns1 dx mA
 ne:dx≠x
variable{h:Heap}{dx:Addr}{mA:Str->Option Value}
theorem Le(n:h.Ns1 dx mA):∃od,h.get? dx=some od/\∀name,PySem.W.lookIn name od=some (mA name):=by
 obtain⟨o,es,ep,ho,hd,hk,_,hm⟩:=n;refine⟨o,ho,fun name=>?_⟩;have e:=hm name;unfold nsFind findBy at e;rw[<-Array.find?_toList]at e;unfold PySem.W.lookIn;rw[hd];dsimp only;split
 ·rename_i y q;rw[q]at e;exact congrArg some e
 ·rename_i q;rw[q]at e;have a:es.toList.any (·.refKey)=false:=by
   rw[fq];intro y hy;obtain⟨z,t,hkey⟩:=hk y (Array.mem_toList_iff.mp hy);simp[RU,hkey]
  have a':¬es.toList.any (·.refKey)=true:=by rw[a];exact aR
  rw[if_neg a'];exact congrArg some e
variable{C:Addr}
theorem OE.look{x:Addr}(I:OE h x dx C mA):∃od,PySem.W.InstAt h x (PySem.W.instObj C dx) C (some od)/\∀name,PySem.W.lookIn name od=some (mA name):=
 let⟨od,ho,hl⟩:=Le I.ns
 ⟨od,⟨I.obj,rfl,rfl,ho⟩,hl⟩
noncomputable def E2(f:Str)(v:V):List (Str×V)->List (Str×V)
|[]=>[(f,v)]
|(g,x)::r=>if g=f then(g,v)::r else(g,x)::E2 f v r
theorem nY.some_of{v:V}{o:Option Value}(r:nY (some v) o):∃u,o=some u/\RelV v u:=by
 cases o with
 |none=>exact(show False from r).elim
 |some u=>exact⟨u,rfl,r⟩
section
variable{P:bx}{w:bL}{H H':Hp}{h h':Heap}{a C dx:Addr}{fs fs':List (Str×V)}
theorem Tf(hok:fH P w H h)(e:H a=some (.ins C dx fs)):∃mA,OE h a dx C mA/\(∀f,nY (fs.lookup f) (mA f))/\PySem.Within mA (fs.map (·.1))/\fs.length<=1000/\H dx=some (.own a):=by
 obtain⟨d,z,ne,ob,mA,n,r,q⟩:=(show cY P w H h a (.ins C dx fs)from hok a _ e);exact⟨mA,⟨ob,n,ne⟩,r,q,z,d⟩
end
structure Vy (K:PySem.W.Frag) (C:Addr):Prop where
 pg:PySem.W.plainGet K C jj=true
 hd:PySem.W.hasDictIn K C=true
 po:PySem.W.plainOver K C=true
 sa:PySem.W.findIn K (.ref C) "__setattr__"=some (some (.builtin "object.__setattr__"))
theorem Vy.get{K:PySem.W.Frag}(c:Vy K C)(f:Str):PySem.W.plainGet K C f=true:=c.pg
section
variable{X:Cx}{pins:List (Addr×Obj)}{O:St}{H:Hp}{s:ak}{A:cV}{E:Value->ak->Prop}{Q:Value->ak->Prop}{c:Value}{b:Bool}
inductive nZ (K:PySem.W.Frag) (H:Hp):V->Value->Prop where
|non:nZ K H .non (.type "NoneType")
|bl (x:Bool):nZ K H (.bl x) (.type "bool")
|int (i:Int):nZ K H (.int i) (.type "int")
|str (x:Str):nZ K H (.str x) (.type "str")
|flt (x:UInt64):nZ K H (.flt x) (.type "float")
|lst {a:Addr}{xs:List V} (e:H a=some (.lst xs)):nZ K H (.ref a) (.type "list")
|br {a:Addr}{o:Obj}{xs:List V} (e:H a=some (.br o (.lst xs))):nZ K H (.ref a) (.type "list")
|tup {a:Addr}{xs:List V} (e:H a=some (.tup xs)):nZ K H (.ref a) (.type "tuple")
|dK {a:Addr}{kvs:List (Key×V)} (e:H a=some (.dK kvs)):nZ K H (.ref a) (.type "dict")
|dT {a:Addr}{kvs:List (List Key×V)} (e:H a=some (.dT kvs)):nZ K H (.ref a) (.type "dict")
|ins {a C dx:Addr}{fs:List (Str×V)} (e:H a=some (.ins C dx fs)) (cl:Vy K C) (ha:PySem.W.findIn K (.ref C) "__class__"=some (some (.builtin "object.__class__")))
  (hn:PySem.W.specialIn K (.builtin "object.__class__") "__get__"=some (some (.builtin "getset_descriptor.__get__"))) (htk:PySem.W.takesIn K (.builtin "object.__class__")=some true)
  (hm:PySem.W.mroIn K C (.type "object")=some true):nZ K H (.ref a) (.ref C)
theorem Lf{x:V}{u t:Value}(I:Inv X pins O H s)(rx:RelV x u)(ty:nZ X.K H x t)(e:PySem.W.kitOne X.K t c=some b)(h:∀tk,Q (.bool b) { s with toks:=tk }) :
  aH (aF X.prog X.w) A (call (.builtin "isinstance") [u,c]) Q E s:=by
 cases ty with
 |non=>cases(show u=dZ from rx);exact PySem.W.kia_one PySem.W.kitx_none I.jb eu e (fun z=>nomatch z) h
 |bl y=>cases(show u=iC y from rx);exact PySem.W.kia_one PySem.W.kitx_bool I.jb eu e (fun z=>nomatch z) h
 |int i=>obtain⟨t,q⟩:=(show ∃t,u=mY i t from rx);cases q;exact PySem.W.kia_one PySem.W.kitx_int I.jb eu e (fun z=>nomatch z) h
 |str y=>obtain⟨t,q⟩:=(show ∃t,u=pB y t from rx);cases q;exact PySem.W.kia_one PySem.W.kitx_str I.jb eu e (fun z=>nomatch z) h
 |flt y=>obtain⟨t,q⟩:=(show ∃t,u=Hx y t from rx);cases q;exact PySem.W.kia_one PySem.W.kitx_float I.jb eu e (fun z=>nomatch z) h
 |@lst a xs ea=>
  cases(show u=bV a from rx);obtain⟨_,_,n,_,h1⟩:=(show cY X.prog X.w H s.heap a (.lst xs)from I.hok a _ ea);exact PySem.W.kia_one PySem.W.kitx_list I.jb ⟨_,h1,rfl⟩ e (fun z=>nomatch z) h
 |@br a ob xs ea=>
  cases(show u=bV a from rx);obtain⟨_,_,_,n,_,h1⟩:=(show cY X.prog X.w H s.heap a (.br ob (.lst xs))from I.hok a _ ea);exact PySem.W.kia_one PySem.W.kitx_list I.jb ⟨_,h1,rfl⟩ e (fun z=>nomatch z) h
 |@tup a xs ea=>
  cases(show u=bV a from rx);obtain⟨_,_,_,p⟩:=(show cY X.prog X.w H s.heap a (.tup xs)from I.hok a _ ea);obtain⟨o,h1,h2,_⟩:=p;exact PySem.W.kia_one PySem.W.kitx_tuple I.jb ⟨o,h1,h2⟩ e (fun z=>nomatch z) h
 |@dK a kvs ea=>
  cases(show u=bV a from rx);obtain⟨_,_,vs,_,p⟩:=(show cY X.prog X.w H s.heap a (.dK kvs)from I.hok a _ ea);obtain⟨o,es,ep,h1,h2,_⟩:=p;exact PySem.W.kia_one PySem.W.kitx_dict I.jb ⟨o,h1,h2.1⟩ e (fun z=>nomatch z) h
 |@dT a kvs ea=>
  cases(show u=bV a from rx);obtain⟨_,_,xs,_,o,es,ep,h1,h2,_⟩:=(show cY X.prog X.w H s.heap a (.dT kvs)from I.hok a _ ea);exact PySem.W.kia_one PySem.W.kitx_dict I.jb ⟨o,h1,h2.1⟩ e (fun z=>nomatch z) h
 |@ins a C dx fs ea cl ha hn htk hm=>
  cases(show u=bV a from rx);obtain⟨mA,ZR,_⟩:=Tf I.hok ea;obtain⟨od,J,_⟩:=ZR.look;exact PySem.W.kia_one (PySem.W.kitx_own (cl.get _) cl.hd ha hn htk hm) I.jb J e (fun z=>nomatch z) h
end
end L2
namespace L2
open PySem PySem.Spec PyProof.Rows
structure kW (k:Nat) (A:cV):Prop where
 hd:A.handled=none
 dp:A.depth+3*k+5<CK
 un:A.units+16*k+200<dc
variable{j k:Nat}{A:cV}
theorem kW.mono(r:kW k A)(h:j<=k):kW j A:=⟨r.hd,by have:=r.dp;omega,by have:=r.un;omega⟩
theorem kW.deeper(r:kW (k+1) A)(env:Env):kW k (A.deeper env):=
 ⟨r.hd,by have:=r.dp;show A.depth+1+3*k+5<_;omega,by have:=r.un;show A.units+3+16*k+200<_;omega⟩
theorem kW.depth(r:kW k A):A.depth<CK:=by have:=r.dp;omega
def Vz:TA:=fun _ H Q=>Q [] H
def Xz(ta:TE)(tr:TA):TA:=fun O H Q=>ta O H fun x H1=>tr O H1 fun xs H2=>Q (x::xs) H2
section
variable{X:Cx}{e:Expr}{es:List Expr}{te:TE}{t:TA}{pos:Pos}
theorem E3:PA X [] Vz:=fun _ _ _ _ H Q I h=>lT ⟨[],H,I,.nil,h⟩
theorem B8(ha:PE X e te)(hr:PA X es t)(hs:dJ (e::es) X.env=(false,eval e X.env)::dJ es X.env:=by rfl):PA X (e::es) (Xz te t):=by
 intro pos pins s O H Q I h;rw[hs];show aH _ _ (yL ((false,eval e X.env)::lD pos (dJ es X.env))) _ _ s;refine f7 (a7 (ha pins s O H _ I h) fun u s1 ⟨x,H1,I1,r1,q1⟩=>?_);exact a7 (hr pos pins s1 O H1 _ I1 q1) fun us s2 ⟨xs,H2,I2,r2,q2⟩=>⟨x::xs,H2,I2,.cons r1 r2,q2⟩
def Ze(t:TA):TE:=fun O H Q=>t O H fun xs H1=>xs.length<=aa/\∀p,H1 p=none->Q (.ref p) (upd H1 p (.tup xs))
def Zf(t:TA):TE:=fun O H Q=>t O H fun xs H1=>xs.length<=aa/\∀p,H1 p=none->Q (.ref p) (upd H1 p (.lst xs))
theorem VA{x1}(h:PA X es t):PE X (.Tuple es x1 pos) (Ze t):=by
 intro pins s O H Q I hq;refine wF (a7 (h pos pins s O H _ I hq) fun us s1 ⟨xs,H1,I1,r,z,q⟩=>⟨by rw[<-r.length];exact z,?_⟩);have hf:H1 s1.heap.objs.size=none:=I1.hok.fresh (aB _);refine⟨.ref s1.heap.objs.size,upd H1 s1.heap.objs.size (.tup xs),I1.laid (t':=s1.toks) (fun b u e=>aP _ e) (aB _) ?_,rfl,q _ hf⟩;exact⟨z,us,r,⟨_,bJ _ rfl,rfl,_,rfl⟩⟩
theorem VB(h:PA X es t):PE X (.List es pos) (Zf t):=by
 intro pins s O H Q I hq;refine wpAny_List_spliced (a7 (h pos pins s O H _ I hq) fun us s1 ⟨xs,H1,I1,r,z,q⟩=>⟨by rw[<-r.length];exact z,?_⟩);have hf:H1 s1.heap.objs.size=none:=I1.hok.fresh (aB _);refine⟨.ref s1.heap.objs.size,upd H1 s1.heap.objs.size (.lst xs),I1.laid (t':=s1.toks) (fun b u e=>aP _ e) (aB _) ?_,rfl,q _ hf⟩;exact⟨z,us,0,r,bJ _ rfl⟩
end
noncomputable abbrev Sp:=List V->Hp->VK->XK->Prop
noncomputable abbrev y_:=List Env->Hp->ak->XK->Value->ak->Prop
structure Jj (P:bx) (w:bL) (K:PySem.W.Frag) (mg:Str->Option Value) (base:Heap) (A:cV) (outer:List Env) (s:ak) (H:Hp):Prop where
 frames:A.frames=some outer
 mod:Mod K mg base
 bs:∀b o,base.get? b=some o->s.heap.get? b=some o/\H b=none
 bsz:base.objs.size<=s.heap.objs.size
 pR:s.heap.FunFrames base outer
 frf:∀b∈frs outer,H b=none
 hok:fH P w H s.heap
 bare:kK s.gens
def CE(outer:List Env)(P:bx)(w:bL)(H:Hp)(s:ak)(Q:VK)(u:Value)(s':ak):Prop:=
 ∃v H',s'.os=s.os/\kK s'.gens/\Un (frs outer) [] H H' s.heap s'.heap/\fH P w H' s'.heap/\RelV v u/\Q v H'
def CR(CX:y_)(outer:List Env)(P:bx)(w:bL)(H:Hp)(s:ak)(Q:VK)(E:XK)(r:BI)(s':ak):Prop:=
 match r with
 |.ok (.ret u)=>CE outer P w H s Q u s'
 |.ok _=>False
 |.error e=>CX outer H s E e s'
structure gZ (P:bx) (w:bL) (K:PySem.W.Frag) (mg:Str->Option Value) (base:Heap) (CX:y_) (k:Nat) (f:Addr) (fd:gq) (ps:List Str) (sp:Sp):Prop where
 len:∀vs H Q E,sp vs H Q E->vs.length=ps.length
 run:∀(A:cV) (outer:List Env) (s:ak) (H:Hp) (args:Args) (us:List Value) (vs:List V) (Q:VK) (E:XK),kW k A->Jj P w K mg base A outer s H->CL s fd args (ps.zip us)->bB vs us->sp vs H Q E->
  kL (aF P w) A (.call (.ref f) args) (CR CX outer P w H s Q E) s
variable{P:bx}{w:bL}{K:PySem.W.Frag}{mg:Str->Option Value}{base:Heap}{CX:y_}{f:Addr}{fd:gq}{ps:List Str}{sp:Sp}
theorem gZ.mono(F:gZ P w K mg base CX j f fd ps sp)(h:j<=k) :
  gZ P w K mg base CX k f fd ps sp:=⟨F.len,fun A outer s H args us vs Q E hr=>F.run A outer s H args us vs Q E (hr.mono h)⟩
theorem gZ.imp{sp':Sp}(F:gZ P w K mg base CX k f fd ps sp)
  (h:∀vs H Q E,sp' vs H Q E->sp vs H Q E):gZ P w K mg base CX k f fd ps sp':=
 ⟨fun vs H Q E q=>F.len vs H Q E (h _ _ _ _ q),fun A outer s H args us vs Q E hr he hb hv hs=>F.run A outer s H args us vs Q E hr he hb hv (h _ _ _ _ hs)⟩
variable{Q:VK}
section
variable{X:Cx}{pins:List (Addr×Obj)}{O:St}{H:Hp}{s s':ak}
theorem Inv.Zg(I:Inv X pins O H s):Jj X.prog X.w X.K X.mg X.base X.A X.stack s H:=
 ⟨I.ok.frames,I.ok.mod,I.bs,dB I.ok.bsz I.sz,I.stack,I.B6,I.hok,I.bare⟩
theorem Inv.after{u:Value}(I:Inv X pins O H s)(h:CE X.stack X.prog X.w H s Q u s'):EP X pins O Q u s':=by
 obtain⟨v,H',os,bare,un,hok,r,q⟩:=h;obtain⟨hh,g,d,t,os'⟩:=s';obtain rfl:os'=s.os:=os;exact⟨v,H',I.call (h':=hh) (g':=g) (d':=d) (t':=t) (ch:=[]) un hok bare (fun b z=>absurd z (by simp)),r,q⟩
end
def R1(sp:Sp)(dvs:List V)(E:XK)(t:TA):TE:=fun O H Q=>t O H fun vs H1=>sp (vs++dvs) H1 Q E
def Binds(K:PySem.W.Frag)(fd:gq)(ps:List Str)(ds:List Value):Prop:=
 ∀(s:ak) (us:List Value),K.In s.heap->(us++ds).length=ps.length->CL s fd ⟨us,[]⟩ (ps.zip (us++ds))
theorem Binds.all(h:∀us:List Value,us.length=ps.length->Au fd ⟨us,[]⟩=pure (ps.zip us)):Binds K fd ps []:=fun s us _ hl=>by
 rw[bI]at hl ⊢;exact .of_eq (h us hl)
def wU(CX:y_)(X:Cx)(E:XK):Prop:=∀(pins:List (Addr×Obj)) (O:St) (H:Hp) (s:ak) (e:Value) (s':ak),Inv X pins O H s->CX X.stack H s E e s'->X.xe e s'
variable{H:Hp}{s:ak}{us:List Value}{vs:List V}
section
variable{X:Cx}{CX:y_}{k:Nat}{f C:Addr}{fd:gq}{ps:List Str}{sp:Sp}{dvs:List V}{ds:List Value}{E:XK}{x m:Str}{p pos apos:Pos}{e o:Expr}{es:List Expr}{ta:TE}{t:TA}
theorem Lg{pins:List (Addr×Obj)}{O:St}(F:gZ X.prog X.w X.K X.mg X.base CX k f fd ps sp)(hr:kW k X.A)(hb:Binds X.K fd ps ds)(hd:bB dvs ds)(hx:wU CX X E)
  (I:Inv X pins O H s) (r:bB vs us) (h:sp (vs++dvs) H Q E):aH (aF X.prog X.w) X.A (call (.ref f) us) (EP X pins O Q) X.xe s:=by
 have r2:bB (vs++dvs) (us++ds):=r.append hd;have hl:(us++ds).length=ps.length:=by rw[<-r2.length];exact F.len _ _ _ _ h
 refine wpAny_call (sA (F.run X.A X.stack s H ⟨us,[]⟩ (us++ds) (vs++dvs) Q E hr I.Zg (hb s us I.jb hl) r2 h) fun r s' hq=>?_);cases r with
 |error e=>exact hx pins O H s e s' I hq
 |ok fl=>
  cases fl with
  |ret u=>exact I.after hq
  |next=>exact ay hq
  |brk=>exact ay hq
  |cont=>exact ay hq
theorem Tg(F:gZ X.prog X.w X.K X.mg X.base CX k f fd ps sp)(hr:kW k X.A)(hg:Gl X x)(hm:X.mg x=some (.ref f))(hk:PySem.W.keepIn X.K (.ref f)=true)(hb:Binds X.K fd ps ds)(hd:bB dvs ds)(hx:wU CX X E)
  (ha:PA X (e::es) t) (hdb:(x==("__debug__":Str))=false:=by decide) (he:dJ (e::es) X.env=(false,eval e X.env)::dJ es X.env:=by rfl) (hpl:(lD pos (dJ es X.env)).any (·.1)=false:=by rfl) :
  PE X (.Call (.Name x p) (e::es) [] pos) (R1 sp dvs E t):=by
 intro pins s O H Q I h;refine f9 (B7 I hg hm ?_ hdb);refine PySem.W.callWith_K (h₀:=X.base) I.ok.mod.kin hk (a7 (ha pos pins s O H _ I h) fun us s1 ⟨vs,H1,I1,r,q⟩=>⟨I1.jb,?_⟩) he hpl;exact Lg F hr hb hd hx I1 r q
theorem OF(F:gZ X.prog X.w X.K X.mg X.base CX k f fd ps sp)(hr:kW k X.A)(hg:Gl X x)(hm:X.mg x=some (.ref f))(hk:PySem.W.keepIn X.K (.ref f)=true)(hb:Binds X.K fd ps ds)(hd:bB dvs ds)(hx:wU CX X E)
  (hdb:(x==("__debug__":Str))=false:=by decide):PE X (.Call (.Name x p) [] [] pos) (R1 sp dvs E Vz):=by
 intro pins s O H Q I h;refine f9 (B7 I hg hm ?_ hdb);exact PySem.W.callWith_K0 I.jb hk (Lg (us:=[]) F hr hb hd hx I .nil h)
end
structure qP (N P:List Str) (sc:eL):Prop where
 kind:sc.kind=.function
 co:sc.isCoroutine=false
 gen:sc.isGenerator=false
 nd:N.Nodup
 pre:N.take P.length=P
 par:∀x∈P,sc.names.lookup x=some .local\/sc.names.lookup x=some .cell
 nofree:∀y∈sc.names,y.2≠.free
variable{kindOf:Str->Option iW}{x:Str}
theorem C1:∀{binds:List (Str×Value)}{m:Str->Option Value},(∀v,(x,v)∉binds)->vU kindOf binds m x=m x
|[],_,_=>rfl
|(n,v)::r,m,h=>by
 unfold vU;rw[C1 fun w hw=>h w (ai _ hw)];split
 ·have:x≠n:=by rintro rfl;exact h v ao
  simp[this]
 ·rfl
theorem C2:∀{binds:List (Str×Value)}{m:Str->Option Value},(∀v,(x,v)∉binds)->vV kindOf binds m x=m x
|[],_,_=>rfl
|(n,v)::r,m,h=>by
 unfold vV;rw[C2 fun w hw=>h w (ai _ hw)];split
 ·rfl
 ·have:x≠n:=by rintro rfl;exact h v ao
  simp[this]
variable{v:Value}
theorem C3:∀{P:List Str}{vs:List Value}{i:Nat}{m:Str->Option Value},P.Nodup->P[i]?=some x->vs[i]?=some v->kindOf x=some .local->
 vU kindOf (P.zip vs) m x=some v
|[],_,_,_,_,h,_,_=>by simp at h
|_::_,[],_,_,_,_,h,_=>by simp at h
|p::P,w::vs,0,m,nd,h1,h2,hk=>by
 simp at h1 h2;subst h1;subst h2;show vU kindOf ((p,w)::P.zip vs) m p=_;unfold vU;rw[C1 fun v hv=>(bF.mp nd).1 (tV hv).1,if_pos hk];simp
|p::P,w::vs,i+1,m,nd,h1,h2,hk=>by
 show vU kindOf ((p,w)::P.zip vs) m x=_;unfold vU;exact C3 (i:=i) (bF.mp nd).2 (by simpa using h1) (by simpa using h2) hk
theorem C4:∀{P:List Str}{vs:List Value}{i:Nat}{m:Str->Option Value},P.Nodup->P[i]?=some x->vs[i]?=some v->kindOf x≠some .local->
 vV kindOf (P.zip vs) m x=some v
|[],_,_,_,_,h,_,_=>by simp at h
|_::_,[],_,_,_,_,h,_=>by simp at h
|p::P,w::vs,0,m,nd,h1,h2,hk=>by
 simp at h1 h2;subst h1;subst h2;show vV kindOf ((p,w)::P.zip vs) m p=_;unfold vV;rw[C2 fun v hv=>(bF.mp nd).1 (tV hv).1,if_neg hk];simp
|p::P,w::vs,i+1,m,nd,h1,h2,hk=>by
 show vV kindOf ((p,w)::P.zip vs) m x=_;unfold vV;exact C4 (i:=i) (bF.mp nd).2 (by simpa using h1) (by simpa using h2) hk
noncomputable def start(N:List Str)(vs:List V):St:=vs.map some++aQ (N.length-vs.length) none
noncomputable def lO(CX:y_)(P:bx)(w:bL)(K:PySem.W.Frag)(mg:Str->Option Value)(base:Heap)(N:List Str)(qual:Str)(scope:eL)(f:Addr)(cd:Value)(A:cV)(outer:List Env)(s:ak)(H:Hp)(E:XK):Cx where
 prog:=P
 w:=w
 K:=K
 mg:=mg
 base:=base
 A:=A.deeper (nO qual scope s.heap.objs.size f cd)
 N:=N
 ZX:=s
 Z9:=H
 env:=nO qual scope s.heap.objs.size f cd
 outer:=outer
 stack:=nO qual scope s.heap.objs.size f cd::outer
 ex:=[]
 calm:=true
 fn:=fun _=>true
 pn:=[]
 xe:=fun e s'=>aH (aF P w) (A.deeper (nO qual scope s.heap.objs.size f cd)) (Ja (nO qual scope s.heap.objs.size f cd) e) (fun _ s''=>CX outer H s E e s'') (fun e' s''=>CX outer H s E e' s'') s'
theorem E4{sc:eL}{n:Nat}(h:sc.names.lookup x=some .cell):∃c,(dY n sc.names []).lookup x=some c:=by
 have q:=PySem.W.cellsFrom_some sc.names n [] (.inl h);exact Option.isSome_iff_exists.mp q
variable{qual:Str}{scope:eL}
theorem Lh{N:List Str}{cd:Value}{outer:List Env}{s1:ak}{E:XK}
  (S:qP N ps scope) (hd:A.handled=none) (e0:Jj P w K mg base A outer s H) (hl:vs.length=ps.length) (r:bB vs us)
  (x:InCallC s s.heap.objs.size (vU (nO qual scope s.heap.objs.size f cd).kindOf (ps.zip us) fun _=>none) (dY (s.heap.objs.size+1) scope.names []) (vV (nO qual scope s.heap.objs.size f cd).kindOf (ps.zip us) fun _=>none) s1) :
  Inv (lO CX P w K mg base N qual scope f cd A outer s H E) [] (start N vs) H s1:=by
 have hpl:ps.length<=N.length:=by have:=congrArg zz S.pre;rw[eT]at this;omega
 obtain⟨h1,tk,rfl,hk⟩:=x.done;have noA:∀b:Addr,b∉(lO CX P w K mg base N qual scope f cd A outer s H E).ex:=fun b z=>absurd (show b∈([]:List Addr)from z) (by simp);refine⟨⟨e0.mod,S.kind,rfl,rfl,aB _,fun y z c h1 h2=>?_,fun y hy=>?_,fun y c _ h=>?_,fun _=>hd,Around.frames_deeper e0.frames,.inr ⟨rfl,rfl⟩,fun b z=>absurd z (noA b),e0.bs,e0.bsz,fun b _ _=>noA b,fun b z=>absurd z (noA b),e0.pR,e0.frf⟩,
  rfl,e0.bare,Un.kept hk,⟨_,x.toInCall.ns,fun i y v h1 h2 h3=>?_⟩,fun y c h=>⟨_,x.cell y c h⟩,e0.hok.fresh (aB _),fun y c h=>?_,fun p hp=>absurd (show p∈([]:List (Addr×Obj))from hp) (by simp),e0.hok.kept hk,?_⟩
 ·exact name_of_addr x.apart (PySem.mem_of_lookup h1) (PySem.mem_of_lookup h2)
 ·have hy:scope.names.lookup y=some .cell\/scope.names.lookup y=some .free:=hy;rcases hy with hy|hy
  ·exact E4 hy
  ·exact absurd rfl (S.nofree _ (PySem.mem_of_lookup hy))
 ·exact iV (x.above y c (PySem.mem_of_lookup h))
 ·have hi:i<vs.length:=by
   unfold start at h2;by_cases hi:i<vs.length
   ·exact hi
   ·rw[cC (by simpa using hi)]at h2;rw[sR]at h2;split at h2<;>cases h2
  have ha:vs[i]?=some v:=by
   unfold start at h2;rw[eB (by simpa using hi),aX]at h2;cases e:vs[i]? with
   |none=>rw[e]at h2;cases h2
   |some a=>rw[e]at h2;cases h2;rfl
  obtain⟨u,hu,rv⟩:=r.get ha;have hp:ps[i]?=some y:=by
   rw[<-S.pre,List.getElem?_take_of_lt (by omega)];exact h1
  have ndP:ps.Nodup:=by rw[<-S.pre];exact S.nd.sublist (List.take_sublist _ _)
  refine⟨u,rv,?_⟩;rcases S.par y (ki hp)with k|k
  ·exact .inl ⟨k,C3 ndP hp hu k⟩
  ·obtain⟨c,e⟩:=E4 (n:=s.heap.objs.size+1) k;refine .inr ⟨.inl k,c,e,?_⟩;have q:=x.cell y c e;rw[C4 ndP hp hu (by show scope.names.lookup y≠_;rw[k];decide)]at q;exact q
 ·exact e0.hok.fresh (iV (x.above y c (PySem.mem_of_lookup h)))
 ·unfold start;show _=N.length;rw[az,ah,f_];omega
theorem XA{name:Str}{params:Arguments}{body:List Stmt}{dV kV doc pm cdv ct oc:Value}{an od:Option Addr}
  {osl:Array (Option Value)}{N ps:List Str}{sp:Sp} (lk:K.lookup f=some ⟨oc,od,.func (PySem.W.fnOf name qual params body scope dV kV doc pm an cdv ct),osl⟩) (hcd:PySem.W.codeIn K cdv qual=true) (S:qP N ps scope)
  (len:∀vs H Q E,sp vs H Q E->vs.length=ps.length)
  (hbody:∀(A:cV) (outer:List Env) (s:ak) (H:Hp) (vs:List V) (Q:VK) (E:XK),kW k (A.deeper (nO qual scope s.heap.objs.size f cdv))->sp vs H Q E->
   ∃t,q9 (lO CX P w K mg base N qual scope f cdv A outer s H E) body t/\t { nx:=fun _ H'=>Q .non H',rt:=Q } (start N vs) H) :
  gZ P w K mg base CX (k+1) f (PySem.W.fnOf name qual params body scope dV kV doc pm an cdv ct) ps sp:=by
 refine⟨len,fun A outer s H args us vs Q E hr e0 hb r hsp=>?_⟩;have hl:=len _ _ _ _ hsp;have KX:K.In s.heap:=e0.mod.kin.keeps fun b o e=>(e0.bs b o e).1;have lim:s.heap.NoLimit:=e0.mod.nolimit.keeps fun b o e=>(e0.bs b o e).1;have hkind:∀y∈ps.zip us,scope.names.lookup y.1=some .local\/(scope.names.lookup y.1=some .cell/\((dY (s.heap.objs.size+1) scope.names []).lookup y.1).isSome=true):=fun⟨n,v⟩ hy=>by
  rcases S.par n (tV hy).1 with q|q
  ·exact .inl q
  ·exact .inr ⟨q,PySem.W.cellsFrom_some _ _ _ (.inl q)⟩
 refine codeAny_call_function hr.depth (KX _ _ lk) rfl S.co S.gen rfl (PySem.W.codeRec_of KX hcd) (hb _ _ _ _ ?_);refine wpAny_newFunctionEnv_cells S.kind hkind fun env he s1 x=>?_;subst he;refine⟨lim.keeps x.toInCall.keep,codeAny_func ?_⟩;obtain⟨t,ht,hq⟩:=hbody A outer s H vs Q E (hr.deeper _) hsp;have I:Inv (lO CX P w K mg base N qual scope f cdv A outer s H E) [] (start N vs) H s1:=Lh S hr.hd e0 hl r x;refine kh (ht [] s1 (start N vs) H _ I hq) (fun fl s' hs=>?_) fun e s' hs=>hs;have fin:∀{ZV:St}{H':Hp}{v:V}{u:Value},Inv (lO CX P w K mg base N qual scope f cdv A outer s H E) [] ZV H' s'->RelV v u->Q v H'->CE outer P w H s Q u s':=
  fun{ZV H' v u} J rv q=>⟨v,H',J.os,J.bare,J.base,J.hok,rv,q⟩
 cases fl with
 |ret u=>
  obtain⟨v,ZV,H',J,rv,q⟩:=hs;exact fin J rv q
 |next=>
  obtain⟨ZV,H',J,q⟩:=hs;exact fin (v:=V.non) (u:=dZ) J rfl q
 |brk=>
  obtain⟨_,_,_,q⟩:=hs;exact ay q
 |cont=>
  obtain⟨_,_,_,q⟩:=hs;exact ay q
end L2
end
section
namespace HT
open PySem PyProof.Rows
section
variable{prog:bx}{w:bL}{A:cV}{E:Value->ak->Prop}{s:ak}
theorem Th{t b:Addr}{vs ws:List Value}{Q:Value->ak->Prop}(ht:IsTup s.heap t vs.toArray)(hb:IsTup s.heap b ws.toArray)(hv:vs≠[])
  (h1:ws=[]->Q (.ref t) s) (h2:ws≠[]->Q (.ref s.heap.objs.size) { s with heap:=s.heap.push { cls:=.type "tuple",data:=.seq (vs++ws).toArray } })
  (hsz:vs.length+ws.length<=aa):aH (aF prog w) A (gP .Add (.ref t) (.ref b)) Q E s:=by
 obtain⟨⟨cls,dd,data,sl⟩,ho,hc,n,hd⟩:=id ht;obtain⟨⟨cls2,dd2,data2,sl2⟩,ho2,hc2,n2,hd2⟩:=id hb;simp only at hc hd hc2 hd2;subst hc hd hc2 hd2;have e:vs.toArray++ws.toArray=(vs++ws).toArray:=by simp
 by_cases hw:ws=[]
 ·exact GQ ⟨_,ho,rfl⟩ ⟨_,ho2,rfl⟩ Av Eu PySem.F.slot_tuple_add PySem.F.entry_tuple_add (PySem.F.args_tuple_add_2 _ _)
   (tuple_addW1 t b vs.toArray ws.toArray n n2 dd dd2 sl sl2 (by simpa using hv) (by simp[hw])) ⟨ho,ho2,h1 hw⟩
 ·refine GQ ⟨_,ho,rfl⟩ ⟨_,ho2,rfl⟩ Av Eu PySem.F.slot_tuple_add PySem.F.entry_tuple_add (PySem.F.args_tuple_add_2 _ _)
   (tuple_addW2 t b vs.toArray ws.toArray n n2 dd dd2 sl sl2 (by simpa using hv) (by simpa using hw) (by rw[aG,aG];exact hsz)) ⟨ho,ho2,?_⟩
  rw[e];exact h2 hw
noncomputable def j4(n d:Nat):Option Int->Nat
|none=>d
|some v=>if v<0 then(v+(n:Int)).toNat else min v.toNat n
theorem rq(n d:Nat):j4 n d none=d:=rfl
theorem n6(n d k:Nat):j4 n d (some (k:Int))=min k n:=by
 show(if(k:Int)<0 then((k:Int)+(n:Int)).toNat else min (k:Int).toNat n)=min k n;rw[if_neg (by omega),iy]
theorem VC(n d:Nat)(hd:d<=n)(o:Option Int):j4 n d o<=n:=by
 cases o with
 |none=>exact hd
 |some v=>
  show(if v<0 then(v+(n:Int)).toNat else min v.toNat n)<=n;by_cases hv:v<0
  ·rw[if_pos hv];omega
  ·rw[if_neg hv];exact Nat.min_le_right _ _
end
end HT
namespace L2
open PySem PySem.Spec PyProof.Rows
noncomputable abbrev TO:=St->Hp->(Option Int->Hp->Prop)->Prop
def PO(X:Cx)(e:Option Expr)(t:TO):Prop:=
 ∀(pins:List (Addr×Obj)) (s:ak) (O:St) (H:Hp) (Q:Option Int->Hp->Prop),Inv X pins O H s->t O H Q->
  aH (aF X.prog X.w) X.A (evalPart e X.env) (fun u s'=>∃o H',Inv X pins O H' s'/\N_ u o/\Q o H') X.xe s
noncomputable def Ti:TO:=fun _ H Q=>Q none H
section
variable{X:Cx}{e:Expr}{te:TE}{lo hi:Option Expr}{tl th:TO}{pos p2:Pos}
theorem Tj:PO X none Ti:=by
 intro pins s O H Q I h;rw[Ew];exact bh ⟨none,H,I,.none,h⟩
def VD(X:Cx)(r:V->Option Int->Option Int->Hp->VK->Prop):Prop:=
 ∀(pins:List (Addr×Obj)) (s:ak) (O:St) (H:Hp) (x:V) (v vl vu:Value) (lo hi:Option Int) (sl:Addr) (Q:VK),Inv X pins O H s->RelV x v->s.heap.IsSliceOf sl vl vu .none->N_ vl lo->N_ vu hi->r x lo hi H Q->
  ∃T id,typeLookup (.type T) "__getitem__"=pure (some (.builtin id))/\s.TypeIs v T/\aH (aF X.prog X.w) X.A (yM v (.ref sl)) (EP X pins O Q) X.xe s
def tSl(r:V->Option Int->Option Int->Hp->VK->Prop)(te:TE)(tl th:TO):TE:=fun O H Q=>te O H fun x H1=>tl O H1 fun l H2=>th O H2 fun u H3=>r x l u H3 Q
theorem OG{r:V->Option Int->Option Int->Hp->VK->Prop}(hr:VD X r)(he:PE X e te)(hl:PO X lo tl)(hu:PO X hi th):PE X (.Subscript e (.Slice lo hi none p2) pos) (tSl r te tl th):=by
 intro pins s O H Q I h;refine KN (a7 (he pins s O H _ I h) fun v s1 ⟨x,H1,I1,r1,q1⟩=>?_);refine wpAny_Slice (a7 (hl pins s1 O H1 _ I1 q1) fun vl s2 ⟨l,H2,I2,pl,q2⟩=>a7 (hu pins s2 O H2 _ I2 q2) fun vu s3 ⟨u,H3,I3,pu,q3⟩=>?_);rw[Ew];refine bh ?_;have I4:Inv X pins O H3 { s3 with heap:=s3.heap.push { cls:=.type "slice",data:=.fields #[vl,vu,.none] } }:=I3.kept (t':=s3.toks) fun b ob q=>aP _ q;obtain⟨T,id,hT,ht,hg⟩:=hr pins { s3 with heap:=s3.heap.push { cls:=.type "slice",data:=.fields #[vl,vu,.none] } } O H3 x v vl vu l u s3.heap.objs.size Q I4 r1 (Oa ..) pl pu q3;show aH (aF X.prog X.w) X.A (p7 e (.Slice lo hi none p2) v (.ref s3.heap.objs.size)) (EP X pins O Q) X.xe { s3 with heap:=s3.heap.push { cls:=.type "slice",data:=.fields #[vl,vu,.none] } };exact tail_any (ops:=[.ref s3.heap.objs.size,v]) ht hT hg (by with_unfolding_all rfl)
noncomputable def Jk(xs:List V)(lo hi:Option Int):List V:=(xs.drop (HT.j4 xs.length 0 lo)).take (HT.j4 xs.length xs.length hi-HT.j4 xs.length 0 lo)
theorem G8(xs:List V)(lo hi:Option Int):(Jk xs lo hi).length<=xs.length:=by
 unfold Jk;rw[eT,dN];omega
noncomputable def XC(K:PySem.W.Frag):R2:=fun x y H Q=>∃a b xs ys,x=.ref a/\y=.ref b/\oS K H a xs/\oS K H b ys/\xs≠[]/\xs.length+ys.length<=aa /\
 (ys=[]->Q (.ref a) H)/\(ys≠[]->∀p,H p=none->Q (.ref p) (upd H p (.tup (xs++ys))))
theorem bB.B9{xs:List V}{us:List Value}(r:bB xs us):us=[]↔xs=[]:=by
 cases r with
 |nil=>simp
 |cons _ _=>simp
theorem Tn:jA X (gP .Add) (XC X.K):=by
 intro pins s O H x y v u Q I rx ry h;obtain⟨a,b,xs,ys,rfl,rfl,ha,hb,hx,hz,q1,q2⟩:=h;cases rx;cases ry;obtain⟨its,r1,p1,_⟩:=I.tuple ha;obtain⟨its2,r2,p2,_⟩:=I.tuple hb;refine HT.Th p1 p2 (fun z=>hx (r1.B9.mp z)) (fun z=>⟨.ref a,H,I,rfl,q1 (r2.B9.mp z)⟩) (fun z=>?_) (by rw[<-r1.length,<-r2.length];exact hz);refine⟨.ref s.heap.objs.size,_,I.laid (t':=s.toks) (o:=.tup (xs++ys)) (fun b ob q=>aP _ q) (aB _) ?_,rfl,q2 (fun w=>z (r2.B9.mpr w)) _ (I.hok.fresh (aB _))⟩;exact⟨by rw[az];exact hz,_,r1.append r2,IsTup.new _ _⟩
end
end L2
namespace L2
open PySem PySem.Spec PyProof.Rows
noncomputable def fL(n:Nat)(i:Int):Option Nat:=if 0<=i then(if i<n then some i.toNat else none)else if -(n:Int)<=i then some (i+n).toNat else none
noncomputable def eZ{α:Type}(xs:List α)(i:Int):Option α:=(fL xs.length i).bind fun j=>xs[j]?
variable{n j:Nat}{i:Int}
theorem HQ(h:fL n i=some j):seqIndex? i n=some j/\j<n/\-(n:Int)<=i/\i<n:=by
 unfold fL at h;by_cases h0:0<=i
 ·rw[if_pos h0]at h;by_cases h1:i<n
  ·rw[if_pos h1]at h;have e:i.toNat=j:=cZ h;exact⟨by rw[zA h0 h1,e],by omega,by omega,h1⟩
  ·rw[if_neg h1]at h;cases h
 ·rw[if_neg h0]at h;by_cases h1:-(n:Int)<=i
  ·rw[if_pos h1]at h;have e:(i+n).toNat=j:=cZ h;exact⟨by rw[yd (by omega) h1,e],by omega,h1,by omega⟩
  ·rw[if_neg h1]at h;cases h
variable{α:Type}
theorem qQ{xs:List α}{v:α}(h:eZ xs i=some v):∃j,seqIndex? i xs.length=some j/\xs[j]?=some v/\j<xs.length/\-(xs.length:Int)<=i/\i<xs.length:=by
 unfold eZ at h;cases e:fL xs.length i with
 |none=>rw[e]at h;cases h
 |some j=>
  rw[e]at h;obtain⟨h1,h2,h3,h4⟩:=HQ e;exact⟨j,h1,h,h2,h3,h4⟩
theorem gw{xs:List α}{v:α}(h:xs[j]?=some v):eZ xs (j:Int)=some v:=by
 have hj:j<xs.length:=(bQ.mp h).1;have e:fL xs.length (j:Int)=some j:=by
  unfold fL;rw[if_pos (by omega),if_pos (by omega)];simp
 unfold eZ;rw[e];exact h
def HR(b:Expr):Prop:=∀o i,uy b false o i=operate [o,i] (yM o i)
def E5(X:Cx)(r:R2):Prop:=
 ∀(value slice:Expr) (pins:List (Addr×Obj)) (s:ak) (O:St) (H:Hp) (x y:V) (v u:Value) (Q:VK),Inv X pins O H s->RelV x v->RelV y u->r x y H Q->
  uy slice false v u=operate [v,u] (yM v u)->aH (aF X.prog X.w) X.A (p7 value slice v u) (EP X pins O Q) X.xe s
variable{pins:List (Addr×Obj)}{O:St}{H:Hp}{s:ak}
section
variable{X:Cx}{a b:Expr}{ta tb:TE}{pos:Pos}
theorem XD{r:R2}(hr:E5 X r)(ha:PE X a ta)(hb:PE X b tb)(hs:HR b):PE X (.Subscript a b pos) (Vo r ta tb):=by
 intro pins s O H Q I h;exact KN (OD ha hb I h fun v u s2 x y H2 I2 rx ry q=>hr a b pins s2 O H2 x y v u Q I2 rx ry q (hs _ _))
noncomputable def Zh(K:PySem.W.Frag):R2:=fun x y H Q=>∃p xs i v,x=.ref p/\y=.int i/\gx K H p xs/\eZ xs i=some v/\Q v H
noncomputable def Zi(K:PySem.W.Frag):R2:=fun x y H Q=>∃p xs i v,x=.ref p/\y=.int i/\oS K H p xs/\eZ xs i=some v/\Q v H
noncomputable def Zj:R2:=fun x y H Q=>∃z i c,x=.str z/\y=.int i/\z.length<=aa/\eZ z.cps.toList i=some c/\Q (.str ⟨#[c]⟩) H
theorem To:E5 X (Zh X.K):=by
 intro value slice pins s O H x y v u Q I rx ry h hs;obtain⟨p,xs,i,z,rfl,rfl,hq,he,q⟩:=h;cases rx;obtain⟨t,rfl⟩:=ry;obtain⟨its,r,pl,hz⟩:=I.list hq;obtain⟨j,h1,h2,h3,h4,h5⟩:=qQ he;obtain⟨w,ew,rw'⟩:=r.get h2;have hl:=r.length;have hn:=rm;have fin:EP X pins O Q w s:=⟨z,H,I,rw',q⟩;by_cases h0:0<=i
 ·have hj:i.toNat=j:=by
   rw[zA h0 h5]at h1;exact cZ h1
  exact item_listR pl.isList h0 (by omega) (by rw[hj];simpa using ew) fin hs
 ·have hj:(i+(its.toArray.size:Int)).toNat=j:=by
   rw[yd (by omega) h4]at h1;rw[aG,<-hl];exact cZ h1
  exact uz (x:=w) pl.isList.typeIs yQ.lookup
   (wpAny_getItem_list_neg (Q:=fun r s'=>r=w/\EP X pins O Q r s') pl.isList (by omega) (by rw[aG]<;>omega) (by omega) (by rw[hj];simpa using ew) ⟨rfl,fin⟩) hs
theorem VE:E5 X (Zi X.K):=by
 intro value slice pins s O H x y v u Q I rx ry h hs;obtain⟨p,xs,i,z,rfl,rfl,hq,he,q⟩:=h;cases rx;obtain⟨t,rfl⟩:=ry;obtain⟨its,r,pl,hz⟩:=I.tuple hq;obtain⟨j,h1,h2,h3,h4,h5⟩:=qQ he;obtain⟨w,ew,rw'⟩:=r.get h2;have hl:=r.length;have hn:=rm;have fin:EP X pins O Q w s:=⟨z,H,I,rw',q⟩;exact uz (x:=w) pl.typeIs ye.lookup
  (getItem_tuple (j:=j) (Q:=fun r s'=>r=w/\EP X pins O Q r s') pl (by omega) (by omega) (by rw[aG,<-hl];exact h1) (by simpa using ew) ⟨rfl,fin⟩) hs
theorem VF:E5 X Zj:=by
 intro value slice pins s O H x y v u Q I rx ry h hs;obtain⟨z,i,c,rfl,rfl,hz,he,q⟩:=h;obtain⟨t,rfl⟩:=rx;obtain⟨t',rfl⟩:=ry;obtain⟨j,h1,h2,h3,h4,h5⟩:=qQ he;have hl:z.cps.toList.length=z.length:=by simp[fU]
 rw[hl]at h1 h4 h5;have hn:=rm;exact tail_any (gY s z t) Aw.lookup (getItem_str (c:=c) (by
  have e1:decide (i < -(2 ^ 63:Int))=false:=decide_eq_false (by omega);have e2:decide (i≥2 ^ 63)=false:=decide_eq_false (by omega);rw[e1,e2,Bool.or_false]) (by rw[h1];simpa using h2) ⟨.str ⟨#[c]⟩,H,I.tok _,⟨_,rfl⟩,q⟩) hs
theorem Jl(its:List Value)(n j:Nat)(u:Value):eY (·.setIfInBounds j u) { cls:=.type "list",data:=.seq its.toArray n }={ cls:=.type "list",data:=.seq (its.set j u).toArray n }:=by
 simp[eY]
theorem Inv.lst{pins:List (Addr×Obj)}{O:St}{H:Hp}{s:ak}{p:Addr}{xs:List V}(I:Inv X pins O H s)(h:H p=some (.lst xs)) :
  ∃(its:List Value) (n:Nat),bB xs its/\s.heap.get? p=some { cls:=.type "list",data:=.seq its.toArray n }/\xs.length<=aa:=by
 obtain⟨z,its,n,r,e⟩:=I.hok p _ h;exact⟨its,n,r,e,z⟩
theorem Inv.VG{p:Addr}{xs ys:List V}{its its':List Value}{n':Nat}{f:Obj->Obj}(I:Inv X pins O H s)(h:H p=some (.lst xs))
  (ho:s.heap.get? p=some { cls:=.type "list",data:=.seq its.toArray n }) (hf:f { cls:=.type "list",data:=.seq its.toArray n }={ cls:=.type "list",data:=.seq its'.toArray n' }) (r:bB ys its') (hz:ys.length<=aa) (t:Nat) :
  Inv X pins O (upd H p (.lst ys)) { s with heap:=s.heap.update p f,toks:=t }:=by
 have e:(s.heap.update p f).get? p=some { cls:=.type "list",data:=.seq its'.toArray n' }:=by
  rw[gb f ho (by rw[hf]<;>rfl),hf]
 refine I.write (x:=p) (e:=p) (by rw[h];trivial) (.inl rfl) (fun b u hb q=>(bC _ _ (dm hb)).trans q) ⟨_,e⟩ ?_;exact⟨hz,its',n',r,e⟩
def XE:V->V->V->Hp->(Hp->Prop)->Prop:=fun o i v H Q=>∃p xs k j,o=.ref p/\i=.int k/\H p=some (.lst xs)/\fL xs.length k=some j/\Q (upd H p (.lst (xs.set j v)))
theorem set_list:Oz X XE:=by
 intro pins s O H o i v ov iv u Q I ro ri rv h;obtain⟨p,xs,k,j,rfl,rfl,hp,hj,q⟩:=h;cases ro;obtain⟨t,rfl⟩:=ri;obtain⟨its,n,r,ho,hz⟩:=I.lst hp;obtain⟨h1,h2,h3,h4⟩:=HQ hj;have hl:=r.length;have hn:=rm;have I':Inv X pins O (upd H p (.lst (xs.set j v))) { s with heap:=s.heap.update p (eY (·.setIfInBounds j u)) }:=
  I.VG hp ho (Jl its n j u) (r.set rv j) (by rw[nP];exact hz) s.toks
 by_cases h0:0<=k
 ·have hk:k.toNat=j:=by
   rw[zA h0 h4]at h1;exact cZ h1
  exact PySem.W.ki_setAt ho h0 (by omega) (by rw[aG,<-hl];exact h4) (by rw[hk];exact⟨_,I',q⟩)
 ·have hk:(k+(its.toArray.size:Int)).toNat=j:=by
   rw[yd (by omega) h3]at h1;rw[aG,<-hl];exact cZ h1
  exact PySem.W.ki_setBack ho (by omega) (by rw[aG,<-hl];exact h3) (by omega) (by rw[hk];exact⟨_,I',q⟩)
theorem E6(lo hi:Option Int)(n:Nat):(kM lo hi none n).1=((HT.j4 n 0 lo:Nat):Int)/\(kM lo hi none n).2.1=((HT.j4 n n hi:Nat):Int)/\(kM lo hi none n).2.2=1:=by
 refine⟨?_,?_,rfl⟩
 ·cases lo with
  |none=>simp[kM,HT.j4]
  |some i=>
   simp only[kM,HT.j4,Ax,show(1:Int)>0 by decide,if_true];by_cases h:i<0
   ·simp only[h,if_true]<;>omega
   ·simp only[h,if_false]<;>omega
 ·cases hi with
  |none=>simp[kM,HT.j4]
  |some i=>
   simp only[kM,HT.j4,Ax,show(1:Int)>0 by decide,if_true];by_cases h:i<0
   ·simp only[h,if_true]<;>omega
   ·simp only[h,if_false]<;>omega
theorem Ek(its:List Value)(lo hi:Option Int):slicePick its.toArray lo hi none=((its.drop (HT.j4 its.length 0 lo)).take (HT.j4 its.length its.length hi-HT.j4 its.length 0 lo)).toArray:=by
 obtain⟨h1,h2,h3⟩:=E6 lo hi its.toArray.size;unfold slicePick;rw[h1,h2,h3];simp only[sliceRange_one,pick_run,aG]<;>rfl
def Zk(K:PySem.W.Frag):V->Option Int->Option Int->Hp->VK->Prop:=fun x lo hi H Q=>∃a xs,x=.ref a/\gx K H a xs/\∀p,H p=none->Q (.ref p) (upd H p (.lst (Jk xs lo hi)))
theorem Tp:VD X (Zk X.K):=by
 intro pins s O H x v vl vu lo hi sl Q I rx hs pl pu h;obtain⟨a,xs,rfl,hx,q⟩:=h;cases rx;obtain⟨its,r,ht,hz⟩:=I.list hx;have hlen:=r.length;refine⟨"list",_,yQ.lookup,ht.isList.typeIs,?_⟩;refine wpAny_getItem_list_slice ht.isList hs pl pu .none (by simp) ?_ (by rw[aG]<;>omega);rw[Ek,<-hlen];refine⟨.ref s.heap.objs.size,_,I.laid (t':=s.toks) (o:=.lst (Jk xs lo hi)) (fun b ob q=>aP _ q) (aB _) ?_,rfl,q _ (I.hok.fresh (aB _))⟩;exact⟨dB (G8 xs lo hi) hz,_,0,(r.drop (HT.j4 xs.length 0 lo)).take (HT.j4 xs.length xs.length hi-HT.j4 xs.length 0 lo),bJ _ rfl⟩
theorem E7:mh X (.builtin "len") (fun xs H Q=>∃p ys,xs=[.ref p]/\(gx X.K H p ys\/oS X.K H p ys)/\Q (.int ys.length) H):=by
 intro pins s O H xs us Q I r h;obtain⟨p,ys,rfl,hq,q⟩:=h;obtain⟨u,rfl,rx⟩:=vals1 r;cases rx;have hn:=rm;rcases hq with hq|hq
 ·obtain⟨its,r',pl,hz⟩:=I.list hq;have hlen:=r'.length;exact Calls.call_len_list pl.isList (by simp only[aG]<;>omega) ⟨.int ys.length,H,I.tok _,⟨s.toks+1,by rw[aG,hlen]⟩,q⟩
 ·obtain⟨its,r',pl,hz⟩:=I.tuple hq;have hlen:=r'.length;exact len_tuple pl (by simp only[aG]<;>omega) ⟨.int ys.length,H,I.tok _,⟨s.toks+1,by rw[aG,hlen]⟩,q⟩
theorem E8:mh X (.builtin "len") (fun xs H Q=>∃z,xs=[.str z]/\z.length<=aa/\Q (.int z.length) H):=by
 intro pins s O H xs us Q I r h;obtain⟨z,rfl,hz,q⟩:=h;obtain⟨u,rfl,t,rfl⟩:=vals1 r;have hn:=rm;exact len_str (by omega) ⟨.int z.length,H,I.tok _,⟨_,rfl⟩,q⟩
theorem E9:mh X (.type "list") (fun xs H Q=>∃p ys,xs=[.ref p]/\(gx X.K H p ys\/oS X.K H p ys)/\∀l,H l=none->Q (.ref l) (upd H l (.lst ys))):=by
 intro pins s O H xs us Q I r h;obtain⟨p,ys,rfl,hq,q⟩:=h;obtain⟨u,rfl,rx⟩:=vals1 r;cases rx;have fin:∀(its:List Value),bB ys its->ys.length<=aa->∀(h':Heap) (c':Nat),(∀b o',s.heap.get? b=some o'->h'.get? b=some o')->
   h'.get? s.heap.objs.size=some { cls:=.type "list",dict:=none,data:=.seq its.toArray c',slots:=#[] }->EP X pins O Q (.ref s.heap.objs.size) { s with heap:=h' }:=fun its r' hz h' c' kp e=>
  ⟨.ref s.heap.objs.size,_,I.laid (t':=s.toks) kp (aB _) (show cY X.prog X.w _ h' _ (.lst ys)from⟨hz,its,c',r',e⟩),rfl,q _ (I.hok.fresh (aB _))⟩
 rcases hq with hq|hq
 ·obtain⟨its,r',pl,hz⟩:=I.list hq;have hlen:=r'.length;obtain⟨o,ho,hc,n,hd⟩:=pl.isList;exact Ey p (.inl rfl) ho hc hd (fun h' c' kp e=>fin its r' hz h' c' kp e) (by simp only[aG]<;>omega)
 ·obtain⟨its,r',pl,hz⟩:=I.tuple hq;have hlen:=r'.length;obtain⟨o,ho,hc,n,hd⟩:=pl;exact Ey p (.inr rfl) ho hc hd (fun h' c' kp e=>fin its r' hz h' c' kp e) (by simp only[aG]<;>omega)
def Li(K:PySem.W.Frag)(T:String)(x:V)(H:Hp):Prop:=match x with
|.str _=>T="str"
|.int _=>T="int"
|.ref p=>(T="list"/\∃xs,gx K H p xs)\/(T="tuple"/\∃o,K.lookup p=some o/\o.cls=.type "tuple"/\o.dict=none) \/
  (T="dict"/\((∃kvs,H p=some (.dK kvs))\/∃kvs,H p=some (.dT kvs)))\/(T="set"/\∃S n,H p=some (.set S n))
|_=>False
theorem AL{x:V}{v:Value}(I:Inv X pins O H s)(r:RelV x v)(ty:Li X.K T x H) :
  s.TypeIs v T/\∀a,v=.ref a->∃ob,s.heap.get? a=some ob/\ob.dict=none:=by
 cases x with
 |str z=>
  obtain⟨t,rfl⟩:=r;cases(show T="str" from ty);exact⟨gY s z t,fun _ e=>nomatch e⟩
 |int i=>
  obtain⟨t,rfl⟩:=r;cases(show T="int" from ty);exact⟨BJ s i t,fun _ e=>nomatch e⟩
 |ref p=>
  cases r;rcases ty with⟨rfl,xs,hq⟩|⟨rfl,o,hk,hc,hd⟩|⟨rfl,hk⟩|⟨rfl,S,n,hk⟩
  ·obtain⟨its,_,pl,_⟩:=I.list hq;refine⟨pl.isList.typeIs,fun a e=>?_⟩;cases e;obtain⟨o,n,e,c,hd,_⟩:=pl;exact⟨o,e,hd⟩
  ·refine⟨⟨o,I.jb p o hk,hc⟩,fun a e=>?_⟩;cases e;exact⟨o,I.jb _ o hk,hd⟩
  ·have z:∃o,s.heap.get? p=some o/\o.ExactDict:=by
    rcases hk with⟨kvs,hk⟩|⟨kvs,hk⟩
    ·obtain⟨_,_,_,_,o,_,_,e,ex,_⟩:=I.hok p _ hk;exact⟨o,e,ex⟩
    ·obtain⟨_,_,_,_,o,_,_,e,ex,_⟩:=I.hok p _ hk;exact⟨o,e,ex⟩
   obtain⟨o,e,ex⟩:=z;refine⟨⟨o,e,ex.1⟩,fun a e2=>?_⟩;cases e2;exact⟨o,e,ex.2.1⟩
  ·obtain⟨o,_,_,_,e,ex,_⟩:=I.hok p _ hk;refine⟨⟨o,e,ex.1⟩,fun a e2=>?_⟩;cases e2;exact⟨o,e,ex.2.1⟩
 |_=>exact ay ty
variable{o e:Expr}{es:List Expr}{to:TE}{t:TA}{name:Str}{apos cpos:Pos}{T id:String}{r:V->List V->Hp->VK->Prop}
end
end L2
namespace L2
open PySem PySem.Spec PyProof.Rows
def VH(X:Cx)(id:String)(r:V->List V->Hp->VK->Prop):Prop:=
 ∀(pins:List (Addr×Obj)) (s:ak) (O:St) (H:Hp) (x:V) (xs:List V) (v:Value) (us:List Value) (Q:VK),Inv X pins O H s->RelV x v->bB xs us->r x xs H Q->
  aH (aF X.prog X.w) X.A (call (.builtin id) (v::us)) (EP X pins O Q) X.xe s
theorem bB.one:∀{x:V}{us:List Value},bB [x] us->∃u,us=[u]/\RelV x u
|_,_,.cons r .nil=>⟨_,rfl,r⟩
theorem bB.rep{xs:List V}{us:List Value}(h:bB xs us):∀k:Nat,bB (aQ k xs).flatten (aQ k us).flatten
|0=>.nil
|k+1=>by
 rw[bN,bN,cT,cT];exact bB.append h (bB.rep h k)
theorem foldl_rep(its:List Value):∀(k:Nat) (acc:List Value),
 BK (fun x1 x2=>x1++x2) acc.toArray (aQ k its.toArray)=(acc++(aQ k its).flatten).toArray
|0,acc=>by simp
|k+1,acc=>by
 have e:acc.toArray++its.toArray=(acc++its).toArray:=by simp
 have e2:(acc++its)++(aQ k its).flatten=acc++(aQ (k+1) its).flatten:=by
  rw[bN,cT,bS]
 rw[<-e2,<-foldl_rep its k (acc++its),<-e,bN,nQ]
variable{its:List Value}{n t':Nat}
section
variable{X:Cx}{pins:List (Addr×Obj)}{O:St}{H:Hp}{s:ak}{l b:Addr}{xs ys zs:List V}
theorem Inv.OH{its':List Value}{f:Array Value->Array Value}(I:Inv X pins O H s)(hH:H l=some (.lst xs))
  (e:s.heap.get? l=some { cls:=.type "list",data:=.seq its.toArray n }) (hf:f its.toArray=its'.toArray) (hv:bB ys its') (hz:ys.length<=aa) :
  Inv X pins O (upd H l (.lst ys)) { s with heap:=s.heap.update l (eY f),toks:=t' }:=by
 have q:=PySem.IsL.update e f;rw[hf]at q;refine I.write (x:=l) (e:=l) (by rw[hH];exact trivial) (.inl rfl) (fun b' u hb hu=>(bC s.heap (eY f) (dm hb)).trans hu) ⟨_,q⟩ ?_;exact⟨hz,its',_,hv,q⟩
theorem Inv.Jm(I:Inv X pins O H s)(hv:bB ys its)(hz:ys.length<=aa) :
  Inv X pins O (upd H s.heap.objs.size (.lst ys)) { s with heap:=s.heap.push { cls:=.type "list",data:=.seq its.toArray },toks:=t' }:=
 I.laid (fun _ _ q=>aP _ q) (aB _) ⟨hz,its,0,hv,bJ _ rfl⟩
theorem Inv.fresh(I:Inv X pins O H s):H s.heap.objs.size=none:=I.hok.fresh (aB _)
theorem Inv.Jo(I:Inv X pins O H s)(hH:H l=some (.lst xs)):xs.length<=aa/\∃(its:List Value) (n:Nat),bB xs its/\xs.length=its.length/\s.heap.get? l=some { cls:=.type "list",data:=.seq its.toArray n }:=by
 obtain⟨z,its,n,r,e⟩:=I.hok l _ hH;exact⟨z,its,n,r,r.length,e⟩
theorem E_(h:n<=aa):iX n=false:=by
 unfold iX;exact decide_eq_false (by omega)
end
section
variable{X:Cx}
def Tq:V->List V->Hp->VK->Prop:=fun x vs H Q=>∃l xs y,x=.ref l/\vs=[y]/\H l=some (.lst xs)/\xs.length<aa/\Q .non (upd H l (.lst (xs++[y])))
theorem Lj:VH X "list.append" Tq:=by
 intro pins s O H x vs v us Q I rx rv h;obtain⟨l,xs,y,rfl,rfl,hH,hz,q⟩:=h;cases rx;obtain⟨u,rfl,ru⟩:=rv.one;obtain⟨z,its,n,r,hl,e⟩:=I.Jo hH;refine fV F.slot_list_append ⟨_,e,rfl⟩ F.entry_list_append (F.args_list_append_2 _ _) (PySem.list_append l its.toArray n u (by rw[aG];omega)) ⟨e,?_⟩;refine⟨.non,_,I.OH (its':=its++[u]) hH e (by simp) (r.append (.cons ru .nil)) ?_,rfl,q⟩;rw[az,bU];omega
def Tt:V->List V->Hp->VK->Prop:=fun x vs H Q=>∃l b xs zs,x=.ref l/\vs=[.ref b]/\H l=some (.lst xs)/\H b=some (.lst zs)/\xs.length+zs.length<=aa/\Q .non (upd H l (.lst (xs++zs)))
theorem Lk:VH X "list.extend" Tt:=by
 intro pins s O H x vs v us Q I rx rv h;obtain⟨l,b,xs,zs,rfl,rfl,hH,hB,hz,q⟩:=h;cases rx;obtain⟨u,rfl,ru⟩:=rv.one;cases ru;obtain⟨z,its,n,r,hl,e⟩:=I.Jo hH;obtain⟨z2,its2,n2,r2,hl2,e2⟩:=I.Jo hB;have hsz:its.toArray.size+its2.toArray.size<=aa:=by rw[aG,aG];omega
 have hlong:¬(!its.toArray.isEmpty&&iX (its.toArray.size+its2.toArray.size))=true:=by
  rw[E_ hsz,u5];exact aR
 refine fV F.slot_list_extend ⟨_,e,rfl⟩ F.entry_list_extend (F.args_list_extend_2 _ _)
  (Ay l its.toArray n b its2.toArray n2 hlong (by rw[aG];omega) (by omega)) ⟨e,e2,?_⟩
 refine⟨.non,_,I.OH (its':=its++its2) hH e (by simp) (r.append r2) ?_,rfl,q⟩;rw[az];omega
theorem len_rep{α:Type}(xs:List α)(k:Nat):(aQ k xs).flatten.length=k*xs.length:=by
 induction k with
 |zero=>simp
 |succ k ih=>rw[bN,cT,az,ih,yf,yg]
end
end L2
end
section
namespace L2
open PySem PySem.Spec PyProof.Rows
variable{o:Option V}
variable{u:Value}{y:V}
section
variable{κ:Type} [DecidableEq κ]
noncomputable def fM(kvs:List (κ×V))(k:κ):Option V:=(kvs.find? fun kv=>decide (kv.1=k)).map (·.2)
noncomputable def putK(kvs:List (κ×V))(k:κ)(v:V):List (κ×V):=
 if(kvs.any fun kv=>decide (kv.1=k))=true then kvs.map (fun kv=>if kv.1=k then(kv.1,v)else kv)else kvs++[(k,v)]
theorem zH{p:κ×V}{r:List (κ×V)}{k:κ}(e:p.1=k):fM (p::r) k=some p.2:=by simp[fM,fC,e]
theorem zJ{p:κ×V}{r:List (κ×V)}{k:κ}(e:¬p.1=k):fM (p::r) k=fM r k:=by simp[fM,fC,e]
theorem Fb(k:κ):∀kvs:List (κ×V),(kvs.any fun kv=>decide (kv.1=k))=(fM kvs k).isSome
|[]=>rfl
|p::r=>by
 rw[kF];by_cases e:p.1=k
 ·simp only[zH e,decide_eq_true e,GS,yh]
 ·rw[zJ e,decide_eq_false e,Ez];exact Fb k r
theorem za(kvs:List (κ×V))(k:κ)(v:V):(putK kvs k v).length<=kvs.length+1:=by
 unfold putK;split
 ·rw[ah];omega
 ·rw[az,bz,fE];omega
theorem nY.oU{u:Option Value}(r:nY o u):o.isSome=u.isSome:=by
 cases o with
 |none=>cases u with
  |none=>rfl
  |some _=>exact(show False from r).elim
 |some _=>cases u with
  |none=>exact(show False from r).elim
  |some _=>rfl
theorem nY.getD{u:Option Value}{d:V}{d':Value}(r:nY o u)(rd:RelV d d'):RelV (o.getD d) (u.getD d'):=by
 cases o with
 |none=>cases u with
  |none=>exact rd
  |some _=>exact(show False from r).elim
 |some _=>cases u with
  |none=>exact(show False from r).elim
  |some _=>exact r
theorem KV.val{kvs:List (κ×V)}{vs:List (κ×Value)}(r:KV kvs vs)(k:κ):nY (fM kvs k) (qX vs k):=by
 unfold KV at r;induction r with
 |nil=>exact eu
 |@cons p q ps qs h t ih=>
  obtain⟨h1,h2⟩:=h;by_cases e:p.1=k
  ·have e':q.1=k:=h1.symm.trans e;have b:qX (q::qs) k=some q.2:=by simp[qX,fC,e']
   rw[zH e,b];exact h2
  ·have e':¬q.1=k:=fun z=>e (h1.trans z);have b:qX (q::qs) k=qX qs k:=by simp[qX,fC,e']
   rw[zJ e,b];exact ih
theorem KV.any{kvs:List (κ×V)}{vs:List (κ×Value)}(r:KV kvs vs)(k:κ):(kvs.any fun kv=>decide (kv.1=k))=vs.any fun kv=>decide (kv.1=k):=by
 unfold KV at r;induction r with
 |nil=>rfl
 |cons h t ih=>rw[kF,kF,ih,h.1]
theorem KV.repl{kvs:List (κ×V)}{vs:List (κ×Value)}(r:KV kvs vs)(k:κ)(ry:RelV y u) :
  KV (kvs.map fun kv=>if kv.1=k then(kv.1,y)else kv) (vs.map fun kv=>if kv.1=k then(kv.1,u)else kv):=by
 unfold KV at r ⊢;induction r with
 |nil=>exact .nil
 |@cons p q ps qs h t ih=>
  rw[bD,bD];refine .cons ?_ ih;obtain⟨h1,h2⟩:=h;by_cases e:p.1=k
  ·rw[if_pos e,if_pos (h1.symm.trans e)];exact⟨h1,ry⟩
  ·rw[if_neg e,if_neg (fun z=>e (h1.trans z))];exact⟨h1,h2⟩
theorem KV.put{kvs:List (κ×V)}{vs:List (κ×Value)}(r:KV kvs vs)(k:κ)(ry:RelV y u):KV (putK kvs k y) (stored vs k u):=by
 unfold putK stored;rw[r.any k];by_cases e:(vs.any fun kv=>decide (kv.1=k))=true
 ·rw[if_pos e,if_pos e];exact r.repl k ry
 ·rw[if_neg e,if_neg e];exact Paired.snoc r ⟨rfl,ry⟩
theorem KV.length{kvs:List (κ×V)}{vs:List (κ×Value)}(r:KV kvs vs):kvs.length=vs.length:=Paired.length r
end
variable{P:bx}{w:bL}
theorem sU{k:Key}(r:RelV (kV k) u):(dg P w).is k u=true:=by
 cases k with
 |inl i=>obtain⟨t,e⟩:=(show ∃t,u=mY i t from r);subst e;exact yY P w i t
 |inr x=>obtain⟨t,e⟩:=(show ∃t,u=pB x t from r);subst e;exact yZ P w x t
theorem C5:∀{ks:List Key}{us:List Value},bB (ks.map kV) us->ItemsAre (dg P w) ks us
|[],_,r=>by rw[yi]at r;cases r;exact .nil
|k::ks,_,r=>by
 rw[bD]at r;cases r with
 |cons h t=>exact .cons (sU h) (C5 t)
abbrev KT(H:Hp):List (List Key×V)->List (List Key×Addr×Value)->Prop:=Paired fun p q=>p.1=q.1/\H q.2.1=some (.tup (p.1.map kV))/\RelV p.2 q.2.2
variable{H:Hp}{kvs:List (List Key×V)}{xs:List (List Key×Addr×Value)}
theorem KT.val(r:KT H kvs xs)(k:List Key):nY (fM kvs k) ((tW xs k).map (·.2)):=by
 induction r with
 |nil=>exact eu
 |@cons p q ps qs h t ih=>
  obtain⟨h1,_,h2⟩:=h;by_cases e:p.1=k
  ·have e':q.1=k:=h1.symm.trans e;have b:tW (q::qs) k=some q.2:=by simp[tW,fC,e']
   rw[zH e,b];exact h2
  ·have e':¬q.1=k:=fun z=>e (h1.trans z);have b:tW (q::qs) k=tW qs k:=by simp[tW,fC,e']
   rw[zJ e,b];exact ih
theorem KT.repl(r:KT H kvs xs)(k:List Key)(ry:RelV y u) :
  KT H (kvs.map fun kv=>if kv.1=k then(kv.1,y)else kv) (xs.map (putAt k u)):=by
 induction r with
 |nil=>exact .nil
 |@cons p q ps qs h t ih=>
  rw[bD,bD];refine .cons ?_ ih;obtain⟨h1,h2,h3⟩:=h;unfold putAt;by_cases e:p.1=k
  ·rw[if_pos e,if_pos (h1.symm.trans e)];exact⟨h1,h2,ry⟩
  ·rw[if_neg e,if_neg (fun z=>e (h1.trans z))];exact⟨h1,h2,h3⟩
theorem KT.put(r:KT H kvs xs)(k:List Key){b:Addr}(hb:H b=some (.tup (k.map kV)))(ry:RelV y u) :
  KT H (putK kvs k y) (storedH xs k b u):=by
 have e:(kvs.any fun kv=>decide (kv.1=k))=(tW xs k).isSome:=by
  rw[Fb,(r.val k).oU,qo]
 unfold putK storedH;rw[e];by_cases q:(tW xs k).isSome=true
 ·rw[if_pos q,if_pos q];exact r.repl k ry
 ·rw[if_neg q,if_neg q];exact Paired.snoc r ⟨rfl,hb,ry⟩
variable{H':Hp}
theorem KT.keeps(r:KT H kvs xs)(ht:∀b ys,H b=some (.tup ys)->H' b=some (.tup ys)):KT H' kvs xs:=
 Paired.Jd r fun _ _ z=>⟨z.1,ht _ _ z.2.1,z.2.2⟩
section
variable{P:bx}{w:bL}{H:Hp}{h:Heap}{a:Addr}
theorem R3{u:HO}(ok:fH P w H h)(e:Rd H a u):cY P w H h a u:=e.ok ok
theorem sV{kvs:List (Key×V)}(ok:fH P w H h)(e:Rd H a (.dK kvs)):kvs.length<=aa/\(a==gX)=false/\∃vs,KV kvs vs/\h.DictOf (dg P w) a vs:=
 show cY P w H h a (.dK kvs)from R3 ok e
theorem XF{kvs:List (Key×V)}(ok:fH P w H h)(e:H a=some (.dK kvs)):kvs.length<=aa/\(a==gX)=false/\∃vs,KV kvs vs/\h.DictOf (dg P w) a vs:=sV ok (.inl e)
theorem rA{ks:List Key}(ok:fH P w H h)(e:H a=some (.tup (ks.map kV))):(mZ (dg P w)).is h ks a:=by
 obtain⟨_,its,r,o,h1,h2,n,h3⟩:=(show cY P w H h a (.tup (ks.map kV))from ok a _ e);exact⟨o,its.toArray,n,h1,h2,h3,by simpa using C5 r⟩
theorem vh(ok:fH P w H h)(e:Rd H a (.dT kvs)):kvs.length<=aa/\(a==gX)=false /\
  ∃xs,KT H kvs xs/\h.DictOfH (mZ (dg P w)) a xs:=by
 obtain⟨z,y,xs,r,o,es,ep,h1,h2,h3,h4,h5⟩:=(show cY P w H h a (.dT kvs)from R3 ok e);refine⟨z,y,xs,r,o,es,ep,h1,h2,h3,h4,fun x hx=>?_,h5⟩;have all:∀{l:List (List Key×V)}{m:List (List Key×Addr×Value)},KT H l m->∀x∈m,(mZ (dg P w)).is h x.1 x.2.1:=by
  intro l m q;induction q with
  |nil=>intro x hx;exact nomatch hx
  |@cons p q ps qs hq t ih=>
   intro x hx;rcases aE.mp hx with e|hx
   ·subst e;exact rA ok (by rw[<-hq.1];exact hq.2.1)
   ·exact ih x hx
 exact all r x hx
theorem XG(ok:fH P w H h)(e:H a=some (.dT kvs)):kvs.length<=aa/\(a==gX)=false /\
  ∃xs,KT H kvs xs/\h.DictOfH (mZ (dg P w)) a xs:=vh ok (.inl e)
end
def wV(H:Hp)(a:Addr)(y:V)(r:Option V):Prop:=
 (∃kvs k,Rd H a (.dK kvs)/\y=kV k/\r=fM kvs k)\/∃kvs k b,Rd H a (.dT kvs)/\y=.ref b/\H b=some (.tup (k.map kV))/\r=fM kvs k
def Zl(H:Hp)(a:Addr)(y v:V)(H':Hp):Prop:=
 (∃kvs k,H a=some (.dK kvs)/\y=kV k/\kvs.length<aa/\H'=upd H a (.dK (putK kvs k v))) \/
 ∃kvs k b,H a=some (.dT kvs)/\y=.ref b/\H b=some (.tup (k.map kV))/\kvs.length<aa/\H'=upd H a (.dT (putK kvs k v))
variable{Q:Value->ak->Prop}
variable{h':Heap}
section
variable{X:Cx}{pins:List (Addr×Obj)}{O:St}{H:Hp}{s:ak}{a:Addr}{y v:V}{u r:Value}{o:Option V}{A:cV}{E:Value->ak->Prop}
theorem Inv.big(I:Inv X pins O H s):gX<s.heap.objs.size:=by
 have h:dX<s.heap.objs.size:=(I.mod.glob.keeps I.bk).lt;exact jW (by decide) h
theorem C6(hu:A.units+1<dc)(I:Inv X pins O H s)(g:wV H a y (some v))(ry:RelV y u)(h:∀w' s',Inv X pins O H s'->RelV v w'->Q w' s') :
  aH (aF X.prog X.w) A (yM (.ref a) u) Q E s:=by
 rcases g with⟨kvs,k,e,ey,l⟩|⟨kvs,k,b,e,ey,eb,l⟩
 ·subst ey;obtain⟨z,hd,vs,rel,dd⟩:=sV I.hok e;obtain⟨w',hw,rw'⟩:=nY.some_of (v:=v) (o:=qX vs k) (by rw[l];exact rel.val k);exact wpAny_getItem_of (sU ry) dd.mapOf hw (h w' _ (I.tok _) rw')
 ·subst ey;cases(show u=bV b from ry);obtain⟨z,hd,xs,rel,dd⟩:=vh I.hok e;obtain⟨w',hw,rw'⟩:=nY.some_of (v:=v) (o:=(tW xs k).map (·.2)) (by rw[l];exact rel.val k);obtain⟨p,hp,hp2⟩:=Option.map_eq_some_iff.mp hw;refine wpAny_getItem_heap (g8 hu) (rA I.hok eb) dd hp ?_;rw[hp2];exact h w' _ (I.tok _) rw'
theorem Zm(hu:A.units+1<dc)(I:Inv X pins O H s)(g:wV H a y o)(ry:RelV y u)(h:∀s',Inv X pins O H s'->Q (.bool o.isSome) s') :
  aH (aF X.prog X.w) A (f6 .In u (.ref a)) Q E s:=by
 rcases g with⟨kvs,k,e,ey,l⟩|⟨kvs,k,b,e,ey,eb,l⟩
 ·subst ey;obtain⟨z,hd,vs,rel,dd⟩:=sV I.hok e;refine wpAny_in_of (sU ry) hd dd.mapOf ?_;rw[<-(rel.val k).oU,<-l];exact h _ (I.tok _)
 ·subst ey;cases(show u=bV b from ry);obtain⟨z,hd,xs,rel,dd⟩:=vh I.hok e;refine wpAny_in_heap (g8 hu) (rA I.hok eb) hd dd ?_;have q:=(rel.val k).oU;rw[qo]at q;rw[<-q,<-l];exact h _ (I.tok _)
theorem Tu(hu:A.units+1<dc)(I:Inv X pins O H s)(g:wV H a y o)(ry:RelV y u)(h:∀s',Inv X pins O H s'->Q (.bool (!o.isSome)) s') :
  aH (aF X.prog X.w) A (f6 .NotIn u (.ref a)) Q E s:=by
 rcases g with⟨kvs,k,e,ey,l⟩|⟨kvs,k,b,e,ey,eb,l⟩
 ·subst ey;obtain⟨z,hd,vs,rel,dd⟩:=sV I.hok e;refine wpAny_notIn_of (sU ry) hd dd.mapOf ?_;rw[<-(rel.val k).oU,<-l];exact h _ (I.tok _)
 ·subst ey;cases(show u=bV b from ry);obtain⟨z,hd,xs,rel,dd⟩:=vh I.hok e;refine wpAny_notIn_heap (g8 hu) (rA I.hok eb) hd dd ?_;have q:=(rel.val k).oU;rw[qo]at q;rw[<-q,<-l];exact h _ (I.tok _)
theorem HS{t':Nat}{ob:HO}(I:Inv X pins O H s)(mu:K5 (H a))(hs:sj a s.heap h')(he:∃q,h'.get? a=some q)(new:cY X.prog X.w (upd H a ob) h' a ob) :
  Inv X pins O (upd H a ob) { s with heap:=h',toks:=t' }:=
 I.write (x:=a) (e:=a) mu (.inl rfl) (fun b q hb z=>(hs.2 b hb).trans z) he new
theorem VI{kvs:List (Key×V)}{vs:List (Key×Value)}(z:kvs.length<=aa)(hd:(a==gX)=false)(rel:KV kvs vs)(dd:h'.DictOf (dg P w) a vs) :
  cY P w H' h' a (.dK kvs):=⟨z,hd,vs,rel,dd⟩
theorem C7{Q:Unit->ak->Prop}(hu:A.units+1<dc)(I:Inv X pins O H s)(g:Zl H a y v H')(ry:RelV y u)(rv:RelV v r)(h:∀s',Inv X pins O H' s'->Q () s') :
  aH (aF X.prog X.w) A (I_ (.ref a) u r) Q E s:=by
 rcases g with⟨kvs,k,e,ey,l,eH⟩|⟨kvs,k,b,e,ey,eb,l,eH⟩
 ·subst ey eH;obtain⟨z,hd,vs,rel,dd⟩:=XF I.hok e;have hz:vs.length<=aa:=by rw[<-rel.length];exact z
  have hl:(putK kvs k v).length<=aa:=by have:=za kvs k v;omega
  refine wpAny_setItem_pairs (hsz:=hz) (sU ry) dd fun h' dd' hs=>h _ ?_;have he:∃q,h'.get? a=some q:=let⟨q,_,_,hq,_⟩:=dd';⟨q,hq⟩
  exact HS I (by rw[e];exact eu) hs he (VI hl hd (rel.put k rv) dd')
 ·subst ey eH;cases(show u=bV b from ry);obtain⟨z,hd,xs,rel,dd⟩:=XG I.hok e;have hz:xs.length<=aa:=by rw[<-Paired.length rel];exact z
  have hl:(putK kvs k v).length<=aa:=by have:=za kvs k v;omega
  refine wpAny_setItem_heap (hsz:=hz) (g8 hu) (rA I.hok eb) dd fun h' dd' hs=>h _ ?_;obtain⟨q,es,ep,hq,h2,h3,h4,_,h5⟩:=dd';refine HS I (by rw[e];exact eu) hs ⟨q,hq⟩ ⟨hl,hd,_,(rel.put k eb rv).keeps fun c ys ec=>?_,q,es,ep,hq,h2,h3,h4,h5⟩;rw[bw (Xl ec e (fun z=>nomatch z))];exact ec
end
section
variable{X:Cx}{pins:List (Addr×Obj)}{O:St}{H:Hp}{s:ak}{a:Addr}{kvs:List (Key×V)}{k:Key}{u:Value}{A:cV}{E:Value->ak->Prop}
theorem XH(I:Inv X pins O H s)(e:Rd H a (.dK kvs))(h:∀t s',Inv X pins O H s'->Q (.int kvs.length t) s'):aH (aF X.prog X.w) A (call (.builtin "len") [.ref a]) Q E s:=by
 obtain⟨z,hd,vs,rel,dd⟩:=sV I.hok e;refine call_len_dict hd dd (by rw[<-rel.length];rw[dM]at z;omega) ?_;rw[<-rel.length];exact h _ _ (I.tok _)
end
theorem zb{X:Cx}{pins:List (Addr×Obj)}{O:St}{s:ak}{a:Addr}(I:Inv X pins O H s)(g:wV H a y o):s.TypeIs (.ref a) "dict":=by
 rcases g with⟨kvs,k,e,_,_⟩|⟨kvs,k,b,e,_,_,_⟩
 ·obtain⟨_,_,vs,_,dd⟩:=sV I.hok e;exact dd.typeIs
 ·obtain⟨_,_,xs,_,dd⟩:=vh I.hok e;exact dd.typeIs
theorem OI(h:Heap)(hb:gX<h.objs.size):cY P w H (h.push { cls:=.type "dict",data:=.dict #[] }) h.objs.size (.dK []):=
 ⟨cX _,beq_eq_false_iff_ne.mpr (dm (bT hb)),[],.nil,SY h⟩
def VJ:TE:=fun _ H Q=>∀p,H p=none->Q (.ref p) (upd H p (.dK []))
section
variable{X:Cx}{pos:Pos}
theorem OJ:PE X (.Dict [] [] pos) VJ:=fun pins s O H Q I h=>
 wpAny_Dict_empty ⟨.ref s.heap.objs.size,_,I.laid (a:=s.heap.objs.size) (o:=.dK []) (t':=s.toks) (fun _ _ q=>aP _ q) (aB _) (OI s.heap I.big),rfl,h _ (I.hok.fresh (aB _))⟩
end
structure M2 (X:Cx) (o:Expr) (m:Str) (apos:Pos) (e f:Expr) (cpos:Pos):Prop where
 base:wA o m X.env (eval o X.env)=eval o X.env
 few:((lD cpos (dJ [e,f] X.env)).all (fun x=>!x.1)&&(GU cpos (zB [] X.env)).all (fun x=>x.1.isSome)
  && decide (([e,f]:List Expr).length+([]:List u6).length+(if([]:List u6).isEmpty then 0 else 1)<30))=true
 line:(apos.endLine==cpos.line)=true
 trees:lD cpos (dJ [e,f] X.env)=[(false,eval e X.env),(false,eval f X.env)]
section
variable{X:Cx}{pins:List (Addr×Obj)}{O:St}{H:Hp}{s:ak}{a:Addr}{y d:V}{u r:Value}{o:Option V}{A:cV}{E:Value->ak->Prop}
theorem VL(hu:A.units+1<dc)(I:Inv X pins O H s)(g:wV H a y o)(ry:RelV y u)(h:∀w' s',Inv X pins O H s'->RelV (o.getD .non) w'->Q w' s') :
  aH (aF X.prog X.w) A (call (.builtin "dict.get") [.ref a,u]) Q E s:=by
 rcases g with⟨kvs,k,e,ey,l⟩|⟨kvs,k,b,e,ey,eb,l⟩
 ·subst ey;obtain⟨z,hd,vs,rel,dd⟩:=sV I.hok e;refine sC PySem.F.slot_dict_get dd.typeIs PySem.F.entry_dict_get (PySem.F.args_dict_get_2 _ _) (meets_dict_get (dg X.prog X.w) a (sU ry) hd) ⟨_,dd.mapOf,h _ _ (I.tok _) ?_⟩;rw[l];exact(rel.val k).getD rfl
 ·subst ey;cases(show u=bV b from ry);obtain⟨z,hd,xs,rel,dd⟩:=vh I.hok e;refine sC PySem.F.slot_dict_get dd.typeIs PySem.F.entry_dict_get (PySem.F.args_dict_get_2 _ _) (meetsH_dict_get (mZ (dg X.prog X.w)) a b hd) ⟨g8 hu,k,xs,rA I.hok eb,dd,h _ _ (I.tok _) ?_⟩;rw[l];exact(rel.val k).getD rfl
theorem Ll(hu:A.units+1<dc)(I:Inv X pins O H s)(g:wV H a y o)(ry:RelV y u)(rd:RelV d r)(h:∀w' s',Inv X pins O H s'->RelV (o.getD d) w'->Q w' s') :
  aH (aF X.prog X.w) A (call (.builtin "dict.get") [.ref a,u,r]) Q E s:=by
 rcases g with⟨kvs,k,e,ey,l⟩|⟨kvs,k,b,e,ey,eb,l⟩
 ·subst ey;obtain⟨z,hd,vs,rel,dd⟩:=sV I.hok e;refine sC PySem.F.slot_dict_get dd.typeIs PySem.F.entry_dict_get (PySem.F.args_dict_get_3 _ _ _) (meets_dict_get_default (dg X.prog X.w) a (sU ry) hd r) ⟨_,dd.mapOf,h _ _ (I.tok _) ?_⟩;rw[l];exact(rel.val k).getD rd
 ·subst ey;cases(show u=bV b from ry);obtain⟨z,hd,xs,rel,dd⟩:=vh I.hok e;refine sC PySem.F.slot_dict_get dd.typeIs PySem.F.entry_dict_get (PySem.F.args_dict_get_3 _ _ _) (meetsH_dict_get_default (mZ (dg X.prog X.w)) a b hd r) ⟨g8 hu,k,xs,rA I.hok eb,dd,h _ _ (I.tok _) ?_⟩;rw[l];exact(rel.val k).getD rd
end
end L2
end
section
namespace Att
open PySem PySem.W PySem.Calls PyProof.Rows
variable{P:GV}{h:Heap}
theorem AM:∀(ns:List Int) (vs:List Value),WellAll P h vs (ns.map Ob)->yN vs ns:=by
 intro ns;induction ns with
 |nil=>
  intro vs w;rw[yi]at w;cases w;exact .nil
 |cons n ns ih=>
  intro vs w;rw[bD]at w;cases w with
  |cons a b=>
   cases a;exact .cons _ _ (ih _ b)
variable{l:OpenLaw}{n:Nat}
theorem Lm(hn:l.most=some n){args:List WData}{vals:List Value}
  (hpre:l.row.toRowW.claim.pre args=true) (hwl:WellAll P h vals args) :
  ∃a vs ns,vals=[bV a]/\args=[WData.list (ns.map Ob)]/\h.get? a=some { cls:=.type "list",data:=.seq vs.toArray }/\yN vs ns/\ns.length<=n:=by
 have hsh:WShape.hasAll [] args [.list .int]=true:=(KO hpre).1;have hc:l.pre.holds [] { args:=args }=true:=(KO hpre).2;obtain⟨d,r,rfl,h1,h2⟩:=hasAllW_cons hsh;obtain rfl:=hasAllW_nil h2;obtain⟨xs,rfl,h3⟩:=hasW_list h1;obtain⟨ns,rfl⟩:=items_int h3;have hlen:ns.length<=n:=by
  unfold Xj at hc;have h4:(WTm.not (.lt (.lit (.int (n:Int))) (.len (.arg 0)))).holds [] { args:=[.list (ns.map .int)] }=true:=by
   have h4:=(holds_andW hc).1;rw[hn]at h4;exact h4
  have h5:=condW_of h4 (w_not (w_lt w_lit (w_len_list (w_arg rfl))));rw[ah]at h5;refine Nat.le_of_not_lt fun q=>?_;have q':(n:Int)<((ns.length:Nat):Int):=by omega
  first
   |(rw[decide_eq_true q']at h5;exact absurd h5 (by decide))
   |(simp at h5;omega)
 cases hwl with
 |cons w1 w2=>
  cases w2;cases w1 with
  |list ho hall=>exact⟨_,_,ns,rfl,rfl,ho,AM ns _ hall,hlen⟩
theorem Ln(l:OpenLaw)(args:List WData):l.row.toRowW.claim.post args (.bool true) args=true:=
 postW_of (r:=l.row.toRowW) (X:=(true==true))
  (show KP [] (.bool true) .bool=true by first|rfl|decide|simp[KP,WShape.arms,WShape.armsAll])
  (show(WTm.eq .res (.lit (.bool true))).value [] { args:=args,res:=some (.bool true),after:=args }=some (.bool (true==true))from w_eq_bool (w_res rfl) w_lit) rfl
theorem G9{q:bx}{loose:List Str}{XP:(Str->Option Value)->Heap->Prop}{YP:bL->Heap->Prop}{d:Oc}
  (hn:l.most=some n) (hdf:d.params.defaults=[])
  (call:∀(w:bL) (ZX Z0:ak) (mg mb:Str->Option Value) (fa:Addr) (o:Obj) (pm cd doc:Value) (a:Addr) (vs:List Value) (ns:List Int),
   Ground q loose [] XP w ZX mg mb Z0.heap->YP w Z0.heap->
   Z0.heap.get? fa=some o->o.data=.func (docDef d.name d.params d.body d.scope pm cd doc)->Z0.heap.CodeRec cd d.name->mg d.name=some (.ref fa)->
   Z0.heap.get? a=some { cls:=.type "list",data:=.seq vs.toArray }->yN vs ns->ns.length<=n->Z0.gens=#[]->
   kL (aF l.prog w) qY (.call (.ref fa) ⟨[.ref a],[]⟩) (fun r s'=>r=.ok (.ret (.bool true))/\OldK Z0.heap s'.heap/\s'.os=Z0.os/\kK s'.gens) Z0) :
  WalkO q loose XP YP l.row.toRowW d [] (fun f vs=>PySem.call f vs):=by
 intro w ZX Z0 mg mb G ZS fa o pm cd doc dV kV ho hd hcd hD hmg hg args vals as hpre hlay hrd hwl hlo;obtain rfl:dV=.none:=Dflts.none hD hdf;obtain rfl:kV=.none:=Dflts.noKw hD;obtain⟨a,vs,ns,rfl,rfl,hobj,hints,hlen⟩:=Lm hn hpre hwl;refine enter_call (sA (call w ZX Z0 mg mb fa o pm cd doc a vs ns G ZS ho (fd_plain hd) hcd hmg hobj hints hlen hg) fun r s' hq=>?_);obtain⟨rfl,h2,h3,h4⟩:=hq;exact⟨.inl ⟨.bool true,.bool true,[],rfl,fun _=>rfl,.bool true,Ln l _,fun _=>⟨Om,fun _ hm=>(nomatch hm)⟩⟩,h2,h3,h4⟩
end Att
namespace L2
open PySem PySem.Spec PyProof.Rows
theorem C8:∀{vs:List Value}{ns:List Int},yN vs ns->bB (ns.map V.int) vs
|_,_,.nil=>.nil
|_,_,.cons n t h=>.cons ⟨t,rfl⟩ (C8 h)
def OL(H:Hp):Prop:=∀b,H b=none\/∃o xs,H b=some (.br o (.lst xs))
theorem OM{P:bx}{w:bL}{K:PySem.W.Frag}{mg mb:Str->Option Value}{CX:y_}{k:Nat}{fa a:Addr}{fd:gq}{x:Str}{sp:Sp}{Z0:ak}{vs:List Value}{ns:List Int}
  (KX:K.In Z0.heap) (hns:Z0.heap.Ns dX mg) (hb:Z0.heap.Ns BG mb) (hbb:∀x:Str,x≠"__name__"->mb x=nL x) (hlim:Z0.heap.NoLimit) (hg:Z0.gens=#[])
  (ha:Z0.heap.get? a=some { cls:=.type "list",data:=.seq vs.toArray }) (hi:yN vs ns) (hl:ns.length<=aa) (hr:kW k qY)
  (F:∀base:Heap,K.In base->base.Ns dX mg->gZ P w K mg base CX k fa fd [x] sp) (hbind:∀(s:ak) (u:Value),CL s fd ⟨[u],[]⟩ [(x,u)])
  (hsp:∀H:Hp,OL H->gx K H a (ns.map V.int)->sp [.ref a] H (fun v _=>v=.bl true) fun _ _ _=>False)
  (hCX:∀H e s',CX [] H Z0 (fun _ _ _=>False) e s'->False) :
  kL (aF P w) qY (.call (.ref fa) ⟨[.ref a],[]⟩) (fun r s'=>r=.ok (.ret (.bool true))/\OldK Z0.heap s'.heap/\s'.os=Z0.os/\kK s'.gens) Z0:=by
 have rv:=C8 hi;have t9:=hi.length;have core:∀H:Hp,OL H->gx K H a (ns.map V.int)->fH P w H Z0.heap->(∀b,H b≠none->b=a)->(H a≠none->K.lookup a=none)->
   kL (aF P w) qY (.call (.ref fa) ⟨[.ref a],[]⟩) (fun r s'=>r=.ok (.ret (.bool true))/\OldK Z0.heap s'.heap/\s'.os=Z0.os/\kK s'.gens) Z0:=by
  intro H hO hS hok hA hK;have base_of:∀{b:Addr}{o:Obj},Z0.heap.get? b=some o->H b=none->(ve Z0.heap H).get? b=some o:=fun e n=>Oq e n;have noA:∀{b:Addr}{o:Obj}{es:Array DictEntry}{ep:Nat},Z0.heap.get? b=some o->o.data=.dict es ep->H b=none:=fun{b o es ep} e d=>by
   cases q:H b with
   |none=>rfl
   |some u=>
    have e':b=a:=hA b (by rw[q];simp);subst e';rw[ha]at e;cases e;have d':Data.seq vs.toArray _=Data.dict es ep:=d;cases d'
  have nsK:∀{b:Addr}{m:Str->Option Value},Z0.heap.Ns b m->(ve Z0.heap H).Ns b m:=fun{b m} ⟨o,es,ep,e,d,r⟩=>⟨o,es,ep,base_of e (noA e d),d,r⟩;have hKb:K.In (ve Z0.heap H):=fun b o e=>base_of (KX b o e) (by
   cases q:H b with
   |none=>rfl
   |some u=>
    have e':b=a:=hA b (by rw[q];simp);subst e';rw[hK (by rw[q];simp)]at e;cases e)
  have hM:Mod K mg (ve Z0.heap H):=⟨hKb,nsK hns,⟨mb,nsK hb,hbb⟩,let⟨mc,h1,h2⟩:=hlim;⟨mc,nsK h1,h2⟩⟩;have e0:Jj P w K mg (ve Z0.heap H) qY [] Z0 H:=⟨rfl,hM,fun b o e=>S6 e,GW (K6 _ _),trivial,fun b hb=>absurd (show b∈([]:List Addr)from hb) (by simp),hok,.of_eq hg⟩;refine sA ((F _ hKb (nsK hns)).run qY [] Z0 H ⟨[.ref a],[]⟩ [.ref a] [.ref a] _ _ hr e0 (hbind Z0 (.ref a)) (.cons rfl .nil) (hsp H hO hS)) fun r s' h=>?_;cases r with
  |error e=>exact(hCX H e s' h).elim
  |ok fl=>
   cases fl with
   |next=>exact ay h
   |brk=>exact ay h
   |cont=>exact ay h
   |ret u=>
    obtain⟨v,H',os,bare,un,hok',r',q⟩:=h;have q':v=.bl true:=q;subst q';obtain rfl:u=iC true:=r';refine⟨rfl,OldK.of_keep fun b o e=>?_,os,bare⟩;cases q:H b with
    |none=>exact un.keep b o e q (by intro z;exact absurd (show b∈([]:List Addr)from z) (by simp)) (by simp)
    |some u=>
     rcases hO b with z|⟨ob,xs,z⟩
     ·rw[q]at z;cases z
     ·have z2:=un.aA b ob _ z;obtain⟨e1,_⟩:=hok b _ z;obtain⟨e2,_⟩:=hok' b _ z2;rw[e]at e1;cases e1;exact e2
 cases hk:K.lookup a with
 |some o=>
  have e:=KX a o hk;rw[ha]at e;cases e;refine core (fun _=>none) (fun _=>.inl rfl) (.inr ⟨_,vs.toArray,_,hk,rfl,rfl,rfl,by rw[aG,t9];exact hl,by simpa using rv⟩) (fun b u z=>by have z':(none:Option HO)=some u:=z;cases z') (fun b z=>absurd rfl z) fun z=>absurd rfl z
 |none=>
  refine core (fun b=>if b=a then some (.br { cls:=.type "list",data:=.seq vs.toArray } (.lst (ns.map V.int)))else none) (fun b=>?_) (.inl (.inr ⟨{ cls:=.type "list",data:=.seq vs.toArray },if_pos rfl⟩)) (fun b u z=>?_) (fun b z=>?_) fun _=>hk
  ·by_cases hb:b=a
   ·exact .inr ⟨_,_,if_pos hb⟩
   ·exact .inl (if_neg hb)
  ·by_cases hb:b=a
   ·have z':=(if_pos hb).symm.trans z;cases z';subst hb;exact⟨ha,by rw[ah];exact hl,vs,_,rv,ha⟩
   ·have z':=(if_neg hb).symm.trans z;cases z'
  ·by_cases hb:b=a
   ·exact hb
   ·exact absurd (if_neg hb) z
end L2
namespace L2
open PySem PySem.Spec PyProof.Rows
theorem Tv{l:PySem.W.OpenLaw}{n k:Nat}{q:bx}{loose:List Str}{XP:(Str->Option Value)->Heap->Prop}{YP:bL->Heap->Prop}{d:Oc}{K:GV->PySem.W.Frag}{CX:bL->y_}{sp:bL->Sp}{x:Str}
  (hn:l.most=some n) (hn2:n<=aa) (hdf:d.params.defaults=[]) (hr:kW k qY)
  (hY:∀(w:bL) (h:Heap),YP w h->(K w.params).In h)
  (F:∀(w:bL) (mg:Str->Option Value) (fa:Addr) (h:Heap),(K w.params).In h->h.Ns dX mg->mg d.name=some (.ref fa)->
   ∃fd:gq,(∀(s:ak) (u:Value),CL s fd ⟨[u],[]⟩ [(x,u)]) /\
    ∀base:Heap,(K w.params).In base->base.Ns dX mg->gZ l.prog w (K w.params) mg base (CX w) k fa fd [x] (sp w))
  (hsp:∀(w:bL) (H:Hp) (a:Addr) (ns:List Int),ns.length<=n->OL H->gx (K w.params) H a (ns.map V.int)->sp w [.ref a] H (fun v _=>v=.bl true) fun _ _ _=>False)
  (hCX:∀(w:bL) (H:Hp) (s:ak) (e:Value) (s':ak),CX w [] H s (fun _ _ _=>False) e s'->False) :
  PySem.W.WalkO q loose XP YP l.row.toRowW d [] (fun f vs=>PySem.call f vs):=by
 refine Att.G9 hn hdf fun w ZX Z0 mg mb fa o pm cd doc a vs ns G ZS ho hd hcd hmg hobj hints hlen hg=>?_;have KX:=hY w _ ZS;obtain⟨fd,hb,hF⟩:=F w mg fa _ KX G.T.g hmg;exact OM KX G.T.g G.T.b G.T.builtins G.T.nolimit hg hobj hints (dB hlen hn2) hr hF hb (fun H hO hS=>hsp w H a ns hlen hO hS) fun H e s'=>hCX w H Z0 e s'
end L2
namespace L2
open PySem PySem.Spec PyProof.Rows
def n9(s:Stmt):Arguments:=match s with
|.FunctionDef _ a _ _ _ _ _ _ _ _=>a
|_=>{ posonlyargs:=[],args:=[],vararg:=none,kwonlyargs:=[],kw_defaults:=[],kwarg:=none,defaults:=[] }
def jH(s:Stmt):List Stmt:=match s with
|.FunctionDef _ _ b _ _ _ _ _ _ _=>b
|_=>[]
def di(s:Stmt):eL:=match s with
|.FunctionDef _ _ _ _ _ _ sc _ _ _=>sc
|_=>{ kind:=.function,names:=[],isGenerator:=false,isCoroutine:=false }
noncomputable abbrev VM:y_:=fun _ _ _ _ _ _=>False
noncomputable abbrev E0:XK:=fun _ _ _=>False
structure v5 (K:PySem.W.Frag) (x qual:Str) (st:Stmt) (f:Addr) (fd:gq):Prop where
 ex:∃(oc:Value) (od:Option Addr) (kV doc pm:Value) (an:Option Addr) (cdv ct:Value) (osl:Array (Option Value)),
  fd=PySem.W.fnOf x qual (n9 st) (jH st) (di st) .none kV doc pm an cdv ct/\K.lookup f=some ⟨oc,od,.func fd,osl⟩/\PySem.W.codeIn K cdv qual=true
 kp:PySem.W.keepIn K (.ref f)=true
variable{x qual:Str}{st:Stmt}{f:Addr}
section
variable{P:bx}{w:bL}{K:PySem.W.Frag}{mg:Str->Option Value}{base:Heap}
theorem v5.binds{fd:gq}{ps:List Str}(F:v5 K x qual st f fd)
  (h:∀(kV doc pm:Value) (an:Option Addr) (cdv ct:Value) (us:List Value),us.length=ps.length->Au (PySem.W.fnOf x qual (n9 st) (jH st) (di st) .none kV doc pm an cdv ct) ⟨us,[]⟩=pure (ps.zip us)):Binds K fd ps []:=by
 obtain⟨oc,od,kV,doc,pm,an,cdv,ct,osl,rfl,lk,hcd⟩:=F.ex;exact .all (h kV doc pm an cdv ct)
theorem fun_mk{oc:Value}{od an:Option Addr}{osl:Array (Option Value)}{kV doc pm cdv ct:Value}(l:K.lookup f=some ⟨oc,od,.func (PySem.W.fnOf x qual (n9 st) (jH st) (di st) .none kV doc pm an cdv ct),osl⟩)
  (c:PySem.W.codeIn K cdv qual=true) (k:PySem.W.keepIn K (.ref f)=true):v5 K x qual st f (PySem.W.fnOf x qual (n9 st) (jH st) (di st) .none kV doc pm an cdv ct):=⟨⟨oc,od,kV,doc,pm,an,cdv,ct,osl,rfl,l,c⟩,k⟩
end
def aW(H H':Hp):Prop:=∀b o,H b=some o->H' b=some o
theorem aW.refl(H:Hp):aW H H:=fun _ _ h=>h
theorem aW.trans{H H1 H2:Hp}(a:aW H H1)(b:aW H1 H2):aW H H2:=fun c o h=>b c o (a c o h)
end L2
end
section
namespace L2
open PySem PySem.W PySem.Calls PyProof.Rows
noncomputable def dO{α:Type}(lt:Nat->Nat->Bool):KasT α->α
|.ret a=>a
|.ask i j k=>dO lt (k (lt i j))
def KBd(n:Nat){α:Type}(B:α->Prop):KasT α->Prop
|.ret a=>B a
|.ask i j k=>i<n/\j<n/\∀b,KBd n B (k b)
variable{α:Type}{lt:Nat->Nat->Bool}{n:Nat}
theorem Lo{cmp:Nat->Nat->(Bool->ak->Prop)->ak->Prop}{s:ak}{B:α->Prop}
 (hc:∀i j (C:Bool->ak->Prop),i<n->j<n->C (lt i j) s->cmp i j C s):∀(t:KasT α) (Q:α->ak->Prop),KBd n B t->(B (dO lt t)->Q (dO lt t) s)->t.kasWp cmp Q s
|.ret _,_,hb,h=>h hb
|.ask i j k,Q,hb,h=>hc i j _ hb.1 hb.2.1 (Lo hc (k (lt i j)) Q (hb.2.2 _) h)
theorem AN{B:α->Prop}(lt:Nat->Nat->Bool):∀(t:KasT α),KBd n B t->B (dO lt t)
|.ret _,h=>h
|.ask i j k,h=>AN lt (k (lt i j)) (h.2.2 (lt i j))
variable{β:Type}
theorem KBd.bind{B:α->Prop}{C:β->Prop}{f:α->KasT β}(hf:∀a,B a->KBd n C (f a)):∀(t:KasT α),KBd n B t->KBd n C (t.bind f)
|.ret a,h=>hf a h
|.ask i j k,h=>⟨h.1,h.2.1,fun b=>KBd.bind hf (k b) (h.2.2 b)⟩
def eU(n:Nat)(p:Array Nat):Prop:=0<n/\p.Perm (bA n).toArray
variable{p:Array Nat}
theorem eU.d7(h:eU n p)(k:Nat):p.getD k 0<n:=by
 by_cases hk:k<p.size
 ·have e:p.getD k 0=p[k]:=by simp[BL,hk]
  rw[e];have hm:p[k]∈(bA n).toArray:=h.2.mem_iff.mp (Array.getElem_mem hk);simpa using hm
 ·have e:p.getD k 0=0:=by simp[BL,hk]
  rw[e];exact h.1
theorem eU.rev(h:eU n p)(i j:Nat):eU n (iN p i j):=⟨h.1,(mirror_perm p i j _).trans h.2⟩
theorem eU.YG(h:eU n p)(k d:Nat):eU n (yj p k d):=⟨h.1,(bubble_perm p k d).trans h.2⟩
theorem Fc(h:eU n p):∀(f m:Nat),KBd n (fun _=>True) (ja p f m)
|0,_=>trivial
|f+1,m=>⟨h.d7 _,h.d7 _,fun b=>by
 cases b with
 |true=>exact trivial
 |false=>exact Fc h f (m+1)⟩
theorem yx:∀(f:Nat) (p:Array Nat) (m q:Nat),eU n p->KBd n (fun r=>eU n r.1) (iY f p m q)
|0,p,_,_,h=>h
|f+1,p,m,q,h=>⟨h.d7 _,h.d7 _,fun b=>by
 cases b with
 |true=>
  show KBd n _ (if q>0 then iY f (iN p (m-(q+1)) m) (m+1) 0 else iY f p (m+1) 0);split
  ·exact yx f _ _ _ (h.rev _ _)
  ·exact yx f _ _ _ h
 |false=>
  refine⟨h.d7 _,h.d7 _,fun d=>?_⟩;cases d with
  |true=>exact h
  |false=>exact yx f _ _ _ h⟩
theorem Fd(h:eU n p)(m nrem:Nat):KBd n (fun r=>eU n r.2) (pL m nrem p):=
 KBd.bind (n:=n) (B:=fun _=>True) (C:=fun(r:Nat×Array Nat)=>eU n r.2) (f:=fun a=>.ret (a,iN p 0 m)) (fun a _=>h.rev 0 m) _ (Fc (h.rev 0 m) _ _)
theorem zc(h:eU n p)(m nrem:Nat):KBd n (fun r=>eU n r.2) (nR m nrem p):=
 KBd.bind (fun r hr=>by
  show KBd n _ (if r.2.2>0 then _ else _);split
  ·exact Fd (eU.rev hr _ _) _ _
  ·exact Fd hr _ _) _ (yx _ _ _ _ h)
theorem ON(h:eU n p)(nrem:Nat):KBd n (fun r=>eU n r.2) (tX nrem p):=
 KBd.bind (fun m _=>by
  show KBd n _ (if(m==nrem)=true then _ else if m>1 then _ else _);split
  ·exact h
  ·split
   ·refine⟨h.d7 _,h.d7 _,fun c=>?_⟩;cases c with
    |true=>exact h
    |false=>exact zc (h.rev _ _) _ _
   ·exact zc h _ _) _ (Fc h _ _)
theorem zK(h:eU n p)(k:Nat):∀(f l r:Nat),KBd n (fun _=>True) (pN p k f l r)
|0,_,_=>trivial
|f+1,l,r=>by
 show KBd n _ (if l≥r then _ else _);split
 ·exact trivial
 ·refine⟨h.d7 _,h.d7 _,fun c=>?_⟩;cases c with
  |true=>exact zK h k f _ _
  |false=>exact zK h k f _ _
theorem Lp:∀(f:Nat) (p:Array Nat) (k:Nat),eU n p->KBd n (eU n) (qZ f p k)
|0,_,_,h=>h
|f+1,p,k,h=>KBd.bind (fun l _=>Lp f _ _ (h.YG _ _)) _ (zK h k _ _ _)
theorem qR(h:0<n):KBd n (eU n) (jx n):=
 KBd.bind (fun r hr=>by
  show KBd n _ (if r.1<n then _ else _);split
  ·exact Lp _ _ _ hr
  ·exact hr) _ (ON ⟨h,BO _⟩ _)
noncomputable def iZ(n:Nat)(lt:Nat->Nat->Bool):List Nat:=if n<2 then bA n else(dO lt (jx n)).toList
noncomputable def sW:Key->Key->Bool
|.inl i,.inl j=>decide (i<j)
|.inr x,.inr y=>decide (x.cps.toList<y.cps.toList)
|_,_=>false
noncomputable def ia:List Key->List Key->Bool
|p::ps,q::qs=>if p=q then ia ps qs else sW p q
|_,_=>false
noncomputable def d9:List Key->List Key->Bool
|[],[]=>true
|.inl _::ps,.inl _::qs=>d9 ps qs
|.inr _::ps,.inr _::qs=>d9 ps qs
|_,_=>false
section
variable{prog:bx}{w:bL}{A:cV}{E:Value->ak->Prop}{s:ak}{b:Bool}{Q:Bool->ak->Prop}
theorem Fe:∀{ks qs:List Key}{us ws:List Value} (i:Nat),bB (ks.map kV) us->bB (qs.map kV) ws->d9 ks qs=true->Q (ia ks qs) s->KatLex prog w A b false Q (us.zip ws) i s
|[],[],_,_,i,.nil,.nil,_,h=>h
|.inl x::ks,.inl y::qs,_,_,i,.cons hu ru,.cons hv rv,hs,h=>by
 obtain⟨t,rfl⟩:=hu;obtain⟨t',rfl⟩:=hv;refine kat_cons (Ar (kat_go (fun e=>?_) fun e=>?_))
 ·have e:=beq_iff_eq.mp e;subst e;refine kat_yes (Fe (i+1) ru rv hs ?_);have:ia (.inl x::ks) (.inl x::qs)=ia ks qs:=if_pos rfl;rw[this]at h;exact h
 ·have hn:x≠y:=by intro z;rw[z]at e;simp at e
  have:ia (.inl x::ks) (.inl y::qs)=decide (x<y):=if_neg (fun z=>hn (Hw z));rw[this]at h;refine kat_no ?_;cases hb:(b&&i==0)with
  |true=>exact oneLt_int h
  |false=>exact kat_one _ _ (N9 h)
|.inr x::ks,.inr y::qs,_,_,i,.cons hu ru,.cons hv rv,hs,h=>by
 obtain⟨t,rfl⟩:=hu;obtain⟨t',rfl⟩:=hv;refine kat_cons (eqBool_str (kat_go (fun e=>?_) fun e=>?_))
 ·have e:=beq_iff_eq.mp e;subst e;refine kat_yes (Fe (i+1) ru rv hs ?_);have:ia (.inr x::ks) (.inr x::qs)=ia ks qs:=if_pos rfl;rw[this]at h;exact h
 ·have hn:x≠y:=by intro z;rw[z]at e;simp at e
  have:ia (.inr x::ks) (.inr y::qs)=decide (x.cps.toList<y.cps.toList):=if_neg (fun z=>hn (l8 z));rw[this]at h;refine kat_no ?_;cases hb:(b&&i==0)with
  |true=>exact oneLt_str h
  |false=>exact kat_one _ _ (lt_str h)
end
def t_(h:Heap)(v:Value)(ks:List Key):Prop:=∃(t:Addr) (o:Obj) (us:List Value) (k:Nat),v=.ref t/\h.get? t=some o/\o.cls=.type "tuple"/\o.data=.seq us.toArray k/\bB (ks.map kV) us
theorem lX{R:α->β->Prop}{d:α}{e:β}:∀{xs:List α}{ys:List β},Paired R xs ys->∀i,i<xs.length->R (xs.getD i d) (ys.getD i e)
|_,_,.nil,i,h=>absurd h (BP i)
|_,_,.cons r _,0,_=>r
|_,_,.cons _ t,i+1,h=>lX t i (Nat.lt_of_succ_lt_succ h)
theorem getD_mem{d:α}{xs:List α}{i:Nat}(h:i<xs.length):xs.getD i d∈xs:=by
 rw[aK,aj h];exact gQ h
theorem rB:∀{ks qs:List Key},d9 ks qs=true->ks.length=qs.length
|[],[],_=>rfl
|.inl _::ks,.inl _::qs,h=>congrArg (·+1) (rB (ks:=ks) (qs:=qs) h)
|.inr _::ks,.inr _::qs,h=>congrArg (·+1) (rB (ks:=ks) (qs:=qs) h)
variable{v:Value}{ks qs:List Key}
variable{h:Heap}
variable{vs:List Value}{kss:List (List Key)}
variable{l:Addr}{Q:Value->ak->Prop}
section
variable{prog:bx}{w:bL}{A:cV}{E:Value->ak->Prop}{s:ak}
theorem Tw{b:Bool}{u:Value}{Q:Bool->ak->Prop}(hv:t_ s.heap v ks)(hu:t_ s.heap u qs)(hs:d9 ks qs=true)(h:Q (ia ks qs) s):aH (aF prog w) A (keyLt' (tuples' b) v u) Q E s:=by
 obtain⟨t,o,us,n,rfl,h1,h2,h3,h4⟩:=hv;obtain⟨t',o',us',n',rfl,k1,k2,k3,k4⟩:=hu;refine kat_lt h1 h3 k1 k3 ?_;have e:decide (us.toArray.size<us'.toArray.size)=false:=by
  have e1:=h4.length;have e2:=k4.length;rw[ah]at e1 e2;have:=rB hs;simp;omega
 rw[e];exact Fe 0 h4 k4 hs h
noncomputable def mG:List Key->Value
|.inl _::_=>.type "int"
|_=>.type "str"
theorem Jp(h:d9 ks qs=true)(hn:ks≠[]):mG ks=mG qs:=by
 match ks,qs,h with
 |.inl _::_,.inl _::_,_=>rfl
 |.inr _::_,.inr _::_,_=>rfl
 |[],[],_=>exact absurd rfl hn
theorem AO{M:KJ}{T:Value}:∀{vs:List Value}{kss:List (List Key)},Paired (t_ h) vs kss->(∀ks∈kss,ks≠[]/\mG ks=T)->∃fs:List Value,KatTups h vs fs/\fs.length=vs.length/\∀f∈fs,Looks M h (typeOf f) T
|_,_,.nil,_=>⟨[],trivial,rfl,fun _ z=>by cases z⟩
|_,_,.cons (b:=ks) ⟨t,o,us,n,e,h1,h2,h3,h4⟩ r,hk=>by
 obtain⟨fs,k1,k2,k3⟩:=AO r fun ks hks=>hk ks (ai _ hks);obtain⟨hne,hT⟩:=hk ks ao;subst e;cases ks with
 |nil=>exact absurd rfl hne
 |cons k ks=>
  cases h4 with
  |cons hu ru=>
   cases k with
   |inl i=>
    obtain⟨tk,rfl⟩:=hu;refine⟨.int i tk::fs,⟨⟨t,o,_,n,rfl,h1,h2,h3,by simp⟩,k1⟩,by simp[k2],fun f hf=>?_⟩;rcases aE.mp hf with rfl|hf
    ·rw[<-hT];exact wB rfl
    ·exact k3 f hf
   |inr x=>
    obtain⟨tk,rfl⟩:=hu;refine⟨.str x tk::fs,⟨⟨t,o,_,n,rfl,h1,h2,h3,by simp⟩,k1⟩,by simp[k2],fun f hf=>?_⟩;rcases aE.mp hf with rfl|hf
    ·rw[<-hT];exact wB rfl
    ·exact k3 f hf
noncomputable def lP(vs:List Value)(lt:Nat->Nat->Bool):List Value:=(iZ vs.length lt).map fun i=>vs.getD i dZ
def Lq(prog:bx)(w:bL)(A:cV)(vs:List Value)(lt:Nat->Nat->Bool)(h:Heap):Prop:=
 ∃κ,∀s:ak,s.heap=h->(∀(E:Value->ak->Prop) (Q:SortKind->ak->Prop),Q κ s->aH (aF prog w) A (keyKind' vs.toArray) Q E s)/\∀i j C,i<vs.length->j<vs.length->C (lt i j) s->kas_ask prog w A κ vs i j C s
noncomputable def sX(kss:List (List Key))(i j:Nat):Bool:=ia (kss.getD i []) (kss.getD j [])
theorem OO(ht:Paired (t_ h) vs kss)(h1:∀ks∈kss,ks≠[])(hs:∀ks∈kss,∀qs∈kss,d9 ks qs=true)(h2:2<=vs.length):Lq prog w A vs (sX kss) h:=by
 have hT2:∀ks:List Key,(mG ks==mG ks)=true:=by intro ks;unfold mG;split<;>rfl
 have hlen:kss.length=vs.length:=(Paired.length ht).symm;have hpos:0<kss.length:=by omega
 obtain⟨fs,f1,f2,f3⟩:=AO (M:=aF prog w) (T:=mG (kss.getD 0 [])) ht fun ks hks=>⟨h1 ks hks,Jp (hs ks hks _ (getD_mem hpos)) (h1 ks hks)⟩;refine⟨tuples' (mG (kss.getD 0 []) != Value.type "tuple"),fun s e=>?_⟩;subst e;exact⟨fun E Q q=>kat_kind f1 (by omega) f3 (hT2 _) q,fun i j C hi hj hC=>Tw (lX ht i hi) (lX ht j hj) (hs _ (getD_mem (by omega)) _ (getD_mem (by omega))) hC⟩
theorem Zn(a b:Str):ia [.inr a] [.inr b]=decide (a.cps.toList<b.cps.toList):=by
 by_cases e:a=b
 ·subst e;have:ia [kJ a] [kJ a]=false:=by unfold ia;rw[if_pos rfl];rfl
  rw[this,decide_eq_false (CM _)]
 ·unfold ia;rw[if_neg fun z=>e (by cases z;rfl)];rfl
theorem OP{ss:List Str}(hv:bB (ss.map V.str) vs)(h2:2<=vs.length):Lq prog w A vs (sX (ss.map fun x=>[.inr x])) h:=by
 have hl:vs.length=ss.length:=by rw[<-hv.length,ah]
 have ha:∀i,i<vs.length->∃t,vs.getD i dZ=.str (ss.getD i ⟨#[]⟩) t:=fun i hi=>by
  have:=lX (d:=V.non) (e:=dZ) hv i (by rw[ah,<-hl];exact hi);rw[aK,aX,aj (by omega)]at this;rw[aK (l:=ss),aj (by omega)];exact this
 refine⟨oneType',fun s e=>⟨fun E Q q=>kas_kind h2 (fun v hv'=>?_) (T:=.type "str") (by decide) (by decide) q,fun i j C hi hj hC=>?_⟩⟩
 ·obtain⟨i,hi,rfl⟩:=nV hv';obtain⟨t,e⟩:=ha i hi;rw[aK,aj hi]at e;have e:vs[i]=_:=e;rw[e];exact wB rfl
 ·obtain⟨t,e1⟩:=ha i hi;obtain⟨u,e2⟩:=ha j hj;unfold kas_ask;rw[e1,e2];refine kas_lt_str ?_;have:sX (ss.map fun x=>[.inr x]) i j=ia [.inr (ss.getD i ⟨#[]⟩)] [.inr (ss.getD j ⟨#[]⟩)]:=by
   unfold sX;simp only[aK,aX,aj (show i<ss.length by omega),aj (show j<ss.length by omega)];rfl
  rw[this,Zn]at hC;exact hC
theorem Ff{a:Addr}{P:PySem.Fin->ak->Prop}
  (ho:s.heap.get? a=some (gK "list" vs.toArray n)) (hC:∀h',(∀b o,b≠a->s.heap.get? b=some o->h'.get? b=some o)->2<=vs.length->Lq prog w A vs lt h') (h64:vs.length<64)
  (h:∀h' c,(∀b o,b≠a->s.heap.get? b=some o->h'.get? b=some o)->h'.get? a=some (gK "list" (lP vs lt).toArray c)->P (.done (.ret .none)) { s with heap:=h' }) :
  aH (aF prog w) A (Builtin.«list.sort» ⟨[.ref a],[]⟩) P E s:=by
 have ha:a<s.heap.objs.size:=a8 ho;obtain⟨e1,ho1⟩:∃e1,(s.heap.update a (eY fun _=>(#[]:Array Value))).get? a=some (gK "list" #[] e1):=⟨_,BQ ho fun _=>#[]⟩;have hk1:∀b o,b≠a->s.heap.get? b=some o->(((s.heap.update a (eY fun _=>(#[]:Array Value))).push (gK "tuple" vs.toArray 0)).push (gK "list" #[] 0)).get? b=some o:=fun b o hb e=>
  aP _ (aP _ (by rw[nW _ _ _ _ hb];exact e))
 have ho3:(((s.heap.update a (eY fun _=>(#[]:Array Value))).push (gK "tuple" vs.toArray 0)).push (gK "list" #[] 0)).get? a=some (gK "list" #[] e1):=aP _ (aP _ ho1);rw[list_sort_plain];refine au (listItems_at ho rfl ?_);refine au (EA ho rfl ?_ (by rw[aG,dM];omega) (cX _));refine au (HC ho1 rfl ?_);refine au (wpAny_newTuple ?_ (by show vs.length<=_;rw[dM];omega));refine au (EB ?_ (cX _));refine gA ?_;show aH (aF prog w) A _ P E { s with heap:=((s.heap.update a (eY fun _=>(#[]:Array Value))).push (gK "tuple" vs.toArray 0)).push (gK "list" #[] 0) };dsimp only;generalize hH:((s.heap.update a (eY fun _=>(#[]:Array Value))).push (gK "tuple" vs.toArray 0)).push (gK "list" #[] 0)=H3 at hk1 ho3 ⊢;have fin:∀(st:SortSt),(KQ st).map (·.2)=(lP vs lt).toArray->GX st=none->(lP vs lt).length=vs.length->
   aH (aF prog w) A (do
    let touched:=(<-seqEpoch a) != e1
    G5 (.ref a) fun _=>(KQ st).map (·.2)
    if let some e:=GX st then rule "list.sort.comparison-raised";throw e
    if touched then rule "list.sort.modified";raiseError "ValueError" "list modified during sort"
    ret .none) P E { s with heap:=H3 }:=by
  intro st har hf hol;obtain⟨c2,hc2⟩:∃c2,(H3.update a (eY fun _=>(lP vs lt).toArray)).get? a=some (gK "list" (lP vs lt).toArray c2):=⟨_,BQ ho3 fun _=>(lP vs lt).toArray⟩;refine au (HC (s:={ s with heap:=H3 }) ho3 rfl ?_);refine au (EA (s:={ s with heap:=H3 }) ho3 rfl ?_ (cX _) ?_)
  ·rw[hf,har];simp only[bne_self_eq_false,yk,if_false];refine bh (h _ c2 (fun b o hb e=>?_) hc2);rw[nW _ _ _ _ hb];exact hk1 b o hb e
  ·show((KQ st).map (·.2)).size<=_;rw[har,aG,hol,dM];omega
 by_cases h2:vs.length<2
 ·have hn2:vs.toArray.size<2:=by rw[aG];exact h2
  rw[if_pos hn2,if_pos hn2];have eo:lP vs lt=vs:=by
   unfold lP iZ;rw[if_pos h2];apply sE
   ·simp
   ·intro i a1 a2;simp[aK,aj a2]
  refine au (bh ?_);refine au (bh ?_);refine fin (SortSt.mk' _ _ _ _ _) ?_ rfl (by rw[eo]);rw[eo];show((vs.toArray.zip vs.toArray).map (·.2))=vs.toArray;apply Az.mp;simp[List.map_snd_zip]
 ·have hn2:¬vs.toArray.size<2:=by rw[aG];exact h2
  have h2':2<=vs.length:=by omega
  rw[if_neg hn2,if_neg hn2];have hP:eU vs.length (dO lt (jx vs.length)):=AN _ _ (qR (by omega));have eo:lP vs lt=(dO lt (jx vs.length)).toList.map fun i=>vs.getD i dZ:=by
   unfold lP iZ;rw[if_neg h2]
  have hol:(lP vs lt).length=vs.length:=by
   rw[eo,ah,i0,hP.2.size_eq];simp
  obtain⟨κ,hκ⟩:=hC H3 hk1 h2';obtain⟨q1,q2⟩:=hκ { s with heap:=H3 } rfl;refine au (q1 _ _ ?_);refine au (kh (kat_run (s:={ s with heap:=H3 }) (Q:=fun st' s'=>s'={ s with heap:=H3 }/\(KQ st').map (·.2)=(lP vs lt).toArray/\GX st'=none)
   (G:=fun p s'=>p=dO lt (jx vs.length)/\s'={ s with heap:=H3 }) rfl h2' h64
   (fun p st' s' _ har hf hg=>⟨hg.2,by rw[kat_snds rfl har,hg.1,eo],hf⟩)
   (Lo (B:=eU vs.length) (lt:=lt) (n:=vs.length) q2 _ _ (qR (by omega)) fun _=>⟨rfl,rfl⟩)) ?_ fun _ _ e=>e)
  rintro⟨⟨⟩,st'⟩ s' ⟨rfl,b1,b2⟩;exact fin st' b1 b2 hol
theorem Lr(hC:∀h',(∀b o,s.heap.get? b=some o->h'.get? b=some o)->2<=vs.length->Lq prog w A.in1.in1 vs lt h')(h64:vs.length<64)
  (hc:∀R:List Value->ak->Prop,(∀h1 tk,(∀b o,s.heap.get? b=some o->h1.get? b=some o)->s.heap.objs.size<=h1.objs.size->R vs { s with heap:=h1,toks:=tk })->aH (aF prog w) A.in1 (collect (.ref l)) R (fun _ _=>False) s)
  (h:∀h' a c tk,(∀b o,s.heap.get? b=some o->h'.get? b=some o)->s.heap.objs.size<=a->h'.get? a=some (gK "list" (lP vs lt).toArray c)->Q (.ref a) { s with heap:=h',toks:=tk }) :
  aH (aF prog w) A (call (.builtin "sorted") [.ref l]) Q E s:=by
 refine Calls.call_function_entry kind_sorted plain_sorted entry_sorted (args_sorted1 _) ?_;unfold Builtin.«sorted»;refine au (m:=checkCount "sorted" 1 1 _) (bh ?_);refine au (kh (hc _ fun g1 tk k1 hz=>?_) (fun _ _ x=>x) fun _ _ x=>x.elim)
 ·dsimp only;refine au (EB ?_ (by rw[dM];omega));have hoL:(g1.push (gK "list" vs.toArray 0)).get? g1.objs.size=some (gK "list" vs.toArray 0):=bJ _ rfl;have keep:∀b o,s.heap.get? b=some o->(g1.push (gK "list" vs.toArray 0)).get? b=some o:=fun b o e=>aP _ (k1 b o e);refine au (gA (wpAny_call_entry slot_list_sort ⟨_,hoL,rfl⟩ entry_list_sort ?body (args_list_sort _)))
  case body=>
   refine Ff (s:={ s with heap:=g1.push (gK "list" vs.toArray 0),toks:=tk }) hoL (fun h' k'=>hC h' fun b o e=>k' b o (bT (bG (a8 e) hz)) (keep b o e)) h64 fun h' c k' e'=>?_;refine⟨_,rfl,bh ⟨_,rfl,h h' _ c tk (fun b o e=>k' b o ?_ (keep b o e)) hz e'⟩⟩;have:=a8 e;exact bT (bG this hz)
theorem t_.keep'{h':Heap}(x:t_ h v ks)(k:∀b o,h.get? b=some o->h'.get? b=some o):t_ h' v ks:=by
 obtain⟨t,o,us,n,rfl,h1,h2⟩:=x;exact⟨t,o,us,n,rfl,k t o h1,h2⟩
theorem G_(hl:s.heap.IsList l vs.toArray)(hC:∀h',(∀b o,s.heap.get? b=some o->h'.get? b=some o)->2<=vs.length->Lq prog w A.in1.in1 vs lt h')(h64:vs.length<64)
  (h:∀h' a c tk,(∀b o,s.heap.get? b=some o->h'.get? b=some o)->s.heap.objs.size<=a->h'.get? a=some (gK "list" (lP vs lt).toArray c)->Q (.ref a) { s with heap:=h',toks:=tk }) :
  aH (aF prog w) A (call (.builtin "sorted") [.ref l]) Q E s:=by
 refine Lr hC h64 (fun R hR=>collect_list hl (hR _ s.toks (fun b o e=>?_) ?_) (by rw[dM];omega)) h
 ·rw[nW _ _ _ _ (bT (a8 e))];exact aP _ e
 ·rw[Heap.size_update,size_push'];exact zC _
end
def uD(H:Hp):List (List Key)->List Addr->Prop:=Paired fun k t=>H t=some (.tup (k.map kV))
variable{P:bx}{w:bL}{H:Hp}
theorem Tz{t:Addr}{k:List Key}(ok:fH P w H h)(e:H t=some (.tup (k.map kV))):t_ h (.ref t) k:=by
 obtain⟨_,its,r,o,h1,h2,n,h3⟩:=(show cY P w H h t (.tup (k.map kV))from ok t _ e);exact⟨t,o,its,n,rfl,h1,h2,h3,r⟩
theorem Fg(ok:fH P w H h):∀{kss:List (List Key)}{ts:List Addr},uD H kss ts->Paired (t_ h) (ts.map bV) kss
|_,_,.nil=>.nil
|_,_,.cons e r=>.cons (Tz ok e) (Fg ok r)
theorem Fi(n:Nat)(lt:Nat->Nat->Bool):∀i∈iZ n lt,i<n:=by
 unfold iZ;split
 ·intro i hi;exact oH.mp hi
 ·rename_i h;have hP:eU n (dO lt (jx n)):=AN _ _ (qR (by omega));intro i hi;have:i∈(bA n).toArray:=hP.2.mem_iff.mp (by simpa using hi);simpa using this
theorem uE(n:Nat)(lt:Nat->Nat->Bool):(iZ n lt).length=n:=by
 unfold iZ;split
 ·simp
 ·rename_i h;have hP:eU n (dO lt (jx n)):=AN _ _ (qR (by omega));rw[i0,hP.2.size_eq];simp
noncomputable def gB(kss:List (List Key)):List Nat:=iZ kss.length (sX kss)
noncomputable def sortable(kss:List (List Key)):Bool:=decide (kss.length<64)&&kss.all fun k=>!k.isEmpty&&kss.all fun q=>d9 k q
theorem zd(h:sortable kss=true):kss.length<64/\(∀k∈kss,k≠[])/\∀k∈kss,∀q∈kss,d9 k q=true:=by
 unfold sortable at h;rw[aU]at h;have h2:=bH.mp h.2;refine⟨of_decide_eq_true h.1,fun k hk=>?_,fun k hk q hq=>?_⟩
 ·have:=h2 k hk;rw[aU]at this;intro z;rw[z]at this;exact absurd this.1 (by decide)
 ·have:=h2 k hk;rw[aU]at this;exact bH.mp this.2 q hq
def Fj(H:Hp)(us:List V)(kss:List (List Key)):Prop:=(∃ts,us=ts.map V.ref/\uD H kss ts)\/∃ss:List Str,us=ss.map V.str/\kss=ss.map fun x=>[.inr x]
variable{X:Cx}
theorem C9{us:List V}(h:bB us vs):∀idx:List Nat,(∀i∈idx,i<us.length)->bB (idx.map fun i=>us.getD i .non) (idx.map fun i=>vs.getD i dZ)
|[],_=>.nil
|i::r,hi=>.cons (lX h i (hi i ao)) (C9 h r fun j hj=>hi j (ai _ hj))
theorem Fk:∀{ts:List Addr}{vs:List Value},bB (ts.map V.ref) vs->vs=ts.map bV
|[],_,.nil=>rfl
|_::_,_,.cons h r=>by cases h;rw[Fk r];rfl
theorem Fo:mh X (.builtin "sorted") (fun vs H Q=>∃a us kss,vs=[.ref a]/\Rd H a (.lst us)/\Fj H us kss/\sortable kss=true/\∀p,H p=none->Q (.ref p) (upd H p (.lst ((gB kss).map fun i=>us.getD i .non)))):=by
 intro pins s O H vs us Q I r h;obtain⟨a,xs,kss,rfl,hd,hk,hs,q⟩:=h;obtain⟨u,rfl,ru⟩:=vals1 r;cases ru;obtain⟨its,r1,p1,_⟩:=I.list (.inl hd:gx X.K H a xs);obtain⟨k1,k2,k3⟩:=zd hs;have hl:its.length=kss.length:=by
  rw[<-r1.length];rcases hk with⟨ts,rfl,ht⟩|⟨ss,rfl,rfl⟩
  ·rw[ah];exact(Paired.length ht).symm
  ·simp
 refine G_ (lt:=sX kss) p1.isList (fun h' k h2=>?_) (by omega) fun h' b c tk keep hle e=>?_
 ·rcases hk with⟨ts,rfl,ht⟩|⟨ss,rfl,rfl⟩
  ·have e:its=ts.map bV:=Fk r1;subst e;exact OO (Paired.imp' (fun v ks x=>t_.keep' x k) (Fg I.hok ht)) k2 k3 h2
  ·exact OP r1 h2
 ·have lt:∀i∈gB kss,i<xs.length:=fun i hi=>by rw[r1.length,hl];exact Fi _ _ i hi
  refine⟨.ref b,_,I.laid (a:=b) (o:=.lst ((gB kss).map fun i=>xs.getD i .non)) (t':=tk) keep hle ⟨?_,_,c,C9 r1 _ lt,?_⟩,rfl,q _ (I.hok.fresh hle)⟩
  ·rw[ah];unfold gB;rw[uE,dM];omega
  ·have eo:lP its (sX kss)=(gB kss).map fun i=>its.getD i dZ:=by
    unfold lP gB;rw[hl]
   rw[<-eo];exact e
end L2
end
section
namespace L2
open PySem PySem.W PySem.Calls PyProof.Rows PySem.SeqAt
theorem zL:∀{bs:List Bool}{its:List Value},bB (bs.map V.bl) its->its=bs.map iC
|[],_,.nil=>rfl
|b::bs,_,.cons r q=>by
 rw[zL q];cases r;rfl
noncomputable def HU(k:Bool):Value->Bool
|.bool b=>b==k
|_=>false
theorem AQ(k:Bool):∀bs:List Bool,(bs.map iC).countP (HU k)=bs.count k
|[]=>rfl
|b::bs=>by
 rw[bD,List.countP_cons,AQ k bs,BR];rfl
section
variable{prog:bx}{w:bL}{A:cV}{E:Value->ak->Prop}{s:ak}{l:Addr}{bs:List Bool}{its:List Value}{k:Bool}{Q:Value->ak->Prop}
theorem Ls{y:Value}(hy:y∈(bs.map iC).toArray):EqAt A s y (.bool k) (HU k y):=by
 have hy:y∈bs.map iC:=by simpa using hy
 obtain⟨b,_,rfl⟩:=aV.mp hy;exact EqAt.bool_bool b k
theorem Hf(hl:s.heap.IsList l its.toArray)(r:bB (bs.map V.bl) its)(h:Q (.int (bs.count k:Nat) s.toks) { s with toks:=s.toks+1 }):aH (aF prog w) A (call (.builtin "list.count") [.ref l,.bool k]) Q E s:=by
 obtain rfl:=zL r;obtain⟨⟨cls,dd,data,sl⟩,ho,hc,n,hd⟩:=id hl;simp only at hc hd;subst hc hd;refine fV PySem.F.slot_list_count ⟨_,ho,rfl⟩ PySem.F.entry_list_count (PySem.F.args_list_count_2 _ _) (list_countAt l _ n dd sl (.bool k) (HU k)) ⟨ho,fun y hy=>Ls hy,?_⟩;rw[show(bs.map iC).toArray.toList=bs.map iC from rfl,AQ];exact h
theorem Hg(hl:s.heap.IsList l its.toArray)(r:bB (bs.map V.bl) its)(hz:bs.length<=aa)(hk:k∈bs)(h:Q (.int (bs.idxOf k:Nat) s.toks) { s with toks:=s.toks+1 }):aH (aF prog w) A (call (.builtin "list.index") [.ref l,.bool k]) Q E s:=by
 obtain rfl:=zL r;obtain⟨⟨cls,dd,data,sl⟩,ho,hc,n,hd⟩:=id hl;simp only at hc hd;subst hc hd;have hj:bs.idxOf k<bs.length:=sG.mpr hk;have hs:=dM;refine fV PySem.F.slot_list_index ⟨_,ho,rfl⟩ PySem.F.entry_list_index (PySem.F.args_list_index_2 _ _)
  (list_indexAt l _ n dd sl (.bool k) (HU k) (bs.idxOf k) (by simpa using hj) (by omega) ?_ ?_) ⟨ho,fun y hy=>Ls hy,h⟩
 ·simp[HU]
 ·intro m hm hlt;have:=List.not_of_lt_findIdx (p:=(·==k)) (xs:=bs) (i:=m) hlt;simpa[HU]using this
end
end L2
end
section
namespace L2
open PySem PySem.Spec PyProof.Rows
def Jq(m:Bool)(P:Addr->Prop)(h:Heap)(e:Addr)(fl:Value->Prop)(v:Value):Prop:=
 (m=false/\v=.none)\/∃T oT ts f,v=.ref T/\T≠e/\h.get? T=some oT/\oT.data=.fields ts/\ts[3]?=some f/\fl f/\P T
structure ExcAt (m:Bool) (P:Addr->Prop) (h:Heap) (e C:Addr) (od:Option Addr) (fl:Value->Prop):Prop where
 at_:∃oe vs v,h.get? e=some oe/\oe.cls=.ref C/\oe.dict=od/\oe.data=.fields vs/\vs.size=6/\vs[1]?=some v/\Jq m P h e fl v
 ok:P e
abbrev HV(m:Bool)(X:Cx)(pins:List (Addr×Obj))(H:Hp)(s:ak)(e C:Addr)(od:Option Addr)(fl:Value->Prop):Prop:=ExcAt m (mF X pins H) s.heap e C od fl
variable{h':Heap}
variable{h:Heap}
variable{m:Bool}{fl:Value->Prop}{Q:Unit->ak->Prop}{E:Value->ak->Prop}
section
variable{X:Cx}{pins:List (Addr×Obj)}{O:St}{H:Hp}{s:ak}{e C:Addr}{od:Option Addr}
theorem Inv.fld{t:Addr}(I:Inv X pins O H s)(f:mF X pins H t)(k:∀b o,b≠t->s.heap.get? b=some o->h'.get? b=some o):Inv X pins O H { s with heap:=h' }:=
 I.turned (t':=s.toks) k f.1 f.2.1 f.2.2.2.1 f.2.2.2.2.1 f.2.2.2.2.2
theorem AS{a:Addr}{o:Obj}{vs:Array Value}(i:Nat)(x:Value)(ho:h.get? a=some o)(hd:o.data=.fields vs) :
  ∃o',(h.update a (p9 (·.setIfInBounds i x))).get? a=some o'/\o'.cls=o.cls/\o'.dict=o.dict/\o'.data=.fields (vs.setIfInBounds i x):=by
 have hd':=Obj.data_mapFields hd (·.setIfInBounds i x);refine⟨_,gb _ ho (Obj.isFreed_of_fields hd'),Obj.cls_mapFields ..,?_,hd'⟩;obtain⟨c,d,dat,sl⟩:=o;dsimp only at hd;subst hd;rfl
theorem C_{fr:Option Addr}(I:Inv X pins O H s)(F:HV m X pins H s e C od fl)
  (h:∀s',Inv X pins O H s'->HV m X pins H s' e C od (fun v=>v=fr.elim .none fun f=>jV f)->Q () s'):aH (aF X.prog X.w) X.A (setFlight (.ref e) fr) Q E s:=by
 obtain⟨⟨oe,vs,v,he,hc,hdi,hd,hz,h1,ht⟩,fe⟩:=F;unfold setFlight;refine au (uA he hd h1 ?_);rcases ht with⟨hm,rfl⟩|⟨T,oT,ts,f,rfl,hTe,hT,hdT,h3,_,fT⟩
 ·exact bh (h s I ⟨⟨oe,vs,_,he,hc,hdi,hd,hz,h1,.inl ⟨hm,rfl⟩⟩,fe⟩)
 ·rw[if_pos (show(bV T != dZ)=true from by simp)];have hlt:3<ts.size:=(p_.mp h3).1;refine u7 hT hdT hlt ?_;have other:∀b,b≠T->(s.heap.update T (p9 (·.setIfInBounds 3 (fr.elim .none fun f=>jV f)))).get? b=s.heap.get? b:=fun b hb=>bC _ _ (dm hb);obtain⟨o',e1,_,_,e2⟩:=AS 3 (fr.elim .none fun f=>jV f) hT hdT;refine h _ (I.fld fT fun b o hb q=>(other b hb).trans q) ⟨⟨oe,vs,_,(other e (dm hTe)).trans he,hc,hdi,hd,hz,h1,.inr ⟨T,o',_,_,rfl,hTe,e1,e2,?_,rfl,fT⟩⟩,fe⟩;simp[hlt]
theorem Inv.slots(I:Inv X pins O H s)(k:Heap.SlotsOnly (frs X.stack) s.heap h'):Inv X pins O H { s with heap:=h' }:=by
 refine I.call (ch:=[]) (t':=s.toks) (d':=s.drawn) (g':=s.gens) ⟨fun b o e n hb _=>(k.2.1 b hb).trans e,fun b o e n _ _=>k.2.2 b o e,fun _ _ _ n _=>n,fun b o e _=>?_,fun _ _ q=>q,fun _ _ _ q=>q,fun b ps q=>⟨#[],by rw[q];simp⟩⟩ (fun a o q=>?_) I.bare (fun _ z=>nomatch z)
 ·obtain⟨sl,q⟩:=k.2.2 b o e;exact⟨_,q⟩
 ·have hk:∀b u,(b=a\/H b=some (.own a))->s.heap.get? b=some u->h'.get? b=some u:=fun b u hb e=>by
   refine(k.2.1 b fun z=>?_).trans e;have hn:=I.B6 b z;rcases hb with rfl|hb
   ·rw[hn]at q;cases q
   ·rw[hn]at hb;cases hb
  exact(I.hok a o q).stay hk (fun _ z=>z) fun _ _ z=>z
theorem HW(hst:X.stack=X.env::X.outer)(hf:X.env.frame=some X.env.locals)(I:Inv X pins O H s)
  (F:HV m X pins H s e C od (fun f=>f=.none\/f=jV X.env.locals))
  (h:∀s',Inv X pins O H s'->HV true X pins H s' e C od (fun f=>f=jV X.env.locals)->Q () s'):aH (aF X.prog X.w) X.A (Eh (.ref e) X.env) Q E s:=by
 have new:∀{s:ak}{head:Value}{b:Bool},Inv X pins O H s->(∃oe vs,s.heap.get? e=some oe/\oe.cls=.ref C/\oe.dict=od/\oe.data=.fields vs/\vs.size=6)->mF X pins H e->
   aH (aF X.prog X.w) X.A (do setField (.ref e) 1 (<-wH head (<-frameOf X.env) .none (jV X.env.locals) .none (<-entryPlaceOf X.env.locals b))) (fun _ s'=>Inv X pins O H s'/\HV true X pins H s' e C od (fun f=>f=jV X.env.locals)) E s:=by
  rintro s head b I ⟨oe,vs,he,hc,hdi,hd,hz⟩ fe;have hfr:X.A.frames=some (X.env::X.outer):=by rw[<-hst];exact I.ok.frames
  have hl:=I.stack;rw[hst]at hl;refine au (wpAny_frameOf_fun hfr hl hf fun Z3 aaj=>?_);rw[<-hst]at aaj;have I1:Inv X pins O H { s with heap:=Z3 }:=I.slots aaj;have he1:Z3.get? e=some oe:=by
   refine(aaj.2.1 e fun z=>?_).trans he;rcases aE.mp (I.uC e z)with z|z
   ·exact fe.2.1 z
   ·exact fe.2.2.1 z
  refine au (wpAny_entryPlaceOf fun pl hpl=>?_);unfold wH newFields;refine au (lU ?_ (hpl.sizeOk5 _ _ _ _ _));generalize hts:([head,bV X.env.locals,dZ,jV X.env.locals,dZ]++(if pl.isEmpty then aQ 6 dZ else pl)).toArray=ts;have ht3:ts[3]?=some (jV X.env.locals):=by rw[<-hts];rfl
  have I2:Inv X pins O H { s with heap:=Z3.push { cls:=.type "traceback",dict:=none,data:=.fields ts } }:=I1.kept (t':=s.toks) fun b o q=>aP _ q;have he2:=aP (h:=Z3) { cls:=.type "traceback",dict:=none,data:=.fields ts } he1;have hT2:=bJ Z3 (o:={ cls:=.type "traceback",dict:=none,data:=.fields ts }) rfl;have hTe:Z3.objs.size≠e:=yb (a8 he1);have fT:mF X pins H Z3.objs.size:=I1.t7 (aB _) (I1.hok.fresh (aB _));refine u7 he2 hd (by omega) ?_;obtain⟨o',e1,e2,e3,e4⟩:=AS 1 (.ref Z3.objs.size) he2 hd;have other:∀b,b≠e->((Z3.push { cls:=.type "traceback",dict:=none,data:=.fields ts }).update e (p9 (·.setIfInBounds 1 (.ref Z3.objs.size)))).get? b=(Z3.push { cls:=.type "traceback",dict:=none,data:=.fields ts }).get? b:=fun b hb=>bC _ _ (dm hb);refine⟨I2.fld fe fun b o hb q=>(other b hb).trans q,⟨⟨o',_,_,e1,e2.trans hc,e3.trans hdi,e4,by simpa using hz,?_,.inr ⟨_,_,ts,_,rfl,hTe,(other _ hTe).trans hT2,rfl,ht3,rfl,fT⟩⟩,fe⟩⟩;have:1<vs.size:=by omega
  simp[this]
 obtain⟨⟨oe,vs,v,he,hc,hdi,hd,hz,h1,ht⟩,fe⟩:=F;unfold Eh;simp only[hf];refine au (uA he hd h1 ?_);rcases ht with⟨hm,rfl⟩|⟨T,oT,ts,f,rfl,hTe,hT,hdT,h3,hfl,fT⟩
 ·exact a7 (new (b:=_) I ⟨oe,vs,he,hc,hdi,hd,hz⟩ fe) fun _ s' q=>h s' q.1 q.2
 ·rw[if_pos (show(bV T != dZ)=true from by simp)];refine au (uA hT hdT h3 ?_);by_cases c:f=jV X.env.locals
  ·rw[if_pos (show(f==jV X.env.locals)=true from by rw[c];simp)];exact bh (h s I ⟨⟨oe,vs,_,he,hc,hdi,hd,hz,h1,.inr ⟨T,oT,ts,f,rfl,hTe,hT,hdT,h3,c,fT⟩⟩,fe⟩)
  ·have hlt:3<ts.size:=(p_.mp h3).1;have cn:(f==jV X.env.locals)=false:=by
    rcases hfl with rfl|z
    ·rfl
    ·exact absurd z c
   rw[if_neg (by rw[cn];exact aR)];refine au (u7 hT hdT hlt ?_);have other:∀b,b≠T->(s.heap.update T (p9 (·.setIfInBounds 3 .none))).get? b=s.heap.get? b:=fun b hb=>bC _ _ (dm hb);exact a7 (new (b:=_) (I.fld fT fun b o hb q=>(other b hb).trans q) ⟨oe,vs,(other e (dm hTe)).trans he,hc,hdi,hd,hz⟩ fe) fun _ s' q=>h s' q.1 q.2
end
noncomputable def kR(P:bx)(w:bL):y_:=fun outer H s E v s'=>∃e C od H',v=.ref e/\s'.os=s.os/\kK s'.gens/\Un (frs outer) [] H H' s.heap s'.heap/\fH P w H' s'.heap /\
 ExcAt true (fun b=>H' b=none/\s.heap.objs.size<=b) s'.heap e C od (fun f=>f=.none)/\E (.ref C) od H'
variable{P P':Addr->Prop}{e:Addr}{fl':Value->Prop}{v:Value}
theorem Jq.imp(x:Jq m P h e fl v)(hp:∀b,P b->P' b)(hf:∀f,fl f->fl' f):Jq m P' h e fl' v:=by
 rcases x with x|⟨T,oT,ts,f,h1,h2,h3,h4,h5,h6,h7⟩
 ·exact .inl x
 ·exact .inr ⟨T,oT,ts,f,h1,h2,h3,h4,h5,hf f h6,hp T h7⟩
theorem ExcAt.imp{C:Addr}{od:Option Addr}(x:ExcAt m P h e C od fl)(hp:∀b,P b->P' b)(hf:∀f,fl f->fl' f):ExcAt m P' h e C od fl':=by
 obtain⟨⟨oe,vs,v,h1,h2,h3,h4,h5,h6,h7⟩,h8⟩:=x;exact⟨⟨oe,vs,v,h1,h2,h3,h4,h5,h6,h7.imp hp hf⟩,hp e h8⟩
def zM(X:Cx)(E:XK):Value->ak->Prop:=fun v s=>∃m e C od pins O H,v=.ref e/\Inv X pins O H s/\HV m X pins H s e C od (fun f=>f=.none\/f=jV X.env.locals)/\E (.ref C) od H
section
variable{X:Cx}{E:XK}
theorem TF:wU (kR X.prog X.w) (X.m6 (zM X E)) E:=by
 rintro pins O H s v s' I ⟨e,C,od,H',rfl,os,bare,un,hok,x,q⟩;have I0:=I.m9;obtain⟨hh,g,d,t,os'⟩:=s';obtain rfl:os'=s.os:=os;have I1:Inv X pins O H' { s with heap:=hh,gens:=g,drawn:=d,toks:=t }:=I0.call (h':=hh) (g':=g) (d':=d) (t':=t) (ch:=[]) un hok bare (fun b z=>absurd z (by simp));exact⟨true,e,C,od,pins,O,H',rfl,I1,x.imp (fun b hb=>I0.t7 hb.2 hb.1) fun f hf=>.inl hf,q⟩
theorem Jr(hst:X.stack=X.env::X.outer)(hf:X.env.frame=some X.env.locals):tU (aF X.prog X.w) X.A X.env (zM X E):=by
 rintro v s ⟨m,e,C,od,pins,O,H,rfl,I,F,q⟩;refine HW hst hf I F fun s1 I1 F1=>?_;unfold cameBackBy;obtain⟨⟨oe,vs,v,he,hc,hdi,hd,hz,h1,ht⟩,fe⟩:=id F1;rcases ht with⟨hm,_⟩|⟨T,oT,ts,f,rfl,hTe,hT,hdT,h3,hfl,fT⟩
 ·cases hm
 ·refine au (uA he hd h1 ?_);rw[if_neg (show ¬(bV T==dZ)=true from aR)];refine C_ I1 F1 fun s2 I2 F2=>⟨true,e,C,od,pins,O,H,rfl,I2,F2.imp (fun _ z=>z) fun f hz=>.inr ?_,q⟩;rw[hz,hf];rfl
end
variable{w:bL}{K:PySem.W.Frag}{mg:Str->Option Value}{base:Heap}{N:List Str}{qual:Str}{scope:eL}{f:Addr}{cd:Value}{A:cV}{outer:List Env}{s:ak}{H:Hp}
theorem VN{P:bx}{E:XK}{s':ak}
  (h:zM (lO (kR P w) P w K mg base N qual scope f cd A outer s H E) E v s'):(lO (kR P w) P w K mg base N qual scope f cd A outer s H E).xe v s':=by
 obtain⟨m,e,C,od,pins,O,H1,rfl,I,F,q⟩:=h;show aH (aF P w) _ (Ja _ (.ref e)) _ _ s';unfold Ja;refine au ?_;refine HW (X:=lO (kR P w) P w K mg base N qual scope f cd A outer s H E) rfl rfl I F fun s1 I1 F1=>?_;refine C_ I1 F1 fun s2 I2 F2=>⟨e,C,od,H1,rfl,I2.os,I2.bare,I2.base,I2.hok,F2.imp (fun b hb=>⟨hb.1,?_⟩) fun _ z=>z,q⟩;rcases hb.2.2.2.1 with z|z
 ·exact absurd (show b∈([]:List Addr)from z) (by simp)
 ·exact z
theorem VO{P:bx}{E:XK}{body:List Stmt}{t:TS}
  (h:q9 ((lO (kR P w) P w K mg base N qual scope f cd A outer s H E).m6 (zM (lO (kR P w) P w K mg base N qual scope f cd A outer s H E) E)) body t):q9 (lO (kR P w) P w K mg base N qual scope f cd A outer s H E) body t:=
 fun pins s1 O H1 D I hw=>kh (h pins s1 O H1 D (I.m6 _) hw) (fun _ _ q=>q.m9) fun _ _ q=>VN q
section
variable{P:bx}{w:bL}{A:cV}{E:Value->ak->Prop}{h:Heap}{g:Array mQ}{d:Drawn}{t:Nat}{os:OsState}
variable{nm q:Str}{C N fI:Addr}{bs bm bmB:List Value}{hdct:Bool}{sn:List Str}{sub:List Value}{ab:Bool}{col:Option Bool}{dd:Option Addr}{k0 k1 k2 k3 k5:Option Value}{B newId initId:String}{us:List Value}{K:PySem.W.Frag}
noncomputable abbrev tuO(us:List Value):Obj:={ cls:=.type "tuple",data:=.seq us.toArray }
end
end L2
end
section
namespace L3
open PySem PySem.Spec L2
inductive Bf where
 |len|all|int|str|list|sum|max|sorted
 deriving DecidableEq
noncomputable def Bf.name:Bf->Str
|.len=>"len"|.all=>"all"|.int=>"int"|.str=>"str"|.list=>"list"|.sum=>"sum"|.max=>"max"|.sorted=>"sorted"
inductive Mt where
 |append|insert|startswith|split|count|index|join|get|extend
 deriving DecidableEq
noncomputable def Mt.name:Mt->Str
|.append=>"append"|.insert=>"insert"|.startswith=>"startswith"|.split=>"split"|.count=>"count"|.index=>"index"|.join=>"join"|.get=>"get"|.extend=>"extend"
inductive Ty where
 |int|bool|str|list|tuple|dict|none
 deriving DecidableEq
noncomputable def Ty.name:Ty->Str
|.int=>"int"|.bool=>"bool"|.str=>"str"|.list=>"list"|.tuple=>"tuple"|.dict=>"dict"|.none=>"NoneType"
mutual
inductive CE where
|var (i:Nat)
|con (v:V)
|glo (g:Nat)
|bin (op:sy) (a b:CE)
|neg (a:CE)
|not (a:CE)
|and (a b:CE)
|or (a b:CE)
|ite (c a b:CE)
|cmp (op:nN) (a b:CE)
|chain (o1 o2:nN) (a b c:CE)
|call (g:Nat) (as:jB)
|blt (f:Bf) (as:jB)
|isi (a:CE) (t:Ty)
|mth (m:Mt) (o:CE) (as:jB)
|ix (a b:CE)
|sl (a:CE) (lo hi:CO)
|lst (as:jB)
|tup (as:jB)
|dct
|fst (ps:List (Str×Nat))
|comp (nl:List Str) (fr:List Nat) (elt:CE) (tg:CG) (src:CI) (cond:CO)
|mx1 (up:Bool) (a:CE)
inductive jB where
|nil
|cons (a:CE) (r:jB)
inductive CO where
|none
|some (a:CE)
inductive CG where
|name (i:Nat)
|tup (gs:oV)
|sub (o i:CE)
inductive oV where
|nil
|cons (g:CG) (r:oV)
inductive CI where
|seq (a:CE)
|range (as:jB)
|enum (a:CE)
end
inductive CB where
|call (g:Nat) (as:jB)
|ite (c:CE) (a b:CB)
mutual
inductive CS where
|expr (e:CE)
|asg (g:CG) (e:CE)
|casg (i:Nat) (e:CE)
|ret (e:CE)
|ifs (c:CE) (a b:bW)
|whil (c:CE) (b:bW)
|forr (g:CG) (src:CI) (b:bW)
|fork (g:CG) (k:Nat) (b:bW)
|brk
|cont
|never
inductive bW where
|nil
|cons (s:CS) (r:bW)
|two (s t:CS) (r:bW)
|pin (k:Nat) (r:bW)
|chg (s:CS) (r:bW)
end
noncomputable def oV.len:oV->Nat
|.nil=>0
|.cons _ r=>r.len+1
inductive G where
|val (v:V)
|tup (a:Addr) (xs:List V)
|fn (sp:Sp) (dvs:List V)
|nop
noncomputable def G.hand:G->G
|.fn _ _=>.nop
|g=>g
def HX(K:PySem.W.Frag)(a:Addr)(t:Bool)(xs:List V):Prop:=
 ∃(o:Obj) (its:Array Value) (n:Nat),K.lookup a=some o/\o.cls=.type (if t then "tuple" else "list")/\o.dict=none/\o.data=.seq its n/\its.size<=aa/\bB xs its.toList
noncomputable def gC(H:Hp)(a:Addr):Option (Bool×List V):=match H a with
|some (.lst xs)=>some (false,xs)
|some (.tup xs)=>some (true,xs)
|some (.br _ (.lst xs))=>some (false,xs)
|some (.br _ (.tup xs))=>some (true,xs)
|_=>none
def gi(K:PySem.W.Frag)(H:Hp)(a:Addr)(t:Bool)(xs:List V):Prop:=gC H a=some (t,xs)\/HX K a t xs
theorem tupS{K:PySem.W.Frag}{H:Hp}{a:Addr}{xs:List V}(h:H a=some (.tup xs)):gi K H a true xs:=.inl (by unfold gC;rw[h])
def ua(K:PySem.W.Frag)(H:Hp)(a:Addr)(k:Bool->List V->Prop):Prop:=∃t xs,gi K H a t xs/\k t xs
inductive D where
|non|bl (b:Bool)|int (i:Int)|str (x:Str)
|lst (o:Bool) (xs:List D)
|tup (xs:List D)
|bY (o:Bool) (ks:List Key) (xs:List D)
|pdc (ks:List Key) (xs:List D)
|cst (xs:List D)
mutual
noncomputable def br:D->D
|.non=>.non
|.bl b=>.bl b
|.int i=>.int i
|.str x=>.str x
|.lst _ xs=>.lst false (aA xs)
|.tup xs=>.tup (aA xs)
|.bY _ ks xs=>.bY false ks (aA xs)
|.pdc ks xs=>.pdc ks (aA xs)
|.cst xs=>.cst (aA xs)
noncomputable def aA:List D->List D
|[]=>[]
|d::r=>br d::aA r
end
mutual
noncomputable def aL:D->Bool
|.lst o xs=>o&&bM xs
|.tup xs=>bM xs
|.bY o _ xs=>o&&bM xs
|.pdc _ _=>false
|.cst _=>false
|_=>true
noncomputable def bM:List D->Bool
|[]=>true
|d::r=>aL d&&bM r
end
mutual
noncomputable def iF:D->D->Bool
|.non,y=>match y with
 |.non=>true
 |_=>false
|.bl a,y=>match y with
 |.bl b=>a==b
 |.int j=>(if a then 1 else 0)==j
 |_=>false
|.int i,y=>match y with
 |.int j=>i==j
 |.bl b=>i==(if b then 1 else 0)
 |_=>false
|.str a,y=>match y with
 |.str b=>a==b
 |_=>false
|.lst _ xs,y=>match y with
 |.lst _ ys=>lQ xs ys
 |_=>false
|.tup xs,y=>match y with
 |.tup ys=>lQ xs ys
 |_=>false
|.bY _ _ _,_=>false
|.pdc _ _,_=>false
|.cst _,_=>false
noncomputable def lQ:List D->List D->Bool
|[],ys=>match ys with
 |[]=>true
 |_=>false
|x::xs,ys=>match ys with
 |y::ys=>iF x y&&lQ xs ys
 |[]=>false
end
mutual
noncomputable def g6:D->Nat->Bool
|.lst _ xs,n=>match n with
 |0=>false
 |n+1=>cA xs n
|.tup xs,n=>match n with
 |0=>false
 |n+1=>cA xs n
|.bY _ _ _,_=>false
|.pdc _ _,_=>false
|.cst _,_=>false
|_,_=>true
noncomputable def cA:List D->Nat->Bool
|[],_=>true
|d::r,n=>g6 d n&&cA r n
end
noncomputable def cF(d:D):Bool:=g6 d 12
noncomputable def e_(ds:List D):Bool:=cA ds 12
noncomputable def keyOk:Key->Bool
|.inr x=>decide (x.length<=aa)
|.inl _=>true
noncomputable def keysOk(ks:List Key):Bool:=ks.all keyOk
mutual
def aY(K:PySem.W.Frag)(H:Hp):D->V->Prop
|.non,v=>v=.non
|.bl b,v=>v=.bl b
|.int i,v=>v=.int i
|.str x,v=>v=.str x/\x.length<=aa
|.lst _ ds,v=>∃a vs,v=.ref a/\Rd H a (.lst vs)/\vs.length<=aa/\aN K H ds vs
|.tup ds,v=>∃a vs,v=.ref a/\H a=some (.tup vs)/\vs.length<=aa/\aN K H ds vs
|.bY _ ks ds,v=>∃a kvs,v=.ref a/\H a=some (.dK kvs)/\kvs.length<=aa/\(kvs.map (·.1)=ks/\keysOk ks=true)/\aN K H ds (kvs.map (·.2))
|.pdc ks ds,v=>∃a kvs,v=.ref a/\(∃ob,H a=some (.br ob (.dK kvs)))/\kvs.length<=aa/\(kvs.map (·.1)=ks/\keysOk ks=true)/\aN K H ds (kvs.map (·.2))
|.cst ds,v=>∃a vs,v=.ref a/\HX K a true vs/\vs.length<=aa/\aN K H ds vs
def aN(K:PySem.W.Frag)(H:Hp):List D->List V->Prop
|[],vs=>vs=[]
|d::ds,vs=>∃v r,vs=v::r/\aY K H d v/\aN K H ds r
end
def OQ(K:PySem.W.Frag)(op:sy)(x y:V)(H:Hp)(Q:VK):Prop:=match op,x,y with
|.Add,.int i,.int j=>Q (.int (i+j)) H
|.Sub,.int i,.int j=>Q (.int (i-j)) H
|.Mult,.int i,.int j=>t8 i j/\Q (.int (i*j)) H
|.FloorDiv,.int i,.int j=>q_ i j/\Q (.int (i / j)) H
|.Mod,.int i,.int j=>0<j/\Q (.int (i%j)) H
|.Add,.str i,.str j=>i.length+j.length<=aa/\Q (.str (i++j)) H
|.Mult,.str i,.int j=>(0<=j/\j<2 ^ 40/\i.length*j.toNat<=aa)/\Q (.str ⟨(aQ j.toNat i.cps.toList).flatten.toArray⟩) H
|.Pow,.int i,.int j=>wR i j/\Q (.int (i ^ j.toNat)) H
|.Add,.ref a,.ref b=>(∃xs ys,Rd H a (.lst xs)/\Rd H b (.lst ys)/\xs.length+ys.length<=aa/\∀p,H p=none->Q (.ref p) (upd H p (.lst (xs++ys))))
  \/ (∃xs ys,gi K H a true xs/\gi K H b true ys/\xs≠[]/\ys≠[]/\xs.length+ys.length<=aa/\∀p,H p=none->Q (.ref p) (upd H p (.tup (xs++ys))))
|.Mult,.ref a,.int k=>∃xs,Rd H a (.lst xs)/\(-(2 ^ 63)<=k/\k<2 ^ 63)/\xs.length*k.toNat<=aa/\∀p,H p=none->Q (.ref p) (upd H p (.lst (aQ k.toNat xs).flatten))
|_,_,_=>False
noncomputable def memD(x:D)(xs:List D):Bool:=xs.any fun y=>iF y x
def mH(K:PySem.W.Frag)(op:nN)(x y:V)(H:Hp)(Q:VK):Prop:=match op,x,y with
|.Lt,.int i,.int j=>Q (.bl (decide (i<j))) H
|.LtE,.int i,.int j=>Q (.bl (decide (i<=j))) H
|.Gt,.int i,.int j=>Q (.bl (decide (j<i))) H
|.GtE,.int i,.int j=>Q (.bl (decide (j<=i))) H
|.Lt,.str i,.str j=>Q (.bl (decide (i.cps.toList<j.cps.toList))) H
|.LtE,.str i,.str j=>Q (.bl (!decide (j.cps.toList<i.cps.toList))) H
|.Eq,x,y=>∃dx dy,aY K H dx x/\aY K H dy y/\cF dx=true/\cF dy=true/\Q (.bl (iF dx dy)) H
|.NotEq,x,y=>∃dx dy,aY K H dx x/\aY K H dy y/\cF dx=true/\cF dy=true/\Q (.bl (!iF dx dy)) H
|.Is,x,.non=>Q (.bl (decide (x=.non))) H
|.IsNot,x,.non=>Q (.bl (!decide (x=.non))) H
|.In,x,.ref a=>(∃t xs dx ds,gi K H a t xs/\aY K H dx x/\aN K H ds xs/\cF dx=true/\e_ ds=true/\Q (.bl (memD dx ds)) H)
  \/ ∃kvs k,Rd H a (.dK kvs)/\x=kV k/\Q (.bl (fM kvs k).isSome) H
|.NotIn,x,.ref a=>(∃t xs dx ds,gi K H a t xs/\aY K H dx x/\aN K H ds xs/\cF dx=true/\e_ ds=true/\Q (.bl (!memD dx ds)) H)
  \/ ∃kvs k,Rd H a (.dK kvs)/\x=kV k/\Q (.bl (!(fM kvs k).isSome)) H
|_,_,_=>False
def kN(K:PySem.W.Frag)(x:V)(H:Hp)(Q:Bool->Prop):Prop:=match x with
|.bl b=>Q b
|.non=>Q false
|.int i=>Q (i != 0)
|.str z=>z.length<=aa/\Q (z.length != 0)
|.ref a=>(ua K H a fun _ xs=>Q (!xs.isEmpty))\/∃kvs,H a=some (.dK kvs)/\Q (!kvs.isEmpty)
|_=>False
def Fp(K:PySem.W.Frag)(x y:V)(H:Hp)(Q:VK):Prop:=match x,y with
|.str z,.int i=>z.length<=aa/\∃c,eZ z.cps.toList i=some c/\Q (.str ⟨#[c]⟩) H
|.ref a,y=>(∃t xs i v,y=.int i/\gi K H a t xs/\eZ xs i=some v/\Q v H)\/(∃kvs k v,Rd H a (.dK kvs)/\y=kV k/\fM kvs k=some v/\Q v H)
  \/ ∃kvs k b v,Rd H a (.dT kvs)/\y=.ref b/\H b=some (.tup (k.map kV))/\fM kvs k=some v/\Q v H
|_,_=>False
noncomputable def cut{α:Type}(xs:List α)(lo hi:Option Int):List α:=(xs.drop (HT.j4 xs.length 0 lo)).take (HT.j4 xs.length xs.length hi-HT.j4 xs.length 0 lo)
def R4(K:PySem.W.Frag)(x:V)(lo hi:Option Int)(H:Hp)(Q:VK):Prop:=match x with
|.str z=>z.length<=aa/\Q (.str ⟨(cut z.cps.toList lo hi).toArray⟩) H
|.ref a=>(ua K H a fun t xs=>t=false/\∀p,H p=none->Q (.ref p) (upd H p (.lst (cut xs lo hi))))
  \/ ∃(n:Nat) (xs:List V),gi K H a true xs/\lo=some (n:Int)/\hi=none/\1<=n/\n<=xs.length/\∀p,H p=none->Q (.ref p) (upd H p (.tup (xs.drop n)))
|_=>False
noncomputable def YH(up:Bool):Str:=if up=true then "max" else "min"
noncomputable def m_(up:Bool)(ns:List Int):V:=match ns with
|[]=>.non
|i::r=>.int (r.foldl (fun a i=>if(if up=true then a<i else i<a)then i else a) i)
noncomputable def wW:V->Bool
|.bl true=>true
|_=>false
noncomputable def XI:V->Bool
|.bl _=>true
|_=>false
noncomputable def VP:V->Bool
|.int _=>true
|_=>false
noncomputable def intOf:V->Int
|.int i=>i
|_=>0
noncomputable def EE(xs:List V):Bool:=xs.all XI
noncomputable def AU(xs:List V):Bool:=xs.all VP
noncomputable def oW(xs:List V):Int:=(xs.map intOf).sum
noncomputable def dj(i:Int):Str:=toString i
def zN(K:PySem.W.Frag)(f:Bf)(vs:List V)(H:Hp)(Q:VK):Prop:=match f,vs with
|.len,[.str z]=>z.length<=aa/\Q (.int z.length) H
|.len,[.ref a]=>(ua K H a fun _ xs=>Q (.int xs.length) H)\/∃kvs,Rd H a (.dK kvs)/\Q (.int kvs.length) H
|.all,[.ref a]=>ua K H a fun t xs=>t=false/\EE xs=true/\Q (.bl (xs.all wW)) H
|.int,[.int i]=>Q (.int i) H
|.int,[.bl b]=>Q (.int (if b then 1 else 0)) H
|.max,[.int i,.int j]=>Q (.int (if j>i then j else i)) H
|.int,[.str z]=>z.length<=640/\∃n,intText? z=some n/\Q (.int n) H
|.str,[.int i]=>i.natAbs.log2<1920/\Q (.str (dj i)) H
|.list,[.ref a]=>(ua K H a fun _ xs=>∀p,H p=none->Q (.ref p) (upd H p (.lst xs)))\/∃kvs,Rd H a (.dK kvs)/\∀p,H p=none->Q (.ref p) (upd H p (.lst (kvs.map fun kv=>kV kv.1)))
|.sum,[.ref a]=>ua K H a fun t xs=>t=false/\AU xs=true/\Q (.int (oW xs)) H
|.sorted,[.ref a]=>∃us kss,Rd H a (.lst us)/\Fj H us kss/\sortable kss=true/\∀p,H p=none->Q (.ref p) (upd H p (.lst ((gB kss).map fun i=>us.getD i .non)))
|_,_=>False
def rC(K:PySem.W.Frag)(t:Ty)(x:V)(H:Hp)(Q:Bool->Prop):Prop:=match x with
|.non=>Q false
|.bl _=>Q (decide (t=.bool)||decide (t=.int))
|.int _=>Q (decide (t=.int))
|.str _=>Q (decide (t=.str))
|.ref a=>(∃xs,Rd H a (.lst xs)/\Q (decide (t=.list)||decide (t=.none)))\/(∃xs,gi K H a true xs/\Q (decide (t=.tuple)||decide (t=.none)))\/∃kvs,Rd H a (.dK kvs)/\Q (decide (t=.dict))
|_=>False
noncomputable def cN(c:Nat):List Nat->List (List Nat)
|[]=>[[]]
|x::r=>if x=c then[]::cN c r else match cN c r with
 |h::t=>(x::h)::t
 |[]=>[[x]]
noncomputable def strOf(l:List Nat):Str:=⟨l.toArray⟩
def gU(H:Hp)(a:Addr):Prop:=match H a with
|some (.lst _)=>True
|_=>False
def vj(H:Hp)(a:Addr):Prop:=match H a with
|some (.dK _)=>True
|some (.dT _)=>True
|_=>False
def sY(m:Mt)(x:V)(H:Hp):Prop:=match m,x with
|.append,.ref a=>gU H a
|.insert,.ref a=>gU H a
|.extend,.ref a=>gU H a
|.get,.ref a=>vj H a
|.join,.str _=>True
|.startswith,.str _=>True
|.split,.str _=>True
|.count,.ref a=>∃xs,Rd H a (.lst xs)
|.index,.ref a=>∃xs,Rd H a (.lst xs)
|.count,.str _=>True
|.index,.str _=>True
|_,_=>False
def uc(K:PySem.W.Frag)(m:Mt)(x:V)(vs:List V)(H:Hp)(Q:VK):Prop:=match m,x,vs with
|.append,.ref l,[y]=>match H l with
 |some (.lst xs)=>xs.length<aa/\Q .non (upd H l (.lst (xs++[y])))
 |_=>False
|.insert,.ref l,[.int i,y]=>match H l with
 |some (.lst xs)=>(0<=i/\i<2 ^ 40/\xs.length<aa)/\Q .non (upd H l (.lst (xs.take i.toNat++y::xs.drop i.toNat)))
 |_=>False
|.extend,.ref l,[.ref b]=>match H l with
 |some (.lst xs)=>∃zs,H b=some (.lst zs)/\xs.length+zs.length<=aa/\Q .non (upd H l (.lst (xs++zs)))
 |_=>False
|.get,.ref l,[k]=>∃kvs k',Rd H l (.dK kvs)/\k=kV k'/\Q ((fM kvs k').getD .non) H
|.get,.ref l,[k,y]=>(∃kvs k',Rd H l (.dK kvs)/\k=kV k'/\Q ((fM kvs k').getD y) H)\/∃kvs k' b,Rd H l (.dT kvs)/\k=.ref b/\H b=some (.tup (k'.map kV))/\Q ((fM kvs k').getD y) H
|.join,.str x,[.ref a]=>ua K H a fun t xs=>t=false/\∃ss:List Str,xs=ss.map V.str/\(ss.map (·.length)).sum+ss.length*x.length<=aa/\Q (.str (dS x ss)) H
|.startswith,.str x,[.str y]=>Q (.bl (y.cps.toList.isPrefixOf x.cps.toList)) H
|.split,.str x,[.str y]=>y.length=1/\x.length+2<=aa/\∀p,H p=none->Q (.ref p) (upd H p (.lst ((cN (y.cps.getD 0 0) x.cps.toList).map fun l=>V.str (strOf l))))
|.count,.ref l,[.bl k]=>∃bs:List Bool,Rd H l (.lst (bs.map V.bl))/\Q (.int (bs.count k)) H
|.index,.ref l,[.bl k]=>∃bs:List Bool,Rd H l (.lst (bs.map V.bl))/\k∈bs/\Q (.int (bs.idxOf k)) H
|.count,.str x,[.str y]=>y.length=1/\x.length<=aa/\Q (.int (x.cps.toList.count (y.cps.getD 0 0))) H
|.index,.str x,[.str y]=>y.length=1/\x.length<=aa/\(y.cps.getD 0 0)∈x.cps.toList/\Q (.int (x.cps.toList.idxOf (y.cps.getD 0 0))) H
|.split,.str x,[]=>(x.length<=aa/\(g9 x).length<=aa)/\∀p,H p=none->Q (.ref p) (upd H p (.lst ((g9 x).map V.str)))
|_,_,_=>False
inductive Item where
|v (x:V)
|tup (xs:List V)
def mkItem(it:Item)(H:Hp)(k:V->Hp->Prop):Prop:=match it with
|.v x=>k x H
|.tup xs=>∀p,H p=none->k (.ref p) (upd H p (.tup xs))
noncomputable def mj:Nat->List V->List Item
|_,[]=>[]
|n,x::r=>.tup [.int (n:Int),x]::mj (n+1) r
noncomputable def VQ:List V->List V->List Item
|x::xs,y::ys=>.tup [x,y]::VQ xs ys
|_,_=>[]
noncomputable abbrev R5:=St->Hp->((Hp->Prop)->List Item->Hp->Prop)->Prop
def forL(ok:Hp->Prop)(g:TG)(body:TS)(D:Ends):List Item->St->Hp->Prop
|[],O,H=>ok H/\D.nx O H
|it::r,O,H=>ok H/\mkItem it H fun x H1=>g x O H1 fun ZZ H2=>body { D with nx:=forL ok g body D r,ct:=forL ok g body D r,bk:=D.nx } ZZ H2
def qB(ok:Hp->Prop)(g:TG)(cond:TT)(elt:TE)(k:List V->Hp->Prop):List Item->List V->St->Hp->Prop
|[],acc,_,H=>ok H/\k acc H
|it::r,acc,O,H=>ok H/\acc.length<aa/\mkItem it H fun x H1=>g x O H1 fun ZZ H2=>cond ZZ H2 fun b H3=>
  if b=true then elt ZZ H3 fun y H4=>qB ok g cond elt k r (acc++[y]) ZZ H4 else qB ok g cond elt k r acc ZZ H3
noncomputable def chars(z:Str):List V:=z.cps.toList.map fun c=>V.str ⟨#[c]⟩
def yy(K:PySem.W.Frag)(x:V)(H:Hp)(k:(Hp->Prop)->List Item->Hp->Prop):Prop:=match x with
|.str z=>z.length<=aa/\k (fun _=>True) ((chars z).map .v) H
|.ref a=>ua K H a fun t xs=>k (fun H'=>gi K H' a t xs) (xs.map .v) H
|_=>False
def wX(vs:List V)(H:Hp)(k:(Hp->Prop)->List Item->Hp->Prop):Prop:=match vs with
|[.int j]=>(-(2 ^ 62)<=j/\j<2 ^ 62)/\k (fun _=>True) ((bA j.toNat).map fun(i:Nat)=>Item.v (.int (i:Int))) H
|[.int i,.int j]=>(-(2 ^ 62)<=i/\i<2 ^ 62/\-(2 ^ 62)<=j/\j<2 ^ 62)/\k (fun _=>True) ((bA (j-i).toNat).map fun(n:Nat)=>Item.v (.int (i+(n:Int)))) H
|_=>False
abbrev Pin(H:Hp)(a:Addr)(ob:Obj)(kvs:List (Key×V)):Prop:=H a=some (.br ob (.dK kvs))
noncomputable def nc(kvs:List (Key×V)):List Item:=kvs.map fun kv=>Item.v (kV kv.1)
def R6(x:V)(H:Hp)(k:(Hp->Prop)->List Item->Hp->Prop):Prop:=match x with
|.ref a=>(∃ob kvs,Pin H a ob kvs/\k (fun H'=>Pin H' a ob kvs) (nc kvs) H)\/∃kvs,H a=some (.dK kvs)/\∀ob,k (fun H'=>Pin H' a ob kvs) (nc kvs) (upd H a (.br ob (.dK kvs)))
|_=>False
def jc(O:St)(i:Nat)(k:V->Prop):Prop:=match O[i]? with
|some (some v)=>k v
|_=>False
noncomputable def vm:V->Option Str
|.str x=>some x
|.int i=>if i.natAbs.log2<1920 then some (dj i)else none
|_=>none
noncomputable def uF(O:L2.St):List (Str×Nat)->Str->Option Str
|[],a=>some a
|p::r,a=>match O[p.2]? with
 |some (some v)=>(vm v).bind fun y=>uF O r (a++p.1++y)
 |_=>none
mutual
def wE(K:PySem.W.Frag)(Y:List G)(E:XK):CE->TE
|.var i=>fun O H Q=>jc O i fun v=>Q v H
|.con v=>fun _ H Q=>Q v H
|.glo g=>fun _ H Q=>match Y[g]? with
 |some (.val v)=>Q v H
 |some (.tup a _)=>Q (.ref a) H
 |_=>False
|.bin op a b=>fun O H Q=>wE K Y E a O H fun x H1=>wE K Y E b O H1 fun y H2=>OQ K op x y H2 Q
|.neg a=>fun O H Q=>wE K Y E a O H fun x H1=>match x with
 |.int i=>Q (.int (-i)) H1
 |_=>False
|.not a=>fun O H Q=>wE K Y E a O H fun x H1=>kN K x H1 fun b=>Q (.bl (!b)) H1
|.and a b=>fun O H Q=>wE K Y E a O H fun x H1=>match x with
 |.bl c=>if c=true then wE K Y E b O H1 Q else Q (.bl false) H1
 |_=>False
|.or a b=>fun O H Q=>wE K Y E a O H fun x H1=>match x with
 |.bl c=>if c=true then Q (.bl true) H1 else wE K Y E b O H1 Q
 |_=>False
|.ite c a b=>fun O H Q=>wT K Y E c O H fun k H1=>if k=true then wE K Y E a O H1 Q else wE K Y E b O H1 Q
|.cmp op a b=>fun O H Q=>wE K Y E a O H fun x H1=>wE K Y E b O H1 fun y H2=>mH K op x y H2 Q
|.chain o1 o2 a b c=>fun O H Q=>wE K Y E a O H fun x H1=>wE K Y E b O H1 fun y H2=>mH K o1 x y H2 fun z H3=>match z with
 |.bl k=>if k=true then wE K Y E c O H3 fun u H4=>mH K o2 y u H4 Q else Q (.bl false) H3
 |_=>False
|.call g as=>fun O H Q=>match Y[g]? with
 |some (.fn sp dvs)=>wEs K Y E as O H fun vs H1=>sp (vs++dvs) H1 Q E
 |_=>False
|.blt f as=>fun O H Q=>wEs K Y E as O H fun vs H1=>zN K f vs H1 Q
|.isi a t=>fun O H Q=>wE K Y E a O H fun x H1=>rC K t x H1 fun b=>Q (.bl b) H1
|.mth m o as=>fun O H Q=>wE K Y E o O H fun x H1=>sY m x H1/\wEs K Y E as O H1 fun vs H2=>uc K m x vs H2 Q
|.ix a b=>fun O H Q=>wE K Y E a O H fun x H1=>wE K Y E b O H1 fun y H2=>Fp K x y H2 Q
|.sl a lo hi=>fun O H Q=>wE K Y E a O H fun x H1=>wO K Y E lo O H1 fun l H2=>wO K Y E hi O H2 fun h H3=>R4 K x l h H3 Q
|.lst as=>fun O H Q=>wEs K Y E as O H fun vs H1=>vs.length<=aa/\∀p,H1 p=none->Q (.ref p) (upd H1 p (.lst vs))
|.tup as=>fun O H Q=>wEs K Y E as O H fun vs H1=>vs.length<=aa/\∀p,H1 p=none->Q (.ref p) (upd H1 p (.tup vs))
|.dct=>fun _ H Q=>∀p,H p=none->Q (.ref p) (upd H p (.dK []))
|.fst ps=>fun O H Q=>∃y,uF O ps jj=some y/\y.length<=aa/\Q (.str y) H
|.comp nl fr elt tg src cond=>fun O H Q=>wI K Y E src O H fun ok items H1=>
  qB ok (wG K Y E0 tg) (wC K Y E0 cond) (wE K Y E0 elt) (fun vs H2=>∀p,H2 p=none->Q (.ref p) (upd H2 p (.lst vs))) items [] (nl.map (fun _=>none)++fr.map (fun i=>O.getD i none)) H1
|.mx1 up a=>fun O H Q=>wE K Y E a O H fun v H1=>∃a ns,v=.ref a/\gx K H1 a (ns.map V.int)/\ns≠[]/\Q (m_ up ns) H1
def wT(K:PySem.W.Frag)(Y:List G)(E:XK):CE->TT
|.not a=>fun O H Q=>wT K Y E a O H fun b H1=>Q (!b) H1
|.and a b=>fun O H Q=>wT K Y E a O H fun c H1=>if c=true then wT K Y E b O H1 Q else Q false H1
|.or a b=>fun O H Q=>wT K Y E a O H fun c H1=>if c=true then Q true H1 else wT K Y E b O H1 Q
|.ite c a b=>fun O H Q=>wT K Y E c O H fun k H1=>if k=true then wT K Y E a O H1 Q else wT K Y E b O H1 Q
|.cmp op a b=>fun O H Q=>wE K Y E a O H fun x H1=>wE K Y E b O H1 fun y H2=>mH K op x y H2 fun z H3=>match z with
 |.bl k=>Q k H3
 |_=>False
|.chain o1 o2 a b c=>fun O H Q=>wE K Y E a O H fun x H1=>wE K Y E b O H1 fun y H2=>mH K o1 x y H2 fun z H3=>match z with
 |.bl k=>if k=true then wE K Y E c O H3 fun u H4=>mH K o2 y u H4 fun z H5=>match z with
  |.bl k=>Q k H5
  |_=>False
  else Q false H3
 |_=>False
|.var i=>fun O H Q=>jc O i fun v=>kN K v H fun b=>Q b H
|.ix a b=>fun O H Q=>wE K Y E a O H fun x H1=>wE K Y E b O H1 fun y H2=>Fp K x y H2 fun v H3=>kN K v H3 fun b=>Q b H3
|.call g as=>fun O H Q=>match Y[g]? with
 |some (.fn sp dvs)=>wEs K Y E as O H fun vs H1=>sp (vs++dvs) H1 (fun x H2=>kN K x H2 fun b=>Q b H2) E
 |_=>False
|.blt f as=>fun O H Q=>wEs K Y E as O H fun vs H1=>zN K f vs H1 fun x H2=>kN K x H2 fun b=>Q b H2
|.isi a t=>fun O H Q=>wE K Y E a O H fun x H1=>rC K t x H1 fun b=>kN K (.bl b) H1 fun b=>Q b H1
|.mth m o as=>fun O H Q=>wE K Y E o O H fun x H1=>sY m x H1/\wEs K Y E as O H1 fun vs H2=>uc K m x vs H2 fun y H3=>kN K y H3 fun b=>Q b H3
|_=>fun _ _ _=>False
def wEs(K:PySem.W.Frag)(Y:List G)(E:XK):jB->TA
|.nil=>fun _ H Q=>Q [] H
|.cons a r=>fun O H Q=>wE K Y E a O H fun x H1=>wEs K Y E r O H1 fun xs H2=>Q (x::xs) H2
def wO(K:PySem.W.Frag)(Y:List G)(E:XK):CO->St->Hp->(Option Int->Hp->Prop)->Prop
|.none=>fun _ H Q=>Q none H
|.some a=>fun O H Q=>wE K Y E a O H fun x H1=>match x with
 |.int i=>Q (some i) H1
 |_=>False
def wC(K:PySem.W.Frag)(Y:List G)(E:XK):CO->TT
|.none=>fun _ H Q=>Q true H
|.some a=>wT K Y E a
def wG(K:PySem.W.Frag)(Y:List G)(E:XK):CG->TG
|.name i=>fun v O H Q=>Q (O.set i (some v)) H
|.tup gs=>fun v O H Q=>match v with
 |.ref a=>ua K H a fun t xs=>t=true/\xs.length=gs.len/\HY K Y E gs xs O H Q
 |_=>False
|.sub o i=>fun v O H Q=>wE K Y E o O H fun x H1=>wE K Y E i O H1 fun y H2=>match x with
 |.ref a=>match H2 a with
  |some (.lst xs)=>∃k j,y=.int k/\fL xs.length k=some j/\Q O (upd H2 a (.lst (xs.set j v)))
  |some (.dK kvs)=>∃k,y=kV k/\kvs.length<aa/\Q O (upd H2 a (.dK (putK kvs k v)))
  |some (.dT kvs)=>∃k b,y=.ref b/\H2 b=some (.tup (k.map kV))/\kvs.length<aa/\Q O (upd H2 a (.dT (putK kvs k v)))
  |_=>False
 |_=>False
def HY(K:PySem.W.Frag)(Y:List G)(E:XK):oV->y9
|.nil=>fun vs O H Q=>match vs with
 |[]=>Q O H
 |_=>False
|.cons g r=>fun vs O H Q=>match vs with
 |v::vr=>wG K Y E g v O H fun ZV H'=>HY K Y E r vr ZV H' Q
 |_=>False
def wI(K:PySem.W.Frag)(Y:List G)(E:XK):CI->R5
|.seq a=>fun O H k=>wE K Y E a O H fun x H1=>yy K x H1 k
|.range as=>fun O H k=>wEs K Y E as O H fun vs H1=>wX vs H1 k
|.enum a=>fun O H k=>wE K Y E a O H fun x H1=>match x with
 |.ref b=>∃xs,Rd H1 b (.lst xs)/\k (fun H'=>Rd H' b (.lst xs)) (mj 0 xs) H1
 |_=>False
end
mutual
def wS(K:PySem.W.Frag)(Y:List G)(E:XK):CS->TS
|.expr e=>fun D O H=>wE K Y E e O H fun _ H1=>D.nx O H1
|.asg g e=>fun D O H=>wE K Y E e O H fun x H1=>wG K Y E g x O H1 D.nx
|.casg i e=>fun D O H=>wE K Y E e O H fun x H1=>D.nx (O.set i (some x)) H1
|.ret e=>fun D O H=>wE K Y E e O H D.rt
|.ifs c a b=>fun D O H=>wT K Y E c O H fun k H1=>if k=true then wSs K Y E a D O H1 else wSs K Y E b D O H1
|.whil c b=>fun D O H=>∃W:Nat->St->Hp->Prop,(∃m,W m O H)/\∀m O H,W m O H->
  wT K Y E c O H fun k H1=>if k=true then ∃N:St->Hp->Prop,(∀ZV H',N ZV H'->∃m',m'<m/\W m' ZV H')/\wSs K Y E b { D with nx:=N,ct:=N,bk:=D.nx } O H1 else D.nx O H1
|.forr g src b=>fun D O H=>wI K Y E src O H fun ok items H1=>forL ok (wG K Y E g) (wSs K Y E b) D items O H1
|.fork g k b=>fun D O H=>jc O k fun v=>R6 v H fun ok items H1=>forL ok (wG K Y E g) (wSs K Y E b) D items O H1
|.brk=>fun D O H=>D.bk O H
|.cont=>fun D O H=>D.ct O H
|.never=>fun _ _ _=>False
def wSs(K:PySem.W.Frag)(Y:List G)(E:XK):bW->TS
|.nil=>fun D O H=>D.nx O H
|.cons s r=>fun D O H=>wS K Y E s { D with nx:=wSs K Y E r D } O H
|.two s t r=>fun D O H=>wS K Y E s { D with nx:=wS K Y E t { D with nx:=wSs K Y E r D } } O H
|.chg s r=>fun D O H=>wS K Y E s { D with nx:=wSs K Y E r D } O H
|.pin k r=>fun D O H=>jc O k fun v=>∃a kvs,v=.ref a/\H a=some (.dK kvs)/\∀ob,wSs K Y E r D O (upd H a (.br ob (.dK kvs)))
end
end L3
end
section
namespace L3
open PySem PySem.Spec PyProof.Rows L2
variable{K:PySem.W.Frag}{H:Hp}{a:Addr}{xs:List V}
theorem gi.sq{t:Bool}(h:gi K H a t xs):(t=false/\gx K H a xs)\/(t=true/\oS K H a xs):=by
 rcases h with h|⟨o,its,n,hk,hc,hd,hs,hz,r⟩
 ·unfold gC at h;split at h<;>first|(cases h)|skip
  ·exact .inl ⟨rfl,.inl (.inl (by assumption))⟩
  ·exact .inr ⟨rfl,.inl (.inl (by assumption))⟩
  ·exact .inl ⟨rfl,.inl (.inr ⟨_,by assumption⟩)⟩
  ·exact .inr ⟨rfl,.inl (.inr ⟨_,by assumption⟩)⟩
 ·cases t with
  |false=>exact .inl ⟨rfl,.inr ⟨o,its,n,hk,hc,hd,hs,hz,r⟩⟩
  |true=>exact .inr ⟨rfl,.inr ⟨o,its,n,hk,hc,hs,hz,r⟩⟩
theorem gi.nU(h:gi K H a true xs):oS K H a xs:=by
 rcases h.sq with⟨z,_⟩|⟨_,z⟩
 ·cases z
 ·exact z
theorem gi.HZ(h:gi K H a false xs):gx K H a xs:=by
 rcases h.sq with⟨_,z⟩|⟨z,_⟩
 ·exact z
 ·cases z
variable{pins:List (Addr×Obj)}{O:L2.St}{s:ak}
variable{A:cV}
variable{b:Addr}{its2:List Value}{ds es:List D}
variable{its:Array Value}{h:Heap}
variable{dx:D}
section
variable{X:Cx}
theorem toList_replicate(j:Nat)(x:Str):(⟨(aQ j x.cps).foldl (·++·) #[]⟩:Str)=⟨(aQ j x.cps.toList).flatten.toArray⟩:=by
 have h:∀(j:Nat) (acc:Array Nat),((aQ j x.cps).foldl (·++·) acc)=acc++(aQ j x.cps.toList).flatten.toArray:=by
  intro j;induction j with
  |zero=>intro acc;simp
  |succ j ih=>
   intro acc;rw[bN,nQ,ih,bN,cT];apply BS;simp
 rw[h];simp
theorem Js:jA X (gP .Mult) (fun x y H Q=>∃i j,x=.str i/\y=.int j/\(0<=j/\j<2 ^ 40/\i.length*j.toNat<=aa)/\Q (.str ⟨(aQ j.toNat i.cps.toList).flatten.toArray⟩) H):=by
 intro pins s O H x y v u Q I rx ry h;obtain⟨i,j,rfl,rfl,⟨h0,h1,h2⟩,q⟩:=h;obtain⟨t,rfl⟩:=rx;obtain⟨t',rfl⟩:=ry;have hs:aa=16777216:=dM;refine SB.mul ⟨?_,fun hn hc=>?_,fun hn hc=>?_⟩ fun t' k=>⟨.str (Jb i j),H,I.tok _,⟨_,rfl⟩,?_⟩
 ·have e1:decide (j < -(2 ^ 63:Int))=false:=decide_eq_false (by omega);have e2:decide (j≥2 ^ 63)=false:=decide_eq_false (by omega);rw[e1,e2];rfl
 ·have hj:0<j:=by omega
  intro hgt;have h3:(2 ^ 63-1) / j<(i.length:Int):=hgt;have h4:(2 ^ 63-1:Int)<(i.length:Int)*j:=(Int.ediv_lt_iff_lt_mul hj).mp h3;have h5:((i.length*j.toNat:Nat):Int)=(i.length:Int)*j:=by
   rw[Int.natCast_mul,Int.toNat_of_nonneg h0]
  omega
 ·unfold KY;simp only[decide_eq_false_iff_not];omega
 ·have e:Jb i j=⟨(aQ j.toNat i.cps.toList).flatten.toArray⟩:=by
   unfold Jb;by_cases h3:j<1
   ·have:j.toNat=0:=by omega
    rw[if_pos h3,this];rfl
   ·rw[if_neg h3];by_cases h4:(j==1||i.length==0)=true
    ·rw[if_pos h4];rw[Bool.or_eq_true]at h4;rcases h4 with h4|h4
     ·have:j=1:=by simpa using h4
      subst this;simp
     ·have h5:i.length=0:=by simpa using h4
      have h6:i.cps.toList=[]:=by
       apply gD;simpa[fU]using h5
      rw[h6];cases i with
      |mk c=>
       simp at h6;subst h6;simp
    ·rw[if_neg h4,toList_replicate]
  rw[e];exact q
theorem Inv.VR{l:Addr}(I:L2.Inv X pins O H s)(hH:Rd H l (.lst xs)):xs.length<=aa/\∃(its:List Value) (n:Nat),bB xs its/\xs.length=its.length/\s.heap.get? l=some { cls:=.type "list",data:=.seq its.toArray n }:=by
 obtain⟨z,its,n,r,e⟩:=hH.ok I.hok;exact⟨z,its,n,r,r.length,e⟩
theorem op_cat':jA X (gP .Add) (fun x y H Q=>∃l b xs zs,x=.ref l/\y=.ref b/\Rd H l (.lst xs)/\Rd H b (.lst zs)/\xs.length+zs.length<=aa/\∀p,H p=none->Q (.ref p) (upd H p (.lst (xs++zs)))):=by
 intro pins s O H x y v u Q I rx ry h;obtain⟨l,b,xs,zs,rfl,rfl,hH,hB,hz,q⟩:=h;cases rx;cases ry;obtain⟨z,its,n,r,hl,e⟩:=Inv.VR I hH;obtain⟨z2,its2,n2,r2,hl2,e2⟩:=Inv.VR I hB;refine PySem.P.add_list e e2 ?_ (by rw[aG,aG];omega);have ea:its.toArray++its2.toArray=(its++its2).toArray:=by simp
 rw[ea];exact⟨.ref _,_,I.Jm (t':=s.toks) (r.append r2) (by rw[az];omega),rfl,q _ I.fresh⟩
theorem op_rep':jA X (gP .Mult) (fun x y H Q=>∃l k xs,x=.ref l/\y=.int k/\Rd H l (.lst xs)/\-(2 ^ 63)<=k/\k<2 ^ 63/\xs.length*k.toNat<=aa/\∀p,H p=none->Q (.ref p) (upd H p (.lst (aQ k.toNat xs).flatten))):=by
 intro pins s O H x y v u Q I rx ry h;obtain⟨l,k,xs,rfl,rfl,hH,h1,h2,hz,q⟩:=h;cases rx;obtain⟨t,rfl⟩:=ry;obtain⟨z,its,n,r,hl,e⟩:=Inv.VR I hH;have hlen:its.toArray.size*k.toNat<=aa:=by rw[aG,<-hl];exact hz
 have hcap:¬its.toArray.size*k.toNat>(2 ^ 63-1) / 8:=by
  have:(aa:Nat)<=(2 ^ 63-1) / 8:=by decide
  omega
 have hfit:¬(!qa k)=true:=by
  rw[CN h1 h2];exact aR
 have hlong:¬iX (its.toArray.size*k.toNat)=true:=by
  rw[E_ hlen];exact aR
 have hnew:BK (fun x1 x2=>x1++x2) #[] (aQ (if its.toArray.isEmpty=true then 0 else k.toNat) its.toArray)=(aQ k.toNat its).flatten.toArray:=by
  have f0:∀m:Nat,BK (fun x1 x2=>x1++x2) #[] (aQ m its.toArray)=(aQ m its).flatten.toArray:=fun m=>by
   have:=foldl_rep its m [];rw[kU]at this;exact this
  rw[f0];cases its with
  |nil=>simp
  |cons a r'=>rw[if_neg (by simp)]
 refine wpAny_binaryOp_repeat_ref (T:="list") (U:="int") (by decide) ⟨_,e,rfl⟩ (fun s'=>BJ s' k t) noFill_list_mul F.fills_int_mul F.slot_int_rmul repeat_list F.slot_int_index.lookup
  (fV F.slot_int_rmul (BJ s k t) F.entry_int_rmul (F.args_int_rmul_2 _ _) (int___rmul___int_list k t l its.toArray n)
   ⟨e,rfl,⟨_,e,rfl⟩,fV F.slot_list_mul ⟨_,e,rfl⟩ F.entry_list_mul (F.args_list_mul_2 _ _) (zE l its.toArray n k t hfit hcap hlong) ⟨e,?_⟩⟩)
 rw[hnew];exact⟨.ref _,_,I.Jm (t':=s.toks) (r.rep k.toNat) (by rw[len_rep,GY];exact hz),rfl,q _ I.fresh⟩
theorem XJ(op:sy):jA X (gP op) (OQ X.K op):=by
 intro pins s O H x y v u Q I rx ry h;cases op<;>first|(cases x<;>first|exact ay h|(cases y<;>exact ay h))|skip
 case Add=>
  cases x<;>first|exact ay h|(cases y<;>first|exact ay h|skip)
  ·exact Vq pins s O H _ _ v u Q I rx ry ⟨_,_,rfl,rfl,h⟩
  ·exact Ji pins s O H _ _ v u Q I rx ry ⟨_,_,rfl,rfl,h⟩
  ·rcases h with⟨xs,ys,h1,h2,h3,h4⟩|⟨xs,ys,h1,h2,h3,h4,h5,h6⟩
   ·exact op_cat' pins s O H _ _ v u Q I rx ry ⟨_,_,xs,ys,rfl,rfl,h1,h2,h3,h4⟩
   ·have t1:=h1.nU;have t2:=h2.nU;exact Tn pins s O H _ _ v u Q I rx ry ⟨_,_,xs,ys,rfl,rfl,t1,t2,h3,h5,fun z=>absurd z h4,fun _=>h6⟩
 case Sub=>
  cases x<;>first|exact ay h|(cases y<;>first|exact ay h|skip)
  ·exact Vr pins s O H _ _ v u Q I rx ry ⟨_,_,rfl,rfl,h⟩
 case Mult=>
  cases x<;>first|exact ay h|(cases y<;>first|exact ay h|skip)
  ·exact Vs pins s O H _ _ v u Q I rx ry ⟨_,_,rfl,rfl,h⟩
  ·exact Js pins s O H _ _ v u Q I rx ry ⟨_,_,rfl,rfl,h⟩
  ·obtain⟨xs,h1,⟨h2,h3⟩,h4,h5⟩:=h;exact op_rep' pins s O H _ _ v u Q I rx ry ⟨_,_,xs,rfl,rfl,h1,h2,h3,h4,h5⟩
 case FloorDiv=>
  cases x<;>first|exact ay h|(cases y<;>first|exact ay h|skip)
  ·exact Tc pins s O H _ _ v u Q I rx ry ⟨_,_,rfl,rfl,h⟩
 case Mod=>
  cases x<;>first|exact ay h|(cases y<;>first|exact ay h|skip)
  ·exact Vt pins s O H _ _ v u Q I rx ry ⟨_,_,rfl,rfl,h⟩
 case Pow=>
  cases x<;>first|exact ay h|(cases y<;>first|exact ay h|skip)
  ·exact Vu pins s O H _ _ v u Q I rx ry ⟨_,_,rfl,rfl,h⟩
theorem Lu:jA X (f6 .LtE) (fun x y H Q=>∃i j,x=.str i/\y=.str j/\Q (.bl (!decide (j.cps.toList<i.cps.toList))) H):=by
 intro pins s O H x y v u Q I rx ry h;obtain⟨i,j,rfl,rfl,q⟩:=h;obtain⟨t,rfl⟩:=rx;obtain⟨t',rfl⟩:=ry;exact PySem.P.le_str (AJ I q rfl)
section
open PySem.SeqAt
variable{pins:List (Addr×Obj)}{O:L2.St}{H:Hp}{s:ak}
theorem aN.len':∀{ds:List D}{vs:List V},aN K H ds vs->vs.length=ds.length
|[],_,h=>by cases h;rfl
|d::ds,_,h=>by
 obtain⟨v,r,rfl,_,h3⟩:=h;simp[aN.len' h3]
theorem Rd.rD(h:Rd H a (.lst xs)):gx K H a xs:=.inl h
mutual
theorem B_(I:L2.Inv X pins O H s):∀(dx dy:D) (v:V) (n m:Nat),g6 dx n=true->g6 dy m=true->aY X.K H dx v->aY X.K H dy v->iF dx dy=true
|.non,dy,v,n,m,hn,hm,r,q=>by
 cases r;cases dy with
 |non=>rfl
 |str z=>cases q.1
 |lst o es=>obtain⟨a,vs,z,_⟩:=q;cases z
 |tup es=>obtain⟨a,vs,z,_⟩:=q;cases z
 |bY o ks es=>cases hm
 |pdc ks es=>cases hm
 |cst es=>cases hm
 |_=>cases q
|.bl b,dy,v,n,m,hn,hm,r,q=>by
 cases r;cases dy with
 |bl c=>cases q;simp[iF]
 |str z=>cases q.1
 |lst o es=>obtain⟨a,vs,z,_⟩:=q;cases z
 |tup es=>obtain⟨a,vs,z,_⟩:=q;cases z
 |bY o ks es=>cases hm
 |pdc ks es=>cases hm
 |cst es=>cases hm
 |_=>cases q
|.int b,dy,v,n,m,hn,hm,r,q=>by
 cases r;cases dy with
 |int c=>cases q;simp[iF]
 |str z=>cases q.1
 |lst o es=>obtain⟨a,vs,z,_⟩:=q;cases z
 |tup es=>obtain⟨a,vs,z,_⟩:=q;cases z
 |bY o ks es=>cases hm
 |pdc ks es=>cases hm
 |cst es=>cases hm
 |_=>cases q
|.str b,dy,v,n,m,hn,hm,r,q=>by
 obtain⟨rfl,_⟩:=r;cases dy with
 |str c=>cases q.1;simp[iF]
 |lst o es=>obtain⟨a,vs,z,_⟩:=q;cases z
 |tup es=>obtain⟨a,vs,z,_⟩:=q;cases z
 |bY o ks es=>cases hm
 |pdc ks es=>cases hm
 |cst es=>cases hm
 |_=>cases q
|.lst o ds,dy,v,n,m,hn,hm,r,q=>by
 obtain⟨a,vs,rfl,h2,h3,h4⟩:=r;cases n with
 |zero=>cases hn
 |succ n=>
 cases dy with
 |lst o' es=>
  obtain⟨a',us,e,k2,k3,k4⟩:=q;cases e;cases m with
  |zero=>cases hm
  |succ m=>
  have e:=I.zG (Rd.rD h2) (Rd.rD k2);subst e;exact zO I ds es vs n m hn hm h4 k4
 |tup es=>
  obtain⟨a',us,e,k2,k3,k4⟩:=q;cases e;obtain⟨its,_,⟨o1,n1,e1,c1,_⟩,_⟩:=I.list (Rd.rD h2);obtain⟨its2,_,⟨o2,e2,c2,_⟩,_⟩:=I.tuple (tupS k2).nU;rw[e1]at e2;cases e2;rw[c1]at c2;exact absurd c2 (by decide)
 |str z=>cases q.1
 |bY o ks es=>cases hm
 |pdc ks es=>cases hm
 |cst es=>cases hm
 |_=>cases q
|.tup ds,dy,v,n,m,hn,hm,r,q=>by
 obtain⟨a,vs,rfl,h2,h3,h4⟩:=r;cases n with
 |zero=>cases hn
 |succ n=>
 cases dy with
 |tup es=>
  obtain⟨a',us,e,k2,k3,k4⟩:=q;cases e;cases m with
  |zero=>cases hm
  |succ m=>
  have e:=I.CY (tupS h2).nU (tupS k2).nU;subst e;exact zO I ds es vs n m hn hm h4 k4
 |lst o es=>
  obtain⟨a',us,e,k2,k3,k4⟩:=q;cases e;obtain⟨its,_,⟨o1,n1,e1,c1,_⟩,_⟩:=I.list (Rd.rD k2);obtain⟨its2,_,⟨o2,e2,c2,_⟩,_⟩:=I.tuple (tupS h2).nU;rw[e1]at e2;cases e2;rw[c1]at c2;exact absurd c2 (by decide)
 |str z=>cases q.1
 |bY o ks es=>cases hm
 |pdc ks es=>cases hm
 |cst es=>cases hm
 |_=>cases q
|.bY _ _ _,dy,v,n,m,hn,hm,r,q=>by cases hn
|.pdc _ _,dy,v,n,m,hn,hm,r,q=>by cases hn
|.cst _,dy,v,n,m,hn,hm,r,q=>by cases hn
theorem zO(I:L2.Inv X pins O H s):∀(ds es:List D) (vs:List V) (n m:Nat),cA ds n=true->cA es m=true->aN X.K H ds vs->aN X.K H es vs->lQ ds es=true
|[],es,vs,n,m,hn,hm,r,q=>by
 cases r;cases es with
 |nil=>rfl
 |cons e es=>obtain⟨_,_,z,_⟩:=q;cases z
|d::ds,es,vs,n,m,hn,hm,r,q=>by
 obtain⟨v,r',rfl,r1,r2⟩:=r;cases es with
 |nil=>cases q
 |cons e es=>
  obtain⟨w,q',z,q1,q2⟩:=q;cases z;have hn':g6 d n=true/\cA ds n=true:=by simpa[cA]using hn
  have hm':g6 e m=true/\cA es m=true:=by simpa[cA]using hm
  show(iF d e&&lQ ds es)=true;rw[B_ I d e v n m hn'.1 hm'.1 r1 q1,zO I ds es r' n m hn'.2 hm'.2 r2 q2];rfl
end
structure Eqs (A:cV) (s:ak) (v u:Value) (b:Bool):Prop where
 eq:EqAt A s v u b
 rc:RcAt A s v u b
 ne:RcNeAt A s v u (!b)
def n_(A:cV)(s:ak):List D->List D->List Value->List Value->Prop
|d::ds,e::es,v::vs,u::us=>EqAt A s v u (iF d e)/\n_ A s ds es vs us
|_,_,_,_=>True
theorem n_.get:∀{ds es:List D}{vs us:List Value} (j:Nat) {d e:D}{v u:Value},n_ A s ds es vs us->ds[j]?=some d->es[j]?=some e->vs[j]?=some v->us[j]?=some u->EqAt A s v u (iF d e)
|d::ds,e::es,v::vs,u::us,0,_,_,_,_,h,a,b,c,f=>by
 simp at a b c f;subst a b c f;exact h.1
|d::ds,e::es,v::vs,u::us,j+1,_,_,_,_,h,a,b,c,f=>n_.get j h.2 (by simpa using a) (by simpa using b) (by simpa using c) (by simpa using f)
|[],_,_,_,j,_,_,_,_,_,a,_,_,_=>by simp at a
|_::_,[],_,_,j,_,_,_,_,_,_,b,_,_=>by simp at b
|_::_,_::_,[],_,j,_,_,_,_,_,_,_,c,_=>by simp at c
|_::_,_::_,_::_,[],j,_,_,_,_,_,_,_,_,f=>by simp at f
noncomputable def eqAt'(ds es:List D)(j:Nat):Bool:=match ds[j]?,es[j]? with
|some d,some e=>iF d e
|_,_=>true
theorem zP:∀(ds es:List D),ds.length=es.length->(bA ds.length).all (eqAt' ds es)=lQ ds es
|[],[],_=>rfl
|d::ds,e::es,h=>by
 have ih:=zP ds es (by simpa using h);rw[bz,List.range_succ_eq_map,kG,jX];show(iF d e&&(bA ds.length).all (eqAt' (d::ds) (e::es)∘Nat.succ))=(iF d e&&lQ ds es);rw[<-ih];congr 1
|[],_::_,h=>by simp at h
|_::_,[],h=>by simp at h
theorem zQ:∀(ds es:List D),ds.length≠es.length->lQ ds es=false
|[],[],h=>absurd rfl h
|[],_::_,_=>rfl
|_::_,[],_=>rfl
|d::ds,e::es,h=>by
 show(iF d e&&lQ ds es)=false;rw[zQ ds es (fun z=>h (by simp[z]))];simp
theorem Lv{its:List Value}(hl:s.heap.IsList a its.toArray)(hb:s.heap.IsList b its2.toArray)(l1:its.length=ds.length)(l2:its2.length=es.length)(hu:A.units<dc)(he:n_ A.in1 s ds es its its2) :
  RcAt A s (.ref a) (.ref b) (lQ ds es)/\RcNeAt A s (.ref a) (.ref b) (!lQ ds es):=by
 by_cases hz:ds.length=es.length
 ·have hsz:its.toArray.size=its2.toArray.size:=by simp;omega
  have he':∀j (h1:j<its.toArray.size) (h2:j<its2.toArray.size),EqAt A.in1 s its.toArray[j] its2.toArray[j] (eqAt' ds es j):=by
   intro j h1 h2;have g1:j<its.length:=by simpa using h1
   have g2:j<its2.length:=by simpa using h2
   have e1:=aj (l:=ds) (i:=j) (by omega);have e2:=aj (l:=es) (i:=j) (by omega);have:=he.get j e1 e2 (aj g1) (aj g2);unfold eqAt';rw[e1,e2];simpa using this
  have r1:=RcAt.lists hl hb hsz hu he';have r2:=RcNeAt.lists hl hb hsz hu he';have ez:its.toArray.size=ds.length:=by simp;omega
  rw[ez,zP ds es hz]at r1 r2;exact⟨r1,r2⟩
 ·have hsz:(its.toArray.size != its2.toArray.size)=true:=by simp;omega
  rw[zQ ds es hz];exact⟨RcAt.lists_lengths hl hb hsz hu,RcNeAt.lists_lengths hl hb hsz hu⟩
theorem Jt{its:List Value}(hl:s.heap.IsTuple a its.toArray)(hb:s.heap.IsTuple b its2.toArray)(l1:its.length=ds.length)(l2:its2.length=es.length)(hu:A.units<dc)(he:n_ A.in1 s ds es its its2) :
  RcAt A s (.ref a) (.ref b) (lQ ds es)/\RcNeAt A s (.ref a) (.ref b) (!lQ ds es):=by
 have he':∀j (h1:j<its.toArray.size) (h2:j<its2.toArray.size),EqAt A.in1 s its.toArray[j] its2.toArray[j] (eqAt' ds es j):=by
  intro j h1 h2;have g1:j<its.length:=by simpa using h1
  have g2:j<its2.length:=by simpa using h2
  have e1:=aj (l:=ds) (i:=j) (by omega);have e2:=aj (l:=es) (i:=j) (by omega);have:=he.get j e1 e2 (aj g1) (aj g2);unfold eqAt';rw[e1,e2];simpa using this
 have r1:=RcAt.tuples hl hb hu he';have r2:=RcNeAt.tuples hl hb hu he';have key:((bA (min its.toArray.size its2.toArray.size)).all (eqAt' ds es)&&its.toArray.size==its2.toArray.size)=lQ ds es:=by
  by_cases hz:ds.length=es.length
  ·have e1:min its.toArray.size its2.toArray.size=ds.length:=by simp;omega
   have e2:(its.toArray.size==its2.toArray.size)=true:=by simp;omega
   rw[e1,e2,zP ds es hz,ie]
  ·have e2:(its.toArray.size==its2.toArray.size)=false:=by simp;omega
   rw[e2,u5,zQ ds es hz]
 rw[key]at r1 r2;exact⟨r1,r2⟩
theorem PlainL.is(p:PlainL h a its):h.IsList a its:=by
 obtain⟨o,n,e,c,_,d⟩:=p;exact⟨o,e,c,n,d⟩
theorem IsTup.is(p:IsTup h a its):h.IsTuple a its:=p
mutual
theorem EF(I:L2.Inv X pins O H s):∀(dx dy:D) (n m:Nat) (x y:V) (v u:Value) (A:cV),g6 dx n=true->g6 dy m=true->aY X.K H dx x->L2.RelV x v->aY X.K H dy y->L2.RelV y u->A.units+n<dc->Eqs A s v u (iF dx dy)
|.non,dy,n,m,x,y,v,u,A,hn,hm,r,rv,q,qu,hu=>by
 have hu':A.units<dc:=by omega
 cases r;cases rv;cases dy with
 |non=>cases q;cases qu;exact⟨EqAt.same _,RcAt.none_none,RcNeAt.none_none⟩
 |bl b=>cases q;cases qu;exact⟨EqAt.none_bool b,RcAt.none_bool b,RcNeAt.none_bool b⟩
 |int i=>cases q;obtain⟨t,rfl⟩:=qu;exact⟨EqAt.none_int i t,RcAt.none_int i t,RcNeAt.none_int i t⟩
 |str z=>obtain⟨rfl,_⟩:=q;obtain⟨t,rfl⟩:=qu;exact⟨EqAt.none_str z t,RcAt.none_str z t,RcNeAt.none_str z t⟩
 |lst o es=>
  obtain⟨b,us,rfl,k2,k3,k4⟩:=q;cases qu;obtain⟨its,_,p,_⟩:=I.list (Rd.rD k2);exact⟨EqAt.none_list (PlainL.is p) hu',RcAt.none_list (PlainL.is p) hu',RcNeAt.none_list (PlainL.is p) hu'⟩
 |tup es=>
  obtain⟨b,us,rfl,k2,k3,k4⟩:=q;cases qu;obtain⟨its,_,p,_⟩:=I.tuple (tupS k2).nU;exact⟨EqAt.none_tuple (IsTup.is p) hu',RcAt.none_tuple (IsTup.is p) hu',RcNeAt.none_tuple (IsTup.is p) hu'⟩
 |bY _ _ _=>cases hm
 |pdc _ _=>cases hm
 |cst _=>cases hm
|.bl a,dy,n,m,x,y,v,u,A,hn,hm,r,rv,q,qu,hu=>by
 have hu':A.units<dc:=by omega
 cases r;cases rv;cases dy with
 |non=>cases q;cases qu;exact⟨EqAt.bool_none a,RcAt.bool_none a,RcNeAt.bool_none a⟩
 |bl b=>cases q;cases qu;exact⟨EqAt.bool_bool a b,RcAt.bool_bool a b,RcNeAt.bool_bool a b⟩
 |int i=>cases q;obtain⟨t,rfl⟩:=qu;exact⟨EqAt.bool_int a i t,RcAt.bool_int a i t,RcNeAt.bool_int a i t⟩
 |str z=>obtain⟨rfl,_⟩:=q;obtain⟨t,rfl⟩:=qu;exact⟨EqAt.bool_str a z t,RcAt.bool_str a z t,RcNeAt.bool_str a z t⟩
 |lst o es=>
  obtain⟨b,us,rfl,k2,k3,k4⟩:=q;cases qu;obtain⟨its,_,p,_⟩:=I.list (Rd.rD k2);exact⟨EqAt.bool_list a (PlainL.is p) hu',RcAt.bool_list a (PlainL.is p) hu',RcNeAt.bool_list a (PlainL.is p) hu'⟩
 |tup es=>
  obtain⟨b,us,rfl,k2,k3,k4⟩:=q;cases qu;obtain⟨its,_,p,_⟩:=I.tuple (tupS k2).nU;exact⟨EqAt.bool_tuple a (IsTup.is p) hu',RcAt.bool_tuple a (IsTup.is p) hu',RcNeAt.bool_tuple a (IsTup.is p) hu'⟩
 |bY _ _ _=>cases hm
 |pdc _ _=>cases hm
 |cst _=>cases hm
|.int a,dy,n,m,x,y,v,u,A,hn,hm,r,rv,q,qu,hu=>by
 have hu':A.units<dc:=by omega
 cases r;obtain⟨tt,rfl⟩:=rv;cases dy with
 |non=>cases q;cases qu;exact⟨EqAt.int_none a tt,RcAt.int_none a tt,RcNeAt.int_none a tt⟩
 |bl b=>cases q;cases qu;exact⟨EqAt.int_bool a tt b,RcAt.int_bool a tt b,RcNeAt.int_bool a tt b⟩
 |int i=>cases q;obtain⟨t,rfl⟩:=qu;exact⟨EqAt.int_int a tt i t,RcAt.int_int a tt i t,RcNeAt.int_int a tt i t⟩
 |str z=>obtain⟨rfl,_⟩:=q;obtain⟨t,rfl⟩:=qu;exact⟨EqAt.int_str a tt z t,RcAt.int_str a tt z t,RcNeAt.int_str a tt z t⟩
 |lst o es=>
  obtain⟨b,us,rfl,k2,k3,k4⟩:=q;cases qu;obtain⟨its,_,p,_⟩:=I.list (Rd.rD k2);exact⟨EqAt.int_list a tt (PlainL.is p) hu',RcAt.int_list a tt (PlainL.is p) hu',RcNeAt.int_list a tt (PlainL.is p) hu'⟩
 |tup es=>
  obtain⟨b,us,rfl,k2,k3,k4⟩:=q;cases qu;obtain⟨its,_,p,_⟩:=I.tuple (tupS k2).nU;exact⟨EqAt.int_tuple a tt (IsTup.is p) hu',RcAt.int_tuple a tt (IsTup.is p) hu',RcNeAt.int_tuple a tt (IsTup.is p) hu'⟩
 |bY _ _ _=>cases hm
 |pdc _ _=>cases hm
 |cst _=>cases hm
|.str a,dy,n,m,x,y,v,u,A,hn,hm,r,rv,q,qu,hu=>by
 have hu':A.units<dc:=by omega
 obtain⟨rfl,_⟩:=r;obtain⟨tt,rfl⟩:=rv;cases dy with
 |non=>cases q;cases qu;exact⟨EqAt.str_none a tt,RcAt.str_none a tt,RcNeAt.str_none a tt⟩
 |bl b=>cases q;cases qu;exact⟨EqAt.str_bool a tt b,RcAt.str_bool a tt b,RcNeAt.str_bool a tt b⟩
 |int i=>cases q;obtain⟨t,rfl⟩:=qu;exact⟨EqAt.str_int a tt i t,RcAt.str_int a tt i t,RcNeAt.str_int a tt i t⟩
 |str z=>obtain⟨rfl,_⟩:=q;obtain⟨t,rfl⟩:=qu;exact⟨EqAt.str_str a tt z t,RcAt.str_str a tt z t,RcNeAt.str_str a tt z t⟩
 |lst o es=>
  obtain⟨b,us,rfl,k2,k3,k4⟩:=q;cases qu;obtain⟨its,_,p,_⟩:=I.list (Rd.rD k2);exact⟨EqAt.str_list a tt (PlainL.is p) hu',RcAt.str_list a tt (PlainL.is p) hu',RcNeAt.str_list a tt (PlainL.is p) hu'⟩
 |tup es=>
  obtain⟨b,us,rfl,k2,k3,k4⟩:=q;cases qu;obtain⟨its,_,p,_⟩:=I.tuple (tupS k2).nU;exact⟨EqAt.str_tuple a tt (IsTup.is p) hu',RcAt.str_tuple a tt (IsTup.is p) hu',RcNeAt.str_tuple a tt (IsTup.is p) hu'⟩
 |bY _ _ _=>cases hm
 |pdc _ _=>cases hm
 |cst _=>cases hm
|.lst o ds,dy,n,m,x,y,v,u,A,hn,hm,r,rv,q,qu,hu=>by
 have hu':A.units<dc:=by omega
 have hr:=r;obtain⟨a,vs,rfl,h2,h3,h4⟩:=r;cases rv;obtain⟨its,rits,p,_⟩:=I.list (Rd.rD h2);have hn0:=hn;cases n with
 |zero=>cases hn
 |succ n=>
 cases dy with
 |non=>cases q;cases qu;exact⟨EqAt.list_none (PlainL.is p) hu',RcAt.list_none (PlainL.is p) hu',RcNeAt.list_none (PlainL.is p) hu'⟩
 |bl b=>cases q;cases qu;exact⟨EqAt.list_bool b (PlainL.is p) hu',RcAt.list_bool b (PlainL.is p) hu',RcNeAt.list_bool b (PlainL.is p) hu'⟩
 |int i=>cases q;obtain⟨t,rfl⟩:=qu;exact⟨EqAt.list_int i t (PlainL.is p) hu',RcAt.list_int i t (PlainL.is p) hu',RcNeAt.list_int i t (PlainL.is p) hu'⟩
 |str z=>obtain⟨rfl,_⟩:=q;obtain⟨t,rfl⟩:=qu;exact⟨EqAt.list_str z t (PlainL.is p) hu',RcAt.list_str z t (PlainL.is p) hu',RcNeAt.list_str z t (PlainL.is p) hu'⟩
 |lst o' es=>
  have hq:=q;obtain⟨b,us,rfl,k2,k3,k4⟩:=q;cases qu;obtain⟨its2,rits2,p2,_⟩:=I.list (Rd.rD k2);have hm0:=hm;cases m with
  |zero=>cases hm
  |succ m=>
  obtain⟨r1,r2⟩:=Lv (A:=A) (ds:=ds) (es:=es) (PlainL.is p) (PlainL.is p2) (by rw[<-rits.length,aN.len' h4]) (by rw[<-rits2.length,aN.len' k4]) hu' (Fq I ds es n m vs us its its2 A.in1 hn hm h4 rits k4 rits2 (by show A.units+1+n<dc;omega));refine⟨?_,r1,r2⟩;by_cases e:a=b
  ·subst e;have z:=B_ I (.lst o ds) (.lst o' es) (.ref a) (n+1) (m+1) hn0 hm0 hr hq;rw[z];exact EqAt.same _
  ·exact EqAt.of_refs e r1
 |tup es=>
  obtain⟨b,us,rfl,k2,k3,k4⟩:=q;cases qu;obtain⟨its2,_,p2,_⟩:=I.tuple (tupS k2).nU;exact⟨EqAt.list_tuple (PlainL.is p) (IsTup.is p2) hu',RcAt.list_tuple (PlainL.is p) (IsTup.is p2) hu',RcNeAt.list_tuple (PlainL.is p) (IsTup.is p2) hu'⟩
 |bY _ _ _=>cases hm
 |pdc _ _=>cases hm
 |cst _=>cases hm
|.tup ds,dy,n,m,x,y,v,u,A,hn,hm,r,rv,q,qu,hu=>by
 have hu':A.units<dc:=by omega
 have hr:=r;obtain⟨a,vs,rfl,h2,h3,h4⟩:=r;cases rv;obtain⟨its,rits,p,_⟩:=I.tuple (tupS h2).nU;have hn0:=hn;cases n with
 |zero=>cases hn
 |succ n=>
 cases dy with
 |non=>cases q;cases qu;exact⟨EqAt.tuple_none (IsTup.is p) hu',RcAt.tuple_none (IsTup.is p) hu',RcNeAt.tuple_none (IsTup.is p) hu'⟩
 |bl b=>cases q;cases qu;exact⟨EqAt.tuple_bool b (IsTup.is p) hu',RcAt.tuple_bool b (IsTup.is p) hu',RcNeAt.tuple_bool b (IsTup.is p) hu'⟩
 |int i=>cases q;obtain⟨t,rfl⟩:=qu;exact⟨EqAt.tuple_int i t (IsTup.is p) hu',RcAt.tuple_int i t (IsTup.is p) hu',RcNeAt.tuple_int i t (IsTup.is p) hu'⟩
 |str z=>obtain⟨rfl,_⟩:=q;obtain⟨t,rfl⟩:=qu;exact⟨EqAt.tuple_str z t (IsTup.is p) hu',RcAt.tuple_str z t (IsTup.is p) hu',RcNeAt.tuple_str z t (IsTup.is p) hu'⟩
 |tup es=>
  have hq:=q;obtain⟨b,us,rfl,k2,k3,k4⟩:=q;cases qu;obtain⟨its2,rits2,p2,_⟩:=I.tuple (tupS k2).nU;have hm0:=hm;cases m with
  |zero=>cases hm
  |succ m=>
  obtain⟨r1,r2⟩:=Jt (A:=A) (ds:=ds) (es:=es) (IsTup.is p) (IsTup.is p2) (by rw[<-rits.length,aN.len' h4]) (by rw[<-rits2.length,aN.len' k4]) hu' (Fq I ds es n m vs us its its2 A.in1 hn hm h4 rits k4 rits2 (by show A.units+1+n<dc;omega));refine⟨?_,r1,r2⟩;by_cases e:a=b
  ·subst e;have z:=B_ I (.tup ds) (.tup es) (.ref a) (n+1) (m+1) hn0 hm0 hr hq;rw[z];exact EqAt.same _
  ·exact EqAt.of_refs e r1
 |lst o es=>
  obtain⟨b,us,rfl,k2,k3,k4⟩:=q;cases qu;obtain⟨its2,_,p2,_⟩:=I.list (Rd.rD k2);exact⟨EqAt.tuple_list (IsTup.is p) (PlainL.is p2) hu',RcAt.tuple_list (IsTup.is p) (PlainL.is p2) hu',RcNeAt.tuple_list (IsTup.is p) (PlainL.is p2) hu'⟩
 |bY _ _ _=>cases hm
 |pdc _ _=>cases hm
 |cst _=>cases hm
|.bY _ _ _,dy,n,m,x,y,v,u,A,hn,hm,r,rv,q,qu,hu=>by cases hn
|.pdc _ _,dy,n,m,x,y,v,u,A,hn,hm,r,rv,q,qu,hu=>by cases hn
|.cst _,dy,n,m,x,y,v,u,A,hn,hm,r,rv,q,qu,hu=>by cases hn
theorem Fq(I:L2.Inv X pins O H s):∀(ds es:List D) (n m:Nat) (vs us:List V) (its its2:List Value) (A:cV),cA ds n=true->cA es m=true->aN X.K H ds vs->bB vs its->aN X.K H es us->bB us its2->A.units+n<dc->n_ A s ds es its its2
|[],es,n,m,vs,us,its,its2,A,hn,hm,r,rv,q,qu,hu=>by cases its<;>trivial
|d::ds,[],n,m,vs,us,its,its2,A,hn,hm,r,rv,q,qu,hu=>by cases its<;>trivial
|d::ds,e::es,n,m,vs,us,its,its2,A,hn,hm,r,rv,q,qu,hu=>by
 have hn':g6 d n=true/\cA ds n=true:=by simpa[cA]using hn
 have hm':g6 e m=true/\cA es m=true:=by simpa[cA]using hm
 obtain⟨x,vr,rfl,r1,r2⟩:=r;obtain⟨y,ur,rfl,q1,q2⟩:=q;cases rv with
 |cons rv1 rv2=>
  cases qu with
  |cons qu1 qu2=>
   exact⟨(EF I d e n m x y _ _ A hn'.1 hm'.1 r1 rv1 q1 qu1 hu).eq,Fq I ds es n m vr ur _ _ A hn'.2 hm'.2 r2 rv2 q2 qu2 hu⟩
end
end
theorem XM(hu:X.A.units+60<dc):jA X (f6 .Eq) (fun x y H Q=>∃dx dy,aY X.K H dx x/\aY X.K H dy y/\cF dx=true/\cF dy=true/\Q (.bl (iF dx dy)) H):=by
 intro pins s O H x y v u Q I rx ry h;obtain⟨dx,dy,h1,h2,h3,h4,q⟩:=h;exact(EF I dx dy 12 12 x y v u X.A h3 h4 h1 rx h2 ry (by omega)).rc X.prog X.w X.xe _ ⟨.bl (iF dx dy),H,I,rfl,q⟩
theorem XN(hu:X.A.units+60<dc):jA X (f6 .NotEq) (fun x y H Q=>∃dx dy,aY X.K H dx x/\aY X.K H dy y/\cF dx=true/\cF dy=true/\Q (.bl (!iF dx dy)) H):=by
 intro pins s O H x y v u Q I rx ry h;obtain⟨dx,dy,h1,h2,h3,h4,q⟩:=h;exact(EF I dx dy 12 12 x y v u X.A h3 h4 h1 rx h2 ry (by omega)).ne X.prog X.w X.xe _ ⟨.bl (!iF dx dy),H,I,rfl,q⟩
theorem AV{x:Value}:∀(ds:List D) (its:List Value),its.length=ds.length->(∀(j:Nat) d v,ds[j]?=some d->its[j]?=some v->PySem.SeqAt.EqAt A s v x (iF d dx))->
  ∃e:Value->Bool,(∀y,y∈its.toArray->PySem.SeqAt.EqAt A s y x (e y))/\its.toArray.any e=memD dx ds:=by
 intro ds its hl he
 classical
 refine⟨fun v=>decide (∃(j:Nat) (d:D),its[j]?=some v/\ds[j]?=some d/\iF d dx=true),fun y hy=>?_,?_⟩
 ·have hy:y∈its:=by simpa using hy
  obtain⟨j,hj,ej⟩:=nV hy;dsimp only;by_cases h:∃(j:Nat) (d:D),its[j]?=some y/\ds[j]?=some d/\iF d dx=true
  ·rw[decide_eq_true h];obtain⟨k,d,h1,h2,h3⟩:=h;have:=he k d y h2 h1;rw[h3]at this;exact this
  ·rw[decide_eq_false h];have e1:ds[j]?=some ds[j]:=aj (by omega);have e2:its[j]?=some y:=by rw[aj hj,ej]
   have:=he j _ y e1 e2;cases q:iF ds[j] dx with
   |true=>exact absurd ⟨j,_,e2,e1,q⟩ h
   |false=>rw[q]at this;exact this
 ·rw[eE];unfold memD;simp only[List.any_toArray,AA,decide_eq_true_eq];constructor
  ·rintro⟨v,_,j,d,h1,h2,h3⟩;exact⟨d,ki h2,h3⟩
  ·rintro⟨d,hd,h3⟩;obtain⟨j,hj,ej⟩:=nV hd;have g1:its[j]?=some its[j]:=aj (by omega);exact⟨its[j],gQ _,j,d,g1,by rw[aj hj,ej],h3⟩
theorem rE(hu:X.A.units+60<dc)(I:L2.Inv X pins O H s){x:V}{v:Value}(rx:aY X.K H dx x)(rv:L2.RelV x v)(hx:g6 dx 12=true) :
 ∀{ds:List D}{xs:List V}{its:List Value},aN X.K H ds xs->bB xs its->cA ds 12=true->∀(j:Nat) d w,ds[j]?=some d->its[j]?=some w->PySem.SeqAt.EqAt X.A.in1 s w v (iF d dx)
|[],_,_,_,_,_,j,d,w,h,_=>by simp at h
|e::ds,_,_,r,rr,ho,j,d,w,h1,h2=>by
 obtain⟨y,ys,rfl,r1,r2⟩:=r;have ho':g6 e 12=true/\cA ds 12=true:=by simpa[cA]using ho
 cases rr with
 |cons ra rb=>
  cases j with
  |zero=>
   simp at h1 h2;subst h1 h2;exact(EF I e dx 12 12 y x _ v X.A.in1 ho'.1 hx r1 ra rx rv (by show X.A.units+1+12<dc;omega)).eq
  |succ j=>exact rE hu I rx rv hx r2 rb ho'.2 j d w (by simpa using h1) (by simpa using h2)
theorem yz(hu:X.A.units+60<dc)(op:nN):jA X (f6 op) (mH X.K op):=by
 intro pins s O H x y v u Q I rx ry h;unfold mH at h;split at h
 ·exact Xv pins s O H _ _ v u Q I rx ry ⟨_,_,rfl,rfl,h⟩
 ·exact Xw pins s O H _ _ v u Q I rx ry ⟨_,_,rfl,rfl,h⟩
 ·exact Xx pins s O H _ _ v u Q I rx ry ⟨_,_,rfl,rfl,h⟩
 ·exact Xy pins s O H _ _ v u Q I rx ry ⟨_,_,rfl,rfl,h⟩
 ·exact Lc pins s O H _ _ v u Q I rx ry ⟨_,_,rfl,rfl,h⟩
 ·exact Lu pins s O H _ _ v u Q I rx ry ⟨_,_,rfl,rfl,h⟩
 ·exact XM hu pins s O H _ _ v u Q I rx ry h
 ·exact XN hu pins s O H _ _ v u Q I rx ry h
 ·exact Vw pins s O H _ _ v u Q I rx ry ⟨rfl,h⟩
 ·exact Td pins s O H _ _ v u Q I rx ry ⟨rfl,h⟩
 ·rename_i a;cases(show u=bV a from ry);rcases h with⟨t,xs,dx,ds,hx,h1,h2,h3,h4,q⟩|⟨kvs,k,hk,rfl,q⟩
  ·cases t with
   |false=>
    obtain⟨its,r,p,_⟩:=I.list hx.HZ;obtain⟨e,e1,e2⟩:=AV (A:=X.A.in1) (s:=s) (x:=v) (dx:=dx) ds its (by rw[<-r.length,aN.len' h2]) (rE hu I h1 rx h3 h2 r h4);exact PySem.SeqAt.in_listAt e (PlainL.is p) e1 ⟨.bl (its.toArray.any e),H,I,rfl,by rw[e2];exact q⟩
   |true=>
    obtain⟨its,r,p,_⟩:=I.tuple hx.nU;obtain⟨e,e1,e2⟩:=AV (A:=X.A.in1) (s:=s) (x:=v) (dx:=dx) ds its (by rw[<-r.length,aN.len' h2]) (rE hu I h1 rx h3 h2 r h4);exact PySem.SeqAt.in_tupleAt e (IsTup.is p) e1 ⟨.bl (its.toArray.any e),H,I,rfl,by rw[e2];exact q⟩
  ·exact Zm (by omega) I (.inl ⟨kvs,k,hk,rfl,rfl⟩) rx fun s3 I3=>⟨.bl (fM kvs k).isSome,H,I3,rfl,q⟩
 ·rename_i a;cases(show u=bV a from ry);rcases h with⟨t,xs,dx,ds,hx,h1,h2,h3,h4,q⟩|⟨kvs,k,hk,rfl,q⟩
  ·cases t with
   |false=>
    obtain⟨its,r,p,_⟩:=I.list hx.HZ;obtain⟨e,e1,e2⟩:=AV (A:=X.A.in1) (s:=s) (x:=v) (dx:=dx) ds its (by rw[<-r.length,aN.len' h2]) (rE hu I h1 rx h3 h2 r h4);exact PySem.SeqAt.notIn_listAt e (PlainL.is p) e1 ⟨.bl (!its.toArray.any e),H,I,rfl,by rw[e2];exact q⟩
   |true=>
    obtain⟨its,r,p,_⟩:=I.tuple hx.nU;obtain⟨e,e1,e2⟩:=AV (A:=X.A.in1) (s:=s) (x:=v) (dx:=dx) ds its (by rw[<-r.length,aN.len' h2]) (rE hu I h1 rx h3 h2 r h4);exact PySem.SeqAt.notIn_tupleAt e (IsTup.is p) e1 ⟨.bl (!its.toArray.any e),H,I,rfl,by rw[e2];exact q⟩
  ·exact Tu (by omega) I (.inl ⟨kvs,k,hk,rfl,rfl⟩) rx fun s3 I3=>⟨.bl (!(fM kvs k).isSome),H,I3,rfl,q⟩
 ·exact h.elim
theorem R7:Vn X (fun x H Q=>kN X.K x H fun b=>Q b H):=by
 intro pins s O H x v Q I rx h;refine Vx pins s O H x v Q I rx ?_;cases x with
 |bl b=>exact⟨b,rfl,h⟩
 |non=>exact⟨false,rfl,h⟩
 |int i=>exact⟨_,rfl,h⟩
 |str z=>
  obtain⟨hz,h⟩:=h;refine⟨_,⟨hz,rfl⟩,?_⟩;have e:((z.length:Int) != 0)=(z.length != 0):=by
   rw[eE];simp
  rw[e];exact h
 |ref a=>
  rcases h with⟨t,xs,hx,h⟩|⟨kvs,hk,h⟩
  ·refine⟨_,?_,h⟩;rcases hx.sq with⟨_,z⟩|⟨_,z⟩
   ·exact .inl ⟨xs,z,rfl⟩
   ·exact .inr (.inl ⟨xs,z,rfl⟩)
  ·exact⟨_,.inr (.inr ⟨kvs,hk,rfl⟩),h⟩
 |_=>exact ay h
theorem TH(hu:X.A.units+60<dc):E5 X (fun x y H Q=>∃a kvs k v,x=.ref a/\Rd H a (.dK kvs)/\y=kV k/\fM kvs k=some v/\Q v H):=by
 intro value slice pins s O H x y v u Q I rx ry h hs;obtain⟨a,kvs,k,z,rfl,hk,rfl,e,q⟩:=h;cases(show v=bV a from rx);have g:wV H a (kV k) (some z):=.inl ⟨kvs,k,hk,rfl,e.symm⟩;have hT:=zb I g;unfold p7;refine au ?_;rw[u9 hT.not_modules];refine au (BU hT PySem.F.slot_dict_getitem.lookup ?_);have fin:aH (aF X.prog X.w) X.A (uy slice false (.ref a) u) (fun r Z8=>aH (aF X.prog X.w) X.A (CP value (.ref a) r >>= fun _=>pure r) (EP X pins O Q) X.xe Z8) X.xe s:=by
  rw[hs];exact BV (kh (C6 (by omega) I g ry fun w' s3 I3 rw'=>(⟨z,H,I3,rw',q⟩:EP X pins O Q w' s3)) (fun r Z8 aab=>au (vW (bh aab))) fun _ _ x=>x)
 first
  |exact bh (au fin)
  |exact au (bh (au fin))
  |exact au fin
theorem OR(hu:X.A.units+60<dc):E5 X (fun x y H Q=>∃a kvs k b v,x=.ref a/\Rd H a (.dT kvs)/\y=.ref b/\H b=some (.tup (k.map kV))/\fM kvs k=some v/\Q v H):=by
 intro value slice pins s O H x y v u Q I rx ry h hs;obtain⟨a,kvs,k,b,z,rfl,hk,rfl,hb,e,q⟩:=h;cases(show v=bV a from rx);have g:wV H a (.ref b) (some z):=.inr ⟨kvs,k,b,hk,rfl,hb,e.symm⟩;have hT:=zb I g;unfold p7;refine au ?_;rw[u9 hT.not_modules];refine au (BU hT PySem.F.slot_dict_getitem.lookup ?_);have fin:aH (aF X.prog X.w) X.A (uy slice false (.ref a) u) (fun r Z8=>aH (aF X.prog X.w) X.A (CP value (.ref a) r >>= fun _=>pure r) (EP X pins O Q) X.xe Z8) X.xe s:=by
  rw[hs];exact BV (kh (C6 (by omega) I g ry fun w' s3 I3 rw'=>(⟨z,H,I3,rw',q⟩:EP X pins O Q w' s3)) (fun r Z8 aab=>au (vW (bh aab))) fun _ _ x=>x)
 first
  |exact bh (au fin)
  |exact au (bh (au fin))
  |exact au fin
theorem Zo(hu:X.A.units+60<dc):E5 X (Fp X.K):=by
 intro value slice pins s O H x y v u Q I rx ry h;unfold Fp at h;split at h
 ·obtain⟨hz,c,e,q⟩:=h;exact VF value slice pins s O H _ _ v u Q I rx ry ⟨_,_,c,rfl,rfl,hz,e,q⟩
 ·rcases h with⟨t,xs,i,w,rfl,hx,e,q⟩|⟨kvs,k,w,hk,rfl,e,q⟩|⟨kvs,k,b,w,hk,rfl,hb,e,q⟩
  ·rcases hx.sq with⟨_,z⟩|⟨_,z⟩
   ·exact To value slice pins s O H _ _ v u Q I rx ry ⟨_,xs,_,w,rfl,rfl,z,e,q⟩
   ·exact VE value slice pins s O H _ _ v u Q I rx ry ⟨_,xs,_,w,rfl,rfl,z,e,q⟩
  ·exact TH hu value slice pins s O H _ _ v u Q I rx ry ⟨_,kvs,k,w,rfl,hk,rfl,e,q⟩
  ·exact OR hu value slice pins s O H _ _ v u Q I rx ry ⟨_,kvs,k,b,w,rfl,hk,rfl,hb,e,q⟩
 ·exact h.elim
end
theorem EG(n d:Nat)(v:Int):max 0 (min (if v<0 then v+(n:Int)else v) (n:Int))=((HT.j4 n d (some v):Nat):Int):=by
 show max 0 (min (if v<0 then v+(n:Int)else v) (n:Int))=(((if v<0 then(v+(n:Int)).toNat else min v.toNat n):Nat):Int);by_cases hv:v<0
 ·simp only[if_pos hv];omega
 ·simp only[if_neg hv];omega
theorem Ca(a b:Nat):KR (a:Int) (b:Int) 1=(bA (b-a)).map fun m=>a+m:=by
 unfold KR;have h1:(1:Int)>0:=by omega
 simp only[h1,if_true];have e3:(if(a:Int)<(b:Int)then((b:Int)-(a:Int)+1-1) / 1 else 0).toNat=b-a:=by
  split<;>omega
 rw[e3];congr 1;funext k;omega
theorem idx_eq(lo hi:Option Int)(n:Nat):dh lo hi 1 n=(bA (HT.j4 n n hi-HT.j4 n 0 lo)).map fun m=>HT.j4 n 0 lo+m:=by
 rw[<-Ca];have h1:(1:Int)>0:=by omega
 unfold dh;simp only[h1,if_true];cases lo with
 |none=>cases hi with
  |none=>rfl
  |some v=>simp only[EG n n v];rfl
 |some w=>cases hi with
  |none=>simp only[EG n 0 w];rfl
  |some v=>simp only[EG n n v,EG n 0 w]
variable{α:Type}
theorem Ju(l:List α)(i:Nat):∀k:Nat,((bA k).map fun(m:Nat)=>i+m).filterMap (l[·]?)=(l.drop i).take k:=by
 intro k;induction k with
 |zero=>simp
 |succ k ih=>
  rw[BW,a_,List.filterMap_append,ih,List.map_singleton,gJ,List.filterMap_nil];cases h:l[i+k]? with
  |none=>
   have hl:l.length<=i+k:=List.getElem?_eq_none_iff.mp h;simp only[bI];rw[cu (by rw[dN];omega),cu (by rw[dN];omega)]
  |some c=>
   rw[u_,yl,h];rfl
theorem Ft(a:Array Nat):∀is:List Nat,is.filterMap (a[·]?)=is.filterMap (a.toList[·]?)
|[]=>rfl
|i::r=>by
 rw[gJ,gJ,Ft a r,jY]
theorem Fv(x:Str)(lo hi:Option Int):(dh lo hi 1 x.length).filterMap (x.cps[·]?)=cut x.cps.toList lo hi:=by
 have len:x.cps.toList.length=x.length:=by simp[fU]
 rw[Ft,idx_eq,Ju];unfold cut;rw[len]
theorem VS(l:List α)(lo hi:Option Int):(cut l lo hi).length<=l.length:=by
 unfold cut;rw[eT,dN];omega
theorem TJ(x:Str)(lo hi:Option Int)(h:(dh lo hi 1 x.length).length=x.length):cut x.cps.toList lo hi=x.cps.toList:=by
 have len:x.cps.toList.length=x.length:=by simp[fU]
 rw[idx_eq,ah,qq]at h;have h2:=HT.VC x.length x.length (aB _) hi;unfold cut;rw[len];by_cases hz:x.length=0
 ·have:x.cps.toList=[]:=gD (by omega);rw[this];simp
 ·have e0:HT.j4 x.length 0 lo=0:=by omega
  rw[e0,jZ,cu (by omega)]
section
variable{X:Cx}
theorem Zp:VD X (R4 X.K):=by
 intro pins s O H x v vl vu lo hi sl Q I rx hs pl pu h;unfold R4 at h;split at h
 ·rename_i z;obtain⟨hz,q⟩:=h;obtain⟨t,rfl⟩:=rx;refine⟨"str",_,Aw.lookup,gY s z t,?_⟩;have key:∀l u:Option (Int×Tok),vl=partValue l->vu=partValue u->l.map (·.1)=lo->u.map (·.1)=hi->aH (aF X.prog X.w) X.A (yM (.str z t) (.ref sl)) (EP X pins O Q) X.xe s:=by
   rintro l u rfl rfl rfl rfl;have hs':s.heap.IsSlice sl l u none:=hs;refine wpAny_getItem_str_slice (st:=none) hs' rfl ?_;have len:z.cps.toList.length=z.length:=by simp[fU]
   have hle:=VS z.cps.toList (l.map (·.1)) (u.map (·.1));have ec:=Fv z (l.map (·.1)) (u.map (·.1));have fin:∀t' k,EP X pins O Q (.str ⟨(cut z.cps.toList (l.map (·.1)) (u.map (·.1))).toArray⟩ t') { s with toks:=k }:=fun t' k=>⟨V.str ⟨(cut z.cps.toList (l.map (·.1)) (u.map (·.1))).toArray⟩,H,I.tok _,⟨t',rfl⟩,q⟩;show(if((1:Int)==1&&(dh (l.map (·.1)) (u.map (·.1)) 1 z.length).length==z.length)=true then Made.val (.str z t)else Made.str ⟨((dh (l.map (·.1)) (u.map (·.1)) 1 z.length).filterMap (z.cps[·]?)).toArray⟩).post (EP X pins O Q) s;rw[ec];by_cases hc:((1:Int)==1&&(dh (l.map (·.1)) (u.map (·.1)) 1 z.length).length==z.length)=true
   ·rw[if_pos hc];have hall:cut z.cps.toList (l.map (·.1)) (u.map (·.1))=z.cps.toList:=TJ z _ _ (by
     rw[aU]at hc;simpa using hc.2)
    have f:=fin t s.toks;rw[hall]at f;exact f
   ·rw[if_neg hc];exact⟨by show(List.toArray _).size<=aa;rw[aG];omega,fin _ _⟩
  cases pl with
  |none=>cases pu with
   |none=>exact key none none rfl rfl rfl rfl
   |int j tj=>exact key none (some (j,tj)) rfl rfl rfl rfl
  |int i ti=>cases pu with
   |none=>exact key (some (i,ti)) none rfl rfl rfl rfl
   |int j tj=>exact key (some (i,ti)) (some (j,tj)) rfl rfl rfl rfl
 ·rcases h with⟨t,xs,hx,ht,q⟩|⟨n,xs,hx,rfl,rfl,h1,h2,q⟩
  ·rcases hx.sq with⟨_,z⟩|⟨hf,z⟩
   ·exact Tp pins s O H _ v vl vu lo hi sl Q I rx hs pl pu ⟨_,xs,rfl,z,q⟩
   ·rw[ht]at hf;cases hf
  ·cases rx;obtain⟨its,r,pt,hz⟩:=I.tuple hx.nU;have hlen:=r.length;cases pl with
   |int _ tl=>
    cases pu;refine⟨"tuple",_,ye.lookup,IsTup.typeIs pt,?_⟩;refine getItem_tuple_from pt hs h1 (by rw[aG];omega) ?_ (by rw[aG];omega);refine⟨.ref s.heap.objs.size,_,I.laid (t':=s.toks) (o:=.tup (xs.drop n)) (fun b ob q=>aP _ q) (aB _) ⟨by rw[dN];omega,its.drop n,r.drop n,IsTup.new _ _⟩,rfl,q _ (I.hok.fresh (aB _))⟩
 ·exact h.elim
end
noncomputable def Bf.val:Bf->Value
|.len=>.builtin "len"|.all=>.builtin "all"|.int=>.type "int"|.str=>.type "str"|.list=>.type "list"|.sum=>.builtin "sum"|.max=>.builtin "max"|.sorted=>.builtin "sorted"
theorem Bf.boot:∀f:Bf,nL f.name=some f.val:=by
 intro f;cases f<;>decide +kernel
theorem Bf.ok(f:Bf):f.name≠"__name__"/\(f.name==("__debug__":Str))=false:=by
 cases f<;>decide +kernel
variable{P:bx}{w:bL}
section
variable{X:Cx}
theorem qC{Q:Value->ak->Prop}{E:Value->ak->Prop}(hc:X.calm=true)(I:L2.Inv X pins O H s)(hx:gx X.K H a xs)
  (h:∀(its:List Value),bB xs its->xs.length<=aa->∀Z1:ak,Z1={ s with heap:=s.heap.push { cls:=.type "list_iterator",data:=.fields #[.ref a,.int 0 0] } }->
   Walks X.prog X.w X.A.in1 s.heap.objs.size [s.heap.objs.size,a] [s.heap.objs.size] its.toArray.size (fun i v=>its.toArray[i]?=some v) (fun i h=>h.IsListIter s.heap.objs.size a i/\h.IsList a its.toArray)->
   (Z1.heap.IsListIter s.heap.objs.size a 0/\Z1.heap.IsList a its.toArray)->(∀b∈[s.heap.objs.size,a],b<Z1.heap.objs.size)->
   (∀h' tk,(∀b o,b∉[s.heap.objs.size]->Z1.heap.get? b=some o->h'.get? b=some o)->L2.Inv X pins O H { Z1 with heap:=h',toks:=tk })->Q (.ref s.heap.objs.size) Z1) :
  aH (aF X.prog X.w) X.A.in1 (u0 (.ref a)) Q E s:=by
 obtain⟨its,r,pl,hz⟩:=I.list hx;have hlt:a<s.heap.objs.size:=by obtain⟨o,n,e,_⟩:=pl;exact a8 e
 refine yR pl.isList ?_;have hh:X.A.in1.handled=none:=I.ok.hd hc;refine h its r hz _ rfl (Walks.list hh s.heap.objs.size a (bT hlt) its.toArray) ⟨⟨_,bJ _ rfl,rfl,rfl⟩,pl.isList.push _⟩ (fun b hb=>?_) fun h' tk k=>?_
 ·show b<(s.heap.push _).objs.size;rw[lJ];rcases aE.mp hb with rfl|hb
  ·exact kj _
  ·rw[aM.mp hb];exact qv hlt
 ·exact I.kept fun b o e=>k b o (fun z=>absurd (a8 e) (by rw[aM.mp z];exact cM _)) (aP _ e)
theorem range_all{p:Nat->Bool}(f:V->Bool)(h:∀i x,xs[i]?=some x->p i=f x):(bA xs.length).all p=xs.all f:=by
 rw[eE,bH,bH];constructor
 ·intro q x hx;obtain⟨i,hi⟩:=nS hx;rw[<-h i x hi];exact q i (oH.mpr (bQ.mp hi).1)
 ·intro q i hi;have hi:=oH.mp hi;rw[h i xs[i] (aj hi)];exact q _ (gQ hi)
theorem El(hc:X.calm=true):mh X (.builtin "all") (fun vs H Q=>∃a xs,vs=[.ref a]/\gx X.K H a xs/\EE xs=true/\Q (.bl (xs.all wW)) H):=by
 intro pins s O H vs us Q I r h;obtain⟨a,xs,rfl,hx,hb,q⟩:=h;obtain⟨u,rfl,ru⟩:=vals1 r;cases ru;refine call_all_walk (qC hc I hx fun its rv hz Z1 e W st hfp fin=>⟨_,_,_,_,_,_,fun i=>(xs[i]?.map wW).getD false,rfl,W,st,?_,fun h' tk k=>?_⟩)
 ·intro i v s' Q' E' hP hQ;have hi:its[i]?=some v:=by simpa using hP
  have hlen:=rv.length;have hl:i<xs.length:=by
   have:=(bQ.mp hi).1;omega
  have hxi:xs[i]?=some xs[i]:=aj hl;obtain⟨u,hu,ru⟩:=rv.get hxi;rw[hi]at hu;cases hu;have hQ:Q' ((xs[i]?.map wW).getD false) s':=hQ;rw[hxi]at hQ;have hbl:∃b,xs[i]=.bl b:=by
   have:=bH.mp hb _ (gQ hl);revert this;cases xs[i]<;>intro this<;>first|exact⟨_,rfl⟩|(exact absurd (show false=true from this) aR)
  obtain⟨b,eb⟩:=hbl;rw[eb]at ru hQ;cases ru;refine dR ?_;cases b<;>exact hQ
 ·have e1:its.toArray.size=xs.length:=by rw[aG];exact rv.length.symm
  rw[e1];have e2:=range_all (p:=fun i=>(xs[i]?.map wW).getD false) (xs:=xs) wW (fun i x hi=>by rw[hi];rfl);rw[e2];exact⟨.bl _,H,fin h' tk k,rfl,q⟩
theorem preSum_eq:∀(xs:List V) (val:Nat->Int),(∀i x,xs[i]?=some x->val i=intOf x)->ym val xs.length=oW xs:=by
 have snoc:∀(n:Nat) (val:Nat->Int),ym val (n+1)=ym val n+val n:=fun n val=>by
  first|rfl|simp[ym,BW]
 intro xs;have gen:∀(n:Nat) (val:Nat->Int),n<=xs.length->(∀i x,xs[i]?=some x->val i=intOf x)->ym val n=oW (xs.take n):=by
  intro n;induction n with
  |zero=>intro val _ _;first|rfl|simp[ym,oW]
  |succ n ih=>
   intro val hn hv;rw[snoc,ih val (by omega) hv];have hl:n<xs.length:=by omega
   rw[u_,aj hl];unfold oW;rw[a_,List.sum_append];rw[hv n xs[n] (aj hl)];simp
 intro val hv;have:=gen xs.length val (aB _) hv;rw[mR]at this;exact this
theorem Em(hc:X.calm=true):mh X (.builtin "sum") (fun vs H Q=>∃a xs,vs=[.ref a]/\gx X.K H a xs/\AU xs=true/\Q (.int (oW xs)) H):=by
 intro pins s O H vs us Q I r h;obtain⟨a,xs,rfl,hx,hb,q⟩:=h;obtain⟨u,rfl,ru⟩:=vals1 r;cases ru;refine call_sum_walkG (qC hc I hx fun its rv hz Z1 e W st hfp fin=>⟨_,_,_,_,_,_,fun i=>(xs[i]?.map intOf).getD 0,rfl,W,st,hfp,?_,fun h' tk t' k=>?_⟩)
 ·intro i v hP;have hi:its[i]?=some v:=by simpa using hP
  have hlen:=rv.length;have hl:i<xs.length:=by
   have:=(bQ.mp hi).1;omega
  have hxi:xs[i]?=some xs[i]:=aj hl;obtain⟨u,hu,ru⟩:=rv.get hxi;rw[hi]at hu;cases hu;have hbl:∃b,xs[i]=.int b:=by
   have:=bH.mp hb _ (gQ hl);revert this;cases xs[i]<;>intro this<;>first|exact⟨_,rfl⟩|(exact absurd (show false=true from this) aR)
  obtain⟨b,eb⟩:=hbl;rw[eb]at ru;obtain⟨t,rfl⟩:=ru;refine⟨t,?_⟩;show mY b t=mY ((xs[i]?.map intOf).getD 0) t;rw[hxi,eb];rfl
 ·have e1:its.toArray.size=xs.length:=by rw[aG];exact rv.length.symm
  rw[e1];have e2:=preSum_eq xs (fun i=>(xs[i]?.map intOf).getD 0) (fun i x hi=>by rw[hi];rfl);rw[e2];exact⟨.int _,H,fin h' tk k,⟨_,rfl⟩,q⟩
theorem Fw:mh X (.type "int") (fun vs H Q=>∃z n,vs=[.str z]/\z.length<=640/\intText? z=some n/\Q (.int n) H):=by
 intro pins s O H vs us Q I r h;obtain⟨z,n,rfl,hz,hn,q⟩:=h;obtain⟨u,rfl,ru⟩:=vals1 r;obtain⟨t,rfl⟩:=ru;exact PySem.W.KIN.call_text hn hz ⟨.int n,H,I.tok _,⟨_,rfl⟩,q⟩
theorem sU{k:Key}{u:Value}(h:RelV (kV k) u):(dg P w).is k u=true:=by
 cases k with
 |inl i=>obtain⟨t,rfl⟩:=h;exact yY P w i t
 |inr x=>obtain⟨t,rfl⟩:=h;exact yZ P w x t
theorem Lw{kvs:List (Key×V)}{vs:List (Key×Value)}(r:KV kvs vs){acc:List Value}(hl:acc.length=vs.length)(h:∀(i:Nat) v,acc[i]?=some v->∃k x,vs[i]?=some (k,x)/\(dg P w).is k v=true):bB (kvs.map fun kv=>kV kv.1) acc:=by
 induction r generalizing acc with
 |nil=>
  cases acc with
  |nil=>exact .nil
  |cons _ _=>simp at hl
 |cons q t ih=>
  cases acc with
  |nil=>simp at hl
  |cons u acc=>
   obtain⟨k,x,e,hk⟩:=h 0 u rfl;simp at e;subst e;refine .cons ?_ (ih (by simpa using hl) fun i v hv=>by simpa using h (i+1) v (by simpa using hv));rename_i p _ _;show RelV (kV p.1) u;rw[show p.1=k from q.1];rcases fG hk with⟨i,t,rfl,rfl⟩|⟨y,t,rfl,rfl⟩
   ·exact⟨t,rfl⟩
   ·exact⟨t,rfl⟩
theorem Cb(hc:X.calm=true):mh X (.type "list") (fun xs H Q=>∃a kvs,xs=[V.ref a]/\Rd H a (.dK kvs)/\∀p,H p=none->Q (.ref p) (upd H p (.lst (kvs.map fun kv=>kV kv.1)))):=by
 intro pins s O H xs us Q I r h;obtain⟨a,kvs,rfl,hk,q⟩:=h;obtain⟨u,rfl,ru⟩:=vals1 r;cases ru;obtain⟨hz,lo,vs,kv,hd⟩:=(show cY X.prog X.w H s.heap a (.dK kvs)from hk.ok I.hok);obtain⟨ep,hat⟩:=hd.dictAt;have hl:kvs.length=vs.length:=kv.length;refine PySem.W.kdl_call (PySem.W.kdl_dict (knd:=dg X.prog X.w) (kvs:=vs) (ep:=ep) lo) (I.ok.hd hc) hat (by rw[<-hl];exact hz) fun h' tk acc c kp e it=>?_;refine⟨.ref s.heap.objs.size,_,I.laid (t':=tk) kp (aB _) (show cY X.prog X.w _ h' _ (.lst (kvs.map fun kv=>kV kv.1))from⟨by rw[ah];exact hz,acc.toList,c,Lw (P:=X.prog) (w:=X.w) kv (by rw[i0];exact it.1) fun i v hv=>it.2 i v (by rw[<-jY];exact hv),by rw[ko];exact e⟩),rfl,q _ (I.hok.fresh (aB _))⟩
theorem XO(hc:X.calm=true)(hu:X.A.units+60<dc)(f:Bf):mh X f.val (zN X.K f):=by
 intro pins s O H vs us Q I r h;cases f<;>cases vs<;>first|exact ay h|skip
 case len.cons y w=>
  cases y<;>first|exact ay h|(cases w<;>first|exact ay h|skip)
  ·obtain⟨hz,q⟩:=h;exact E8 pins s O H _ us Q I r ⟨_,rfl,hz,q⟩
  ·rcases h with⟨t,xs,hx,q⟩|⟨kvs,hk,q⟩
   ·refine E7 pins s O H _ us Q I r ⟨_,xs,rfl,?_,q⟩;rcases hx.sq with⟨_,z⟩|⟨_,z⟩
    ·exact .inl z
    ·exact .inr z
   ·obtain⟨u,rfl,ru⟩:=vals1 r;cases ru;exact XH I hk fun t s' I'=>⟨.int kvs.length,H,I',⟨t,rfl⟩,q⟩
 case all.cons y w=>
  cases y<;>first|exact ay h|(cases w<;>first|exact ay h|skip)
  ·obtain⟨t,xs,hx,ht,hb,q⟩:=h;subst ht;exact El hc pins s O H _ us Q I r ⟨_,xs,rfl,hx.HZ,hb,q⟩
 case int.cons y w=>
  cases y<;>first|exact ay h|(cases w<;>first|exact ay h|skip)
  ·exact C0 pins s O H _ us Q I r (.inr ⟨_,rfl,h⟩)
  ·exact C0 pins s O H _ us Q I r (.inl ⟨_,rfl,h⟩)
  ·obtain⟨hz,n,hn,q⟩:=h;exact Fw pins s O H _ us Q I r ⟨_,n,rfl,hz,hn,q⟩
 case str.cons y w=>
  cases y<;>first|exact ay h|(cases w<;>first|exact ay h|skip)
  ·exact E1 pins s O H _ us Q I r ⟨_,rfl,h.1,h.2⟩
 case list.cons y w=>
  cases y<;>first|exact ay h|(cases w<;>first|exact ay h|skip)
  ·rcases h with⟨t,xs,hx,q⟩|⟨kvs,hk,q⟩
   ·refine E9 pins s O H _ us Q I r ⟨_,xs,rfl,?_,q⟩;rcases hx.sq with⟨_,z⟩|⟨_,z⟩
    ·exact .inl z
    ·exact .inr z
   ·exact Cb hc pins s O H _ us Q I r ⟨_,kvs,rfl,hk,q⟩
 case sum.cons y w=>
  cases y<;>first|exact ay h|(cases w<;>first|exact ay h|skip)
  ·obtain⟨t,xs,hx,ht,hb,q⟩:=h;subst ht;exact Em hc pins s O H _ us Q I r ⟨_,xs,rfl,hx.HZ,hb,q⟩
 case max.cons y w=>
  cases y<;>first|exact ay h|(cases w<;>first|exact ay h|skip)
  rename_i y w;cases y<;>first|exact ay h|(cases w<;>first|exact ay h|skip)
  ·exact Ld hc pins s O H _ us Q I r ⟨_,_,rfl,h⟩
 case sorted.cons y w=>
  cases y<;>first|exact ay h|(cases w<;>first|exact ay h|skip)
  ·obtain⟨xs,kss,h1,h2,h3,h4⟩:=h;exact Fo pins s O H _ us Q I r ⟨_,xs,kss,rfl,h1,h2,h3,h4⟩
end
end L3
end
section
namespace L3
open PySem PySem.Spec PyProof.Rows L2
open PySem.Builtin PySem.Builtin.Str
variable{y:Str}
theorem AW(h:y.length=1):y=⟨#[y.cps.getD 0 0]⟩:=by
 obtain⟨a⟩:=y;have h:a.size=1:=h;obtain⟨l⟩:=a
 match l,h with
 |[c],_=>rfl
theorem Lx(x:Str)(c:Nat):(occurrences x ⟨#[c]⟩ 0 x.length (x.length+1)).length=x.cps.toList.count c:=by
 obtain⟨f,hG,hn⟩:=Oo x ⟨#[c]⟩ (aB 1);have h:=chain_count x c _ 0 f hG hn;rw[jZ]at h;have cnt_eq:∀l:List Nat,cnt c l=(l.count c:Nat):=by
  intro l;induction l with
  |nil=>rfl
  |cons n r ih=>
   rw[cnt_cons,ih,BR];by_cases e:n=c
   ·subst e;simp;omega
   ·simp[e]
 rw[cnt_eq]at h;have h2:((x.cps.toList.count c:Nat):Int)=((occurrences x ⟨#[c]⟩ 0 x.length (x.length+1)).length:Nat):=h;omega
theorem Fx(c:Nat):∀(l:List Nat) (a:Nat),l[a]?=some c->l.idxOf c<=a
|[],a,h=>by simp at h
|n::r,0,h=>by
 have e:n=c:=by simpa using h
 rw[BX,e];simp
|n::r,a+1,h=>by
 have ih:=Fx c r a (by simpa using h);rw[BX];cases n==c<;>simp<;>omega
theorem Ly(x:Str)(c:Nat)(hm:c∈x.cps.toList):∃rest,occurrences x ⟨#[c]⟩ 0 x.length 1=x.cps.toList.idxOf c::rest:=by
 rcases RV x ⟨#[c]⟩ 1 (aB 1)with⟨h1,h2⟩|⟨a,r,h1,h2,h3⟩
 ·exfalso;obtain⟨i,hi⟩:=nS hm;exact h2 i ((qw x c i).mpr hi)
 ·refine⟨r,?_⟩;rw[h1];congr 1;have ha:x.cps.toList[a]?=some c:=(qw x c a).mp h2;have hlt:x.cps.toList.idxOf c<x.cps.toList.length:=sG.mpr hm;have hg:x.cps.toList[x.cps.toList.idxOf c]?=some c:=by
   rw[aj hlt,List.getElem_idxOf hlt]
  have h4:¬x.cps.toList.idxOf c<a:=fun q=>h3 _ q ((qw x c _).mpr hg);have h5:=Fx c _ _ ha;omega
theorem Lz(x y:Str):(decide (0+y.length<=x.length)&&subAt x y 0)=y.cps.toList.isPrefixOf x.cps.toList:=by
 rw[eE,List.isPrefixOf_iff_prefix,RW,aU,beq_iff_eq,jZ];have l1:y.cps.toList.length=y.length:=by simp[fU]
 have l2:x.cps.toList.length=x.length:=by simp[fU]
 constructor
 ·rintro⟨_,h⟩;rw[<-h];exact List.take_prefix _ _
 ·intro h;refine⟨?_,?_⟩
  ·have:=h.length_le;simp only[decide_eq_true_eq];omega
  ·rw[List.prefix_iff_eq_take]at h;rw[<-l1];exact h.symm
theorem ze(c:Nat):∀l:List Nat,c∉l->cN c l=[l]
|[],_=>rfl
|x::r,hp=>by
 have hx:¬x=c:=fun z=>hp (by rw[z];exact ao);have hr:c∉r:=fun z=>hp (ai _ z);unfold cN;rw[if_neg hx,ze c r hr]
theorem vn(c:Nat):∀(p l:List Nat),c∉p->cN c (p++c::l)=p::cN c l
|[],l,_=>by
 show cN c (c::l)=_;rw[cN,if_pos rfl]
|x::r,l,hp=>by
 have hx:¬x=c:=fun z=>hp (by rw[z];exact ao);have hr:c∉r:=fun z=>hp (ai _ z);show cN c (x::(r++c::l))=_;rw[cN,if_neg hx,vn c r l hr]
theorem oJ(c:Nat):∀(ps:List (List Nat)) (l:List Nat),ps≠[]->(∀p∈ps,c∉p)->l=[c].intercalate ps->cN c l=ps
|[],_,h,_,_=>absurd rfl h
|[p],l,_,hp,e=>by
 have e:l=p:=by simpa[kq]using e
 subst e;have hp:=hp l ao;exact ze c l hp
|p::q::ps,l,_,hp,e=>by
 have e:l=p++c::[c].intercalate (q::ps):=by
  rw[e];simp[kq]
 have hpp:=hp p ao;have ih:=oJ c (q::ps) _ (by simp) (fun z hz=>hp z (ai _ hz)) rfl;subst e;rw[vn c p _ hpp,ih]
theorem join_list(c:Nat):∀ps:List Str,ps≠[]->(dS ⟨#[c]⟩ ps).cps.toList=[c].intercalate (ps.map fun p=>p.cps.toList)
|[],h=>absurd rfl h
|[p],_=>by
 show p.cps.toList=_;simp[kq]
|p::q::r,_=>by
 have ih:=join_list c (q::r) (by simp);show(p++⟨#[c]⟩++dS ⟨#[c]⟩ (q::r)).cps.toList=_;have e:(p++⟨#[c]⟩++dS ⟨#[c]⟩ (q::r)).cps=p.cps++#[c]++(dS ⟨#[c]⟩ (q::r)).cps:=rfl;rw[e,nX,nX,ih];simp[kq]
theorem OS(x:Str)(c:Nat):iM x ⟨#[c]⟩=(cN c x.cps.toList).map strOf:=by
 have h1:=Od x ⟨#[c]⟩;have h2:=Oe x c;have hne:iM x ⟨#[c]⟩≠[]:=by
  have z:=split_len x c;have z2:(0:Int)<=cnt c x.cps.toList:=by
   have:∀l:List Nat,(0:Int)<=cnt c l:=by
    intro l;induction l with
    |nil=>exact HD 0
    |cons n r ih=>rw[cnt_cons];split<;>omega
   exact this _
  intro e;rw[e]at z;have z:(0:Int)=1+cnt c x.cps.toList:=z;omega
 have h3:=oJ c ((iM x ⟨#[c]⟩).map fun p=>p.cps.toList) x.cps.toList (by simpa using hne) (fun p hp=>by
  obtain⟨q,hq,rfl⟩:=aV.mp hp;exact h2 q hq) (by rw[<-join_list c _ hne,h1])
 rw[h3,bK];have:∀l:List Str,l.map (strOf∘fun p=>p.cps.toList)=l:=by
  intro l;induction l with
  |nil=>rfl
  |cons a r ih=>rw[bD,ih];rfl
 rw[this]
variable{t:Tok}{Q:Value->ak->Prop}
section
variable{prog:bx}{w:bL}{A:cV}{E:Value->ak->Prop}{s:ak}
theorem Jv{x:Str}{u:Tok}(hy:(y.length==0)=false)(hsz:x.length+2<=aa)
  (h:∀l tk,l.map (·.1)=iM x y->Q (.ref s.heap.objs.size) { s with heap:=s.heap.push { cls:=.type "list",data:=.seq (Ei l).toArray },toks:=tk }) :
  aH (aF prog w) A (call (.builtin "str.split") [.str x t,.str y u]) Q E s:=by
 have F0:Fr s.heap s.heap.objs.size { s.heap with objs:=s.heap.objs } (fun _=>none)->True:=fun _=>trivial;have hn:(partsBetween x (occurrences x y 0 x.length (x.length+1)) y.length).length<=aa:=by
  have e1:=Jc x y 0 x.length (x.length+1);rw[length_partsBetween];omega
 cases h1:(decide (x.length<y.length)||decide (strKind x<strKind y))
 ·cases hf:(occurrences x y 0 x.length (x.length+1)).isEmpty
  ·refine fV F.slot_str_split (gY _ _ _) F.entry_str_split (F.args_str_split_2 _ _) (meets_str_split_sep x y t u h1 hy hf (by omega) hn) ?_;rw[HE];refine h (numbered s.toks _) _ ((CQ _ _).trans ?_);unfold iM;simp[h1,hf]
  ·refine fV F.slot_str_split (gY _ _ _) F.entry_str_split (F.args_str_split_2 _ _) (meets_str_split_not_found x y t u h1 hy hf) ?_;refine h [(x,t)] s.toks ?_;unfold iM;simp[h1,hf]
 ·refine fV F.slot_str_split (gY _ _ _) F.entry_str_split (F.args_str_split_2 _ _) (meets_str_split_cannot_occur x y t u h1) ?_;refine h [(x,t)] s.toks ?_;unfold iM;simp[h1]
theorem Hh{x:Str}(hx:x.length<=aa)(hn:(g9 x).length<=aa)
  (h:∀l tk,l.map (·.1)=g9 x->Q (.ref s.heap.objs.size) { s with heap:=s.heap.push { cls:=.type "list",data:=.seq (Ei l).toArray },toks:=tk }) :
  aH (aF prog w) A (call (.builtin "str.split") [.str x t]) Q E s:=by
 by_cases hc:(jy x (x.length+1)==[(0,x.length)])=true
 ·have e1:g9 x=[x]:=by unfold g9;rw[if_pos hc]
  have hn':(jy x (x.length+1)).length<=aa:=by
   rw[eq_of_beq hc];show 1<=aa;decide
  refine fV F.slot_str_split (gY _ _ _) F.entry_str_split (F.args_str_split_1 _) (vc x t hx hn') ?_;rw[if_pos hc];exact h [(x,t)] s.toks e1.symm
 ·have e1:g9 x=(jy x (x.length+1)).map fun p=>Of x p.1 p.2:=by unfold g9;rw[if_neg hc];rfl
  have hn':(jy x (x.length+1)).length<=aa:=by
   rw[e1,ah]at hn;exact hn
  refine fV F.slot_str_split (gY _ _ _) F.entry_str_split (F.args_str_split_1 _) (vc x t hx hn') ?_;rw[if_neg hc,HE];exact h (numbered s.toks _) _ ((CQ _ _).trans (by rw[e1];rfl))
theorem wY:∀(l:List (Str×Tok)),bB ((l.map (·.1)).map V.str) (Ei l)
|[]=>.nil
|(x,t)::r=>.cons ⟨t,rfl⟩ (wY r)
end
variable{x:V}{pins:List (Addr×Obj)}{O:L2.St}{H:Hp}{s:ak}{m:Mt}{v:Value}
section
variable{X:Cx}
noncomputable def EH:Mt->V->String
|_,.str _=>"str"
|.get,_=>"dict"
|_,_=>"list"
noncomputable def Jw:Mt->V->String
|.append,_=>"list.append"
|.insert,_=>"list.insert"
|.extend,_=>"list.extend"
|.get,_=>"dict.get"
|.join,.str _=>"str.join"
|.startswith,_=>"str.startswith"
|.split,_=>"str.split"
|.count,.str _=>"str.count"
|.index,.str _=>"str.index"
|.count,_=>"list.count"
|.index,_=>"list.index"
|_,_=>""
structure TL (T:String) (m:Mt) (id:String):Prop where
 pa:PlainAttrs T
 slot:Slot T m.name id
 ty:typeOf (.builtin id)=pure (.type "method_descriptor")
theorem Fy(m:Mt)(x:V)(H:Hp)(h:sY m x H):TL (EH m x) m (Jw m x):=by
 cases m<;>cases x<;>first
  |exact ay h
  |exact⟨F.plainAttrs_list,F.slot_list_append,F.type_list_append⟩
  |exact⟨F.plainAttrs_list,F.slot_list_insert,F.type_list_insert⟩
  |exact⟨F.plainAttrs_str,F.slot_str_startswith,F.type_str_startswith⟩
  |exact⟨F.plainAttrs_str,F.slot_str_upper,F.type_str_upper⟩
  |exact⟨F.plainAttrs_str,F.slot_str_split,F.type_str_split⟩
  |exact⟨F.plainAttrs_str,F.slot_str_count,F.type_str_count⟩
  |exact⟨F.plainAttrs_str,F.slot_str_index,F.type_str_index⟩
  |exact⟨F.plainAttrs_str,F.slot_str_join,F.type_str_join⟩
  |exact⟨F.plainAttrs_dict,F.slot_dict_get,F.type_dict_get⟩
  |exact⟨F.plainAttrs_list,F.slot_list_pop,F.type_list_pop⟩
  |exact⟨F.plainAttrs_list,F.slot_list_count,F.type_list_count⟩
  |exact⟨F.plainAttrs_list,F.slot_list_index,F.type_list_index⟩
  |exact⟨F.plainAttrs_list,F.slot_list_extend,F.type_list_extend⟩
  |exact⟨F.plainAttrs_list,F.slot_list_clear,F.type_list_clear⟩
theorem H9(I:L2.Inv X pins O H s)(r:RelV x v)(h:sY m x H) :
  s.TypeIs v (EH m x)/\∀a,v=.ref a->∃ob,s.heap.get? a=some ob/\ob.dict=none:=by
 have hl:∀a,x=.ref a->gU H a->Li X.K "list" x H:=by
  rintro a rfl h;unfold gU at h;split at h
  ·exact .inl ⟨rfl,_,.inl (.inl (by assumption))⟩
  ·exact h.elim
 have hd:∀a,x=.ref a->vj H a->Li X.K "dict" x H:=by
  rintro a rfl h;unfold vj at h;split at h
  ·exact .inr (.inr (.inl ⟨rfl,.inl ⟨_,by assumption⟩⟩))
  ·exact .inr (.inr (.inl ⟨rfl,.inr ⟨_,by assumption⟩⟩))
  ·exact h.elim
 have hr:∀a,x=.ref a->(∃xs,Rd H a (.lst xs))->Li X.K "list" x H:=by
  rintro a rfl ⟨xs,h⟩;exact .inl ⟨rfl,xs,.inl h⟩
 cases m<;>cases x<;>first|exact ay h|exact AL I r (hl _ rfl h)|exact AL I r (hr _ rfl h)|exact AL I r rfl|exact AL I r (hd _ rfl h)
theorem TM(its:List Value)(u:Value)(j:Nat):(its.toArray.extract 0 (min j its.toArray.size)).push u++its.toArray.extract (min j its.toArray.size)=(its.take j++u::its.drop j).toArray:=by
 apply BS;rw[nX,Array.toList_push,vX,vX];simp only[aG];by_cases h:j<=its.length
 ·rw[jm h];simp[qN];rw[cu (by rw[dN];omega)]
 ·rw[AB (by omega)];have e1:its.take j=its:=cu (by omega);have e2:its.drop j=[]:=l9 (by omega);rw[e1,e2];simp[qN]
theorem LA:VH X "list.insert" (fun x vs H Q=>∃l xs i y,x=.ref l/\vs=[.int i,y]/\H l=some (.lst xs)/\(0<=i/\i<2 ^ 40/\xs.length<aa)/\Q .non (upd H l (.lst (xs.take i.toNat++y::xs.drop i.toNat)))):=by
 intro pins s O H x vs v us Q I rx rv h;obtain⟨l,xs,i,y,rfl,rfl,hH,⟨h0,h1,hz⟩,q⟩:=h;cases rx;obtain⟨u,w,rfl,ru,rw'⟩:=vals2 rv;obtain⟨t,rfl⟩:=ru;obtain⟨z,its,n,r,hl,e⟩:=I.Jo hH;have hfit:¬(!qa i)=true:=by
  rw[CN (by omega) (by omega)];exact aR
 refine fV F.slot_list_insert ⟨_,e,rfl⟩ F.entry_list_insert (F.args_list_insert_3 _ _ _) (yo l its.toArray n i t w hfit (by rw[aG];omega)) ⟨e,?_⟩;refine⟨.non,_,I.OH (its':=its.take i.toNat++w::its.drop i.toNat) hH e ?_ ((bB.take _ r).append (.cons rw' (bB.drop _ r))) ?_,rfl,q⟩
 ·have e2:(if i<0 then(i+((its.toArray.size:Nat):Int)).toNat else min i.toNat its.toArray.size)=min i.toNat its.toArray.size:=if_neg (by omega);show(its.toArray.extract 0 (if i<0 then(i+((its.toArray.size:Nat):Int)).toNat else min i.toNat its.toArray.size)).push w++its.toArray.extract (if i<0 then(i+((its.toArray.size:Nat):Int)).toNat else min i.toNat its.toArray.size)=_;rw[e2];exact TM its w i.toNat
 ·rw[az,eT,bz,dN];omega
theorem Fz:∀{ss:List Str}{its:List Value},bB (ss.map V.str) its->StrsAre its ss
|[],_,h=>by cases h;first|exact .nil|trivial|rfl
|x::ss,_,h=>by
 cases h with
 |cons a b=>
  obtain⟨t,rfl⟩:=a;exact .cons x t (Fz b)
theorem H_{vs:List V}{us:List Value}{Q:VK}(hu:X.A.units+60<dc)(I:L2.Inv X pins O H s)(rx:RelV x v)(rv:bB vs us)(h:uc X.K m x vs H Q) :
  aH (aF X.prog X.w) X.A (call (.builtin (Jw m x)) (v::us)) (EP X pins O Q) X.xe s:=by
 cases m<;>cases x<;>first|exact ay h|skip
 case append.ref l=>
  cases vs<;>first|exact ay h|skip
  rename_i y r;cases r<;>first|exact ay h|skip
  ·dsimp only[uc]at h;split at h
   ·exact Lj pins s O H _ _ v us Q I rx rv ⟨_,_,_,rfl,rfl,by assumption,h.1,h.2⟩
   ·exact h.elim
 case insert.ref l=>
  cases vs<;>first|exact ay h|skip
  rename_i c r;cases c<;>first|exact ay h|(cases r<;>first|exact ay h|skip)
  rename_i c r;cases r<;>first|exact ay h|skip
  ·dsimp only[uc]at h;split at h
   ·exact LA pins s O H _ _ v us Q I rx rv ⟨_,_,_,_,rfl,rfl,by assumption,h.1,h.2⟩
   ·exact h.elim
 case startswith.str z=>
  cases vs<;>first|exact ay h|skip
  rename_i c r;cases c<;>first|exact ay h|(cases r<;>first|exact ay h|skip)
  rename_i y
  ·obtain⟨u,rfl,ru⟩:=vals1 rv;obtain⟨t,rfl⟩:=rx;obtain⟨t',rfl⟩:=ru;show aH _ _ (call (.builtin "str.startswith") _) _ _ _;refine BY F.slot_str_startswith (gY s _ t) F.entry_str_startswith (F.args_str_startswith_2 _ _) (gives_str_startswith _ _ t t') ?_;replace h:Q (.bl (y.cps.toList.isPrefixOf z.cps.toList)) H:=h;rw[<-Lz]at h;exact⟨.bl _,H,I,rfl,h⟩
 case split.str z=>
  cases vs with
  |nil=>
   obtain⟨⟨h1,h2⟩,h⟩:=h;cases rv;obtain⟨t,rfl⟩:=rx;show aH _ _ (call (.builtin "str.split") _) _ _ _;refine Hh h1 h2 fun l tk el=>?_;rw[<-el]at h h2;exact⟨.ref s.heap.objs.size,_,I.Jm (wY l) (by rw[ah];exact h2),rfl,h _ (I.hok.fresh (aB _))⟩
  |cons c r=>
   cases c<;>first|exact ay h|(cases r<;>first|exact ay h|skip)
   rename_i y;obtain⟨h1,h2,h⟩:=h;obtain⟨u,rfl,ru⟩:=vals1 rv;obtain⟨t,rfl⟩:=rx;obtain⟨t',rfl⟩:=ru;show aH _ _ (call (.builtin "str.split") _) _ _ _;refine Jv (by rw[h1];rfl) h2 fun l tk el=>?_;have e1:((cN (y.cps.getD 0 0) z.cps.toList).map fun l=>V.str (strOf l))=(l.map (·.1)).map V.str:=by
    rw[el];have e2:iM z y=iM z ⟨#[y.cps.getD 0 0]⟩:=by rw[<-AW h1]
    rw[e2,OS,bK];rfl
   rw[e1]at h;have hz:((l.map (·.1)).map V.str).length<=aa:=by
    rw[ah,el];have e2:iM z y=iM z ⟨#[y.cps.getD 0 0]⟩:=by rw[<-AW h1]
    rw[e2];have:=split_weight z ⟨#[y.cps.getD 0 0]⟩ (aB 1);omega
   exact⟨.ref s.heap.objs.size,_,I.Jm (wY l) hz,rfl,h _ (I.hok.fresh (aB _))⟩
 case count.str z=>
  cases vs<;>first|exact ay h|skip
  rename_i c r;cases c<;>first|exact ay h|(cases r<;>first|exact ay h|skip)
  rename_i y
  ·obtain⟨h1,h2,h⟩:=h;obtain⟨u,rfl,ru⟩:=vals1 rv;obtain⟨t,rfl⟩:=rx;obtain⟨t',rfl⟩:=ru;show aH _ _ (call (.builtin "str.count") _) _ _ _;refine BY F.slot_str_count (gY s _ t) F.entry_str_count (F.args_str_count_2 _ _) (gives_str_count _ _ t t') ?_;rw[<-Lx,<-AW h1]at h;exact⟨.int _,H,I.tok _,⟨_,rfl⟩,h⟩
 case index.str z=>
  cases vs<;>first|exact ay h|skip
  rename_i c r;cases c<;>first|exact ay h|(cases r<;>first|exact ay h|skip)
  rename_i y
  ·obtain⟨h1,h2,h3,h⟩:=h;obtain⟨u,rfl,ru⟩:=vals1 rv;obtain⟨t,rfl⟩:=rx;obtain⟨t',rfl⟩:=ru;obtain⟨rest,e⟩:=Ly z _ h3;rw[<-AW h1]at e;show aH _ _ (call (.builtin "str.index") _) _ _ _;exact BY F.slot_str_index (gY s _ t) F.entry_str_index (F.args_str_index_2 _ _) (gives_str_index _ _ t t' _ rest e) ⟨.int _,H,I.tok _,⟨_,rfl⟩,h⟩
 case count.ref l=>
  cases vs<;>first|exact ay h|skip
  rename_i c r;cases c<;>first|exact ay h|(cases r<;>first|exact ay h|skip)
  rename_i k
  ·obtain⟨bs,hx,q⟩:=h;obtain⟨u,rfl,ru⟩:=vals1 rv;cases rx;cases ru;obtain⟨its,r,p,_⟩:=I.list (.inl hx:gx X.K H l _);exact Hf (PlainL.is p) r ⟨.int _,H,I.tok _,⟨_,rfl⟩,q⟩
 case index.ref l=>
  cases vs<;>first|exact ay h|skip
  rename_i c r;cases c<;>first|exact ay h|(cases r<;>first|exact ay h|skip)
  rename_i k
  ·obtain⟨bs,hx,hk,q⟩:=h;obtain⟨u,rfl,ru⟩:=vals1 rv;cases rx;cases ru;obtain⟨its,r,p,hz⟩:=I.list (.inl hx:gx X.K H l _);exact Hg (PlainL.is p) r (by rw[ah]at hz;exact hz) hk ⟨.int _,H,I.tok _,⟨_,rfl⟩,q⟩
 case join.str z=>
  cases vs<;>first|exact ay h|skip
  rename_i c r;cases c<;>first|exact ay h|(cases r<;>first|exact ay h|skip)
  rename_i a
  ·obtain⟨t,xs,hx,ht,ss,rfl,hz,q⟩:=h;subst ht;obtain⟨u,rfl,ru⟩:=vals1 rv;obtain⟨tt,rfl⟩:=rx;cases ru;obtain⟨its,r,p,_⟩:=I.list hx.HZ;refine HF (PlainL.is p) (Fz r) (by have:=dM;omega) fun t' k=>⟨.str _,H,I.tok _,⟨_,rfl⟩,?_⟩;have e:∀(a:Str) (b:List Str),PySem.Txt.join a b=dS a b:=fun a b=>PySem.StrLaws.glued_eq_join a b
   first|(rw[e];exact q)|exact(e _ _▸q)
 case get.ref l=>
  cases vs<;>first|exact ay h|skip
  rename_i c r;cases r with
  |nil=>
   obtain⟨kvs,k',hk,rfl,q⟩:=h;obtain⟨u,rfl,ru⟩:=vals1 rv;cases rx;exact VL (by omega) I (.inl ⟨kvs,k',hk,rfl,rfl⟩) ru fun w' s' I' r'=>⟨_,H,I',r',q⟩
  |cons d r=>
  cases r<;>first|exact ay h|skip
  ·rcases h with⟨kvs,k',hk,rfl,q⟩|⟨kvs,k',b,hk,rfl,hb,q⟩
   ·obtain⟨u,w,rfl,ru,rw'⟩:=vals2 rv;cases rx;exact Ll (by omega) I (.inl ⟨kvs,k',hk,rfl,rfl⟩) ru rw' fun w' s' I' r'=>⟨_,H,I',r',q⟩
   ·obtain⟨u,w,rfl,ru,rw'⟩:=vals2 rv;cases rx;exact Ll (by omega) I (.inr ⟨kvs,k',b,hk,rfl,hb,rfl⟩) ru rw' fun w' s' I' r'=>⟨_,H,I',r',q⟩
 case extend.ref l=>
  cases vs<;>first|exact ay h|skip
  rename_i c r;cases c<;>first|exact ay h|(cases r<;>first|exact ay h|skip)
  rename_i b
  ·dsimp only[uc]at h;split at h
   ·obtain⟨zs,h1,h2,h3⟩:=h;exact Lk pins s O H _ _ v us Q I rx rv ⟨_,_,_,zs,rfl,rfl,by assumption,h1,h2,h3⟩
   ·exact h.elim
noncomputable def Ty.val:Ty->Value
|.int=>.type "int"|.bool=>.type "bool"|.str=>.type "str"|.list=>.type "list"|.tuple=>.type "tuple"|.dict=>.type "dict"|.none=>.type "NoneType"
theorem Ty.boot:∀t:Ty,t≠.none->nL t.name=some t.val:=by
 intro t h;cases t<;>first|decide +kernel|exact absurd rfl h
theorem VT{ty:Ty}{Q:Bool->Prop}(I:L2.Inv X pins O H s)(rx:RelV x v)(h:rC X.K ty x H Q)(ht:ty≠.none) :
  aH (aF X.prog X.w) X.A (call (.builtin "isinstance") [v,ty.val]) (EP X pins O fun u H'=>H'=H/\∃b,u=.bl b/\Q b) X.xe s:=by
 have key:∀(t:Value) (b:Bool),nZ X.K H x t->PySem.W.kitOne X.K t ty.val=some b->Q b->aH (aF X.prog X.w) X.A (call (.builtin "isinstance") [v,ty.val]) (EP X pins O fun u H'=>H'=H/\∃b,u=.bl b/\Q b) X.xe s:=
  fun t b h1 h2 h3=>Lf I rx h1 h2 fun tk=>⟨.bl b,H,I.tok _,rfl,rfl,b,rfl,h3⟩
 cases x with
 |non=>exact key _ false .non (by cases ty<;>first|rfl|exact absurd rfl ht) h
 |bl b=>
  cases ty with
  |bool=>exact key _ true (.bl b) rfl h
  |int=>exact key _ true (.bl b) rfl h
  |none=>exact absurd rfl ht
  |_=>exact key _ false (.bl b) rfl h
 |int i=>
  cases ty with
  |int=>exact key _ true (.int i) rfl h
  |none=>exact absurd rfl ht
  |_=>exact key _ false (.int i) rfl h
 |str z=>
  cases ty with
  |str=>exact key _ true (.str z) rfl h
  |none=>exact absurd rfl ht
  |_=>exact key _ false (.str z) rfl h
 |ref a=>
  rcases h with⟨xs,hx,h⟩|⟨xs,hx,h⟩|⟨kvs,hk,h⟩
  ·rcases hx with e|⟨o,e⟩
   ·cases ty with
    |list=>exact key _ true (.lst e) rfl h
    |none=>exact absurd rfl ht
    |_=>exact key _ false (.lst e) rfl h
   ·cases ty with
    |list=>exact key _ true (.br e) rfl h
    |none=>exact absurd rfl ht
    |_=>exact key _ false (.br e) rfl h
  ·obtain⟨its,_,⟨o,h1,h2,_⟩,_⟩:=I.tuple hx.nU;cases(show v=bV a from rx);have key2:∀b:Bool,PySem.W.kitOne X.K (.type "tuple") ty.val=some b->Q b->aH (aF X.prog X.w) X.A (call (.builtin "isinstance") [.ref a,ty.val]) (EP X pins O fun u H'=>H'=H/\∃b,u=.bl b/\Q b) X.xe s:=
    fun b e q=>PySem.W.kia_one PySem.W.kitx_tuple I.jb ⟨o,h1,h2⟩ e (fun z=>nomatch z) fun tk=>⟨.bl b,H,I.tok _,rfl,rfl,b,rfl,q⟩
   cases ty with
   |tuple=>exact key2 true rfl h
   |none=>exact absurd rfl ht
   |_=>exact key2 false rfl h
  ·rcases hk with hk|⟨ob,hk⟩
   ·cases ty with
    |dict=>exact key _ true (.dK hk) rfl h
    |none=>exact absurd rfl ht
    |_=>exact key _ false (.dK hk) rfl h
   ·cases(show v=bV a from rx);obtain⟨_,_,_,vs,_,o,es,ep,h1,h2,_⟩:=(show cY X.prog X.w H s.heap a (.br ob (.dK kvs))from I.hok a _ hk);have key2:∀b:Bool,PySem.W.kitOne X.K (.type "dict") ty.val=some b->Q b->aH (aF X.prog X.w) X.A (call (.builtin "isinstance") [.ref a,ty.val]) (EP X pins O fun u H'=>H'=H/\∃b,u=.bl b/\Q b) X.xe s:=
     fun b e q=>PySem.W.kia_one PySem.W.kitx_dict I.jb ⟨o,h1,h2.1⟩ e (fun z=>nomatch z) fun tk=>⟨.bl b,H,I.tok _,rfl,rfl,b,rfl,q⟩
    cases ty with
    |dict=>exact key2 true rfl h
    |none=>exact absurd rfl ht
    |_=>exact key2 false rfl h
 |_=>exact ay h
end
end L3
end
section
namespace L3
open PySem PySem.Spec PyProof.Rows L2
noncomputable def R8(z:Str):It:=⟨fun i _=>i<z.length,fun i H x H'=>H'=H/\∃c,z.cps[i]?=some c/\x=.str ⟨#[c]⟩,fun i _=>z.length<=i⟩
variable{P:bx}{w:bL}{K:PySem.W.Frag}
theorem OT{tg:Expr}(it:Addr)(z:Str)(t:Tok)(T:String)(hT:T="str_ascii_iterator"\/T="str_iterator") :
  Turn P w K tg (R8 z) [it] it (fun i h=>h.IsStrIter it T z t i) where
 mem:=by simp
 obj:=fun i h st b hb=>by
  have e:b=it:=by simpa using hb
  subst e;obtain⟨o,e,c,d⟩:=st;exact⟨o,e,fun v z=>by rw[d]at z;cases z⟩
 keep:=fun i h h' st k=>let⟨o,ho,r⟩:=st;⟨o,k it (by simp) o ho,r⟩
 item:=by
  intro X hP hw hK hc i pins s O H E I hf st hg;subst hP hw hK;obtain⟨f0,f1,f2,f3,f4,f5⟩:=hf it (by simp);have hh:X.A.handled=none:=I.ok.hd hc;have W:Walks X.prog X.w X.A it [it] [it] z.cps.size (SignAt z) (fun i h=>h.IsStrIter it T z t i):=by
   rcases hT with rfl|rfl
   ·exact Walks.strAscii hh it z t
   ·exact Walks.strWide hh it z t
  refine W.item i s _ _ hg st fun v h' tk hv st' kk=>?_;obtain⟨c,u,hc,rfl⟩:=hv;have I1:L2.Inv X pins O H { s with heap:=h',toks:=tk }:=I.turned (fun b o hb e=>kk b o (by simpa using hb) e) f0 f1 f3 f4 f5;obtain⟨o,e,c',d⟩:=id st';refine⟨_,rfl,AI (s:={ s with heap:=h',toks:=tk }) (n:=T) e c' d (by rcases hT with rfl|rfl<;>decide) ⟨.str ⟨#[c]⟩,H,I1,⟨u,rfl⟩,⟨rfl,c,hc,rfl⟩,st',fun b hb=>(hf b hb).1⟩⟩
 done:=by
  intro X hP hw hK hc i pins s O H E I hf st hg;subst hP hw hK;obtain⟨f0,f1,f2,f3,f4,f5⟩:=hf it (by simp);have hg:z.cps.size<=i:=hg;have hn:z.cps[i]?=none:=Array.getElem?_eq_none_iff.mpr hg;rcases hT with rfl|rfl
  ·exact wpAny_pyNext_ascii_end (I.ok.hd hc) st hn fun h' eb=>⟨rfl,I.turned (t':=s.toks) (fun b o hb e=>eb b o hb e) f0 f1 f3 f4 f5⟩
  ·exact wpAny_pyNext_wide_end (I.ok.hd hc) st hn fun h' eb=>⟨rfl,I.turned (t':=s.toks) (fun b o hb e=>eb b o hb e) f0 f1 f3 f4 f5⟩
 self:=fun _ _ _ _ _ st h=>by
  rcases hT with rfl|rfl
  ·exact wpAny_pyIter_striter_ascii st h
  ·exact wpAny_pyIter_striter_wide st h
variable{X:Cx}{pins:List (Addr×Obj)}{O:L2.St}{H:Hp}{s:ak}
theorem Inv.Ia{H':Hp}{h':Heap}{t':Nat}{ch:List Addr}(I:L2.Inv X pins O H s)(hf:∀b∈ch,mF X pins H b)(k:∀b o,b∉ch->s.heap.get? b=some o->h'.get? b=some o)
  (free:∀b o,b∉ch->s.heap.get? b=some o->H b=none->H' b=none) (grow:∀b o,H b=some o->H' b=some o) (hok:fH X.prog X.w H' h'):L2.Inv X pins O H' { s with heap:=h',toks:=t' }:=by
 refine I.step (g':=s.gens) (d':=s.drawn) (ch:=ch) (fun b hb=>?_) (fun b o _ _ hc e _=>k b o hc e) (fun b o _ _ hc e _=>⟨o.slots,k b o hc e⟩) free
  (fun b o hc e=>⟨o,k b o hc e⟩) (fun _ _ e=>grow _ _ e) (fun _ _ _ e=>grow _ _ e) (fun b ps e=>⟨#[],by rw[grow _ _ e];simp⟩) (fun m hm=>?_) hok I.bare
 ·obtain⟨f0,f1,f2,f3,f4,f5⟩:=hf b hb;exact⟨f3,f1,f4,f5⟩
 ·obtain⟨o,es,ep,ho,r⟩:=hm;exact⟨o,es,ep,k _ o (fun z=>(hf _ z).2.1 rfl) ho,r⟩
theorem AX{X:Cx}{pins:List (Addr×Obj)}{H:Hp}{h h':Heap}{ch:List Addr}(x:fH X.prog X.w H h)(hf:∀b∈ch,H b=none)(k:∀b o,b∉ch->h.get? b=some o->h'.get? b=some o):fH X.prog X.w H h':=fun b u e=>by
 refine(x b u e).stay (fun c v hc q=>k c v (fun z=>?_) q) (fun _ q=>q) fun _ _ q=>q;rcases hc with rfl|hc
 ·rw[hf c z]at e;cases e
 ·rw[hf c z]at hc;cases hc
noncomputable def VU(a:Addr):It:=
 ⟨fun i H=>∃xs x,Rd H a (.lst xs)/\xs[i]?=some x,fun i H x H'=>∃p v,H p=none/\x=.ref p/\H'=upd H p (.tup [.int (i:Int),v])/\∀xs,Rd H a (.lst xs)->xs[i]?=some v,fun i H=>∃xs,Rd H a (.lst xs)/\xs.length<=i⟩
variable{elts:List Expr}{pos:Pos}
theorem LB{x1}(a e it:Addr)(hne:e≠it):Turn P w K (.Tuple elts x1 pos) (VU a) [e,it] e (fun i h=>(∃old,IsEnum h e it (i:Int) old)/\h.IsListIter it a i) where
 mem:=by simp
 obj:=fun i h st b hb=>by
  obtain⟨⟨old,st1⟩,st2⟩:=st;have hb:b=e\/b=it:=by simpa using hb
  rcases hb with rfl|rfl
  ·exact⟨_,st1,fun v z=>by cases z⟩
  ·obtain⟨o,e,c,d⟩:=st2;exact⟨o,e,fun v z=>by rw[d]at z;cases z⟩
 keep:=fun i h h' st k=>by
  obtain⟨⟨old,st1⟩,st2⟩:=st;exact⟨⟨old,k e (by simp) _ st1⟩,st2.at fun o q=>k it (by simp) o q⟩
 item:=by
  intro X hP hw hK hc i pins s O H E I hf st hg;subst hP hw hK;obtain⟨⟨old,st1⟩,st2⟩:=st;obtain⟨xs,x,hq,hx⟩:=hg;obtain⟨its,rv,p,hz⟩:=I.list (.inl hq:gx X.K H a xs);obtain⟨u,hu,ru⟩:=rv.get hx;refine wpAny_pyNext_enum_item st1 st2 p.isList (x:=u) (by simpa using hu) hne fun h1 heo hit1 ht1 hz1 hk1=>?_;refine⟨_,rfl,wpAny_letOwnedTupleGo_enum (s:={ s with heap:=h1,toks:=s.toks+1 }) heo fun h2 he2 hs2=>?_⟩;have hs2:sj e h1 h2:=hs2;have lee:e<s.heap.objs.size:=a8 st1;have ne_e:s.heap.objs.size≠e:=yb lee;have ht2:h2.get? s.heap.objs.size=some { cls:=.type "tuple",data:=.seq #[.int i s.toks,u] }:=(hs2.2 _ ne_e).trans ht1;have hk2:∀b o,b∉[e,it]->s.heap.get? b=some o->h2.get? b=some o:=fun b o hb q=>by
   have hb:b≠e/\b≠it:=by simpa using hb
   exact(hs2.2 b hb.1).trans (hk1 b o hb.1 hb.2 q)
  have hn:H s.heap.objs.size=none:=I.hok.fresh (aB _);have hfr:∀b∈[e,it],H b=none:=fun b hb=>(hf b hb).1;have hok2:fH X.prog X.w (upd H s.heap.objs.size (.tup [.int (i:Int),x])) h2:=by
   have h0:fH X.prog X.w H h2:=AX (X:=X) (pins:=pins) I.hok hfr hk2;intro b o q;by_cases hb:b=s.heap.objs.size
   ·subst hb;rw[dG]at q;cases q;refine⟨by show(2:Nat)<=_;have:=dM;omega,[.int (i:Int) s.toks,u],.cons ⟨_,rfl⟩ (.cons ru .nil),⟨_,ht2,rfl,_,rfl⟩⟩
   ·rw[bw hb]at q;exact(h0 b o q).stay (fun _ _ _ r=>r) (fun c r=>by rw[bw (cK r hn)];exact r) fun c ys r=>by rw[bw (cK r hn)];exact r
  have I2:L2.Inv X pins O (upd H s.heap.objs.size (.tup [.int (i:Int),x])) { s with heap:=h2,toks:=s.toks+1 }:=
   Inv.Ia (ch:=[e,it]) I hf hk2 (fun b o hb q n=>by rw[bw (bT (a8 q))];exact n) (fun b o q=>by rw[bw (cK q hn)];exact q) hok2
  refine⟨.ref s.heap.objs.size,_,I2,rfl,⟨_,x,hn,rfl,rfl,fun ys hy=>by rw[I.zG (.inl hy) (.inl hq:gx X.K H a xs)];exact hx⟩,⟨⟨u,?_⟩,?_⟩,fun b hb=>?_⟩
  ·have:((i:Int)+1)=((i+1:Nat):Int):=by omega
   rw[<-this];exact he2
  ·exact hit1.at fun o q=>(hs2.2 it (dm hne)).trans q
  ·have hlt:b<s.heap.objs.size:=by
    have hb:b=e\/b=it:=by simpa using hb
    rcases hb with rfl|rfl
    ·exact lee
    ·obtain⟨o,q,_⟩:=st2;exact a8 q
   rw[bw (bT hlt)];exact hfr b hb
 done:=by
  intro X hP hw hK hc i pins s O H E I hf st hg;subst hP hw hK;obtain⟨⟨old,st1⟩,st2⟩:=st;obtain⟨xs,hq,hx⟩:=hg;obtain⟨its,rv,p,hz⟩:=I.list (.inl hq:gx X.K H a xs);have hl:=rv.length;have hfr:∀b∈[e,it],H b=none:=fun b hb=>(hf b hb).1;refine wpAny_pyNext_enum_end (I.ok.hd hc) st1 st2 p.isList (by simp;omega) fun h' eb=>⟨rfl,?_⟩;have hk:∀b o,b∉[e,it]->s.heap.get? b=some o->h'.get? b=some o:=fun b o hb q=>eb b o (fun z=>hb (by simp[z])) q;exact Inv.Ia (t':=s.toks) (ch:=[e,it]) I hf hk (fun _ _ _ _ n=>n) (fun _ _ q=>q) (AX (X:=X) (pins:=pins) I.hok hfr hk)
 self:=fun _ _ _ _ _ st h=>by
  obtain⟨⟨old,st1⟩,_⟩:=st;exact yS st1 h
structure oh (J:It) (ok:Hp->Prop) (items:List Item):Prop where
 go:∀i H it,ok H->items[i]?=some it->J.go i H
 yld:∀i H it x H',ok H->items[i]?=some it->J.yld i H x H'->∀k,mkItem it H k->k x H'
 stop:∀i H,ok H->items.length<=i->J.stop i H
variable{a:Addr}{xs:List V}
theorem LC:oh (YD K a) (fun H=>gx K H a xs) (xs.map .v) where
 go:=fun i H it ok hi=>by
  rw[aX]at hi;cases e:xs[i]? with
  |none=>rw[e]at hi;cases hi
  |some x=>exact⟨xs,x,ok,e⟩
 yld:=fun i H it x H' ok hi hy k hk=>by
  obtain⟨rfl,hy⟩:=hy;rw[aX,hy xs ok]at hi;cases hi;exact hk
 stop:=fun i H ok hi=>⟨xs,ok,by rw[ah]at hi;exact hi⟩
theorem wZ:∀(xs:List V) (n i:Nat),(mj n xs)[i]?=(xs[i]?).map fun x=>Item.tup [.int ((n+i:Nat):Int),x]
|[],n,i=>by simp[mj]
|x::r,n,0=>by simp[mj]
|x::r,n,i+1=>by
 simp only[mj,sS,wZ r (n+1) i];have:n+1+i=n+(i+1):=by omega
 rw[this]
theorem Dc:∀(xs:List V) (n:Nat),(mj n xs).length=xs.length
|[],_=>rfl
|x::r,n=>by simp[mj,Dc r (n+1)]
theorem LD:oh (VU a) (fun H=>Rd H a (.lst xs)) (mj 0 xs) where
 go:=fun i H it ok hi=>by
  rw[wZ]at hi;cases e:xs[i]? with
  |none=>rw[e]at hi;cases hi
  |some x=>exact⟨xs,x,ok,e⟩
 yld:=fun i H it x H' ok hi hy k hk=>by
  obtain⟨p,v,hp,rfl,rfl,hy⟩:=hy;rw[wZ,hy xs ok,Nat.zero_add]at hi;cases hi;exact hk p hp
 stop:=fun i H ok hi=>⟨xs,ok,by rw[Dc]at hi;exact hi⟩
theorem OU:oh (YE K a) (fun H=>oS K H a xs) (xs.map .v) where
 go:=fun i H it ok hi=>by
  rw[aX]at hi;cases e:xs[i]? with
  |none=>rw[e]at hi;cases hi
  |some x=>exact⟨xs,x,ok,e⟩
 yld:=fun i H it x H' ok hi hy k hk=>by
  obtain⟨rfl,hy⟩:=hy;rw[aX,hy xs ok]at hi;cases hi;exact hk
 stop:=fun i H ok hi=>⟨xs,ok,by rw[ah]at hi;exact hi⟩
theorem OV{z:Str}:oh (R8 z) (fun _=>True) ((chars z).map .v) where
 go:=fun i H it ok hi=>by
  have:=(bQ.mp hi).1;have:i<z.length:=by simpa[chars,fU]using this
  exact this
 yld:=fun i H it x H' ok hi hy k hk=>by
  obtain⟨rfl,c,hc,rfl⟩:=hy;unfold chars at hi;rw[bK,aX,jY,hc]at hi;cases hi;exact hk
 stop:=fun i H ok hi=>by
  have:z.length<=i:=by simpa[chars,fU]using hi
  exact this
variable{lo:Int}{n:Nat}
theorem Jx:oh (RZ lo n) (fun _=>True) ((bA n).map fun(i:Nat)=>Item.v (.int (lo+(i:Int)))) where
 go:=fun i H it ok hi=>by
  have:=(bQ.mp hi).1;have:i<n:=by simpa using this
  exact this
 yld:=fun i H it x H' ok hi hy k hk=>by
  obtain⟨rfl,rfl⟩:=hy;have hl:=(bQ.mp hi).1;have hl:i<n:=by simpa using hl
  rw[aX,wJ hl]at hi;cases hi;exact hk
 stop:=fun i H ok hi=>by
  have:n<=i:=by simpa using hi
  exact this
variable{J:It}{ok:Hp->Prop}{items:List Item}
theorem oh.mono{ok':Hp->Prop}(h:oh J ok items)(m:∀H,ok' H->ok H):oh J ok' items:=
 ⟨fun i H it o=>h.go i H it (m H o),fun i H it x H' o=>h.yld i H it x H' (m H o),fun i H o=>h.stop i H (m H o)⟩
variable{g:TG}
theorem OW{body:TS}{D:Ends}(hJ:oh J ok items)(h:forL ok g body D items O H) :
  ∃W:Nat->Nat->L2.St->Hp->Prop,(∃m,W 0 m O H)/\∀i m O H,W i m O H->
   (J.stop i H/\D.nx O H)\/(J.go i H/\∃N:L2.St->Hp->Prop,(∀ZV H',N ZV H'->∃m',m'<m/\W (i+1) m' ZV H')/\∀x H',J.yld i H x H'->g x O H' fun ZZ H2=>body { D with nx:=N,ct:=N,bk:=D.nx } ZZ H2):=by
 refine⟨fun i m O H=>m=items.length-i/\i<=items.length/\forL ok g body D (items.drop i) O H,⟨items.length,by simp,cX _,by simpa using h⟩,?_⟩;rintro i m O H ⟨rfl,hi,p⟩;by_cases hlt:i<items.length
 ·rw[iE hlt]at p;obtain⟨hok,p⟩:=p;have e:items[i]?=some items[i]:=aj hlt;refine .inr ⟨hJ.go i H _ hok e,forL ok g body D (items.drop (i+1)),fun ZV H' p'=>⟨items.length-(i+1),by omega,rfl,hlt,p'⟩,fun x H' y=>?_⟩;exact hJ.yld i H _ x H' hok e y _ p
 ·rw[l9 (by omega)]at p;obtain⟨hok,p⟩:=p;exact .inl ⟨hJ.stop i H hok (by omega),p⟩
variable{iter:Expr}
variable{e:Expr}{te:TE}
variable{E:Value->ak->Prop}
variable{p:Pos}
variable{es:List Expr}
section
variable{X:Cx}{tg:Expr}
def Jy(X:Cx)(pins:List (Addr×Obj))(O:L2.St)(tg:Expr)(k:(Hp->Prop)->List Item->Hp->Prop)(itv:Value)(s2:ak):Prop:=
 ∃(it:Addr) (fp:List Addr) (tn:Nat->Heap->Prop) (J:It) (H':Hp),itv=.ref it/\L2.Inv X pins O H' s2/\Turn X.prog X.w X.K tg J fp it tn/\tn 0 s2.heap/\(∀b∈fp,mF X pins H' b)/\∃ok items,oh J ok items/\k ok items H'
def Dd(X:Cx)(tg iter:Expr)(wi:R5):Prop:=
 ∀(pins:List (Addr×Obj)) (s:ak) (O:L2.St) (H:Hp) (k:(Hp->Prop)->List Item->Hp->Prop),L2.Inv X pins O H s->wi O H k->
  aH (aF X.prog X.w) X.A (eval iter X.env) (fun v s1=>aH (aF X.prog X.w) X.A (u0 v) (Jy X pins O tg k) X.xe s1) X.xe s
theorem R9{body:List Stmt}{wi:R5}{tb:TS}(hp:tU (aF X.prog X.w) X.A X.env X.xe)(hc:X.calm=true)(hi:Dd X tg iter wi)(hg:PG X tg g)(hb:q9 X body tb)
  (hs:∀x,jG iter X.env x=pure x):PS X (.For tg iter body [] pos) (fun D O H=>wi O H fun ok items H1=>forL ok g tb D items O H1):=by
 intro pins s O H D I h;have hI:PI X tg iter (fun σ0 H0 R=>wi σ0 H0 (fun ok items H1=>forL ok g tb D items O H1)/\∀ok items H1 J,forL ok g tb D items O H1->oh J ok items->R J H1):=by
  intro pins' s' ZV H' R I' h';refine a7 (hi pins' s' ZV H' _ I' h'.1) fun v s1 h1=>a7 h1 fun itv s2 h2=>?_;obtain⟨it,fp,tn,J,H2,e,I2,T,st,hf,ok,items,hJ,hk⟩:=h2;exact⟨it,fp,tn,J,H2,e,I2,T,st,hf,h'.2 ok items H2 J hk hJ⟩
 exact Vm hp hc hI hg hb hs pins s O H D I ⟨h,fun ok items H1 J hk hJ=>OW hJ hk⟩
theorem TN(he:PE X e te):Dd X tg e (fun O H k=>te O H fun x H1=>yy X.K x H1 k):=by
 intro pins s O H k I h;refine a7 (he pins s O H _ I h) fun v s1 ⟨x,H1,I1,r1,q1⟩=>?_;cases x with
 |str z=>
  obtain⟨t,rfl⟩:=r1;obtain⟨hz,q⟩:=q1;have fin:∀T,T="str_ascii_iterator"\/T="str_iterator"->Jy X pins O tg k (.ref s1.heap.objs.size) { s1 with heap:=s1.heap.push { cls:=.type T,data:=.fields #[.str z t,.int 0 0] } }:=fun T hT=>by
   refine⟨s1.heap.objs.size,[s1.heap.objs.size],_,_,H1,rfl,I1.kept (t':=s1.toks) fun b o e=>aP _ e,OT s1.heap.objs.size z t T hT,⟨_,bJ _ rfl,rfl,rfl⟩,fun b hb=>?_,_,_,OV,q⟩;have e:b=s1.heap.objs.size:=by simpa using hb
   subst e;exact I1.t7 (aB _) (I1.hok.fresh (aB _))
  cases ha:z.cps.all (·<128)
  ·exact wpAny_pyIter_wide ha (fin _ (.inr rfl))
  ·exact wpAny_pyIter_ascii ha (fin _ (.inl rfl))
 |ref a=>
  obtain⟨t,xs,hx,q⟩:=q1;cases r1;rcases hx.sq with⟨rfl,z⟩|⟨rfl,z⟩
  ·obtain⟨its,rv,p,hz⟩:=I1.list z;refine yR p.isList ?_;refine⟨s1.heap.objs.size,[s1.heap.objs.size],_,_,H1,rfl,I1.kept (t':=s1.toks) fun b o e=>aP _ e,La a _,⟨_,bJ _ rfl,rfl,rfl⟩,fun b hb=>?_,fun H'=>gi X.K H' a false xs,_,LC.mono fun H' o=>?_,q⟩
   ·have e:b=s1.heap.objs.size:=by simpa using hb
    subst e;exact I1.t7 (aB _) (I1.hok.fresh (aB _))
   ·rcases o.sq with⟨_,z⟩|⟨hf,_⟩
    ·exact z
    ·cases hf
  ·obtain⟨its,rv,p,hz⟩:=I1.tuple z;refine wpAny_pyIter_tuple (show s1.heap.IsTuple a its.toArray from p) ?_;refine⟨s1.heap.objs.size,[s1.heap.objs.size],_,_,H1,rfl,I1.kept (t':=s1.toks) fun b o e=>aP _ e,Je a _,⟨_,bJ _ rfl,rfl,rfl⟩,fun b hb=>?_,fun H'=>gi X.K H' a true xs,_,OU.mono fun H' o=>?_,q⟩
   ·have e:b=s1.heap.objs.size:=by simpa using hb
    subst e;exact I1.t7 (aB _) (I1.hok.fresh (aB _))
   ·rcases o.sq with⟨hf,_⟩|⟨_,z⟩
    ·cases hf
    ·exact z
 |_=>exact ay q1
theorem range_it'{k:(Hp->Prop)->List Item->Hp->Prop}{hi:Int}{t u v:Tok}{tk:Nat}(I:L2.Inv X pins O H s)(h1:-(2 ^ 62)<=lo)(h2:lo<2 ^ 62)(h3:-(2 ^ 62)<=hi)(h4:hi<2 ^ 62)
  (q:k (fun _=>True) ((bA (hi-lo).toNat).map fun(i:Nat)=>Item.v (.int (lo+(i:Int)))) H) :
  aH (aF X.prog X.w) X.A (u0 (.ref s.heap.objs.size)) (Jy X pins O tg k) E { s with heap:=s.heap.push { cls:=.type "range",data:=.fields #[.int lo t,.int hi u,.int 1 v] },toks:=tk }:=by
 refine a7 (OC (tg:=tg) (R:=fun J H'=>J=RZ lo (hi-lo).toNat/\H'=H) I h1 h2 h3 h4 ⟨rfl,rfl⟩) fun itv s2 h=>?_;obtain⟨it,fp,tn,J,H',e,I2,T,st,hf,rfl,rfl⟩:=h;exact⟨it,fp,tn,_,H',e,I2,T,st,hf,_,_,Jx,q⟩
theorem OX{x1:Nat}{tp:Pos}(hg:Gl X "enumerate")(hm:X.mg "enumerate"=none)(he:PE X e te)(hs:dJ [e] X.env=[(false,eval e X.env)]) :
  Dd X (.Tuple elts x1 tp) (.Call (.Name "enumerate" p) [e] [] pos) (fun O H k=>te O H fun x H1=>match x with
   |.ref b=>∃xs,Rd H1 b (.lst xs)/\k (fun H'=>Rd H' b (.lst xs)) (mj 0 xs) H1
   |_=>False):=by
 intro pins s O H k I h;have ha:=B8 he E3 hs;refine Call_ (lW I hg hm boot_enumerate (j6 (a7 (ha pos pins s O H (fun vs H1=>match vs with
   |[x]=>(match x with
    |.ref b=>∃xs,Rd H1 b (.lst xs)/\k (fun H'=>Rd H' b (.lst xs)) (mj 0 xs) H1
    |_=>False)
   |_=>False) I h) fun us s1 ⟨vs,H1,I1,r1,q⟩=>?_) hs rfl))
 match vs,r1,q with
 |[],r1,q=>exact q.elim
 |_::_::_,r1,q=>exact q.elim
 |[x],r1,q=>
  obtain⟨u,rfl,ru⟩:=vals1 r1;cases x with
  |ref b=>
   cases ru;obtain⟨xs,hx,q⟩:=q;obtain⟨its,rv,pl,hz⟩:=I1.list (.inl hx:gx X.K H1 b xs);refine call_enumerate_list pl.isList fun h' he' hi' hz' hk'=>?_;refine yS (s:={ s1 with heap:=h' }) he' ?_;refine⟨s1.heap.objs.size+1,[s1.heap.objs.size+1,s1.heap.objs.size],_,_,H1,rfl,I1.kept (t':=s1.toks) hk',LB b _ _ (Nat.succ_ne_self _),⟨⟨_,he'⟩,hi'⟩,fun c hc=>?_,_,_,LD,q⟩;have hc:c=s1.heap.objs.size+1\/c=s1.heap.objs.size:=by simpa using hc
   rcases hc with rfl|rfl
   ·exact I1.t7 (zC _) (I1.hok.fresh (zC _))
   ·exact I1.t7 (aB _) (I1.hok.fresh (aB _))
  |_=>exact ay q
theorem LF{ta:TA}(hg:Gl X "range")(hm:X.mg "range"=none)(ha:PA X (e::es) ta)(he:dJ (e::es) X.env=(false,eval e X.env)::dJ es X.env)(hpl:(lD pos (dJ es X.env)).any (·.1)=false) :
  Dd X tg (.Call (.Name "range" p) (e::es) [] pos) (fun O H k=>ta O H fun vs H1=>wX vs H1 k):=by
 intro pins s O H k I h;refine Call_ (lW I hg hm boot_range (j6 (a7 (ha pos pins s O H _ I h) fun us s1 ⟨vs,H1,I1,r1,q⟩=>?_) he hpl));have q:wX vs H1 k:=q;unfold wX at q;split at q
 ·obtain⟨⟨q1,q2⟩,q⟩:=q;obtain⟨u,rfl,ru⟩:=vals1 r1;obtain⟨t,rfl⟩:=ru;refine call_range_1 (range_it' I1 (by omega) (by omega) q1 q2 ?_);simpa using q
 ·obtain⟨⟨q1,q2,q3,q4⟩,q⟩:=q;obtain⟨u,u',rfl,ru,ru'⟩:=vals2 r1;obtain⟨t,rfl⟩:=ru;obtain⟨t',rfl⟩:=ru';exact call_range_2 (range_it' I1 q1 q2 q3 q4 q)
 ·exact q.elim
end
section
variable{P:bx}{w:bL}{H:Hp}{h h':Heap}{a:Addr}{o:HO}
theorem LG(x:fH P w H h)(hn:H a=none)(new:cY P w (upd H a o) h a o):fH P w (upd H a o) h:=fun b u e=>by
 by_cases hb:b=a
 ·subst hb;rw[dG]at e;cases e;exact new
 ·rw[bw hb]at e;exact(x b u e).stay (fun c v _ q=>q) (fun c q=>by rw[bw (cK q hn)];exact q) fun c xs q=>by rw[bw (cK q hn)];exact q
end
noncomputable def oi(cells:List (Str×Addr)):List (Str×iW)->List (Str×Addr)->List (Str×Addr)
|[],acc=>acc
|(n,k)::r,acc=>if(k==.free)=true then(match cells.lookup n with|some c=>oi cells r ((n,c)::acc)|none=>oi cells r acc)else oi cells r acc
variable{env:Env}
theorem vo:∀(names:List (Str×iW)) (acc:List (Str×Addr)),(∀n,(n,cg)∈names->∃c,env.cells.lookup n=some c)->
 (forIn names acc fun(x:Str×iW) (r:List (Str×Addr))=>(match x with
  |(name,kind)=>if(kind==.free)=true then(do let a <-Og env name;pure (jo ((name,a)::r)))else pure (jo r):Sem (ForInStep (List (Str×Addr)))))=pure (oi env.cells names acc)
|[],acc,_=>rfl
|(n,k)::r,acc,hn=>by
 rw[List.forIn_cons];have hr:∀m,(m,cg)∈r->∃c,env.cells.lookup m=some c:=fun m hm=>hn m (ai _ hm);unfold oi;by_cases hk:(k==cg)=true
 ·have e:k=.free:=by simpa using hk
  subst e;obtain⟨c,hc⟩:=hn n ao;have hco:Og env n=pure c:=by unfold Og;rw[hc]
  simp only[hc,hco,beq_self_eq_true,if_true];exact vo r _ hr
 ·simp only[hk,if_false];exact vo r _ hr
variable{scope:eL}
theorem v7(h:∀n,(n,cg)∈scope.names->∃c,env.cells.lookup n=some c):KS scope env=pure (oi env.cells scope.names []):=by
 have e:=vo (env:=env) scope.names [] h;unfold KS;exact Eq.trans (congrArg (fun t=>t >>= fun cs=>pure cs) e) rfl
variable{cells:List (Str×Addr)}
theorem vq:∀(names:List (Str×iW)) (acc:List (Str×Addr)),(∀x c,acc.lookup x=some c->cells.lookup x=some c)->∀x c,(oi cells names acc).lookup x=some c->cells.lookup x=some c
|[],acc,h=>h
|(n,k)::r,acc,h=>by
 unfold oi;by_cases hk:(k==cg)=true
 ·simp only[hk,if_true];cases hc:cells.lookup n with
  |none=>exact vq r acc h
  |some c=>
   refine vq r _ fun x d hx=>?_;rw[cI]at hx;cases e:x==n with
   |true=>
    rw[e]at hx;have:x=n:=by simpa using e
    subst this;cases hx;exact hc
   |false=>rw[e]at hx;exact h x d hx
 ·simp only[hk,if_false];exact vq r acc h
theorem rF:∀(names:List (Str×iW)) (acc:List (Str×Addr)) (x:Str),((∃c,acc.lookup x=some c)\/((x,cg)∈names/\∃c,cells.lookup x=some c))->∃c,(oi cells names acc).lookup x=some c
|[],acc,x,h=>by
 rcases h with h|⟨h,_⟩
 ·exact h
 ·cases h
|(n,k)::r,acc,x,h=>by
 unfold oi;by_cases hk:(k==cg)=true
 ·simp only[hk,if_true];have ek:k=.free:=by simpa using hk
  subst ek;cases hc:cells.lookup n with
  |none=>
   refine rF r acc x ?_;rcases h with h|⟨h,h2⟩
   ·exact .inl h
   ·rcases aE.mp h with e|h
    ·cases e;obtain⟨c,hc2⟩:=h2;rw[hc]at hc2;cases hc2
    ·exact .inr ⟨h,h2⟩
  |some c=>
   refine rF r _ x ?_;by_cases e:x=n
   ·subst e;exact .inl ⟨c,by rw[cI];simp⟩
   ·rcases h with⟨d,h⟩|⟨h,h2⟩
    ·exact .inl ⟨d,by rw[cI,beq_eq_false_iff_ne.mpr e];exact h⟩
    ·rcases aE.mp h with q|h
     ·cases q;exact absurd rfl e
     ·exact .inr ⟨h,h2⟩
 ·simp only[hk,if_false];refine rF r acc x ?_;rcases h with h|⟨h,h2⟩
  ·exact .inl h
  ·rcases aE.mp h with e|h
   ·cases e;exact absurd rfl hk
   ·exact .inr ⟨h,h2⟩
variable{x:Str}
theorem ng{α:Type}{m:Str}{n c:α}{acc:List (Str×α)}(h:((m,n)::acc).lookup x=some c):(x=m/\c=n)\/((x=m->False)/\acc.lookup x=some c):=by
 rw[cI]at h;cases e:x==m with
 |true=>
  rw[e]at h;exact .inl ⟨by simpa using e,(cZ h).symm⟩
 |false=>
  rw[e]at h;exact .inr ⟨fun z=>by rw[z]at e;simp at e,h⟩
theorem vt:∀(names:List (Str×iW)) (n:Nat) (acc:List (Str×Addr)) (x:Str) (c:Addr),(dY n names acc).lookup x=some c->(n<=c/\(x,cD)∈names)\/((x,cD)∉names/\acc.lookup x=some c)
|[],_,_,_,_,h=>.inr ⟨(fun z=>nomatch z),h⟩
|(m,k)::r,n,acc,x,c,h=>by
 unfold dY at h;by_cases hk:(k==cD)=true
 ·rw[if_pos hk]at h;have ek:k=.cell:=by simpa using hk
  subst ek;rcases vt r (n+1) _ x c h with⟨h1,h2⟩|⟨h1,h2⟩
  ·exact .inl ⟨by omega,ai _ h2⟩
  ·rcases ng h2 with⟨e1,e2⟩|⟨e1,e2⟩
   ·subst e1;subst e2;exact .inl ⟨aB _,ao⟩
   ·refine .inr ⟨fun z=>?_,e2⟩;rcases aE.mp z with q|q
    ·cases q;exact e1 rfl
    ·exact h1 q
 ·rw[if_neg hk]at h;rcases vt r n acc x c h with⟨h1,h2⟩|⟨h1,h2⟩
  ·exact .inl ⟨h1,ai _ h2⟩
  ·refine .inr ⟨fun z=>?_,h2⟩;rcases aE.mp z with q|q
   ·cases q;exact hk rfl
   ·exact h1 q
theorem zR:∀(names:List (Str×iW)) (n:Nat) (acc:List (Str×Addr)) (x:Str),(x,cD)∉names->(dY n names acc).lookup x=acc.lookup x
|[],_,_,_,_=>rfl
|(m,k)::r,n,acc,x,h=>by
 unfold dY;by_cases hk:(k==cD)=true
 ·rw[if_pos hk,zR r _ _ x fun z=>h (ai _ z),cI];have ek:k=.cell:=by simpa using hk
  have ne:(x==m)=false:=beq_eq_false_iff_ne.mpr fun z=>h (by rw[z,ek];exact ao);rw[ne]
 ·rw[if_neg hk];exact zR r _ _ x fun z=>h (ai _ z)
theorem Cc:∀(names:List (Str×iW)) (n:Nat) (acc:List (Str×Addr)) (x:Str),(x,cD)∈names\/(∃c,acc.lookup x=some c)->∃c,(dY n names acc).lookup x=some c
|[],_,_,_,h=>by
 rcases h with h|h
 ·cases h
 ·exact h
|(m,k)::r,n,acc,x,h=>by
 unfold dY;by_cases hk:(k==cD)=true
 ·rw[if_pos hk];refine Cc r _ _ x ?_;by_cases e:x=m
  ·subst e;exact .inr ⟨n,by rw[cI];simp⟩
  ·rcases h with h|⟨c,h⟩
   ·rcases aE.mp h with q|q
    ·cases q;exact absurd rfl e
    ·exact .inl q
   ·exact .inr ⟨c,by rw[cI,beq_eq_false_iff_ne.mpr e];exact h⟩
 ·rw[if_neg hk];refine Cc r _ _ x ?_;rcases h with h|h
  ·rcases aE.mp h with q|q
   ·cases q;exact absurd rfl hk
   ·exact .inl q
  ·exact .inr h
theorem Cd:∀(names:List (Str×iW)) (n:Nat) (acc:List (Str×Addr)),(∀x c,acc.lookup x=some c->c<n)->(∀x y c,acc.lookup x=some c->acc.lookup y=some c->x=y)->∀x y c,(dY n names acc).lookup x=some c->(dY n names acc).lookup y=some c->x=y
|[],_,_,_,h=>h
|(m,k)::r,n,acc,hb,h=>by
 unfold dY;by_cases hk:(k==cD)=true
 ·rw[if_pos hk];refine Cd r _ _ (fun x c hx=>?_) fun x y c hx hy=>?_
  ·rcases ng hx with⟨_,e⟩|⟨_,e⟩
   ·rw[e];exact kj _
   ·exact qv (hb x c e)
  ·rcases ng hx with⟨e1,e2⟩|⟨_,e2⟩<;>rcases ng hy with⟨e3,e4⟩|⟨_,e4⟩
   ·rw[e1,e3]
   ·exact absurd (hb y c e4) (by rw[e2];exact cM _)
   ·exact absurd (hb x c e2) (by rw[e4];exact cM _)
   ·exact h x y c e2 e4
 ·rw[if_neg hk];exact Cd r n acc hb h
theorem zS:∀(names:List (Str×iW)) (h:Heap) (acc:List (Str×Addr)) (x:Str) (c:Addr),(dY h.objs.size names acc).lookup x=some c->(pushCells h names).IsCell c none\/acc.lookup x=some c
|[],_,_,_,_,e=>.inr e
|(m,k)::r,h,acc,x,c,e=>by
 unfold dY at e;unfold pushCells;by_cases hk:(k==cD)=true
 ·rw[if_pos hk]at e ⊢;have e':(dY (h.push { cls:=.type "cell",data:=.cell none }).objs.size r ((m,h.objs.size)::acc)).lookup x=some c:=by rw[lJ];exact e
  rcases zS r _ _ x c e' with q|q
  ·exact .inl q
  ·rcases ng q with⟨_,e2⟩|⟨_,e2⟩
   ·subst e2;exact .inl ⟨_,tY r _ _ _ (bJ _ rfl),rfl⟩
   ·exact .inr e2
 ·rw[if_neg hk]at e ⊢;exact zS r h acc x c e
theorem OY{M:KJ}{A:cV}{closure:List (Str×Addr)}{Q:Env->ak->Prop}
  (hQ:∀h',h'.Ns s.heap.objs.size (fun _=>none)->(∀b o,s.heap.get? b=some o->h'.get? b=some o)->(∀x c,(dY (s.heap.objs.size+1) scope.names closure).lookup x=some c->h'.IsCell c none\/closure.lookup x=some c)->
   Q { scope,locals:=s.heap.objs.size,globals:=env.globals,cells:=dY (s.heap.objs.size+1) scope.names closure,qual:=env.qual,func:=none,code:=env.code,frame:=env.frame,builtins:=env.builtins } { s with heap:=h' }) :
  aH M A (vd scope env.globals closure [] env.qual none .none (some env)) Q E s:=by
 simp only[vd,yh,if_true];refine au (wpAny_alloc ?_);refine au (wpAny_layCells _ (fun name kind cells=>by cases hkc:kind==cD<;>simp[hkc]) _ _ _ _ ?_);have hc:=zS scope.names (s.heap.push { cls:=.type "dict",data:=.dict #[] }) closure;rw[lJ]at hc;rw[show({ s with heap:=s.heap.push { cls:=.type "dict",data:=.dict #[] } }:ak).heap.objs.size=s.heap.objs.size+1 from lJ ..];rw[List.forIn_nil];exact au (bh (bh (hQ _ ((Xk s.heap (.type "dict")).keeps (tY _ _)) (fun b o e=>tY _ _ b o (aP _ e)) hc)))
noncomputable def kX(X:Cx)(N:List Str)(scope:eL)(C:Addr)(ZX:ak)(Z9:Hp)(ex:List Addr):Cx where
 prog:=X.prog
 w:=X.w
 K:=X.K
 mg:=X.mg
 base:=X.base
 A:=X.A
 N:=N
 ZX:=ZX
 Z9:=Z9
 env:=compEnvC scope (dY (C+1) scope.names (oi X.env.cells scope.names [])) C X.env
 outer:=X.stack
 stack:=X.stack
 ex:=ex
 fn:=fun x=>scope.names.lookup x==some .cell
 calm:=X.calm
 pn:=[]
 xe:=fun _ _=>False
def Ib(X:Cx)(ifs:List Expr)(t:TT):Prop:=
 ∀(pins:List (Addr×Obj)) (s:ak) (O:L2.St) (H:Hp) (Q:Bool->Hp->Prop),L2.Inv X pins O H s->t O H Q->
  aH (aF X.prog X.w) X.A (forIn ifs true fun c r=>if r=true then do let ok <-ya c X.env (eval c X.env);pure (jo ok)else pure (jo r)) (TP X pins O Q) X.xe s
theorem TQ:Ib X [] (fun _ H Q=>Q true H):=fun _ _ _ H _ I h=>wpAny_tests_nil ⟨H,I,h⟩
theorem TR{c:Expr}{t:TT}(h:PT X c t):Ib X [c] t:=fun pins s O H Q I q=>wpAny_tests_one (h pins s O H Q I q)
section
variable{prog:bx}{w:bL}{A:cV}{R:BI->ak->Prop}{s:ak}
theorem LH{elt target:Expr}{ifs:List Expr}{it acc:Value}(I:Nat->ak->Prop)
  (turn:∀n s,I n s->aH (aF prog w) A (pK it) (fun r Z0=>match r with
   |none=>R (.ok .next) Z0
   |some v=>aH (aF prog w) A (nM target it v) (fun _ Z1=>aH (aF prog w) A (pJ target env v) (fun _ Z8=>
     aH (aF prog w) A (forIn ifs true fun c r=>if r=true then do let ok <-ya c env (eval c env);pure (jo ok)else pure (jo r))
      (fun ok aac=>if ok=true then aH (aF prog w) A (eval elt env) (fun x aal=>aH (aF prog w) A (call (.builtin "list.append") [acc,x]) (fun _ aam=>∃m,m<n/\I m aam) (fun _ _=>False) aal) (fun _ _=>False) aac
       else ∃m,m<n/\I m aac) (fun _ _=>False) Z8) (fun _ _=>False) Z1) (fun _ _=>False) Z0) (fun _ _=>False) s)
  (n:Nat) (h:I n s):kL (aF prog w) A (.compLoop (.ListComp elt [⟨target,iter,ifs,0⟩] scope pos) 0 it acc env) R s:=by
 refine codeAny_loop rfl I (fun n s hI=>?_) n h;show aH _ A ((compTurn (.ListComp elt [⟨target,iter,ifs,0⟩] scope pos) 0 it acc env).onRaise (fun x=>do Eh x env;theTreesLotGoes x)) _ _ s;refine wpAny_noted (wpAny_noRaise ?_);rw[compTurn_list];refine au (wu (au (a7 (turn n s hI) fun r Z0 Z3=>?_)));cases r with
 |none=>exact bh Z3
 |some v=>
  refine au (a7 Z3 fun _ Z1 aad=>au (a7 aad fun _ Z8 aab=>au (a7 aab fun ok aac aan=>?_)));cases ok with
  |false=>exact bh ⟨rfl,aan⟩
  |true=>exact au (au (a7 aan fun x aal aar=>au (a7 aar fun _ aam aas=>bh (bh ⟨rfl,aas⟩))))
end
noncomputable abbrev om(its:List Value)(n:Nat):Obj:={ cls:=.type "list",data:=.seq its.toArray n }
section
variable{X:Cx}{pins:List (Addr×Obj)}{O:L2.St}{H:Hp}{Z1:ak}{tgt iter elt:Expr}{ifs:List Expr}{scope:eL}{pos:Pos}{N:List Str}{ZV:L2.St}{it:Addr}{fp:List Addr}{tn:Nat->Heap->Prop}{J:It}
 {ok:Hp->Prop}{items:List Item}{g:TG}{cond:TT}{te:TE}{k:List V->Hp->Prop}{E:Value->ak->Prop}{RR:Value->Addr->BI->ak->Prop}
theorem AY(hc:X.calm=true)(I:L2.Inv X pins O H Z1)(T:Turn X.prog X.w X.K tgt J fp it tn)(st:tn 0 Z1.heap)(hf:∀b∈fp,mF X pins H b)(hJ:oh J ok items)
  (hcell:∀y∈scope.names,y.2=.free->(y.1,cD)∉scope.names) (hkind:scope.kind=.function) (hfree:∀n,(n,cg)∈scope.names->∃c,X.env.cells.lookup n=some c) (hlen:ZV.length=N.length)
  (Z5:∀(i:Nat) (x:Str) (v:V),N[i]?=some x->ZV[i]?=some (some v)->(x,cg)∈scope.names/\(lK scope X.env).names.lookup x≠some .local/\∃c u,X.env.cells.lookup x=some c/\RelV v u/\Z1.heap.IsCell c (some u))
  (hvis:∀x,(lK scope X.env).names.lookup x=some .cell\/(lK scope X.env).names.lookup x=some .free->(x,cg)∈scope.names\/(x,cD)∈scope.names)
  (hg:∀(C:Addr) (ZX:ak) (ex:List Addr),PG (kX X N scope C ZX H ex) tgt g)
  (ht:∀(C:Addr) (ZX:ak) (ex:List Addr),Ib (kX X N scope C ZX H ex) ifs cond)
  (he:∀(C:Addr) (ZX:ak) (ex:List Addr),PE (kX X N scope C ZX H ex) elt te)
  (h:qB ok g cond te k items [] ZV H)
  (hRR:∀D C s' H2 vs,H2 D=none->k vs H2->L2.Inv X pins O (upd H2 D (.lst vs)) s'->mF X pins (upd H2 D (.lst vs)) C->(∃m,s'.heap.Ns C m)->RR (.ref D) C (.ok .next) s') :
  aH (aF X.prog X.w) X.A (newList []) (fun acc Z8=>aH (aF X.prog X.w) X.A (vd scope X.env.globals (oi X.env.cells scope.names []) [] X.env.qual none .none (some X.env)) (fun cenv aac=>
   kL (aF X.prog X.w) X.A (.compStart (.ListComp elt [⟨tgt,iter,ifs,0⟩] scope pos) 0 (.ref it) acc { cenv with scope:=lK scope X.env }) (RR acc cenv.locals) aac) E Z8) E Z1:=by
 refine lU (OY fun Z3 aaf aag aah=>?_);dsimp only at aaf aag aah ⊢;generalize aae:({ Z1 with heap:=Z1.heap.push { cls:=.type "list",dict:=none,data:=.seq ([]:List Value).toArray } }:ak)=ZX at aaf aag aah ⊢;have aai:ZX.heap=Z1.heap.push { cls:=.type "list",dict:=none,data:=.seq ([]:List Value).toArray }:=by rw[<-aae]
 have hH2:Z1.heap.push { cls:=.type "list",dict:=none,data:=.seq ([]:List Value).toArray }=ZX.heap:=aai.symm;have eos:ZX.os=Z1.os:=by rw[<-aae]
 have egn:ZX.gens=Z1.gens:=by rw[<-aae]
 have etk:ZX.toks=Z1.toks:=by rw[<-aae]
 rw[hH2]at aaf aag aah ⊢;have hsz:ZX.heap.objs.size=Z1.heap.objs.size+1:=by rw[aai,lJ]
 generalize hD:Z1.heap.objs.size=D at *;generalize hC:ZX.heap.objs.size=C at *;have hDC:D≠C:=by rw[hsz];exact bT (kj _)
 have up:∀b o,Z1.heap.get? b=some o->ZX.heap.get? b=some o:=fun b o e=>by rw[aai];exact aP _ e
 have lt2:∀b o,Z1.heap.get? b=some o->b<D:=fun b o e=>by rw[<-hD];exact a8 e
 have up1:∀b o,ZX.heap.get? b=some o->Z3.get? b=some o:=aag;have aat:ZX.heap.get? D=some (om [] 0):=by rw[aai,<-hD];exact bJ _ rfl
 have fpD:∀b∈fp,b<D:=fun b hb=>by obtain⟨o,e,_⟩:=T.obj 0 _ st b hb;exact lt2 b o e
 have cellD:∀x c,X.env.cells.lookup x=some c->c<D:=fun x c e=>by obtain⟨v,q⟩:=I.cell x c e;obtain⟨o,ho,_⟩:=q;exact lt2 c o ho
 have DltC:D<C:=by rw[hsz];exact kj _
 have fpC:∀b∈fp,b≠C:=fun b hb=>bT (jW (fpD b hb) DltC);have fpnD:∀b∈fp,b≠D:=fun b hb=>bT (fpD b hb);have freshH:∀b,D<=b->H b=none:=fun b hb=>I.hok.fresh (by rw[hD];exact hb)
 let ex:=D::fp
 let X':=kX X N scope C ZX H ex
 have clsub0:∀x c,(oi X.env.cells scope.names []).lookup x=some c->X.env.cells.lookup x=some c:=vq _ _ (fun x c e=>by simp at e);have clsub:∀x c,X'.env.cells.lookup x=some c->C<c\/X.env.cells.lookup x=some c:=fun x c e=>by
  rcases vt _ _ _ _ _ e with⟨q,_⟩|⟨_,q⟩
  ·exact .inl q
  ·exact .inr (clsub0 x c q)
 have neD:∀x c,X'.env.cells.lookup x=some c->c≠D:=fun x c e z=>by
  rcases clsub x c e with q|q
  ·rw[z]at q;exact cM _ (jW q DltC)
  ·exact bT (cellD x c q) z
 have neF:∀x c,X'.env.cells.lookup x=some c->∀b∈fp,c≠b:=fun x c e b hb z=>by
  rcases clsub x c e with q|q
  ·rw[z]at q;exact cM _ (jW (jW q (fpD b hb)) DltC)
  ·exact(hf b hb).2.2.2.2.1 x c q z
 have stkD:∀b∈frs X.stack,b<D:=fun b hb=>by
  rcases aE.mp (I.uC b hb)with e|hb
  ·rw[e,<-hD];exact I.lt
  ·obtain⟨_,o,ho,_⟩:=I.pR.mem hb;exact lt2 b o ho
 have ok':X'.Ok:=by
  refine⟨I.ok.mod,?_,I.ok.glob,I.ok.blt,GW hC,Cd _ _ _ (fun x c e=>qv (jW (cellD x c (clsub0 x c e)) DltC)) fun x y c h1 h2=>I.ok.inj x y c (clsub0 x c h1) (clsub0 y c h2),fun x hx=>?_,fun x c hx=>?_,I.ok.hd,I.ok.frames,.inl rfl,fun b hb=>?_,fun b o e=>?_,?_,fun b o e hb=>?_,fun b hb z=>?_,?_,I.B6⟩
  ·exact hkind
  ·refine Cc _ _ _ x ?_;rcases hvis x hx with q|q
   ·obtain⟨c,hc'⟩:=hfree x q;exact .inr (rF _ _ x (.inr ⟨q,c,hc'⟩))
   ·exact .inl q
  ·intro hx2;have hm:(x,cD)∈scope.names:=PySem.mem_of_lookup (by simpa using(show(scope.names.lookup x==some .cell)=true from hx));rcases vt _ _ _ _ _ hx2 with⟨q,_⟩|⟨q,_⟩
   ·show ZX.heap.objs.size<=c;rw[hC];exact iV q
   ·exact absurd hm q
  ·rcases aE.mp hb with e|hb
   ·subst e;exact⟨hDC,neD⟩
   ·refine⟨?_,fun x c e=>neF x c e b hb⟩;exact fpC b hb
  ·exact⟨up b o (I.bs b o e).1,(I.bs b o e).2⟩
  ·show X.base.objs.size<=ZX.heap.objs.size;refine dB (dB I.ok.bsz I.sz) ?_;rw[hD,hC];exact iV DltC
  ·have hbD:b<D:=lt2 b o (I.bk b o e);rcases aE.mp hb with q|hb
   ·exact bT hbD q
   ·rcases(hf b hb).2.2.2.1 with q|q
    ·exact I.ok.noex b o e q
    ·have h1:=a8 (I.ok.bs b o e).1;exact absurd (bG h1 q) (cM _)
  ·rcases aE.mp hb with q|hb
   ·exact bT (stkD b z) q
   ·obtain⟨_,f1,f2,_⟩:=hf b hb;rcases aE.mp (I.uC b z)with q|q
    ·exact f1 q
    ·exact f2 q
  ·have hfr:=I.stack;have keepF:∀l:List Env,Z1.heap.FunFrames X.base l->ZX.heap.FunFrames X.base l:=by
    intro l;induction l with
    |nil=>intro _;trivial
    |cons env r ih=>
     intro hl;obtain⟨hk,⟨ZT,o,hf',hn,ho,hd⟩,hr⟩:=hl;exact⟨hk,⟨ZT,o,hf',hn,up ZT o ho,hd⟩,ih hr⟩
   exact keepF _ hfr
 have fpok:∀(H':Hp) (its:List Value) (n:Nat),(∀b∈fp,H' b=none)->∀b∈fp,mF X' [(D,om its n)] H' b:=fun H' its n hn b hb=>by
  refine⟨hn b hb,?_,?_,.inl (ai _ hb),fun x c e=>neF x c e b hb,fun p hp=>?_⟩
  ·exact fpC b hb
  ·intro z;obtain⟨_,f1,f2,_⟩:=hf b hb;rcases aE.mp (I.uC b z)with q|q
   ·exact f1 q
   ·exact f2 q
  ·have hp:p∈[(D,om its n)]:=hp;have e:p=(D,om its n):=by simpa using hp
   subst e;exact dm (fpnD b hb)
 have pinD:∀(s:ak) (H':Hp) (its:List Value) (n:Nat),s.heap.get? D=some (om its n)->H' D=none->∀p∈[(D,om its n)],s.heap.get? p.1=some p.2/\H' p.1=none/\p.1≠X'.env.locals/\p.1∉X'.fs/\∀v,p.2.data≠.cell v:=by
  intro s H' its n e hn p hp;have q:p=(D,om its n):=by simpa using hp
  subst q;refine⟨e,hn,hDC,fun z=>?_,fun v z=>nomatch z⟩;exact cM _ (stkD D z)
 let Iv:Nat->ak->Prop:=fun n s=>∃(i:Nat) (acc:List V) (its:List Value) (m:Nat) (Z4:L2.St) (H1:Hp),n=items.length+1-i/\i<=items.length/\L2.Inv X' [(D,om its m)] Z4 H1 s/\tn i s.heap/\(∀b∈fp,H1 b=none)/\bB acc its/\acc.length<=aa /\
  qB ok g cond te k (items.drop i) acc Z4 H1
 have start:∀tk,L2.Inv X' [(D,om [] 0)] ZV H { ZX with heap:=Z3,toks:=tk }:=fun tk=>by
  refine⟨ok',rfl,by show kK ZX.gens;rw[egn];exact I.bare,Un.kept up1,⟨_,aaf,fun i x v h1 h2 h3=>?_⟩,fun x c e=>?_,freshH C (iV DltC),fun x c e=>?_,fun p hp=>?_,?_,hlen⟩
  ·obtain⟨hx,hnl,c,u,hcu,ru,cellu⟩:=Z5 i x v h1 h2;refine⟨u,ru,.inr ⟨?_,?_⟩⟩
   ·rcases h3 with q|q|q
    ·exact absurd q hnl
    ·exact .inl q
    ·exact .inr q
   ·obtain⟨c',hc'⟩:=rF (cells:=X.env.cells) scope.names [] x (.inr ⟨hx,c,hcu⟩);have e1:=clsub0 x c' hc';rw[hcu]at e1;cases e1;obtain⟨o,ho,hd⟩:=cellu;exact⟨c,(zR _ _ _ x (hcell _ hx rfl)).trans hc',o,up1 _ _ (up _ _ ho),hd⟩
  ·rcases aah x c e with q|q
   ·exact⟨none,q⟩
   ·obtain⟨v,o,ho,hd⟩:=I.cell x c (clsub0 x c q);exact⟨v,o,up1 _ _ (up _ _ ho),hd⟩
  ·rcases clsub x c e with q|q
   ·exact freshH c (iV (jW DltC q))
   ·exact I.freeC x c q
  ·exact pinD { ZX with heap:=Z3,toks:=tk } H [] 0 (up1 _ _ aat) (freshH D (aB _)) p hp
  ·have hk:fH X.prog X.w H Z3:=I.hok.kept fun b u e=>up1 b u (up b u e);exact hk
 have loop:∀tk,kL (aF X.prog X.w) X.A (.compLoop (.ListComp elt [⟨tgt,iter,ifs,0⟩] scope pos) 0 (.ref it) (.ref D) X'.env) (RR (.ref D) C) { ZX with heap:=Z3,toks:=tk }:=fun tk=>by
  refine LH Iv ?_ (items.length+1) ⟨0,[],[],0,ZV,H,rfl,cX _,start tk,T.keep 0 _ _ st fun b hb o e=>up1 b o (up b o e),fun b hb=>(hf b hb).1,.nil,cX _,by simpa using h⟩;rintro n s ⟨i,acc,its,m,Z4,H1,rfl,hi,J1,st1,fr1,rv,hz,q⟩;by_cases hlt:i<items.length
  ·rw[iE hlt]at q;obtain⟨hok,hz1,q⟩:=q;have ei:items[i]?=some items[i]:=aj hlt;refine a7 (T.item X' rfl rfl rfl hc i _ s Z4 H1 _ J1 (fpok H1 its m fr1) st1 (hJ.go i H1 _ hok ei)) fun r s4 ⟨u,hr,h4⟩=>?_;subst hr;refine a7 h4 fun _ s5 ⟨x,H5,I5,r5,y5,st5,fr5⟩=>?_;have I5':=I5.pinned (fpok H5 its m fr5) (T.obj _ _ st5);refine a7 (hg C ZX ex _ s5 Z4 H5 x u _ I5' r5 (hJ.yld i H1 _ x H5 hok ei y5 _ q)) fun _ s6 ⟨Z7,H6,I6,q6⟩=>?_;refine a7 (ht C ZX ex _ s6 Z7 H6 _ I6 q6) fun b s7 ⟨H7,I7,q7⟩=>?_;have keepT:∀{σ8:L2.St}{H8:Hp}{s8:ak},L2.Inv X' ([(D,om its m)]++wQ fp s5.heap) σ8 H8 s8->tn (i+1) s8.heap/\(∀b∈fp,H8 b=none):=fun{σ8 H8 s8} I8=>by
    refine⟨T.keep _ _ _ st5 fun b hb o e=>(I8.pin (b,o) (aq _ (aq _ (qA hb e)))).1,fun b hb=>?_⟩;obtain⟨o,e,_⟩:=T.obj _ _ st5 b hb;exact(I8.pin (b,o) (aq _ (aq _ (qA hb e)))).2.1
   cases b with
   |false=>
    have q7:=(if_neg aR)▸q7;obtain⟨t1,t2⟩:=keepT I7;exact⟨items.length+1-(i+1),by omega,i+1,acc,its,m,Z7,H7,rfl,hlt,I7.vg,t1,t2,rv,hz,by simpa using q7⟩
   |true=>
    have q7:te Z7 H7 (fun y H4=>qB ok g cond te k (items.drop (i+1)) (acc++[y]) Z7 H4):=by simpa using q7
    refine a7 (he C ZX ex _ s7 Z7 H7 _ I7 q7) fun yv s8 ⟨y,H8,I8,r8,q8⟩=>?_;obtain⟨t1,t2⟩:=keepT I8;have hD8:=I8.pin (D,om its m) (aq _ (aC _ (aM.mpr rfl)));obtain⟨e8,n8,_⟩:=hD8;have hl:=rv.length;refine fV F.slot_list_append ⟨_,e8,rfl⟩ F.entry_list_append (F.args_list_append_2 _ _) (PySem.list_append D its.toArray m yv (by rw[aG];omega)) ⟨e8,?_⟩;have I9:L2.Inv X' [] Z7 H8 s8:=I8.yw fun p hp=>nomatch hp
    have kk:∀b o,b≠D->s8.heap.get? b=some o->(s8.heap.update D (eY fun x=>x.push yv)).get? b=some o:=fun b o hb e=>(bC _ _ (dm hb)).trans e;have I10:L2.Inv X' [] Z7 H8 { s8 with heap:=s8.heap.update D (eY fun x=>x.push yv),toks:=s8.toks }:=
     I9.turned kk n8 hDC (.inl ao) neD (fun p hp=>nomatch hp)
    have e9:=PySem.IsL.update e8 (fun x=>x.push yv);rw[List.push_toArray]at e9;obtain⟨m',e10⟩:∃m',({ s8 with heap:=s8.heap.update D (eY fun x=>x.push yv),toks:=s8.toks }:ak).heap.get? D=some (om (its++[yv]) m'):=⟨_,e9⟩;refine⟨items.length+1-(i+1),by omega,i+1,acc++[y],its++[yv],m',Z7,H8,rfl,hlt,I10.yw (pinD _ H8 _ m' e10 n8),?_,t2,rv.append (.cons r8 .nil),by rw[az,bU];omega,q8⟩;exact T.keep _ _ _ t1 fun b hb o e=>kk b o (fpnD b hb) e
  ·rw[l9 (by omega)]at q;obtain⟨hok,q⟩:=q;refine a7 (T.done X' rfl rfl rfl hc i _ s Z4 H1 _ J1 (fpok H1 its m fr1) st1 (hJ.stop i H1 hok (by omega))) fun r s4 ⟨hr,I4⟩=>?_;subst hr;obtain⟨e4,n4,_⟩:=I4.pin (D,om its m) (aq _ (aM.mpr rfl));obtain⟨mC,hnC,_⟩:=I4.loc;have hCn:H1 C=none:=I4.free;have exD:∀b,b<D->b∉fp->b∉X'.ex:=fun b hb hn z=>by
    rcases aE.mp z with q|q
    ·exact bT hb q
    ·exact hn q
   have hok':fH X.prog X.w (upd H1 D (.lst acc)) s4.heap:=LG I4.hok n4 ⟨hz,its,m,rv,e4⟩;have hU:Un (frs X.stack) fp H (upd H1 D (.lst acc)) Z1.heap s4.heap:=by
    have b4:=I4.base;refine⟨fun b o e n hb hx=>?_,fun b o e n hb hx=>?_,fun b o e n hx=>?_,fun b o e hx=>?_,fun b xs e=>?_,fun b o u e=>?_,fun b ps e=>?_⟩
    ·exact b4.keep b o (up b o e) n hb (exD b (lt2 b o e) hx)
    ·exact b4.slot b o (up b o e) n hb (exD b (lt2 b o e) hx)
    ·rw[bw (bT (lt2 b o e))];exact b4.free b o (up b o e) n (exD b (lt2 b o e) hx)
    ·exact b4.there b o (up b o e) (exD b (lt2 b o e) hx)
    ·have z:=b4.tups b xs e;rw[bw (cK z n4)];exact z
    ·have z:=b4.aA b o u e;rw[bw (cK z n4)];exact z
    ·obtain⟨more,z⟩:=b4.tbls b ps e;exact⟨more,by rw[bw (cK z n4)];exact z⟩
   have I5:L2.Inv X pins O (upd H1 D (.lst acc)) s4:=I.call' (ch:=fp) (I4.os.trans eos) hU hok' I4.bare fun b hb=>by
    obtain⟨f0,f1,f2,f3,f4,f5⟩:=hf b hb;exact⟨f3,f1,f4,f5⟩
   refine hRR D C s4 H1 acc n4 q I5 ?_ ⟨mC,hnC⟩;have hle:Z1.heap.objs.size<=C:=by rw[hD];exact iV DltC
   have z:=I.t7 (H':=upd H1 D (.lst acc)) (b:=C) hle (by rw[bw (dm hDC)];exact hCn);exact z
 subst aae;exact codeAny_compStart_list (loop _) (T.self _ 0 _ _ _ (T.keep 0 _ _ st fun b hb o e=>up1 b o (up b o e)) (loop _))
end
noncomputable def jC(N nl:List Str)(fr:List Nat):List Str:=nl++fr.map fun i=>N.getD i jj
noncomputable def yC(nl:List Str)(fr:List Nat)(O:L2.St):L2.St:=nl.map (fun _=>none)++fr.map fun i=>O.getD i none
structure uG (sc:eL) (N:List Str) (scope:eL) (nl:List Str) (fr:List Nat):Prop where
 kind:scope.kind=.function
 cell:∀y∈scope.names,y.2=.free->(y.1,cD)∉scope.names
 names:∀x∈scope.names,x.2=.local->scope.names.lookup x.1=some .local
 free:∀n,(n,cg)∈scope.names->sc.names.lookup n=some .cell\/sc.names.lookup n=some .free
 fr:∀i∈fr,∃x,N[i]?=some x/\scope.names.lookup x=some .free
theorem w6(x:Str)(h:(lK scope env).names.lookup x=some .cell\/(lK scope env).names.lookup x=some .free):(x,cg)∈scope.names\/(x,cD)∈scope.names:=by
 have key:∃k,(x,k)∈(lK scope env).names/\(k=.cell\/k=.free):=by
  rcases h with h|h
  ·exact⟨_,PySem.mem_of_lookup h,.inl rfl⟩
  ·exact⟨_,PySem.mem_of_lookup h,.inr rfl⟩
 obtain⟨k,hm,hk⟩:=key;unfold lK at hm;simp only[aV]at hm;obtain⟨⟨n,k0⟩,h0,e⟩:=hm;simp only at e;split at e
 ·rename_i hc;have:k0=.free:=by
   simp only[aU,beq_iff_eq]at hc;exact hc.1.1
  subst this;cases e;exact .inl h0
 ·cases e;rcases hk with rfl|rfl
  ·exact .inr h0
  ·exact .inl h0
theorem w9{env:Env}:∀{names:List (Str×iW)}{x:Str},names.lookup x=some .free->
 (names.map fun(n,k)=>if(k==cg&&env.scope.kind==.function&&env.kindOf n==some .cell)then(n,cD)else(n,k)).lookup x≠some .local
|[],_,h=>by simp at h
|(n,k)::r,x,h=>by
 have ih:=@w9 env r x;show List.lookup x ((if(k==cg&&env.scope.kind==.function&&env.kindOf n==some .cell)=true then(n,cD)else(n,k))::_)≠_;cases hx:x==n with
 |true=>
  simp only[cI,hx]at h;cases h;by_cases hc:(cg==cg&&env.scope.kind==.function&&env.kindOf n==some .cell)=true
  ·rw[if_pos hc];simp only[cI,hx];decide
  ·rw[if_neg hc];simp only[cI,hx];decide
 |false=>
  simp only[cI,hx]at h;by_cases hc:(k==cg&&env.scope.kind==.function&&env.kindOf n==some .cell)=true
  ·rw[if_pos hc];simp only[cI,hx];exact ih h
  ·rw[if_neg hc];simp only[cI,hx];exact ih h
variable{y:Str}{py:Pos}
section
variable{X:Cx}{tgt iter elt:Expr}{ifs:List Expr}{scope:eL}{pos:Pos}{nl:List Str}{fr:List Nat}{wi:R5}{g:TG}{cond:TT}{te:TE}
theorem AZ(S:uG X.env.scope X.N scope nl fr)(I:L2.Inv X pins O H s)(i:Nat)(x:Str)(v:V)(h1:(jC X.N nl fr)[i]?=some x)(h2:(yC nl fr O)[i]?=some (some v)) :
  (x,cg)∈scope.names/\(lK scope X.env).names.lookup x≠some .local/\∃c u,X.env.cells.lookup x=some c/\RelV v u/\s.heap.IsCell c (some u):=by
 unfold jC at h1;unfold yC at h2;by_cases hi:i<nl.length
 ·rw[eB (by simpa using hi),aX,aj hi]at h2;cases h2
 ·rw[cC (by omega)]at h1;rw[cC (by simp;omega)]at h2;rw[aX]at h1 h2;rw[ah]at h2;cases e:fr[i-nl.length]? with
  |none=>rw[e]at h1;cases h1
  |some j=>
   rw[e]at h1 h2;have h1:X.N.getD j jj=x:=cZ h1;have h2:O.getD j none=some v:=cZ h2;obtain⟨y,hy,hf⟩:=S.fr j (ki e);have exy:y=x:=by
    rw[<-h1];simp[hy]
   subst exy;have Z5:O[j]?=some (some v):=by
    cases q:O[j]? with
    |none=>simp[q]at h2
    |some o=>
     simp[q]at h2;rw[h2]
   have hm:=PySem.mem_of_lookup hf;refine⟨hm,w9 hf,?_⟩;obtain⟨m,hn,hl⟩:=I.loc;have hk:=S.free y hm;obtain⟨u,ru,l⟩:=hl j y v hy Z5 (by rcases hk with q|q;exact .inr (.inl q);exact .inr (.inr q));rcases l with⟨l,_⟩|⟨_,c,hc,hcell⟩
   ·exfalso;have l:X.env.scope.names.lookup y=some .local:=l;rcases hk with q|q<;>rw[q]at l<;>cases l
   ·exact⟨c,u,hc,ru,hcell⟩
theorem sZ(S:uG X.env.scope X.N scope nl fr)(I:L2.Inv X pins O H s):∀n,(n,cg)∈scope.names->∃c,X.env.cells.lookup n=some c:=fun n hn=>I.ok.has n (S.free n hn)
theorem TU(hc:X.calm=true)(S:uG X.env.scope X.N scope nl fr)(hi:Dd X tgt iter wi)(hs:∀x,jG iter X.env x=pure x)
  (hg:∀(C:Addr) (ZX:ak) (H:Hp) (ex:List Addr),PG (kX X (jC X.N nl fr) scope C ZX H ex) tgt g)
  (ht:∀(C:Addr) (ZX:ak) (H:Hp) (ex:List Addr),Ib (kX X (jC X.N nl fr) scope C ZX H ex) ifs cond)
  (he:∀(C:Addr) (ZX:ak) (H:Hp) (ex:List Addr),PE (kX X (jC X.N nl fr) scope C ZX H ex) elt te) :
  PE X (.ListComp elt [⟨tgt,iter,ifs,0⟩] scope pos) (fun O H Q=>wi O H fun ok items H1=>qB ok g cond te (fun vs H2=>∀p,H2 p=none->Q (.ref p) (upd H2 p (.lst vs))) items [] (yC nl fr O) H1):=by
 intro pins s O H Q I h;rw[eval_ListComp];refine sI (use:=none) rfl hs (v7 (sZ S I)) S.kind S.names (a7 (hi pins s O H _ I h) fun v Z0 Z3=>a7 Z3 fun itv Z1 aad=>?_);obtain⟨it,fp,tn,J,H2,e,I2,T,st,hf,ok,items,hJ,hk⟩:=aad;subst e;refine AY (RR:=fun acc C=>compPost (aF X.prog X.w) X.A X.xe none (EP X pins O Q) acc C) hc I2 T st hf hJ S.cell S.kind (sZ S I2) ?_ (AZ S I2) w6
  (fun C ZX ex=>hg C ZX H2 ex) (fun C ZX ex=>ht C ZX H2 ex) (fun C ZX ex=>he C ZX H2 ex) hk fun D C s' H3 vs hD q I3 f3 hn=>?_
 ·unfold yC jC;simp
 ·obtain⟨m,hn⟩:=hn;obtain⟨f0,f1,f2,f3,f4,f5⟩:=f3;refine⟨m,hn,fun h' hsb=>⟨.ref D,_,I3.turned (t':=s'.toks) (fun b o hb e=>hsb.extBut b o hb e) f0 f1 f3 f4 f5,rfl,q D hD⟩⟩
theorem TV{i:Nat}{spos:Pos}(hc:X.calm=true)(hN:X.N.Nodup)(hiy:X.N[i]?=some y)(hy:X.env.scope.names.lookup y=some .local)(S:uG X.env.scope X.N scope nl fr)(hi:Dd X tgt iter wi)(hs:∀x,jG iter X.env x=pure x)
  (hsw:pH (.ListComp elt [⟨tgt,iter,ifs,0⟩] scope pos) (some (.Name y py)) spos.line X.env=pure true)
  (hg:∀(C:Addr) (ZX:ak) (H:Hp) (ex:List Addr),PG (kX X (jC X.N nl fr) scope C ZX H ex) tgt g)
  (ht:∀(C:Addr) (ZX:ak) (H:Hp) (ex:List Addr),Ib (kX X (jC X.N nl fr) scope C ZX H ex) ifs cond)
  (he:∀(C:Addr) (ZX:ak) (H:Hp) (ex:List Addr),PE (kX X (jC X.N nl fr) scope C ZX H ex) elt te) :
  PS X (.Assign [.Name y py] (.ListComp elt [⟨tgt,iter,ifs,0⟩] scope pos) spos) (fun D O H=>wi O H fun ok items H1=>qB ok g cond te (fun vs H2=>∀p,H2 p=none->D.nx (O.set i (some (.ref p))) (upd H2 p (.lst vs))) items [] (yC nl fr O) H1):=by
 intro pins s O H D I h;rw[PySem.exec_Assign_Name_used _ _ _ _ hsw];refine au (wu (au ?_));show aH _ X.A (do let _ <-comprehension (.ListComp elt [⟨tgt,iter,ifs,0⟩] scope pos) scope X.env _ (newList []) false (eval iter X.env) (some (pJ (.Name y py) X.env))) _ _ s;refine au (kh (sI (use:=some (pJ (.Name y py) X.env)) (Q:=fun _ s'=>SP X pins D .next s') rfl hs (v7 (sZ S I)) S.kind S.names
  (a7 (hi pins s O H _ I h) fun v Z0 Z3=>a7 Z3 fun itv Z1 aad=>?_)) (fun _ s' hq=>bh (bh hq)) fun _ _ e=>e)
 obtain⟨it,fp,tn,J,H2,e,I2,T,st,hf,ok,items,hJ,hk⟩:=aad;subst e;refine AY (RR:=fun acc C=>compPost (aF X.prog X.w) X.A X.xe (some (pJ (.Name y py) X.env)) (fun _ s'=>SP X pins D .next s') acc C) hc I2 T st hf hJ S.cell S.kind (sZ S I2) ?_ (AZ S I2) w6
  (fun C ZX ex=>hg C ZX H2 ex) (fun C ZX ex=>ht C ZX H2 ex) (fun C ZX ex=>he C ZX H2 ex) hk fun DD C s' H3 vs hD q I3 f3 hn=>?_
 ·unfold yC jC;simp
 ·obtain⟨m,hn⟩:=hn;obtain⟨f0,f1,f2,f3,f4,f5⟩:=f3;refine yP (CW (v:=.ref DD) (u:=.ref DD) I3 hN hiy (.inl hy) rfl (fun s'' I4 hsame=>?_) (.inr hy));obtain⟨a,hs',ha⟩:=hsame;have hCa:C≠a:=by
   rcases ha with q|q
   ·rw[q];exact f1
   ·exact fun z=>f4 y a q z.symm
  refine⟨m,hn.sameBut hs' hCa,fun h' hsb=>⟨_,_,I4.turned (t':=s''.toks) (fun b o hb e=>hsb.extBut b o hb e) f0 f1 f3 f4 f5,q DD hD⟩⟩
end
structure Tab where
 N:List Str
 sc:eL
 gl:List Str
 bn:List Str
 own:Str->Bool
 calm:Bool
noncomputable def Jz(sc:eL)(x:Str):Bool:=match sc.names.lookup x with
|some .local=>true
|some .cell=>true
|some .free=>true
|_=>false
noncomputable def OZ(T:Tab)(x:Str):Bool:=match T.sc.names.lookup x with
|some .local=>true
|some .cell=>T.own x
|_=>false
noncomputable def s_(sc:eL)(x:Str):Bool:=decide (sc.names.lookup x=some .globalImplicit)
noncomputable def noStar:Expr->Bool
|.Starred ..=>false
|_=>true
noncomputable def ck(es:List Expr):Bool:=es.all noStar
noncomputable def A0:Expr->Bool
|.Call (.Name id _) [] [] _=>!(id==("super":Str))
|_=>true
noncomputable def vv:Expr->Bool
|.Slice ..=>false
|_=>true
noncomputable def A4:Expr->Bool
|.Set ..=>false
|_=>true
noncomputable def uH:Expr->Bool
|.ListComp ..=>false
|.SetComp ..=>false
|.DictComp ..=>false
|_=>true
noncomputable def notTuple:Expr->Bool
|.Tuple ..=>false
|.List ..=>false
|_=>true
noncomputable def VV:V->Const->Bool
|.int i,.int j=>decide (i=j)
|.bl a,.bool b=>decide (a=b)
|.str a,.str b=>decide (a=b)
|.non,.none=>true
|_,_=>false
noncomputable def De(scope sc:eL):eL:=
 { scope with names:=scope.names.map fun(n,k)=>if(k==.free&&sc.kind==.function&&sc.names.lookup n==some .cell)then(n,.cell)else(n,k) }
noncomputable def EI(T:Tab)(scope:eL)(nl:List Str)(fr:List Nat):Tab:={ N:=jC T.N nl fr,sc:=De scope T.sc,gl:=T.gl,bn:=T.bn,own:=(fun x=>scope.names.lookup x==some .cell),calm:=T.calm }
noncomputable def qS(sc:eL)(N:List Str)(scope:eL)(nl:List Str)(fr:List Nat):Bool:=
 decide (scope.kind=.function)&&scope.names.all (fun y=>decide (y.2=.free->(y.1,cD)∉scope.names))&&scope.names.all (fun x=>decide (x.2=.local->scope.names.lookup x.1=some .local))
 && scope.names.all (fun x=>decide (x.2=.free->sc.names.lookup x.1=some .cell\/sc.names.lookup x.1=some .free))&&fr.all (fun i=>match N[i]? with|some x=>decide (scope.names.lookup x=some .free)|none=>false)
 && decide (jC N nl fr).Nodup
noncomputable def O0:CI->Expr->Bool
|.enum _,e=>match e with
 |.Tuple ..=>true
 |_=>false
|_,_=>true
noncomputable def O1(sc:eL):Expr->Bool
|.Name y _=>!decide (sc.names.lookup y=some .local)
|_=>true
noncomputable def EJ(sc scope:eL)(t:Str)(pos vpos:Pos):Bool:=decide (sc.names.lookup t=some .local)&&decide (pos.line=vpos.line)&&!(scope.names.any fun(n,k)=>n==t&&(k==.local||k==.cell))
noncomputable def XQ(T:Tab)(g:Nat):Expr->Bool
|.Name y _=>decide (T.gl[g]?=some y)&&s_ T.sc y&&!(y==("__debug__":Str))
|_=>false
noncomputable def XR(T:Tab):List Nat->List Expr->Bool
|[],es=>es.isEmpty
|g::gs,es=>match es with
 |e::er=>XQ T g e&&XR T gs er
 |_=>false
noncomputable def fI(k:Nat):Expr->Bool
|.Call f _ _ _=>f.ctorIdx==k
|_=>false
noncomputable def aI:Expr->Bool
|.Call _ [_,c] _ _=>c.ctorIdx==23
|_=>false
noncomputable def uI:Expr->Bool
|.Subscript _ r _=>r.ctorIdx==26
|_=>false
noncomputable def cI2:Stmt->Bool
|.Assign (t::_) e _=>t.ctorIdx==23&&e.ctorIdx==8
|_=>false
noncomputable def rI:Stmt->Bool
|.Raise (some e) _ _=>e.ctorIdx==16&&fI 23 e
|_=>false
noncomputable def bI1:List Stmt->Bool
|s::_=>s.ctorIdx==24&&match s with
 |.Expr e _=>e.ctorIdx==16&&fI 23 e
 |_=>false
|_=>false
noncomputable def bI2:List Stmt->Bool
|s::_=>s.ctorIdx==12
|_=>false
noncomputable def XS:List (Str×Int)->List (Option Expr)->List Expr->Bool
|[],ks,vs=>ks.isEmpty&&vs.isEmpty
|p::r,ks,vs=>match ks,vs with
 |some (.Constant (.str x) _ _)::ks,.Constant (.int i) _ _::vs=>decide (x=p.1/\i=p.2)&&XS r ks vs
 |_,_=>false
noncomputable def Zq(T:Tab)(c:Expr):Bool:=c.ctorIdx==25&&match c with
|.Tuple [.Name y _,.Name z _] _ _=>decide (y=("list":Str))&&s_ T.sc y&&T.bn.contains y&&decide (z=("tuple":Str))&&s_ T.sc z&&T.bn.contains z
|_=>false
noncomputable def yD(T:Tab):List (Str×Nat)->List Expr->Bool
|[],es=>es.isEmpty
|p::r,es=>match es with
 |.Constant (.str x) _ _::.FormattedValue (.Name y _) c none _::es=>decide (x=p.1)&&decide (c=-1)&&decide (T.N[p.2]?=some y)&&Jz T.sc y&&!(y==("__debug__":Str))&&!(y==("__classdict__":Str))&&yD T r es
 |_=>false
mutual
noncomputable def dw(T:Tab):CE->Expr->Bool
|.var i,e=>e.ctorIdx==23&&match e with
 |.Name x _=>decide (T.N[i]?=some x)&&Jz T.sc x&&!(x==("__debug__":Str))&&!(x==("__classdict__":Str))
 |_=>false
|.con v,e=>e.ctorIdx==19&&match e with
 |.Constant c _ _=>VV v c
 |_=>false
|.glo g,e=>e.ctorIdx==23&&match e with
 |.Name x _=>decide (T.gl[g]?=some x)&&s_ T.sc x&&!(x==("__debug__":Str))
 |_=>false
|.bin op a b,e=>e.ctorIdx==2&&match e with
 |.BinOp l o r _=>decide (op=o)&&dw T a l&&dw T b r
 |_=>false
|.neg a,e=>e.ctorIdx==3&&match e with
 |.UnaryOp .USub l _=>dw T a l
 |_=>false
|.not a,e=>e.ctorIdx==3&&match e with
 |.UnaryOp .Not l _=>dw T a l
 |_=>false
|.and a b,e=>e.ctorIdx==0&&match e with
 |.BoolOp .And [x,y] _=>dw T a x&&dw T b y
 |.BoolOp .And (x::y::z::r) pos=>dw T a x&&dw T b (.BoolOp .And (y::z::r) pos)
 |_=>false
|.or a b,e=>e.ctorIdx==0&&match e with
 |.BoolOp .Or [x,y] _=>dw T a x&&dw T b y
 |.BoolOp .Or (x::y::z::r) pos=>dw T a x&&dw T b (.BoolOp .Or (y::z::r) pos)
 |_=>false
|.ite c a b,e=>e.ctorIdx==5&&match e with
 |.IfExp t x y _=>dw T c t&&dw T a x&&dw T b y
 |_=>false
|.cmp op a b,e=>e.ctorIdx==15&&match e with
 |.Compare l [o] [r] _=>decide (op=o)&&!wz o r&&dw T a l&&dw T b r
 |_=>false
|.chain o1 o2 a b c,e=>e.ctorIdx==15&&match e with
 |.Compare l [p1,p2] [m,r] _=>decide (o1=p1)&&decide (o2=p2)&&!Ej [p1,p2] [m,r]&&dw T a l&&dw T b m&&dw T c r
 |_=>false
|.call g as,e=>e.ctorIdx==16&&(fI 23 e&&match e with
 |.Call (.Name x _) es [] _=>decide (T.gl[g]?=some x)&&s_ T.sc x&&!(x==("__debug__":Str))&&ck es&&oK T as es
 |_=>false)
|.blt f as,e=>e.ctorIdx==16&&(fI 23 e&&match e with
 |.Call (.Name x _) es [] _=>T.calm&&(decide (x=f.name)&&s_ T.sc x&&T.bn.contains x&&ck es&&!es.isEmpty&&oK T as es)
 |_=>false)
|.isi a t,e=>e.ctorIdx==16&&(fI 23 e&&(if t=.none then(match e with
 |.Call (.Name x _) [l,c] [] _=>decide (x=("isinstance":Str))&&s_ T.sc x&&T.bn.contains x&&Zq T c&&noStar l&&dw T a l
 |_=>false)else aI e&&match e with
 |.Call (.Name x _) [l,.Name y _] [] _=>decide (x=("isinstance":Str))&&s_ T.sc x&&T.bn.contains x&&decide (y=t.name)&&decide (t≠.none)&&s_ T.sc y&&T.bn.contains y&&noStar l&&dw T a l
 |_=>false))
|.mth m o as,e=>e.ctorIdx==16&&(fI 20 e&&match e with
 |.Call (.Attribute l nm apos) es [] cpos=>decide (nm=m.name)&&A0 l&&(apos.endLine==cpos.line)&&ck es&&decide (es.length<30)&&dw T o l&&oK T as es
 |_=>false)
|.ix a b,e=>e.ctorIdx==21&&match e with
 |.Subscript l r _=>vv r&&dw T a l&&dw T b r
 |_=>false
|.sl a lo hi,e=>e.ctorIdx==21&&(uI e&&match e with
 |.Subscript l (.Slice x y none _) _=>dw T a l&&O2 T lo x&&O2 T hi y
 |_=>false)
|.lst as,e=>e.ctorIdx==24&&match e with
 |.List es _=>ck es&&oK T as es
 |_=>false
|.tup as,e=>e.ctorIdx==25&&match e with
 |.Tuple es _ _=>ck es&&oK T as es
 |_=>false
|.dct,e=>e.ctorIdx==6&&match e with
 |.Dict [] [] _=>true
 |_=>false
|.fst ps,e=>e.ctorIdx==18&&match e with
 |.JoinedStr es _=>!ps.isEmpty&&yD T ps es
 |_=>false
|.comp nl fr elt tg src cond,e=>e.ctorIdx==8&&match e with
 |.ListComp l [⟨t,it,ifs,0⟩] sc _=>T.calm&&(qS T.sc T.N sc nl fr&&(A4 it&&O0 src t)&&O3 T src it&&zT (EI T sc nl fr) tg t&&VW (EI T sc nl fr) cond ifs&&dw (EI T sc nl fr) elt l)
 |_=>false
|.mx1 up a,e=>match e with
 |.Call (.Name x _) [l] [] _=>T.calm&&(decide (x=YH up)&&s_ T.sc x&&T.bn.contains x&&noStar l&&dw T a l)
 |_=>false
noncomputable def oK(T:Tab):jB->List Expr->Bool
|.nil,es=>match es with
 |[]=>true
 |_=>false
|.cons a r,es=>match es with
 |e::er=>dw T a e&&oK T r er
 |_=>false
noncomputable def O2(T:Tab):CO->Option Expr->Bool
|.none,e=>match e with
 |none=>true
 |_=>false
|.some a,e=>match e with
 |some x=>dw T a x
 |_=>false
noncomputable def VW(T:Tab):CO->List Expr->Bool
|.none,es=>match es with
 |[]=>true
 |_=>false
|.some a,es=>match es with
 |[x]=>dw T a x
 |_=>false
noncomputable def zT(T:Tab):CG->Expr->Bool
|.name i,e=>e.ctorIdx==23&&match e with
 |.Name x _=>decide (T.N[i]?=some x)&&OZ T x
 |_=>false
|.tup gs,e=>e.ctorIdx==25&&match e with
 |.Tuple es _ _=>T.calm&&(ck es&&EK T gs es)
 |_=>false
|.sub o i,e=>e.ctorIdx==21&&match e with
 |.Subscript l r _=>vv r&&dw T o l&&dw T i r
 |_=>false
noncomputable def EK(T:Tab):oV->List Expr->Bool
|.nil,es=>match es with
 |[]=>true
 |_=>false
|.cons g r,es=>match es with
 |e::er=>zT T g e&&EK T r er
 |_=>false
noncomputable def O3(T:Tab):CI->Expr->Bool
|.seq a,e=>dw T a e
|.range as,e=>e.ctorIdx==16&&(fI 23 e&&match e with
 |.Call (.Name x _) es [] _=>decide (x=("range":Str))&&s_ T.sc x&&T.bn.contains x&&ck es&&!es.isEmpty&&oK T as es
 |_=>false)
|.enum a,e=>e.ctorIdx==16&&(fI 23 e&&match e with
 |.Call (.Name x _) [l] [] _=>decide (x=("enumerate":Str))&&s_ T.sc x&&T.bn.contains x&&noStar l&&dw T a l
 |_=>false)
end
noncomputable def VX(T:Tab):CB->List Stmt->Bool
|.call g as,sts=>bI1 sts&&match sts with
 |[.Expr (.Call (.Name x _) es [] _) _]=>decide (T.gl[g]?=some x)&&s_ T.sc x&&!(x==("__debug__":Str))&&ck es&&!es.isEmpty&&oK T as es
 |_=>false
|.ite c a b,sts=>bI2 sts&&match sts with
 |[.If t x y _]=>dw T c t&&VX T a x&&VX T b y
 |_=>false
mutual
noncomputable def FA(T:Tab):CS->Stmt->Bool
|.expr c,st=>st.ctorIdx==24&&match st with
 |.Expr e _=>uH e&&dw T c e
 |_=>false
|.asg g c,st=>st.ctorIdx==5&&match st with
 |.Assign [t] e _=>(uH e||O1 T.sc t)&&notTuple t&&zT T g t&&dw T c e
 |_=>false
|.casg i c,st=>st.ctorIdx==5&&(cI2 st&&match st with
 |.Assign [.Name y py] (.ListComp l gs sc vpos) _=>T.calm&&(decide (T.N[i]?=some y)&&EJ T.sc sc y py vpos&&dw T c (.ListComp l gs sc vpos))
 |_=>false)
|.ret c,st=>st.ctorIdx==3&&match st with
 |.Return (some e) _=>dw T c e
 |_=>false
|.ifs c a b,st=>st.ctorIdx==12&&match st with
 |.If t x y _=>dw T c t&&lE T a x&&lE T b y
 |_=>false
|.whil c b,st=>match st with
 |.While t x [] _=>dw T c t&&lE T b x
 |_=>false
|.forr g src b,st=>st.ctorIdx==9&&match st with
 |.For t it x [] _=>T.calm&&((A4 it&&O0 src t)&&O3 T src it&&zT T g t&&lE T b x)
 |_=>false
|.fork g k b,st=>st.ctorIdx==9&&match st with
 |.For t it x [] _=>T.calm&&(A4 it&&dw T (.var k) it&&zT T g t&&lE T b x)
 |_=>false
|.brk,st=>st.ctorIdx==26&&match st with
 |.Break _=>true
 |_=>false
|.cont,st=>st.ctorIdx==27&&match st with
 |.Continue _=>true
 |_=>false
|.never,_=>true
noncomputable def lE(T:Tab):bW->List Stmt->Bool
|.nil,sts=>match sts with
 |[]=>true
 |_=>false
|.cons s r,sts=>match sts with
 |st::sr=>FA T s st&&lE T r sr
 |_=>false
|.two s t r,sts=>match sts with
 |st::su::sr=>FA T s st&&(FA T t su&&lE T r sr)
 |_=>false
|.chg s r,sts=>match sts with
 |st::sr=>FA T s st&&lE T r sr
 |_=>false
|.pin k r,sts=>lE T r sts
end
def GOk(X:Cx)(E:XK)(x:Str):G->Prop
|.val v=>∃u,X.mg x=some u/\RelV v u
|.tup a xs=>X.mg x=some (.ref a)/\HX X.K a true xs
|.fn sp dvs=>∃(k:Nat) (f:Addr) (fd:gq) (ps:List Str) (ds:List Value),gZ X.prog X.w X.K X.mg X.base (kR X.prog X.w) k f fd ps sp/\kW k X.A/\X.mg x=some (.ref f)/\PySem.W.keepIn X.K (.ref f)=true/\Binds X.K fd ps ds/\bB dvs ds /\
  wU (kR X.prog X.w) X E
|.nop=>True
theorem VY{outer:List Env}{e:Value}{s':ak}(h:kR P w outer H s E0 e s'):False:=by
 obtain⟨_,_,_,_,_,_,_,_,_,_,q⟩:=h;exact q
structure Ok (X:Cx) (T:Tab) (Y:List G) (E:XK):Prop where
 N:X.N=T.N
 nd:X.N.Nodup
 sc:X.env.scope=T.sc
 kind:X.env.scope.kind=.function
 gl:∀(i:Nat) (x:Str) (g:G),T.gl[i]?=some x->Y[i]?=some g->GOk X E x g
 bn:∀x∈T.bn,X.mg x=none
 own:∀x,T.own x=true->X.fn x=true
 calm:T.calm=true->X.calm=true
 po:tU (aF X.prog X.w) X.A X.env X.xe
 room:X.A.units+60<dc
variable{sc:eL}{nl:List Str}{fr:List Nat}
theorem oq{T:Tab}{Y:List G}{E:XK}(ok:Ok X T Y E)(h:qS T.sc T.N sc nl fr=true)(C:Addr)(ZX:ak)(H:Hp)(ex:List Addr) :
  Ok (kX X (jC X.N nl fr) sc C ZX H ex) (EI T sc nl fr) Y E0:=by
 unfold qS at h;simp only[aU,decide_eq_true_eq]at h;obtain⟨⟨⟨⟨⟨h1,h2⟩,h3⟩,h4⟩,h5⟩,h6⟩:=h;refine⟨?_,?_,?_,h1,fun i x g hx hg=>?_,ok.bn,fun x z=>z,ok.calm,S1,ok.room⟩
 ·show jC X.N nl fr=jC T.N nl fr;rw[ok.N]
 ·show(jC X.N nl fr).Nodup;rw[ok.N];exact h6
 ·show lK sc X.env=De sc T.sc;rw[<-ok.sc];rfl
 ·have q:=ok.gl i x g hx hg;cases g with
  |val v=>exact q
  |tup a xs=>exact q
  |fn sp dvs=>
   obtain⟨k,f,fd,ps,ds,q1,q2,q3,q4,q5,q6,q7⟩:=q;exact⟨k,f,fd,ps,ds,q1,q2,q3,q4,q5,q6,fun pins O H s e s' I z=>(VY z).elim⟩
  |_=>exact q
theorem LI{N:List Str}(h:qS sc N scope nl fr=true):uG sc N scope nl fr:=by
 unfold qS at h;simp only[aU,decide_eq_true_eq]at h;obtain⟨⟨⟨⟨⟨h1,h2⟩,h3⟩,h4⟩,h5⟩,h6⟩:=h;refine⟨h1,fun y hy=>of_decide_eq_true (bH.mp h2 y hy),fun x hx=>of_decide_eq_true (bH.mp h3 x hx),fun n hn=>?_,fun i hi=>?_⟩
 ·exact of_decide_eq_true (bH.mp h4 (n,.free) hn) rfl
 ·have q:=bH.mp h5 i hi;revert q;cases N[i]? with
  |none=>intro q;exact absurd q aR
  |some x=>intro q;exact⟨x,rfl,of_decide_eq_true q⟩
section
variable{env:Env}
theorem gy(h:noStar e=true):dJ (e::es) env=(false,eval e env)::dJ es env:=by
 cases e<;>first|rfl|exact absurd (show false=true from h) aR
theorem zU:∀{es:List Expr},ck es=true->dJ es env=es.map fun e=>(false,eval e env)
|[],_=>rfl
|e::es,h=>by
 have h':noStar e=true/\ck es=true:=by simpa[ck]using h
 rw[gy h'.1,zU h'.2];rfl
theorem uJ(h:ck es=true):(lD pos (dJ es env)).any (·.1)=false:=by
 rw[zU h];unfold lD;rw[bK,sJ];rw[fq];intro x _;simp
theorem O4(h:ck es=true)(hl:es.length<30) :
  ((lD pos (dJ es env)).all (fun x=>!x.1)&&(GU pos (zB [] env)).all (fun x=>x.1.isSome)&&decide (es.length+([]:List u6).length+(if([]:List u6).isEmpty then 0 else 1)<30))=true:=by
 rw[zU h];unfold lD;rw[bK,jX];have e1:(es.all ((fun x:Bool×Sem Value=>!x.1)∘(fun x:Bool×Sem Value=>(x.1,if x.1 then do let v <-x.2;CH pos;pure v else x.2))∘fun e=>(false,eval e env)))=true:=by
  rw[bH];intro x _;rfl
 have e2:decide (es.length+([]:List u6).length+(if([]:List u6).isEmpty then 0 else 1)<30)=true:=by
  simpa using hl
 rw[e2,ie];exact kr.mpr ⟨e1,rfl⟩
theorem Ic{o:Expr}{nm:Str}{whole:Sem Value}(h:A0 o=true):wA o nm env whole=whole:=by
 unfold wA;split
 ·rename_i id p pos;have:(id==("super":Str))=false:=by simpa[A0]using h
  have h2:(id != ("super":Str))=true:=by simp[bne,this]
  simp only[h2,GS,if_true]
 ·rfl
theorem JA{b:Expr}(h:vv b=true):HR b:=by
 intro o i;cases b<;>first|rfl|exact absurd (show false=true from h) aR
theorem tu(h:A4 e=true):∀x,jG e env x=pure x:=by
 intro x;cases e<;>first|rfl|exact absurd (show false=true from h) aR
theorem A5{t:Option Expr}(h:uH e=true):pH e t n env=pure false:=by
 cases e<;>first|rfl|exact absurd (show false=true from h) aR
theorem LJ(h:Jz env.scope x=true):K7 env.scope x:=by
 unfold Jz at h;unfold K7;split at h
 ·exact .inl (by assumption)
 ·exact .inr (.inl (by assumption))
 ·exact .inr (.inr (by assumption))
 ·exact absurd h aR
theorem ud(h:noStar e=true):iD (e::es) env=(false,pJ e env)::iD es env:=by
 cases e<;>first|rfl|exact absurd (show false=true from h) aR
theorem vz:∀{es:List Expr},ck es=true->(iD es env).length=es.length/\(iD es env).findIdx? (·.1)=none
|[],_=>⟨rfl,rfl⟩
|e::es,h=>by
 have h':noStar e=true/\ck es=true:=by simpa[ck]using h
 obtain⟨a,b⟩:=vz h'.2;rw[ud h'.1];refine⟨by simp[a],?_⟩;rw[List.findIdx?_cons];simp[b]
end
variable{rest:List Expr}
variable{op op':nN}
variable{er:List Expr}
section
variable{X:Cx}{a b c:Expr}{ta tb tc:TE}{pos:Pos}{o:Expr}{to:TE}{es:List Expr}{t:TA}{apos cpos:Pos}{m:Mt}
theorem pe_and'(ha:PE X a ta)(hb:PE X (.BoolOp .And (b::rest) pos) tb):PE X (.BoolOp .And (a::b::rest) pos) (fun O H Q=>ta O H fun x H1=>match x with
  |.bl c=>if c=true then tb O H1 Q else Q (.bl false) H1
  |_=>False):=by
 intro pins s O H Q I h;refine BoolOp_and (a7 (ha pins s O H _ I h) fun v s1 ⟨x,H1,I1,r1,q1⟩=>?_);cases x with
 |bl c=>
  cases r1;refine dR ?_;cases c with
  |true=>exact hb pins s1 O H1 Q I1 q1
  |false=>exact⟨.bl false,H1,I1,rfl,q1⟩
 |_=>exact ay q1
theorem pe_or'(ha:PE X a ta)(hb:PE X (.BoolOp .Or (b::rest) pos) tb):PE X (.BoolOp .Or (a::b::rest) pos) (fun O H Q=>ta O H fun x H1=>match x with
  |.bl c=>if c=true then Q (.bl true) H1 else tb O H1 Q
  |_=>False):=by
 intro pins s O H Q I h;refine BoolOp_or (a7 (ha pins s O H _ I h) fun v s1 ⟨x,H1,I1,r1,q1⟩=>?_);cases x with
 |bl c=>
  cases r1;refine dR ?_;cases c with
  |false=>exact hb pins s1 O H1 Q I1 q1
  |true=>exact⟨.bl true,H1,I1,rfl,q1⟩
 |_=>exact ay q1
theorem pe_not'(ha:PE X a ta):PE X (.UnaryOp .Not a pos) (fun O H Q=>ta O H fun x H1=>kN X.K x H1 fun b=>Q (.bl (!b)) H1):=by
 intro pins s O H Q I h;refine UnaryOp_ (a7 (ha pins s O H _ I h) fun v s1 ⟨x,H1,I1,r1,q1⟩=>?_);refine not_of (a7 (R7 pins s1 O H1 x v (fun b H2=>Q (.bl (!b)) H2) I1 r1 ?_) fun b s2 ⟨H2,I2,q2⟩=>⟨.bl (!b),H2,I2,rfl,q2⟩);exact q1
theorem pe_neg'(ha:PE X a ta):PE X (.UnaryOp .USub a pos) (fun O H Q=>ta O H fun x H1=>match x with
  |.int i=>Q (.int (-i)) H1
  |_=>False):=by
 intro pins s O H Q I h;refine UnaryOp_ (a7 (ha pins s O H _ I h) fun v s1 ⟨x,H1,I1,r1,q1⟩=>?_);cases x with
 |int i=>exact Vv pins s1 O H1 (.int i) v Q I1 r1 ⟨i,rfl,q1⟩
 |_=>exact ay q1
theorem pe_chain'(hu:X.A.units+60<dc)(ha:PE X a ta)(hb:PE X b tb)(hc:PE X c tc)(hm:Ej [op,op'] [b,c]=false):PE X (.Compare a [op,op'] [b,c] pos) (fun O H Q=>ta O H fun x H1=>tb O H1 fun y H2=>mH X.K op x y H2 fun z H3=>match z with
  |.bl k=>if k=true then tc O H3 fun u H4=>mH X.K op' y u H4 Q else Q (.bl false) H3
  |_=>False):=by
 intro pins s O H Q I h;refine Compare_chain (a7 (ha pins s O H _ I h) fun v s1 ⟨x,H1,I1,r1,q1⟩=>chain_link (a7 (hb pins s1 O H1 _ I1 q1) fun u s2 ⟨y,H2,I2,r2,q2⟩=>
  a7 (yz hu op pins s2 O H2 x y v u _ I2 r1 r2 q2) fun d s3 ⟨z,H3,I3,r3,q3⟩=>?_)) hm
 cases z with
 |bl k=>
  cases r3;refine dR ?_;cases k with
  |false=>exact ite_ff ⟨.bl false,H3,I3,rfl,q3⟩
  |true=>exact ite_tt (chain_last (a7 (hc pins s3 O H3 _ I3 q3) fun w' s4 ⟨z',H4,I4,r4,q4⟩=>yz hu op' pins s4 O H4 y z' u w' Q I4 r2 r4 q4))
 |_=>exact ay q3
theorem pt_chain'(hu:X.A.units+60<dc)(ha:PE X a ta)(hb:PE X b tb)(hc:PE X c tc)(hm:Ej [op,op'] [b,c]=false):PT X (.Compare a [op,op'] [b,c] pos) (fun O H Q=>ta O H fun x H1=>tb O H1 fun y H2=>mH X.K op x y H2 fun z H3=>match z with
  |.bl k=>if k=true then tc O H3 fun u H4=>mH X.K op' y u H4 fun z H5=>match z with
   |.bl k=>Q k H5
   |_=>False
   else Q false H3
  |_=>False):=by
 intro pins s O H Q I h;refine isTrue_chain (a7 (ha pins s O H _ I h) fun v s1 ⟨x,H1,I1,r1,q1⟩=>test_link (a7 (hb pins s1 O H1 _ I1 q1) fun u s2 ⟨y,H2,I2,r2,q2⟩=>
  a7 (yz hu op pins s2 O H2 x y v u _ I2 r1 r2 q2) fun d s3 ⟨z,H3,I3,r3,q3⟩=>?_)) hm
 cases z with
 |bl k=>
  cases r3;refine dR ?_;cases k with
  |false=>exact ite_ff ⟨H3,I3,q3⟩
  |true=>
   refine ite_tt (test_last (a7 (hc pins s3 O H3 _ I3 q3) fun w' s4 ⟨z',H4,I4,r4,q4⟩=>a7 (yz hu op' pins s4 O H4 y z' u w' _ I4 r2 r4 q4) fun d' s5 ⟨z2,H5,I5,r5,q5⟩=>?_));cases z2 with
   |bl k2=>
    cases r5;exact dR ⟨H5,I5,q5⟩
   |_=>exact ay q5
 |_=>exact ay q3
theorem pt_cmp'(hu:X.A.units+60<dc)(ha:PE X a ta)(hb:PE X b tb)(hm:wz op b=false):PT X (.Compare a [op] [b] pos) (fun O H Q=>ta O H fun x H1=>tb O H1 fun y H2=>mH X.K op x y H2 fun z H3=>match z with
  |.bl k=>Q k H3
  |_=>False):=by
 intro pins s O H Q I h;refine wpAny_isTrue_Compare1 (a7 (ha pins s O H _ I h) fun v s1 ⟨x,H1,I1,r1,q1⟩=>a7 (hb pins s1 O H1 _ I1 q1) fun u s2 ⟨y,H2,I2,r2,q2⟩=>a7 (yz hu op pins s2 O H2 x y v u _ I2 r1 r2 q2) fun d s3 ⟨z,H3,I3,r3,q3⟩=>?_) hm;cases z with
 |bl k=>
  cases r3;exact dR ⟨H3,I3,q3⟩
 |_=>exact ay q3
theorem pt_val'(ha:PE X a ta)(he:∀whole,ya a X.env whole=(do let v <-whole;CH a.pos;qW [v] (N8 v))):PT X a (fun O H Q=>ta O H fun x H1=>kN X.K x H1 fun b=>Q b H1):=by
 intro pins s O H Q I h;exact isTrue_plain (a7 (ha pins s O H _ I h) fun v s1 ⟨x,H1,I1,r1,q1⟩=>R7 pins s1 O H1 x v Q I1 r1 q1) (he _)
theorem VZ(hu:X.A.units+60<dc)(ho:PE X o to)(ha:PA X (e::er) t)(hb:A0 o=true)(hl:(apos.endLine==cpos.line)=true)(hs:ck (e::er)=true)(hf:(e::er).length<30) :
  PE X (.Call (.Attribute o m.name apos) (e::er) [] cpos) (fun O H Q=>to O H fun x H1=>sY m x H1/\t O H1 fun vs H2=>uc X.K m x vs H2 Q):=by
 intro pins s O H Q I h;refine wpAny_Call_method_late (Ic hb) (O4 hs hf) hl rfl (a7 (ho pins s O H _ I h) fun v s1 ⟨x,H1,I1,r1,hr,q1⟩=>?_);obtain⟨h1,h2⟩:=H9 I1 r1 hr;have fx:=Fy m x H1 hr;refine⟨EH m x,Jw m x,fx.pa,fx.slot,fx.ty,h1,h2,?_⟩;have run:=a7 (ha cpos pins s1 O H1 _ I1 q1) fun us s2 ⟨vs,H2,I2,r2,q2⟩=>H_ hu I2 r1 r2 q2;have hs':noStar e=true/\ck er=true:=by simpa[ck]using hs
 rw[gy hs'.1]at run ⊢;exact uB (by show(false||(lD cpos (dJ er X.env)).any (·.1))=false;rw[uJ hs'.2]<;>rfl) (Calls.evalArgs_plain run)
theorem TX(hu:X.A.units+60<dc)(ho:PE X o to)(hb:A0 o=true)(hl:(apos.endLine==cpos.line)=true) :
  PE X (.Call (.Attribute o m.name apos) [] [] cpos) (fun O H Q=>to O H fun x H1=>sY m x H1/\uc X.K m x [] H1 Q):=by
 intro pins s O H Q I h;refine wpAny_Call_method0_late (Ic hb) hl (a7 (ho pins s O H _ I h) fun v s1 ⟨x,H1,I1,r1,hr,q1⟩=>?_);obtain⟨h1,h2⟩:=H9 I1 r1 hr;have fx:=Fy m x H1 hr;exact⟨EH m x,Jw m x,fx.pa,fx.slot,fx.ty,h1,h2,uB rfl (PySem.evalArgs_none (H_ (us:=[]) hu I1 r1 .nil q1))⟩
theorem V3{ty:Ty}(hg:Gl X x)(hx:x="isinstance")(hm:X.mg x=none)(hgy:Gl X y)(hy:y=ty.name)(hty:ty≠.none)(hmy:X.mg y=none)(ha:PE X a ta)(hs:noStar a=true) :
  PE X (.Call (.Name x p) [a,.Name y py] [] pos) (fun O H Q=>ta O H fun v H1=>rC X.K ty v H1 fun b=>Q (.bl b) H1):=by
 subst hx hy;intro pins s O H Q I h;refine f9 (lW I hg hm BZ ?_);have hst:dJ [a,.Name ty.name py] X.env=[(false,eval a X.env),(false,eval (.Name ty.name py) X.env)]:=by rw[gy hs];rfl
 refine gu ?_ (by rw[hst];rfl) rfl;rw[hst];show aH _ _ (yL ((false,eval a X.env)::[(false,eval (.Name ty.name py) X.env)])) _ _ s;refine f7 (a7 (ha pins s O H _ I h) fun u s1 ⟨v,H1,I1,r1,q1⟩=>?_);have hn:ty.name≠("__name__":Str):=by cases ty<;>decide +kernel
 have hd:(ty.name==("__debug__":Str))=false:=by cases ty<;>decide +kernel
 refine f7 (lW I1 hgy hmy (Ty.boot ty hty) (lT ?_) hn hd);refine a7 (VT I1 r1 q1 hty) fun w s2 ⟨z,H2,I2,r2,e,b,ez,qb⟩=>?_;subst e ez;exact⟨.bl b,_,I2,r2,qb⟩
theorem Bf.TY(f:Bf):(∃id,f.val=.builtin id)\/∃T,f.val=.type T:=by
 cases f<;>first|exact .inl ⟨_,rfl⟩|exact .inr ⟨_,rfl⟩
theorem V4{f:Bf}(hc:X.calm=true)(hu:X.A.units+60<dc)(hg:Gl X x)(hx:x=f.name)(hm:X.mg x=none)(ha:PA X (e::er) t)(hs:ck (e::er)=true):PE X (.Call (.Name x p) (e::er) [] pos) (fun O H Q=>t O H fun vs H1=>zN X.K f vs H1 Q):=by
 subst hx;have hs':noStar e=true/\ck er=true:=by simpa[ck]using hs
 intro pins s O H Q I h;refine f9 (lW I hg hm f.boot ?_ f.ok.1 f.ok.2);have run:=a7 (ha pos pins s O H _ I h) fun us s1 ⟨vs,H1,I1,r1,q1⟩=>XO hc hu f pins s1 O H1 vs us Q I1 r1 q1;rcases f.TY with⟨id,ev⟩|⟨T,ev⟩
 ·rw[ev]at run ⊢;exact gu run (gy hs'.1) (uJ hs'.2)
 ·rw[ev]at run ⊢;exact j6 run (gy hs'.1) (uJ hs'.2)
end
section
variable{X:Cx}{T:Tab}{Y:List G}{E:XK}{a:Expr}{ta:TE}{pos:Pos}
noncomputable def Li:Option Addr->Value
|none=>.type "NoneType"
|some C=>.ref C
end
end L3
end
section
namespace L2
open PySem PySem.W PySem.Calls PyProof.Rows
variable{ns:List Int}
section
variable{prog:bx}{w:bL}{A:cV}{R:BI->ak->Prop}{I S:Addr}{fp wr:List Addr}{G:Array mQ->Array mQ->Prop}{St:Nat->ak->Prop}
theorem O5(W:yp prog w A.in1 I fp wr G ns.length (fun i v=>∃t,v=.int (ns.getD i 0) t) St)(hS:S∉fp)(kw:List (Str×Value)) :
  ∀(k j:Nat) (s:ak) (b:Int) (t:Tok) (c:Nat),ns.length-j=k->j<=ns.length->St j s->s.heap.get? S=some { cls:=.type "list",data:=.seq #[.int b t,.int b t] c }->
  (∀(t':Tok) (s':ak),KU (S::wr) G s s'->R (.ok (.ret (.int ((ns.drop j).foldl (fun a i=>if a<i then i else a) b) t'))) s')->kL (aF prog w) A (.builtin "max.loop" ⟨[.ref I,.none,.ref S],kw⟩) R s:=by
 have hw:S∉wr:=fun h=>hS ((W |>.sub) _ h);have sub:∀b∈wr,b∈S::wr:=fun b hb=>ai _ hb;have out:∀{b:Addr},b∉S::wr->S≠b:=fun hb h=>hb (by rw[h];exact ao);intro k;induction k with
 |zero=>
  intro j s b t c hk hj st e q;have hin:j=ns.length:=by omega
  subst hin;refine jq F.entry_max_loop ?_;rw[gv F.plain_max_loop _];refine(show aH (aF prog w) A.in1 (pP (.ref S) >>= _) _ _ s from au (j0 e rfl ?_));refine(show aH (aF prog w) A.in1 (tryCatch (pK (.ref I)) _ >>= _) _ _ s from au (gR (W.done s _ _ st fun s' hm=>?_)));have e':=hm.heap S _ hw e;refine(show aH (aF prog w) A.in1 (yq S (fun _=>#[]) >>= _) _ _ _ from au (jr e' rfl (au (jz (bh ?_)))));simp only[AD,CT]at q;exact q t _ ((hm.mono sub).then_heap (tk:=s'.toks) (aB _) fun b o hb z=>(bC _ _ (out hb)).trans z)
 |succ k ih=>
  intro j s b t c hk hj st e q;have hlt:j<ns.length:=by omega
  have ed:ns.drop j=ns.getD j 0::ns.drop (j+1):=by
   rw[iE hlt,aK,aj hlt];rfl
  rw[ed]at q;simp only[nQ]at q;refine jq F.entry_max_loop ?_;rw[gv F.plain_max_loop _];refine(show aH (aF prog w) A.in1 (pP (.ref S) >>= _) _ _ s from au (j0 e rfl ?_));refine(show aH (aF prog w) A.in1 (tryCatch (pK (.ref I)) _ >>= _) _ _ s from au (gR (W.item j s _ _ hlt st fun v s' hv st' hm=>?_)));obtain⟨tv,rfl⟩:=hv;have e':=hm.heap S _ hw e;refine(show aH (aF prog w) A.in1 (tryCatch (qW [_,_] (HG .Gt (.int (ns.getD j 0) tv) (.int b t) >>= _)) _ >>= _) _ _ s' from au (gR (gA (au (gt_int ?_)))));refine au (gA (dR (au (jz (bh ?_)))));by_cases hb:b<ns.getD j 0
  ·rw[decide_eq_true hb,if_pos rfl];rw[if_pos hb]at q;refine au (jr e' rfl (au (jz (bh ⟨ig F.plain_max_loop _,ih (j+1) _ _ tv _ (by omega) hlt (W.frame _ s' _ s'.toks st' (aB _) fun a ha o z=>(bC _ _ (fun h:S=a=>hS (by rw[h];exact ha))).trans z) (gb _ e' rfl) fun t' s2 m2=>?_⟩))));exact q t' s2 (l_ W.gtrans ((hm.mono sub).then_heap (aB _) fun a o ha z=>(bC _ _ (out ha)).trans z) m2)
  ·rw[decide_eq_false hb,if_neg aR];rw[if_neg hb]at q;refine au (jz (bh ⟨ig F.plain_max_loop _,ih (j+1) _ b t c (by omega) hlt st' e' fun t' s2 m2=>?_⟩));exact q t' s2 (l_ W.gtrans (hm.mono sub) m2)
noncomputable def R_(up:Bool)(d:Value)(ns:List Int)(t:Tok):Value:=match ns with
|[]=>d
|i::r=>.int (r.foldl (fun a i=>if(if up=true then a<i else i<a)then i else a) i) t
theorem TZ(W:yp prog w A.in1 I fp wr G ns.length (fun i v=>∃t,v=.int (ns.getD i 0) t) St)(hS:S∉fp)(hne:ns≠[]){s:ak}{c:Nat}(st:St 0 s)(e:s.heap.get? S=some { cls:=.type "list",data:=.seq #[] c })
  (q:∀(t':Tok) (s':ak),KU (S::wr) G s s'->R (.ok (.ret (R_ true .none ns t'))) s'):kL (aF prog w) A (.builtin "max.loop" ⟨[.ref I,.none,.ref S],[]⟩) R s:=by
 have hw:S∉wr:=fun h=>hS ((W |>.sub) _ h);have sub:∀b∈wr,b∈S::wr:=fun b hb=>ai _ hb;have out:∀{b:Addr},b∉S::wr->S≠b:=fun hb h=>hb (by rw[h];exact ao);refine jq F.entry_max_loop ?_;rw[gv F.plain_max_loop _];refine(show aH (aF prog w) A.in1 (pP (.ref S) >>= _) _ _ s from au (j0 e rfl ?_));cases ns with
 |nil=>exact absurd rfl hne
 |cons n r=>
  refine(show aH (aF prog w) A.in1 (tryCatch (pK (.ref I)) _ >>= _) _ _ s from au (gR (W.item 0 s _ _ (GZ _) st fun v s' hv st' hm=>?_)));obtain⟨tv,rfl⟩:=hv;have e':=hm.heap S _ hw e;refine(show aH (aF prog w) A.in1 (yq S (fun _=>#[.int n tv,.int n tv]) >>= _) _ _ s' from au (jr e' rfl (bh ⟨ig F.plain_max_loop _,O5 W hS [] r.length 1 _ n tv _ (by simp) (by simp) (W.frame _ s' _ s'.toks st' (aB _) fun a ha o z=>(bC _ _ (fun h:S=a=>hS (by rw[h];exact ha))).trans z) (gb _ e' rfl) fun t' s2 m2=>?_⟩)));exact q t' s2 (l_ W.gtrans ((hm.mono sub).then_heap (aB _) fun a o ha z=>(bC _ _ (out ha)).trans z) m2)
end
end L2
end
section
namespace L3
open PySem PySem.Spec PyProof.Rows PyProof.V L2
theorem Df{prog:bx}{w:bL}{A:cV}{I:Addr}{fp wr:List Addr}{G:Array mQ->Array mQ->Prop}{n:Nat}{P P':Nat->Value->Prop}{St:Nat->ak->Prop}(W:yp prog w A I fp wr G n P St)(h:∀i v,P i v->P' i v):yp prog w A I fp wr G n P' St where
 sub:=W.sub
 grefl:=W.grefl
 gtrans:=W.gtrans
 frame:=W.frame
 item:=fun i s Q E hi st k=>W.item i s Q E hi st fun v s' hP=>k v s' (h i v hP)
 done:=W.done
 self:=W.self
variable{X:Cx}
theorem JB(a:Value):G0 "max" ⟨[a],[]⟩:=by unfold G0;kernel_rfl
theorem JC(hc:X.calm=true){pins:List (Addr×Obj)}{s:ak}{O:L2.St}{H:Hp}{a:Addr}{ns:List Int}{Q:VK}(I:L2.Inv X pins O H s)(hx:gx X.K H a (ns.map V.int))(hne:ns≠[])(q:Q (m_ true ns) H) :
  aH (aF X.prog X.w) X.A (call (.builtin "max") [.ref a]) (EP X pins O Q) X.xe s:=by
 have hname:(toString "max"++toString ".loop":String)="max.loop":=by decide
 refine kmb_tree F.kind_max F.plain_max F.entry_max (JB _) ?_;refine(show aH (aF X.prog X.w) X.A.in1 (pQ "max" ["key","default"] 0 ⟨[],[]⟩ >>= _) _ _ s from au (HH (a:=[none,none]) rfl (au (bh (au (qC hc I hx fun its rv hz Z1 e W st hfp fin=>?_))))));refine au (lU ?_);have hSf:Z1.heap.objs.size∉[s.heap.objs.size,a]:=fun hm=>cM _ (hfp _ hm);have hlen:its.toArray.size=ns.length:=by rw[aG,<-rv.length,ah]
 rw[hname];have W':=Df (P':=fun i v=>∃t,v=.int (ns.getD i 0) t) W.toS (by
  intro i v hP;have hi:its[i]?=some v:=by simpa using hP
  have hl:i<ns.length:=by
   have:=(bQ.mp hi).1;have:=rv.length;rw[ah]at this;omega
  obtain⟨u,hu,ru⟩:=rv.get (show(ns.map V.int)[i]?=some (.int ns[i])by rw[aX,aj hl];rfl);rw[hi]at hu;cases hu;obtain⟨t,rfl⟩:=ru;exact⟨t,by rw[aK,aj hl];rfl⟩)
 rw[hlen]at W';refine bh ⟨ig F.plain_max_loop _,TZ W' hSf hne (W'.frame 0 Z1 _ Z1.toks st (aB _) fun b _ o z=>aP _ z) (bJ _ rfl) fun t' s' hm=>?_⟩;have hm':=CU (tk:=Z1.toks) hm (aB _);rw[EC hm'];refine⟨m_ true ns,H,fin s'.heap s'.toks fun b o hb z=>hm'.heap b o hb z,?_,q⟩;cases ns with
 |nil=>exact rfl
 |cons i r=>exact⟨t',rfl⟩
end L3
end
section
namespace L2
open PySem PySem.W PySem.Calls PyProof.Rows
variable{ns:List Int}
section
variable{prog:bx}{w:bL}{A:cV}{R:BI->ak->Prop}{I S:Addr}{fp wr:List Addr}{G:Array mQ->Array mQ->Prop}{St:Nat->ak->Prop}
theorem O6(W:yp prog w A.in1 I fp wr G ns.length (fun i v=>∃t,v=.int (ns.getD i 0) t) St)(hS:S∉fp)(kw:List (Str×Value)) :
  ∀(k j:Nat) (s:ak) (b:Int) (t:Tok) (c:Nat),ns.length-j=k->j<=ns.length->St j s->s.heap.get? S=some { cls:=.type "list",data:=.seq #[.int b t,.int b t] c }->
  (∀(t':Tok) (s':ak),KU (S::wr) G s s'->R (.ok (.ret (.int ((ns.drop j).foldl (fun a i=>if i<a then i else a) b) t'))) s')->kL (aF prog w) A (.builtin "min.loop" ⟨[.ref I,.none,.ref S],kw⟩) R s:=by
 have hw:S∉wr:=fun h=>hS ((W |>.sub) _ h);have sub:∀b∈wr,b∈S::wr:=fun b hb=>ai _ hb;have out:∀{b:Addr},b∉S::wr->S≠b:=fun hb h=>hb (by rw[h];exact ao);intro k;induction k with
 |zero=>
  intro j s b t c hk hj st e q;have hin:j=ns.length:=by omega
  subst hin;refine jq F.entry_min_loop ?_;rw[gv F.plain_min_loop _];refine(show aH (aF prog w) A.in1 (pP (.ref S) >>= _) _ _ s from au (j0 e rfl ?_));refine(show aH (aF prog w) A.in1 (tryCatch (pK (.ref I)) _ >>= _) _ _ s from au (gR (W.done s _ _ st fun s' hm=>?_)));have e':=hm.heap S _ hw e;refine(show aH (aF prog w) A.in1 (yq S (fun _=>#[]) >>= _) _ _ _ from au (jr e' rfl (au (jz (bh ?_)))));simp only[AD,CT]at q;exact q t _ ((hm.mono sub).then_heap (tk:=s'.toks) (aB _) fun b o hb z=>(bC _ _ (out hb)).trans z)
 |succ k ih=>
  intro j s b t c hk hj st e q;have hlt:j<ns.length:=by omega
  have ed:ns.drop j=ns.getD j 0::ns.drop (j+1):=by
   rw[iE hlt,aK,aj hlt];rfl
  rw[ed]at q;simp only[nQ]at q;refine jq F.entry_min_loop ?_;rw[gv F.plain_min_loop _];refine(show aH (aF prog w) A.in1 (pP (.ref S) >>= _) _ _ s from au (j0 e rfl ?_));refine(show aH (aF prog w) A.in1 (tryCatch (pK (.ref I)) _ >>= _) _ _ s from au (gR (W.item j s _ _ hlt st fun v s' hv st' hm=>?_)));obtain⟨tv,rfl⟩:=hv;have e':=hm.heap S _ hw e;refine(show aH (aF prog w) A.in1 (tryCatch (qW [_,_] (HG .Lt (.int (ns.getD j 0) tv) (.int b t) >>= _)) _ >>= _) _ _ s' from au (gR (gA (au (N9 ?_)))));refine au (gA (dR (au (jz (bh ?_)))));by_cases hb:ns.getD j 0<b
  ·rw[decide_eq_true hb,if_pos rfl];rw[if_pos hb]at q;refine au (jr e' rfl (au (jz (bh ⟨ig F.plain_min_loop _,ih (j+1) _ _ tv _ (by omega) hlt (W.frame _ s' _ s'.toks st' (aB _) fun a ha o z=>(bC _ _ (fun h:S=a=>hS (by rw[h];exact ha))).trans z) (gb _ e' rfl) fun t' s2 m2=>?_⟩))));exact q t' s2 (l_ W.gtrans ((hm.mono sub).then_heap (aB _) fun a o ha z=>(bC _ _ (out ha)).trans z) m2)
  ·rw[decide_eq_false hb,if_neg aR];rw[if_neg hb]at q;refine au (jz (bh ⟨ig F.plain_min_loop _,ih (j+1) _ b t c (by omega) hlt st' e' fun t' s2 m2=>?_⟩));exact q t' s2 (l_ W.gtrans (hm.mono sub) m2)
theorem T3(W:yp prog w A.in1 I fp wr G ns.length (fun i v=>∃t,v=.int (ns.getD i 0) t) St)(hS:S∉fp)(hne:ns≠[]){s:ak}{c:Nat}(st:St 0 s)(e:s.heap.get? S=some { cls:=.type "list",data:=.seq #[] c })
  (q:∀(t':Tok) (s':ak),KU (S::wr) G s s'->R (.ok (.ret (R_ false .none ns t'))) s'):kL (aF prog w) A (.builtin "min.loop" ⟨[.ref I,.none,.ref S],[]⟩) R s:=by
 have hw:S∉wr:=fun h=>hS ((W |>.sub) _ h);have sub:∀b∈wr,b∈S::wr:=fun b hb=>ai _ hb;have out:∀{b:Addr},b∉S::wr->S≠b:=fun hb h=>hb (by rw[h];exact ao);refine jq F.entry_min_loop ?_;rw[gv F.plain_min_loop _];refine(show aH (aF prog w) A.in1 (pP (.ref S) >>= _) _ _ s from au (j0 e rfl ?_));cases ns with
 |nil=>exact absurd rfl hne
 |cons n r=>
  refine(show aH (aF prog w) A.in1 (tryCatch (pK (.ref I)) _ >>= _) _ _ s from au (gR (W.item 0 s _ _ (GZ _) st fun v s' hv st' hm=>?_)));obtain⟨tv,rfl⟩:=hv;have e':=hm.heap S _ hw e;refine(show aH (aF prog w) A.in1 (yq S (fun _=>#[.int n tv,.int n tv]) >>= _) _ _ s' from au (jr e' rfl (bh ⟨ig F.plain_min_loop _,O6 W hS [] r.length 1 _ n tv _ (by simp) (by simp) (W.frame _ s' _ s'.toks st' (aB _) fun a ha o z=>(bC _ _ (fun h:S=a=>hS (by rw[h];exact ha))).trans z) (gb _ e' rfl) fun t' s2 m2=>?_⟩)));exact q t' s2 (l_ W.gtrans ((hm.mono sub).then_heap (aB _) fun a o ha z=>(bC _ _ (out ha)).trans z) m2)
end
end L2
end
section
namespace L3
open PySem PySem.Spec PyProof.Rows PyProof.V L2
variable{X:Cx}
theorem JD(a:Value):G0 "min" ⟨[a],[]⟩:=by unfold G0;kernel_rfl
theorem JE(hc:X.calm=true){pins:List (Addr×Obj)}{s:ak}{O:L2.St}{H:Hp}{a:Addr}{ns:List Int}{Q:VK}(I:L2.Inv X pins O H s)(hx:gx X.K H a (ns.map V.int))(hne:ns≠[])(q:Q (m_ false ns) H) :
  aH (aF X.prog X.w) X.A (call (.builtin "min") [.ref a]) (EP X pins O Q) X.xe s:=by
 have hname:(toString "min"++toString ".loop":String)="min.loop":=by decide
 refine kmb_tree F.kind_min F.plain_min F.entry_min (JD _) ?_;refine(show aH (aF X.prog X.w) X.A.in1 (pQ "min" ["key","default"] 0 ⟨[],[]⟩ >>= _) _ _ s from au (HH (a:=[none,none]) rfl (au (bh (au (qC hc I hx fun its rv hz Z1 e W st hfp fin=>?_))))));refine au (lU ?_);have hSf:Z1.heap.objs.size∉[s.heap.objs.size,a]:=fun hm=>cM _ (hfp _ hm);have hlen:its.toArray.size=ns.length:=by rw[aG,<-rv.length,ah]
 rw[hname];have W':=Df (P':=fun i v=>∃t,v=.int (ns.getD i 0) t) W.toS (by
  intro i v hP;have hi:its[i]?=some v:=by simpa using hP
  have hl:i<ns.length:=by
   have:=(bQ.mp hi).1;have:=rv.length;rw[ah]at this;omega
  obtain⟨u,hu,ru⟩:=rv.get (show(ns.map V.int)[i]?=some (.int ns[i])by rw[aX,aj hl];rfl);rw[hi]at hu;cases hu;obtain⟨t,rfl⟩:=ru;exact⟨t,by rw[aK,aj hl];rfl⟩)
 rw[hlen]at W';refine bh ⟨ig F.plain_min_loop _,T3 W' hSf hne (W'.frame 0 Z1 _ Z1.toks st (aB _) fun b _ o z=>aP _ z) (bJ _ rfl) fun t' s' hm=>?_⟩;have hm':=CU (tk:=Z1.toks) hm (aB _);rw[EC hm'];refine⟨m_ false ns,H,fin s'.heap s'.toks fun b o hb z=>hm'.heap b o hb z,?_,q⟩;cases ns with
 |nil=>exact rfl
 |cons i r=>exact⟨t',rfl⟩
end L3
end
section
namespace L3
open PySem PySem.Spec PyProof.Rows L2
variable{X:Cx}
variable{x:Str}{p pos:Pos}{e:Expr}{te:TE}
theorem V5{up:Bool}(hc:X.calm=true)(hg:Gl X x)(hx:x=YH up)(hm:X.mg x=none)(ha:PE X e te)(hs:noStar e=true) :
  PE X (.Call (.Name x p) [e] [] pos) (fun O H Q=>te O H fun v H1=>∃a ns,v=.ref a/\gx X.K H1 a (ns.map V.int)/\ns≠[]/\Q (m_ up ns) H1):=by
 intro pins s O H Q I h;have run:∀id:String,(∀(s1:ak) (H1:Hp) (a:Addr) (ns:List Int),L2.Inv X pins O H1 s1->gx X.K H1 a (ns.map V.int)->ns≠[]->Q (m_ up ns) H1->aH (aF X.prog X.w) X.A (call (.builtin id) [.ref a]) (EP X pins O Q) X.xe s1)->
   aH (aF X.prog X.w) X.A (callWith pos (.builtin id) [] (lD pos (dJ [e] X.env)) (GU pos (zB [] X.env))) (EP X pins O Q) X.xe s:=by
  intro id go;refine gu (a7 (B8 ha E3 (gy hs) pos pins s O H (fun vs H1=>match vs with|[v]=>∃a ns,v=.ref a/\gx X.K H1 a (ns.map V.int)/\ns≠[]/\Q (m_ up ns) H1|_=>False) I h) fun us s1 ⟨vs,H1,I1,r1,q1⟩=>?_) (gy hs) rfl
  match vs,r1,q1 with
  |[v],r1,⟨a,ns,e1,hx,hne,q1⟩=>
   subst e1;obtain⟨u,rfl,ru⟩:=vals1 r1;cases ru;exact go s1 H1 a ns I1 hx hne q1
 cases up with
 |true=>
  have hx:x="max":=hx;subst hx;exact f9 (lW I hg hm (u:=.builtin "max") (by decide +kernel) (run "max" fun s1 H1 a ns I1 hx hne q1=>JC hc I1 hx hne q1) (by decide) (by decide))
 |false=>
  have hx:x="min":=hx;subst hx;exact f9 (lW I hg hm (u:=.builtin "min") (by decide +kernel) (run "min" fun s1 H1 a ns I1 hx hne q1=>JE hc I1 hx hne q1) (by decide) (by decide))
variable{α:Type}
theorem range_getD(d:α)(ss:List α):(bA ss.length).map (fun i=>ss.getD i d)=ss:=by
 apply sE
 ·simp
 ·intro i h1 h2;simp[aK,h2]
variable{T:Tab}{Y:List G}{E:XK}
variable{n:Nat}
variable{a:Expr}{k:Nat}
variable{es:List Expr}
section
variable{X:Cx}{pins:List (Addr×Obj)}{O:L2.St}{H:Hp}
theorem Sa:∀(ps:List (Str×Nat)) (a y:Str),uF O ps a=some y->a.length<=y.length
|[],a,y,h=>by cases h;exact aB _
|p::r,a,y,h=>by
 have h:(match O[p.2]? with
  |some (some v)=>(vm v).bind fun y=>uF O r (a++p.1++y)
  |_=>none)=some y:=h
 split at h
 ·rename_i v _;cases c:vm v with
  |none=>rw[c]at h;cases h
  |some z=>
   rw[c]at h;have q:=Sa r _ y h;rw[mE,mE]at q;omega
 ·cases h
theorem FE(ok:Ok X T Y E):∀(ps:List (Str×Nat)) (es:List Expr) (h:yD T ps es=true) (a y:Str) (s:ak) (I:L2.Inv X pins O H s) (hy:uF O ps a=some y) (hl:y.length<=aa) {Q:Str->ak->Prop} (q:∀s',L2.Inv X pins O H s'->Q y s'),Joins (aF X.prog X.w) X.A X.xe (evalEach es X.env) a Q s
|[],es,h,a,y,s,I,hy,hl,Q,q=>by
 obtain rfl:=List.isEmpty_iff.mp (show es.isEmpty=true from h);cases hy;exact q s I
|p::r,es,h,a,y,s,I,hy,hl,Q,q=>by
 unfold yD at h;split at h
 ·rename_i x _ _ z _ c _ es;simp only[aU,decide_eq_true_eq,qy]at h;obtain⟨⟨⟨⟨⟨⟨rfl,rfl⟩,h3⟩,h4⟩,h5⟩,h6⟩,h7⟩:=h;have hy:(match O[p.2]? with
   |some (some v)=>(vm v).bind fun y=>uF O r (a++p.1++y)
   |_=>none)=some y:=hy
  cases e1:O[p.2]? with
  |none=>rw[e1]at hy;cases hy
  |some o=>
   cases o with
   |none=>rw[e1]at hy;cases hy
   |some v=>
    rw[e1]at hy;have hy:(vm v).bind (fun y=>uF O r (a++p.1++y))=some y:=hy;cases c:vm v with
    |none=>rw[c]at hy;cases hy
    |some w=>
     rw[c]at hy;have hy:uF O r (a++p.1++w)=some y:=hy;have hg:=Sa r _ y hy;have hg':=hg;rw[mE,mE]at hg';refine a7 (K9 (X:=X) pins s O H (fun u H1=>u=.str p.1/\H1=H) I ⟨rfl,rfl⟩) fun u s1 ⟨v1,H1,I1,r1,e2,e3⟩=>?_;rw[e3]at I1;rw[e2]at r1;obtain⟨t,rfl⟩:=r1;refine⟨p.1,t,rfl,by rw[mE];omega,?_⟩;refine wpAny_FormattedValue_plain (a7 (K8 (X:=X) (by rw[ok.N];exact h3) (LJ (by rw[ok.sc];exact h4)) h5 h6 pins s1 O H (fun u H2=>u=v/\H2=H) I1 ⟨v,e1,rfl,rfl⟩) fun u s2 ⟨v2,H2,I2,r2,e4,e5⟩=>?_);rw[e5]at I2;rw[e4]at r2;have fin:∀(t':Tok) (s':ak),L2.Inv X pins O H s'->∃y' t,pB w t'=.str y' t/\(a++p.1++y').length<=aa/\Joins (aF X.prog X.w) X.A X.xe (evalEach es X.env) (a++p.1++y') Q s':=fun t' s' I'=>⟨w,t',rfl,by omega,FE ok r es h7 _ y s' I' hy hl q⟩;cases v<;>first|cases c|skip
     ·have c:(if _ then some _ else none)=some w:=c;split at c
      ·rename_i i hd;cases c;obtain⟨t2,rfl⟩:=r2;exact formatField_int_small hd (fin _ _ (I2.tok _))
      ·cases c
     ·obtain⟨t2,rfl⟩:=r2;exact wpAny_formatField_str (fin _ _ I2) (fin _ _ (I2.tok _)) (by omega)
 ·exact absurd h aR
theorem V6{s:ak}{x:V}{v:Value}{tp:Addr}{dd:Option Addr}{sl:Array (Option Value)}{Q:Bool->Prop}(I:L2.Inv X pins O H s)(rx:RelV x v)(htp:s.heap.get? tp=some ⟨.type "tuple",dd,.seq [Value.type "list",.type "tuple"].toArray n,sl⟩)(h:rC X.K .none x H Q) :
  aH (aF X.prog X.w) X.A (call (.builtin "isinstance") [v,.ref tp]) (EP X pins O fun u H'=>H'=H/\∃b,u=.bl b/\Q b) X.xe s:=by
 have fin:∀(b:Bool),Q b->∀tk,EP X pins O (fun u H'=>H'=H/\∃b,u=.bl b/\Q b) (.bool b) { s with toks:=tk }:=fun b q tk=>⟨.bl b,H,I.tok _,rfl,rfl,b,rfl,q⟩;cases x with
 |non=>cases(show v=dZ from rx);exact PySem.W.kia_tup PySem.W.kitx_none I.jb eu htp rfl (fun z=>nomatch z) (fin _ h)
 |bl y=>cases(show v=iC y from rx);exact PySem.W.kia_tup PySem.W.kitx_bool I.jb eu htp rfl (fun z=>nomatch z) (fin _ h)
 |int i=>obtain⟨t,q⟩:=(show ∃t,v=mY i t from rx);cases q;exact PySem.W.kia_tup PySem.W.kitx_int I.jb eu htp rfl (fun z=>nomatch z) (fin _ h)
 |str y=>obtain⟨t,q⟩:=(show ∃t,v=pB y t from rx);cases q;exact PySem.W.kia_tup PySem.W.kitx_str I.jb eu htp rfl (fun z=>nomatch z) (fin _ h)
 |ref a=>
  cases(show v=bV a from rx);rcases h with⟨xs,hx,h⟩|⟨xs,hx,h⟩|⟨kvs,hk,h⟩
  ·rcases hx with e|⟨o,e⟩
   ·obtain⟨_,_,n,_,h1⟩:=(show cY X.prog X.w H s.heap a (.lst xs)from I.hok a _ e);exact PySem.W.kia_tup PySem.W.kitx_list I.jb ⟨_,h1,rfl⟩ htp rfl (fun z=>nomatch z) (fin _ h)
   ·obtain⟨_,_,_,n,_,h1⟩:=(show cY X.prog X.w H s.heap a (.br o (.lst xs))from I.hok a _ e);exact PySem.W.kia_tup PySem.W.kitx_list I.jb ⟨_,h1,rfl⟩ htp rfl (fun z=>nomatch z) (fin _ h)
  ·obtain⟨its,_,⟨o,h1,h2,_⟩,_⟩:=I.tuple hx.nU;exact PySem.W.kia_tup PySem.W.kitx_tuple I.jb ⟨o,h1,h2⟩ htp rfl (fun z=>nomatch z) (fin _ h)
  ·rcases hk with hk|⟨ob,hk⟩
   ·obtain⟨_,_,vs,_,o,es,ep,h1,h2,_⟩:=(show cY X.prog X.w H s.heap a (.dK kvs)from I.hok a _ hk);exact PySem.W.kia_tup PySem.W.kitx_dict I.jb ⟨o,h1,h2.1⟩ htp rfl (fun z=>nomatch z) (fin _ h)
   ·obtain⟨_,_,_,vs,_,o,es,ep,h1,h2,_⟩:=(show cY X.prog X.w H s.heap a (.br ob (.dK kvs))from I.hok a _ hk);exact PySem.W.kia_tup PySem.W.kitx_dict I.jb ⟨o,h1,h2.1⟩ htp rfl (fun z=>nomatch z) (fin _ h)
 |_=>exact ay h
theorem V7{ta:TE}{p1 p2 tpos:Pos}(hg:Gl X x)(hx:x="isinstance")(hm:X.mg x=none)(hg1:Gl X "list")(hm1:X.mg "list"=none)(hg2:Gl X "tuple")(hm2:X.mg "tuple"=none)(ha:PE X a ta)(hs:noStar a=true) :
  PE X (.Call (.Name x p) [a,.Tuple [.Name "list" p1,.Name "tuple" p2] k tpos] [] pos) (fun O H Q=>ta O H fun v H1=>rC X.K .none v H1 fun b=>Q (.bl b) H1):=by
 subst hx;intro pins s O H Q I h;refine f9 (lW I hg hm BZ ?_);have hst:dJ [a,.Tuple [.Name "list" p1,.Name "tuple" p2] k tpos] X.env=[(false,eval a X.env),(false,eval (.Tuple [.Name "list" p1,.Name "tuple" p2] k tpos) X.env)]:=by rw[gy hs];rfl
 refine gu ?_ (by rw[hst];rfl) rfl;rw[hst];show aH _ _ (yL ((false,eval a X.env)::[(false,eval (.Tuple [.Name "list" p1,.Name "tuple" p2] k tpos) X.env)])) _ _ s;refine f7 (a7 (ha pins s O H _ I h) fun u s1 ⟨v,H1,I1,r1,q1⟩=>?_);refine f7 (wF (x1:=k) ?_);show aH _ _ (yL ((false,eval (.Name "list" p1) X.env)::[(false,eval (.Name "tuple" p2) X.env)])) _ _ s1;refine f7 (lW I1 hg1 hm1 (Ty.boot .list (by decide)) (f7 (lW I1 hg2 hm2 (Ty.boot .tuple (by decide)) (lT ?_) (by decide +kernel) (by decide +kernel))) (by decide +kernel) (by decide +kernel));refine⟨by rw[dM];decide,lT ?_⟩;have I3:L2.Inv X pins O H1 { s1 with heap:=s1.heap.push (tuO [Value.type "list",.type "tuple"]) }:=I1.kept (t':=s1.toks) fun b u q=>aP _ q;refine a7 (V6 I3 r1 (bJ _ rfl) q1) fun w s2 ⟨z,H2,I2,r2,e,b,ez,qb⟩=>?_;subst e ez;exact⟨.bl b,_,I2,r2,qb⟩
theorem V8(ok:Ok X T Y E){ps:List (Str×Nat)}(hp:ps≠[])(h:yD T ps es=true):PE X (.JoinedStr es pos) (fun O H Q=>∃y,uF O ps jj=some y/\y.length<=aa/\Q (.str y) H):=by
 intro pins s O H Q I ⟨y,hy,hl,q⟩;have key:=FE (pins:=pins) (O:=O) (H:=H) ok ps es h jj y s I hy hl (Q:=fun out Z0=>out.length<=aa/\EP X pins O Q (.str out Z0.toks) { Z0 with toks:=Z0.toks+1 }) fun s' I'=>⟨hl,.str y,H,I'.tok _,⟨_,rfl⟩,q⟩;cases ps with
 |nil=>exact absurd rfl hp
 |cons p r=>
  unfold yD at h;split at h
  ·exact wpAny_JoinedStr key
  ·exact absurd h aR
end
theorem band{a b:Bool}(h:(a&&b)=true):a=true/\b=true:=by simpa using h
variable{x1 x2 x3:Bool}
theorem qD(h:(x1&&x2&&x3)=true):(x1=true/\x2=true)/\x3=true:=⟨band (band h).1,(band h).2⟩
variable{x4:Bool}
theorem A6(h:(x1&&x2&&x3&&x4)=true):((x1=true/\x2=true)/\x3=true)/\x4=true:=⟨qD (band h).1,(band h).2⟩
variable{x5:Bool}
theorem A7(h:(x1&&x2&&x3&&x4&&x5)=true):(((x1=true/\x2=true)/\x3=true)/\x4=true)/\x5=true:=⟨A6 (band h).1,(band h).2⟩
variable{x6:Bool}
theorem tw(h:(x1&&x2&&x3&&x4&&x5&&x6)=true):((((x1=true/\x2=true)/\x3=true)/\x4=true)/\x5=true)/\x6=true:=⟨A7 (band h).1,(band h).2⟩
variable{x7:Bool}
theorem Sb(h:(x1&&x2&&x3&&x4&&x5&&x6&&x7)=true):(((((x1=true/\x2=true)/\x3=true)/\x4=true)/\x5=true)/\x6=true)/\x7=true:=⟨tw (band h).1,(band h).2⟩
variable{x8:Bool}
theorem XT(h:(x1&&x2&&x3&&x4&&x5&&x6&&x7&&x8)=true):((((((x1=true/\x2=true)/\x3=true)/\x4=true)/\x5=true)/\x6=true)/\x7=true)/\x8=true:=⟨Sb (band h).1,(band h).2⟩
theorem XU{x9:Bool}(h:(x1&&x2&&x3&&x4&&x5&&x6&&x7&&x8&&x9)=true):(((((((x1=true/\x2=true)/\x3=true)/\x4=true)/\x5=true)/\x6=true)/\x7=true)/\x8=true)/\x9=true:=⟨XT (band h).1,(band h).2⟩
theorem w_{a:Bool}(h:(!a)=true):a=false:=by simpa using h
theorem no{P:Prop}(h:false=true):P:=absurd h aR
variable{i:Nat}
variable{g:Nat}
variable{K:PySem.W.Frag}{as:jB}{H:Hp}
section
variable{X:Cx}{T:Tab}{Y:List G}{E:XK}
theorem Ok.ni(ok:Ok X T Y E)(h:s_ T.sc x=true):Gl X x:=by
 have h:=of_decide_eq_true h;rw[<-ok.sc]at h;exact h
theorem Ok.qE(ok:Ok X T Y E)(h:T.bn.contains x=true):X.mg x=none:=ok.bn x (by simpa using h)
theorem Ok.O7(ok:Ok X T Y E)(h:decide (T.N[i]?=some x)=true):X.N[i]?=some x:=by rw[ok.N];exact of_decide_eq_true h
theorem Ok.EL(ok:Ok X T Y E){scope:eL}{nl:List Str}{fr:List Nat}(h:qS T.sc T.N scope nl fr=true):uG X.env.scope X.N scope nl fr:=by rw[ok.sc,ok.N];exact LI h
theorem V9{v:V}{c:Const}{j:Nat}(h:VV v c=true):PE X (.Constant c j pos) (fun _ H Q=>Q v H):=by
 cases v<;>cases c<;>first|exact no h|skip
 ·exact Vd
 ·have e:=of_decide_eq_true h;subst e;exact Xm
 ·have e:=of_decide_eq_true h;subst e;exact Vc
 ·have e:=of_decide_eq_true h;subst e;exact K9
theorem T4(hN:X.N[i]?=some x)(hv:K7 X.env.scope x)(h1:(x==("__debug__":Str))=false)(h2:(x==("__classdict__":Str))=false):PE X (.Name x p) (fun O H Q=>jc O i fun v=>Q v H):=by
 intro pins s O H Q I h;refine K8 hN hv h1 h2 pins s O H Q I ?_;unfold jc at h;split at h
 ·exact⟨_,by assumption,h⟩
 ·exact h.elim
theorem V_(ok:Ok X T Y E)(hx:T.gl[g]?=some x)(hg:Gl X x)(hd:(x==("__debug__":Str))=false):PE X (.Name x p) (fun _ H Q=>match Y[g]? with
  |some (.val v)=>Q v H
  |some (.tup a _)=>Q (.ref a) H
  |_=>False):=by
 intro pins s O H Q I h;split at h
 ·rename_i v e;obtain⟨u,hm,r⟩:=ok.gl g x _ hx e;exact HN hg hm r hd pins s O H Q I h
 ·rename_i a xs e;obtain⟨hm,_⟩:=ok.gl g x _ hx e;exact HN (v:=.ref a) hg hm rfl hd pins s O H Q I h
 ·exact h.elim
theorem XW{t:TA}(ok:Ok X T Y E)(hx:T.gl[g]?=some x)(hg:Gl X x)(hd:(x==("__debug__":Str))=false)(ha:PA X es t)(hn:es=[]->t=fun _ H Q=>Q [] H)(hs:ck es=true) :
  PE X (.Call (.Name x p) es [] pos) (fun O H Q=>match Y[g]? with
   |some (.fn sp dvs)=>t O H fun vs H1=>sp (vs++dvs) H1 Q E
   |_=>False):=by
 intro pins s O H Q I h;split at h
 ·rename_i sp dvs e;obtain⟨k,f,fd,ps,ds,q1,q2,q3,q4,q5,q6,q7⟩:=ok.gl g x _ hx e;cases es with
  |nil=>
   have e:=hn rfl;subst e;exact OF q1 q2 hg q3 q4 q5 q6 q7 hd pins s O H Q I h
  |cons e er=>
   have hs':noStar e=true/\ck er=true:=by simpa[ck]using hs
   exact Tg q1 q2 hg q3 q4 q5 q6 q7 ha hd (gy hs'.1) (uJ hs'.2) pins s O H Q I h
 ·exact h.elim
theorem T5(ok:Ok X T Y E)(hi:X.N[i]?=some x)(hl:OZ T x=true):PG X (.Name x p) (fun v O H Q=>Q (O.set i (some v)) H):=by
 unfold OZ at hl;have hsc:=ok.sc;split at hl
 ·rename_i e;rw[<-hsc]at e;exact HP ok.nd hi (.inl e) (.inr e)
 ·rename_i e;rw[<-hsc]at e;exact HP ok.nd hi (.inr e) (.inl (ok.own x hl))
 ·exact no hl
theorem pg_tup'{gs:oV}{t:y9}(hc:X.calm=true)(h:AH X es t)(hn:es.length=gs.len)(hs:ck es=true):PG X (.Tuple es k pos) (fun v O H Q=>match v with
  |.ref a=>ua X.K H a fun t' xs=>t'=true/\xs.length=gs.len/\t xs O H Q
  |_=>False):=by
 intro pins s O H v u Q I r hw;cases v with
 |ref a=>
  obtain⟨t',xs,hx,ht,hl,hw⟩:=hw;subst ht;rcases hx.sq with⟨hf,_⟩|⟨_,z⟩
  ·cases hf
  ·exact Vi (n:=es.length) hc h (vz hs).1 (vz hs).2 pins s O H _ u Q I r ⟨a,xs,rfl,z,by omega,hw⟩
 |_=>exact ay hw
theorem pg_sub'{o i:Expr}{to ti:TE}(hu:X.A.units+60<dc)(hp:vv i=true)(ho:PE X o to)(hi:PE X i ti):PG X (.Subscript o i pos) (fun v O H Q=>to O H fun x H1=>ti O H1 fun y H2=>match x with
  |.ref a=>match H2 a with
   |some (.lst xs)=>∃k j,y=.int k/\fL xs.length k=some j/\Q O (upd H2 a (.lst (xs.set j v)))
   |some (.dK kvs)=>∃k,y=kV k/\kvs.length<aa/\Q O (upd H2 a (.dK (putK kvs k v)))
   |some (.dT kvs)=>∃k b,y=.ref b/\H2 b=some (.tup (k.map kV))/\kvs.length<aa/\Q O (upd H2 a (.dT (putK kvs k v)))
   |_=>False
  |_=>False):=by
 have hS:Oz X (fun x y v H2 Q=>match x with
  |.ref a=>match H2 a with
   |some (.lst xs)=>∃k j,y=.int k/\fL xs.length k=some j/\Q (upd H2 a (.lst (xs.set j v)))
   |some (.dK kvs)=>∃k,y=kV k/\kvs.length<aa/\Q (upd H2 a (.dK (putK kvs k v)))
   |some (.dT kvs)=>∃k b,y=.ref b/\H2 b=some (.tup (k.map kV))/\kvs.length<aa/\Q (upd H2 a (.dT (putK kvs k v)))
   |_=>False
  |_=>False):=by
  intro pins s O H o i v ov iv u Q I ro ri rv h;split at h
  ·split at h
   ·obtain⟨k,j,rfl,hj,q⟩:=h;exact set_list pins s O H _ _ v ov iv u Q I ro ri rv ⟨_,_,_,j,rfl,rfl,by assumption,hj,q⟩
   ·rename_i a _ kvs hk;obtain⟨k,rfl,hl,q⟩:=h;cases(show ov=bV a from ro);exact C7 (by omega) I (.inl ⟨kvs,k,hk,rfl,hl,rfl⟩) ri rv fun s' I'=>⟨_,I',q⟩
   ·rename_i a _ kvs hk;obtain⟨k,b,rfl,hb,hl,q⟩:=h;cases(show ov=bV a from ro);exact C7 (by omega) I (.inr ⟨kvs,k,b,hk,rfl,hb,hl,rfl⟩) ri rv fun s' I'=>⟨_,I',q⟩
   ·exact h.elim
  ·exact h.elim
 intro pins s O H v u Q I r h;refine Vj ho hi hS (fun _=>by cases i<;>first|rfl|exact no hp) pins s O H v u Q I r ?_;exact h
theorem iP:PT X e (fun _ _ _=>False):=fun _ _ _ _ _ _ h=>h.elim
theorem Wa{c b:Expr}{tc ta tb:TT}(hc:PT X c tc)(ha:PT X a ta)(hb:PT X b tb):PT X (.IfExp c a b pos) (fun O H Q=>tc O H fun k H1=>if k=true then ta O H1 Q else tb O H1 Q):=by
 intro pins s O H Q I h;refine isTrue_IfExp (a7 (hc pins s O H _ I h) fun d s1 ⟨H1,I1,q1⟩=>?_);cases d with
 |true=>exact ha pins s1 O H1 Q I1 q1
 |false=>exact hb pins s1 O H1 Q I1 q1
theorem Ie{O:L2.St}{Q:Bool->Hp->Prop}:wT K Y E (.call g as) O H Q=wE K Y E (.call g as) O H (fun x H2=>kN K x H2 fun b=>Q b H2):=by
 show(match Y[g]? with
  |some (.fn sp dvs)=>wEs K Y E as O H fun vs H1=>sp (vs++dvs) H1 (fun x H2=>kN K x H2 fun b=>Q b H2) E
  |_=>False)=(match Y[g]? with
  |some (.fn sp dvs)=>wEs K Y E as O H fun vs H1=>sp (vs++dvs) H1 (fun x H2=>kN K x H2 fun b=>Q b H2) E
  |_=>False)
 rfl
theorem T6(ok:Ok X T Y E)(h:PE X e (wE X.K Y E (.call g as)))(he:∀whole,ya e X.env whole=(do let v <-whole;CH e.pos;qW [v] (N8 v))):PT X e (wT X.K Y E (.call g as)):=by
 have z:=pt_val' h he;intro pins s O H Q I q;rw[Ie]at q;exact z pins s O H Q I q
theorem po_some'(h:PE X e te):PO X (some e) (fun O H Q=>te O H fun x H1=>match x with
  |.int i=>Q (some i) H1
  |_=>False):=by
 intro pins s O H Q I q;rw[evalPart_some];refine a7 (h pins s O H _ I q) fun v s1 ⟨x,H1,I1,r1,q1⟩=>?_;cases x with
 |int i=>
  obtain⟨t,rfl⟩:=r1;exact⟨some i,H1,I1,.int i t,q1⟩
 |_=>exact ay q1
theorem pgs_nil':AH X [] (fun vs O H Q=>match vs with
  |[]=>Q O H
  |_=>False):=by
 intro pins s O H vs us Q I r h;cases vs with
 |nil=>exact S_ pins s O H [] us Q I r ⟨rfl,h⟩
 |cons v vr=>exact ay h
theorem pgs_cons'{t:TG}{u:y9}(h1:PG X e t)(h2:AH X es u)(hs:noStar e=true):AH X (e::es) (fun vs O H Q=>match vs with
  |v::vr=>t v O H fun ZV H'=>u vr ZV H' Q
  |_=>False):=by
 intro pins s O H vs us Q I r h;cases vs with
 |nil=>exact ay h
 |cons v vr=>exact OA h1 h2 (by rw[ud hs];rfl) pins s O H (v::vr) us Q I r ⟨v,vr,rfl,h⟩
theorem Sd:∀(gs:oV) (es:List Expr),EK T gs es=true->es.length=gs.len
|.nil,es,h=>by
 cases es with
 |nil=>rfl
 |cons e er=>exact no h
|.cons g r,es,h=>by
 cases es with
 |nil=>exact no h
 |cons e er=>
  obtain⟨_,h2⟩:=band h;show er.length+1=r.len+1;rw[Sd r er h2]
theorem Se(as:jB)(es:List Expr)(h:oK T as es=true):es=[]->wEs X.K Y E as=fun _ H Q=>Q [] H:=by
 rintro rfl;cases as with
 |nil=>rfl
 |cons a r=>exact no h
theorem hid{G:α->Prop}{e:α}(h:∀P:α->Prop,(∀x,G x->P x)->P e):G e:=h G fun _ h=>h
mutual
theorem dz:∀(c:CE) (e:Expr) {X:Cx}{T:Tab}{E:XK},Ok X T Y E->dw T c e=true->PE X e (wE X.K Y E c)/\PT X e (wT X.K Y E c)/\∀op vs p,e=.BoolOp op vs p->PW X e (wT X.K Y E c)
|.var i,e,X,T,E,ok,h=>by
 obtain⟨h0,h⟩:=band h;revert h;refine dU e (eq_of_beq h0) ?_;intro x p h;obtain⟨⟨⟨h1,h2⟩,h3⟩,h4⟩:=A6 h;rw[<-ok.sc]at h2;have z':PE X (.Name x p) (wE X.K Y E (.var i)):=T4 (ok.O7 h1) (LJ h2) (w_ h3) (w_ h4);exact⟨z',pt_val' z' (fun _=>rfl),fun _ _ _ z=>nomatch z⟩
|.con v,e,X,T,E,ok,h=>by
 obtain⟨h0,h⟩:=band h;revert h;refine Oh e (eq_of_beq h0) ?_;intro _ _ _ h;exact⟨V9 h,iP,fun _ _ _ z=>nomatch z⟩
|.glo g,e,X,T,E,ok,h=>by
 obtain⟨h0,h⟩:=band h;revert h;refine dU e (eq_of_beq h0) ?_;intro x p h;obtain⟨⟨h1,h2⟩,h3⟩:=qD h;exact⟨V_ ok (of_decide_eq_true h1) (ok.ni h2) (w_ h3),iP,fun _ _ _ z=>nomatch z⟩
|.bin op a b,e,X,T,E,ok,h=>by
 obtain⟨h0,h⟩:=band h;revert h;refine S2 e (eq_of_beq h0) ?_;intro l o r p h;obtain⟨⟨h1,h2⟩,h3⟩:=qD h;have e:=of_decide_eq_true h1;subst e;exact⟨Xu (XJ op) (dz a l ok h2).1 (dz b r ok h3).1,iP,fun _ _ _ z=>nomatch z⟩
|.neg a,e,X,T,E,ok,h=>by
 obtain⟨h0,h⟩:=band h;revert h;refine yT e (eq_of_beq h0) ?_;intro op l p h;cases op<;>first|exact no h|skip
 exact⟨pe_neg' (dz a l ok h).1,iP,fun _ _ _ z=>nomatch z⟩
|.not a,e,X,T,E,ok,h=>by
 obtain⟨h0,h⟩:=band h;revert h;refine yT e (eq_of_beq h0) ?_;intro op l p h;cases op<;>first|exact no h|skip
 exact⟨pe_not' (dz a l ok h).1,Ve (dz a l ok h).2.1,fun _ _ _ z=>nomatch z⟩
|.and a b,e,X,T,E,ok,h=>by
 obtain⟨h0,h⟩:=band h;revert h;refine AE e (eq_of_beq h0) ?_;intro op vs p h;cases op<;>first|exact no h|skip
 match vs,h with
 |[x,y],h=>
  obtain⟨h1,h2⟩:=band h;have w:=pw_and (pos:=p) (dz a x ok h1).2.1 (pw_and1 (dz b y ok h2).2.1);exact⟨pe_and' (dz a x ok h1).1 (K_ (dz b y ok h2).1),w.pt,fun _ _ _ _=>w⟩
 |x::y::z::r,h=>
  obtain⟨h1,h2⟩:=band h;have w:=pw_and (dz a x ok h1).2.1 ((dz b _ ok h2).2.2 _ _ _ rfl);exact⟨pe_and' (dz a x ok h1).1 (dz b _ ok h2).1,w.pt,fun _ _ _ _=>w⟩
 |[],h=>exact no h
 |[x],h=>exact no h
|.or a b,e,X,T,E,ok,h=>by
 obtain⟨h0,h⟩:=band h;revert h;refine AE e (eq_of_beq h0) ?_;intro op vs p h;cases op<;>first|exact no h|skip
 match vs,h with
 |[x,y],h=>
  obtain⟨h1,h2⟩:=band h;have w:=pw_or (pos:=p) (dz a x ok h1).2.1 (pw_or1 (dz b y ok h2).2.1);exact⟨pe_or' (dz a x ok h1).1 (K_ (dz b y ok h2).1),w.pt,fun _ _ _ _=>w⟩
 |x::y::z::r,h=>
  obtain⟨h1,h2⟩:=band h;have w:=pw_or (dz a x ok h1).2.1 ((dz b _ ok h2).2.2 _ _ _ rfl);exact⟨pe_or' (dz a x ok h1).1 (dz b _ ok h2).1,w.pt,fun _ _ _ _=>w⟩
 |[],h=>exact no h
 |[x],h=>exact no h
|.ite c a b,e,X,T,E,ok,h=>by
 obtain⟨h0,h⟩:=band h;revert h;refine S3 e (eq_of_beq h0) ?_;intro t x y p h;obtain⟨⟨h1,h2⟩,h3⟩:=qD h;exact⟨Ou (dz c t ok h1).2.1 (dz a x ok h2).1 (dz b y ok h3).1,Wa (dz c t ok h1).2.1 (dz a x ok h2).2.1 (dz b y ok h3).2.1,fun _ _ _ z=>nomatch z⟩
|.cmp op a b,e,X,T,E,ok,h=>by
 obtain⟨h0,h⟩:=band h;revert h;refine yU e (eq_of_beq h0) ?_;intro l os rs p h
 match os,rs,h with
 |[o],[r],h=>
  obtain⟨⟨⟨h1,h2⟩,h3⟩,h4⟩:=A6 h;have e:=of_decide_eq_true h1;subst e;exact⟨Te (yz ok.room op) (dz a l ok h3).1 (dz b r ok h4).1 (w_ h2),pt_cmp' ok.room (dz a l ok h3).1 (dz b r ok h4).1 (w_ h2),fun _ _ _ z=>nomatch z⟩
 |[],_,h=>exact no h
 |_::_::_,_,h=>exact no h
 |[_],[],h=>exact no h
 |[_],_::_::_,h=>exact no h
|.chain o1 o2 a b c,e,X,T,E,ok,h=>by
 obtain⟨h0,h⟩:=band h;revert h;refine yU e (eq_of_beq h0) ?_;intro l os rs p h
 match os,rs,h with
 |[p1,p2],[m,r],h=>
  obtain⟨⟨⟨⟨⟨h1,h2⟩,h3⟩,h4⟩,h5⟩,h6⟩:=tw h;have e1:=of_decide_eq_true h1;have e2:=of_decide_eq_true h2;subst e1 e2;exact⟨pe_chain' ok.room (dz a l ok h4).1 (dz b m ok h5).1 (dz c r ok h6).1 (w_ h3),pt_chain' ok.room (dz a l ok h4).1 (dz b m ok h5).1 (dz c r ok h6).1 (w_ h3),fun _ _ _ z=>nomatch z⟩
 |[],_,h=>exact no h
 |[_],_,h=>exact no h
 |_::_::_::_,_,h=>exact no h
 |[_,_],[],h=>exact no h
 |[_,_],[_],h=>exact no h
 |[_,_],_::_::_::_,h=>exact no h
|.call g as,e,X,T,E,ok,h=>by
 obtain⟨h0,h⟩:=band h;obtain⟨hf,h⟩:=band h;revert hf h;refine iO e (eq_of_beq h0) ?_;intro f es kw p hf h;revert h;refine dU f (eq_of_beq hf) ?_;intro x px h;cases kw<;>first|exact no h|skip
 obtain⟨⟨⟨⟨h1,h2⟩,h3⟩,h4⟩,h5⟩:=A7 h;have z':PE X (.Call (.Name x px) es [] p) (wE X.K Y E (.call g as)):=XW ok (of_decide_eq_true h1) (ok.ni h2) (w_ h3) (zV as es ok h4 h5) (Se as es h5) h4;exact⟨z',T6 ok z' (fun _=>rfl),fun _ _ _ z=>nomatch z⟩
|.blt f as,e,X,T,E,ok,h=>by
 obtain⟨h0,h⟩:=band h;obtain⟨hf,h⟩:=band h;revert hf h;refine iO e (eq_of_beq h0) ?_;intro fn es kw p hf h;revert h;refine dU fn (eq_of_beq hf) ?_;intro x px h;cases kw<;>first|exact no h|skip
 obtain⟨hcm,h⟩:=band h;obtain⟨⟨⟨⟨⟨h1,h2⟩,h3⟩,h4⟩,h5⟩,h6⟩:=tw h;cases es with
 |nil=>exact no h5
 |cons e er=>
  have z':PE X (.Call (.Name x px) (e::er) [] p) (wE X.K Y E (.blt f as)):=V4 (ok.calm hcm) ok.room (ok.ni h2) (of_decide_eq_true h1) (ok.qE h3) (zV as _ ok h4 h6) h4;exact⟨z',pt_val' z' (fun _=>rfl),fun _ _ _ z=>nomatch z⟩
|.isi a t,e,X,T,E,ok,h=>by
 obtain⟨h0,h⟩:=band h;obtain⟨hf,h⟩:=band h;by_cases ht:t=.none
 ·subst ht;rw[if_pos rfl]at h;revert hf h;refine iO e (eq_of_beq h0) ?_;intro fn es kw p hf h;revert h;refine dU fn (eq_of_beq hf) ?_;intro x px h
  match es,h with
  |[],h=>exact no h
  |[_],h=>exact no h
  |_::_::_::_,h=>exact no h
  |[l,c],h=>
   cases kw<;>first|exact no h|skip
   obtain⟨⟨⟨⟨⟨h1,h2⟩,h3⟩,h4⟩,h5⟩,h6⟩:=tw h;obtain⟨hc,h4⟩:=band h4;revert h4;refine nT c (eq_of_beq hc) ?_;intro ns kk tpos h4;split at h4
   ·rename_i y q1 z q2 _ _ e;cases e;obtain⟨⟨⟨⟨⟨k1,k2⟩,k3⟩,k4⟩,k5⟩,k6⟩:=tw h4;obtain rfl:=of_decide_eq_true k1;obtain rfl:=of_decide_eq_true k4;have z':PE X (.Call (.Name x px) [l,.Tuple [.Name "list" q1,.Name "tuple" q2] kk tpos] [] p) (wE X.K Y E (.isi a .none)):=V7 (ok.ni h2) (of_decide_eq_true h1) (ok.qE h3) (ok.ni k2) (ok.qE k3) (ok.ni k5) (ok.qE k6) (dz a l ok h6).1 h5;exact⟨z',pt_val' z' (fun _=>rfl),fun _ _ _ z=>nomatch z⟩
   ·exact no h4
 rw[if_neg ht]at h;obtain⟨ha,h⟩:=band h;revert hf ha h;refine iO e (eq_of_beq h0) ?_;intro fn es kw p hf ha h;revert h;refine dU fn (eq_of_beq hf) ?_;intro x px h
 match es,ha,h with
 |[],ha,h=>exact no ha
 |[_],ha,h=>exact no ha
 |_::_::_::_,ha,h=>exact no ha
 |[l,c],ha,h=>
  revert h;refine dU c (eq_of_beq ha) ?_;intro y py h;cases kw<;>first|exact no h|skip
  obtain⟨⟨⟨⟨⟨⟨⟨⟨h1,h2⟩,h3⟩,h4⟩,h5⟩,h6⟩,h7⟩,h8⟩,h9⟩:=XU h;have z':PE X (.Call (.Name x px) [l,.Name y py] [] p) (wE X.K Y E (.isi a t)):=V3 (ok.ni h2) (of_decide_eq_true h1) (ok.qE h3) (ok.ni h6) (of_decide_eq_true h4) (of_decide_eq_true h5) (ok.qE h7) (dz a l ok h9).1 h8;exact⟨z',pt_val' z' (fun _=>rfl),fun _ _ _ z=>nomatch z⟩
|.mth m o as,e,X,T,E,ok,h=>by
 obtain⟨h0,h⟩:=band h;obtain⟨hf,h⟩:=band h;revert hf h;refine iO e (eq_of_beq h0) ?_;intro fn es kw p hf h;revert h;refine KZ fn (eq_of_beq hf) ?_;intro l nm ap h;cases kw<;>first|exact no h|skip
 obtain⟨⟨⟨⟨⟨⟨h1,h2⟩,h3⟩,h4⟩,h5⟩,h6⟩,h7⟩:=Sb h;have e:=of_decide_eq_true h1;subst e;have ho:=(dz o l ok h6).1;have ha:=zV as es ok h4 h7;cases es with
 |nil=>
  have q:=Se (X:=X) (Y:=Y) (E:=E) as [] h7 rfl;have z:=TX ok.room (m:=m) (apos:=ap) (cpos:=p) ho h2 h3;have z':PE X (.Call (.Attribute l m.name ap) [] [] p) (wE X.K Y E (.mth m o as)):=by
   show PE X _ (fun O H Q=>wE X.K Y E o O H fun x H1=>sY m x H1/\wEs X.K Y E as O H1 fun vs H2=>uc X.K m x vs H2 Q);rw[q];exact z
  exact⟨z',pt_val' z' (fun _=>rfl),fun _ _ _ z=>nomatch z⟩
 |cons e er=>
  have z':PE X (.Call (.Attribute l m.name ap) (e::er) [] p) (wE X.K Y E (.mth m o as)):=VZ ok.room ho ha h2 h3 h4 (of_decide_eq_true h5);exact⟨z',pt_val' z' (fun _=>rfl),fun _ _ _ z=>nomatch z⟩
|.ix a b,e,X,T,E,ok,h=>by
 obtain⟨h0,h⟩:=band h;revert h;refine kP e (eq_of_beq h0) ?_;intro l r p h;obtain⟨⟨h1,h2⟩,h3⟩:=qD h;have z':PE X (.Subscript l r p) (wE X.K Y E (.ix a b)):=XD (Zo ok.room) (dz a l ok h2).1 (dz b r ok h3).1 (JA h1);exact⟨z',pt_val' z' (fun _=>rfl),fun _ _ _ z=>nomatch z⟩
|.sl a lo hi,e,X,T,E,ok,h=>by
 obtain⟨h0,h⟩:=band h;obtain⟨hf,h⟩:=band h;revert hf h;refine kP e (eq_of_beq h0) ?_;intro l r p hf h;revert h;refine S4 r (eq_of_beq hf) ?_;intro x y st ps h;cases st<;>first|exact no h|skip
 obtain⟨⟨h1,h2⟩,h3⟩:=qD h;exact⟨OG Zp (dz a l ok h1).1 (YI lo x ok h2) (YI hi y ok h3),iP,fun _ _ _ z=>nomatch z⟩
|.lst as,e,X,T,E,ok,h=>by
 obtain⟨h0,h⟩:=band h;revert h;refine U5 e (eq_of_beq h0) ?_;intro _ _ h;obtain⟨h1,h2⟩:=band h;exact⟨VB (zV as _ ok h1 h2),iP,fun _ _ _ z=>nomatch z⟩
|.tup as,e,X,T,E,ok,h=>by
 obtain⟨h0,h⟩:=band h;revert h;refine nT e (eq_of_beq h0) ?_;intro _ _ _ h;obtain⟨h1,h2⟩:=band h;exact⟨VA (zV as _ ok h1 h2),iP,fun _ _ _ z=>nomatch z⟩
|.fst ps,e,X,T,E,ok,h=>by
 obtain⟨h0,h⟩:=band h;revert h;refine K0 e (eq_of_beq h0) ?_;intro _ _ h;obtain⟨h1,h2⟩:=band h;exact⟨V8 ok (fun z=>by rw[z]at h1;cases h1) h2,iP,fun _ _ _ z=>nomatch z⟩
|.dct,e,X,T,E,ok,h=>by
 obtain⟨h0,h⟩:=band h;revert h;refine U6 e (eq_of_beq h0) ?_;intro ks vs p h
 match ks,vs,h with
 |[],[],_=>exact⟨OJ,iP,fun _ _ _ z=>nomatch z⟩
 |[],_::_,h=>exact no h
 |_::_,_,h=>exact no h
|.comp nl fr elt tg src cond,e,X,T,E,ok,h=>by
 obtain⟨h0,h⟩:=band h;revert h;refine yr e (eq_of_beq h0) ?_;intro l gs sc p h
 match gs,h with
 |[],h=>exact no h
 |⟨_,_,_,.ofNat 0⟩::_::_,h=>exact no h
 |⟨_,_,_,.ofNat (n+1)⟩::_,h=>exact no h
 |⟨_,_,_,.negSucc n⟩::_,h=>exact no h
 |[⟨t,it,ifs,.ofNat 0⟩],h=>
  obtain⟨hcm,h⟩:=band h;obtain⟨⟨⟨⟨⟨h2,h3⟩,h4⟩,h5⟩,h6⟩,h7⟩:=tw h;obtain⟨h3,h3'⟩:=band h3;exact⟨TU (ok.calm hcm) (ok.EL h2) (Wb src it h3' ok h4) (tu h3) (fun C ZX H ex=>Ig tg t (oq ok h2 C ZX H ex) h5) (fun C ZX H ex=>YJ cond ifs (oq ok h2 C ZX H ex) h6)
   (fun C ZX H ex=>(dz elt l (oq ok h2 C ZX H ex) h7).1),iP,fun _ _ _ z=>nomatch z⟩
|.mx1 up a,e,X,T,E,ok,h=>by
 cases e<;>first|exact no h|skip
 rename_i fn es kw p;cases fn<;>first|exact no h|skip
 rename_i x px
 match es,h with
 |[],h=>exact no h
 |_::_::_,h=>exact no h
 |[l],h=>
  cases kw<;>first|exact no h|skip
  obtain⟨hcm,h⟩:=band h;obtain⟨⟨⟨⟨h1,h2⟩,h3⟩,h4⟩,h5⟩:=A7 h;exact⟨V5 (ok.calm hcm) (ok.ni h2) (of_decide_eq_true h1) (ok.qE h3) (dz a l ok h5).1 h4,iP,fun _ _ _ z=>nomatch z⟩
theorem zV:∀(cs:jB) (es:List Expr) {X:Cx}{T:Tab}{E:XK},Ok X T Y E->ck es=true->oK T cs es=true->PA X es (wEs X.K Y E cs)
|.nil,es,X,T,E,ok,hs,h=>by
 cases es with
 |nil=>exact E3
 |cons e er=>exact no h
|.cons a r,es,X,T,E,ok,hs,h=>by
 cases es with
 |nil=>exact no h
 |cons e er=>
  obtain⟨h1,h2⟩:=band h;have hs':noStar e=true/\ck er=true:=by simpa[ck]using hs
  exact B8 (dz a e ok h1).1 (zV r er ok hs'.2 h2) (gy hs'.1)
theorem YI:∀(c:CO) (e:Option Expr) {X:Cx}{T:Tab}{E:XK},Ok X T Y E->O2 T c e=true->PO X e (wO X.K Y E c)
|.none,e,X,T,E,ok,h=>by
 cases e with
 |none=>exact Tj
 |some x=>exact no h
|.some a,e,X,T,E,ok,h=>by
 cases e with
 |none=>exact no h
 |some x=>exact po_some' (dz a x ok h).1
theorem YJ:∀(c:CO) (es:List Expr) {X:Cx}{T:Tab}{E:XK},Ok X T Y E->VW T c es=true->Ib X es (wC X.K Y E c)
|.none,es,X,T,E,ok,h=>by
 cases es with
 |nil=>exact TQ
 |cons x r=>exact no h
|.some a,es,X,T,E,ok,h=>by
 match es,h with
 |[x],h=>exact TR (dz a x ok h).2.1
 |[],h=>exact no h
 |_::_::_,h=>exact no h
theorem Ig:∀(c:CG) (e:Expr) {X:Cx}{T:Tab}{E:XK},Ok X T Y E->zT T c e=true->PG X e (wG X.K Y E c)
|.name i,e,X,T,E,ok,h=>by
 obtain⟨h0,h⟩:=band h;revert h;refine dU e (eq_of_beq h0) ?_;intro _ _ h;obtain⟨h1,h2⟩:=band h;exact T5 ok (ok.O7 h1) h2
|.tup gs,e,X,T,E,ok,h=>by
 obtain⟨h0,h⟩:=band h;revert h;refine nT e (eq_of_beq h0) ?_;intro _ _ _ h;obtain⟨hcm,h⟩:=band h;obtain⟨h1,h2⟩:=band h;exact pg_tup' (ok.calm hcm) (Wc gs _ ok h1 h2) (Sd gs _ h2) h1
|.sub o i,e,X,T,E,ok,h=>by
 obtain⟨h0,h⟩:=band h;revert h;refine kP e (eq_of_beq h0) ?_;intro _ _ _ h;obtain⟨⟨h1,h2⟩,h3⟩:=qD h;exact pg_sub' ok.room h1 (dz o _ ok h2).1 (dz i _ ok h3).1
theorem Wc:∀(cs:oV) (es:List Expr) {X:Cx}{T:Tab}{E:XK},Ok X T Y E->ck es=true->EK T cs es=true->AH X es (HY X.K Y E cs)
|.nil,es,X,T,E,ok,hs,h=>by
 cases es with
 |nil=>exact pgs_nil'
 |cons e er=>exact no h
|.cons g r,es,X,T,E,ok,hs,h=>by
 cases es with
 |nil=>exact no h
 |cons e er=>
  obtain⟨h1,h2⟩:=band h;have hs':noStar e=true/\ck er=true:=by simpa[ck]using hs
  exact pgs_cons' (Ig g e ok h1) (Wc r er ok hs'.2 h2) hs'.1
theorem Wb:∀(c:CI) (e:Expr) {tg:Expr}{X:Cx}{T:Tab}{E:XK},O0 c tg=true->Ok X T Y E->O3 T c e=true->Dd X tg e (wI X.K Y E c)
|.seq a,e,tg,X,T,E,_,ok,h=>TN (dz a e ok h).1
|.range as,e,tg,X,T,E,_,ok,h=>by
 obtain⟨h0,h⟩:=band h;obtain⟨hf,h⟩:=band h;revert hf h;refine iO e (eq_of_beq h0) ?_;intro fn es kw p hf h;revert h;refine dU fn (eq_of_beq hf) ?_;intro x px h;cases kw<;>first|exact no h|skip
 ·skip
  obtain⟨⟨⟨⟨⟨h1,h2⟩,h3⟩,h4⟩,h5⟩,h6⟩:=tw h;have e:=of_decide_eq_true h1;subst e;cases es with
  |nil=>exact no h5
  |cons e er=>
   have hs':noStar e=true/\ck er=true:=by simpa[ck]using h4
   exact LF (ok.ni h2) (ok.qE h3) (zV as _ ok h4 h6) (gy hs'.1) (uJ hs'.2)
|.enum a,e,tg,X,T,E,tb,ok,h=>by
 cases tg<;>first|exact no tb|skip
 obtain⟨h0,h⟩:=band h;obtain⟨hf,h⟩:=band h;revert hf h;refine iO e (eq_of_beq h0) ?_;intro fn es kw p hf h;revert h;refine dU fn (eq_of_beq hf) ?_;intro x px h
 match es,h with
 |[],h=>exact no h
 |_::_::_,h=>exact no h
 |[l],h=>
  cases kw<;>first|exact no h|skip
  obtain⟨⟨⟨⟨h1,h2⟩,h3⟩,h4⟩,h5⟩:=A7 h;have e:=of_decide_eq_true h1;subst e;exact OX (ok.ni h2) (ok.qE h3) (dz a l ok h5).1 (by rw[gy h4];rfl)
end
end
noncomputable def O8(o:Obj):Nat:=match o.data with
|.dict _ ep=>ep
|_=>0
variable{P:bx}{w:bL}
theorem T7{k:Key}{u:Value}(h:(dg P w).is k u=true):RelV (kV k) u:=by
 rcases fG h with⟨i,t,rfl,rfl⟩|⟨x,t,rfl,rfl⟩
 ·exact⟨t,rfl⟩
 ·exact⟨t,rfl⟩
variable{ob:Obj}{kvs:List (Key×V)}
theorem FF{h:Heap}{a:Addr}(ok:fH P w H h)(e:Pin H a ob kvs):(a==gX)=false/\∃vs,KV kvs vs/\h.DictAt (dg P w) a vs (O8 ob):=by
 obtain⟨e1,z,y,vs,r,o,es,ep,ho,hx,hd,rest⟩:=(show cY P w H h a (.br ob (.dK kvs))from ok a _ e);rw[e1]at ho;cases ho;refine⟨y,vs,r,ob,es,e1,hx,?_,rest⟩;unfold O8;rw[hd]
theorem Wd{vs:List (Key×Value)}(r:KV kvs vs){kv:Key×V}(h:kvs[i]?=some kv):∃x,vs[i]?=some (kv.1,x):=by
 induction r generalizing i with
 |nil=>simp at h
 |cons q t ih=>
  cases i with
  |zero=>
   simp at h;subst h;rename_i p u _ _;exact⟨u.2,by simp;exact(Prod.ext q.1.symm rfl)⟩
  |succ i=>simpa using ih (by simpa using h)
noncomputable def We(a:Addr)(ob:Obj)(kvs:List (Key×V)):It:=
 ⟨fun i H=>Pin H a ob kvs/\∃kv,kvs[i]?=some kv,fun i H x H'=>H'=H/\∃kv,kvs[i]?=some kv/\x=kV kv.1,fun i H=>Pin H a ob kvs/\kvs.length<=i⟩
theorem LK{tg:Expr}(a it:Addr)(ob:Obj)(kvs:List (Key×V)):Turn P w K tg (We a ob kvs) [it] it (fun i h=>h.IsKeyIter it a i kvs.length (O8 ob)) where
 mem:=by simp
 obj:=fun i h st b hb=>by
  have e:b=it:=by simpa using hb
  subst e;obtain⟨o,e,c,d⟩:=st;exact⟨o,e,fun v z=>by rw[d]at z;cases z⟩
 keep:=fun i h h' st k=>st.at fun o e=>k it (by simp) o e
 item:=by
  intro X hP hw hK hc i pins s O H E I hf st hg;subst hP hw hK;obtain⟨hq,kv,hx⟩:=hg;obtain⟨hS,vs,r,hd⟩:=FF I.hok hq;obtain⟨x,hv⟩:=Wd r hx;have hl:kvs.length=vs.length:=r.length;rw[hl]at st;obtain⟨f0,f1,f2,f3,f4,f5⟩:=hf it (by simp);refine wpAny_pyNext_dict_item (knd:=dg X.prog X.w) st hd hv fun key h' hk st' sb=>?_;have I1:L2.Inv X pins O H { s with heap:=h' }:=I.turned (t':=s.toks) (fun b o hb e=>(sb.2 b hb).trans e) f0 f1 f3 f4 f5;obtain⟨o,e,c,d⟩:=id st';refine⟨key,rfl,AI (s:={ s with heap:=h' }) e c d (by decide) ⟨kV kv.1,H,I1,T7 hk,⟨rfl,kv,hx,rfl⟩,by rw[hl];exact st',fun b hb=>(hf b hb).1⟩⟩
 done:=by
  intro X hP hw hK hc i pins s O H E I hf st hg;subst hP hw hK;obtain⟨hq,hx⟩:=hg;obtain⟨hS,vs,r,hd⟩:=FF I.hok hq;have hl:kvs.length=vs.length:=r.length;rw[hl]at st;obtain⟨f0,f1,f2,f3,f4,f5⟩:=hf it (by simp);exact wpAny_pyNext_dict_end (knd:=dg X.prog X.w) (I.ok.hd hc) st hd (m5 (by omega)) fun h' eb=>⟨rfl,I.turned (t':=s.toks) (fun b o hb e=>eb b o hb e) f0 f1 f3 f4 f5⟩
 self:=fun _ _ _ _ _ st h=>wpAny_pyIter_keyiter st h
theorem LL{a:Addr}:oh (We a ob kvs) (fun H=>Pin H a ob kvs) (nc kvs) where
 go:=fun i H it ok hi=>by
  unfold nc at hi;rw[aX]at hi;cases e:kvs[i]? with
  |none=>rw[e]at hi;cases hi
  |some x=>exact⟨ok,x,e⟩
 yld:=fun i H it x H' ok hi hy k hk=>by
  obtain⟨rfl,kv,hy,rfl⟩:=hy;unfold nc at hi;rw[aX,hy]at hi;cases hi;exact hk
 stop:=fun i H ok hi=>⟨ok,by unfold nc at hi;rw[ah]at hi;exact hi⟩
section
variable{X:Cx}{tg:Expr}
theorem O9(he:PE X e te):Dd X tg e (fun O H k=>te O H fun x H1=>R6 x H1 k):=by
 intro pins s O H k I h;refine a7 (he pins s O H _ I h) fun v s1 ⟨x,H1,I1,r1,q1⟩=>?_;cases x with
 |ref a=>
  cases r1;have go:∀{H2:Hp} (ob:Obj) (kvs:List (Key×V)),L2.Inv X pins O H2 s1->Pin H2 a ob kvs->k (fun H'=>Pin H' a ob kvs) (nc kvs) H2->aH (aF X.prog X.w) X.A (u0 (.ref a)) (Jy X pins O tg k) X.xe s1:=by
   intro H2 ob kvs I2 hp q;obtain⟨hS,vs,r,hd⟩:=FF I2.hok hp;have hl:kvs.length=vs.length:=r.length;refine wpAny_pyIter_dict (knd:=dg X.prog X.w) hS hd ?_;rw[<-hl];refine⟨s1.heap.objs.size,[s1.heap.objs.size],_,_,H2,rfl,I2.kept (t':=s1.toks) fun b o e=>aP _ e,LK a _ ob kvs,⟨_,bJ _ rfl,rfl,rfl⟩,fun c hc=>?_,_,_,LL,q⟩;have hc:c=s1.heap.objs.size:=by simpa using hc
   subst hc;exact I2.t7 (aB _) (I2.hok.fresh (aB _))
  rcases q1 with⟨ob,kvs,hp,q⟩|⟨kvs,hd,q⟩
  ·exact go ob kvs I1 hp q
  ·obtain⟨z,y,vs,r,dd⟩:=(show cY X.prog X.w H1 s1.heap a (.dK kvs)from I1.hok a _ hd);obtain⟨ob,es,ep,ho,_⟩:=id dd;refine go ob kvs (I1.write (t':=s1.toks) (x:=a) (e:=a) (o:=.br ob (.dK kvs)) (by rw[hd];exact eu) (.inl rfl) (fun b u _ e=>e) ⟨ob,ho⟩ ⟨ho,z,y,vs,r,dd⟩) dG (q ob)
 |_=>exact ay q1
end
theorem T8{sts:List Stmt}{t:TS}(h:q9 X sts t):q9 X sts (fun D O H=>jc O k fun v=>∃a kvs,v=.ref a/\H a=some (.dK kvs)/\∀ob,t D O (upd H a (.br ob (.dK kvs)))):=by
 intro pins s O H D I q;unfold jc at q;split at q
 ·obtain⟨a,kvs,rfl,hd,q⟩:=q;obtain⟨z,y,vs,r,dd⟩:=(show cY X.prog X.w H s.heap a (.dK kvs)from I.hok a _ hd);obtain⟨ob,es,ep,ho,_⟩:=id dd;exact h pins s O _ D (I.write (t':=s.toks) (x:=a) (e:=a) (o:=.br ob (.dK kvs)) (by rw[hd];exact eu) (.inl rfl) (fun b u _ e=>e) ⟨ob,ho⟩ ⟨ho,z,y,vs,r,dd⟩) (q ob)
 ·exact q.elim
variable{env:Env}{sc:eL}
theorem T9{l:Expr}{gs:List Comprehension}{y:Str}{py vpos:Pos}(hk:env.scope.kind=.function)(h:EJ env.scope sc y py vpos=true):pH (.ListComp l gs sc vpos) (some (.Name y py)) n env=pure true:=by
 unfold EJ at h;simp only[aU,decide_eq_true_eq]at h;obtain⟨⟨h1,h2⟩,h3⟩:=h;have hb:env.blockKind=.function:=by
  unfold Env.blockKind;rw[hk];rfl
 show pure (env.blockKind==.function&&env.kindOf y==some .local&&py.line==vpos.line&&!(sc.names.any fun(n,k)=>n==y&&(k==.local||k==.cell)))=pure true;have e1:(env.blockKind==Oi)=true:=by rw[hb];rfl
 have e2:(env.kindOf y==some NameKind.local)=true:=by
  have:env.kindOf y=some .local:=h1;rw[this];rfl
 have e3:(py.line==vpos.line)=true:=by rw[h2];simp
 rw[e1,e2,e3,h3];rfl
variable{t:Expr}
theorem FG(h:notTuple t=true\/notTuple e=true):wy [t] e env=pure none:=by
 unfold wy;rcases h with h|h
 ·cases t<;>first|rfl|exact no h
 ·cases t<;>first|rfl|(cases e<;>first|rfl|exact no h)
theorem LM(h:uH e=true):wx [t] e n env=pure false:=A5 h
theorem O_(hs:env.scope=sc)(h:(uH e||O1 sc t)=true):wx [t] e n env=pure false:=by
 rcases Bool.or_eq_true_iff.mp h with h|h
 ·exact LM h
 ·subst hs;show pH e (some t) n env=pure false;unfold pH;split
  ·cases t with
   |Name y p=>
    have e2:(env.kindOf y==some NameKind.local)=false:=by
     have:¬env.scope.names.lookup y=some .local:=by simpa[O1]using h
     exact beq_eq_false_iff_ne.mpr this
    simp only[e2,u5,CJ]
   |_=>rfl
  ·rfl
structure Wf (X:Cx) (T:Tab) (Y:List G) (E:XK):Prop extends Ok X T Y E where
 rz:T.calm=true->∃X0:Cx,X=X0.m6 (zM X0 E)/\X.stack=X.env::X.outer/\X.env.frame=some X.env.locals/\X.A.handled=none
theorem Pa{g:CG}(h:zT T g t=true):noStar t=true:=by
 cases g with
 |name i=>exact dU t (eq_of_beq (band h).1) fun _ _=>rfl
 |tup gs=>exact nT t (eq_of_beq (band h).1) fun _ _ _=>rfl
 |sub o i=>exact kP t (eq_of_beq (band h).1) fun _ _ _=>rfl
section
mutual
theorem Sf:∀{Y:List G} (c:CS) (st:Stmt) {X:Cx}{T:Tab}{E:XK},Wf X T Y E->FA T c st=true->PS X st (wS X.K Y E c)
|Y,.expr c,st,X,T,E,ok,h=>by
 obtain⟨h0,h⟩:=band h;revert h;refine U7 st (eq_of_beq h0) ?_;intro _ _ h;obtain⟨h1,h2⟩:=band h;exact S9 (dz c _ ok.toOk h2).1 (A5 h1)
|Y,.asg g c,st,X,T,E,ok,h=>by
 obtain⟨h0,h⟩:=band h;revert h;refine AF st (eq_of_beq h0) ?_;intro ts e p h
 match ts,h with
 |[],h=>exact no h
 |_::_::_,h=>exact no h
 |[t],h=>
  obtain⟨⟨⟨h1,h2⟩,h3⟩,h4⟩:=A6 h;exact Vk (dz c e ok.toOk h4).1 (Ig g t ok.toOk h3) (O_ ok.sc h1) (FG (.inl h2)) (by rw[ud (Pa h3)];rfl)
|Y,.casg i c,st,X,T,E,ok,h=>by
 obtain⟨h0,h⟩:=band h;obtain⟨hf,h⟩:=band h;revert hf h;refine AF st (eq_of_beq h0) ?_;intro ts e p hf h
 match ts,hf,h with
 |[],hf,h=>exact no hf
 |t::tr,hf,h=>
  obtain⟨hf,hg⟩:=band hf;revert h;refine dU t (eq_of_beq hf) ?_;intro y py h;cases tr<;>first|exact no h|skip
  revert h;refine yr e (eq_of_beq hg) ?_;intro l gs sc vpos h;have hcm:=(band h).1;replace h:=(band h).2;obtain⟨⟨h1,h2⟩,h3⟩:=qD h;cases c<;>first|exact no h3|skip
  rename_i nl fr elt tg src cond _ _ _
  match gs,h3 with
  |[],h=>exact no h
  |⟨_,_,_,.ofNat 0⟩::_::_,h=>exact no h
  |⟨_,_,_,.ofNat (n+1)⟩::_,h=>exact no h
  |⟨_,_,_,.negSucc n⟩::_,h=>exact no h
  |[⟨t,it,ifs,.ofNat 0⟩],h3=>
   replace h3:=(band (band h3).2).2;obtain⟨⟨⟨⟨⟨k2,k3⟩,k4⟩,k5⟩,k6⟩,k7⟩:=tw h3;obtain⟨k3,k3'⟩:=band k3;have hl:X.env.scope.names.lookup y=some .local:=by
    unfold EJ at h2;simp only[aU,decide_eq_true_eq]at h2;rw[ok.sc];exact h2.1.1
   exact TV (ok.calm hcm) ok.nd (ok.toOk.O7 h1) hl (ok.toOk.EL k2) (Wb src it k3' ok.toOk k4) (tu k3) (T9 ok.kind (by rw[ok.sc];exact h2)) (fun C ZX H ex=>Ig tg t (oq ok.toOk k2 C ZX H ex) k5) (fun C ZX H ex=>YJ cond ifs (oq ok.toOk k2 C ZX H ex) k6)
    (fun C ZX H ex=>(dz elt _ (oq ok.toOk k2 C ZX H ex) k7).1)
|Y,.ret c,st,X,T,E,ok,h=>by
 obtain⟨h0,h⟩:=band h;revert h;refine RX st (eq_of_beq h0) ?_;intro e p h;cases e<;>first|exact no h|skip
 ·exact Vg (dz c _ ok.toOk h).1
|Y,.ifs c a b,st,X,T,E,ok,h=>by
 obtain⟨h0,h⟩:=band h;revert h;refine Xh st (eq_of_beq h0) ?_;intro _ _ _ _ h;obtain⟨⟨h1,h2⟩,h3⟩:=qD h;exact Xq (dz c _ ok.toOk h1).2.1 (ue a _ ok h2) (ue b _ ok h3)
|Y,.whil c b,st,X,T,E,ok,h=>by
 apply hid (e:=st);intro P zk;cases st<;>first|exact no h|skip
 rename_i e x l p;cases l<;>first|exact no h|skip
 ·obtain⟨h1,h2⟩:=band h;refine zk _ ?_;exact OB ok.po (dz c _ ok.toOk h1).2.1 (ue b _ ok h2)
|Y,.forr g src b,st,X,T,E,ok,h=>by
 obtain⟨h0,h⟩:=band h;revert h;refine ED st (eq_of_beq h0) ?_;intro t it x l p h;cases l<;>first|exact no h|skip
 ·obtain⟨hcm,h⟩:=band h;obtain⟨⟨⟨⟨h1,h1'⟩,h2⟩,h3⟩,h4⟩:=A7 h;exact R9 ok.po (ok.calm hcm) (Wb src _ h1' ok.toOk h2) (Ig g _ ok.toOk h3) (ue b _ ok h4) (tu h1)
|Y,.fork g k b,st,X,T,E,ok,h=>by
 obtain⟨h0,h⟩:=band h;revert h;refine ED st (eq_of_beq h0) ?_;intro t it x l p h;cases l<;>first|exact no h|skip
 ·obtain⟨hcm,h⟩:=band h;obtain⟨⟨⟨h1,h2⟩,h3⟩,h4⟩:=A6 h;exact R9 ok.po (ok.calm hcm) (O9 (dz (.var k) _ ok.toOk h2).1) (Ig g _ ok.toOk h3) (ue b _ ok h4) (tu h1)
|Y,.brk,st,X,T,E,ok,h=>by
 obtain⟨h0,h⟩:=band h;revert h;refine S5 st (eq_of_beq h0) ?_;intro _ h;exact Ov
|Y,.cont,st,X,T,E,ok,h=>by
 obtain⟨h0,h⟩:=band h;revert h;refine Oj st (eq_of_beq h0) ?_;intro _ h;exact G7
|Y,.never,st,X,T,E,ok,h=>Ow
theorem ue:∀{Y:List G} (cs:bW) (sts:List Stmt) {X:Cx}{T:Tab}{E:XK},Wf X T Y E->lE T cs sts=true->q9 X sts (wSs X.K Y E cs)
|Y,.nil,sts,X,T,E,ok,h=>by
 cases sts with
 |nil=>exact S8
 |cons s r=>exact no h
|Y,.cons c r,sts,X,T,E,ok,h=>by
 cases sts with
 |nil=>exact no h
 |cons s sr=>
  obtain⟨h1,h2⟩:=band h;exact vf (Sf c s ok h1) (ue r sr ok h2)
|Y,.two c d r,sts,X,T,E,ok,h=>by
 cases sts with
 |nil=>exact no h
 |cons s sr=>
  cases sr with
  |nil=>exact no h
  |cons s' sr=>
   obtain⟨h1,h2⟩:=band h;obtain⟨h2,h3⟩:=band h2;exact vf (Sf c s ok h1) (vf (Sf d s' ok h2) (ue r sr ok h3))
|Y,.chg c r,sts,X,T,E,ok,h=>by
 cases sts with
 |nil=>exact no h
 |cons s sr=>
  obtain⟨h1,h2⟩:=band h;exact vf (Sf c s ok h1) (ue r sr ok h2)
|Y,.pin k r,sts,X,T,E,ok,h=>T8 (ue r sts ok h)
end
end
def FH(P:bx)(w:bL)(K:PySem.W.Frag)(mg:Str->Option Value)(base:Heap)(k:Nat)(x:Str):G->Prop
|.val v=>∃u,mg x=some u/\RelV v u
|.tup a xs=>mg x=some (.ref a)/\HX K a true xs
|.fn sp dvs=>∃(f:Addr) (fd:gq) (ps:List Str) (ds:List Value),gZ P w K mg base (kR P w) k f fd ps sp/\mg x=some (.ref f)/\PySem.W.keepIn K (.ref f)=true/\Binds K fd ps ds/\bB dvs ds
|.nop=>True
def zW(P:bx)(w:bL)(K:PySem.W.Frag)(mg:Str->Option Value)(base:Heap)(k:Nat):List Str->List G->Prop
|x::xs,g::gs=>FH P w K mg base k x g/\zW P w K mg base k xs gs
|_,_=>True
theorem zW.get{mg:Str->Option Value}{base:Heap}:∀{xs:List Str}{gs:List G},zW P w K mg base k xs gs->∀(i:Nat) x g,xs[i]?=some x->gs[i]?=some g->FH P w K mg base k x g
|[],_,_,i,x,g,h,_=>by simp at h
|_::_,[],_,i,x,g,_,h=>by simp at h
|x::xs,g::gs,a,0,y,g',h1,h2=>by
 simp at h1 h2;subst h1 h2;exact a.1
|x::xs,g::gs,a,i+1,y,g',h1,h2=>zW.get a.2 i y g' (by simpa using h1) (by simpa using h2)
variable{qual:Str}{st:Stmt}{f:Addr}{fd:gq}{N ps:List Str}{sp:Sp}
section
variable{P:bx}{w:bL}{K:PySem.W.Frag}{mg:Str->Option Value}{base:Heap}
theorem v5.okE(F:v5 K x qual st f fd)(S:qP N ps (di st))(len:∀vs H Q E,sp vs H Q E->vs.length=ps.length)
  (hbody:∀(cdv:Value) (A:cV) (outer:List Env) (s:ak) (H:Hp) (vs:List V) (Q:VK) (E:XK),kW k (A.deeper (nO qual (di st) s.heap.objs.size f cdv))->sp vs H Q E->
   ∃t,q9 ((lO (kR P w) P w K mg base N qual (di st) f cdv A outer s H E).m6 (zM (lO (kR P w) P w K mg base N qual (di st) f cdv A outer s H E) E)) (jH st) t/\t { nx:=fun _ H'=>Q .non H',rt:=Q } (start N vs) H):gZ P w K mg base (kR P w) (k+1) f fd ps sp:=by
 obtain⟨oc,od,kV,doc,pm,an,cdv,ct,osl,rfl,lk,hcd⟩:=F.ex;refine XA lk hcd S len fun A outer s H vs Q E hr hsp=>?_;obtain⟨t,h,q⟩:=hbody cdv A outer s H vs Q E hr hsp;exact⟨t,VO h,q⟩
theorem Wg{gl bn:List Str}(c:bW)(F:v5 K x qual st f fd)(S:qP N ps (di st))(hc:lE ⟨N,di st,gl,bn,(fun _=>true),true⟩ c (jH st)=true)
  (hg:zW P w K mg base k gl Y) (hb:∀x∈bn,mg x=none) (len:∀vs H Q E,sp vs H Q E->vs.length=ps.length)
  (h:∀vs H Q E,sp vs H Q E->wSs K Y E c { nx:=fun _ H'=>Q .non H',rt:=Q } (start N vs) H):gZ P w K mg base (kR P w) (k+1) f fd ps sp:=by
 refine v5.okE F S len fun cdv A outer s H vs Q E hr hsp=>⟨wSs K Y E c,?_,h vs H Q E hsp⟩;have ok:Wf ((lO (kR P w) P w K mg base N qual (di st) f cdv A outer s H E).m6 (zM (lO (kR P w) P w K mg base N qual (di st) f cdv A outer s H E) E)) ⟨N,di st,gl,bn,(fun _=>true),true⟩ Y E:=by
  refine⟨⟨rfl,S.nd,rfl,S.kind,fun i x g hx hg'=>?_,hb,fun _ _=>rfl,fun _=>rfl,Jr (X:=lO (kR P w) P w K mg base N qual (di st) f cdv A outer s H E) rfl rfl,by have:=hr.un;show(A.deeper (nO qual (di st) s.heap.objs.size f cdv)).units+60<dc;omega⟩,fun _=>⟨_,rfl,rfl,rfl,hr.hd⟩⟩;have q:=hg.get i x g hx hg';cases g with
  |fn sp dvs=>
   obtain⟨f,fd,ps,ds,q1,q2,q3,q4,q5⟩:=q;exact⟨k,f,fd,ps,ds,q1,hr,q2,q3,q4,q5,TF⟩
  |_=>exact q
 exact ue c _ ok hc
theorem gZ.calm(F:gZ P w K mg base (kR P w) k f fd ps sp):gZ P w K mg base VM k f fd ps (fun vs H Q _=>sp vs H Q E0):=
 ⟨fun vs H Q E h=>F.len vs H Q E0 h,fun A outer s H args us vs Q E hr he hb hv hs=>sA (F.run A outer s H args us vs Q E0 hr he hb hv hs) fun r s' q=>by
  cases r with
  |error v=>exact(VY q).elim
  |ok fl=>cases fl<;>exact q⟩
end
end L3
end
section
namespace L3
open PySem L2
theorem YK(a c:Nat):decide ([c]<[a])=decide (c<a):=by
 rw[KW,Ol];simp
theorem len_str(x:Str):x.cps.toList.length=x.length:=by simp[fU]
variable{y:Str}
theorem Ih{x:Str}(h:x.cps.toList=y.cps.toList):x=y:=by
 obtain⟨a⟩:=x;obtain⟨b⟩:=y;congr 1;exact BS h
mutual
def bg(K:PySem.W.Frag)(H F:Hp):D->V->List Addr->Prop
|.non,v,fp=>v=.non/\fp=[]
|.bl b,v,fp=>v=.bl b/\fp=[]
|.int i,v,fp=>v=.int i/\fp=[]
|.str x,v,fp=>(v=.str x/\x.length<=aa)/\fp=[]
|.lst o ds,v,fp=>if o=true then ∃a vs fs,v=.ref a/\H a=some (.lst vs)/\vs.length<=aa/\aO K H F ds vs fs/\fp=a::fs else aY K F (.lst o ds) v/\fp=[]
|.tup ds,v,fp=>∃a vs,v=.ref a/\F a=some (.tup vs)/\vs.length<=aa/\aO K H F ds vs fp
|.bY o ks ds,v,fp=>if o=true then ∃a kvs fs,v=.ref a/\H a=some (.dK kvs)/\kvs.length<=aa/\(kvs.map (·.1)=ks/\keysOk ks=true)/\aO K H F ds (kvs.map (·.2)) fs/\fp=a::fs else aY K F (.bY o ks ds) v/\fp=[]
|.pdc ks ds,v,fp=>aY K F (.pdc ks ds) v/\fp=[]
|.cst ds,v,fp=>aY K F (.cst ds) v/\fp=[]
def aO(K:PySem.W.Frag)(H F:Hp):List D->List V->List Addr->Prop
|[],vs,fp=>vs=[]/\fp=[]
|d::ds,vs,fp=>∃v r f1 f2,vs=v::r/\fp=f1++f2/\bg K H F d v f1/\aO K H F ds r f2
end
variable{d:D}{v:V}{fp:List Addr}
section
variable{K:PySem.W.Frag}{H H' F F':Hp}
theorem gi.same'{a:Addr}{t:Bool}{xs:List V}(e:aW H H')(h:gi K H a t xs):gi K H' a t xs:=by
 rcases h with h|h
 ·refine .inl ?_;unfold gC at h ⊢;cases q:H a with
  |none=>rw[q]at h;cases h
  |some o=>rw[q]at h;rw[e a o q];exact h
 ·exact .inr h
theorem Rd.same{a:Addr}{u:HO}(e:aW H H')(h:Rd H a u):Rd H' a u:=by
 rcases h with h|⟨o,h⟩
 ·exact .inl (e _ _ h)
 ·exact .inr ⟨o,e _ _ h⟩
theorem Rd.seq{a:Addr}{xs:List V}(h:Rd H a (.lst xs)):gi K H a false xs:=by
 refine .inl ?_;unfold gC;rcases h with h|⟨o,h⟩<;>rw[h]
mutual
theorem aY.mono(e:aW H H'):∀(d:D) (v:V),aY K H d v->aY K H' d v
|.non,v,h=>h
|.bl b,v,h=>h
|.int i,v,h=>h
|.str x,v,h=>h
|.lst o ds,v,h=>by
 obtain⟨a,vs,h1,h2,h3,h4⟩:=h;exact⟨a,vs,h1,Rd.same e h2,h3,aN.mono e ds vs h4⟩
|.tup ds,v,h=>by
 obtain⟨a,vs,h1,h2,h3,h4⟩:=h;exact⟨a,vs,h1,e _ _ h2,h3,aN.mono e ds vs h4⟩
|.bY o ks ds,v,h=>by
 obtain⟨a,vs,h1,h2,h3,h4,h5⟩:=h;exact⟨a,vs,h1,e _ _ h2,h3,h4,aN.mono e ds _ h5⟩
|.pdc ks ds,v,h=>by
 obtain⟨a,vs,h1,⟨ob,h2⟩,h3,h4,h5⟩:=h;exact⟨a,vs,h1,⟨ob,e _ _ h2⟩,h3,h4,aN.mono e ds _ h5⟩
|.cst ds,v,h=>by
 obtain⟨a,vs,h1,h2,h3,h4⟩:=h;exact⟨a,vs,h1,h2,h3,aN.mono e ds vs h4⟩
theorem aN.mono(e:aW H H'):∀(ds:List D) (vs:List V),aN K H ds vs->aN K H' ds vs
|[],vs,h=>h
|d::ds,vs,h=>by
 obtain⟨v,r,h1,h2,h3⟩:=h;exact⟨v,r,h1,aY.mono e d v h2,aN.mono e ds r h3⟩
end
mutual
theorem aY.br:∀(d:D) (v:V),aY K F (br d) v↔aY K F d v
|.non,v=>yO
|.bl b,v=>yO
|.int i,v=>yO
|.str x,v=>yO
|.lst o ds,v=>by
 constructor
 ·rintro⟨a,vs,h1,h2,h3,h4⟩;exact⟨a,vs,h1,h2,h3,(aN.aA ds vs).mp h4⟩
 ·rintro⟨a,vs,h1,h2,h3,h4⟩;exact⟨a,vs,h1,h2,h3,(aN.aA ds vs).mpr h4⟩
|.tup ds,v=>by
 constructor
 ·rintro⟨a,vs,h1,h2,h3,h4⟩;exact⟨a,vs,h1,h2,h3,(aN.aA ds vs).mp h4⟩
 ·rintro⟨a,vs,h1,h2,h3,h4⟩;exact⟨a,vs,h1,h2,h3,(aN.aA ds vs).mpr h4⟩
|.bY o ks ds,v=>by
 constructor
 ·rintro⟨a,vs,h1,h2,h3,h4,h5⟩;exact⟨a,vs,h1,h2,h3,h4,(aN.aA ds _).mp h5⟩
 ·rintro⟨a,vs,h1,h2,h3,h4,h5⟩;exact⟨a,vs,h1,h2,h3,h4,(aN.aA ds _).mpr h5⟩
|.pdc ks ds,v=>by
 constructor
 ·rintro⟨a,vs,h1,h2,h3,h4,h5⟩;exact⟨a,vs,h1,h2,h3,h4,(aN.aA ds _).mp h5⟩
 ·rintro⟨a,vs,h1,h2,h3,h4,h5⟩;exact⟨a,vs,h1,h2,h3,h4,(aN.aA ds _).mpr h5⟩
|.cst ds,v=>by
 constructor
 ·rintro⟨a,vs,h1,h2,h3,h4⟩;exact⟨a,vs,h1,h2,h3,(aN.aA ds vs).mp h4⟩
 ·rintro⟨a,vs,h1,h2,h3,h4⟩;exact⟨a,vs,h1,h2,h3,(aN.aA ds vs).mpr h4⟩
theorem aN.aA:∀(ds:List D) (vs:List V),aN K F (aA ds) vs↔aN K F ds vs
|[],vs=>yO
|d::ds,vs=>by
 constructor
 ·rintro⟨v,r,h1,h2,h3⟩;exact⟨v,r,h1,(aY.br d v).mp h2,(aN.aA ds r).mp h3⟩
 ·rintro⟨v,r,h1,h2,h3⟩;exact⟨v,r,h1,(aY.br d v).mpr h2,(aN.aA ds r).mpr h3⟩
end
mutual
theorem aY.zf:∀(d:D) (v:V),aY K F d v->bg K H F (br d) v []
|.non,v,h=>⟨h,rfl⟩
|.bl b,v,h=>⟨h,rfl⟩
|.int i,v,h=>⟨h,rfl⟩
|.str x,v,h=>⟨h,rfl⟩
|.lst o ds,v,h=>⟨(aY.br (.lst o ds) v).mpr h,rfl⟩
|.tup ds,v,h=>by
 obtain⟨a,vs,h1,h2,h3,h4⟩:=h;exact⟨a,vs,h1,h2,h3,aN.zf ds vs h4⟩
|.bY o ks ds,v,h=>⟨(aY.br (.bY o ks ds) v).mpr h,rfl⟩
|.pdc ks ds,v,h=>⟨(aY.br (.pdc ks ds) v).mpr h,rfl⟩
|.cst ds,v,h=>⟨(aY.br (.cst ds) v).mpr h,rfl⟩
theorem aN.zf:∀(ds:List D) (vs:List V),aN K F ds vs->aO K H F (aA ds) vs []
|[],vs,h=>⟨h,rfl⟩
|d::ds,vs,h=>by
 obtain⟨v,r,h1,h2,h3⟩:=h;exact⟨v,r,[],[],h1,rfl,aY.zf d v h2,aN.zf ds r h3⟩
end
mutual
theorem bg.mono(e:aW F F'):∀(d:D) (v:V) (fp:List Addr),(∀a∈fp,H' a=H a)->bg K H F d v fp->bg K H' F' d v fp
|.non,v,fp,_,h=>h
|.bl b,v,fp,_,h=>h
|.int i,v,fp,_,h=>h
|.str x,v,fp,_,h=>h
|.lst o ds,v,fp,s,h=>by
 unfold bg at h ⊢;split at h
 ·rename_i ho;rw[if_pos ho];obtain⟨a,vs,fs,h1,h2,h3,h4,rfl⟩:=h;exact⟨a,vs,fs,h1,by rw[s a ao];exact h2,h3,aO.mono e ds vs fs (fun b hb=>s b (ai _ hb)) h4,rfl⟩
 ·rename_i ho;rw[if_neg ho];exact⟨aY.mono e _ v h.1,h.2⟩
|.tup ds,v,fp,s,h=>by
 obtain⟨a,vs,h1,h2,h3,h4⟩:=h;exact⟨a,vs,h1,e _ _ h2,h3,aO.mono e ds vs fp s h4⟩
|.bY o ks ds,v,fp,s,h=>by
 unfold bg at h ⊢;split at h
 ·rename_i ho;rw[if_pos ho];obtain⟨a,vs,fs,h1,h2,h3,h4,h5,rfl⟩:=h;exact⟨a,vs,fs,h1,by rw[s a ao];exact h2,h3,h4,aO.mono e ds _ fs (fun b hb=>s b (ai _ hb)) h5,rfl⟩
 ·rename_i ho;rw[if_neg ho];exact⟨aY.mono e _ v h.1,h.2⟩
|.pdc ks ds,v,fp,s,h=>⟨aY.mono e _ v h.1,h.2⟩
|.cst ds,v,fp,s,h=>⟨aY.mono e _ v h.1,h.2⟩
theorem aO.mono(e:aW F F'):∀(ds:List D) (vs:List V) (fp:List Addr),(∀a∈fp,H' a=H a)->aO K H F ds vs fp->aO K H' F' ds vs fp
|[],vs,fp,_,h=>h
|d::ds,vs,fp,s,h=>by
 obtain⟨v,r,f1,f2,h1,rfl,h3,h4⟩:=h;exact⟨v,r,f1,f2,h1,rfl,bg.mono e d v f1 (fun b hb=>s b (aC _ hb)) h3,aO.mono e ds r f2 (fun b hb=>s b (aq _ hb)) h4⟩
end
mutual
theorem bg.fix(e:aW F F'):∀(d:D) (v:V) (fp:List Addr),(∀a∈fp,F' a=H a)->bg K H F d v fp->aY K F' d v
|.non,v,fp,_,h=>h.1
|.bl b,v,fp,_,h=>h.1
|.int i,v,fp,_,h=>h.1
|.str x,v,fp,_,h=>h.1
|.lst o ds,v,fp,s,h=>by
 unfold bg at h;split at h
 ·obtain⟨a,vs,fs,h1,h2,h3,h4,rfl⟩:=h;exact⟨a,vs,h1,.inl (by rw[s a ao];exact h2),h3,aO.fix e ds vs fs (fun b hb=>s b (ai _ hb)) h4⟩
 ·exact aY.mono e _ v h.1
|.tup ds,v,fp,s,h=>by
 obtain⟨a,vs,h1,h2,h3,h4⟩:=h;exact⟨a,vs,h1,e _ _ h2,h3,aO.fix e ds vs fp s h4⟩
|.bY o ks ds,v,fp,s,h=>by
 unfold bg at h;split at h
 ·obtain⟨a,vs,fs,h1,h2,h3,h4,h5,rfl⟩:=h;exact⟨a,vs,h1,by rw[s a ao];exact h2,h3,h4,aO.fix e ds _ fs (fun b hb=>s b (ai _ hb)) h5⟩
 ·exact aY.mono e _ v h.1
|.pdc ks ds,v,fp,s,h=>aY.mono e _ v h.1
|.cst ds,v,fp,s,h=>aY.mono e _ v h.1
theorem aO.fix(e:aW F F'):∀(ds:List D) (vs:List V) (fp:List Addr),(∀a∈fp,F' a=H a)->aO K H F ds vs fp->aN K F' ds vs
|[],vs,fp,_,h=>h.1
|d::ds,vs,fp,s,h=>by
 obtain⟨v,r,f1,f2,h1,rfl,h3,h4⟩:=h;exact⟨v,r,h1,bg.fix e d v f1 (fun b hb=>s b (aC _ hb)) h3,aO.fix e ds r f2 (fun b hb=>s b (aq _ hb)) h4⟩
end
def FI:HO->Prop
|.lst _=>True
|.dK _=>True
|.dT _=>True
|_=>False
def FJ(F' F:Hp):Prop:=∀b o,F' b=some o->F b=some o\/FI o
theorem FJ.tup{a:Addr}{xs:List V}(e:FJ F' F)(h:F' a=some (.tup xs)):F a=some (.tup xs):=by
 rcases e a _ h with z|z
 ·exact z
 ·exact z.elim
mutual
theorem bg.less(e:FJ F' F):∀(d:D) (v:V) (fp:List Addr),aL d=true->bg K H F' d v fp->bg K H F d v fp
|.non,v,fp,_,h=>h
|.bl b,v,fp,_,h=>h
|.int i,v,fp,_,h=>h
|.str x,v,fp,_,h=>h
|.lst o ds,v,fp,s,h=>by
 have s':o=true/\bM ds=true:=by simpa[aL]using s
 unfold bg at h ⊢;rw[if_pos s'.1]at h ⊢;obtain⟨a,vs,fs,h1,h2,h3,h4,rfl⟩:=h;exact⟨a,vs,fs,h1,h2,h3,aO.less e ds vs fs s'.2 h4,rfl⟩
|.tup ds,v,fp,s,h=>by
 obtain⟨a,vs,h1,h2,h3,h4⟩:=h;exact⟨a,vs,h1,e.tup h2,h3,aO.less e ds vs fp s h4⟩
|.bY o ks ds,v,fp,s,h=>by
 have s':o=true/\bM ds=true:=by simpa[aL]using s
 unfold bg at h ⊢;rw[if_pos s'.1]at h ⊢;obtain⟨a,vs,fs,h1,h2,h3,h4,h5,rfl⟩:=h;exact⟨a,vs,fs,h1,h2,h3,h4,aO.less e ds _ fs s'.2 h5,rfl⟩
|.pdc ks ds,v,fp,s,h=>by cases s
|.cst ds,v,fp,s,h=>by cases s
theorem aO.less(e:FJ F' F):∀(ds:List D) (vs:List V) (fp:List Addr),bM ds=true->aO K H F' ds vs fp->aO K H F ds vs fp
|[],vs,fp,_,h=>h
|d::ds,vs,fp,s,h=>by
 have s':aL d=true/\bM ds=true:=by simpa[bM]using s
 obtain⟨v,r,f1,f2,h1,rfl,h3,h4⟩:=h;exact⟨v,r,f1,f2,h1,rfl,bg.less e d v f1 s'.1 h3,aO.less e ds r f2 s'.2 h4⟩
end
theorem aN.len:∀{ds:List D}{vs:List V},aN K H ds vs->vs.length=ds.length
|[],_,h=>by cases h;rfl
|d::ds,_,h=>by
 obtain⟨v,r,rfl,_,h3⟩:=h;simp[aN.len h3]
theorem aO.len:∀{ds:List D}{vs:List V}{fp:List Addr},aO K H F ds vs fp->vs.length=ds.length
|[],_,_,h=>by cases h.1;rfl
|d::ds,_,_,h=>by
 obtain⟨v,r,_,_,rfl,_,_,h3⟩:=h;simp[aO.len h3]
theorem aN.get:∀{ds:List D}{vs:List V} (i:Nat) {d:D},aN K H ds vs->ds[i]?=some d->∃v,vs[i]?=some v/\aY K H d v
|[],_,i,_,_,e=>by simp at e
|d::ds,_,0,_,h,e=>by
 obtain⟨v,r,rfl,h2,_⟩:=h;simp at e;subst e;exact⟨v,rfl,h2⟩
|d::ds,_,i+1,_,h,e=>by
 obtain⟨v,r,rfl,_,h3⟩:=h;obtain⟨w,e1,e2⟩:=aN.get i h3 (by simpa using e);exact⟨w,by simpa using e1,e2⟩
theorem aN.app:∀{ds ds':List D}{vs vs':List V},aN K H ds vs->aN K H ds' vs'->aN K H (ds++ds') (vs++vs')
|[],_,_,_,h,h'=>by cases h;exact h'
|d::ds,_,_,_,h,h'=>by
 obtain⟨v,r,rfl,h2,h3⟩:=h;exact⟨v,_,rfl,h2,aN.app h3 h'⟩
theorem aO.app:∀{ds ds':List D}{vs vs':List V}{f f':List Addr},aO K H F ds vs f->aO K H F ds' vs' f'->aO K H F (ds++ds') (vs++vs') (f++f')
|[],_,_,_,_,_,h,h'=>by obtain⟨rfl,rfl⟩:=h;exact h'
|d::ds,_,_,_,_,_,h,h'=>by
 obtain⟨v,r,f1,f2,rfl,rfl,h2,h3⟩:=h;exact⟨v,_,f1,_,rfl,by simp,h2,aO.app h3 h'⟩
theorem aO.one(h:bg K H F d v fp):aO K H F [d] [v] fp:=⟨v,[],fp,[],rfl,by simp,h,rfl,rfl⟩
end
inductive R (α:Type) where
|ok (a:α)|ex (x:D)|bad
noncomputable def R.bind{α β:Type}:R α->(α->R β)->R β
|.ok a,f=>f a
|.ex x,_=>.ex x
|.bad,_=>.bad
noncomputable def R.opt{α:Type}:Option α->R α
|some a=>.ok a
|none=>.bad
noncomputable def R.gO{α:Type}:R α->R α
|.ok a=>.ok a
|_=>.bad
noncomputable def R.a9{α:Type}(b:Bool)(r:R α):R α:=match b with
|true=>r
|false=>.bad
instance (i j:Int):Decidable (t8 i j):=by unfold t8;infer_instance
instance (i j:Int):Decidable (q_ i j):=by unfold q_;infer_instance
instance (i j:Int):Decidable (wR i j):=by unfold wR;infer_instance
noncomputable def j8:D->Option Key
|.int i=>some (.inl i)
|.str x=>some (.inr x)
|_=>none
noncomputable def A8:List D->Option (List Key)
|[]=>some []
|d::r=>(j8 d).bind fun k=>(A8 r).map (k::·)
noncomputable def mG:D->Option (List Key)
|.tup xs=>A8 xs
|_=>none
noncomputable def ee:Key->D
|.inl i=>.int i
|.inr x=>.str x
noncomputable def kY{κ:Type}[DecidableEq κ]:List κ->List D->κ->Option D
|k::ks,d::ds,q=>if k=q then some d else kY ks ds q
|_,_,_=>none
noncomputable def pU{κ:Type}[DecidableEq κ](ks:List κ)(q:κ):Bool:=ks.any fun k=>decide (k=q)
noncomputable def pV{κ:Type}[DecidableEq κ]:List κ->List D->κ->D->List D
|k::ks,d::ds,q,x=>(if k=q then x else d)::pV ks ds q x
|_,_,_,_=>[]
noncomputable def A9(z:Str)(n:Nat):Str:=⟨(aQ n z.cps.toList).flatten.toArray⟩
noncomputable def uK:D->Bool
|.non=>true
|_=>false
noncomputable def qF:D->Bool
|.bl _=>true
|_=>false
noncomputable def tB:D->Bool
|.bl true=>true
|_=>false
noncomputable def jd:D->Bool
|.int _=>true
|_=>false
noncomputable def intD:D->Int
|.int i=>i
|_=>0
noncomputable def jE:List D->Option (List Str)
|[]=>some []
|.str x::r=>(jE r).map (x::·)
|_::_=>none
noncomputable def uf:List D->Option (List Bool)
|[]=>some []
|.bl b::r=>(uf r).map (b::·)
|_::_=>none
noncomputable def JF(m:Mt)(xs:List D)(k:Bool):R D:=match m with
|.count=>(R.opt (uf xs)).bind fun bs=>.ok (.int (bs.count k))
|.index=>(R.opt (uf xs)).bind fun bs=>.a9 (decide (k∈bs)) (.ok (.int (bs.idxOf k)))
|_=>.bad
noncomputable def jt(op:sy)(x y:D):R D:=match x,y with
|.int i,.int j=>match op with
 |.Add=>.ok (.int (i+j))
 |.Sub=>.ok (.int (i-j))
 |.Mult=>.a9 (decide (t8 i j)) (.ok (.int (i*j)))
 |.FloorDiv=>.a9 (decide (q_ i j)) (.ok (.int (i / j)))
 |.Mod=>.a9 (decide (0<j)) (.ok (.int (i%j)))
 |.Pow=>.a9 (decide (wR i j)) (.ok (.int (i ^ j.toNat)))
 |_=>.bad
|.str i,.str j=>match op with
 |.Add=>.a9 (decide (i.length+j.length<=aa)) (.ok (.str (i++j)))
 |_=>.bad
|.str i,.int j=>match op with
 |.Mult=>.a9 (decide (0<=j/\j<2 ^ 40/\i.length*j.toNat<=aa)) (.ok (.str (A9 i j.toNat)))
 |_=>.bad
|.lst _ xs,.lst _ ys=>match op with
 |.Add=>.a9 (decide (xs.length+ys.length<=aa)) (.ok (.lst true (aA xs++aA ys)))
 |_=>.bad
|.tup xs,.tup ys=>match op with
 |.Add=>.a9 (!xs.isEmpty&&!ys.isEmpty&&decide (xs.length+ys.length<=aa)) (.ok (.tup (aA xs++aA ys)))
 |_=>.bad
|.lst _ xs,.int k=>match op with
 |.Mult=>.a9 (decide ((-(2 ^ 63)<=k/\k<2 ^ 63)/\xs.length*k.toNat<=aa)) (.ok (.lst true (aQ k.toNat (aA xs)).flatten))
 |_=>.bad
|_,_=>.bad
noncomputable def Wh(op:nN)(x y:D):R D:=match x,y with
|.int i,.int j=>match op with
 |.Lt=>.ok (.bl (decide (i<j)))
 |.LtE=>.ok (.bl (decide (i<=j)))
 |.Gt=>.ok (.bl (decide (j<i)))
 |.GtE=>.ok (.bl (decide (j<=i)))
 |_=>.bad
|.str i,.str j=>match op with
 |.Lt=>.ok (.bl (decide (i.cps.toList<j.cps.toList)))
 |.LtE=>.ok (.bl (!decide (j.cps.toList<i.cps.toList)))
 |_=>.bad
|_,_=>.bad
noncomputable def inD(x y:D):R Bool:=match y with
|.lst _ ys=>.a9 (cF x&&e_ ys) (.ok (memD x ys))
|.tup ys=>.a9 (cF x&&e_ ys) (.ok (memD x ys))
|.bY _ ks _=>match j8 x with
 |some k=>.ok (pU ks k)
 |none=>.bad
|.pdc ks _=>match j8 x with
 |some k=>.ok (pU ks k)
 |none=>.bad
|.cst ys=>.a9 (cF x&&e_ ys) (.ok (memD x ys))
|_=>.bad
noncomputable def cL(op:nN)(x y:D):R D:=match op with
|.Eq=>.a9 (cF x&&cF y) (.ok (.bl (iF x y)))
|.NotEq=>.a9 (cF x&&cF y) (.ok (.bl (!iF x y)))
|.Is=>.a9 (uK y) (.ok (.bl (uK x)))
|.IsNot=>.a9 (uK y) (.ok (.bl (!uK x)))
|.In=>(inD x y).bind fun b=>.ok (.bl b)
|.NotIn=>(inD x y).bind fun b=>.ok (.bl (!b))
|op=>Wh op x y
noncomputable def iz:D->R Bool
|.bl b=>.ok b
|.non=>.ok false
|.int i=>.ok (i != 0)
|.str z=>.ok (z.length != 0)
|.lst _ xs=>.ok (!xs.isEmpty)
|.tup xs=>.ok (!xs.isEmpty)
|.bY _ ks _=>.ok (!ks.isEmpty)
|.pdc _ _=>.bad
|.cst _=>.bad
noncomputable def nj(x y:D):R D:=match x with
|.str z=>match y with
 |.int i=>(R.opt (eZ z.cps.toList i)).bind fun c=>.ok (.str ⟨#[c]⟩)
 |_=>.bad
|.lst _ xs=>match y with
 |.int i=>(R.opt (eZ xs i)).bind fun d=>.ok (br d)
 |_=>.bad
|.tup xs=>match y with
 |.int i=>(R.opt (eZ xs i)).bind fun d=>.ok (br d)
 |_=>.bad
|.bY _ ks xs=>match j8 y with
 |some k=>(R.opt (kY ks xs k)).bind fun d=>.ok (br d)
 |none=>.bad
|.pdc ks xs=>match j8 y with
 |some k=>(R.opt (kY ks xs k)).bind fun d=>.ok (br d)
 |none=>.bad
|_=>.bad
noncomputable def Ii(x:D)(lo hi:Option Int):R D:=match x with
|.str z=>.ok (.str ⟨(cut z.cps.toList lo hi).toArray⟩)
|.lst _ xs=>.ok (.lst true (aA (cut xs lo hi)))
|.tup xs=>match lo,hi with
 |some n,none=>.a9 (decide (1<=n/\n<=xs.length)) (.ok (.tup (aA (xs.drop n.toNat))))
 |_,_=>.bad
|_=>.bad
noncomputable def tD:List D->Option (List (List Key))
|[]=>some []
|d::r=>(mG d).bind fun k=>(tD r).map (k::·)
noncomputable def nq(xs:List D):Option (List (List Key)):=match jE xs with
|some ss=>some (ss.map fun x=>[.inr x])
|none=>tD xs
noncomputable def vB(kss:List (List Key))(xs:List D):List D:=(gB kss).map fun i=>(aA xs).getD i .non
noncomputable def EM(up:Bool)(ns:List Int):D:=match m_ up ns with
|.int i=>.int i
|_=>.non
noncomputable def gf(f:Bf)(vs:List D):R D:=match vs with
|[x]=>match f with
 |.len=>match x with
  |.str z=>.ok (.int z.length)
  |.lst _ xs=>.ok (.int xs.length)
  |.tup xs=>.ok (.int xs.length)
  |.bY _ ks _=>.ok (.int ks.length)
  |.pdc ks _=>.ok (.int ks.length)
  |_=>.bad
 |.all=>match x with
  |.lst _ xs=>.a9 (xs.all qF) (.ok (.bl (xs.all tB)))
  |_=>.bad
 |.int=>match x with
  |.int i=>.ok (.int i)
  |.bl b=>.ok (.int (if b then 1 else 0))
  |.str z=>.a9 (decide (z.length<=640)) ((R.opt (intText? z)).bind fun n=>.ok (.int n))
  |_=>.bad
 |.str=>match x with
  |.int i=>.a9 (decide (i.natAbs.log2<1920)&&decide ((dj i).length<=aa)) (.ok (.str (dj i)))
  |_=>.bad
 |.list=>match x with
  |.lst _ xs=>.ok (.lst true (aA xs))
  |.tup xs=>.ok (.lst true (aA xs))
  |.bY _ ks _=>.ok (.lst true (ks.map ee))
  |.pdc ks _=>.ok (.lst true (ks.map ee))
  |_=>.bad
 |.sum=>match x with
  |.lst _ xs=>.a9 (xs.all jd) (.ok (.int (xs.map intD).sum))
  |_=>.bad
 |.sorted=>match x with
  |.lst _ xs=>(R.opt (nq xs)).bind fun kss=>.a9 (sortable kss) (.ok (.lst true (vB kss xs)))
  |_=>.bad
 |_=>.bad
|[x,y]=>match x,y with
 |.int i,.int j=>match f with
  |.max=>.ok (.int (if j>i then j else i))
  |_=>.bad
 |_,_=>.bad
|_=>.bad
noncomputable def vC(t:Ty):D->Bool
|.non=>false
|.bl _=>decide (t=.bool)||decide (t=.int)
|.int _=>decide (t=.int)
|.str _=>decide (t=.str)
|.lst _ _=>decide (t=.list)||decide (t=.none)
|.tup _=>decide (t=.tuple)||decide (t=.none)
|.bY _ _ _=>decide (t=.dict)
|.pdc _ _=>decide (t=.dict)
|.cst _=>decide (t=.tuple)||decide (t=.none)
noncomputable def oX:D->Bool
|_=>true
noncomputable def rG(c:Nat)(l:List Nat):List D:=(cN c l).map fun p=>D.str (strOf p)
noncomputable def nu(m:Mt)(x:D)(vs:List D):R D:=match x with
|.str z=>match vs with
 |[y]=>match y with
  |.str q=>match m with
   |.startswith=>.ok (.bl (q.cps.toList.isPrefixOf z.cps.toList))
   |.split=>.a9 (decide (q.length=1)&&decide (z.length+2<=aa)) (.ok (.lst true (rG (q.cps.getD 0 0) z.cps.toList)))
   |.count=>.a9 (decide (q.length=1)) (.ok (.int (z.cps.toList.count (q.cps.getD 0 0))))
   |.index=>.a9 (decide (q.length=1)&&decide ((q.cps.getD 0 0)∈z.cps.toList)) (.ok (.int (z.cps.toList.idxOf (q.cps.getD 0 0))))
   |_=>.bad
  |.lst _ ys=>match m with
   |.join=>(R.opt (jE ys)).bind fun ss=>.a9 (decide ((ss.map (·.length)).sum+ss.length*z.length<=aa)) (.ok (.str (dS z ss)))
   |_=>.bad
  |_=>.bad
 |[]=>match m with
  |.split=>.a9 (decide ((g9 z).length<=aa)&&(g9 z).all fun w=>decide (w.length<=aa)) (.ok (.lst true ((g9 z).map D.str)))
  |_=>.bad
 |_=>.bad
|.lst _ xs=>match vs with
 |[y]=>match y with
  |.bl k=>JF m xs k
  |_=>.bad
 |_=>.bad
|.bY _ ks xs=>match vs with
 |[k]=>match m with
  |.get=>match j8 k with
   |some k'=>.ok (br ((kY ks xs k').getD .non))
   |none=>.bad
  |_=>.bad
 |[k,y]=>match m with
  |.get=>match j8 k with
   |some k'=>.ok (br ((kY ks xs k').getD y))
   |none=>.bad
  |_=>.bad
 |_=>.bad
|_=>.bad
noncomputable abbrev bf:=List (Option D)
inductive PG where
|val (d:D)
|fn (m:List D->R D) (dds:List D)
|nop
inductive Fl where
|nx (O:bf)|rt (d:D)|bk (O:bf)|ct (O:bf)|ex (x:D)|bad
noncomputable def R.a7{α:Type}:R α->(α->Fl)->Fl
|.ok a,f=>f a
|.ex x,_=>.ex x
|.bad,_=>.bad
noncomputable def R.ju{α:Type}(b:Bool):R α->(α->Fl)->Fl
|.ok a,f=>f a
|.ex x,_=>match b with
 |true=>.ex x
 |false=>.bad
|.bad,_=>.bad
noncomputable def PG.hand:PG->PG
|.fn _ _=>.nop
|p=>p
noncomputable def xf:V->R D
|.non=>.ok .non
|.bl b=>.ok (.bl b)
|.int i=>.ok (.int i)
|.str x=>.ok (.str x)
|_=>.bad
noncomputable def uL(z:Str):List D:=z.cps.toList.map fun c=>D.str ⟨#[c]⟩
noncomputable def lY(lo:Int)(n:Nat):List D:=(bA n).map fun(i:Nat)=>D.int (lo+(i:Int))
noncomputable def Ce(up:Bool):D->R D
|.lst _ xs=>.a9 (xs.all jd&&!xs.isEmpty) (.ok (EM up (xs.map intD)))
|_=>.bad
noncomputable def Wi:List D->List D->List D
|x::xs,y::ys=>.tup [x,y]::Wi xs ys
|_,_=>[]
noncomputable def kT:Nat->List D->List D
|_,[]=>[]
|n,x::r=>.tup [.int (n:Int),x]::kT (n+1) r
noncomputable def ou:D->R (List D)
|.str z=>.ok (uL z)
|.lst _ xs=>.ok (aA xs)
|.tup xs=>.ok (aA xs)
|_=>.bad
noncomputable def rH:List D->R (List D)
|[.int j]=>.a9 (decide (-(2 ^ 62)<=j/\j.toNat<=aa)) (.ok (lY 0 j.toNat))
|[.int i,.int j]=>.a9 (decide (-(2 ^ 62)<=i/\i<2 ^ 62/\-(2 ^ 62)<=j/\j<2 ^ 62/\(j-i).toNat<=aa)) (.ok (lY i (j-i).toNat))
|_=>.bad
noncomputable def eK(g:D->bf->R bf)(c:bf->R Bool)(e:bf->R D):List D->bf->R (List D)
|[],_=>.ok []
|d::r,O=>(g d O).bind fun ZZ=>(c ZZ).bind fun b=>if b=true then(e ZZ).bind fun y=>(eK g c e r ZZ).bind fun ys=>.ok (y::ys)else eK g c e r ZZ
noncomputable def forR(g:D->bf->R bf)(b:bf->Fl):List D->bf->Fl
|[],O=>.nx O
|d::r,O=>(g d O).a7 fun ZZ=>match b ZZ with
 |.nx ZY=>forR g b r ZY
 |.ct ZY=>forR g b r ZY
 |.bk ZY=>.nx ZY
 |.rt d=>.rt d
 |.ex x=>.ex x
 |.bad=>.bad
noncomputable def mJ(c:bf->R Bool)(b:bf->Fl):Nat->bf->Fl
|0,_=>.bad
|n+1,O=>(c O).a7 fun k=>if k=true then match b O with
 |.nx ZY=>mJ c b n ZY
 |.ct ZY=>mJ c b n ZY
 |.bk ZY=>.nx ZY
 |.rt d=>.rt d
 |.ex x=>.ex x
 |.bad=>.bad
 else .nx O
noncomputable def ug:D->Option Str
|.str x=>some x
|.int i=>if i.natAbs.log2<1920 then some (dj i)else none
|_=>none
noncomputable def lM(O:bf):List (Str×Nat)->Str->Option Str
|[],a=>some a
|p::r,a=>match O[p.2]? with
 |some (some d)=>(ug d).bind fun y=>lM O r (a++p.1++y)
 |_=>none
mutual
noncomputable def pE(Y:List PG):CE->bf->R D
|.var i=>fun O=>match O[i]? with
 |some (some d)=>.ok (br d)
 |_=>.bad
|.con v=>fun _=>xf v
|.glo g=>fun _=>match Y[g]? with
 |some (.val d)=>.ok (br d)
 |_=>.bad
|.bin op a b=>fun O=>(pE Y a O).bind fun x=>(pE Y b O).bind fun y=>jt op x y
|.neg a=>fun O=>(pE Y a O).bind fun x=>match x with
 |.int i=>.ok (.int (-i))
 |_=>.bad
|.not a=>fun O=>(pE Y a O).bind fun x=>(iz x).bind fun b=>.ok (.bl (!b))
|.and a b=>fun O=>(pE Y a O).bind fun x=>match x with
 |.bl c=>if c=true then pE Y b O else .ok (.bl false)
 |_=>.bad
|.or a b=>fun O=>(pE Y a O).bind fun x=>match x with
 |.bl c=>if c=true then .ok (.bl true)else pE Y b O
 |_=>.bad
|.ite c a b=>fun O=>(pT Y c O).bind fun k=>if k=true then pE Y a O else pE Y b O
|.cmp op a b=>fun O=>(pE Y a O).bind fun x=>(pE Y b O).bind fun y=>cL op x y
|.chain o1 o2 a b c=>fun O=>(pE Y a O).bind fun x=>(pE Y b O).bind fun y=>(cL o1 x y).bind fun z=>match z with
 |.bl k=>if k=true then(pE Y c O).bind fun u=>cL o2 y u else .ok (.bl false)
 |_=>.bad
|.call g as=>fun O=>match Y[g]? with
 |some (.fn m dds)=>(fN Y as O).bind fun ds=>m (aA ds++dds)
 |_=>.bad
|.blt f as=>fun O=>(fN Y as O).bind fun ds=>gf f ds
|.isi a t=>fun O=>(pE Y a O).bind fun x=>.a9 (oX x) (.ok (.bl (vC t x)))
|.mth m o as=>fun O=>(pE Y o O).bind fun x=>(fN Y as O).gO.bind fun ds=>nu m x ds
|.ix a b=>fun O=>(pE Y a O).bind fun x=>(pE Y b O).bind fun y=>nj x y
|.sl a lo hi=>fun O=>(pE Y a O).bind fun x=>(pO Y lo O).bind fun l=>(pO Y hi O).bind fun h=>Ii x l h
|.lst as=>fun O=>(fN Y as O).bind fun ds=>.a9 (decide (ds.length<=aa)) (.ok (.lst true ds))
|.tup as=>fun O=>(fN Y as O).bind fun ds=>.a9 (decide (ds.length<=aa)) (.ok (.tup ds))
|.dct=>fun _=>.ok (.bY true [] [])
|.fst ps=>fun O=>(R.opt (lM O ps jj)).bind fun y=>.a9 (decide (y.length<=aa)) (.ok (.str y))
|.comp nl fr elt tg src cond=>fun O=>(pI Y src O).bind fun items=>(eK (pG tg) (pC Y cond) (pE Y elt) items.2 (nl.map (fun _=>none)++fr.map (fun i=>O.getD i none))).gO.bind fun ds=>.ok (.lst true ds)
|.mx1 up a=>fun O=>(pE Y a O).bind fun x=>Ce up x
noncomputable def pT(Y:List PG):CE->bf->R Bool
|.not a=>fun O=>(pT Y a O).bind fun b=>.ok (!b)
|.and a b=>fun O=>(pT Y a O).bind fun c=>if c=true then pT Y b O else .ok false
|.or a b=>fun O=>(pT Y a O).bind fun c=>if c=true then .ok true else pT Y b O
|.ite c a b=>fun O=>(pT Y c O).bind fun k=>if k=true then pT Y a O else pT Y b O
|.cmp op a b=>fun O=>(pE Y a O).bind fun x=>(pE Y b O).bind fun y=>(cL op x y).bind fun z=>match z with
 |.bl k=>.ok k
 |_=>.bad
|.chain o1 o2 a b c=>fun O=>(pE Y a O).bind fun x=>(pE Y b O).bind fun y=>(cL o1 x y).bind fun z=>match z with
 |.bl k=>if k=true then(pE Y c O).bind fun u=>(cL o2 y u).bind fun z=>match z with
  |.bl k=>.ok k
  |_=>.bad
  else .ok false
 |_=>.bad
|.var i=>fun O=>match O[i]? with
 |some (some d)=>iz d
 |_=>.bad
|.ix a b=>fun O=>((pE Y a O).bind fun x=>(pE Y b O).bind fun y=>nj x y).bind iz
|.call g as=>fun O=>match Y[g]? with
 |some (.fn m dds)=>((fN Y as O).bind fun ds=>m (aA ds++dds)).bind iz
 |_=>.bad
|.blt f as=>fun O=>((fN Y as O).bind fun ds=>gf f ds).bind iz
|.isi a t=>fun O=>(pE Y a O).bind fun x=>.a9 (oX x) (.ok (vC t x))
|.mth m o as=>fun O=>(pE Y o O).bind fun x=>(fN Y as O).gO.bind fun ds=>(nu m x ds).bind iz
|_=>fun _=>.bad
noncomputable def fN(Y:List PG):jB->bf->R (List D)
|.nil=>fun _=>.ok []
|.cons a r=>fun O=>(pE Y a O).bind fun x=>(fN Y r O).bind fun xs=>.ok (x::xs)
noncomputable def pO(Y:List PG):CO->bf->R (Option Int)
|.none=>fun _=>.ok none
|.some a=>fun O=>(pE Y a O).bind fun x=>match x with
 |.int i=>.ok (some i)
 |_=>.bad
noncomputable def pC(Y:List PG):CO->bf->R Bool
|.none=>fun _=>.ok true
|.some a=>pT Y a
noncomputable def pG:CG->D->bf->R bf
|.name i=>fun d O=>.ok (O.set i (some d))
|.tup gs=>fun d O=>match d with
 |.tup ds=>.a9 (decide (ds.length=gs.len)) (v8 gs ds O)
 |_=>.bad
|.sub _ _=>fun _ _=>.bad
noncomputable def v8:oV->List D->bf->R bf
|.nil=>fun ds O=>match ds with
 |[]=>.ok O
 |_=>.bad
|.cons g r=>fun ds O=>match ds with
 |d::dr=>(pG g d O).bind fun ZV=>v8 r dr ZV
 |_=>.bad
noncomputable def pI(Y:List PG):CI->bf->R (Bool×List D)
|.seq a=>fun O=>(pE Y a O).bind fun x=>(ou x).bind fun ds=>.ok (aL x,ds)
|.range as=>fun O=>(fN Y as O).bind fun xs=>(rH xs).bind fun ds=>.ok (true,ds)
|.enum a=>fun O=>(pE Y a O).bind fun x=>match x with
 |.lst _ xs=>.ok (aL x,kT 0 (aA xs))
 |_=>.bad
end
mutual
noncomputable def cO:CE->Bool
|.con v=>match v with
 |.str x=>decide (x.length<=aa)
 |_=>true
|.bin _ a b=>cO a&&cO b
|.neg a=>cO a
|.not a=>cO a
|.and a b=>cO a&&cO b
|.or a b=>cO a&&cO b
|.ite c a b=>cO c&&(cO a&&cO b)
|.cmp _ a b=>cO a&&cO b
|.chain _ _ a b c=>cO a&&(cO b&&cO c)
|.call _ as=>jI as
|.blt _ as=>jI as
|.isi a _=>cO a
|.mth _ o as=>cO o&&jI as
|.ix a b=>cO a&&cO b
|.sl a lo hi=>cO a&&(LN lo&&LN hi)
|.lst as=>jI as
|.tup as=>jI as
|.comp _ _ elt _ src cond=>cO elt&&(ltI src&&LN cond)
|.mx1 _ a=>cO a
|_=>true
noncomputable def jI:jB->Bool
|.nil=>true
|.cons a r=>cO a&&jI r
noncomputable def LN:CO->Bool
|.none=>true
|.some a=>cO a
noncomputable def ltI:CI->Bool
|.seq a=>cO a
|.range as=>jI as
|.enum a=>cO a
end
noncomputable def t9:Bf->jB->Bool
|.len,.cons (.var _) .nil=>true
|_,_=>false
mutual
noncomputable def cE:CE->List Nat
|.var i=>[i]
|.con _=>[]
|.glo _=>[]
|.bin _ a b=>cE a++cE b
|.neg a=>cE a
|.not a=>cE a
|.and a b=>cE a++cE b
|.or a b=>cE a++cE b
|.ite c a b=>cE c++(cE a++cE b)
|.cmp _ a b=>cE a++cE b
|.chain _ _ a b c=>cE a++(cE b++cE c)
|.call _ as=>ow as
|.blt f as=>if t9 f as=true then[]else ow as
|.isi a _=>cE a
|.mth _ o as=>cE o++ow as
|.ix a b=>cE a++cE b
|.sl a lo hi=>cE a++(LO lo++LO hi)
|.lst as=>ow as
|.tup as=>ow as
|.dct=>[]
|.fst _=>[]
|.comp _ fr _ _ src _=>uM src++fr
|.mx1 _ a=>cE a
noncomputable def ow:jB->List Nat
|.nil=>[]
|.cons a r=>cE a++ow r
noncomputable def LO:CO->List Nat
|.none=>[]
|.some a=>cE a
noncomputable def uM:CI->List Nat
|.seq a=>cE a
|.range as=>ow as
|.enum a=>cE a
end
def NT:Option HO->Prop
|none=>True
|some (.tup _)=>True
|_=>False
theorem NT.of{o:Option HO}(h:o=none):NT o:=by rw[h];trivial
theorem NT.own{o:Option HO}{u:HO}(h:NT o)(e:o=some u)(k:FI u):False:=by
 subst e;cases u<;>first|exact h.elim|exact k.elim
structure bO (F H F' H':Hp):Prop where
 h:aW H H'
 f:aW F F'
 s:aW F' H'
 n:∀b o,F' b=some o->F b=none->NT (H b)
structure gj (fp:List Addr) (H F':Hp):Prop where
 nd:fp.Nodup
 nh:∀a∈fp,H a=none
 nf:∀a∈fp,F' a=none
variable{ds:List D}{vs:List V}
variable{f1 f2:List Addr}
variable{p:Addr}
section
variable{K:PySem.W.Frag}{H H1 H2 F F1 F2:Hp}
theorem bO.refl(s:aW F H):bO F H F H:=⟨aW.refl _,aW.refl _,s,fun b o h h'=>by rw[h]at h';cases h'⟩
theorem aW.none(e:aW H H1){a:Addr}(h:H1 a=none):H a=none:=by
 cases q:H a with
 |none=>rfl
 |some o=>rw[e a o q]at h;cases h
theorem NT.back(e:aW H H1){a:Addr}(h:NT (H1 a)):NT (H a):=by
 cases q:H a with
 |none=>trivial
 |some o=>rw[e a o q]at h;exact h
theorem bO.trans(g:bO F H F1 H1)(g':bO F1 H1 F2 H2):bO F H F2 H2:=⟨g.h.trans g'.h,g.f.trans g'.f,g'.s,fun b o h h'=>by
 cases q:F1 b with
 |none=>exact NT.back g.h (g'.n b o h q)
 |some u=>exact g.n b u q h'⟩
theorem gj.nil:gj [] H F:=⟨gS,fun _ h=>absurd h aJ,fun _ h=>absurd h aJ⟩
mutual
theorem bg.ex:∀(d:D) (v:V) (fp:List Addr),bg K H F d v fp->∀a∈fp,∃o,H a=some o/\FI o
|.non,v,fp,h=>by rw[h.2];intro a ha;cases ha
|.bl b,v,fp,h=>by rw[h.2];intro a ha;cases ha
|.int i,v,fp,h=>by rw[h.2];intro a ha;cases ha
|.str x,v,fp,h=>by rw[h.2];intro a ha;cases ha
|.lst o ds,v,fp,h=>by
 unfold bg at h;split at h
 ·obtain⟨a,vs,fs,h1,h2,h3,h4,rfl⟩:=h;intro b hb;rcases aE.mp hb with rfl|hb
  ·exact⟨_,h2,trivial⟩
  ·exact aO.ex ds vs fs h4 b hb
 ·rw[h.2];intro a ha;cases ha
|.tup ds,v,fp,h=>by
 obtain⟨a,vs,h1,h2,h3,h4⟩:=h;exact aO.ex ds vs fp h4
|.bY o ks ds,v,fp,h=>by
 unfold bg at h;split at h
 ·obtain⟨a,vs,fs,h1,h2,h3,h4,h5,rfl⟩:=h;intro b hb;rcases aE.mp hb with rfl|hb
  ·exact⟨_,h2,trivial⟩
  ·exact aO.ex ds _ fs h5 b hb
 ·rw[h.2];intro a ha;cases ha
|.pdc ks ds,v,fp,h=>by rw[h.2];intro a ha;cases ha
|.cst ds,v,fp,h=>by rw[h.2];intro a ha;cases ha
theorem aO.ex:∀(ds:List D) (vs:List V) (fp:List Addr),aO K H F ds vs fp->∀a∈fp,∃o,H a=some o/\FI o
|[],vs,fp,h=>by rw[h.2];intro a ha;cases ha
|d::ds,vs,fp,h=>by
 obtain⟨v,r,f1,f2,h1,rfl,h3,h4⟩:=h;intro a ha;rcases aD.mp ha with ha|ha
 ·exact bg.ex d v f1 h3 a ha
 ·exact aO.ex ds r f2 h4 a ha
end
noncomputable def adopt(F H:Hp)(fp:List Addr):Hp:=fun b=>if b∈fp then H b else F b
theorem iQ{a:Addr}(h:a∈fp):adopt F H fp a=H a:=if_pos h
theorem iG{a:Addr}(h:a∉fp):adopt F H fp a=F a:=if_neg h
theorem cU(s:aW F H):aW F (adopt F H fp):=fun b o h=>by
 by_cases q:b∈fp
 ·rw[iQ q];exact s b o h
 ·rw[iG q];exact h
theorem eN(s:aW F H):aW (adopt F H fp) H:=fun b o h=>by
 by_cases q:b∈fp
 ·rw[iQ q]at h;exact h
 ·rw[iG q]at h;exact s b o h
theorem qG(g:bO F H F1 H1)(n:∀a∈fp,H a=none):bO F H (adopt F1 H1 fp) H1:=⟨g.h,g.f.trans (cU g.s),eN g.s,fun b o h h'=>by
 by_cases q:b∈fp
 ·exact .of (n b q)
 ·rw[iG q]at h;exact g.n b o h h'⟩
theorem Pb(g:bO F H F1 H1)(fr:gj fp H F1)(r:bg K H1 F1 d v fp):∃F2,bO F H F2 H1/\aW F1 F2/\aY K F2 d v:=
 ⟨adopt F1 H1 fp,qG g fr.nh,cU g.s,bg.fix (cU g.s) d v fp (fun _ ha=>iQ ha) r⟩
theorem JG(g:bO F H F1 H1)(fr:gj fp H F1)(r:aO K H1 F1 ds vs fp):∃F2,bO F H F2 H1/\aW F1 F2/\aN K F2 ds vs:=
 ⟨adopt F1 H1 fp,qG g fr.nh,cU g.s,aO.fix (cU g.s) ds vs fp (fun _ ha=>iQ ha) r⟩
theorem carry(g:bO F1 H1 F2 H2)(fr:gj fp H F1)(r:bg K H1 F1 d v fp):bg K H2 F2 d v fp/\(∀a∈fp,F2 a=none):=by
 refine⟨bg.mono g.f d v fp (fun a ha=>?_) r,fun a ha=>?_⟩
 ·obtain⟨o,e,_⟩:=bg.ex d v fp r a ha;rw[e,g.h a o e]
 ·obtain⟨o,e,k⟩:=bg.ex d v fp r a ha;cases q:F2 a with
  |none=>rfl
  |some u=>exact((g.n a u q (fr.nf a ha)).own e k).elim
theorem Wj(g:bO F1 H1 F2 H2)(fr:gj fp H F1)(r:aO K H1 F1 ds vs fp):aO K H2 F2 ds vs fp/\(∀a∈fp,F2 a=none):=by
 refine⟨aO.mono g.f ds vs fp (fun a ha=>?_) r,fun a ha=>?_⟩
 ·obtain⟨o,e,_⟩:=aO.ex ds vs fp r a ha;rw[e,g.h a o e]
 ·obtain⟨o,e,k⟩:=aO.ex ds vs fp r a ha;cases q:F2 a with
  |none=>rfl
  |some u=>exact((g.n a u q (fr.nf a ha)).own e k).elim
theorem gj.app(s:aW H H1)(a1:gj f1 H F1)(e1:∀a∈f1,∃o,H1 a=some o)(k1:∀a∈f1,F2 a=none)(a2:gj f2 H1 F2):gj (f1++f2) H F2:=by
 refine⟨a6.mpr ⟨a1.nd,a2.nd,fun a h1 b h2 z=>?_⟩,fun a ha=>?_,fun a ha=>?_⟩
 ·subst z;obtain⟨o,e⟩:=e1 a h1;rw[a2.nh a h2]at e;cases e
 ·rcases aD.mp ha with h|h
  ·exact a1.nh a h
  ·exact aW.none s (a2.nh a h)
 ·rcases aD.mp ha with h|h
  ·exact k1 a h
  ·exact a2.nf a h
theorem newList{p:Addr}{vs:List V}{o:HO}(s:aW F H)(hp:H p=none):bO F H F (upd H p o)/\F p=none:=by
 have hf:F p=none:=aW.none s hp;refine⟨⟨fun b u q=>by rw[bw (cK q hp)];exact q,aW.refl _,fun b u q=>by rw[bw (cK q hf)];exact s b u q,fun b o h h'=>by rw[h]at h';cases h'⟩,hf⟩
theorem A_{o:HO}(s:aW F H)(hp:H p=none):bO F H (upd F p o) (upd H p o):=by
 have hf:F p=none:=aW.none s hp;refine⟨fun b u q=>by rw[bw (cK q hp)];exact q,fun b u q=>by rw[bw (cK q hf)];exact q,fun b u q=>?_,fun b u q q'=>?_⟩
 ·by_cases e:b=p
  ·subst e;rw[dG]at q ⊢;exact q
  ·rw[bw e]at q ⊢;exact s b u q
 ·by_cases e:b=p
  ·subst e;exact .of hp
  ·rw[bw e]at q;rw[q]at q';cases q'
end
class Ex where
 E:XK
def jJ[Ex](K:PySem.W.Frag)(F H:Hp)(x:D):Prop:=match x with
|_=>False
variable{x:D}{K:PySem.W.Frag}{F H F1 H1:Hp}
theorem jJ.grow[Ex](h:jJ K F H x)(g:bO F H F1 H1):jJ K F1 H1 x:=by
 cases x with
 |_=>exact h
def PV[Ex](K:PySem.W.Frag)(F H:Hp)(r:R D)(Q:VK):Prop:=match r with
|.ok d=>∀F' H' v fp,bO F H F' H'->gj fp H F'->bg K H' F' d v fp->Q v H'
|.ex x=>jJ K F H x
|.bad=>False
def xg[Ex](K:PySem.W.Frag)(F H:Hp)(r:R (List D))(Q:List V->Hp->Prop):Prop:=match r with
|.ok ds=>∀F' H' vs fp,bO F H F' H'->gj fp H F'->aO K H' F' ds vs fp->Q vs H'
|.ex x=>jJ K F H x
|.bad=>False
def PB[Ex]{α:Type}(K:PySem.W.Frag)(F H:Hp)(r:R α)(Q:α->Hp->Prop):Prop:=match r with
|.ok b=>∀F' H',bO F H F' H'->Q b H'
|.ex x=>jJ K F H x
|.bad=>False
def Wk(K:PySem.W.Frag)(F:Hp)(d:D):Item->Prop
|.v x=>aY K F d x
|.tup xs=>∃ds,d=.tup ds/\aN K F ds xs/\xs.length<=aa
def jK(K:PySem.W.Frag)(F:Hp):List D->List Item->Prop
|[],its=>its=[]
|d::ds,its=>∃it r,its=it::r/\Wk K F d it/\jK K F ds r
noncomputable def minus(F:Hp)(A:List Addr):Hp:=fun b=>if b∈A then none else F b
noncomputable def qH(own:Bool)(F:Hp)(A:List Addr):Hp:=if own=true then minus F A else F
def PI'[Ex](K:PySem.W.Frag)(A:List Addr)(F H:Hp)(r:R (Bool×List D))(k:(Hp->Prop)->List Item->Hp->Prop):Prop:=match r with
|.ok ds=>∀F' H' ok its,bO F H F' H'->(∀H'',aW (qH ds.1 F' A) H''->ok H'')->jK K (qH ds.1 F' A) ds.2 its->ds.2.length<=aa->k ok its H'
|.ex x=>jJ K F H x
|.bad=>False
def JH(K:PySem.W.Frag)(H:Hp)(L:bf)(O:L2.St):Prop:=∀(k:Nat) d,L[k]?=some (some d)->∃v F',O[k]?=some (some v)/\aW F' H/\aY K F' d v
structure iR (K:PySem.W.Frag) (F H:Hp) (is:List Nat) (L:bf) (O:L2.St):Prop where
 e:∀i∈is,∀d,L[i]?=some (some d)->∃v,O[i]?=some (some v)/\aY K F d v
 n:JH K H L O
noncomputable def FL(K:PySem.W.Frag)(m:List D->R D):Sp:=fun vs H Q E=>∃F ds,aW F H/\aA ds=ds/\aN K F ds vs/\@PV ⟨E⟩ K F H (m ds) Q
def Pd(K:PySem.W.Frag):PG->G->Prop
|.val d,.val v=>aY K (fun _=>none) d v
|.val d,.tup a _=>aY K (fun _=>none) d (.ref a)
|.fn m dds,.fn sp dvs=>(∀vs H Q E,FL K m vs H Q E->sp vs H Q E)/\aA dds=dds/\aN K (fun _=>none) dds dvs
|.nop,.nop=>True
|_,_=>False
def dP(K:PySem.W.Frag):List PG->List G->Prop
|p::ps,gs=>∃g r,gs=g::r/\Pd K p g/\dP K ps r
|[],_=>True
theorem dP.get:∀{ps:List PG}{gs:List G} (i:Nat) {p:PG},dP K ps gs->ps[i]?=some p->∃g,gs[i]?=some g/\Pd K p g
|[],_,i,_,_,e=>by simp at e
|p::ps,_,0,_,h,e=>by
 obtain⟨g,r,rfl,h2,_⟩:=h;simp at e;subst e;exact⟨g,rfl,h2⟩
|p::ps,_,i+1,_,h,e=>by
 obtain⟨g,r,rfl,_,h3⟩:=h;obtain⟨w,e1,e2⟩:=dP.get i h3 (by simpa using e);exact⟨w,by simpa using e1,e2⟩
variable{A:List Addr}
theorem fy{b:Addr}(h:b∉A):minus F A b=F b:=if_neg h
theorem zX{b:Addr}(h:b∈A):minus F A b=none:=if_pos h
theorem Dg(F:Hp):minus F []=F:=by funext b;exact fy aJ
theorem LP(o:Bool)(F:Hp):qH o F []=F:=by unfold qH;rw[Dg];split<;>rfl
theorem j5(F:Hp)(A:List Addr):aW (minus F A) F:=fun b o h=>by
 by_cases q:b∈A
 ·rw[zX q]at h;cases h
 ·rw[fy q]at h;exact h
theorem Dh(o:Bool)(F:Hp)(A:List Addr):aW (qH o F A) F:=by
 unfold qH;split
 ·exact j5 F A
 ·exact aW.refl F
def mS(H:Hp)(A:List Addr):Prop:=∀a∈A,∃o,H a=some o/\FI o
theorem lF(s:aW F H)(h:mS H A):FJ F (minus F A):=fun b o q=>by
 by_cases z:b∈A
 ·obtain⟨u,e,k⟩:=h b z;rw[s b o q]at e;cases e;exact .inr k
 ·exact .inl (by rw[fy z];exact q)
variable{H':Hp}
theorem mS.mono(s:aW H H')(h:mS H A):mS H' A:=fun a ha=>by
 obtain⟨o,e,k⟩:=h a ha;exact⟨o,s a o e,k⟩
theorem Wl(hA:mS H A)(g:bO F H F1 H1)(fr:gj fp H F1)(r:bg K H1 F1 d v fp):∃F2,bO F H F2 H1/\aY K (qH (aL d) F2 A) d v:=by
 have g2:=qG g fr.nh;refine⟨adopt F1 H1 fp,g2,?_⟩;unfold qH;by_cases ho:aL d=true
 ·rw[if_pos ho];have r2:=bg.less (lF g.s (hA.mono g.h)) d v fp ho r;refine bg.fix (F':=minus (adopt F1 H1 fp) A) ?_ d v fp ?_ r2
  ·intro b o q;by_cases z:b∈A
   ·rw[zX z]at q;cases q
   ·rw[fy z]at q ⊢;exact cU g.s b o q
  ·intro a ha;have z:a∉A:=fun z=>by
    obtain⟨o,e,_⟩:=hA a z;rw[fr.nh a ha]at e;cases e
   rw[fy z,iQ ha]
 ·rw[if_neg ho];exact bg.fix (cU g.s) d v fp (fun _ ha=>iQ ha) r
variable{b:Bool}
variable{F':Hp}{Q:VK}
variable{α:Type}
section
variable{K:PySem.W.Frag}{H H1 F F1:Hp}{L:bf}{O:L2.St}
theorem iR.l{a b:List Nat}(h:iR K F H (a++b) L O):iR K F H a L O:=⟨fun i hi=>h.e i (aC _ hi),h.n⟩
theorem iR.r{a b:List Nat}(h:iR K F H (a++b) L O):iR K F H b L O:=⟨fun i hi=>h.e i (aq _ hi),h.n⟩
theorem iR.mono{a:List Nat}(h:iR K F H a L O)(g:bO F H F1 H1):iR K F1 H1 a L O:=⟨fun i hi d hd=>by
 obtain⟨v,h1,h2⟩:=h.e i hi d hd;exact⟨v,h1,aY.mono g.f d v h2⟩,fun k d e=>by
 obtain⟨v,F',h1,h2,h3⟩:=h.n k d e;exact⟨v,F',h1,h2.trans g.h,h3⟩⟩
theorem PV.int[Ex]{n:Int}(h:PV K F H (.ok (.int n)) Q)(s:aW F H):PV K F' H (.ok (.int n)) Q:=fun F2 H2 v fp g fr r=>by
 obtain⟨rfl,rfl⟩:=r;exact h F H2 _ [] ⟨g.h,aW.refl _,s.trans g.h,fun b o q q'=>by rw[q]at q';cases q'⟩ .nil ⟨rfl,rfl⟩
theorem PV.grow[Ex]{r:R D}(h:PV K F H r Q)(g:bO F H F1 H1):PV K F1 H1 r Q:=by
 cases r with
 |ok d=>exact fun F' H' v fp g' fr rx=>h F' H' v fp (g.trans g') ⟨fr.nd,fun a ha=>aW.none g.h (fr.nh a ha),fr.nf⟩ rx
 |ex x=>exact jJ.grow (K:=K) (x:=x) h g
 |bad=>exact h
theorem PB.grow[Ex]{r:R α}{Q:α->Hp->Prop}(h:PB K F H r Q)(g:bO F H F1 H1):PB K F1 H1 r Q:=by
 cases r with
 |ok d=>exact fun F' H' g'=>h F' H' (g.trans g')
 |ex x=>exact jJ.grow (K:=K) (x:=x) h g
 |bad=>exact h
theorem PV.here[Ex](h:PV K F H (.ok (br d)) Q)(s:aW F H)(r:aY K F d v):Q v H:=h F H v [] (bO.refl s) .nil (aY.zf d v r)
theorem PV.flat[Ex](h:PV K F H (.ok d) Q)(s:aW F H)(r:bg K H F d v []):Q v H:=h F H v [] (bO.refl s) .nil r
theorem jL{r:R α}{a:α}(h:R.a9 b r=.ok a):b=true/\r=.ok a:=by
 cases b with
 |true=>exact⟨rfl,h⟩
 |false=>cases h
theorem PV.a9[Ex]{r:R D}(h:PV K F H (R.a9 b r) Q):b=true/\PV K F H r Q:=by
 cases b with
 |true=>exact⟨rfl,h⟩
 |false=>exact h.elim
theorem PB.a9[Ex]{r:R α}{Q:α->Hp->Prop}(h:PB K F H (R.a9 b r) Q):b=true/\PB K F H r Q:=by
 cases b with
 |true=>exact⟨rfl,h⟩
 |false=>exact h.elim
end
theorem szl:aa=16777216:=by unfold aa;rfl
theorem uN(x:Str):x.cps.toList.length=x.length:=by simp[fU]
theorem gk(l:List Nat):(⟨l.toArray⟩:Str).length=l.length:=by simp[fU]
theorem LQ(l:List Nat):(strOf l).length=l.length:=by simp[strOf,fU]
theorem vD(z:Str):∀ss:List Str,(dS z ss).length<=(ss.map (·.length)).sum+ss.length*z.length
|[]=>by show(0:Nat)<=_;omega
|[x]=>by simp[dS]
|x::y::r=>by
 have ih:=vD z (y::r);show(x++z++dS z (y::r)).length<=_;rw[qz,qz];simp only[bD,qc,bz,yf]at ih ⊢;omega
theorem JI(z:Str)(n:Nat):(A9 z n).length=z.length*n:=by
 unfold A9;rw[gk];induction n with
 |zero=>simp
 |succ n ih=>rw[bN,cT,az,ih,uN,G1,yg]
theorem qT(l:List α)(lo hi:Option Int):(cut l lo hi).length<=l.length:=by
 unfold cut;rw[eT,dN];omega
theorem qI(c:Nat):∀(l:List Nat),(∀p∈cN c l,p.length<=l.length)/\(cN c l).length<=l.length+1
|[]=>by
 constructor
 ·intro p hp;simp[cN]at hp;subst hp;simp
 ·simp[cN]
|x::r=>by
 obtain⟨h1,h2⟩:=qI c r;unfold cN;by_cases e:x=c
 ·rw[if_pos e];constructor
  ·intro p hp;rcases aE.mp hp with rfl|hp
   ·simp
   ·have:=h1 p hp;simp;omega
  ·simp;omega
 ·rw[if_neg e];cases q:cN c r with
  |nil=>simp
  |cons h t=>
   rw[q]at h1 h2;constructor
   ·intro p hp;rcases aE.mp hp with rfl|hp
    ·have:=h1 h ao;simp;omega
    ·have:=h1 p (ai _ hp);simp;omega
   ·simp at h2 ⊢;omega
variable{i:Int}
theorem qQ{xs:List α}{x:α}(h:eZ xs i=some x):∃j,fL xs.length i=some j/\xs[j]?=some x:=by
 unfold eZ at h;cases q:fL xs.length i with
 |none=>rw[q]at h;cases h
 |some j=>rw[q]at h;exact⟨j,rfl,h⟩
theorem rJ{xs:List α}{j:Nat}{x:α}(h:fL xs.length i=some j)(e:xs[j]?=some x):eZ xs i=some x:=by
 unfold eZ;rw[h];exact e
def R.bE{α:Type}(r:R α):Prop:=∀x,r≠.ex x
theorem bE.ok{a:α}:(R.ok a).bE:=fun _ h=>by cases h
theorem bE.bad:(R.bad:R α).bE:=fun _ h=>by cases h
theorem bE.opt{o:Option α}:(R.opt o).bE:=fun _ h=>by cases o<;>cases h
theorem bE.a9{r:R α}(n:r.bE):(R.a9 b r).bE:=fun x h=>by
 cases b with
 |true=>exact n x h
 |false=>cases h
variable{β:Type}
theorem bE.bind{r:R α}{f:α->R β}(n:r.bE)(k:∀a,(f a).bE):(r.bind f).bE:=fun x h=>by
 cases r with
 |ok a=>exact k a x h
 |ex y=>exact n y rfl
 |bad=>cases h
theorem bE.gO(r:R α):r.gO.bE:=fun x h=>by cases r<;>cases h
theorem Ij(x y:D):(inD x y).bE:=by unfold inD;(repeat' (first|exact bE.ok|exact bE.bad|exact bE.opt|exact bE.gO _|refine bE.a9 ?_|(refine bE.bind ?_ fun _=>?_)|split))
theorem vE(x:D):(iz x).bE:=by unfold iz;(repeat' (first|exact bE.ok|exact bE.bad|exact bE.opt|exact bE.gO _|refine bE.a9 ?_|(refine bE.bind ?_ fun _=>?_)|split))
theorem Cf(x y:D):(nj x y).bE:=by unfold nj;(repeat' (first|exact bE.ok|exact bE.bad|exact bE.opt|exact bE.gO _|refine bE.a9 ?_|(refine bE.bind ?_ fun _=>?_)|split))
theorem Pe(x:D):(ou x).bE:=by unfold ou;(repeat' (first|exact bE.ok|exact bE.bad|exact bE.opt|exact bE.gO _|refine bE.a9 ?_|(refine bE.bind ?_ fun _=>?_)|split))
theorem Pf(xs:List D):(rH xs).bE:=by unfold rH;(repeat' (first|exact bE.ok|exact bE.bad|exact bE.opt|exact bE.gO _|refine bE.a9 ?_|(refine bE.bind ?_ fun _=>?_)|split))
theorem Pg(m:Mt)(xs:List D)(k:Bool):(JF m xs k).bE:=by unfold JF;(repeat' (first|exact bE.ok|exact bE.bad|exact bE.opt|exact bE.gO _|refine bE.a9 ?_|(refine bE.bind ?_ fun _=>?_)|split))
theorem rK(m:Mt)(x:D)(ds:List D):(nu m x ds).bE:=by unfold nu;(repeat' (first|exact Pg _ _ _|exact bE.ok|exact bE.bad|exact bE.opt|exact bE.gO _|refine bE.a9 ?_|(refine bE.bind ?_ fun _=>?_)|split))
variable{t:Ty}
variable{u:V}{op:sy}
variable{κ:Type}
variable{lo hi:Option Int}
variable{m:Mt}
section
variable{K:PySem.W.Frag}{H H0 F F0:Hp}
theorem Di(r:aY K F x v):decide (v=.non)=uK x:=by
 cases x with
 |non=>rw[show v=.non from r];rfl
 |bl b=>rw[show v=.bl b from r];rfl
 |int i=>rw[show v=.int i from r];rfl
 |str z=>rw[show v=.str z from r.1];rfl
 |lst o ds=>obtain⟨a,vs,rfl,_⟩:=r;rfl
 |tup ds=>obtain⟨a,vs,rfl,_⟩:=r;rfl
 |bY o ks ds=>obtain⟨a,vs,rfl,_⟩:=r;rfl
 |pdc ks ds=>obtain⟨a,vs,rfl,_⟩:=r;rfl
 |cst ds=>obtain⟨a,vs,rfl,_⟩:=r;rfl
theorem LR(r:aY K F x v)(h:uK x=true):v=.non:=by
 cases x<;>first|exact r|(cases h)
theorem k8{k:Key}(r:aY K F x v)(h:j8 x=some k):v=kV k:=by
 cases x with
 |int i=>cases h;exact r
 |str z=>cases h;exact r.1
 |_=>cases h
theorem Dj:∀{ds:List D}{vs:List V}{k:List Key},aN K F ds vs->A8 ds=some k->vs=k.map kV/\keysOk k=true
|[],_,_,h,e=>by cases h;cases e;exact⟨rfl,rfl⟩
|d::ds,_,k,h,e=>by
 obtain⟨v,r,rfl,h2,h3⟩:=h;unfold A8 at e;cases hd:j8 d with
 |none=>rw[hd]at e;cases e
 |some q=>
  rw[hd]at e;cases hr:A8 ds with
  |none=>rw[hr]at e;cases e
  |some rs=>
   rw[hr]at e;cases e;obtain⟨w1,w2⟩:=Dj h3 hr;refine⟨by rw[k8 h2 hd,w1];rfl,?_⟩;show(keyOk q&&keysOk rs)=true;rw[w2,ie];cases d with
   |int i=>cases hd;rfl
   |str z=>cases hd;exact decide_eq_true h2.2
   |_=>cases hd
theorem zY[DecidableEq κ]:∀(kvs:List (κ×V)) (k:κ),pU (kvs.map (·.1)) k=(fM kvs k).isSome
|[],k=>rfl
|p::r,k=>by
 have ih:=zY r k;unfold pU at ih ⊢;unfold fM at ih ⊢;simp only[bD,kF,fC];by_cases e:p.1=k
 ·simp[e]
 ·simp only[e,decide_false,Ez];exact ih
theorem rL[DecidableEq κ]:∀(kvs:List (κ×V)) (ds:List D) (k:κ),aN K F ds (kvs.map (·.2))->match kY (kvs.map (·.1)) ds k with
 |some d=>∃v,fM kvs k=some v/\aY K F d v
 |none=>fM kvs k=none
|[],ds,k,h=>by cases ds<;>rfl
|p::r,[],k,h=>by cases h
|p::r,d::ds,k,h=>by
 obtain⟨v,vs,e,h2,h3⟩:=h;simp only[bD]at e;injection e with e1 e2;subst e1 e2;simp only[bD,kY];by_cases q:p.1=k
 ·rw[if_pos q];exact⟨p.2,by simp[fM,fC,q],h2⟩
 ·rw[if_neg q];have ih:=rL r ds k h3;have z:fM (p::r) k=fM r k:=by simp[fM,fC,q]
  rw[z];exact ih
theorem rM:∀(xs ys:List D),aA (xs++ys)=aA xs++aA ys
|[],_=>rfl
|x::r,ys=>by show br x::aA (r++ys)=_;rw[rM r ys];rfl
theorem j9:∀xs:List D,(aA xs).length=xs.length
|[]=>rfl
|x::r=>by show(aA r).length+1=_;rw[j9 r];rfl
theorem PV.lst[Ex]{ds:List D}{vs:List V}{Q:VK}{p:Addr}(h:PV K F H (.ok (.lst true (aA ds))) Q)(s:aW F H)(r:aN K F ds vs)(hl:vs.length<=aa)(hp:H p=none):Q (.ref p) (upd H p (.lst vs)):=by
 obtain⟨g,hf⟩:=newList (vs:=vs) (o:=.lst vs) s hp;refine h F _ (.ref p) [p] g ⟨by simp,?_,?_⟩ ?_
 ·intro a ha;rw[aM.mp ha];exact hp
 ·intro a ha;rw[aM.mp ha];exact hf
 ·unfold bg;rw[if_pos rfl];exact⟨p,vs,[],rfl,dG,hl,aN.zf ds vs r,rfl⟩
theorem PV.tup[Ex]{ds:List D}{vs:List V}{Q:VK}{p:Addr}(h:PV K F H (.ok (.tup (aA ds))) Q)(s:aW F H)(r:aN K F ds vs)(hl:vs.length<=aa)(hp:H p=none):Q (.ref p) (upd H p (.tup vs)):=by
 have g:=A_ (o:=.tup vs) s hp;refine h _ _ (.ref p) [] g .nil ?_;exact⟨p,vs,rfl,dG,hl,aN.zf ds vs (aN.mono g.f ds vs r)⟩
theorem FN:∀(n:Nat) {ds:List D}{vs:List V},aN K F ds vs->aN K F (aQ n ds).flatten (aQ n vs).flatten
|0,_,_,_=>rfl
|n+1,ds,vs,r=>by
 rw[bN,bN,cT,cT];exact aN.app r (FN n r)
theorem Ph(n:Nat)(xs:List D):(aQ n (aA xs)).flatten=aA (aQ n xs).flatten:=by
 induction n with
 |zero=>rfl
 |succ n ih=>rw[bN,bN,cT,cT,rM,ih]
theorem XX[Ex]{y:D}(s:aW F H)(rx:aY K F x v)(ry:aY K F y u)(h:PV K F H (jt op x y) Q):OQ K op v u H Q:=by
 cases x with
 |int i=>
  cases rx;cases y with
  |int j=>
   cases ry;cases op<;>first|exact h.elim|exact h.flat s ⟨rfl,rfl⟩|(obtain⟨c,h⟩:=h.a9;exact⟨of_decide_eq_true c,h.flat s ⟨rfl,rfl⟩⟩)
  |_=>exact h.elim
 |str z=>
  obtain⟨rfl,hz⟩:=rx;cases y with
  |int j=>
   cases ry;cases op<;>first|exact h.elim|skip
   obtain⟨c,h⟩:=h.a9;have c:=of_decide_eq_true c;exact⟨c,h.flat s ⟨⟨rfl,by rw[JI];exact c.2.2⟩,rfl⟩⟩
  |str q=>
   obtain⟨rfl,hq⟩:=ry;cases op<;>first|exact h.elim|skip
   obtain⟨c,h⟩:=h.a9;have c:=of_decide_eq_true c;exact⟨c,h.flat s ⟨⟨rfl,by rw[qz];exact c⟩,rfl⟩⟩
  |_=>exact h.elim
 |lst o xs=>
  obtain⟨a,vs,rfl,h2,h3,h4⟩:=rx;cases y with
  |lst o' ys=>
   obtain⟨b,us,rfl,k2,k3,k4⟩:=ry;cases op<;>first|exact h.elim|skip
   obtain⟨c,h⟩:=h.a9;have c:=of_decide_eq_true c;rw[<-h4.len,<-k4.len]at c;rw[<-rM]at h;exact .inl ⟨vs,us,Rd.same s h2,Rd.same s k2,c,fun p hp=>h.lst s (h4.app k4) (by rw[az];exact c) hp⟩
  |int k=>
   cases ry;cases op<;>first|exact h.elim|skip
   obtain⟨c,h⟩:=h.a9;have c:=of_decide_eq_true c;rw[<-h4.len]at c;rw[Ph]at h;refine⟨vs,Rd.same s h2,c.1,c.2,fun p hp=>h.lst s (FN _ h4) ?_ hp⟩;have z:∀n,(aQ n vs).flatten.length=vs.length*n:=by
    intro n;induction n with
    |zero=>rfl
    |succ n ih=>rw[bN,cT,az,ih,G1,yg]
   rw[z];exact c.2
  |_=>exact h.elim
 |tup xs=>
  obtain⟨a,vs,rfl,h2,h3,h4⟩:=rx;cases y with
  |tup ys=>
   obtain⟨b,us,rfl,k2,k3,k4⟩:=ry;cases op<;>first|exact h.elim|skip
   obtain⟨c,h⟩:=h.a9;simp only[aU,decide_eq_true_eq,qy,List.isEmpty_eq_false_iff]at c;obtain⟨⟨c1,c2⟩,c3⟩:=c;rw[<-h4.len,<-k4.len]at c3;rw[<-rM]at h;refine .inr ⟨vs,us,(tupS h2).same' s,(tupS k2).same' s,?_,?_,c3,fun p hp=>h.tup s (h4.app k4) (by rw[az];exact c3) hp⟩
   ·rintro rfl;exact c1 (gD (by rw[<-h4.len];rfl))
   ·rintro rfl;exact c2 (gD (by rw[<-k4.len];rfl))
  |_=>exact h.elim
 |_=>exact h.elim
theorem okIn{y:D}(s:aW F H)(rx:aY K F x v)(ry:aY K F y u)(h:inD x y=.ok b){Q:Bool->Prop}(q:Q b):∃a,u=.ref a/\((∃t xs dx ds,gi K H a t xs/\aY K H dx v/\aN K H ds xs/\cF dx=true/\e_ ds=true/\Q (memD dx ds))\/∃kvs k,Rd H a (.dK kvs)/\v=kV k/\Q (fM kvs k).isSome):=by
 cases y with
 |lst o ys=>
  obtain⟨a,us,rfl,k2,k3,k4⟩:=ry;obtain⟨c,e⟩:=jL h;cases e;have c:cF x=true/\e_ ys=true:=by simpa using c
  exact⟨a,rfl,.inl ⟨false,us,x,ys,(Rd.seq k2).same' s,aY.mono s _ _ rx,aN.mono s _ _ k4,c.1,c.2,q⟩⟩
 |tup ys=>
  obtain⟨a,us,rfl,k2,k3,k4⟩:=ry;obtain⟨c,e⟩:=jL h;cases e;have c:cF x=true/\e_ ys=true:=by simpa using c
  exact⟨a,rfl,.inl ⟨true,us,x,ys,(tupS k2).same' s,aY.mono s _ _ rx,aN.mono s _ _ k4,c.1,c.2,q⟩⟩
 |bY o ks ds=>
  obtain⟨a,kvs,rfl,k2,k3,k4,k5⟩:=ry;unfold inD at h;cases e:j8 x with
  |none=>rw[e]at h;cases h
  |some k=>
   rw[e]at h;cases h;refine⟨a,rfl,.inr ⟨kvs,k,.inl (s _ _ k2),k8 rx e,?_⟩⟩;rw[<-k4.1,zY]at q;exact q
 |pdc ks ds=>
  obtain⟨a,kvs,rfl,⟨ob,k2⟩,k3,k4,k5⟩:=ry;unfold inD at h;cases e:j8 x with
  |none=>rw[e]at h;cases h
  |some k=>
   rw[e]at h;cases h;refine⟨a,rfl,.inr ⟨kvs,k,.inr ⟨ob,s _ _ k2⟩,k8 rx e,?_⟩⟩;rw[<-k4.1,zY]at q;exact q
 |cst ys=>
  obtain⟨a,us,rfl,k2,k3,k4⟩:=ry;obtain⟨c,e⟩:=jL h;cases e;have c:cF x=true/\e_ ys=true:=by simpa using c
  exact⟨a,rfl,.inl ⟨true,us,x,ys,.inr k2,aY.mono s _ _ rx,aN.mono s _ _ k4,c.1,c.2,q⟩⟩
 |_=>cases h
theorem yE[Ex]{op:nN}{y:D}(s:aW F H)(rx:aY K F x v)(ry:aY K F y u)(h:PV K F H (cL op x y) Q):mH K op v u H Q:=by
 have ord:(op=.Lt\/op=.LtE\/op=.Gt\/op=.GtE)->PV K F H (Wh op x y) Q->mH K op v u H Q:=by
  intro ho h;cases x with
  |int i=>
   cases rx;cases y with
   |int j=>
    cases ry;rcases ho with rfl|rfl|rfl|rfl<;>exact h.flat s ⟨rfl,rfl⟩
   |_=>exact h.elim
  |str z=>
   obtain⟨rfl,_⟩:=rx;cases y with
   |str j=>
    obtain⟨rfl,_⟩:=ry;rcases ho with rfl|rfl|rfl|rfl<;>first|exact h.flat s ⟨rfl,rfl⟩|exact h.elim
   |_=>exact h.elim
  |_=>exact h.elim
 cases op with
 |Lt=>exact ord (.inl rfl) h
 |LtE=>exact ord (.inr (.inl rfl)) h
 |Gt=>exact ord (.inr (.inr (.inl rfl))) h
 |GtE=>exact ord (.inr (.inr (.inr rfl))) h
 |Eq=>
  obtain⟨c,h⟩:=h.a9;have c:cF x=true/\cF y=true:=by simpa using c
  exact⟨x,y,aY.mono s _ _ rx,aY.mono s _ _ ry,c.1,c.2,h.flat s ⟨rfl,rfl⟩⟩
 |NotEq=>
  obtain⟨c,h⟩:=h.a9;have c:cF x=true/\cF y=true:=by simpa using c
  exact⟨x,y,aY.mono s _ _ rx,aY.mono s _ _ ry,c.1,c.2,h.flat s ⟨rfl,rfl⟩⟩
 |Is=>
  obtain⟨c,h⟩:=h.a9;rw[LR ry c];show Q (.bl (decide (v=.non))) H;rw[Di rx];exact h.flat s ⟨rfl,rfl⟩
 |IsNot=>
  obtain⟨c,h⟩:=h.a9;rw[LR ry c];show Q (.bl (!decide (v=.non))) H;rw[Di rx];exact h.flat s ⟨rfl,rfl⟩
 |In=>
  have h:PV K F H ((inD x y).bind fun b=>.ok (.bl b)) Q:=h;cases e:inD x y with
  |ok b=>
   rw[e]at h;obtain⟨a,rfl,z⟩:=okIn s rx ry e (Q:=fun b=>Q (.bl b) H) (h.flat s ⟨rfl,rfl⟩);exact z
  |ex z=>exact absurd e (Ij x y z)
  |bad=>rw[e]at h;exact h.elim
 |NotIn=>
  have h:PV K F H ((inD x y).bind fun b=>.ok (.bl (!b))) Q:=h;cases e:inD x y with
  |ok b=>
   rw[e]at h;obtain⟨a,rfl,z⟩:=okIn s rx ry e (Q:=fun b=>Q (.bl (!b)) H) (h.flat s ⟨rfl,rfl⟩);exact z
  |ex z=>exact absurd e (Ij x y z)
  |bad=>rw[e]at h;exact h.elim
theorem uh{xs:List α}{ys:List β}(h:xs.length=ys.length):xs.isEmpty=ys.isEmpty:=by
 cases xs<;>cases ys<;>first|rfl|(simp at h)
theorem JK{Q:Bool->Prop}(s:aW F H)(rx:aY K F x v)(h:iz x=.ok b)(q:Q b):kN K v H Q:=by
 cases x with
 |non=>cases rx;cases h;exact q
 |bl k=>cases rx;cases h;exact q
 |int i=>cases rx;cases h;exact q
 |str z=>obtain⟨rfl,hz⟩:=rx;cases h;exact⟨hz,q⟩
 |lst o ds=>
  obtain⟨a,vs,rfl,h2,h3,h4⟩:=rx;cases h;exact .inl ⟨false,vs,(Rd.seq h2).same' s,by show Q (!vs.isEmpty);rw[uh h4.len];exact q⟩
 |tup ds=>
  obtain⟨a,vs,rfl,h2,h3,h4⟩:=rx;cases h;exact .inl ⟨true,vs,(tupS h2).same' s,by show Q (!vs.isEmpty);rw[uh h4.len];exact q⟩
 |bY o ks ds=>
  obtain⟨a,kvs,rfl,h2,h3,h4,h5⟩:=rx;cases h;refine .inr ⟨kvs,s _ _ h2,?_⟩;rw[<-h4.1]at q;have e:kvs.isEmpty=(kvs.map (·.1)).isEmpty:=uh (by simp);rw[e];exact q
 |pdc ks ds=>cases h
 |cst ds=>cases h
theorem cz{r:R α}{f:α->R β}{b:β}(h:r.bind f=.ok b):∃a,r=.ok a/\f a=.ok b:=by
 cases r with
 |ok a=>exact⟨a,rfl,h⟩
 |ex x=>cases h
 |bad=>cases h
theorem oY{o:Option α}{a:α}(h:R.opt o=.ok a):o=some a:=by
 cases o with
 |none=>cases h
 |some b=>cases h;rfl
theorem PV.some[Ex]{r:R D}(h:PV K F H r Q)(n:r.bE):∃d,r=.ok d:=by
 cases r with
 |ok d=>exact⟨d,rfl⟩
 |ex x=>exact absurd rfl (n x)
 |bad=>exact h.elim
theorem Wm[Ex]{y:D}(s:aW F H)(rx:aY K F x v)(ry:aY K F y u)(h:PV K F H (nj x y) Q):Fp K v u H Q:=by
 obtain⟨d,e⟩:=h.some (by first|exact Cf _ _|exact rK _ _ _|(repeat' (first|exact bE.ok|exact bE.bad|exact bE.opt|exact bE.gO _|refine bE.a9 ?_|(refine bE.bind ?_ fun _=>?_)|split)));rw[e]at h;have hs:=szl;cases x with
 |str z=>
  obtain⟨rfl,hz⟩:=rx;cases y with
  |int i=>
   cases ry;obtain⟨c,e1,e2⟩:=cz e;cases e2;exact⟨hz,c,oY e1,h.flat s ⟨⟨rfl,by show(1:Nat)<=_;omega⟩,rfl⟩⟩
  |_=>cases e
 |lst o ds=>
  obtain⟨a,vs,rfl,h2,h3,h4⟩:=rx;cases y with
  |int i=>
   cases ry;obtain⟨c,e1,e2⟩:=cz e;cases e2;obtain⟨j,i1,i2⟩:=qQ (oY e1);obtain⟨w,w1,w2⟩:=h4.get j i2;exact .inl ⟨false,vs,i,w,rfl,(Rd.seq h2).same' s,rJ (by rw[h4.len];exact i1) w1,h.here s w2⟩
  |_=>cases e
 |tup ds=>
  obtain⟨a,vs,rfl,h2,h3,h4⟩:=rx;cases y with
  |int i=>
   cases ry;obtain⟨c,e1,e2⟩:=cz e;cases e2;obtain⟨j,i1,i2⟩:=qQ (oY e1);obtain⟨w,w1,w2⟩:=h4.get j i2;exact .inl ⟨true,vs,i,w,rfl,(tupS h2).same' s,rJ (by rw[h4.len];exact i1) w1,h.here s w2⟩
  |_=>cases e
 |bY o ks ds=>
  obtain⟨a,kvs,rfl,h2,h3,h4,h5⟩:=rx;unfold nj at e;cases q:j8 y with
  |none=>simp only[q]at e;cases e
  |some k=>
   simp only[q]at e;obtain⟨c,e1,e2⟩:=cz e;cases e2;have z:=rL kvs ds k h5;rw[h4.1,oY e1]at z;obtain⟨w,w1,w2⟩:=z;exact .inr (.inl ⟨kvs,k,w,.inl (s _ _ h2),k8 ry q,w1,h.here s w2⟩)
 |pdc ks ds=>
  obtain⟨a,kvs,rfl,⟨ob,h2⟩,h3,h4,h5⟩:=rx;unfold nj at e;cases q:j8 y with
  |none=>simp only[q]at e;cases e
  |some k=>
   simp only[q]at e;obtain⟨c,e1,e2⟩:=cz e;cases e2;have z:=rL kvs ds k h5;rw[h4.1,oY e1]at z;obtain⟨w,w1,w2⟩:=z;exact .inr (.inl ⟨kvs,k,w,.inr ⟨ob,s _ _ h2⟩,k8 ry q,w1,h.here s w2⟩)
 |_=>cases e
theorem aN.cut:∀{ds:List D}{vs:List V},aN K F ds vs->∀lo hi,aN K F (L3.cut ds lo hi) (L3.cut vs lo hi):=by
 have dr:∀(n:Nat) {ds:List D}{vs:List V},aN K F ds vs->aN K F (ds.drop n) (vs.drop n):=by
  intro n;induction n with
  |zero=>intro ds vs h;exact h
  |succ n ih=>
   intro ds vs h;cases ds with
   |nil=>cases h;exact rfl
   |cons d ds=>
    obtain⟨v,r,rfl,_,h3⟩:=h;exact ih h3
 have tk:∀(n:Nat) {ds:List D}{vs:List V},aN K F ds vs->aN K F (ds.take n) (vs.take n):=by
  intro n;induction n with
  |zero=>intro ds vs h;exact rfl
  |succ n ih=>
   intro ds vs h;cases ds with
   |nil=>cases h;exact rfl
   |cons d ds=>
    obtain⟨v,r,rfl,h2,h3⟩:=h;exact⟨v,_,rfl,h2,ih h3⟩
 intro ds vs h lo hi;unfold L3.cut;rw[h.len];exact tk _ (dr _ h)
theorem Zr[Ex](s:aW F H)(rx:aY K F x v)(h:PV K F H (Ii x lo hi) Q):R4 K v lo hi H Q:=by
 cases x with
 |str z=>
  obtain⟨rfl,hz⟩:=rx;refine⟨hz,h.flat s ⟨⟨rfl,?_⟩,rfl⟩⟩;rw[gk];have:=qT z.cps.toList lo hi;rw[uN]at this;omega
 |lst o ds=>
  obtain⟨a,vs,rfl,h2,h3,h4⟩:=rx;exact .inl ⟨false,vs,(Rd.seq h2).same' s,rfl,fun p hp=>h.lst s (h4.cut lo hi) (dB (qT _ _ _) h3) hp⟩
 |tup ds=>
  obtain⟨a,vs,rfl,h2,h3,h4⟩:=rx;cases lo with
  |none=>exact h.elim
  |some n=>
   cases hi with
   |some _=>exact h.elim
   |none=>
    obtain⟨c,h⟩:=h.a9;have c:=of_decide_eq_true c;have en:((n.toNat:Nat):Int)=n:=by omega
    have dr:∀(n:Nat) {ds:List D}{vs:List V},aN K F ds vs->aN K F (ds.drop n) (vs.drop n):=by
     intro n;induction n with
     |zero=>intro ds vs h;exact h
     |succ n ih=>
      intro ds vs h;cases ds with
      |nil=>cases h;exact rfl
      |cons d ds=>
       obtain⟨v,r,rfl,_,h3⟩:=h;exact ih h3
    have hl:=h4.len;exact .inr ⟨n.toNat,vs,(tupS h2).same' s,by rw[en],rfl,by omega,by omega,fun p hp=>h.tup s (dr n.toNat h4) (by rw[dN];omega) hp⟩
 |_=>exact h.elim
theorem Dk:∀{ds:List D}{vs:List V},aN K F ds vs->ds.all qF=true->EE vs=true/\vs.all wW=ds.all tB/\vs.any wW=ds.any tB
|[],_,h,_=>by cases h;exact⟨rfl,rfl,rfl⟩
|d::ds,_,h,e=>by
 obtain⟨v,r,rfl,h2,h3⟩:=h;have e':qF d=true/\ds.all qF=true:=by simpa using e
 obtain⟨i1,i2,i3⟩:=Dk h3 e'.2;cases d with
 |bl b=>
  cases h2;refine⟨by show(true&&EE r)=true;rw[i1];rfl,?_,?_⟩
  ·rw[kG,kG,i2];cases b<;>rfl
  ·rw[kF,kF,i3];cases b<;>rfl
 |_=>exact absurd e'.1 aR
theorem Ba:∀{ds:List D}{vs:List V},aN K F ds vs->ds.all jd=true->AU vs=true/\oW vs=(ds.map intD).sum
|[],_,h,_=>by cases h;exact⟨rfl,rfl⟩
|d::ds,_,h,e=>by
 obtain⟨v,r,rfl,h2,h3⟩:=h;have e':jd d=true/\ds.all jd=true:=by simpa using e
 obtain⟨i1,i2⟩:=Ba h3 e'.2;cases d with
 |int i=>
  cases h2;refine⟨by show(true&&AU r)=true;rw[i1];rfl,?_⟩;unfold oW at i2 ⊢;rw[bD,bD,qc,qc,i2];rfl
 |_=>exact absurd e'.1 aR
theorem T_:∀{kss:List (List Key)}{ts:List Addr},uD H kss ts->kss.length=ts.length/\∀i,i<kss.length->H (ts.getD i 0)=some (.tup ((kss.getD i []).map kV))/\ts.getD i 0∈ts
|_,_,.nil=>⟨rfl,fun i h=>absurd h (BP _)⟩
|_,_,.cons (b:=t) e r=>by
 obtain⟨h1,h2⟩:=T_ r;refine⟨by simp[h1],fun i hi=>?_⟩;cases i with
 |zero=>exact⟨e,ao⟩
 |succ i=>
  obtain⟨a,b⟩:=h2 i (by simpa using hi);exact⟨by simpa using a,ai _ (by simpa using b)⟩
theorem xh:∀{ds:List D}{vs:List V}{ss:List Str},aN K F ds vs->jE ds=some ss->vs=ss.map V.str
|[],_,_,h,e=>by cases h;cases e;rfl
|d::ds,_,ss,h,e=>by
 obtain⟨v,r,rfl,h2,h3⟩:=h;cases d with
 |str z=>
  have e:(jE ds).map (z::·)=some ss:=e;cases q:jE ds with
  |none=>rw[q]at e;cases e
  |some s2=>
   rw[q]at e;cases e;rw[xh h3 q,h2.1];rfl
 |_=>cases e
theorem Dl:∀{ds:List D}{vs:List V}{kss:List (List Key)},aN K F ds vs->tD ds=some kss->∃ts,vs=ts.map V.ref/\uD F kss ts
|[],_,_,h,e=>by cases e;cases h;exact⟨[],rfl,.nil⟩
|d::ds,_,_,h,e=>by
 obtain⟨v,r,rfl,h2,h3⟩:=h;have e:((mG d).bind fun k=>(tD ds).map (k::·))=some _:=e;cases q:mG d with
 |none=>rw[q]at e;cases e
 |some k=>
  rw[q]at e;have e:(tD ds).map (k::·)=some _:=e;cases q2:tD ds with
  |none=>rw[q2]at e;cases e
  |some ks=>
   rw[q2]at e;cases e;obtain⟨ts,rfl,ht⟩:=Dl h3 q2;cases d with
   |tup xs=>
    obtain⟨a,us,rfl,u2,_,u4⟩:=h2;exact⟨a::ts,rfl,.cons (by rw[u2,(Dj u4 q).1]) ht⟩
   |_=>cases q
theorem zg(s:aW F H):∀{kss:List (List Key)}{ts:List Addr},uD F kss ts->uD H kss ts
|_,_,.nil=>.nil
|_,_,.cons e r=>.cons (s _ _ e) (zg s r)
theorem LS{kss:List (List Key)}(h:aN K F ds vs)(e:nq ds=some kss):kss.length=ds.length/\∀{H:Hp},aW F H->Fj H vs kss:=by
 have hl:=h.len;unfold nq at e;split at e
 ·rename_i ss q;cases e;have:=xh h q;exact⟨by rw[<-hl,this,ah,ah],fun _=>.inr ⟨ss,this,rfl⟩⟩
 ·obtain⟨ts,e1,e2⟩:=Dl h e;exact⟨by rw[<-hl,e1,ah];exact Paired.length e2,fun s=>.inl ⟨ts,e1,zg s e2⟩⟩
theorem Dm:∀(ds:List D) (i:Nat),(aA ds).getD i .non=br (ds.getD i .non)
|[],_=>rfl
|_::_,0=>rfl
|_::ds,i+1=>Dm ds i
theorem Dn(h:aN K F ds vs):∀l:List Nat,(∀i∈l,i<ds.length)->aN K F (l.map fun i=>ds.getD i .non) (l.map fun i=>vs.getD i .non)/\aA (l.map fun i=>ds.getD i .non)=l.map fun i=>(aA ds).getD i .non
|[],_=>⟨rfl,rfl⟩
|i::r,hi=>by
 have h0:=hi i ao;obtain⟨v,e1,e2⟩:=aN.get i h (aj h0);obtain⟨q1,q2⟩:=Dn h r fun j hj=>hi j (ai _ hj);refine⟨⟨_,_,rfl,?_,q1⟩,?_⟩
 ·show aY K F (ds.getD i .non) (vs.getD i .non);rw[aK,aK,aj h0,e1];exact e2
 ·show br (ds.getD i .non)::aA _=(aA ds).getD i .non::_;rw[q2,Dm]
theorem FO(ks:List Key):aA (ks.map ee)=ks.map ee:=by
 induction ks with
 |nil=>rfl
 |cons k r ih=>
  show br (ee k)::aA (r.map ee)=_;rw[ih];cases k<;>rfl
theorem zZ:∀kvs:List (Key×V),keysOk (kvs.map (·.1))=true->aN K F ((kvs.map (·.1)).map ee) (kvs.map fun kv=>kV kv.1)
|[],_=>rfl
|kv::r,h=>by
 obtain⟨h1,h2⟩:=kr.mp (show(keyOk kv.1&&keysOk (r.map (·.1)))=true by simpa[keysOk]using h);refine⟨_,_,rfl,?_,zZ r h2⟩;show aY K F (ee kv.1) (kV kv.1);cases e:kv.1 with
 |inl i=>exact rfl
 |inr x=>rw[e]at h1;exact⟨rfl,of_decide_eq_true h1⟩
theorem JL[Ex]{f:Bf}(s:aW F H)(r:aN K F ds vs)(h:PV K F H (gf f ds) Q):zN K f vs H Q:=by
 match ds,r,h with
 |[],_,h=>exact h.elim
 |[x],r,h=>
  obtain⟨v,r',rfl,rx,e⟩:=r;cases e;cases f with
  |len=>
   cases x with
   |str z=>obtain⟨rfl,hz⟩:=rx;exact⟨hz,h.flat s ⟨rfl,rfl⟩⟩
   |lst o ds=>
    obtain⟨a,vs,rfl,h2,h3,h4⟩:=rx;exact .inl ⟨false,vs,(Rd.seq h2).same' s,by show Q (.int vs.length) H;rw[h4.len];exact h.flat s ⟨rfl,rfl⟩⟩
   |tup ds=>
    obtain⟨a,vs,rfl,h2,h3,h4⟩:=rx;exact .inl ⟨true,vs,(tupS h2).same' s,by show Q (.int vs.length) H;rw[h4.len];exact h.flat s ⟨rfl,rfl⟩⟩
   |bY o ks ds=>
    obtain⟨a,kvs,rfl,h2,h3,h4,h5⟩:=rx;refine .inr ⟨kvs,.inl (s _ _ h2),?_⟩;rw[<-h4.1]at h;have:=h.flat (v:=.int (kvs.map (·.1)).length) s ⟨rfl,rfl⟩;rw[ah]at this;exact this
   |pdc ks ds=>
    obtain⟨a,kvs,rfl,⟨ob,h2⟩,h3,h4,h5⟩:=rx;refine .inr ⟨kvs,.inr ⟨ob,s _ _ h2⟩,?_⟩;rw[<-h4.1]at h;have:=h.flat (v:=.int (kvs.map (·.1)).length) s ⟨rfl,rfl⟩;rw[ah]at this;exact this
   |_=>exact h.elim
  |all=>
   cases x with
   |lst o ds=>
    obtain⟨a,vs,rfl,h2,h3,h4⟩:=rx;obtain⟨c,h⟩:=h.a9;obtain⟨i1,i2,i3⟩:=Dk h4 c;exact⟨false,vs,(Rd.seq h2).same' s,rfl,i1,by rw[i2];exact h.flat s ⟨rfl,rfl⟩⟩
   |_=>exact h.elim
  |int=>
   cases x with
   |int i=>cases rx;exact h.flat s ⟨rfl,rfl⟩
   |bl b=>cases rx;exact h.flat s ⟨rfl,rfl⟩
   |str z=>
    obtain⟨rfl,hz⟩:=rx;obtain⟨c,h⟩:=h.a9;obtain⟨d,e⟩:=h.some (by first|exact Cf _ _|exact rK _ _ _|(repeat' (first|exact bE.ok|exact bE.bad|exact bE.opt|exact bE.gO _|refine bE.a9 ?_|(refine bE.bind ?_ fun _=>?_)|split)));obtain⟨n,e1,e2⟩:=cz e;rw[e]at h;cases e2;exact⟨of_decide_eq_true c,n,oY e1,h.flat s ⟨rfl,rfl⟩⟩
   |_=>exact h.elim
  |str=>
   cases x with
   |int i=>
    cases rx;obtain⟨c,h⟩:=h.a9;have c:i.natAbs.log2<1920/\(dj i).length<=aa:=by simpa using c
    exact⟨c.1,h.flat s ⟨⟨rfl,c.2⟩,rfl⟩⟩
   |_=>exact h.elim
  |list=>
   cases x with
   |lst o ds=>
    obtain⟨a,vs,rfl,h2,h3,h4⟩:=rx;exact .inl ⟨false,vs,(Rd.seq h2).same' s,fun p hp=>h.lst s h4 h3 hp⟩
   |tup ds=>
    obtain⟨a,vs,rfl,h2,h3,h4⟩:=rx;exact .inl ⟨true,vs,(tupS h2).same' s,fun p hp=>h.lst s h4 h3 hp⟩
   |bY o ks ds=>
    obtain⟨a,kvs,rfl,h2,h3,h4,h5⟩:=rx;refine .inr ⟨kvs,.inl (s _ _ h2),fun p hp=>?_⟩;rw[<-h4.1]at h h4;exact PV.lst (ds:=(kvs.map (·.1)).map ee) (by rw[FO];exact h) s (zZ kvs h4.2) (by rw[ah];exact h3) hp
   |pdc ks ds=>
    obtain⟨a,kvs,rfl,⟨ob,h2⟩,h3,h4,h5⟩:=rx;refine .inr ⟨kvs,.inr ⟨ob,s _ _ h2⟩,fun p hp=>?_⟩;rw[<-h4.1]at h h4;exact PV.lst (ds:=(kvs.map (·.1)).map ee) (by rw[FO];exact h) s (zZ kvs h4.2) (by rw[ah];exact h3) hp
   |_=>exact h.elim
  |sum=>
   cases x with
   |lst o ds=>
    obtain⟨a,vs,rfl,h2,h3,h4⟩:=rx;obtain⟨c,h⟩:=h.a9;obtain⟨i1,i2⟩:=Ba h4 c;exact⟨false,vs,(Rd.seq h2).same' s,rfl,i1,by rw[i2];exact h.flat s ⟨rfl,rfl⟩⟩
   |_=>exact h.elim
  |sorted=>
   cases x with
   |lst o ds=>
    obtain⟨a,vs,rfl,h2,h3,h4⟩:=rx;have h:PV K F H ((R.opt (nq ds)).bind fun kss=>.a9 (sortable kss) (.ok (.lst true (vB kss ds)))) Q:=h;cases e:nq ds with
    |none=>rw[e]at h;exact h.elim
    |some kss=>
     rw[e]at h;obtain⟨c,h⟩:=PV.a9 (show PV K F H (.a9 (sortable kss) (.ok (.lst true (vB kss ds)))) Q from h);obtain⟨k1,k2⟩:=LS h4 e;refine⟨vs,kss,Rd.same s h2,k2 s,c,fun p hp=>?_⟩;obtain⟨r1,r2⟩:=Dn h4 (gB kss) fun i hi=>by rw[<-k1];exact Fi _ _ i hi
     have:=(zd c).1;exact PV.lst (ds:=(gB kss).map fun i=>ds.getD i .non) (by rw[r2];exact h) s r1 (by rw[ah];unfold gB;rw[uE,dM];omega) hp
   |_=>exact h.elim
  |_=>exact h.elim
 |[x,y],r,h=>
  obtain⟨v,r',rfl,rx,u,r2,rfl,ry,e⟩:=r;cases e;cases x with
  |int i=>
   cases rx;cases y with
   |int j=>
    cases ry;cases f<;>first|exact h.elim|exact h.flat s ⟨rfl,rfl⟩
   |_=>exact h.elim
  |_=>exact h.elim
 |_::_::_::_,_,h=>exact h.elim
theorem Sg{Q:Bool->Prop}(s:aW F H)(rx:aY K F x v)(hn:oX x=true)(q:Q (vC t x)):rC K t v H Q:=by
 cases x with
 |non=>cases rx;exact q
 |bl k=>cases rx;exact q
 |int i=>cases rx;exact q
 |str z=>obtain⟨rfl,hz⟩:=rx;exact q
 |lst o ds=>
  obtain⟨a,vs,rfl,h2,h3,h4⟩:=rx;exact .inl ⟨vs,Rd.same s h2,q⟩
 |tup ds=>
  obtain⟨a,vs,rfl,h2,h3,h4⟩:=rx;exact .inr (.inl ⟨vs,(tupS h2).same' s,q⟩)
 |bY o ks ds=>
  obtain⟨a,kvs,rfl,h2,h3,h4,h5⟩:=rx;exact .inr (.inr ⟨kvs,.inl (s _ _ h2),q⟩)
 |pdc ks ds=>
  obtain⟨a,kvs,rfl,⟨ob,h2⟩,h3,h4,h5⟩:=rx;exact .inr (.inr ⟨kvs,.inr ⟨ob,s _ _ h2⟩,q⟩)
 |cst ds=>
  obtain⟨a,vs,rfl,h2,h3,h4⟩:=rx;exact .inr (.inl ⟨vs,.inr h2,q⟩)
theorem JM(c:Nat)(l:List Nat)(hl:l.length<=aa):aN K F (rG c l) ((cN c l).map fun p=>V.str (strOf p)):=by
 obtain⟨h1,_⟩:=qI c l;unfold rG;revert h1;generalize cN c l=ps;intro h1;induction ps with
 |nil=>exact rfl
 |cons p r ih=>
  refine⟨_,_,rfl,⟨rfl,?_⟩,ih fun q hq=>h1 q (ai _ hq)⟩;rw[LQ];have:=h1 p ao;omega
theorem xj:∀ps:List (List Nat),aA (ps.map fun p=>D.str (strOf p))=ps.map fun p=>D.str (strOf p)
|[]=>rfl
|p::r=>by show D.str (strOf p)::aA _=_;rw[xj r];rfl
theorem z4:∀{ds:List D}{vs:List V}{bs:List Bool},aN K F ds vs->uf ds=some bs->vs=bs.map V.bl
|[],_,_,h,e=>by cases h;cases e;rfl
|d::ds,_,bs,h,e=>by
 obtain⟨v,r,rfl,h2,h3⟩:=h;cases d<;>first|(cases e;done)|skip
 rename_i b;have e:(uf ds).map (b::·)=some bs:=e;cases q:uf ds with
 |none=>rw[q]at e;cases e
 |some cs=>
  rw[q]at e;cases e;rw[z4 h3 q];cases h2;rfl
theorem LU(s:aW F H)(rx:aY K F x v)(h:nu m x ds=.ok d):sY m v H:=by
 cases x with
 |str z=>
  obtain⟨rfl,_⟩:=rx
  match ds,h with
  |[y],h=>
   cases y with
   |str q=>cases m<;>first|exact trivial|(cases h)
   |lst o ys=>cases m<;>first|exact trivial|(cases h)
   |_=>cases h
  |[],h=>cases m<;>first|exact trivial|(cases h)
  |_::_::_,h=>cases h
 |lst o xs=>
  obtain⟨a,us,rfl,h2,_⟩:=rx
  match ds,h with
  |[y],h=>
   cases y<;>first|(cases h;done)|skip
   cases m<;>first|exact⟨us,Rd.same s h2⟩|(cases h)
  |[],h=>cases h
  |_::_::_,h=>cases h
 |bY o ks xs=>
  obtain⟨a,kvs,rfl,h2,_⟩:=rx
  match ds,h with
  |[k,y],h=>
   cases m<;>first|(cases h)|skip
   show vj H a;unfold vj;rw[s _ _ h2];trivial
  |[],h=>cases h
  |[k],h=>
   cases m<;>first|(cases h)|skip
   show vj H a;unfold vj;rw[s _ _ h2];trivial
  |_::_::_::_,h=>cases h
 |_=>cases h
theorem frzs_strs':∀ws:List Str,aA (ws.map D.str)=ws.map D.str
|[]=>rfl
|w::r=>by show D.str w::aA (r.map D.str)=_;rw[frzs_strs' r];rfl
theorem Sh[Ex](s:aW F H)(rx:aY K F x v)(r:aN K F ds vs)(h:PV K F H (nu m x ds) Q):uc K m v vs H Q:=by
 cases x with
 |str z=>
  obtain⟨rfl,hz⟩:=rx
  match ds,r,h with
  |[y],r,h=>
   obtain⟨u,r',rfl,ry,e⟩:=r;cases e;cases y with
   |str q=>
    obtain⟨rfl,hq⟩:=ry;cases m with
    |startswith=>
     exact h.flat s ⟨rfl,rfl⟩
    |split=>
     obtain⟨c,h⟩:=h.a9;have c:q.length=1/\z.length+2<=aa:=by simpa using c
     refine⟨c.1,c.2,fun p hp=>?_⟩;have r:=JM (K:=K) (F:=F) (q.cps.getD 0 0) z.cps.toList (by rw[uN];exact hz);have h':PV K F H (.ok (.lst true (aA (rG (q.cps.getD 0 0) z.cps.toList)))) Q:=by
      unfold rG at h ⊢;rw[xj];exact h
     refine h'.lst s r ?_ hp;rw[ah];have:=(qI (q.cps.getD 0 0) z.cps.toList).2;rw[uN]at this;omega
    |count=>
     obtain⟨c,h⟩:=h.a9;exact⟨of_decide_eq_true c,hz,h.flat s ⟨rfl,rfl⟩⟩
    |index=>
     obtain⟨c,h⟩:=h.a9;have c:q.length=1/\(q.cps.getD 0 0)∈z.cps.toList:=by simpa only[aU,decide_eq_true_eq]using c
     exact⟨c.1,hz,c.2,h.flat s ⟨rfl,rfl⟩⟩
    |_=>exact h.elim
   |lst o ys=>
    obtain⟨a,us,rfl,h2,h3,h4⟩:=ry;cases m with
    |join=>
     obtain⟨d,e⟩:=h.some (by first|exact Cf _ _|exact rK _ _ _|(repeat' (first|exact bE.ok|exact bE.bad|exact bE.opt|exact bE.gO _|refine bE.a9 ?_|(refine bE.bind ?_ fun _=>?_)|split)));obtain⟨ss,e1,e2⟩:=cz (show((R.opt (jE ys)).bind fun ss=>R.a9 (decide ((ss.map (·.length)).sum+ss.length*z.length<=aa)) (.ok (.str (dS z ss))))=.ok d from e);obtain⟨c,e3⟩:=jL e2;rw[e]at h;cases e3;exact⟨false,us,(Rd.seq h2).same' s,rfl,ss,xh h4 (oY e1),of_decide_eq_true c,h.flat s ⟨⟨rfl,dB (vD z ss) (of_decide_eq_true c)⟩,rfl⟩⟩
    |_=>exact h.elim
   |_=>exact h.elim
  |[],r,h=>
   cases m with
   |split=>
    cases r;obtain⟨c,h⟩:=h.a9;simp only[aU,decide_eq_true_eq]at c;refine⟨⟨hz,c.1⟩,fun p hp=>?_⟩;have r:∀ws:List Str,(ws.all fun w=>decide (w.length<=aa))=true->aN K F (ws.map D.str) (ws.map V.str):=by
     intro ws;induction ws with
     |nil=>intro _;exact rfl
     |cons w ws ih=>
      intro hc;obtain⟨c1,c2⟩:=kr.mp hc;exact⟨_,_,rfl,⟨rfl,of_decide_eq_true c1⟩,ih c2⟩
    have h':PV K F H (.ok (.lst true (aA ((g9 z).map D.str)))) Q:=by
     rw[frzs_strs'];exact h
    exact h'.lst s (r _ c.2) (by rw[ah];exact c.1) hp
   |_=>exact h.elim
  |_::_::_,_,h=>exact h.elim
 |lst o xs=>
  obtain⟨a,us,rfl,h2,h3,h4⟩:=rx
  match ds,r,h with
  |[y],r,h=>
   obtain⟨u,r',rfl,ry,e⟩:=r;cases e;cases y<;>first|exact h.elim|skip
   rename_i k;cases ry;have h:PV K F H (JF m xs k) Q:=h;cases m<;>first|exact h.elim|skip
   ·have h:PV K F H ((R.opt (uf xs)).bind fun bs=>.ok (.int (bs.count k))) Q:=h;cases q:uf xs with
    |none=>rw[q]at h;exact h.elim
    |some bs=>
     rw[q]at h;have e:=z4 h4 q;subst e;exact⟨bs,Rd.same s h2,PV.flat (d:=.int (bs.count k)) h s ⟨rfl,rfl⟩⟩
   ·have h:PV K F H ((R.opt (uf xs)).bind fun bs=>.a9 (decide (k∈bs)) (.ok (.int (bs.idxOf k)))) Q:=h;cases q:uf xs with
    |none=>rw[q]at h;exact h.elim
    |some bs=>
     rw[q]at h;have e:=z4 h4 q;subst e;obtain⟨c,h⟩:=PV.a9 (show PV K F H (.a9 (decide (k∈bs)) (.ok (.int (bs.idxOf k)))) Q from h);exact⟨bs,Rd.same s h2,of_decide_eq_true c,h.flat s ⟨rfl,rfl⟩⟩
  |[],_,h=>exact h.elim
  |_::_::_,_,h=>exact h.elim
 |bY o ks xs=>
  obtain⟨a,kvs,rfl,h2,h3,h4,h5⟩:=rx
  match ds,r,h with
  |[k,y],r,h=>
   obtain⟨u,r',rfl,rk,w,r2,rfl,ry,e⟩:=r;cases e;cases m<;>first|exact h.elim|skip
   have h:PV K F H (match j8 k with|some k'=>.ok (br ((kY ks xs k').getD y))|none=>.bad) Q:=h;cases q:j8 k with
   |none=>rw[q]at h;exact h.elim
   |some k'=>
    have h:PV K F H (.ok (br ((kY ks xs k').getD y))) Q:=by rw[q]at h;exact h
    refine .inl ⟨kvs,k',.inl (s _ _ h2),k8 rk q,?_⟩;have z:=rL kvs xs k' h5;rw[h4.1]at z;cases e:kY ks xs k' with
    |none=>
     rw[e]at z h;rw[show fM kvs k'=none from z];exact h.here s ry
    |some d=>
     rw[e]at z h;obtain⟨w',w1,w2⟩:=z;rw[w1];exact h.here s w2
  |[],_,h=>exact h.elim
  |[k],r,h=>
   obtain⟨u,r',rfl,rk,e⟩:=r;cases e;cases m<;>first|exact h.elim|skip
   have h:PV K F H (match j8 k with|some k'=>.ok (br ((kY ks xs k').getD .non))|none=>.bad) Q:=h;cases q:j8 k with
   |none=>rw[q]at h;exact h.elim
   |some k'=>
    have h:PV K F H (.ok (br ((kY ks xs k').getD .non))) Q:=by rw[q]at h;exact h
    refine⟨kvs,k',.inl (s _ _ h2),k8 rk q,?_⟩;have z:=rL kvs xs k' h5;rw[h4.1]at z;cases e:kY ks xs k' with
    |none=>
     rw[e]at z h;rw[show fM kvs k'=none from z];exact h.here (d:=.non) s rfl
    |some d=>
     rw[e]at z h;obtain⟨w',w1,w2⟩:=z;rw[w1];exact h.here s w2
  |_::_::_::_,_,h=>exact h.elim
 |_=>exact h.elim
end
variable{Q':List V->Hp->Prop}
variable{L:bf}{is:List Nat}
variable{E:XK}
variable{nl:List Str}{fr:List Nat}
section
variable{K:PySem.W.Frag}{ZU:List PG}{Y:List G}
theorem PV.bind[Ex]{r:R D}{f:D->R D}{Q':VK}(h:PV K F H (r.bind f) Q)(k:∀x F1 H1 v,bO F H F1 H1->aY K F1 x v->PV K F1 H1 (f x) Q->Q' v H1):PV K F H r Q':=by
 cases r with
 |ok x=>
  intro F1 H1 v fp g fr rx;obtain⟨F2,g2,s2,rf⟩:=Pb g fr rx;exact k x F2 H1 v g2 rf (PV.grow h g2)
 |ex x=>exact h
 |bad=>exact h.elim
theorem PB.mq[Ex]{r:R D}{f:D->R α}{Q:α->Hp->Prop}{Q':VK}(h:PB K F H (r.bind f) Q)(k:∀x F1 H1 v,bO F H F1 H1->aY K F1 x v->PB K F1 H1 (f x) Q->Q' v H1):PV K F H r Q':=by
 cases r with
 |ok x=>
  intro F1 H1 v fp g fr rx;obtain⟨F2,g2,s2,rf⟩:=Pb g fr rx;exact k x F2 H1 v g2 rf (PB.grow h g2)
 |ex x=>exact h
 |bad=>exact h.elim
theorem PB.bindB[Ex]{r:R β}{f:β->R α}{Q:α->Hp->Prop}{Q':β->Hp->Prop}(h:PB K F H (r.bind f) Q)(k:∀x F1 H1,bO F H F1 H1->PB K F1 H1 (f x) Q->Q' x H1):PB K F H r Q':=by
 cases r with
 |ok x=>exact fun F1 H1 g=>k x F1 H1 g (PB.grow h g)
 |ex x=>exact h
 |bad=>exact h.elim
theorem PV.bindB[Ex]{r:R β}{f:β->R D}{Q':β->Hp->Prop}(h:PV K F H (r.bind f) Q)(k:∀x F1 H1,bO F H F1 H1->PV K F1 H1 (f x) Q->Q' x H1):PB K F H r Q':=by
 cases r with
 |ok x=>exact fun F1 H1 g=>k x F1 H1 g (PV.grow h g)
 |ex x=>exact h
 |bad=>exact h.elim
theorem xg.EN[Ex]{r:R (List D)}{f:List D->R D}(h:PV K F H (r.bind f) Q)(k:∀xs F1 H1 vs,bO F H F1 H1->aN K F1 xs vs->PV K F1 H1 (f xs) Q->Q' vs H1):xg K F H r Q':=by
 cases r with
 |ok x=>
  intro F1 H1 v fp g fr rx;obtain⟨F2,g2,s2,rf⟩:=JG g fr rx;exact k x F2 H1 v g2 rf (PV.grow h g2)
 |ex x=>exact h
 |bad=>exact h.elim
theorem PB.Wn[Ex]{r:R (List D)}{f:List D->R α}{Q:α->Hp->Prop}(h:PB K F H (r.bind f) Q)(k:∀xs F1 H1 vs,bO F H F1 H1->aN K F1 xs vs->PB K F1 H1 (f xs) Q->Q' vs H1):xg K F H r Q':=by
 cases r with
 |ok x=>
  intro F1 H1 v fp g fr rx;obtain⟨F2,g2,s2,rf⟩:=JG g fr rx;exact k x F2 H1 v g2 rf (PB.grow h g2)
 |ex x=>exact h
 |bad=>exact h.elim
theorem PV.Wo[Ex](h:PV K F H (.ok (.lst true ds)) Q)(g:bO F H F1 H1)(fr:gj fp H F1)(r:aO K H1 F1 ds vs fp)(hl:vs.length<=aa)(hp:H1 p=none):Q (.ref p) (upd H1 p (.lst vs)):=by
 obtain⟨g2,hf⟩:=newList (vs:=vs) (o:=.lst vs) g.s hp;have np:p∉fp:=fun z=>by
  obtain⟨o,e,_⟩:=aO.ex ds vs fp r p z;rw[hp]at e;cases e
 refine h F1 _ (.ref p) (p::fp) (g.trans g2) ⟨bF.mpr ⟨np,fr.nd⟩,?_,?_⟩ ?_
 ·intro a ha;rcases aE.mp ha with rfl|ha
  ·exact aW.none g.h hp
  ·exact fr.nh a ha
 ·intro a ha;rcases aE.mp ha with rfl|ha
  ·exact hf
  ·exact fr.nf a ha
 ·unfold bg;rw[if_pos rfl];exact⟨p,vs,fp,rfl,dG,hl,aO.mono (aW.refl _) ds vs fp (fun a ha=>bw (fun z=>np (by rw[<-z];exact ha))) r,rfl⟩
theorem PV.Zs[Ex](h:PV K F H (.ok (.tup ds)) Q)(g:bO F H F1 H1)(fr:gj fp H F1)(r:aO K H1 F1 ds vs fp)(hl:vs.length<=aa)(hp:H1 p=none):Q (.ref p) (upd H1 p (.tup vs)):=by
 have g2:=A_ (o:=.tup vs) g.s hp;have np:p∉fp:=fun z=>by
  obtain⟨o,e,_⟩:=aO.ex ds vs fp r p z;rw[hp]at e;cases e
 refine h _ _ (.ref p) fp (g.trans g2) ⟨fr.nd,fr.nh,fun a ha=>?_⟩ ?_
 ·rw[bw (fun z=>np (by rw[<-z];exact ha))];exact fr.nf a ha
 ·exact⟨p,vs,rfl,dG,hl,aO.mono g2.f ds vs fp (fun a ha=>bw (fun z=>np (by rw[<-z];exact ha))) r⟩
theorem LV(z:Str):jK K F (uL z) ((chars z).map .v):=by
 unfold uL chars;have hs:=szl;induction z.cps.toList with
 |nil=>exact rfl
 |cons c r ih=>exact⟨_,_,rfl,⟨rfl,by show(1:Nat)<=_;omega⟩,ih⟩
theorem xm:∀{ds:List D}{vs:List V},aN K F ds vs->jK K F (aA ds) (vs.map .v)
|[],_,h=>by cases h;exact rfl
|d::ds,_,h=>by
 obtain⟨v,r,rfl,h2,h3⟩:=h;exact⟨_,_,rfl,(aY.br d v).mpr h2,xm h3⟩
theorem Ua:∀{ds es:List D}{vs us:List V},aN K F ds vs->aN K F es us->jK K F (Wi (aA ds) (aA es)) (VQ vs us)
|[],_,_,_,h,h'=>by cases h;exact rfl
|d::ds,[],_,_,h,h'=>by
 obtain⟨v,r,rfl,h2,h3⟩:=h;cases h';exact rfl
|d::ds,e::es,_,_,h,h'=>by
 obtain⟨v,r,rfl,h2,h3⟩:=h;obtain⟨v',r',rfl,h2',h3'⟩:=h';have hs:=szl;exact⟨_,_,rfl,⟨_,rfl,⟨_,_,rfl,(aY.br d v).mpr h2,_,_,rfl,(aY.br e v').mpr h2',rfl⟩,by show(2:Nat)<=_;omega⟩,Ua h3 h3'⟩
theorem FP:∀{ds:List D}{vs:List V} (n:Nat),aN K F ds vs->jK K F (kT n (aA ds)) (mj n vs)
|[],_,n,h=>by cases h;exact rfl
|d::ds,_,n,h=>by
 obtain⟨v,r,rfl,h2,h3⟩:=h;have hs:=szl;exact⟨_,_,rfl,⟨_,rfl,⟨_,_,rfl,rfl,_,_,rfl,(aY.br d v).mpr h2,rfl⟩,by show(2:Nat)<=_;omega⟩,FP (n+1) h3⟩
theorem Dp(lo:Int)(n:Nat):jK K F (lY lo n) ((bA n).map fun(i:Nat)=>Item.v (.int (lo+(i:Int)))):=by
 unfold lY;induction bA n with
 |nil=>exact rfl
 |cons c r ih=>exact⟨_,_,rfl,rfl,ih⟩
theorem z5:∀(kvs:List (Key×V)),keysOk (kvs.map (·.1))=true->jK K F ((kvs.map (·.1)).map ee) (kvs.map fun kv=>Item.v (kV kv.1))
|[],_=>rfl
|(k,v)::r,h=>by
 have h':keyOk k=true/\keysOk (r.map (·.1))=true:=kr.mp h;refine⟨_,_,rfl,?_,z5 r h'.2⟩;cases k with
 |inl i=>exact rfl
 |inr x=>exact⟨rfl,of_decide_eq_true h'.1⟩
theorem Dq:∀(ds:List D) (n:Nat),(kT n ds).length=ds.length
|[],n=>rfl
|d::r,n=>by show(kT (n+1) r).length+1=_;rw[Dq r];rfl
theorem jK.mono(e:aW F F'):∀{ds:List D}{its:List Item},jK K F ds its->jK K F' ds its
|[],_,h=>h
|d::ds,_,h=>by
 obtain⟨it,r,h1,h2,h3⟩:=h;refine⟨it,r,h1,?_,jK.mono e h3⟩;cases it with
 |v x=>exact aY.mono e d x h2
 |tup xs=>obtain⟨es,q1,q2,q3⟩:=h2;exact⟨es,q1,aN.mono e es xs q2,q3⟩
theorem Dr{it:Item}{k:V->Hp->Prop}(s:aW F H)(r:Wk K F d it)(h:∀F1 H1 v,bO F H F1 H1->aY K F1 d v->k v H1):mkItem it H k:=by
 cases it with
 |v x=>exact h F H x (bO.refl s) r
 |tup xs=>
  obtain⟨ds,rfl,r2,r3⟩:=r;intro p hp;have g:=A_ (o:=.tup xs) s hp;exact h _ _ _ g ⟨p,xs,rfl,dG,r3,aN.mono g.f ds xs r2⟩
def lR(K:PySem.W.Frag)(F:Hp)(L:bf)(O:L2.St):Prop:=∀(i:Nat) d,L[i]?=some (some d)->∃v,O[i]?=some (some v)/\aY K F d v
theorem lR.env{O:L2.St}(h:lR K F L O)(s:aW F H):iR K F H is L O:=⟨fun i _ d e=>h i d e,fun k d e=>let⟨v,h1,h2⟩:=h k d e;⟨v,F,h1,s,h2⟩⟩
theorem lR.mono{O:L2.St}(h:lR K F L O)(e:aW F F'):lR K F' L O:=fun i d q=>by
 obtain⟨v,h1,h2⟩:=h i d q;exact⟨v,h1,aY.mono e d v h2⟩
theorem lR.set{O:L2.St}{i:Nat}(h:lR K F L O)(hl:L.length=O.length)(r:aY K F d v):lR K F (L.set i (some d)) (O.set i (some v)):=fun j e q=>by
 by_cases hij:i=j
 ·subst hij;rw[fu]at q;by_cases hi:i<L.length
  ·simp[hi]at q;subst q;exact⟨v,by rw[fu];simp[<-hl,hi],r⟩
  ·simp[hi]at q
 ·rw[bR hij]at q;obtain⟨w,h1,h2⟩:=h j e q;exact⟨w,by rw[bR hij];exact h1,h2⟩
mutual
theorem YL:∀(g:CG) {d:D}{v:V}{L Z2:bf}{O:L2.St}{F H:Hp}{Q:L2.St->Hp->Prop},lR K F L O->L.length=O.length->aW F H->aY K F d v->pG g d L=.ok Z2->(∀ZV,lR K F Z2 ZV->Z2.length=ZV.length->Q ZV H)->wG K Y E g v O H Q
|.name i,d,v,L,Z2,O,F,H,Q,a,hl,s,r,e,h=>by
 cases e;exact h _ (a.set hl r) (by simp[hl])
|.tup gs,d,v,L,Z2,O,F,H,Q,a,hl,s,r,e,h=>by
 cases d with
 |tup ds=>
  obtain⟨b,vs,rfl,h2,h3,h4⟩:=r;obtain⟨c,e⟩:=jL e;exact⟨true,vs,(tupS h2).same' s,rfl,by rw[h4.len];exact of_decide_eq_true c,Wp gs a hl s h4 e h⟩
 |_=>cases e
|.sub _ _,d,v,L,Z2,O,F,H,Q,a,hl,s,r,e,h=>by cases e
theorem Wp:∀(g:oV) {ds:List D}{vs:List V}{L Z2:bf}{O:L2.St}{F H:Hp}{Q:L2.St->Hp->Prop},lR K F L O->L.length=O.length->aW F H->aN K F ds vs->v8 g ds L=.ok Z2->(∀ZV,lR K F Z2 ZV->Z2.length=ZV.length->Q ZV H)->HY K Y E g vs O H Q
|.nil,ds,vs,L,Z2,O,F,H,Q,a,hl,s,r,e,h=>by
 cases ds with
 |nil=>cases r;cases e;exact h O a hl
 |cons d dr=>cases e
|.cons g gr,ds,vs,L,Z2,O,F,H,Q,a,hl,s,r,e,h=>by
 cases ds with
 |nil=>cases e
 |cons d dr=>
  obtain⟨v,vr,rfl,r1,r2⟩:=r;obtain⟨ZZ,e1,e2⟩:=cz e;exact YL g a hl s r1 e1 fun ZV a' hl'=>Wp gr a' hl' s r2 e2 h
end
theorem LW{O:L2.St}(h:iR K F H fr L O):lR K F (nl.map (fun _=>none)++fr.map (fun i=>L.getD i none)) (nl.map (fun _=>none)++fr.map (fun i=>O.getD i none)):=by
 intro i d e;by_cases hi:i<nl.length
 ·rw[eB (by simpa using hi)]at e;rw[aX]at e;cases q:nl[i]? with
  |none=>rw[q]at e;cases e
  |some x=>rw[q]at e;cases e
 ·rw[cC (by simpa using hi)]at e ⊢;simp only[ah,aX]at e ⊢;cases q:fr[i-nl.length]? with
  |none=>rw[q]at e;cases e
  |some j=>
   rw[q]at e;have e:L.getD j none=some d:=by simpa using e
   have e':L[j]?=some (some d):=by
    rw[aK]at e;cases z:L[j]? with
    |none=>rw[z]at e;cases e
    |some o=>rw[z]at e;simp at e;rw[e]
   obtain⟨v,h1,h2⟩:=h.e j (ki q) d e';refine⟨v,?_,h2⟩;simp[aK,h1]
theorem LX{O:L2.St}:(nl.map (fun _=>(none:Option D))++fr.map (fun i=>L.getD i none)).length=(nl.map (fun _=>(none:Option V))++fr.map (fun i=>O.getD i none)).length:=by simp
theorem FQ[Ex]{E:XK}{tg:CG}{cond:CO}{elt:CE}{k:List V->Hp->Prop}
 (hc:∀{L:bf}{O:L2.St}{F H:Hp}{Q:Bool->Hp->Prop},lR K F L O->aW F H->PB K F H (pC ZU cond L) Q->wC K Y E cond O H Q)
 (he:∀{L:bf}{O:L2.St}{F H:Hp}{Q:VK},lR K F L O->aW F H->PV K F H (pE ZU elt L) Q->wE K Y E elt O H Q) (ok:Hp->Prop) (H0:Hp) (F0:Hp) :
 ∀(ds:List D) (its:List Item) (acc:List D) (vacc:List V) (fp:List Addr) (L:bf) (O:L2.St) (F H:Hp),lR K F L O->L.length=O.length->bO F0 H0 F H->jK K F ds its->(∀H'',aW F H''->ok H'')->acc.length+ds.length<=aa->
  aO K H F acc vacc fp->gj fp H0 F->
  (∀ys,eK (pG tg) (pC ZU cond) (pE ZU elt) ds L=.ok ys->∀F' H' vs fp',bO F0 H0 F' H'->aO K H' F' (acc++ys) vs fp'->gj fp' H0 F'->k vs H')->(∃ys,eK (pG tg) (pC ZU cond) (pE ZU elt) ds L=.ok ys)->
  qB ok (wG K Y E tg) (wC K Y E cond) (wE K Y E elt) k its vacc O H
|[],its,acc,vacc,fp,L,O,F,H,a,hl,g,hi,hok,hz,ra,fr,hk,hy=>by
 cases hi;refine⟨hok H g.s,hk [] rfl F H vacc fp g (by rw[bI];exact ra) fr⟩
|d::ds,its,acc,vacc,fp,L,O,F,H,a,hl,g,hi,hok,hz,ra,fr,hk,hy=>by
 obtain⟨it,r,rfl,i1,i2⟩:=hi;obtain⟨ys,ey⟩:=hy;obtain⟨ZZ,e1,e2⟩:=cz ey;obtain⟨b,e3,e4⟩:=cz e2;simp only[bz]at hz;refine⟨hok H g.s,by rw[ra.len];omega,Dr g.s i1 fun F1 H1 v g1 r1=>?_⟩;have fresh1:∀{F' H':Hp},bO F H F' H'->aO K H' F' acc vacc fp/\gj fp H0 F':=fun g'=>by
  obtain⟨c1,c2⟩:=Wj g' fr ra;exact⟨c1,fr.nd,fr.nh,c2⟩
 refine YL tg (a.mono g1.f) hl g1.s r1 e1 fun ZV a' hl'=>?_;refine hc a' g1.s ?_;rw[e3];intro F2 H2 g2;have g12:=g1.trans g2;have hok2:∀{F' H':Hp},bO F H F' H'->∀H'',aW F' H''->ok H'':=fun g' H'' s''=>hok H'' (g'.f.trans s'');cases b with
 |false=>
  rw[if_neg aR];have e4:eK (pG tg) (pC ZU cond) (pE ZU elt) ds ZZ=.ok ys:=e4;obtain⟨c1,c2⟩:=fresh1 g12;refine FQ hc he ok H0 F0 ds r acc vacc fp ZZ ZV F2 H2 (a'.mono g2.f) hl' (g.trans g12) (jK.mono g12.f i2) (hok2 g12) (by omega) c1 c2 (fun zs ez=>?_) ⟨ys,e4⟩;refine hk zs ?_;simp only[eK,e1,R.bind,e3,yk,if_false];exact ez
 |true=>
  rw[if_pos rfl];have e4:((pE ZU elt ZZ).bind fun y=>(eK (pG tg) (pC ZU cond) (pE ZU elt) ds ZZ).bind fun ys=>.ok (y::ys))=.ok ys:=e4;obtain⟨y,e5,e6⟩:=cz e4;obtain⟨zs,e7,e8⟩:=cz e6;refine he (a'.mono g2.f) g2.s ?_;rw[e5];intro F3 H3 w f3 g3 fr3 r3;have g123:=g12.trans g3;obtain⟨c1,c2⟩:=fresh1 g123;have hx:∀a∈fp,∃o,H a=some o:=fun a ha=>by
   obtain⟨o,e,_⟩:=aO.ex acc vacc fp ra a ha;exact⟨o,e⟩
  have fr':gj (fp++f3) H0 F3:=gj.app (H1:=H) g.h fr hx c2.nf ⟨fr3.nd,fun a ha=>aW.none g12.h (fr3.nh a ha),fr3.nf⟩;refine FQ hc he ok H0 F0 ds r (acc++[y]) (vacc++[w]) (fp++f3) ZZ ZV F3 H3 (a'.mono (g2.f.trans g3.f)) hl' (g.trans g123) (jK.mono g123.f i2) (hok2 g123) (by simp;omega) (aO.app c1 (aO.one r3)) fr' (fun zs' ez=>?_) ⟨zs,e7⟩;rw[bS];refine hk (y::zs') ?_;simp only[eK,e1,R.bind,e3,e5,ez,if_true]
end
variable{k:(Hp->Prop)->List Item->Hp->Prop}
variable{up:Bool}
variable{as:jB}
section
variable{K:PySem.W.Frag}{ZU:List PG}{Y:List G}
mutual
theorem Cg:∀d:D,br (br d)=br d
|.non=>rfl
|.bl _=>rfl
|.int _=>rfl
|.str _=>rfl
|.lst o xs=>by show D.lst false (aA (aA xs))=_;rw[iH xs];rfl
|.tup xs=>by show D.tup (aA (aA xs))=_;rw[iH xs];rfl
|.bY o ks xs=>by show D.bY false ks (aA (aA xs))=_;rw[iH xs];rfl
|.pdc ks xs=>by show D.pdc ks (aA (aA xs))=_;rw[iH xs];rfl
|.cst xs=>by show D.cst (aA (aA xs))=_;rw[iH xs];rfl
theorem iH:∀ds:List D,aA (aA ds)=aA ds
|[]=>rfl
|d::r=>by show br (br d)::aA (aA r)=_;rw[Cg d,iH r];rfl
end
theorem PV.isOk[Ex]{r:R D}(h:PV K F H r Q)(n:r.bE):∃d,r=.ok d:=h.some n
theorem PI'.isOk[Ex]{r:R (Bool×List D)}(h:PI' K A F H r k)(n:r.bE):∃d,r=.ok d:=by
 cases r with
 |ok d=>exact⟨d,rfl⟩
 |ex x=>exact absurd rfl (n x)
 |bad=>exact h.elim
theorem PB.isOk[Ex]{r:R α}{Q:α->Hp->Prop}(h:PB K F H r Q)(n:r.bE):∃d,r=.ok d:=by
 cases r with
 |ok d=>exact⟨d,rfl⟩
 |ex x=>exact absurd rfl (n x)
 |bad=>exact h.elim
theorem Ci{r:R α}{a:α}(h:r.gO=.ok a):r=.ok a:=by
 cases r with
 |ok b=>exact h
 |ex x=>cases h
 |bad=>cases h
theorem PB.Si[Ex]{r:R D}{Q:Bool->Hp->Prop}(h:PB K F H (r.bind iz) Q):PV K F H r (fun x H1=>kN K x H1 fun b=>Q b H1):=by
 refine h.mq fun x F1 H1 v g r hb=>?_;obtain⟨b,e⟩:=hb.isOk (vE x);rw[e]at hb;exact JK g.s r e (hb F1 H1 (bO.refl g.s))
theorem xo(F:Hp):aW (fun _=>none) F:=fun b o h=>by cases h
theorem Pj(r:aY K F x v)(h:ou x=.ok ds):ds.length<=aa:=by
 cases x with
 |str z=>cases h;unfold uL;rw[ah,uN];exact r.2
 |lst o xs=>cases h;obtain⟨a,vs,_,_,h3,h4⟩:=r;rw[j9,<-h4.len];exact h3
 |tup xs=>cases h;obtain⟨a,vs,_,_,h3,h4⟩:=r;rw[j9,<-h4.len];exact h3
 |_=>cases h
theorem XY{G:Hp}(s:aW G H)(r:aY K G x v)(e:ou x=.ok ds)(h:∀ok its,(∀H'',aW G H''->ok H'')->jK K G ds its->ds.length<=aa->k ok its H):yy K v H k:=by
 have hl:=Pj r e;cases x with
 |str z=>cases e;obtain⟨rfl,hz⟩:=r;exact⟨hz,h _ _ (fun _ _=>trivial) (LV z) hl⟩
 |lst o xs=>
  cases e;obtain⟨a,vs,rfl,h2,h3,h4⟩:=r;exact⟨false,vs,(Rd.seq h2).same' s,h _ _ (fun _ s'=>(Rd.seq h2).same' s') (xm h4) hl⟩
 |tup xs=>
  cases e;obtain⟨a,vs,rfl,h2,h3,h4⟩:=r;exact⟨true,vs,(tupS h2).same' s,h _ _ (fun _ s'=>(tupS h2).same' s') (xm h4) hl⟩
 |_=>cases e
theorem XZ{is:List D}(r:aN K F ds vs)(e:rH ds=.ok is)(h:∀its,(∀G,jK K G is its)->is.length<=aa->k (fun _=>True) its H):wX vs H k:=by
 have hs:=szl
 match ds,r,e with
 |[x],r,e=>
  obtain⟨v,r',rfl,rx,er⟩:=r;cases er;cases x with
  |int j=>
   cases rx;obtain⟨c,e2⟩:=jL e;cases e2;have c:=of_decide_eq_true c;refine⟨⟨c.1,by omega⟩,h _ (fun G=>?_) (by unfold lY;rw[ah,qq];exact c.2)⟩;have q:=Dp (K:=K) (F:=G) 0 j.toNat;simpa using q
  |_=>cases e
 |[x,y],r,e=>
  obtain⟨v,r',rfl,rx,u,r2,rfl,ry,er⟩:=r;cases er;cases x with
  |int i=>
   cases rx;cases y with
   |int j=>
    cases ry;obtain⟨c,e2⟩:=jL e;cases e2;have c:=of_decide_eq_true c;exact⟨⟨c.1,c.2.1,c.2.2.1,c.2.2.2.1⟩,h _ (fun G=>Dp i _) (by unfold lY;rw[ah,qq];exact c.2.2.2.2)⟩
   |_=>cases e
  |_=>cases e
 |[],_,e=>cases e
 |_::_::_::_,_,e=>
  unfold rH at e;split at e<;>first|(cases e)|(rename_i z;cases z)
theorem ints_rep:∀{ds:List D}{vs:List V}{F:Hp},aN K F ds vs->ds.all jd=true->vs=(ds.map intD).map V.int
|[],_,_,h,_=>by cases h;rfl
|d::ds,_,_,h,e=>by
 obtain⟨v,r,rfl,h2,h3⟩:=h;have e':jd d=true/\ds.all jd=true:=by simpa using e
 rw[ints_rep h3 e'.2];cases d with
 |int i=>rw[show v=.int i from h2];rfl
 |_=>cases e'.1
theorem Pk{ns:List Int}:bg K H F (EM up ns) (m_ up ns) []:=by
 cases ns with
 |nil=>exact⟨rfl,rfl⟩
 |cons i r=>exact⟨rfl,rfl⟩
theorem X3[Ex](s:aW F H)(rx:aY K F x v)(h:PV K F H (Ce up x) Q):∃a ns,v=.ref a/\gx K H a (ns.map V.int)/\ns≠[]/\Q (m_ up ns) H:=by
 cases x with
 |lst o ds=>
  obtain⟨a,vs,rfl,h2,h3,h4⟩:=rx;obtain⟨c,h⟩:=PV.a9 h;rw[aU]at c;refine⟨a,ds.map intD,rfl,?_,fun z=>?_,h.flat s Pk⟩
  ·rw[<-ints_rep h4 c.1];exact((Rd.seq h2).same' s).HZ
  ·cases ds with
   |nil=>exact absurd c.2 (by decide)
   |cons _ _=>cases z
 |_=>exact h.elim
theorem band'{a:Bool}(h:(a&&b)=true):a=true/\b=true:=by simpa using h
theorem LY{O:L2.St}(n:JH K H L O):∀(ps:List (Str×Nat)) (a y:Str),lM L ps a=some y->uF O ps a=some y
|[],a,y,h=>h
|p::r,a,y,h=>by
 have h:(match L[p.2]? with
  |some (some d)=>(ug d).bind fun y=>lM L r (a++p.1++y)
  |_=>none)=some y:=h
 show(match O[p.2]? with
  |some (some v)=>(vm v).bind fun y=>uF O r (a++p.1++y)
  |_=>none)=some y
 cases q:L[p.2]? with
 |none=>rw[q]at h;cases h
 |some o=>
  cases o with
  |none=>rw[q]at h;cases h
  |some d=>
   rw[q]at h;obtain⟨v,F',h1,_,h2⟩:=n p.2 d q;rw[h1];have e:∀z,ug d=some z->vm v=some z:=fun z hz=>by
    cases d<;>first|cases hz|skip
    ·cases h2;exact hz
    ·obtain⟨rfl,_⟩:=h2;rfl
   cases c:ug d with
   |none=>have h:(ug d).bind (fun y=>lM L r (a++p.1++y))=some y:=h;rw[c]at h;cases h
   |some z=>
    have h:(ug d).bind (fun y=>lM L r (a++p.1++y))=some y:=h;rw[c]at h;show(vm v).bind (fun y=>uF O r (a++p.1++y))=some y;rw[e z c];exact LY n r _ y h
theorem X4[Ex]{ps:List (Str×Nat)}{O:L2.St}(n:JH K H L O)(s:aW F H)(h:PV K F H ((R.opt (lM L ps jj)).bind fun y=>.a9 (decide (y.length<=aa)) (.ok (.str y))) Q):∃y,uF O ps jj=some y/\y.length<=aa/\Q (.str y) H:=by
 cases q:lM L ps jj with
 |none=>rw[q]at h;exact h.elim
 |some y=>
  rw[q]at h;obtain⟨c,h⟩:=PV.a9 (show PV K F H (.a9 (decide (y.length<=aa)) (.ok (.str y))) Q from h);have c:=of_decide_eq_true c;exact⟨y,LY n ps _ y q,c,h.flat s ⟨⟨rfl,c⟩,rfl⟩⟩
theorem X5[Ex](h:PV K F H (gf .len [x]) Q)(s:aW F H):PV K F' H (gf .len [x]) Q:=by
 cases x<;>first|exact PV.int h s|exact h.elim
theorem Sj[Ex]{f:Bf}{O:L2.St}(n:JH K H L O)(s:aW F H)(hl:t9 f as=true)(h:PV K F H ((fN ZU as L).bind fun ds=>gf f ds) Q):wEs K Y Ex.E as O H fun vs H1=>zN K f vs H1 Q:=by
 unfold t9 at hl;split at hl
 ·rename_i k;have h:PV K F H (((match L[k]? with
   |some (some d)=>R.ok (br d)
   |_=>.bad).bind fun x=>(R.ok []).bind fun xs=>.ok (x::xs)).bind fun ds=>gf .len ds) Q:=h
  show jc O k fun v=>zN K .len [v] H Q;unfold jc;cases q:L[k]? with
  |none=>rw[q]at h;exact h.elim
  |some o=>
   cases o with
   |none=>rw[q]at h;exact h.elim
   |some d=>
    rw[q]at h;obtain⟨v,F',h1,h2,h3⟩:=n k d q;rw[h1];exact JL h2 (show aN K F' [br d] [v]from⟨v,[],rfl,(aY.br d v).mpr h3,rfl⟩) (X5 (show PV K F H (gf .len [br d]) Q from h) s)
 ·cases hl
theorem LZ(ZW:dP K ZU Y)[Ex]{g:Nat}{O:L2.St}(hE:∀QA:List V->Hp->Prop,xg K F H (fN ZU as L) QA->wEs K Y Ex.E as O H QA)(h:PV K F H (pE ZU (.call g as) L) Q):wE K Y Ex.E (.call g as) O H Q:=by
 have h:PV K F H (match ZU[g]? with
  |some (.fn m dds)=>(fN ZU as L).bind fun ds=>m (aA ds++dds)
  |_=>.bad) Q:=h
 show(match Y[g]? with
  |some (.fn sp dvs)=>wEs K Y Ex.E as O H fun vs H1=>sp (vs++dvs) H1 Q Ex.E
  |_=>False)
 cases q:ZU[g]? with
 |none=>rw[q]at h;exact h.elim
 |some p=>
  obtain⟨g',e1,e2⟩:=ZW.get g q;rw[q]at h;rw[e1];cases p<;>first|exact h.elim|skip
  ·rename_i m dds;cases g'<;>first|exact e2.elim|skip
   ·rename_i sp dvs;refine hE _ (xg.EN (show PV K F H ((fN ZU as L).bind fun ds=>m (aA ds++dds)) Q from h) fun ds F1 H1 vs g1 r1 h1=>?_);exact e2.1 _ _ _ _ ⟨F1,aA ds++dds,g1.s,by rw[rM,iH,e2.2.1],aN.app ((aN.aA ds vs).mpr r1) (aN.mono (xo F1) dds dvs e2.2.2),h1⟩
mutual
theorem fW(ZW:dP K ZU Y)[Ex]:∀(e:CE) {L:bf}{O:L2.St}{F H:Hp}{Q:VK},iR K F H (cE e) L O->aW F H->cO e=true->PV K F H (pE ZU e L) Q->wE K Y Ex.E e O H Q
|.var i,L,O,F,H,Q,env,s,lt,h=>by
 have h:PV K F H (match L[i]? with
  |some (some d)=>.ok (br d)
  |_=>.bad) Q:=h
 show jc O i fun v=>Q v H;unfold jc;cases q:L[i]? with
 |none=>rw[q]at h;exact h.elim
 |some o=>
  cases o with
  |none=>rw[q]at h;exact h.elim
  |some d=>
   rw[q]at h;obtain⟨v,h1,h2⟩:=env.e i (aM.mpr rfl) d q;rw[h1];exact h.here s h2
|.con v,L,O,F,H,Q,env,s,lt,h=>by
 have h:PV K F H (xf v) Q:=h;show Q v H;unfold xf at h;cases v<;>first|exact h.elim|exact h.flat s ⟨rfl,rfl⟩|exact h.flat s ⟨⟨rfl,of_decide_eq_true lt⟩,rfl⟩
|.glo g,L,O,F,H,Q,env,s,lt,h=>by
 have h:PV K F H (match ZU[g]? with
  |some (.val d)=>.ok (br d)
  |_=>.bad) Q:=h
 show(match Y[g]? with
  |some (.val v)=>Q v H
  |some (.tup a _)=>Q (.ref a) H
  |_=>False)
 cases q:ZU[g]? with
 |none=>rw[q]at h;exact h.elim
 |some p=>
  obtain⟨g',e1,e2⟩:=ZW.get g q;rw[q]at h;rw[e1];cases p with
  |val d=>
   cases g' with
   |val v=>exact h.here s (aY.mono (xo F) d v e2)
   |tup a xs=>exact h.here s (aY.mono (xo F) d _ e2)
   |_=>exact e2.elim
  |_=>exact h.elim
|.bin op a b,L,O,F,H,Q,env,s,lt,h=>by
 obtain⟨l1,l2⟩:=band' lt;refine fW ZW a env.l s l1 (PV.bind (show PV K F H ((pE ZU a L).bind fun x=>(pE ZU b L).bind fun y=>jt op x y) Q from h) fun x F1 H1 v g1 r1 h1=>?_);refine fW ZW b (env.r.mono g1) g1.s l2 (h1.bind fun y F2 H2 u g2 r2 h2=>?_);exact XX g2.s (aY.mono g2.f x v r1) r2 h2
|.neg a,L,O,F,H,Q,env,s,lt,h=>by
 refine fW ZW a env s lt (PV.bind (show PV K F H ((pE ZU a L).bind fun x=>match x with|.int i=>.ok (.int (-i))|_=>.bad) Q from h) fun x F1 H1 v g1 r1 h1=>?_);cases x with
 |int i=>cases r1;exact h1.flat g1.s ⟨rfl,rfl⟩
 |_=>exact h1.elim
|.not a,L,O,F,H,Q,env,s,lt,h=>by
 refine fW ZW a env s lt (PV.bind (show PV K F H ((pE ZU a L).bind fun x=>(iz x).bind fun b=>.ok (.bl (!b))) Q from h) fun x F1 H1 v g1 r1 h1=>?_);obtain⟨d,e⟩:=h1.isOk (bE.bind (vE x) fun _=>bE.ok);obtain⟨b,e1,e2⟩:=cz e;rw[e1]at h1;exact JK g1.s r1 e1 (h1.flat g1.s ⟨rfl,rfl⟩)
|.and a b,L,O,F,H,Q,env,s,lt,h=>by
 obtain⟨l1,l2⟩:=band' lt;refine fW ZW a env.l s l1 (PV.bind (show PV K F H ((pE ZU a L).bind fun x=>match x with|.bl c=>if c=true then pE ZU b L else .ok (.bl false)|_=>.bad) Q from h) fun x F1 H1 v g1 r1 h1=>?_);cases x with
 |bl c=>
  cases r1;cases c with
  |true=>exact fW ZW b (env.r.mono g1) g1.s l2 h1
  |false=>exact h1.flat g1.s ⟨rfl,rfl⟩
 |_=>exact h1.elim
|.or a b,L,O,F,H,Q,env,s,lt,h=>by
 obtain⟨l1,l2⟩:=band' lt;refine fW ZW a env.l s l1 (PV.bind (show PV K F H ((pE ZU a L).bind fun x=>match x with|.bl c=>if c=true then .ok (.bl true)else pE ZU b L|_=>.bad) Q from h) fun x F1 H1 v g1 r1 h1=>?_);cases x with
 |bl c=>
  cases r1;cases c with
  |false=>exact fW ZW b (env.r.mono g1) g1.s l2 h1
  |true=>exact h1.flat g1.s ⟨rfl,rfl⟩
 |_=>exact h1.elim
|.ite c a b,L,O,F,H,Q,env,s,lt,h=>by
 obtain⟨l1,l2⟩:=band' lt;obtain⟨l2,l3⟩:=band' l2;refine v9 ZW c env.l s l1 (PV.bindB (K:=K) (show PV K F H ((pT ZU c L).bind fun k=>if k=true then pE ZU a L else pE ZU b L) Q from h) fun k F1 H1 g1 h1=>?_);cases k with
 |true=>exact fW ZW a (env.r.l.mono g1) g1.s l2 h1
 |false=>exact fW ZW b (env.r.r.mono g1) g1.s l3 h1
|.cmp op a b,L,O,F,H,Q,env,s,lt,h=>by
 obtain⟨l1,l2⟩:=band' lt;refine fW ZW a env.l s l1 (PV.bind (show PV K F H ((pE ZU a L).bind fun x=>(pE ZU b L).bind fun y=>cL op x y) Q from h) fun x F1 H1 v g1 r1 h1=>?_);refine fW ZW b (env.r.mono g1) g1.s l2 (h1.bind fun y F2 H2 u g2 r2 h2=>?_);exact yE g2.s (aY.mono g2.f x v r1) r2 h2
|.chain o1 o2 a b c,L,O,F,H,Q,env,s,lt,h=>by
 obtain⟨l1,l2⟩:=band' lt;obtain⟨l2,l3⟩:=band' l2;refine fW ZW a env.l s l1 (PV.bind (show PV K F H ((pE ZU a L).bind fun x=>(pE ZU b L).bind fun y=>(cL o1 x y).bind fun z=>match z with|.bl k=>if k=true then(pE ZU c L).bind fun u=>cL o2 y u else .ok (.bl false)|_=>.bad) Q from h) fun x F1 H1 v g1 r1 h1=>?_);refine fW ZW b (env.r.l.mono g1) g1.s l2 (h1.bind fun y F2 H2 u g2 r2 h2=>?_);refine yE g2.s (aY.mono g2.f x v r1) r2 (h2.bind fun z F3 H3 w g3 r3 h3=>?_);cases z with
 |bl k=>
  cases r3;cases k with
  |true=>exact fW ZW c (env.r.r.mono (g1.trans (g2.trans g3))) g3.s l3 (PV.bind (show PV K F3 H3 ((pE ZU c L).bind fun u=>cL o2 y u) Q from h3) fun z F4 H4 w g4 r4 h4=>yE g4.s (aY.mono (g3.f.trans g4.f) y u r2) r4 h4)
  |false=>exact h3.flat g3.s ⟨rfl,rfl⟩
 |_=>exact h3.elim
|.call g as,L,O,F,H,Q,env,s,lt,h=>LZ ZW (fun _ h=>rN ZW as env s lt h) h
|.blt f as,L,O,F,H,Q,env,s,lt,h=>by
 by_cases hl:t9 f as=true
 ·exact Sj env.n s hl h
 have env:iR K F H (ow as) L O:=by
  have e:iR K F H (if t9 f as=true then[]else ow as) L O:=env;rw[if_neg hl]at e;exact e
 refine rN ZW as env s lt (xg.EN (show PV K F H ((fN ZU as L).bind fun ds=>gf f ds) Q from h) fun ds F1 H1 vs g1 r1 h1=>JL g1.s r1 h1)
|.isi a t,L,O,F,H,Q,env,s,lt,h=>by
 refine fW ZW a env s lt (PV.bind (show PV K F H ((pE ZU a L).bind fun x=>.a9 (oX x) (.ok (.bl (vC t x)))) Q from h) fun x F1 H1 v g1 r1 h1=>?_);obtain⟨hn,h1⟩:=h1.a9;exact Sg g1.s r1 hn (h1.flat g1.s ⟨rfl,rfl⟩)
|.mth m o as,L,O,F,H,Q,env,s,lt,h=>by
 obtain⟨l1,l2⟩:=band' lt;refine fW ZW o env.l s l1 (PV.bind (show PV K F H ((pE ZU o L).bind fun x=>(fN ZU as L).gO.bind fun ds=>nu m x ds) Q from h) fun x F1 H1 v g1 r1 h1=>?_);obtain⟨d,e⟩:=h1.isOk (bE.bind (bE.gO _) fun _=>rK _ _ _);obtain⟨ds,e1,e2⟩:=cz e;have e1':=Ci e1;rw[e1,<-e1']at h1;refine⟨LU g1.s r1 e2,rN ZW as (env.r.mono g1) g1.s l2 (xg.EN h1 fun ds F2 H2 vs g2 r2 h2=>?_)⟩;exact Sh g2.s (aY.mono g2.f x v r1) r2 h2
|.ix a b,L,O,F,H,Q,env,s,lt,h=>by
 obtain⟨l1,l2⟩:=band' lt;refine fW ZW a env.l s l1 (PV.bind (show PV K F H ((pE ZU a L).bind fun x=>(pE ZU b L).bind fun y=>nj x y) Q from h) fun x F1 H1 v g1 r1 h1=>?_);refine fW ZW b (env.r.mono g1) g1.s l2 (h1.bind fun y F2 H2 u g2 r2 h2=>?_);exact Wm g2.s (aY.mono g2.f x v r1) r2 h2
|.sl a lo hi,L,O,F,H,Q,env,s,lt,h=>by
 obtain⟨l1,l2⟩:=band' lt;obtain⟨l2,l3⟩:=band' l2;refine fW ZW a env.l s l1 (PV.bind (show PV K F H ((pE ZU a L).bind fun x=>(pO ZU lo L).bind fun l=>(pO ZU hi L).bind fun h=>Ii x l h) Q from h) fun x F1 H1 v g1 r1 h1=>?_);refine YM ZW lo (env.r.l.mono g1) g1.s l2 (h1.bindB fun l F2 H2 g2 h2=>?_);refine YM ZW hi (env.r.r.mono (g1.trans g2)) g2.s l3 (h2.bindB fun l' F3 H3 g3 h3=>?_);exact Zr g3.s (aY.mono (g2.f.trans g3.f) x v r1) h3
|.lst as,L,O,F,H,Q,env,s,lt,h=>by
 have h:PV K F H ((fN ZU as L).bind fun ds=>.a9 (decide (ds.length<=aa)) (.ok (.lst true ds))) Q:=h;refine rN ZW as env s lt ?_;cases e1:fN ZU as L with
 |ex x=>rw[e1]at h;exact h
 |bad=>rw[e1]at h;exact h.elim
 |ok ds=>
 rw[e1]at h;obtain⟨c,h⟩:=PV.a9 h;intro F1 H1 vs fp g fr r;have hl:vs.length<=aa:=by rw[r.len];exact of_decide_eq_true c
 exact⟨hl,fun p hp=>h.Wo g fr r hl hp⟩
|.tup as,L,O,F,H,Q,env,s,lt,h=>by
 have h:PV K F H ((fN ZU as L).bind fun ds=>.a9 (decide (ds.length<=aa)) (.ok (.tup ds))) Q:=h;refine rN ZW as env s lt ?_;cases e1:fN ZU as L with
 |ex x=>rw[e1]at h;exact h
 |bad=>rw[e1]at h;exact h.elim
 |ok ds=>
 rw[e1]at h;obtain⟨c,h⟩:=PV.a9 h;intro F1 H1 vs fp g fr r;have hl:vs.length<=aa:=by rw[r.len];exact of_decide_eq_true c
 exact⟨hl,fun p hp=>h.Zs g fr r hl hp⟩
|.mx1 up a,L,O,F,H,Q,env,s,lt,h=>
 fW ZW a env s lt (PV.bind (show PV K F H ((pE ZU a L).bind fun x=>Ce up x) Q from h) fun x F1 H1 v g1 r1 h1=>X3 g1.s r1 h1)
|.fst ps,L,O,F,H,Q,env,s,lt,h=>X4 env.n s h
|.dct,L,O,F,H,Q,env,s,lt,h=>by
 intro p hp;have h:PV K F H (.ok (.bY true [] [])) Q:=h;obtain⟨g,hf⟩:=newList (vs:=[]) (o:=.dK []) s hp;refine h F _ (.ref p) [p] g ⟨by simp,?_,?_⟩ ?_
 ·intro a ha;rw[aM.mp ha];exact hp
 ·intro a ha;rw[aM.mp ha];exact hf
 ·unfold bg;rw[if_pos rfl];exact⟨p,[],[],rfl,dG,cX _,⟨rfl,rfl⟩,⟨rfl,rfl⟩,rfl⟩
|.comp nl fr elt tg src cond,L,O,F,H,Q,env,s,lt,h=>by
 obtain⟨l1,l2⟩:=band' lt;obtain⟨l2,l3⟩:=band' l2;have h:PV K F H ((pI ZU src L).bind fun items=>(eK (pG tg) (pC ZU cond) (pE ZU elt) items.2 (nl.map (fun _=>none)++fr.map (fun i=>L.getD i none))).gO.bind fun ds=>.ok (.lst true ds)) Q:=h;refine Wq ZW src [] env.l s (fun _ h=>absurd h aJ) l2 ?_;cases e1:pI ZU src L with
 |ex x=>rw[e1]at h;exact h
 |bad=>rw[e1]at h;exact h.elim
 |ok items=>
 rw[e1]at h;have h:PV K F H ((eK (pG tg) (pC ZU cond) (pE ZU elt) items.2 (nl.map (fun _=>none)++fr.map (fun i=>L.getD i none))).gO.bind fun ds=>.ok (.lst true ds)) Q:=h;obtain⟨d,e⟩:=h.isOk (bE.bind (bE.gO _) fun _=>bE.ok);obtain⟨ys,e3,e4⟩:=cz e;rw[e]at h;cases e4;replace e3:=Ci e3;intro F1 H1 ok its g1 hok hi hl;rw[LP]at hok hi;refine@FQ K ZU Y ⟨E0⟩ E0 tg cond elt _ (fun a s' hb=>@ruC ZW ⟨E0⟩ cond _ _ _ _ _ (a.env s') s' l3 hb) (fun a s' hv=>@fW ZW ⟨E0⟩ elt _ _ _ _ _ (a.env s') s' l1 hv) ok H1 F1 items.2 its [] [] [] _ _ F1 H1 (LW (env.r.mono g1)) LX (bO.refl g1.s) hi hok (by simpa using hl) ⟨rfl,rfl⟩ .nil (fun zs ez F' H' vs fp' g' r' fr' p hp=>?_) ⟨ys,e3⟩;rw[e3]at ez;cases ez;have hz:vs.length<=aa:=by
  rw[r'.len,kU];have:∀(ds:List D) (L:bf) (ys:List D),eK (pG tg) (pC ZU cond) (pE ZU elt) ds L=.ok ys->ys.length<=ds.length:=by
   intro ds;induction ds with
   |nil=>intro L ys h;cases h;exact aB _
   |cons d ds ih=>
    intro L ys h;obtain⟨ZZ,i1,i2⟩:=cz h;obtain⟨b,i3,i4⟩:=cz i2;cases b with
    |false=>have:=ih ZZ ys i4;simp;omega
    |true=>
     obtain⟨y,i5,i6⟩:=cz (show((pE ZU elt ZZ).bind fun y=>(eK (pG tg) (pC ZU cond) (pE ZU elt) ds ZZ).bind fun ys=>.ok (y::ys))=.ok ys from i4);obtain⟨zs,i7,i8⟩:=cz i6;cases i8;have:=ih ZZ zs i7;simp;omega
  have:=this items.2 _ ys e3;omega
 refine h.Wo (g1.trans g') ⟨fr'.nd,fun a ha=>aW.none g1.h (fr'.nh a ha),fr'.nf⟩ r' hz hp
theorem v9(ZW:dP K ZU Y)[Ex]:∀(e:CE) {L:bf}{O:L2.St}{F H:Hp}{Q:Bool->Hp->Prop},iR K F H (cE e) L O->aW F H->cO e=true->PB K F H (pT ZU e L) Q->wT K Y Ex.E e O H Q
|.not a,L,O,F,H,Q,env,s,lt,h=>by
 exact v9 ZW a env s lt (PB.bindB (show PB K F H ((pT ZU a L).bind fun b=>.ok (!b)) Q from h) fun b F1 H1 g1 h1=>h1 F1 H1 (bO.refl g1.s))
|.and a b,L,O,F,H,Q,env,s,lt,h=>by
 obtain⟨l1,l2⟩:=band' lt;refine v9 ZW a env.l s l1 (PB.bindB (show PB K F H ((pT ZU a L).bind fun c=>if c=true then pT ZU b L else .ok false) Q from h) fun c F1 H1 g1 h1=>?_);cases c with
 |true=>exact v9 ZW b (env.r.mono g1) g1.s l2 h1
 |false=>exact h1 F1 H1 (bO.refl g1.s)
|.or a b,L,O,F,H,Q,env,s,lt,h=>by
 obtain⟨l1,l2⟩:=band' lt;refine v9 ZW a env.l s l1 (PB.bindB (show PB K F H ((pT ZU a L).bind fun c=>if c=true then .ok true else pT ZU b L) Q from h) fun c F1 H1 g1 h1=>?_);cases c with
 |false=>exact v9 ZW b (env.r.mono g1) g1.s l2 h1
 |true=>exact h1 F1 H1 (bO.refl g1.s)
|.ite c a b,L,O,F,H,Q,env,s,lt,h=>by
 obtain⟨l1,l2⟩:=band' lt;obtain⟨l2,l3⟩:=band' l2;refine v9 ZW c env.l s l1 (PB.bindB (show PB K F H ((pT ZU c L).bind fun k=>if k=true then pT ZU a L else pT ZU b L) Q from h) fun k F1 H1 g1 h1=>?_);cases k with
 |true=>exact v9 ZW a (env.r.l.mono g1) g1.s l2 h1
 |false=>exact v9 ZW b (env.r.r.mono g1) g1.s l3 h1
|.cmp op a b,L,O,F,H,Q,env,s,lt,h=>by
 obtain⟨l1,l2⟩:=band' lt;refine fW ZW a env.l s l1 (PB.mq (show PB K F H ((pE ZU a L).bind fun x=>(pE ZU b L).bind fun y=>(cL op x y).bind fun z=>match z with|.bl k=>.ok k|_=>.bad) Q from h) fun x F1 H1 v g1 r1 h1=>?_);refine fW ZW b (env.r.mono g1) g1.s l2 (h1.mq fun y F2 H2 u g2 r2 h2=>?_);refine yE g2.s (aY.mono g2.f x v r1) r2 (h2.mq fun z F3 H3 w g3 r3 h3=>?_);cases z with
 |bl k=>cases r3;exact h3 F3 H3 (bO.refl g3.s)
 |_=>exact h3.elim
|.chain o1 o2 a b c,L,O,F,H,Q,env,s,lt,h=>by
 obtain⟨l1,l2⟩:=band' lt;obtain⟨l2,l3⟩:=band' l2;refine fW ZW a env.l s l1 (PB.mq (show PB K F H ((pE ZU a L).bind fun x=>(pE ZU b L).bind fun y=>(cL o1 x y).bind fun z=>match z with|.bl k=>if k=true then(pE ZU c L).bind fun u=>(cL o2 y u).bind fun z=>match z with|.bl k=>.ok k|_=>.bad else .ok false|_=>.bad) Q from h) fun x F1 H1 v g1 r1 h1=>?_);refine fW ZW b (env.r.l.mono g1) g1.s l2 (h1.mq fun y F2 H2 u g2 r2 h2=>?_);refine yE g2.s (aY.mono g2.f x v r1) r2 (h2.mq fun z F3 H3 w g3 r3 h3=>?_);cases z with
 |bl k=>
  cases r3;cases k with
  |true=>
   refine fW ZW c (env.r.r.mono (g1.trans (g2.trans g3))) g3.s l3 (PB.mq (show PB K F3 H3 ((pE ZU c L).bind fun u=>(cL o2 y u).bind fun z=>match z with|.bl k=>.ok k|_=>.bad) Q from h3) fun z F4 H4 w g4 r4 h4=>?_);refine yE g4.s (aY.mono (g3.f.trans g4.f) y u r2) r4 (h4.mq fun z F5 H5 w g5 r5 h5=>?_);cases z with
   |bl k=>cases r5;exact h5 F5 H5 (bO.refl g5.s)
   |_=>exact h5.elim
  |false=>exact h3 F3 H3 (bO.refl g3.s)
 |_=>exact h3.elim
|.var i,L,O,F,H,Q,env,s,lt,h=>by
 have h:PB K F H (match L[i]? with
  |some (some d)=>iz d
  |_=>.bad) Q:=h
 show jc O i fun v=>kN K v H fun b=>Q b H;unfold jc;cases q:L[i]? with
 |none=>rw[q]at h;exact h.elim
 |some o=>
  cases o with
  |none=>rw[q]at h;exact h.elim
  |some d=>
   rw[q]at h;obtain⟨v,h1,h2⟩:=env.e i (aM.mpr rfl) d q;rw[h1];obtain⟨b,e⟩:=h.isOk (vE d);rw[e]at h;exact JK s h2 e (h F H (bO.refl s))
|.call g as,L,O,F,H,Q,env,s,lt,h=>by
 rw[Ie];have h':PB K F H ((pE ZU (.call g as) L).bind iz) Q:=by
  revert h;show PB K F H (match ZU[g]? with
   |some (.fn m dds)=>((fN ZU as L).bind fun ds=>m (aA ds++dds)).bind iz
   |_=>.bad) Q->PB K F H ((match ZU[g]? with
   |some (.fn m dds)=>(fN ZU as L).bind fun ds=>m (aA ds++dds)
   |_=>.bad).bind iz) Q
  cases ZU[g]? with
  |none=>exact fun h=>h
  |some p=>cases p<;>exact fun h=>h
 have hv:=PB.Si (K:=K) h';exact LZ ZW (fun _ h=>rN ZW as env s lt h) hv
|.blt f as,L,O,F,H,Q,env,s,lt,h=>by
 have hv:=PB.Si (K:=K) (show PB K F H (((fN ZU as L).bind fun ds=>gf f ds).bind iz) Q from h);by_cases hl:t9 f as=true
 ·exact Sj (Q:=fun x H2=>kN K x H2 fun b=>Q b H2) env.n s hl hv
 have env:iR K F H (ow as) L O:=by
  have e:iR K F H (if t9 f as=true then[]else ow as) L O:=env;rw[if_neg hl]at e;exact e
 exact rN ZW as env s lt (xg.EN hv fun ds F1 H1 vs g1 r1 h1=>JL g1.s r1 h1)
|.isi a t,L,O,F,H,Q,env,s,lt,h=>by
 refine fW ZW a env s lt (PB.mq (show PB K F H ((pE ZU a L).bind fun x=>.a9 (oX x) (.ok (vC t x))) Q from h) fun x F1 H1 v g1 r1 h1=>?_);obtain⟨hn,h1⟩:=h1.a9;exact Sg g1.s r1 hn (show kN K (.bl (vC t x)) H1 fun b=>Q b H1 from h1 F1 H1 (bO.refl g1.s))
|.mth m o as,L,O,F,H,Q,env,s,lt,h=>by
 obtain⟨l1,l2⟩:=band' lt;refine fW ZW o env.l s l1 (PB.mq (show PB K F H ((pE ZU o L).bind fun x=>(fN ZU as L).gO.bind fun ds=>(nu m x ds).bind iz) Q from h) fun x F1 H1 v g1 r1 h1=>?_);obtain⟨d,e⟩:=h1.isOk (bE.bind (bE.gO _) fun _=>bE.bind (rK _ _ _) fun _=>vE _);obtain⟨ds,e1,e2⟩:=cz e;have e1':=Ci e1;rw[e1,<-e1']at h1;obtain⟨d',e3,e4⟩:=cz e2;refine⟨LU g1.s r1 e3,rN ZW as (env.r.mono g1) g1.s l2 (PB.Wn h1 fun ds F2 H2 vs g2 r2 h2=>?_)⟩;exact Sh g2.s (aY.mono g2.f x v r1) r2 (PB.Si h2)
|.con v,L,O,F,H,Q,env,s,lt,h=>h.elim
|.glo g,L,O,F,H,Q,env,s,lt,h=>h.elim
|.bin op a b,L,O,F,H,Q,env,s,lt,h=>h.elim
|.neg a,L,O,F,H,Q,env,s,lt,h=>h.elim
|.ix a b,L,O,F,H,Q,env,s,lt,h=>by
 obtain⟨l1,l2⟩:=band' lt;have hv:=PB.Si (K:=K) (show PB K F H (((pE ZU a L).bind fun x=>(pE ZU b L).bind fun y=>nj x y).bind iz) Q from h);refine fW ZW a env.l s l1 (PV.bind hv fun x F1 H1 v g1 r1 h1=>?_);refine fW ZW b (env.r.mono g1) g1.s l2 (h1.bind fun y F2 H2 u g2 r2 h2=>?_);exact Wm g2.s (aY.mono g2.f x v r1) r2 h2
|.sl a lo hi,L,O,F,H,Q,env,s,lt,h=>h.elim
|.lst as,L,O,F,H,Q,env,s,lt,h=>h.elim
|.tup as,L,O,F,H,Q,env,s,lt,h=>h.elim
|.mx1 _ _,L,O,F,H,Q,env,s,lt,h=>h.elim
|.dct,L,O,F,H,Q,env,s,lt,h=>h.elim
|.fst _,L,O,F,H,Q,env,s,lt,h=>h.elim
|.comp nl fr elt tg src cond,L,O,F,H,Q,env,s,lt,h=>h.elim
theorem rN(ZW:dP K ZU Y)[Ex]:∀(as:jB) {L:bf}{O:L2.St}{F H:Hp}{Q:List V->Hp->Prop},iR K F H (ow as) L O->aW F H->jI as=true->xg K F H (fN ZU as L) Q->wEs K Y Ex.E as O H Q
|.nil,L,O,F,H,Q,env,s,lt,h=>(show xg K F H (.ok []) Q from h) F H [] [] (bO.refl s) .nil ⟨rfl,rfl⟩
|.cons a r,L,O,F,H,Q,env,s,lt,h=>by
 obtain⟨l1,l2⟩:=band' lt;have h:xg K F H ((pE ZU a L).bind fun x=>(fN ZU r L).bind fun xs=>.ok (x::xs)) Q:=h;refine fW ZW a env.l s l1 ?_;cases e1:pE ZU a L with
 |ex x=>rw[e1]at h;exact h
 |bad=>rw[e1]at h;exact h.elim
 |ok x=>
  cases e2:fN ZU r L with
  |ex x=>
   rw[e1]at h;simp only[R.bind,e2]at h;intro F1 H1 v f1 g1 fr1 r1;refine rN ZW r (env.r.mono g1) g1.s l2 ?_;rw[e2];exact jJ.grow (K:=K) (x:=x) h g1
  |bad=>rw[e1]at h;simp only[R.bind,e2]at h;exact h.elim
  |ok xs=>
   rw[e1]at h;simp only[R.bind,e2]at h;intro F1 H1 v f1 g1 fr1 r1;refine rN ZW r (env.r.mono g1) g1.s l2 ?_;rw[e2];intro F2 H2 vs f2 g2 fr2 r2;obtain⟨c1,c2⟩:=carry g2 fr1 r1;refine h F2 H2 (v::vs) (f1++f2) (g1.trans g2) (gj.app g1.h fr1 (fun a ha=>?_) c2 fr2) ⟨v,vs,f1,f2,rfl,rfl,c1,r2⟩;obtain⟨o,e,_⟩:=bg.ex x v f1 r1 a ha;exact⟨o,e⟩
theorem YM(ZW:dP K ZU Y)[Ex]:∀(c:CO) {L:bf}{O:L2.St}{F H:Hp}{Q:Option Int->Hp->Prop},iR K F H (LO c) L O->aW F H->LN c=true->PB K F H (pO ZU c L) Q->wO K Y Ex.E c O H Q
|.none,L,O,F,H,Q,env,s,lt,h=>(show PB K F H (.ok none) Q from h) F H (bO.refl s)
|.some a,L,O,F,H,Q,env,s,lt,h=>by
 refine fW ZW a env s lt (PB.mq (show PB K F H ((pE ZU a L).bind fun x=>match x with|.int i=>.ok (some i)|_=>.bad) Q from h) fun x F1 H1 v g1 r1 h1=>?_);cases x with
 |int i=>cases r1;exact h1 F1 H1 (bO.refl g1.s)
 |_=>exact h1.elim
theorem ruC(ZW:dP K ZU Y)[Ex]:∀(c:CO) {L:bf}{O:L2.St}{F H:Hp}{Q:Bool->Hp->Prop},iR K F H (LO c) L O->aW F H->LN c=true->PB K F H (pC ZU c L) Q->wC K Y Ex.E c O H Q
|.none,L,O,F,H,Q,env,s,lt,h=>(show PB K F H (.ok true) Q from h) F H (bO.refl s)
|.some a,L,O,F,H,Q,env,s,lt,h=>v9 ZW a env s lt h
theorem Wq(ZW:dP K ZU Y)[Ex]:∀(c:CI) (A:List Addr) {L:bf}{O:L2.St}{F H:Hp}{k:(Hp->Prop)->List Item->Hp->Prop},iR K F H (uM c) L O->aW F H->mS H A->ltI c=true->PI' K A F H (pI ZU c L) k->wI K Y Ex.E c O H k
|.seq a,A,L,O,F,H,k,env,s,hA,lt,h=>by
 have h:PI' K A F H ((pE ZU a L).bind fun x=>(ou x).bind fun ds=>.ok (aL x,ds)) k:=h;refine fW ZW a env s lt ?_;cases e1:pE ZU a L with
 |ex x=>rw[e1]at h;exact h
 |bad=>rw[e1]at h;exact h.elim
 |ok x=>
 rw[e1]at h;have h:PI' K A F H ((ou x).bind fun ds=>.ok (aL x,ds)) k:=h;obtain⟨o,e⟩:=h.isOk (bE.bind (Pe x) fun _=>bE.ok);obtain⟨ds,e3,e4⟩:=cz (show((ou x).bind fun ds=>R.ok (aL x,ds))=.ok o from e);rw[e]at h;cases e4;intro F1 H1 v fp g fr r;obtain⟨F2,g2,r2⟩:=Wl hA g fr r;exact XY ((Dh _ _ _).trans g2.s) r2 e3 fun ok its h1 h2 h3=>h F2 H1 ok its g2 h1 h2 h3
|.range as,A,L,O,F,H,k,env,s,hA,lt,h=>by
 have h:PI' K A F H ((fN ZU as L).bind fun xs=>(rH xs).bind fun ds=>.ok (true,ds)) k:=h;refine rN ZW as env s lt ?_;cases e1:fN ZU as L with
 |ex x=>rw[e1]at h;exact h
 |bad=>rw[e1]at h;exact h.elim
 |ok xs=>
 rw[e1]at h;have h:PI' K A F H ((rH xs).bind fun ds=>.ok (true,ds)) k:=h;obtain⟨o,e⟩:=h.isOk (bE.bind (Pf xs) fun _=>bE.ok);obtain⟨ds,e3,e4⟩:=cz (show((rH xs).bind fun ds=>R.ok (true,ds))=.ok o from e);rw[e]at h;cases e4;intro F1 H1 vs fp g fr r;obtain⟨F2,g2,_,r2⟩:=JG g fr r;exact XZ r2 e3 fun its h1 h2=>h F2 H1 _ its g2 (fun _ _=>trivial) (h1 _) h2
|.enum a,A,L,O,F,H,k,env,s,hA,lt,h=>by
 have h:PI' K A F H ((pE ZU a L).bind fun x=>match x with|.lst _ xs=>.ok (aL x,kT 0 (aA xs))|_=>.bad) k:=h;refine fW ZW a env s lt ?_;cases e1:pE ZU a L with
 |ex x=>rw[e1]at h;exact h
 |bad=>rw[e1]at h;exact h.elim
 |ok x=>
 rw[e1]at h;intro F1 H1 v fp g fr r;obtain⟨F2,g2,r2⟩:=Wl hA g fr r;cases x with
 |lst o xs=>
  have s2:=(Dh (aL (.lst o xs)) F2 A).trans g2.s;obtain⟨b,vs,rfl,h2,h3,h4⟩:=r2;exact⟨vs,Rd.same s2 h2,h F2 H1 _ _ g2 (fun _ s'=>Rd.same s' h2) (FP 0 h4) (by rw[Dq,j9,<-h4.len];exact h3)⟩
 |_=>exact h.elim
end
end
noncomputable def mK:Nat->bf->bf
|_,[]=>[]
|0,o::r=>o.map br::r
|n+1,o::r=>o::mK n r
noncomputable def mw:List Nat->bf->bf
|[],O=>O
|i::is,O=>mw is (mK i O)
noncomputable def iJ(is:List Nat)(o:Bool)(O:bf):bf:=match o with
|true=>O
|false=>mw is O
noncomputable def JN:CE->Option Nat
|.var i=>some i
|_=>none
noncomputable def k9(Y:List PG):jB->bf->R (List D)
|.nil=>fun _=>.ok []
|.cons a r=>fun O=>match JN a with
 |some i=>match O[i]? with
  |some (some d)=>(k9 Y r (O.set i none)).bind fun ds=>.ok (d::ds)
  |_=>.bad
 |none=>(pE Y a O).bind fun d=>.a9 (aL d) ((k9 Y r O).bind fun ds=>.ok (d::ds))
noncomputable def R.alt{α β:Type}(x:R α)(f:α->R β)(y:R β):R β:=match x with
|.ok a=>f a
|_=>y
noncomputable def pM(Y:List PG)(e:CE)(O:bf):R D:=match e with
|.var i=>match O[i]? with
 |some (some d)=>.ok d
 |_=>.bad
|.tup as=>(k9 Y as O).alt (fun ds=>.a9 (decide (ds.length<=aa)) (.ok (.tup ds))) (pE Y (.tup as) O)
|e=>pE Y e O
noncomputable def nv:Option (Option D)->Bool
|some (some (.lst true _))=>true
|_=>false
noncomputable def Cj(O:bf):CE->Option Int
|.var j=>match O[j]? with
 |some (some (.int n))=>some n
 |_=>none
|.con (.int n)=>some n
|.neg (.con (.int n))=>some (-n)
|_=>none
noncomputable def ny(O:bf):CE->Option (Nat×List Int)
|.var k=>some (k,[])
|.ix o i=>(ny O o).bind fun p=>(Cj O i).map fun n=>(p.1,p.2++[n])
|_=>none
noncomputable def cG:List Int->D->D->Option D
|[],x,d=>match x with
 |.lst true xs=>if xs.length<aa then some (.lst true (xs++[d]))else none
 |_=>none
|i::r,x,d=>match x with
 |.lst true xs=>(fL xs.length i).bind fun n=>(xs[n]?).bind fun y=>(cG r y d).map fun y'=>.lst true (xs.set n y')
 |.tup xs=>(fL xs.length i).bind fun n=>(xs[n]?).bind fun y=>(cG r y d).map fun y'=>.tup (xs.set n y')
 |_=>none
noncomputable def gW:List Int->D->Option D
|[],x=>some x
|i::r,x=>match x with
 |.lst true xs=>(fL xs.length i).bind fun n=>(xs[n]?).bind fun y=>gW r y
 |.tup xs=>(fL xs.length i).bind fun n=>(xs[n]?).bind fun y=>gW r y
 |_=>none
noncomputable def Pn(Y:List PG)(o a:CE)(O:bf):Fl:=match ny O o with
|some p=>(pE Y a O).ju false fun d=>match O[p.1]? with
 |some (some x)=>if aL d=true then(R.opt (cG p.2 x d)).a7 fun x'=>.nx (O.set p.1 (some x'))else .bad
 |_=>.bad
|none=>.bad
noncomputable def Ck(k:Nat)(is:List Nat)(d:D)(O:bf):Fl:=match d with
|.lst true ys=>match O[k]? with
 |some (some (.lst true xs))=>if(decide (xs.length+ys.length<=aa)&&(aL d||!is.contains k))=true then .nx ((iJ is (aL d) O).set k (some (.lst true (xs++ys))))else .bad
 |_=>.bad
|_=>.bad
noncomputable def pX(Y:List PG)(e:CE)(O:bf):Fl:=match e with
|.mth m (.var k) as=>match m with
 |.append=>match as with
  |.cons a .nil=>(pE Y a O).ju (nv O[k]?) fun d=>match O[k]? with
   |some (some (.lst true xs))=>if(decide (xs.length<aa)&&(aL d||!(cE a).contains k))=true then .nx ((iJ (cE a) (aL d) O).set k (some (.lst true (xs++[d]))))else .bad
   |_=>.bad
  |_=>.bad
 |.extend=>match as with
  |.cons a .nil=>(pE Y a O).ju (nv O[k]?) fun d=>Ck k (cE a) d O
  |_=>.bad
 |.insert=>match as with
  |.cons i (.cons a .nil)=>(pE Y i O).ju false fun j=>(pE Y a O).ju false fun d=>match j with
   |.int j=>match O[k]? with
    |some (some (.lst true xs))=>if(decide (0<=j/\j<2 ^ 40/\xs.length<aa)&&aL d)=true then .nx (O.set k (some (.lst true (xs.take j.toNat++d::xs.drop j.toNat))))else .bad
    |_=>.bad
   |_=>.bad
  |_=>.bad
 |_=>(pE Y e O).a7 fun _=>.nx O
|.mth m (.ix o i) as=>match m with
 |.append=>match as with
  |.cons a .nil=>Pn Y (.ix o i) a O
  |_=>.bad
 |_=>(pE Y e O).a7 fun _=>.nx O
|e=>(pE Y e O).a7 fun _=>.nx O
mutual
noncomputable def Bb:D->Bool
|.lst _ _=>false
|.bY _ _ _=>false
|.pdc _ _=>false
|.cst _=>false
|.tup xs=>Bc xs
|_=>true
noncomputable def Bc:List D->Bool
|[]=>true
|d::r=>Bb d&&Bc r
end
noncomputable def putL(xs:List D)(d j:D):Option D:=match j with
|.int j=>(fL xs.length j).map fun n=>.lst true (xs.set n d)
|_=>none
noncomputable def Po(ks:List Key)(xs:List D)(d j:D):Option D:=match j8 j with
|some q=>if ks.length<aa then(if pU ks q=true then(if Bb d=true then some (.bY true ks (pV ks xs q d))else none)else some (.bY true (ks++[q]) (xs++[d])))else none
|none=>none
noncomputable def putIn(x d j:D):Option D:=match x with
|.lst true xs=>putL xs d j
|.bY true ks xs=>Po ks xs d j
|_=>none
noncomputable def pA(Y:List PG)(g:CG)(e:CE)(O:bf):Fl:=match g with
|.name i=>(pE Y e O).a7 fun d=>.nx ((iJ (cE e) (aL d) O).set i (some d))
|.tup gs=>(pE Y e O).a7 fun d=>(pG (.tup gs) d (iJ (cE e) (aL d) O)).a7 .nx
|.sub o i=>match o with
 |.var k=>(pE Y e O).a7 fun d=>(pE Y i (iJ (cE e) (aL d) O)).ju false fun j=>match O[k]? with
  |some (some x)=>if(aL d||!(cE e).contains k)=true then(R.opt (putIn x d j)).a7 fun x'=>.nx ((iJ (cE e) (aL d) O).set k (some x'))else .bad
  |_=>.bad
 |_=>.bad
noncomputable def Cm(Y:List PG)(k:Nat)(is:List Int)(j:Nat)(a:CE)(O:bf):Fl:=match O[k]? with
|some (some x)=>match gW is x with
 |some (.lst true ys)=>if j<O.length then(pE Y a (O.set j (some (.lst true ys)))).a7 fun d=>if aL d=true then(R.opt (cG is x d)).a7 fun x'=>.nx ((O.set k (some x')).set j none)else .bad else .bad
 |_=>.bad
|_=>.bad
noncomputable def vF(Y:List PG)(s t:CS)(O:bf):Fl:=match s,t with
|.asg (.name j) o,.expr (.mth .append (.var i) (.cons a .nil))=>if i=j then(match ny O o with|some p=>Cm Y p.1 p.2 j a O|none=>.bad)else .bad
|_,_=>.bad
noncomputable def qJ:List Int->D->Option Nat
|[],x=>match x with
 |.lst true xs=>some xs.length
 |.tup xs=>some xs.length
 |_=>none
|i::r,x=>match x with
 |.lst true xs=>(fL xs.length i).bind fun n=>(xs[n]?).bind fun y=>qJ r y
 |.tup xs=>(fL xs.length i).bind fun n=>(xs[n]?).bind fun y=>qJ r y
 |_=>none
noncomputable def z6:CE->Option (Nat×List Int)
|.var k=>some (k,[])
|.ix o (.con (.int n))=>(z6 o).map fun p=>(p.1,p.2++[n])
|_=>none
noncomputable def pW(Y:List PG)(a:CE)(k:Nat)(is js:List Int):Nat->Nat->bf->Fl
|0,_,O=>.nx O
|m+1,n,O=>(pE Y a O).ju false fun d=>match O[k]? with
 |some (some x)=>if aL d=true then(R.opt (cG (is++(n:Int)::js) x d)).a7 fun x'=>pW Y a k is js m (n+1) (O.set k (some x'))else .bad
 |_=>.bad
noncomputable def Wr(Y:List PG)(j:Nat)(o w a:CE)(O:bf):Fl:=match ny O o with
|some p=>match z6 w with
 |some q=>if(decide (q.1=j)&&decide (p.1≠j)&&decide (j<O.length))=true then match O[p.1]? with
  |some (some x)=>(R.opt (qJ p.2 x)).a7 fun m=>pW Y a p.1 p.2 q.2 m 0 (O.set j none)
  |_=>.bad
  else .bad
 |none=>.bad
|none=>.bad
noncomputable def um(Y:List PG)(s:CS)(O:bf):Fl:=match s with
|.forr (.name j) (.seq o) (.cons (.expr (.mth .append w (.cons a .nil))) .nil)=>Wr Y j o w a O
|_=>.bad
mutual
noncomputable def pS(Y:List PG)(n:Nat):CS->bf->Fl
|.expr e=>fun O=>pX Y e O
|.asg g e=>fun O=>pA Y g e O
|.casg i e=>fun O=>(pE Y e O).a7 fun d=>.nx ((iJ (cE e) (aL d) O).set i (some d))
|.ret e=>fun O=>(pM Y e O).a7 .rt
|.ifs c a b=>fun O=>(pT Y c O).a7 fun k=>if k=true then bq Y n a O else bq Y n b O
|.whil c b=>fun O=>mJ (pT Y c) (bq Y n b) n O
|.forr g src b=>fun O=>(pI Y src O).a7 fun items=>forR (pG g) (bq Y n b) items.2 (iJ (uM src) items.1 O)
|.fork g k b=>fun O=>match O[k]? with
 |some (some (.bY true ks xs))=>forR (pG g) (bq Y n b) (ks.map ee) (O.set k (some (.pdc ks (aA xs))))
 |some (some (.pdc ks xs))=>forR (pG g) (bq Y n b) (ks.map ee) O
 |_=>.bad
|.brk=>fun O=>.bk O
|.cont=>fun O=>.ct O
|.never=>fun _=>.bad
noncomputable def bq(Y:List PG)(n:Nat):bW->bf->Fl
|.nil=>fun O=>.nx O
|.cons s r=>fun O=>match pS Y n s O with
 |.nx ZV=>bq Y n r ZV
 |x=>x
|.two s t r=>fun O=>match vF Y s t O with
 |.nx ZV=>bq Y n r ZV
 |x=>x
|.chg s r=>fun O=>match um Y s O with
 |.nx ZV=>bq Y n r ZV
 |x=>x
|.pin k r=>fun O=>match O[k]? with
 |some (some (.bY true ks xs))=>bq Y n r (O.set k (some (.pdc ks (aA xs))))
 |_=>.bad
end
noncomputable def uO(N:List Str)(ds:List D):bf:=ds.map some++aQ (N.length-ds.length) none
noncomputable def JO:Fl->R D
|.nx _=>.ok .non
|.rt d=>.ok d
|.ex x=>.ex x
|_=>.bad
noncomputable def FT(Y:List PG)(n:Nat)(N:List Str)(c:bW)(ds:List D):R D:=JO (bq Y n c (uO N ds))
mutual
noncomputable def xq:CS->Bool
|.expr e=>cO e
|.asg g e=>YN g&&cO e
|.casg _ e=>cO e
|.ret e=>cO e
|.ifs c a b=>cO c&&(iA a&&iA b)
|.whil c b=>cO c&&iA b
|.forr _ src b=>ltI src&&iA b
|.fork _ _ b=>iA b
|_=>true
noncomputable def iA:bW->Bool
|.nil=>true
|.cons s r=>xq s&&iA r
|.two s t r=>xq s&&(xq t&&iA r)
|.chg s r=>xq s&&iA r
|.pin _ r=>iA r
noncomputable def YN:CG->Bool
|.sub o i=>cO o&&cO i
|_=>true
end
structure be (K:PySem.W.Frag) (F0 H0:Hp) (L:bf) (O:L2.St) (F H:Hp) (fp:Nat->List Addr):Prop where
 g:bO F0 H0 F H
 len:L.length=O.length
 rep:∀(i:Nat) d,L[i]?=some (some d)->∃v,O[i]?=some (some v)/\bg K H F d v (fp i)
 ex:∀i,mS H (fp i)
 nd:∀i,(fp i).Nodup
 nf:∀i a,a∈fp i->F a=none
 nh:∀i a,a∈fp i->H0 a=none
 dis:∀i j a,a∈fp i->a∈fp j->i=j
structure j_ (K:PySem.W.Frag) (H0 F H:Hp) (fp:Nat->List Addr) (d:D) (v:V) (f:List Addr):Prop where
 r:bg K H F d v f
 nd:f.Nodup
 nf:∀a∈f,F a=none
 nh:∀a∈f,H0 a=none
 dis:∀i a,a∈f->a∉fp i
variable{f:List Addr}
section
variable{K:PySem.W.Frag}{F0 H0 F H:Hp}{L:bf}{O:L2.St}{fp:Nat->List Addr}
theorem z7:∀(n:Nat) (O:bf) (i:Nat),(mK n O)[i]?=if i=n then(O[i]?).map (Option.map br)else O[i]?
|n,[],i=>by cases n<;>simp[mK]
|0,o::r,0=>by simp[mK]
|0,o::r,i+1=>by simp[mK]
|n+1,o::r,0=>by simp[mK]
|n+1,o::r,i+1=>by
 simp only[mK,sS,z7 n r i];by_cases h:i=n
 ·simp[h]
 ·simp[h]
theorem FU:∀(n:Nat) (O:bf),(mK n O).length=O.length
|n,[]=>by cases n<;>rfl
|0,o::r=>rfl
|n+1,o::r=>by simp[mK,FU n r]
theorem Ds:∀(is:List Nat) (O:bf),(mw is O).length=O.length
|[],O=>rfl
|i::is,O=>by rw[mw,Ds is,FU]
noncomputable def ownAt(fp:Nat->List Addr)(is:List Nat):List Addr:=is.flatMap fp
theorem d8{a:Addr}:a∈ownAt fp is↔∃i∈is,a∈fp i:=by simp[ownAt,ku]
theorem be.lists(I:be K F0 H0 L O F H fp)(is:List Nat):mS H (ownAt fp is):=fun a ha=>by
 obtain⟨i,_,h⟩:=d8.mp ha;exact I.ex i a h
theorem be.env(I:be K F0 H0 L O F H fp)(is:List Nat):iR K (adopt F H (ownAt fp is)) H is L O:=⟨fun i hi d e=>by
 obtain⟨v,h1,h2⟩:=I.rep i d e;exact⟨v,h1,bg.fix (cU I.g.s) d v _ (fun a ha=>iQ (d8.mpr ⟨i,hi,ha⟩)) h2⟩,fun k d e=>by
 obtain⟨v,h1,h2⟩:=I.rep k d e;exact⟨v,adopt F H (ownAt fp [k]),h1,eN I.g.s,bg.fix (cU I.g.s) d v _ (fun a ha=>iQ (d8.mpr ⟨k,aM.mpr rfl,ha⟩)) h2⟩⟩
theorem be.Sk(I:be K F0 H0 L O F H fp)(g:bO (adopt F H (ownAt fp is)) H F' H'){i:Nat}{a:Addr}(ha:a∈fp i)(hn:a∉ownAt fp is):F' a=none:=by
 obtain⟨o,e,k⟩:=I.ex i a ha;cases q:F' a with
 |none=>rfl
 |some u=>exact((g.n a u q (by rw[iG hn];exact I.nf i a ha)).own e k).elim
theorem be.Sl(I:be K F0 H0 L O F H fp)(g:bO (adopt F H (ownAt fp is)) H F' H'):bO F0 H0 F' H':=by
 refine⟨I.g.h.trans g.h,(I.g.f.trans (cU I.g.s)).trans g.f,g.s,fun b o h h'=>?_⟩;cases q:adopt F H (ownAt fp is) b with
 |none=>exact NT.back I.g.h (g.n b o h q)
 |some u=>
  by_cases z:b∈ownAt fp is
  ·obtain⟨i,_,hb⟩:=d8.mp z;exact .of (I.nh i b hb)
  ·rw[iG z]at q;exact I.g.n b u q h'
theorem be.back(I:be K F0 H0 L O F H fp)(g:bO (adopt F H (ownAt fp is)) H F' H'):be K F0 H0 L O (minus F' (ownAt fp is)) H' fp where
 g:=by
  have g0:=I.Sl g;refine⟨g0.h,fun b o h=>?_,(j5 _ _).trans g0.s,fun b o h h'=>g0.n b o (j5 _ _ b o h) h'⟩;have hn:b∉ownAt fp is:=fun z=>by
   obtain⟨i,_,hb⟩:=d8.mp z;have:=I.nf i b hb;rw[I.g.f b o h]at this;cases this
  rw[fy hn];exact g0.f b o h
 len:=I.len
 rep:=fun i d e=>by
  obtain⟨v,h1,h2⟩:=I.rep i d e;refine⟨v,h1,bg.mono ?_ d v _ (fun a ha=>?_) h2⟩
  ·intro b o h;have hn:b∉ownAt fp is:=fun z=>by
    obtain⟨i,_,hb⟩:=d8.mp z;have:=I.nf i b hb;rw[h]at this;cases this
   rw[fy hn];exact g.f b o (cU I.g.s b o h)
  ·obtain⟨o,e,_⟩:=I.ex i a ha;rw[e,g.h a o e]
 ex:=fun i=>(I.ex i).mono g.h
 nd:=I.nd
 nf:=fun i a ha=>by
  by_cases hn:a∈ownAt fp is
  ·exact zX hn
  ·rw[fy hn];exact I.Sk g ha hn
 nh:=I.nh
 dis:=I.dis
theorem L0:∀(is:List Nat) (O:bf) (i:Nat),(mw is O)[i]?=some (some d)->∃d',O[i]?=some (some d')/\((i∈is/\d=br d')\/(i∉is/\d=d')):=by
 have ff:∀d:D,L3.br (L3.br d)=L3.br d:=Cg;intro is;induction is with
 |nil=>intro O i h;exact⟨d,h,.inr ⟨aJ,rfl⟩⟩
 |cons j is ih=>
  intro O i h;obtain⟨d1,e1,e2⟩:=ih (mK j O) i h;rw[z7]at e1;by_cases hj:i=j
  ·rw[if_pos hj]at e1;cases q:O[i]? with
   |none=>rw[q]at e1;cases e1
   |some o=>
    cases o with
    |none=>rw[q]at e1;cases e1
    |some d'=>
     rw[q]at e1;cases e1;refine⟨d',rfl,.inl ⟨by rw[hj];exact ao,?_⟩⟩;rcases e2 with⟨_,rfl⟩|⟨_,rfl⟩
     ·exact ff d'
     ·rfl
  ·rw[if_neg hj]at e1;refine⟨d1,e1,?_⟩;rcases e2 with⟨h1,h2⟩|⟨h1,h2⟩
   ·exact .inl ⟨ai _ h1,h2⟩
   ·exact .inr ⟨fun z=>by rcases aE.mp z with z|z;exact hj z;exact h1 z,h2⟩
theorem be.Ws(I:be K F0 H0 L O F H fp)(g:bO (adopt F H (ownAt fp is)) H F' H'):be K F0 H0 (mw is L) O F' H' (fun i=>if i∈is then[]else fp i) where
 g:=I.Sl g
 len:=by rw[Ds];exact I.len
 rep:=fun i d e=>by
  obtain⟨d',e1,e2⟩:=L0 is L i e;rcases e2 with⟨h1,rfl⟩|⟨h1,rfl⟩
  ·obtain⟨v,q1,q2⟩:=(I.env is).e i h1 d' e1;exact⟨v,q1,by rw[if_pos h1];exact aY.zf d' v (aY.mono g.f d' v q2)⟩
  ·obtain⟨v,q1,q2⟩:=I.rep i d e1;refine⟨v,q1,?_⟩;rw[if_neg h1];refine bg.mono ((cU I.g.s).trans g.f) d v _ (fun a ha=>?_) q2;obtain⟨o,e,_⟩:=I.ex i a ha;rw[e,g.h a o e]
 ex:=fun i=>by
  by_cases h:i∈is
  ·rw[if_pos h];exact fun a ha=>absurd ha aJ
  ·rw[if_neg h];exact(I.ex i).mono g.h
 nd:=fun i=>by
  by_cases h:i∈is
  ·rw[if_pos h];exact gS
  ·rw[if_neg h];exact I.nd i
 nf:=fun i a ha=>by
  by_cases h:i∈is
  ·rw[if_pos h]at ha;exact absurd ha aJ
  ·rw[if_neg h]at ha;refine I.Sk g ha fun z=>?_;obtain⟨j,hj,hb⟩:=d8.mp z;have:=I.dis i j a ha hb;subst this;exact h hj
 nh:=fun i a ha=>by
  by_cases h:i∈is
  ·rw[if_pos h]at ha;exact absurd ha aJ
  ·rw[if_neg h]at ha;exact I.nh i a ha
 dis:=fun i j a ha hb=>by
  by_cases h:i∈is
  ·rw[if_pos h]at ha;exact absurd ha aJ
  ·by_cases h':j∈is
   ·rw[if_pos h']at hb;exact absurd hb aJ
   ·rw[if_neg h]at ha;rw[if_neg h']at hb;exact I.dis i j a ha hb
theorem be.told(I:be K F0 H0 L O F H fp)(g:bO (adopt F H (ownAt fp is)) H F' H')(fr:gj f H F')(r:bg K H' F' d v f) :
  ∃F1 fp1,be K F0 H0 (iJ is (aL d) L) O F1 H' fp1/\j_ K H0 F1 H' fp1 d v f/\(aL d=true->fp1=fp)/\∀i,i∉is->fp1 i=fp i:=by
 have nn:∀i a,a∈f->a∉fp i:=fun i a ha hb=>by
  obtain⟨o,e,_⟩:=I.ex i a hb;rw[fr.nh a ha]at e;cases e
 cases ho:aL d with
 |true=>
  refine⟨_,fp,I.back g,⟨bg.less (lF g.s ((I.lists is).mono g.h)) d v f ho r,fr.nd,fun a ha=>?_,fun a ha=>aW.none I.g.h (fr.nh a ha),nn⟩,fun _=>rfl,fun _ _=>rfl⟩;exact aW.none (j5 _ _) (fr.nf a ha)
 |false=>
  refine⟨_,_,I.Ws g,⟨r,fr.nd,fr.nf,fun a ha=>aW.none I.g.h (fr.nh a ha),fun i a ha hb=>?_⟩,(fun z=>nomatch z),fun i hi=>if_neg hi⟩;by_cases h:i∈is
  ·rw[if_pos h]at hb;exact absurd hb aJ
  ·rw[if_neg h]at hb;exact nn i a ha hb
theorem be.set(I:be K F0 H0 L O F H fp)(V:j_ K H0 F H fp d v f)(k:Nat):be K F0 H0 (L.set k (some d)) (O.set k (some v)) F H (fun i=>if i=k then f else fp i) where
 g:=I.g
 len:=by simp[I.len]
 rep:=fun i d' e=>by
  by_cases h:i=k
  ·subst h;rw[if_pos rfl];rw[fu]at e;by_cases hi:i<L.length
   ·simp[hi]at e;subst e;exact⟨v,by rw[fu];simp[<-I.len,hi],V.r⟩
   ·simp[hi]at e
  ·rw[if_neg h];rw[bR (dm h)]at e;obtain⟨w,h1,h2⟩:=I.rep i d' e;exact⟨w,by rw[bR (dm h)];exact h1,h2⟩
 ex:=fun i=>by
  by_cases h:i=k
  ·rw[if_pos h];exact bg.ex d v f V.r
  ·rw[if_neg h];exact I.ex i
 nd:=fun i=>by
  by_cases h:i=k
  ·rw[if_pos h];exact V.nd
  ·rw[if_neg h];exact I.nd i
 nf:=fun i a ha=>by
  by_cases h:i=k
  ·rw[if_pos h]at ha;exact V.nf a ha
  ·rw[if_neg h]at ha;exact I.nf i a ha
 nh:=fun i a ha=>by
  by_cases h:i=k
  ·rw[if_pos h]at ha;exact V.nh a ha
  ·rw[if_neg h]at ha;exact I.nh i a ha
 dis:=fun i j a ha hb=>by
  by_cases h:i=k
  ·rw[if_pos h]at ha;by_cases h':j=k
   ·rw[h,h']
   ·rw[if_neg h']at hb;exact absurd hb (V.dis j a ha)
  ·rw[if_neg h]at ha;by_cases h':j=k
   ·rw[if_pos h']at hb;exact absurd ha (V.dis i a hb)
   ·rw[if_neg h']at hb;exact I.dis i j a ha hb
theorem be.put{k:Nat}{a:Addr}{o:HO}(I:be K F0 H0 L O F H fp)(ha:a∈fp k)(hv:O[k]?=some (some v))(hr:bg K (upd H a o) F d v f)(nd:f.Nodup)(nf:∀b∈f,F b=none)(nh:∀b∈f,H0 b=none)(dis:∀i,i≠k->∀b∈f,b∉fp i) :
  be K F0 H0 (L.set k (some d)) O F (upd H a o) (fun i=>if i=k then f else fp i):=by
 have hF:=I.nf k a ha;have hH0:=I.nh k a ha;have hne:∀i,i≠k->∀b∈fp i,b≠a:=fun i hi b hb z=>by
  subst z;exact hi (I.dis i k b hb ha)
 refine⟨⟨fun b u q=>by rw[bw (cK q hH0)];exact I.g.h b u q,I.g.f,fun b u q=>by rw[bw (cK q hF)];exact I.g.s b u q,I.g.n⟩,by simp[I.len],fun i d' e=>?_,fun i=>?_,fun i=>?_,fun i b hb=>?_,fun i b hb=>?_,fun i j b hb hc=>?_⟩
 ·by_cases h:i=k
  ·subst h;rw[if_pos rfl];rw[fu]at e;by_cases hi:i<L.length
   ·simp[hi]at e;subst e;exact⟨v,hv,hr⟩
   ·simp[hi]at e
  ·rw[if_neg h];rw[bR (dm h)]at e;obtain⟨w,h1,h2⟩:=I.rep i d' e;exact⟨w,h1,bg.mono (aW.refl _) d' w _ (fun b hb=>bw (hne i h b hb)) h2⟩
 ·by_cases h:i=k
  ·rw[if_pos h];exact bg.ex d v f hr
  ·rw[if_neg h];intro b hb;obtain⟨u,e,q⟩:=I.ex i b hb;exact⟨u,by rw[bw (hne i h b hb)];exact e,q⟩
 ·by_cases h:i=k
  ·rw[if_pos h];exact nd
  ·rw[if_neg h];exact I.nd i
 ·by_cases h:i=k
  ·rw[if_pos h]at hb;exact nf b hb
  ·rw[if_neg h]at hb;exact I.nf i b hb
 ·by_cases h:i=k
  ·rw[if_pos h]at hb;exact nh b hb
  ·rw[if_neg h]at hb;exact I.nh i b hb
 ·by_cases h:i=k
  ·rw[if_pos h]at hb;by_cases h':j=k
   ·rw[h,h']
   ·rw[if_neg h']at hc;exact absurd hc (dis j h' b hb)
  ·rw[if_neg h]at hb;by_cases h':j=k
   ·rw[if_pos h']at hc;exact absurd hb (dis i h b hc)
   ·rw[if_neg h']at hc;exact I.dis i j b hb hc
theorem be.rebase(I:be K F0 H0 L O F H fp):be K F H0 L O F H fp:=⟨⟨I.g.h,aW.refl _,I.g.s,fun b o h h'=>by rw[h]at h';cases h'⟩,I.len,I.rep,I.ex,I.nd,I.nf,I.nh,I.dis⟩
theorem be.FW(g0:bO F0 H0 F1 H1)(I:be K F1 H0 L O F H fp):be K F0 H0 L O F H fp:=⟨⟨I.g.h,g0.f.trans I.g.f,I.g.s,fun b o h h'=>by
 cases q:F1 b with
 |none=>exact I.g.n b o h q
 |some u=>exact g0.n b u q h'⟩,I.len,I.rep,I.ex,I.nd,I.nf,I.nh,I.dis⟩
end
def b_[Ex](K:PySem.W.Frag)(F0 H0:Hp)(fl:Fl)(X:Ends):Prop:=match fl with
|.nx L=>∀O F H fp,be K F0 H0 L O F H fp->X.nx O H
|.bk L=>∀O F H fp,be K F0 H0 L O F H fp->X.bk O H
|.ct L=>∀O F H fp,be K F0 H0 L O F H fp->X.ct O H
|.rt d=>∀v F H f,bO F0 H0 F H->gj f H0 F->bg K H F d v f->X.rt v H
|.ex x=>jJ K F0 H0 x
|.bad=>False
variable{xs:List D}{ks:List Key}
variable{o:Bool}
variable{e:CE}
variable{f0:List Addr}
variable{fs:List Addr}
section
variable{K:PySem.W.Frag}{ZU:List PG}{Y:List G}{F0 H0 F H:Hp}{L:bf}{O:L2.St}{fp:Nat->List Addr}{X:Ends}
theorem Ub(g0:bO F0 H0 F1 H1)(g:bO F1 H0 F H):bO F0 H0 F H:=⟨g.h,g0.f.trans g.f,g.s,fun b o h h'=>by
 cases q:F1 b with
 |none=>exact g.n b o h q
 |some u=>exact g0.n b u q h'⟩
theorem b_.rebase[Ex]{fl:Fl}(g0:bO F0 H0 F1 H1)(h:b_ K F0 H0 fl X):b_ K F1 H0 fl X:=by
 cases fl with
 |nx L=>exact fun O F H fp I=>h O F H fp (I.FW g0)
 |bk L=>exact fun O F H fp I=>h O F H fp (I.FW g0)
 |ct L=>exact fun O F H fp I=>h O F H fp (I.FW g0)
 |rt d=>exact fun v F H f g fr r=>h v F H f (Ub g0 g) fr r
 |ex x=>
  cases x with
  |_=>exact h
 |bad=>exact h
theorem FY[Ex]{r:R α}{f:α->Fl}(h:b_ K F0 H0 (r.a7 f) X)(n:r.bE):∃a,r=.ok a/\b_ K F0 H0 (f a) X:=by
 cases r with
 |ok a=>exact⟨a,rfl,h⟩
 |ex x=>exact absurd rfl (n x)
 |bad=>exact h.elim
theorem lZ[Ex]{r:R α}{f:α->Fl}(h:b_ K F0 H0 (r.a7 f) X):(∃x,r=.ex x/\jJ K F0 H0 x)\/∃a,r=.ok a/\b_ K F0 H0 (f a) X:=by
 cases r with
 |ok a=>exact .inr ⟨a,rfl,h⟩
 |ex x=>exact .inl ⟨x,rfl,h⟩
 |bad=>exact h.elim
theorem Cn[Ex]{r:R α}{f:α->Fl}(h:b_ K F0 H0 (r.ju b f) X):(b=true/\∃x,r=.ex x/\jJ K F0 H0 x)\/∃a,r=.ok a/\b_ K F0 H0 (f a) X:=by
 cases r with
 |ok a=>exact .inr ⟨a,rfl,h⟩
 |ex x=>
  cases b with
  |true=>exact .inl ⟨rfl,x,rfl,h⟩
  |false=>exact h.elim
 |bad=>exact h.elim
theorem uP[Ex]{r:R α}{f:α->Fl}(h:b_ K F0 H0 (r.ju false f) X):∃a,r=.ok a/\b_ K F0 H0 (f a) X:=by
 rcases Cn h with⟨z,_⟩|z
 ·cases z
 ·exact z
mutual
theorem FZ:∀(g:CG) (d:D) (O:bf),(pG g d O).bE
|.name i,d,O=>bE.ok
|.tup gs,d,O=>by
 cases d<;>first|exact bE.bad|skip
 exact bE.a9 (Ik gs _ O)
|.sub _ _,d,O=>bE.bad
theorem Ik:∀(g:oV) (ds:List D) (O:bf),(v8 g ds O).bE
|.nil,ds,O=>by cases ds<;>first|exact bE.ok|exact bE.bad
|.cons g r,ds,O=>by
 cases ds with
 |nil=>exact bE.bad
 |cons d dr=>exact bE.bind (FZ g d O) fun ZV=>Ik r dr ZV
end
theorem L4(F H:Hp):adopt F H []=F:=by funext b;exact iG aJ
theorem be.grow(I:be K F0 H0 L O F H fp)(g:bO F H F1 H1):be K F0 H0 L O F1 H1 fp:=by
 have e:ownAt fp []=[]:=rfl;have q:=I.back (is:=[]) (F':=F1) (H':=H1) (by rw[e,L4];exact g);rw[e,Dg]at q;exact q
theorem j_.Zt(r:aY K F d v):j_ K H0 F H fp (br d) v []:=⟨aY.zf d v r,gS,fun _ h=>absurd h aJ,fun _ h=>absurd h aJ,fun _ _ h=>absurd h aJ⟩
mutual
theorem ruG':∀(g:CG) {d:D}{v:V}{L Z2:bf}{O:L2.St}{fp:Nat->List Addr}{Q:L2.St->Hp->Prop},be K F0 H0 L O F H fp->aY K F d v->pG g (br d) L=.ok Z2->(∀ZV fp',be K F0 H0 Z2 ZV F H fp'->Q ZV H)->wG K Y E g v O H Q
|.name i,d,v,L,Z2,O,fp,Q,I,r,e,h=>by
 cases e;exact h _ _ (I.set (j_.Zt r) i)
|.tup gs,d,v,L,Z2,O,fp,Q,I,r,e,h=>by
 cases d with
 |tup ds=>
  obtain⟨b,vs,rfl,h2,h3,h4⟩:=r;obtain⟨c,e⟩:=jL (show R.a9 (decide ((aA ds).length=gs.len)) (v8 gs (aA ds) L)=.ok Z2 from e);have c:=of_decide_eq_true c;rw[j9]at c;exact⟨true,vs,(tupS h2).same' I.g.s,rfl,by rw[h4.len];exact c,ruGs' gs I h4 e h⟩
 |_=>cases e
|.sub _ _,d,v,L,Z2,O,fp,Q,I,r,e,h=>by cases e
theorem ruGs':∀(g:oV) {ds:List D}{vs:List V}{L Z2:bf}{O:L2.St}{fp:Nat->List Addr}{Q:L2.St->Hp->Prop},be K F0 H0 L O F H fp->aN K F ds vs->v8 g (aA ds) L=.ok Z2->(∀ZV fp',be K F0 H0 Z2 ZV F H fp'->Q ZV H)->HY K Y E g vs O H Q
|.nil,ds,vs,L,Z2,O,fp,Q,I,r,e,h=>by
 cases ds with
 |nil=>cases r;cases e;exact h O fp I
 |cons d dr=>cases e
|.cons g gr,ds,vs,L,Z2,O,fp,Q,I,r,e,h=>by
 cases ds with
 |nil=>cases e
 |cons d dr=>
  obtain⟨v,vr,rfl,r1,r2⟩:=r;obtain⟨ZZ,e1,e2⟩:=cz (show((pG g (br d) L).bind fun ZV=>v8 gr (aA dr) ZV)=.ok Z2 from e);exact ruG' g I r1 e1 fun ZV fp' I'=>ruGs' gr I' r2 e2 h
end
mutual
theorem Wt:∀(g:CG) {d:D}{v:V}{L Z2:bf}{O:L2.St}{fp:Nat->List Addr}{f:List Addr}{Q:L2.St->Hp->Prop},be K F0 H0 L O F H fp->j_ K H0 F H fp d v f->pG g d L=.ok Z2->
 (∀ZV fp',be K F0 H0 Z2 ZV F H fp'->(∀i a,a∈fp' i->a∈f\/a∈fp i)->Q ZV H)->wG K Y E g v O H Q
|.name i,d,v,L,Z2,O,fp,f,Q,I,V,e,h=>by
 cases e;refine h _ _ (I.set V i) fun j a ha=>?_;by_cases c:j=i
 ·rw[if_pos c]at ha;exact .inl ha
 ·rw[if_neg c]at ha;exact .inr ha
|.tup gs,d,v,L,Z2,O,fp,f,Q,I,V,e,h=>by
 cases d with
 |tup ds=>
  obtain⟨b,vs,rfl,h2,h3,h4⟩:=V.r;obtain⟨c,e⟩:=jL e;exact⟨true,vs,(tupS h2).same' I.g.s,rfl,by rw[h4.len];exact of_decide_eq_true c,Sm gs I h4 V.nd V.nf V.nh V.dis e h⟩
 |_=>cases e
|.sub _ _,d,v,L,Z2,O,fp,f,Q,I,V,e,h=>by cases e
theorem Sm:∀(g:oV) {ds:List D}{vs:List V}{L Z2:bf}{O:L2.St}{fp:Nat->List Addr}{f:List Addr}{Q:L2.St->Hp->Prop},be K F0 H0 L O F H fp->aO K H F ds vs f->f.Nodup->(∀a∈f,F a=none)->(∀a∈f,H0 a=none)->
 (∀i a,a∈f->a∉fp i)->v8 g ds L=.ok Z2->(∀ZV fp',be K F0 H0 Z2 ZV F H fp'->(∀i a,a∈fp' i->a∈f\/a∈fp i)->Q ZV H)->HY K Y E g vs O H Q
|.nil,ds,vs,L,Z2,O,fp,f,Q,I,r,nd,nf,nh,dis,e,h=>by
 cases ds with
 |nil=>
  obtain⟨rfl,_⟩:=r;cases e;exact h O fp I fun _ _ z=>.inr z
 |cons d dr=>cases e
|.cons g gr,ds,vs,L,Z2,O,fp,f,Q,I,r,nd,nf,nh,dis,e,h=>by
 cases ds with
 |nil=>cases e
 |cons d dr=>
  obtain⟨v,vr,f1,f2,rfl,rfl,r1,r2⟩:=r;obtain⟨ZZ,e1,e2⟩:=cz e;obtain⟨n1,n2,n3⟩:=a6.mp nd;refine Wt g I ⟨r1,n1,fun a ha=>nf a (aC _ ha),fun a ha=>nh a (aC _ ha),fun i a ha=>dis i a (aC _ ha)⟩ e1 fun ZV fp' I' sub=>?_;refine Sm gr I' r2 n2 (fun a ha=>nf a (aq _ ha)) (fun a ha=>nh a (aq _ ha)) (fun i a ha z=>?_) e2 fun ZY fp3 I3 sub3=>h ZY fp3 I3 fun i a ha=>?_
  ·rcases sub i a z with q|q
   ·exact n3 a q a ha rfl
   ·exact dis i a (aq _ ha) q
  ·rcases sub3 i a ha with q|q
   ·exact .inl (aq _ q)
   ·rcases sub i a q with q|q
    ·exact .inl (aC _ q)
    ·exact .inr q
end
theorem z8[Ex](ZW:dP K ZU Y)(I:be K F0 H0 L O F H fp)(lt:cO e=true)(he:pE ZU e L=.ok d)
  (h:∀v F1 H1 fp1 f,be K F0 H0 (iJ (cE e) (aL d) L) O F1 H1 fp1->j_ K H0 F1 H1 fp1 d v f->Q v H1):wE K Y Ex.E e O H Q:=by
 refine fW ZW e (I.env (cE e)) (eN I.g.s) lt ?_;rw[he];intro F' H' v f g fr r;obtain⟨F1,fp1,I1,V1,_,_⟩:=I.told g fr r;exact h v F1 H' fp1 f I1 V1
theorem runD'[Ex](ZW:dP K ZU Y)(I:be K F0 H0 L O F H fp)(lt:cO e=true)(he:pE ZU e L=.ok d)
  (h:∀v F1 H1,be K F0 H0 L O F1 H1 fp->aW H H1->(aL d=true->∃f,j_ K H0 F1 H1 fp d v f)->Q v H1):wE K Y Ex.E e O H Q:=by
 refine fW ZW e (I.env (cE e)) (eN I.g.s) lt ?_;rw[he];intro F' H' v f g fr r;refine h v _ H' (I.back g) g.h fun ho=>?_;refine⟨f,bg.less (lF g.s ((I.lists _).mono g.h)) d v f ho r,fr.nd,fun a ha=>aW.none (j5 _ _) (fr.nf a ha),fun a ha=>aW.none I.g.h (fr.nh a ha),fun i a ha hb=>?_⟩;obtain⟨o,e,_⟩:=I.ex i a hb;rw[fr.nh a ha]at e;cases e
theorem j_.back(I:be K F0 H0 L O F H fp)(V:j_ K H0 F H fp d v f)(g:bO (adopt F H (ownAt fp is)) H F' H'):j_ K H0 (minus F' (ownAt fp is)) H' fp d v f:=by
 have hn:∀a∈f,a∉ownAt fp is:=fun a ha z=>by
  obtain⟨i,_,hb⟩:=d8.mp z;exact V.dis i a ha hb
 have hx:=bg.ex d v f V.r;refine⟨bg.mono ?_ d v f (fun a ha=>?_) V.r,V.nd,fun a ha=>?_,V.nh,V.dis⟩
 ·intro b o h;have hb:b∉ownAt fp is:=fun z=>by
   obtain⟨i,_,hb⟩:=d8.mp z;have:=I.nf i b hb;rw[h]at this;cases this
  rw[fy hb];exact g.f b o (cU I.g.s b o h)
 ·obtain⟨o,e,_⟩:=hx a ha;rw[e,g.h a o e]
 ·rw[fy (hn a ha)];obtain⟨o,e,k⟩:=hx a ha;cases q:F' a with
  |none=>rfl
  |some u=>exact((g.n a u q (by rw[iG (hn a ha)];exact V.nf a ha)).own e k).elim
structure mz (K:PySem.W.Frag) (H0 F H:Hp) (fp:Nat->List Addr) (ds:List D) (vs:List V) (f:List Addr):Prop where
 r:aO K H F ds vs f
 nd:f.Nodup
 nf:∀a∈f,F a=none
 nh:∀a∈f,H0 a=none
 dis:∀i a,a∈f->a∉fp i
theorem mz.back(I:be K F0 H0 L O F H fp){d:List D}{v:List V}(V:mz K H0 F H fp d v f)(g:bO (adopt F H (ownAt fp is)) H F' H'):mz K H0 (minus F' (ownAt fp is)) H' fp d v f:=by
 have hn:∀a∈f,a∉ownAt fp is:=fun a ha z=>by
  obtain⟨i,_,hb⟩:=d8.mp z;exact V.dis i a ha hb
 have hx:=aO.ex d v f V.r;refine⟨aO.mono ?_ d v f (fun a ha=>?_) V.r,V.nd,fun a ha=>?_,V.nh,V.dis⟩
 ·intro b o h;have hb:b∉ownAt fp is:=fun z=>by
   obtain⟨i,_,hb⟩:=d8.mp z;have:=I.nf i b hb;rw[h]at this;cases this
  rw[fy hb];exact g.f b o (cU I.g.s b o h)
 ·obtain⟨o,e,_⟩:=hx a ha;rw[e,g.h a o e]
 ·rw[fy (hn a ha)];obtain⟨o,e,k⟩:=hx a ha;cases q:F' a with
  |none=>rfl
  |some u=>exact((g.n a u q (by rw[iG (hn a ha)];exact V.nf a ha)).own e k).elim
theorem mz.snoc{f':List Addr}(V:mz K H0 F H fp ds vs f)(W:j_ K H0 F H fp d v f')(hd:∀a∈f,a∉f'):mz K H0 F H fp (ds++[d]) (vs++[v]) (f++f'):=by
 refine⟨V.r.app ⟨v,[],f',[],rfl,by simp,W.r,rfl,rfl⟩,a6.mpr ⟨V.nd,W.nd,fun a ha b hb z=>hd a ha (by rw[z];exact hb)⟩,fun a ha=>?_,fun a ha=>?_,fun i a ha=>?_⟩
 ·rcases aD.mp ha with q|q
  ·exact V.nf a q
  ·exact W.nf a q
 ·rcases aD.mp ha with q|q
  ·exact V.nh a q
  ·exact W.nh a q
 ·rcases aD.mp ha with q|q
  ·exact V.dis i a q
  ·exact W.dis i a q
theorem runN[Ex](ZW:dP K ZU Y)(I:be K F0 H0 L O F H fp)(V0:mz K H0 F H fp ds vs f0)(lt:cO e=true)(he:pE ZU e L=.ok d)(ho:aL d=true)
  (h:∀v F1 H1 f,be K F0 H0 L O F1 H1 fp->mz K H0 F1 H1 fp (ds++[d]) (vs++[v]) f->Q v H1):wE K Y Ex.E e O H Q:=by
 refine fW ZW e (I.env (cE e)) (eN I.g.s) lt ?_;rw[he];intro F' H' v f g fr r;refine h v _ H' _ (I.back g) ((V0.back I g).snoc (f':=f) ⟨bg.less (lF g.s ((I.lists _).mono g.h)) d v f ho r,fr.nd,fun a ha=>aW.none (j5 _ _) (fr.nf a ha),fun a ha=>aW.none I.g.h (fr.nh a ha),fun i a ha hb=>?_⟩ fun a ha hb=>?_)
 ·obtain⟨o,e,_⟩:=I.ex i a hb;rw[fr.nh a ha]at e;cases e
 ·obtain⟨o,e,_⟩:=aO.ex ds vs f0 V0.r a ha;rw[fr.nh a hb]at e;cases e
theorem be.X6(I:be K F0 H0 L O F H fp)(k:Nat):be K F0 H0 (L.set k none) O F H (fun i=>if i=k then[]else fp i):=by
 have sub:∀i a,a∈(if i=k then[]else fp i)->a∈fp i:=fun i a ha=>by
  by_cases c:i=k
  ·rw[if_pos c]at ha;cases ha
  ·rw[if_neg c]at ha;exact ha
 refine⟨I.g,by simp[I.len],fun i d e=>?_,fun i a ha=>I.ex i a (sub i a ha),fun i=>?_,fun i a ha=>I.nf i a (sub i a ha),fun i a ha=>I.nh i a (sub i a ha),fun i j a ha hb=>I.dis i j a (sub i a ha) (sub j a hb)⟩
 ·by_cases c:i=k
  ·subst c;rw[fu]at e;by_cases hi:i<L.length
   ·simp[hi]at e
   ·simp[hi]at e
  ·rw[bR (dm c)]at e;rw[if_neg c];exact I.rep i d e
 ·by_cases c:i=k
  ·rw[if_pos c];exact gS
  ·rw[if_neg c];exact I.nd i
theorem Wu[Ex](ZW:dP K ZU Y){d0:D}{v0:V}(I:be K F0 H0 L O F H fp)(V0:j_ K H0 F H fp d0 v0 f0)(lt:cO e=true)(he:pE ZU e L=.ok d)
  (h:∀v F1 H1,be K F0 H0 L O F1 H1 fp->j_ K H0 F1 H1 fp d0 v0 f0->(∀{x:D},d=x->aL x=true->aY K H1 x v)->Q v H1):wE K Y Ex.E e O H Q:=by
 refine fW ZW e (I.env (cE e)) (eN I.g.s) lt ?_;rw[he];intro F' H' v f g fr r;refine h v _ H' (I.back g) (V0.back I g) fun z ho=>?_;subst z;obtain⟨F2,g2,s2,rf⟩:=Pb g fr r;exact aY.mono g2.s d v rf
theorem Wv[Ex](ZW:dP K ZU Y){Q:Bool->Hp->Prop}(I:be K F0 H0 L O F H fp)(lt:cO e=true)(he:pT ZU e L=.ok b)
  (h:∀F1 H1,be K F0 H0 L O F1 H1 fp->Q b H1):wT K Y Ex.E e O H Q:=by
 refine v9 ZW e (I.env (cE e)) (eN I.g.s) lt ?_;rw[he];exact fun F' H' g=>h _ H' (I.back g)
theorem be.own(I:be K F0 H0 L O F H fp)(is:List Nat):bO F0 H0 (adopt F H (ownAt fp is)) H:=qG I.g fun a ha=>by
 obtain⟨i,_,hi⟩:=d8.mp ha;exact I.nh i a hi
theorem xr[Ex](ZW:dP K ZU Y)(I:be K F0 H0 L O F H fp)(lt:cO e=true)(he:pE ZU e L=.ex x)(h:jJ K F0 H0 x):wE K Y Ex.E e O H Q:=by
 refine fW ZW e (I.env (cE e)) (eN I.g.s) lt ?_;rw[he];exact jJ.grow (K:=K) (x:=x) h (I.own (cE e))
theorem Sn[Ex](ZW:dP K ZU Y){Q:Bool->Hp->Prop}(I:be K F0 H0 L O F H fp)(lt:cO e=true)(he:pT ZU e L=.ex x)(h:jJ K F0 H0 x):wT K Y Ex.E e O H Q:=by
 refine v9 ZW e (I.env (cE e)) (eN I.g.s) lt ?_;rw[he];exact jJ.grow (K:=K) (x:=x) h (I.own (cE e))
theorem X7[Ex](ZW:dP K ZU Y){c:CI}(I:be K F0 H0 L O F H fp)(lt:ltI c=true)(he:pI ZU c L=.ex x)(h:jJ K F0 H0 x):wI K Y Ex.E c O H k:=by
 refine Wq ZW c (ownAt fp (uM c)) (I.env (uM c)) (eN I.g.s) (I.lists _) lt ?_;rw[he];exact jJ.grow (K:=K) (x:=x) h (I.own (uM c))
theorem Co{O:bf}{k:Nat}(h:(o||!is.contains k)=true):(iJ is o O)[k]?=O[k]?:=by
 cases o with
 |true=>rfl
 |false=>
  have hk:k∉is:=by simpa using h
  show(mw is O)[k]?=_;clear h;induction is generalizing O with
  |nil=>rfl
  |cons i is ih=>
   rw[mw,ih (fun z=>hk (ai _ z)),z7,if_neg (fun z=>hk (by rw[z];exact ao))]
theorem be.lst{k:Nat}{xs:List D}(I:be K F0 H0 L O F H fp)(e:L[k]?=some (some (.lst true xs))):∃a vs fs,O[k]?=some (some (.ref a))/\H a=some (.lst vs)/\vs.length<=aa/\aO K H F xs vs fs/\fp k=a::fs:=by
 obtain⟨v,h1,h2⟩:=I.rep k _ e;unfold bg at h2;rw[if_pos rfl]at h2;obtain⟨a,vs,fs,rfl,q⟩:=h2;exact⟨a,vs,fs,h1,q⟩
theorem be.bY{k:Nat}(I:be K F0 H0 L O F H fp)(e:L[k]?=some (some (.bY true ks xs))):∃a kvs fs,O[k]?=some (some (.ref a))/\H a=some (.dK kvs)/\kvs.length<=aa/\(kvs.map (·.1)=ks/\keysOk ks=true)/\aO K H F xs (kvs.map (·.2)) fs/\fp k=a::fs:=by
 obtain⟨v,h1,h2⟩:=I.rep k _ e;unfold bg at h2;rw[if_pos rfl]at h2;obtain⟨a,vs,fs,rfl,q⟩:=h2;exact⟨a,vs,fs,h1,q⟩
theorem be.pin{k:Nat}{a:Addr}{kvs:List (Key×V)}(I:be K F0 H0 L O F H fp)(q:L[k]?=some (some (.bY true ks xs)))(s1:O[k]?=some (some (.ref a)))(s2:H a=some (.dK kvs))(s3:kvs.length<=aa)(s4:kvs.map (·.1)=ks/\keysOk ks=true)(s5:aO K H F xs (kvs.map (·.2)) fs)(s6:fp k=a::fs)(ob:Obj) :
  ∃F1 fp1,be K F0 H0 (L.set k (some (.pdc ks (aA xs)))) O F1 (upd H a (.br ob (.dK kvs))) fp1/\F1 a=some (.br ob (.dK kvs)):=by
 have hak:a∈fp k:=by rw[s6];exact ao
 have hF:=I.nf k a hak;have hH0:=I.nh k a hak;have nda:a∉fs/\fs.Nodup:=by have:=I.nd k;rw[s6]at this;exact bF.mp this
 have hn:∀b∈fs,b≠a:=fun b hb z=>nda.1 (by rw[<-z];exact hb);have eF:∀b∈fs,upd (adopt F H fs) a (.br ob (.dK kvs)) b=H b:=fun b hb=>by rw[bw (hn b hb),iQ hb]
 have sF:aW F (upd (adopt F H fs) a (.br ob (.dK kvs))):=fun b o h=>by
  rw[bw (cK h hF)];exact cU I.g.s b o h
 have rf:aN K (upd (adopt F H fs) a (.br ob (.dK kvs))) xs (kvs.map (·.2)):=aO.fix sF xs _ fs eF s5;have hne:∀i,i≠k->∀b∈fp i,b≠a/\b∉fs:=fun i hi b hb=>⟨fun z=>by subst z;exact hi (I.dis i k b hb hak),fun z=>hi (I.dis i k b hb (by rw[s6];exact ai _ z))⟩;refine⟨upd (adopt F H fs) a (.br ob (.dK kvs)),fun i=>if i=k then[]else fp i,⟨⟨fun b o h=>?_,I.g.f.trans sF,fun b o h=>?_,fun b o h h'=>?_⟩,by simp[I.len],fun i d e=>?_,fun i=>?_,fun i=>?_,fun i b hb=>?_,fun i b hb=>?_,fun i j b hb hc=>?_⟩,dG⟩
 ·rw[bw (cK h hH0)];exact I.g.h b o h
 ·by_cases e:b=a
  ·subst e;rw[dG]at h ⊢;exact h
  ·rw[bw e]at h ⊢;exact eN I.g.s b o h
 ·by_cases e:b=a
  ·subst e;exact .of hH0
  ·rw[bw e]at h;by_cases z:b∈fs
   ·exact .of (I.nh k b (by rw[s6];exact ai _ z))
   ·rw[iG z]at h;exact I.g.n b o h h'
 ·by_cases hi:i=k
  ·subst hi;rw[if_pos rfl];rw[fu]at e;by_cases hl:i<L.length
   ·simp[hl]at e;subst e;exact⟨_,s1,⟨a,kvs,rfl,⟨ob,dG⟩,s3,s4,(aN.aA xs _).mpr rf⟩,rfl⟩
   ·simp[hl]at e
  ·rw[if_neg hi];rw[bR (dm hi)]at e;obtain⟨w,h1,h2⟩:=I.rep i d e;exact⟨w,h1,bg.mono sF d w _ (fun b hb=>bw (hne i hi b hb).1) h2⟩
 ·by_cases hi:i=k
  ·rw[if_pos hi];exact fun b hb=>absurd hb aJ
  ·rw[if_neg hi];intro b hb;obtain⟨u,e,z⟩:=I.ex i b hb;exact⟨u,by rw[bw (hne i hi b hb).1];exact e,z⟩
 ·by_cases hi:i=k
  ·rw[if_pos hi];exact gS
  ·rw[if_neg hi];exact I.nd i
 ·by_cases hi:i=k
  ·rw[if_pos hi]at hb;exact absurd hb aJ
  ·rw[if_neg hi]at hb;rw[bw (hne i hi b hb).1,iG (hne i hi b hb).2];exact I.nf i b hb
 ·by_cases hi:i=k
  ·rw[if_pos hi]at hb;exact absurd hb aJ
  ·rw[if_neg hi]at hb;exact I.nh i b hb
 ·by_cases hi:i=k
  ·rw[if_pos hi]at hb;exact absurd hb aJ
  ·by_cases hj:j=k
   ·rw[if_pos hj]at hc;exact absurd hc aJ
   ·rw[if_neg hi]at hb;rw[if_neg hj]at hc;exact I.dis i j b hb hc
theorem slot_of{i:Nat}{k:V->Prop}(h:O[i]?=some (some v))(q:k v):jc O i k:=by
 unfold jc;rw[h];exact q
theorem aO.set:∀{ds:List D}{vs:List V}{fs f:List Addr} (n:Nat) {d:D}{v:V},aO K H F ds vs fs->bg K H F d v f->(fs++f).Nodup->∃fs',aO K H F (ds.set n d) (vs.set n v) fs'/\fs'.Nodup/\∀b∈fs',b∈fs\/b∈f
|[],_,_,_,n,_,_,h,_,nd=>by
 obtain⟨rfl,rfl⟩:=h;exact⟨[],⟨rfl,rfl⟩,gS,fun b hb=>absurd hb aJ⟩
|e::ds,_,_,f,0,d,v,h,hd,nd=>by
 obtain⟨w,r,f1,f2,rfl,rfl,h3,h4⟩:=h;refine⟨f++f2,⟨v,r,f,f2,rfl,rfl,hd,h4⟩,?_,?_⟩
 ·simp only[bS,a6,aD]at nd ⊢;obtain⟨n1,⟨n2,n3,n4⟩,n5⟩:=nd;exact⟨n3,n2,fun a ha b hb z=>n4 b hb a ha z.symm⟩
 ·intro b hb;rcases aD.mp hb with hb|hb
  ·exact .inr hb
  ·exact .inl (aq _ hb)
|e::ds,_,_,f,n+1,d,v,h,hd,nd=>by
 obtain⟨w,r,f1,f2,rfl,rfl,h3,h4⟩:=h;have nd':(f2++f).Nodup/\f1.Nodup/\∀a∈f1,∀b,(b∈f2\/b∈f)->a≠b:=by
  rw[bS]at nd;obtain⟨n1,n2,n3⟩:=a6.mp nd;exact⟨n2,n1,fun a ha b hb=>n3 a ha b (aD.mpr hb)⟩
 obtain⟨fs',q1,q2,q3⟩:=aO.set n h4 hd nd'.1;refine⟨f1++fs',⟨w,_,f1,fs',rfl,rfl,h3,q1⟩,a6.mpr ⟨nd'.2.1,q2,fun a ha b hb=>nd'.2.2 a ha b (q3 b hb)⟩,?_⟩;intro b hb;rcases aD.mp hb with hb|hb
 ·exact .inl (aC _ hb)
 ·rcases q3 b hb with z|z
  ·exact .inl (aq _ z)
  ·exact .inr z
theorem aO.split:∀{ds:List D}{vs:List V}{fs:List Addr} (n:Nat),aO K H F ds vs fs->∃f1 f2,fs=f1++f2/\aO K H F (ds.take n) (vs.take n) f1/\aO K H F (ds.drop n) (vs.drop n) f2
|_,_,_,0,h=>⟨[],_,rfl,⟨rfl,rfl⟩,h⟩
|[],_,_,n+1,h=>by
 obtain⟨rfl,rfl⟩:=h;exact⟨[],[],rfl,⟨rfl,rfl⟩,⟨rfl,rfl⟩⟩
|d::ds,_,_,n+1,h=>by
 obtain⟨w,r,f1,f2,rfl,rfl,h3,h4⟩:=h;obtain⟨g1,g2,rfl,q1,q2⟩:=aO.split n h4;exact⟨f1++g1,g2,by simp,⟨w,_,f1,g1,rfl,rfl,h3,q1⟩,q2⟩
theorem be.So{k:Nat}{xs':List D}{a:Addr}{kvs':List (Key×V)}{fs':List Addr}(I:be K F0 H0 L O F H fp)(V:j_ K H0 F H fp d v f)(Z5:O[k]?=some (some (.ref a)))(hk:fp k=a::fs)(hl:kvs'.length<=aa)(hks:kvs'.map (·.1)=ks/\keysOk ks=true)
  (hr:∀{H':Hp},(∀b∈fs,H' b=H b)->(∀b∈f,H' b=H b)->aO K H' F xs' (kvs'.map (·.2)) fs') (nd:fs'.Nodup) (sub:∀b∈fs',b∈fs\/b∈f) :
  ∃fp',be K F0 H0 (L.set k (some (.bY true ks xs'))) O F (upd H a (.dK kvs')) fp':=by
 have hak:a∈fp k:=by rw[hk];exact ao
 have nda:a∉fs/\fs.Nodup:=by have:=I.nd k;rw[hk]at this;exact bF.mp this
 have haf:a∉f:=fun z=>V.dis k a z hak;have hs:∀b∈fs',b∈fp k\/b∈f:=fun b hb=>by
  rcases sub b hb with z|z
  ·exact .inl (by rw[hk];exact ai _ z)
  ·exact .inr z
 refine⟨_,I.put hak Z5 (d:=.bY true ks xs') (f:=a::fs') ?_ ?_ ?_ ?_ ?_⟩
 ·unfold bg;rw[if_pos rfl];refine⟨a,kvs',fs',rfl,dG,hl,hks,hr (fun b hb=>bw (fun z=>nda.1 (by rw[<-z];exact hb))) (fun b hb=>bw (fun z=>haf (by rw[<-z];exact hb))),rfl⟩
 ·refine bF.mpr ⟨fun z=>?_,nd⟩;rcases sub a z with z|z
  ·exact nda.1 z
  ·exact haf z
 ·intro b hb;rcases aE.mp hb with rfl|hb
  ·exact I.nf k b hak
  ·rcases hs b hb with z|z
   ·exact I.nf k b z
   ·exact V.nf b z
 ·intro b hb;rcases aE.mp hb with rfl|hb
  ·exact I.nh k b hak
  ·rcases hs b hb with z|z
   ·exact I.nh k b z
   ·exact V.nh b z
 ·intro i hi b hb hc;rcases aE.mp hb with rfl|hb
  ·exact hi (I.dis i k b hc hak)
  ·rcases hs b hb with z|z
   ·exact hi (I.dis i k b hc z)
   ·exact V.dis i b z hc
theorem be.Bd{k:Nat}{xs xs':List D}{a:Addr}{vs vs':List V}{fs fs' f:List Addr}{d:D}{v:V}(I:be K F0 H0 L O F H fp)(V:j_ K H0 F H fp d v f)(Z5:O[k]?=some (some (.ref a)))(hk:fp k=a::fs)(hl:vs'.length<=aa)
  (hr:∀{H':Hp},(∀b∈fs,H' b=H b)->(∀b∈f,H' b=H b)->aO K H' F xs' vs' fs') (nd:fs'.Nodup) (sub:∀b∈fs',b∈fs\/b∈f) :
  ∃fp',be K F0 H0 (L.set k (some (.lst true xs'))) O F (upd H a (.lst vs')) fp':=by
 have hak:a∈fp k:=by rw[hk];exact ao
 have nda:a∉fs/\fs.Nodup:=by have:=I.nd k;rw[hk]at this;exact bF.mp this
 have haf:a∉f:=fun z=>V.dis k a z hak;have hs:∀b∈fs',b∈fp k\/b∈f:=fun b hb=>by
  rcases sub b hb with z|z
  ·exact .inl (by rw[hk];exact ai _ z)
  ·exact .inr z
 refine⟨_,I.put hak Z5 (d:=.lst true xs') (f:=a::fs') ?_ ?_ ?_ ?_ ?_⟩
 ·unfold bg;rw[if_pos rfl];refine⟨a,vs',fs',rfl,dG,hl,hr (fun b hb=>bw (fun z=>nda.1 (by rw[<-z];exact hb))) (fun b hb=>bw (fun z=>haf (by rw[<-z];exact hb))),rfl⟩
 ·refine bF.mpr ⟨fun z=>?_,nd⟩;rcases sub a z with z|z
  ·exact nda.1 z
  ·exact haf z
 ·intro b hb;rcases aE.mp hb with rfl|hb
  ·exact I.nf k b hak
  ·rcases hs b hb with z|z
   ·exact I.nf k b z
   ·exact V.nf b z
 ·intro b hb;rcases aE.mp hb with rfl|hb
  ·exact I.nh k b hak
  ·rcases hs b hb with z|z
   ·exact I.nh k b z
   ·exact V.nh b z
 ·intro i hi b hb hc;rcases aE.mp hb with rfl|hb
  ·exact hi (I.dis i k b hc hak)
  ·rcases hs b hb with z|z
   ·exact hi (I.dis i k b hc z)
   ·exact V.dis i b z hc
end
variable{a:CE}
variable{g f3:List Addr}
variable{src:CI}
variable{n:Nat}{ok:Hp->Prop}
section
variable{K:PySem.W.Frag}{ZU:List PG}{Y:List G}{F0 H0 F H:Hp}{L:bf}{O:L2.St}{fp:Nat->List Addr}{X:Ends}
theorem Pp[Ex](ZW:dP K ZU Y):∀(as:jB) {ds acc:List D}{av:List V}{af:List Addr}{L:bf}{F H:Hp}{fp:Nat->List Addr}{Q:List V->Hp->Prop},be K F0 H0 L O F H fp->mz K H0 F H fp acc av af->jI as=true->k9 ZU as L=.ok ds->
 (∀vs F1 H1 Z4 fp1 f,be K F0 H0 Z4 O F1 H1 fp1->mz K H0 F1 H1 fp1 (acc++ds) (av++vs) f->Q vs H1)->wEs K Y Ex.E as O H Q
|.nil,ds,acc,av,af,L,F,H,fp,Q,I,V,lt,e,h=>by
 cases e;exact h [] F H L fp af I (by rw[bI,bI];exact V)
|.cons a r,ds,acc,av,af,L,F,H,fp,Q,I,V,lt,e,h=>by
 obtain⟨l1,l2⟩:=band' lt;have e:(match JN a with
  |some i=>match L[i]? with
   |some (some d)=>(k9 ZU r (L.set i none)).bind fun ds=>.ok (d::ds)
   |_=>.bad
  |none=>(pE ZU a L).bind fun d=>.a9 (aL d) ((k9 ZU r L).bind fun ds=>.ok (d::ds)))=R.ok ds:=e
 cases va:JN a with
 |some i=>
  have ea:a=.var i:=by cases a<;>first|(cases va;rfl)|(cases va)
  subst ea;rw[va]at e;simp only at e;cases q:L[i]? with
  |none=>rw[q]at e;cases e
  |some o=>
   cases o with
   |none=>rw[q]at e;cases e
   |some d=>
    rw[q]at e;obtain⟨ds',e1,e2⟩:=cz (show((k9 ZU r (L.set i none)).bind fun ds=>.ok (d::ds))=R.ok ds from e);cases e2;obtain⟨v,h1,h2⟩:=I.rep i d q;have V1:mz K H0 F H (fun j=>if j=i then[]else fp j) (acc++[d]) (av++[v]) (af++fp i):=by
     refine mz.snoc ⟨V.r,V.nd,V.nf,V.nh,fun j a ha=>?_⟩ ⟨h2,I.nd i,I.nf i,I.nh i,fun j a ha=>?_⟩ fun a ha hb=>V.dis i a ha hb
     ·by_cases c:j=i
      ·rw[if_pos c];exact aJ
      ·rw[if_neg c];exact V.dis j a ha
     ·by_cases c:j=i
      ·rw[if_pos c];exact aJ
      ·rw[if_neg c];exact fun z=>c (I.dis j i a z ha)
    refine slot_of h1 (Pp ZW r (I.X6 i) V1 l2 e1 fun vs F1 H1 Z4 fp1 f I1 W=>h (v::vs) F1 H1 Z4 fp1 f I1 ?_);rw[bS,bS]at W;exact W
 |none=>
  rw[va]at e;simp only at e;obtain⟨d,e1,e2⟩:=cz e;obtain⟨ho,e2⟩:=jL e2;obtain⟨ds',e3,e4⟩:=cz e2;cases e4;refine runN ZW I V l1 e1 ho fun v F1 H1 f I1 V1=>?_;refine Pp ZW r I1 V1 l2 e3 fun vs F2 H2 ZZ fp2 f2 I2 W=>h (v::vs) F2 H2 ZZ fp2 f2 I2 ?_;rw[bS,bS]at W;exact W
theorem X8[Ex](ZW:dP K ZU Y)(I:be K F0 H0 L O F H fp)(lt:cO e=true)(h:b_ K F0 H0 ((pM ZU e L).a7 .rt) X):wE K Y Ex.E e O H X.rt:=by
 rcases lZ h with⟨x,e1,hx⟩|⟨d,e1,h'⟩
 ·have gen:pE ZU e L=.ex x->wE K Y Ex.E e O H X.rt:=fun he=>xr ZW I lt he hx;cases e with
  |var i=>
   have e1:(match L[i]? with|some (some d)=>R.ok d|_=>.bad)=.ex x:=e1;split at e1<;>cases e1
  |tup as=>
   have e1:(k9 ZU as L).alt (fun ds=>.a9 (decide (ds.length<=aa)) (.ok (.tup ds))) (pE ZU (.tup as) L)=.ex x:=e1;unfold R.alt at e1;split at e1
   ·exact absurd e1 (bE.a9 bE.ok x)
   ·exact gen e1
  |_=>exact gen e1
 clear h;have gen:pE ZU e L=.ok d->wE K Y Ex.E e O H X.rt:=fun he=>z8 ZW I lt he fun v F1 H1 fp1 f I1 V1=>h' v F1 H1 f I1.g ⟨V1.nd,V1.nh,V1.nf⟩ V1.r;cases e with
 |var i=>
  have e1:(match L[i]? with|some (some d)=>R.ok d|_=>.bad)=.ok d:=e1;cases q:L[i]? with
  |none=>rw[q]at e1;cases e1
  |some o=>
   cases o with
   |none=>rw[q]at e1;cases e1
   |some d'=>
    rw[q]at e1;cases e1;obtain⟨v,h1,h2⟩:=I.rep i d q;exact slot_of h1 (h' v F H (fp i) I.g ⟨I.nd i,I.nh i,I.nf i⟩ h2)
 |tup as=>
  have e1:(k9 ZU as L).alt (fun ds=>.a9 (decide (ds.length<=aa)) (.ok (.tup ds))) (pE ZU (.tup as) L)=.ok d:=e1;cases e2:k9 ZU as L with
  |ok ds=>
   rw[e2]at e1;obtain⟨c3,e4⟩:=jL e1;cases e4;refine Pp ZW as I (acc:=[]) (av:=[]) (af:=[]) ⟨⟨rfl,rfl⟩,gS,fun _ z=>absurd z aJ,fun _ z=>absurd z aJ,fun _ _ z=>absurd z aJ⟩ lt e2 fun vs F1 H1 Z4 fp1 f I1 V=>?_;have hr:aO K H1 F1 ds vs f:=V.r;have hl:vs.length<=aa:=by rw[hr.len];exact of_decide_eq_true c3
   refine⟨hl,fun p hp=>?_⟩;have g2:=A_ (o:=.tup vs) I1.g.s hp;have I2:=I1.grow g2;have np:∀a∈f,a≠p:=fun a ha z=>by
    obtain⟨o,e,_⟩:=aO.ex ds vs f hr a ha;rw[z,hp]at e;cases e
   exact h' (.ref p) _ _ f I2.g ⟨V.nd,V.nh,fun a ha=>by rw[bw (np a ha)];exact V.nf a ha⟩ ⟨p,vs,rfl,dG,hl,aO.mono g2.f ds vs f (fun a ha=>bw (np a ha)) hr⟩
  |_=>
   rw[e2]at e1;exact gen e1
 |_=>exact gen e1
theorem Be(nd:(f1++(f2++f3)).Nodup)(g3:∀b∈g,b∈f2\/b∈f)(g2:g.Nodup)(df:∀a∈f,a∉f1++(f2++f3)):(f1++(g++f3)).Nodup:=by
 obtain⟨n1,n23,n4⟩:=a6.mp nd;obtain⟨n2,n3,n5⟩:=a6.mp n23;refine a6.mpr ⟨n1,a6.mpr ⟨g2,n3,fun a ha b hb z=>?_⟩,fun a ha b hb z=>?_⟩
 ·rcases g3 a ha with q|q
  ·exact n5 a q b hb z
  ·exact df a q (by rw[z];exact aq _ (aq _ hb))
 ·rcases aD.mp hb with hb|hb
  ·rcases g3 b hb with q|q
   ·exact n4 a ha b (aC _ q) z
   ·exact df b q (by rw[<-z];exact aC _ ha)
  ·exact n4 a ha b (aq _ hb) z
theorem z9(g3:∀b∈g,b∈f2\/b∈f):∀b∈f1++(g++f3),b∈f1++(f2++f3)\/b∈f:=fun b hb=>by
 rcases aD.mp hb with z|z
 ·exact .inl (aC _ z)
 ·rcases aD.mp z with z|z
  ·rcases g3 b z with q|q
   ·exact .inl (aq _ (aC _ q))
   ·exact .inr q
  ·exact .inl (aq _ (aq _ z))
theorem L5{a:Addr}(nd:(a::(f1++(f2++f3))).Nodup)(g3:∀b∈g,b∈f2\/b∈f)(g2:g.Nodup)(df:∀b∈f,b∉a::(f1++(f2++f3))):(a::(f1++(g++f3))).Nodup:=by
 have nd':=bF.mp nd;refine bF.mpr ⟨fun z=>?_,Be nd'.2 g3 g2 fun b hb z=>df b hb (ai _ z)⟩;rcases z9 g3 a z with q|q
 ·exact nd'.1 q
 ·exact df a q ao
theorem Uc{a:Addr}(g3:∀b∈g,b∈f2\/b∈f):∀b∈a::(f1++(g++f3)),b∈a::(f1++(f2++f3))\/b∈f:=fun b hb=>by
 rcases aE.mp hb with rfl|hb
 ·exact .inl ao
 ·rcases z9 g3 b hb with q|q
  ·exact .inl (ai _ q)
  ·exact .inr q
def Reach(K:PySem.W.Frag)(H:Hp):V->List Int->V->Prop
|v,[],w=>v=w
|v,i::r,w=>∃a t xs u,v=.ref a/\gC H a=some (t,xs)/\eZ xs i=some u/\Reach K H u r w
theorem Reach.snoc:∀{is:List Int}{v w:V}{n:Int},Reach K H v (is++[n]) w->∃x,Reach K H v is x/\Reach K H x [n] w
|[],v,w,n,h=>⟨v,rfl,h⟩
|i::r,v,w,n,h=>by
 obtain⟨a,t,xs,u,e1,e2,e3,h⟩:=h;obtain⟨x,q1,q2⟩:=Reach.snoc h;exact⟨x,⟨a,t,xs,u,e1,e2,e3,q1⟩,q2⟩
theorem F6[Ex](I:be K F0 H0 L O F H fp):∀(o:CE) {k:Nat}{is:List Int}{v w:V}{Q:VK},ny L o=some (k,is)->O[k]?=some (some v)->Reach K H v is w->Q w H->wE K Y Ex.E o O H Q
|.var j,k,is,v,w,Q,e,hv,hr,q=>by
 cases e;cases hr;exact slot_of hv q
|.ix o i,k,is,v,w,Q,e,hv,hr,q=>by
 have e:((ny L o).bind fun p=>(Cj L i).map fun n=>(p.1,p.2++[n]))=some (k,is):=e;cases e1:ny L o with
 |none=>rw[e1]at e;cases e
 |some p=>
  rw[e1]at e;cases e2:Cj L i with
  |none=>
   have e:((Cj L i).map fun n=>(p.1,p.2++[n]))=some (k,is):=e;rw[e2]at e;cases e
  |some n=>
   have e:((Cj L i).map fun n=>(p.1,p.2++[n]))=some (k,is):=e;rw[e2]at e;cases e;obtain⟨x,q1,a,t,xs,u,rfl,q2,q3,q4⟩:=Reach.snoc hr;cases q4;refine F6 I o e1 hv q1 (show wE K Y Ex.E i O H fun y H2=>Fp K (.ref a) y H2 Q from ?_);have fin:Fp K (.ref a) (.int n) H Q:=.inl ⟨t,xs,n,_,rfl,.inl q2,q3,q⟩;unfold Cj at e2;split at e2
   ·split at e2
    ·rename_i j _ m hj;cases e2;obtain⟨v',h1,h2⟩:=I.rep _ _ hj;obtain⟨rfl,_⟩:=h2;exact slot_of h1 fin
    ·cases e2
   ·cases e2;exact fin
   ·cases e2;exact fin
   ·cases e2
|.con _,k,is,v,w,Q,e,hv,hr,q=>by cases e
|.glo _,k,is,v,w,Q,e,hv,hr,q=>by cases e
|.bin _ _ _,k,is,v,w,Q,e,hv,hr,q=>by cases e
|.neg _,k,is,v,w,Q,e,hv,hr,q=>by cases e
|.not _,k,is,v,w,Q,e,hv,hr,q=>by cases e
|.and _ _,k,is,v,w,Q,e,hv,hr,q=>by cases e
|.or _ _,k,is,v,w,Q,e,hv,hr,q=>by cases e
|.ite _ _ _,k,is,v,w,Q,e,hv,hr,q=>by cases e
|.cmp _ _ _,k,is,v,w,Q,e,hv,hr,q=>by cases e
|.chain _ _ _ _ _,k,is,v,w,Q,e,hv,hr,q=>by cases e
|.call _ _,k,is,v,w,Q,e,hv,hr,q=>by cases e
|.blt _ _,k,is,v,w,Q,e,hv,hr,q=>by cases e
|.isi _ _,k,is,v,w,Q,e,hv,hr,q=>by cases e
|.mth _ _ _,k,is,v,w,Q,e,hv,hr,q=>by cases e
|.sl _ _ _,k,is,v,w,Q,e,hv,hr,q=>by cases e
|.lst _,k,is,v,w,Q,e,hv,hr,q=>by cases e
|.tup _,k,is,v,w,Q,e,hv,hr,q=>by cases e
|.dct,k,is,v,w,Q,e,hv,hr,q=>by cases e
|.fst _,k,is,v,w,Q,e,hv,hr,q=>by cases e
|.comp _ _ _ _ _ _,k,is,v,w,Q,e,hv,hr,q=>by cases e
|.mx1 _ _,k,is,v,w,Q,e,hv,hr,q=>by cases e
theorem aO.at:∀{ds:List D}{vs:List V}{fs:List Addr} (n:Nat) {y:D},aO K H F ds vs fs->ds[n]?=some y->
 ∃w f1 f2 f3,vs[n]?=some w/\fs=f1++(f2++f3)/\bg K H F y w f2/\∀{F1 H':Hp}{y':D}{g:List Addr},aW F F1->(∀b∈f1,H' b=H b)->(∀b∈f3,H' b=H b)->bg K H' F1 y' w g->aO K H' F1 (ds.set n y') vs (f1++(g++f3))
|[],_,_,n,y,h,e=>by simp at e
|d::ds,_,_,0,y,h,e=>by
 obtain⟨v,r,g1,g2,rfl,rfl,h1,h2⟩:=h;simp at e;subst e;exact⟨v,[],g1,g2,rfl,rfl,h1,fun s1 _ h3 hr=>⟨v,r,_,g2,rfl,rfl,hr,aO.mono s1 _ _ _ h3 h2⟩⟩
|d::ds,_,_,n+1,y,h,e=>by
 obtain⟨v,r,g1,g2,rfl,rfl,h1,h2⟩:=h;obtain⟨w,f1,f2,f3,e1,rfl,q1,q2⟩:=aO.at n h2 (by simpa using e);refine⟨w,g1++f1,f2,f3,by simpa using e1,by simp,q1,fun s1 h3 h4 hr=>⟨v,r,g1,_,rfl,by simp,bg.mono s1 _ _ _ (fun b hb=>h3 b (aC _ hb)) h1,q2 s1 (fun b hb=>h3 b (aq _ hb)) h4 hr⟩⟩
theorem Cp:∀(is:List Int) {x x' d:D},cG is x d=some x'->∃ys,gW is x=some (.lst true ys)
|[],x,x',d,e=>by
 unfold cG at e;split at e
 ·exact⟨_,rfl⟩
 ·cases e
|i::r,x,x',d,e=>by
 unfold cG at e;have key:∀(xs:List D) (f:D->D),(((fL xs.length i).bind fun n=>(xs[n]?).bind fun y=>(cG r y d).map fun y'=>f (.lst true (xs.set n y')))=some x'\/((fL xs.length i).bind fun n=>(xs[n]?).bind fun y=>(cG r y d).map fun y'=>f (.tup (xs.set n y')))=some x')->∃ys,((fL xs.length i).bind fun n=>(xs[n]?).bind fun y=>gW r y)=some (.lst true ys):=by
  intro xs f e;cases e1:fL xs.length i with
  |none=>rw[e1]at e;rcases e with e|e<;>cases e
  |some n=>
   rw[e1]at e;show ∃ys,((xs[n]?).bind fun y=>gW r y)=some (.lst true ys);cases e2:xs[n]? with
   |none=>simp[e2]at e
   |some y=>
    show ∃ys,gW r y=some (.lst true ys);cases e3:cG r y d with
    |none=>simp[e2,e3]at e
    |some y'=>exact Cp r e3
 unfold gW;split at e
 ·exact key _ id (.inl e)
 ·exact key _ id (.inr e)
 ·cases e
theorem rO:∀(is:List Int) {x:D}{ys:List D}{v:V}{fs:List Addr},aW F H->bg K H F x v fs->gW is x=some (.lst true ys)->fs.Nodup->
 ∃c ws f2,c∈fs/\H c=some (.lst ws)/\Reach K H v is (.ref c)/\bg K H F (.lst true ys) (.ref c) f2/\(∀b∈f2,b∈fs)/\∀{d x':D},cG is x d=some x'->ws.length<aa /\
  ∀{F1 H':Hp}{u:V}{f:List Addr},aW F F1->bg K H' F1 d u f->f.Nodup->(∀a∈f,a∉fs)->(∀b∈fs,b≠c->H' b=H b)->H' c=some (.lst (ws++[u]))->∃fs',bg K H' F1 x' v fs'/\fs'.Nodup/\∀b∈fs',b∈fs\/b∈f
|[],x,ys,v,fs,s,r,e,nd=>by
 cases e;have r0:=r;unfold bg at r;rw[if_pos rfl]at r;obtain⟨a,vs,f1,rfl,r2,r3,r4,rfl⟩:=r;have nd':=bF.mp nd;refine⟨a,vs,a::f1,ao,r2,rfl,r0,fun b hb=>hb,fun{d x'} e=>?_⟩;unfold cG at e;have e:(if ys.length<aa then some (D.lst true (ys++[d]))else none)=some x':=e;split at e
 ·rename_i hl;cases e;refine⟨by rw[r4.len];exact hl,fun{F1 H' u f} s1 rd nf df h1 h2=>⟨a::(f1++f),?_,?_,?_⟩⟩
  ·unfold bg;rw[if_pos rfl];exact⟨a,vs++[u],f1++f,rfl,h2,by rw[az,r4.len];exact hl,aO.app (aO.mono s1 _ _ _ (fun b hb=>h1 b (ai _ hb) fun z=>nd'.1 (by rw[<-z];exact hb)) r4) (aO.one rd),rfl⟩
  ·refine bF.mpr ⟨fun z=>?_,a6.mpr ⟨nd'.2,nf,fun p hp q hq z=>df q hq (by rw[<-z];exact ai _ hp)⟩⟩;rcases aD.mp z with z|z
   ·exact nd'.1 z
   ·exact df a z ao
  ·intro b hb;rcases aE.mp hb with rfl|hb
   ·exact .inl ao
   ·rcases aD.mp hb with z|z
    ·exact .inl (ai _ z)
    ·exact .inr z
 ·cases e
|i::r,x,ys,v,fs,s,rx,e,nd=>by
 unfold gW at e;split at e
 ·rename_i xs;cases e1:fL xs.length i with
  |none=>rw[e1]at e;cases e
  |some n=>
   rw[e1]at e;have e:((xs[n]?).bind fun y=>gW r y)=some (.lst true ys):=e;cases e2:xs[n]? with
   |none=>rw[e2]at e;cases e
   |some y=>
    rw[e2]at e;have e:gW r y=some (.lst true ys):=e;unfold bg at rx;rw[if_pos rfl]at rx;obtain⟨a,vs,f0,rfl,r2,r3,r4,rfl⟩:=rx;obtain⟨w,f1,f2,f3,w1,rfl,w2,w3⟩:=aO.at n r4 e2;have nd':=bF.mp nd;obtain⟨n1,n23,n4⟩:=a6.mp nd'.2;obtain⟨n2,n3,n5⟩:=a6.mp n23;obtain⟨c,ws,f4,c1,c2,c4,c6,c7,c5⟩:=rO r s w2 e n2;have cf:c∈f1++(f2++f3):=aq _ (aC _ c1);refine⟨c,ws,f4,ai _ cf,c2,⟨a,false,vs,w,rfl,by unfold gC;rw[r2],rJ (by rw[r4.len];exact e1) w1,c4⟩,c6,fun b hb=>ai _ (aq _ (aC _ (c7 b hb))),fun{d x'} e3=>?_⟩;have e3:((fL xs.length i).bind fun n=>(xs[n]?).bind fun y=>(cG r y d).map fun y'=>D.lst true (xs.set n y'))=some x':=e3;rw[e1]at e3;have e3:((xs[n]?).bind fun y=>(cG r y d).map fun y'=>D.lst true (xs.set n y'))=some x':=e3;rw[e2]at e3;have e3:((cG r y d).map fun y'=>D.lst true (xs.set n y'))=some x':=e3;cases e4:cG r y d with
    |none=>rw[e4]at e3;cases e3
    |some y'=>
     rw[e4]at e3;cases e3;obtain⟨c3,c5⟩:=c5 e4;refine⟨c3,fun{F1 H' u f} s1 rd nf df h1 h2=>?_⟩;obtain⟨g,g1,g2,g3⟩:=c5 s1 rd nf (fun b hb z=>df b hb (ai _ (aq _ (aC _ z)))) (fun b hb hc=>h1 b (ai _ (aq _ (aC _ hb))) hc) h2;refine⟨a::(f1++(g++f3)),?_,?_,?_⟩
     ·unfold bg;rw[if_pos rfl];refine⟨a,vs,_,rfl,by rw[h1 a ao fun z=>nd'.1 (by rw[z];exact cf)];exact r2,r3,w3 s1 (fun b hb=>h1 b (ai _ (aC _ hb)) fun z=>n4 b hb c (aC _ c1) z) (fun b hb=>h1 b (ai _ (aq _ (aq _ hb))) fun z=>n5 c c1 b hb z.symm) g1,rfl⟩
     ·exact L5 nd (fun b hb=>g3 b hb) g2 df
     ·exact Uc g3
 ·rename_i xs;cases e1:fL xs.length i with
  |none=>rw[e1]at e;cases e
  |some n=>
   rw[e1]at e;have e:((xs[n]?).bind fun y=>gW r y)=some (.lst true ys):=e;cases e2:xs[n]? with
   |none=>rw[e2]at e;cases e
   |some y=>
    rw[e2]at e;have e:gW r y=some (.lst true ys):=e;obtain⟨a,vs,rfl,r2,r3,r4⟩:=rx;obtain⟨w,f1,f2,f3,w1,rfl,w2,w3⟩:=aO.at n r4 e2;obtain⟨n1,n23,n4⟩:=a6.mp nd;obtain⟨n2,n3,n5⟩:=a6.mp n23;obtain⟨c,ws,f4,c1,c2,c4,c6,c7,c5⟩:=rO r s w2 e n2;refine⟨c,ws,f4,aq _ (aC _ c1),c2,⟨a,true,vs,w,rfl,by unfold gC;rw[s _ _ r2],rJ (by rw[r4.len];exact e1) w1,c4⟩,c6,fun b hb=>aq _ (aC _ (c7 b hb)),fun{d x'} e3=>?_⟩;have e3:((fL xs.length i).bind fun n=>(xs[n]?).bind fun y=>(cG r y d).map fun y'=>D.tup (xs.set n y'))=some x':=e3;rw[e1]at e3;have e3:((xs[n]?).bind fun y=>(cG r y d).map fun y'=>D.tup (xs.set n y'))=some x':=e3;rw[e2]at e3;have e3:((cG r y d).map fun y'=>D.tup (xs.set n y'))=some x':=e3;cases e4:cG r y d with
    |none=>rw[e4]at e3;cases e3
    |some y'=>
     rw[e4]at e3;cases e3;obtain⟨c3,c5⟩:=c5 e4;refine⟨c3,fun{F1 H' u f} s1 rd nf df h1 h2=>?_⟩;obtain⟨g,g1,g2,g3⟩:=c5 s1 rd nf (fun b hb z=>df b hb (aq _ (aC _ z))) (fun b hb hc=>h1 b (aq _ (aC _ hb)) hc) h2;refine⟨f1++(g++f3),⟨a,vs,rfl,s1 _ _ r2,r3,w3 s1 (fun b hb=>h1 b (aC _ hb) fun z=>n4 b hb c (aC _ c1) z) (fun b hb=>h1 b (aq _ (aq _ hb)) fun z=>n5 c c1 b hb z.symm) g1⟩,?_,?_⟩
     ·exact Be nd (fun b hb=>g3 b hb) g2 df
     ·exact z9 g3
 ·cases e
theorem Reach.split:∀{p q:List Int}{v w:V},Reach K H v (p++q) w->∃u,Reach K H v p u/\Reach K H u q w
|[],q,v,w,h=>⟨v,rfl,h⟩
|i::r,q,v,w,h=>by
 obtain⟨a,t,xs,u,e1,e2,e3,h⟩:=h;obtain⟨x,q1,q2⟩:=Reach.split h;exact⟨x,⟨a,t,xs,u,e1,e2,e3,q1⟩,q2⟩
theorem Reach.det:∀{p:List Int}{v w w':V},Reach K H v p w->Reach K H v p w'->w=w'
|[],v,w,w',h,h'=>h.symm.trans h'
|i::r,v,w,w',h,h'=>by
 obtain⟨a,t,xs,u,e1,e2,e3,h⟩:=h;obtain⟨a',t',xs',u',f1,f2,f3,h'⟩:=h';rw[e1]at f1;cases f1;rw[e2]at f2;cases f2;rw[e3]at f3;cases f3;exact Reach.det h h'
theorem Dt{a:Addr}{y:Bool×List V}(s:aW H H1)(h:gC H a=some y):gC H1 a=some y:=by
 unfold gC at h ⊢;cases q:H a with
 |none=>rw[q]at h;cases h
 |some o=>rw[q]at h;rw[s a o q];exact h
theorem F7{a c:Addr}{o:HO}(h:a≠c):gC (upd H1 c o) a=gC H1 a:=by
 unfold gC;rw[bw h]
theorem Reach.upd{c:Addr}{o:HO}(s:aW H H1):∀{is:List Int}{v w:V},Reach K H v is w->(∀p n q a,is=p++n::q->Reach K H v p (.ref a)->a≠c)->Reach K (upd H1 c o) v is w
|[],v,w,h,_=>h
|i::r,v,w,h,off=>by
 obtain⟨a,t,xs,u,rfl,e2,e3,h⟩:=h;exact⟨a,t,xs,u,rfl,by rw[F7 (off [] i r a rfl rfl)];exact Dt s e2,e3,Reach.upd s h fun p n q b e hb=>off (i::p) n q b (by rw[e];rfl) ⟨a,t,xs,u,rfl,e2,e3,hb⟩⟩
theorem F8:∀(is:List Int) {x:D}{ys:List D}{v:V}{fs:List Addr}{c:Addr},aW F H->bg K H F x v fs->gW is x=some (.lst true ys)->fs.Nodup->Reach K H v is (.ref c)->
 c∈fs/\∀p n q a,is=p++n::q->Reach K H v p (.ref a)->a≠c
|[],x,ys,v,fs,c,s,r,e,nd,h=>by
 cases e;unfold bg at r;rw[if_pos rfl]at r;obtain⟨a,vs,f1,rfl,r2,r3,r4,rfl⟩:=r;cases h;exact⟨ao,fun p n q a z=>by cases p<;>cases z⟩
|i::r,x,ys,v,fs,c,s,rx,e,nd,h=>by
 obtain⟨a,t,us,u,rfl,e2,e3,h⟩:=h;have key:∀(xs:List D) (vs:List V) (f0:List Addr),gC H a=some (t,vs)->aO K H F xs vs f0->f0.Nodup->((fL xs.length i).bind fun n=>(xs[n]?).bind fun y=>gW r y)=some (.lst true ys)->c∈f0/\∀p n q b,r=p++n::q->Reach K H u p (.ref b)->b≠c:=by
  intro xs vs f0 hs r4 nd e;cases e1:fL xs.length i with
  |none=>rw[e1]at e;cases e
  |some n=>
   rw[e1]at e;have e:((xs[n]?).bind fun y=>gW r y)=some (.lst true ys):=e;cases q:xs[n]? with
   |none=>rw[q]at e;cases e
   |some y=>
    rw[q]at e;obtain⟨w,f1,f2,f3,w1,rfl,w2,_⟩:=aO.at n r4 q;rw[e2]at hs;cases hs;have e4:=rJ (by rw[r4.len];exact e1) w1;rw[e3]at e4;cases e4;obtain⟨n1,n23,n4⟩:=a6.mp nd;obtain⟨n2,n3,n5⟩:=a6.mp n23;obtain⟨h1,h2⟩:=F8 r s w2 e n2 h;exact⟨aq _ (aC _ h1),h2⟩
 have fin:∀(f0:List Addr),a≠c->(∀p n q b,r=p++n::q->Reach K H u p (.ref b)->b≠c)->∀p n q b,i::r=p++n::q->Reach K H (.ref a) p (.ref b)->b≠c:=by
  intro f0 ha hr p n q b e hb;cases p with
  |nil=>cases hb;exact ha
  |cons j p=>
   cases e;obtain⟨a',t',xs',u',f1,g2,g3,hb⟩:=hb;cases f1;rw[e2]at g2;cases g2;rw[e3]at g3;cases g3;exact hr p n q b rfl hb
 unfold gW at e;split at e
 ·unfold bg at rx;rw[if_pos rfl]at rx;obtain⟨a',vs,f0,z,r2,r3,r4,rfl⟩:=rx;cases z;have nd':=bF.mp nd;obtain⟨h1,h2⟩:=key _ vs f0 (by
   have:gC H a=some (false,vs):=by unfold gC;rw[r2]
   rw[e2]at this;cases this;exact e2) r4 nd'.2 e
  exact⟨ai _ h1,fin f0 (fun z=>nd'.1 (by rw[z];exact h1)) h2⟩
 ·obtain⟨a',vs,z,r2,r3,r4⟩:=rx;cases z;obtain⟨h1,h2⟩:=key _ vs fs (by
   have:gC H a=some (true,vs):=by unfold gC;rw[s _ _ r2]
   rw[e2]at this;cases this;exact e2) r4 nd e
  refine⟨h1,fin fs (fun z=>?_) h2⟩;obtain⟨o,eo,ho⟩:=aO.ex _ _ _ r4 c h1;rw[<-z,s _ _ r2]at eo;cases eo;exact ho
 ·cases e
theorem F9:∀(is:List Int) {x:D}{m:Nat}{v:V}{fs:List Addr},aW F H->bg K H F x v fs->qJ is x=some m->∃c t vs,Reach K H v is (.ref c)/\gC H c=some (t,vs)/\vs.length=m
|[],x,m,v,fs,s,r,e=>by
 unfold qJ at e;split at e
 ·cases e;unfold bg at r;rw[if_pos rfl]at r;obtain⟨a,vs,f1,rfl,r2,r3,r4,rfl⟩:=r;exact⟨a,false,vs,rfl,by unfold gC;rw[r2],r4.len⟩
 ·cases e;obtain⟨a,vs,rfl,r2,r3,r4⟩:=r;exact⟨a,true,vs,rfl,by unfold gC;rw[s _ _ r2],r4.len⟩
 ·cases e
|i::r,x,m,v,fs,s,rx,e=>by
 have key:∀(a:Addr) (t:Bool) (xs:List D) (vs:List V) (f0:List Addr),v=.ref a->gC H a=some (t,vs)->aO K H F xs vs f0->((fL xs.length i).bind fun n=>(xs[n]?).bind fun y=>qJ r y)=some m->∃c t vs,Reach K H v (i::r) (.ref c)/\gC H c=some (t,vs)/\vs.length=m:=by
  intro a t xs vs f0 ev hs r4 e;cases e1:fL xs.length i with
  |none=>rw[e1]at e;cases e
  |some n=>
   rw[e1]at e;have e:((xs[n]?).bind fun y=>qJ r y)=some m:=e;cases q:xs[n]? with
   |none=>rw[q]at e;cases e
   |some y=>
    rw[q]at e;obtain⟨w,f1,f2,f3,w1,_,w2,_⟩:=aO.at n r4 q;obtain⟨c,t',us,h1,h2,h3⟩:=F9 r s w2 e;exact⟨c,t',us,⟨a,t,vs,w,ev,hs,rJ (by rw[r4.len];exact e1) w1,h1⟩,h2,h3⟩
 unfold qJ at e;split at e
 ·unfold bg at rx;rw[if_pos rfl]at rx;obtain⟨a,vs,f0,z,r2,r3,r4,rfl⟩:=rx;exact key a false _ vs f0 z (by unfold gC;rw[r2]) r4 e
 ·obtain⟨a,vs,z,r2,r3,r4⟩:=rx;exact key a true _ vs fs z (by unfold gC;rw[s _ _ r2]) r4 e
 ·cases e
theorem F_:∀{w:CE}{p:Nat×List Int},z6 w=some p->ny L w=some p
|.var k,p,h=>h
|.ix o (.con (.int n)),p,h=>by
 have h:(z6 o).map (fun p=>(p.1,p.2++[n]))=some p:=h;cases q:z6 o with
 |none=>rw[q]at h;cases h
 |some r=>
  rw[q]at h;cases h;show((ny L o).bind fun p=>(some n).map fun n=>(p.1,p.2++[n]))=_;rw[F_ q];rfl
theorem Ww[Ex](ZW:dP K ZU Y)(I:be K F0 H0 L O F H fp)(lt:cO e=true)(he:pE ZU e L=.ok d)
  (h:∀v F1 H1,be K F0 H0 L O F1 H1 fp->aW F F1->aW H H1->(aL d=true->∃f,j_ K H0 F1 H1 fp d v f)->Q v H1):wE K Y Ex.E e O H Q:=by
 refine fW ZW e (I.env (cE e)) (eN I.g.s) lt ?_;rw[he];intro F' H' v f g fr r;refine h v _ H' (I.back g) (fun b o q=>?_) g.h fun ho=>?_
 ·have hb:b∉ownAt fp (cE e):=fun z=>by
   obtain⟨i,_,hb⟩:=d8.mp z;rw[I.nf i b hb]at q;cases q
  rw[fy hb];exact g.f b o (cU I.g.s b o q)
 refine⟨f,bg.less (lF g.s ((I.lists _).mono g.h)) d v f ho r,fr.nd,fun a ha=>aW.none (j5 _ _) (fr.nf a ha),fun a ha=>aW.none I.g.h (fr.nh a ha),fun i a ha hb=>?_⟩;obtain⟨o,e,_⟩:=I.ex i a hb;rw[fr.nh a ha]at e;cases e
theorem X_[Ex](ZW:dP K ZU Y){o:CE}(I:be K F0 H0 L O F H fp)(la:cO a=true)(h:b_ K F0 H0 (Pn ZU o a L) X):wE K Y Ex.E (.mth .append o (.cons a .nil)) O H fun _ H1=>X.nx O H1:=by
 unfold Pn at h;split at h
 ·rename_i p ep;obtain⟨d,e1,h⟩:=uP h;split at h
  ·rename_i x ex;split at h
   ·rename_i ho;cases e3:cG p.2 x d with
    |none=>rw[e3]at h;exact h.elim
    |some x'=>
     rw[e3]at h;have h:b_ K F0 H0 (.nx (L.set p.1 (some x'))) X:=h;obtain⟨v,hv,rx⟩:=I.rep _ _ ex;obtain⟨ys,eg⟩:=Cp p.2 e3;obtain⟨c,ws,f2,c1,c2,c4,_,_,c5⟩:=rO p.2 I.g.s rx eg (I.nd _);obtain⟨c3,c5⟩:=c5 e3;refine F6 I o (show ny L o=some (p.1,p.2)from ep) hv c4 ⟨?_,?_⟩
     ·show gU H c;unfold gU;rw[c2];trivial
     ·simp only[wEs];refine Ww ZW I la e1 fun u F1 H1 I1 sF sH V1=>?_;obtain⟨f,V1⟩:=V1 ho;show(match H1 c with|some (.lst xs)=>xs.length<aa/\X.nx O (upd H1 c (.lst (xs++[u])))|_=>False);rw[sH _ _ c2];refine⟨c3,?_⟩;have hcf:c∉f:=fun z=>V1.dis p.1 c z c1;obtain⟨fs',g1,g2,g3⟩:=c5 (H':=upd H1 c (.lst (ws++[u]))) sF (bg.mono (aW.refl _) _ _ _ (fun b hb=>bw fun z=>hcf (by rw[<-z];exact hb)) V1.r) V1.nd (fun b hb=>V1.dis p.1 b hb) (fun b hb hc=>by
       rw[bw hc];obtain⟨o,eo,_⟩:=I.ex p.1 b hb;rw[eo,sH b o eo]) dG
      refine h O F1 _ _ (I1.put c1 hv g1 g2 (fun b hb=>?_) (fun b hb=>?_) fun i hi b hb z=>?_)
      ·rcases g3 b hb with q|q
       ·exact I1.nf p.1 b q
       ·exact V1.nf b q
      ·rcases g3 b hb with q|q
       ·exact I1.nh p.1 b q
       ·exact V1.nh b q
      ·rcases g3 b hb with q|q
       ·exact hi (I1.dis i p.1 b z q)
       ·exact V1.dis i b q z
   ·exact h.elim
  ·exact h.elim
 ·exact h.elim
theorem okX[Ex](ZW:dP K ZU Y)(I:be K F0 H0 L O F H fp)(lt:cO e=true)(h:b_ K F0 H0 (pX ZU e L) X):wE K Y Ex.E e O H fun _ H1=>X.nx O H1:=by
 have gen:b_ K F0 H0 ((pE ZU e L).a7 fun _=>.nx L) X->wE K Y Ex.E e O H fun _ H1=>X.nx O H1:=fun h=>by
  rcases lZ h with⟨x,e1,hx⟩|⟨d,e1,h⟩
  ·exact xr ZW I lt e1 hx
  exact runD' ZW I lt e1 fun v F1 H1 I1 _ _=>h O F1 H1 fp I1
 cases e with
 |mth m o as=>
  cases o with
  |var k=>
   obtain⟨_,lt2⟩:=band' (show(cO (.var k)&&jI as)=true from lt);cases m with
   |append=>
    cases as with
    |nil=>exact h.elim
    |cons a r=>
     cases r with
     |cons _ _=>exact h.elim
     |nil=>
      obtain⟨la,_⟩:=band' (show(cO a&&jI .nil)=true from lt2);rcases Cn (show b_ K F0 H0 ((pE ZU a L).ju (nv L[k]?) fun d=>match L[k]? with|some (some (.lst true xs))=>if(decide (xs.length<aa)&&(aL d||!(cE a).contains k))=true then .nx ((iJ (cE a) (aL d) L).set k (some (.lst true (xs++[d]))))else .bad|_=>.bad) X from h)with⟨hb,x,e1,hx⟩|⟨d,e1,h⟩
      ·unfold nv at hb;split at hb
       ·rename_i xs q;obtain⟨a0,us,fs,s1,s2,s3,s4,s5⟩:=I.lst q;refine slot_of s1 ⟨?_,?_⟩
        ·show gU H a0;unfold gU;rw[s2];trivial
        ·simp only[wEs];exact xr ZW I la e1 hx
       ·cases hb
      split at h
      ·rename_i xs q;split at h
       ·rename_i c;obtain⟨c1,c2⟩:=band' c;have c1:=of_decide_eq_true c1;obtain⟨a0,us,fs,s1,s2,s3,s4,s5⟩:=I.lst q;refine slot_of s1 ⟨?_,?_⟩
        ·show gU H a0;unfold gU;rw[s2];trivial
        ·simp only[wEs];refine z8 ZW I la e1 fun v F1 H1 fp1 f I1 V1=>?_;obtain⟨a1,us1,fs1,t1,t2,t3,t4,t5⟩:=I1.lst (k:=k) (xs:=xs) (by rw[Co c2];exact q);rw[s1]at t1;cases t1;show(match H1 a0 with|some (.lst xs)=>xs.length<aa/\X.nx O (upd H1 a0 (.lst (xs++[v])))|_=>False);rw[t2];refine⟨by rw[t4.len];exact c1,?_⟩;have nd1:(fs1++f).Nodup:=by
          have n:=I1.nd k;rw[t5]at n;refine a6.mpr ⟨(bF.mp n).2,V1.nd,fun a ha b hb z=>?_⟩;subst z;exact V1.dis k a hb (by rw[t5];exact ai _ ha)
         obtain⟨fp',I'⟩:=I1.Bd (xs:=xs) (xs':=xs++[d]) (vs:=us1) (vs':=us1++[v]) (fs:=fs1) (fs':=fs1++f) V1 s1 t5 (by rw[az,t4.len];simp;omega)
          (fun h1 h2=>aO.app (aO.mono (aW.refl _) _ _ _ h1 t4) (aO.one (bg.mono (aW.refl _) _ _ _ h2 V1.r))) nd1 (fun b hb=>aD.mp hb)
         exact h O F1 _ fp' I'
       ·exact h.elim
      ·exact h.elim
   |extend=>
    cases as with
    |nil=>exact h.elim
    |cons a r=>
     cases r with
     |cons _ _=>exact h.elim
     |nil=>
      obtain⟨la,_⟩:=band' (show(cO a&&jI .nil)=true from lt2);rcases Cn (show b_ K F0 H0 ((pE ZU a L).ju (nv L[k]?) fun d=>Ck k (cE a) d L) X from h)with⟨hb,x,e1,hx⟩|⟨d,e1,h⟩
      ·unfold nv at hb;split at hb
       ·rename_i xs q;obtain⟨a0,us,fs,s1,s2,s3,s4,s5⟩:=I.lst q;refine slot_of s1 ⟨?_,?_⟩
        ·show gU H a0;unfold gU;rw[s2];trivial
        ·simp only[wEs];exact xr ZW I la e1 hx
       ·cases hb
      unfold Ck at h;split at h
      ·rename_i ys;split at h
       ·rename_i xs q;split at h
        ·rename_i c;obtain⟨c1,c2⟩:=band' c;have c1:=of_decide_eq_true c1;obtain⟨a0,us,fs,s1,s2,s3,s4,s5⟩:=I.lst q;refine slot_of s1 ⟨?_,?_⟩
         ·show gU H a0;unfold gU;rw[s2];trivial
         ·simp only[wEs];refine z8 ZW I la e1 fun v F1 H1 fp1 f I1 V1=>?_;obtain⟨a1,us1,fs1,t1,t2,t3,t4,t5⟩:=I1.lst (k:=k) (xs:=xs) (by rw[Co c2];exact q);rw[s1]at t1;cases t1;have rv:=V1.r;unfold bg at rv;rw[if_pos rfl]at rv;obtain⟨b,ws,f2,rfl,k2,k3,k4,rfl⟩:=rv;show(match H1 a0 with|some (.lst xs)=>∃zs,H1 b=some (.lst zs)/\xs.length+zs.length<=aa/\X.nx O (upd H1 a0 (.lst (xs++zs)))|_=>False);rw[t2];refine⟨ws,k2,by rw[t4.len,k4.len];exact c1,?_⟩;have nd2:=bF.mp V1.nd;have nd1:(fs1++f2).Nodup:=by
           have n:=I1.nd k;rw[t5]at n;refine a6.mpr ⟨(bF.mp n).2,nd2.2,fun a ha b hb z=>?_⟩;subst z;exact V1.dis k a (ai _ hb) (by rw[t5];exact ai _ ha)
          obtain⟨fp',I'⟩:=I1.Bd (xs:=xs) (xs':=xs++ys) (vs:=us1) (vs':=us1++ws) (fs:=fs1) (fs':=fs1++f2) V1 s1 t5 (by rw[az,t4.len,k4.len];exact c1)
           (fun h1 h2=>aO.app (aO.mono (aW.refl _) _ _ _ h1 t4) (aO.mono (aW.refl _) _ _ _ (fun b hb=>h2 b (ai _ hb)) k4)) nd1 (fun b hb=>by
            rcases aD.mp hb with z|z
            ·exact .inl z
            ·exact .inr (ai _ z))
          exact h O F1 _ fp' I'
        ·exact h.elim
       ·exact h.elim
      ·exact h.elim
   |insert=>
    match as,h,lt2 with
    |.nil,h,_=>exact h.elim
    |.cons _ .nil,h,_=>exact h.elim
    |.cons _ (.cons _ (.cons _ _)),h,_=>exact h.elim
    |.cons i (.cons a .nil),h,lt2=>
     obtain⟨li,l2⟩:=band' (show(cO i&&jI (.cons a .nil))=true from lt2);obtain⟨la,_⟩:=band' (show(cO a&&jI .nil)=true from l2);obtain⟨j,e1,h⟩:=uP h;obtain⟨d,e2,h⟩:=uP h;cases j with
     |int j=>
      have h:b_ K F0 H0 (match L[k]? with|some (some (.lst true xs))=>if(decide (0<=j/\j<2 ^ 40/\xs.length<aa)&&aL d)=true then .nx (L.set k (some (.lst true (xs.take j.toNat++d::xs.drop j.toNat))))else .bad|_=>.bad) X:=h;split at h
      ·rename_i xs q;split at h
       ·rename_i c;obtain⟨c1,c2⟩:=band' c;have c1:=of_decide_eq_true c1;obtain⟨a0,us,fs,s1,s2,s3,s4,s5⟩:=I.lst q;refine slot_of s1 ⟨?_,?_⟩
        ·show gU H a0;unfold gU;rw[s2];trivial
        ·simp only[wEs];refine runD' ZW I li e1 fun v F1 H1 I1 _ V1=>?_;obtain⟨f0,V1⟩:=V1 rfl;obtain⟨rfl,_⟩:=V1.r;refine runD' ZW I1 la e2 fun v F2 H2 I2 _ V2=>?_;obtain⟨f,V2⟩:=V2 c2;obtain⟨a1,us1,fs1,t1,t2,t3,t4,t5⟩:=I2.lst q;rw[s1]at t1;cases t1;show(match H2 a0 with|some (.lst xs)=>(0<=j/\j<2 ^ 40/\xs.length<aa)/\X.nx O (upd H2 a0 (.lst (xs.take j.toNat++v::xs.drop j.toNat)))|_=>False);rw[t2];refine⟨by rw[t4.len];exact c1,?_⟩;obtain⟨g1,g2,eg,w1,w2⟩:=aO.split j.toNat t4;subst eg;have nd1:(g1++(f++g2)).Nodup:=by
          have n:=I2.nd k;rw[t5]at n;have n:=(bF.mp n).2;obtain⟨n1,n2,n3⟩:=a6.mp n;have nf:∀b∈f,b∉g1/\b∉g2:=fun b hb=>⟨fun z=>V2.dis k b hb (by rw[t5];exact ai _ (aC _ z)),fun z=>V2.dis k b hb (by rw[t5];exact ai _ (aq _ z))⟩;refine a6.mpr ⟨n1,a6.mpr ⟨V2.nd,n2,fun a ha b hb z=>(nf a ha).2 (by rw[z];exact hb)⟩,fun a ha b hb z=>?_⟩;rcases aD.mp hb with hb|hb
          ·exact(nf b hb).1 (by rw[<-z];exact ha)
          ·exact n3 a ha b hb z
         obtain⟨fp',I'⟩:=I2.Bd (xs:=xs) (xs':=xs.take j.toNat++d::xs.drop j.toNat) (vs:=us1) (vs':=us1.take j.toNat++v::us1.drop j.toNat) (fs:=g1++g2) (fs':=g1++(f++g2)) V2 s1 t5 (by
           rw[az,eT,bz,dN,t4.len];omega)
          (fun h1 h2=>aO.app (aO.mono (aW.refl _) _ _ _ (fun b hb=>h1 b (aC _ hb)) w1) ⟨v,_,f,g2,rfl,rfl,bg.mono (aW.refl _) _ _ _ h2 V2.r,aO.mono (aW.refl _) _ _ _ (fun b hb=>h1 b (aq _ hb)) w2⟩) nd1 (fun b hb=>by
           rcases aD.mp hb with hb|hb
           ·exact .inl (aC _ hb)
           ·rcases aD.mp hb with hb|hb
            ·exact .inr hb
            ·exact .inl (aq _ hb))
         exact h O F2 _ fp' I'
       ·exact h.elim
      ·exact h.elim
     |_=>exact h.elim
   |_=>exact gen h
  |ix o i=>
   obtain⟨_,lt2⟩:=band' (show(cO (.ix o i)&&jI as)=true from lt);cases m with
   |append=>
    cases as with
    |nil=>exact h.elim
    |cons a r=>
     cases r with
     |cons _ _=>exact h.elim
     |nil=>
      obtain⟨la,_⟩:=band' (show(cO a&&jI .nil)=true from lt2);exact X_ ZW I la h
   |_=>exact gen h
  |_=>exact gen h
 |_=>exact gen h
mutual
theorem bg.flat:∀(d:D) (v:V) (f:List Addr),Bb d=true->bg K H F d v f->f=[]/\bg K H' F d v []
|.non,v,f,_,h=>⟨h.2,h.1,rfl⟩
|.bl b,v,f,_,h=>⟨h.2,h.1,rfl⟩
|.int i,v,f,_,h=>⟨h.2,h.1,rfl⟩
|.str x,v,f,_,h=>⟨h.2,h.1,rfl⟩
|.lst _ _,v,f,e,h=>by cases e
|.bY _ _ _,v,f,e,h=>by cases e
|.tup ds,v,f,e,h=>by
 obtain⟨a,vs,h1,h2,h3,h4⟩:=h;obtain⟨e1,e2⟩:=aO.flat ds vs f e h4;exact⟨e1,a,vs,h1,h2,h3,e2⟩
theorem aO.flat:∀(ds:List D) (vs:List V) (f:List Addr),Bc ds=true->aO K H F ds vs f->f=[]/\aO K H' F ds vs []
|[],vs,f,_,h=>⟨h.2,h.1,rfl⟩
|d::ds,vs,f,e,h=>by
 obtain⟨e1,e2⟩:=band' (show(Bb d&&Bc ds)=true from e);obtain⟨v,r,f1,f2,h1,rfl,h3,h4⟩:=h;obtain⟨rfl,q1⟩:=bg.flat d v f1 e1 h3;obtain⟨rfl,q2⟩:=aO.flat ds r f2 e2 h4;exact⟨rfl,v,r,[],[],h1,rfl,q1,q2⟩
end
theorem aO.pV[DecidableEq κ]{kk:κ}(hd:bg K H F d v []):∀{ds:List D}{kvs:List (κ×V)}{fs:List Addr},aO K H F ds (kvs.map (·.2)) fs->∃fs',aO K H F (L3.pV (kvs.map (·.1)) ds kk d) ((kvs.map fun kv=>if kv.1=kk then(kv.1,v)else kv).map (·.2)) fs'/\fs'.Sublist fs
|[],[],_,h=>⟨[],⟨rfl,rfl⟩,by rw[h.2];exact yV _⟩
|[],_::_,_,h=>by cases h.1
|_::_,[],_,h=>by
 obtain⟨_,_,_,_,z,_⟩:=h;cases z
|e::ds,(k,w)::kvs,_,h=>by
 obtain⟨u,r,f1,f2,z,rfl,h3,h4⟩:=h;simp only[bD]at z;injection z with z1 z2;subst z1 z2;obtain⟨fs',q1,q2⟩:=aO.pV hd h4;simp only[bD,L3.pV];by_cases hk:k=kk
 ·rw[if_pos hk,if_pos hk];exact⟨fs',⟨v,_,[],fs',rfl,rfl,hd,q1⟩,q2.trans (List.sublist_append_right f1 f2)⟩
 ·rw[if_neg hk,if_neg hk];exact⟨f1++fs',⟨w,_,f1,fs',rfl,rfl,h3,q1⟩,K1 (yV _) q2⟩
theorem Zu[Ex](ZW:dP K ZU Y){g:CG}(I:be K F0 H0 L O F H fp)(lg:YN g=true)(lt:cO e=true)(h:b_ K F0 H0 (pA ZU g e L) X):wE K Y Ex.E e O H fun x H1=>wG K Y Ex.E g x O H1 X.nx:=by
 cases g with
 |name i=>
  rcases lZ (show b_ K F0 H0 ((pE ZU e L).a7 fun d=>.nx ((iJ (cE e) (aL d) L).set i (some d))) X from h)with⟨x,e1,hx⟩|⟨d,e1,h⟩
  ·exact xr ZW I lt e1 hx
  exact z8 ZW I lt e1 fun v F1 H1 fp1 f I1 V1=>h _ F1 H1 _ (I1.set V1 i)
 |tup gs=>
  rcases lZ (show b_ K F0 H0 ((pE ZU e L).a7 fun d=>(pG (.tup gs) d (iJ (cE e) (aL d) L)).a7 .nx) X from h)with⟨x,e1,hx⟩|⟨d,e1,h⟩
  ·exact xr ZW I lt e1 hx
  obtain⟨ZZ,e2,h⟩:=FY h (FZ _ _ _);refine z8 ZW I lt e1 fun v F1 H1 fp1 f I1 V1=>?_;exact Wt (.tup gs) I1 V1 e2 fun ZV fp' I' _=>h ZV _ H1 fp' I'
 |sub o i=>
  obtain⟨_,li⟩:=band' (show(cO o&&cO i)=true from lg);cases o with
  |var k=>
   rcases lZ (show b_ K F0 H0 ((pE ZU e L).a7 fun d=>(pE ZU i (iJ (cE e) (aL d) L)).ju false fun j=>match L[k]? with
    |some (some x)=>if(aL d||!(cE e).contains k)=true then(R.opt (putIn x d j)).a7 fun x'=>.nx ((iJ (cE e) (aL d) L).set k (some x'))else .bad
    |_=>.bad) X from h)with⟨x,e1,hx⟩|⟨d,e1,h⟩
   ·exact xr ZW I lt e1 hx
   obtain⟨j,e2,h⟩:=uP h;cases q:L[k]? with
   |none=>simp only[q]at h;exact h.elim
   |some o=>
    cases o with
    |none=>simp only[q]at h;exact h.elim
    |some x=>
     simp only[q]at h;by_cases c:(aL d||!(cE e).contains k)=true
     ·rw[if_pos c]at h;obtain⟨x',e3,h⟩:=FY h bE.opt;have e3:=oY e3;refine z8 ZW I lt e1 fun v F1 H1 fp1 f I1 V1=>?_;show jc O k fun x=>wE K Y Ex.E i O H1 fun y H2=>match x with
       |.ref a=>match H2 a with
        |some (.lst xs)=>∃k j,y=.int k/\fL xs.length k=some j/\X.nx O (upd H2 a (.lst (xs.set j v)))
        |some (.dK kvs)=>∃k,y=kV k/\kvs.length<aa/\X.nx O (upd H2 a (.dK (putK kvs k v)))
        |some (.dT kvs)=>∃k b,y=.ref b/\H2 b=some (.tup (k.map kV))/\kvs.length<aa/\X.nx O (upd H2 a (.dT (putK kvs k v)))
        |_=>False
       |_=>False
      have nd1:∀{F2 H2:Hp}{a0:Addr}{fs1:List Addr},be K F0 H0 (iJ (cE e) (aL d) L) O F2 H2 fp1->j_ K H0 F2 H2 fp1 d v f->fp1 k=a0::fs1->(fs1++f).Nodup:=fun I2 V2 t5=>by
       have n:=I2.nd k;rw[t5]at n;refine a6.mpr ⟨(bF.mp n).2,V2.nd,fun a ha b hb z=>?_⟩;subst z;exact V2.dis k a hb (by rw[t5];exact ai _ ha)
      have q1:(iJ (cE e) (aL d) L)[k]?=some (some x):=by rw[Co c];exact q
      cases x with
      |lst o xs=>
       cases o with
       |false=>cases e3
       |true=>
        cases j with
        |int j=>
         have e3:(fL xs.length j).map (fun n=>D.lst true (xs.set n d))=some x':=e3;cases en:fL xs.length j with
         |none=>rw[en]at e3;cases e3
         |some n=>
          rw[en]at e3;cases e3;obtain⟨a0,us,fs,s1,s2,s3,s4,s5⟩:=I1.lst q1;refine slot_of s1 (Wu ZW I1 V1 li e2 fun w F2 H2 I2 V2 rj=>?_);have rj:w=.int j:=rj rfl rfl;subst rj;obtain⟨a1,us1,fs1,t1,t2,t3,t4,t5⟩:=I2.lst q1;rw[s1]at t1;cases t1;simp only[t2];refine⟨j,n,rfl,by rw[t4.len];exact en,?_⟩;obtain⟨fs',q1,q2,q3⟩:=aO.set n t4 V2.r (nd1 I2 V2 t5);obtain⟨fp',I'⟩:=I2.Bd (xs:=xs) (xs':=xs.set n d) (vs:=us1) (vs':=us1.set n v) (fs:=fs1) (fs':=fs') V2 s1 t5 (by rw[nP];exact t3)
           (fun h1 h2=>aO.mono (aW.refl _) _ _ _ (fun b hb=>by
            rcases q3 b hb with z|z
            ·exact h1 b z
            ·exact h2 b z) q1) q2 q3
          exact h O F2 _ fp' I'
        |_=>cases e3
      |bY o ks xs=>
       cases o with
       |false=>cases e3
       |true=>
        have e3:Po ks xs d j=some x':=e3;unfold Po at e3;cases ek:j8 j with
        |none=>simp only[ek]at e3;cases e3
        |some kk=>
         simp only[ek]at e3;by_cases c0:ks.length<aa
         ·rw[if_pos c0]at e3;obtain⟨a0,us,fs,s1,s2,s3,s4,s5,s6⟩:=I1.bY q1;refine slot_of s1 (Wu ZW I1 V1 li e2 fun w F2 H2 I2 V2 rj=>?_);have hj:aL j=true:=by cases j<;>first|rfl|(cases ek)
          have rj:=rj rfl hj;have rk:=k8 rj ek;have rl:keyOk kk=true:=by
           cases j<;>first|(cases ek;exact decide_eq_true rj.2)|(cases ek;rfl)|(cases ek)
          subst rk;obtain⟨a1,us1,fs1,t1,t2,t3,t4,t5,t6⟩:=I2.bY q1;rw[s1]at t1;cases t1;simp only[t2];have hlen:us1.length<aa:=by
           have z:us1.length=ks.length:=by rw[<-t4.1,ah]
           omega
          refine⟨kk,rfl,hlen,?_⟩;have hany:(us1.any fun kv=>decide (kv.1=kk))=pU ks kk:=by
           rw[<-t4.1];unfold pU;rw[sJ];rfl
          by_cases hh:pU ks kk=true
          ·rw[if_pos hh]at e3;by_cases hf:Bb d=true
           case neg=>rw[if_neg hf]at e3;cases e3
           rw[if_pos hf]at e3;cases e3;have e5:putK us1 kk v=us1.map (fun kv=>if kv.1=kk then(kv.1,v)else kv):=by
            unfold putK;rw[hany,if_pos hh]
           rw[e5];obtain⟨ef,hd⟩:=bg.flat (H':=H2) d v f hf V2.r;subst ef;obtain⟨fs',w1,w2⟩:=aO.pV (kk:=kk) hd t5;rw[t4.1]at w1;have hm:(us1.map fun kv=>if kv.1=kk then(kv.1,v)else kv).map (·.1)=ks:=by
            rw[bK,<-t4.1];apply kQ;intro kv _;show(if kv.1=kk then(kv.1,v)else kv).1=kv.1;split<;>rfl
           have n:=I2.nd k;rw[t6]at n;have n:=(bF.mp n).2;obtain⟨fp',I'⟩:=I2.So (ks:=ks) (xs':=pV ks xs kk d) (kvs':=us1.map fun kv=>if kv.1=kk then(kv.1,v)else kv) (fs:=fs1) (fs':=fs') V2 s1 t6 (by rw[ah];exact t3)
            ⟨hm,t4.2⟩ (fun h1 _=>aO.mono (aW.refl _) _ _ _ (fun b hb=>h1 b (w2.subset hb)) w1) (w2.nodup n) (fun b hb=>.inl (w2.subset hb))
           exact h O F2 _ fp' I'
          ·rw[if_neg hh]at e3;cases e3;have e5:putK us1 kk v=us1++[(kk,v)]:=by
            unfold putK;rw[hany,if_neg hh]
           rw[e5];obtain⟨fp',I'⟩:=I2.So (ks:=ks++[kk]) (xs':=xs++[d]) (kvs':=us1++[(kk,v)]) (fs:=fs1) (fs':=fs1++f) V2 s1 t6 (by simp;omega)
            ⟨by rw[a_,t4.1];rfl,by
             have z:=t4.2;unfold keysOk at z ⊢;rw[List.all_append,z];simp[rl]⟩
            (fun h1 h2=>by
             rw[a_];exact aO.app (aO.mono (aW.refl _) _ _ _ h1 t5) (aO.one (bg.mono (aW.refl _) _ _ _ h2 V2.r))) (nd1 I2 V2 t6) (fun b hb=>aD.mp hb)
           exact h O F2 _ fp' I'
         ·rw[if_neg c0]at e3;cases e3
      |_=>cases e3
     ·rw[if_neg c]at h;exact h.elim
  |_=>exact h.elim
theorem c8(f:α->D)(h:∀a,br (f a)=f a):∀l:List α,aA (l.map f)=l.map f
|[]=>rfl
|a::r=>by show br (f a)::aA (r.map f)=_;rw[h a,c8 f h r];rfl
theorem Du:∀(ds:List D) (n:Nat),aA ds=ds->aA (kT n ds)=kT n ds
|[],_,_=>rfl
|d::r,n,h=>by
 have h':br d::aA r=d::r:=h;injection h' with h1 h2;show D.tup [.int (n:Int),br d]::aA (kT (n+1) r)=_;rw[h1,Du r (n+1) h2];rfl
theorem Wx{items:Bool×List D}(h:pI ZU src L=.ok items):aA items.2=items.2:=by
 cases src with
 |seq a=>
  obtain⟨x,e1,e2⟩:=cz h;obtain⟨ds,e3,e4⟩:=cz e2;cases e4;cases x with
  |str z=>cases e3;exact c8 _ (fun _=>rfl) _
  |lst o xs=>cases e3;exact iH xs
  |tup xs=>cases e3;exact iH xs
  |_=>cases e3
 |range as=>
  obtain⟨x,e1,e2⟩:=cz h;obtain⟨ds,e3,e4⟩:=cz e2;cases e4;unfold rH at e3;split at e3
  ·obtain⟨_,e5⟩:=jL e3;cases e5;exact c8 _ (fun _=>rfl) _
  ·obtain⟨_,e5⟩:=jL e3;cases e5;exact c8 _ (fun _=>rfl) _
  ·cases e3
 |enum a=>
  obtain⟨x,e1,e2⟩:=cz h;cases x with
  |lst o xs=>cases e2;exact Du _ 0 (iH xs)
  |_=>cases e2
theorem Bg[Ex]{g:CG}{b:bW}{B:Hp}(hok:∀H'',aW B H''->ok H'')
 (hb:∀{L:bf}{O:L2.St}{F H:Hp}{fp:Nat->List Addr}{X:Ends},be K B H0 L O F H fp->b_ K B H0 (bq ZU n b L) X->wSs K Y Ex.E b X O H) :
 ∀(ds:List D) (its:List Item) {L:bf}{O:L2.St}{F H:Hp}{fp:Nat->List Addr},be K B H0 L O F H fp->jK K B ds its->b_ K B H0 (forR (pG g) (bq ZU n b) (aA ds) L) X->forL ok (wG K Y Ex.E g) (wSs K Y Ex.E b) X its O H
|[],its,L,O,F,H,fp,I,hi,h=>by
 cases hi;exact⟨hok H (I.g.f.trans I.g.s),h O F H fp I⟩
|d::ds,its,L,O,F,H,fp,I,hi,h=>by
 obtain⟨it,r,rfl,i1,i2⟩:=hi;have hit:Wk K F d it:=by
  cases it with
  |v x=>exact aY.mono I.g.f d x i1
  |tup xs=>obtain⟨es,q1,q2,q3⟩:=i1;exact⟨es,q1,aN.mono I.g.f es xs q2,q3⟩
 refine⟨hok H (I.g.f.trans I.g.s),Dr I.g.s hit fun F1 H1 v g1 r1=>?_⟩;obtain⟨ZZ,e1,h⟩:=FY (show b_ K B H0 ((pG g (br d) L).a7 fun ZZ=>match bq ZU n b ZZ with
  |.nx ZY=>forR (pG g) (bq ZU n b) (aA ds) ZY
  |.ct ZY=>forR (pG g) (bq ZU n b) (aA ds) ZY
  |.bk ZY=>.nx ZY
  |.rt d=>.rt d
  |.ex x=>.ex x
  |.bad=>.bad) X from h) (FZ _ _ _)
 refine ruG' g (I.grow g1) r1 e1 fun ZV fp' I'=>?_;refine hb I' ?_;cases q:bq ZU n b ZZ with
 |nx ZY=>simp only[q]at h;exact fun O F H fp I3=>Bg hok hb ds r I3 i2 h
 |ct ZY=>simp only[q]at h;exact fun O F H fp I3=>Bg hok hb ds r I3 i2 h
 |bk ZY=>simp only[q]at h;exact h
 |rt d=>simp only[q]at h;exact h
 |ex x=>simp only[q]at h;exact h
 |bad=>simp only[q]at h;exact h.elim
end
variable{F0 H0:Hp}
theorem be.drop{O:L2.St}{fp:Nat->List Addr}{i:Nat}{w:Option V}(I:be K F0 H0 L O F H fp):be K F0 H0 (L.set i none) (O.set i w) F H fp where
 g:=I.g
 len:=by simp[I.len]
 rep:=fun j d e=>by
  by_cases hij:i=j
  ·subst hij;rw[fu]at e;split at e
   ·split at e<;>cases e
   ·rename_i z;exact absurd rfl z
  ·rw[bR hij]at e ⊢;exact I.rep j d e
 ex:=I.ex
 nd:=I.nd
 nf:=I.nf
 nh:=I.nh
 dis:=I.dis
variable{ZU:List PG}{s:CS}
theorem Yb[Ex]{Y:List G}{O:L2.St}{fp:Nat->List Addr}{X:Ends}(ZW:dP K ZU Y){t:CS}(I:be K F0 H0 L O F H fp)(lt:xq t=true)(h:b_ K F0 H0 (vF ZU s t L) X):wS K Y Ex.E s { X with nx:=wS K Y Ex.E t X } O H:=by
 unfold vF at h;split at h
 ·rename_i j o i a;split at h
  ·rename_i hij;subst hij;split at h
   ·rename_i p ep;unfold Cm at h;split at h
    ·rename_i x ex;split at h
     ·rename_i ys eg;split at h
      ·rename_i hl;have hi:i<O.length:=by rw[<-I.len];exact hl
       obtain⟨v,hv,rx⟩:=I.rep _ _ ex;obtain⟨c,ws,f2,c1,c2,c4,c6,c7,c5⟩:=rO p.2 I.g.s rx eg (I.nd _);obtain⟨_,lt2⟩:=band' (show(cO (.var i)&&jI (.cons a .nil))=true from lt);obtain⟨la,_⟩:=band' (show(cO a&&jI .nil)=true from lt2);show wE K Y Ex.E o O H fun v H1=>wE K Y Ex.E (.mth .append (.var i) (.cons a .nil)) (O.set i (some v)) H1 fun _ H2=>X.nx (O.set i (some v)) H2;refine F6 I o (show ny L o=some (p.1,p.2)from ep) hv c4 ?_;refine slot_of (cW hi) ⟨?_,?_⟩
       ·show gU H c;unfold gU;rw[c2];trivial
       ·simp only[wEs];have env:iR K (adopt F H (ownAt fp (p.1::cE a))) H (cE a) (L.set i (some (.lst true ys))) (O.set i (some (.ref c))):=⟨fun b hb d e=>by
         by_cases hbi:b=i
         ·subst hbi;rw[cW hl]at e;cases e;exact⟨.ref c,cW hi,bg.fix (cU I.g.s) _ _ f2 (fun a ha=>iQ (d8.mpr ⟨p.1,ao,c7 a ha⟩)) c6⟩
         ·rw[bR (dm hbi)]at e ⊢;exact(I.env (p.1::cE a)).e b (ai _ hb) d e,fun b d e=>by
         by_cases hbi:b=i
         ·subst hbi;rw[cW hl]at e;cases e;exact⟨.ref c,adopt F H (ownAt fp (p.1::cE a)),cW hi,eN I.g.s,bg.fix (cU I.g.s) _ _ f2 (fun a ha=>iQ (d8.mpr ⟨p.1,ao,c7 a ha⟩)) c6⟩
         ·rw[bR (dm hbi)]at e ⊢;exact(I.env []).n b d e⟩
        refine fW ZW a env (eN I.g.s) la ?_;rcases lZ h with⟨x0,e1,hx⟩|⟨d,e1,h⟩
        ·rw[e1];exact jJ.grow (K:=K) (x:=x0) hx (I.own (p.1::cE a))
        ·rw[e1];intro F' H' u f g fr r;split at h
         ·rename_i ho;cases e3:cG p.2 x d with
          |none=>rw[e3]at h;exact h.elim
          |some x'=>
           rw[e3]at h;have h:b_ K F0 H0 (.nx ((L.set p.1 (some x')).set i none)) X:=h;obtain⟨c3,c5⟩:=c5 e3;have I1:=I.back g;have V1:j_ K H0 (minus F' (ownAt fp (p.1::cE a))) H' fp d u f:=⟨bg.less (lF g.s ((I.lists _).mono g.h)) d u f ho r,fr.nd,fun a ha=>aW.none (j5 _ _) (fr.nf a ha),fun a ha=>aW.none I.g.h (fr.nh a ha),fun i a ha hb=>by
            obtain⟨o,e,_⟩:=I.ex i a hb;rw[fr.nh a ha]at e;cases e⟩
           have sF:aW F (minus F' (ownAt fp (p.1::cE a))):=fun b o q=>by
            have hb:b∉ownAt fp (p.1::cE a):=fun z=>by
             obtain⟨i,_,hb⟩:=d8.mp z;rw[I.nf i b hb]at q;cases q
            rw[fy hb];exact g.f b o (cU I.g.s b o q)
           show(match H' c with|some (.lst xs)=>xs.length<aa/\X.nx (O.set i (some (.ref c))) (upd H' c (.lst (xs++[u])))|_=>False);rw[g.h _ _ c2];refine⟨c3,?_⟩;have hcf:c∉f:=fun z=>V1.dis p.1 c z c1;obtain⟨fs',g1,g2,g3⟩:=c5 (H':=upd H' c (.lst (ws++[u]))) sF (bg.mono (aW.refl _) _ _ _ (fun b hb=>bw fun z=>hcf (by rw[<-z];exact hb)) V1.r) V1.nd (fun b hb=>V1.dis p.1 b hb) (fun b hb hc=>by
            rw[bw hc];obtain⟨o,eo,_⟩:=I.ex p.1 b hb;rw[eo,g.h b o eo]) dG
           refine h _ _ _ _ (I1.put c1 hv g1 g2 (fun b hb=>?_) (fun b hb=>?_) fun i hi b hb z=>?_).drop
           ·rcases g3 b hb with q|q
            ·exact I1.nf p.1 b q
            ·exact V1.nf b q
           ·rcases g3 b hb with q|q
            ·exact I1.nh p.1 b q
            ·exact V1.nh b q
           ·rcases g3 b hb with q|q
            ·exact hi (I1.dis i p.1 b z q)
            ·exact V1.dis i b q z
         ·exact h.elim
      ·exact h.elim
     ·exact h.elim
    ·exact h.elim
   ·exact h.elim
  ·exact h.elim
 ·exact h.elim
section
variable{K:PySem.W.Frag}{ZU:List PG}{Y:List G}{F0 H0 F H:Hp}{L:bf}{O:L2.St}{fp:Nat->List Addr}{X:Ends}
theorem L6[Ex](ZW:dP K ZU Y){w:CE}{k j:Nat}{is js:List Int}{c:Addr}{t:Bool}(la:cO a=true)(hw:z6 w=some (j,js))(hkj:k≠j)(hok:∀H,gC H c=some (t,vs)->ok H) :
 ∀(us:List V) (n:Nat) {L:bf}{O:L2.St}{F H:Hp}{fp:Nat->List Addr},vs.drop n=us->be K F0 H0 L O F H fp->j<O.length->L.set j none=L->O[k]?=some (some v)->Reach K H v is (.ref c)->gC H c=some (t,vs)->
 b_ K F0 H0 (pW ZU a k is js us.length n L) X->forL ok (wG K Y Ex.E (.name j)) (wSs K Y Ex.E (.cons (.expr (.mth .append w (.cons a .nil))) .nil)) X (us.map .v) O H
|[],n,L,O,F,H,fp,_,I,lj,hj,hk,hr,hs,h=>⟨hok H hs,h O F H fp I⟩
|u::us,n,L,O,F,H,fp,hd,I,lj,hj,hk,hr,hs,h=>by
 refine⟨hok H hs,?_⟩;show wE K Y Ex.E (.mth .append w (.cons a .nil)) (O.set j (some u)) H fun _ H1=>forL ok (wG K Y Ex.E (.name j)) (wSs K Y Ex.E (.cons (.expr (.mth .append w (.cons a .nil))) .nil)) X (us.map .v) (O.set j (some u)) H1;have I':be K F0 H0 L (O.set j (some u)) F H fp:=by have:=I.drop (i:=j) (w:=some u);rw[hj]at this;exact this
 have hk':(O.set j (some u))[k]?=some (some v):=by rw[bR (dm hkj)];exact hk
 obtain⟨d,e1,h⟩:=uP (show b_ K F0 H0 ((pE ZU a L).ju false fun d=>match L[k]? with
  |some (some x)=>if aL d=true then(R.opt (cG (is++(n:Int)::js) x d)).a7 fun x'=>pW ZU a k is js us.length (n+1) (L.set k (some x'))else .bad
  |_=>.bad) X from h)
 split at h
 ·rename_i x ex;split at h
  ·rename_i ho;cases e3:cG (is++(n:Int)::js) x d with
   |none=>rw[e3]at h;exact h.elim
   |some x'=>
    rw[e3]at h;have h:b_ K F0 H0 (pW ZU a k is js us.length (n+1) (L.set k (some x'))) X:=h;obtain⟨v',hv,rx⟩:=I'.rep _ _ ex;rw[hk']at hv;cases hv;obtain⟨ys,eg⟩:=Cp _ e3;obtain⟨c',ws,f2,c1,c2,c4,_,_,c5⟩:=rO _ I'.g.s rx eg (I'.nd _);obtain⟨_,off⟩:=F8 _ I'.g.s rx eg (I'.nd _) c4;obtain⟨c3,c5⟩:=c5 e3;obtain⟨u1,d1,d2⟩:=Reach.split c4;cases Reach.det d1 hr;obtain⟨a',t',xs',u2,d3,d4,d5,d6⟩:=d2;cases d3;rw[hs]at d4;cases d4;have hn:eZ vs (n:Int)=some u:=by
     have hl:n<vs.length:=by
      have:=congrArg zz hd;simp at this;omega
     refine rJ (j:=n) ?_ ?_
     ·unfold fL;simp[hl]
     ·have:=yl (xs:=vs) (i:=n) (j:=0);rw[hd]at this;simpa using this.symm
    rw[hn]at d5;cases d5;refine F6 I' w (F_ hw) (cW lj) d6 ⟨?_,?_⟩
    ·show gU H c';unfold gU;rw[c2];trivial
    ·simp only[wEs];refine Ww ZW I' la e1 fun y F1 H1 I1 sF sH V1=>?_;obtain⟨f,V1⟩:=V1 ho;show(match H1 c' with|some (.lst xs)=>xs.length<aa/\forL ok (wG K Y Ex.E (.name j)) (wSs K Y Ex.E (.cons (.expr (.mth .append w (.cons a .nil))) .nil)) X (us.map .v) (O.set j (some u)) (upd H1 c' (.lst (xs++[y])))|_=>False);rw[sH _ _ c2];refine⟨c3,?_⟩;have hcf:c'∉f:=fun z=>V1.dis k c' z c1;obtain⟨fs',g1,g2,g3⟩:=c5 (H':=upd H1 c' (.lst (ws++[y]))) sF (bg.mono (aW.refl _) _ _ _ (fun b hb=>bw fun z=>hcf (by rw[<-z];exact hb)) V1.r) V1.nd (fun b hb=>V1.dis k b hb) (fun b hb hc=>by
      rw[bw hc];obtain⟨o,eo,_⟩:=I'.ex k b hb;rw[eo,sH b o eo]) dG
     refine L6 ZW la hw hkj hok us (n+1) (by rw[<-List.drop_drop,hd];rfl) (I1.put c1 hk' g1 g2 (fun b hb=>?_) (fun b hb=>?_) fun i hi b hb z=>?_) (by simpa using lj) ?_ hk' (Reach.upd sH hr fun p m q b e=>off p m (q++(n:Int)::js) b (by rw[e];simp)) ?_ h
     ·rcases g3 b hb with q|q
      ·exact I1.nf k b q
      ·exact V1.nf b q
     ·rcases g3 b hb with q|q
      ·exact I1.nh k b q
      ·exact V1.nh b q
     ·rcases g3 b hb with q|q
      ·exact hi (I1.dis i k b z q)
      ·exact V1.dis i b q z
     ·rw[List.set_comm _ _ hkj,hj]
     ·rw[F7 (off is n js c rfl hr)];exact Dt sH hs
  ·exact h.elim
 ·exact h.elim
theorem Yc[Ex](ZW:dP K ZU Y)(I:be K F0 H0 L O F H fp)(lt:xq s=true)(h:b_ K F0 H0 (um ZU s L) X):wS K Y Ex.E s X O H:=by
 unfold um at h;split at h
 ·rename_i j o w a;unfold Wr at h;split at h
  ·rename_i p ep;split at h
   ·rename_i q hw;split at h
    ·rename_i hc;simp only[aU,decide_eq_true_eq]at hc;obtain⟨⟨hj,hkj⟩,hl⟩:=hc;split at h
     ·rename_i x ex;cases em:qJ p.2 x with
      |none=>rw[em]at h;exact h.elim
      |some m=>
       rw[em]at h;have h:b_ K F0 H0 (pW ZU a p.1 p.2 q.2 m 0 (L.set j none)) X:=h;obtain⟨v,hv,rx⟩:=I.rep _ _ ex;obtain⟨c,t,vs,r1,r2,r3⟩:=F9 p.2 I.g.s rx em;have la:cO a=true:=by
        obtain⟨_,l2⟩:=band' (show(ltI (.seq o)&&iA (.cons (.expr (.mth .append w (.cons a .nil))) .nil))=true from lt);obtain⟨l3,_⟩:=band' (show(cO (.mth .append w (.cons a .nil))&&iA .nil)=true from l2);obtain⟨_,l4⟩:=band' (show(cO w&&jI (.cons a .nil))=true from l3);exact(band' (show(cO a&&jI .nil)=true from l4)).1
       show wE K Y Ex.E o O H fun x H1=>yy K x H1 fun ok items H1=>forL ok (wG K Y Ex.E (.name j)) (wSs K Y Ex.E (.cons (.expr (.mth .append w (.cons a .nil))) .nil)) X items O H1;refine F6 I o (show ny L o=some (p.1,p.2)from ep) hv r1 ⟨t,vs,.inl r2,?_⟩;have lj:j<O.length:=by rw[<-I.len];exact hl
       have I0:be K F0 H0 (L.set j none) O F H fp:=by
        have:=I.drop (i:=j) (w:=O.getD j none);rw[show O.set j (O.getD j none)=O from ?_]at this
        ·exact this
        ·refine List.ext_getElem? fun i=>?_;by_cases z:j=i
         ·subst z;rw[cW lj];simp[List.getD,lj]
         ·rw[bR z]
       have hw':z6 w=some (j,q.2):=by rw[hw,<-hj]
       exact L6 ZW la hw' hkj (fun H e=>.inl e) vs 0 rfl I0 lj (by simp) hv r1 r2 (by rw[r3];exact h)
     ·exact h.elim
    ·exact h.elim
   ·exact h.elim
  ·exact h.elim
 ·exact h.elim
end
mutual
theorem ruS{K:PySem.W.Frag}{ZU:List PG}{Y:List G}(ZW:dP K ZU Y)[Ex]{n:Nat}:∀(c:CS) {F0 H0 F H:Hp}{L:bf}{O:L2.St}{fp:Nat->List Addr}{X:Ends},be K F0 H0 L O F H fp->xq c=true->b_ K F0 H0 (pS ZU n c L) X->wS K Y Ex.E c X O H
|.expr e,F0,H0,F,H,L,O,fp,X,I,lt,h=>okX ZW I lt h
|.asg g e,F0,H0,F,H,L,O,fp,X,I,lt,h=>Zu ZW I (band' lt).1 (band' lt).2 h
|.casg i e,F0,H0,F,H,L,O,fp,X,I,lt,h=>by
 rcases lZ (show b_ K F0 H0 ((pE ZU e L).a7 fun d=>.nx ((iJ (cE e) (aL d) L).set i (some d))) X from h)with⟨x,e1,hx⟩|⟨d,e1,h⟩
 ·exact xr ZW I lt e1 hx
 exact z8 ZW I lt e1 fun v F1 H1 fp1 f I1 V1=>h _ F1 H1 _ (I1.set V1 i)
|.ret e,F0,H0,F,H,L,O,fp,X,I,lt,h=>X8 ZW I lt h
|.ifs c a b,F0,H0,F,H,L,O,fp,X,I,lt,h=>by
 obtain⟨l1,l2⟩:=band' (show(cO c&&(iA a&&iA b))=true from lt);obtain⟨l2,l3⟩:=band' l2;rcases lZ (show b_ K F0 H0 ((pT ZU c L).a7 fun k=>if k=true then bq ZU n a L else bq ZU n b L) X from h)with⟨x,e1,hx⟩|⟨k,e1,h⟩
 ·exact Sn ZW I l1 e1 hx
 refine Wv ZW I l1 e1 fun F1 H1 I1=>?_;cases k with
 |true=>exact rP ZW a I1 l2 h
 |false=>exact rP ZW b I1 l3 h
|.whil c b,F0,H0,F,H,L,O,fp,X,I,lt,h=>by
 obtain⟨l1,l2⟩:=band' (show(cO c&&iA b)=true from lt);refine⟨fun m O H=>∃L F fp,be K F0 H0 L O F H fp/\b_ K F0 H0 (mJ (pT ZU c) (bq ZU n b) m L) X,⟨n,L,F,fp,I,h⟩,?_⟩;rintro m O H ⟨L,F,fp,I,h⟩;cases m with
 |zero=>exact h.elim
 |succ m=>
  rcases lZ (show b_ K F0 H0 ((pT ZU c L).a7 fun k=>if k=true then match bq ZU n b L with
   |.nx ZY=>mJ (pT ZU c) (bq ZU n b) m ZY
   |.ct ZY=>mJ (pT ZU c) (bq ZU n b) m ZY
   |.bk ZY=>.nx ZY
   |.rt d=>.rt d
   |.ex x=>.ex x
   |.bad=>.bad
   else .nx L) X from h)with⟨x,e1,hx⟩|⟨k,e1,h⟩
  ·exact Sn ZW I l1 e1 hx
  refine Wv ZW I l1 e1 fun F1 H1 I1=>?_;cases k with
  |false=>
   rw[if_neg aR]at h;rw[if_neg aR];exact h O F1 H1 fp I1
  |true=>
   rw[if_pos rfl]at h;rw[if_pos rfl];refine⟨fun O H=>∃L F fp,be K F0 H0 L O F H fp/\b_ K F0 H0 (mJ (pT ZU c) (bq ZU n b) m L) X,fun ZV H' z=>⟨m,kj m,z⟩,?_⟩;refine rP (n:=n) ZW b I1 l2 ?_;cases q:bq ZU n b L with
   |nx ZY=>simp only[q]at h;exact fun O F H fp I3=>⟨ZY,F,fp,I3,h⟩
   |ct ZY=>simp only[q]at h;exact fun O F H fp I3=>⟨ZY,F,fp,I3,h⟩
   |bk ZY=>simp only[q]at h;exact h
   |rt d=>simp only[q]at h;exact h
   |ex x=>simp only[q]at h;exact h
   |bad=>simp only[q]at h;exact h.elim
|.forr g src b,F0,H0,F,H,L,O,fp,X,I,lt,h=>by
 obtain⟨l1,l2⟩:=band' (show(ltI src&&iA b)=true from lt);rcases lZ (show b_ K F0 H0 ((pI ZU src L).a7 fun items=>forR (pG g) (bq ZU n b) items.2 (iJ (uM src) items.1 L)) X from h)with⟨x,e1,hx⟩|⟨items,e1,h⟩
 ·exact X7 ZW I l1 e1 hx
 refine Wq ZW src (ownAt fp (uM src)) (I.env (uM src)) (eN I.g.s) (I.lists _) l1 ?_;rw[e1];intro F' H' ok its g1 hok hi hl;obtain⟨fp',I'⟩:∃fp',be K F0 H0 (iJ (uM src) items.1 L) O (qH items.1 F' (ownAt fp (uM src))) H' fp':=by
  cases items.1 with
  |true=>exact⟨fp,I.back g1⟩
  |false=>exact⟨_,I.Ws g1⟩
 have hf:aA items.2=items.2:=Wx e1;have h:=b_.rebase I'.g h;rw[<-hf]at h;exact Bg hok (fun I3 h3=>rP ZW b I3 l2 h3) items.2 its I'.rebase hi h
|.fork g k b,F0,H0,F,H,L,O,fp,X,I,lt,h=>by
 have h:b_ K F0 H0 (match L[k]? with
  |some (some (.bY true ks xs))=>forR (pG g) (bq ZU n b) (ks.map ee) (L.set k (some (.pdc ks (aA xs))))
  |some (some (.pdc ks xs))=>forR (pG g) (bq ZU n b) (ks.map ee) L
  |_=>.bad) X:=h
 have l2:iA b=true:=lt;have fk:∀ks:List Key,aA (ks.map ee)=ks.map ee:=fun ks=>c8 ee (fun a=>by cases a<;>rfl) ks;split at h
 ·rename_i ks xs q;obtain⟨a,kvs,fs,s1,s2,s3,s4,s5,s6⟩:=I.bY q;refine slot_of s1 (.inr ⟨kvs,s2,fun ob=>?_⟩);obtain⟨F1,fp1,I1,hp⟩:=I.pin q s1 s2 s3 s4 s5 s6 ob;have h:=b_.rebase I1.g h;rw[<-fk]at h;have hi:jK K F1 (ks.map ee) (nc kvs):=by rw[<-s4.1];exact z5 kvs (by rw[s4.1];exact s4.2)
  exact Bg (fun H'' s''=>s'' _ _ hp) (fun I3 h3=>rP ZW b I3 l2 h3) _ _ I1.rebase hi h
 ·rename_i ks xs q;obtain⟨v,s1,r⟩:=I.rep k _ q;obtain⟨⟨a,kvs,rfl,⟨ob,h2⟩,h3,h4,h5⟩,_⟩:=r;refine slot_of s1 (.inl ⟨ob,kvs,I.g.s _ _ h2,?_⟩);have h:=b_.rebase I.g h;rw[<-fk]at h;have hi:jK K F (ks.map ee) (nc kvs):=by rw[<-h4.1];exact z5 kvs (by rw[h4.1];exact h4.2)
  exact Bg (fun H'' s''=>s'' _ _ h2) (fun I3 h3=>rP ZW b I3 l2 h3) _ _ I.rebase hi h
 ·exact h.elim
|.brk,F0,H0,F,H,L,O,fp,X,I,lt,h=>h O F H fp I
|.cont,F0,H0,F,H,L,O,fp,X,I,lt,h=>h O F H fp I
|.never,F0,H0,F,H,L,O,fp,X,I,lt,h=>h.elim
theorem rP{K:PySem.W.Frag}{ZU:List PG}{Y:List G}(ZW:dP K ZU Y)[Ex]{n:Nat}:∀(c:bW) {F0 H0 F H:Hp}{L:bf}{O:L2.St}{fp:Nat->List Addr}{X:Ends},be K F0 H0 L O F H fp->iA c=true->b_ K F0 H0 (bq ZU n c L) X->wSs K Y Ex.E c X O H
|.nil,F0,H0,F,H,L,O,fp,X,I,lt,h=>h O F H fp I
|.cons s r,F0,H0,F,H,L,O,fp,X,I,lt,h=>by
 obtain⟨l1,l2⟩:=band' (show(xq s&&iA r)=true from lt);have h:b_ K F0 H0 (match pS ZU n s L with|.nx ZV=>bq ZU n r ZV|x=>x) X:=h;refine ruS (n:=n) ZW s I l1 ?_;cases q:pS ZU n s L with
 |nx ZV=>simp only[q]at h;exact fun O F H fp I'=>rP ZW r I' l2 h
 |bk ZV=>simp only[q]at h;exact h
 |ct ZV=>simp only[q]at h;exact h
 |rt d=>simp only[q]at h;exact h
 |ex x=>simp only[q]at h;exact h
 |bad=>simp only[q]at h;exact h.elim
|.two s t r,F0,H0,F,H,L,O,fp,X,I,lt,h=>by
 obtain⟨l1,l2⟩:=band' (show(xq s&&(xq t&&iA r))=true from lt);obtain⟨l2,l3⟩:=band' l2;have h:b_ K F0 H0 (match vF ZU s t L with|.nx ZV=>bq ZU n r ZV|x=>x) X:=h;show wS K Y Ex.E s { X with nx:=wS K Y Ex.E t { X with nx:=wSs K Y Ex.E r X } } O H;refine Yb (X:={ X with nx:=wSs K Y Ex.E r X }) ZW I l2 ?_;cases q:vF ZU s t L with
 |nx ZV=>simp only[q]at h;exact fun O F H fp I'=>rP ZW r I' l3 h
 |bk ZV=>simp only[q]at h;exact h
 |ct ZV=>simp only[q]at h;exact h
 |rt d=>simp only[q]at h;exact h
 |ex x=>simp only[q]at h;exact h
 |bad=>simp only[q]at h;exact h.elim
|.chg s r,F0,H0,F,H,L,O,fp,X,I,lt,h=>by
 obtain⟨l1,l2⟩:=band' (show(xq s&&iA r)=true from lt);have h:b_ K F0 H0 (match um ZU s L with|.nx ZV=>bq ZU n r ZV|x=>x) X:=h;refine Yc (X:={ X with nx:=wSs K Y Ex.E r X }) ZW I l1 ?_;cases q:um ZU s L with
 |nx ZV=>rw[q]at h;exact fun O F H fp I'=>rP ZW r I' l2 h
 |ct ZV=>rw[q]at h;exact h
 |bk ZV=>rw[q]at h;exact h
 |rt d=>rw[q]at h;exact h
 |ex x=>rw[q]at h;exact h
 |bad=>rw[q]at h;exact h.elim
|.pin k r,F0,H0,F,H,L,O,fp,X,I,lt,h=>by
 have h:b_ K F0 H0 (match L[k]? with|some (some (.bY true ks xs))=>bq ZU n r (L.set k (some (.pdc ks (aA xs))))|_=>.bad) X:=h;split at h
 ·rename_i ks xs q;obtain⟨a,kvs,fs,s1,s2,s3,s4,s5,s6⟩:=I.bY q;refine slot_of s1 ⟨a,kvs,rfl,s2,fun ob=>?_⟩;obtain⟨F1,fp1,I1,hp⟩:=I.pin q s1 s2 s3 s4 s5 s6 ob;exact rP ZW r I1 (show iA r=true from lt) h
 ·exact h.elim
end
theorem Ud[Ex]{K:PySem.W.Frag}{ZU:List PG}{Y:List G}(ZW:dP K ZU Y){n:Nat}{N:List Str}{c:bW}(lt:iA c=true){m:List D->R D}{vs:List V}{H:Hp}{Q:VK}(hm:∀ds,m ds≠.bad->ds.length<=N.length/\FT ZU n N c ds=m ds)
  (h:∃F ds,aW F H/\aA ds=ds/\aN K F ds vs/\PV K F H (m ds) Q):wSs K Y Ex.E c { nx:=fun _ H'=>Q .non H',rt:=Q } (vs.map some++aQ (N.length-vs.length) none) H:=by
 obtain⟨F,ds,s,hz,r,h⟩:=h;have hb:m ds≠.bad:=fun z=>by rw[z]at h;exact h
 obtain⟨hl,hr⟩:=hm ds hb;rw[<-hr]at h;have I:be K F H (uO N ds) (vs.map some++aQ (N.length-vs.length) none) F H (fun _=>[]):=by
  refine⟨bO.refl s,?_,fun i d' q=>?_,fun _ _ ha=>absurd ha aJ,fun _=>gS,fun _ _ ha=>absurd ha aJ,fun _ _ ha=>absurd ha aJ,fun _ _ _ ha=>absurd ha aJ⟩
  ·unfold uO;simp[r.len]
  ·unfold uO at q;by_cases hi:i<ds.length
   ·rw[eB (by simpa using hi),aX]at q;cases z:ds[i]? with
    |none=>rw[z]at q;cases q
    |some d2=>
     rw[z]at q;cases q;obtain⟨v,e1,e2⟩:=r.get i z;have hf:br d'=d':=by
      have:∀(l:List D) (i:Nat) (x:D),aA l=l->l[i]?=some x->br x=x:=by
       intro l;induction l with
       |nil=>intro i x _ h;simp at h
       |cons y l ih=>
        intro i x h1 h2;have h1:br y::aA l=y::l:=h1;injection h1 with h3 h4;cases i with
        |zero=>simp at h2;subst h2;exact h3
        |succ i=>exact ih i x h4 (by simpa using h2)
      exact this ds i d' hz z
     refine⟨v,?_,?_⟩
     ·rw[eB (by simp[r.len,hi]),aX,e1];rfl
     ·have:=aY.zf (H:=H) d' v e2;rw[hf]at this;exact this
   ·rw[cC (by simpa using hi)]at q;rw[sR]at q;split at q<;>cases q
 refine rP (n:=n) ZW c I lt ?_;unfold FT at h;cases q:bq ZU n c (uO N ds)with
 |nx O=>rw[q]at h;exact fun O F' H' fp I'=>h F' H' .non [] I'.g .nil ⟨rfl,rfl⟩
 |rt d'=>rw[q]at h;exact fun v F' H' f g fr rx=>h F' H' v f g fr rx
 |ex x=>rw[q]at h;exact h
 |bk O=>rw[q]at h;exact h.elim
 |ct O=>rw[q]at h;exact h.elim
 |bad=>rw[q]at h;exact h.elim
def EO(K:PySem.W.Frag)(mg:Str->Option Value)(x:Str)(st:Stmt)(ps:List Str):Prop:=
 ∃(f:Addr) (fd:gq),v5 K x x st f fd/\mg x=some (.ref f)/\Binds K fd ps []
variable{P:bx}{w:bL}{mg:Str->Option Value}{base:Heap}{st:Stmt}{ps:List Str}
theorem EO.has{k:Nat}{x:Str}{sp:Sp}(D:EO K mg x st ps)
  (hok:∀f fd,v5 K x x st f fd->gZ P w K mg base (kR P w) k f fd ps sp):FH P w K mg base k x (.fn sp []):=by
 obtain⟨f,fd,F,hm,hb⟩:=D;exact⟨f,fd,ps,[],hok f fd F,hm,F.kp,hb,.nil⟩
noncomputable def d_(ZU:List PG)(n:Nat)(N:List Str)(k:Nat)(c:bW)(ds:List D):R D:=if ds.length=k then FT ZU n N c ds else .bad
variable{fd:gq}
section
variable{P:bx}{w:bL}{K:PySem.W.Frag}{mg:Str->Option Value}{base:Heap}
theorem Yd{x qual:Str}{f:Addr}{N gl bn:List Str}{k:Nat}{Y:List G}(c:bW)(F:v5 K x qual st f fd)(S:qP N ps (di st))(hc:lE ⟨N,di st,gl,bn,(fun _=>true),true⟩ c (jH st)=true)
  (hg:zW P w K mg base k gl Y) (ZW:dP K ZU Y) (lt:iA c=true) (hb:∀x∈bn,mg x=none) (hN:ps.length<=N.length):gZ P w K mg base (kR P w) (k+1) f fd ps (FL K (d_ ZU n N ps.length c)):=by
 have hm:∀ds,d_ ZU n N ps.length c ds≠.bad->ds.length=ps.length/\FT ZU n N c ds=d_ ZU n N ps.length c ds:=by
  intro ds h;unfold d_ at h ⊢;by_cases e:ds.length=ps.length
  ·rw[if_pos e];exact⟨e,rfl⟩
  ·rw[if_neg e]at h;exact absurd rfl h
 refine Wg c F S hc hg hb ?_ ?_
 ·rintro vs H Q E ⟨Fh,ds,s,hz,r,h⟩;rw[r.len];exact(hm ds fun z=>by rw[z]at h;exact h).1
 ·intro vs H Q E h;exact@Ud ⟨E⟩ K ZU Y ZW n N c lt _ vs H Q (fun ds e=>⟨by rw[(hm ds e).1];exact hN,(hm ds e).2⟩) h
end
noncomputable def Pq:Value->Bool
|.type n=>n=="list"
|_=>false
theorem Ye{a:Addr}{xs:List V}(nk:(K.all fun p=>!Pq p.2.cls)=true)(h:gx K H a xs):Rd H a (.lst xs):=by
 rcases h with h|⟨o,its,n,hk,hc,_⟩
 ·exact h
 ·exfalso;have hm:∀(K:PySem.W.Frag),K.lookup a=some o->(a,o)∈K:=by
   intro K;induction K with
   |nil=>intro z;cases z
   |cons p r ih=>
    intro z;obtain⟨b,u⟩:=p;rw[cI]at z;split at z
    ·rename_i e;have e:=eq_of_beq e;cases z;subst e;exact ao
    ·exact ai _ (ih z)
  have q:=bH.mp nk _ (hm K hk);rw[hc]at q;exact absurd q (by decide)
noncomputable def oz(ns:List Int):D:=.lst false (ns.map D.int)
theorem Dv:∀ns:List Int,aN K H (ns.map D.int) (ns.map V.int)
|[]=>rfl
|n::r=>⟨_,_,rfl,rfl,Dv r⟩
theorem Dw:∀ns:List Int,aA (ns.map D.int)=ns.map D.int
|[]=>rfl
|n::r=>by show D.int n::aA (r.map D.int)=_;rw[Dw r];rfl
theorem Wy{k:Nat}{f:Addr}{m:List D->R D}(F:gZ P w K mg base (kR P w) k f fd ps (FL K m))
  (h:∀ns:List Int,ns.length<=63->m [oz ns]=.ok (.bl true)):gZ P w K mg base VM k f fd ps (fun vs H Q E=>∃(a:Addr) (ns:List Int),vs=[.ref a]/\Rd H a (.lst (ns.map V.int))/\ns.length<=63/\∀H',Q (.bl true) H'):=by
 refine(L3.gZ.calm F).imp ?_;rintro vs H Q E ⟨a,ns,rfl,hS,hl,q⟩;have hs:=szl;refine⟨H,[oz ns],aW.refl H,?_,⟨_,_,rfl,⟨a,ns.map V.int,rfl,hS,by rw[ah];omega,Dv ns⟩,rfl⟩,?_⟩
 ·show[D.lst false (aA (ns.map D.int))]=_;rw[Dw];rfl
 ·rw[h ns hl];intro F' H' v fp g fr r;obtain⟨rfl,_⟩:=r;exact q H'
theorem L7{a:α}{f:α->R β}:(R.ok a).bind f=f a:=rfl
theorem pq_thn_ok'{a:α}{f:α->Fl}:(R.ok a).a7 f=f a:=rfl
theorem pq_thnL_ok'{a:α}{f:α->Fl}:(R.ok a).ju b f=f a:=rfl
theorem L8{a:α}:(R.ok a).gO=R.ok a:=rfl
theorem Ue:nv (some (some (.lst true xs)))=true:=rfl
theorem Hi{a:α}:R.opt (some a)=R.ok a:=rfl
theorem Pr{r:R α}:R.a9 true r=r:=rfl
theorem L_{r:R α}(h:n<=aa):R.a9 (decide (n<=aa)) r=r:=by
 rw[decide_eq_true h];rfl
variable{j:Int}
theorem Pu:jt .Add (.int i) (.int j)=.ok (.int (i+j)):=rfl
theorem Pw:jt .Sub (.int i) (.int j)=.ok (.int (i-j)):=rfl
theorem Px(h:t8 i j):jt .Mult (.int i) (.int j)=.ok (.int (i*j)):=by
 show R.a9 (decide (t8 i j)) _=_;rw[decide_eq_true h];rfl
theorem Py(h:q_ i j):jt .FloorDiv (.int i) (.int j)=.ok (.int (i / j)):=by
 show R.a9 (decide (q_ i j)) _=_;rw[decide_eq_true h];rfl
theorem Pz(h:0<j):jt .Mod (.int i) (.int j)=.ok (.int (i%j)):=by
 show R.a9 (decide (0<j)) _=_;rw[decide_eq_true h];rfl
theorem PC(h:wR i j):jt .Pow (.int i) (.int j)=.ok (.int (i ^ j.toNat)):=by
 show R.a9 (decide (wR i j)) _=_;rw[decide_eq_true h];rfl
theorem Ga{x:Str}(h:x.length+y.length<=aa):jt .Add (.str x) (.str y)=.ok (.str (x++y)):=by
 show R.a9 (decide (x.length+y.length<=aa)) _=_;rw[decide_eq_true h];rfl
theorem Gb{x:Str}(h:0<=j/\j<2 ^ 40/\x.length*j.toNat<=aa):jt .Mult (.str x) (.int j)=.ok (.str (A9 x j.toNat)):=by
 show R.a9 (decide (0<=j/\j<2 ^ 40/\x.length*j.toNat<=aa)) _=_;rw[decide_eq_true h];rfl
variable{ys:List D}
theorem Ma{o':Bool}(h:xs.length+ys.length<=aa):jt .Add (.lst o xs) (.lst o' ys)=.ok (.lst true (aA xs++aA ys)):=by
 show R.a9 (decide (xs.length+ys.length<=aa)) _=_;rw[decide_eq_true h];rfl
theorem Ug:cL .Lt (.int i) (.int j)=.ok (.bl (decide (i<j))):=rfl
theorem PD:cL .LtE (.int i) (.int j)=.ok (.bl (decide (i<=j))):=rfl
theorem Uh:cL .Gt (.int i) (.int j)=.ok (.bl (decide (j<i))):=rfl
theorem PF:cL .GtE (.int i) (.int j)=.ok (.bl (decide (j<=i))):=rfl
theorem Mb{x:Str}:cL .LtE (.str x) (.str y)=.ok (.bl (!decide (y.cps.toList<x.cps.toList))):=rfl
theorem Mc:cL .Eq (.int i) (.int j)=.ok (.bl (i==j)):=rfl
theorem Me:cL .NotEq (.int i) (.int j)=.ok (.bl (!(i==j))):=rfl
theorem Mf{x:Str}:cL .Eq (.str x) (.str y)=.ok (.bl (x==y)):=rfl
theorem Mg{x:Str}:cL .NotEq (.str x) (.str y)=.ok (.bl (!(x==y))):=rfl
theorem Cq{y:D}(h:cF x=true)(h':cF y=true):cL .Eq x y=.ok (.bl (iF x y)):=by
 show R.a9 (cF x&&cF y) _=_;rw[h,h'];rfl
theorem Cr{y:D}(h:cF x=true)(h':cF y=true):cL .NotEq x y=.ok (.bl (!iF x y)):=by
 show R.a9 (cF x&&cF y) _=_;rw[h,h'];rfl
theorem vG(h:cF x=true)(h':e_ ys=true):cL .In x (.lst o ys)=.ok (.bl (memD x ys)):=by
 show R.bind (R.a9 (cF x&&e_ ys) _) _=_;rw[h,h'];rfl
theorem uo(h:cF x=true)(h':e_ ys=true):cL .NotIn x (.lst o ys)=.ok (.bl (!memD x ys)):=by
 show R.bind (R.a9 (cF x&&e_ ys) _) _=_;rw[h,h'];rfl
theorem Ui:iz (.bl b)=.ok b:=rfl
variable{z:Str}
theorem PJ:nj (.str z) (.int i)=(R.opt (eZ z.cps.toList i)).bind fun c=>.ok (.str ⟨#[c]⟩):=rfl
theorem PK:nj (.lst o xs) (.int i)=(R.opt (eZ xs i)).bind fun d=>.ok (br d):=rfl
theorem PL:nj (.tup xs) (.int i)=(R.opt (eZ xs i)).bind fun d=>.ok (br d):=rfl
theorem PM:Ii (.str z) lo hi=.ok (.str ⟨(cut z.cps.toList lo hi).toArray⟩):=rfl
theorem PN:Ii (.lst o xs) lo hi=.ok (.lst true (aA (cut xs lo hi))):=rfl
theorem Mh:gf .len [.str z]=.ok (.int z.length):=rfl
theorem Mi:gf .len [.lst o xs]=.ok (.int xs.length):=rfl
theorem Mj:gf .len [.tup xs]=.ok (.int xs.length):=rfl
theorem PR:gf .all [.lst o xs]=R.a9 (xs.all qF) (.ok (.bl (xs.all tB))):=rfl
theorem Mk:gf .int [.bl b]=.ok (.int (if b then 1 else 0)):=rfl
theorem Ml:gf .list [.lst o xs]=.ok (.lst true (aA xs)):=rfl
theorem PU:gf .sum [.lst o xs]=R.a9 (xs.all jd) (.ok (.int (xs.map intD).sum)):=rfl
variable{q:Str}
theorem Hj:nu .startswith (.str z) [.str q]=.ok (.bl (q.cps.toList.isPrefixOf z.cps.toList)):=rfl
theorem JP(h:q.length=1)(h':z.length+2<=aa):nu .split (.str z) [.str q]=.ok (.lst true (rG (q.cps.getD 0 0) z.cps.toList)):=by
 show R.a9 (decide (q.length=1)&&decide (z.length+2<=aa)) _=_;rw[decide_eq_true h,decide_eq_true h'];rfl
theorem Mm:nu .join (.str z) [.lst o ys]=(R.opt (jE ys)).bind fun ss=>R.a9 (decide ((ss.map (·.length)).sum+ss.length*z.length<=aa)) (.ok (.str (dS z ss))):=rfl
theorem PX:ou (.str z)=.ok (uL z):=rfl
theorem PY:ou (.lst o xs)=.ok (aA xs):=rfl
theorem PZ:ou (.tup xs)=.ok (aA xs):=rfl
theorem Wz(h:-(2 ^ 62)<=j/\j.toNat<=aa):rH [.int j]=.ok (lY 0 j.toNat):=by
 show R.a9 (decide (-(2 ^ 62)<=j/\j.toNat<=aa)) _=_;rw[decide_eq_true h];rfl
theorem P0:xf .non=.ok .non:=rfl
theorem Uj:xf (.bl b)=.ok (.bl b):=rfl
theorem P_:xf (.int i)=.ok (.int i):=rfl
theorem Qa{x:Str}:xf (.str x)=.ok (.str x):=rfl
theorem Qc:br (.int i)=.int i:=rfl
theorem Qd{x:Str}:br (.str x)=.str x:=rfl
theorem Qe:br (.lst o xs)=.lst false (aA xs):=rfl
theorem Qf:br (.tup xs)=.tup (aA xs):=rfl
theorem Mn:aA []=[]:=rfl
theorem JQ{r:List D}:aA (d::r)=br d::aA r:=rfl
theorem Qg:aL (.int i)=true:=rfl
theorem Qh{x:Str}:aL (.str x)=true:=rfl
theorem Qi:aL (.lst o xs)=(o&&bM xs):=rfl
theorem Qj:aL (.tup xs)=bM xs:=rfl
theorem Mp:bM []=true:=rfl
theorem JR{r:List D}:bM (d::r)=(aL d&&bM r):=rfl
variable{O:bf}
theorem WA:iJ is true O=O:=rfl
theorem WB:iJ is false O=mw is O:=rfl
theorem Mq:mw [] O=O:=rfl
theorem JS{i:Nat}:mw (i::is) O=mw is (mK i O):=rfl
variable{r:bf}
theorem Uk{o:Option D}:mK 0 (o::r)=o.map br::r:=rfl
theorem Ul{o:Option D}:mK (n+1) (o::r)=o::mK n r:=rfl
theorem Um:JO (.nx O)=.ok .non:=rfl
theorem Uo:JO (.rt d)=.ok d:=rfl
theorem Mr:vC t (.lst o xs)=(decide (t=.list)||decide (t=.none)):=rfl
theorem Ms:vC t (.tup xs)=(decide (t=.tuple)||decide (t=.none)):=rfl
noncomputable def ER(O:bf)(i:Nat):R D:=match O[i]? with
|some (some d)=>.ok (br d)
|_=>.bad
noncomputable def yF(O:bf)(i:Nat):R D:=match O[i]? with
|some (some d)=>.ok d
|_=>.bad
noncomputable def uq(x:Fl)(f:bf->Fl):Fl:=match x with
|.nx O=>f O
|x=>x
noncomputable def JT(Y:List PG)(g:Nat):R D:=match Y[g]? with
|some (.val d)=>.ok (br d)
|_=>.bad
noncomputable def Cs(Y:List PG)(g:Nat)(r:R (List D)):R D:=match Y[g]? with
|some (.fn m dds)=>r.bind fun ds=>m (aA ds++dds)
|_=>.bad
noncomputable def JU{α:Type}(c:R Bool)(a b:R α):R α:=c.bind fun k=>if k=true then a else b
noncomputable def YO(c:R Bool)(a b:Fl):Fl:=c.a7 fun k=>if k=true then a else b
noncomputable def WC(x:D)(b:R D):R D:=match x with
|.bl c=>if c=true then b else .ok (.bl false)
|_=>.bad
noncomputable def YQ(x:D)(b:R D):R D:=match x with
|.bl c=>if c=true then .ok (.bl true)else b
|_=>.bad
noncomputable def WD:D->R D
|.int i=>.ok (.int (-i))
|_=>.bad
noncomputable def WE:D->R (Option Int)
|.int i=>.ok (some i)
|_=>.bad
noncomputable def YR(z:D)(r:R D):R D:=match z with
|.bl k=>if k=true then r else .ok (.bl false)
|_=>.bad
noncomputable def YS(z:D)(r:R Bool):R Bool:=match z with
|.bl k=>if k=true then r else .ok false
|_=>.bad
noncomputable def WG:D->R Bool
|.bl k=>.ok k
|_=>.bad
noncomputable def YT:D->R (Bool×List D)
|.lst o xs=>.ok (aL (.lst o xs),kT 0 (aA xs))
|_=>.bad
noncomputable def Qk(k:Nat)(vs:List Nat)(O:bf)(d:D):Fl:=match O[k]? with
|some (some (.lst true xs))=>if(decide (xs.length<aa)&&(aL d||!vs.contains k))=true then .nx ((iJ vs (aL d) O).set k (some (.lst true (xs++[d]))))else .bad
|_=>.bad
noncomputable def Ql(k:Nat)(O:bf)(j d:D):Fl:=match j with
|.int j=>match O[k]? with
 |some (some (.lst true xs))=>if(decide (0<=j/\j<2 ^ 40/\xs.length<aa)&&aL d)=true then .nx (O.set k (some (.lst true (xs.take j.toNat++d::xs.drop j.toNat))))else .bad
 |_=>.bad
|_=>.bad
noncomputable def E2(k:Nat)(vs:List Nat)(O:bf)(d j:D):Fl:=match O[k]? with
|some (some x)=>if(aL d||!vs.contains k)=true then(R.opt (putIn x d j)).a7 fun x'=>.nx ((iJ vs (aL d) O).set k (some x'))else .bad
|_=>.bad
theorem Qm:ER (some d::r) 0=.ok (br d):=rfl
theorem Qn{o:Option D}:ER (o::r) (n+1)=ER r n:=rfl
theorem Mu:yF (some d::r) 0=.ok d:=rfl
theorem Mv{o:Option D}:yF (o::r) (n+1)=yF r n:=rfl
theorem Mw{f:bf->Fl}:uq (.nx O) f=f O:=rfl
theorem Mx{f:bf->Fl}:uq (.rt d) f=.rt d:=rfl
theorem My{f:bf->Fl}:uq (.ct O) f=.ct O:=rfl
theorem Up{r:List PG}:JT (.val d::r) 0=.ok (br d):=rfl
theorem Uq{o:PG}{r:List PG}:JT (o::r) (n+1)=JT r n:=rfl
theorem Ur{m:List D->R D}{dds:List D}{r:List PG}{x:R (List D)}:Cs (.fn m dds::r) 0 x=x.bind fun ds=>m (aA ds++dds):=rfl
theorem Us{o:PG}{r:List PG}{x:R (List D)}:Cs (o::r) (n+1) x=Cs r n x:=rfl
theorem Mz{k:Bool}{a b:R α}:JU (.ok k) a b=if k=true then a else b:=rfl
theorem Qo{k:Bool}{a b:Fl}:YO (.ok k) a b=if k=true then a else b:=rfl
theorem MA{c:Bool}{b:R D}:WC (.bl c) b=if c=true then b else .ok (.bl false):=rfl
theorem Qp{c:Bool}{b:R D}:YQ (.bl c) b=if c=true then .ok (.bl true)else b:=rfl
theorem Qq:WD (.int i)=.ok (.int (-i)):=rfl
theorem Qs:WE (.int i)=.ok (some i):=rfl
theorem Qt{k:Bool}{r:R D}:YR (.bl k) r=if k=true then r else .ok (.bl false):=rfl
theorem MB{k:Bool}{r:R Bool}:YS (.bl k) r=if k=true then r else .ok false:=rfl
theorem Qu{k:Bool}:WG (.bl k)=.ok k:=rfl
theorem Ut:YT (.lst o xs)=.ok (aL (.lst o xs),kT 0 (aA xs)):=rfl
variable{Y:List PG}
theorem Qv{i:Nat}:pE Y (.var i) O=ER O i:=rfl
theorem Qw:pE Y (.con v) O=xf v:=rfl
theorem Qx{g:Nat}:pE Y (.glo g) O=JT Y g:=rfl
theorem Qy{b:CE}:pE Y (.bin op a b) O=(pE Y a O).bind fun x=>(pE Y b O).bind fun y=>jt op x y:=rfl
theorem Qz:pE Y (.neg a) O=(pE Y a O).bind WD:=by
 show(pE Y a O).bind _=_;congr
theorem QB:pE Y (.not a) O=(pE Y a O).bind fun x=>(iz x).bind fun b=>.ok (.bl (!b)):=rfl
theorem QC{b:CE}:pE Y (.and a b) O=(pE Y a O).bind fun x=>WC x (pE Y b O):=rfl
theorem Uu{b:CE}:pE Y (.or a b) O=(pE Y a O).bind fun x=>YQ x (pE Y b O):=rfl
variable{c:CE}
theorem QD{b:CE}:pE Y (.ite c a b) O=JU (pT Y c O) (pE Y a O) (pE Y b O):=rfl
theorem QE{op:nN}{b:CE}:pE Y (.cmp op a b) O=(pE Y a O).bind fun x=>(pE Y b O).bind fun y=>cL op x y:=rfl
variable{o1 o2:nN}
theorem JV{b:CE}:pE Y (.chain o1 o2 a b c) O=(pE Y a O).bind fun x=>(pE Y b O).bind fun y=>(cL o1 x y).bind fun z=>YR z ((pE Y c O).bind fun u=>cL o2 y u):=rfl
theorem MC{g:Nat}:pE Y (.call g as) O=Cs Y g (fN Y as O):=rfl
theorem QF{f:Bf}:pE Y (.blt f as) O=(fN Y as O).bind (gf f):=rfl
theorem QG{o:CE}:pE Y (.mth m o as) O=(pE Y o O).bind fun x=>(fN Y as O).gO.bind fun ds=>nu m x ds:=rfl
theorem Uv{b:CE}:pE Y (.ix a b) O=(pE Y a O).bind fun x=>(pE Y b O).bind fun y=>nj x y:=rfl
theorem Uw{lo hi:CO}:pE Y (.sl a lo hi) O=(pE Y a O).bind fun x=>(pO Y lo O).bind fun l=>(pO Y hi O).bind fun h=>Ii x l h:=rfl
theorem QH:pE Y (.lst as) O=(fN Y as O).bind fun ds=>R.a9 (decide (ds.length<=aa)) (.ok (.lst true ds)):=by
 rfl
theorem QI:pE Y (.tup as) O=(fN Y as O).bind fun ds=>R.a9 (decide (ds.length<=aa)) (.ok (.tup ds)):=by
 rfl
theorem QJ:pE Y .dct O=.ok (.bY true [] []):=rfl
variable{elt:CE}{tg:CG}{cond:CO}
theorem MD:pE Y (.comp nl fr elt tg src cond) O=(pI Y src O).bind fun items=>(eK (pG tg) (pC Y cond) (pE Y elt) items.2 (nl.map (fun _=>none)++fr.map (fun i=>O.getD i none))).gO.bind fun ds=>.ok (.lst true ds):=rfl
theorem QK:pT Y (.not a) O=(pT Y a O).bind fun b=>.ok (!b):=rfl
theorem QL{b:CE}:pT Y (.and a b) O=JU (pT Y a O) (pT Y b O) (.ok false):=rfl
theorem Ux{b:CE}:pT Y (.or a b) O=JU (pT Y a O) (.ok true) (pT Y b O):=rfl
theorem QM{op:nN}{b:CE}:pT Y (.cmp op a b) O=(pE Y a O).bind fun x=>(pE Y b O).bind fun y=>(cL op x y).bind WG:=rfl
theorem JW{b:CE}:pT Y (.chain o1 o2 a b c) O=(pE Y a O).bind fun x=>(pE Y b O).bind fun y=>(cL o1 x y).bind fun z=>YS z ((pE Y c O).bind fun u=>(cL o2 y u).bind WG):=rfl
theorem ME{g:Nat}:pT Y (.call g as) O=(Cs Y g (fN Y as O)).bind iz:=by
 show(match Y[g]? with|some (.fn m dds)=>((fN Y as O).bind fun ds=>m (aA ds++dds)).bind iz|_=>.bad)=_;unfold Cs;cases Y[g]? with
 |none=>rfl
 |some p=>cases p<;>rfl
theorem QN{f:Bf}:pT Y (.blt f as) O=((fN Y as O).bind (gf f)).bind iz:=rfl
theorem QO:pT Y (.isi a t) O=(pE Y a O).bind fun x=>R.a9 (oX x) (.ok (vC t x)):=rfl
theorem QR{o:CE}:pT Y (.mth m o as) O=(pE Y o O).bind fun x=>(fN Y as O).gO.bind fun ds=>(nu m x ds).bind iz:=rfl
theorem MF:fN Y .nil O=.ok []:=rfl
theorem JX{r:jB}:fN Y (.cons a r) O=(pE Y a O).bind fun x=>(fN Y r O).bind fun xs=>.ok (x::xs):=rfl
theorem MG:pO Y .none O=.ok none:=rfl
theorem MH:pO Y (.some a) O=(pE Y a O).bind WE:=rfl
theorem MI:pC Y .none=fun _=>.ok true:=rfl
theorem MJ:pC Y (.some a)=pT Y a:=rfl
theorem MK{i:Nat}:pG (.name i) d O=.ok (O.set i (some d)):=rfl
theorem QS{gs:oV}:pG (.tup gs) (.tup ds) O=R.a9 (decide (ds.length=gs.len)) (v8 gs ds O):=rfl
theorem ML:v8 .nil [] O=.ok O:=rfl
theorem JY{g:CG}{r:oV}{dr:List D}:v8 (.cons g r) (d::dr) O=(pG g d O).bind fun ZV=>v8 r dr ZV:=rfl
theorem QT:pI Y (.seq a) O=(pE Y a O).bind fun x=>(ou x).bind fun ds=>.ok (aL x,ds):=rfl
theorem JZ:pI Y (.range as) O=(fN Y as O).bind fun xs=>(rH xs).bind fun ds=>.ok (true,ds):=rfl
theorem MM:pI Y (.enum a) O=(pE Y a O).bind YT:=by
 show(pE Y a O).bind _=_;congr 1;funext x;cases x<;>rfl
theorem MN:bq Y n .nil O=.nx O:=rfl
theorem Bh{r:bW}:bq Y n (.cons s r) O=uq (pS Y n s O) (bq Y n r):=by
 show(match pS Y n s O with|.nx ZV=>bq Y n r ZV|x=>x)=_;unfold uq;cases pS Y n s O<;>rfl
theorem Gc{k:Nat}:pS Y n (.expr (.mth .append (.var k) (.cons a .nil))) O=(pE Y a O).ju (nv O[k]?) (Qk k (cE a) O):=rfl
theorem QU{k:Nat}{i:CE}:pS Y n (.expr (.mth .insert (.var k) (.cons i (.cons a .nil)))) O=(pE Y i O).ju false fun j=>(pE Y a O).ju false fun d=>Ql k O j d:=rfl
theorem QV{i:Nat}:pS Y n (.asg (.name i) e) O=(pE Y e O).a7 fun d=>.nx ((iJ (cE e) (aL d) O).set i (some d)):=rfl
theorem QW{k:Nat}{i:CE}:pS Y n (.asg (.sub (.var k) i) e) O=(pE Y e O).a7 fun d=>(pE Y i (iJ (cE e) (aL d) O)).ju false fun j=>E2 k (cE e) O d j:=rfl
theorem MO{i:Nat}:pS Y n (.casg i e) O=(pE Y e O).a7 fun d=>.nx ((iJ (cE e) (aL d) O).set i (some d)):=rfl
theorem QX:pS Y n (.ret e) O=(pM Y e O).a7 .rt:=rfl
theorem QY{a b:bW}:pS Y n (.ifs c a b) O=YO (pT Y c O) (bq Y n a O) (bq Y n b O):=rfl
theorem MP{b:bW}:pS Y n (.whil c b) O=mJ (pT Y c) (bq Y n b) n O:=rfl
theorem MQ{g:CG}{b:bW}:pS Y n (.forr g src b) O=(pI Y src O).a7 fun items=>forR (pG g) (bq Y n b) items.2 (iJ (uM src) items.1 O):=rfl
theorem MR{g:CG}{k:Nat}{b:bW}(h:O[k]?=some (some (.bY true ks xs))):pS Y n (.fork g k b) O=forR (pG g) (bq Y n b) (ks.map ee) (O.set k (some (.pdc ks (aA xs)))):=by
 show(match O[k]? with|some (some (.bY true ks xs))=>forR (pG g) (bq Y n b) (ks.map ee) (O.set k (some (.pdc ks (aA xs))))|some (some (.pdc ks xs))=>forR (pG g) (bq Y n b) (ks.map ee) O|_=>.bad)=_;rw[h]
theorem Dy{g:CG}{k:Nat}{b:bW}(h:O[k]?=some (some (.pdc ks xs))):pS Y n (.fork g k b) O=forR (pG g) (bq Y n b) (ks.map ee) O:=by
 show(match O[k]? with|some (some (.bY true ks xs))=>forR (pG g) (bq Y n b) (ks.map ee) (O.set k (some (.pdc ks (aA xs))))|some (some (.pdc ks xs))=>forR (pG g) (bq Y n b) (ks.map ee) O|_=>.bad)=_;rw[h]
theorem QZ:aL (.bY o ks xs)=(o&&bM xs):=rfl
theorem Q0:aL (.pdc ks xs)=false:=rfl
theorem Q2:br (.pdc ks xs)=.pdc ks (aA xs):=rfl
theorem MS{x:Str}:nj (.pdc ks xs) (.str x)=(R.opt (kY ks xs (.inr x))).bind fun d=>.ok (br d):=rfl
theorem MT:oX (.lst o xs)=true:=rfl
theorem MU:oX (.tup xs)=true:=rfl
theorem MV:pS Y n .cont O=.ct O:=rfl
theorem Q3{i:Nat}:pM Y (.var i) O=yF O i:=rfl
theorem Q4:pM Y (.con v) O=pE Y (.con v) O:=rfl
theorem Q5{b:CE}:pM Y (.bin op a b) O=pE Y (.bin op a b) O:=rfl
theorem Q6{b:CE}:pM Y (.and a b) O=pE Y (.and a b) O:=rfl
theorem Uy{b:CE}:pM Y (.or a b) O=pE Y (.or a b) O:=rfl
theorem MW{g:Nat}:pM Y (.call g as) O=pE Y (.call g as) O:=rfl
theorem Q7{f:Bf}:pM Y (.blt f as) O=pE Y (.blt f as) O:=rfl
theorem Q8{o:CE}:pM Y (.mth m o as) O=pE Y (.mth m o as) O:=rfl
theorem MX:pM Y (.comp nl fr elt tg src cond) O=pE Y (.comp nl fr elt tg src cond) O:=rfl
theorem Q9:pM Y (.tup as) O=(k9 Y as O).alt (fun ds=>R.a9 (decide (ds.length<=aa)) (.ok (.tup ds))) (pE Y (.tup as) O):=by
 rfl
theorem MY:k9 Y .nil O=.ok []:=rfl
theorem MZ{i:Nat}{r:jB}:k9 Y (.cons (.var i) r) O=(yF O i).bind fun d=>(k9 Y r (O.set i none)).bind fun ds=>.ok (d::ds):=by
 show(match O[i]? with|some (some d)=>(k9 Y r (O.set i none)).bind fun ds=>.ok (d::ds)|_=>.bad)=_;unfold yF;cases O[i]? with
 |none=>rfl
 |some o=>cases o<;>rfl
theorem M0{a:α}{f:α->R β}{y:R β}:(R.ok a:R α).alt f y=f a:=rfl
theorem Q_:pE Y (.mx1 up a) O=(pE Y a O).bind fun x=>Ce up x:=rfl
theorem M1(h:(xs.all jd&&!xs.isEmpty)=true):Ce up (.lst o xs)=.ok (EM up (xs.map intD)):=by
 show R.a9 (xs.all jd&&!xs.isEmpty) _=_;rw[h];rfl
theorem Ra{k:Nat}:pS Y n (.expr (.mth .extend (.var k) (.cons a .nil))) O=(pE Y a O).ju (nv O[k]?) fun d=>Ck k (cE a) d O:=rfl
theorem tE{k:Nat}{vs:List Nat}(h:O[k]?=some (some (.lst true xs)))(h1:xs.length+ys.length<=aa)(h2:(aL (.lst true ys)||!vs.contains k)=true):Ck k vs (.lst true ys) O=.nx ((iJ vs (aL (.lst true ys)) O).set k (some (.lst true (xs++ys)))):=by
 unfold Ck;simp only[h];rw[decide_eq_true h1,h2];rfl
theorem Rb{b:CE}{r:jB}:k9 Y (.cons (.ix a b) r) O=(pE Y (.ix a b) O).bind fun d=>R.a9 (aL d) ((k9 Y r O).bind fun ds=>.ok (d::ds)):=rfl
theorem M3{f:Bf}{r:jB}:k9 Y (.cons (.blt f as) r) O=(pE Y (.blt f as) O).bind fun d=>R.a9 (aL d) ((k9 Y r O).bind fun ds=>.ok (d::ds)):=rfl
theorem M4{r:jB}:k9 Y (.cons (.lst as) r) O=(pE Y (.lst as) O).bind fun d=>R.a9 (aL d) ((k9 Y r O).bind fun ds=>.ok (d::ds)):=rfl
theorem J4{r:jB}:k9 Y (.cons (.comp nl fr elt tg src cond) r) O=(pE Y (.comp nl fr elt tg src cond) O).bind fun d=>R.a9 (aL d) ((k9 Y r O).bind fun ds=>.ok (d::ds)):=rfl
theorem Rc:gf .max [.int i,.int j]=.ok (.int (if j>i then j else i)):=rfl
theorem cB{k:Nat}{vs:List Nat}(h:O[k]?=some (some (.lst true xs)))(h1:xs.length<aa)(h2:(aL d||!vs.contains k)=true):Qk k vs O d=.nx ((iJ vs (aL d) O).set k (some (.lst true (xs++[d])))):=by
 unfold Qk;simp only[h];rw[decide_eq_true h1,h2];rfl
theorem Dz{k:Nat}(h:O[k]?=some (some (.lst true xs)))(h1:0<=j/\j<2 ^ 40/\xs.length<aa)(h2:aL d=true):Ql k O (.int j) d=.nx (O.set k (some (.lst true (xs.take j.toNat++d::xs.drop j.toNat)))):=by
 unfold Ql;simp only[h];rw[decide_eq_true h1,h2];rfl
theorem DA{k:Nat}{vs:List Nat}{j x':D}(h:O[k]?=some (some x))(h1:(aL d||!vs.contains k)=true)(h2:putIn x d j=some x'):E2 k vs O d j=.nx ((iJ vs (aL d) O).set k (some x')):=by
 unfold E2;simp only[h];rw[h1,h2];rfl
theorem fB{g:D->bf->R bf}{e:bf->R D}(enc:β->D)(I:bf->Prop)(f:β->D):∀(xs:List β) (O:bf),I O->(∀x∈xs,∀O,I O->∃ZZ,g (enc x) O=.ok ZZ/\I ZZ/\e ZZ=.ok (f x))->eK g (fun _=>.ok true) e (xs.map enc) O=.ok (xs.map f)
|[],O,_,_=>rfl
|x::r,O,hi,h=>by
 obtain⟨ZZ,h1,h2,h3⟩:=h x ao O hi;have ih:=fB enc I f r ZZ h2 fun y hy=>h y (ai _ hy);show(g (enc x) O).bind _=_;rw[h1];simp only[R.bind,if_true,h3,ih];rfl
theorem xu{g:D->bf->R bf}{c:bf->R Bool}{e:bf->R D}(enc:β->D)(I:bf->Prop)(p:β->Bool)(f:β->D):∀(xs:List β) (O:bf),I O->(∀x∈xs,∀O,I O->∃ZZ,g (enc x) O=.ok ZZ/\I ZZ/\c ZZ=.ok (p x)/\e ZZ=.ok (f x))->eK g c e (xs.map enc) O=.ok ((xs.filter p).map f)
|[],O,_,_=>rfl
|x::r,O,hi,h=>by
 obtain⟨ZZ,h1,h2,h3,h4⟩:=h x ao O hi;have ih:=xu enc I p f r ZZ h2 fun y hy=>h y (ai _ hy);show(g (enc x) O).bind _=_;rw[h1];simp only[R.bind,h3];cases q:p x with
 |true=>rw[if_pos rfl,lN q,h4];simp only[R.bind,ih];rfl
 |false=>rw[if_neg (by decide),List.filter_cons_of_neg (by simp[q])];exact ih
end L3
end
local macro_rules | `(tactic| simp_arith $c:optConfig [$ls,*]) => do let q <- ("L7 pq_thn_ok' pq_thnL_ok' L8 Ue Hi Pr L_ Pu Pw Px Py Pz PC Ga Gb Ma Ug PD Uh PF Mb Mc Me Mf Mg Cq Cr vG uo Ui PJ PK PL PM PN Mh Mi Mj PR Mk Ml PU Hj JP Mm PX PY PZ Wz P0 Uj P_ Qa Qc Qd Qe Qf Mn JQ Qg Qh Qi Qj Mp JR WA WB Mq JS Uk Ul Um Uo Mr Ms Qm Qn Mu Mv Mw Mx My Up Uq Ur Us Mz Qo MA Qp Qq Qs Qt MB Qu Ut Qv Qw Qx Qy Qz QB QC Uu QD QE JV MC QF QG Uv Uw QH QI QJ MD QK QL Ux QM JW ME QN QO QR MF JX MG MH MI MJ MK QS ML JY QT JZ MM MN Bh Gc QU QV QW MO QX QY MP MQ MR Dy QZ Q0 Q2 MS MT MU MV Q3 Q4 Q5 Q6 Uy MW Q7 Q8 MX Q9 MY MZ M0 Q_ M1 Ra tE Rb M3 M4 J4 Rc cB Dz DA d_ FT t9 cE ow LO uM uO oV.len bD yi bz fE ah List.cons_append kU bI bN List.replicate_zero List.getElem?_cons_zero sS List.set_cons_zero List.set_cons_succ List.getD_cons_zero List.getD_cons_succ Nat.reduceAdd Nat.reduceSub Nat.zero_add sN or_false true_or false_or and_true true_and and_false false_and decide_true decide_false Bool.not_true Bool.not_false GS Bool.or_false Ez ie Bool.true_and u5 CJ if_true if_false yk reduceCtorEq Option.map_some beq_self_eq_true ne_eq Int.cast_ofNat_Int Int.reduceLT Int.reduceSub Int.reduceAdd".splitOn " ").toArray.mapM fun x => `(Lean.Parser.Tactic.simpLemma| $(Lean.mkIdent x.toName):ident); `(tactic| simp $c:optConfig (disch := first | assumption | (with_reducible rfl) | (show L3.cF _ = true; rfl) | omega | (unfold L2.t8; omega) | (unfold L2.q_; omega) | (simp only [bz, fE, ah, az]; omega)) only [$q,*, $ls,*])
section
namespace L3
open PySem L2
structure FD where
 n:Str
 s:Stmt
 N:List Str
 k:Nat
 gl:List Str
def FD.ps(d:FD):List Str:=d.N.take d.k
noncomputable def WH(N P:List Str)(sc:eL):Bool:=(match sc.kind with|.function=>true|_=>false)&&(!sc.isCoroutine&&(!sc.isGenerator&&(decide N.Nodup&&(decide (N.take P.length=P)&&(decide (∀x∈P,sc.names.lookup x=some .local\/sc.names.lookup x=some .cell)&&decide (∀y∈sc.names,y.2≠.free))))))
theorem EL{N P:List Str}{sc:eL}(h:WH N P sc=true):qP N P sc:=by
 unfold WH at h;simp only[aU,decide_eq_true_eq,qy]at h;obtain⟨h1,h2,h3,h4,h5,h6,h7⟩:=h;refine⟨?_,h2,h3,h4,h5,h6,h7⟩;revert h1;cases sc.kind<;>intro h1<;>first|rfl|cases h1
noncomputable def FD.iK(bn:List Str)(d:FD)(c:bW):Bool:=lE ⟨d.N,di d.s,d.gl,bn,(fun _=>true),true⟩ c (jH d.s)&&(WH d.N d.ps (di d.s)&&(iA c&&(d.ps.length==d.k)))
def DI(K:PySem.W.Frag)(mg:Str->Option Value)(d:FD):Prop:=EO K mg d.n d.s d.ps
variable{k:Nat}
variable{bn:List Str}{d:FD}{f:Addr}{n:Nat}{ZU:List PG}{c:bW}
section
variable{P:bx}{w:bL}{K:PySem.W.Frag}{mg:Str->Option Value}{base:Heap}
abbrev i9(P:bx)(w:bL)(K:PySem.W.Frag)(mg:Str->Option Value)(base:Heap)(k:Nat)(x:Str)(m:List D->R D):Prop:=FH P w K mg base k x (.fn (FL K m) [])
def GR(P:bx)(w:bL)(K:PySem.W.Frag)(mg:Str->Option Value)(base:Heap)(k:Nat)(gl:List Str)(ZU:List PG):Prop:=∃Y,zW P w K mg base k gl Y/\dP K ZU Y
theorem gN:GR P w K mg base k [] []:=⟨[],trivial,trivial⟩
section
variable{k:Nat}{x:Str}{gl:List Str}{ZU:List PG}
theorem gG{p:PG}(g:G)(h:FH P w K mg base k x g)(e:Pd K p g)(r:GR P w K mg base k gl ZU):GR P w K mg base k (x::gl) (p::ZU):=by
 obtain⟨Y,a,b⟩:=r;exact⟨g::Y,⟨h,a⟩,⟨_,_,rfl,e,b⟩⟩
theorem gF{j:Nat}{m:List D->R D}(h:i9 P w K mg base j x m)(r:GR P w K mg base k gl ZU)(l:j<=k:=by decide):GR P w K mg base k (x::gl) (.fn m []::ZU):=by
 obtain⟨f,fd,ps,ds,F,q⟩:=h;exact gG (.fn (FL K m) []) ⟨f,fd,ps,ds,F.mono l,q⟩ ⟨fun _ _ _ _ h=>h,rfl,rfl⟩ r
theorem gV{d:D}{v:V}(h:∃u,mg x=some u/\RelV v u)(e:aY K (fun _=>none) d v)(r:GR P w K mg base k gl ZU):GR P w K mg base k (x::gl) (.val d::ZU):=gG (.val v) h e r
theorem gT{d:D}{a:Addr}{xs:List V}(h:mg x=some (.ref a)/\HX K a true xs)(e:aY K (fun _=>none) d (.ref a))(r:GR P w K mg base k gl ZU):GR P w K mg base k (x::gl) (.val d::ZU):=gG (.tup a xs) h e r
end
theorem fF{fd:gq}(F:v5 K d.n d.n d.s f fd)(h:d.iK bn c=true)(hb:∀x∈bn,mg x=none)(r:GR P w K mg base k d.gl ZU):gZ P w K mg base (kR P w) (k+1) f fd d.ps (FL K (d_ ZU n d.N d.k c)):=by
 obtain⟨Y,a,b⟩:=r;unfold FD.iK at h;simp only[aU,beq_iff_eq]at h;obtain⟨h1,h2,h3,h4⟩:=h;rw[<-h4];refine Yd (Y:=Y) c F (EL h2) h1 a b h3 hb ?_;unfold FD.ps;rw[eT];omega
theorem fD(D:DI K mg d)(h:d.iK bn c=true)(hb:∀x∈bn,mg x=none)(r:GR P w K mg base k d.gl ZU):i9 P w K mg base (k+1) d.n (d_ ZU n d.N d.k c):=
 EO.has D fun _ _ F=>fF F h hb r
variable{h:Heap}
theorem dI{oc:Value}{od an:Option Addr}{osl:Array (Option Value)}{kV doc pm cdv ct:Value}(X:K.In h)(G:h.Ns dX mg)(a:PySem.W.nsIn K dX d.n=some (some (.ref f)):=by k_is)
  (l:K.lookup f=some ⟨oc,od,.func (PySem.W.fnOf d.n d.n (n9 d.s) (jH d.s) (di d.s) .none kV doc pm an cdv ct),osl⟩:=by k_is) (c:PySem.W.codeIn K cdv d.n=true:=by k_is) (k:PySem.W.keepIn K (.ref f)=true:=by k_is)
  (b:∀(kV doc pm:Value) (an:Option Addr) (cdv ct:Value) (us:List Value),us.length=d.ps.length->Au (PySem.W.fnOf d.n d.n (n9 d.s) (jH d.s) (di d.s) .none kV doc pm an cdv ct) ⟨us,[]⟩=pure (d.ps.zip us):=by(intro _ _ _ _ _ _ us hl;rcases us with _|⟨_,_|⟨_,_|⟨_,_|⟨_,_|⟨_,_|⟨_,_⟩⟩⟩⟩⟩⟩<;>first|rfl|cases hl)):DI K mg d:=
 ⟨_,_,fun_mk l c k,PySem.W.mg_of X G a,(fun_mk l c k).binds b⟩
theorem iI{x:Str}{v:Value}(X:K.In h)(G:h.Ns dX mg)(a:PySem.W.nsIn K dX x=some (some v):=by k_is):mg x=some v:=PySem.W.mg_of X G a
noncomputable def Zv:Option (Option Value)->Bool
|some none=>true
|_=>false
theorem zI(X:K.In h)(G:h.Ns dX mg)(a:(bn.all fun x=>Zv (PySem.W.nsIn K dX x))=true:=by kernel_rfl):∀x∈bn,mg x=none:=fun x hx=>PySem.W.mg_none_of X G (by
 have q:=bH.mp a x hx;revert q;rcases PySem.W.nsIn K dX x with _|_|_<;>intro q<;>first|rfl|cases q)
end
end L3
end
section
namespace Tr
open PySem L2 L3
def top(i:Nat):Stmt:=PySem.Challenge.pw_claimwise_k05_things_read_and_written.main.body.getD i (.Pass ⟨0,0,0,0⟩)
abbrev DB:List Str:=["text"]
noncomputable def xw:bW:=
 (.cons (.ifs (.not (.chain .LtE .LtE (.con (.int 1)) (.blt .len (.cons (.var 0) .nil)) (.glo 2)))
  (.cons (.ret (.con (.bl false)))
 .nil)
  .nil)
 (.cons (.ret (.and (.call 1 (.cons (.var 0) (.cons (.con (.str "a")) (.cons (.con (.str "z")) .nil)))) (.cmp .NotIn (.var 0) (.glo 0))))
 .nil))
abbrev zh:List Str:=["text","figures"]
noncomputable def uu:bW:=
 (.cons (.asg (.name 1) (.ite (.mth .startswith (.var 0) (.cons (.con (.str "-")) .nil)) (.sl (.var 0) (.some (.con (.int 1))) .none) (.var 0)))
 (.cons (.ifs (.or (.not (.call 0 (.cons (.var 1) .nil))) (.cmp .Eq (.var 0) (.con (.str "-0"))))
  (.cons (.ret (.con .non))
 .nil)
  .nil)
 (.cons (.ret (.blt .int (.cons (.var 0) .nil)))
 .nil)))
abbrev xx:List Str:=["text"]
noncomputable def rQ:bW:=
 (.cons (.ifs (.or (.not (.chain .LtE .LtE (.con (.int 1)) (.blt .len (.cons (.var 0) .nil)) (.glo 1))) (.not (.call 0 (.cons (.var 0) (.cons (.con (.str "0")) (.cons (.con (.str "9")) .nil))))))
  (.cons (.ret (.con (.bl false)))
 .nil)
  .nil)
 (.cons (.ret (.or (.cmp .Eq (.var 0) (.con (.str "0"))) (.not (.mth .startswith (.var 0) (.cons (.con (.str "0")) .nil)))))
 .nil))
abbrev xy:List Str:=["text","first","last"]
noncomputable def rR:bW:=
 (.cons (.ret (.blt .all (.cons (.comp ["sign"] [1,2] (.chain .LtE .LtE (.var 1) (.var 0) (.var 2)) (.name 0) (.seq (.var 0)) .none) .nil)))
 .nil)
abbrev DC:List Str:=["text"]
noncomputable def xA:bW:=
 (.cons (.ret (.comp ["row"] [] (.call 0 (.cons (.var 0) .nil)) (.name 0) (.seq (.mth .split (.var 0) (.cons (.con (.str "\n")) .nil))) .none))
 .nil)
abbrev Bj:List Str:=["row"]
noncomputable def vH:bW:=
 (.cons (.ret (.comp ["word"] [] (.var 0) (.name 0) (.seq (.mth .split (.var 0) (.cons (.con (.str " ")) .nil))) (.some (.cmp .NotEq (.var 0) (.con (.str ""))))))
 .nil)
abbrev xB:List Str:=["kinds","text","words_of_kinds","parts","joins","steps","row","words","sizes"]
noncomputable def cy:bW:=
 (.cons (.ifs (.cmp .Eq (.var 7) (.lst .nil))
  (.cons (.cont)
 .nil)
  .nil)
 (.cons (.ifs (.cmp .Eq (.ix (.var 7) (.con (.int 0))) (.con (.str "part")))
  (.cons (.expr (.mth .append (.var 3) (.cons (.call 1 (.cons (.var 7) (.cons (.var 6) (.cons (.var 2) (.cons (.blt .len (.cons (.var 3) .nil)) .nil))))) .nil)))
 .nil)
  (.cons (.ifs (.and (.cmp .Eq (.ix (.var 7) (.con (.int 0))) (.con (.str "size"))) (.cmp .NotEq (.var 3) (.lst .nil)))
  (.two (.asg (.name 8) (.ix (.ix (.var 3) (.neg (.con (.int 1)))) (.con (.int 1))))
 (.expr (.mth .append (.var 8) (.cons (.call 2 (.cons (.var 7) (.cons (.var 6) (.cons (.var 8) .nil)))) .nil)))
 .nil)
  (.cons (.ifs (.cmp .Eq (.ix (.var 7) (.con (.int 0))) (.con (.str "join")))
  (.cons (.expr (.mth .append (.var 4) (.cons (.call 3 (.cons (.var 7) (.cons (.var 6) (.cons (.blt .len (.cons (.var 3) .nil)) (.cons (.var 4) .nil))))) .nil)))
 .nil)
  (.cons (.ifs (.cmp .Eq (.ix (.var 7) (.con (.int 0))) (.con (.str "step")))
  (.cons (.expr (.mth .append (.var 5) (.cons (.call 4 (.cons (.var 7) (.cons (.var 6) (.cons (.blt .len (.cons (.var 3) .nil)) (.cons (.blt .len (.cons (.var 5) .nil)) .nil))))) .nil)))
 .nil)
  (.cons (.never)
 .nil))
 .nil))
 .nil))
 .nil))
 .nil))
noncomputable def rS:bW:=
 (.cons (.casg 2 (.comp ["pair"] [] (.ix (.var 0) (.con (.int 0))) (.name 0) (.seq (.var 0)) .none))
 (.cons (.asg (.name 3) (.lst .nil))
 (.cons (.asg (.name 4) (.lst .nil))
 (.cons (.asg (.name 5) (.lst .nil))
 (.cons (.forr (.tup (.cons (.name 6) (.cons (.name 7) .nil))) (.enum (.call 0 (.cons (.var 1) .nil))) cy)
 (.cons (.ret (.tup (.cons (.comp ["kind","sizes"] [] (.tup (.cons (.var 0) (.cons (.blt .sorted (.cons (.var 1) .nil)) .nil))) (.tup (.cons (.name 0) (.cons (.name 1) .nil))) (.seq (.var 3)) .none) (.cons (.blt .sorted (.cons (.var 4) .nil)) (.cons (.var 5) .nil)))))
 .nil))))))
abbrev DE:List Str:=["words","row","words_of_kinds","count"]
noncomputable def xC:bW:=
 (.cons (.ifs (.or (.cmp .NotEq (.blt .len (.cons (.var 0) .nil)) (.con (.int 2))) (.not (.call 1 (.cons (.ix (.var 0) (.con (.int 1))) .nil))))
  (.cons (.never)
 .nil)
  .nil)
 (.cons (.ifs (.cmp .NotIn (.ix (.var 0) (.con (.int 1))) (.var 2))
  (.cons (.never)
 .nil)
  .nil)
 (.cons (.ifs (.cmp .GtE (.var 3) (.glo 0))
  (.cons (.never)
 .nil)
  .nil)
 (.cons (.ret (.tup (.cons (.ix (.var 0) (.con (.int 1))) (.cons (.lst .nil) .nil))))
 .nil))))
abbrev DF:List Str:=["words","row","above","numbers"]
noncomputable def xD:bW:=
 (.cons (.asg (.name 3) (.call 1 (.cons (.var 0) (.cons (.con (.int 1)) (.cons (.var 1) .nil)))))
 (.cons (.ifs (.cmp .In (.ix (.var 0) (.con (.int 1))) (.comp ["size"] [] (.ix (.var 0) (.con (.int 0))) (.name 0) (.seq (.var 2)) .none))
  (.cons (.never)
 .nil)
  .nil)
 (.cons (.ifs (.cmp .GtE (.blt .len (.cons (.var 2) .nil)) (.glo 0))
  (.cons (.never)
 .nil)
  .nil)
 (.cons (.ret (.tup (.cons (.ix (.var 0) (.con (.int 1))) (.cons (.ix (.var 3) (.con (.int 0))) .nil))))
 .nil))))
abbrev DG:List Str:=["words","row","part_count","above","numbers","join"]
noncomputable def xE:bW:=
 (.cons (.asg (.name 4) (.call 2 (.cons (.var 0) (.cons (.con (.int 2)) (.cons (.var 1) .nil)))))
 (.cons (.ifs (.cmp .Eq (.ix (.var 4) (.con (.int 0))) (.ix (.var 4) (.con (.int 1))))
  (.cons (.never)
 .nil)
  .nil)
 (.cons (.expr (.call 1 (.cons (.var 4) (.cons (.var 1) (.cons (.var 2) .nil)))))
 (.cons (.asg (.name 5) (.tup (.cons (.ix (.var 0) (.con (.int 1))) (.cons (.ix (.var 4) (.con (.int 0))) (.cons (.ix (.var 4) (.con (.int 1))) .nil)))))
 (.cons (.ifs (.cmp .In (.var 5) (.var 3))
  (.cons (.never)
 .nil)
  .nil)
 (.cons (.ifs (.cmp .GtE (.blt .len (.cons (.var 3) .nil)) (.glo 0))
  (.cons (.never)
 .nil)
  .nil)
 (.cons (.ret (.var 5))
 .nil)))))))
abbrev DH:List Str:=["words","row","part_count","count","numbers"]
noncomputable def xF:bW:=
 (.cons (.asg (.name 4) (.call 2 (.cons (.var 0) (.cons (.con (.int 1)) (.cons (.var 1) .nil)))))
 (.cons (.expr (.call 1 (.cons (.var 4) (.cons (.var 1) (.cons (.var 2) .nil)))))
 (.cons (.ifs (.cmp .GtE (.var 3) (.glo 0))
  (.cons (.never)
 .nil)
  .nil)
 (.cons (.ret (.tup (.cons (.ix (.var 0) (.con (.int 1))) (.cons (.ix (.var 4) (.con (.int 0))) .nil))))
 .nil))))
abbrev rT:List Str:=["words","count","row","numbers"]
noncomputable def mL:bW:=
 (.cons (.ifs (.or (.cmp .NotEq (.blt .len (.cons (.var 0) .nil)) (.bin .Add (.con (.int 2)) (.var 1))) (.not (.call 1 (.cons (.ix (.var 0) (.con (.int 1))) .nil))))
  (.cons (.never)
 .nil)
  .nil)
 (.cons (.casg 3 (.comp ["word"] [] (.call 0 (.cons (.var 0) .nil)) (.name 0) (.seq (.sl (.var 0) (.some (.con (.int 2))) .none)) .none))
 (.cons (.ifs (.cmp .In (.con .non) (.var 3))
  (.cons (.never)
 .nil)
  .nil)
 (.cons (.ret (.var 3))
 .nil))))
abbrev rV:List Str:=["numbers","row","part_count","number"]
noncomputable def gH:bW:=
 (.cons (.ifs (.not (.chain .LtE .Lt (.con (.int 0)) (.var 3) (.var 2)))
  (.cons (.never)
 .nil)
  .nil)
 .nil)
noncomputable def mO:bW:=
 (.cons (.forr (.name 3) (.seq (.var 0)) gH)
 .nil)
abbrev v_:List Str:=["thing","rows","kind","sizes"]
noncomputable def kc:bW:=
 (.cons (.expr (.mth .append (.var 1) (.cons (.fst [("part ",2)]) .nil)))
 (.cons (.expr (.mth .extend (.var 1) (.cons (.comp ["word","number"] [] (.fst [("size ",0),(" ",1)]) (.tup (.cons (.name 0) (.cons (.name 1) .nil))) (.seq (.var 3)) .none) .nil)))
 .nil))
noncomputable def pY:bW:=
 (.cons (.asg (.name 1) (.lst .nil))
 (.cons (.forr (.tup (.cons (.name 2) (.cons (.name 3) .nil))) (.seq (.ix (.var 0) (.con (.int 0)))) kc)
 (.cons (.expr (.mth .extend (.var 1) (.cons (.comp ["word","i","j"] [] (.fst [("join ",0),(" ",1),(" ",2)]) (.tup (.cons (.name 0) (.cons (.name 1) (.cons (.name 2) .nil)))) (.seq (.ix (.var 0) (.con (.int 1)))) .none) .nil)))
 (.cons (.expr (.mth .extend (.var 1) (.cons (.comp ["word","i"] [] (.fst [("step ",0),(" ",1)]) (.tup (.cons (.name 0) (.cons (.name 1) .nil))) (.seq (.ix (.var 0) (.con (.int 2)))) .none) .nil)))
 (.cons (.ret (.mth .join (.con (.str "\n")) (.cons (.var 1) .nil)))
 .nil)))))
abbrev Il:List Str:=["_law_cell","_law_k","_law_factor"]
noncomputable def Ct:bW:=
 (.cons (.ret (.bin .Mod (.bin .Mult (.bin .Add (.bin .Add (.var 0) (.bin .Mult (.var 1) (.var 1))) (.con (.int 1))) (.var 2)) (.con (.int 2305843009213693951))))
 .nil)
abbrev Gd:List Str:=["_law_script","_law_factor"]
noncomputable def z_:bW:=
 (.cons (.ret (.call 0 (.cons (.blt .sum (.cons (.comp ["_law_cell"] [] (.bin .Mod (.var 0) (.con (.int 1000003))) (.name 0) (.seq (.sl (.var 0) .none (.some (.con (.int 63))))) .none) .nil)) (.cons (.bin .Mod (.blt .len (.cons (.var 0) .nil)) (.con (.int 64))) (.cons (.var 1) .nil)))))
 .nil)
abbrev Ge:List Str:=["_law_k","_law_salt_here","_law_some","_law_turn","_law_size","_law_spot","_law_head"]
noncomputable def Aa:bW:=
 (.cons (.asg (.name 2) (.con (.str "bcdefghijklmnopqrstuvwxyz")))
 (.cons (.asg (.name 3) (.ix (.var 2) (.bin .Mod (.bin .Add (.bin .Mult (.con (.int 7)) (.var 0)) (.bin .FloorDiv (.var 1) (.con (.int 7)))) (.con (.int 25)))))
 (.cons (.ifs (.cmp .Eq (.bin .Mod (.var 1) (.con (.int 5))) (.con (.int 0)))
  (.cons (.ret (.var 3))
 .nil)
  .nil)
 (.cons (.ifs (.and (.cmp .Eq (.bin .Mod (.var 1) (.con (.int 5))) (.con (.int 1))) (.cmp .Lt (.var 0) (.con (.int 8))))
  (.cons (.ret (.bin .Mult (.ix (.var 2) (.bin .Mod (.bin .FloorDiv (.var 1) (.con (.int 5))) (.con (.int 7)))) (.bin .Add (.con (.int 1)) (.bin .Mod (.bin .Add (.bin .Mult (.con (.int 3)) (.var 0)) (.bin .FloorDiv (.var 1) (.con (.int 35)))) (.con (.int 8))))))
 .nil)
  .nil)
 (.cons (.asg (.name 4) (.bin .Add (.con (.int 2)) (.bin .Mod (.bin .FloorDiv (.var 1) (.con (.int 5))) (.con (.int 7)))))
 (.cons (.asg (.name 5) (.bin .Mod (.bin .FloorDiv (.var 1) (.con (.int 35))) (.bin .Sub (.var 4) (.con (.int 1)))))
 (.cons (.asg (.name 6) (.bin .Mult (.ix (.var 2) (.bin .Mod (.bin .FloorDiv (.var 1) (.con (.int 245))) (.con (.int 25)))) (.var 5)))
 (.cons (.ret (.bin .Add (.bin .Add (.bin .Add (.var 6) (.var 3)) (.con (.str "q"))) (.bin .Mult (.ix (.var 2) (.bin .Mod (.bin .FloorDiv (.var 1) (.con (.int 6125))) (.con (.int 25)))) (.bin .Sub (.bin .Sub (.var 4) (.var 5)) (.con (.int 2))))))
 .nil))))))))
abbrev DJ:List Str:=["_law_cells","_law_salt_here","_law_kinds_here","_law_k","_law_m","_law_upper"]
noncomputable def nA:bW:=
 (.cons (.asg (.name 4) (.call 1 (.cons (.ix (.var 0) (.var 3)) (.cons (.var 3) (.cons (.con (.int 1234567890123456789)) .nil)))))
 (.cons (.asg (.name 5) (.con (.str "")))
 (.cons (.ifs (.and (.cmp .Gt (.var 3) (.con (.int 0))) (.cmp .Gt (.bin .Mod (.var 4) (.con (.int 4))) (.con (.int 0))))
  (.cons (.asg (.name 5) (.ix (.ix (.var 2) (.bin .Mod (.bin .FloorDiv (.var 4) (.con (.int 4))) (.var 3))) (.con (.int 0))))
 .nil)
  .nil)
 (.cons (.expr (.mth .append (.var 2) (.cons (.tup (.cons (.call 0 (.cons (.var 3) (.cons (.var 1) .nil))) (.cons (.var 5) .nil))) .nil)))
 .nil))))
noncomputable def xG:bW:=
 (.cons (.asg (.name 2) (.lst .nil))
 (.cons (.forr (.name 3) (.range (.cons (.blt .len (.cons (.var 0) .nil)) .nil)) nA)
 (.cons (.ret (.var 2))
 .nil)))
abbrev Gf:List Str:=["_law_rows","_law_salt_here","_law_lines","_law_k","_law_m","_law_line","_law_word"]
noncomputable def jw:bW:=
 (.cons (.asg (.name 5) (.bin .Add (.bin .Add (.var 5) (.var 6)) (.bin .Mult (.con (.str " ")) (.bin .Add (.con (.int 1)) (.bin .Mod (.bin .FloorDiv (.var 4) (.con (.int 3))) (.con (.int 2)))))))
 (.cons (.asg (.name 4) (.bin .FloorDiv (.var 4) (.con (.int 2))))
 .nil))
noncomputable def oM:bW:=
 (.cons (.asg (.name 4) (.call 0 (.cons (.var 1) (.cons (.var 3) (.cons (.con (.int 1313131313131313131)) .nil)))))
 (.cons (.asg (.name 5) (.bin .Mult (.con (.str " ")) (.bin .Mod (.var 4) (.con (.int 3)))))
 (.cons (.forr (.name 6) (.seq (.ix (.var 0) (.var 3))) jw)
 (.cons (.expr (.mth .append (.var 2) (.cons (.var 5) .nil)))
 (.cons (.ifs (.cmp .Eq (.bin .Mod (.var 4) (.con (.int 5))) (.con (.int 1)))
  (.cons (.expr (.mth .append (.var 2) (.cons (.bin .Mult (.con (.str " ")) (.bin .Mod (.bin .FloorDiv (.var 4) (.con (.int 5))) (.con (.int 2)))) .nil)))
 .nil)
  .nil)
 .nil)))))
noncomputable def Ab:bW:=
 (.cons (.asg (.name 2) (.lst .nil))
 (.cons (.forr (.name 3) (.range (.cons (.blt .len (.cons (.var 0) .nil)) .nil)) oM)
 (.cons (.ifs (.cmp .Eq (.bin .Mod (.bin .FloorDiv (.var 1) (.con (.int 3))) (.con (.int 4))) (.con (.int 1)))
  (.cons (.expr (.mth .insert (.var 2) (.cons (.con (.int 0)) (.cons (.con (.str "")) .nil))))
 .nil)
  .nil)
 (.cons (.ret (.mth .join (.con (.str "\n")) (.cons (.var 2) .nil)))
 .nil))))
abbrev Bk:List Str:=["_law_m","_law_number_here"]
noncomputable def vI:bW:=
 (.cons (.asg (.name 1) (.bin .Sub (.bin .Mod (.bin .FloorDiv (.var 0) (.con (.int 6))) (.con (.int 7))) (.con (.int 3))))
 (.cons (.ifs (.cmp .Eq (.bin .Mod (.var 0) (.con (.int 3))) (.con (.int 1)))
  (.cons (.asg (.name 1) (.bin .Mod (.bin .Mult (.var 0) (.con (.int 48271))) (.bin .Pow (.con (.int 10)) (.con (.int 30)))))
 .nil)
  .nil)
 (.cons (.ifs (.cmp .Eq (.bin .Mod (.var 0) (.con (.int 6))) (.con (.int 2)))
  (.cons (.asg (.name 1) (.neg (.bin .Mod (.bin .Mult (.var 0) (.con (.int 69621))) (.bin .Pow (.con (.int 10)) (.con (.int 30))))))
 .nil)
  .nil)
 (.cons (.ret (.var 1))
 .nil))))
abbrev DK:List Str:=["_law_kinds_here","_law_cells","_law_salt_here","_law_parts_here","_law_k","_law_m","_law_sizes","_law_turn"]
noncomputable def iS:bW:=
 (.cons (.asg (.sub (.var 6) (.call 0 (.cons (.bin .Add (.con (.int 16)) (.bin .Mod (.bin .Add (.bin .FloorDiv (.var 5) (.con (.int 5))) (.bin .Mult (.var 7) (.bin .Add (.con (.int 1)) (.bin .Mod (.bin .FloorDiv (.var 5) (.con (.int 50))) (.con (.int 3)))))) (.con (.int 9)))) (.cons (.bin .FloorDiv (.var 2) (.con (.int 3))) .nil)))) (.call 1 (.cons (.bin .FloorDiv (.var 5) (.bin .Add (.con (.int 11)) (.var 7))) .nil)))
 .nil)
noncomputable def nB:bW:=
 (.cons (.asg (.name 5) (.call 2 (.cons (.ix (.var 1) (.var 4)) (.cons (.var 4) (.cons (.con (.int 1414141414141414141)) .nil)))))
 (.cons (.asg (.name 6) (.dct))
 (.cons (.forr (.name 7) (.range (.cons (.bin .Mod (.var 5) (.con (.int 5))) .nil)) iS)
 (.pin 6 (.cons (.expr (.mth .append (.var 3) (.cons (.tup (.cons (.ix (.ix (.var 0) (.bin .Mod (.bin .FloorDiv (.var 5) (.con (.int 7))) (.blt .len (.cons (.var 0) .nil)))) (.con (.int 0))) (.cons (.var 6) .nil))) .nil)))
 .nil)))))
noncomputable def xH:bW:=
 (.cons (.asg (.name 3) (.lst .nil))
 (.cons (.forr (.name 4) (.range (.cons (.blt .len (.cons (.var 1) .nil)) .nil)) nB)
 (.cons (.ret (.var 3))
 .nil)))
abbrev DL:List Str:=["_law_many","_law_cells","_law_salt_here","_law_joins_here","_law_k","_law_m","_law_i","_law_j","_law_one"]
noncomputable def k_:bW:=
 (.cons (.asg (.name 5) (.call 1 (.cons (.ix (.var 1) (.var 4)) (.cons (.var 4) (.cons (.con (.int 1515151515151515151)) .nil)))))
 (.cons (.asg (.name 6) (.bin .Mod (.var 5) (.blt .max (.cons (.con (.int 1)) (.cons (.var 0) .nil)))))
 (.cons (.asg (.name 7) (.bin .Mod (.bin .Add (.bin .Add (.var 6) (.con (.int 1))) (.bin .Mod (.bin .FloorDiv (.var 5) (.con (.int 9))) (.blt .max (.cons (.con (.int 1)) (.cons (.bin .Sub (.var 0) (.con (.int 1))) .nil))))) (.blt .max (.cons (.con (.int 1)) (.cons (.var 0) .nil)))))
 (.cons (.asg (.name 8) (.tup (.cons (.call 0 (.cons (.bin .Mod (.bin .FloorDiv (.var 5) (.con (.int 100))) (.con (.int 3))) (.cons (.bin .FloorDiv (.var 2) (.con (.int 5))) .nil))) (.cons (.var 6) (.cons (.var 7) .nil)))))
 (.cons (.ifs (.and (.cmp .Gt (.var 0) (.con (.int 1))) (.cmp .NotIn (.var 8) (.var 3)))
  (.cons (.expr (.mth .append (.var 3) (.cons (.var 8) .nil)))
 .nil)
  .nil)
 .nil)))))
noncomputable def xJ:bW:=
 (.cons (.asg (.name 3) (.lst .nil))
 (.cons (.forr (.name 4) (.range (.cons (.blt .len (.cons (.var 1) .nil)) .nil)) k_)
 (.cons (.ret (.var 3))
 .nil)))
abbrev DM:List Str:=["_law_many","_law_cells","_law_salt_here","_law_steps_here","_law_k","_law_m"]
noncomputable def lq:bW:=
 (.cons (.asg (.name 5) (.call 1 (.cons (.ix (.var 1) (.var 4)) (.cons (.var 4) (.cons (.con (.int 1616161616161616161)) .nil)))))
 (.cons (.ifs (.cmp .Gt (.var 0) (.con (.int 0)))
  (.cons (.expr (.mth .append (.var 3) (.cons (.tup (.cons (.call 0 (.cons (.bin .Mod (.bin .FloorDiv (.var 5) (.con (.int 11))) (.con (.int 3))) (.cons (.bin .FloorDiv (.var 2) (.con (.int 7))) .nil))) (.cons (.bin .Mod (.var 5) (.var 0)) .nil))) .nil)))
 .nil)
  .nil)
 .nil))
noncomputable def xK:bW:=
 (.cons (.asg (.name 3) (.lst .nil))
 (.cons (.forr (.name 4) (.range (.cons (.blt .len (.cons (.var 1) .nil)) .nil)) lq)
 (.cons (.ret (.var 3))
 .nil)))
abbrev uQ:List Str:=["_law_parts_here","_law_joins_here","_law_steps_here","_law_rows","_law_kind","_law_sizes","_law_word","_law_i","_law_j"]
noncomputable def ir:bW:=
 (.cons (.expr (.mth .append (.var 3) (.cons (.lst (.cons (.con (.str "step")) (.cons (.var 6) (.cons (.blt .str (.cons (.var 7) .nil)) .nil)))) .nil)))
 .nil)
noncomputable def iu:bW:=
 (.cons (.expr (.mth .append (.var 3) (.cons (.lst (.cons (.con (.str "join")) (.cons (.var 6) (.cons (.blt .str (.cons (.var 7) .nil)) (.cons (.blt .str (.cons (.var 8) .nil)) .nil))))) .nil)))
 .nil)
noncomputable def fh:bW:=
 (.cons (.expr (.mth .append (.var 3) (.cons (.lst (.cons (.con (.str "size")) (.cons (.var 6) (.cons (.blt .str (.cons (.ix (.var 5) (.var 6)) .nil)) .nil)))) .nil)))
 .nil)
noncomputable def iw:bW:=
 (.cons (.expr (.mth .append (.var 3) (.cons (.lst (.cons (.con (.str "part")) (.cons (.var 4) .nil))) .nil)))
 (.cons (.fork (.name 6) 5 fh)
 .nil))
noncomputable def oA:bW:=
 (.cons (.asg (.name 3) (.lst .nil))
 (.cons (.forr (.tup (.cons (.name 4) (.cons (.name 5) .nil))) (.seq (.var 0)) iw)
 (.cons (.forr (.tup (.cons (.name 6) (.cons (.name 7) (.cons (.name 8) .nil)))) (.seq (.var 1)) iu)
 (.cons (.forr (.tup (.cons (.name 6) (.cons (.name 7) .nil))) (.seq (.var 2)) ir)
 (.cons (.ret (.var 3))
 .nil)))))
abbrev DN:List Str:=["_law_rows","_law_m","_law_told","_law_laid","_law_late","_law_row"]
noncomputable def fO:bW:=
 (.cons (.expr (.mth .append (.var 3) (.cons (.ix (.var 4) (.con (.int 0))) .nil)))
 (.cons (.asg (.name 4) (.sl (.var 4) (.some (.con (.int 1))) .none))
 .nil))
noncomputable def gm:bW:=
 (.cons (.ifs (.cmp .In (.ix (.var 5) (.con (.int 0))) (.tup (.cons (.con (.str "part")) (.cons (.con (.str "size")) .nil))))
  (.cons (.expr (.mth .append (.var 3) (.cons (.var 5) .nil)))
 (.cons (.asg (.name 2) (.bin .Add (.var 2) (.blt .int (.cons (.cmp .Eq (.ix (.var 5) (.con (.int 0))) (.con (.str "part"))) .nil))))
 (.cons (.whil (.and (.cmp .Gt (.bin .Mod (.var 1) (.con (.int 3))) (.con (.int 0))) (.and (.cmp .Gt (.blt .len (.cons (.var 4) .nil)) (.con (.int 0))) (.cmp .Lt (.mx1 true (.comp ["_law_word"] [] (.blt .int (.cons (.var 0) .nil)) (.name 0) (.seq (.sl (.ix (.var 4) (.con (.int 0))) (.some (.con (.int 2))) .none)) .none)) (.var 2)))) fO)
 (.cons (.asg (.name 1) (.bin .FloorDiv (.var 1) (.con (.int 2))))
 .nil))))
  .nil)
 .nil)
noncomputable def gn:bW:=
 (.cons (.ifs (.cmp .In (.ix (.var 5) (.con (.int 0))) (.tup (.cons (.con (.str "join")) (.cons (.con (.str "step")) .nil))))
  (.cons (.expr (.mth .append (.var 4) (.cons (.var 5) .nil)))
 .nil)
  .nil)
 .nil)
noncomputable def xM:bW:=
 (.cons (.asg (.name 2) (.con (.int 0)))
 (.cons (.asg (.name 3) (.lst .nil))
 (.cons (.asg (.name 4) (.lst .nil))
 (.cons (.forr (.name 5) (.seq (.var 0)) gn)
 (.cons (.forr (.name 5) (.seq (.var 0)) gm)
 (.cons (.ret (.bin .Add (.var 3) (.var 4)))
 .nil))))))
abbrev zj:List Str:=["_law_parts_here","_law_joins_here","_law_steps_here","_law_rows","_law_kind","_law_sizes","_law_word","_law_i","_law_j"]
noncomputable def jM:bW:=
 (.cons (.expr (.mth .append (.var 3) (.cons (.bin .Add (.bin .Add (.bin .Add (.con (.str "step ")) (.var 6)) (.con (.str " "))) (.blt .str (.cons (.var 7) .nil))) .nil)))
 .nil)
noncomputable def jN:bW:=
 (.cons (.expr (.mth .append (.var 3) (.cons (.bin .Add (.bin .Add (.bin .Add (.bin .Add (.bin .Add (.con (.str "join ")) (.var 6)) (.con (.str " "))) (.blt .str (.cons (.var 7) .nil))) (.con (.str " "))) (.blt .str (.cons (.var 8) .nil))) .nil)))
 .nil)
noncomputable def jP:bW:=
 (.cons (.expr (.mth .append (.var 3) (.cons (.bin .Add (.bin .Add (.bin .Add (.con (.str "size ")) (.var 6)) (.con (.str " "))) (.blt .str (.cons (.ix (.var 5) (.var 6)) .nil))) .nil)))
 .nil)
noncomputable def jQ:bW:=
 (.cons (.expr (.mth .append (.var 3) (.cons (.bin .Add (.con (.str "part ")) (.var 4)) .nil)))
 (.cons (.forr (.name 6) (.seq (.blt .sorted (.cons (.blt .list (.cons (.var 5) .nil)) .nil))) jP)
 .nil))
noncomputable def uw:bW:=
 (.cons (.asg (.name 3) (.lst .nil))
 (.cons (.forr (.tup (.cons (.name 4) (.cons (.name 5) .nil))) (.seq (.var 0)) jQ)
 (.cons (.forr (.tup (.cons (.name 6) (.cons (.name 7) (.cons (.name 8) .nil)))) (.seq (.blt .sorted (.cons (.var 1) .nil))) jN)
 (.cons (.forr (.tup (.cons (.name 6) (.cons (.name 7) .nil))) (.seq (.var 2)) jM)
 (.cons (.ret (.mth .join (.con (.str "\n")) (.cons (.var 3) .nil)))
 .nil)))))
abbrev Im:List Str:=["_law_parts_here","_law_joins_here","_law_steps_here","_law_told","_law_kind","_law_sizes"]
noncomputable def qK:bW:=
 (.cons (.expr (.mth .append (.var 3) (.cons (.tup (.cons (.var 4) (.cons (.comp ["_law_word"] [5] (.tup (.cons (.var 0) (.cons (.ix (.var 1) (.var 0)) .nil))) (.name 0) (.seq (.blt .sorted (.cons (.blt .list (.cons (.var 5) .nil)) .nil))) .none) .nil))) .nil)))
 .nil)
noncomputable def Cu:bW:=
 (.cons (.asg (.name 3) (.lst .nil))
 (.cons (.forr (.tup (.cons (.name 4) (.cons (.name 5) .nil))) (.seq (.var 0)) qK)
 (.cons (.ret (.tup (.cons (.var 3) (.cons (.blt .sorted (.cons (.var 1) .nil)) (.cons (.blt .list (.cons (.var 2) .nil)) .nil)))))
 .nil)))
abbrev Bl:List Str:=["_law_thing","_law_part"]
noncomputable def mD:bW:=
 (.cons (.ifs (.or (.not (.isi (.var 1) .tuple)) (.not (.isi (.ix (.var 1) (.con (.int 1))) .list)))
  (.cons (.ret (.con (.bl false)))
 .nil)
  .nil)
 .nil)
noncomputable def vJ:bW:=
 (.cons (.ifs (.or (.not (.isi (.var 0) .tuple)) (.or (.cmp .NotEq (.blt .len (.cons (.var 0) .nil)) (.con (.int 3))) (.not (.blt .all (.cons (.comp ["_law_row"] [] (.isi (.var 0) .list) (.name 0) (.seq (.var 0)) .none) .nil)))))
  (.cons (.ret (.con (.bl false)))
 .nil)
  .nil)
 (.cons (.forr (.name 1) (.seq (.ix (.var 0) (.con (.int 0)))) mD)
 (.cons (.ret (.blt .all (.cons (.comp ["_law_one"] [] (.isi (.var 0) .tuple) (.name 0) (.seq (.bin .Add (.ix (.var 0) (.con (.int 1))) (.ix (.var 0) (.con (.int 2))))) .none) .nil)))
 .nil)))
abbrev Sq:List Str:=["_law_script","_law_salt_here","_law_cells","_law_kinds_here","_law_parts_here","_law_joins_here","_law_steps_here","_law_text_here","_law_found","_law_due_here","_law_written_here","_law_row","_law_part"]
noncomputable def Ac:bW:=
 (.cons (.expr (.mth .append (.ix (.var 12) (.con (.int 1))) (.cons (.tup (.cons (.con (.str "zz")) (.cons (.con (.int 1)) .nil))) .nil)))
 .nil)
noncomputable def Ad:bW:=
 (.cons (.expr (.mth .append (.var 11) (.cons (.tup (.cons (.con (.str "zz")) (.cons (.lst .nil) .nil))) .nil)))
 .nil)
noncomputable def nC:bW:=
 (.cons (.asg (.name 1) (.call 12 (.cons (.var 0) (.cons (.con (.int 487654321987654321)) .nil))))
 (.cons (.asg (.name 2) (.bin .Add (.sl (.var 0) .none (.some (.con (.int 63)))) (.lst (.cons (.bin .FloorDiv (.var 1) (.con (.int 3))) (.cons (.bin .FloorDiv (.var 1) (.con (.int 5))) (.cons (.bin .FloorDiv (.var 1) (.con (.int 7))) (.cons (.bin .FloorDiv (.var 1) (.con (.int 11))) .nil)))))))
 (.cons (.asg (.name 3) (.call 11 (.cons (.sl (.var 2) .none (.some (.bin .Add (.con (.int 1)) (.bin .Mod (.bin .FloorDiv (.var 1) (.con (.int 13))) (.con (.int 6)))))) (.cons (.var 1) .nil))))
 (.cons (.asg (.name 4) (.call 10 (.cons (.var 3) (.cons (.sl (.var 2) (.some (.con (.int 2))) (.some (.bin .Add (.con (.int 2)) (.bin .Mod (.bin .FloorDiv (.var 1) (.con (.int 78))) (.con (.int 9)))))) (.cons (.var 1) .nil)))))
 (.cons (.asg (.name 5) (.call 9 (.cons (.blt .len (.cons (.var 4) .nil)) (.cons (.sl (.var 2) (.some (.con (.int 3))) (.some (.bin .Add (.con (.int 3)) (.bin .Mod (.bin .FloorDiv (.var 1) (.con (.int 702))) (.con (.int 17)))))) (.cons (.var 1) .nil)))))
 (.cons (.asg (.name 6) (.call 8 (.cons (.blt .len (.cons (.var 4) .nil)) (.cons (.sl (.var 2) (.some (.con (.int 1))) (.some (.bin .Add (.con (.int 1)) (.bin .Mod (.bin .FloorDiv (.var 1) (.con (.int 11934))) (.con (.int 9)))))) (.cons (.var 1) .nil)))))
 (.cons (.asg (.name 7) (.call 5 (.cons (.call 6 (.cons (.call 7 (.cons (.var 4) (.cons (.var 5) (.cons (.var 6) .nil)))) (.cons (.bin .FloorDiv (.var 1) (.con (.int 17))) .nil))) (.cons (.bin .FloorDiv (.var 1) (.con (.int 19))) .nil))))
 (.cons (.asg (.name 8) (.call 1 (.cons (.blt .list (.cons (.var 3) .nil)) (.cons (.var 7) .nil))))
 (.cons (.asg (.name 9) (.call 4 (.cons (.var 4) (.cons (.var 5) (.cons (.var 6) .nil)))))
 (.cons (.ifs (.or (.not (.call 3 (.cons (.var 8) .nil))) (.cmp .NotEq (.var 8) (.var 9)))
  (.cons (.ret (.con (.bl false)))
 .nil)
  .nil)
 (.cons (.asg (.name 10) (.call 0 (.cons (.var 8) .nil)))
 (.cons (.ifs (.or (.cmp .NotEq (.var 10) (.call 2 (.cons (.var 4) (.cons (.var 5) (.cons (.var 6) .nil))))) (.or (.cmp .NotEq (.var 8) (.var 9)) (.cmp .NotEq (.call 1 (.cons (.blt .list (.cons (.var 3) .nil)) (.cons (.var 10) .nil))) (.var 9))))
  (.cons (.ret (.con (.bl false)))
 .nil)
  .nil)
 (.chg (.forr (.name 11) (.seq (.var 8)) Ad)
 (.chg (.forr (.name 12) (.seq (.ix (.var 8) (.con (.int 0)))) Ac)
 (.cons (.ret (.and (.cmp .Eq (.call 1 (.cons (.blt .list (.cons (.var 3) .nil)) (.cons (.var 7) .nil))) (.var 9)) (.cmp .Eq (.call 0 (.cons (.var 9) .nil)) (.var 10))))
 .nil)))))))))))))))
noncomputable def c_:List D:=[(.str "a"),(.str "an"),(.str "the"),(.str "said"),(.str "claim"),(.str "on"),(.str "or"),(.str "then"),(.str "from"),(.str "to"),(.str "of"),(.str "at"),(.str "least"),(.str "most"),(.str "just"),(.str "is")]
noncomputable def wc:List PG:=[]
noncomputable def ic:List D->R D:=d_ wc 1000 v_ 1 pY
noncomputable def Bm:List PG:=[]
noncomputable def qL:List D->R D:=d_ Bm 1000 Bj 1 vH
noncomputable def DO:List PG:=[.fn qL []]
noncomputable def lu:List D->R D:=d_ DO 1000 DC 1 xA
noncomputable def xN:List PG:=[]
noncomputable def ly:List D->R D:=d_ xN 1000 xy 3 rR
noncomputable def DP:List PG:=[.val (.cst c_),.fn ly [],.val (.int 8)]
noncomputable def mT:List D->R D:=d_ DP 1000 DB 1 xw
noncomputable def DQ:List PG:=[.val (.int 8),.fn mT []]
noncomputable def je:List D->R D:=d_ DQ 1000 DE 4 xC
noncomputable def xO:List PG:=[.fn ly [],.val (.int 30)]
noncomputable def nD:List D->R D:=d_ xO 1000 xx 1 rQ
noncomputable def zl:List PG:=[.fn nD []]
noncomputable def fQ:List D->R D:=d_ zl 1000 zh 1 uu
noncomputable def rW:List PG:=[.fn fQ [],.fn mT []]
noncomputable def dH:List D->R D:=d_ rW 1000 rT 3 mL
noncomputable def DR:List PG:=[.val (.int 4),.fn dH []]
noncomputable def jf:List D->R D:=d_ DR 1000 DF 3 xD
noncomputable def iT:List PG:=[]
noncomputable def fX:List D->R D:=d_ iT 1000 rV 3 mO
noncomputable def DS:List PG:=[.val (.int 16),.fn fX [],.fn dH []]
noncomputable def jg:List D->R D:=d_ DS 1000 DG 4 xE
noncomputable def DT:List PG:=[.val (.int 8),.fn fX [],.fn dH []]
noncomputable def jh:List D->R D:=d_ DT 1000 DH 4 xF
noncomputable def cQ:List PG:=[.fn lu [],.fn je [],.fn jf [],.fn jg [],.fn jh []]
noncomputable def g7:List D->R D:=d_ cQ 1000 xB 2 rS
noncomputable def zm:List PG:=[]
noncomputable def kI:List D->R D:=d_ zm 1000 zj 3 uw
noncomputable def qM:List PG:=[]
noncomputable def lG:List D->R D:=d_ qM 1000 Bl 1 vJ
noncomputable def yG:List PG:=[]
noncomputable def qU:List D->R D:=d_ yG 1000 Im 3 Cu
noncomputable def Uz:List PG:=[]
noncomputable def jR:List D->R D:=d_ Uz 1000 Il 3 Ct
noncomputable def lA:List PG:=[.fn jR []]
noncomputable def rX:List D->R D:=d_ lA 1000 Gf 2 Ab
noncomputable def DU:List PG:=[]
noncomputable def oZ:List D->R D:=d_ DU 1000 DN 2 xM
noncomputable def cH:List PG:=[]
noncomputable def jS:List D->R D:=d_ cH 1000 uQ 3 oA
noncomputable def Rf:List PG:=[]
noncomputable def iU:List D->R D:=d_ Rf 1000 Ge 2 Aa
noncomputable def tF:List PG:=[.fn iU [],.fn jR []]
noncomputable def o7:List D->R D:=d_ tF 1000 DM 3 xK
noncomputable def tG:List PG:=[.fn iU [],.fn jR []]
noncomputable def o8:List D->R D:=d_ tG 1000 DL 3 xJ
noncomputable def Bo:List PG:=[]
noncomputable def nE:List D->R D:=d_ Bo 1000 Bk 1 vI
noncomputable def lB:List PG:=[.fn iU [],.fn nE [],.fn jR []]
noncomputable def o9:List D->R D:=d_ lB 1000 DK 3 xH
noncomputable def tH:List PG:=[.fn iU [],.fn jR []]
noncomputable def o_:List D->R D:=d_ tH 1000 DJ 2 xG
noncomputable def Gg:List PG:=[.fn jR []]
noncomputable def rY:List D->R D:=d_ Gg 1000 Gd 2 z_
noncomputable def Yg:List PG:=[.fn ic [],.fn g7 [],.fn kI [],.fn lG [],.fn qU [],.fn rX [],.fn oZ [],.fn jS [],.fn o7 [],.fn o8 [],.fn o9 [],.fn o_ [],.fn rY []]
noncomputable def J5:List D->R D:=d_ Yg 1000 Sq 1 nC
noncomputable def BN:List Str:=["all","enumerate","int","isinstance","len","list","max","range","sorted","str","sum","tuple"]
def we:FD:=⟨"write_thing",top 29,v_,1,[]⟩
theorem En:we.iK BN pY=true:=by decide +kernel
def Bp:FD:=⟨"words_in",top 16,Bj,1,[]⟩
theorem J6:Bp.iK BN vH=true:=by decide +kernel
def DV:FD:=⟨"rows_in",top 15,DC,1,["words_in"]⟩
theorem M5:DV.iK BN xA=true:=by decide +kernel
def xP:FD:=⟨"all_within",top 14,xy,3,[]⟩
theorem Gh:xP.iK BN rR=true:=by decide +kernel
def DW:FD:=⟨"is_word",top 11,DB,1,["KEPT_WORDS","all_within","MOST_LETTERS"]⟩
theorem M6:DW.iK BN xw=true:=by decide +kernel
def DX:FD:=⟨"part_in",top 23,DE,4,["MOST_PARTS","is_word"]⟩
theorem M7:DX.iK BN xC=true:=by decide +kernel
def xQ:FD:=⟨"is_figures",top 13,xx,1,["all_within","MOST_FIGURES"]⟩
theorem Gi:xQ.iK BN rQ=true:=by decide +kernel
def zo:FD:=⟨"number_in",top 12,zh,1,["is_figures"]⟩
theorem Hl:zo.iK BN uu=true:=by decide +kernel
def rZ:FD:=⟨"numbers_behind",top 27,rT,3,["number_in","is_word"]⟩
theorem Ae:rZ.iK BN mL=true:=by decide +kernel
def DY:FD:=⟨"size_in",top 24,DF,3,["MOST_SIZES","numbers_behind"]⟩
theorem M8:DY.iK BN xD=true:=by decide +kernel
def r9:FD:=⟨"refuse_no_part",top 28,rV,3,[]⟩
theorem Af:r9.iK BN mO=true:=by decide +kernel
def DZ:FD:=⟨"join_in",top 25,DG,4,["MOST_JOINS","refuse_no_part","numbers_behind"]⟩
theorem M9:DZ.iK BN xE=true:=by decide +kernel
def D0:FD:=⟨"step_in",top 26,DH,4,["MOST_STEPS","refuse_no_part","numbers_behind"]⟩
theorem M_:D0.iK BN xF=true:=by decide +kernel
def xR:FD:=⟨"read_thing",top 22,xB,2,["rows_in","part_in","size_in","join_in","step_in"]⟩
theorem Gj:xR.iK BN rS=true:=by decide +kernel
def zp:FD:=⟨"_law_written",top 42,zj,3,[]⟩
theorem Ho:zp.iK BN uw=true:=by decide +kernel
def Bq:FD:=⟨"_law_formed",top 44,Bl,1,[]⟩
theorem J7:Bq.iK BN vJ=true:=by decide +kernel
def Io:FD:=⟨"_law_due",top 43,Im,3,[]⟩
theorem UA:Io.iK BN Cu=true:=by decide +kernel
def Ip:FD:=⟨"_law_mix",top 31,Il,3,[]⟩
theorem UB:Ip.iK BN Ct=true:=by decide +kernel
def Gk:FD:=⟨"_law_text",top 35,Gf,2,["_law_mix"]⟩
theorem Rg:Gk.iK BN Ab=true:=by decide +kernel
def D3:FD:=⟨"_law_mixed",top 41,DN,2,[]⟩
theorem Na:D3.iK BN xM=true:=by decide +kernel
def uR:FD:=⟨"_law_thing_rows",top 40,uQ,3,[]⟩
theorem Cv:uR.iK BN oA=true:=by decide +kernel
def Gm:FD:=⟨"_law_name",top 33,Ge,2,[]⟩
theorem Rh:Gm.iK BN Aa=true:=by decide +kernel
def D4:FD:=⟨"_law_steps",top 39,DM,3,["_law_name","_law_mix"]⟩
theorem Nb:D4.iK BN xK=true:=by decide +kernel
def D5:FD:=⟨"_law_joins",top 38,DL,3,["_law_name","_law_mix"]⟩
theorem Nc:D5.iK BN xJ=true:=by decide +kernel
def Br:FD:=⟨"_law_number",top 36,Bk,1,[]⟩
theorem J8:Br.iK BN vI=true:=by decide +kernel
def D6:FD:=⟨"_law_parts",top 37,DK,3,["_law_name","_law_number","_law_mix"]⟩
theorem Nd:D6.iK BN xH=true:=by decide +kernel
def D7:FD:=⟨"_law_kinds",top 34,DJ,2,["_law_name","_law_mix"]⟩
theorem Nf:D7.iK BN xG=true:=by decide +kernel
def Gn:FD:=⟨"_law_salt",top 32,Gd,2,["_law_mix"]⟩
theorem Ri:Gn.iK BN z_=true:=by decide +kernel
def tK:FD:=⟨"law",top 45,Sq,1,["write_thing","read_thing","_law_written","_law_formed","_law_due","_law_text","_law_mixed","_law_thing_rows","_law_steps","_law_joins","_law_parts","_law_kinds","_law_salt"]⟩
theorem Yh:tK.iK BN nC=true:=by decide +kernel
end Tr
end
section
namespace K2
open PySem L2 L3
noncomputable def wordsOf(l:List Nat):List (List Nat):=(cN 32 l).filter fun w=>!w.isEmpty
theorem Hq:wordsOf []=[]:=rfl
theorem J9(c:Nat)(l:List Nat):cN c (c::l)=[]::cN c l:=by
 show(if c=c then _ else _)=_;rw[if_pos rfl]
theorem Eo(l:List Nat):wordsOf (32::l)=wordsOf l:=by
 unfold wordsOf;rw[J9];rfl
theorem ux(n:Nat)(l:List Nat):wordsOf (aQ n 32++l)=wordsOf l:=by
 induction n with
 |zero=>rfl
 |succ n ih=>rw[bN,List.cons_append,Eo,ih]
theorem r_(w l:List Nat)(hw:w≠[])(h:32∉w):wordsOf (w++32::l)=w::wordsOf l:=by
 unfold wordsOf;rw[vn 32 w l h,lN];cases w with
 |nil=>exact absurd rfl hw
 |cons a b=>rfl
theorem Gp(z w:List Nat)(k:Nat)(done:List (List Nat))(hz:∀l,wordsOf (z++l)=done++wordsOf l)(hw:w≠[])(h:32∉w) :
  ∀l,wordsOf (z++w++aQ (k+1) 32++l)=(done++[w])++wordsOf l:=by
 intro l;have e:z++w++aQ (k+1) 32++l=z++(w++32::(aQ k 32++l)):=by
  rw[bN];simp
 rw[e,hz,r_ w _ hw h,ux];simp
noncomputable def sd(x:List Nat):List (List (List Nat)):=((cN 10 x).map wordsOf).filter fun r=>!r.isEmpty
theorem wg(ls:List Str)(h:∀z∈ls,10∉z.cps.toList):sd (dS ⟨#[10]⟩ ls).cps.toList=(ls.map fun z=>wordsOf z.cps.toList).filter fun r=>!r.isEmpty:=by
 by_cases he:ls=[]
 ·subst he;decide +kernel
 ·unfold sd;have q:=oJ 10 (ls.map fun p=>p.cps.toList) (dS ⟨#[10]⟩ ls).cps.toList (by simpa using he) (by
   intro p hp;obtain⟨z,hz,rfl⟩:=aV.mp hp;exact h z hz) (join_list 10 ls he)
  rw[q,bK];rfl
noncomputable def rep(n:Int)(c:Nat):List Nat:=aQ n.toNat c
noncomputable def tL(k:Nat)(s:Int):Nat:=98+((7*(k:Int)+s / 7)%25).toNat
noncomputable def dQ(k:Nat)(s:Int):List Nat:=
 if s%5=0 then[tL k s]
 else if s%5=1/\k<8 then rep (1+(3*(k:Int)+s / 35)%8) (98+(s / 5%7).toNat)
 else rep (s / 35%(1+s / 5%7)) (98+(s / 245%25).toNat)++tL k s::113::rep (s / 5%7-s / 35%(1+s / 5%7)) (98+(s / 6125%25).toNat)
noncomputable def nF(k:Nat)(s:Int):Str:=strOf (dQ k s)
theorem bZ(a:Int){b:Int}(h:0<b):0<=a%b/\a%b<b:=⟨eG _ (by omega),dD _ h⟩
theorem Ng(k:Nat)(s:Int):98<=tL k s/\tL k s<=122:=by
 unfold tL;have:=bZ (7*(k:Int)+s / 7) (b:=25) (by decide);omega
variable{i j:Nat}{s:Int}
theorem Gq(hi:i<25)(hj:j<25)(h:tL i s=tL j s):i=j:=by
 unfold tL at h;have a:=bZ (7*(i:Int)+s / 7) (b:=25) (by decide);have b:=bZ (7*(j:Int)+s / 7) (b:=25) (by decide);omega
theorem Rj(hi:i<25)(hj:j<25)(h:dQ i s=dQ j s):i=j:=by
 unfold dQ at h;by_cases h0:s%5=0
 ·rw[if_pos h0,if_pos h0]at h;exact Gq hi hj (kH h).1
 ·rw[if_neg h0,if_neg h0]at h;have m7:=bZ (s / 5) (b:=7) (by decide);have m8i:=bZ (3*(i:Int)+s / 35) (b:=8) (by decide);have m8j:=bZ (3*(j:Int)+s / 35) (b:=8) (by decide);have msp:=bZ (s / 35) (b:=1+s / 5%7) (by omega);have noq:∀(n:Int) (c:Nat) (a b:List Nat),98<=c->c<=104->rep n c≠a++113::b:=by
   intro n c a b h1 h2 z;have:113∈rep n c:=by rw[z];simp
   have:=(dF.mp this).2;omega
  have noq':∀(n:Int) (c d:Nat) (a b:List Nat),98<=c->c<=104->rep n c≠a++d::113::b:=by
   intro n c d a b h1 h2 z;exact noq n c (a++[d]) b h1 h2 (by rw[z];simp)
  by_cases ci:s%5=1/\i<8
  ·rw[if_pos ci]at h;by_cases cj:s%5=1/\j<8
   ·rw[if_pos cj]at h;have z:=congrArg zz h;unfold rep at z;rw[f_,f_]at z;obtain⟨_,ci⟩:=ci;obtain⟨_,cj⟩:=cj;omega
   ·rw[if_neg cj]at h;exact absurd h (noq' _ _ _ _ _ (by omega) (by omega))
  ·rw[if_neg ci]at h;by_cases cj:s%5=1/\j<8
   ·rw[if_pos cj]at h;exact absurd h.symm (noq' _ _ _ _ _ (by omega) (by omega))
   ·rw[if_neg cj]at h;have z:=List.append_cancel_left h;exact Gq hi hj (kH z).1
theorem Rk(k:Nat)(s:Int):1<=(dQ k s).length/\(dQ k s).length<=8:=by
 unfold dQ;have m7:=bZ (s / 5) (b:=7) (by decide);have m8:=bZ (3*(k:Int)+s / 35) (b:=8) (by decide);have msp:=bZ (s / 35) (b:=1+s / 5%7) (by omega);split
 ·simp
 ·split
  ·unfold rep;rw[f_];omega
  ·unfold rep;simp only[az,bz,f_];omega
theorem Rl(k:Nat)(s:Int):∀c∈dQ k s,98<=c/\c<=122:=by
 intro c hc;unfold dQ at hc;have ht:=Ng k s;have m7:=bZ (s / 5) (b:=7) (by decide);have ma:=bZ (s / 245) (b:=25) (by decide);have mb:=bZ (s / 6125) (b:=25) (by decide);split at hc
 ·rw[aM.mp hc];exact ht
 ·split at hc
  ·rw[(dF.mp hc).2];omega
  ·rcases aD.mp hc with h|h
   ·rw[(dF.mp h).2];omega
   ·rcases aE.mp h with rfl|h
    ·exact ht
    ·rcases aE.mp h with rfl|h
     ·omega
     ·rw[(dF.mp h).2];omega
noncomputable def tM:List (List Nat):=[[97],[97,110],[116,104,101],[115,97,105,100],[99,108,97,105,109],[111,110],[111,114],[116,104,101,110],[102,114,111,109],[116,111],[111,102],[97,116],[108,101,97,115,116],[109,111,115,116],[106,117,115,116],[105,115]]
theorem Nh(k:Nat)(s:Int):dQ k s∉tM:=by
 intro h;have ht:=Ng k s;have m7:=bZ (s / 5) (b:=7) (by decide);have q1:∀w∈tM,113∉w:=by decide
 have q2:∀w∈tM,∀a b l,w=a::b::l->a≠b:=by
  intro w hw a b l e;have h2:∀w∈tM,(match w with|a::b::_=>decide (a≠b)|_=>true)=true:=by decide
  have:=h2 w hw;rw[e]at this;simpa using this
 have q3:∀w∈tM,∀a,w=[a]->a=97:=by
  intro w hw a e;have h2:∀w∈tM,(match w with|[a]=>decide (a=97)|_=>true)=true:=by decide
  have:=h2 w hw;rw[e]at this;simpa using this
 unfold dQ at h;split at h
 ·have:=q3 _ h _ rfl;omega
 ·split at h
  ·have m8:=bZ (3*(k:Int)+s / 35) (b:=8) (by decide);generalize hn:(1+(3*(k:Int)+s / 35)%8).toNat=n at *;have hn1:1<=n:=by omega
   unfold rep at h;rw[hn]at h
   match n,hn1 with
   |1,_=>
    have:=q3 _ h _ rfl;omega
   |n+2,_=>exact q2 _ h _ _ _ rfl rfl
  ·refine q1 _ h ?_;simp
end K2
end
section
namespace K2
open PySem L2 L3 Tr
theorem fZ(l:List Int):aA (l.map D.int)=l.map D.int:=c8 _ (fun _=>rfl) l
variable{α β:Type}
theorem uS(f:α->β)(l:List α)(lo hi:Option Int):cut (l.map f) lo hi=(cut l lo hi).map f:=by
 unfold cut;rw[ah,<-List.map_drop,<-List.map_take]
theorem Ag(l:List α)(k:Nat):cut l none (some (k:Int))=l.take k:=by
 unfold cut;rw[HT.n6,HT.rq,jZ,Nat.sub_zero];by_cases h:k<=l.length
 ·rw[jm h]
 ·rw[AB (by omega),cu (aB _),cu (by omega)]
theorem yH(c k f:Int)(hk:0<=k/\k<2 ^ 20)(hf:0<=f/\f<2 ^ 62):jR [.int c,.int k,.int f]=.ok (.int ((c+k*k+1)*f%2305843009213693951)):=by
 unfold jR Ct;simp_arith []
theorem all_ints(l:List Int):(l.map D.int).all jd=true:=by rw[jX];simp[jd]
theorem WI(ns:List Int)(hn:ns.length<=63)(f:Int)(hf:0<=f/\f<2 ^ 62):∃m:Int,0<=m/\m<2305843009213693951/\rY [oz ns,.int f]=.ok (.int m):=by
 unfold rY z_ Gg oz;simp_arith [];have e63:cut ns none (some 63)=ns:=by
  have:=Ag ns 63;rw[cu hn]at this;exact this
 have hm:ns.map (fun i=>D.int (i%1000003))=(ns.map (·%1000003)).map D.int:=by rw[bK];rfl
 rw[fZ,uS,e63,fZ,fZ,fB D.int (fun O=>∃o,O=[o]) (fun i=>D.int (i%1000003)) ns _ ⟨none,rfl⟩ (by
  rintro i _ O ⟨o,rfl⟩;refine⟨[some (.int i)],rfl,⟨_,rfl⟩,?_⟩;simp_arith []),hm]
 simp_arith [];rw[all_ints];generalize(sL intD (sL D.int (sL (fun x=>x%1000003) ns))).sum=z;have hk:0<=(ns.length:Int)%64/\(ns.length:Int)%64<2 ^ 20:=by omega
 have q:=yH z ((ns.length:Int)%64) f hk hf;generalize hK:(ns.length:Int)%64=k at q ⊢;refine⟨(z+k*k+1)*f%2305843009213693951,eG _ (by decide),dD _ (by decide),?_⟩;simp_arith -implicitDefEqProofs [];rw[q];simp_arith []
theorem uT(a b:List Nat):strOf a++strOf b=strOf (a++b):=by
 have h:∀x y:Str,x.cps=y.cps->x=y:=fun x y e=>by cases x;cases y;cases e;rfl
 refine h _ _ ?_;show a.toArray++b.toArray=(a++b).toArray;simp
theorem UC(n:Nat)(c:Nat):(⟨(aQ n [c]).flatten.toArray⟩:Str)=strOf (aQ n c):=by
 have e:(aQ n [c]).flatten=aQ n c:=by
  induction n with
  |zero=>rfl
  |succ n ih=>rw[bN,cT,ih];rfl
 rw[e];rfl
theorem Iq(c:Nat):(⟨#[c]⟩:Str)=strOf [c]:=rfl
theorem gk(l:List Nat):(strOf l).length=l.length:=by
 rw[<-len_str];rfl
theorem lH(i:Int)(h0:0<=i)(h1:i<25):eZ (aS "bcdefghijklmnopqrstuvwxyz").cps.toList i=some (98+i.toNat):=by
 have e:(aS "bcdefghijklmnopqrstuvwxyz").cps.toList=(bA 25).map (98+·):=by decide +kernel
 have hi:i=(i.toNat:Int):=by omega
 have q:=gw (xs:=(bA 25).map (98+·)) (j:=i.toNat) (v:=98+i.toNat) (by
  rw[aX,wJ (by omega)];rfl)
 rw[e];rw[<-hi]at q;exact q
theorem mU(c:Nat)(j:Int)(h:0<=j/\j<100):jt .Mult (.str ⟨#[c]⟩) (.int j)=.ok (.str (strOf (rep j c))):=by
 have hs:=szl;have e:(⟨#[c]⟩:Str).length=1:=rfl;rw[Gb ⟨h.1,by omega,by rw[e];omega⟩];show R.ok (D.str ⟨(aQ j.toNat [c]).flatten.toArray⟩)=_;rw[UC];rfl
theorem jT(j:Int)(c:Nat):(rep j c).length=j.toNat:=by unfold rep;rw[f_]
theorem ji(a b:List Nat)(h:a.length+b.length<=16777216):jt .Add (.str (strOf a)) (.str (strOf b))=.ok (.str (strOf (a++b))):=by
 have hs:=szl;rw[Ga (by rw[gk,gk,hs];exact h),uT]
theorem Bs(k:Nat)(s:Int)(hk:k<25)(hs0:0<=s):iU [.int (k:Int),.int s]=.ok (.str (nF k s)):=by
 have hs:=szl;have hd:∀j:Int,0<j->j<10000->q_ s j:=fun j h1 h2=>⟨h1,by omega⟩;have m7:=bZ (s / 5) (b:=7) (by decide);have m8:=bZ (3*(k:Int)+s / 35) (b:=8) (by decide);have m25:=bZ (7*(k:Int)+s / 7) (b:=25) (by decide);have ma:=bZ (s / 245) (b:=25) (by decide);have mb:=bZ (s / 6125) (b:=25) (by decide);have msp:=bZ (s / 35) (b:=1+s / 5%7) (by omega);have la:(aS "bcdefghijklmnopqrstuvwxyz").length=25:=by decide +kernel
 have l1:(aS "q")=strOf [113]:=by decide +kernel
 have e1:2+s / 5%7-1=1+s / 5%7:=by omega
 have e2:2+s / 5%7-s / 35%(1+s / 5%7)-2=s / 5%7-s / 35%(1+s / 5%7):=by omega
 unfold iU Aa;simp_arith [];rw[lH _ m25.1 m25.2];simp_arith [];unfold nF dQ;by_cases h0:s%5=0
 ·rw[beq_iff_eq.mpr h0,if_pos h0];simp_arith [];rfl
 ·rw[beq_eq_false_iff_ne.mpr h0,if_neg h0];simp_arith [];by_cases c1:s%5=1
  ·rw[beq_iff_eq.mpr c1];by_cases c2:k<8
   ·have c3:s%5=1/\k<8:=⟨c1,c2⟩;have l7:=lH _ m7.1 (by omega);rw[if_pos c3];simp_arith [];rw[decide_eq_true (show(k:Int)<8 by omega),l7];simp_arith [];rw[mU _ _ (by omega)];simp_arith []
   ·have c3:¬(s%5=1/\k<8):=fun z=>c2 z.2;rw[if_neg c3];simp_arith [];rw[decide_eq_false (show ¬(k:Int)<8 by omega)];simp_arith [];rw[lH _ ma.1 ma.2,e1];simp_arith [];rw[mU _ _ (by omega)];simp_arith [];rw[e2,lH _ mb.1 mb.2,Iq,l1];simp_arith [];rw[mU _ _ (by omega)];rw[ji _ _ (by simp only[jT,bz,fE];omega)];simp_arith [];rw[ji _ _ (by simp only[jT,bz,fE,az];omega)];simp_arith [];rw[ji _ _ (by simp only[jT,bz,fE,az];omega)];simp_arith [];rw[bS,bS];rfl
  ·have c3:¬(s%5=1/\k<8):=fun z=>c1 z.1;rw[beq_eq_false_iff_ne.mpr c1,if_neg c3];simp_arith [];rw[lH _ ma.1 ma.2,e1];simp_arith [];rw[mU _ _ (by omega)];simp_arith [];rw[e2,lH _ mb.1 mb.2,Iq,l1];simp_arith [];rw[mU _ _ (by omega)];rw[ji _ _ (by simp only[jT,bz,fE];omega)];simp_arith [];rw[ji _ _ (by simp only[jT,bz,fE,az];omega)];simp_arith [];rw[ji _ _ (by simp only[jT,bz,fE,az];omega)];simp_arith [];rw[bS,bS];rfl
variable{b:bf->Fl}
theorem lI{g:D->bf->R bf}(n:Nat)(I:Nat->bf->Prop)(h:∀k<n,∀O,I k O->∃ZZ ZY,g (.int (k:Int)) O=.ok ZZ/\b ZZ=.nx ZY/\I (k+1) ZY)(O:bf)(h0:I 0 O) :
  ∃ZV,forR g b (lY 0 n) O=.nx ZV/\I n ZV:=by
 have e:lY 0 n=(HJ 0 n).map fun k:Nat=>D.int (k:Int):=by
  unfold lY;rw[List.range_eq_range'];simp
 have go:∀(m j:Nat) (O:bf),j+m=n->I j O->∃ZV,forR g b ((HJ j m).map fun k:Nat=>D.int (k:Int)) O=.nx ZV/\I n ZV:=by
  intro m;induction m with
  |zero=>intro j O hj hi;rw[show n=j by omega];exact⟨O,rfl,hi⟩
  |succ m ih=>
   intro j O hj hi;obtain⟨ZZ,ZY,h1,h2,h3⟩:=h j (by omega) O hi;obtain⟨ZV,h4,h5⟩:=ih (j+1) ZY (by omega) h3;refine⟨ZV,?_,h5⟩;rw[List.range'_succ,bD];show(g (.int (j:Int)) O).a7 _=_;rw[h1];simp only[R.a7,h2];exact h4
 rw[e];exact go n 0 O (by omega) h0
noncomputable def WJ(s:Int):Option Nat->Str
|none=>aS ""
|some j=>nF j s
noncomputable def uU(s:Int)(i:Nat)(p:Option Nat):D:=.tup [.str (nF i s),.str (WJ s p)]
noncomputable def gz(s:Int)(up:List (Option Nat)):List D:=up.mapIdx (uU s)
def Good(up:List (Option Nat)):Prop:=∀(i p:Nat),up[i]?=some (some p)->p<i
theorem UD(s:Int)(up:List (Option Nat))(p:Option Nat):gz s up++[uU s up.length p]=gz s (up++[p]):=by
 unfold gz;rw[List.mapIdx_concat]
theorem Ir(s:Int)(up:List (Option Nat))(i:Nat)(h:i<up.length):(gz s up)[i]?=some (uU s i up[i]):=by
 unfold gz;rw[List.getElem?_mapIdx,aj h];rfl
theorem Iu(s:Int)(up:List (Option Nat)):(gz s up).length=up.length:=by
 unfold gz;rw[List.length_mapIdx]
theorem wj(x:α)(r:List α):eZ (x::r) 0=some x:=gw (j:=0) rfl
theorem qd(x y:α)(r:List α):eZ (x::y::r) 1=some y:=gw (j:=1) rfl
theorem at2(x y z:α)(r:List α):eZ (x::y::z::r) 2=some z:=gw (j:=2) rfl
theorem Cw:∀l:List D,(∀d∈l,br d=d)->aA l=l
|[],_=>rfl
|d::r,h=>by
 show br d::aA r=_;rw[h d ao,Cw r fun x hx=>h x (ai _ hx)]
theorem vK(s:Int)(up:List (Option Nat)):aA (gz s up)=gz s up:=Cw _ fun d hd=>by
 unfold gz at hd;obtain⟨i,hi,rfl⟩:=List.mem_mapIdx.mp hd;rfl
theorem Rm{up:List (Option Nat)}{p:Option Nat}(h:Good up)(hp:∀j,p=some j->j<up.length):Good (up++[p]):=by
 intro i q hi;rw[List.getElem?_append]at hi;split at hi
 ·exact h i q hi
 ·rename_i hl;have:i-up.length=0:=by
   by_cases z:i-up.length=0
   ·exact z
   ·rw[m5 (by simp;omega)]at hi;cases hi
  rw[this]at hi;have:=hp q (by simpa using hi);omega
theorem UE(cells:List Int)(o:Bool)(s:Int)(hc:cells.length<=24)(hs0:0<=s):∃up,Good up/\up.length=cells.length/\o_ [.lst o (cells.map D.int),.int s]=.ok (.lst true (gz s up)):=by
 have hs:=szl;unfold o_ xG;simp_arith [];obtain⟨ZV,h1,up,kv,mv,uv,hg,hl,rfl⟩:=lI (g:=pG (.name 3)) (b:=bq tH 1000 nA) cells.length
  (fun k O=>∃(up:List (Option Nat)) (kv mv uv:Option D),Good up/\up.length=k/\O=[some (.lst o (cells.map D.int)),some (.int s),some (.lst true (gz s up)),kv,mv,uv]) (by
  rintro k hk O ⟨up,kv,mv,uv,hg,hl,rfl⟩;have hat:eZ (cells.map D.int) (k:Int)=some (.int cells[k]):=gw (by rw[aX,aj hk];rfl);have qm:=yH cells[k] k 1234567890123456789 ⟨by omega,by omega⟩ ⟨by omega,by omega⟩;have m0:=eG ((cells[k]+(k:Int)*k+1)*1234567890123456789) (show(2305843009213693951:Int)≠0 by decide);have m1:=dD ((cells[k]+(k:Int)*k+1)*1234567890123456789) (show(0:Int)<2305843009213693951 by decide);generalize(cells[k]+(k:Int)*k+1)*1234567890123456789%2305843009213693951=M at qm m0 m1;have qn:=Bs k s (by omega) hs0;refine⟨[some (.lst o (cells.map D.int)),some (.int s),some (.lst true (gz s up)),some (.int k),mv,uv],?_⟩;have hnd:∀p:Option Nat,(∀j,p=some j->j<up.length)->∃ZY:bf,Fl.nx [some (.lst o (cells.map D.int)),some (.int s),some (.lst true (gz s up++[uU s up.length p])),some (.int k),some (.int M),some (.str (WJ s p))]=Fl.nx ZY /\
    ∃(up:List (Option Nat)) (kv mv uv:Option D),Good up/\up.length=k+1/\ZY=[some (.lst o (cells.map D.int)),some (.int s),some (.lst true (gz s up)),kv,mv,uv]:=by
   intro p hp;exact⟨_,rfl,up++[p],_,_,_,Rm hg hp,by simp[hl],by rw[UD]⟩
  suffices hh:∃p:Option Nat,(∀j,p=some j->j<up.length)/\bq tH 1000 nA [some (.lst o (cells.map D.int)),some (.int s),some (.lst true (gz s up)),some (.int k),mv,uv]=Fl.nx [some (.lst o (cells.map D.int)),some (.int s),some (.lst true (gz s up++[uU s up.length p])),some (.int k),some (.int M),some (.str (WJ s p))]by
   obtain⟨p,hp,he⟩:=hh;obtain⟨ZY,e3,e4⟩:=hnd p hp;exact⟨ZY,rfl,he.trans e3,e4⟩
  unfold nA tH;have hks:(gz s up).length<aa:=by rw[Iu];omega
  simp_arith -implicitDefEqProofs [hat,qm,fZ];by_cases c1:(k:Int)>0
  ·rw[decide_eq_true c1];simp_arith [];by_cases c2:M%4>0
   ·rw[decide_eq_true c2];have b1:=bZ (M / 4) c1;have hat2:eZ (gz s up) (M / 4%k)=some (uU s (M / 4%k).toNat (up[(M / 4%k).toNat]'(by omega))):=by
     have:=gw (Ir s up (M / 4%k).toNat (by omega));rw[show(((M / 4%k).toNat:Nat):Int)=M / 4%k by omega]at this;exact this
    refine⟨some (M / 4%k).toNat,(by rintro j h;cases h;omega),?_⟩;simp_arith [hat2,uU,qn,vK,wj];rw[cB (xs:=gz s up) rfl hks rfl];simp_arith [];subst hl;rfl
   ·rw[decide_eq_false c2];refine⟨none,(by rintro j h;cases h),?_⟩;simp_arith [qn,vK];rw[cB (xs:=gz s up) rfl hks rfl];simp_arith [];subst hl;rfl
  ·rw[decide_eq_false c1];refine⟨none,(by rintro j h;cases h),?_⟩;simp_arith [qn,vK];rw[cB (xs:=gz s up) rfl hks rfl];simp_arith [];subst hl;rfl) [some (.lst o (cells.map D.int)),some (.int s),some (.lst true []),none,none,none] ⟨[],none,none,none,(by intro i p h;cases h),rfl,rfl⟩
 refine⟨up,hg,hl,?_⟩;simp_arith [j9,ah,iy,h1]
theorem eO{g:D->bf->R bf}(enc:β->D)(xs:List β)(I:List β->bf->Prop)(h:∀pre x post,xs=pre++x::post->∀O,I pre O->∃ZZ ZY,g (enc x) O=.ok ZZ/\b ZZ=.nx ZY/\I (pre++[x]) ZY)(O:bf)(h0:I [] O) :
  ∃ZV,forR g b (xs.map enc) O=.nx ZV/\I xs ZV:=by
 have go:∀(post pre:List β) (O:bf),xs=pre++post->I pre O->∃ZV,forR g b (post.map enc) O=.nx ZV/\I xs ZV:=by
  intro post;induction post with
  |nil=>intro pre O e hi;rw[e,bI];exact⟨O,rfl,hi⟩
  |cons x r ih=>
   intro pre O e hi;obtain⟨ZZ,ZY,h1,h2,h3⟩:=h pre x r e O hi;obtain⟨ZV,h4,h5⟩:=ih (pre++[x]) ZY (by rw[e,bS];rfl) h3;refine⟨ZV,?_,h5⟩;rw[bD];show(g (enc x) O).a7 _=_;rw[h1];simp only[R.a7,h2];exact h4
 exact go xs [] O rfl h0
noncomputable def wD(w:List Nat):D:=.str (strOf w)
noncomputable def bX(r:List (List Nat)):D:=.lst false (r.map wD)
theorem ES(r:List (List Nat)):aA (r.map wD)=r.map wD:=c8 wD (fun _=>rfl) r
theorem kB(r:List (List Nat)):br (bX r)=bX r:=by
 show D.lst false (aA (r.map wD))=_;rw[ES];rfl
theorem Iw(rs:List (List (List Nat))):aA (rs.map bX)=rs.map bX:=c8 bX kB rs
theorem WK:aS " "=⟨#[32]⟩:=by decide +kernel
def Ss(c:Nat):Prop:=c=32\/(33<=c/\c<=126)
def Bt(w:List Nat):Prop:=w≠[]/\32∉w/\10∉w/\w.length<=40/\∀c∈w,33<=c/\c<=126
theorem Ni(ws:List (List Nat))(hw:∀w∈ws,Bt w)(hl:ws.length<=5)(a b c d e:Option D)(m:Int)(hm:0<=m/\m<2305843009213693951)(z0:List Nat)(hz0:∀l,wordsOf (z0++l)=wordsOf l)(hn0:10∉z0)(hz1:z0.length<=2)(hp0:∀c∈z0,Ss c) :
  ∃(m':Int) (z:List Nat) (e':Option D),forR (pG (.name 6)) (bq lA 1000 jw) (ws.map wD) [a,b,c,d,some (.int m),some (.str (strOf z0)),e]=.nx [a,b,c,d,some (.int m'),some (.str (strOf z)),e']/\0<=m'/\m'<2305843009213693951/\wordsOf z=ws/\10∉z/\z.length<=212/\∀c∈z,Ss c:=by
 have hs:=szl;obtain⟨ZV,h1,m',z,e',rfl,q1,q2,q3,q4,q5,q6⟩:=eO (g:=pG (.name 6)) (b:=bq lA 1000 jw) wD ws
  (fun done O=>∃(m':Int) (z:List Nat) (e':Option D),O=[a,b,c,d,some (.int m'),some (.str (strOf z)),e']/\0<=m'/\m'<2305843009213693951/\(∀l,wordsOf (z++l)=done++wordsOf l)/\10∉z/\z.length<=2+42*done.length/\∀c∈z,Ss c) (by
  rintro pre x post hx O ⟨m',z,e',rfl,q1,q2,q3,q4,q5,q6⟩;obtain⟨w1,w2,w3,w4,w5⟩:=hw x (by rw[hx];simp);have hpl:pre.length<=4:=by rw[hx]at hl;simp at hl;omega
  refine⟨[a,b,c,d,some (.int m'),some (.str (strOf z)),some (wD x)],[a,b,c,d,some (.int (m' / 2)),some (.str (strOf (z++x++rep (1+m' / 3%2) 32))),some (wD x)],rfl,?_,_,_,_,rfl,by omega,by omega,?_,?_,?_,?_⟩
  ·unfold jw lA wD;have b2:=bZ (m' / 3) (b:=2) (by decide);simp_arith [WK];rw[ji _ _ (by omega),mU _ _ (by omega)];simp_arith [];rw[ji _ _ (by simp only[jT,az];omega)];simp_arith []
  ·have b2:=bZ (m' / 3) (b:=2) (by decide);have e1:rep (1+m' / 3%2) 32=aQ ((m' / 3%2).toNat+1) 32:=by
    unfold rep;rw[show(1+m' / 3%2).toNat=(m' / 3%2).toNat+1 by omega]
   rw[e1];exact Gp z x _ pre q3 w1 w2
  ·intro hc;rcases aD.mp hc with hc|hc
   ·rcases aD.mp hc with hc|hc
    ·exact q4 hc
    ·exact w3 hc
   ·have:=(dF.mp hc).2;omega
  ·have b2:=bZ (m' / 3) (b:=2) (by decide);simp only[az,jT,bz,fE];omega
  ·intro y hy;rcases aD.mp hy with hy|hy
   ·rcases aD.mp hy with hy|hy
    ·exact q6 y hy
    ·exact .inr (w5 y hy)
   ·exact .inl (dF.mp hy).2) [a,b,c,d,some (.int m),some (.str (strOf z0)),e] ⟨m,z0,e,rfl,hm.1,hm.2,hz0,hn0,by simpa using hz1,hp0⟩
 refine⟨m',z,e',h1,q1,q2,?_,q4,by omega,q6⟩;have:=q3 [];rw[bI,Hq,bI]at this;exact this
noncomputable def sD(x:Str):D:=.str x
theorem strs_map:∀ls:List Str,jE (ls.map sD)=some ls
|[]=>rfl
|x::r=>by
 show(jE (r.map sD)).map (x::·)=_;rw[strs_map r];rfl
theorem Su(ls:List Str):aA (ls.map sD)=ls.map sD:=c8 sD (fun _=>rfl) ls
noncomputable def wl(x:Str):List (List Nat):=wordsOf x.cps.toList
noncomputable def linesOf(ls:List Str):List (List (List Nat)):=(ls.map wl).filter fun r=>!r.isEmpty
theorem oN(a b:List Str):linesOf (a++b)=linesOf a++linesOf b:=by
 unfold linesOf;rw[a_,g_]
def Nj(z:Str):Prop:=10∉z.cps.toList/\z.length<=212/\∀c∈z.cps.toList,Ss c
theorem Sv(z:List Nat):wl (strOf z)=wordsOf z:=rfl
theorem Nk(n:Int):wordsOf (rep n 32)=[]:=by
 have:=ux n.toNat [];rw[bI]at this;exact this
theorem Ah(n:Int):10∉rep n 32:=fun h=>by
 have:=(dF.mp h).2;omega
theorem wm(n:Int):linesOf [strOf (rep n 32)]=[]:=by
 unfold linesOf;rw[bD,Sv,Nk];rfl
theorem zq{z:List Nat}{r:List (List Nat)}(h:wordsOf z=r)(hr:r≠[]):linesOf [strOf z]=[r]:=by
 unfold linesOf;rw[bD,Sv,h,yi,lN]
 ·rfl
 ·cases r with
  |nil=>exact absurd rfl hr
  |cons a b=>rfl
def kC(r:List (List Nat)):Prop:=r≠[]/\r.length<=5/\∀w∈r,Bt w
theorem Bu(n:Nat):∀l:List Nat,(∀x∈l,x<=n)->l.sum<=l.length*n
|[],_=>cX _
|x::r,h=>by
 have:=Bu n r fun y hy=>h y (ai _ hy);have:=h x ao;rw[qc,bz,yf];omega
theorem UG(r:List (List Nat)):ou (bX r)=.ok (r.map wD):=by
 show R.ok (aA (r.map wD))=_;rw[ES]
theorem yI(r:List (List Nat)):aL (bX r)=false:=rfl
theorem WL(rows:List (List (List Nat)))(s:Int)(hs0:0<=s)(hs1:s<2305843009213693951)(hr:rows.length<=90)(hw:∀r∈rows,kC r):∃x:Str,rX [.lst false (rows.map bX),.int s]=.ok (.str x)/\sd x.cps.toList=rows/\x.length<=40000/\∃ls:List Str,x=dS ⟨#[10]⟩ ls/\(ls≠[]\/rows=[])/\∀z∈ls,Nj z:=by
 have hs:=szl;obtain⟨ZV,h1,ls,kv,mv,lv,wv,rfl,q1,q2,q3⟩:=lI (g:=pG (.name 3)) (b:=bq lA 1000 oM) rows.length
  (fun k O=>∃(ls:List Str) (kv mv lv wv:Option D),O=[some (.lst false (rows.map bX)),some (.int s),some (.lst true (ls.map sD)),kv,mv,lv,wv]/\linesOf ls=rows.take k/\(∀z∈ls,Nj z)/\ls.length<=2*k) (by
  rintro k hk O ⟨ls,kv,mv,lv,wv,rfl,q1,q2,q3⟩;have hat:eZ (rows.map bX) (k:Int)=some (bX rows[k]):=gw (by rw[aX,aj hk];rfl);have qm:=yH s k 1313131313131313131 ⟨by omega,by omega⟩ ⟨by omega,by omega⟩;have m0:=eG ((s+(k:Int)*k+1)*1313131313131313131) (show(2305843009213693951:Int)≠0 by decide);have m1:=dD ((s+(k:Int)*k+1)*1313131313131313131) (show(0:Int)<2305843009213693951 by decide);generalize(s+(k:Int)*k+1)*1313131313131313131%2305843009213693951=M at qm m0 m1;obtain⟨r1,r2,r3⟩:=hw rows[k] (gQ hk);have et:rows.take (k+1)=rows.take k++[rows[k]]:=by rw[List.take_append_getElem hk]
  have b3:=bZ M (b:=3) (by decide);refine⟨[some (.lst false (rows.map bX)),some (.int s),some (.lst true (ls.map sD)),some (.int k),mv,lv,wv],?_⟩;obtain⟨m',z,e',l1,l2,l3,l4,l5,l6,l7⟩:=Ni rows[k] r3 r2 (some (.lst false (rows.map bX))) (some (.int s)) (some (.lst true (ls.map sD))) (some (.int k)) wv M ⟨m0,m1⟩ (rep (M%3) 32) (by intro l;exact ux _ l) (Ah _) (by rw[jT];omega) (fun c hc=>.inl (dF.mp hc).2);have hll:(ls.map sD).length<aa:=by rw[ah];omega
  have hll2:(ls.map sD++[D.str (strOf z)]).length<aa:=by rw[az,ah,bU];omega
  unfold oM;rw[show bq lA 1000 jw=bq [.fn jR []] 1000 jw from rfl]at l1;generalize jw=B at l1 ⊢;unfold lA;simp_arith -implicitDefEqProofs [qm,WK];rw[mU _ _ (by omega)];simp_arith [hat,Iw,kB,UG,yI,l1];rw[cB (xs:=ls.map sD) rfl hll rfl];have e1:ls.map sD++[D.str (strOf z)]=(ls++[strOf z]).map sD:=by rw[a_];rfl
  have okz:∀y∈ls++[strOf z],Nj y:=by
   intro y hy;rcases aD.mp hy with hy|hy
   ·exact q2 y hy
   ·rw[aM.mp hy];exact⟨l5,by rw[gk];exact l6,l7⟩
  simp_arith [];by_cases c1:m'%5=1
  ·rw[beq_iff_eq.mpr c1];have b2:=bZ (m' / 5) (b:=2) (by decide);simp_arith [];rw[mU _ _ (by omega)];simp_arith [];rw[cB (xs:=ls.map sD++[D.str (strOf z)]) rfl hll2 rfl];simp_arith [];refine⟨_,rfl,ls++[strOf z]++[strOf (rep (m' / 5%2) 32)],_,_,_,_,by rw[a_,<-e1];rfl,?_,?_,?_⟩
   ·rw[oN,oN,wm,zq l4 r1,q1,et,bI]
   ·intro y hy;rcases aD.mp hy with hy|hy
    ·exact okz y hy
    ·rw[aM.mp hy];exact⟨Ah _,by rw[gk,jT];omega,fun c hc=>.inl (dF.mp hc).2⟩
   ·simp only[az,bU];omega
  ·rw[beq_eq_false_iff_ne.mpr c1];simp_arith [];refine⟨_,rfl,ls++[strOf z],_,_,_,_,by rw[<-e1],?_,okz,?_⟩
   ·rw[oN,zq l4 r1,q1,et]
   ·simp only[az,bU];omega) [some (.lst false (rows.map bX)),some (.int s),some (.lst true []),none,none,none,none] ⟨[],none,none,none,none,rfl,rfl,(by intro z hz;cases hz),by simp⟩
 have nl:aS "\n"=⟨#[10]⟩:=by decide +kernel
 unfold rX Ab;generalize oM=B at h1 ⊢;simp_arith [Iw,ah,iy,h1,nl];rw[mR]at q1;have fin:∀ls:List Str,linesOf ls=rows->(∀z∈ls,Nj z)->ls.length<=181->∃x:Str,JO (uq (((R.opt (jE (ls.map sD))).bind fun ss=>R.a9 (decide ((ss.map (·.length)).sum+ss.length*(⟨#[10]⟩:Str).length<=aa)) (.ok (.str (dS ⟨#[10]⟩ ss)))).a7 Fl.rt) (bq lA 1000 bW.nil))=R.ok (D.str x)/\sd x.cps.toList=rows/\x.length<=40000/\∃ls:List Str,x=dS ⟨#[10]⟩ ls/\(ls≠[]\/rows=[])/\∀z∈ls,Nj z:=by
  intro ls h1 h2 h3;have e1:(⟨#[10]⟩:Str).length=1:=rfl;have b1:=Bu 212 (ls.map (·.length)) (by
   intro n hn;obtain⟨z,hz,rfl⟩:=aV.mp hn;exact(h2 z hz).2.1)
  rw[ah]at b1;have b2:=vD ⟨#[10]⟩ ls;have b3:ls.length*(⟨#[10]⟩:Str).length=ls.length:=by rw[e1,Nat.mul_one]
  refine⟨dS ⟨#[10]⟩ ls,?_,?_,by omega,ls,rfl,?_,h2⟩
  ·rw[strs_map];simp_arith []
  ·rw[wg ls fun z hz=>(h2 z hz).1];exact h1
  ·cases ls with
   |nil=>exact .inr h1.symm
   |cons a r=>exact .inl (by simp)
 have em:aS ""=strOf (rep 0 32):=by decide +kernel
 by_cases c1:s / 3%4=1
 ·rw[beq_iff_eq.mpr c1];simp_arith [];rw[Dz (xs:=ls.map sD) rfl ⟨by decide,by decide,by rw[ah];omega⟩ rfl];simp_arith [];have e2:(ls.map sD).take (0:Int).toNat++D.str (aS "")::(ls.map sD).drop (0:Int).toNat=(aS ""::ls).map sD:=rfl;obtain⟨x,x1,x2⟩:=fin (aS ""::ls) (by
   show linesOf ([aS ""]++ls)=_;rw[oN,em,wm,q1];rfl) (by
   intro z hz;rcases aE.mp hz with rfl|hz
   ·exact⟨by rw[em];exact Ah 0,by rw[em,gk,jT];decide,by rw[em];exact fun c hc=>.inl (dF.mp hc).2⟩
   ·exact q2 z hz) (by rw[bz];omega)
  refine⟨x,?_,x2⟩;rw[<-x1,e2,Su]
 ·rw[beq_eq_false_iff_ne.mpr c1];simp_arith [];obtain⟨x,x1,x2⟩:=fin ls q1 q2 (by omega);refine⟨x,?_,x2⟩;rw[<-x1,Su]
noncomputable def nG(a b:Nat)(x:Str):Bool:=x.cps.toList.all fun c=>decide (a<=c)&&decide (c<=b)
theorem xS(x:Str)(a b:Nat):ly [.str x,.str ⟨#[a]⟩,.str ⟨#[b]⟩]=.ok (.bl (nG a b x)):=by
 unfold ly rR xN;simp_arith [];unfold uL;rw[fB (fun c:Nat=>D.str ⟨#[c]⟩) (fun O=>∃o,O=[o,some (D.str ⟨#[a]⟩),some (D.str ⟨#[b]⟩)]) (fun c=>D.bl (decide (a<=c)&&decide (c<=b))) x.cps.toList _ ⟨none,rfl⟩ (by
  rintro c _ O ⟨o,rfl⟩;refine⟨_,rfl,⟨_,rfl⟩,?_⟩;simp_arith [];rw[YK,YK];by_cases h1:c<a
  ·rw[decide_eq_true h1,decide_eq_false (show ¬a<=c by omega)];rfl
  ·rw[decide_eq_false h1,decide_eq_true (show a<=c by omega)];have e2:(!decide (b<c))=decide (c<=b):=by rw[eE];simp
   rw[e2];rfl)]
 simp_arith [];have e1:(x.cps.toList.map (fun c=>D.bl (decide (a<=c)&&decide (c<=b)))).all qF=true:=by rw[jX];simp[qF]
 have e2:(x.cps.toList.map (fun c=>D.bl (decide (a<=c)&&decide (c<=b)))).all tB=nG a b x:=by
  rw[jX];unfold nG;congr 1;funext c;show tB (D.bl (decide (a<=c)&&decide (c<=b)))=_;cases(decide (a<=c)&&decide (c<=b))<;>rfl
 rw[e1,e2];simp_arith []
noncomputable def isWord(x:Str):Bool:=decide (1<=x.length)&&decide (x.length<=8)&&nG 97 122 x&&!memD (.str x) c_
theorem D8(x:Str):mT [.str x]=.ok (.bl (isWord x)):=by
 unfold mT xw DP;simp_arith [];have ea:(aS "a")=⟨#[97]⟩:=by decide +kernel
 have ez:(aS "z")=⟨#[122]⟩:=by decide +kernel
 rw[ea,ez];unfold isWord;by_cases h1:1<=x.length
 ·by_cases h2:x.length<=8
  ·rw[decide_eq_true (show(1:Int)<=(x.length:Int)by omega),decide_eq_true (show(x.length:Int)<=8 by omega),decide_eq_true h1,decide_eq_true h2];simp_arith [];rw[xS];simp_arith [];have hk:e_ c_=true:=by decide +kernel
   have hz:aA c_=c_:=by rfl
   cases nG 97 122 x with
   |false=>simp_arith []
   |true=>
    have e:cL .NotIn (.str x) (br (D.cst c_))=.ok (.bl (!memD (.str x) c_)):=by
     have e0:br (D.cst c_)=D.cst c_:=by
      show D.cst (aA c_)=_;rw[hz]
     rw[e0];show(R.a9 (cF (.str x)&&e_ c_) (.ok (memD (.str x) c_))).bind (fun b=>R.ok (D.bl (!b)))=_;rw[hk];rfl
    rw[e];simp_arith []
  ·rw[decide_eq_true (show(1:Int)<=(x.length:Int)by omega),decide_eq_false (show ¬(x.length:Int)<=8 by omega),decide_eq_true h1,decide_eq_false h2];simp_arith []
 ·rw[decide_eq_false (show ¬(1:Int)<=(x.length:Int)by omega),decide_eq_false h1];simp_arith []
theorem str_beq(x y:Str):(x==y)=decide (x=y):=by
 rw[eE];simp
theorem Ai(f:α->Str)(x:Str)(l:List α):memD (.str x) (l.map fun a=>D.str (f a))=l.any fun a=>f a==x:=by
 unfold memD;rw[sJ];rfl
theorem iL{a b:List Nat}(h:strOf a=strOf b):a=b:=by
 have:=congrArg (fun z:Str=>z.cps.toList) h;simpa[strOf]using this
theorem UH:c_=tM.map fun w=>D.str (strOf w):=by
 have e1:c_=(["a","an","the","said","claim","on","or","then","from","to","of","at","least","most","just","is"]:List Str).map D.str:=rfl;have e2:(["a","an","the","said","claim","on","or","then","from","to","of","at","least","most","just","is"]:List Str)=tM.map strOf:=by decide +kernel
 rw[e1,e2,bK];rfl
theorem tN(i:Nat)(s:Int):isWord (nF i s)=true:=by
 have hl:=Rk i s;have e:(nF i s).length=(dQ i s).length:=gk _;unfold isWord;rw[decide_eq_true (by omega),decide_eq_true (by omega)];have h1:nG 97 122 (nF i s)=true:=by
  unfold nG;rw[bH];intro c hc;have:=Rl i s c hc;rw[decide_eq_true (by omega),decide_eq_true (by omega)];rfl
 have h2:memD (.str (nF i s)) c_=false:=by
  rw[UH,Ai,fq];intro w hw h;rw[str_beq,decide_eq_true_eq]at h;have:=iL h;subst this;exact Nh i s hw
 rw[h1,h2];rfl
theorem Nl(x:Str):(cN 32 x.cps.toList).filter (fun p=>!(strOf p==aS ""))=wl x:=by
 unfold wl wordsOf;congr 1;funext p;have e:aS ""=strOf []:=by decide +kernel
 cases p with
 |nil=>rw[e];simp
 |cons a b=>
  rw[e,str_beq,decide_eq_false (fun h=>by cases iL h)];rfl
theorem g32:(#[32]:Array Nat).getD 0 0=32:=rfl
theorem g10:(#[10]:Array Nat).getD 0 0=10:=rfl
theorem Gr(c:Nat)(l:List Nat):aA (rG c l)=(cN c l).map wD:=xj _
theorem J_(x:Str)(hx:x.length+2<=aa):qL [.str x]=.ok (.lst true ((wl x).map wD)):=by
 have sp1l:(⟨#[32]⟩:Str).length=1:=rfl;unfold qL vH Bm;simp_arith [WK,g32,Gr];rw[xu wD (fun O=>∃o,O=[o]) (fun p=>!(strOf p==aS "")) wD (cN 32 x.cps.toList) _ ⟨none,rfl⟩ (by
  rintro p _ O ⟨o,rfl⟩;refine⟨[some (wD p)],rfl,⟨_,rfl⟩,?_,?_⟩
  ·unfold wD;simp_arith []
  ·unfold wD;simp_arith []),Nl]
 simp_arith []
noncomputable def gh(r:List (List Nat)):D:=.lst true (r.map wD)
noncomputable def mP(x:Str):List (List (List Nat)):=(cN 10 x.cps.toList).map wordsOf
theorem Nm(x:Str)(hx:x.length+2<=aa):lu [.str x]=.ok (.lst true ((mP x).map gh)):=by
 have nll:(⟨#[10]⟩:Str).length=1:=rfl;have nl:aS "\n"=⟨#[10]⟩:=by decide +kernel
 unfold lu xA DO;simp_arith [nl,g10,Gr];rw[fB wD (fun O=>∃o,O=[o]) (fun p=>gh (wordsOf p)) (cN 10 x.cps.toList) _ ⟨none,rfl⟩ (by
  rintro p hp O ⟨o,rfl⟩;have hpl:=(qI 10 x.cps.toList).1 p hp;have q:=J_ (strOf p) (by rw[gk];have:x.length=x.cps.toList.length:=(len_str x).symm;omega);refine⟨[some (wD p)],rfl,⟨_,rfl⟩,?_⟩;unfold wD;simp_arith [q];rfl)]
 simp_arith [];unfold mP;rw[bK];rfl
end K2
end
section
namespace K2
open PySem L2 L3 Tr
open PySem.NumText
noncomputable def eV:Nat->Nat->List Nat
|0,m=>[48+m%10]
|k+1,m=>if m<10 then[48+m]else eV k (m / 10)++[48+m%10]
theorem Rn(l:List Nat)(c:Nat):digitsVal (l++[c])=digitsVal l*10+(c-48):=by
 unfold digitsVal;rw[yW];rfl
theorem nH:∀(k m:Nat),m<10 ^ (k+1)->AllDigits (eV k m)/\eV k m≠[]/\(eV k m).length<=k+1/\digitsVal (eV k m)=m/\(m≠0->∀r,eV k m≠48::r)/\(m=0->eV k m=[48])
|0,m,h=>by
 have h:m<10:=by simpa using h
 show AllDigits [48+m%10]/\_;rw[sM h];refine⟨fun c hc=>by rw[aM.mp hc];omega,by simp[eV],by simp[eV],?_,?_,?_⟩
 ·show digitsVal [48+m%10]=m;rw[sM h];show 0*10+(48+m-48)=m;omega
 ·intro hm r e;have e:[48+m%10]=48::r:=e;rw[sM h]at e;have:=(kH e).1;omega
 ·rintro rfl;rfl
|k+1,m,h=>by
 unfold eV;by_cases c:m<10
 ·rw[if_pos c];refine⟨fun c hc=>by rw[aM.mp hc];omega,by simp,by simp,?_,?_,?_⟩
  ·show 0*10+(48+m-48)=m;omega
  ·intro hm r e;have:=(kH e).1;omega
  ·rintro rfl;rfl
 ·rw[if_neg c];obtain⟨h1,h2,h3,h4,h5,_⟩:=nH k (m / 10) (by
   have e:10 ^ (k+1+1)=10*10 ^ (k+1):=by rw[Nat.pow_succ,GY]
   rw[e]at h;exact Nat.div_lt_of_lt_mul h)
  refine⟨fun c hc=>?_,by simp,by simp;omega,?_,?_,fun z=>by omega⟩
  ·rcases aD.mp hc with hc|hc
   ·exact h1 c hc
   ·rw[aM.mp hc];omega
  ·rw[Rn,h4];omega
  ·intro _ r e;cases q:eV k (m / 10)with
   |nil=>exact h2 q
   |cons a b=>
    rw[q]at e;have:=(kH e).1;subst this;exact h5 (by omega) b q
variable{c:Nat}
theorem Ka(h:48<=c/\c<=57):(B0 c).toNat=c:=by
 obtain⟨h1,h2⟩:=h;have:∀k:Nat,k<10->(B0 (48+k)).toNat=48+k:=by decide
 have q:=this (c-48) (by omega);rw[show 48+(c-48)=c by omega]at q;exact q
theorem zu:∀{l:List Nat},AllDigits l->(l.map B0).map vY=l
|[],_=>rfl
|c::r,h=>by
 rw[bD,bD,Ka h.head,zu h.tail]
theorem Sw(m:Nat)(h:m<10 ^ 30):(yt 10 m).map vY=eV 29 m:=by
 obtain⟨h1,h2,h3,h4,h5,h6⟩:=nH 29 m h;have e:=toDigits_all (eV 29 m) h1;rw[h4]at e;rw[e];by_cases hm:m=0
 ·rw[h6 hm];decide
 ·cases q:eV 29 m with
  |nil=>exact absurd q h2
  |cons c r=>
   have hc:c≠48:=fun z=>h5 hm r (by rw[q,z]);rw[List.dropWhile_cons,if_neg (by simpa using hc)];have z:=zu h1;rw[q]at z;exact z
theorem vL(m:Nat)(h:m<10 ^ 30):dj (m:Int)=strOf (eV 29 m):=by
 have e:dj (m:Int)=⟨((yt 10 m).map vY).toArray⟩:=G6 m;rw[e,Sw m h];rfl
theorem vM(m:Nat)(h0:0<m)(h:m<10 ^ 30):dj (-(m:Int))=strOf (45::eV 29 m):=by
 obtain⟨k,rfl⟩:∃k,m=k+1:=⟨m-1,by omega⟩;have e4:=Sw (k+1) h;have e1:(-((k+1:Nat):Int))=zF k:=rfl;have e3:∀s:String,(aS s).cps=(s.toList.map vY).toArray:=fun s=>by
  rw[Str.ofString_eq_toList]
 have e5:(G2 (k+1)).toList=yt 10 (k+1):=by
  unfold G2;simp
 rw[e1];have e2:toString (zF k)="-"++G2 (k+1):=rfl;have:(aS (toString (zF k))).cps=(strOf (45::eV 29 (k+1))).cps:=by
  rw[e2,e3,String.toList_append,a_,e5,e4];rfl
 exact Str.ext' this
noncomputable def xT(x:Str):Bool:=decide (1<=x.length)&&decide (x.length<=30)&&nG 48 57 x&&(x==aS "0"||!([48].isPrefixOf x.cps.toList))
theorem xU(x:Str):nD [.str x]=.ok (.bl (xT x)):=by
 have e0:(aS "0")=⟨#[48]⟩:=by decide +kernel
 have e9:(aS "9")=⟨#[57]⟩:=by decide +kernel
 have q:=xS x 48 57;unfold xT;unfold nD rQ xO;by_cases h1:1<=x.length
 ·by_cases h2:x.length<=30
  ·have g1:=decide_eq_true (show(1:Int)<=(x.length:Int)by omega);have g2:=decide_eq_true (show(x.length:Int)<=30 by omega);rw[decide_eq_true h1,decide_eq_true h2];simp_arith [g1,g2,e0,e9,q];cases nG 48 57 x with
   |false=>simp_arith []
   |true=>
    cases hc:(x==(⟨#[48]⟩:Str))with
    |false=>simp_arith [hc]
    |true=>simp_arith [hc]
  ·have g1:=decide_eq_true (show(1:Int)<=(x.length:Int)by omega);have g2:=decide_eq_false (show ¬(x.length:Int)<=30 by omega);rw[decide_eq_true h1,decide_eq_false h2];simp_arith [g1,g2]
 ·have g1:=decide_eq_false (show ¬(1:Int)<=(x.length:Int)by omega);rw[decide_eq_false h1];simp_arith [g1]
noncomputable def uV(x:Str):Str:=if[45].isPrefixOf x.cps.toList then⟨(cut x.cps.toList (some 1) none).toArray⟩else x
theorem Iz(x:Str)(n:Int)(h:xT (uV x)=true)(h0:(x==aS "-0")=false)(hl:x.length<=640)(hn:intText? x=some n):fQ [.str x]=.ok (.int n):=by
 have em:(aS "-").cps.toList=[45]:=by decide +kernel
 have hi:gf .int [.str x]=.ok (.int n):=by
  show R.a9 (decide (x.length<=640)) ((R.opt (intText? x)).bind fun n=>R.ok (D.int n))=_;rw[decide_eq_true hl,hn];rfl
 unfold uV at h;unfold fQ uu zl;cases c:[45].isPrefixOf x.cps.toList with
 |false=>
  rw[c,if_neg aR]at h;have q:=xU x;rw[h]at q;simp_arith [em,c,q,h0,hi]
 |true=>
  rw[c,if_pos rfl]at h;have q:=xU ⟨(cut x.cps.toList (some 1) none).toArray⟩;rw[h]at q;simp_arith [em,c,q,h0,hi]
variable{l:List Nat}
theorem Ro(h:AllDigits l):nG 48 57 (strOf l)=true:=by
 unfold nG;rw[bH];intro c hc;have:=h c hc;simp[this.1,this.2]
theorem Nn(h:∀r,l≠c::r):[c].isPrefixOf l=false:=by
 cases l with
 |nil=>rfl
 |cons a r=>
  have:a≠c:=fun z=>h r (by rw[z]);simp[B5,dm this]
theorem IA(m:Nat)(h:m<10 ^ 30):xT (strOf (eV 29 m))=true:=by
 obtain⟨h1,h2,h3,h4,h5,h6⟩:=nH 29 m h;have l1:(strOf (eV 29 m)).length=(eV 29 m).length:=gk _;have l2:1<=(eV 29 m).length:=List.length_pos_iff.mpr h2;unfold xT;rw[l1,decide_eq_true l2,decide_eq_true h3,Ro h1];by_cases hm:m=0
 ·rw[h6 hm];have:(strOf [48]==aS "0")=true:=by decide +kernel
  rw[this];rfl
 ·have:[48].isPrefixOf (strOf (eV 29 m)).cps.toList=false:=Nn (h5 hm);rw[this];simp
theorem Sx{x:Str}(h:x=strOf l)(hl:l≠[45,48]):(x==aS "-0")=false:=by
 have e:aS "-0"=strOf [45,48]:=by decide +kernel
 rw[h,e,str_beq,decide_eq_false fun z=>hl (iL z)]
theorem Yi(n:Int)(h0:-(10 ^ 30)<n)(h1:n<10 ^ 30):fQ [.str (dj n)]=.ok (.int n):=by
 by_cases hn:0<=n
 ·obtain⟨m,rfl⟩:∃m:Nat,n=(m:Int):=⟨n.toNat,by omega⟩;have hm:m<10 ^ 30:=by
   have:((10 ^ 30:Nat):Int)=10 ^ 30:=by decide
   omega
  obtain⟨d1,d2,d3,d4,d5,d6⟩:=nH 29 m hm;have l1:(strOf (eV 29 m)).length=(eV 29 m).length:=gk _;have ef:uV (strOf (eV 29 m))=strOf (eV 29 m):=by
   unfold uV;rw[if_neg];rw[show(strOf (eV 29 m)).cps.toList=eV 29 m from rfl,Nn fun r e=>by
    have:=d1 45 (by rw[e];simp);omega]
   decide
  rw[vL m hm];refine Iz _ _ (by rw[ef];exact IA m hm) (Sx rfl fun e=>?_) (by omega) ?_
  ·have:=d1 45 (by rw[e];simp);omega
  ·have q:=CV (x:=strOf (eV 29 m)) d1 d2 (by omega);rw[q];show some ((digitsVal (eV 29 m):Nat):Int)=_;rw[d4]
 ·obtain⟨m,rfl,hp⟩:∃m:Nat,n=-(m:Int)/\0<m:=⟨(-n).toNat,by omega,by omega⟩;have hm:m<10 ^ 30:=by
   have:((10 ^ 30:Nat):Int)=10 ^ 30:=by decide
   omega
  obtain⟨d1,d2,d3,d4,d5,d6⟩:=nH 29 m hm;have l1:(strOf (45::eV 29 m)).length=(eV 29 m).length+1:=gk _;have ef:uV (strOf (45::eV 29 m))=strOf (eV 29 m):=by
   unfold uV;rw[if_pos (by show[45].isPrefixOf (45::eV 29 m)=true;simp[B5])];show strOf (cut (45::eV 29 m) (some ((1:Nat):Int)) none)=_;unfold cut;rw[HT.n6,HT.rq,jm (by simp),wK,jZ,cu (by simp)]
  rw[vM m hp hm];refine Iz _ _ (by rw[ef];exact IA m hm) (Sx rfl fun e=>?_) (by omega) ?_
  ·have e2:=(kH e).2;exact d5 (by omega) [] e2
  ·have q:=HK (x:=strOf (45::eV 29 m)) rfl d1 d2 (by omega);rw[q,d4]
end K2
end
section
namespace K2
open PySem L2 L3 Tr
noncomputable def oD:Option Int->D
|some n=>.int n
|none=>.non
abbrev Aj(u:List Nat)(o:Option Int):Prop:=fQ [wD u]=.ok (oD o)
theorem Yj(o:Option Int):br (oD o)=oD o:=by cases o<;>rfl
theorem WM(o:Option Int):aL (oD o)=true:=by cases o<;>rfl
theorem jU:∀l:List D,(∀d∈l,aL d=true)->bM l=true
|[],_=>rfl
|d::r,h=>by
 show(aL d&&bM r)=true;rw[h d ao,jU r fun x hx=>h x (ai _ hx)];rfl
variable{Y:List PG}
theorem Rp(ZW:Y[0]?=some (.fn fQ []))(ps:List (List Nat×Option Int))(h:∀p∈ps,Aj p.1 p.2):eK (pG (.name 0)) (fun _=>.ok true) (pE Y (.call 0 (.cons (.var 0) .nil))) (ps.map fun p=>wD p.1) [none]=.ok (ps.map fun p=>oD p.2):=by
 refine fB (fun p:List Nat×Option Int=>wD p.1) (fun O=>∃o,O=[o]) (fun p=>oD p.2) ps _ ⟨none,rfl⟩ ?_;rintro p hp O ⟨o,rfl⟩;refine⟨[some (wD p.1)],rfl,⟨_,rfl⟩,?_⟩;have hu:fQ [D.str (strOf p.1)]=.ok (oD p.2):=h p hp;show(match Y[0]? with|some (.fn m dds)=>(fN Y (.cons (.var 0) .nil) [some (wD p.1)]).bind fun ds=>m (aA ds++dds)|_=>.bad)=_;rw[ZW];show fQ [D.str (strOf p.1)]=_;exact hu
theorem Cy(a w:List Nat)(ps:List (List Nat×Option Int))(row:Int)(hl:ps.length<=4)(hp:∀p∈ps,Aj p.1 p.2)(hw:isWord (strOf w)=true)(hm:memD .non (ps.map fun p=>oD p.2)=false):dH [bX (a::w::ps.map (·.1)),.int (ps.length:Int),.int row]=.ok (.lst true (ps.map fun p=>oD p.2)):=by
 have hs:=szl;have q:=D8 (strOf w);rw[hw]at q;have hc:=Rp (Y:=[.fn fQ [],.fn mT []]) rfl ps hp;have fr:=ES (a::w::ps.map (·.1));have fn:aA (ps.map fun p=>oD p.2)=ps.map fun p=>oD p.2:=c8 _ (fun p=>Yj p.2) ps;have on:bM (ps.map fun p=>oD p.2)=true:=jU _ fun d hd=>by
  obtain⟨p,_,rfl⟩:=aV.mp hd;exact WM p.2
 have nn:e_ (ps.map fun p=>oD p.2)=true:=by
  have:∀l:List (List Nat×Option Int),cA (l.map fun p=>oD p.2) 12=true:=fun l=>by
   induction l with
   |nil=>rfl
   |cons p t ih=>
    show(g6 (oD p.2) 12&&cA (t.map fun p=>oD p.2) 12)=true;rw[ih];cases p.2<;>rfl
  exact this ps
 have h1:eZ ((a::w::ps.map (·.1)).map wD) 1=some (.str (strOf w)):=gw (j:=1) rfl;have hln:(((a::w::ps.map (·.1)).map wD).length:Int)=2+(ps.length:Int):=by simp;omega
 have hlb:((((a::w::ps.map (·.1)).map wD).length:Int)==2+(ps.length:Int))=true:=by rw[hln];simp
 have hcut:cut ((a::w::ps.map (·.1)).map wD) (some 2) none=ps.map fun p=>wD p.1:=by
  show cut ((a::w::ps.map (·.1)).map wD) (some ((2:Nat):Int)) none=_;unfold cut;rw[HT.n6,HT.rq,jm (by simp)];simp only[bD,wK,jZ,bK];rw[cu (by simp)];rfl
 have fc:aA (ps.map fun p=>wD p.1)=ps.map fun p=>wD p.1:=c8 _ (fun _=>rfl) ps;unfold dH mL rW bX;generalize(a::w::ps.map (·.1)).map wD=R at fr h1 hlb hcut;simp_arith [fr,h1,q,hlb,hcut,hc,fn,on,fc];rw[vG rfl nn];simp_arith [fn,on,hm]
theorem Np(a w:List Nat)(row:Int)(kd:List D)(o:Bool)(c:Nat)(hw:isWord (strOf w)=true)(fk:aA kd=kd)(nk:e_ kd=true)(hm:memD (.str (strOf w)) kd=true)(h8:c<8):je [bX [a,w],.int row,.lst o kd,.int (c:Int)]=.ok (.tup [.str (strOf w),.lst true []]):=by
 have hs:=szl;have q:=D8 (strOf w);rw[hw]at q;have e2:((((2:Nat):Int))==2)=true:=rfl;show je [.lst false [.str (strOf a),.str (strOf w)],.int row,.lst o kd,.int (c:Int)]=_;have hn:∀o,cL .NotIn (.str (strOf w)) (.lst o kd)=.ok (.bl (!memD (.str (strOf w)) kd)):=fun o=>uo rfl nk;unfold je xC DQ;simp_arith [qd,q,e2,fk,hn];have g:=decide_eq_false (show ¬(8:Int)<=(c:Int)by omega);simp_arith [hm,g,qd]
noncomputable def okN(pc:Int)(n:Int):Bool:=decide (0<=n)&&decide (n<pc)
theorem UI(d:D)(row pc n:Int)(h:okN pc n=true):bq iT 1000 gH [some d,some (.int row),some (.int pc),some (.int n)]=.nx [some d,some (.int row),some (.int pc),some (.int n)]:=by
 unfold okN at h;simp only[aU]at h;obtain⟨g1,g2⟩:=h;unfold gH iT;simp_arith [g1,g2]
theorem Gs(ns:List Int)(row pc:Int)(h:ns.all (okN pc)=true):fX [.lst false (ns.map D.int),.int row,.int pc]=.ok .non:=by
 obtain⟨O,e,a,rfl⟩:=eO (g:=pG (.name 3)) (b:=bq iT 1000 gH) D.int ns (fun _ O=>∃a,O=[some (.lst false (ns.map D.int)),some (.int row),some (.int pc),a]) (fun pre x post ex O ⟨a,Z5⟩=>by
  subst Z5;exact⟨_,_,rfl,UI _ row pc x (bH.mp h x (by rw[ex];simp)),_,rfl⟩) [some (.lst false (ns.map D.int)),some (.int row),some (.int pc),none] ⟨none,rfl⟩
 have fn:=fZ ns;unfold fX mO;rw[show iT=[]from rfl]at e ⊢;generalize gH=B at e ⊢;simp_arith [fn,e]
noncomputable def zD(z:List Nat×Int):D:=.tup [wD z.1,.int z.2]
theorem iB(zs:List (List Nat×Int)):aA (zs.map zD)=zs.map zD:=c8 zD (fun _=>rfl) zs
theorem Rq(zs:List (List Nat×Int)):eK (pG (.name 0)) (fun _=>.ok true) (pE Y (.ix (.var 0) (.con (.int 0)))) (zs.map zD) [none]=.ok (zs.map fun z=>wD z.1):=by
 refine fB zD (fun O=>∃o,O=[o]) (fun z=>wD z.1) zs _ ⟨none,rfl⟩ ?_;rintro z hz O ⟨o,rfl⟩;refine⟨[some (zD z)],rfl,⟨_,rfl⟩,?_⟩;unfold zD wD;simp_arith [wj]
noncomputable def oB(zs:List (List Nat×Int))(w:List Nat):Bool:=zs.any fun z=>decide (z.1=w)
theorem UJ(zs:List (List Nat×Int))(w:List Nat):memD (.str (strOf w)) (zs.map fun z=>wD z.1)=oB zs w:=by
 unfold oB;have:=Ai (fun z:List Nat×Int=>strOf z.1) (strOf w) zs;rw[show(zs.map fun z=>wD z.1)=zs.map fun z=>D.str (strOf z.1)from rfl,this];congr 1;funext z;rw[str_beq,eE,decide_eq_true_eq,decide_eq_true_eq];exact⟨iL,fun e=>by rw[e]⟩
theorem Yk{α:Type}(f:α->List Nat)(l:List α):e_ (l.map fun a=>wD (f a))=true:=by
 have:∀l:List α,cA (l.map fun a=>wD (f a)) 12=true:=fun l=>by
  induction l with
  |nil=>rfl
  |cons a t ih=>
   show(g6 (wD (f a)) 12&&cA (t.map fun a=>wD (f a)) 12)=true;rw[ih];rfl
 exact this l
theorem Nq(a w u:List Nat)(n:Int)(row:Int)(zs:List (List Nat×Int))(hl:zs.length<=1000)(hu:Aj u (some n))(hw:isWord (strOf w)=true)(hm:oB zs w=false)(h4:zs.length<4):jf [bX [a,w,u],.int row,.lst false (zs.map zD)]=.ok (.tup [wD w,.int n]):=by
 have hs:=szl;have q:=Cy a w [(u,some n)] row (by simp) (fun p hp=>by rw[aM.mp hp];exact hu) hw rfl;have q:dH [.lst false [.str (strOf a),.str (strOf w),.str (strOf u)],.int 1,.int row]=.ok (.lst true [.int n]):=q;have fz:=iB zs;have hc:=Rq (Y:=[.val (.int 4),.fn dH []]) zs;have fw:aA (zs.map fun z=>wD z.1)=zs.map fun z=>wD z.1:=c8 _ (fun _=>rfl) zs;have hin:∀o,cL .In (.str (strOf w)) (.lst o (zs.map fun z=>wD z.1))=.ok (.bl (oB zs w)):=fun o=>by rw[vG rfl (Yk _ zs),UJ]
 show jf [.lst false [.str (strOf a),.str (strOf w),.str (strOf u)],.int row,.lst false (zs.map zD)]=_;unfold jf xD DR;have g:=decide_eq_false (show ¬(4:Int)<=(zs.length:Int)by omega);simp_arith [fz,q,qd,hc,fw,hin,hm,g,wj];rfl
variable{n:Nat}{O:bf}
theorem Sy{g:Nat}{as:jB}:pS Y n (.expr (.call g as)) O=(pE Y (.call g as) O).a7 fun _=>.nx O:=rfl
noncomputable abbrev J3:=List Nat×Int×Int
noncomputable def jD(j:J3):D:=.tup [wD j.1,.int j.2.1,.int j.2.2]
theorem jF(js:List J3):aA (js.map jD)=js.map jD:=c8 jD (fun _=>rfl) js
theorem Sz(js:List J3):e_ (js.map jD)=true:=by
 have:∀l:List J3,cA (l.map jD) 12=true:=fun l=>by
  induction l with
  |nil=>rfl
  |cons a t ih=>
   show(g6 (jD a) 12&&cA (t.map jD) 12)=true;rw[ih];rfl
 exact this js
noncomputable def oE(js:List J3)(j:J3):Bool:=js.any fun x=>decide (x=j)
theorem Yl(x y:J3):iF (jD x) (jD y)=decide (x=y):=by
 show(((strOf x.1==strOf y.1):Bool)&&((x.2.1==y.2.1)&&((x.2.2==y.2.2)&&true)))=_;rw[str_beq,eE];simp only[aU,decide_eq_true_eq,beq_iff_eq,ie];obtain⟨a,b,c⟩:=x;obtain⟨a',b',c'⟩:=y;constructor
 ·rintro⟨h1,h2,h3⟩;have h1:=iL h1;cases h1;cases h2;cases h3;rfl
 ·intro e;cases e;exact⟨rfl,rfl,rfl⟩
theorem Nr(js:List J3)(j:J3):memD (jD j) (js.map jD)=oE js j:=by
 unfold memD oE;rw[sJ];congr 1;funext x;exact Yl x j
theorem Nt(a w u v:List Nat)(m n:Int)(row pc:Int)(js:List J3)(hl:js.length<=1000)(hu:Aj u (some m))(hv:Aj v (some n))(hw:isWord (strOf w)=true)(he:m≠n)(ho:(okN pc m&&okN pc n)=true)(hm:oE js (w,m,n)=false)(h4:js.length<16):jg [bX [a,w,u,v],.int row,.int pc,.lst false (js.map jD)]=.ok (jD (w,m,n)):=by
 have hs:=szl;have q:=Cy a w [(u,some m),(v,some n)] row (by simp) (fun p hp=>by
  rcases aE.mp hp with h|h
  ·rw[h];exact hu
  ·rw[aM.mp h];exact hv) hw rfl
 have q:dH [.lst false [.str (strOf a),.str (strOf w),.str (strOf u),.str (strOf v)],.int 2,.int row]=.ok (.lst true [.int m,.int n]):=q;have rf:=Gs [m,n] row pc (by rw[kG,kG,G3,ie];exact ho);have rf:fX [.lst false [.int m,.int n],.int row,.int pc]=.ok .non:=rf;have fj:=jF js;have hin:∀o,cL .In (.tup [.str (strOf w),.int m,.int n]) (.lst o (js.map jD))=.ok (.bl (oE js (w,m,n))):=fun o=>by
  rw[vG rfl (Sz js)];exact congrArg (fun b=>R.ok (D.bl b)) (Nr js (w,m,n))
 show jg [.lst false [.str (strOf a),.str (strOf w),.str (strOf u),.str (strOf v)],.int row,.int pc,.lst false (js.map jD)]=_;unfold jg xE DS;have g:=beq_eq_false_iff_ne.mpr he;have g4:=decide_eq_false (show ¬(16:Int)<=(js.length:Int)by omega);simp_arith [fj,q,wj,qd,g,Sy,rf,hin,hm,g4];rfl
theorem Nu(a w u:List Nat)(n:Int)(row pc:Int)(c:Nat)(hu:Aj u (some n))(hw:isWord (strOf w)=true)(ho:okN pc n=true)(h4:c<8):jh [bX [a,w,u],.int row,.int pc,.int (c:Int)]=.ok (zD (w,n)):=by
 have hs:=szl;have q:=Cy a w [(u,some n)] row (by simp) (fun p hp=>by rw[aM.mp hp];exact hu) hw rfl;have q:dH [.lst false [.str (strOf a),.str (strOf w),.str (strOf u)],.int 1,.int row]=.ok (.lst true [.int n]):=q;have rf:=Gs [n] row pc (by rw[kG,G3,ie];exact ho);have rf:fX [.lst false [.int n],.int row,.int pc]=.ok .non:=rf;show jh [.lst false [.str (strOf a),.str (strOf w),.str (strOf u)],.int row,.int pc,.int (c:Int)]=_;unfold jh xF DT;have g4:=decide_eq_false (show ¬(8:Int)<=(c:Int)by omega);simp_arith [q,wj,qd,Sy,rf,g4];rfl
noncomputable abbrev P2:=List Nat×List (List Nat×Int)
noncomputable def pD(p:P2):D:=.tup [wD p.1,.lst true (p.2.map zD)]
noncomputable def gc:List Nat:=[112,97,114,116]
noncomputable def fR:List Nat:=[115,105,122,101]
noncomputable def dW:List Nat:=[106,111,105,110]
noncomputable def eW:List Nat:=[115,116,101,112]
theorem Bv:aS "part"=strOf gc:=by decide +kernel
theorem ET:aS "size"=strOf fR:=by decide +kernel
theorem Kc:aS "join"=strOf dW:=by decide +kernel
theorem SA:aS "step"=strOf eW:=by decide +kernel
theorem WN{s t:CS}{r:bW}:bq Y n (.two s t r) O=uq (vF Y s t O) (bq Y n r):=by
 show(match vF Y s t O with|.nx ZV=>bq Y n r ZV|x=>x)=_;unfold uq;cases vF Y s t O<;>rfl
variable{a:CE}
theorem WO{j k:Nat}{is:List Int}{o:CE}(h:ny O o=some (k,is)):vF Y (.asg (.name j) o) (.expr (.mth .append (.var j) (.cons a .nil))) O=Cm Y k is j a O:=by
 show(if j=j then(match ny O o with|some p=>Cm Y p.1 p.2 j a O|none=>.bad)else .bad)=_;rw[if_pos rfl,h]
theorem Bw(a:List Nat)(r:List (List Nat)):cL .Eq (bX (a::r)) (.lst true [])=.ok (.bl false):=by
 have key:∀(l:List (List Nat)) (n:Nat),cA (l.map wD) n=true:=fun l n=>by
  induction l with
  |nil=>rfl
  |cons a t ih=>show(g6 (wD a) n&&cA (t.map wD) n)=true;rw[ih];rfl
 have h:cF (bX (a::r))=true:=key (a::r) 11;rw[Cq h rfl];rfl
theorem UK:cL .Eq (bX []) (.lst true [])=.ok (.bl true):=rfl
noncomputable abbrev qe(kd tx:D)(wk:List D)(pd:List D)(js:List J3)(ss:List (List Nat×Int))(row words sz:Option D):bf:=[some kd,some tx,some (.lst true wk),some (.lst true pd),some (.lst true (js.map jD)),some (.lst true (ss.map zD)),row,words,sz]
section
variable(kd tx:D) (wk:List D) (fk:aA wk=wk) (pd:List D) (fd:List D) (fp:aA pd=fd) (hp:pd.length<=1000) (js:List J3) (hj:js.length<=1000) (ss:List (List Nat×Int)) (hz:ss.length<=1000) (row:Int) (sz:Option D)
include fk fp hp hj hz
theorem UL:bq cQ 1000 cy (qe kd tx wk pd js ss (some (.int row)) (some (bX [])) sz)=.ct (qe kd tx wk pd js ss (some (.int row)) (some (bX [])) sz):=by
 have nr:=UK;have fr:=kB [];unfold cy cQ qe;generalize bX []=d at nr fr ⊢;simp_arith [nr,fr]
theorem Kd(r:List (List Nat))(v:D)(ho:aL v=true)(q:je [bX (gc::r),.int row,.lst false wk,.int (pd.length:Int)]=.ok (v)):bq cQ 1000 cy (qe kd tx wk pd js ss (some (.int row)) (some (bX (gc::r))) sz)=.nx (qe kd tx wk (pd++[v]) js ss (some (.int row)) (some (bX (gc::r))) sz):=by
 have hs:=szl;have nr:=Bw gc r;have fr:=kB (gc::r);have h0:nj (bX (gc::r)) (.int 0)=.ok (.str (strOf gc)):=by
  show(R.opt (eZ ((gc::r).map wD) 0)).bind _=_;rw[show eZ ((gc::r).map wD) 0=some (wD gc)from gw (j:=0) rfl];rfl
 have hl:fd.length=pd.length:=by rw[<-fp,j9]
 have e1:=beq_self_eq_true (strOf gc);have fj:=jF js;have fz:=iB ss;unfold cy cQ qe;generalize bX (gc::r)=d at nr fr h0 q ⊢;simp_arith [nr,fr,h0,Bv,e1,fk,fp,hl,q,ho];rw[cB (xs:=pd) rfl (by omega) (by rw[ho];rfl)];simp_arith [ho]
theorem Ke(r:List (List Nat))(v:J3)(q:jg [bX (dW::r),.int row,.int (pd.length:Int),.lst false (js.map jD)]=.ok (jD v)):bq cQ 1000 cy (qe kd tx wk pd js ss (some (.int row)) (some (bX (dW::r))) sz)=.nx (qe kd tx wk pd (js++[v]) ss (some (.int row)) (some (bX (dW::r))) sz):=by
 have hs:=szl;have nr:=Bw dW r;have fr:=kB (dW::r);have h0:nj (bX (dW::r)) (.int 0)=.ok (.str (strOf dW)):=by
  show(R.opt (eZ ((dW::r).map wD) 0)).bind _=_;rw[show eZ ((dW::r).map wD) 0=some (wD dW)from gw (j:=0) rfl];rfl
 have hl:fd.length=pd.length:=by rw[<-fp,j9]
 have e1:(strOf dW==strOf gc)=false:=by decide +kernel
 have e2:(strOf dW==strOf fR)=false:=by decide +kernel
 have e3:=beq_self_eq_true (strOf dW);have fj:=jF js;have fz:=iB ss;have ho:aL (jD v)=true:=rfl;unfold cy cQ qe;generalize bX (dW::r)=d at nr fr h0 q ⊢;simp_arith [nr,fr,h0,Bv,ET,Kc,e1,e2,e3,fj,fk,fp,hl,q,ho];rw[cB (xs:=js.map jD) rfl (by rw[ah];omega) (by rw[ho];rfl)];rw[show js.map jD++[jD v]=(js++[v]).map jD by rw[a_];rfl];simp_arith [ho]
theorem Kf(r:List (List Nat))(v:List Nat×Int)(q:jh [bX (eW::r),.int row,.int (pd.length:Int),.int (ss.length:Int)]=.ok (zD v)):bq cQ 1000 cy (qe kd tx wk pd js ss (some (.int row)) (some (bX (eW::r))) sz)=.nx (qe kd tx wk pd js (ss++[v]) (some (.int row)) (some (bX (eW::r))) sz):=by
 have hs:=szl;have nr:=Bw eW r;have fr:=kB (eW::r);have h0:nj (bX (eW::r)) (.int 0)=.ok (.str (strOf eW)):=by
  show(R.opt (eZ ((eW::r).map wD) 0)).bind _=_;rw[show eZ ((eW::r).map wD) 0=some (wD eW)from gw (j:=0) rfl];rfl
 have hl:fd.length=pd.length:=by rw[<-fp,j9]
 have e1:(strOf eW==strOf gc)=false:=by decide +kernel
 have e2:(strOf eW==strOf fR)=false:=by decide +kernel
 have e3:(strOf eW==strOf dW)=false:=by decide +kernel
 have e4:=beq_self_eq_true (strOf eW);have fj:=jF js;have fz:=iB ss;have ho:aL (zD v)=true:=rfl;unfold cy cQ qe;generalize bX (eW::r)=d at nr fr h0 q ⊢;simp_arith [nr,fr,h0,Bv,ET,Kc,SA,e1,e2,e3,e4,fz,fk,fp,hl,q,ho];rw[cB (xs:=ss.map zD) rfl (by rw[ah];omega) (by rw[ho];rfl)];rw[show ss.map zD++[zD v]=(ss++[v]).map zD by rw[a_];rfl];simp_arith [ho]
end
theorem IB(n:Nat)(h:n<=1000):fL (n+1) (-1)=some n:=by
 unfold fL;simp;omega
theorem WQ(Q:List D)(hQ:Q.length<=1000)(p:P2):gW [-1,1] (.lst true (Q++[pD p]))=some (.lst true (p.2.map zD)):=by
 show((fL (Q++[pD p]).length (-1)).bind fun n=>((Q++[pD p])[n]?).bind fun y=>gW [1] y)=_;rw[az,bU,IB _ hQ];show((Q++[pD p])[Q.length]?).bind _=_;rw[cC (aB _),sN];rfl
theorem WR(Q:List D)(hQ:Q.length<=1000)(p:P2)(hz:p.2.length<=1000)(z:List Nat×Int):cG [-1,1] (.lst true (Q++[pD p])) (zD z)=some (.lst true (Q++[pD (p.1,p.2++[z])])):=by
 have hs:=szl;have e:cG [1] (pD p) (zD z)=some (pD (p.1,p.2++[z])):=by
  show(if(p.2.map zD).length<aa then some (D.lst true (p.2.map zD++[zD z]))else none).map (fun y'=>D.tup [wD p.1,y'])=_;rw[if_pos (by rw[ah];omega)];show some (D.tup [wD p.1,.lst true (p.2.map zD++[zD z])])=some (D.tup [wD p.1,.lst true ((p.2++[z]).map zD)]);rw[a_];rfl
 show((fL (Q++[pD p]).length (-1)).bind fun n=>((Q++[pD p])[n]?).bind fun y=>(cG [1] y (zD z)).map fun y'=>D.lst true ((Q++[pD p]).set n y'))=_;rw[az,bU,IB _ hQ];show((Q++[pD p])[Q.length]?).bind _=_;rw[cC (aB _),sN];show(cG [1] (pD p) (zD z)).map _=_;rw[e];show some (D.lst true ((Q++[pD p]).set Q.length (pD (p.1,p.2++[z]))))=_;rw[List.set_append_right _ _ (aB _),sN];rfl
theorem WS(s0 s1 s2 s4 s5 s6 s7 s8:Option D)(Q:List D)(hQ:Q.length<=1000)(p:P2)(hz:p.2.length<=1000)(z:List Nat×Int)(q:pE Y a [s0,s1,s2,some (.lst true (Q++[pD p])),s4,s5,s6,s7,some (.lst true (p.2.map zD))]=.ok (zD z)) :
  Cm Y 3 [-1,1] 8 a [s0,s1,s2,some (.lst true (Q++[pD p])),s4,s5,s6,s7,s8]=.nx [s0,s1,s2,some (.lst true (Q++[pD (p.1,p.2++[z])])),s4,s5,s6,s7,none]:=by
 unfold Cm;show(match gW [-1,1] (.lst true (Q++[pD p]))with
  |some (.lst true ys)=>if 8<9 then(pE Y a [s0,s1,s2,some (.lst true (Q++[pD p])),s4,s5,s6,s7,some (.lst true ys)]).a7 fun d=>if aL d=true then(R.opt (cG [-1,1] (.lst true (Q++[pD p])) d)).a7 fun x'=>.nx [s0,s1,s2,some x',s4,s5,s6,s7,none]else .bad else .bad
  |_=>.bad)=_
 rw[WQ Q hQ p];show(if 8<9 then(pE Y a [s0,s1,s2,some (.lst true (Q++[pD p])),s4,s5,s6,s7,some (.lst true (p.2.map zD))]).a7 (fun d=>if aL d=true then(R.opt (cG [-1,1] (.lst true (Q++[pD p])) d)).a7 fun x'=>Fl.nx [s0,s1,s2,some x',s4,s5,s6,s7,none]else .bad)else .bad)=_;rw[if_pos (by decide),q];show(if aL (zD z)=true then(R.opt (cG [-1,1] (.lst true (Q++[pD p])) (zD z))).a7 (fun x'=>Fl.nx [s0,s1,s2,some x',s4,s5,s6,s7,none])else .bad)=_;rw[if_pos (show aL (zD z)=true from rfl),WR Q hQ p hz z];rfl
section
variable(kd tx:D) (wk:List D) (fk:aA wk=wk) (js:List J3) (hj:js.length<=1000) (ss:List (List Nat×Int)) (hz:ss.length<=1000) (row:Int) (sz:Option D)
include fk hj hz
theorem Kg(Q:List D)(hQ:Q.length<=1000)(p:P2)(hp:p.2.length<=1000)(fd:List D)(fp:aA (Q++[pD p])=fd)(ne:cL .NotEq (.lst false fd) (.lst true [])=.ok (.bl true))(r:List (List Nat))(z:List Nat×Int)(q:jf [bX (fR::r),.int row,.lst false (p.2.map zD)]=.ok (zD z)) :
  bq cQ 1000 cy (qe kd tx wk (Q++[pD p]) js ss (some (.int row)) (some (bX (fR::r))) sz)=.nx (qe kd tx wk (Q++[pD (p.1,p.2++[z])]) js ss (some (.int row)) (some (bX (fR::r))) none):=by
 have hs:=szl;have nr:=Bw fR r;have fr:=kB (fR::r);have h0:nj (bX (fR::r)) (.int 0)=.ok (.str (strOf fR)):=by
  show(R.opt (eZ ((fR::r).map wD) 0)).bind _=_;rw[show eZ ((fR::r).map wD) 0=some (wD fR)from gw (j:=0) rfl];rfl
 have e1:(strOf fR==strOf gc)=false:=by decide +kernel
 have e2:=beq_self_eq_true (strOf fR);have fz:=iB p.2;unfold cy cQ qe;generalize bX (fR::r)=d at nr fr h0 q ⊢;simp_arith [nr,fr,h0,Bv,ET,e1,e2,fp,ne,WN];rw[WO (k:=3) (is:=[-1,1]) rfl,WS _ _ _ _ _ _ _ _ Q hQ p hp z (by
  simp_arith [fr,fz,q])]
 simp_arith []
end
inductive AR where
|part (k:List Nat)
|size (z:List Nat×Int)
|join (j:J3)
|step (z:List Nat×Int)
noncomputable def cR(n:Int):List Nat:=(dj n).cps.toList
noncomputable def AR.row:AR->List (List Nat)
|.part k=>[gc,k]
|.size z=>[fR,z.1,cR z.2]
|.join j=>[dW,j.1,cR j.2.1,cR j.2.2]
|.step z=>[eW,z.1,cR z.2]
structure St where
 P:List P2
 J:List J3
 S:List (List Nat×Int)
noncomputable def St.put(t:St):AR->St
|.part k=>{ t with P:=t.P++[(k,[])] }
|.size z=>{ t with P:=t.P.dropLast++(t.P.getLast?.map fun p=>(p.1,p.2++[z])).toList }
|.join j=>{ t with J:=t.J++[j] }
|.step z=>{ t with S:=t.S++[z] }
def Num(n:Int):Prop:=-(10 ^ 30)<n/\n<10 ^ 30
def St.ok(wk:List D)(t:St):AR->Prop
|.part k=>isWord (strOf k)=true/\memD (.str (strOf k)) wk=true/\t.P.length<8
|.size z=>isWord (strOf z.1)=true/\Num z.2/\∃Q p,t.P=Q++[p]/\oB p.2 z.1=false/\p.2.length<4
|.join j=>isWord (strOf j.1)=true/\j.2.1≠j.2.2/\(okN t.P.length j.2.1&&okN t.P.length j.2.2)=true/\oE t.J j=false/\t.J.length<16
|.step z=>isWord (strOf z.1)=true/\okN t.P.length z.2=true/\t.S.length<8
structure St.Small (t:St):Prop where
 p:t.P.length<=8
 z:∀p∈t.P,p.2.length<=4
 j:t.J.length<=16
 s:t.S.length<=8
theorem EU(n:Int)(h:Num n):Aj (cR n) (some n):=by
 have e:wD (cR n)=.str (dj n):=by
  show D.str ⟨(dj n).cps.toList.toArray⟩=_;rw[ko]
 show fQ [wD (cR n)]=_;rw[e];exact Yi n h.1 h.2
theorem kD{m:Nat}{n:Int}(hm:m<=8)(h:okN (m:Int) n=true):Num n:=by
 unfold okN at h;simp only[aU,decide_eq_true_eq]at h;have:(8:Int)<10 ^ 30:=by decide
 exact⟨by omega,by omega⟩
noncomputable def pF(p:P2):D:=.tup [wD p.1,.lst false (p.2.map zD)]
theorem tO(P:List P2):aA (P.map pD)=P.map pF:=by
 induction P with
 |nil=>rfl
 |cons p r ih=>
  show br (pD p)::aA (r.map pD)=_;rw[ih];show D.tup [wD p.1,.lst false (aA (p.2.map zD))]::_=_;rw[iB];rfl
theorem Ym(P:List P2):cF (.lst false (P.map pF))=true:=by
 have k1:∀(l:List (List Nat×Int)) (n:Nat),cA (l.map zD) (n+1)=true:=fun l n=>by
  induction l with
  |nil=>rfl
  |cons a t ih=>show(g6 (zD a) (n+1)&&cA (t.map zD) (n+1))=true;rw[ih];rfl
 have k2:∀(l:List P2),cA (l.map pF) 11=true:=fun l=>by
  induction l with
  |nil=>rfl
  |cons a t ih=>
   show(g6 (pF a) 11&&cA (t.map pF) 11)=true;rw[ih,ie];show(g6 (wD a.1) 10&&(cA (a.2.map zD) 9&&true))=true;rw[k1 a.2 8];rfl
 exact k2 P
theorem Rr(Q:List P2)(p:P2):cL .NotEq (.lst false ((Q++[p]).map pF)) (.lst true [])=.ok (.bl true):=by
 rw[Cr (Ym _) rfl];cases Q<;>rfl
noncomputable abbrev Gu(kd tx:D)(wk:List D)(t:St)(row words sz:Option D):bf:=qe kd tx wk (t.P.map pD) t.J t.S row words sz
theorem WT(kd tx:D)(wk:List D)(fk:aA wk=wk)(nk:e_ wk=true)(t:St)(hs:t.Small)(a:AR)(h:t.ok wk a)(row:Int)(sz:Option D):∃sz',bq cQ 1000 cy (Gu kd tx wk t (some (.int row)) (some (bX a.row)) sz)=.nx (Gu kd tx wk (t.put a) (some (.int row)) (some (bX a.row)) sz'):=by
 obtain⟨s1,s2,s3,s4⟩:=hs;have lp:(t.P.map pD).length<=1000:=by rw[ah];omega
 cases a with
 |part k=>
  obtain⟨h1,h2,h3⟩:=h;have q:=Np gc k row wk false t.P.length h1 fk nk h2 h3;refine⟨sz,?_⟩;have:=Kd kd tx wk fk (t.P.map pD) _ (tO t.P) lp t.J (by omega) t.S (by omega) row sz [k] (.tup [.str (strOf k),.lst true []]) rfl (by rw[ah];exact q);rw[show t.P.map pD++[D.tup [.str (strOf k),.lst true []]]=(t.P++[(k,[])]).map pD by rw[a_];rfl]at this;exact this
 |size z=>
  obtain⟨h1,h2,Q,p,e,h3,h4⟩:=h;have q:=Nq fR z.1 (cR z.2) z.2 row p.2 (by omega) (EU _ h2) h1 h3 h4;have ln:(Q++[p]).length<=8:=by rw[<-e];exact s1
  simp at ln;have:=Kg kd tx wk fk t.J (by omega) t.S (by omega) row sz (Q.map pD) (by rw[ah];omega) p (by omega) ((Q++[p]).map pF) (by
   have:=tO (Q++[p]);rw[a_]at this;exact this) (Rr Q p) [z.1,cR z.2] z q
  refine⟨none,?_⟩;unfold Gu;rw[show t.P.map pD=Q.map pD++[pD p]by rw[e,a_];rfl];have e2:(t.put (.size z)).P=Q++[(p.1,p.2++[z])]:=by
   show t.P.dropLast++(t.P.getLast?.map fun p=>(p.1,p.2++[z])).toList=_;rw[e];simp
  rw[show(t.put (.size z)).P.map pD=Q.map pD++[pD (p.1,p.2++[z])]by rw[e2,a_];rfl];exact this
 |join j=>
  obtain⟨h1,h2,h3,h4,h5⟩:=h;have h3':=h3;simp only[aU]at h3';have q:=Nt dW j.1 (cR j.2.1) (cR j.2.2) j.2.1 j.2.2 row t.P.length t.J (by omega) (EU _ (kD s1 h3'.1)) (EU _ (kD s1 h3'.2)) h1 h2 h3 h4 h5;exact⟨sz,Ke kd tx wk fk (t.P.map pD) _ (tO t.P) lp t.J (by omega) t.S (by omega) row sz [j.1,cR j.2.1,cR j.2.2] j (by rw[ah];exact q)⟩
 |step z=>
  obtain⟨h1,h2,h3⟩:=h;have q:=Nu eW z.1 (cR z.2) z.2 row t.P.length t.S.length (EU _ (kD s1 h2)) h1 h2 h3;exact⟨sz,Kf kd tx wk fk (t.P.map pD) _ (tO t.P) lp t.J (by omega) t.S (by omega) row sz [z.1,cR z.2] z (by rw[ah];exact q)⟩
def Valid(wk:List D):St->List AR->Prop
|_,[]=>True
|t,a::r=>t.ok wk a/\Valid wk (t.put a) r
noncomputable def St.run(t:St)(as:List AR):St:=as.foldl St.put t
variable{wk:List D}
theorem Valid.app:∀{t:St}{a b:List AR},Valid wk t a->Valid wk (t.run a) b->Valid wk t (a++b)
|t,[],b,_,h=>h
|t,x::a,b,h1,h2=>⟨h1.1,Valid.app (a:=a) h1.2 h2⟩
theorem uW(t:St)(a b:List AR):t.run (a++b)=(t.run a).run b:=yW ..
theorem Nv{t:St}{a:AR}(hs:t.Small)(h:t.ok wk a):(t.put a).Small:=by
 obtain⟨s1,s2,s3,s4⟩:=hs;cases a with
 |part k=>
  obtain⟨_,_,h3⟩:=h;refine⟨by show(t.P++[(k,[])]).length<=8;simp;omega,fun p hp=>?_,s3,s4⟩;rcases aD.mp hp with q|q
  ·exact s2 p q
  ·rw[aM.mp q];exact cX _
 |size z=>
  obtain⟨_,_,Q,p,e,_,h4⟩:=h;have e2:(t.put (.size z)).P=Q++[(p.1,p.2++[z])]:=by
   show t.P.dropLast++(t.P.getLast?.map fun p=>(p.1,p.2++[z])).toList=_;rw[e];simp
  refine⟨?_,fun q hq=>?_,s3,s4⟩
  ·rw[e2];rw[e]at s1;simpa using s1
  ·rw[e2]at hq;rcases aD.mp hq with y|y
   ·exact s2 q (by rw[e];exact aC _ y)
   ·rw[aM.mp y];simp;omega
 |join j=>
  obtain⟨_,_,_,_,h5⟩:=h;exact⟨s1,s2,by show(t.J++[j]).length<=16;simp;omega,s4⟩
 |step z=>
  obtain⟨_,_,h3⟩:=h;exact⟨s1,s2,s3,by show(t.S++[z]).length<=8;simp;omega⟩
theorem Kh{β:Type}{g:D->bf->R bf}{b:bf->Fl}(enc:β->D)(pre0:List β)(I:List β->bf->Prop)
  (h:∀pre x post,pre0=pre++x::post->∀O,I pre O->∃ZZ ZY,g (.tup [.int (pre.length:Int),enc x]) O=.ok ZZ/\(b ZZ=.nx ZY\/b ZZ=.ct ZY)/\I (pre++[x]) ZY) (O:bf) (h0:I [] O):∃ZV,forR g b (kT 0 (pre0.map enc)) O=.nx ZV/\I pre0 ZV:=by
 have go:∀(post pre:List β) (O:bf),pre0=pre++post->I pre O->∃ZV,forR g b (kT pre.length (post.map enc)) O=.nx ZV/\I pre0 ZV:=by
  intro post;induction post with
  |nil=>
   intro pre O ep hi;rw[bI]at ep;subst ep;exact⟨O,rfl,hi⟩
  |cons x r ih=>
   intro pre O ep hi;obtain⟨ZZ,ZY,h1,h2,h3⟩:=h pre x r ep O hi;have h4:=ih (pre++[x]) ZY (by rw[ep,bS];rfl) h3;rw[az,bU]at h4;rw[bD];show ∃ZV,(g (.tup [.int (pre.length:Int),enc x]) O).a7 _=.nx ZV/\_;rw[h1];rcases h2 with h2|h2
   ·simp only[R.a7,h2];exact h4
   ·simp only[R.a7,h2];exact h4
 exact go pre0 [] O rfl h0
noncomputable def qh(rs:List (List (List Nat))):List (List (List Nat)):=rs.filter fun r=>!r.isEmpty
theorem Nx(a:AR):∃w ws,a.row=w::ws:=by cases a<;>exact⟨_,_,rfl⟩
theorem nI:∀{t:St}{as:List AR} (n:Nat),t.Small->Valid wk t as->(t.run (as.take n)).Small/\∀a,as[n]?=some a->(t.run (as.take n)).ok wk a
|t,[],n,hs,_=>by
 rw[List.take_nil];exact⟨hs,fun a h=>by simp at h⟩
|t,x::as,0,hs,h=>⟨hs,fun a e=>by simp at e;rw[<-e];exact h.1⟩
|t,x::as,n+1,hs,h=>by
 have:=nI (t:=t.put x) (as:=as) n (Nv hs h.1) h.2;exact this
noncomputable def t0:St:=⟨[],[],[]⟩
theorem Bx:t0.Small:=⟨cX _,fun p hp=>absurd hp aJ,cX _,cX _⟩
theorem Rt(t:St)(as:List AR)(n:Nat)(a:AR)(h:as[n]?=some a):t.run (as.take (n+1))=(t.run (as.take n)).put a:=by
 rw[u_,h,uW];rfl
theorem UM(r:List (List Nat)):br (gh r)=bX r:=by
 show D.lst false (aA (r.map wD))=_;rw[ES];rfl
theorem IC(rs:List (List (List Nat))):aA (rs.map gh)=rs.map bX:=by
 induction rs with
 |nil=>rfl
 |cons r t ih=>
  show br (gh r)::aA (t.map gh)=_;rw[ih,UM];rfl
theorem Gv:∀rs:List (List (List Nat)),bM (rs.map gh)=true:=fun rs=>jU _ fun d hd=>by
 obtain⟨r,_,rfl⟩:=aV.mp hd;show(true&&bM (r.map wD))=true;rw[jU (r.map wD) fun d hd=>by
  obtain⟨w,_,rfl⟩:=aV.mp hd;rfl]
 rfl
noncomputable def aT(p:P2):List AR:=.part p.1::p.2.map .size
noncomputable def bP(P:List P2)(J:List J3)(S:List (List Nat×Int)):List AR:=P.flatMap aT++(J.map .join++S.map .step)
structure pZ (wk:List D) (P:List P2) (J:List J3) (S:List (List Nat×Int)):Prop where
 p8:P.length<=8
 pk:∀p∈P,isWord (strOf p.1)=true/\memD (.str (strOf p.1)) wk=true
 pz:∀p∈P,p.2.length<=4/\(p.2.map (·.1)).Nodup/\∀z∈p.2,isWord (strOf z.1)=true/\Num z.2
 jl:J.length<=16/\J.Nodup
 jk:∀j∈J,isWord (strOf j.1)=true/\j.2.1≠j.2.2/\(okN P.length j.2.1&&okN P.length j.2.2)=true
 sl:S.length<=8
 sk:∀z∈S,isWord (strOf z.1)=true/\okN P.length z.2=true
theorem Gw(Q:List P2)(k:List Nat)(zs:List (List Nat×Int))(J:List J3)(S:List (List Nat×Int))(z:List Nat×Int):(St.mk (Q++[(k,zs)]) J S).put (.size z)=⟨Q++[(k,zs++[z])],J,S⟩:=by
 show St.mk ((Q++[(k,zs)]).dropLast++((Q++[(k,zs)]).getLast?.map fun p=>(p.1,p.2++[z])).toList) J S=_;simp
theorem zv(wk:List D)(Q:List P2)(k:List Nat)(J:List J3)(S:List (List Nat×Int)):∀(zs z0:List (List Nat×Int)),(z0++zs).length<=4->((z0++zs).map (·.1)).Nodup->(∀z∈zs,isWord (strOf z.1)=true/\Num z.2)->Valid wk ⟨Q++[(k,z0)],J,S⟩ (zs.map .size)/\(St.mk (Q++[(k,z0)]) J S).run (zs.map .size)=⟨Q++[(k,z0++zs)],J,S⟩
|[],z0,_,_,_=>⟨trivial,by rw[bI];rfl⟩
|z::r,z0,hl,hn,hk=>by
 have e:z0++z::r=(z0++[z])++r:=by simp
 obtain⟨h1,h2⟩:=zv wk Q k J S r (z0++[z]) (by rw[<-e];exact hl) (by rw[<-e];exact hn) fun x hx=>hk x (ai _ hx);obtain⟨k1,k2⟩:=hk z ao;refine⟨⟨⟨k1,k2,Q,(k,z0),rfl,?_,?_⟩,?_⟩,?_⟩
 ·unfold oB;rw[fq];intro x hx;simp only[decide_eq_true_eq];intro ex;rw[a_,a6]at hn;exact hn.2.2 x.1 (gM hx) z.1 (by simp) ex
 ·show z0.length<4;simp at hl;omega
 ·rw[Gw];exact h1
 ·show((St.mk (Q++[(k,z0)]) J S).put (.size z)).run (r.map .size)=_;rw[Gw,h2,e]
theorem zw(wk:List D):∀(P Q:List P2),(Q++P).length<=8->(∀p∈P,isWord (strOf p.1)=true/\memD (.str (strOf p.1)) wk=true)->(∀p∈P,p.2.length<=4/\(p.2.map (·.1)).Nodup/\∀z∈p.2,isWord (strOf z.1)=true/\Num z.2)->Valid wk ⟨Q,[],[]⟩ (P.flatMap aT)/\(St.mk Q [] []).run (P.flatMap aT)=⟨Q++P,[],[]⟩
|[],Q,_,_,_=>⟨trivial,by rw[bI];rfl⟩
|p::r,Q,hl,hk,hz=>by
 have e:Q++p::r=(Q++[p])++r:=by simp
 obtain⟨h1,h2⟩:=zw wk r (Q++[p]) (by rw[<-e];exact hl) (fun x hx=>hk x (ai _ hx)) fun x hx=>hz x (ai _ hx);obtain⟨z1,z2,z3⟩:=hz p ao;obtain⟨k1,k2⟩:=hk p ao;obtain⟨v1,v2⟩:=zv wk Q p.1 [] [] p.2 [] (by simpa using z1) (by simpa using z2) z3;have ep:(St.mk Q [] []).put (.part p.1)=⟨Q++[(p.1,[])],[],[]⟩:=rfl;have er:(St.mk Q [] []).run (aT p)=⟨Q++[p],[],[]⟩:=by
  show((St.mk Q [] []).put (.part p.1)).run (p.2.map .size)=_;rw[ep,v2];rfl
 have vp:Valid wk ⟨Q,[],[]⟩ (aT p):=by
  refine⟨⟨k1,k2,?_⟩,?_⟩
  ·show Q.length<8;simp at hl;omega
  ·rw[ep];exact v1
 rw[lV];refine⟨Valid.app vp (by rw[er];exact h1),?_⟩;rw[uW,er,h2,e]
theorem zx(wk:List D)(P:List P2)(S:List (List Nat×Int)):∀(J J0:List J3),(J0++J).length<=16->(J0++J).Nodup->(∀j∈J,isWord (strOf j.1)=true/\j.2.1≠j.2.2/\(okN P.length j.2.1&&okN P.length j.2.2)=true)->Valid wk ⟨P,J0,S⟩ (J.map .join)/\(St.mk P J0 S).run (J.map .join)=⟨P,J0++J,S⟩
|[],J0,_,_,_=>⟨trivial,by rw[bI];rfl⟩
|j::r,J0,hl,hn,hk=>by
 have e:J0++j::r=(J0++[j])++r:=by simp
 obtain⟨h1,h2⟩:=zx wk P S r (J0++[j]) (by rw[<-e];exact hl) (by rw[<-e];exact hn) fun x hx=>hk x (ai _ hx);obtain⟨k1,k2,k3⟩:=hk j ao;refine⟨⟨⟨k1,k2,k3,?_,?_⟩,h1⟩,?_⟩
 ·show oE J0 j=false;unfold oE;rw[fq];intro x hx;simp only[decide_eq_true_eq];intro ex;rw[a6]at hn;exact hn.2.2 x hx j ao ex
 ·show J0.length<16;simp at hl;omega
 ·show((St.mk P J0 S).put (.join j)).run (r.map .join)=_;rw[show(St.mk P J0 S).put (.join j)=⟨P,J0++[j],S⟩from rfl,h2,e]
theorem zy(wk:List D)(P:List P2)(J:List J3):∀(S S0:List (List Nat×Int)),(S0++S).length<=8->(∀z∈S,isWord (strOf z.1)=true/\okN P.length z.2=true)->Valid wk ⟨P,J,S0⟩ (S.map .step)/\(St.mk P J S0).run (S.map .step)=⟨P,J,S0++S⟩
|[],S0,_,_=>⟨trivial,by rw[bI];rfl⟩
|z::r,S0,hl,hk=>by
 have e:S0++z::r=(S0++[z])++r:=by simp
 obtain⟨h1,h2⟩:=zy wk P J r (S0++[z]) (by rw[<-e];exact hl) fun x hx=>hk x (ai _ hx);obtain⟨k1,k2⟩:=hk z ao;refine⟨⟨⟨k1,k2,?_⟩,h1⟩,?_⟩
 ·show S0.length<8;simp at hl;omega
 ·show((St.mk P J S0).put (.step z)).run (r.map .step)=_;rw[show(St.mk P J S0).put (.step z)=⟨P,J,S0++[z]⟩from rfl,h2,e]
theorem oO{P:List P2}{J:List J3}{S:List (List Nat×Int)}(h:pZ wk P J S):Valid wk t0 (bP P J S)/\t0.run (bP P J S)=⟨P,J,S⟩:=by
 obtain⟨a1,a2⟩:=zw wk P [] (by simpa using h.p8) h.pk h.pz;obtain⟨b1,b2⟩:=zx wk P [] J [] (by simpa using h.jl.1) (by simpa using h.jl.2) h.jk;obtain⟨c1,c2⟩:=zy wk P J S [] (by simpa using h.sl) h.sk;rw[kU]at a2 b2 c2;have e1:t0.run (P.flatMap aT)=⟨P,[],[]⟩:=a2;refine⟨Valid.app a1 ?_,?_⟩
 ·rw[e1];exact Valid.app b1 (by rw[b2];exact c1)
 ·unfold bP;rw[uW,e1,uW,b2,c2]
end K2
end
section
namespace L2
open PySem PySem.W PySem.Calls PyProof.Rows
variable{α:Type}
theorem lC{β:Type}(lt:Nat->Nat->Bool){f:α->KasT β}:∀t:KasT α,dO lt (t.bind f)=dO lt (f (dO lt t))
|.ret _=>rfl
|.ask i j k=>lC lt (k (lt i j))
variable{n:Nat}{lt lt':Nat->Nat->Bool}
theorem D9{B:α->Prop}(h:∀i j,i<n->j<n->lt i j=lt' i j):∀t:KasT α,KBd n B t->dO lt t=dO lt' t
|.ret _,_=>rfl
|.ask i j k,hb=>by
 show dO lt (k (lt i j))=dO lt' (k (lt' i j));rw[<-h i j hb.1 hb.2.1];exact D9 h _ (hb.2.2 _)
theorem Ny(h:∀i j,i<n->j<n->lt i j=lt' i j):iZ n lt=iZ n lt':=by
 unfold iZ;split
 ·rfl
 ·rename_i hn;rw[D9 h _ (qR (by omega))]
theorem Ru(n:Nat)(lt:Nat->Nat->Bool):(iZ n lt).Perm (bA n):=by
 unfold iZ;split
 ·exact U8 _
 ·have hP:eU n (dO lt (jx n)):=AN _ _ (qR (by omega));exact hP.2.toList
noncomputable abbrev vA(p:Array Nat)(k:Nat):Nat:=p.getD k 0
variable{p:Array Nat}{i j:Nat}
theorem Gx{q:Array Nat}(h:p[i]?=q[j]?):vA p i=vA q j:=by
 unfold vA;rw[j7,j7,h]
variable{k:Nat}
theorem tP(hj:j<=p.size)(h:i<=k/\k<j):vA (iN p i j) k=vA p (i+j-1-k):=Gx (by
 unfold iN;rw[wL hj,if_pos h])
theorem EV(hj:j<=p.size)(h:¬(i<=k/\k<j)):vA (iN p i j) k=vA p k:=Gx (by
 unfold iN;rw[wL hj,if_neg h])
variable{m:Nat}
section
variable{n:Nat}{lt:Nat->Nat->Bool} (hT:∀i j k,i<n->j<n->k<n->lt j i=false->lt k j=false->lt k i=false) (hA:∀i j,i<n->j<n->lt i j=true->lt j i=false)
def uX(lt:Nat->Nat->Bool)(p:Array Nat)(m:Nat):Prop:=∀i j,i<j->j<m->lt (vA p j) (vA p i)=false
def D_(lt:Nat->Nat->Bool)(p:Array Nat)(m:Nat):Prop:=∀i j,i<j->j<m->lt (vA p i) (vA p j)=false
def Seg(lt:Nat->Nat->Bool)(p:Array Nat)(a m:Nat):Prop:=∀i j,a<=i->i<m->a<=j->j<m->lt (vA p i) (vA p j)=false
include hT in
theorem Rv(hp:eU n p)(h:uX lt p m)(e:lt (vA p m) (vA p (m-1))=false):uX lt p (m+1):=fun i j hij hj=>by
 by_cases c:j<m
 ·exact h i j hij c
 ·obtain rfl:j=m:=by omega
  by_cases d:i=j-1
  ·rw[d];exact e
  ·exact hT _ (vA p (j-1)) _ (hp.d7 _) (hp.d7 _) (hp.d7 _) (h i (j-1) (by omega) (by omega)) e
include hT in
theorem Ak(hp:eU n p)(h:D_ lt p m)(e:lt (vA p (m-1)) (vA p m)=false):D_ lt p (m+1):=fun i j hij hj=>by
 by_cases c:j<m
 ·exact h i j hij c
 ·obtain rfl:j=m:=by omega
  by_cases d:i=j-1
  ·rw[d];exact e
  ·exact hT _ (vA p (j-1)) _ (hp.d7 _) (hp.d7 _) (hp.d7 _) e (h i (j-1) (by omega) (by omega))
include hT in
theorem Gy(hp:eU n p):∀(f m:Nat),1<=m->uX lt p m->uX lt p (dO lt (ja p f m))/\m<=dO lt (ja p f m)/\dO lt (ja p f m)<=m+f/\(dO lt (ja p f m)<m+f->lt (vA p (dO lt (ja p f m))) (vA p (dO lt (ja p f m)-1))=true)
|0,m,_,h=>⟨h,aB _,aB _,fun z=>absurd z (cM _)⟩
|f+1,m,h1,h=>by
 have e:dO lt (ja p (f+1) m)=if lt (vA p m) (vA p (m-1))=true then m else dO lt (ja p f (m+1)):=by
  show dO lt (if lt (p.getD m 0) (p.getD (m-1) 0)=true then .ret m else ja p f (m+1))=_;split<;>rfl
 rw[e];by_cases c:lt (vA p m) (vA p (m-1))=true
 ·rw[if_pos c];exact⟨h,aB _,by omega,fun _=>c⟩
 ·rw[if_neg c];obtain⟨a1,a2,a3,a4⟩:=Gy hp f (m+1) (by omega) (Rv hT hp h (by simpa using c));exact⟨a1,by omega,by omega,fun z=>a4 (by omega)⟩
include hA in
theorem SD(i:Nat)(h:i<n):lt i i=false:=by
 cases e:lt i i with
 |false=>rfl
 |true=>have:=hA i i h h e;rw[e]at this;cases this
theorem psz(hp:eU n p):p.size=n:=by rw[hp.2.size_eq];simp
include hT in
theorem ID(hp:eU n p){a:Nat}(hm:m<=n)(h:D_ lt p m)(s:Seg lt p a m):D_ lt (iN p a m) m:=fun i j hij hj=>by
 have hz:m<=p.size:=by rw[psz hp];exact hm
 by_cases ci:a<=i
 ·rw[tP hz ⟨ci,by omega⟩,tP hz ⟨by omega,hj⟩];exact s _ _ (by omega) (by omega) (by omega) (by omega)
 ·rw[EV hz (by omega)];by_cases cj:a<=j
  ·rw[tP hz ⟨cj,hj⟩];exact h _ _ (by omega) (by omega)
  ·rw[EV hz (by omega)];exact h _ _ hij hj
include hT hA in
theorem yJ:∀(f:Nat) (p:Array Nat) (m q:Nat),eU n p->m+f<=n->q+1<=m->D_ lt p m->Seg lt p (m-(q+1)) m->
 ∃p' m' q',dO lt (iY f p m q)=(p',m',q')/\eU n p'/\m<=m'/\m'<=m+f/\q'+1<=m'/\D_ lt p' m'/\Seg lt p' (m'-(q'+1)) m'
|0,p,m,q,hp,_,hq,h,s=>⟨p,m,q,rfl,hp,aB _,aB _,hq,h,s⟩
|f+1,p,m,q,hp,hm,hq,h,s=>by
 have hz:m<=p.size:=by rw[psz hp];omega
 have e:dO lt (iY (f+1) p m q)=if lt (vA p m) (vA p (m-1))=true then(if q>0 then dO lt (iY f (iN p (m-(q+1)) m) (m+1) 0)else dO lt (iY f p (m+1) 0))else if lt (vA p (m-1)) (vA p m)=true then(p,m,q)else dO lt (iY f p (m+1) (q+1)):=by
  show dO lt (if lt (p.getD m 0) (p.getD (m-1) 0)=true then(if q>0 then iY f (iN p (m-(q+1)) m) (m+1) 0 else iY f p (m+1) 0)else .ask (p.getD (m-1) 0) (p.getD m 0) fun d=>if d=true then .ret (p,m,q)else iY f p (m+1) (q+1))=_;split
  ·split<;>rfl
  ·show dO lt (if lt (p.getD (m-1) 0) (p.getD m 0)=true then .ret (p,m,q)else iY f p (m+1) (q+1))=_;split<;>rfl
 have one:∀(p:Array Nat),eU n p->Seg lt p (m+1-(0+1)) (m+1):=fun p hp i j a b c d=>by
  obtain rfl:i=m:=by omega
  obtain rfl:j=i:=by omega
  exact SD hA _ (hp.d7 _)
 rw[e];by_cases c:lt (vA p m) (vA p (m-1))=true
 ·rw[if_pos c];have c':=hA _ _ (hp.d7 _) (hp.d7 _) c;by_cases d:q>0
  ·rw[if_pos d];have hp1:=hp.rev (m-(q+1)) m;have d1:=Ak hT hp1 (ID hT hp (by omega) h s) (by
    rw[EV hz (k:=m) (by omega),tP hz (k:=m-1) ⟨by omega,by omega⟩];exact hT _ (vA p (m-1)) _ (hp.d7 _) (hp.d7 _) (hp.d7 _) c' (s _ _ (by omega) (by omega) (by omega) (by omega)))
   obtain⟨p',m',q',r1,r2,r3,r4,r5⟩:=yJ f _ (m+1) 0 hp1 (by omega) (by omega) d1 (one _ hp1);exact⟨p',m',q',r1,r2,by omega,by omega,r5⟩
  ·rw[if_neg d];obtain⟨p',m',q',r1,r2,r3,r4,r5⟩:=yJ f _ (m+1) 0 hp (by omega) (by omega) (Ak hT hp h c') (one _ hp);exact⟨p',m',q',r1,r2,by omega,by omega,r5⟩
 ·rw[if_neg c];have c:lt (vA p m) (vA p (m-1))=false:=by simpa using c
  by_cases d:lt (vA p (m-1)) (vA p m)=true
  ·rw[if_pos d];exact⟨p,m,q,rfl,hp,aB _,by omega,hq,h,s⟩
  ·rw[if_neg d];have d:lt (vA p (m-1)) (vA p m)=false:=by simpa using d
   obtain⟨p',m',q',r1,r2,r3,r4,r5⟩:=yJ f p (m+1) (q+1) hp (by omega) (by omega) (Ak hT hp h d) (fun i j a b a' b'=>by
    by_cases ci:i<m
    ·by_cases cj:j<m
     ·exact s i j (by omega) ci (by omega) cj
     ·obtain rfl:j=m:=by omega
      exact hT _ (vA p (j-1)) _ (hp.d7 _) (hp.d7 _) (hp.d7 _) d (s _ _ (by omega) (by omega) (by omega) (by omega))
    ·obtain rfl:i=m:=by omega
     by_cases cj:j<i
     ·exact hT _ (vA p (i-1)) _ (hp.d7 _) (hp.d7 _) (hp.d7 _) (s _ _ (by omega) (by omega) (by omega) (by omega)) c
     ·obtain rfl:j=i:=by omega
      exact SD hA _ (hp.d7 _))
   exact⟨p',m',q',r1,r2,by omega,by omega,r5⟩
include hT in
theorem IE(hp:eU n p)(h1:1<=m)(hm:m<=n)(h:D_ lt p m):∃r p',dO lt (pL m n p)=(r,p')/\eU n p'/\1<=r/\r<=n/\uX lt p' r:=by
 have hz:m<=p.size:=by rw[psz hp];exact hm
 have hp1:=hp.rev 0 m;have a:uX lt (iN p 0 m) m:=fun i j hij hj=>by
  rw[tP hz ⟨cX _,hj⟩,tP hz ⟨cX _,by omega⟩];exact h _ _ (by omega) (by omega)
 obtain⟨a1,a2,a3,_⟩:=Gy hT hp1 (n-m) m h1 a;exact⟨_,_,lC lt _,hp1,by omega,by omega,a1⟩
include hT hA in
theorem IF(hp:eU n p)(h1:1<=m)(hm:m+1<=n)(h:D_ lt p (m+1)):∃r p',dO lt (nR m n p)=(r,p')/\eU n p'/\1<=r/\r<=n/\uX lt p' r:=by
 obtain⟨p',m',q',r1,r2,r3,r4,r5,r6,r7⟩:=yJ hT hA (n-(m+1)) p (m+1) 0 hp (by omega) (by omega) h (fun i j a b c d=>by
  obtain rfl:i=m:=by omega
  obtain rfl:j=i:=by omega
  exact SD hA _ (hp.d7 _))
 have e:dO lt (nR m n p)=if q'>0 then dO lt (pL m' n (iN p' (m'-(q'+1)) m'))else dO lt (pL m' n p'):=by
  unfold nR;rw[lC,r1];show dO lt (if q'>0 then pL m' n (iN p' (m'-(q'+1)) m')else pL m' n p')=_;split<;>rfl
 rw[e];split
 ·exact IE hT (r2.rev _ _) (by omega) (by omega) (ID hT r2 (by omega) r6 r7)
 ·exact IE hT r2 (by omega) (by omega) r6
include hT hA in
theorem Rw(hp:eU n p):∃r p',dO lt (tX n p)=(r,p')/\eU n p'/\1<=r/\r<=n/\uX lt p' r:=by
 have hn:=hp.1;obtain⟨a1,a2,a3,a4⟩:=Gy hT hp (n-1) 1 (aB _) (fun i j _ _=>by omega);unfold tX;rw[lC];generalize dO lt (ja p (n-1) 1)=m at a1 a2 a3 a4;by_cases c:m=n
 ·rw[if_pos (by simpa using c)];exact⟨m,p,rfl,hp,a2,by omega,a1⟩
 ·rw[if_neg (by simpa using c)];have b:=a4 (by omega);have b':=hA _ _ (hp.d7 _) (hp.d7 _) b;by_cases d:m>1
  ·rw[if_pos d];show ∃r p',dO lt (if lt (vA p 0) (vA p (m-1))=true then .ret (m,p)else nR m n (iN p 0 m))=(r,p')/\_;by_cases g:lt (vA p 0) (vA p (m-1))=true
   ·rw[if_pos g];exact⟨m,p,rfl,hp,a2,by omega,a1⟩
   ·rw[if_neg g];have g:lt (vA p 0) (vA p (m-1))=false:=by simpa using g
    have hz:m<=p.size:=by rw[psz hp];omega
    have up:∀k,k<m->lt (vA p k) (vA p (m-1))=false:=fun k hk=>by
     by_cases z:k=0
     ·rw[z];exact g
     ·exact hT _ (vA p 0) _ (hp.d7 _) (hp.d7 _) (hp.d7 _) g (a1 0 k (by omega) hk)
    have dn:∀k,k<m->lt (vA p (m-1)) (vA p k)=false:=fun k hk=>by
     by_cases z:k=m-1
     ·rw[z];exact SD hA _ (hp.d7 _)
     ·exact a1 k (m-1) (by omega) (by omega)
    refine IF hT hA (hp.rev 0 m) (by omega) (by omega) fun i j hij hj=>?_;rw[tP hz ⟨cX _,by omega⟩];by_cases cj:j<m
    ·rw[tP hz ⟨cX _,cj⟩];exact hT _ (vA p (m-1)) _ (hp.d7 _) (hp.d7 _) (hp.d7 _) (dn _ (by omega)) (up _ (by omega))
    ·obtain rfl:j=m:=by omega
     rw[EV hz (by omega)];exact hT _ (vA p (j-1)) _ (hp.d7 _) (hp.d7 _) (hp.d7 _) b' (up _ (by omega))
  ·rw[if_neg d];obtain rfl:m=1:=by omega
   refine IF hT hA hp (aB _) (by omega) fun i j hij hj=>?_;obtain rfl:i=0:=by omega
   obtain rfl:j=1:=by omega
   exact b'
include hT in
theorem Al(hp:eU n p)(h:uX lt p k):∀(f l r:Nat),l<=r->r<=k->r-l<=f->(∀i,i<l->lt (vA p k) (vA p i)=false)->(∀i,r<=i->i<k->lt (vA p k) (vA p i)=true)->
 ∃x,dO lt (pN p k f l r)=x/\x<=k/\(∀i,i<x->lt (vA p k) (vA p i)=false)/\∀i,x<=i->i<k->lt (vA p k) (vA p i)=true
|0,l,r,h1,h2,h3,a,b=>⟨l,rfl,by omega,a,fun i hi=>b i (by omega)⟩
|f+1,l,r,h1,h2,h3,a,b=>by
 unfold pN;by_cases c:l≥r
 ·rw[if_pos c];exact⟨l,rfl,by omega,a,fun i hi=>b i (by omega)⟩
 ·rw[if_neg c];show ∃x,dO lt (if lt (vA p k) (vA p ((l+r) / 2))=true then pN p k f l ((l+r) / 2)else pN p k f ((l+r) / 2+1) r)=x/\_;have m1:l<=(l+r) / 2:=by omega
  have m2:(l+r) / 2<r:=by omega
  generalize(l+r) / 2=m at m1 m2;by_cases d:lt (vA p k) (vA p m)=true
  ·rw[if_pos d];refine Al hp h f l m m1 (by omega) (by omega) a fun i hi hk=>?_;cases e:lt (vA p k) (vA p i)with
   |true=>rfl
   |false=>
    have:lt (vA p k) (vA p m)=false:=by
     by_cases z:i=m
     ·rw[<-z];exact e
     ·exact hT _ (vA p i) _ (hp.d7 _) (hp.d7 _) (hp.d7 _) (h m i (by omega) hk) e
    rw[d]at this;cases this
  ·rw[if_neg d];have d:lt (vA p k) (vA p m)=false:=by simpa using d
   refine Al hp h f (m+1) r (by omega) h2 (by omega) (fun i hi=>?_) b;by_cases z:i=m
   ·rw[z];exact d
   ·exact hT _ (vA p m) _ (hp.d7 _) (hp.d7 _) (hp.d7 _) (h i m (by omega) (by omega)) d
include hT hA in
theorem Nz:∀(f:Nat) (p:Array Nat) (k:Nat),eU n p->k+f<=n->uX lt p k->eU n (dO lt (qZ f p k))/\uX lt (dO lt (qZ f p k)) (k+f)
|0,p,k,hp,_,h=>⟨hp,h⟩
|f+1,p,k,hp,hk,h=>by
 obtain⟨l,e,hl,a,b⟩:=Al hT hp h k 0 k (cX _) (aB _) (by omega) (fun i hi=>by omega) (fun i hi hk=>by omega);have hz:k<p.size:=by rw[psz hp];omega
 have e2:dO lt (qZ (f+1) p k)=dO lt (qZ f (yj p k (k-l)) (k+1)):=by
  show dO lt ((pN p k k 0 k).bind _)=_;rw[lC,e]
 have v1:vA (yj p k (k-l)) l=vA p k:=Gx (by rw[tZ hz _ (by omega),if_pos (by omega)]);have v2:∀i,l<i->i<=k->vA (yj p k (k-l)) i=vA p (i-1):=fun i h1 h2=>Gx (by rw[tZ hz _ (by omega),if_neg (by omega),if_pos (by omega)]);have v3:∀i,i<l->vA (yj p k (k-l)) i=vA p i:=fun i h1=>Gx (by rw[tZ hz _ (by omega),if_neg (by omega),if_neg (by omega)]);have a1:uX lt (yj p k (k-l)) (k+1):=fun i j hij hj=>by
  by_cases c1:j<l
  ·rw[v3 j c1,v3 i (by omega)];exact h i j hij (by omega)
  ·by_cases c2:j=l
   ·subst c2;rw[v1,v3 i hij];exact a i hij
   ·rw[v2 j (by omega) (by omega)];by_cases c3:i<l
    ·rw[v3 i c3];by_cases z:i=j-1
     ·omega
     ·exact h i (j-1) (by omega) (by omega)
    ·by_cases c4:i=l
     ·subst c4;rw[v1];exact hA _ _ (hp.d7 _) (hp.d7 _) (b (j-1) (by omega) (by omega))
     ·rw[v2 i (by omega) (by omega)];exact h (i-1) (j-1) (by omega) (by omega)
 rw[e2];obtain⟨q1,q2⟩:=Nz f _ (k+1) (hp.YG _ _) (by omega) a1;exact⟨q1,by rw[show k+(f+1)=k+1+f by omega];exact q2⟩
include hT hA in
theorem UN:∀i j,i<j->j<n->lt ((iZ n lt).getD j 0) ((iZ n lt).getD i 0)=false:=by
 intro i j hij hj;unfold iZ;rw[if_neg (by omega)];have hp:eU n (bA n).toArray:=⟨by omega,BO _⟩;obtain⟨r,p,e,q1,q2,q3,q4⟩:=Rw hT hA hp;have e2:dO lt (jx n)=if r<n then dO lt (qZ (n-max r 1) p (max r 1))else p:=by
  unfold jx;rw[lC,e];show dO lt (if r<n then qZ (n-max r 1) p (max r 1)else .ret p)=_;split<;>rfl
 have fin:∀p:Array Nat,uX lt p n->lt (p.toList.getD j 0) (p.toList.getD i 0)=false:=fun p h=>by
  have:=h i j hij hj;have g:∀k,p.toList.getD k 0=vA p k:=fun k=>by
   unfold vA;rw[j7,aK,jY]
  rw[g,g];exact this
 rw[e2];split
 ·have:max r 1=r:=by omega
  rw[this];refine fin _ ?_;have:=(Nz hT hA (n-r) p r q1 (by omega) q4).2;rw[show r+(n-r)=n by omega]at this;exact this
 ·exact fin p (by rw[show n=r by omega];exact q4)
end
theorem WU(h:∀i,1<=i->i<n->lt i (i-1)=false):iZ n lt=bA n:=by
 unfold iZ;split
 ·rfl
 ·rename_i hn;have v:∀k,k<n->(bA n).toArray.getD k 0=k:=fun k hk=>by simp[BL,hk]
  have go:∀f m,1<=m->m+f<=n->dO lt (ja (bA n).toArray f m)=m+f:=by
   intro f;induction f with
   |zero=>intro m _ _;rfl
   |succ f ih=>
    intro m h1 h2;show dO lt (if lt ((bA n).toArray.getD m 0) ((bA n).toArray.getD (m-1) 0)=true then .ret m else ja (bA n).toArray f (m+1))=_;rw[v m (by omega),v (m-1) (by omega),h m h1 (by omega),if_neg aR,ih (m+1) (by omega) (by omega)];omega
  have e:dO lt (tX n (bA n).toArray)=(n,(bA n).toArray):=by
   unfold tX;rw[lC,go (n-1) 1 (aB _) (by omega),show 1+(n-1)=n by omega,if_pos (beq_self_eq_true n)];rfl
  unfold jx;rw[lC,e];show(dO lt (if n<n then _ else .ret (bA n).toArray)).toList=_;rw[if_neg (cM n)];rfl
theorem WV(p:Key):sW p p=false:=by
 cases p with
 |inl i=>exact decide_eq_false (Int.lt_irrefl i)
 |inr x=>exact decide_eq_false (CM _)
theorem Ih{x y:Str}(h:x.cps.toList=y.cps.toList):x=y:=by
 cases x;cases y;congr 1;exact Az.mp h
variable{q:Key}
theorem IG{p:Key}(h:sW p q=true):sW q p=false:=by
 cases p<;>cases q<;>first|cases h|skip
 ·exact decide_eq_false (by have:=of_decide_eq_true h;omega)
 ·exact decide_eq_false (List.lt_asymm (of_decide_eq_true h))
theorem Rx{p r:Key}(h:sW p q=true)(h':sW q r=true):sW p r=true:=by
 cases p<;>cases q<;>first|cases h|skip
 ·cases r<;>first|cases h'|skip
  exact decide_eq_true (by have:=of_decide_eq_true h;have:=of_decide_eq_true h';omega)
 ·cases r<;>first|cases h'|skip
  exact decide_eq_true (List.lt_trans (of_decide_eq_true h) (of_decide_eq_true h'))
variable{ps qs:List Key}
theorem NB{p:Key}(s:d9 (p::ps) (q::qs)=true)(h:sW p q=false)(h':sW q p=false):p=q:=by
 cases p<;>cases q<;>first|cases s|skip
 ·have:=of_decide_eq_false h;have:=of_decide_eq_false h';congr 1;omega
 ·have a:=of_decide_eq_false h;have b:=of_decide_eq_false h';congr 1;exact Ih (List.le_antisymm (HL.mp b) (HL.mp a))
theorem Cz{p:Key}(s:d9 (p::ps) (q::qs)=true):d9 ps qs=true:=by
 cases p<;>cases q<;>first|exact s|cases s
theorem se(p q:Key)(ps qs:List Key):ia (p::ps) (q::qs)=if p=q then ia ps qs else sW p q:=rfl
theorem Gz:∀{k q:List Key},d9 k q=true->ia k q=true->ia q k=false
|[],_,_,h=>by cases h
|_::_,[],_,h=>by cases h
|p::ps,q::qs,s,h=>by
 rw[se]at h ⊢;by_cases e:p=q
 ·rw[if_pos e]at h;rw[if_pos e.symm];exact Gz (Cz s) h
 ·rw[if_neg e]at h;rw[if_neg (dm e)];exact IG h
theorem Ea:∀{i j k:List Key},d9 i j=true->d9 j k=true->ia j i=false->ia k j=false->ia k i=false
|[],_,k,_,_,_,_=>by cases k<;>rfl
|.inl _::_,[],_,s,_,_,_=>by cases s
|.inr _::_,[],_,s,_,_,_=>by cases s
|_::_,_::_,[],_,_,_,_=>rfl
|a::as,b::bs,c::cs,s,s',h,h'=>by
 rw[se]at h h' ⊢;by_cases e1:b=a
 ·subst e1;rw[if_pos rfl]at h;by_cases e2:c=b
  ·subst e2;rw[if_pos rfl]at h' ⊢;exact Ea (Cz s) (Cz s') h h'
  ·rw[if_neg e2]at h' ⊢;exact h'
 ·rw[if_neg e1]at h;have h1:sW a b=true:=by
   cases q:sW a b with
   |true=>rfl
   |false=>exact absurd (NB s q h).symm e1
  by_cases e2:c=b
  ·subst e2;rw[if_neg e1];exact h
  ·rw[if_neg e2]at h';have h2:sW b c=true:=by
    cases q:sW b c with
    |true=>rfl
    |false=>exact absurd (NB s' q h').symm e2
   have h3:=Rx h1 h2;have:c≠a:=fun z=>by subst z;rw[WV]at h3;cases h3
   rw[if_neg this];exact IG h3
noncomputable def gE{α:Type}[Inhabited α](κ:α->List Key)(xs:List α):List α:=(gB (xs.map κ)).map fun i=>xs.getD i default
section
variable{α:Type} [Inhabited α] {κ:α->List Key}
theorem II{kss:List (List Key)}:∀i∈gB kss,i<kss.length:=Fi _ _
theorem mV(xs:List α):(gE κ xs).length=xs.length:=by
 unfold gE gB;rw[ah,uE,ah]
theorem range_getD(xs:List α):(bA xs.length).map (fun i=>xs.getD i default)=xs:=by
 apply sE
 ·simp
 ·intro i a b;simp[aK,aj b]
theorem vN(xs:List α):(gE κ xs).Perm xs:=by
 have h:=(Ru xs.length (sX (xs.map κ))).map fun i=>xs.getD i default;rw[range_getD]at h;unfold gE gB;rw[ah];exact h
theorem nJ{xs:List α}(h:i<xs.length):(xs.map κ).getD i []=κ (xs.getD i default):=by
 rw[aK,aK,aX,aj h];rfl
theorem NC{xs:List α}(h:i<xs.length):(gE κ xs).getD i default=xs.getD ((gB (xs.map κ)).getD i 0) default:=by
 have hl:i<(gB (xs.map κ)).length:=by unfold gB;rw[uE,ah];exact h
 unfold gE;rw[aK,aX,aj hl,aK (l:=gB _),aj hl];rfl
theorem IJ(xs:List α)(hs:∀x∈xs,∀y∈xs,d9 (κ x) (κ y)=true):gE κ (gE κ xs)=gE κ xs:=by
 have e:gB ((gE κ xs).map κ)=bA (gE κ xs).length:=by
  unfold gB;rw[ah];refine WU fun i h1 h2=>?_;rw[mV]at h2;have hx:∀i,i<xs.length->xs.getD i default∈xs:=fun i hi=>getD_mem hi;have qd:∀i,i<(xs.map κ).length->(xs.map κ).getD i []=κ (xs.getD i default):=fun i hi=>nJ (by simpa using hi);have asc:=UN (n:=(xs.map κ).length) (lt:=sX (xs.map κ)) (fun i j k hi hj hk a b=>by
   unfold sX at a b ⊢;rw[qd _ hi]at a ⊢;rw[qd _ hj]at a b;rw[qd _ hk]at b ⊢;rw[ah]at hi hj hk;exact Ea (hs _ (hx _ hi) _ (hx _ hj)) (hs _ (hx _ hj) _ (hx _ hk)) a b) (fun i j hi hj a=>by
   unfold sX at a ⊢;rw[qd _ hi,qd _ hj]at a;rw[qd _ hi,qd _ hj];rw[ah]at hi hj;exact Gz (hs _ (hx _ hi) _ (hx _ hj)) a) (i-1) i (by omega) (by rw[ah];exact h2)
  have lt:∀i,i<xs.length->(gB (xs.map κ)).getD i 0<xs.length:=fun i hi=>by
   have:=II (kss:=xs.map κ) _ (getD_mem (d:=0) (show i<(gB (xs.map κ)).length by unfold gB;rw[uE,ah];exact hi));simpa using this
  unfold sX;rw[nJ (by rw[mV];exact h2),nJ (by rw[mV];omega),NC h2,NC (show i-1<xs.length by omega)];have asc:ia ((xs.map κ).getD ((gB (xs.map κ)).getD i 0) []) ((xs.map κ).getD ((gB (xs.map κ)).getD (i-1) 0) [])=false:=asc;rw[nJ (lt i h2),nJ (lt (i-1) (by omega))]at asc;exact asc
 show(gB ((gE κ xs).map κ)).map (fun i=>(gE κ xs).getD i default)=_;rw[e,range_getD]
theorem ND{κ':α->List Key}(xs:List α)(h:∀i j,i<xs.length->j<xs.length->ia (κ (xs.getD i default)) (κ (xs.getD j default))=ia (κ' (xs.getD i default)) (κ' (xs.getD j default))):gE κ xs=gE κ' xs:=by
 unfold gE gB;rw[ah,ah];rw[Ny (lt':=sX (xs.map κ')) fun i j hi hj=>by
  unfold sX;rw[nJ hi,nJ hj,nJ hi,nJ hj];exact h i j hi hj]
end
end L2
end
section
namespace K2
open PySem L2 L3 Tr
noncomputable def Kl(z:List Nat×Int):List Key:=[.inr (strOf z.1),.inl z.2]
noncomputable def Ry(j:J3):List Key:=[.inr (strOf j.1),.inl j.2.1,.inl j.2.2]
noncomputable def Km(z:List Nat×Int):List Key:=[.inr (strOf z.1)]
noncomputable abbrev gp(zs:List (List Nat×Int)):List (List Nat×Int):=gE Kl zs
noncomputable abbrev eX(js:List J3):List J3:=gE Ry js
variable{α:Type}
theorem Eb(enc:α->D)(κ:α->List Key)(h:∀a,mG (enc a)=some (κ a)):∀l:List α,tD (l.map enc)=some (l.map κ)
|[]=>rfl
|a::r=>by
 show((mG (enc a)).bind fun k=>(tD (r.map enc)).map (k::·))=_;rw[h a,Eb enc κ h r];rfl
theorem Ec(enc:α->D)(κ:α->List Key)(h:∀a,mG (enc a)=some (κ a))(l:List α):nq (l.map enc)=some (l.map κ):=by
 cases l with
 |nil=>rfl
 |cons a r=>
  have:jE ((a::r).map enc)=none:=by
   have:=h a;show jE (enc a::r.map enc)=none;cases q:enc a with
   |str x=>rw[q]at this;cases this
   |_=>rfl
  unfold nq;rw[this];exact Eb enc κ h (a::r)
theorem NF[Inhabited α](κ:α->List Key)(enc:α->D)(xs:List α)(hf:aA (xs.map enc)=xs.map enc):vB (xs.map κ) (xs.map enc)=(gE κ xs).map enc:=by
 unfold vB gE;rw[hf,bK];refine kQ fun i hi=>?_;have hl:i<xs.length:=by have:=II i hi;simpa using this
 show(xs.map enc).getD i .non=enc (xs.getD i default);rw[aK,aK,aX,aj hl];rfl
theorem GA(κ:α->List Key)(xs:List α)(hl:xs.length<64)(h:∀a b,d9 (κ a) (κ b)=true)(hn:∀a,(κ a).isEmpty=false):sortable (xs.map κ)=true:=by
 unfold sortable;rw[aU];refine⟨decide_eq_true (by rw[ah];exact hl),bH.mpr fun k hk=>?_⟩;obtain⟨a,_,rfl⟩:=aV.mp hk;rw[hn a,Bool.not_false,Bool.true_and];exact bH.mpr fun q hq=>by
  obtain⟨b,_,rfl⟩:=aV.mp hq;exact h a b
theorem vO[Inhabited α](κ:α->List Key)(enc:α->D)(xs:List α)(o:Bool)(hf:aA (xs.map enc)=xs.map enc)(hk:nq (xs.map enc)=some (xs.map κ))(hl:xs.length<64)(h:∀a b,d9 (κ a) (κ b)=true)(hn:∀a,(κ a).isEmpty=false):gf .sorted [.lst o (xs.map enc)]=.ok (.lst true ((gE κ xs).map enc)):=by
 show(R.opt (nq (xs.map enc))).bind (fun kss=>R.a9 (sortable kss) (.ok (D.lst true (vB kss (xs.map enc)))))=_;rw[hk];show R.a9 (sortable (xs.map κ)) (.ok (D.lst true (vB (xs.map κ) (xs.map enc))))=_;rw[GA κ xs hl h hn,NF κ enc xs hf];rfl
theorem NG(zs:List (List Nat×Int))(o:Bool)(hl:zs.length<64):gf .sorted [.lst o (zs.map zD)]=.ok (.lst true ((gp zs).map zD)):=vO Kl zD zs o (iB zs) (Ec zD Kl (fun _=>rfl) zs) hl (fun _ _=>rfl) (fun _=>rfl)
theorem xV(js:List J3)(o:Bool)(hl:js.length<64):gf .sorted [.lst o (js.map jD)]=.ok (.lst true ((eX js).map jD)):=vO Ry jD js o (jF js) (Ec jD Ry (fun _=>rfl) js) hl (fun _ _=>rfl) (fun _=>rfl)
theorem Rz(zs:List (List Nat×Int)):nq (zs.map fun z=>wD z.1)=some (zs.map Km):=by
 have:jE (zs.map fun z=>wD z.1)=some (zs.map fun z=>strOf z.1):=by
  have:=strs_map (zs.map fun z=>strOf z.1);rw[bK]at this;exact this
 unfold nq;rw[this];show some ((zs.map fun z=>strOf z.1).map fun x=>[kJ x])=_;rw[bK];rfl
theorem NH(zs:List (List Nat×Int))(hn:(zs.map (·.1)).Nodup):gE Km zs=gp zs:=by
 refine ND zs fun i j hi hj=>?_;unfold Km Kl;rw[se,se];by_cases e:(kJ (strOf (zs.getD i default).1):Key)=.inr (strOf (zs.getD j default).1)
 ·rw[if_pos e,if_pos e];have e':(zs.getD i default).1=(zs.getD j default).1:=iL (l8 e);have hij:i=j:=by
   have h1:(zs.map (·.1))[i]'(by simpa using hi)=(zs.map (·.1))[j]'(by simpa using hj):=by
    rw[AG,AG];rw[aK,aK,aj hi,aj hj]at e';exact e'
   exact(As hn).mp h1
  subst hij;rw[se,if_pos rfl]
 ·rw[if_neg e,if_neg e]
theorem Ed(zs:List (List Nat×Int))(o:Bool)(hl:zs.length<64)(hn:(zs.map (·.1)).Nodup):gf .sorted [.lst o (zs.map fun z=>wD z.1)]=.ok (.lst true ((gp zs).map fun z=>wD z.1)):=by
 rw[<-NH zs hn];exact vO Km (fun z=>wD z.1) zs o (c8 _ (fun _=>rfl) zs) (Rz zs) hl (fun _ _=>rfl) (fun _=>rfl)
variable{zs:List (List Nat×Int)}
theorem Am{z:List Nat×Int}:z∈gp zs↔z∈zs:=(vN zs).mem_iff
variable{js:List J3}{j:J3}
theorem RA:j∈eX js↔j∈js:=(vN js).mem_iff
theorem UO(h:(zs.map (·.1)).Nodup):((gp zs).map (·.1)).Nodup:=((vN zs).map _).nodup_iff.mpr h
theorem UP(h:js.Nodup):(eX js).Nodup:=(vN js).nodup_iff.mpr h
theorem Yn(zs:List (List Nat×Int)):gp (gp zs)=gp zs:=IJ zs fun _ _ _ _=>rfl
theorem Yo(js:List J3):eX (eX js)=eX js:=IJ js fun _ _ _ _=>rfl
noncomputable def sP(P:List P2):List P2:=P.map fun p=>(p.1,gp p.2)
noncomputable def l0(P:List P2)(J:List J3)(S:List (List Nat×Int)):D:=.tup [.lst true (P.map pD),.lst true (J.map jD),.lst true (S.map zD)]
theorem xW(zs:List (List Nat×Int)):bM (zs.map zD)=true:=jU _ fun d hd=>by
 obtain⟨z,_,rfl⟩:=aV.mp hd;rfl
theorem xX(js:List J3):bM (js.map jD)=true:=jU _ fun d hd=>by
 obtain⟨z,_,rfl⟩:=aV.mp hd;rfl
theorem GB(P:List P2):bM (P.map pD)=true:=jU _ fun d hd=>by
 obtain⟨p,_,rfl⟩:=aV.mp hd;show(aL (wD p.1)&&((true&&bM (p.2.map zD))&&true))=true;rw[xW];rfl
theorem Kn(P:List P2):aA (P.map pF)=P.map pF:=c8 pF (fun p=>by
 show D.tup [wD p.1,.lst false (aA (p.2.map zD))]=_;rw[iB];rfl) P
variable{Y:List PG}
theorem Ko(P:List P2)(hz:∀p∈P,p.2.length<=4):eK (pG (.tup (.cons (.name 0) (.cons (.name 1) .nil)))) (fun _=>.ok true) (pE Y (.tup (.cons (.var 0) (.cons (.blt .sorted (.cons (.var 1) .nil)) .nil)))) (P.map pF) [none,none]=.ok ((sP P).map pD):=by
 unfold sP;rw[bK];refine fB pF (fun O=>∃a b,O=[a,b]) (fun p=>pD (p.1,gp p.2)) P _ ⟨none,none,rfl⟩ ?_;rintro p hp O ⟨a,b,rfl⟩;have hs:=szl;have q:=NG p.2 false (by have:=hz p hp;omega);have fz:=iB p.2;refine⟨[some (wD p.1),some (.lst false (p.2.map zD))],rfl,⟨_,_,rfl⟩,?_⟩;unfold pD wD;generalize p.2.map zD=Z at q fz ⊢;simp_arith [q,fz]
theorem NI(x:Str)(kd:List D)(wk:List D)(fkd:aA kd=kd)(hk:∀Y,eK (pG (.name 0)) (fun _=>.ok true) (pE Y (.ix (.var 0) (.con (.int 0)))) kd [none]=.ok wk)(fk:aA wk=wk)(ok:bM wk=true)(nk:e_ wk=true)
  (as:List AR) (hv:Valid wk t0 as) (hx:x.length<=40000) (hr:qh (mP x)=as.map AR.row) (P:List P2) (J:List J3) (S:List (List Nat×Int)) (he:t0.run as=⟨P,J,S⟩):g7 [.lst false kd,.str x]=.ok (l0 (sP P) (eX J) S):=by
 have hs:=szl;have qr:=Nm x (by omega);have gg:∀(n:Nat) (t:St) (r:List (List Nat)) (v2 v3 sz:Option D),pG (.tup (.cons (.name 6) (.cons (.name 7) .nil))) (.tup [.int (n:Int),bX r]) (Gu (.lst false kd) (.str x) wk t v2 v3 sz)=.ok (Gu (.lst false kd) (.str x) wk t (some (.int n)) (some (bX r)) sz):=by
  intro n t r v2 v3 sz;rfl
 obtain⟨ZV,h1,v2,v3,sz,rfl⟩:=Kh (g:=pG (.tup (.cons (.name 6) (.cons (.name 7) .nil)))) (b:=bq cQ 1000 cy) bX (mP x)
  (fun pre O=>∃(v2 v3 sz:Option D),O=Gu (.lst false kd) (.str x) wk (t0.run (as.take (qh pre).length)) v2 v3 sz) (by
  rintro pre r post hx O ⟨v2,v3,sz,rfl⟩;obtain⟨sm,okn⟩:=nI (qh pre).length Bx hv;cases r with
  |nil=>
   have en:qh (pre++[[]])=qh pre:=by unfold qh;rw[g_];simp
   rw[en];exact⟨_,_,gg _ _ _ _ _ _,.inr (UL (.lst false kd) (.str x) wk fk _ _ (tO _) (by rw[ah];have:=sm.p;omega) _ (by have:=sm.j;omega) _ (by have:=sm.s;omega) _ sz),_,_,_,rfl⟩
  |cons w ws=>
   have en:qh (pre++[w::ws])=qh pre++[w::ws]:=by unfold qh;rw[g_];rfl
   have ek:as.map AR.row=qh pre++(w::ws)::qh post:=by
    rw[<-hr,hx];unfold qh;rw[g_];rfl
   have hg:(as.map AR.row)[(qh pre).length]?=some (w::ws):=by
    rw[ek,cC (aB _),sN];rfl
   rw[aX]at hg;cases ha:as[(qh pre).length]? with
   |none=>rw[ha]at hg;cases hg
   |some a=>
    rw[ha]at hg;have er:a.row=w::ws:=by simpa using hg
    obtain⟨sz',q⟩:=WT (.lst false kd) (.str x) wk fk nk _ sm a (okn a ha) (pre.length:Int) sz;rw[er]at q;refine⟨_,_,gg _ _ _ _ _ _,.inl q,some (.int (pre.length:Int)),some (bX (w::ws)),sz',?_⟩;rw[en,az,bU,Rt t0 as _ a ha]) (Gu (.lst false kd) (.str x) wk t0 none none none) ⟨none,none,none,rfl⟩
 rw[hr,ah,mR,he]at h1;obtain⟨sm,_⟩:=nI as.length Bx hv;rw[mR,he]at sm;have hc:=hk [.fn lu [],.fn je [],.fn jf [],.fn jg [],.fn jh []];have h1:forR (pG (.tup (.cons (.name 6) (.cons (.name 7) .nil)))) (bq cQ 1000 cy) (kT 0 ((mP x).map bX)) [some (.lst false kd),some (.str x),some (.lst true wk),some (.lst true []),some (.lst true []),some (.lst true []),none,none,none]=.nx [some (.lst false kd),some (.str x),some (.lst true wk),some (.lst true (P.map pD)),some (.lst true (J.map jD)),some (.lst true (S.map zD)),v2,v3,sz]:=h1;have c1:=Ko (Y:=[.fn lu [],.fn je [],.fn jf [],.fn jg [],.fn jh []]) P sm.z;have c2:=xV J false (by have:J.length<=16:=sm.j;omega);have fp:=tO P;have fpp:=Kn P;have fj:=jF J;have o1:=GB (sP P);have o2:=xX (eX J);unfold g7 rS l0;generalize cy=B at h1 ⊢;rw[show bq cQ 1000 B=bq [.fn lu [],.fn je [],.fn jf [],.fn jg [],.fn jh []] 1000 B from rfl]at h1;unfold cQ;generalize(sP P).map pD=A1 at c1 o1 ⊢;generalize(eX J).map jD=A2 at c2 o2 ⊢;generalize S.map zD=A3 at h1 ⊢;simp_arith [fkd,hc,fk,ok,qr,IC,Gv,h1,fp,fpp,c1,fj,c2,o1,o2]
theorem c30:wR 10 30:=by decide +kernel
theorem RB(m:Int)(h0:0<=m)(h1:m<2305843009213693951):∃n:Int,Num n/\nE [.int m]=.ok (.int n):=by
 have hs:=szl;have q:=c30;have hp:(0:Int)<10 ^ (30:Int).toNat:=by decide
 have b1:=eG (m*48271) (show(10 ^ (30:Int).toNat:Int)≠0 by decide);have b2:=dD (m*48271) hp;have b3:=eG (m*69621) (show(10 ^ (30:Int).toNat:Int)≠0 by decide);have b4:=dD (m*69621) hp;have ep:(10 ^ (30:Int).toNat:Int)=10 ^ 30:=rfl;have big:(8:Int)<10 ^ 30:=by decide
 have b7:=bZ (m / 6) (b:=7) (by decide);have n1:Num (m / 6%7-3):=⟨by omega,by omega⟩;have n2:Num (m*48271%10 ^ (30:Int).toNat):=⟨by rw[ep]at b1 b2 ⊢;omega,by rw[ep]at b2 ⊢;exact b2⟩;have n3:Num (-(m*69621%10 ^ (30:Int).toNat)):=⟨by rw[ep]at b4 ⊢;omega,by rw[ep]at b3 ⊢;omega⟩;unfold nE vI Bo;cases c1:(m%3==1)with
 |true=>
  cases c2:(m%6==2)with
  |true=>
   refine⟨_,n3,?_⟩;simp_arith [c1,c2,q]
  |false=>
   refine⟨_,n2,?_⟩;simp_arith [c1,c2,q]
 |false=>
  cases c2:(m%6==2)with
  |true=>
   refine⟨_,n3,?_⟩;simp_arith [c1,c2,q]
  |false=>
   refine⟨_,n1,?_⟩;simp_arith [c1,c2,q]
noncomputable def kZ(zs:List (List Nat×Int)):List Key:=zs.map fun z=>.inr (strOf z.1)
noncomputable def vZ(zs:List (List Nat×Int)):List D:=zs.map fun z=>.int z.2
noncomputable def An(zs:List (List Nat×Int))(w:List Nat)(n:Int):List (List Nat×Int):=if oB zs w=true then zs.map (fun z=>if z.1=w then(z.1,n)else z)else zs++[(w,n)]
theorem WW(zs:List (List Nat×Int))(w:List Nat):pU (kZ zs) (.inr (strOf w))=oB zs w:=by
 induction zs with
 |nil=>rfl
 |cons z r ih=>
  have e1:pU (kZ (z::r)) (.inr (strOf w))=(decide ((.inr (strOf z.1):Key)=.inr (strOf w))||pU (kZ r) (.inr (strOf w))):=rfl;have e2:oB (z::r) w=(decide (z.1=w)||oB r w):=rfl;rw[e1,e2,ih];congr 1;rw[eE,decide_eq_true_eq,decide_eq_true_eq];exact⟨fun e=>iL (l8 e),fun e=>by rw[e]⟩
theorem NJ(w:List Nat)(n:Int):∀zs:List (List Nat×Int),pV (kZ zs) (vZ zs) (.inr (strOf w)) (.int n)=vZ (zs.map fun z=>if z.1=w then(z.1,n)else z)/\kZ (zs.map fun z=>if z.1=w then(z.1,n)else z)=kZ zs
|[]=>⟨rfl,rfl⟩
|z::r=>by
 obtain⟨h1,h2⟩:=NJ w n r;have e1:pV (kZ (z::r)) (vZ (z::r)) (.inr (strOf w)) (.int n)=(if(.inr (strOf z.1):Key)=.inr (strOf w)then D.int n else .int z.2)::pV (kZ r) (vZ r) (.inr (strOf w)) (.int n):=rfl;rw[e1,h1];by_cases c:z.1=w
 ·rw[if_pos (by rw[c])];simp only[bD,if_pos c];exact⟨rfl,by show(.inr (strOf z.1):Key)::kZ _=_;rw[h2];rfl⟩
 ·rw[if_neg fun e=>c (iL (l8 e))];simp only[bD,if_neg c];exact⟨rfl,by show(.inr (strOf z.1):Key)::kZ _=_;rw[h2];rfl⟩
theorem Yp(zs:List (List Nat×Int))(w:List Nat)(n:Int)(hl:zs.length<=1000):putIn (.bY true (kZ zs) (vZ zs)) (.int n) (.str (strOf w))=some (.bY true (kZ (An zs w n)) (vZ (An zs w n))):=by
 have hs:=szl;have e:putIn (.bY true (kZ zs) (vZ zs)) (.int n) (.str (strOf w))=(if(kZ zs).length<aa then(if pU (kZ zs) (.inr (strOf w))=true then some (.bY true (kZ zs) (pV (kZ zs) (vZ zs) (.inr (strOf w)) (.int n)))else some (.bY true (kZ zs++[.inr (strOf w)]) (vZ zs++[.int n])))else none):=rfl;rw[e,if_pos (by unfold kZ;rw[ah];omega),WW];unfold An;cases c:oB zs w with
 |true=>
  rw[if_pos rfl,if_pos rfl];obtain⟨h1,h2⟩:=NJ w n zs;rw[h1,h2]
 |false=>
  rw[if_neg aR,if_neg aR];unfold kZ vZ;rw[a_,a_];rfl
def xY(zs:List (List Nat×Int)):Prop:=(zs.map (·.1)).Nodup/\∀z∈zs,isWord (strOf z.1)=true/\Num z.2
variable{n:Int}
theorem UQ{w:List Nat}(h:xY zs)(hw:isWord (strOf w)=true)(hn:Num n):xY (An zs w n)/\(An zs w n).length<=zs.length+1:=by
 obtain⟨h1,h2⟩:=h;unfold An;cases c:oB zs w with
 |true=>
  rw[if_pos rfl];refine⟨⟨?_,fun z hz=>?_⟩,by rw[ah];omega⟩
  ·rw[bK];have:((fun z:List Nat×Int=>z.1)∘fun z=>if z.1=w then(z.1,n)else z)=fun z=>z.1:=by
    funext z;show(if z.1=w then(z.1,n)else z).1=z.1;by_cases e:z.1=w
    ·rw[if_pos e]
    ·rw[if_neg e]
   rw[this];exact h1
  ·obtain⟨y,hy,rfl⟩:=aV.mp hz;by_cases e:y.1=w
   ·rw[if_pos e];exact⟨(h2 y hy).1,hn⟩
   ·rw[if_neg e];exact h2 y hy
 |false=>
  rw[if_neg aR];refine⟨⟨?_,fun z hz=>?_⟩,by simp⟩
  ·rw[a_,a6];refine⟨h1,by simp,fun a ha b hb e=>?_⟩;simp at hb;obtain⟨y,hy,rfl⟩:=aV.mp ha;unfold oB at c;rw[fq]at c;exact c y hy (by simp;rw[e,hb])
  ·rcases aD.mp hz with q|q
   ·exact h2 z q
   ·rw[aM.mp q];exact⟨hw,hn⟩
noncomputable def gI(p:P2):D:=.tup [wD p.1,.pdc (kZ p.2) (vZ p.2)]
theorem WX{n k:Nat}{r:bW}{O:bf}{ks:List Key}{xs:List D}(h:O[k]?=some (some (.bY true ks xs))):bq Y n (.pin k r) O=bq Y n r (O.set k (some (.pdc ks (aA xs)))):=by
 show(match O[k]? with|some (some (.bY true ks xs))=>bq Y n r (O.set k (some (.pdc ks (aA xs))))|_=>.bad)=_;rw[h]
theorem vP(zs:List (List Nat×Int)):aA (vZ zs)=vZ zs:=c8 _ (fun _=>rfl) zs
theorem Kp(a b d:Option D)(s k:Int)(hs0:0<=s)(m:Int)(h0:0<=m)(h1:m<2305843009213693951)(zs:List (List Nat×Int))(hz:xY zs)(hl:zs.length<=1000)(t:Nat)(ht:t<5):∃zs',xY zs'/\zs'.length<=zs.length+1 /\
  bq lB 1000 iS [a,b,some (.int s),d,some (.int k),some (.int m),some (.bY true (kZ zs) (vZ zs)),some (.int (t:Int))]=.nx [a,b,some (.int s),d,some (.int k),some (.int m),some (.bY true (kZ zs') (vZ zs')),some (.int (t:Int))]:=by
 have hs:=szl;have b9:=bZ (m / 5+(t:Int)*(1+m / 50%3)) (b:=9) (by decide);obtain⟨j,hj,ej⟩:∃j:Nat,j<25/\16+(m / 5+(t:Int)*(1+m / 50%3))%9=(j:Int):=⟨(16+(m / 5+(t:Int)*(1+m / 50%3))%9).toNat,by omega,by omega⟩;have qn:iU [.int (j:Int),.int (s / 3)]=.ok (.str (strOf (dQ j (s / 3)))):=Bs j (s / 3) hj (by omega);have hd:(0:Int)<11+(t:Int):=by omega
 have hq0:0<=m / (11+(t:Int)):=Int.ediv_nonneg h0 (by omega);have hq1:m / (11+(t:Int))<=m:=Int.ediv_le_self _ h0;obtain⟨n,hn,qm⟩:=RB (m / (11+(t:Int))) hq0 (by omega);obtain⟨p1,p2⟩:=UQ hz (tN j (s / 3)) hn;refine⟨An zs (dQ j (s / 3)) n,p1,p2,?_⟩;have hput:=Yp zs (dQ j (s / 3)) n hl;have b3:=bZ (m / 50) (b:=3) (by decide);unfold iS lB;simp_arith -implicitDefEqProofs [qm,ej,qn];rw[DA rfl rfl hput];simp_arith []
structure WY (s:Int) (n:Nat) (P:List P2):Prop where
 k:∀p∈P,∃i,i<n/\p.1=dQ i s
 z:∀p∈P,xY p.2/\p.2.length<=4
theorem By(P:List P2):aA (P.map gI)=P.map gI:=c8 gI (fun p=>by
 show D.tup [wD p.1,.pdc (kZ p.2) (aA (vZ p.2))]=_;rw[vP];rfl) P
theorem UR(s:Int)(hs0:0<=s)(up:List (Option Nat))(hu:0<up.length)(hu2:up.length<=24)(cells:List Int)(hc:cells.length<=24):∃P:List P2,WY s up.length P/\P.length=cells.length/\o9 [.lst false (gz s up),.lst false (cells.map D.int),.int s]=.ok (.lst true (P.map gI)):=by
 have hs:=szl;obtain⟨ZV,h1,P,kv,mv,sv,tv,hP,hl,rfl⟩:=lI (g:=pG (.name 4)) (b:=bq lB 1000 nB) cells.length
  (fun k O=>∃(P:List P2) (kv mv sv tv:Option D),WY s up.length P/\P.length=k/\O=[some (.lst false (gz s up)),some (.lst false (cells.map D.int)),some (.int s),some (.lst true (P.map gI)),kv,mv,sv,tv]) (by
  rintro k hk O ⟨P,kv,mv,sv,tv,hP,hl,rfl⟩;have hat:eZ (cells.map D.int) (k:Int)=some (.int cells[k]):=gw (by rw[aX,aj hk];rfl);have qm:=yH cells[k] k 1414141414141414141 ⟨by omega,by omega⟩ ⟨by omega,by omega⟩;have m0:=eG ((cells[k]+(k:Int)*k+1)*1414141414141414141) (show(2305843009213693951:Int)≠0 by decide);have m1:=dD ((cells[k]+(k:Int)*k+1)*1414141414141414141) (show(0:Int)<2305843009213693951 by decide);generalize(cells[k]+(k:Int)*k+1)*1414141414141414141%2305843009213693951=M at qm m0 m1;have b5:=bZ M (b:=5) (by decide);have rg:-(2 ^ 62)<=M%5/\(M%5).toNat<=aa:=by omega
  obtain⟨Z4,h1,zs,tv',hz,hzl,rfl⟩:=lI (g:=pG (.name 7)) (b:=bq lB 1000 iS) (M%5).toNat
   (fun t O=>∃(zs:List (List Nat×Int)) (tv':Option D),xY zs/\zs.length<=t/\O=[some (.lst false (gz s up)),some (.lst false (cells.map D.int)),some (.int s),some (.lst true (P.map gI)),some (.int k),some (.int M),some (.bY true (kZ zs) (vZ zs)),tv']) (by
   rintro t ht O ⟨zs,tv',hz,hzl,rfl⟩;obtain⟨zs',z1,z2,q⟩:=Kp (some (.lst false (gz s up))) (some (.lst false (cells.map D.int))) (some (.lst true (P.map gI))) s k hs0 M m0 m1 zs hz (by omega) t (by omega);exact⟨_,_,rfl,q,zs',_,z1,by omega,rfl⟩) [some (.lst false (gz s up)),some (.lst false (cells.map D.int)),some (.int s),some (.lst true (P.map gI)),some (.int k),some (.int M),some (.bY true [] []),tv] ⟨[],tv,⟨by simp,fun z hz=>absurd hz aJ⟩,by simp,rfl⟩
  have bu:=bZ (M / 7) (b:=(up.length:Int)) (by omega);have hat2:eZ (gz s up) (M / 7%(up.length:Int))=some (uU s (M / 7%(up.length:Int)).toNat (up[(M / 7%(up.length:Int)).toNat]'(by omega))):=by
   have:=gw (Ir s up (M / 7%(up.length:Int)).toNat (by omega));rw[show(((M / 7%(up.length:Int)).toNat:Nat):Int)=M / 7%(up.length:Int)by omega]at this;exact this
  have hPl:(P.map gI).length<aa:=by rw[ah];omega
  refine⟨_,[some (.lst false (gz s up)),some (.lst false (cells.map D.int)),some (.int s),some (.lst true ((P++[(dQ (M / 7%(up.length:Int)).toNat s,zs)]).map gI)),some (.int k),some (.int M),some (.pdc (kZ zs) (vZ zs)),tv'],rfl,?_,P++[(dQ (M / 7%(up.length:Int)).toNat s,zs)],_,_,_,_,⟨fun p hp=>?_,fun p hp=>?_⟩,by simp[hl],rfl⟩
  ·unfold nB;rw[show bq lB 1000 iS=bq [.fn iU [],.fn nE [],.fn jR []] 1000 iS from rfl]at h1;generalize iS=B at h1 ⊢;unfold lB;have fv:=vP zs;simp_arith -implicitDefEqProofs [hat,qm,fZ,h1];rw[WX rfl];simp_arith [vK,hat2,uU,wj,Iu,fv];rw[cB (xs:=P.map gI) rfl hPl rfl];simp_arith [vK,fv];rw[a_];rfl
  ·rcases aD.mp hp with q|q
   ·exact hP.k p q
   ·rw[aM.mp q];exact⟨_,by omega,rfl⟩
  ·rcases aD.mp hp with q|q
   ·exact hP.z p q
   ·rw[aM.mp q];exact⟨hz,by show zs.length<=4;omega⟩) [some (.lst false (gz s up)),some (.lst false (cells.map D.int)),some (.int s),some (.lst true []),none,none,none,none] ⟨[],none,none,none,none,⟨fun p hp=>absurd hp aJ,fun p hp=>absurd hp aJ⟩,rfl,rfl⟩
 refine⟨P,hP,hl,?_⟩;unfold o9 xH;generalize nB=B at h1 ⊢;simp_arith [vK,fZ,ah,iy,h1]
theorem WZ{i c:Int}(h0:0<=i)(h1:i<n)(h2:0<=c)(h3:c<n-1):(i+1+c)%n≠i/\0<=(i+1+c)%n/\(i+1+c)%n<n:=by
 have hn:0<n:=by omega
 refine⟨?_,eG _ (by omega),dD _ hn⟩;by_cases h:i+1+c<n
 ·rw[yX (by omega) h];omega
 ·have e:(i+1+c)%n=(i+1+c-n)%n:=by rw[Int.sub_emod_right]
  rw[e,yX (by omega) (by omega)];omega
theorem US{J:List J3}(h:oE J j=false):j∉J:=fun hj=>by
 unfold oE at h;rw[fq]at h;exact h j hj (by simp)
structure NK (s:Int) (n:Nat) (J:List J3):Prop where
 nd:J.Nodup
 k:∀j∈J,(∃a,a<25/\j.1=dQ a s)/\j.2.1≠j.2.2/\(okN n j.2.1&&okN n j.2.2)=true
theorem Kq(s:Int)(hs0:0<=s)(n:Nat)(hn:n<=100)(cells:List Int)(hc:cells.length<=24)(k:Nat)(hk:k<cells.length)(J:List J3)(hJ:NK (s / 5) n J)(hl:J.length<=k)(a b c d e:Option D) :
  ∃J' m' i' j' o',NK (s / 5) n J'/\J'.length<=k+1/\bq tG 1000 k_ [some (.int (n:Int)),some (.lst false (cells.map D.int)),some (.int s),some (.lst true (J.map jD)),some (.int (k:Int)),b,c,d,e]=.nx [some (.int (n:Int)),some (.lst false (cells.map D.int)),some (.int s),some (.lst true (J'.map jD)),some (.int (k:Int)),m',i',j',o']:=by
 have hs:=szl;have hat:eZ (cells.map D.int) (k:Int)=some (.int cells[k]):=gw (by rw[aX,aj hk];rfl);have qm:=yH cells[k] k 1515151515151515151 ⟨by omega,by omega⟩ ⟨by omega,by omega⟩;have m0:=eG ((cells[k]+(k:Int)*k+1)*1515151515151515151) (show(2305843009213693951:Int)≠0 by decide);have m1:=dD ((cells[k]+(k:Int)*k+1)*1515151515151515151) (show(0:Int)<2305843009213693951 by decide);generalize(cells[k]+(k:Int)*k+1)*1515151515151515151%2305843009213693951=M at qm m0 m1;have b3:=bZ (M / 100) (b:=3) (by decide);obtain⟨w,hw,ew⟩:∃w:Nat,w<25/\M / 100%3=(w:Int):=⟨(M / 100%3).toNat,by omega,by omega⟩;have qn:iU [.int (w:Int),.int (s / 5)]=.ok (.str (strOf (dQ w (s / 5)))):=Bs w (s / 5) hw (by omega);unfold k_ tG;by_cases c1:(n:Int)>1
 ·have g1:(if(n:Int)>1 then(n:Int)else 1)=(n:Int):=if_pos c1;have g2:(if(n:Int)-1>1 then(n:Int)-1 else 1)=(n:Int)-1:=by
   by_cases h:(n:Int)-1>1
   ·rw[if_pos h]
   ·rw[if_neg h];omega
  have g3:=decide_eq_true c1;have bi:=bZ M (b:=(n:Int)) (by omega);have bc:=bZ (M / 9) (b:=(n:Int)-1) (by omega);obtain⟨j1,j2,j3⟩:=WZ bi.1 bi.2 bc.1 bc.2;have hin:∀o,cL .NotIn (.tup [.str (strOf (dQ w (s / 5))),.int (M%n),.int ((M%n+1+M / 9%((n:Int)-1))%n)]) (.lst o (J.map jD))=.ok (.bl (!oE J (dQ w (s / 5),M%n,(M%n+1+M / 9%((n:Int)-1))%n))):=fun o=>by
   rw[uo rfl (Sz J)];exact congrArg (fun b=>R.ok (D.bl (!b))) (Nr J (dQ w (s / 5),M%n,(M%n+1+M / 9%((n:Int)-1))%n))
  have fj:=jF J;have hJl:(J.map jD).length<aa:=by rw[ah];omega
  cases hm:oE J (dQ w (s / 5),M%n,(M%n+1+M / 9%((n:Int)-1))%n)with
  |true=>
   refine⟨J,some (.int M),some (.int (M%n)),some (.int ((M%n+1+M / 9%((n:Int)-1))%n)),some (.tup [.str (strOf (dQ w (s / 5))),.int (M%n),.int ((M%n+1+M / 9%((n:Int)-1))%n)]),hJ,by omega,?_⟩;simp_arith -implicitDefEqProofs [hat,qm,fZ,g1,g2,g3,ew,qn,fj,hin,hm]
  |false=>
   refine⟨J++[(dQ w (s / 5),M%n,(M%n+1+M / 9%((n:Int)-1))%n)],some (.int M),some (.int (M%n)),some (.int ((M%n+1+M / 9%((n:Int)-1))%n)),some (.tup [.str (strOf (dQ w (s / 5))),.int (M%n),.int ((M%n+1+M / 9%((n:Int)-1))%n)]),⟨?_,fun j hj=>?_⟩,by simp;omega,?_⟩
   ·rw[a6];refine⟨hJ.nd,by simp,fun x hx y hy z=>?_⟩;rw[aM.mp hy]at z;rw[z]at hx;exact US hm hx
   ·rcases aD.mp hj with q|q
    ·exact hJ.k j q
    ·rw[aM.mp q];refine⟨⟨w,hw,rfl⟩,fun z=>j1 z.symm,?_⟩;show(okN n (M%n)&&okN n ((M%n+1+M / 9%((n:Int)-1))%n))=true;unfold okN;simp[bi.1,bi.2,j2,j3]
   ·rw[a_];simp_arith -implicitDefEqProofs [hat,qm,fZ,g1,g2,g3,ew,qn,fj,hin,hm];rw[cB (xs:=J.map jD) rfl hJl rfl];simp_arith [];rfl
 ·have g1:(if(n:Int)>1 then(n:Int)else 1)=1:=if_neg c1;have g2:(if(n:Int)-1>1 then(n:Int)-1 else 1)=1:=if_neg (by omega);have g3:=decide_eq_false c1;refine⟨J,some (.int M),some (.int (M%1)),some (.int ((M%1+1+M / 9%1)%1)),some (.tup [.str (strOf (dQ w (s / 5))),.int (M%1),.int ((M%1+1+M / 9%1)%1)]),hJ,by omega,?_⟩;simp_arith -implicitDefEqProofs [hat,qm,fZ,g1,g2,g3,ew,qn]
theorem UT(s:Int)(hs0:0<=s)(n:Nat)(hn:n<=100)(cells:List Int)(hc:cells.length<=24):∃J:List J3,NK (s / 5) n J/\J.length<=cells.length/\o8 [.int (n:Int),.lst false (cells.map D.int),.int s]=.ok (.lst true (J.map jD)):=by
 have hs:=szl;obtain⟨ZV,h1,J,kv,mv,iv,jv,ov,hJ,hl,rfl⟩:=lI (g:=pG (.name 4)) (b:=bq tG 1000 k_) cells.length
  (fun k O=>∃(J:List J3) (kv mv iv jv ov:Option D),NK (s / 5) n J/\J.length<=k/\O=[some (.int (n:Int)),some (.lst false (cells.map D.int)),some (.int s),some (.lst true (J.map jD)),kv,mv,iv,jv,ov]) (by
  rintro k hk O ⟨J,kv,mv,iv,jv,ov,hJ,hl,rfl⟩;obtain⟨J',m',i',j',o',h1,h2,q⟩:=Kq s hs0 n hn cells hc k hk J hJ hl none mv iv jv ov;exact⟨_,_,rfl,q,J',_,_,_,_,_,h1,h2,rfl⟩) [some (.int (n:Int)),some (.lst false (cells.map D.int)),some (.int s),some (.lst true []),none,none,none,none,none] ⟨[],none,none,none,none,none,⟨by simp,fun j hj=>absurd hj aJ⟩,by simp,rfl⟩
 refine⟨J,hJ,hl,?_⟩;unfold o8 xJ;generalize k_=B at h1 ⊢;simp_arith [fZ,ah,iy,h1]
def W0(s:Int)(n:Nat)(S:List (List Nat×Int)):Prop:=∀z∈S,(∃a,a<25/\z.1=dQ a s)/\okN n z.2=true
theorem UU(s:Int)(hs0:0<=s)(n:Nat)(hn:n<=100)(cells:List Int)(hc:cells.length<=24):∃S:List (List Nat×Int),W0 (s / 7) n S/\S.length<=cells.length/\o7 [.int (n:Int),.lst false (cells.map D.int),.int s]=.ok (.lst true (S.map zD)):=by
 have hs:=szl;obtain⟨ZV,h1,S,kv,mv,hS,hl,rfl⟩:=lI (g:=pG (.name 4)) (b:=bq tF 1000 lq) cells.length
  (fun k O=>∃(S:List (List Nat×Int)) (kv mv:Option D),W0 (s / 7) n S/\S.length<=k/\O=[some (.int (n:Int)),some (.lst false (cells.map D.int)),some (.int s),some (.lst true (S.map zD)),kv,mv]) (by
  rintro k hk O ⟨S,kv,mv,hS,hl,rfl⟩;have hat:eZ (cells.map D.int) (k:Int)=some (.int cells[k]):=gw (by rw[aX,aj hk];rfl);have qm:=yH cells[k] k 1616161616161616161 ⟨by omega,by omega⟩ ⟨by omega,by omega⟩;have m0:=eG ((cells[k]+(k:Int)*k+1)*1616161616161616161) (show(2305843009213693951:Int)≠0 by decide);have m1:=dD ((cells[k]+(k:Int)*k+1)*1616161616161616161) (show(0:Int)<2305843009213693951 by decide);generalize(cells[k]+(k:Int)*k+1)*1616161616161616161%2305843009213693951=M at qm m0 m1;have b3:=bZ (M / 11) (b:=3) (by decide);obtain⟨w,hw,ew⟩:∃w:Nat,w<25/\M / 11%3=(w:Int):=⟨(M / 11%3).toNat,by omega,by omega⟩;have qn:iU [.int (w:Int),.int (s / 7)]=.ok (.str (strOf (dQ w (s / 7)))):=Bs w (s / 7) hw (by omega);have hSl:(S.map zD).length<aa:=by rw[ah];omega
  by_cases c1:(0:Int)<(n:Int)
  ·have g3:=decide_eq_true c1;have bi:=bZ M (b:=(n:Int)) (by omega);refine⟨_,[some (.int (n:Int)),some (.lst false (cells.map D.int)),some (.int s),some (.lst true ((S++[(dQ w (s / 7),M%n)]).map zD)),some (.int (k:Int)),some (.int M)],rfl,?_,S++[(dQ w (s / 7),M%n)],_,_,fun z hz=>?_,by simp;omega,rfl⟩
   ·unfold lq tF;rw[a_];simp_arith -implicitDefEqProofs [hat,qm,fZ,g3,ew,qn];rw[cB (xs:=S.map zD) rfl hSl rfl];simp_arith [];rfl
   ·rcases aD.mp hz with q|q
    ·exact hS z q
    ·rw[aM.mp q];refine⟨⟨w,hw,rfl⟩,?_⟩;show okN n (M%n)=true;unfold okN;simp[bi.1,bi.2]
  ·have g3:=decide_eq_false c1;refine⟨_,[some (.int (n:Int)),some (.lst false (cells.map D.int)),some (.int s),some (.lst true (S.map zD)),some (.int (k:Int)),some (.int M)],rfl,?_,S,_,_,hS,by omega,rfl⟩;unfold lq tF;simp_arith -implicitDefEqProofs [hat,qm,fZ,g3]) [some (.int (n:Int)),some (.lst false (cells.map D.int)),some (.int s),some (.lst true []),none,none] ⟨[],none,none,fun z hz=>absurd hz aJ,by simp,rfl⟩
 refine⟨S,hS,hl,?_⟩;unfold o7 xK;generalize lq=B at h1 ⊢;simp_arith [fZ,ah,iy,h1]
theorem sf(n:Int):wD (cR n)=.str (dj n):=by
 show D.str ⟨(dj n).cps.toList.toArray⟩=_;rw[ko]
theorem CA(n:Int)(h:Num n):(dj n).length<=31:=by
 by_cases hn:0<=n
 ·obtain⟨m,rfl⟩:∃m:Nat,n=(m:Int):=⟨n.toNat,by omega⟩;have hm:m<10 ^ 30:=by
   have:=h.2;have:((10 ^ 30:Nat):Int)=10 ^ 30:=by decide
   omega
  rw[vL m hm,gk];have:=(nH 29 m hm).2.2.1;omega
 ·obtain⟨m,rfl,hp⟩:∃m:Nat,n=-(m:Int)/\0<m:=⟨(-n).toNat,by omega,by omega⟩;have hm:m<10 ^ 30:=by
   have:=h.1;have:((10 ^ 30:Nat):Int)=10 ^ 30:=by decide
   omega
  rw[vM m hp hm,gk];have:=(nH 29 m hm).2.2.1;simp;omega
theorem mW(n:Int)(h:Num n):gf .str [.int n]=.ok (.str (dj n)):=by
 have hs:=szl;have hl:=CA n h;have h1:n.natAbs<10 ^ 30:=by
  obtain⟨a,b⟩:=h;have:((10 ^ 30:Nat):Int)=10 ^ 30:=by decide
  omega
 have h2:n.natAbs.log2<1920:=by
  by_cases hz:n.natAbs=0
  ·rw[hz];decide
  ·exact(HM hz).mpr (bG h1 (by decide +kernel))
 show R.a9 (decide (n.natAbs.log2<1920)&&decide ((dj n).length<=aa)) (R.ok (D.str (dj n)))=_;rw[decide_eq_true h2,decide_eq_true (by omega)];rfl
theorem BA:∀(zs:List (List Nat×Int)) (z:List Nat×Int),(zs.map (·.1)).Nodup->z∈zs->kY (kZ zs) (vZ zs) (.inr (strOf z.1))=some (.int z.2)
|[],z,_,h=>absurd h aJ
|y::r,z,hn,h=>by
 have e:kY (kZ (y::r)) (vZ (y::r)) (.inr (strOf z.1))=if(.inr (strOf y.1):Key)=.inr (strOf z.1)then some (.int y.2)else kY (kZ r) (vZ r) (.inr (strOf z.1)):=rfl
 rw[e];rw[bD,bF]at hn;rcases aE.mp h with q|q
 ·subst q;rw[if_pos rfl]
 ·rw[if_neg fun c=>hn.1 (by rw[iL (l8 c)];exact gM q)];exact BA r z hn.2 q
noncomputable abbrev kE(as:List AR):D:=.lst true (as.map fun a=>gh a.row)
theorem rw_app(as:List AR)(a:AR):(as.map fun a=>gh a.row)++[gh a.row]=(as++[a]).map fun a=>gh a.row:=by rw[a_];rfl
theorem mX(r:List (List Nat)):aL (gh r)=true:=by
 have:=Gv [r];show aL (gh r)=true;have h:(aL (gh r)&&true)=true:=this;rwa[ie]at h
theorem SE(zs:List (List Nat×Int)):(kZ zs).map ee=zs.map fun z=>wD z.1:=by
 unfold kZ;rw[bK];rfl
theorem RC(a b c k x y:Option D)(p:P2)(hz:xY p.2)(hl:p.2.length<=4)(as:List AR)(ha:as.length<=1000)(w:Option D):∃w',forR (pG (.name 6)) (bq cH 1000 fh) ((kZ p.2).map ee) [a,b,c,some (kE as),k,some (.pdc (kZ p.2) (vZ p.2)),w,x,y]=.nx [a,b,c,some (kE (as++p.2.map .size)),k,some (.pdc (kZ p.2) (vZ p.2)),w',x,y]:=by
 have hs:=szl;rw[SE];obtain⟨ZV,h1,w',rfl⟩:=eO (g:=pG (.name 6)) (b:=bq cH 1000 fh) (fun z:List Nat×Int=>wD z.1) p.2
  (fun pre O=>∃w',O=[a,b,c,some (kE (as++pre.map .size)),k,some (.pdc (kZ p.2) (vZ p.2)),w',x,y]) (by
  rintro pre z post hx O ⟨w',rfl⟩;have hm:z∈p.2:=by rw[hx];simp
  have hpl:pre.length<=4:=by rw[hx]at hl;simp at hl;omega
  have qg:=BA p.2 z hz.1 hm;have qs:=mW z.2 (hz.2 z hm).2;have fv:=vP p.2;have hll:((as++pre.map AR.size).map fun a=>gh a.row).length<aa:=by simp;omega
  refine⟨_,_,rfl,?_,some (wD z.1),rfl⟩;unfold fh cH wD;simp_arith [qg,fv,qs,ET];have er:D.lst true [D.str (strOf fR),D.str (strOf z.1),D.str (dj z.2)]=gh (AR.size z).row:=by
   rw[<-sf];rfl
  rw[er,cB (xs:=(as++pre.map AR.size).map fun a=>gh a.row) rfl hll (by rw[mX];rfl),rw_app];have o1:=mX (AR.size z).row;simp_arith [o1];rw[show as++sL AR.size (pre++[z])=(as++pre.map AR.size)++[.size z]by simp]) [a,b,c,some (kE as),k,some (.pdc (kZ p.2) (vZ p.2)),w,x,y] ⟨w,by simp⟩
 exact⟨w',h1⟩
theorem RD(a b c x y:Option D)(P:List P2)(hz:∀p∈P,xY p.2/\p.2.length<=4)(hl:P.length<=24)(k d w:Option D):∃k' d' w',forR (pG (.tup (.cons (.name 4) (.cons (.name 5) .nil)))) (bq cH 1000 iw) (P.map gI) [a,b,c,some (kE []),k,d,w,x,y]=.nx [a,b,c,some (kE (P.flatMap aT)),k',d',w',x,y]:=by
 have hs:=szl;obtain⟨ZV,h1,k',d',w',hll,rfl⟩:=eO (g:=pG (.tup (.cons (.name 4) (.cons (.name 5) .nil)))) (b:=bq cH 1000 iw) gI P
  (fun pre O=>∃k' d' w',(pre.flatMap aT).length<=5*pre.length/\O=[a,b,c,some (kE (pre.flatMap aT)),k',d',w',x,y]) (by
  rintro pre p post hx O ⟨k',d',w',hll,rfl⟩;have hm:p∈P:=by rw[hx];simp
  have hpl:pre.length<=23:=by rw[hx]at hl;simp at hl;omega
  obtain⟨z1,z2⟩:=hz p hm;have hlt:((pre.flatMap aT).map fun a=>gh a.row).length<aa:=by rw[ah];omega
  obtain⟨w2,q⟩:=RC a b c (some (wD p.1)) x y p z1 z2 (pre.flatMap aT++[.part p.1]) (by simp only[az,bU];omega) w';have e1:(pre++[p]).flatMap aT=pre.flatMap aT++[.part p.1]++p.2.map .size:=by
   rw[wM];show pre.flatMap aT++(aT p++[])=_;rw[bI];show pre.flatMap aT++(.part p.1::p.2.map .size)=_;simp
  refine⟨[a,b,c,some (kE (pre.flatMap aT)),some (wD p.1),some (.pdc (kZ p.2) (vZ p.2)),w',x,y],[a,b,c,some (kE ((pre++[p]).flatMap aT)),some (wD p.1),some (.pdc (kZ p.2) (vZ p.2)),w2,x,y],?_,?_,_,_,_,?_,rfl⟩
  ·unfold gI;simp_arith []
  ·unfold iw;rw[show bq cH 1000 fh=bq [] 1000 fh from rfl]at q;generalize fh=B at q ⊢;unfold cH wD;simp_arith [Bv];have er:D.lst true [D.str (strOf gc),D.str (strOf p.1)]=gh (AR.part p.1).row:=rfl;have o1:=mX (AR.part p.1).row;rw[er,cB (xs:=(pre.flatMap aT).map fun a=>gh a.row) rfl hlt (by rw[o1];rfl),rw_app];simp_arith [o1];rw[Dy rfl];rw[e1];have q:forR (pG (.name 6)) (bq [] 1000 B) ((kZ p.2).map ee) [a,b,c,some (kE (pre.flatMap aT++[.part p.1])),some (.str (strOf p.1)),some (.pdc (kZ p.2) (vZ p.2)),w',x,y]=.nx [a,b,c,some (kE (pre.flatMap aT++[.part p.1]++p.2.map .size)),some (.str (strOf p.1)),some (.pdc (kZ p.2) (vZ p.2)),w2,x,y]:=q;rw[q];simp_arith []
  ·rw[e1];simp only[az,bU,ah];omega) [a,b,c,some (kE []),k,d,w,x,y] ⟨k,d,w,by simp,rfl⟩
 exact⟨k',d',w',h1⟩
theorem RE(a b c k d:Option D)(J:List J3)(hj:∀j∈J,Num j.2.1/\Num j.2.2)(hl:J.length<=24)(as:List AR)(ha:as.length<=1000)(w x y:Option D):∃w' x' y',forR (pG (.tup (.cons (.name 6) (.cons (.name 7) (.cons (.name 8) .nil))))) (bq cH 1000 iu) (J.map jD) [a,b,c,some (kE as),k,d,w,x,y]=.nx [a,b,c,some (kE (as++J.map .join)),k,d,w',x',y']:=by
 have hs:=szl;obtain⟨ZV,h1,w',x',y',rfl⟩:=eO (g:=pG (.tup (.cons (.name 6) (.cons (.name 7) (.cons (.name 8) .nil))))) (b:=bq cH 1000 iu) jD J
  (fun pre O=>∃w' x' y',O=[a,b,c,some (kE (as++pre.map .join)),k,d,w',x',y']) (by
  rintro pre j post hx O ⟨w',x',y',rfl⟩;have hm:j∈J:=by rw[hx];simp
  have hpl:pre.length<=24:=by rw[hx]at hl;simp at hl;omega
  have q1:=mW j.2.1 (hj j hm).1;have q2:=mW j.2.2 (hj j hm).2;have hll:((as++pre.map AR.join).map fun a=>gh a.row).length<aa:=by simp;omega
  refine⟨[a,b,c,some (kE (as++pre.map .join)),k,d,some (wD j.1),some (.int j.2.1),some (.int j.2.2)],[a,b,c,some (kE (as++(pre++[j]).map .join)),k,d,some (wD j.1),some (.int j.2.1),some (.int j.2.2)],?_,?_,_,_,_,rfl⟩
  ·unfold jD;simp_arith []
  ·unfold iu cH wD;simp_arith [q1,q2,Kc];have er:D.lst true [D.str (strOf dW),D.str (strOf j.1),D.str (dj j.2.1),D.str (dj j.2.2)]=gh (AR.join j).row:=by
    rw[<-sf,<-sf];rfl
   have o1:=mX (AR.join j).row;rw[er,cB (xs:=(as++pre.map AR.join).map fun a=>gh a.row) rfl hll (by rw[o1];rfl),rw_app];simp_arith [o1];rw[show as++sL AR.join (pre++[j])=(as++pre.map AR.join)++[.join j]by simp]) [a,b,c,some (kE as),k,d,w,x,y] ⟨w,x,y,by simp⟩
 exact⟨w',x',y',h1⟩
theorem RG(a b c k d y:Option D)(S:List (List Nat×Int))(hj:∀z∈S,Num z.2)(hl:S.length<=24)(as:List AR)(ha:as.length<=1000)(w x:Option D):∃w' x',forR (pG (.tup (.cons (.name 6) (.cons (.name 7) .nil)))) (bq cH 1000 ir) (S.map zD) [a,b,c,some (kE as),k,d,w,x,y]=.nx [a,b,c,some (kE (as++S.map .step)),k,d,w',x',y]:=by
 have hs:=szl;obtain⟨ZV,h1,w',x',rfl⟩:=eO (g:=pG (.tup (.cons (.name 6) (.cons (.name 7) .nil)))) (b:=bq cH 1000 ir) zD S
  (fun pre O=>∃w' x',O=[a,b,c,some (kE (as++pre.map .step)),k,d,w',x',y]) (by
  rintro pre j post hx O ⟨w',x',rfl⟩;have hm:j∈S:=by rw[hx];simp
  have hpl:pre.length<=24:=by rw[hx]at hl;simp at hl;omega
  have q1:=mW j.2 (hj j hm);have hll:((as++pre.map AR.step).map fun a=>gh a.row).length<aa:=by simp;omega
  refine⟨[a,b,c,some (kE (as++pre.map .step)),k,d,some (wD j.1),some (.int j.2),y],[a,b,c,some (kE (as++(pre++[j]).map .step)),k,d,some (wD j.1),some (.int j.2),y],?_,?_,_,_,rfl⟩
  ·unfold zD;simp_arith []
  ·unfold ir cH wD;simp_arith [q1,SA];have er:D.lst true [D.str (strOf eW),D.str (strOf j.1),D.str (dj j.2)]=gh (AR.step j).row:=by
    rw[<-sf];rfl
   have o1:=mX (AR.step j).row;rw[er,cB (xs:=(as++pre.map AR.step).map fun a=>gh a.row) rfl hll (by rw[o1];rfl),rw_app];simp_arith [o1];rw[show as++sL AR.step (pre++[j])=(as++pre.map AR.step)++[.step j]by simp]) [a,b,c,some (kE as),k,d,w,x,y] ⟨w,x,by simp⟩
 exact⟨w',x',h1⟩
theorem GC(P:List P2)(J:List J3)(S:List (List Nat×Int))(hz:∀p∈P,xY p.2/\p.2.length<=4)(hP:P.length<=24)(hj:∀j∈J,Num j.2.1/\Num j.2.2)(hJ:J.length<=24)(hs:∀z∈S,Num z.2)(hS:S.length<=24):jS [.lst false (P.map gI),.lst false (J.map jD),.lst false (S.map zD)]=.ok (kE (bP P J S)):=by
 have pl:(P.flatMap aT).length<=5*P.length:=by
  clear hP;induction P with
  |nil=>simp
  |cons p r ih=>
   rw[lV,az,bz];have:=ih fun q hq=>hz q (ai _ hq);have:=(hz p ao).2;have e:(aT p).length=p.2.length+1:=by unfold aT;simp
   omega
 obtain⟨k1,d1,w1,q1⟩:=RD (some (.lst false (P.map gI))) (some (.lst false (J.map jD))) (some (.lst false (S.map zD))) none none P hz hP none none none;obtain⟨w2,x2,y2,q2⟩:=RE (some (.lst false (P.map gI))) (some (.lst false (J.map jD))) (some (.lst false (S.map zD))) k1 d1 J hj hJ (P.flatMap aT) (by omega) w1 none none;obtain⟨w3,x3,q3⟩:=RG (some (.lst false (P.map gI))) (some (.lst false (J.map jD))) (some (.lst false (S.map zD))) k1 d1 y2 S hs hS (P.flatMap aT++J.map .join) (by simp only[az,ah];omega) w2 x2;have e:P.flatMap aT++J.map AR.join++S.map AR.step=bP P J S:=by unfold bP;rw[bS]
 rw[e]at q3;have own:bM ((bP P J S).map fun a=>gh a.row)=true:=jU _ fun d hd=>by
  obtain⟨a,_,rfl⟩:=aV.mp hd;exact mX _
 unfold jS oA;rw[show cH=[]from rfl]at q1 q2 q3 ⊢;generalize iw=B4 at q1 ⊢;generalize iu=B2 at q2 ⊢;generalize ir=B1 at q3 ⊢;have fp:=By P;have fj:=jF J;have fs:=iB S;have q1:forR (pG (.tup (.cons (.name 4) (.cons (.name 5) .nil)))) (bq [] 1000 B4) (P.map gI) [some (.lst false (P.map gI)),some (.lst false (J.map jD)),some (.lst false (S.map zD)),some (.lst true []),none,none,none,none,none]=_:=q1;simp_arith [fp,fj,fs,q1,q2,q3,own]
theorem GD(zs:List (List Nat×Int)):gf .list [.pdc (kZ zs) (vZ zs)]=.ok (.lst true (zs.map fun z=>wD z.1)):=by
 rw[<-SE];rfl
theorem EW(zs:List (List Nat×Int)):aA (zs.map fun z=>wD z.1)=zs.map fun z=>wD z.1:=c8 _ (fun _=>rfl) zs
theorem NL(zs:List (List Nat×Int)):bM (zs.map fun z=>wD z.1)=true:=jU _ fun d hd=>by
 obtain⟨z,_,rfl⟩:=aV.mp hd;rfl
theorem RH(zs:List (List Nat×Int))(hn:(zs.map (·.1)).Nodup):eK (pG (.name 0)) (fun _=>.ok true) (pE Y (.tup (.cons (.var 0) (.cons (.ix (.var 1) (.var 0)) .nil)))) ((gp zs).map fun z=>wD z.1) [none,some (.pdc (kZ zs) (vZ zs))]=.ok ((gp zs).map zD):=by
 refine fB (fun z:List Nat×Int=>wD z.1) (fun O=>∃a,O=[a,some (.pdc (kZ zs) (vZ zs))]) zD (gp zs) _ ⟨none,rfl⟩ ?_;rintro z hz O ⟨a,rfl⟩;have hs:=szl;have q:=BA zs z hn (Am.mp hz);have fv:=vP zs;refine⟨[some (wD z.1),some (.pdc (kZ zs) (vZ zs))],rfl,⟨_,rfl⟩,?_⟩;unfold zD wD;simp_arith [q,fv]
theorem Yq(P:List P2)(J:List J3)(S:List (List Nat×Int))(hz:∀p∈P,xY p.2/\p.2.length<=4)(hP:P.length<=24)(hJ:J.length<=24):qU [.lst false (P.map gI),.lst false (J.map jD),.lst false (S.map zD)]=.ok (l0 (sP P) (eX J) S):=by
 have hs:=szl;obtain⟨ZV,h1,k',d',rfl⟩:=eO (g:=pG (.tup (.cons (.name 4) (.cons (.name 5) .nil)))) (b:=bq yG 1000 qK) gI P
  (fun pre O=>∃k' d',O=[some (.lst false (P.map gI)),some (.lst false (J.map jD)),some (.lst false (S.map zD)),some (.lst true ((sP pre).map pD)),k',d']) (by
  rintro pre p post hx O ⟨k',d',rfl⟩;have hm:p∈P:=by rw[hx];simp
  have hpl:pre.length<=23:=by rw[hx]at hP;simp at hP;omega
  obtain⟨z1,z2⟩:=hz p hm;have q1:=GD p.2;have q2:=Ed p.2 true (by omega) z1.1;have q3:=RH (Y:=[]) p.2 z1.1;have f1:=EW p.2;have f2:=EW (gp p.2);have o2:=NL (gp p.2);have o3:=xW (gp p.2);have fv:=vP p.2;refine⟨[some (.lst false (P.map gI)),some (.lst false (J.map jD)),some (.lst false (S.map zD)),some (.lst true ((sP pre).map pD)),some (wD p.1),some (.pdc (kZ p.2) (vZ p.2))],[some (.lst false (P.map gI)),some (.lst false (J.map jD)),some (.lst false (S.map zD)),some (.lst true ((sP (pre++[p])).map pD)),some (wD p.1),some (.pdc (kZ p.2) (vZ p.2))],?_,?_,_,_,rfl⟩
  ·unfold gI;simp_arith []
  ·have e:(sP (pre++[p])).map pD=(sP pre).map pD++[.tup [wD p.1,.lst true ((gp p.2).map zD)]]:=by unfold sP;simp;rfl
   have hll:((sP pre).map pD).length<aa:=by unfold sP;simp;omega
   rw[e];generalize(sP pre).map pD=A at hll ⊢;unfold qK yG wD;generalize(gp p.2).map zD=Z at q3 o3 ⊢;simp_arith [fv,q1,q2,f1,f2,o2,q3,o3];rw[cB (xs:=A) rfl hll (by show((true&&(aL (.lst true Z)&&true))||_)=true;rw[show aL (.lst true Z)=bM Z from rfl,o3];rfl)];have o4:aL (.tup [.str (strOf p.1),.lst true Z])=true:=by show(true&&(aL (.lst true Z)&&true))=true;rw[show aL (.lst true Z)=bM Z from rfl,o3];rfl
   simp_arith [o4,o3]) [some (.lst false (P.map gI)),some (.lst false (J.map jD)),some (.lst false (S.map zD)),some (.lst true []),none,none] ⟨none,none,rfl⟩
 have c2:=xV J false (by omega);have fp:=By P;have fj:=jF J;have fs:=iB S;have o1:=GB (sP P);have o2:=xX (eX J);have o3:=xW S;unfold qU Cu l0;rw[show yG=[]from rfl]at h1 ⊢;generalize qK=B at h1 ⊢;generalize(sP P).map pD=A1 at h1 o1 ⊢;generalize(eX J).map jD=A2 at c2 o2 ⊢;simp_arith [fp,fj,fs,h1,c2,o1,o2,o3]
theorem all_true(l:List D):gf .all [.lst true (l.map fun _=>D.bl true)]=.ok (.bl true):=by
 have h1:(l.map fun _=>D.bl true).all qF=true:=by rw[jX];exact bH.mpr fun _ _=>rfl
 have h2:(l.map fun _=>D.bl true).all tB=true:=by rw[jX];exact bH.mpr fun _ _=>rfl
 show R.a9 ((l.map fun _=>D.bl true).all qF) (.ok (D.bl ((l.map fun _=>D.bl true).all tB)))=_;rw[h1,h2];rfl
theorem NN(l:List D)(h:∀d∈l,∃xs,d=.tup xs):eK (pG (.name 0)) (fun _=>.ok true) (pE Y (.isi (.var 0) .tuple)) l [none]=.ok (l.map fun _=>D.bl true):=by
 have:=fB (g:=pG (.name 0)) (e:=pE Y (.isi (.var 0) .tuple)) (fun d:D=>d) (fun O=>∃a,O=[a]) (fun _=>D.bl true) l [none] ⟨none,rfl⟩ ?_
 ·rw[sQ]at this;exact this
 ·rintro d hd O ⟨a,rfl⟩;obtain⟨xs,rfl⟩:=h d hd;exact⟨_,rfl,⟨_,rfl⟩,rfl⟩
theorem RI(P:List P2)(J:List J3)(S:List (List Nat×Int))(hJ:J.length<=24)(hS:S.length<=24):lG [br (l0 P J S)]=.ok (.bl true):=by
 have hs:=szl;have fp:=tO P;have fp':=Kn P;have fj:=jF J;have fs:=iB S;have e:br (l0 P J S)=.tup [.lst false (P.map pF),.lst false (J.map jD),.lst false (S.map zD)]:=by
  show D.tup [.lst false (aA (P.map pD)),.lst false (aA (J.map jD)),.lst false (aA (S.map zD))]=_;rw[fp,fj,fs]
 rw[e];obtain⟨ZV,h1,k',rfl⟩:=eO (g:=pG (.name 1)) (b:=bq qM 1000 mD) pF P
  (fun pre O=>∃k',O=[some (.tup [.lst false (P.map pF),.lst false (J.map jD),.lst false (S.map zD)]),k']) (by
  rintro pre p post hx O ⟨k',rfl⟩;have fz:=iB p.2;refine⟨[some (.tup [.lst false (P.map pF),.lst false (J.map jD),.lst false (S.map zD)]),some (pF p)],_,rfl,?_,some (pF p),rfl⟩;unfold mD qM pF;simp_arith [fz,qd]) [some (.tup [.lst false (P.map pF),.lst false (J.map jD),.lst false (S.map zD)]),none] ⟨none,rfl⟩
 have c1:=NN (Y:=[]) (J.map jD++S.map zD) (fun d hd=>by
  rcases aD.mp hd with h|h
  ·obtain⟨j,_,rfl⟩:=aV.mp h;exact⟨_,rfl⟩
  ·obtain⟨j,_,rfl⟩:=aV.mp h;exact⟨_,rfl⟩)
 have a1:=all_true (J.map jD++S.map zD);have hc:eK (pG (.name 0)) (fun _=>.ok true) (pE [] (.isi (.var 0) .list)) [.lst false (P.map pF),.lst false (J.map jD),.lst false (S.map zD)] [none]=.ok [.bl true,.bl true,.bl true]:=rfl;have ha:gf .all [.lst true [.bl true,.bl true,.bl true]]=.ok (.bl true):=rfl;have fa:aA (J.map jD++S.map zD)=J.map jD++S.map zD:=by
  rw[<-sQ (J.map jD++S.map zD)];refine Cw _ fun d hd=>?_;rw[sQ]at hd;rcases aD.mp hd with h|h
  ·obtain⟨j,_,rfl⟩:=aV.mp h;rfl
  ·obtain⟨j,_,rfl⟩:=aV.mp h;rfl
 have hl:(J.map jD).length+(S.map zD).length<=aa:=by simp;omega
 unfold lG vJ;rw[show qM=[]from rfl]at h1 ⊢;generalize mD=B at h1 ⊢;generalize P.map pF=A1 at h1 fp' hc ⊢;generalize J.map jD=A2 at h1 fj c1 a1 fa hl hc ⊢;generalize S.map zD=A3 at h1 fs c1 a1 fa hl hc ⊢;simp_arith [fp',fj,fs,hc,ha,wj,qd,at2,h1,hl,fa,c1,a1]
end K2
end
section
namespace K2
open PySem L2 L3 Tr
open PySem.NumText
theorem int_text(n:Int)(h:Num n):intText? (dj n)=some n:=by
 by_cases hn:0<=n
 ·obtain⟨m,rfl⟩:∃m:Nat,n=(m:Int):=⟨n.toNat,by omega⟩;have hm:m<10 ^ 30:=by
   have:=h.2;have:((10 ^ 30:Nat):Int)=10 ^ 30:=by decide
   omega
  obtain⟨d1,d2,d3,d4,d5,d6⟩:=nH 29 m hm;have l1:(strOf (eV 29 m)).length=(eV 29 m).length:=gk _;rw[vL m hm,CV (x:=strOf (eV 29 m)) d1 d2 (by omega)];show some ((digitsVal (eV 29 m):Nat):Int)=_;rw[d4]
 ·obtain⟨m,rfl,hp⟩:∃m:Nat,n=-(m:Int)/\0<m:=⟨(-n).toNat,by omega,by omega⟩;have hm:m<10 ^ 30:=by
   have:=h.1;have:((10 ^ 30:Nat):Int)=10 ^ 30:=by decide
   omega
  obtain⟨d1,d2,d3,d4,d5,d6⟩:=nH 29 m hm;have l1:(strOf (45::eV 29 m)).length=(eV 29 m).length+1:=gk _;rw[vM m hp hm,HK (x:=strOf (45::eV 29 m)) rfl d1 d2 (by omega),d4]
theorem int_str(n:Int)(h:Num n):gf .int [.str (dj n)]=.ok (.int n):=by
 have hl:=CA n h;show R.a9 (decide ((dj n).length<=640)) ((R.opt (intText? (dj n))).bind fun n=>R.ok (D.int n))=_;rw[decide_eq_true (by omega),int_text n h];rfl
noncomputable def jO:List AR->List J3
|[]=>[]
|.join j::r=>j::jO r
|_::r=>jO r
noncomputable def sO:List AR->List (List Nat×Int)
|[]=>[]
|.step z::r=>z::sO r
|_::r=>sO r
theorem pe:∀a b:List AR,jO (a++b)=jO a++jO b
|[],b=>rfl
|.join j::r,b=>congrArg (j::·) (pe r b)
|.part _::r,b=>pe r b
|.size _::r,b=>pe r b
|.step _::r,b=>pe r b
theorem ph:∀a b:List AR,sO (a++b)=sO a++sO b
|[],b=>rfl
|.step j::r,b=>congrArg (j::·) (ph r b)
|.part _::r,b=>ph r b
|.size _::r,b=>ph r b
|.join _::r,b=>ph r b
theorem SG:∀J:List J3,jO (J.map .join)=J
|[]=>rfl
|j::r=>congrArg (j::·) (SG r)
theorem SH:∀S:List (List Nat×Int),jO (S.map .step)=[]
|[]=>rfl
|_::r=>SH r
theorem SI:∀J:List J3,sO (J.map .join)=[]
|[]=>rfl
|_::r=>SI r
theorem SJ:∀S:List (List Nat×Int),sO (S.map .step)=S
|[]=>rfl
|j::r=>congrArg (j::·) (SJ r)
noncomputable abbrev kg(J:List J3)(S:List (List Nat×Int)):List AR:=J.map .join++S.map .step
theorem IK(J:List J3)(S:List (List Nat×Int)):jO (kg J S)=J:=by rw[pe,SG,SH,bI]
theorem IL(J:List J3)(S:List (List Nat×Int)):sO (kg J S)=S:=by rw[ph,SI,SJ,kU]
noncomputable def AR.ns:AR->List Int
|.join j=>[j.2.1,j.2.2]
|.step z=>[z.2]
|_=>[]
variable{J:List J3}
theorem UW{j:J3}(h:j∉J):oE J j=false:=by
 unfold oE;rw[fq];intro x hx;have:x≠j:=fun z=>h (by rw[<-z];exact hx);simpa using this
variable{wk:List D}{P:List P2}{S:List (List Nat×Int)}{a:AR}
theorem UX(T:pZ wk P J S){done rest:List AR}(e:kg J S=done++a::rest)(Pc:List P2)(h:∀n∈a.ns,n<(Pc.length:Int)) :
  (St.mk Pc (jO done) (sO done)).ok wk a/\(St.mk Pc (jO done) (sO done)).put a=⟨Pc,jO (done++[a]),sO (done++[a])⟩/\(∀n∈a.ns,Num n/\n<(P.length:Int))/\((∃j,a=.join j)\/∃z,a=.step z):=by
 have hm:a∈kg J S:=by rw[e];simp
 have hJ:=IK J S;have hS:=IL J S;rw[e,pe]at hJ;rw[e,ph]at hS;have p8:(P.length:Int)<=8:=by have:=T.p8;omega
 rcases aD.mp hm with q|q
 ·obtain⟨j,hj,rfl⟩:=aV.mp q;obtain⟨k1,k2,k3⟩:=T.jk j hj;have hJ:jO done++j::jO rest=J:=hJ;have nd:=T.jl.2;have ln:=T.jl.1;rw[<-hJ]at nd ln;have h1:=h j.2.1 (by simp[AR.ns]);have h2:=h j.2.2 (by simp[AR.ns]);unfold okN at k3;simp only[aU,decide_eq_true_eq]at k3;refine⟨⟨k1,k2,?_,UW fun z=>?_,?_⟩,?_,?_,.inl ⟨j,rfl⟩⟩
  ·unfold okN;simp only[aU,decide_eq_true_eq];exact⟨⟨k3.1.1,h1⟩,k3.2.1,h2⟩
  ·exact(a6.mp nd).2.2 j z j ao rfl
  ·simp at ln;show(jO done).length<16;omega
  ·show St.mk Pc (jO done++[j]) (sO done)=_;rw[pe,ph];show _=St.mk Pc (jO done++[j]) (sO done++[]);rw[bI]
  ·intro n hn;have b:(8:Int)<10 ^ 30:=by decide
   rcases aE.mp hn with rfl|hn
   ·exact⟨⟨by omega,by omega⟩,by omega⟩
   ·rw[aM.mp hn];exact⟨⟨by omega,by omega⟩,by omega⟩
 ·obtain⟨z,hz,rfl⟩:=aV.mp q;obtain⟨k1,k3⟩:=T.sk z hz;have hS:sO done++z::sO rest=S:=hS;have ln:=T.sl;rw[<-hS]at ln;have h1:=h z.2 (by simp[AR.ns]);unfold okN at k3;simp only[aU,decide_eq_true_eq]at k3;refine⟨⟨k1,?_,?_⟩,?_,?_,.inr ⟨z,rfl⟩⟩
  ·unfold okN;simp only[aU,decide_eq_true_eq];exact⟨k3.1,h1⟩
  ·simp at ln;show(sO done).length<8;omega
  ·show St.mk Pc (jO done) (sO done++[z])=_;rw[pe,ph];show _=St.mk Pc (jO done++[]) (sO done++[z]);rw[bI]
  ·intro n hn;have b:(8:Int)<10 ^ 30:=by decide
   rw[aM.mp hn];exact⟨⟨by omega,by omega⟩,by omega⟩
structure tQ (wk:List D) (P:List P2) (J:List J3) (S:List (List Nat×Int)) (Pc:List P2) (laid late:List AR):Prop where
 v:Valid wk t0 laid
 e:∃done,kg J S=done++late/\t0.run laid=⟨Pc,jO done,sO done⟩
theorem uY(t:St)(as:List AR)(a:AR):t.run (as++[a])=(t.run as).put a:=by rw[uW];rfl
variable{t:St}
theorem Valid.snoc{as:List AR}(h:Valid wk t as)(h':(t.run as).ok wk a):Valid wk t (as++[a]):=Valid.app h ⟨h',trivial⟩
variable{laid late:List AR}
theorem tQ.take(T:pZ wk P J S){Pc:List P2}(M:tQ wk P J S Pc laid (a::late))(h:∀n∈a.ns,n<(Pc.length:Int)):tQ wk P J S Pc (laid++[a]) late:=by
 obtain⟨done,e1,e2⟩:=M.e;obtain⟨h1,h2,_⟩:=UX T e1 Pc h;refine⟨M.v.snoc (by rw[e2];exact h1),done++[a],by rw[e1];simp,?_⟩;rw[uY,e2,h2]
theorem tQ.rest(T:pZ wk P J S):∀{late laid:List AR},tQ wk P J S P laid late->Valid wk t0 (laid++late)/\t0.run (laid++late)=⟨P,J,S⟩
|[],laid,M=>by
 obtain⟨done,e1,e2⟩:=M.e;rw[bI]at e1 ⊢;rw[<-e1,IK,IL]at e2;exact⟨M.v,e2⟩
|a::late,laid,M=>by
 have h:∀n∈a.ns,n<(P.length:Int):=by
  obtain⟨done,e1,_⟩:=M.e;have hm:a∈kg J S:=by rw[e1];simp
  intro n hn;rcases aD.mp hm with q|q
  ·obtain⟨j,hj,rfl⟩:=aV.mp q;have k3:=(T.jk j hj).2.2;unfold okN at k3;simp only[aU,decide_eq_true_eq]at k3;rcases aE.mp hn with rfl|hn
   ·omega
   ·rw[aM.mp hn];omega
  ·obtain⟨z,hz,rfl⟩:=aV.mp q;have k3:=(T.sk z hz).2;unfold okN at k3;simp only[aU,decide_eq_true_eq]at k3;rw[aM.mp hn];omega
 have:=tQ.rest T (M.take T h);rw[bS]at this;exact this
noncomputable def AR.early:AR->Bool
|.part _=>true
|.size _=>true
|_=>false
theorem tQ.part(M:tQ wk P J S t.P laid late)(he:a.early=true)(h:t.ok wk a):tQ wk P J S (t.put a).P (laid++[a]) late:=by
 obtain⟨done,e1,e2⟩:=M.e;cases a with
 |part k=>exact⟨M.v.snoc (by rw[e2];exact h),done,e1,by rw[uY,e2];rfl⟩
 |size z=>exact⟨M.v.snoc (by rw[e2];exact h),done,e1,by rw[uY,e2];rfl⟩
 |join _=>cases he
 |step _=>cases he
end K2
end
section
namespace K2
open PySem L2 L3 Tr
noncomputable abbrev aZ(a:AR):D:=bX a.row
theorem oF(as:List AR):aA (as.map aZ)=as.map aZ:=c8 aZ (fun a=>kB a.row) as
variable{α:Type}
theorem Zw(x:α)(l:List α):cut (x::l) (some 1) none=l:=by
 show cut (x::l) (some ((1:Nat):Int)) none=_;unfold cut;rw[HT.n6,HT.rq,jm (by simp)];simp
theorem Zx(x y:α)(l:List α):cut (x::y::l) (some 2) none=l:=by
 show cut (x::y::l) (some ((2:Nat):Int)) none=_;unfold cut;rw[HT.n6,HT.rq,jm (by simp)];simp
variable{Y:List PG}
theorem NO(ns:List Int)(h:∀n∈ns,Num n):eK (pG (.name 0)) (fun _=>.ok true) (pE Y (.blt .int (.cons (.var 0) .nil))) (ns.map fun n=>D.str (dj n)) [none]=.ok (ns.map D.int):=by
 refine fB (fun n:Int=>D.str (dj n)) (fun O=>∃a,O=[a]) D.int ns _ ⟨none,rfl⟩ ?_;rintro n hn O ⟨a,rfl⟩;have q:=int_str n (h n hn);refine⟨[some (.str (dj n))],rfl,⟨_,rfl⟩,?_⟩;simp_arith [q]
variable{a:AR}
theorem RJ(hk:(∃j,a=.join j)\/∃z,a=.step z):∃x y,a.row.map wD=x::y::(a.ns.map fun n=>D.str (dj n))/\a.ns≠[]/\∃b:Int,EM true a.ns=.int b/\∀n∈a.ns,n<=b:=by
 rcases hk with⟨j,rfl⟩|⟨z,rfl⟩
 ·refine⟨wD dW,wD j.1,?_,by simp[AR.ns],_,rfl,fun n hn=>?_⟩
  ·show[wD dW,wD j.1,wD (cR j.2.1),wD (cR j.2.2)]=_;rw[sf,sf];rfl
  ·show n<=if(if true=true then j.2.1<j.2.2 else j.2.2<j.2.1)then j.2.2 else j.2.1
   have hn:n=j.2.1\/n=j.2.2:=by
    rcases aE.mp hn with h|h
    ·exact .inl h
    ·exact .inr (aM.mp h)
   by_cases c:j.2.1<j.2.2
   ·simp only[c,if_true];omega
   ·simp only[c,if_true,if_false];omega
 ·refine⟨wD eW,wD z.1,?_,by simp[AR.ns],z.2,rfl,fun n hn=>?_⟩
  ·show[wD eW,wD z.1,wD (cR z.2)]=_;rw[sf];rfl
  ·rw[aM.mp hn];exact HD _
noncomputable abbrev p5:CE:=.and (.cmp .Gt (.bin .Mod (.var 1) (.con (.int 3))) (.con (.int 0))) (.and (.cmp .Gt (.blt .len (.cons (.var 4) .nil)) (.con (.int 0))) (.cmp .Lt (.mx1 true (.comp ["_law_word"] [] (.blt .int (.cons (.var 0) .nil)) (.name 0) (.seq (.sl (.ix (.var 4) (.con (.int 0))) (.some (.con (.int 2))) .none)) .none)) (.var 2)))
noncomputable abbrev kO(A:Option D)(m told:Int)(laid late:List AR)(o:Bool)(r:Option D):bf:=[A,some (.int m),some (.int told),some (.lst true (laid.map aZ)),some (.lst o (late.map aZ)),r]
theorem W3(A r:Option D)(m told:Int)(laid:List AR)(o:Bool):pT [] p5 (kO A m told laid [] o r)=.ok false:=by
 by_cases h:0<m%3
 ·have g:=decide_eq_true h;have e:pT [] p5 (kO A m told laid [] o r)=if decide (0<m%3)=true then .ok false else .ok false:=by
   show pT [] p5 [A,some (.int m),some (.int told),some (.lst true (laid.map aZ)),some (.lst o []),r]=_;generalize laid.map aZ=B;simp_arith [g]
  rw[e];split<;>rfl
 ·have g:=decide_eq_false h;show pT [] p5 [A,some (.int m),some (.int told),some (.lst true (laid.map aZ)),some (.lst o []),r]=_;generalize laid.map aZ=B;simp_arith [g]
theorem W4(A r:Option D)(m told:Int)(laid late:List AR)(a:AR)(o:Bool)(hl:late.length<=100)(hk:(∃j,a=.join j)\/∃z,a=.step z)(hn:∀n∈a.ns,Num n):∃c,pT [] p5 (kO A m told laid (a::late) o r)=.ok c/\(c=true->∀n∈a.ns,n<told):=by
 by_cases h:0<m%3
 ·obtain⟨x,y,e1,e2,b,e3,e4⟩:=RJ hk;have g:=decide_eq_true h;have hs:=szl;have fl:=oF (a::late);have ll:((a::late).map aZ).length=late.length+1:=by simp
  have g2:decide ((0:Int)<(((a::late).map aZ).length:Int))=true:=decide_eq_true (by rw[ll];omega);have h0:eZ ((a::late).map aZ) 0=some (aZ a):=wj _ _;have fr:=kB a.row;have hc:=Zx x y (a.ns.map fun n=>D.str (dj n));have fn:aA (a.ns.map fun n=>D.str (dj n))=a.ns.map fun n=>D.str (dj n):=c8 _ (fun _=>rfl) _;have q:=NO (Y:=[]) a.ns hn;have fi:=fZ a.ns;have qm:∀o,Ce true (.lst o (a.ns.map D.int))=.ok (.int b):=fun o=>by
   have h1:((a.ns.map D.int).all jd&&!(a.ns.map D.int).isEmpty)=true:=by
    rw[all_ints];cases q:a.ns with
    |nil=>exact absurd q e2
    |cons _ _=>rfl
   rw[M1 h1,bK];rw[show a.ns.map (intD∘D.int)=a.ns from sQ _,e3]
  refine⟨decide (b<told),?_,fun z n hn=>by have:=of_decide_eq_true z;have:=e4 n hn;omega⟩;unfold aZ bX at h0 fr;rw[e1]at h0 fr;have fr:aA (x::y::a.ns.map fun n=>D.str (dj n))=x::y::a.ns.map fun n=>D.str (dj n):=congrArg (fun d:D=>match d with|.lst _ xs=>xs|_=>[]) fr;show pT [] p5 [A,some (.int m),some (.int told),some (.lst true (laid.map aZ)),some (.lst o ((a::late).map aZ)),r]=_;generalize laid.map aZ=B;unfold aZ bX at fl g2 ⊢;generalize(a::late).map (fun a=>D.lst false (a.row.map wD))=ZT at fl g2 h0 ⊢;generalize(a.ns.map fun n=>D.str (dj n))=N at hc fn q h0 fr ⊢;generalize a.ns.map D.int=I at q qm fi ⊢;simp_arith [g,fl,g2,h0,fr,hc,fn,q,fi,qm]
 ·refine⟨false,?_,fun z=>by cases z⟩;have g:=decide_eq_false h;show pT [] p5 [A,some (.int m),some (.int told),some (.lst true (laid.map aZ)),some (.lst o ((a::late).map aZ)),r]=_;generalize laid.map aZ=B;generalize(a::late).map aZ=ZT;simp_arith [g]
theorem W5(A r:Option D)(m told:Int)(laid late:List AR)(a:AR)(o:Bool)(hl:laid.length<=1000)(h2:late.length<=1000):bq [] 1000 fO (kO A m told laid (a::late) o r)=.nx (kO A m told (laid++[a]) late true r):=by
 have hs:=szl;have fl:=oF (a::late);have fl2:=oF late;have h0:eZ ((a::late).map aZ) 0=some (aZ a):=wj _ _;have hc:cut ((a::late).map aZ) (some 1) none=late.map aZ:=Zw _ _;have fr:=kB a.row;have on:=yI a.row;have e:(laid++[a]).map aZ=laid.map aZ++[aZ a]:=by rw[a_];rfl
 have hll:(laid.map aZ).length<aa:=by rw[ah];omega
 show bq [] 1000 fO [A,some (.int m),some (.int told),some (.lst true (laid.map aZ)),some (.lst o ((a::late).map aZ)),r]=.nx [A,some (.int m),some (.int told),some (.lst true ((laid++[a]).map aZ)),some (.lst true (late.map aZ)),r];rw[e];unfold fO;generalize laid.map aZ=B at hll ⊢;generalize(a::late).map aZ=ZT at fl h0 hc ⊢;generalize late.map aZ=L2 at hc fl2 ⊢;unfold aZ at h0 ⊢;generalize bX a.row=X at h0 fr on ⊢;simp_arith [fl,h0,fr];rw[cB (xs:=B) rfl hll (by rw[on];rfl)];simp_arith [on,fl,hc,fl2];cases bM L2<;>rfl
variable{wk:List D}{P:List P2}{J:List J3}{S:List (List Nat×Int)}
theorem RK(T:pZ wk P J S)(hm:a∈kg J S):(∀n∈a.ns,Num n)/\((∃j,a=.join j)\/∃z,a=.step z):=by
 have p8:(P.length:Int)<=8:=by have:=T.p8;omega
 rcases aD.mp hm with q|q
 ·obtain⟨j,hj,rfl⟩:=aV.mp q;have k3:=(T.jk j hj).2.2;simp only[aU]at k3;refine⟨fun n hn=>?_,.inl ⟨j,rfl⟩⟩;rcases aE.mp hn with rfl|hn
  ·exact kD T.p8 k3.1
  ·rw[aM.mp hn];exact kD T.p8 k3.2
 ·obtain⟨z,hz,rfl⟩:=aV.mp q;refine⟨fun n hn=>?_,.inr ⟨z,rfl⟩⟩;rw[aM.mp hn];exact kD T.p8 (T.sk z hz).2
theorem SK(T:pZ wk P J S)(A r:Option D)(m:Int)(Pc:List P2):∀(late:List AR) (f:Nat) (laid:List AR) (o:Bool),late.length<f->tQ wk P J S Pc laid late->laid.length+late.length<=90->
 ∃laid' late' o',mJ (pT [] p5) (bq [] 1000 fO) f (kO A m (Pc.length:Int) laid late o r)=.nx (kO A m (Pc.length:Int) laid' late' o' r)/\tQ wk P J S Pc laid' late'/\laid'.length+late'.length=laid.length+late.length
|[],f+1,laid,o,_,M,_=>by
 refine⟨laid,[],o,?_,M,rfl⟩;unfold mJ;rw[W3];rfl
|a::late,f+1,laid,o,hf,M,hl=>by
 obtain⟨done,e1,_⟩:=M.e;obtain⟨n1,n2⟩:=RK T (a:=a) (by rw[e1];simp);simp only[bz]at hl hf;obtain⟨c,q1,q2⟩:=W4 A r m (Pc.length:Int) laid late a o (by omega) n2 n1;cases c with
 |false=>
  refine⟨laid,a::late,o,?_,M,rfl⟩;unfold mJ;rw[q1];rfl
 |true=>
  obtain⟨laid',late',o',r1,r2,r3⟩:=SK T A r m Pc late f (laid++[a]) true (by omega) (M.take T (q2 rfl)) (by simp;omega);refine⟨laid',late',o',?_,r2,by rw[r3];simp;omega⟩;unfold mJ;rw[q1];show(match bq [] 1000 fO (kO A m (Pc.length:Int) laid (a::late) o r)with
   |.nx ZY=>mJ (pT [] p5) (bq [] 1000 fO) f ZY
   |.ct ZY=>mJ (pT [] p5) (bq [] 1000 fO) f ZY
   |.bk ZY=>.nx ZY
   |.rt d=>.rt d
   |.ex x=>.ex x
   |.bad=>.bad)=_
  rw[W5 A r m (Pc.length:Int) laid late a o (by omega) (by omega)];exact r1
theorem NP(a:AR):∃w ws,a.row=w::ws/\nj (aZ a) (.int 0)=.ok (.str (strOf w)):=by
 obtain⟨w,ws,e⟩:=Nx a;refine⟨w,ws,e,?_⟩;unfold aZ;rw[e];show(R.opt (eZ ((w::ws).map wD) 0)).bind _=_;rw[show eZ ((w::ws).map wD) 0=some (wD w)from wj _ _];rfl
noncomputable def AR.W6:AR->Bool
|.part _=>true
|_=>false
theorem IM(a:AR)(w:List Nat)(ws:List (List Nat))(e:a.row=w::ws):cL .In (.str (strOf w)) (.tup [.str "join",.str "step"])=.ok (.bl (!a.early))/\cL .In (.str (strOf w)) (.tup [.str "part",.str "size"])=.ok (.bl a.early)/\(a.early=true->(strOf w==aS "part")=a.W6):=by
 cases a<;>cases e<;>exact⟨by kernel_rfl,by kernel_rfl,fun h=>by first|(cases h;done)|kernel_rfl⟩
theorem W7(A:Option D)(m:Int)(ZT:List AR)(hl:ZT.length<=100)(a:AR):bq [] 1000 gn (kO A m 0 [] ZT true (some (aZ a)))=.nx (kO A m 0 [] (ZT++if a.early then[]else[a]) true (some (aZ a))):=by
 have hs:=szl;obtain⟨w,ws,e,h0⟩:=NP a;obtain⟨h1,_,_⟩:=IM a w ws e;have fr:=kB a.row;have on:=yI a.row;have hll:(ZT.map aZ).length<aa:=by rw[ah];omega
 have ea:(ZT++[a]).map aZ=ZT.map aZ++[aZ a]:=by rw[a_];rfl
 cases q:a.early with
 |true=>
  rw[q]at h1;show bq [] 1000 gn [A,some (.int m),some (.int 0),some (.lst true []),some (.lst true (ZT.map aZ)),some (aZ a)]=.nx [A,some (.int m),some (.int 0),some (.lst true []),some (.lst true ((ZT++[]).map aZ)),some (aZ a)];rw[bI];unfold gn;unfold aZ at h0 ⊢;generalize bX a.row=X at h0 fr on ⊢;simp_arith [fr,h0,h1]
 |false=>
  rw[q]at h1;show bq [] 1000 gn [A,some (.int m),some (.int 0),some (.lst true []),some (.lst true (ZT.map aZ)),some (aZ a)]=.nx [A,some (.int m),some (.int 0),some (.lst true []),some (.lst true ((ZT++[a]).map aZ)),some (aZ a)];rw[ea];generalize ZT.map aZ=B at hll ⊢;unfold gn;unfold aZ at h0 ⊢;generalize bX a.row=X at h0 fr on ⊢;simp_arith [fr,h0,h1];rw[cB (xs:=B) rfl hll (by rw[on];rfl)];simp_arith [on,fr]
theorem W8(T:pZ wk P J S)(A:Option D)(m:Int)(h0m:0<=m)(t:St)(laid late:List AR)(o:Bool)(a:AR)(M:tQ wk P J S t.P laid late)(ok:t.ok wk a)(hl:laid.length+late.length<=88):∃m' laid' late' o',0<=m'/\bq [] 1000 gm (kO A m (t.P.length:Int) laid late o (some (aZ a)))=.nx (kO A m' ((t.put a).P.length:Int) laid' late' o' (some (aZ a)))/\tQ wk P J S (t.put a).P laid' late'/\laid'.length+late'.length<=laid.length+late.length+1:=by
 have hs:=szl;obtain⟨w,ws,e,h0⟩:=NP a;obtain⟨_,h1,h2⟩:=IM a w ws e;have fr:=kB a.row;have on:=yI a.row;cases q:a.early with
 |false=>
  rw[q]at h1;have ep:(t.put a).P=t.P:=by cases a<;>first|rfl|cases q
  refine⟨m,laid,late,o,h0m,?_,by rw[ep];exact M,by omega⟩;rw[ep];show bq [] 1000 gm [A,some (.int m),some (.int (t.P.length:Int)),some (.lst true (laid.map aZ)),some (.lst o (late.map aZ)),some (aZ a)]=.nx [A,some (.int m),some (.int (t.P.length:Int)),some (.lst true (laid.map aZ)),some (.lst o (late.map aZ)),some (aZ a)];unfold gm;generalize laid.map aZ=B;generalize late.map aZ=ZT;unfold aZ at h0 ⊢;generalize bX a.row=X at h0 fr on ⊢;simp_arith [fr,h0,h1]
 |true=>
  rw[q]at h1;have M2:=M.part q ok;obtain⟨c,hc,hp⟩:∃c:Bool,(strOf w==aS "part")=c/\((t.put a).P.length:Int)=(t.P.length:Int)+(if c then 1 else 0):=by
   refine⟨_,h2 q,?_⟩;cases a with
   |part k=>
    show((t.P++[(k,[])]).length:Int)=(t.P.length:Int)+1;simp
   |size z=>
    obtain⟨_,_,Q,p,eP,_⟩:=ok;show((t.P.dropLast++(t.P.getLast?.map fun p=>(p.1,p.2++[z])).toList).length:Int)=(t.P.length:Int)+0;rw[eP];simp
   |join _=>cases q
   |step _=>cases q
  obtain⟨laid',late',o',r1,r2,r3⟩:=SK T A (some (aZ a)) m (t.put a).P late 1000 (laid++[a]) o (by omega) M2 (by simp;omega);refine⟨m / 2,laid',late',o',by omega,?_,r2,by rw[r3];simp;omega⟩;have hll:(laid.map aZ).length<aa:=by rw[ah];omega
  have ea:(laid++[a]).map aZ=laid.map aZ++[aZ a]:=by rw[a_];rfl
  have r1:mJ (pT [] p5) (bq [] 1000 fO) 1000 [A,some (.int m),some (.int ((t.put a).P.length:Int)),some (.lst true ((laid++[a]).map aZ)),some (.lst o (late.map aZ)),some (aZ a)]=.nx [A,some (.int m),some (.int ((t.put a).P.length:Int)),some (.lst true (laid'.map aZ)),some (.lst o' (late'.map aZ)),some (aZ a)]:=r1;rw[ea,hp]at r1;show bq [] 1000 gm [A,some (.int m),some (.int (t.P.length:Int)),some (.lst true (laid.map aZ)),some (.lst o (late.map aZ)),some (aZ a)]=.nx [A,some (.int (m / 2)),some (.int ((t.put a).P.length:Int)),some (.lst true (laid'.map aZ)),some (.lst o' (late'.map aZ)),some (aZ a)];rw[hp];unfold gm;generalize fO=W at r1 ⊢;generalize laid.map aZ=B at hll r1 ⊢;generalize laid'.map aZ=B' at r1 ⊢;generalize late.map aZ=ZT at r1 ⊢;generalize late'.map aZ=L' at r1 ⊢;unfold aZ at h0 r1 ⊢;generalize bX a.row=X at h0 fr on r1 ⊢;unfold p5 at r1;generalize(t.P.length:Int)=N at r1 ⊢;have c2:q_ m 2:=by unfold q_;omega
  simp_arith [fr,h0,h1];rw[cB (xs:=B) rfl hll (by rw[on];rfl)];simp_arith [on,fr,h0,hc,r1,c2]
theorem Ef(P:List P2)(J:List J3)(S:List (List Nat×Int))(hP:P.length<=8)(hz:∀p∈P,p.2.length<=4)(hJ:J.length<=16)(hS:S.length<=8):(bP P J S).length<=64:=by
 have pl:(P.flatMap aT).length<=5*P.length:=by
  clear hP;induction P with
  |nil=>simp
  |cons p r ih=>
   rw[lV,az,bz];have:=ih fun q hq=>hz q (ai _ hq);have:=hz p ao;have e:(aT p).length=p.2.length+1:=by unfold aT;simp
   omega
 unfold bP;simp only[az,ah];omega
theorem Hr(P:List P2):(P.flatMap aT).filter (fun a=>!a.early)=[]:=by
 rw[List.filter_eq_nil_iff];intro a ha;obtain⟨p,_,h⟩:=ku.mp ha;rcases aE.mp h with rfl|h
 ·simp[AR.early]
 ·obtain⟨z,_,rfl⟩:=aV.mp h;simp[AR.early]
theorem NQ(J:List J3)(S:List (List Nat×Int)):(kg J S).filter (fun a=>!a.early)=kg J S:=by
 rw[wN];intro a ha;rcases aD.mp ha with h|h
 ·obtain⟨z,_,rfl⟩:=aV.mp h;rfl
 ·obtain⟨z,_,rfl⟩:=aV.mp h;rfl
theorem UY(T:pZ wk P J S)(m:Int)(h0:0<=m):∃as:List AR,oZ [.lst false ((bP P J S).map aZ),.int m]=.ok (.lst true (as.map aZ))/\Valid wk t0 as/\t0.run as=⟨P,J,S⟩/\as.length<=90:=by
 have hs:=szl;obtain⟨v,er⟩:=oO T;have hlen:=Ef P J S T.p8 (fun p hp=>(T.pz p hp).1) T.jl.1 T.sl;have hll:(kg J S).length<=24:=by have:=T.jl.1;have:=T.sl;simp;omega
 have hf:(bP P J S).filter (fun a=>!a.early)=kg J S:=by
  unfold bP;rw[g_,Hr,kU];exact NQ J S
 obtain⟨Z4,q1,r1,rfl⟩:=eO (g:=pG (.name 5)) (b:=bq [] 1000 gn) aZ (bP P J S) (fun pre O=>∃r,O=kO (some (.lst false ((bP P J S).map aZ))) m 0 [] (pre.filter fun a=>!a.early) true r) (by
  rintro pre a post hx O ⟨r,rfl⟩;refine⟨kO (some (.lst false ((bP P J S).map aZ))) m 0 [] (pre.filter fun a=>!a.early) true (some (aZ a)),_,rfl,W7 _ _ _ ?_ a,some (aZ a),?_⟩
  ·have:=List.length_filter_le (fun a:AR=>!a.early) pre;have:pre.length<=(bP P J S).length:=by rw[hx];simp
   omega
  ·rw[show(pre++[a]).filter (fun a=>!a.early)=pre.filter (fun a=>!a.early)++if a.early then[]else[a]by rw[g_];cases q:a.early<;>simp[q]]) (kO (some (.lst false ((bP P J S).map aZ))) m 0 [] [] true none) ⟨none,rfl⟩
 rw[hf]at q1;obtain⟨ZZ,q2,m2,laid,late,o,r,hm2,rfl,M,hl2⟩:=eO (g:=pG (.name 5)) (b:=bq [] 1000 gm) aZ (bP P J S) (fun pre O=>∃m' laid late o r,0<=m'/\O=kO (some (.lst false ((bP P J S).map aZ))) m' ((t0.run pre).P.length:Int) laid late o r/\tQ wk P J S (t0.run pre).P laid late/\laid.length+late.length<=pre.length+24) (by
  rintro pre a post hx O ⟨m',laid,late,o,r,hm',rfl,M,hl⟩;have hpl:pre.length<=63:=by rw[hx]at hlen;simp at hlen;omega
  obtain⟨_,okn⟩:=nI pre.length Bx v;have ok:(t0.run pre).ok wk a:=by
   have:=okn a (by rw[hx];simp);rw[hx,List.take_left]at this;exact this
  obtain⟨m3,laid',late',o',e0,e1,e2,e3⟩:=W8 T (some (.lst false ((bP P J S).map aZ))) m' hm' (t0.run pre) laid late o a M ok (by omega);refine⟨kO (some (.lst false ((bP P J S).map aZ))) m' ((t0.run pre).P.length:Int) laid late o (some (aZ a)),_,rfl,e1,m3,laid',late',o',some (aZ a),e0,by rw[uY],by rw[uY];exact e2,by simp;omega⟩) (kO (some (.lst false ((bP P J S).map aZ))) m 0 [] (kg J S) true r1) ⟨m,[],kg J S,true,r1,h0,rfl,⟨trivial,[],rfl,rfl⟩,by simp at hll ⊢;omega⟩
 rw[er]at q2 M;obtain⟨w1,w2⟩:=M.rest T;refine⟨laid++late,?_,w1,w2,by simp;omega⟩;have fa:=oF (bP P J S);have f1:=oF laid;have f2:=oF late;have hl3:(laid.map aZ).length+(late.map aZ).length<=aa:=by simp;omega
 have q1:forR (pG (.name 5)) (bq [] 1000 gn) ((bP P J S).map aZ) [some (.lst false ((bP P J S).map aZ)),some (.int m),some (.int 0),some (.lst true []),some (.lst true []),none]=.nx [some (.lst false ((bP P J S).map aZ)),some (.int m),some (.int 0),some (.lst true []),some (.lst true ((kg J S).map aZ)),r1]:=q1;have q2:forR (pG (.name 5)) (bq [] 1000 gm) ((bP P J S).map aZ) [some (.lst false ((bP P J S).map aZ)),some (.int m),some (.int 0),some (.lst true []),some (.lst true ((kg J S).map aZ)),r1]=.nx [some (.lst false ((bP P J S).map aZ)),some (.int m2),some (.int (P.length:Int)),some (.lst true (laid.map aZ)),some (.lst o (late.map aZ)),r]:=q2;rw[a_];unfold oZ xM;rw[show DU=[]from rfl];generalize gn=B3 at q1 ⊢;generalize gm=B2 at q2 ⊢;generalize(bP P J S).map aZ=A at q1 q2 fa ⊢;generalize laid.map aZ=L1 at q2 f1 hl3 ⊢;generalize late.map aZ=L2 at q2 f2 hl3 ⊢;simp_arith [fa,q1,q2,f1,f2,hl3]
variable{w:List Nat}
theorem vQ(h:isWord (strOf w)=true):Bt w:=by
 unfold isWord at h;simp only[aU,decide_eq_true_eq]at h;obtain⟨⟨⟨h1,h2⟩,h3⟩,_⟩:=h;rw[gk]at h1 h2;have h3:∀c∈w,97<=c/\c<=122:=fun c hc=>by
  have:=bH.mp h3 c hc;simpa using this
 refine⟨fun e=>by rw[e]at h1;simp at h1,fun hc=>by have:=h3 _ hc;omega,fun hc=>by have:=h3 _ hc;omega,by omega,fun c hc=>by have:=h3 c hc;omega⟩
theorem yK(n:Int)(h:Num n):Bt (cR n):=by
 have hl:(cR n).length<=31:=by
  have:=CA n h;show(dj n).cps.toList.length<=31;rw[len_str];exact this
 have key:cR n≠[]/\∀c∈cR n,c=45\/(48<=c/\c<=57):=by
  by_cases hn:0<=n
  ·obtain⟨m,rfl⟩:∃m:Nat,n=(m:Int):=⟨n.toNat,by omega⟩;have hm:m<10 ^ 30:=by
    have:=h.2;have:((10 ^ 30:Nat):Int)=10 ^ 30:=by decide
    omega
   obtain⟨d1,d2,_⟩:=nH 29 m hm;have e:cR (m:Int)=eV 29 m:=by unfold cR;rw[vL m hm];rfl
   rw[e];exact⟨d2,fun c hc=>.inr (d1 c hc)⟩
  ·obtain⟨m,rfl,hp⟩:∃m:Nat,n=-(m:Int)/\0<m:=⟨(-n).toNat,by omega,by omega⟩;have hm:m<10 ^ 30:=by
    have:=h.1;have:((10 ^ 30:Nat):Int)=10 ^ 30:=by decide
    omega
   obtain⟨d1,d2,_⟩:=nH 29 m hm;have e:cR (-(m:Int))=45::eV 29 m:=by unfold cR;rw[vM m hp hm];rfl
   rw[e];refine⟨by simp,fun c hc=>?_⟩;rcases aE.mp hc with q|q
   ·exact .inl q
   ·exact .inr (d1 c q)
 obtain⟨k1,k2⟩:=key;exact⟨k1,fun hc=>by have:=k2 _ hc;omega,fun hc=>by have:=k2 _ hc;omega,by omega,fun c hc=>by have:=k2 c hc;omega⟩
theorem tR:∀w∈[gc,fR,dW,eW],Bt w:=by
 unfold Bt;decide +kernel
theorem UZ{t:St}(a:AR)(hs:t.P.length<=8)(h:t.ok wk a):kC a.row:=by
 have w1:=tR gc (by simp);have w2:=tR fR (by simp);have w3:=tR dW (by simp);have w4:=tR eW (by simp);cases a with
 |part k=>
  refine⟨by simp[AR.row],by simp[AR.row],fun w hw=>?_⟩;simp only[AR.row,aE,aJ,or_false]at hw;rcases hw with rfl|rfl
  ·exact w1
  ·exact vQ h.1
 |size z=>
  refine⟨by simp[AR.row],by simp[AR.row],fun w hw=>?_⟩;simp only[AR.row,aE,aJ,or_false]at hw;rcases hw with rfl|rfl|rfl
  ·exact w2
  ·exact vQ h.1
  ·exact yK _ h.2.1
 |join j=>
  obtain⟨h1,h2,h3,_⟩:=h;simp only[aU]at h3;refine⟨by simp[AR.row],by simp[AR.row],fun w hw=>?_⟩;simp only[AR.row,aE,aJ,or_false]at hw;rcases hw with rfl|rfl|rfl|rfl
  ·exact w3
  ·exact vQ h1
  ·exact yK _ (kD hs h3.1)
  ·exact yK _ (kD hs h3.2)
 |step z=>
  refine⟨by simp[AR.row],by simp[AR.row],fun w hw=>?_⟩;simp only[AR.row,aE,aJ,or_false]at hw;rcases hw with rfl|rfl|rfl
  ·exact w4
  ·exact vQ h.1
  ·exact yK _ (kD hs h.2.1)
theorem BB{as:List AR}(hv:Valid wk t0 as):∀q∈as.map AR.row,kC q:=by
 intro q hq;obtain⟨a,ha,rfl⟩:=aV.mp hq;obtain⟨n,hn⟩:=nS ha;obtain⟨sm,okn⟩:=nI n Bx hv;exact UZ a sm.p (okn a hn)
noncomputable def jn:List (List Nat)->List Nat
|[]=>[]
|[w]=>w
|w::x::r=>w++32::jn (x::r)
theorem CC(w x:List Nat)(r:List (List Nat)):jn (w::x::r)=w++32::jn (x::r):=rfl
theorem GF:∀ws:List (List Nat),(∀w∈ws,Bt w)->wordsOf (jn ws)=ws
|[],_=>rfl
|[w],h=>by
 obtain⟨h1,h2,_⟩:=h w ao;have q:=r_ w [] h1 h2;show wordsOf w=[w];have e:cN 32 w=[w]:=oJ 32 [w] w (by simp) (by simpa using h2) (by simp[kq]);unfold wordsOf;rw[e];cases w with
 |nil=>exact absurd rfl h1
 |cons=>rfl
|w::x::r,h=>by
 obtain⟨h1,h2,_⟩:=h w ao;rw[CC,r_ w _ h1 h2,GF (x::r) fun y hy=>h y (ai _ hy)]
theorem SM:∀ws:List (List Nat),(∀w∈ws,Bt w)->10∉jn ws
|[],_=>by simp[jn]
|[w],h=>(h w ao).2.2.1
|w::x::r,h=>by
 have ih:=SM (x::r) fun y hy=>h y (ai _ hy);rw[CC,aD,aE];rintro(q|q|q)
 ·exact(h w ao).2.2.1 q
 ·exact absurd q (by decide)
 ·exact ih q
theorem NR:∀ws:List (List Nat),(∀w∈ws,Bt w)->(jn ws).length<=41*ws.length
|[],_=>by simp[jn]
|[w],h=>by have:=(h w ao).2.2.2.1;show w.length<=41*1;omega
|w::x::r,h=>by
 have ih:=NR (x::r) fun y hy=>h y (ai _ hy);have:=(h w ao).2.2.2.1;rw[CC,az,bz,bz];omega
noncomputable def i_(a:AR):Str:=strOf (jn a.row)
noncomputable abbrev b8(a:AR):D:=sD (i_ a)
noncomputable def txt(as:List AR):Str:=dS ⟨#[10]⟩ (as.map i_)
theorem SN:aS "part "=strOf (gc++[32]):=by decide +kernel
theorem SO:aS "size "=strOf (fR++[32]):=by decide +kernel
theorem SQ:aS "join "=strOf (dW++[32]):=by decide +kernel
theorem SR:aS "step "=strOf (eW++[32]):=by decide +kernel
theorem IP:aS " "=strOf [32]:=by decide +kernel
theorem IQ(z:List Nat×Int):i_ (.size z)=strOf (fR++[32]++z.1++[32]++cR z.2):=by
 show strOf (fR++32::(z.1++32::cR z.2))=_;simp
theorem IS(z:List Nat×Int):i_ (.step z)=strOf (eW++[32]++z.1++[32]++cR z.2):=by
 show strOf (eW++32::(z.1++32::cR z.2))=_;simp
theorem IT(j:J3):i_ (.join j)=strOf (dW++[32]++j.1++[32]++cR j.2.1++[32]++cR j.2.2):=by
 show strOf (dW++32::(j.1++32::(cR j.2.1++32::cR j.2.2)))=_;simp
theorem pq(n:Int):dj n=strOf (cR n):=by
 unfold cR strOf;rw[ko]
theorem uZ(h:kC a.row):(i_ a).length<=205:=by
 unfold i_;rw[gk];have:=NR a.row h.2.2;have:=h.2.1;omega
theorem U0(as:List AR):jE (as.map b8)=some (as.map i_):=by
 have:=strs_map (as.map i_);rw[bK]at this;exact this
theorem YU:aS "\n"=⟨#[10]⟩:=by decide +kernel
theorem IU(as:List AR)(h:∀a∈as,kC a.row)(hl:as.length<=100)(o:Bool):nu .join (.str ⟨#[10]⟩) [.lst o (as.map b8)]=.ok (.str (txt as)):=by
 have hs:=szl;show(R.opt (jE (as.map b8))).bind (fun ss=>R.a9 (decide ((ss.map (·.length)).sum+ss.length*(⟨#[10]⟩:Str).length<=aa)) (.ok (D.str (dS ⟨#[10]⟩ ss))))=_;rw[U0];show R.a9 (decide (((as.map i_).map (·.length)).sum+(as.map i_).length*(⟨#[10]⟩:Str).length<=aa)) (.ok (D.str (dS ⟨#[10]⟩ (as.map i_))))=_;have h1:=Bu 205 ((as.map i_).map (·.length)) (by
  intro x hx;obtain⟨s,hs',rfl⟩:=aV.mp hx;obtain⟨a,ha,rfl⟩:=aV.mp hs';exact uZ (h a ha))
 have h2:(⟨#[10]⟩:Str).length=1:=rfl;rw[ah,ah]at h1;rw[decide_eq_true (by rw[h2,ah];omega)];rfl
theorem RL(as:List AR)(h:∀a∈as,kC a.row)(hl:as.length<=100):qh (mP (txt as))=as.map AR.row/\(txt as).length<=40000:=by
 constructor
 ·have:=wg (as.map i_) (by
   intro z hz;obtain⟨a,ha,rfl⟩:=aV.mp hz;exact SM a.row (h a ha).2.2)
  unfold qh mP txt;unfold sd at this;rw[this,bK];have e:as.map ((fun z:Str=>wordsOf z.cps.toList)∘i_)=as.map AR.row:=kQ fun a ha=>GF a.row (h a ha).2.2;rw[e,wN];intro r hr;obtain⟨a,ha,rfl⟩:=aV.mp hr;obtain⟨w,ws,e⟩:=Nx a;rw[e];rfl
 ·have h1:=Bu 205 ((as.map i_).map (·.length)) (by
   intro x hx;obtain⟨s,hs',rfl⟩:=aV.mp hx;obtain⟨a,ha,rfl⟩:=aV.mp hs';exact uZ (h a ha))
  have h2:=vD ⟨#[10]⟩ (as.map i_);have h3:(⟨#[10]⟩:Str).length=1:=rfl;rw[ah,ah]at h1;rw[h3,ah]at h2;unfold txt;omega
variable{n:Int}
theorem U1(h:Num n):ug (.int n)=some (strOf (cR n)):=by
 have h1:n.natAbs<10 ^ 30:=by
  obtain⟨a,b⟩:=h;have:((10 ^ 30:Nat):Int)=10 ^ 30:=by decide
  omega
 have h2:n.natAbs.log2<1920:=by
  by_cases hz:n.natAbs=0
  ·rw[hz];decide
  ·exact(HM hz).mpr (bG h1 (by decide +kernel))
 show(if n.natAbs.log2<1920 then some (dj n)else none)=_;rw[if_pos h2,pq]
variable{O:bf}{i:Nat}
theorem Kr(c:List Nat)(Z5:O[i]?=some (some (.int n)))(h:Num n)(r:List (Str×Nat))(a:List Nat):lM O ((strOf c,i)::r) (strOf a)=lM O r (strOf (a++c++cR n)):=by
 show(match O[i]? with
  |some (some d)=>(ug d).bind fun y=>lM O r (strOf a++strOf c++y)
  |_=>none)=_
 rw[Z5];show(ug (.int n)).bind _=_;rw[U1 h];show lM O r (strOf a++strOf c++strOf (cR n))=_;rw[uT,uT]
theorem Ks(c:List Nat)(Z5:O[i]?=some (some (wD w)))(r:List (Str×Nat))(a:List Nat):lM O ((strOf c,i)::r) (strOf a)=lM O r (strOf (a++c++w)):=by
 show(match O[i]? with
  |some (some d)=>(ug d).bind fun y=>lM O r (strOf a++strOf c++y)
  |_=>none)=_
 rw[Z5];show lM O r (strOf a++strOf c++strOf w)=_;rw[uT,uT]
theorem BC{ps:List (Str×Nat)}{y:Str}(h:lM O ps (strOf [])=some y)(hl:y.length<=1000):pE Y (.fst ps) O=.ok (.str y):=by
 have hs:=szl;show(R.opt (lM O ps (strOf []))).bind (fun y=>R.a9 (decide (y.length<=aa)) (.ok (D.str y)))=_;rw[h];show R.a9 (decide (y.length<=aa)) (.ok (D.str y))=_;rw[decide_eq_true (by omega)];rfl
theorem W9{k:List Nat}(Z5:O[2]?=some (some (wD k)))(h:kC (AR.part k).row):pE Y (.fst [("part ",2)]) O=.ok (b8 (.part k)):=by
 refine BC ?_ (dB (uZ h) (by decide));show lM O [(aS "part ",2)] (strOf [])=_;rw[SN,Ks _ Z5];rfl
theorem W_(z:List Nat×Int)(hn:Num z.2)(h:kC (AR.size z).row):pE Y (.fst [("size ",0),(" ",1)]) [some (wD z.1),some (.int z.2)]=.ok (b8 (.size z)):=by
 refine BC ?_ (dB (uZ h) (by decide));show lM [some (wD z.1),some (.int z.2)] [(aS "size ",0),(aS " ",1)] (strOf [])=_;rw[SO,IP,Ks _ rfl,Kr _ rfl hn,IQ];rfl
theorem Xa(z:List Nat×Int)(hn:Num z.2)(h:kC (AR.step z).row):pE Y (.fst [("step ",0),(" ",1)]) [some (wD z.1),some (.int z.2)]=.ok (b8 (.step z)):=by
 refine BC ?_ (dB (uZ h) (by decide));show lM [some (wD z.1),some (.int z.2)] [(aS "step ",0),(aS " ",1)] (strOf [])=_;rw[SR,IP,Ks _ rfl,Kr _ rfl hn,IS];rfl
theorem Xb(j:J3)(h1:Num j.2.1)(h2:Num j.2.2)(h:kC (AR.join j).row):pE Y (.fst [("join ",0),(" ",1),(" ",2)]) [some (wD j.1),some (.int j.2.1),some (.int j.2.2)]=.ok (b8 (.join j)):=by
 refine BC ?_ (dB (uZ h) (by decide));show lM [some (wD j.1),some (.int j.2.1),some (.int j.2.2)] [(aS "join ",0),(aS " ",1),(aS " ",2)] (strOf [])=_;rw[SQ,IP,Ks _ rfl,Kr _ rfl h1,Kr _ rfl h2,IT];rfl
theorem GG(as:List AR):bM (as.map b8)=true:=jU _ fun d hd=>by
 obtain⟨z,_,rfl⟩:=aV.mp hd;rfl
theorem SV(as:List AR):aA (as.map b8)=as.map b8:=c8 b8 (fun _=>rfl) as
theorem NS(zs:List (List Nat×Int))(h:∀z∈zs,Num z.2/\kC (AR.size z).row):eK (pG (.tup (.cons (.name 0) (.cons (.name 1) .nil)))) (fun _=>.ok true) (pE Y (.fst [("size ",0),(" ",1)])) (zs.map zD) [none,none]=.ok ((zs.map AR.size).map b8):=by
 rw[bK];refine fB zD (fun O=>∃a b,O=[a,b]) (b8∘AR.size) zs _ ⟨none,none,rfl⟩ ?_;rintro z hz O ⟨a,b,rfl⟩;exact⟨[some (wD z.1),some (.int z.2)],rfl,⟨_,_,rfl⟩,W_ z (h z hz).1 (h z hz).2⟩
theorem NU(zs:List (List Nat×Int))(h:∀z∈zs,Num z.2/\kC (AR.step z).row):eK (pG (.tup (.cons (.name 0) (.cons (.name 1) .nil)))) (fun _=>.ok true) (pE Y (.fst [("step ",0),(" ",1)])) (zs.map zD) [none,none]=.ok ((zs.map AR.step).map b8):=by
 rw[bK];refine fB zD (fun O=>∃a b,O=[a,b]) (b8∘AR.step) zs _ ⟨none,none,rfl⟩ ?_;rintro z hz O ⟨a,b,rfl⟩;exact⟨[some (wD z.1),some (.int z.2)],rfl,⟨_,_,rfl⟩,Xa z (h z hz).1 (h z hz).2⟩
theorem NV(js:List J3)(h:∀j∈js,(Num j.2.1/\Num j.2.2)/\kC (AR.join j).row):eK (pG (.tup (.cons (.name 0) (.cons (.name 1) (.cons (.name 2) .nil))))) (fun _=>.ok true) (pE Y (.fst [("join ",0),(" ",1),(" ",2)])) (js.map jD) [none,none,none]=.ok ((js.map AR.join).map b8):=by
 rw[bK];refine fB jD (fun O=>∃a b c,O=[a,b,c]) (b8∘AR.join) js _ ⟨none,none,none,rfl⟩ ?_;rintro z hz O ⟨a,b,c,rfl⟩;exact⟨[some (wD z.1),some (.int z.2.1),some (.int z.2.2)],rfl,⟨_,_,_,rfl⟩,Xb z (h z hz).1.1 (h z hz).1.2 (h z hz).2⟩
structure xZ (P:List P2) (J:List J3) (S:List (List Nat×Int)):Prop where
 p:P.length<=8
 k:∀p∈P,kC (AR.part p.1).row/\p.2.length<=4/\∀z∈p.2,Num z.2/\kC (AR.size z).row
 j:J.length<=16/\∀j∈J,(Num j.2.1/\Num j.2.2)/\kC (AR.join j).row
 s:S.length<=8/\∀z∈S,Num z.2/\kC (AR.step z).row
theorem xZ.rows(h:xZ P J S):∀a∈bP P J S,kC a.row:=by
 intro a ha;rcases aD.mp ha with q|q
 ·obtain⟨p,hp,q⟩:=ku.mp q;rcases aE.mp q with rfl|q
  ·exact(h.k p hp).1
  ·obtain⟨z,hz,rfl⟩:=aV.mp q;exact((h.k p hp).2.2 z hz).2
 ·rcases aD.mp q with q|q
  ·obtain⟨z,hz,rfl⟩:=aV.mp q;exact(h.j.2 z hz).2
  ·obtain⟨z,hz,rfl⟩:=aV.mp q;exact(h.s.2 z hz).2
theorem vR(P:List P2)(h:∀p∈P,p.2.length<=4):(P.flatMap aT).length<=5*P.length:=by
 induction P with
 |nil=>simp
 |cons p r ih=>
  rw[lV,az,bz];have:=ih fun q hq=>h q (ai _ hq);have:=h p ao;have e:(aT p).length=p.2.length+1:=by unfold aT;simp
  omega
theorem GH(P:List P2)(p:P2):(P++[p]).flatMap aT=P.flatMap aT++[.part p.1]++p.2.map .size:=by
 rw[wM];show P.flatMap aT++(aT p++[])=_;rw[bI];show P.flatMap aT++(.part p.1::p.2.map .size)=_;simp
theorem U3(P:List P2)(J:List J3)(S:List (List Nat×Int))(h:xZ P J S):ic [.tup [.lst false (P.map pF),.lst false (J.map jD),.lst false (S.map zD)]]=.ok (.str (txt (bP P J S))):=by
 have hs:=szl;have fp:=Kn P;have fj:=jF J;have fs:=iB S;obtain⟨ZV,h1,k',z',rfl⟩:=eO (g:=pG (.tup (.cons (.name 2) (.cons (.name 3) .nil)))) (b:=bq [] 1000 kc) pF P
  (fun pre O=>∃k' z',O=[some (.tup [.lst false (P.map pF),.lst false (J.map jD),.lst false (S.map zD)]),some (.lst true ((pre.flatMap aT).map b8)),k',z']) (by
  rintro pre p post hx O ⟨k',z',rfl⟩;have hm:p∈P:=by rw[hx];simp
  obtain⟨w1,w2,w3⟩:=h.k p hm;have hl0:=vR pre fun q hq=>(h.k q (by rw[hx];simp[hq])).2.1;have hpl:pre.length<=8:=by have:=h.p;rw[hx]at this;simp at this;omega
  have q2:=NS (Y:=[]) p.2 w3;have fz:=iB p.2;refine⟨[some (.tup [.lst false (P.map pF),.lst false (J.map jD),.lst false (S.map zD)]),some (.lst true ((pre.flatMap aT).map b8)),some (wD p.1),some (.lst false (p.2.map zD))],[some (.tup [.lst false (P.map pF),.lst false (J.map jD),.lst false (S.map zD)]),some (.lst true (((pre++[p]).flatMap aT).map b8)),some (wD p.1),some (.lst false (p.2.map zD))],?_,?_,_,_,rfl⟩
  ·unfold pF;simp_arith []
  ·have e:((pre++[p]).flatMap aT).map b8=(pre.flatMap aT).map b8++[b8 (.part p.1)]++(p.2.map AR.size).map b8:=by rw[GH];simp
   have hll:((pre.flatMap aT).map b8).length<aa:=by rw[ah];omega
   have hl2:((pre.flatMap aT).map b8++[b8 (.part p.1)]).length+((p.2.map AR.size).map b8).length<=aa:=by simp only[az,ah,bU];omega
   have o1:=GG (p.2.map AR.size);rw[e];have q1:pE [] (.fst [("part ",2)]) [some (.tup [.lst false (P.map pF),.lst false (J.map jD),.lst false (S.map zD)]),some (.lst true ((pre.flatMap aT).map b8)),some (wD p.1),some (.lst false (p.2.map zD))]=.ok (.str (i_ (.part p.1))):=W9 rfl w1;have eS:b8 (.part p.1)=.str (i_ (.part p.1)):=rfl;rw[eS]at hl2 ⊢;generalize i_ (.part p.1)=x at q1 hl2 ⊢;generalize(pre.flatMap aT).map b8=A at q1 hll hl2 ⊢;generalize(p.2.map AR.size).map b8=Z at q2 hl2 o1 ⊢;generalize P.map pF=A1 at q1 ⊢;generalize J.map jD=A2 at q1 ⊢;generalize S.map zD=A3 at q1 ⊢;generalize p.2.map zD=ZS at q1 q2 fz ⊢;unfold kc;have q3:pS [] 1000 (.expr (.mth .append (.var 1) (.cons (.fst [("part ",2)]) .nil))) [some (.tup [.lst false A1,.lst false A2,.lst false A3]),some (.lst true A),some (wD p.1),some (.lst false ZS)]=.nx [some (.tup [.lst false A1,.lst false A2,.lst false A3]),some (.lst true (A++[.str x])),some (wD p.1),some (.lst false ZS)]:=by
    rw[Gc,q1];exact cB (k:=1) (vs:=[]) (O:=[some (.tup [.lst false A1,.lst false A2,.lst false A3]),some (.lst true A),some (wD p.1),some (.lst false ZS)]) (d:=.str x) (xs:=A) rfl hll rfl
   rw[Bh,q3];simp_arith [fz,q2];rw[tE (xs:=A++[.str x]) rfl hl2 (by show(bM Z||_)=true;rw[o1];rfl)];simp_arith [o1]) [some (.tup [.lst false (P.map pF),.lst false (J.map jD),.lst false (S.map zD)]),some (.lst true []),none,none] ⟨none,none,rfl⟩
 have hl0:=vR P fun q hq=>(h.k q hq).2.1;have hp:=h.p;have hj:=h.j.1;have hs':=h.s.1;have qj:=NV (Y:=[]) J h.j.2;have qs:=NU (Y:=[]) S h.s.2;have l1:((P.flatMap aT).map b8).length+((J.map AR.join).map b8).length<=aa:=by simp only[ah];omega
 have l2:((P.flatMap aT).map b8++(J.map AR.join).map b8).length+((S.map AR.step).map b8).length<=aa:=by simp only[az,ah];omega
 have o1:=GG (J.map AR.join);have o2:=GG (S.map AR.step);have e:(P.flatMap aT).map b8++(J.map AR.join).map b8++(S.map AR.step).map b8=(bP P J S).map b8:=by unfold bP;simp
 have qf:=IU (bP P J S) h.rows (by unfold bP;simp only[az,ah];omega);have ff:=SV (bP P J S);rw[<-e]at qf ff;unfold ic pY;rw[show wc=[]from rfl];generalize kc=B at h1 ⊢;generalize(P.flatMap aT).map b8=L1 at h1 l1 l2 qf ff ⊢;generalize(J.map AR.join).map b8=L2 at qj l1 l2 o1 qf ff ⊢;generalize(S.map AR.step).map b8=L3' at qs l2 o2 qf ff ⊢;generalize txt (bP P J S)=T at qf ⊢;generalize P.map pF=A1 at h1 fp ⊢;generalize J.map jD=A2 at h1 fj qj ⊢;generalize S.map zD=A3 at h1 fs qs ⊢;simp_arith [fp,fj,fs,wj,qd,at2,h1,qj];rw[tE (xs:=L1) rfl l1 (by show(bM L2||_)=true;rw[o1];rfl)];simp_arith [o1,fp,fj,fs,at2,qs];rw[tE (xs:=L1++L2) rfl l2 (by show(bM L3'||_)=true;rw[o2];rfl)];simp_arith [o2,YU,ff,qf]
theorem RM(h:List Nat)(w u:List Nat)(hh:h.length<=10)(hw:w.length<=40)(hu:u.length<=200):∃s1 s2,jt .Add (.str (strOf (h++[32]))) (.str (strOf w))=.ok (.str s1)/\jt .Add (.str s1) (.str (strOf [32]))=.ok (.str s2)/\jt .Add (.str s2) (.str (strOf u))=.ok (.str (strOf (h++[32]++w++[32]++u))):=by
 refine⟨strOf (h++[32]++w),strOf (h++[32]++w++[32]),ji _ _ (by simp;omega),ji _ _ (by simp;omega),ji _ _ (by simp;omega)⟩
theorem vS(h:kC a.row):∀w∈a.row,w.length<=40:=fun w hw=>(h.2.2 w hw).2.2.2.1
theorem RN(a b c k x y:Option D)(zs:List (List Nat×Int))(hn:(zs.map (·.1)).Nodup)(hz:∀z∈zs,Num z.2/\kC (AR.size z).row)(ys:List (List Nat×Int))(hy:∀z∈ys,z∈zs)(hl:ys.length<=100)(as:List AR)(ha:as.length<=1000)(w:Option D):∃w',forR (pG (.name 6)) (bq [] 1000 jP) (ys.map fun z=>wD z.1) [a,b,c,some (.lst true (as.map b8)),k,some (.pdc (kZ zs) (vZ zs)),w,x,y]=.nx [a,b,c,some (.lst true ((as++ys.map AR.size).map b8)),k,some (.pdc (kZ zs) (vZ zs)),w',x,y]:=by
 have hs:=szl;obtain⟨ZV,h1,w',rfl⟩:=eO (g:=pG (.name 6)) (b:=bq [] 1000 jP) (fun z:List Nat×Int=>wD z.1) ys
  (fun pre O=>∃w',O=[a,b,c,some (.lst true ((as++pre.map AR.size).map b8)),k,some (.pdc (kZ zs) (vZ zs)),w',x,y]) (by
  rintro pre z post hx O ⟨w',rfl⟩;have hm:z∈zs:=hy z (by rw[hx];simp);have hpl:pre.length<=100:=by rw[hx]at hl;simp at hl;omega
  obtain⟨n1,n2⟩:=hz z hm;have qg:=BA zs z hn hm;have qs:=mW z.2 n1;have fv:=vP zs;have lz:=vS n2;obtain⟨s1,s2,c1,c2,c3⟩:=RM fR z.1 (cR z.2) (by decide) (lz _ (by simp[AR.row])) (by have:=lz (cR z.2) (by simp[AR.row]);omega);rw[<-IQ,<-pq]at c3;have hll:((as++pre.map AR.size).map b8).length<aa:=by simp only[ah,az];omega
  have e:(as++(pre++[z]).map AR.size).map b8=(as++pre.map AR.size).map b8++[.str (i_ (.size z))]:=by simp;rfl
  refine⟨[a,b,c,some (.lst true ((as++pre.map AR.size).map b8)),k,some (.pdc (kZ zs) (vZ zs)),some (wD z.1),x,y],_,rfl,?_,some (wD z.1),rfl⟩;rw[e];unfold jP wD;generalize i_ (.size z)=X at c3 ⊢;generalize(as++pre.map AR.size).map b8=A at hll ⊢;generalize dj z.2=N at qs c3;simp_arith [qg,fv,qs,SO,IP,c1,c2,c3];rw[cB (xs:=A) rfl hll rfl];simp_arith []) [a,b,c,some (.lst true (as.map b8)),k,some (.pdc (kZ zs) (vZ zs)),w,x,y] ⟨w,by simp⟩
 exact⟨w',h1⟩
theorem RO(a b c x y:Option D)(P:List P2)(hz:∀p∈P,(p.2.map (·.1)).Nodup)(hk:∀p∈P,kC (AR.part p.1).row/\p.2.length<=4/\∀z∈p.2,Num z.2/\kC (AR.size z).row)(hl:P.length<=24)(k d w:Option D):∃k' d' w',forR (pG (.tup (.cons (.name 4) (.cons (.name 5) .nil)))) (bq [] 1000 jQ) (P.map gI) [a,b,c,some (.lst true []),k,d,w,x,y]=.nx [a,b,c,some (.lst true (((sP P).flatMap aT).map b8)),k',d',w',x,y]:=by
 have hs:=szl;obtain⟨ZV,h1,k',d',w',rfl⟩:=eO (g:=pG (.tup (.cons (.name 4) (.cons (.name 5) .nil)))) (b:=bq [] 1000 jQ) gI P
  (fun pre O=>∃k' d' w',O=[a,b,c,some (.lst true (((sP pre).flatMap aT).map b8)),k',d',w',x,y]) (by
  rintro pre p post hx O ⟨k',d',w',rfl⟩;have hm:p∈P:=by rw[hx];simp
  have hpl:pre.length<=24:=by rw[hx]at hl;simp at hl;omega
  obtain⟨z1,z2,z3⟩:=hk p hm;have hl0:=vR (sP pre) fun q hq=>by
   obtain⟨q0,h0,rfl⟩:=aV.mp hq;show(gp q0.2).length<=4;rw[mV];exact(hk q0 (by rw[hx];simp[h0])).2.1
  have lsp:(sP pre).length=pre.length:=by unfold sP;simp
  obtain⟨w2,q⟩:=RN a b c (some (wD p.1)) x y p.2 (hz p hm) z3 (gp p.2) (fun z hz=>Am.mp hz) (by rw[mV];omega) ((sP pre).flatMap aT++[.part p.1]) (by simp only[az,bU];omega) w';have e1:(sP (pre++[p])).flatMap aT=(sP pre).flatMap aT++[.part p.1]++(gp p.2).map .size:=by
   have:sP (pre++[p])=sP pre++[(p.1,gp p.2)]:=by unfold sP;simp
   rw[this,GH]
  have q1:=GD p.2;have q2:=Ed p.2 true (by omega) (hz p hm);have f1:=EW p.2;have f2:=EW (gp p.2);have o2:=NL (gp p.2);have fv:=vP p.2;have lp:=vS z1;have c1:jt .Add (.str (strOf (gc++[32]))) (.str (strOf p.1))=.ok (.str (i_ (.part p.1))):=ji _ _ (by have:=lp p.1 (by simp[AR.row]);simp[gc];omega);have hll:(((sP pre).flatMap aT).map b8).length<aa:=by simp only[ah];omega
  have ea:((sP pre).flatMap aT++[AR.part p.1]).map b8=((sP pre).flatMap aT).map b8++[.str (i_ (.part p.1))]:=by simp;rfl
  refine⟨[a,b,c,some (.lst true (((sP pre).flatMap aT).map b8)),some (wD p.1),some (.pdc (kZ p.2) (vZ p.2)),w',x,y],[a,b,c,some (.lst true (((sP (pre++[p])).flatMap aT).map b8)),some (wD p.1),some (.pdc (kZ p.2) (vZ p.2)),w2,x,y],?_,?_,_,_,_,rfl⟩
  ·unfold gI;simp_arith []
  ·rw[e1];rw[ea]at q;unfold jQ;generalize jP=B at q ⊢;generalize(((sP pre).flatMap aT++[AR.part p.1]++(gp p.2).map AR.size)).map b8=A' at q ⊢;generalize((sP pre).flatMap aT).map b8=A at q hll ⊢;generalize i_ (.part p.1)=X at q c1 ⊢;generalize(p.2.map fun z=>wD z.1)=W1 at q1 q2 f1 ⊢;generalize((gp p.2).map fun z=>wD z.1)=W2 at q q2 f2 o2 ⊢;unfold wD at q ⊢;simp_arith [SN,c1];rw[cB (xs:=A) rfl hll rfl];simp_arith [fv,q1,f1,q2,f2,o2,q]) [a,b,c,some (.lst true []),k,d,w,x,y] ⟨k,d,w,rfl⟩
 exact⟨k',d',w',h1⟩
theorem RP(a b c k d:Option D)(J:List J3)(hj:∀j∈J,(Num j.2.1/\Num j.2.2)/\kC (AR.join j).row)(hl:J.length<=24)(as:List AR)(ha:as.length<=1000)(w x y:Option D):∃w' x' y',forR (pG (.tup (.cons (.name 6) (.cons (.name 7) (.cons (.name 8) .nil))))) (bq [] 1000 jN) (J.map jD) [a,b,c,some (.lst true (as.map b8)),k,d,w,x,y]=.nx [a,b,c,some (.lst true ((as++J.map AR.join).map b8)),k,d,w',x',y']:=by
 have hs:=szl;obtain⟨ZV,h1,w',x',y',rfl⟩:=eO (g:=pG (.tup (.cons (.name 6) (.cons (.name 7) (.cons (.name 8) .nil))))) (b:=bq [] 1000 jN) jD J
  (fun pre O=>∃w' x' y',O=[a,b,c,some (.lst true ((as++pre.map AR.join).map b8)),k,d,w',x',y']) (by
  rintro pre j post hx O ⟨w',x',y',rfl⟩;have hm:j∈J:=by rw[hx];simp
  have hpl:pre.length<=24:=by rw[hx]at hl;simp at hl;omega
  obtain⟨⟨n1,n2⟩,n3⟩:=hj j hm;have q1:=mW j.2.1 n1;have q2:=mW j.2.2 n2;have lz:=vS n3;have l1:=lz j.1 (by simp[AR.row]);have l2:=lz (cR j.2.1) (by simp[AR.row]);have l3:=lz (cR j.2.2) (by simp[AR.row]);obtain⟨s1,s2,c1,c2,c3⟩:=RM dW j.1 (cR j.2.1) (by decide) l1 (by omega);rw[<-pq]at c3;obtain⟨s4,c4,c5⟩:∃s4,jt .Add (.str (strOf (dW++[32]++j.1++[32]++cR j.2.1))) (.str (strOf [32]))=.ok (.str s4)/\jt .Add (.str s4) (.str (dj j.2.2))=.ok (.str (i_ (.join j))):=by
   refine⟨strOf (dW++[32]++j.1++[32]++cR j.2.1++[32]),ji _ _ (by simp[dW];omega),?_⟩;rw[IT,pq];exact ji _ _ (by simp[dW];omega)
  have hll:((as++pre.map AR.join).map b8).length<aa:=by simp only[ah,az];omega
  have e:(as++(pre++[j]).map AR.join).map b8=(as++pre.map AR.join).map b8++[.str (i_ (.join j))]:=by simp;rfl
  refine⟨[a,b,c,some (.lst true ((as++pre.map AR.join).map b8)),k,d,some (wD j.1),some (.int j.2.1),some (.int j.2.2)],_,rfl,?_,some (wD j.1),some (.int j.2.1),some (.int j.2.2),rfl⟩;rw[e];unfold jN wD;generalize i_ (.join j)=X at c5 ⊢;generalize(as++pre.map AR.join).map b8=A at hll ⊢;generalize strOf (dW++[32]++j.1++[32]++cR j.2.1)=s3 at c3 c4;generalize dj j.2.1=N1 at q1 c3;generalize dj j.2.2=N2 at q2 c5;simp_arith [q1,q2,SQ,IP,c1,c2,c3,c4,c5];rw[cB (xs:=A) rfl hll rfl];simp_arith []) [a,b,c,some (.lst true (as.map b8)),k,d,w,x,y] ⟨w,x,y,by simp⟩
 exact⟨w',x',y',h1⟩
theorem RQ(a b c k d y:Option D)(S:List (List Nat×Int))(hj:∀z∈S,Num z.2/\kC (AR.step z).row)(hl:S.length<=24)(as:List AR)(ha:as.length<=1000)(w x:Option D):∃w' x',forR (pG (.tup (.cons (.name 6) (.cons (.name 7) .nil)))) (bq [] 1000 jM) (S.map zD) [a,b,c,some (.lst true (as.map b8)),k,d,w,x,y]=.nx [a,b,c,some (.lst true ((as++S.map AR.step).map b8)),k,d,w',x',y]:=by
 have hs:=szl;obtain⟨ZV,h1,w',x',rfl⟩:=eO (g:=pG (.tup (.cons (.name 6) (.cons (.name 7) .nil)))) (b:=bq [] 1000 jM) zD S
  (fun pre O=>∃w' x',O=[a,b,c,some (.lst true ((as++pre.map AR.step).map b8)),k,d,w',x',y]) (by
  rintro pre z post hx O ⟨w',x',rfl⟩;have hm:z∈S:=by rw[hx];simp
  have hpl:pre.length<=24:=by rw[hx]at hl;simp at hl;omega
  obtain⟨n1,n3⟩:=hj z hm;have q1:=mW z.2 n1;have lz:=vS n3;obtain⟨s1,s2,c1,c2,c3⟩:=RM eW z.1 (cR z.2) (by decide) (lz _ (by simp[AR.row])) (by have:=lz (cR z.2) (by simp[AR.row]);omega);rw[<-IS,<-pq]at c3;have hll:((as++pre.map AR.step).map b8).length<aa:=by simp only[ah,az];omega
  have e:(as++(pre++[z]).map AR.step).map b8=(as++pre.map AR.step).map b8++[.str (i_ (.step z))]:=by simp;rfl
  refine⟨[a,b,c,some (.lst true ((as++pre.map AR.step).map b8)),k,d,some (wD z.1),some (.int z.2),y],_,rfl,?_,some (wD z.1),some (.int z.2),rfl⟩;rw[e];unfold jM wD;generalize i_ (.step z)=X at c3 ⊢;generalize(as++pre.map AR.step).map b8=A at hll ⊢;generalize dj z.2=N at q1 c3;simp_arith [q1,SR,IP,c1,c2,c3];rw[cB (xs:=A) rfl hll rfl];simp_arith []) [a,b,c,some (.lst true (as.map b8)),k,d,w,x,y] ⟨w,x,by simp⟩
 exact⟨w',x',h1⟩
theorem NW(P:List P2)(J:List J3)(S:List (List Nat×Int))(hz:∀p∈P,(p.2.map (·.1)).Nodup)(h:xZ P J S)(h':xZ (sP P) (eX J) S):kI [.lst false (P.map gI),.lst false (J.map jD),.lst false (S.map zD)]=.ok (.str (txt (bP (sP P) (eX J) S))):=by
 have hp:=h'.p;have hj:=h'.j.1;have hs':=h'.s.1;have hl0:=vR (sP P) fun q hq=>(h'.k q hq).2.1;have hPl:P.length<=8:=h.p;obtain⟨k1,d1,w1,q1⟩:=RO (some (.lst false (P.map gI))) (some (.lst false (J.map jD))) (some (.lst false (S.map zD))) none none P hz h.k (by omega) none none none;obtain⟨w2,x2,y2,q2⟩:=RP (some (.lst false (P.map gI))) (some (.lst false (J.map jD))) (some (.lst false (S.map zD))) k1 d1 (eX J) h'.j.2 (by omega) ((sP P).flatMap aT) (by omega) w1 none none;obtain⟨w3,x3,q3⟩:=RQ (some (.lst false (P.map gI))) (some (.lst false (J.map jD))) (some (.lst false (S.map zD))) k1 d1 y2 S h.s.2 (by omega) ((sP P).flatMap aT++(eX J).map AR.join) (by simp only[az,ah];omega) w2 x2;have e:(sP P).flatMap aT++(eX J).map AR.join++S.map AR.step=bP (sP P) (eX J) S:=by unfold bP;rw[bS]
 rw[e]at q3;have hjl:=h.j.1;have qs:=xV J false (by omega);have fs2:=jF (eX J);have os2:=xX (eX J);have qf:=IU (bP (sP P) (eX J) S) h'.rows (by rw[<-e];simp only[az,ah];omega);have ff:=SV (bP (sP P) (eX J) S);have fp:=By P;have fj:=jF J;have fs:=iB S;unfold kI uw;rw[show zm=[]from rfl];generalize jQ=B4 at q1 ⊢;generalize jN=B2 at q2 ⊢;generalize jM=B1 at q3 ⊢;generalize txt (bP (sP P) (eX J) S)=T at qf ⊢;generalize(bP (sP P) (eX J) S).map b8=ZT at q3 qf ff ⊢;generalize((sP P).flatMap aT++(eX J).map AR.join).map b8=L2 at q2 q3 ⊢;generalize((sP P).flatMap aT).map b8=L1 at q1 q2 ⊢;generalize(eX J).map jD=J2 at q2 qs fs2 os2 ⊢;simp_arith [fp,fj,fs,q1,qs,fs2,os2,q2,q3,YU,ff,qf]
theorem U4(s:Int)(up:List (Option Nat)):gz s up=up.zipIdx.map fun x=>uU s x.2 x.1:=by
 unfold gz;rw[qO]
noncomputable def oQ(s:Int)(up:List (Option Nat)):List D:=up.zipIdx.map fun x=>D.str (nF x.2 s)
theorem IV(f:α->Str):∀(l:List α) (n:Nat),cA (l.map fun a=>D.str (f a)) n=true
|[],_=>rfl
|a::r,n=>by
 show(g6 (D.str (f a)) n&&cA (r.map fun a=>D.str (f a)) n)=true;rw[IV f r n];rfl
theorem IW(s:Int)(up:List (Option Nat)):e_ (oQ s up)=true:=IV _ _ _
theorem IX(s:Int)(up:List (Option Nat)):aA (oQ s up)=oQ s up:=c8 _ (fun _=>rfl) _
theorem RS(s:Int)(up:List (Option Nat))(k:Nat)(hk:k<25)(hu:up.length<=25):memD (.str (nF k s)) (oQ s up)=decide (k<up.length):=by
 unfold oQ;rw[Ai,eE,AA,decide_eq_true_eq];constructor
 ·rintro⟨⟨p,i⟩,hx,he⟩;rw[str_beq,decide_eq_true_eq]at he;have hi:=List.mem_zipIdx hx;have:=Rj (s:=s) (i:=i) (j:=k) (by omega) hk (iL he);omega
 ·intro h;refine⟨(up[k],k),?_,by rw[str_beq,decide_eq_true_eq]⟩;rw[List.mem_iff_getElem?];refine⟨k,?_⟩;rw[List.getElem?_zipIdx,aj h];simp
theorem GI(f:α->Str):∀(l:List α),bM (l.map fun a=>D.str (f a))=true
|[]=>rfl
|a::r=>by
 show(aL (D.str (f a))&&bM (r.map fun a=>D.str (f a)))=true;rw[GI f r];rfl
theorem GJ(s:Int)(up:List (Option Nat)):bM (oQ s up)=true:=GI _ _
theorem Eg(s:Int)(up:List (Option Nat)):∀Y,eK (pG (CG.name 0)) (fun _=>R.ok true) (pE Y ((CE.var 0).ix (CE.con (V.int 0)))) (gz s up) [none]=.ok (oQ s up):=by
 intro Y;rw[U4];exact fB (fun x:Option Nat×Nat=>uU s x.2 x.1) (fun O=>∃o,O=[o]) (fun x=>D.str (nF x.2 s)) up.zipIdx _ ⟨none,rfl⟩ (by
  rintro x _ O ⟨o,rfl⟩;refine⟨[some (uU s x.2 x.1)],rfl,⟨_,rfl⟩,?_⟩;unfold uU;simp_arith [wj])
theorem Ao:∀l:List Int,bM (l.map D.int)=true
|[]=>rfl
|a::r=>Ao r
theorem Aq(cells:List Int)(lo hi:Option Int):cut (cells.map D.int) lo hi=(cut cells lo hi).map D.int:=uS D.int cells lo hi
theorem qT(l:List α)(a b:Nat):(cut l (some (a:Int)) (some ((a:Int)+(b:Int)))).length<=b:=by
 have e:((a:Int)+(b:Int))=((a+b:Nat):Int):=by omega
 rw[e];unfold cut;rw[HT.n6,HT.n6,eT,dN];omega
theorem Yr(as:List AR):aA (as.map fun a=>gh a.row)=(as.map AR.row).map bX:=by
 rw[show(as.map fun a=>gh a.row)=(as.map AR.row).map gh by rw[bK];rfl];exact IC _
theorem Ys{s:Int}{up:List (Option Nat)}(hu:up.length<=12)(hP:WY s up.length P)(h8:P.length<=8)(hJ:NK (s / 5) P.length J)(h16:J.length<=16)(hS:W0 (s / 7) P.length S)(hs:S.length<=8):pZ (oQ s up) P J S where
 p8:=h8
 pk:=fun p hp=>by
  obtain⟨i,hi,e⟩:=hP.k p hp;rw[e];refine⟨tN i s,?_⟩;have:=RS s up i (by omega) (by omega);rw[decide_eq_true hi]at this;exact this
 pz:=fun p hp=>⟨(hP.z p hp).2,(hP.z p hp).1.1,(hP.z p hp).1.2⟩
 jl:=⟨h16,hJ.nd⟩
 jk:=fun j hj=>by
  obtain⟨⟨a,ha,e⟩,h1,h2⟩:=hJ.k j hj;exact⟨by rw[e];exact tN a _,h1,h2⟩
 sl:=hs
 sk:=fun z hz=>by
  obtain⟨⟨a,ha,e⟩,h1⟩:=hS z hz;exact⟨by rw[e];exact tN a _,h1⟩
theorem SW(T:pZ wk P J S):xZ P J S:=by
 have hr:∀a∈bP P J S,kC a.row:=fun a ha=>BB (oO T).1 a.row (gM ha);refine⟨T.p8,fun p hp=>⟨hr _ ?_,(T.pz p hp).1,fun z hz=>⟨((T.pz p hp).2.2 z hz).2,hr _ ?_⟩⟩,⟨T.jl.1,fun j hj=>⟨?_,hr _ ?_⟩⟩,⟨T.sl,fun z hz=>⟨kD T.p8 (T.sk z hz).2,hr _ ?_⟩⟩⟩
 ·exact aC _ (ku.mpr ⟨p,hp,ao⟩)
 ·exact aC _ (ku.mpr ⟨p,hp,ai _ (gM hz)⟩)
 ·have k3:=(T.jk j hj).2.2;simp only[aU]at k3;exact⟨kD T.p8 k3.1,kD T.p8 k3.2⟩
 ·exact aq _ (aC _ (gM hj))
 ·exact aq _ (aq _ (gM hz))
theorem GK(P:List P2):(sP P).length=P.length:=by unfold sP;simp
theorem Xc(T:pZ wk P J S):pZ wk (sP P) (eX J) S where
 p8:=by rw[GK];exact T.p8
 pk:=fun p hp=>by
  obtain⟨q,hq,rfl⟩:=aV.mp hp;exact T.pk q hq
 pz:=fun p hp=>by
  obtain⟨q,hq,rfl⟩:=aV.mp hp;obtain⟨h1,h2,h3⟩:=T.pz q hq;exact⟨by show(gp q.2).length<=4;rw[mV];exact h1,UO h2,fun z hz=>h3 z (Am.mp hz)⟩
 jl:=⟨by rw[mV];exact T.jl.1,UP T.jl.2⟩
 jk:=fun j hj=>by rw[GK];exact T.jk j (RA.mp hj)
 sl:=T.sl
 sk:=fun z hz=>by rw[GK];exact T.sk z hz
theorem sP2(P:List P2):sP (sP P)=sP P:=by
 unfold sP;rw[bK];refine kQ fun p _=>?_;show(p.1,gp (gp p.2))=_;rw[Yn]
mutual
theorem NX:∀(d:D) (n:Nat),g6 d n=true->iF d (br d)=true
|.non,_,_=>rfl
|.bl b,_,_=>by show(b==b)=true;simp
|.int i,_,_=>by show(i==i)=true;simp
|.str x,_,_=>beq_self_eq_true x
|.lst _ _,0,h=>by cases h
|.lst _ xs,n+1,h=>CD xs n h
|.tup _,0,h=>by cases h
|.tup xs,n+1,h=>CD xs n h
|.bY _ _ _,_,h=>by cases h
|.pdc _ _,_,h=>by cases h
|.cst _,_,h=>by cases h
theorem CD:∀(ds:List D) (n:Nat),cA ds n=true->lQ ds (aA ds)=true
|[],_,_=>rfl
|d::r,n,h=>by
 have h:(g6 d n&&cA r n)=true:=h;rw[aU]at h;show(iF d (br d)&&lQ r (aA r))=true;rw[NX d n h.1,CD r n h.2];rfl
end
noncomputable abbrev qi(P:List P2)(J:List J3)(S:List (List Nat×Int)):D:=.tup [.lst false (P.map pF),.lst false (J.map jD),.lst false (S.map zD)]
theorem EX(P:List P2)(J:List J3)(S:List (List Nat×Int)):br (l0 P J S)=qi P J S:=by
 show D.tup [.lst false (aA (P.map pD)),.lst false (aA (J.map jD)),.lst false (aA (S.map zD))]=_;rw[tO,jF,iB]
theorem Xd(P:List P2)(J:List J3)(S:List (List Nat×Int)):aL (l0 P J S)=true:=by
 show((true&&bM (P.map pD))&&((true&&bM (J.map jD))&&((true&&bM (S.map zD))&&true)))=true;rw[GB,xX,xW];rfl
theorem nK(f:α->D)(n:Nat)(h:∀a,g6 (f a) n=true):∀l:List α,cA (l.map f) n=true
|[]=>rfl
|a::r=>by
 show(g6 (f a) n&&cA (r.map f) n)=true;rw[h a,nK f n h r];rfl
theorem Ku(P:List P2)(J:List J3)(S:List (List Nat×Int)):cF (qi P J S)=true:=by
 have h1:=nK pF 10 (fun p=>by
  show(g6 (wD p.1) 9&&(cA (p.2.map zD) 8&&true))=true;rw[nK zD 8 (fun _=>rfl)];rfl) P
 have h2:=nK jD 10 (fun _=>rfl) J;have h3:=nK zD 10 (fun _=>rfl) S;show(cA (P.map pF) 10&&(cA (J.map jD) 10&&(cA (S.map zD) 10&&true)))=true;rw[h1,h2,h3];rfl
theorem Xe(P:List P2)(J:List J3)(S:List (List Nat×Int)):cF (l0 P J S)=true:=by
 have h1:=nK pD 10 (fun p=>by
  show(g6 (wD p.1) 9&&(cA (p.2.map zD) 8&&true))=true;rw[nK zD 8 (fun _=>rfl)];rfl) P
 have h2:=nK jD 10 (fun _=>rfl) J;have h3:=nK zD 10 (fun _=>rfl) S;show(cA (P.map pD) 10&&(cA (J.map jD) 10&&(cA (S.map zD) 10&&true)))=true;rw[h1,h2,h3];rfl
theorem Kv(d:D)(h:cF d=true)(h':cF (br d)=true):cL .NotEq d (br d)=.ok (.bl false)/\cL .Eq d (br d)=.ok (.bl true):=by
 have e:=NX d 12 h;exact⟨by rw[Cr h h',e];rfl,by rw[Cq h h',e]⟩
theorem NY(P:List P2)(J:List J3)(S:List (List Nat×Int)):(cL .NotEq (l0 P J S) (qi P J S)=.ok (.bl false)/\cL .Eq (l0 P J S) (qi P J S)=.ok (.bl true))/\cL .NotEq (qi P J S) (qi P J S)=.ok (.bl false)/\br (qi P J S)=qi P J S:=by
 have f:=EX P J S;have f2:br (qi P J S)=qi P J S:=by rw[<-f];exact Cg _
 refine⟨?_,?_,f2⟩
 ·rw[<-f];exact Kv _ (Xe P J S) (by rw[f];exact Ku P J S)
 ·have:=(Kv (qi P J S) (Ku P J S) (by rw[f2];exact Ku P J S)).1;rw[f2]at this;exact this
theorem IY(W:Str):cL .NotEq (.str W) (.str W)=.ok (.bl false)/\cL .Eq (.str W) (.str W)=.ok (.bl true):=Kv (.str W) rfl rfl
theorem NZ{n:Nat}{s:CS}{r:bW}:bq Y n (.chg s r) O=uq (um Y s O) (bq Y n r):=by
 show(match um Y s O with|.nx ZV=>bq Y n r ZV|x=>x)=_;unfold uq;cases um Y s O<;>rfl
theorem Xf(Q:List D)(B C k d:D)(zs:List D)(n:Nat)(h:Q[n]?=some (.tup [k,.lst true zs]))(hz:zs.length<=1000):cG ([0]++(n:Int)::[1]) (.tup [.lst true Q,B,C]) d=some (.tup [.lst true (Q.set n (.tup [k,.lst true (zs++[d])])),B,C]):=by
 have hs:=szl;have hn:n<Q.length:=by
  by_cases c:n<Q.length
  ·exact c
  ·rw[m5 (by omega)]at h;cases h
 have e1:cG [1] (.tup [k,.lst true zs]) d=some (.tup [k,.lst true (zs++[d])]):=by
  show(if zs.length<aa then some (D.lst true (zs++[d]))else none).map (fun y'=>D.tup [k,y'])=_;rw[if_pos (by omega)];rfl
 have e2:cG [(n:Int),1] (.lst true Q) d=some (.lst true (Q.set n (.tup [k,.lst true (zs++[d])]))):=by
  show((fL Q.length (n:Int)).bind fun m=>(Q[m]?).bind fun y=>(cG [1] y d).map fun y'=>D.lst true (Q.set m y'))=_;rw[show fL Q.length (n:Int)=some n by unfold fL;simp[hn]];show(Q[n]?).bind _=_;rw[h];show(cG [1] (.tup [k,.lst true zs]) d).map _=_;rw[e1];rfl
 show(cG [(n:Int),1] (.lst true Q) d).map (fun y'=>D.tup [y',B,C])=_;rw[e2];rfl
theorem SX{a:CE}{d:D}(ho:aL d=true)(B C:D)(s0 s1 s2 s3 s4 s5 s6 s7 s9 s10 s11 s12:Option D)(hd:∀x,pE Y a [s0,s1,s2,s3,s4,s5,s6,s7,x,s9,s10,s11,s12]=.ok d):∀(m n:Nat) (Q:List D),Q.length=n+m->(∀i,n<=i->i<Q.length->∃k zs,Q[i]?=some (.tup [k,.lst true zs])/\zs.length<=1000)->∃Q',pW Y a 8 [0] [1] m n [s0,s1,s2,s3,s4,s5,s6,s7,some (.tup [.lst true Q,B,C]),s9,s10,s11,s12]=.nx [s0,s1,s2,s3,s4,s5,s6,s7,some (.tup [.lst true Q',B,C]),s9,s10,s11,s12]
|0,n,Q,_,_=>⟨Q,rfl⟩
|m+1,n,Q,hl,hq=>by
 obtain⟨k,zs,e,hz⟩:=hq n (aB _) (by omega);obtain⟨Q',r⟩:=SX ho B C s0 s1 s2 s3 s4 s5 s6 s7 s9 s10 s11 s12 hd m (n+1) (Q.set n (.tup [k,.lst true (zs++[d])])) (by rw[nP];omega) (fun i h1 h2=>by
  rw[nP]at h2;rw[bR (by omega)];exact hq i (by omega) h2)
 refine⟨Q',?_⟩;show(pE Y a _).ju false _=_;rw[hd];show(if aL d=true then(R.opt (cG ([0]++(n:Int)::[1]) (.tup [.lst true Q,B,C]) d)).a7 (fun x'=>pW Y a 8 [0] [1] m (n+1) [s0,s1,s2,s3,s4,s5,s6,s7,some x',s9,s10,s11,s12])else .bad)=_;rw[if_pos ho,Xf Q B C k d zs n e hz];exact r
noncomputable abbrev GL:List PG:=[.fn ic [],.fn g7 [],.fn kI [],.fn lG [],.fn qU [],.fn rX [],.fn oZ [],.fn jS [],.fn o7 [],.fn o8 [],.fn o9 [],.fn o_ [],.fn rY []]
noncomputable abbrev IZ:CE:=.tup (.cons (.con (.str "zz")) (.cons (.lst .nil) .nil))
noncomputable abbrev YV:CE:=.tup (.cons (.con (.str "zz")) (.cons (.con (.int 1)) .nil))
noncomputable abbrev x_:D:=.tup [.str "zz",.lst true []]
noncomputable abbrev YW:D:=.tup [.str "zz",.int 1]
theorem Yt(O:bf):pE GL IZ O=.ok x_:=by
 have hs:=szl;simp_arith []
theorem Yu(O:bf):pE GL YV O=.ok YW:=by
 have hs:=szl;simp_arith []
theorem Yv(A:List D)(b c d:D)(h:A.length<=1000):cG ([]++((0:Nat):Int)::[]) (.tup [.lst true A,b,c]) d=some (.tup [.lst true (A++[d]),b,c]):=by
 have hs:=szl;show(if A.length<aa then some (D.lst true (A++[d]))else none).map (fun y'=>D.tup [y',b,c])=_;rw[if_pos (by omega)];rfl
theorem Yw(A:List D)(b c d:D)(h:A.length<=1000):cG ([]++((1:Nat):Int)::[]) (.tup [b,.lst true A,c]) d=some (.tup [b,.lst true (A++[d]),c]):=by
 have hs:=szl;show(if A.length<aa then some (D.lst true (A++[d]))else none).map (fun y'=>D.tup [b,y',c])=_;rw[if_pos (by omega)];rfl
theorem Yx(A:List D)(b c d:D)(h:A.length<=1000):cG ([]++((2:Nat):Int)::[]) (.tup [b,c,.lst true A]) d=some (.tup [b,c,.lst true (A++[d])]):=by
 have hs:=szl;show(if A.length<aa then some (D.lst true (A++[d]))else none).map (fun y'=>D.tup [b,c,y'])=_;rw[if_pos (by omega)];rfl
section
variable(s0 s1 s2 s3 s4 s5 s6 s7 s9 s10 s11 s12:Option D)
theorem Yy(A B C:List D)(hA:A.length<=1000)(hB:B.length<=1000)(hC:C.length<=1000):um GL (.forr (.name 11) (.seq (.var 8)) Ad) [s0,s1,s2,s3,s4,s5,s6,s7,some (.tup [.lst true A,.lst true B,.lst true C]),s9,s10,s11,s12]=.nx [s0,s1,s2,s3,s4,s5,s6,s7,some (.tup [.lst true (A++[x_]),.lst true (B++[x_]),.lst true (C++[x_])]),s9,s10,none,s12]:=by
 have step:∀(m n:Nat) (x x':D),cG ([]++(n:Int)::[]) x x_=some x'->pW GL IZ 8 [] [] (m+1) n [s0,s1,s2,s3,s4,s5,s6,s7,some x,s9,s10,none,s12]=pW GL IZ 8 [] [] m (n+1) [s0,s1,s2,s3,s4,s5,s6,s7,some x',s9,s10,none,s12]:=by
  intro m n x x' e;show(pE GL IZ _).ju false _=_;rw[Yt];show(if aL x_=true then(R.opt (cG ([]++(n:Int)::[]) x x_)).a7 (fun x'=>pW GL IZ 8 [] [] m (n+1) [s0,s1,s2,s3,s4,s5,s6,s7,some x',s9,s10,none,s12])else .bad)=_;rw[if_pos (show aL x_=true from rfl),e];rfl
 show pW GL IZ 8 [] [] 3 0 [s0,s1,s2,s3,s4,s5,s6,s7,some (.tup [.lst true A,.lst true B,.lst true C]),s9,s10,none,s12]=_;rw[step 2 0 _ _ (Yv A _ _ _ hA),step 1 1 _ _ (Yw B _ _ _ hB),step 0 2 _ _ (Yx C _ _ _ hC)];rfl
theorem Yz(Q B C:List D)(hQ:∀i,i<Q.length->∃k zs,Q[i]?=some (.tup [k,.lst true zs])/\zs.length<=1000):∃Q',um GL (.forr (.name 12) (.seq (.ix (.var 8) (.con (.int 0)))) Ac) [s0,s1,s2,s3,s4,s5,s6,s7,some (.tup [.lst true Q,.lst true B,.lst true C]),s9,s10,s11,s12]=.nx [s0,s1,s2,s3,s4,s5,s6,s7,some (.tup [.lst true Q',.lst true B,.lst true C]),s9,s10,s11,none]:=by
 obtain⟨Q',r⟩:=SX (Y:=GL) (a:=YV) (d:=YW) rfl (.lst true B) (.lst true C) s0 s1 s2 s3 s4 s5 s6 s7 s9 s10 s11 none (fun x=>Yu _) Q.length 0 Q (by omega) (fun i _ h=>hQ i h);exact⟨Q',r⟩
end
noncomputable def oR:Nat->bW->bW
|n+1,.cons _ r=>oR n r
|_,c=>c
theorem YA(s0 s1 s2:Option D)(o3:Bool)(K:List D)(fK:aA K=K)(s4 s5 s6:Option D)(x W:Str)(P:List P2)(J:List J3)(S:List (List Nat×Int))(h:xZ P J S)(q1:g7 [.lst false K,.str x]=.ok (l0 P J S))(q0:ic [qi P J S]=.ok (.str W)):bq GL 1000 (oR 12 nC) [s0,s1,s2,some (.lst o3 K),s4,s5,s6,some (.str x),some (l0 P J S),some (l0 P J S),some (.str W),none,none]=.rt (.bl true):=by
 have hp:=h.p;have hj:=h.j.1;have hs':=h.s.1;have c1:=Yy s0 s1 s2 (some (.lst o3 K)) s4 s5 s6 (some (.str x)) (some (l0 P J S)) (some (.str W)) none none (P.map pD) (J.map jD) (S.map zD) (by simp;omega) (by simp;omega) (by simp;omega);obtain⟨Q',c2⟩:=Yz s0 s1 s2 (some (.lst o3 K)) s4 s5 s6 (some (.str x)) (some (l0 P J S)) (some (.str W)) none none (P.map pD++[x_]) (J.map jD++[x_]) (S.map zD++[x_]) (fun i hi=>by
  by_cases c:i<P.length
  ·refine⟨wD P[i].1,P[i].2.map zD,?_,by have:=(h.k P[i] (gQ c)).2.1;simp;omega⟩;rw[eB (by simpa using c),aX,aj c];rfl
  ·obtain rfl:i=P.length:=by simp at hi;omega
   refine⟨.str "zz",[],?_,by simp⟩;rw[cC (by simp)];simp)
 have ft:=EX P J S;obtain⟨⟨_,nt⟩,_,fY⟩:=NY P J S;have ns:=(IY W).2;have e1:oR 12 nC=.chg (.forr (.name 11) (.seq (.var 8)) Ad) (oR 0 (.chg (.forr (.name 12) (.seq (.ix (.var 8) (.con (.int 0)))) Ac) (.cons (.ret (.and (.cmp .Eq (.call 1 (.cons (.blt .list (.cons (.var 3) .nil)) (.cons (.var 7) .nil))) (.var 9)) (.cmp .Eq (.call 0 (.cons (.var 9) .nil)) (.var 10)))) .nil))):=rfl;rw[e1,NZ];rw[show l0 P J S=.tup [.lst true (P.map pD),.lst true (J.map jD),.lst true (S.map zD)]from rfl]at c1 c2 ft q1 nt ⊢;rw[c1];show bq GL 1000 (.chg _ _) _=_;rw[NZ,c2];show bq GL 1000 (.cons (.ret _) .nil) _=_;generalize(D.tup [.lst true (P.map pD),.lst true (J.map jD),.lst true (S.map zD)])=X at ft q1 nt ⊢;generalize qi P J S=ZS at ft q0 nt fY ⊢;simp_arith [fK,q1,ft,nt,fY,q0,ns]
theorem YB(s0 s1 s2:Option D)(o3 o4 o5 o6:Bool)(K PP JJ SS:List D)(fK:aA K=K)(fP:aA PP=PP)(fJ:aA JJ=JJ)(fS:aA SS=SS)(x W:Str)(P:List P2)(J:List J3)(S:List (List Nat×Int))(h:xZ P J S)
  (q1:g7 [.lst false K,.str x]=.ok (l0 P J S)) (q4:qU [.lst false PP,.lst false JJ,.lst false SS]=.ok (l0 P J S)) (q3:lG [qi P J S]=.ok (.bl true)) (q0:ic [qi P J S]=.ok (.str W)) (q2:kI [.lst false PP,.lst false JJ,.lst false SS]=.ok (.str W)) (q5:g7 [.lst false K,.str W]=.ok (l0 P J S)) :
  bq GL 1000 (oR 7 nC) [s0,s1,s2,some (.lst o3 K),some (.lst o4 PP),some (.lst o5 JJ),some (.lst o6 SS),some (.str x),none,none,none,none,none]=.rt (.bl true):=by
 have hc:=YA s0 s1 s2 o3 K fK (some (.lst o4 PP)) (some (.lst o5 JJ)) (some (.lst o6 SS)) x W P J S h q1 q0;have ft:=EX P J S;have ot:=Xd P J S;obtain⟨⟨n1,_⟩,n2,fY⟩:=NY P J S;have ns:=(IY W).1;have e1:oR 7 nC=.cons (.asg (.name 8) (.call 1 (.cons (.blt .list (.cons (.var 3) .nil)) (.cons (.var 7) .nil)))) (.cons (.asg (.name 9) (.call 4 (.cons (.var 4) (.cons (.var 5) (.cons (.var 6) .nil))))) (.cons (.ifs (.or (.not (.call 3 (.cons (.var 8) .nil))) (.cmp .NotEq (.var 8) (.var 9))) (.cons (.ret (.con (.bl false))) .nil) .nil) (.cons (.asg (.name 10) (.call 0 (.cons (.var 8) .nil))) (.cons (.ifs (.or (.cmp .NotEq (.var 10) (.call 2 (.cons (.var 4) (.cons (.var 5) (.cons (.var 6) .nil))))) (.or (.cmp .NotEq (.var 8) (.var 9)) (.cmp .NotEq (.call 1 (.cons (.blt .list (.cons (.var 3) .nil)) (.cons (.var 10) .nil))) (.var 9)))) (.cons (.ret (.con (.bl false))) .nil) .nil) (oR 12 nC))))):=rfl;rw[e1];generalize oR 12 nC=R at hc ⊢;generalize l0 P J S=X at hc q1 q4 q5 ft ot n1;generalize qi P J S=ZS at q3 q0 ft n1 n2 fY;simp_arith [fK,fP,fJ,fS,q1,q4,ot,ft,fY,q3,n2,q0,q2,ns,q5,n1,hc]
theorem N3(as:List AR):(as.map AR.row).map bX=as.map aZ:=by rw[bK];rfl
theorem fin(ns:List Int)(hn:ns.length<=63):J5 [oz ns]=.ok (.bl true):=by
 have hs:=szl;obtain⟨s,s0,s1,qs⟩:=WI ns hn 487654321987654321 ⟨by decide,by decide⟩;have e63:cut ns none (some 63)=ns:=by
  have:=Ag ns 63;rw[cu hn]at this;exact this
 have hl:(ns++[s / 3,s / 5,s / 7,s / 11]).length=ns.length+4:=by simp
 have ec:ns.map D.int++[.int (s / 3),.int (s / 5),.int (s / 7),.int (s / 11)]=(ns++[s / 3,s / 5,s / 7,s / 11]).map D.int:=by rw[a_];rfl
 have lc:(ns.map D.int).length+4<=aa:=by rw[ah];omega
 generalize ns++[s / 3,s / 5,s / 7,s / 11]=cells at ec hl;have b6:=bZ (s / 13) (b:=6) (by decide);obtain⟨c,hc1,hc2,ecc⟩:∃c:Nat,1<=c/\c<=6/\1+s / 13%6=(c:Int):=⟨(1+s / 13%6).toNat,by omega,by omega,by omega⟩;have hcut:cut (cells.map D.int) none (some (c:Int))=(cells.take c).map D.int:=by rw[uS,Ag]
 have ht:1<=(cells.take c).length/\(cells.take c).length<=6:=by rw[eT];omega
 generalize cells.take c=sub at hcut ht;obtain⟨up,hg,hup,qk⟩:=UE sub false s (by omega) s0;have ok:bM (gz s up)=true:=jU _ fun d hd=>by
  unfold gz at hd;rw[qO]at hd;obtain⟨x,_,rfl⟩:=aV.mp hd;rfl
 have fK:=vK s up;have b9:=bZ (s / 78) (b:=9) (by decide);obtain⟨p,hp,ep⟩:∃p:Nat,p<=8/\s / 78%9=(p:Int):=⟨(s / 78%9).toNat,by omega,by omega⟩;have cp:=Aq cells (some 2) (some (2+(p:Int)));have lp:=qT cells 2 p;have lp:(cut cells (some 2) (some (2+(p:Int)))).length<=p:=lp;generalize cut cells (some 2) (some (2+(p:Int)))=cP at cp lp;obtain⟨P,pok,pl,qp⟩:=UR s s0 up (by omega) (by omega) cP (by omega);have b17:=bZ (s / 702) (b:=17) (by decide);obtain⟨j,hj,ej⟩:∃j:Nat,j<=16/\s / 702%17=(j:Int):=⟨(s / 702%17).toNat,by omega,by omega⟩;have cj:=Aq cells (some 3) (some (3+(j:Int)));have lj:(cut cells (some 3) (some (3+(j:Int)))).length<=j:=qT cells 3 j;generalize cut cells (some 3) (some (3+(j:Int)))=cJ at cj lj;obtain⟨J,jok,jl,qj⟩:=UT s s0 P.length (by omega) cJ (by omega);have c9:=bZ (s / 11934) (b:=9) (by decide);obtain⟨t,ht',et⟩:∃t:Nat,t<=8/\s / 11934%9=(t:Int):=⟨(s / 11934%9).toNat,by omega,by omega⟩;have ct:=Aq cells (some 1) (some (1+(t:Int)));have lt:(cut cells (some 1) (some (1+(t:Int)))).length<=t:=qT cells 1 t;generalize cut cells (some 1) (some (1+(t:Int)))=cS at ct lt;obtain⟨S,sok,sl,qt⟩:=UU s s0 P.length (by omega) cS (by omega);have T:=Ys (s:=s) (up:=up) (by omega) pok (by omega) jok (by omega) sok (by omega);have zok:∀p∈P,xY p.2/\p.2.length<=4:=fun p hp=>pok.z p hp;have W:=SW T;have T':=Xc T;have W':=SW T';have qr:=GC P J S zok (by omega) (fun j hj=>(W.j.2 j hj).1) (by omega) (fun z hz=>(W.s.2 z hz).1) (by omega);obtain⟨as,qm,va,ra,la⟩:=UY T (s / 17) (by omega);obtain⟨x,qx,tx,lx,_⟩:=WL (as.map AR.row) (s / 19) (by omega) (by omega) (by rw[ah];exact la) (BB va);rw[N3]at qx;have frw:=(Yr (bP P J S)).trans (N3 _);have fm:=oF as;have r1:=NI x (gz s up) (oQ s up) fK (Eg s up) (IX s up) (GJ s up) (IW s up) as va lx tx P J S ra;obtain⟨tr,tl⟩:=RL (bP (sP P) (eX J) S) W'.rows (by
  have:=Ef (sP P) (eX J) S T'.p8 (fun p hp=>(T'.pz p hp).1) T'.jl.1 T'.sl;omega)
 have r2:=NI (txt (bP (sP P) (eX J) S)) (gz s up) (oQ s up) fK (Eg s up) (IX s up) (GJ s up) (IW s up) _ (oO T').1 tl tr (sP P) (eX J) S (oO T').2;rw[sP2,Yo]at r2;have d1:=Yq P J S zok (by omega) (by omega);have f1:=RI (sP P) (eX J) S (by rw[mV];omega) (by omega);rw[EX]at f1;have w1:=U3 (sP P) (eX J) S W';have w2:=NW P J S (fun p hp=>(zok p hp).1.1) W W';have hb:=fun a b c o3 o4 o5 o6=>YB a b c o3 o4 o5 o6 (gz s up) (P.map gI) (J.map jD) (S.map zD) fK (By P) (jF J) (iB S) x _ (sP P) (eX J) S W' r1 d1 f1 w1 w2 r2;have e1:nC=.cons (.asg (.name 1) (.call 12 (.cons (.var 0) (.cons (.con (.int 487654321987654321)) .nil)))) (.cons (.asg (.name 2) (.bin .Add (.sl (.var 0) .none (.some (.con (.int 63)))) (.lst (.cons (.bin .FloorDiv (.var 1) (.con (.int 3))) (.cons (.bin .FloorDiv (.var 1) (.con (.int 5))) (.cons (.bin .FloorDiv (.var 1) (.con (.int 7))) (.cons (.bin .FloorDiv (.var 1) (.con (.int 11))) .nil))))))) (.cons (.asg (.name 3) (.call 11 (.cons (.sl (.var 2) .none (.some (.bin .Add (.con (.int 1)) (.bin .Mod (.bin .FloorDiv (.var 1) (.con (.int 13))) (.con (.int 6)))))) (.cons (.var 1) .nil)))) (.cons (.asg (.name 4) (.call 10 (.cons (.var 3) (.cons (.sl (.var 2) (.some (.con (.int 2))) (.some (.bin .Add (.con (.int 2)) (.bin .Mod (.bin .FloorDiv (.var 1) (.con (.int 78))) (.con (.int 9)))))) (.cons (.var 1) .nil))))) (.cons (.asg (.name 5) (.call 9 (.cons (.blt .len (.cons (.var 4) .nil)) (.cons (.sl (.var 2) (.some (.con (.int 3))) (.some (.bin .Add (.con (.int 3)) (.bin .Mod (.bin .FloorDiv (.var 1) (.con (.int 702))) (.con (.int 17)))))) (.cons (.var 1) .nil))))) (.cons (.asg (.name 6) (.call 8 (.cons (.blt .len (.cons (.var 4) .nil)) (.cons (.sl (.var 2) (.some (.con (.int 1))) (.some (.bin .Add (.con (.int 1)) (.bin .Mod (.bin .FloorDiv (.var 1) (.con (.int 11934))) (.con (.int 9)))))) (.cons (.var 1) .nil))))) (.cons (.asg (.name 7) (.call 5 (.cons (.call 6 (.cons (.call 7 (.cons (.var 4) (.cons (.var 5) (.cons (.var 6) .nil)))) (.cons (.bin .FloorDiv (.var 1) (.con (.int 17))) .nil))) (.cons (.bin .FloorDiv (.var 1) (.con (.int 19))) .nil)))) (oR 7 nC))))))):=rfl;unfold J5 oz;unfold oz at qs;rw[e1];show d_ GL _ _ _ _ _=_;generalize oR 7 nC=R at hb ⊢;have fp:=By P;have fj:=jF J;have fs:=iB S;have oj:=xX J;have os:=xW S;have lpp:(P.map gI).length=P.length:=ah _;cases ha:bM (P.map gI)with
 |true=>
  simp_arith [fZ,qs,uS,e63,ec,Ao,ecc,hcut,qk,ok,ep,cp,fK,qp,lpp,ej,cj,fp,qj,oj,et,ct,qt,os,fj,fs,qr,frw,qm,fm,qx,hb,ha]
 |false=>
  simp_arith [fZ,qs,uS,e63,ec,Ao,ecc,hcut,qk,ok,ep,cp,fK,qp,lpp,ej,cj,fp,qj,oj,et,ct,qt,os,fj,fs,qr,frw,qm,fm,qx,hb,ha]
end K2
end
namespace Fin
open PySem L2 L3 Tr
section
variable{P:bx}{w:bL}{K:PySem.W.Frag}{mg:Str->Option Value}
structure Hy (P:bx) (w:bL) (K:PySem.W.Frag) (mg:Str->Option Value) (a_KEPT_WORDS:Addr):Prop where
 z:∀x∈BN,mg x=none
 D_law:DI K mg tK
 D_write_thing:DI K mg we
 D_read_thing:DI K mg xR
 D_rows_in:DI K mg DV
 D_words_in:DI K mg Bp
 D_part_in:DI K mg DX
 D_is_word:DI K mg DW
 D_all_within:DI K mg xP
 D_size_in:DI K mg DY
 D_numbers_behind:DI K mg rZ
 D_number_in:DI K mg zo
 D_is_figures:DI K mg xQ
 D_join_in:DI K mg DZ
 D_refuse_no_part:DI K mg r9
 D_step_in:DI K mg D0
 D_l_written:DI K mg zp
 D_l_formed:DI K mg Bq
 D_l_due:DI K mg Io
 D_l_text:DI K mg Gk
 D_l_mix:DI K mg Ip
 D_l_mixed:DI K mg D3
 D_l_thing_rows:DI K mg uR
 D_l_steps:DI K mg D4
 D_l_name:DI K mg Gm
 D_l_joins:DI K mg D5
 D_l_parts:DI K mg D6
 D_l_number:DI K mg Br
 D_l_kinds:DI K mg D7
 D_l_salt:DI K mg Gn
 V_MOST_PARTS:∃u,mg "MOST_PARTS"=some u/\RelV (V.int 8) u
 V_KEPT_WORDS:mg "KEPT_WORDS"=some (.ref a_KEPT_WORDS)/\HX K a_KEPT_WORDS true [.str "a",.str "an",.str "the",.str "said",.str "claim",.str "on",.str "or",.str "then",.str "from",.str "to",.str "of",.str "at",.str "least",.str "most",.str "just",.str "is"]
 V_MOST_LETTERS:∃u,mg "MOST_LETTERS"=some u/\RelV (V.int 8) u
 V_MOST_SIZES:∃u,mg "MOST_SIZES"=some u/\RelV (V.int 4) u
 V_MOST_FIGURES:∃u,mg "MOST_FIGURES"=some u/\RelV (V.int 30) u
 V_MOST_JOINS:∃u,mg "MOST_JOINS"=some u/\RelV (V.int 16) u
 V_MOST_STEPS:∃u,mg "MOST_STEPS"=some u/\RelV (V.int 8) u
variable{base:Heap}{a_KEPT_WORDS:Addr} (Z:Hy P w K mg a_KEPT_WORDS)
include Z
theorem CF:i9 P w K mg base 1 "write_thing" ic:=fD (k:=0) Z.D_write_thing En Z.z gN
theorem Hs:i9 P w K mg base 1 "words_in" qL:=fD (k:=0) Z.D_words_in J6 Z.z gN
theorem Kw:i9 P w K mg base 2 "rows_in" lu:=fD (k:=1) Z.D_rows_in M5 Z.z (gF (Hs Z) gN)
theorem wo:i9 P w K mg base 1 "all_within" ly:=fD (k:=0) Z.D_all_within Gh Z.z gN
theorem BD:i9 P w K mg base 2 "is_word" mT:=fD (k:=1) Z.D_is_word M6 Z.z (gT Z.V_KEPT_WORDS ⟨a_KEPT_WORDS,_,rfl,Z.V_KEPT_WORDS.2,by decide +kernel,by repeat (first|exact rfl|refine⟨_,_,rfl,⟨rfl,by decide +kernel⟩,?_⟩|refine⟨_,_,rfl,rfl,?_⟩)⟩ (gF (wo Z) (gV Z.V_MOST_LETTERS rfl gN)))
theorem Ky:i9 P w K mg base 3 "part_in" je:=fD (k:=2) Z.D_part_in M7 Z.z (gV Z.V_MOST_PARTS rfl (gF (BD Z) gN))
theorem Ep:i9 P w K mg base 2 "is_figures" nD:=fD (k:=1) Z.D_is_figures Gi Z.z (gF (wo Z) (gV Z.V_MOST_FIGURES rfl gN))
theorem GN:i9 P w K mg base 3 "number_in" fQ:=fD (k:=2) Z.D_number_in Hl Z.z (gF (Ep Z) gN)
theorem lS:i9 P w K mg base 4 "numbers_behind" dH:=fD (k:=3) Z.D_numbers_behind Ae Z.z (gF (GN Z) (gF (BD Z) gN))
theorem Kz:i9 P w K mg base 5 "size_in" jf:=fD (k:=4) Z.D_size_in M8 Z.z (gV Z.V_MOST_SIZES rfl (gF (lS Z) gN))
theorem ql:i9 P w K mg base 1 "refuse_no_part" fX:=fD (k:=0) Z.D_refuse_no_part Af Z.z gN
theorem KA:i9 P w K mg base 5 "join_in" jg:=fD (k:=4) Z.D_join_in M9 Z.z (gV Z.V_MOST_JOINS rfl (gF (ql Z) (gF (lS Z) gN)))
theorem KC:i9 P w K mg base 5 "step_in" jh:=fD (k:=4) Z.D_step_in M_ Z.z (gV Z.V_MOST_STEPS rfl (gF (ql Z) (gF (lS Z) gN)))
theorem Er:i9 P w K mg base 6 "read_thing" g7:=fD (k:=5) Z.D_read_thing Gj Z.z (gF (Kw Z) (gF (Ky Z) (gF (Kz Z) (gF (KA Z) (gF (KC Z) gN)))))
theorem GO:i9 P w K mg base 1 "_law_written" kI:=fD (k:=0) Z.D_l_written Ho Z.z gN
theorem Ht:i9 P w K mg base 1 "_law_formed" lG:=fD (k:=0) Z.D_l_formed J7 Z.z gN
theorem RT:i9 P w K mg base 1 "_law_due" qU:=fD (k:=0) Z.D_l_due UA Z.z gN
theorem oG:i9 P w K mg base 1 "_law_mix" jR:=fD (k:=0) Z.D_l_mix UB Z.z gN
theorem N4:i9 P w K mg base 2 "_law_text" rX:=fD (k:=1) Z.D_l_text Rg Z.z (gF (oG Z) gN)
theorem KD:i9 P w K mg base 1 "_law_mixed" oZ:=fD (k:=0) Z.D_l_mixed Na Z.z gN
theorem BE:i9 P w K mg base 1 "_law_thing_rows" jS:=fD (k:=0) Z.D_l_thing_rows Cv Z.z gN
theorem tS:i9 P w K mg base 1 "_law_name" iU:=fD (k:=0) Z.D_l_name Rh Z.z gN
theorem KE:i9 P w K mg base 2 "_law_steps" o7:=fD (k:=1) Z.D_l_steps Nb Z.z (gF (tS Z) (gF (oG Z) gN))
theorem KG:i9 P w K mg base 2 "_law_joins" o8:=fD (k:=1) Z.D_l_joins Nc Z.z (gF (tS Z) (gF (oG Z) gN))
theorem Hu:i9 P w K mg base 1 "_law_number" nE:=fD (k:=0) Z.D_l_number J8 Z.z gN
theorem KH:i9 P w K mg base 2 "_law_parts" o9:=fD (k:=1) Z.D_l_parts Nd Z.z (gF (tS Z) (gF (Hu Z) (gF (oG Z) gN)))
theorem KI:i9 P w K mg base 2 "_law_kinds" o_:=fD (k:=1) Z.D_l_kinds Nf Z.z (gF (tS Z) (gF (oG Z) gN))
theorem N5:i9 P w K mg base 2 "_law_salt" rY:=fD (k:=1) Z.D_l_salt Ri Z.z (gF (oG Z) gN)
theorem Xg{f:Addr}{fd:gq}(F:v5 K "law" "law" tK.s f fd):gZ P w K mg base (kR P w) 7 f fd tK.ps (FL K J5):=fF (d:=tK) F Yh Z.z (gF (CF Z) (gF (Er Z) (gF (GO Z) (gF (Ht Z) (gF (RT Z) (gF (N4 Z) (gF (KD Z) (gF (BE Z) (gF (KE Z) (gF (KG Z) (gF (KH Z) (gF (KI Z) (gF (N5 Z) gN)))))))))))))
end
theorem walk{l:PySem.W.OpenLaw}{q:bx}{loose:List Str}{XP:(Str->Option Value)->Heap->Prop}{YP:bL->Heap->Prop}{d:Oc}{K:GV->PySem.W.Frag}(hn:l.most=some 63)(hdf:d.params.defaults=[])(hdn:d.name="law")
  (hY:∀(w:bL) (h:Heap),YP w h->(K w.params).In h) (nk:∀p:GV,((K p).all fun x=>!Pq x.2.cls)=true)
  (F:∀(w:bL) (mg:Str->Option Value) (h:Heap),(K w.params).In h->h.Ns dX mg->∃a_KEPT_WORDS,Hy l.prog w (K w.params) mg a_KEPT_WORDS) (bd:∀(kV doc pm:Value) (an:Option Addr) (cdv ct:Value) (u:Value),Au (PySem.W.fnOf "law" "law" (n9 tK.s) (jH tK.s) (di tK.s) .none kV doc pm an cdv ct) ⟨[u],[]⟩=pure [(("_law_script":Str),u)]) :
  PySem.W.WalkO q loose XP YP l.row.toRowW d [] (fun f vs=>PySem.call f vs):=
 L2.Tv (n:=63) (k:=7) (x:="_law_script") (CX:=fun _=>VM) (sp:=fun w=>(fun vs H Q E=>∃(a:Addr) (ns:List Int),vs=[.ref a]/\Rd H a (.lst (ns.map V.int))/\ns.length<=63/\∀H',Q (.bl true) H')) hn (by decide) hdf ⟨rfl,by decide,by decide⟩ hY (fun w mg fa h X G hfa=>by
  obtain⟨_,Z⟩:=F w mg h X G;rw[hdn]at hfa;obtain⟨f,fd,ZT,hm,hb⟩:=Z.D_law;have e:=hfa.symm.trans hm;cases e;obtain⟨_,_,kV,doc,pm,an,cdv,ct,_,rfl,_⟩:=ZT.ex;exact⟨_,fun s v=>.of_eq (bd _ _ _ _ _ _ v),fun base _ _=>Wy (Xg Z ZT) K2.fin⟩) (fun w _ a ns hl _ hS=>⟨a,ns,rfl,Ye (nk w.params) hS,hl,fun _=>rfl⟩) fun _ _ _ _ _ z=>z
end Fin
namespace PySem.W.Fast
def tw12979383558043423722 :=0
def tw3375124382326669969 :=0
def tw1263473910466505327 :=0
def tw9125330644282631810 :=0
def tw1678634655998689957 :=0
def tw14077319629607585794 :=0
def tw11548793288672281705 :=0
def tw14441934324878238041 :=0
def tw1193773612707013728 :=0
def tw3093371010061264557 :=0
def tw12142526553550892088 :=0
def tw4628700742330943213 :=0
def tw11656780239129267469 :=0
def tw11324171624587486883 :=0
def tw186288435927349648 :=0
def tw7824546648416046284 :=0
def tw14948840492581474129 :=0
def tw3359624586052159800 :=0
def tw12745689073449804338 :=0
def tw1989558139377209609 :=0
def tw174234173833879881 :=0
def tw11218151405347842605 :=0
def tw9137302701673879955 :=0
def tw9549356353765091279 :=0
def tw7129735464525061076 :=0
def tw1403682348290620958 :=0
def tw12786248463715073919 :=0
def tw2206786420523618669 :=0
def tw2426760474530298289 :=0
def tw17611438867169984127 :=0
def tw5020247409311978197 :=0
def tw1639644708747072250 :=0
def tw10680952155523484895 :=0
def tw5667956844065569366 :=0
def tw15482344062672409830 :=0
def tw3682477124858067991 :=0
def tw2636398263708354045 :=0
def tw7079071453652683028 :=0
def tw4981776881348243130 :=0
def tw9203531257383693276 :=0
def tw6436469037325482259 :=0
def tw7007048309556098622 :=0
def tw2801814257902887452 :=0
def tw15941798243472445529 :=0
def tw14450832538087983906 :=0
def tw2103856530722761646 :=0
def tw17702752361428663270 :=0
def tw3731203523584693754 :=0
def tw8594447328697259517 :=0
def tw12735254267156623589 :=0
def tw18156021033396509823 :=0
def tw8748424990515826462 :=0
def tw5138568326294214590 :=0
def tw15780002772033767622 :=0
def tw7462287314079983507 :=0
def tw16608325164364964359 :=0
def tw9509059084462585725 :=0
def tw667200869674500182 :=0
def tw1591166781060311437 :=0
def tw10944679899014243423 :=0
def tw9377838890957895365 :=0
def tw1174352728260456351 :=0
def tw831738517617954432 :=0
def tw3224184444551274876 :=0
def tw6721437579618171006 :=0
def tw6598998270253444275 :=0
def tw13310529795306719110 :=0
def tw15063778584513080849 :=0
def tw6937810663522061625 :=0
def tw14137866997719144883 :=0
def tw17171528130106802917 :=0
def tw3345172508784932211 :=0
def tw1807777536361454592 :=0
def tw11784021122761327435 :=0
def tw15423477464804047412 :=0
def tw14859630364976902158 :=0
def tw3464477996947814943 :=0
def tw11460911463833933594 :=0
def tw6022318670702559398 :=0
def tw5860234506703971700 :=0
def tw3123292955730819975 :=0
def tw1822827240134704468 :=0
def tw793461681526635949 :=0
def tw4866550236832019440 :=0
def tw8775464746113760715 :=0
def tw11419423090209552178 :=0
def tw15102153813733854122 :=0
def tw18426610460888660629 :=0
def tw4933329828397489066 :=0
def tw13289240239547648494 :=0
def tw13487156921048402785 :=0
def tw15418617810551798527 :=0
def tw6673047503497456678 :=0
def tw5970595837533692335 :=0
def tw10448402734915718263 :=0
def tw14735001674941001645 :=0
def tw484604744792698630 :=0
def tw5929471814757548923 :=0
def tw1633632191227277004 :=0
def tw7745300575170865214 :=0
def tw5348480583669152474 :=0
def tw3855442250074560806 :=0
def tw13175148358761354148 :=0
def tw10146007970021015463 :=0
def tw16352113004240371482 :=0
def tw15816903464924844903 :=0
def tw12715264183475894638 :=0
def tw10466633211411298494 :=0
def tw188566229977258169 :=0
def tw5018276791216529481 :=0
def tw588017763046103640 :=0
def tw13331294896268306264 :=0
def tw18083462301245368886 :=0
def tw18276220197864660255 :=0
def tw15317080982009779723 :=0
def tw14568746961387040078 :=0
def tw17353269754979539240 :=0
def tw4162953832151712618 :=0
def tw652452169674854870 :=0
def tw2303671969833551191 :=0
def tw8939782119112190522 :=0
def tw17033847451818276787 :=0
def tw10822581156879035382 :=0
def tw2667508673031273791 :=0
def tw11319672161782834895 :=0
def tw12493094925728601614 :=0
def tw6803653779489188969 :=0
def tw7398065888103957479 :=0
def tw4279523803258742852 :=0
def tw12835037346560083234 :=0
def tw2812086794416425513 :=0
def tw18365320153521522809 :=0
def tw2538815444590183074 :=0
def tw7882633584348094368 :=0
end PySem.W.Fast
open PySem PySem.W PyProof.Rows
set_option maxRecDepth 100000 in
set_option maxHeartbeats 0 in
open L3 Tr in
theorem PySem.Challenge.cw_claimwise_k05_things_read_and_written_holds : PySem.Challenge.rw_claimwise_k05_things_read_and_written.Holds := by
 w_on;o_law;k_head;(case hw=>w_witness2)
 k_fill
 refine Fin.walk (l:=PySem.Challenge.rw_claimwise_k05_things_read_and_written) rfl rfl rfl (fun w h ZS=>PySem.W.kIn_of ZS) ?nk ?F ?b
 case nk=>intro p;first|rfl|decide +kernel|k_is|simp[L3.Pq]
 case b=>intros;rfl
 case F=>
  intro w mg h KX G;exact⟨_,⟨zI KX G,
   dI KX G,
   dI KX G,
   dI KX G,
   dI KX G,
   dI KX G,
   dI KX G,
   dI KX G,
   dI KX G,
   dI KX G,
   dI KX G,
   dI KX G,
   dI KX G,
   dI KX G,
   dI KX G,
   dI KX G,
   dI KX G,
   dI KX G,
   dI KX G,
   dI KX G,
   dI KX G,
   dI KX G,
   dI KX G,
   dI KX G,
   dI KX G,
   dI KX G,
   dI KX G,
   dI KX G,
   dI KX G,
   dI KX G,
   ⟨_,iI KX G,_,rfl⟩,
   ⟨iI KX G,_,_,_,by k_is,rfl,rfl,rfl,by simp[dM],by repeat (first|exact Paired.nil|refine Paired.cons ⟨_,rfl⟩ ?_)⟩,
   ⟨_,iI KX G,_,rfl⟩,
   ⟨_,iI KX G,_,rfl⟩,
   ⟨_,iI KX G,_,rfl⟩,
   ⟨_,iI KX G,_,rfl⟩,
   ⟨_,iI KX G,_,rfl⟩⟩⟩
