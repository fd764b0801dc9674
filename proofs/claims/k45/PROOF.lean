import PyProof.Rows.All
import Wide.All
import OpenK.AllK
import Wide.FinOn
import Lean
import PyProof.EqAt
import PyProof.EqKinds
import PyProof.TupleCall
import PyProof.NeKinds
import KE.KRevSl
import KE.KRevIter
import PyProof.ConsumeWalk
import KE.KSortAsk
import KE.KSortTup
import KE.KDictSum
import PyProof.Rows.SumAny
import PyProof.EnumStmt
import PyProof.EnumMake
import PyProof.Rows.EnumRows
import PyProof.Rows.FactsN_abs
import KE.KLam
import PyProof.LongRange
import PyProof.ListRange
import PyProof.FitsBits
import PyProof.Rows.IntMath
import KE.KUnpack
import PyProof.ZipIter
import PyProof.Rows.ZipGen
import PyProof.Rows.SeqMore
import PyProof.ReprRoads
import PyProof.CallFns
import PyProof.ReprLen
import PyProof.Rows.SeqCalls
import PySem.Challenge.RW_lackstretch_k45_whole_all_numbers_gone_t
set_option autoImplicit true
set_option Elab.async false
set_option linter.all false
set_option maxRecDepth 100000
open List renaming length_map->aa,getElem?_eq_getElem->aj,getElem?_map->ak,length_append->aB,range->aD,map_append->aF,mem_of_getElem?->aJ,size_toArray->aK,getD_eq_getElem?_getD->aL,getElem?_eq_some_iff->aO,mem_cons->aP,length_singleton->aU,mem_append_right->aV,length_range->aX,replicate->bc,mem_append->bf,mem_map->bh,mem_cons_of_mem->bx,map_cons->bz,length_cons->bB,getElem?_append_right->bG,mem_cons_self->bI,length_take->bM,getElem?_eq_none->bN,getElem?_range->bO,take_of_length_le->bQ,filter_append->bT,mem_filter->bU,length_filter_le->bV,take_length->cj,any_eq_false->cu,length_drop->cA,getElem?_append_left->cB,length_pos_iff->cF,any_eq_true->cI,mem_singleton->cJ,range_succ->cL,drop_of_length_le->cN,take_succ->cO,append_assoc->cQ,append_nil->cR,drop_append_of_le_length->cW,mem_range->cZ,length->c7,map_nil->dh,map_congr_left->dq,mem_append_left->dB,map_id'->dF,pairwise_map->dO,sum_append->dU,map_map->d8,pairwise_cons->eU,lookup_cons->eZ,filter_eq_nil_iff->fu,replicate_succ->fB,nil_append->fC,length_replicate->fG,eq_nil_of_length_eq_zero->fO,nodup_append->fP,drop_succ_cons->fV,getElem_mem->gb,all_eq_true->gf,drop_eq_getElem_cons->gq,pairwise_iff_getElem->gw,flatten_cons->gF,ext_getElem?->gH,take_add_one->gK,idxOf_lt_length_iff->gP,cons_append->gR,drop_zero->gZ,take_append_of_le_length->ig,range_succ_eq_map->iw,getElem_idxOf->iG,any_map->kE,reverse->kJ,length_reverse->kW,any_cons->kZ,sum_cons->lq,map_take->lu,nodup_cons->lA,filter_nil->lB,lookup->lF,filter_cons_of_pos->lK,getElem_inj->lV,mem_of_mem_take->mH,replicate_succ'->mJ,of_mem_zip->mO,filterMap_cons->mU,flatMap_append->mX,mem_filterMap->nG,perm_ext_iff_of_nodup->nR,getLast?_eq_getElem?->nU,getLast?_eq_none_iff->nW,getElem?_set->oh,map_drop->oK,getElem?_replicate->oO,pairwise_singleton->oR,length_eq_zero_iff->oV,filter_cons_of_neg->oW,getElem?_set_self->o4,all_map->pC,foldl_cons->pI,filter_map->pM,take_append_drop->pR,getElem?_set_ne->pW,length_take_le'->rF,take_zero->rG,getElem_of_mem->rT,take_succ_cons->rY,filter_eq_self->rZ,all_cons->sE,drop_nil->sI,take_nil->sJ,filter_filter->xJ,reverse_cons->By,getElem?_inj->BX,take_reverse->BZ,flatMap_cons->Cg,filter_congr->Ci,any_toArray->Cw,map_snd_zip->CJ,drop_length->CP,mem_flatMap->CQ,take_range->Dr,length_set->Ds,foldl->DX,take_left->Ef,drop_drop->Eg,sum_nil->FN,sum->HS,set->HW
open Nat renaming le_trans->ao,le_refl->au,lt_of_lt_of_le->aA,lt_of_le_of_lt->bw,ne_of_lt->bA,zero_le->bK,pow_le_pow_right->cH,pow_succ'->cX,zero_add->dm,pow_zero->dD,min_eq_left->dH,mul_comm->dN,lt_irrefl->dY,add_assoc->dZ,le_of_lt->d7,zero_mul->d9,sub_self->eG,le_succ->eY,div_eq_of_lt->fc,ne_of_gt->fj,pow_pos->fD,div_lt_iff_lt_mul->fH,min_eq_right->fK,succ_mul->fM,pow_le_pow_left->fW,mul_assoc->fY,succ_le_succ->fZ,div_lt_self->gB,div_add_mod->gC,le_succ_of_le->gG,mul_le_mul_right->gJ,add_sub_cancel_left->gU,pow_add->ik,pow_succ->iy,mod_lt->iz,add_zero->iB,sub_zero->iD,lt_succ_of_lt->iV,lt_trans->km,mod_eq_of_lt->kI,min_le_right->kO,one_mul->lJ,le_mul_of_pos_left->lR,lt_succ_self->lW,mul_add->mG,strongRecOn->mR,le_of_eq->mY,add_comm->mZ,mod_mul_right_div_self->nO,add_mul_mod_self_right->nQ,pow_one->ou,exists_eq_add_of_le->oU,div_div_eq_div_mul->pH,le_max_left->pJ,mod_mul_right_mod->pO,le_div_iff_mul_le->pP,add_mul_div_right->pQ,mul_one->rD,mul_le_mul->rE,mul_le_mul_left->rW,eq_zero_or_pos->sY,mul_zero->Ce,div_pos->Dc,pow_mul->De,add_le_add->Ej,min_self->Fl,add_mul->Gs,div_one->Gu,one_pow->Gv,not_lt->G9
open PySem renaming Addr->aq,Value->aG,wpAny_bind->aH,Shared->aR,sizeLine->aZ,starEach->bF,wpAny->bJ,model->bR,wpAny_pure->bW,mainGlobals->bZ,Program->cg,Stmt->cz,Str->cG,World->cT,wpAny_loadPart'->cY,wpAny_Call_Name_kw->di,compareOp->dw,eval->dI,wpAny_truthy_bool->dM,Heap->dR,wpAny_mono->dX,Around->eH,Expr->eV,backTo->gh,wpAny_passesOwn->gA,codeAny_mono->ir,rawInt->iQ,foldedSetIterable->iR,cLine->iT,FuncData->iY,NameKind->iZ,lookup_relabel_local->kh,Obj->kj,wpAny_execs_nil->lz,wpAny_pyIter_range->lC,sliceBounds->lG,bootBuiltins->lL,Scope->lM,codeAny->lN,call_meets->lZ,attributeBase->mq,wpAny_holding->my,IsRangeIter->mz,binaryOp->mD,keywordEach->mF,letOwnedTupleGo->mK,Pos->mV,cellsFrom->nu,wpAny_newFunctionEnv_cells->nJ,wpAny_pyIter_list->nY,behindInMarks->oA,wpAny_standAt->oF,wpAny_comprehension_free->oG,wpAny_newList->oJ,getMethod->oM,builtinsNs->oZ,assignEach->o5,wpAny_pyNext_range_end->o6,wpAny_pyIter_rangeiter->o7,BindsTo->ph,wpAny_call->pq,builtinLookup_eq_fast->pN,wpAny_loadName_local->pX,bindArgs->p6,backToKw->p7,newFunctionEnv->rA,standAt->rM,swapsWith->rN,callerA->rO,Builtin->rP,wpAny_loadName_cell->rQ,rangeSize_one->su,plainId_quiet->sG,closureFor->sS,wpAny_evalAll_cons->sW,spliced->Bt,wpAny_assign_Name->Bu,slot_list_getitem->Bx,relabel->BK,wpAny_pyIter_enum->BR,wpAny_evalAll_nil->BW,wpAny_eqBool_int->Ck,wpAny_execs_cons->Cm,assign->Cp,Arguments->Cv,sizeLine_eq->CW,pushCells_keeps->Di,typeLookup_type->Dj,wpAny_specialOf->Dk,codeAny_builtin->Dl,holding->Dt,Keyword->Du,wpAny_Name->Dy,pyIter->Dz,recursionLimit->DK,callWith->DN,bindL->DP,bindC->DQ,typeLookup->DR,typeIs_int->DW,wpAny_newTuple->DY,intBits_le_64->Ek,evalPart_none->El,call_list_seq->En,nums_intItems->Es,storeName->Ew,isTrue->Fd,call_range_1->Ff,call_range_2->Fg,seqIndex_neg->Fj,ItemsOf->Fo,wpAny_typeOf->Fp,call_range_3->Fx,interactive->FQ,richCompare->Ge,seqIndex_of->Gf,subscripted->Gg,compEnvC->Gi,wpAny_letGo->Gj,sysModules->GC,Env->GD,rule->GJ,checkCount->Hd,defaultsOf->Hg,excMatches->Hh,IsLongIter->Hj,getAttr->Hl,getItem->Ho,pyNext->Hz,Result->HB,IsPart->HD,typeOf->HF,cellOf->HH,revObj->HJ,ask->HR,Sem->Ig
open PySem.Heap renaming get?_push_of_some->az,lt_size->aQ,get?_push_size->bC,get?_update_other->dW,get?_push_ne->fQ,size_update->gY,size_push->iW,get?_update_ne->mW,SameBut->Bs,FlyingW->FJ
open Option renaming map_eq_some_iff->aM,map_some->dG,isSome_some->sU,getD_none->Cu,none->Gh
open PySem.W renaming Frag->aN,emptyDict->ie,findIn->iH,kia_one->iK,kitOne->lO,nsIn->lQ,instObj->lU,kindOf->lX,keepIn->nH,mroIn->nZ,fnOf->oE,cellsFrom_some->oN,plainGet->o8,callWith_K->pA,hideAll_none->pU,hasDictIn->pZ,kitCls->rC,hideAll->rK,hideAll_get->sr,plainGet_of->sy,of_hideAll->Br,codeIn->Bw,kas_ask->BL,kla_obj->BV,methodObj->CV,plainOver->CZ,methodCall_KW->Dg,excIn->Dw,lookIn->DG,codeHdIn->Ed,codeHdIn->Eh,takerIn->Ey,makesIn->Ez,OpenLaw->Fb,kas_rev->Ft,tabObj->Fy,typeIn->FZ,kitx_list->Ga,kitx_dict->Gb,kas_sort->Gk,codeHd_of_K->Gp,handedIn->GK,isFn->GP,pre_splitW->G7,kla_fn->Hf,OpenLaw->Hq,kitMeta->Hv,KasT->HN
open Or renaming inl->aW,inr->lE
open PySem.Value renaming ref->aY,none->fJ,type->gM,int->nj,bool->oY,str->Cj,float->CT,bytes->FP
open PySem.PassesOwn renaming never->bj
open Bool renaming false_ne_true->bu,eq_iff_iff->bD,not_eq_true'->cU,and_eq_true->dJ,false_eq_true->eQ,or_eq_true->pK,and_false->rn,not_eq_false'->sZ,true_and->Eu
open PySem.Builtin.Range renaming rangeSize->bH,small->gQ,rangeFitsLong->m9
open Option.some renaming inj->bY
open PyProof.Rows renaming callWith_type1->cC,seqObj->dj,boot_list->gW,IntsAre->iu,boot_isinstance->iJ,listUpdate_at->iM,AllBare->lw,boot_sorted->lH,envOfC->lY,get?_update_seq->mQ,boot_range->nD,size_push'->nM,seqEpoch_at->n8,subscriptTail_builtinR->pB,listItems_at->BP,boot_all->Ca,boot_any->Cd,callWith_builtin1->Cr,entry_list_sort->Do,slot_list_sort->Eb,boot_sum->Ei,subscriptTail->Em,plain_sorted->Fv,entry_sorted->Fw,collect_list->Fz,Call_->FW,failedOf->Gm,kind_sorted->Gn,callWith_kw->Gq,lt_int->Gw,isTrue_and->GF,Subscript_->GZ,sortedHeap->Hb,intBits_le->Hk,arrOf->HQ
open Int renaming toNat_of_nonneg->cD,zero_add->cM,toNat_natCast->dg,natCast_add->du,emod_lt_of_pos->fL,emod_nonneg->gD,natCast_ediv->oX,natCast_mul->pL,natAbs_natCast->sX,ediv_nonneg->Dp,ediv_mul_le->Dq,mul_nonneg->Ec,ofNat->Hx
open Ne renaming symm->cP
open False renaming elim->cV
open PySem.Obj renaming mapSeq->dC
open Array renaming length_toList->fU,getD->mj,getD_eq_getD_getElem?->m8,getElem?_eq_none->pF,forIn_toList->sV,toList_inj->Cy,toList_map->Cz,toList_zip->CG,toList->Fe
open PySem.Builtin.List renaming listExtendWith->fX,listTooLong->gO,listSameRef->oH,listItems->pD,listLengthHint->Dv,listUpdate->EY
open PySem.Calls renaming spliced_cons->il,spliced_nil->iU,Name_function_global->nA,evalArgs_plain->p8
open ForInStep renaming yield->iI
open PySem.NameKind renaming free->kY,cell->Eo
open True renaming intro->lD
open PySem.IsRange renaming new->mC
open PySem.Str renaming ofString->m7,empty->Ht
open PySem.Around renaming under->o9,under_plainId->rB
open PyProof renaming noPylong_small->pG,noPylong_of_log2->Ep
open PySem.Data renaming fields->pY,cell->Cq
open PySem.F renaming args_list_append_2->rm,entry_list_append->rR,slot_list_append->sO,slot_int_rmul->Dh
open Sum renaming inl->rH,inr->rJ
open PySem.AutoListH renaming list___mul___list_int_3->Bq
open PySem.Code renaming isFrame->Bv,isGuard->Fi,frames->Gd
open PySem.AutoSeq1 renaming list_extend_list_list_0->BJ,sub_list_list->Fq
open StateT renaming run_pure->Dm
open List.Perm renaming refl->Ea
open List.Pairwise renaming imp_of_mem->Er,nil->Hr
open List.cons renaming inj->Et
open PySem.Walks renaming range->FT,list->Ha
open PySem.Heap.SameBut renaming update->Gx
open PySem.SeqAt.EqAt renaming int_str->Gy,str_int->Gz,int_int->GX
open PySem.SeqAt renaming EqAt->GQ
open PySem.Heap.IsSliceOf renaming new->G6
open PySem.W.WShape renaming has->G8
open PySem.Heap.Ns1 renaming of_empty->Hm
open PySem.DictEntry renaming refKey->Hs
open PySem.W.WData renaming int->Hu
open PySem.IntMulOk renaming of_bits->Hw
open PySem.Heap.Ns renaming of_isNs->Hy,new->Ii
open PySem.BindsTo renaming of_eq->HX
open PySem.W.Looks renaming here->HY,ld->Il
open PySem.W.KatTups renaming cons->Ia,nil->Ik
open Sum.inl renaming inj->Ib
open Sum.inr renaming inj->Ie
open PySem.W.OpenLaw renaming pre->Ih
open PySem.ItemsOf renaming nil->Ij
abbrev Aa:List PySem.Str:=["thing"]
abbrev Ab:List PySem.Str:=["rule","n"]
abbrev Ac:List PySem.Str:=["rules","n"]
abbrev Ad:List PySem.Str:=["base","thing"]
abbrev Ae:List PySem.Str:=["base","n"]
abbrev Af:List PySem.Str:=["rule","m"]
abbrev Ag:List PySem.Str:=["bad","figures"]
abbrev Ah:List PySem.Str:=["self","size"]
abbrev Ai:List PySem.Str:=["self","rule"]
abbrev Aj:List PySem.Str:=["self","figures"]
abbrev Ak:List PySem.Str:=["rule","figures"]
abbrev Al:List PySem.Str:=["rule"]
abbrev Am:List PySem.Str:=["self","stretch"]
abbrev An:List PySem.Str:=["self","left"]
abbrev Ao:List PySem.Str:=["self"]
abbrev Ap:List PySem.Str:=["self","size","k"]
abbrev Aq:List PySem.Str:=["cell","k"]
abbrev Ar:List PySem.Str:=["rules"]
abbrev As:List PySem.Str:=["self","place","stop","left"]
abbrev Au:List PySem.Str:=["tails","m"]
abbrev Av:List PySem.Str:=["self","n"]
abbrev Aw:List PySem.Str:=["self","layer","place","stop"]
abbrev Ax:List PySem.Str:=["self","rule","weights","scale","size"]
abbrev Ay:List PySem.Str:=["stretch","figures"]
abbrev Az:List PySem.Str:=["rule","stand","figure"]
abbrev A0:List PySem.Str:=["rule","k"]
abbrev A1:List PySem.Str:=["self","behind","figure","left"]
abbrev A2:List PySem.Str:=["rule","size"]
abbrev A3:List PySem.Str:=["self","rule","b"]
abbrev A4:List PySem.Str:=["self","place","stop","left","ahead"]
abbrev A5:List PySem.Str:=["rule","n","figure"]
abbrev A6:List PySem.Str:=["self","bad"]
abbrev A7:List PySem.Str:=["stretches"]
abbrev A8:List PySem.Str:=["rule","thing"]
abbrev A9:List PySem.Str:=["rule","stands","stand"]
abbrev Ba:List PySem.Str:=["stretches","stretch"]
abbrev Bb:List PySem.Str:=["script","k"]
abbrev Bc:List PySem.Str:=["script"]
abbrev Bd:List PySem.Str:=["bad","stands","figures"]
abbrev Be:List PySem.Str:=["rule","stands"]
abbrev Bf:List PySem.Str:=["self","place","k","left"]
abbrev Bg:List PySem.Str:=["tails","k"]
abbrev Bh:List PySem.Str:=["weights","scale","size"]
abbrev Bi:List PySem.Str:=["rule","n","good"]
abbrev Bj:List PySem.Str:=["rule","n","good","figure"]
abbrev Bk:List PySem.Str:=["rule","good"]
abbrev Bl:List PySem.Str:=["rule","cell"]
abbrev Bm:List PySem.Str:=["rule","other"]
abbrev Bn:List PySem.Str:=["rule","n","cell"]
abbrev Bo:List PySem.Str:=["base","figures"]
abbrev Bp:List PySem.Str:=["bad","found","stretch","size","stand"]
abbrev ZA:=List (List Int)
abbrev ZB:=List (PySem.Addr×List Int)
namespace L2
open PySem PySem.Spec PyProof.Rows
abbrev Key:=Sum Int cG
def zkL:Key->aG->Bool
 |.inl k,v=>Value.isInt k v
 |.inr x,v=>Value.isStrOf x v
def zmw(w:cT):Key->Int
 |.inl k=>hashInt k
 |.inr x=>hashStr w x
theorem uN:∀{k:Key} {v:aG},zkL k v=true->(∃i t,k=rH i/\v=nj i t)\/(∃x t,k=rJ x/\v=Cj x t)
 |.inl i,v,h=>by
  obtain⟨t,e⟩:=Value.isInt_shape (k:=i) (v:=v) h;exact .inl ⟨i,t,rfl,e⟩
 |.inr x,v,h=>by
  obtain⟨t,e⟩:=Value.isStrOf_shape (x:=x) (v:=v) h;exact .inr ⟨x,t,rfl,e⟩
theorem zlB(a b:Int):decide ((rH a:Key)=rH b)=(a == b):=by
 by_cases e:a=b
 ·subst e;simp
 ·have h:¬ (rH a:Key)=rH b:=λq=>e (Ib q);rw[decide_eq_false h];exact (beq_eq_false_iff_ne.mpr e).symm
theorem zls(a b:cG):decide ((rJ a:Key)=rJ b)=decide (a=b):=by
 by_cases e:a=b
 ·subst e;simp
 ·have h:¬ (rJ a:Key)=rJ b:=λq=>e (Ie q);rw[decide_eq_false h,decide_eq_false e]
theorem zlD(a:Int)(b:cG):decide ((rH a:Key)=rJ b)=false:=decide_eq_false (λq=>nomatch q)
theorem zld(a:cG)(b:Int):decide ((rJ a:Key)=rH b)=false:=decide_eq_false (λq=>nomatch q)
def zhj(prog:cg)(w:cT):PySem.KeyKind prog w Key where
 is:=zkL
 hash:=zmw w
 inj:=λv a b ha hb=>by
  rcases uN ha with ⟨i,t,rfl,rfl⟩ | ⟨x,t,rfl,rfl⟩
  ·rcases uN hb with ⟨j,u,rfl,e⟩ | ⟨y,u,rfl,e⟩
   ·injection e with e1 _;rw[e1]
   ·exact nomatch e
  ·rcases uN hb with ⟨j,u,rfl,e⟩ | ⟨y,u,rfl,e⟩
   ·exact nomatch e
   ·injection e with e1 _;rw[e1]
 byValue:=λk v h=>by
  rcases uN h with ⟨i,t,rfl,rfl⟩ | ⟨x,t,rfl,rfl⟩<;>rfl
 pyHash:=λhv h=>by
  rcases uN hv with ⟨i,t,rfl,rfl⟩ | ⟨x,t,rfl,rfl⟩
  ·exact wpAny_pyHash_int h
  ·exact wpAny_pyHash_str h
 eqBool:=λhu hv h=>by
  rcases uN hu with ⟨i,t,rfl,rfl⟩ | ⟨x,t,rfl,rfl⟩
  ·rcases uN hv with ⟨j,u,rfl,rfl⟩ | ⟨y,u,rfl,rfl⟩
   ·rw[zlB]at h;exact Ck h
   ·rw[zlD]at h;exact Gy i t y u _ _ _ _ h
  ·rcases uN hv with ⟨j,u,rfl,rfl⟩ | ⟨y,u,rfl,rfl⟩
   ·rw[zld]at h;exact Gz x t j u _ _ _ _ h
   ·rw[zls]at h;exact wpAny_eqBool_str h
 «strs»:=λk x t v h=>by
  rcases uN h with ⟨i,u,rfl,e⟩ | ⟨y,u,rfl,e⟩
  ·exact nomatch e
  ·injection e with e1 _
   subst e1;cases v<;>rfl
inductive V where
 |non | bl (b:Bool) | int (i:Int) | str (x:cG) | byt (b:Array UInt8) | flt (b:UInt64) | ref (a:aq) | ty (n:String)
 deriving DecidableEq
def RelV:V->aG->Prop
 |.non,u=>u=fJ
 |.bl b,u=>u=oY b
 |.int i,u=>∃t,u=nj i t
 |.str x,u=>∃t,u=Cj x t
 |.byt b,u=>∃t,u=FP b t
 |.flt b,u=>∃t,u=CT b t
 |.ref a,u=>u=aY a
 |.ty n,u=>u=gM n
abbrev Vals:List V->List aG->Prop:=Paired RelV
theorem Vals.length(r:Vals xs us):xs.length=us.length:=Paired.length r
theorem Vals.get:∀{xs:List V} {us:List aG} {i:Nat} {x:V},Vals xs us->xs[i]?=some x->∃u,us[i]?=some u/\RelV x u
 |_,_,_,_,.nil,e=>by simp at e
 |_,_,0,_,.cons r _,e=>by simp at e;subst e;exact⟨_,rfl,r⟩
 |_,_,i+1,x,.cons _ t,e=>by
  obtain⟨u,h1,h2⟩:=Vals.get (i:=i) (x:=x) t (by simpa using e);exact⟨u,by simpa using h1,h2⟩
theorem Vals.append:∀{xs ys:List V} {us ws:List aG},Vals xs us->Vals ys ws->Vals (xs++ys) (us++ws)
 |_,_,_,_,.nil,s=>s
 |_,_,_,_,.cons r t,s=>.cons r (Vals.append t s)
theorem Vals.take:∀{xs:List V} {us:List aG} (n:Nat),Vals xs us->Vals (xs.take n) (us.take n)
 |_,_,0,_=>.nil
 |_,_,_+1,.nil=>.nil
 |_,_,n+1,.cons r t=>.cons r (Vals.take n t)
theorem Vals.drop:∀{xs:List V} {us:List aG} (n:Nat),Vals xs us->Vals (xs.drop n) (us.drop n)
 |_,_,0,r=>r
 |_,_,_+1,.nil=>.nil
 |_,_,n+1,.cons _ t=>Vals.drop n t
def RelO:Option V->Option aG->Prop
 |some v,some u=>RelV v u
 |none,none=>True
 |_,_=>False
def KV:List (κ×V)->List (κ×aG)->Prop:=Paired λp q=>p.1=q.1/\RelV p.2 q.2
def kV:Key->V
 |.inl i=>.int i
 |.inr x=>.str x
inductive An3 (a b c:Prop):Prop
 |mk (h0:a) (h1:b) (h2:c):An3 a b c
inductive An4 (a b c d:Prop):Prop
 |mk (h0:a) (h1:b) (h2:c) (h3:d):An4 a b c d
inductive Ex2 {α β:Type} (p:α->β->Prop):Prop
 |mk (a:α) (b:β) (h:p a b):Ex2 p
inductive Ex3 {α β γ:Type} (p:α->β->γ->Prop):Prop
 |mk (a:α) (b:β) (c:γ) (h:p a b c):Ex3 p
inductive Ex4 {α β γ δ:Type} (p:α->β->γ->δ->Prop):Prop
 |mk (a:α) (b:β) (c:γ) (d:δ) (h:p a b c d):Ex4 p
inductive Ex6 {α β γ δ ε ζ:Type} (p:α->β->γ->δ->ε->ζ->Prop):Prop
 |mk (a:α) (b:β) (c:γ) (d:δ) (e:ε) (f:ζ) (h:p a b c d e f):Ex6 p
inductive HO where
 |lst (xs:List V)
 |tup (xs:List V)
 |dK (kvs:List (Key×V)) | dT (kvs:List (List Key×V))
 |set (S:Int->Bool) (n:Nat)
 |ins (C dx:aq) (fs:List (cG×V))
 |own (x:aq)
 |xd (fs:List (cG×V))
 |met (f x:aq)
 |rng (lo hi:Int)
 |frz (o:kj) (u:HO)
 |tbl (ps:Array aG)
 |ext (φ:dR->Prop)
abbrev Hp:=aq->Option HO
def upd(H:Hp)(a:aq)(o:HO):Hp:=λb=>if b=a then some o else H b
theorem zq:upd H a o a=some o:=by unfold upd;rw[if_pos rfl]
theorem zA(h:b≠a):upd H a o b=H b:=by unfold upd;rw[if_neg h]
theorem zg3:upd (upd H a o) a u=upd H a u:=by
 funext b;unfold upd;split<;>rfl
theorem jg{H:Hp}(h:H a=some o)(h':H b=some u)(d:o≠u):a≠b:=by
 intro e;subst e;rw[h]at h';exact d (bY h')
theorem zF{H:Hp}(h:H a=some o)(h':H b=none):a≠b:=by
 intro e;subst e;rw[h]at h';cases h'
section
variable (P:cg) (w:cT)
def ObjOk(H:Hp)(h:dR)(a:aq):HO->Prop
 |.lst xs=>xs.length<=aZ/\∃(its:List aG) (n:Nat),Vals xs its/\h.get? a=some { cls:=.type "list",data:=.seq its.toArray n }
 |.tup xs=>xs.length<=aZ/\∃its:List aG,Vals xs its/\IsTup h a its.toArray
 |.dK kvs=>kvs.length<=aZ/\(a == GC)=false/\∃vs,KV kvs vs/\h.DictOf (zhj P w) a vs
 |.dT kvs=>kvs.length<=aZ/\(a == GC)=false/\∃xs:List (List Key×aq×aG),
   Paired (λ(p:List Key×V) (q:List Key×aq×aG)=>p.1=q.1/\H q.2.1=some (.tup (p.1.map kV))/\RelV p.2 q.2.2) kvs xs /\
   ∃o es ep,h.get? a=some o/\o.ExactDict/\o.data=.dict es ep/\es.toList=xs.map (entryOfKey (tupleKind (zhj P w)))/\(xs.map (·.1)).Nodup
 |.set S n=>h.SetOf (intKind P w) a S n
 |.ins C dx fs=>H dx=some (.own a)/\fs.length<=1000/\dx≠a/\h.get? a=some (lU C dx) /\
   ∃mA,h.Ns1 dx mA/\(∀f,RelO (fs.lookup f) (mA f))/\PySem.Within mA (fs.map (·.1))
 |.own _=>∃o,h.get? a=some o
 |.xd fs=>∃mA,h.Ns1 a mA/\∀f,RelO (fs.lookup f) (mA f)
 |.rng lo hi=>∃t u v,h.get? a=some { cls:=.type "range",data:=.fields #[.int lo t,.int hi u,.int 1 v] }
 |.frz o u=>h.get? a=some o/\ObjOk H h a u
 |.tbl ps=>h.get? a=some { cls:=.none,data:=.fields ps }
 |.met f x=>h.get? a=some (CV (.ref f) (.ref x))
 |.ext φ=>φ h/\(∃o,h.get? a=some o)/\∀h1 h2:dR,φ h1->(∀o,h1.get? a=some o->h2.get? a=some o)->φ h2
def HOk(H:Hp)(h:dR):Prop:=∀a o,H a=some o->ObjOk P w H h a o
end
section
variable {P:cg} {w:cT} {H H':Hp} {h h':dR} {a:aq} {o:HO}
theorem ObjOk.lt(x:ObjOk P w H h a o):a<h.objs.size:=by
 cases o with
 |lst xs=>obtain⟨_,_,_,_,e⟩:=x;exact aQ e
 |tup xs=>obtain⟨_,_,_,p⟩:=x;exact p.lt
 |dK kvs=>obtain⟨_,_,_,_,o,_,_,e,_⟩:=x;exact aQ e
 |dT kvs=>obtain⟨_,_,_,_,o,_,_,e,_⟩:=x;exact aQ e
 |set S n=>obtain⟨o,_,_,_,e,_⟩:=x;exact aQ e
 |ins C dx fs=>obtain⟨_,_,_,e,_⟩:=x;exact aQ e
 |own y=>obtain⟨_,e⟩:=x;exact aQ e
 |xd fs=>obtain⟨_,⟨_,_,_,e,_⟩,_⟩:=x;exact aQ e
 |rng lo hi=>obtain⟨_,_,_,e⟩:=x;exact aQ e
 |frz ob u=>obtain⟨e,_⟩:=x;exact aQ e
 |tbl ps=>exact aQ (show h.get? a=some _ from x)
 |met f y=>exact aQ (show h.get? a=some _ from x)
 |ext φ=>obtain⟨_,⟨_,e⟩,_⟩:=x;exact aQ e
theorem Paired.mapP{α β:Type}{F G:α->β->Prop}:∀{l₁:List α} {l₂:List β},Paired F l₁ l₂->(∀a b,F a b->G a b)->Paired G l₁ l₂
 |_,_,.nil,_=>.nil
 |_,_,.cons r t,f=>.cons (f _ _ r) (Paired.mapP t f)
theorem ObjOk.stay(x:ObjOk P w H h a o)(k:∀b u,(b=a\/H b=some (.own a))->h.get? b=some u->h'.get? b=some u)(ho:∀b,H b=some (.own a)->H' b=some (.own a))(ht:∀b xs,H b=some (.tup xs)->H' b=some (.tup xs)):ObjOk P w H' h' a o:=by
 induction o with
 |lst xs=>obtain⟨z,its,n,r,e⟩:=x;exact⟨z,its,n,r,k _ _ (.inl rfl) e⟩
 |tup xs=>obtain⟨z,its,r,ob,e,c⟩:=x;exact⟨z,its,r,ob,k _ _ (.inl rfl) e,c⟩
 |dK kvs=>obtain⟨z,y,vs,r,ob,es,ep,e,c⟩:=x;exact⟨z,y,vs,r,ob,es,ep,k _ _ (.inl rfl) e,c⟩
 |dT kvs=>
  obtain⟨z,y,xs,r,ob,es,ep,e,c⟩:=x;exact⟨z,y,xs,Paired.mapP r λp q z=>⟨z.1,ht _ _ z.2.1,z.2.2⟩,ob,es,ep,k _ _ (.inl rfl) e,c⟩
 |set S n=>obtain⟨ob,es,ep,t,e,c⟩:=x;exact⟨ob,es,ep,t,k _ _ (.inl rfl) e,c⟩
 |ins C dx fs=>
  obtain⟨d,z,ne,e,mA,⟨od,es,ep,e2,c⟩,r⟩:=x;exact⟨ho _ d,z,ne,k _ _ (.inl rfl) e,mA,⟨od,es,ep,k _ _ (.inr d) e2,c⟩,r⟩
 |own y=>obtain⟨ob,e⟩:=x;exact⟨ob,k _ _ (.inl rfl) e⟩
 |xd fs=>obtain⟨mA,⟨od,es,ep,e,c⟩,r⟩:=x;exact⟨mA,⟨od,es,ep,k _ _ (.inl rfl) e,c⟩,r⟩
 |rng lo hi=>obtain⟨t,u,v,e⟩:=x;exact⟨t,u,v,k _ _ (.inl rfl) e⟩
 |frz ob u ih=>obtain⟨e,q⟩:=x;exact⟨k _ _ (.inl rfl) e,ih q⟩
 |tbl ps=>
  have e:h.get? a=some { cls:=.none,data:=.fields ps }:=x;show h'.get? a=some { cls:=.none,data:=.fields ps };exact k a _ (.inl rfl) e
 |met f y=>
  have e:h.get? a=some (CV (.ref f) (.ref y)):=x;show h'.get? a=some (CV (.ref f) (.ref y));exact k a _ (.inl rfl) e
 |ext φ=>obtain⟨p,⟨o,e⟩,st⟩:=x;exact⟨st _ _ p λo q=>k _ _ (.inl rfl) q,⟨o,k _ _ (.inl rfl) e⟩,st⟩
theorem HOk.lt(x:HOk P w H h)(e:H a=some o):a<h.objs.size:=(x a o e).lt
theorem HOk.fresh(x:HOk P w H h)(e:h.objs.size<=a):H a=none:=by
 cases q:H a with
 |none=>rfl
 |some u=>exact absurd (aA (x.lt q) e) (dY _)
theorem HOk.kept(x:HOk P w H h)(k:∀b u,h.get? b=some u->h'.get? b=some u):HOk P w H h':=λa o e=>
 (x a o e).stay (λb u _ q=>k b u q) (λ_ q=>q) λ_ _ q=>q
theorem HOk.laid(x:HOk P w H h)(k:∀b u,h.get? b=some u->h'.get? b=some u)(hp:h.objs.size<=a)(new:ObjOk P w (upd H a o) h' a o):HOk P w (upd H a o) h':=λb u e=>by
 have hn:=x.fresh hp;by_cases hb:b=a
 ·subst hb;rw[zq]at e;cases e;exact new
 ·rw[zA hb]at e;exact (x b u e).stay (λc v _ q=>k c v q) (λc q=>by rw[zA (zF q hn)];exact q) λc xs q=>by rw[zA (zF q hn)];exact q
end
def Rd(H:Hp)(a:aq)(u:HO):Prop:=H a=some u\/∃o,H a=some (.frz o u)
theorem Rd.ok(r:Rd H a u)(x:HOk P w H h):ObjOk P w H h a u:=by
 rcases r with r | ⟨o,r⟩
 ·exact x a u r
 ·obtain⟨_,q⟩:=x a _ r;exact q
def Mut:Option HO->Prop
 |some (.lst _)=>True
 |some (.dK _)=>True
 |some (.dT _)=>True
 |some (.set _ _)=>True
 |some (.ins _ _ _)=>True
 |some (.ext _)=>True
 |_=>False
section
variable {P:cg} {w:cT} {H:Hp} {h h':dR} {x e:aq} {o':HO}
theorem HOk.write(ok:HOk P w H h)(mu:Mut (H x))(he:e=x\/H e=some (.own x))(k:∀b u,b≠e->h.get? b=some u->h'.get? b=some u)(heo:∃u,h'.get? e=some u)(new:ObjOk P w (upd H x o') h' x o'):HOk P w (upd H x o') h':=λb u q=>by
 have nown:∀c y,H c=some (.own y)->c≠x:=λc y r z=>by subst z;rw[r]at mu;exact mu
 have ntup:∀c xs,H c=some (.tup xs)->c≠x:=λc xs r z=>by subst z;rw[r]at mu;exact mu
 by_cases hb:b=x
 ·subst hb;rw[zq]at q;cases q;exact new
 ·rw[zA hb]at q;by_cases hbe:b=e
  ·have q':H b=some (.own x):=by
    rcases he with z | z
    ·exact absurd (hbe.trans z) hb
    ·rw[hbe];exact z
   rw[q]at q';cases q'
   obtain⟨v,hv⟩:=heo;exact⟨v,by rw[hbe];exact hv⟩
  ·refine (ok b u q).stay (λc v hc r=>k c v ?_ r) (λc r=>by rw[zA (nown c b r)];exact r) λc xs r=>by rw[zA (ntup c xs r)];exact r
   rcases hc with rfl | hc
   ·exact hbe
   ·rintro rfl;rcases he with z | z
    ·exact nown c b hc z
    ·rw[hc]at z;cases z;exact hb rfl
end
structure Un (fs ex:List aq) (H H':Hp) (h h':dR):Prop where
 keep:∀b o,h.get? b=some o->H b=none->b∉fs->b∉ex->h'.get? b=some o
 slot:∀b o,h.get? b=some o->H b=none->b∈fs->b∉ex->∃sl,h'.get? b=some { o with slots:=sl }
 free:∀b o,h.get? b=some o->H b=none->b∉ex->H' b=none
 there:∀b o,h.get? b=some o->b∉ex->∃o',h'.get? b=some o'
 tups:∀b xs,H b=some (.tup xs)->H' b=some (.tup xs)
 frzs:∀b o u,H b=some (.frz o u)->H' b=some (.frz o u)
 tbls:∀b ps,H b=some (.tbl ps)->∃more,H' b=some (.tbl (ps++more))
section
variable {fs fs' ex ex':List aq} {H H1 H2:Hp} {h h1 h2 h':dR} {a x e:aq} {o:HO}
theorem Un.any(u:Un fs ex H H1 h h1)(q:h.get? b=some ob)(n:H b=none)(hx:b∉ex):∃sl,h1.get? b=some { ob with slots:=sl }:=by
 by_cases hb:b∈fs
 ·exact u.slot b ob q n hb hx
 ·exact⟨ob.slots,u.keep b ob q n hb hx⟩
theorem Un.kept(k:∀b u,h.get? b=some u->h'.get? b=some u):Un fs ex H H h h' :=
 ⟨λb ob q _ _ _=>k b ob q,λb ob q _ _ _=>⟨ob.slots,k b ob q⟩,λ_ _ _ n _=>n,λb ob q _=>⟨ob,k b ob q⟩,λ_ _ q=>q,λ_ _ _ q=>q,λ_ ps q=>⟨#[],by rw[q];simp⟩⟩
theorem Un.refl:Un fs ex H H h h:=Un.kept λ_ _ q=>q
theorem Un.laid(k:∀b u,h.get? b=some u->h'.get? b=some u)(hp:h.objs.size<=a)(hn:H a=none):Un fs ex H (upd H a o) h h' where
 keep:=λb u q _ _ _=>k b u q
 slot:=λb u q _ _ _=>⟨u.slots,k b u q⟩
 free:=λb u q n _=>by rw[zA (bA (aA (aQ q) hp))];exact n
 there:=λb u q _=>⟨u,k b u q⟩
 tups:=λb xs q=>by rw[zA (zF q hn)];exact q
 frzs:=λb u xs q=>by rw[zA (zF q hn)];exact q
 tbls:=λb ps q=>⟨#[],by rw[zA (zF q hn),q];simp⟩
theorem Un.write(mu:Mut (H x))(he:e=x\/H e=some (.own x))(k:∀b u,b≠e->h.get? b=some u->h'.get? b=some u)(heo:∃u,h'.get? e=some u):Un fs ex H (upd H x o) h h':=by
 have hx:∀b,H b=none->b≠x:=λb n z=>by subst z;rw[n]at mu;exact mu
 have hb:∀b,H b=none->b≠e:=λb n z=>by
  subst z;rcases he with r | r
  ·exact hx b n r
  ·rw[n]at r;cases r
 have hm:∀b u,H b=some u->¬ Mut (some u)->b≠x:=λb u q nm z=>by subst z;rw[q]at mu;exact nm mu
 refine⟨λb u q n _ _=>k b u (hb b n) q,λb u q n _ _=>⟨u.slots,k b u (hb b n) q⟩,λb u q n _=>by rw[zA (hx b n)];exact n,λb u q _=>?_,
  λb xs q=>by rw[zA (hm b _ q λz=>z)];exact q,λb u xs q=>by rw[zA (hm b _ q λz=>z)];exact q,λb ps q=>⟨#[],by rw[zA (hm b _ q λz=>z),q];simp⟩⟩
 by_cases hbe:b=e
 ·subst hbe;exact heo
 ·exact⟨u,k b u hbe q⟩
end
def trk(h:dR)(H:Hp):List aq:=(aD h.objs.size).filter λa=>(H a).isSome
def zc7(h:dR)(H:Hp):dR:=rK h (trk h H)
theorem zhS(h:dR)(H:Hp):(zc7 h H).objs.size=h.objs.size:=W.hideAll_size _ _
theorem zjb(e:h.get? b=some o)(n:H b=none):(zc7 h H).get? b=some o :=
 sr _ e λhm=>by
  have q:(H b).isSome=true:=(bU.mp hm).2;rw[n]at q;simp at q
theorem zkj(e:(zc7 h H).get? b=some o):h.get? b=some o/\H b=none:=by
 have e':h.get? b=some o:=Br (trk h H) e;refine⟨e',?_⟩;cases q:H b with
 |none=>rfl
 |some x=>
  have hm:b∈trk h H:=bU.mpr ⟨cZ.mpr (aQ e'),by simp[q]⟩;have z:(zc7 h H).get? b=none:=pU (trk h H) hm;rw[z]at e;cases e
def zj7(g h:dR)(L:aq):List (aq×kj):=(aD h.objs.size).filterMap λa=>if a=L\/(g.get? a).isSome=true then none else (h.get? a).map λo=>(a,o)
def rest(g h:dR)(L d:aq):List (aq×kj):=(zj7 g h L).filter λp=>decide (p.1≠d)
structure Mod (K:aN) (mg:cG->Option aG) (base:dR):Prop where
 kin:K.In base
 glob:base.Ns bZ mg
 blt:∃mb,base.Ns oZ mb/\∀x:cG,x ≠ "__name__"->mb x=lL x
 nolimit:base.NoLimit
structure Cx where
 prog:cg
 w:cT
 K:aN
 mg:cG->Option aG
 base:dR
 A:eH
 N:List cG
 s₀:aR
 H₀:Hp
 env:GD
 outer:List GD
 stack:List GD
 ex:List aq
 fn:cG->Bool
 calm:Bool
 pn:List (aq×kj)
 xe:aG->aR->Prop
def frs(l:List GD):List aq:=l.filterMap (·.frame)
abbrev Cx.fs(X:Cx):List aq:=frs X.outer
def Vis(sc:lM)(x:cG):Prop:=sc.names.lookup x=some .local\/sc.names.lookup x=some .cell\/sc.names.lookup x=some .free
def Loc(sc:lM)(x:cG):Prop:=sc.names.lookup x=some .local\/sc.names.lookup x=some .cell
def Look(env:GD)(h:dR)(m:cG->Option aG)(x:cG)(u:aG):Prop :=
 (env.kindOf x=some .local/\m x=some u)\/((env.kindOf x=some .cell\/env.kindOf x=some .free)/\∃c,env.cells.lookup x=some c/\h.IsCell c (some u))
structure Cx.Ok (X:Cx):Prop where
 mod:Mod X.K X.mg X.base
 kind:X.env.scope.kind=.function
 glob:X.env.globals=bZ
 blt:X.env.builtins=oZ
 above:X.s₀.heap.objs.size<=X.env.locals
 inj:∀x y c,X.env.cells.lookup x=some c->X.env.cells.lookup y=some c->x=y
 has:∀x,(X.env.kindOf x=some .cell\/X.env.kindOf x=some .free)->∃c,X.env.cells.lookup x=some c
 cab:∀x c,X.fn x=true->X.env.cells.lookup x=some c->X.s₀.heap.objs.size<=c
 hd:X.calm=true->X.A.handled=none
 frames:X.A.frames=some X.stack
 stk:X.stack=X.outer\/(X.stack=X.env::X.outer/\X.env.frame=some X.env.locals)
 exf:∀b∈X.ex,b≠X.env.locals/\∀x c,X.env.cells.lookup x=some c->c≠b
 bs:∀b o,X.base.get? b=some o->X.s₀.heap.get? b=some o/\X.H₀ b=none
 bsz:X.base.objs.size<=X.s₀.heap.objs.size
 noex:∀b o,X.base.get? b=some o->b∉X.ex
 exfs:∀b∈X.ex,b∉X.fs
 funs:X.s₀.heap.FunFrames X.base X.outer
 frf:∀b∈X.fs,X.H₀ b=none
structure Inv (X:Cx) (pins:List (aq×kj)) (Z:List (Option V)) (H:Hp) (s:aR):Prop where
 ok:X.Ok
 os:s.os=X.s₀.os
 bare:lw s.gens
 base:Un X.fs X.ex X.H₀ H X.s₀.heap s.heap
 loc:∃m,s.heap.Ns X.env.locals m/\∀(i:Nat) (x:cG) (v:V),X.N[i]?=some x->Z[i]?=some (some v)->Vis X.env.scope x->∃u,RelV v u/\Look X.env s.heap m x u
 cell:∀x c,X.env.cells.lookup x=some c->∃v,s.heap.IsCell c v
 free:H X.env.locals=none
 freeC:∀x c,X.env.cells.lookup x=some c->H c=none
 pin:∀p∈X.pn++pins,s.heap.get? p.1=some p.2/\H p.1=none/\p.1≠X.env.locals/\p.1∉X.fs/\∀v,p.2.data≠.cell v
 hok:HOk X.prog X.w H s.heap
 len:Z.length=X.N.length
section
variable {X:Cx} {pins:List (aq×kj)} {Z:List (Option V)} {H H':Hp} {s:aR} {h':dR}
theorem Cx.Ok.nofr(ok:X.Ok)(e:X.base.get? b=some o):b∉X.fs:=λhb=>by
 have:=(ok.funs.mem hb).1;rw[e]at this;cases this
theorem Inv.bs(I:Inv X pins Z H s):∀b o,X.base.get? b=some o->s.heap.get? b=some o/\H b=none:=λb o e=>
 ⟨I.base.keep b o (I.ok.bs b o e).1 (I.ok.bs b o e).2 (I.ok.nofr e) (I.ok.noex b o e),I.base.free b o (I.ok.bs b o e).1 (I.ok.bs b o e).2 (I.ok.noex b o e)⟩
theorem Inv.bk(I:Inv X pins Z H s):∀b o,X.base.get? b=some o->s.heap.get? b=some o:=λb o e=>(I.bs b o e).1
theorem Inv.mod(I:Inv X pins Z H s):Mod X.K X.mg X.base:=I.ok.mod
theorem Inv.kIn(I:Inv X pins Z H s):X.K.In s.heap:=I.ok.mod.kin.keeps I.bk
theorem Inv.nolimit(I:Inv X pins Z H s):s.heap.NoLimit:=I.ok.mod.nolimit.keeps I.bk
theorem Inv.fr(I:Inv X pins Z H s):∃m,Fr X.base X.env.locals s.heap m :=
 let ⟨m,hn,_⟩:=I.loc
 ⟨m,hn,I.bk,ao I.ok.bsz I.ok.above⟩
theorem Inv.lt(I:Inv X pins Z H s):X.env.locals<s.heap.objs.size:=let ⟨_,hn,_⟩:=I.loc;hn.lt
theorem Inv.sz(I:Inv X pins Z H s):X.s₀.heap.objs.size<=s.heap.objs.size:=ao I.ok.above (d7 I.lt)
theorem Inv.nofs(I:Inv X pins Z H s){a:aq}(h:s.heap.objs.size<=a):a∉X.fs:=λhb=>by
 obtain⟨_,o,ho,_⟩:=I.ok.funs.mem hb;exact absurd (aA (aQ ho) (ao I.sz h)) (dY _)
theorem Inv.cne(I:Inv X pins Z H s):∀x c,X.env.cells.lookup x=some c->c≠X.env.locals:=λx c e z=>by
 obtain⟨v,o,ho,hd⟩:=I.cell x c e;obtain⟨m,⟨o',es,ep,ho',hd',_⟩,_⟩:=I.loc;rw[z,ho']at ho;cases ho;rw[hd']at hd;cases hd
theorem Inv.funs(I:Inv X pins Z H s):s.heap.FunFrames X.base X.outer:=by
 have all:∀(l:List GD),(∀b∈frs l,b∈X.fs)->X.s₀.heap.FunFrames X.base l->s.heap.FunFrames X.base l:=by
  intro l
  induction l with
  |nil=>intro _ _;trivial
  |cons env r ih=>
   intro hs hl;obtain⟨hk,⟨L,o,hf,hn,ho,hd⟩,hr⟩:=hl;have hL:L∈X.fs:=hs L (by unfold frs;rw[mU,hf];exact bI);obtain⟨sl,e⟩:=I.base.slot L o ho (I.ok.frf L hL) hL λz=>I.ok.exfs L z hL;exact⟨hk,⟨L,_,hf,hn,e,hd⟩,ih (λb hb=>hs b (by unfold frs;rw[mU,hf];exact bx _ hb)) hr⟩
 exact all X.outer (λ_ hb=>hb) I.ok.funs
theorem Inv.stack(I:Inv X pins Z H s):s.heap.FunFrames X.base X.stack:=by
 rcases I.ok.stk with e | ⟨e,hf⟩
 ·rw[e];exact I.funs
 ·rw[e];obtain⟨m,hn,_⟩:=I.loc;refine .cons (by rw[I.ok.kind];decide) hf hn ?_ I.funs;exact Heap.get?_none_of_le (ao I.ok.bsz I.ok.above)
theorem Inv.stkSub(I:Inv X pins Z H s):∀b∈frs X.stack,b∈X.env.locals::X.fs:=λb hb=>by
 rcases I.ok.stk with e | ⟨e,hf⟩
 ·rw[e]at hb;exact bx _ hb
 ·rw[e]at hb;unfold frs at hb;rw[mU,hf]at hb;exact hb
theorem Inv.stkFree(I:Inv X pins Z H s):∀b∈frs X.stack,H b=none:=λb hb=>by
 rcases aP.mp (I.stkSub b hb) with e | hb
 ·rw[e];exact I.free
 ·obtain⟨_,o,ho,_⟩:=I.ok.funs.mem hb;exact I.base.free b o ho (I.ok.frf b hb) λz=>I.ok.exfs b z hb
theorem Inv.step{ch:List aq}(I:Inv X pins Z H s)(hch:∀b∈ch,(b∈X.ex\/X.s₀.heap.objs.size<=b)/\b≠X.env.locals/\(∀x c,X.env.cells.lookup x=some c->c≠b)/\∀p∈X.pn++pins,p.1≠b)(keep:∀b o,b≠X.env.locals->b∉X.fs->b∉ch->s.heap.get? b=some o->H b=none->h'.get? b=some o)(slot:∀b o,b≠X.env.locals->b∈X.fs->b∉ch->s.heap.get? b=some o->H b=none->∃sl,h'.get? b=some { o with slots:=sl })(free:∀b o,b∉ch->s.heap.get? b=some o->H b=none->H' b=none)(there:∀b o,b∉ch->s.heap.get? b=some o->∃o',h'.get? b=some o')(tups:∀b xs,H b=some (.tup xs)->H' b=some (.tup xs))(frzs:∀b o u,H b=some (.frz o u)->H' b=some (.frz o u))(tbls:∀b ps,H b=some (.tbl ps)->∃more,H' b=some (.tbl (ps++more)))(ns:∀m,s.heap.Ns X.env.locals m->h'.Ns X.env.locals m)(hok:HOk X.prog X.w H' h')(hg:lw g'):
  Inv X pins Z H' { s with heap:=h',gens:=g',drawn:=d',toks:=t' }:=by
 have neL:∀b o,X.s₀.heap.get? b=some o->b≠X.env.locals:=λb o e=>bA (aA (aQ e) I.ok.above);have neC:∀b o,X.s₀.heap.get? b=some o->b∉X.ex->b∉ch:=λb o e hx hb=>by
  rcases (hch b hb).1 with z | z
  ·exact hx z
  ·exact absurd (aA (aQ e) z) (dY _)
 have cellK:∀x c,X.env.cells.lookup x=some c->∀v,s.heap.IsCell c v->h'.IsCell c v:=λx c e v ⟨o,ho,hd⟩=>by
  have nch:c∉ch:=λz=>(hch c z).2.2.1 x c e rfl;by_cases hc:c∈X.fs
  ·obtain⟨sl,q⟩:=slot c o (I.cne x c e) hc nch ho (I.freeC x c e);exact⟨_,q,hd⟩
  ·exact⟨o,keep c o (I.cne x c e) hc nch ho (I.freeC x c e),hd⟩
 refine⟨I.ok,I.os,hg,⟨λb o e n hb hx=>?_,λb o e n hb hx=>?_,λb o e n hx=>?_,λb o e hx=>?_,λb xs e=>tups b xs (I.base.tups b xs e),λb o xs e=>frzs b o xs (I.base.frzs b o xs e),λb ps e=>?_⟩,?_,λx c e=>?_,?_,λx c e=>?_,λp hp=>?_,hok,I.len⟩
 ·exact keep b o (neL b o e) hb (neC b o e hx) (I.base.keep b o e n hb hx) (I.base.free b o e n hx)
 ·obtain⟨sl,e1⟩:=I.base.slot b o e n hb hx;obtain⟨sl',e2⟩:=slot b _ (neL b o e) hb (neC b o e hx) e1 (I.base.free b o e n hx);exact⟨sl',e2⟩
 ·obtain⟨o',e1⟩:=I.base.there b o e hx;exact free b o' (neC b o e hx) e1 (I.base.free b o e n hx)
 ·obtain⟨o',e1⟩:=I.base.there b o e hx;exact there b o' (neC b o e hx) e1
 ·obtain⟨m1,e1⟩:=I.base.tbls b ps e;obtain⟨m2,e2⟩:=tbls b _ e1;exact⟨m1++m2,by rw[e2,Array.append_assoc]⟩
 ·obtain⟨m,hn,hl⟩:=I.loc;refine⟨m,ns m hn,λi x v e1 e2 e3=>?_⟩;obtain⟨u,r,l⟩:=hl i x v e1 e2 e3;refine⟨u,r,?_⟩;rcases l with l | ⟨k,c,e,z⟩
  ·exact .inl l
  ·exact .inr ⟨k,c,e,cellK x c e _ z⟩
 ·obtain⟨v,z⟩:=I.cell x c e;exact⟨v,cellK x c e v z⟩
 ·obtain⟨m,⟨o,_,_,ho,_⟩,_⟩:=I.loc;exact free _ o (λz=>(hch _ z).2.1 rfl) ho I.free
 ·obtain⟨v,o,ho,hd⟩:=I.cell x c e;exact free c o (λz=>(hch c z).2.2.1 x c e rfl) ho (I.freeC x c e)
 ·obtain⟨e,n,ne,nf,d⟩:=I.pin p hp;have nch:p.1∉ch:=λz=>(hch p.1 z).2.2.2 p hp rfl;exact⟨keep p.1 p.2 ne nf nch e n,free p.1 p.2 nch e n,ne,nf,d⟩
theorem Inv.un(I:Inv X pins Z H s)(u:Un X.fs [] H H' s.heap h')(hok:HOk X.prog X.w H' h'):Inv X pins Z H' { s with heap:=h',toks:=t' }:=by
 obtain⟨m,⟨o,es,ep,ho,r⟩,_⟩:=id I.loc;obtain⟨sl,hL⟩:=u.any ho I.free (by simp);exact I.step (g':=s.gens) (d':=s.drawn) (ch:=[]) (λ_ z=>nomatch z) (λb o _ hb _ e n=>u.keep b o e n hb (by simp)) (λb o _ hb _ e n=>u.slot b o e n hb (by simp)) (λb o _ e n=>u.free b o e n (by simp)) (λb o _ e=>u.there b o e (by simp)) u.tups u.frzs u.tbls (λm' hm=>by
  obtain⟨o',es',ep',ho',r'⟩:=hm;rw[ho]at ho';cases ho'
  exact⟨_,es',ep',hL,r'⟩) hok I.bare
theorem Inv.call(I:Inv X pins Z H s)(u:Un (frs X.stack) ch H H' s.heap h')(hok:HOk X.prog X.w H' h')(hg:lw g')(hch:∀b∈ch,(b∈X.ex\/X.s₀.heap.objs.size<=b)/\b≠X.env.locals/\(∀x c,X.env.cells.lookup x=some c->c≠b)/\∀p∈X.pn++pins,p.1≠b):
  Inv X pins Z H' { s with heap:=h',gens:=g',drawn:=d',toks:=t' }:=by
 obtain⟨m,⟨o,es,ep,ho,r⟩,_⟩:=id I.loc;obtain⟨sl,hL⟩:=u.any ho I.free λz=>(hch _ z).2.1 rfl;exact I.step (ch:=ch) hch (λb o hL hb hc e n=>u.keep b o e n (λz=>(aP.mp (I.stkSub b z)).elim hL hb) hc) (λb o _ _ hc e n=>u.any e n hc) (λb o hc e n=>u.free b o e n hc) (λb o hc e=>u.there b o e hc) u.tups u.frzs u.tbls (λm' hm=>by
  obtain⟨o',es',ep',ho',r'⟩:=hm;rw[ho]at ho';cases ho'
  exact⟨_,es',ep',hL,r'⟩) hok hg
theorem Inv.turned(I:Inv X pins Z H s)(k:∀b o,b≠it->s.heap.get? b=some o->h'.get? b=some o)(hn:H it=none)(hL:it≠X.env.locals)(h1:it∈X.ex\/X.s₀.heap.objs.size<=it)(h2:∀x c,X.env.cells.lookup x=some c->c≠it)(h3:∀p∈X.pn++pins,p.1≠it):Inv X pins Z H { s with heap:=h',toks:=t' }:=by
 have nit:∀b u,H b=some u->b≠it:=λb u e z=>by rw[z,hn]at e;cases e
 refine I.step (g':=s.gens) (d':=s.drawn) (ch:=[it]) (λb hb=>?_) (λb o _ _ hc e _=>k b o (λz=>hc (by simp[z])) e) (λb o _ _ hc e _=>⟨o.slots,k b o (λz=>hc (by simp[z])) e⟩) (λ_ _ _ _ n=>n)
  (λb o hc e=>⟨o,k b o (λz=>hc (by simp[z])) e⟩) (λ_ _ e=>e) (λ_ _ _ e=>e) (λb ps e=>⟨#[],by rw[e];simp⟩) (λm hm=>?_) (λb u e=>?_) I.bare
 ·have e:b=it:=by simpa using hb
  subst e;exact⟨h1,hL,h2,h3⟩
 ·obtain⟨o,es,ep,ho,r⟩:=hm;exact⟨o,es,ep,k _ o (cP hL) ho,r⟩
 ·refine (I.hok b u e).stay (λc v hc q=>k c v ?_ q) (λ_ q=>q) λ_ _ q=>q;rcases hc with z | z
  ·rw[z];exact nit b u e
  ·exact nit c _ z
theorem Inv.tok(I:Inv X pins Z H s)(t:Nat):Inv X pins Z H { s with toks:=t }:=I.un (h':=s.heap) (t':=t) Un.refl I.hok
theorem Inv.kept(I:Inv X pins Z H s)(k:∀b u,s.heap.get? b=some u->h'.get? b=some u):Inv X pins Z H { s with heap:=h',toks:=t' }:=I.un (Un.kept k) (I.hok.kept k)
theorem Inv.laid{a:aq}(I:Inv X pins Z H s)(k:∀b u,s.heap.get? b=some u->h'.get? b=some u)(hp:s.heap.objs.size<=a)(new:ObjOk X.prog X.w (upd H a o) h' a o):
  Inv X pins Z (upd H a o) { s with heap:=h',toks:=t' }:=I.un (Un.laid k hp (I.hok.fresh hp)) (I.hok.laid k hp new)
theorem Inv.write(I:Inv X pins Z H s)(mu:Mut (H x))(he:e=x\/H e=some (.own x))(k:∀b u,b≠e->s.heap.get? b=some u->h'.get? b=some u)(heo:∃u,h'.get? e=some u)(new:ObjOk X.prog X.w (upd H x o) h' x o):Inv X pins Z (upd H x o) { s with heap:=h',toks:=t' }:=I.un (Un.write mu he k heo) (I.hok.write mu he k heo new)
theorem Inv.weak(I:Inv X pins Z H s)(hl:σ'.length=Z.length)(w:∀(i:Nat) v,σ'[i]?=some (some v)->Z[i]?=some (some v)):Inv X pins σ' H s :=
 ⟨I.ok,I.os,I.bare,I.base,let ⟨m,hn,hl'⟩:=I.loc;⟨m,hn,λi x v e1 e2 e3=>hl' i x v e1 (w i v e2) e3⟩,I.cell,I.free,I.freeC,I.pin,I.hok,hl.trans I.len⟩
theorem Inv.pins_of(I:Inv X pins Z H s)(h:∀p∈pins',s.heap.get? p.1=some p.2/\H p.1=none/\p.1≠X.env.locals/\p.1∉X.fs/\∀v,p.2.data≠.cell v):Inv X pins' Z H s :=
 ⟨I.ok,I.os,I.bare,I.base,I.loc,I.cell,I.free,I.freeC,λp hp=>(bf.mp hp).elim (λz=>I.pin p (dB _ z)) (h p),I.hok,I.len⟩
theorem zfc{N:List cG}(hN:N.Nodup){i j:Nat}(a:N[i]?=some x)(b:N[j]?=some x):i=j:=by
 obtain⟨h1,e1⟩:=aO.mp a;obtain⟨h2,e2⟩:=aO.mp b;exact (lV hN).mp (e1.trans e2.symm)
theorem zdG(I:Inv X pins Z H s)(hN:X.N.Nodup)(hi:X.N[i]?=some x)(hx:Loc X.env.scope x)(r:RelV v u)(h:∀s',Inv X pins (Z.set i (some v)) H s'->(∃a,Bs a s.heap s'.heap/\(a=X.env.locals\/X.env.cells.lookup x=some a))->Q () s')(hf:X.fn x=true\/X.env.scope.names.lookup x=some .local:=by first | exact .inl rfl | exact .inr rfl | assumption):bJ M A (Ew X.env x u) Q E s:=by
 obtain⟨m,hn,hl⟩:=id I.loc;have hcls:(X.env.scope.kind == .class || (X.env.scope.kind == .module && X.env.locals != X.env.globals))=false:=by rw[I.ok.kind];rfl
 have hiσ:i<Z.length:=by rw[I.len];exact (aO.mp hi).1
 have cne:=I.cne;have tracked:∀{a:aq} {h':dR},(∃o,s.heap.get? a=some o/\H a=none)->Bs a s.heap h'->HOk X.prog X.w H h':=λ{a h'} ha hs b ob e=>by
  obtain⟨_,_,hfree⟩:=ha;refine (I.hok b ob e).stay (λc w' hc q=>(hs.2 c ?_).trans q) (λ_ q=>q) λ_ _ q=>q;rintro rfl;rcases hc with rfl | hc
  ·rw[hfree]at e;cases e
  ·rw[hfree]at hc;cases hc
 rcases hx with hk | hk
 ·refine wpAny_storeName_local hk hn (λh' hn' hs=>?_) hcls;obtain⟨oL,_,_,hoL,_⟩:=id hn;refine h _ ⟨I.ok,I.os,I.bare,⟨λb o e n hb hx=>?_,λb o e n hb hx=>?_,I.base.free,λb o e hx=>?_,I.base.tups,I.base.frzs,I.base.tbls⟩,⟨_,hn',λj y v' e1 e2 e3=>?_⟩,λy c e=>?_,I.free,I.freeC,λp hp=>?_,tracked ⟨oL,hoL,I.free⟩ hs,by simpa using I.len⟩ ⟨_,hs,.inl rfl⟩
  ·exact (hs.2 b (bA (aA (aQ e) I.ok.above))).trans (I.base.keep b o e n hb hx)
  ·obtain⟨sl,e1⟩:=I.base.slot b o e n hb hx;exact⟨sl,(hs.2 b (bA (aA (aQ e) I.ok.above))).trans e1⟩
  ·obtain⟨o',e1⟩:=I.base.there b o e hx;exact⟨o',(hs.2 b (bA (aA (aQ e) I.ok.above))).trans e1⟩
  ·by_cases hj:j=i
   ·subst hj;rw[hi]at e1;cases e1
    rw[o4 hiσ]at e2;cases e2
    exact⟨u,r,.inl ⟨hk,by simp⟩⟩
   ·rw[pW (cP hj)]at e2;obtain⟨u',r',q⟩:=hl j y v' e1 e2 e3;refine⟨u',r',?_⟩;rcases q with ⟨k,e⟩ | ⟨k,c,e,z⟩
    ·refine .inl ⟨k,?_⟩;have:y≠x:=λe=>hj (zfc hN e1 (e▸hi));simp[this,e]
    ·exact .inr ⟨k,c,e,z.sameBut hs (cne y c e)⟩
  ·obtain⟨w',z⟩:=I.cell y c e;exact⟨w',z.sameBut hs (cne y c e)⟩
  ·obtain⟨e,n,ne,nf,d⟩:=I.pin p hp;exact⟨(hs.2 p.1 ne).trans e,n,ne,nf,d⟩
 ·have hfn:X.fn x=true:=by
   rcases hf with z | z
   ·exact z
   ·rw[z]at hk;cases hk
  obtain⟨c,hc⟩:=I.ok.has x (.inl hk);obtain⟨w',z⟩:=I.cell x c hc;refine wpAny_storeName_cell I.ok.kind hk hc z (λh' hc' hs=>?_);obtain⟨oc,hoc,hocd⟩:=id z;refine h { s with heap:=h' } ⟨I.ok,I.os,I.bare,⟨λb o e n hb hx=>?_,λb o e n hb hx=>?_,I.base.free,λb o e hx=>?_,I.base.tups,I.base.frzs,I.base.tbls⟩,⟨m,hn.sameBut hs (cP (cne x c hc)),λj y v' e1 e2 e3=>?_⟩,λy c' e=>?_,I.free,I.freeC,λp hp=>?_,tracked ⟨oc,hoc,I.freeC x c hc⟩ hs,by simpa using I.len⟩ ⟨c,hs,.inr hc⟩
  ·exact (hs.2 b (bA (aA (aQ e) (I.ok.cab x c hfn hc)))).trans (I.base.keep b o e n hb hx)
  ·obtain⟨sl,e1⟩:=I.base.slot b o e n hb hx;exact⟨sl,(hs.2 b (bA (aA (aQ e) (I.ok.cab x c hfn hc)))).trans e1⟩
  ·obtain⟨o',e1⟩:=I.base.there b o e hx;exact⟨o',(hs.2 b (bA (aA (aQ e) (I.ok.cab x c hfn hc)))).trans e1⟩
  ·by_cases hj:j=i
   ·subst hj;rw[hi]at e1;cases e1
    rw[o4 hiσ]at e2;cases e2
    exact⟨u,r,.inr ⟨.inl hk,c,hc,hc'⟩⟩
   ·rw[pW (cP hj)]at e2;obtain⟨u',r',q⟩:=hl j y v' e1 e2 e3;refine⟨u',r',?_⟩;rcases q with q | ⟨k,c',e,z'⟩
    ·exact .inl q
    ·refine .inr ⟨k,c',e,z'.sameBut hs ?_⟩;rintro rfl;exact hj (zfc hN e1 (I.ok.inj _ _ _ e hc▸hi))
  ·by_cases hcc:c'=c
   ·subst hcc;exact⟨_,hc'⟩
   ·obtain⟨w2,z2⟩:=I.cell y c' e;exact⟨w2,z2.sameBut hs hcc⟩
  ·obtain⟨e,n,ne,nf,d⟩:=I.pin p hp;refine⟨(hs.2 p.1 ?_).trans e,n,ne,nf,d⟩;intro q;rw[q,hoc]at e;have q':oc=p.2:=bY e;exact d w' (by rw[<-q'];exact hocd)
theorem zb3(I:Inv X pins Z H s)(hN:X.N.Nodup)(hi:X.N[i]?=some x)(hx:Loc X.env.scope x)(r:RelV v u)(h:∀s',Inv X pins (Z.set i (some v)) H s'->Q () s')(hf:X.fn x=true\/X.env.scope.names.lookup x=some .local:=by first | exact .inl rfl | exact .inr rfl | assumption):bJ M A (Ew X.env x u) Q E s :=
 zdG I hN hi hx r (λs' I' _=>h s' I') hf
theorem Inv.call'(I:Inv X pins Z H s)(ho:s'.os=s.os)(u:Un (frs X.stack) ch H H' s.heap s'.heap)(hok:HOk X.prog X.w H' s'.heap)(hg:lw s'.gens)(hch:∀b∈ch,(b∈X.ex\/X.s₀.heap.objs.size<=b)/\b≠X.env.locals/\(∀x c,X.env.cells.lookup x=some c->c≠b)/\∀p∈X.pn++pins,p.1≠b):Inv X pins Z H' s':=by
 obtain⟨h',g',d',t',o'⟩:=s';have e:o'=s.os:=ho;subst e;exact I.call (g':=g') (t':=t') (d':=d') u hok hg hch
end
abbrev XK:=aG->Option aq->Hp->Prop
abbrev St:=List (Option V)
abbrev VK:=V->Hp->Prop
abbrev TE:=St->Hp->VK->Prop
abbrev TT:=St->Hp->(Bool->Hp->Prop)->Prop
abbrev TA:=St->Hp->(List V->Hp->Prop)->Prop
structure Ends where
 nx:St->Hp->Prop
 rt:VK
 bk:St->Hp->Prop:=λ_ _=>False
 ct:St->Hp->Prop:=λ_ _=>False
abbrev TS:=Ends->St->Hp->Prop
def EP(X:Cx)(pins:List (aq×kj))(Z:St)(Q:VK)(u:aG)(s':aR):Prop:=∃v H',Inv X pins Z H' s'/\RelV v u/\Q v H'
def TP(X:Cx)(pins:List (aq×kj))(Z:St)(Q:Bool->Hp->Prop)(b:Bool)(s':aR):Prop:=∃H',Inv X pins Z H' s'/\Q b H'
def AP(X:Cx)(pins:List (aq×kj))(Z:St)(Q:List V->Hp->Prop)(us:List aG)(s':aR):Prop:=∃vs H',Inv X pins Z H' s'/\Vals vs us/\Q vs H'
def SP(X:Cx)(pins:List (aq×kj))(D:Ends)(f:Flow)(s':aR):Prop :=
 match f with
 |.next=>∃σ' H',Inv X pins σ' H' s'/\D.nx σ' H'
 |.brk=>∃σ' H',Inv X pins σ' H' s'/\D.bk σ' H'
 |.cont=>∃σ' H',Inv X pins σ' H' s'/\D.ct σ' H'
 |.ret u=>∃v σ' H',Inv X pins σ' H' s'/\RelV v u/\D.rt v H'
def PE(X:Cx)(e:eV)(t:TE):Prop :=
 ∀(pins:List (aq×kj)) (s:aR) (Z:St) (H:Hp) (Q:VK),Inv X pins Z H s->t Z H Q->bJ (bR X.prog X.w) X.A (dI e X.env) (EP X pins Z Q) X.xe s
def PT(X:Cx)(e:eV)(t:TT):Prop :=
 ∀(pins:List (aq×kj)) (s:aR) (Z:St) (H:Hp) (Q:Bool->Hp->Prop),Inv X pins Z H s->t Z H Q->bJ (bR X.prog X.w) X.A (Fd e X.env (dI e X.env)) (TP X pins Z Q) X.xe s
def PW(X:Cx)(e:eV)(t:TT):Prop :=
 ∀(whole:Ig aG) (pins:List (aq×kj)) (s:aR) (Z:St) (H:Hp) (Q:Bool->Hp->Prop),Inv X pins Z H s->t Z H Q->bJ (bR X.prog X.w) X.A (Fd e X.env whole) (TP X pins Z Q) X.xe s
theorem PW.pt(h:PW X e t):PT X e t:=h _
def PA(X:Cx)(es:List eV)(t:TA):Prop :=
 ∀(pos:mV) (pins:List (aq×kj)) (s:aR) (Z:St) (H:Hp) (Q:List V->Hp->Prop),Inv X pins Z H s->t Z H Q->bJ (bR X.prog X.w) X.A (Bt (gh pos (bF es X.env))) (AP X pins Z Q) X.xe s
def PS(X:Cx)(st:cz)(t:TS):Prop :=
 ∀(pins:List (aq×kj)) (s:aR) (Z:St) (H:Hp) (D:Ends),Inv X pins Z H s->t D Z H->bJ (bR X.prog X.w) X.A (exec st X.env) (SP X pins D) X.xe s
def PSs(X:Cx)(st:List cz)(t:TS):Prop :=
 ∀(pins:List (aq×kj)) (s:aR) (Z:St) (H:Hp) (D:Ends),Inv X pins Z H s->t D Z H->bJ (bR X.prog X.w) X.A (execs st X.env) (SP X pins D) X.xe s
theorem thn(h:bJ M A t Q E s)(hQ:∀a s,Q a s->Q' a s):bJ M A t Q' E s:=dX h hQ λ_ _ x=>x
section
variable {X:Cx}
inductive zlT (i:Nat) (Z:St) (H:Hp) (Q:VK):Prop
 |mk (v:V) (h:Z[i]?=some (some v)) (q:Q v H):zlT i Z H Q
def zby(i:Nat):TE:=λZ H Q=>zlT i Z H Q
inductive BlI (x:V) (H:Hp) (Q:Bool->Hp->Prop):Prop
 |mk (c:Bool) (h:x=.bl c) (q:Q c H):BlI x H Q
def tC(v:V):TE:=λ_ H Q=>Q v H
theorem zle{pos:mV}(hN:X.N[i]?=some x)(hv:Vis X.env.scope x)(hd:(x == ("__debug__" : cG))=false:=by decide)(hcd:(x == ("__classdict__" : cG))=false:=by decide):PE X (.Name x pos) (zby i):=by
 intro pins s Z H Q I h;obtain⟨v,e,h⟩:=h;obtain⟨m,hn,hl⟩:=I.loc;obtain⟨u,r,l⟩:=hl i x v hN e hv;have fin:EP X pins Z Q u s:=⟨v,H,I,r,h⟩
 rcases l with ⟨hk,hm⟩ | ⟨hk,c,hc,hcell⟩
 ·exact Dy (pX I.ok.kind hk hn hm fin) hd
 ·rcases hk with hk | hk
  ·exact Dy (rQ I.ok.kind hk hc hcell fin) hd
  ·exact Dy (wpAny_loadName_free I.ok.kind hk hc hcell fin hcd) hd
theorem zu{i j pos}:PE X (.Constant (.int i) j pos) (tC (.int i)):=λ_ _ _ H _ I h=>wpAny_Constant_int ⟨.int i,H,I.tok _,⟨_,rfl⟩,h⟩
theorem vX{b j pos}:PE X (.Constant (.bool b) j pos) (tC (.bl b)):=λ_ _ _ H _ I h=>Constant_bool ⟨.bl b,H,I,rfl,h⟩
theorem uF{j pos}:PE X (.Constant .none j pos) (tC .non):=λ_ _ _ H _ I h=>Constant_none ⟨.non,H,I,rfl,h⟩
theorem zeG{x j pos}:PE X (.Constant (.str x) j pos) (tC (.str x)):=λ_ _ _ H _ I h=>Calls.Constant_str ⟨.str x,H,I.tok _,⟨_,rfl⟩,h⟩
def Gl(X:Cx)(x:cG):Prop:=X.env.kindOf x=some .globalImplicit
theorem Ub{Z:St}(I:Inv X pins Z H s)(hg:Gl X x)(hm:X.mg x=some u)(h:Q u s)(hd:(x == ("__debug__" : cG))=false:=by decide):bJ (bR X.prog X.w) X.A (dI (.Name x pos) X.env) Q E s :=
 nA I.ok.kind hg (Calls.loadGlobal_global (by rw[I.ok.glob];exact I.mod.glob.keeps I.bk) hm h) hd
theorem Zk{E:aG->aR->Prop}{Z:St}{pos:mV}(I:Inv X pins Z H s)(hg:Gl X x)(hm:X.mg x=none)(hv:lL x=some u)(h:Q u s)(hn:x ≠ "__name__":=by decide)(hd:(x == ("__debug__" : cG))=false:=by decide):bJ (bR X.prog X.w) X.A (dI (.Name x pos) X.env) Q E s:=by
 obtain⟨mb,h1,h2⟩:=I.mod.blt;exact nA I.ok.kind hg (Calls.loadGlobal_builtin (by rw[I.ok.glob];exact I.mod.glob.keeps I.bk) hm (by rw[I.ok.blt];exact h1.keeps I.bk) ((h2 x hn).trans hv) h) hd
theorem Z0(hg:Gl X x)(hm:X.mg x=some u)(r:RelV v u)(hd:(x == ("__debug__" : cG))=false:=by decide):PE X (.Name x pos) (tC v):=
 λ_ _ _ H _ I h=>Ub I hg hm ⟨v,H,I,r,h⟩ hd
theorem QW{pos:mV}(hg:Gl X x)(hm:X.mg x=none)(hv:lL x=some u)(r:RelV v u)(hn:x ≠ "__name__":=by decide)(hd:(x == ("__debug__" : cG))=false:=by decide):PE X (.Name x pos) (tC v):=
 λ_ _ _ H _ I h=>Zk I hg hm hv ⟨v,H,I,r,h⟩ hn hd
variable {a b:eV} {ta tb:TE} {pos:mV}
def tB(t:TE):TT:=λZ H Q=>t Z H λx H1=>BlI x H1 Q
theorem yX(h:PE X e t)(he:∀whole,Fd e X.env whole=(do let v <-whole;rM e.pos;Dt [v] (truthy v)):=by intro _;rfl):PT X e (tB t):=by
 intro pins s Z H Q I hw;refine isTrue_plain (thn (h pins s Z H _ I hw) λv s1 ⟨x,H1,I1,r1,q1⟩=>?_) (he _);obtain⟨d,rfl,q⟩:=q1;cases r1
 exact dM ⟨H1,I1,q⟩
variable {tA tB':TT} {rest:List eV}
def zme(t u:TT):TT:=λZ H Q=>t Z H λc H1=>if c=true then u Z H1 Q else Q false H1
def tOr(t u:TT):TT:=λZ H Q=>t Z H λc H1=>if c=true then Q true H1 else u Z H1 Q
def zlP(t:TT):TT:=λZ H Q=>t Z H λc H1=>Q (!c) H1
theorem zal(ha:PT X a tA):PW X (.BoolOp .And [a] pos) tA:=by
 intro wh pins s Z H Q I h;refine GF (thn (ha pins s Z H Q I h) λc s1 e=>?_);cases c with
 |true=>exact isTrue_and_nil e
 |false=>exact e
theorem qw(ha:PT X a tA):PW X (.BoolOp .Or [a] pos) tA:=by
 intro wh pins s Z H Q I h;refine isTrue_or (thn (ha pins s Z H Q I h) λc s1 e=>?_);cases c with
 |false=>exact isTrue_or_nil e
 |true=>exact e
theorem zck(ha:PT X a tA)(hb:PW X (.BoolOp .And (b::rest) pos) tB'):PW X (.BoolOp .And (a::b::rest) pos) (zme tA tB'):=by
 intro wh pins s Z H Q I h;refine GF (thn (ha pins s Z H _ I h) λc s1 ⟨H1,I1,q1⟩=>?_);cases c with
 |true=>exact hb wh pins s1 Z H1 Q I1 q1
 |false=>exact⟨H1,I1,q1⟩
theorem Z6(ha:PT X a tA)(hb:PW X (.BoolOp .Or (b::rest) pos) tB'):PW X (.BoolOp .Or (a::b::rest) pos) (tOr tA tB'):=by
 intro wh pins s Z H Q I h;refine isTrue_or (thn (ha pins s Z H _ I h) λc s1 ⟨H1,I1,q1⟩=>?_);cases c with
 |true=>exact⟨H1,I1,q1⟩
 |false=>exact hb wh pins s1 Z H1 Q I1 q1
theorem wB(ha:PT X a tA):PT X (.UnaryOp .Not a pos) (zlP tA):=by
 intro pins s Z H Q I h;exact isTrue_not (ha pins s Z H (λc H1=>Q (!c) H1) I h)
def zkz(ta tb:TE):TE:=λZ H Q=>ta Z H λx H1=>∃c,x=.bl c/\if c=true then tb Z H1 Q else Q (.bl false) H1
def zmk(ta tb:TE):TE:=λZ H Q=>ta Z H λx H1=>∃c,x=.bl c/\if c=true then Q (.bl true) H1 else tb Z H1 Q
def zlY(ta:TE):TE:=λZ H Q=>ta Z H λx H1=>∃c,x=.bl c/\Q (.bl (!c)) H1
theorem Xr{op}(h:PE X a t):PE X (.BoolOp op [a] pos) t:=λpins s Z H Q I hw=>BoolOp_one (h pins s Z H Q I hw)
theorem Ww(ha:PE X a ta)(hb:PE X (.BoolOp .And (b::rest) pos) tb):PE X (.BoolOp .And (a::b::rest) pos) (zkz ta tb):=by
 intro pins s Z H Q I h;refine BoolOp_and (thn (ha pins s Z H _ I h) λv s1 ⟨x,H1,I1,r1,q1⟩=>?_);obtain⟨c,rfl,q1⟩:=q1;cases r1
 refine dM ?_;cases c with
 |true=>exact hb pins s1 Z H1 Q I1 q1
 |false=>exact⟨.bl false,H1,I1,rfl,q1⟩
theorem zlS(ha:PE X a ta)(hb:PE X (.BoolOp .Or (b::rest) pos) tb):PE X (.BoolOp .Or (a::b::rest) pos) (zmk ta tb):=by
 intro pins s Z H Q I h;refine BoolOp_or (thn (ha pins s Z H _ I h) λv s1 ⟨x,H1,I1,r1,q1⟩=>?_);obtain⟨c,rfl,q1⟩:=q1;cases r1
 refine dM ?_;cases c with
 |false=>exact hb pins s1 Z H1 Q I1 q1
 |true=>exact⟨.bl true,H1,I1,rfl,q1⟩
theorem zjL(ha:PE X a ta):PE X (.UnaryOp .Not a pos) (zlY ta):=by
 intro pins s Z H Q I h;refine UnaryOp_ (thn (ha pins s Z H _ I h) λv s1 ⟨x,H1,I1,r1,q1⟩=>?_);obtain⟨c,rfl,q1⟩:=q1;cases r1
 exact not_of (dM ⟨.bl (!c),H1,I1,rfl,q1⟩)
def tIf(t:TT)(ta tb:TE):TE:=λZ H Q=>t Z H λc H1=>if c=true then ta Z H1 Q else tb Z H1 Q
theorem zfV(hc:PT X c tA)(ha:PE X a ta)(hb:PE X b tb):PE X (.IfExp c a b pos) (tIf tA ta tb):=by
 intro pins s Z H Q I h;refine wpAny_IfExp (thn (hc pins s Z H _ I h) λd s1 ⟨H1,I1,q1⟩=>?_);cases d with
 |true=>exact ha pins s1 Z H1 Q I1 q1
 |false=>exact hb pins s1 Z H1 Q I1 q1
end
def SqL(K:aN)(H:Hp)(a:aq)(xs:List V):Prop :=
 Rd H a (.lst xs) \/
  ∃o its n,K.lookup a=some o/\o.cls=.type "list"/\o.dict=none/\o.data=.seq its n/\its.size<=aZ/\Vals xs its.toList
def SqT(K:aN)(H:Hp)(a:aq)(xs:List V):Prop :=
 Rd H a (.tup xs) \/
  ∃o its n,K.lookup a=some o/\o.cls=.type "tuple"/\o.data=.seq its n/\its.size<=aZ/\Vals xs its.toList
def zmt:aG->Option V
 |.none=>some .non
 |.bool b=>some (.bl b)
 |.int i _=>some (.int i)
 |.str x _=>some (.str x)
 |.bytes b _=>some (.byt b)
 |.float b _=>some (.flt b)
 |.ref a=>some (.ref a)
 |.type n=>some (.ty n)
 |_=>none
theorem RelV.abs(r:RelV x u):zmt u=some x:=by
 cases x with
 |non=>cases r;rfl
 |bl _=>cases r;rfl
 |int _=>obtain⟨t,rfl⟩:=r;rfl
 |str _=>obtain⟨t,rfl⟩:=r;rfl
 |byt _=>obtain⟨t,rfl⟩:=r;rfl
 |flt _=>obtain⟨t,rfl⟩:=r;rfl
 |ref _=>cases r;rfl
 |ty _=>cases r;rfl
theorem RelV.inj(r:RelV x u)(q:RelV y u):x=y:=bY (r.abs.symm.trans q.abs)
theorem Vals.inj:∀{xs ys:List V} {us:List aG},Vals xs us->Vals ys us->xs=ys
 |_,_,_,.nil,.nil=>rfl
 |_,_,_,.cons r t,.cons r' t'=>by rw[r.inj r',Vals.inj t t']
section
variable {X:Cx} {pins:List (aq×kj)} {Z:St} {H:Hp} {s:aR} {a:aq} {xs ys:List V}
theorem SqL.of{K:aN}(h:H a=some (.lst xs)):SqL K H a xs:=.inl (.inl h)
theorem SqT.of{K:aN}(h:H a=some (.tup xs)):SqT K H a xs:=.inl (.inl h)
theorem Inv.list(I:Inv X pins Z H s)(h:SqL X.K H a xs):∃its:List aG,Vals xs its/\PlainL s.heap a its.toArray/\xs.length<=aZ:=by
 rcases h with h | ⟨o,its,n,hk,hc,hd,hs,hz,r⟩
 ·obtain⟨z,its,n,r,e⟩:=h.ok I.hok;exact⟨its,r,⟨_,n,e,rfl,rfl,rfl⟩,z⟩
 ·refine⟨its.toList,r,⟨o,n,I.kIn a o hk,hc,hd,by simpa using hs⟩,?_⟩;have e:=r.length;simp only[fU]at e;omega
theorem Inv.tuple(I:Inv X pins Z H s)(h:SqT X.K H a xs):∃its:List aG,Vals xs its/\IsTup s.heap a its.toArray/\xs.length<=aZ:=by
 rcases h with h | ⟨o,its,n,hk,hc,hs,hz,r⟩
 ·obtain⟨z,its,r,p⟩:=h.ok I.hok;exact⟨its,r,p,z⟩
 ·refine⟨its.toList,r,⟨o,I.kIn a o hk,hc,n,by simpa using hs⟩,?_⟩;have e:=r.length;simp only[fU]at e;omega
theorem Inv.list_inj(I:Inv X pins Z H s)(h:SqL X.K H a xs)(h':SqL X.K H a ys):xs=ys:=by
 obtain⟨its,r,⟨o,n,e,_,_,d⟩,_⟩:=I.list h;obtain⟨its',r',⟨o',n',e',_,_,d'⟩,_⟩:=I.list h';rw[e]at e';cases e'
 rw[d]at d';injection d' with d1 _
 have:its=its':=by simpa using congrArg Fe d1
 subst this;exact r.inj r'
theorem Inv.tuple_inj(I:Inv X pins Z H s)(h:SqT X.K H a xs)(h':SqT X.K H a ys):xs=ys:=by
 obtain⟨its,r,⟨o,e,_,n,d⟩,_⟩:=I.tuple h;obtain⟨its',r',⟨o',e',_,n',d'⟩,_⟩:=I.tuple h';rw[e]at e';cases e'
 rw[d]at d';injection d' with d1 _
 have:its=its':=by simpa using congrArg Fe d1
 subst this;exact r.inj r'
end
abbrev Cx.wish(X:Cx)(E:aG->aR->Prop):Cx:={ X with xe:=E }
abbrev Cx.nox(X:Cx):Cx:=X.wish λ_ _=>False
theorem Cx.Ok.wish{X:Cx}(ok:X.Ok)(E:aG->aR->Prop):(X.wish E).Ok :=
 ⟨ok.mod,ok.kind,ok.glob,ok.blt,ok.above,ok.inj,ok.has,ok.cab,ok.hd,ok.frames,ok.stk,ok.exf,ok.bs,ok.bsz,ok.noex,ok.exfs,ok.funs,ok.frf⟩
theorem Cx.Ok.unwish{X:Cx}(ok:(X.wish E).Ok):X.Ok :=
 ⟨ok.mod,ok.kind,ok.glob,ok.blt,ok.above,ok.inj,ok.has,ok.cab,ok.hd,ok.frames,ok.stk,ok.exf,ok.bs,ok.bsz,ok.noex,ok.exfs,ok.funs,ok.frf⟩
section
variable {X:Cx} {pins:List (aq×kj)} {Z:St} {H:Hp} {s:aR} {E:aG->aR->Prop}
theorem Inv.wish(I:Inv X pins Z H s)(E:aG->aR->Prop):Inv (X.wish E) pins Z H s:=⟨I.ok.wish E,I.os,I.bare,I.base,I.loc,I.cell,I.free,I.freeC,I.pin,I.hok,I.len⟩
theorem Inv.unwish(I:Inv (X.wish E) pins Z H s):Inv X pins Z H s:=⟨I.ok.unwish,I.os,I.bare,I.base,I.loc,I.cell,I.free,I.freeC,I.pin,I.hok,I.len⟩
theorem SP.unwish(h:SP (X.wish E) pins D f s'):SP X pins D f s':=by
 cases f with
 |next=>obtain⟨σ',H',I,q⟩:=h;exact⟨σ',H',I.unwish,q⟩
 |brk=>obtain⟨σ',H',I,q⟩:=h;exact⟨σ',H',I.unwish,q⟩
 |cont=>obtain⟨σ',H',I,q⟩:=h;exact⟨σ',H',I.unwish,q⟩
 |ret u=>obtain⟨v,σ',H',I,r,q⟩:=h;exact⟨v,σ',H',I.unwish,r,q⟩
theorem PSs.nox{st:List cz}(h:PSs X.nox st t):PSs X st t:=λpins s Z H D I hw=>
 dX (h pins s Z H D (I.wish _) hw) (λ_ _ q=>q.unwish) λ_ _ z=>cV z
end
section
variable {X:Cx} {st:cz} {rest:List cz} {t u:TS} {e:eV} {te:TE} {pos:mV}
def Jh:TS:=λD Z H=>D.nx Z H
def Y9(t u:TS):TS:=λD Z H=>t { D with nx:=u D } Z H
theorem zQ:PSs X [] Jh:=λ_ _ Z H _ I h=>lz ⟨Z,H,I,h⟩
theorem zg(h1:PS X st t)(h2:PSs X rest u):PSs X (st::rest) (Y9 t u):=by
 intro pins s Z H D I h;refine Cm (thn (h1 pins s Z H { D with nx:=u D } I h) λf s1 q=>?_);cases f with
 |next=>
  obtain⟨σ',H',I',q⟩:=q;exact h2 pins s1 σ' H' D I' q
 |ret v=>exact q
 |brk=>exact q
 |cont=>exact q
theorem zm(h1:PS X st t):PSs X [st] t:=by
 intro pins s Z H D I h;refine Cm (thn (h1 pins s Z H D I h) λf s1 q=>?_);cases f with
 |next=>exact lz q
 |ret v=>exact q
 |brk=>exact q
 |cont=>exact q
theorem Inv.quiet{Z:St}(I:Inv X pins Z H s):FQ X.env=false:=by simp[FQ,I.ok.kind]
def zg8(te:TE):TS:=λD Z H=>te Z H λ_ H1=>D.nx Z H1
theorem yw(he:PE X e te)(hs:rN e none pos.line X.env=pure false:=by rfl):PS X (.Expr e pos) (zg8 te):=by
 intro pins s Z H D I h;exact wpAny_Expr_any (thn (he pins s Z H _ I h) λv s1 ⟨x,H1,I1,r1,q1⟩=>⟨Z,H1,I1,q1⟩) I.quiet hs
def zll(te:TE):TS:=λD Z H=>te Z H D.rt
theorem zE(he:PE X e te):PS X (.Return (some e) pos) (zll te):=by
 intro pins s Z H D I h;exact wpAny_Return_some (thn (he pins s Z H _ I h) λv s1 ⟨x,H1,I1,r1,q1⟩=>⟨x,Z,H1,I1,r1,q1⟩)
def zfJ(c:TT)(t u:TS):TS:=λD Z H=>c Z H λb H1=>if b=true then t D Z H1 else u D Z H1
theorem yx(hc:PT X c tc)(ha:PSs X a t)(hb:PSs X b u):PS X (.If c a b pos) (zfJ tc t u):=by
 intro pins s Z H D I h;refine wpAny_If (thn (hc pins s Z H _ I h) λd s1 ⟨H1,I1,q1⟩=>?_);cases d with
 |true=>exact ha pins s1 Z H1 D I1 q1
 |false=>exact hb pins s1 Z H1 D I1 q1
def zlv:TS:=λ_ _ _=>False
theorem uf:PS X st zlv:=λ_ _ _ _ _ _ h=>h.elim
end
abbrev TG:=V->St->Hp->(St->Hp->Prop)->Prop
abbrev TGs:=List V->St->Hp->(St->Hp->Prop)->Prop
def PG(X:Cx)(target:eV)(t:TG):Prop :=
 ∀(pins:List (aq×kj)) (s:aR) (Z:St) (H:Hp) (v:V) (u:aG) (Q:St->Hp->Prop),Inv X pins Z H s->RelV v u->t v Z H Q ->
  bJ (bR X.prog X.w) X.A (Cp target X.env u) (λ_ s'=>∃σ' H',Inv X pins σ' H' s'/\Q σ' H') X.xe s
def PGs(X:Cx)(ts:List eV)(t:TGs):Prop :=
 ∀(pins:List (aq×kj)) (s:aR) (Z:St) (H:Hp) (vs:List V) (us:List aG) (Q:St->Hp->Prop),Inv X pins Z H s->Vals vs us->t vs Z H Q ->
  bJ (bR X.prog X.w) X.A (assignInOrder ((o5 ts X.env).map (·.2)) us) (λ_ s'=>∃σ' H',Inv X pins σ' H' s'/\Q σ' H') X.xe s
abbrev TIp:=V->V->Hp->VK->Prop
def PIp(X:Cx)(op:Operator)(t:TIp):Prop :=
 ∀(pins:List (aq×kj)) (s:aR) (Z:St) (H:Hp) (x y:V) (v u:aG) (Q:VK),Inv X pins Z H s->RelV x v->RelV y u->t x y H Q ->
  bJ (bR X.prog X.w) X.A (inplaceOp op v u) (EP X pins Z Q) X.xe s
section
variable {X:Cx} {pos:mV}
def j9(i:Nat):TG:=λv Z H Q=>Q (Z.set i (some v)) H
theorem yV(hN:X.N.Nodup)(hi:X.N[i]?=some x)(hx:Loc X.env.scope x)(hf:X.fn x=true\/X.env.scope.names.lookup x=some .local:=by first | exact .inl rfl | exact .inr rfl | assumption):PG X (.Name x pos) (j9 i):=by
 intro pins s Z H v u Q I r h;exact Bu (zb3 I hN hi hx r (λs' I'=>⟨_,H,I',h⟩) hf)
def zmo:TGs:=λvs Z H Q=>vs=[]/\Q Z H
inductive GcI (t:TG) (u:TGs) (vs:List V) (Z:St) (H:Hp) (Q:St->Hp->Prop):Prop
 |mk (v:V) (r:List V) (h:vs=v::r) (q:t v Z H fun σ' H'=>u r σ' H' Q):GcI t u vs Z H Q
def zlR(t:TG)(u:TGs):TGs:=λvs Z H Q=>GcI t u vs Z H Q
theorem zks:PGs X [] zmo:=by
 intro pins s Z H vs us Q I r h;obtain⟨e,h⟩:=h;subst e;cases r
 exact assignInOrder_nil ⟨Z,H,I,h⟩
theorem ze3(h1:PG X e t)(h2:PGs X es u)(hs:(o5 (e::es) X.env).map (·.2)=Cp e X.env::(o5 es X.env).map (·.2):=by rfl):PGs X (e::es) (zlR t u):=by
 intro pins s Z H vs us Q I r h;obtain⟨v,vr,e1,h⟩:=h;subst e1;cases r with
 |cons r rr=>
  rw[hs];refine assignInOrder_cons (thn (h1 pins s Z H _ _ _ I r h) λ_ s1 ⟨σ1,H1,I1,q1⟩=>?_);exact h2 pins s1 σ1 H1 _ _ Q I1 rr q1
inductive GtI (K:aN) (n:Nat) (t:TGs) (v:V) (Z:St) (H:Hp) (Q:St->Hp->Prop):Prop
 |mk (a:aq) (xs:List V) (h1:v=.ref a) (h2:SqT K H a xs) (h3:xs.length=n) (q:t xs Z H Q):GtI K n t v Z H Q
def zmu(K:aN)(n:Nat)(t:TGs):TG:=λv Z H Q=>GtI K n t v Z H Q
theorem zlu{k:Nat}(hc:X.calm=true)(h:PGs X es t)(hn:(o5 es X.env).length=n:=by rfl)(hst:(o5 es X.env).findIdx? (·.1)=none:=by rfl):PG X (.Tuple es k pos) (zmu X.K n t):=by
 intro pins s Z H v u Q I r hw;obtain⟨a,xs,e1,hq,hl,hw⟩:=hw;subst e1;cases r
 obtain⟨its,rv,ht,hz⟩:=I.tuple hq;refine assign_Tuple_tuple (I.ok.hd hc) ht (by simp[hn,<-hl,rv.length]) hst λh' hx=>?_;have I1:Inv X pins Z H { s with heap:=h' }:=I.kept (t':=s.toks) λb o e=>hx b o (bA (aQ e)) e;exact h pins _ Z H xs _ Q I1 (by simpa using rv) hw
def zaO(te:TE)(g:TG):TS:=λD Z H=>te Z H λx H1=>g x Z H1 D.nx
theorem zU(hN:X.N.Nodup)(hi:X.N[i]?=some x)(hx:Loc X.env.scope x)(he:PE X e te)(hs:rN e (some (.Name x pos')) pos.line X.env=pure false:=by rfl)(hf:X.fn x=true\/X.env.scope.names.lookup x=some .local:=by first | exact .inl rfl | exact .inr rfl | assumption):
  PS X (.Assign [.Name x pos'] e pos) (zaO te (j9 i)):=by
 intro pins s Z H D I h;refine wpAny_Assign_Name (thn (he pins s Z H _ I h) λv s1 ⟨y,H1,I1,r1,q1⟩=>?_) hs;exact zb3 I1 hN hi hx r1 (λs2 I2=>⟨_,H1,I2,q1⟩) hf
def zmq(i:Nat)(te:TE)(ti:TIp):TS:=λD Z H=>∃x,Z[i]?=some (some x)/\te Z H λy H1=>ti x y H1 λz H2=>D.nx (Z.set i (some z)) H2
theorem zaS(hN:X.N.Nodup)(hi:X.N[i]?=some x)(hx:Loc X.env.scope x)(he:PE X e te)(ho:PIp X op ti)(hf:X.fn x=true\/X.env.scope.names.lookup x=some .local:=by first | exact .inl rfl | exact .inr rfl | assumption):
  PS X (.AugAssign (.Name x pos') op e pos) (zmq i te ti):=by
 intro pins s Z H D I h;obtain⟨v,e1,h⟩:=h;obtain⟨m,hn,hl⟩:=I.loc;have vis:Vis X.env.scope x:=by rcases hx with k | k;exact .inl k;exact .inr (.inl k)
 obtain⟨u,r,l⟩:=hl i x v hi e1 vis;refine wpAny_AugAssign_Name ?_;have go:bJ (bR X.prog X.w) X.A (dI e X.env) (λw s₂=>bJ (bR X.prog X.w) X.A (inplaceOp op u w) (λr s₃=>bJ (bR X.prog X.w) X.A (Ew X.env x r) (λ_=>SP X pins D .next) X.xe s₃) X.xe s₂) X.xe s:=by
  refine thn (he pins s Z H _ I h) λw s1 ⟨y,H1,I1,r1,q1⟩=>?_;refine thn (ho pins s1 Z H1 v y u w _ I1 r r1 q1) λz s2 ⟨zv,H2,I2,r2,q2⟩=>?_;exact zb3 I2 hN hi hx r2 (λs3 I3=>⟨_,H2,I3,q2⟩) hf
 rcases l with ⟨hk,hm⟩ | ⟨hk,c,hc,hcell⟩
 ·exact pX I.ok.kind hk hn hm go
 ·rcases hk with hk | hk
  ·exact rQ I.ok.kind hk hc hcell go
  ·rcases hx with k | k
   ·have:X.env.scope.names.lookup x=some .free:=hk;rw[k]at this;cases this
   ·have:X.env.scope.names.lookup x=some .free:=hk;rw[k]at this;cases this
def ipI(f:Int->Int->Int):TIp:=λx y H Q=>Ex2 λi j=>x=.int i/\y=.int j/\Q (.int (f i j)) H
theorem zbW:PIp X .Add (ipI λi j=>i+j):=by
 intro pins s Z H x y v u Q I r1 r2 h;obtain⟨i,j,e1,e2,q⟩:=h;subst e1;subst e2;obtain⟨t,rfl⟩:=r1;obtain⟨t',rfl⟩:=r2;exact iadd_int ⟨.int _,H,I.tok _,⟨_,rfl⟩,q⟩
theorem zk6:PIp X .Sub (ipI λi j=>i-j):=by
 intro pins s Z H x y v u Q I r1 r2 h;obtain⟨i,j,e1,e2,q⟩:=h;subst e1;subst e2;obtain⟨t,rfl⟩:=r1;obtain⟨t',rfl⟩:=r2;exact isub_int ⟨.int _,H,I.tok _,⟨_,rfl⟩,q⟩
def zjC(c:TT)(tb:TS):TS:=λD Z H=>∃W:Nat->St->Hp->Prop,(∃m,W m Z H)/\∀m Z H,W m Z H ->
 c Z H λb H1=>if b=true then ∃N:St->Hp->Prop,(∀σ' H',N σ' H'->∃m',m'<m/\W m' σ' H')/\tb { D with nx:=N,ct:=N,bk:=D.nx } Z H1 else D.nx Z H1
theorem JW(hp:PassesOwn (bR X.prog X.w) X.A X.env X.xe)(hc:PT X c tc)(hb:PSs X body tb):PS X (.While c body [] pos) (zjC tc tb):=by
 intro pins s Z H D I h;obtain⟨W,⟨m0,w0⟩,turn⟩:=h;refine wpAny_While (codeAny_whileLoop (λn s'=>∃σ' H',Inv X pins σ' H' s'/\W n σ' H') ?_ m0 ⟨Z,H,I,w0⟩);rintro n s1 ⟨σ1,H1,I1,w1⟩;refine gA hp (thn (hc pins s1 σ1 H1 _ I1 (turn n σ1 H1 w1)) λb s2 ⟨H2,I2,q2⟩=>?_);cases b with
 |true=>
  obtain⟨N,hN,q2⟩:=q2;rw[if_pos rfl];refine gA hp (thn (hb pins s2 σ1 H2 _ I2 q2) λf s3 q3=>?_);cases f with
  |next=>
   obtain⟨σ3,H3,I3,n3⟩:=q3;obtain⟨m',hm,w3⟩:=hN σ3 H3 n3;exact⟨m',hm,σ3,H3,I3,w3⟩
  |cont=>
   obtain⟨σ3,H3,I3,n3⟩:=q3;obtain⟨m',hm,w3⟩:=hN σ3 H3 n3;exact⟨m',hm,σ3,H3,I3,w3⟩
  |brk=>exact q3
  |ret v=>exact q3
 |false=>
  rw[if_neg bu];exact lz ⟨σ1,H2,I2,q2⟩
end
structure It where
 go:Nat->Hp->Prop
 yld:Nat->Hp->V->Hp->Prop
 stop:Nat->Hp->Prop
def zbu(X:Cx)(pins:List (aq×kj))(H:Hp)(b:aq):Prop :=
 H b=none/\b≠X.env.locals/\b∉X.fs/\(b∈X.ex\/X.s₀.heap.objs.size<=b)/\(∀x c,X.env.cells.lookup x=some c->c≠b)/\∀p∈X.pn++pins,p.1≠b
theorem Inv.fpOk{Z:St}{b:aq}(I:Inv X pins Z H s)(hb:s.heap.objs.size<=b)(hn:H' b=none):zbu X pins H' b:=by
 refine⟨hn,fj (aA I.lt hb),I.nofs hb,.inr (ao I.sz hb),λx c e z=>?_,λp hp z=>?_⟩
 ·obtain⟨v,q⟩:=I.cell x c e;exact absurd (aA q.lt (by rw[z];exact hb)) (dY _)
 ·exact absurd (aA (aQ (I.pin p hp).1) (by rw[z];exact hb)) (dY _)
structure Turn (P:cg) (w:cT) (K:aN) (tg:eV) (J:It) (fp:List aq) (it:aq) (tn:Nat->dR->Prop):Prop where
 mem:it∈fp
 obj:∀i h,tn i h->∀b∈fp,∃o,h.get? b=some o/\∀v,o.data≠.cell v
 keep:∀i h h',tn i h->(∀b∈fp,∀o,h.get? b=some o->h'.get? b=some o)->tn i h'
 item:∀(X:Cx),X.prog=P->X.w=w->X.K=K->X.calm=true->∀(i:Nat) (pins:List (aq×kj)) (s:aR) (Z:St) (H:Hp) (E:aG->aR->Prop),Inv X pins Z H s->(∀b∈fp,zbu X pins H b)->tn i s.heap->J.go i H ->
  bJ (bR P w) X.A (Hz (.ref it)) (λr s1=>∃u,r=some u /\
   bJ (bR P w) X.A (mK tg (.ref it) u) (λ_ s2=>∃x H',Inv X pins Z H' s2/\RelV x u/\J.yld i H x H'/\tn (i+1) s2.heap/\∀b∈fp,H' b=none) E s1) E s
 done:∀(X:Cx),X.prog=P->X.w=w->X.K=K->X.calm=true->∀(i:Nat) (pins:List (aq×kj)) (s:aR) (Z:St) (H:Hp) (E:aG->aR->Prop),Inv X pins Z H s->(∀b∈fp,zbu X pins H b)->tn i s.heap->J.stop i H ->
  bJ (bR P w) X.A (Hz (.ref it)) (λr s1=>r=none/\Inv X pins Z H s1) E s
 self:∀(A:eH) (i:Nat) (s:aR) (Q:aG->aR->Prop) (E:aG->aR->Prop),tn i s.heap->Q (.ref it) s->bJ (bR P w) A (Dz (.ref it)) Q E s
abbrev TI:=St->Hp->(It->Hp->Prop)->Prop
def PIE(X:Cx)(pins:List (aq×kj))(Z:St)(tg:eV)(R:It->Hp->Prop)(itv:aG)(s2:aR):Prop :=
 ∃it fp tn J H',itv=.ref it/\Inv X pins Z H' s2/\Turn X.prog X.w X.K tg J fp it tn/\tn 0 s2.heap/\(∀b∈fp,zbu X pins H' b)/\R J H'
def PI(X:Cx)(tg iter:eV)(wi:TI):Prop :=
 ∀(pins:List (aq×kj)) (s:aR) (Z:St) (H:Hp) (R:It->Hp->Prop),Inv X pins Z H s->wi Z H R ->
  bJ (bR X.prog X.w) X.A (dI iter X.env) (λv s1=>bJ (bR X.prog X.w) X.A (Dz v) (PIE X pins Z tg R) X.xe s1) X.xe s
theorem zht(ho:s.heap.get? it=some o)(hc:o.cls=.type n)(hd:o.data=.fields vs)(hn:["enumerate","zip","dict_itemiterator","dict_reverseitemiterator","odict_iterator","itertools.zip_longest","itertools.pairwise"].contains n=false)(hQ:Q () s):bJ M A (mK tg (.ref it) u) Q E s:=by
  unfold mK;cases tg<;>first
    |exact bW hQ
    | (cases u<;>first
        |exact bW hQ
        | (refine aH (wpAny_load ho ?_)
           rw[hc,hd];show bJ M A (if (["enumerate","zip","dict_itemiterator","dict_reverseitemiterator","odict_iterator","itertools.zip_longest","itertools.pairwise"].contains n && vs[0]? == some (iQ _))=true then _ else _) Q E s;rw[if_neg (by intro h;rw[hn,Bool.false_and]at h;cases h)];exact bW hQ))
def Itl(K:aN)(a:aq):It :=
 ⟨λi H=>∃xs x,SqL K H a xs/\xs[i]?=some x,λi H x H'=>H'=H/\∀xs,SqL K H a xs->xs[i]?=some x,λi H=>∃xs,SqL K H a xs/\xs.length<=i⟩
def Itr(lo:Int)(n:Nat):It:=⟨λi _=>i<n,λi H x H'=>H'=H/\x=.int (lo+i),λi _=>n<=i⟩
theorem zhW{P:cg}{w:cT}{K:aN}{tg:eV}(a it:aq):Turn P w K tg (Itl K a) [it] it (λi h=>h.IsListIter it a i) where
 mem:=by simp
 obj:=λi h st b hb=>by
  have e:b=it:=by simpa using hb
  subst e;obtain⟨o,e,c,d⟩:=st;exact⟨o,e,λv z=>by rw[d]at z;cases z⟩
 keep:=λi h h' st k=>st.at λo e=>k it (by simp) o e
 item:=by
  intro X hP hw hK hc i pins s Z H E I hf st hg;subst hP hw hK;obtain⟨xs,x,hq,hx⟩:=hg;obtain⟨its,rv,p,hz⟩:=I.list hq;obtain⟨u,hu,ru⟩:=rv.get hx;obtain⟨f0,f1,f2,f3,f4,f5⟩:=hf it (by simp);refine wpAny_pyNext_list_item st p.isList (x:=u) (by simpa using hu) λh' st' sb=>?_;have I1:Inv X pins Z H { s with heap:=h' }:=I.turned (t':=s.toks) (λb o hb e=>(sb.2 b hb).trans e) f0 f1 f3 f4 f5;obtain⟨o,e,c,d⟩:=id st';exact⟨u,rfl,zht (s:={ s with heap:=h' }) e c d (by decide) ⟨x,H,I1,ru,⟨rfl,λys hy=>by rw[I.list_inj hy hq];exact hx⟩,st',λb hb=>(hf b hb).1⟩⟩
 done:=by
  intro X hP hw hK hc i pins s Z H E I hf st hg;subst hP hw hK;obtain⟨xs,hq,hx⟩:=hg;obtain⟨its,rv,p,hz⟩:=I.list hq;obtain⟨f0,f1,f2,f3,f4,f5⟩:=hf it (by simp);have hl:=rv.length;exact wpAny_pyNext_list_end (I.ok.hd hc) st p.isList (by simp;omega) λh' eb=>⟨rfl,I.turned (t':=s.toks) (λb o hb e=>eb b o hb e) f0 f1 f3 f4 f5⟩
 self:=λ_ _ _ _ _ st h=>wpAny_pyIter_listiter st h
theorem zcW{P:cg}{w:cT}{K:W.Frag}{tg:eV}(it:aq)(lo:Int)(n:Nat):Turn P w K tg (Itr lo n) [it] it (λi h=>mz h it (lo+(i:Nat)*1) ((n:Int)-(i:Nat)) 1) where
 mem:=by simp
 obj:=λi h st b hb=>by
  have e:b=it:=by simpa using hb
  subst e;exact⟨_,st,λv z=>by
   have z':pY _=Cq v:=z;cases z'⟩
 keep:=λi h h' st k=>k it (by simp) _ st
 item:=by
  intro X hP hw hK hc i pins s Z H E I hf st hg;subst hP hw hK;obtain⟨f0,f1,f2,f3,f4,f5⟩:=hf it (by simp);have W:=FT (prog:=X.prog) (w:=X.w) (I.ok.hd hc) it lo 1 n;refine W.item i s _ _ hg st λv h' tk hv st' kk=>?_;obtain⟨t,rfl⟩:=hv;have I1:Inv X pins Z H { s with heap:=h',toks:=tk }:=I.turned (λb o hb e=>kk b o (by simpa using hb) e) f0 f1 f3 f4 f5;refine⟨_,rfl,zht (s:={ s with heap:=h',toks:=tk }) (n:="range_iterator") st' rfl rfl (by decide) ⟨.int (lo+i),H,I1,⟨t,?_⟩,⟨rfl,rfl⟩,st',λb hb=>(hf b hb).1⟩⟩;rw[Int.mul_one]
 done:=by
  intro X hP hw hK hc i pins s Z H E I hf st hg;subst hP hw hK;obtain⟨f0,f1,f2,f3,f4,f5⟩:=hf it (by simp);exact o6 (I.ok.hd hc) st (by have:n<=i:=hg;omega) λh' eb=>⟨rfl,I.turned (t':=s.toks) (λb o hb e=>eb b o hb e) f0 f1 f3 f4 f5⟩
 self:=λ_ _ _ _ _ st h=>o7 st h
section
variable {X:Cx} {tg:eV}
inductive ItI (S:Hp->aq->List V->Prop) (it:aq->It) (x:V) (H:Hp) (R:It->Hp->Prop):Prop
 |mk (a:aq) (h:x=.ref a) (s:∃xs,S H a xs) (r:R (it a) H):ItI S it x H R
def zjk(K:aN)(tl:TE):TI:=λZ H R=>tl Z H λx H1=>ItI (SqL K) (Itl K) x H1 R
theorem zjO(hl:PE X l tl):PI X tg l (zjk X.K tl):=by
 intro pins s Z H R I h;refine thn (hl pins s Z H _ I h) λv s1 ⟨x,H1,I1,r1,q1⟩=>?_;obtain⟨a,e,⟨xs,hq⟩,q⟩:=q1;subst e;cases r1
 obtain⟨its,rv,p,hz⟩:=I1.list hq;refine nY p.isList ?_;refine⟨s1.heap.objs.size,[s1.heap.objs.size],_,_,H1,rfl,I1.kept (t':=s1.toks) λb o e=>az _ e,zhW a _,⟨_,bC _ rfl,rfl,rfl⟩,λb hb=>?_,q⟩;have e:b=s1.heap.objs.size:=by simpa using hb
 subst e;exact I1.fpOk (au _) (I1.hok.fresh (au _))
theorem zfM{Z:St}{lo hi:Int}(I:Inv X pins Z H s)(h1:-(2^62)<=lo)(h2:lo<2^62)(h3:-(2^62)<=hi)(h4:hi<2^62)(q:R (Itr lo (hi-lo).toNat) H):bJ (bR X.prog X.w) X.A (Dz (.ref s.heap.objs.size)) (PIE X pins Z tg R) E { s with heap:=s.heap.push { cls:=.type "range",data:=.fields #[.int lo t,.int hi u,.int 1 v] },toks:=tk }:=by
 refine lC (mC ..) (small_one h1 h2 h3 h4) ?_;have I1:Inv X pins Z H { s with heap:=s.heap.push { cls:=.type "range",data:=.fields #[.int lo t,.int hi u,.int 1 v] },toks:=tk }:=I.kept λb o e=>az _ e;refine⟨(s.heap.push { cls:=.type "range",data:=.fields #[.int lo t,.int hi u,.int 1 v] }).objs.size,[(s.heap.push { cls:=.type "range",data:=.fields #[.int lo t,.int hi u,.int 1 v] }).objs.size],_,_,H,rfl,
  I1.kept (t':=tk) λb o e=>az _ e,zcW _ lo (hi-lo).toNat,?_,λb hb=>?_,q⟩
 ·have e1:lo+((0:Nat):Int)*1=lo:=by simp
  have e2:(((hi-lo).toNat:Nat):Int)-((0:Nat):Int)=bH lo hi 1:=by rw[su];split<;>omega
  show mz _ _ (lo+((0:Nat):Int)*1) ((((hi-lo).toNat:Nat):Int)-((0:Nat):Int)) 1;rw[e1,e2];exact bC _ rfl
 ·have e:b=(s.heap.push { cls:=.type "range",data:=.fields #[.int lo t,.int hi u,.int 1 v] }).objs.size:=by simpa using hb
  subst e;exact I1.fpOk (au _) (I1.hok.fresh (au _))
def zkN(ta:TA):TI:=λZ H R=>ta Z H λvs H1=>∃j:Int,vs=[.int j]/\-(2^62)<=j/\j<2^62/\R (Itr 0 j.toNat) H1
def zkK(ta:TA):TI:=λZ H R=>ta Z H λvs H1=>Ex2 λi j=>vs=[.int i,.int j]/\(-(2^62)<=i/\i<2^62/\-(2^62)<=j/\j<2^62)/\R (Itr i (j-i).toNat) H1
theorem yM(hg:Gl X "range")(hm:X.mg "range"= none)(ha:PA X [a] ta)(hs:bF [a] X.env=[(false,dI a X.env)]:=by rfl):PI X tg (.Call (.Name "range" p) [a] [] pos) (zkN ta):=by
 intro pins s Z H R I h;refine FW (Zk I hg hm nD (cC (thn (ha pos pins s Z H _ I h) λus s1 ⟨vs,H1,I1,r1,q1⟩=>?_) hs rfl));obtain⟨j,e,q1,q2,q⟩:=q1;subst e;cases r1 with
 |cons r rr=>
  cases rr;obtain⟨t,rfl⟩:=r
  exact Ff (zfM I1 (by omega) (by omega) q1 q2 (by simpa using q))
theorem zaV{p pos:mV}(hg:Gl X "range")(hm:X.mg "range"= none)(ha:PA X [a,b] ta)(hs:bF [a,b] X.env=[(false,dI a X.env),(false,dI b X.env)]:=by rfl)(hs2:bF [b] X.env=[(false,dI b X.env)]:=by rfl):
  PI X tg (.Call (.Name "range" p) [a,b] [] pos) (zkK ta):=by
 intro pins s Z H R I h;refine FW (Zk I hg hm nD (cC (thn (ha pos pins s Z H _ I h) λus s1 ⟨vs,H1,I1,r1,q1⟩=>?_) (by rw[hs,hs2]) (by rw[hs2];rfl)));obtain⟨i,j,e,⟨q1,q2,q3,q4⟩,q⟩:=q1;subst e;cases r1 with
 |cons r rr=>
  cases rr with
  |cons r' rr=>
   cases rr;obtain⟨t,rfl⟩:=r
   obtain⟨t',rfl⟩:=r';exact Fg (zfM I1 q1 q2 q3 q4 q)
def zh1(wi:TI)(g:TG)(tb:TS):TS:=λD Z H=>wi Z H λJ H1=>∃W:Nat->Nat->St->Hp->Prop,(∃m,W 0 m Z H1)/\∀i m Z H,W i m Z H ->
 (J.stop i H/\D.nx Z H)\/(J.go i H/\∃N:St->Hp->Prop,(∀σ' H',N σ' H'->∃m',m'<m/\W (i+1) m' σ' H')/\∀x H',J.yld i H x H'->g x Z H' fun σ2 H2=>tb { D with nx:=N,ct:=N,bk:=D.nx } σ2 H2)
def zaJ(fp:List aq)(h:dR):List (aq×kj):=fp.filterMap λb=>(h.get? b).map λo=>(b,o)
theorem JR(hb:b∈fp)(e:h.get? b=some o):(b,o)∈zaJ fp h:=nG.mpr ⟨b,hb,by rw[e];rfl⟩
theorem zhO(hp:p∈zaJ fp h):p.1∈fp/\h.get? p.1=some p.2:=by
 obtain⟨b,hb,e⟩:=nG.mp hp;cases q:h.get? b with
 |none=>rw[q]at e;cases e
 |some o=>
  rw[q]at e;have e':(b,o)=p:=bY e;subst e';exact⟨hb,q⟩
theorem Inv.pinned{Z:St}(I:Inv X pins Z H s)(hf:∀b∈fp,zbu X pins H b)(ho:∀b∈fp,∃o,s.heap.get? b=some o/\∀v,o.data≠.cell v):Inv X (pins++zaJ fp s.heap) Z H s :=
 I.pins_of λp hp=>(bf.mp hp).elim (λz=>I.pin p (aV _ z)) λz=>by
  obtain⟨hb,e⟩:=zhO z;obtain⟨f0,f1,f2,_⟩:=hf p.1 hb;obtain⟨o,e',d⟩:=ho p.1 hb;rw[e]at e';cases e'
  exact⟨e,f0,f1,f2,d⟩
theorem Inv.unpinned{Z:St}(I:Inv X (pins++pl) Z H s):Inv X pins Z H s:=I.pins_of λp hp=>I.pin p (aV _ (dB _ hp))
theorem wR(hp:PassesOwn (bR X.prog X.w) X.A X.env X.xe)(hc:X.calm=true)(hi:PI X tg iter wi)(hg:PG X tg g)(hb:PSs X body tb)(hs:∀x,iR iter X.env x=pure x:=by intro _;rfl):PS X (.For tg iter body [] pos) (zh1 wi g tb):=by
 intro pins s Z H D I h;refine wpAny_For (thn (hi pins s Z H _ I h) λv s1 h1=>thn h1 λitv s2 h2=>?_) hs;obtain⟨it,fp,tn,J,H2,e,I2,T,st2,f2,W,⟨m0,w0⟩,turn⟩:=h2;subst e;have stat:∀{H':Hp},(∀b∈fp,H' b=none)->∀b∈fp,zbu X pins H' b:=λhn b hb=>⟨hn b hb,(f2 b hb).2⟩
 refine codeAny_forLoop_any (λn s'=>∃i σ' H',Inv X pins σ' H' s'/\tn i s'.heap/\(∀b∈fp,H' b=none)/\W i n σ' H') ?_ m0 ⟨0,Z,H2,I2,st2,λb hb=>(f2 b hb).1,w0⟩;rintro n s3 ⟨i,σ3,H3,I3,st3,fr3,w3⟩;rcases turn i n σ3 H3 w3 with ⟨stop,qn⟩ | ⟨go,N,hN,step⟩
 ·refine gA hp (thn (T.done X rfl rfl rfl hc i pins s3 σ3 H3 X.xe I3 (stat fr3) st3 stop) λr s4 ⟨hr,I4⟩=>?_);subst hr;exact lz ⟨σ3,H3,I4,qn⟩
 ·refine gA hp (thn (T.item X rfl rfl rfl hc i pins s3 σ3 H3 X.xe I3 (stat fr3) st3 go) λr s4 ⟨u,hr,h4⟩=>?_);subst hr;refine gA hp (thn h4 λ_ s5 ⟨x,H5,I5,r5,y5,st5,fr5⟩=>?_);have I5':=I5.pinned (stat fr5) (T.obj _ _ st5);refine gA hp (thn (hg _ s5 σ3 H5 x u _ I5' r5 (step x H5 y5)) λ_ s6 ⟨σ6,H6,I6,q6⟩=>?_);refine gA hp (thn (hb _ s6 σ6 H6 _ I6 q6) λf s7 q7=>?_);have again:∀{σ7:St} {H7:Hp},Inv X (pins++zaJ fp s5.heap) σ7 H7 s7->N σ7 H7->∃m,m<n/\∃i σ' H',Inv X pins σ' H' s7/\tn i s7.heap/\(∀b∈fp,H' b=none)/\W i m σ' H':=λ{σ7 H7} I7 n7=>by
   obtain⟨m',hm,w7⟩:=hN σ7 H7 n7;refine⟨m',hm,i+1,σ7,H7,I7.unpinned,T.keep _ _ _ st5 λb hb o e=>(I7.pin (b,o) (aV _ (aV _ (JR hb e)))).1,λb hb=>?_,w7⟩;obtain⟨o,e,d⟩:=T.obj _ _ st5 b hb;exact (I7.pin (b,o) (aV _ (aV _ (JR hb e)))).2.1
  cases f with
  |next=>obtain⟨σ7,H7,I7,n7⟩:=q7;exact again I7 n7
  |cont=>obtain⟨σ7,H7,I7,n7⟩:=q7;exact again I7 n7
  |brk=>obtain⟨σ7,H7,I7,q7⟩:=q7;exact⟨σ7,H7,I7.unpinned,q7⟩
  |ret v=>obtain⟨x7,σ7,H7,I7,r7,q7⟩:=q7;exact⟨x7,σ7,H7,I7.unpinned,r7,q7⟩
end
theorem J8{K:W.Frag}{g:TG}{tb:TS}{D:Ends}(Pv:Nat->St->Hp->Prop)(h0:Pv 0 Z H)(hl:∀i Z H,i<=xs.length->Pv i Z H->SqL K H a xs)(hs:∀i x Z H,xs[i]?=some x->Pv i Z H->g x Z H fun σ2 H2=>tb { D with nx:=Pv (i+1),ct:=Pv (i+1),bk:=D.nx } σ2 H2)(hd:∀Z H,Pv xs.length Z H->D.nx Z H):
  ∃W:Nat->Nat->St->Hp->Prop,(∃m,W 0 m Z H)/\∀i m Z H,W i m Z H ->
   ((Itl K a).stop i H/\D.nx Z H)\/((Itl K a).go i H/\∃N:St->Hp->Prop,(∀σ' H',N σ' H'->∃m',m'<m/\W (i+1) m' σ' H')/\∀x H',(Itl K a).yld i H x H'->g x Z H' fun σ2 H2=>tb { D with nx:=N,ct:=N,bk:=D.nx } σ2 H2):=by
 refine⟨λi m Z H=>m=xs.length-i/\i<=xs.length/\Pv i Z H,⟨xs.length,by simp,bK _,h0⟩,?_⟩;rintro i m Z H ⟨rfl,hi,p⟩;have q:=hl i Z H hi p;by_cases hlt:i<xs.length
 ·refine .inr ⟨⟨xs,xs[i],q,by simp[hlt]⟩,Pv (i+1),fun σ' H' p'=>⟨xs.length-(i+1),by omega,rfl,hlt,p'⟩,λx H' y=>?_⟩;obtain⟨e,y⟩:=y;subst e;exact hs i x Z _ (y xs q) p
 ·have e:i=xs.length:=by omega
  subst e;exact .inl ⟨⟨xs,q,au _⟩,hd Z H p⟩
theorem jL{lo:Int}{g:TG}{tb:TS}{D:Ends}(Pv:Nat->St->Hp->Prop)(h0:Pv 0 Z H)(hs:∀i Z H,i<n->Pv i Z H->g (.int (lo+i)) Z H fun σ2 H2=>tb { D with nx:=Pv (i+1),ct:=Pv (i+1),bk:=D.nx } σ2 H2)(hd:∀Z H,Pv n Z H->D.nx Z H):
  ∃W:Nat->Nat->St->Hp->Prop,(∃m,W 0 m Z H)/\∀i m Z H,W i m Z H ->
   ((Itr lo n).stop i H/\D.nx Z H)\/((Itr lo n).go i H/\∃N:St->Hp->Prop,(∀σ' H',N σ' H'->∃m',m'<m/\W (i+1) m' σ' H')/\∀x H',(Itr lo n).yld i H x H'->g x Z H' fun σ2 H2=>tb { D with nx:=N,ct:=N,bk:=D.nx } σ2 H2):=by
 refine⟨λi m Z H=>m=n-i/\i<=n/\Pv i Z H,⟨n,by simp,bK _,h0⟩,?_⟩;rintro i m Z H ⟨rfl,hi,p⟩;by_cases hlt:i<n
 ·refine .inr ⟨hlt,Pv (i+1),fun σ' H' p'=>⟨n-(i+1),by omega,rfl,hlt,p'⟩,λx H' y=>?_⟩;obtain⟨e,y⟩:=y;subst e y;exact hs i Z _ hlt p
 ·have e:i=n:=by omega
  subst e;exact .inl ⟨au _,hd Z H p⟩
theorem zad(Pv:St->Hp->Prop)(μ:St->Hp->Nat)(h0:Pv Z H)(hs:∀Z H,Pv Z H->c Z H λb H1=>if b=true then tb { D with nx:=fun σ' H'=>Pv σ' H'/\μ σ' H'<μ Z H,ct:=fun σ' H'=>Pv σ' H'/\μ σ' H'<μ Z H,bk:=D.nx } Z H1 else D.nx Z H1)(mono:∀Z H Q Q',(∀b H1,Q b H1->Q' b H1)->c Z H Q->c Z H Q'):zjC c tb D Z H:=by
 refine⟨λm Z H=>m=μ Z H/\Pv Z H,⟨_,rfl,h0⟩,?_⟩;rintro m Z H ⟨rfl,p⟩;refine mono Z H _ _ (λb H1 q=>?_) (hs Z H p);cases b with
 |true=>exact⟨_,fun σ' H' ⟨p',l⟩=>⟨_,l,rfl,p'⟩,q⟩
 |false=>exact q
abbrev R2:=V->V->Hp->VK->Prop
def OpR(X:Cx)(f:aG->aG->Ig aG)(r:R2):Prop :=
 ∀(pins:List (aq×kj)) (s:aR) (Z:St) (H:Hp) (x y:V) (v u:aG) (Q:VK),Inv X pins Z H s->RelV x v->RelV y u->r x y H Q ->
  bJ (bR X.prog X.w) X.A (f v u) (EP X pins Z Q) X.xe s
def UnR(X:Cx)(f:aG->Ig aG)(r:V->Hp->VK->Prop):Prop :=
 ∀(pins:List (aq×kj)) (s:aR) (Z:St) (H:Hp) (x:V) (v:aG) (Q:VK),Inv X pins Z H s->RelV x v->r x H Q ->
  bJ (bR X.prog X.w) X.A (f v) (EP X pins Z Q) X.xe s
def Zu(X:Cx)(f:aG)(r:List V->Hp->VK->Prop):Prop :=
 ∀(pins:List (aq×kj)) (s:aR) (Z:St) (H:Hp) (xs:List V) (us:List aG) (Q:VK),Inv X pins Z H s->Vals xs us->r xs H Q ->
  bJ (bR X.prog X.w) X.A (call f us) (EP X pins Z Q) X.xe s
def tOp(r:R2)(ta tb:TE):TE:=λZ H Q=>ta Z H λx H1=>tb Z H1 λy H2=>r x y H2 Q
def tUn(r:V->Hp->VK->Prop)(ta:TE):TE:=λZ H Q=>ta Z H λx H1=>r x H1 Q
inductive RiC (C:Int->Int->Prop) (g:Int->Int->V) (x y:V) (H:Hp) (Q:VK):Prop
 |mk (i j:Int) (h1:x=.int i) (h2:y=.int j) (c:C i j) (q:Q (g i j) H):RiC C g x y H Q
def rI(C:Int->Int->Prop)(g:Int->Int->V):R2:=λx y H Q=>RiC C g x y H Q
inductive Ri0 (g:Int->Int->V) (x y:V) (H:Hp) (Q:VK):Prop
 |mk (i j:Int) (h1:x=.int i) (h2:y=.int j) (q:Q (g i j) H):Ri0 g x y H Q
def rI0(g:Int->Int->V):R2:=λx y H Q=>Ri0 g x y H Q
def rU(g:Int->V):V->Hp->VK->Prop:=λx H Q=>∃i,x=.int i/\Q (g i) H
section
variable {X:Cx} {a b c:eV} {ta tb tc:TE} {pos:mV}
theorem zlj(ha:PE X a ta)(hb:PE X b tb){Z:St}{R:V->V->Hp->Prop}(I:Inv X pins Z H s)(h:ta Z H λx H1=>tb Z H1 λy H2=>R x y H2){f:aG->aG->Ig aG}(hf:∀v u s2 x y H2,Inv X pins Z H2 s2->RelV x v->RelV y u->R x y H2->bJ (bR X.prog X.w) X.A (f v u) Q X.xe s2):
  bJ (bR X.prog X.w) X.A (dI a X.env) (λv s₁=>bJ (bR X.prog X.w) X.A (dI b X.env) (λu s₂=>bJ (bR X.prog X.w) X.A (f v u) Q X.xe s₂) X.xe s₁) X.xe s:=by
 refine thn (ha pins s Z H _ I h) λv s1 ⟨x,H1,I1,r1,q1⟩=>?_;refine thn (hb pins s1 Z H1 _ I1 q1) λu s2 ⟨y,H2,I2,r2,q2⟩=>?_;exact hf v u s2 x y H2 I2 r1 r2 q2
theorem zV(ho:OpR X (mD op) r)(ha:PE X a ta)(hb:PE X b tb):PE X (.BinOp a op b pos) (tOp r ta tb):=by
 intro pins s Z H Q I h;exact wpAny_BinOp (zlj ha hb I h λv u s2 x y H2 I2 rx ry q=>ho pins s2 Z H2 x y v u Q I2 rx ry q)
theorem zcb(ho:UnR X (unaryOp op) r)(ha:PE X a ta):PE X (.UnaryOp op a pos) (tUn r ta):=by
 intro pins s Z H Q I h;exact UnaryOp_ (thn (ha pins s Z H _ I h) λv s1 ⟨x,H1,I1,r1,q1⟩=>ho pins s1 Z H1 x v Q I1 r1 q1)
theorem opI{g:Int->Int->Int}(GJ:∀i j t u s Q E,C i j->Q (.int (g i j) s.toks) { s with toks:=s.toks+1 }->bJ (bR X.prog X.w) X.A (f (.int i t) (.int j u)) Q E s):
  OpR X f (rI C λi j=>.int (g i j)):=by
 intro pins s Z H x y v u Q I rx ry h;obtain⟨i,j,rfl,rfl,hc,q⟩:=h;obtain⟨t,rfl⟩:=rx;obtain⟨t',rfl⟩:=ry;exact GJ i j t t' s _ _ hc ⟨.int (g i j),H,I.tok _,⟨_,rfl⟩,q⟩
theorem zlQ{g:Int->Int->Int}(GJ:∀i j t u s Q E,Q (.int (g i j) s.toks) { s with toks:=s.toks+1 }->bJ (bR X.prog X.w) X.A (f (.int i t) (.int j u)) Q E s):
  OpR X f (rI0 λi j=>.int (g i j)):=by
 intro pins s Z H x y v u Q I rx ry h;obtain⟨i,j,rfl,rfl,q⟩:=h;obtain⟨t,rfl⟩:=rx;obtain⟨t',rfl⟩:=ry;exact GJ i j t t' s _ _ ⟨.int (g i j),H,I.tok _,⟨_,rfl⟩,q⟩
theorem zjV{g:Int->Int->Bool}(GJ:∀i j t u s Q E,Q (.bool (g i j)) s->bJ (bR X.prog X.w) X.A (f (.int i t) (.int j u)) Q E s):
  OpR X f (rI0 λi j=>.bl (g i j)):=by
 intro pins s Z H x y v u Q I rx ry h;obtain⟨i,j,rfl,rfl,q⟩:=h;obtain⟨t,rfl⟩:=rx;obtain⟨t',rfl⟩:=ry;exact GJ i j t t' s _ _ ⟨.bl (g i j),H,I,rfl,q⟩
def CMul(i j:Int):Prop:=(-(2^64)<i/\i<2^64)\/(-(2^64)<j/\j<2^64)
theorem CMul.ok(h:CMul i j):IntMulOk i j:=by
 rcases h with ⟨h1,h2⟩ | ⟨h1,h2⟩
 ·exact .of_left (Ek h1 h2)
 ·exact .of_right (Ek h1 h2)
theorem xO:OpR X (mD .Add) (rI0 λi j=>.int (i+j)):=zlQ λ_ _ _ _ _ _ _ q=>add_int q
theorem Zq:OpR X (mD .Sub) (rI0 λi j=>.int (i-j)):=zlQ λ_ _ _ _ _ _ _ q=>sub_int q
theorem Zj:OpR X (mD .Mult) (rI CMul λi j=>.int (i*j)):=opI λ_ _ _ _ _ _ _ hc q=>mul_int q hc.ok
theorem qy:OpR X (mD .Mod) (rI (λ_ j=>0<j) λi j=>.int (i % j)):=opI λi j _ _ _ _ _ hc q=>by
 have h1:(0:Int)<j:=hc;exact mod_int' (by omega) (by rw[Int.fmod_eq_emod_of_nonneg i (by omega)];exact q)
theorem unI{g:Int->Int}(GJ:∀i t s Q E,Q (.int (g i) s.toks) { s with toks:=s.toks+1 }->bJ (bR X.prog X.w) X.A (f (.int i t)) Q E s):
  UnR X f (rU λi=>.int (g i)):=by
 intro pins s Z H x v Q I rx h;obtain⟨i,rfl,q⟩:=h;obtain⟨t,rfl⟩:=rx;exact GJ i t s _ _ ⟨.int (g i),H,I.tok _,⟨_,rfl⟩,q⟩
theorem Jw:UnR X (unaryOp .USub) (rU λi=>.int (-i)):=unI λ_ _ _ _ _ q=>neg_int q
end
def zlO:V->V->Bool
 |.non,.non=>true | .non,.int _=>true | .int _,.non=>true | .non,.bl _=>true | .bl _,.non=>true | .non,.str _=>true | .str _,.non=>true
 |.int _,.int _=>true | .bl _,.bl _=>true | .str _,.str _=>true | .byt _,.byt _=>true
 |.int _,.str _=>true | .str _,.int _=>true | .bl _,.str _=>true | .str _,.bl _=>true
 |_,_=>false
def rEq:R2:=λx y H Q=>zlO x y=true/\Q (.bl (decide (x=y))) H
def rNe:R2:=λx y H Q=>zlO x y=true/\Q (.bl (!decide (x=y))) H
theorem zg6:decide (V.int i=V.int j)=(i == j):=by
 rw[bD];simp
theorem ziF:decide (V.bl i=V.bl j)=(i == j):=by
 rw[bD];simp
theorem zhi:decide (V.str i=V.str j)=(i == j):=by
 rw[bD];simp
theorem zhv:decide (V.byt i=V.byt j)=(i.toList == j.toList):=by
 rw[bD];cases i
 cases j;simp
section
variable {X:Cx} {a b c:eV} {ta tb tc:TE} {pos:mV}
theorem wz{Z:St}(I:Inv X pins Z H s)(q:Q (.bl k) H)(e:k=k'):EP X pins Z Q (.bool k') s:=by
 subst e;exact⟨.bl k,H,I,rfl,q⟩
theorem Qe:OpR X (dw .Eq) rEq:=by
 intro pins s Z H x y v u Q I rx ry h;obtain⟨hs,q⟩:=h;cases x with
 |non=>
  cases rx;cases y with
  |non=>cases ry;exact PySem.EqNone.eq_none_none (wz I q (by simp))
  |bl j=>cases ry;exact PySem.EqNone.eq_none_bool (wz I q (by simp))
  |int j=>obtain⟨t',rfl⟩:=ry;exact PySem.EqNone.eq_none_int (wz I q (by simp))
  |str j=>obtain⟨t',rfl⟩:=ry;exact PySem.EqNone.eq_none_str (wz I q (by simp))
  |_=>exact absurd (show false=true from hs) bu
 |bl i=>
  cases rx;cases y with
  |non=>cases ry;exact PySem.EqNone.eq_bool_none (wz I q (by simp))
  |bl j=>cases ry;exact eq_bool (wz I q ziF)
  |str j=>obtain⟨t',rfl⟩:=ry;exact PySem.EqMixed.eq_bool_str (wz I q (by simp))
  |_=>exact absurd (show false=true from hs) bu
 |int i=>
  obtain⟨t,rfl⟩:=rx;cases y with
  |non=>cases ry;exact PySem.EqNone.eq_int_none (wz I q (by simp))
  |int j=>obtain⟨t',rfl⟩:=ry;exact eq_int (wz I q zg6)
  |str j=>obtain⟨t',rfl⟩:=ry;exact PySem.EqMixed.eq_int_str (wz I q (by simp))
  |_=>exact absurd (show false=true from hs) bu
 |str i=>
  obtain⟨t,rfl⟩:=rx;cases y with
  |non=>cases ry;exact PySem.EqNone.eq_str_none (wz I q (by simp))
  |bl j=>cases ry;exact PySem.EqMixed.eq_str_bool (wz I q (by simp))
  |int j=>obtain⟨t',rfl⟩:=ry;exact PySem.EqMixed.eq_str_int (wz I q (by simp))
  |str j=>obtain⟨t',rfl⟩:=ry;exact eq_str (wz I q zhi)
  |_=>exact absurd (show false=true from hs) bu
 |byt i=>
  obtain⟨t,rfl⟩:=rx;cases y with
  |byt j=>obtain⟨t',rfl⟩:=ry;exact W.eq_bytes (wz I q zhv)
  |_=>exact absurd (show false=true from hs) bu
 |_=>cases y<;>exact absurd (show false=true from hs) bu
theorem Va:OpR X (dw .NotEq) rNe:=by
 intro pins s Z H x y v u Q I rx ry h;obtain⟨hs,q⟩:=h;cases x with
 |non=>
  cases rx;cases y with
  |non=>cases ry;exact PySem.EqNone.ne_none_none (wz I q (by simp))
  |bl j=>cases ry;exact PySem.EqNone.ne_none_bool (wz I q (by simp))
  |int j=>obtain⟨t',rfl⟩:=ry;exact PySem.EqNone.ne_none_int (wz I q (by simp))
  |str j=>obtain⟨t',rfl⟩:=ry;exact PySem.EqNone.ne_none_str (wz I q (by simp))
  |_=>exact absurd (show false=true from hs) bu
 |bl i=>
  cases rx;cases y with
  |non=>cases ry;exact PySem.EqNone.ne_bool_none (wz I q (by simp))
  |bl j=>cases ry;exact ne_bool (wz I q (congrArg not ziF))
  |str j=>obtain⟨t',rfl⟩:=ry;exact PySem.EqMixed.ne_bool_str (wz I q (by simp))
  |_=>exact absurd (show false=true from hs) bu
 |int i=>
  obtain⟨t,rfl⟩:=rx;cases y with
  |non=>cases ry;exact PySem.EqNone.ne_int_none (wz I q (by simp))
  |int j=>obtain⟨t',rfl⟩:=ry;exact ne_int (wz I q (congrArg not zg6))
  |str j=>obtain⟨t',rfl⟩:=ry;exact PySem.EqMixed.ne_int_str (wz I q (by simp))
  |_=>exact absurd (show false=true from hs) bu
 |str i=>
  obtain⟨t,rfl⟩:=rx;cases y with
  |non=>cases ry;exact PySem.EqNone.ne_str_none (wz I q (by simp))
  |bl j=>cases ry;exact PySem.EqMixed.ne_str_bool (wz I q (by simp))
  |int j=>obtain⟨t',rfl⟩:=ry;exact PySem.EqMixed.ne_str_int (wz I q (by simp))
  |str j=>obtain⟨t',rfl⟩:=ry;exact ne_str (wz I q (congrArg not zhi))
  |_=>exact absurd (show false=true from hs) bu
 |byt i=>
  obtain⟨t,rfl⟩:=rx;cases y with
  |byt j=>obtain⟨t',rfl⟩:=ry;exact W.ne_bytes (wz I q (congrArg not zhv))
  |_=>exact absurd (show false=true from hs) bu
 |_=>cases y<;>exact absurd (show false=true from hs) bu
theorem zbg:OpR X (dw .Lt) (rI0 λi j=>.bl (decide (i<j))):=zjV λ_ _ _ _ _ _ _ q=>lt_int q
theorem U7:OpR X (dw .LtE) (rI0 λi j=>.bl (decide (i<=j))):=zjV λ_ _ _ _ _ _ _ q=>le_int q
theorem zaj:OpR X (dw .Gt) (rI0 λi j=>.bl (decide (j<i))):=zjV λ_ _ _ _ _ _ _ q=>gt_int q
theorem zjf:OpR X (dw .GtE) (rI0 λi j=>.bl (decide (j<=i))):=zjV λ_ _ _ _ _ _ _ q=>ge_int q
theorem zes:OpR X (dw .Is) (λx y H Q=>y=.non/\Q (.bl (decide (x=.non))) H):=by
 intro pins s Z H x y v u Q I rx ry h;obtain⟨rfl,q⟩:=h;cases ry
 refine is_none_gen (wz I q ?_);cases x<;>first
  | (cases rx;rfl)
  | (obtain⟨t,rfl⟩:=rx;rfl)
theorem zbP:OpR X (dw .IsNot) (λx y H Q=>y=.non/\Q (.bl (!decide (x=.non))) H):=by
 intro pins s Z H x y v u Q I rx ry h;obtain⟨rfl,q⟩:=h;cases ry
 refine isnot_none_gen (wz I q ?_);cases x<;>first
  | (cases rx;rfl)
  | (obtain⟨t,rfl⟩:=rx;rfl)
theorem zT(b:eV)(h:op≠.In:=by decide)(h2:op≠.NotIn:=by decide):oA op b=false:=by
 have e1:(op == CmpOp.In)=false:=by cases op<;>first | rfl | exact absurd rfl h
 have e2:(op == CmpOp.NotIn)=false:=by cases op<;>first | rfl | exact absurd rfl h2
 cases b<;>simp[oA,e1,e2]
theorem ul(ho:OpR X (dw op) r)(ha:PE X a ta)(hb:PE X b tb)(hm:oA op b=false):PE X (.Compare a [op] [b] pos) (tOp r ta tb):=by
 intro pins s Z H Q I h;exact wpAny_Compare1 (zlj ha hb I h λv u s2 x y H2 I2 rx ry q=>ho pins s2 Z H2 x y v u Q I2 rx ry q) hm
def zg4(t:TE):TT:=λZ H Q=>t Z H λx H1=>BlI x H1 Q
theorem zP(ho:OpR X (dw op) r)(ha:PE X a ta)(hb:PE X b tb)(hm:oA op b=false):PT X (.Compare a [op] [b] pos) (zg4 (tOp r ta tb)):=by
 intro pins s Z H Q I h;refine wpAny_isTrue_Compare1 (thn (ha pins s Z H _ I h) λv s1 ⟨x,H1,I1,r1,q1⟩=>thn (hb pins s1 Z H1 _ I1 q1) λu s2 ⟨y,H2,I2,r2,q2⟩=>
  thn (ho pins s2 Z H2 x y v u _ I2 r1 r2 q2) λc s3 ⟨z,H3,I3,r3,k,e,q3⟩=>?_) hm
 subst e;cases r3
 exact dM ⟨H3,I3,q3⟩
def zf9(r r':R2)(ta tb tc:TE):TE:=λZ H Q=>ta Z H λx H1=>tb Z H1 λy H2=>r x y H2 λz H3=>∃k,z=.bl k /\
 (if k=true then tc Z H3 λw' H4=>r' y w' H4 Q else Q (.bl false) H3)
theorem zcp(ho:OpR X (dw op) r)(ho':OpR X (dw op') r')(ha:PE X a ta)(hb:PE X b tb)(hc:PE X c tc)(hm:lastMarks [op,op'] [b,c]=false:=by with_unfolding_all rfl):PE X (.Compare a [op,op'] [b,c] pos) (zf9 r r' ta tb tc):=by
 intro pins s Z H Q I h;refine Compare_chain (thn (ha pins s Z H _ I h) λv s1 ⟨x,H1,I1,r1,q1⟩=>chain_link (thn (hb pins s1 Z H1 _ I1 q1) λu s2 ⟨y,H2,I2,r2,q2⟩=>
  thn (ho pins s2 Z H2 x y v u _ I2 r1 r2 q2) λd s3 ⟨z,H3,I3,r3,k,e,q3⟩=>?_)) hm
 subst e;cases r3
 refine dM ?_;cases k with
 |false=>exact ite_ff ⟨.bl false,H3,I3,rfl,q3⟩
 |true=>exact ite_tt (chain_last (thn (hc pins s3 Z H3 _ I3 q3) λw' s4 ⟨z',H4,I4,r4,q4⟩=>ho' pins s4 Z H4 y z' u w' Q I4 r2 r4 q4))
theorem zcC(ho:OpR X (dw op) r)(ho':OpR X (dw op') r')(ha:PE X a ta)(hb:PE X b tb)(hc:PE X c tc)(hm:lastMarks [op,op'] [b,c]=false:=by with_unfolding_all rfl):PT X (.Compare a [op,op'] [b,c] pos) (zg4 (zf9 r r' ta tb tc)):=by
 intro pins s Z H Q I h;refine isTrue_chain (thn (ha pins s Z H _ I h) λv s1 ⟨x,H1,I1,r1,q1⟩=>test_link (thn (hb pins s1 Z H1 _ I1 q1) λu s2 ⟨y,H2,I2,r2,q2⟩=>
  thn (ho pins s2 Z H2 x y v u _ I2 r1 r2 q2) λd s3 ⟨z,H3,I3,r3,k,e,q3⟩=>?_)) hm
 subst e;cases r3
 refine dM ?_;cases k with
 |false=>
  obtain⟨k',e',q'⟩:=q3;cases e'
  exact ite_ff ⟨H3,I3,q'⟩
 |true=>
  refine ite_tt (test_last (thn (hc pins s3 Z H3 _ I3 q3) λw' s4 ⟨z',H4,I4,r4,q4⟩=>thn (ho' pins s4 Z H4 y z' u w' _ I4 r2 r4 q4) λd' s5 ⟨z2,H5,I5,r5,k2,e2,q5⟩=>?_));subst e2;cases r5
  exact dM ⟨H5,I5,q5⟩
theorem zf1:(aZ:Nat)<2^63:=by rw[CW];decide
theorem vals1(r:Vals [x] us):∃u,us=[u]/\RelV x u:=by
 cases r with
 |cons r1 r2=>cases r2;exact⟨_,rfl,r1⟩
theorem vals2(r:Vals [x,y] us):∃u w',us=[u,w']/\RelV x u/\RelV y w':=by
 cases r with
 |cons r1 r2=>
  cases r2 with
  |cons r3 r4=>cases r4;exact⟨_,_,rfl,r1,r3⟩
theorem zjA:Zu X (.builtin "abs") (λxs H Q=>∃i,xs=[.int i]/\Q (.int (if i<0 then -i else i)) H):=by
 intro pins s Z H xs us Q I r h;obtain⟨i,rfl,q⟩:=h;obtain⟨u,rfl,t,rfl⟩:=vals1 r;exact call_abs_int λu tk=>⟨.int (if i<0 then -i else i),H,I.tok _,⟨_,rfl⟩,q⟩
theorem zhK(hc:X.calm=true):Zu X (.builtin "max") (λxs H Q=>∃i j,xs=[.int i,.int j]/\Q (.int (if j>i then j else i)) H):=by
 intro pins s Z H xs us Q I r h;obtain⟨i,j,rfl,q⟩:=h;obtain⟨u,w',rfl,⟨t,rfl⟩,⟨t',rfl⟩⟩:=vals2 r;refine max_two_ints (I.ok.hd hc) λh' tk k=>⟨_,H,I.kept k,?_,q⟩
 by_cases hj:j>i
 ·rw[if_pos hj,if_pos hj];exact⟨_,rfl⟩
 ·rw[if_neg hj,if_neg hj];exact⟨_,rfl⟩
theorem zdR(hc:X.calm=true):Zu X (.builtin "min") (λxs H Q=>∃i j,xs=[.int i,.int j]/\Q (.int (if j<i then j else i)) H):=by
 intro pins s Z H xs us Q I r h;obtain⟨i,j,rfl,q⟩:=h;obtain⟨u,w',rfl,⟨t,rfl⟩,⟨t',rfl⟩⟩:=vals2 r;refine min_two_ints (I.ok.hd hc) λh' tk k=>⟨_,H,I.kept k,?_,q⟩
 by_cases hj:j<i
 ·rw[if_pos hj,if_pos hj];exact⟨_,rfl⟩
 ·rw[if_neg hj,if_neg hj];exact⟨_,rfl⟩
end
structure ObjM (h:dR) (x dx C:aq) (mA:cG->Option aG):Prop where
 obj:h.get? x=some (lU C dx)
 ns:h.Ns1 dx mA
 ne:dx≠x
theorem zhB{h:dR}(n:h.Ns1 dx mA):∃od,h.get? dx=some od/\∀name,DG name od=some (mA name):=by
 obtain⟨o,es,ep,ho,hd,hk,_,hm⟩:=n;refine⟨o,ho,λname=>?_⟩;have e:=hm name;unfold nsFind findBy at e;rw[<-Array.find?_toList]at e;unfold DG;rw[hd];dsimp only;split
 ·rename_i y q
  rw[q]at e;exact congrArg some e
 ·rename_i q
  rw[q]at e;have a:es.toList.any (·.refKey)=false:=by
   rw[cu];intro y hy;obtain⟨z,t,hkey⟩:=hk y (Array.mem_toList_iff.mp hy);simp[Hs,hkey]
  have a':¬ es.toList.any (·.refKey)=true:=by rw[a];exact bu
  rw[if_neg a'];exact congrArg some e
theorem ObjM.look(I:ObjM h x dx C mA):∃od,W.InstAt h x (lU C dx) C (some od)/\∀name,DG name od=some (mA name):=
 let ⟨od,ho,hl⟩:=zhB I.ns
 ⟨od,⟨I.obj,rfl,rfl,ho⟩,hl⟩
section
variable {prog:cg} {w:cT} {A:eH} {E:aG->aR->Prop} {s:aR} {K:aN} {x dx C f:aq} {mA:cG->Option aG} {name:cG} {v:aG}
theorem zki(X:K.In s.heap)(I:ObjM s.heap x dx C mA)(hg:o8 K C name=true)(hh:pZ K C=true)(ha:iH K (.ref C) name=some none)(hv:mA name=some v)(hv':GK v=true)(h:Q v { s with toks:=s.toks+1 }):
  bJ (bR prog w) A (Hl (.ref x) name expr) Q E s:=by
 obtain⟨od,J,hl⟩:=I.look;exact W.get_value X J (sy hg).1 (W.findObj_own hh ha rfl (by rw[hl,hv])) hv' h
theorem ziG(X:K.In s.heap)(I:ObjM s.heap x dx C mA)(hg:o8 K C name=true)(hf:iH K (.ref C) name=some (some (.ref f)))(ht:GP K (.ref f)=true)(hv:mA name=none)(h:Q (.ref f,[.ref x]) s):
  bJ (bR prog w) A (oM (.ref x) name pl) Q E s:=by
 obtain⟨od,J,hl⟩:=I.look;exact W.method_fn X J (sy hg).1 (sy hg).2 hf (beq_iff_eq.mp ht) (by show (DG name od).map (·.isSome)=some false;rw[hl,hv];rfl) h
theorem zj0(X:K.In s.heap)(I:ObjM s.heap x dx C mA)(hs:iH K (.ref C) "__setattr__"= some (some (.builtin "object.__setattr__")))(hp:CZ K C=true)(ht:Ey K C name=some none)(hh:pZ K C=true)(hw:PySem.Within mA ns)(hsz:ns.length<=aZ)(h:∀h',ObjM h' x dx C (λy=>if y=name then some v else mA y)->Bs dx s.heap h'->Q () { s with heap:=h',toks:=s.toks+2 }):
  bJ (bR prog w) A (setAttr (.ref x) name v) Q E s:=by
 obtain⟨od,J,hl⟩:=I.look;refine W.set_plain X J hs (W.osa_open (s:={ s with toks:=s.toks+1 }) (r:=none) X J hp ht λb=>?_);obtain⟨cd,hc,hd'⟩:=W.any_some hh;have hx:s.heap.get? x=some ⟨.ref C,some dx,.plain,#[]⟩:=I.obj;refine aH (bW (aH (aH (wpAny_loadPart hx (aH (HY (s:={ s with toks:=s.toks+1 }) (W.looks_clsIn X hc) ?_))))));rw[hd'];refine bW (a:=some dx) (aH (bW (aH ?_)));refine wpAny_nsSet1 (s:={ s with toks:=s.toks+1 }) I.ns λh' hn2 hs2=>?_;obtain⟨oD,esD,epD,hoD,hdD,hcD⟩:=hn2.count (PySem.Within.cons name v hw);refine aH (wpAny_lookBehind hoD (by rw[hdD];exact pastItsLine_dict (ao hcD (by rw[bB];omega))) ?_);exact bW (h _ ⟨(hs2.2 _ (cP I.ne)).trans I.obj,hn2,I.ne⟩ hs2)
theorem zjd(X:K.In s.heap)(hm:Ez K C=true)(hi:iH K (.ref C) "__init__"= some (some (.ref f)))(hf:FZ K (.ref f)=some (.type "function"))(h:lN (bR prog w) (A.under (.builtin "type.__call__" ⟨.ref C::vs,kw⟩)) (.call (.ref f) ⟨.ref (s.heap.objs.size+1)::vs,kw⟩) (W.InitBack (s.heap.objs.size+1) R)
   { s with heap:=(s.heap.push ie).push (lU C s.heap.objs.size) }):
  lN (bR prog w) A (.call (.ref C) ⟨vs,kw⟩) R s:=by
 obtain⟨hh,g,d,t,os⟩:=s;exact W.make_core (W.makes_of X hm) (W.looks_findIn X hi) (λself=>W.bind_fn X self hf) (.inl rfl) h
end
def yo(f:cG)(v:V):List (cG×V)->List (cG×V)
 |[]=>[(f,v)]
 | (g,x)::r=>if g=f then (g,v)::r else (g,x)::yo f v r
theorem zO(f g:cG)(v:V):∀fs:List (cG×V),(yo f v fs).lookup g=if g=f then some v else fs.lookup g
 |[]=>by
  show lF g [(f,v)]=_;by_cases h:g=f
  ·have hb:(g == f)=true:=beq_iff_eq.mpr h;simp only[lF,hb,if_pos h]
  ·have hb:(g == f)=false:=beq_eq_false_iff_ne.mpr h;simp only[lF,hb,if_neg h]
 | (k,x)::r=>by
  have ih:=zO f g v r;rw[show yo f v ((k,x)::r)=(if k=f then (k,v)::r else (k,x)::yo f v r) from rfl];by_cases hk:k=f
  ·rw[if_pos hk];by_cases h:g=k
   ·have hb:(g == k)=true:=beq_iff_eq.mpr h;simp only[lF,hb,if_pos (h.trans hk)]
   ·have hb:(g == k)=false:=beq_eq_false_iff_ne.mpr h;simp only[lF,hb,if_neg (λe:g=f=>h (e.trans hk.symm))]
  ·rw[if_neg hk];by_cases h:g=k
   ·have hb:(g == k)=true:=beq_iff_eq.mpr h;simp only[lF,hb,if_neg (λe:g=f=>hk (h.symm.trans e))]
   ·have hb:(g == k)=false:=beq_eq_false_iff_ne.mpr h;simp only[lF,hb];exact ih
theorem zaA(f:cG)(v:V):∀fs:List (cG×V),f∈(yo f v fs).map (·.1)/\∀g,g∈fs.map (·.1)->g∈(yo f v fs).map (·.1)
 |[]=>⟨by simp[yo],λg h=>by simp at h⟩
 | (k,x)::r=>by
  obtain⟨i1,i2⟩:=zaA f v r;rw[show yo f v ((k,x)::r)=(if k=f then (k,v)::r else (k,x)::yo f v r) from rfl];by_cases hk:k=f
  ·rw[if_pos hk];subst hk;exact⟨by simp,λg h=>by simpa using h⟩
  ·rw[if_neg hk];refine⟨?_,λg h=>?_⟩
   ·rw[bz];exact bx _ i1
   ·rw[bz]at h ⊢;rcases aP.mp h with e | e
    ·exact aP.mpr (.inl e)
    ·exact bx _ (i2 g e)
theorem uR(f:cG)(v:V):∀fs:List (cG×V),(yo f v fs).length<=fs.length+1
 |[]=>by simp[yo]
 | (k,x)::r=>by
  have ih:=uR f v r;rw[show yo f v ((k,x)::r)=(if k=f then (k,v)::r else (k,x)::yo f v r) from rfl];by_cases hk:k=f
  ·rw[if_pos hk,bB,bB];omega
  ·rw[if_neg hk,bB,bB];omega
theorem RelO.some_of(r:RelO (some v) o):∃u,o=some u/\RelV v u:=by
 cases o with
 |none=>exact (show False from r).elim
 |some u=>exact⟨u,rfl,r⟩
theorem RelO.none_of(r:RelO none o):o=none:=by
 cases o with
 |none=>rfl
 |some u=>exact (show False from r).elim
theorem zij(r:RelV v u):GK u=true:=by
 cases v with
 |non=>cases (show u=fJ from r);rfl
 |bl b=>cases (show u=oY b from r);rfl
 |int i=>obtain⟨t,e⟩:=(show ∃t,u=nj i t from r);cases e;rfl
 |str x=>obtain⟨t,e⟩:=(show ∃t,u=Cj x t from r);cases e;rfl
 |byt b=>obtain⟨t,e⟩:=(show ∃t,u=FP b t from r);cases e;rfl
 |flt b=>obtain⟨t,e⟩:=(show ∃t,u=CT b t from r);cases e;rfl
 |ref a=>cases (show u=aY a from r);rfl
 |ty n=>cases (show u=gM n from r);rfl
section
variable {P:cg} {w:cT} {H H':Hp} {h h':dR} {a C dx:aq} {fs fs':List (cG×V)}
theorem zbM(hok:HOk P w H h)(e:H a=some (.ins C dx fs)):∃mA,ObjM h a dx C mA/\(∀f,RelO (fs.lookup f) (mA f))/\PySem.Within mA (fs.map (·.1))/\fs.length<=1000/\H dx=some (.own a):=by
 obtain⟨d,z,ne,ob,mA,n,r,q⟩:=(show ObjOk P w H h a (.ins C dx fs) from hok a _ e)
 exact⟨mA,⟨ob,n,ne⟩,r,q,z,d⟩
end
structure Cls (K:aN) (C:aq):Prop where
 pg:o8 K C Ht=true
 hd:pZ K C=true
 po:CZ K C=true
 sa:iH K (.ref C) "__setattr__"= some (some (.builtin "object.__setattr__"))
theorem Cls.get{K:aN}(c:Cls K C)(f:cG):o8 K C f=true:=c.pg
def NoAttr(K:aN)(C:aq)(f:cG):Prop:=iH K (.ref C) f=some none
theorem NoAttr.taker{K:aN}(n:NoAttr K C f):Ey K C f=some none:=by
 unfold Ey;rw[show iH K (.ref C) f=some none from n];rfl
structure Meth (K:aN) (C:aq) (m:cG) (f:aq):Prop where
 at_:iH K (.ref C) m=some (some (.ref f))
 fn:GP K (.ref f)=true
 kp:nH K (.ref f)=true
section
variable {X:Cx} {pins:List (aq×kj)} {Z:St} {H:Hp} {s:aR} {a C dx:aq} {fs:List (cG×V)} {f:cG} {v:V} {A:eH} {E:aG->aR->Prop}
theorem zgU(I:Inv X pins Z H s)(e:H a=some (.ins C dx fs))(c:Cls X.K C)(n:NoAttr X.K C f)(l:fs.lookup f=some v)(h:∀u s',Inv X pins Z H s'->RelV v u->Q u s'):bJ (bR X.prog X.w) A (Hl (.ref a) f b) Q E s:=by
 obtain⟨mA,O,r,_,_,_⟩:=zbM I.hok e;obtain⟨u,hu,ru⟩:=RelO.some_of (v:=v) (o:=mA f) (by rw[<-l];exact r f);exact zki I.kIn O (c.get f) c.hd n hu (zij ru) (h u _ (I.tok _) ru)
theorem zcU(I:Inv X pins Z H s)(e:H a=some (.ins C dx fs))(c:Cls X.K C)(k:Meth X.K C m g)(l:fs.lookup m=none)(h:Q (.ref g,[.ref a]) s):bJ (bR X.prog X.w) A (oM (.ref a) m pl) Q E s:=by
 obtain⟨mA,O,r,_,_,_⟩:=zbM I.hok e;have hn:mA m=none:=RelO.none_of (by rw[<-l];exact r m);exact ziG I.kIn O (c.get m) k.at_ k.fn hn h
theorem zgT(I:Inv X pins Z H s)(e:H a=some (.ins C dx fs))(c:Cls X.K C)(n:NoAttr X.K C f)(hl:fs.length<1000)(ry:RelV y u)(h:∀s',Inv X pins Z (upd H a (.ins C dx (yo f y fs))) s'->Q () s'):bJ (bR X.prog X.w) A (setAttr (.ref a) f u) Q E s:=by
 obtain⟨mA,O,r,wi,_,ho⟩:=zbM I.hok e;have hz:(fs.map (·.1)).length<=aZ:=by rw[aa,CW];omega
 refine zj0 I.kIn O c.sa c.po n.taker c.hd wi hz λh' O' sb=>h _ ?_;have hd:∃o,h'.get? dx=some o:=let ⟨o,_,_,e',_⟩:=O'.ns;⟨o,e'⟩;refine I.write (x:=a) (e:=dx) (by rw[e];exact lD) (.inr ho) (λb q hb z=>(sb.2 b hb).trans z) hd ?_;refine⟨by rw[zA O.ne];exact ho,?_,O.ne,O'.obj,_,O'.ns,λg=>?_,λg hg=>?_⟩
 ·have:=uR f y fs;omega
 ·show RelO ((yo f y fs).lookup g) (if g=f then some u else mA g);rw[zO];by_cases q:g=f
  ·rw[if_pos q,if_pos q];exact ry
  ·rw[if_neg q,if_neg q];exact r g
 ·by_cases q:g=f
  ·rw[q];exact (zaA f y fs).1
  ·refine (zaA f y fs).2 g (wi g λz=>hg ?_);show (if g=f then some u else mA g)=none;rw[if_neg q];exact z
theorem Inv.made(I:Inv X pins Z H s):Inv X pins Z (upd (upd H s.heap.objs.size (.own (s.heap.objs.size+1))) (s.heap.objs.size+1) (.ins C s.heap.objs.size []))
  { s with heap:=(s.heap.push ie).push (lU C s.heap.objs.size) }:=by
 have e1:(s.heap.push ie).get? s.heap.objs.size=some ie:=bC s.heap rfl;have e2:((s.heap.push ie).push (lU C s.heap.objs.size)).get? (s.heap.objs.size+1)=some (lU C s.heap.objs.size):=by
  have:=bC (s.heap.push ie) (o:=lU C s.heap.objs.size) rfl;rwa[iW]at this
 have e3:(s.heap.push ie).Ns s.heap.objs.size (λ_=>none):=⟨ie,#[],_,e1,rfl,(λe he=>absurd he (by simp)),λ_=>rfl⟩
 have I1:=I.laid (a:=s.heap.objs.size) (o:=.own (s.heap.objs.size+1)) (h':=s.heap.push ie) (t':=s.toks) (λb u q=>az _ q) (au _) ⟨_,e1⟩;refine I1.laid (a:=s.heap.objs.size+1) (o:=.ins C s.heap.objs.size []) (t':=s.toks) (λb u q=>az _ q) (mY (iW _ _)) ?_;have ne:s.heap.objs.size≠s.heap.objs.size+1:=bA (lW _);refine⟨by rw[zA ne,zq],bK _,ne,e2,λ_=>none,(Hm e3).at λo q=>az _ q,λ_=>lD,λy hy=>absurd rfl hy⟩
theorem zj8(hb:mq e f env (dI e env)=dI e env)(h:bJ (bR prog w) A (dI e env) (λo s₁=>bJ (bR prog w) A (Hl o f true) Q E s₁) E s):bJ (bR prog w) A (dI (.Attribute e f pos) env) Q E s :=
 Attribute_any_ h (by rw[arm_eval_Attribute,hb])
end
inductive FdI (K:aN) (f:cG) (x:V) (H:Hp) (Q:VK):Prop
 |mk (a C dx:aq) (fs:List (cG×V)) (v:V) (h1:x=.ref a) (h2:H a=some (.ins C dx fs)) (h3:Cls K C) (h4:NoAttr K C f) (h5:fs.lookup f=some v) (q:Q v H):FdI K f x H Q
def zlW(K:aN)(ta:TE)(f:cG):TE:=λZ H Q=>ta Z H λx H1=>FdI K f x H1 Q
def zmi(K:aN)(ta tv:TE)(f:cG):TS:=λD Z H=>tv Z H λy H1=>ta Z H1 λx H2=>Ex4 λa C dx fs=>x=.ref a/\H2 a=some (.ins C dx fs)/\Cls K C/\NoAttr K C f/\fs.length<1000 /\
 D.nx Z (upd H2 a (.ins C dx (yo f y fs)))
section
variable {X:Cx} {o e value:eV} {f:cG} {pos pos' tpos:mV} {ta tv:TE}
theorem zk8(he:PE X e ta)(hb:mq e f X.env (dI e X.env)=dI e X.env):PE X (.Attribute e f pos) (zlW X.K ta f):=by
 intro pins s Z H Q I h;refine zj8 hb (thn (he pins s Z H _ I h) λu s1 ⟨x,H1,I1,rx,a,C,dx,fs,v,ex,ea,c,n,l,q⟩=>?_);subst ex;obtain rfl:u=aY a:=rx;exact zgU I1 ea c n l λu' s2 I2 ru=>⟨v,H1,I2,ru,q⟩
theorem Yv(ha:PE X o ta)(hv:PE X value tv)(hs:rN value (some (.Attribute o f pos')) pos.line X.env=pure false):PS X (.Assign [.Attribute o f pos'] value pos) (zmi X.K ta tv f):=by
 intro pins s Z H D I h;refine plainObj_wpAny_Assign_Attribute (thn (hv pins s Z H _ I h) λu s1 ⟨y,H1,I1,ry,q⟩=>thn (ha pins s1 Z H1 _ I1 q) λov s2 ⟨x,H2,I2,rx,a,C,dx,fs,ex,ea,c,n,l,q2⟩=>?_) hs;subst ex;obtain rfl:ov=aY a:=rx;exact zgT I2 ea c n l ry λs3 I3=>⟨Z,_,I3,q2⟩
end
section
variable {X:Cx} {pins:List (aq×kj)} {Z:St} {H:Hp} {s:aR} {A:eH} {E:aG->aR->Prop} {Q:aG->aR->Prop} {c:aG} {b:Bool}
inductive zaI (K:aN) (H:Hp):V->aG->Prop where
 |non:zaI K H .non (.type "NoneType")
 |bl (x:Bool):zaI K H (.bl x) (.type "bool")
 |int (i:Int):zaI K H (.int i) (.type "int")
 |str (x:cG):zaI K H (.str x) (.type "str")
 |flt (x:UInt64):zaI K H (.flt x) (.type "float")
 |lst {a:aq} {xs:List V} (e:H a=some (.lst xs)):zaI K H (.ref a) (.type "list")
 |frz {a:aq} {o:kj} {xs:List V} (e:H a=some (.frz o (.lst xs))):zaI K H (.ref a) (.type "list")
 |tup {a:aq} {xs:List V} (e:H a=some (.tup xs)):zaI K H (.ref a) (.type "tuple")
 |dK {a:aq} {kvs:List (Key×V)} (e:H a=some (.dK kvs)):zaI K H (.ref a) (.type "dict")
 |dT {a:aq} {kvs:List (List Key×V)} (e:H a=some (.dT kvs)):zaI K H (.ref a) (.type "dict")
 |ins {a C dx:aq} {fs:List (cG×V)} (e:H a=some (.ins C dx fs)) (cl:Cls K C) (ha:iH K (.ref C) "__class__"= some (some (.builtin "object.__class__")))
   (hn:W.specialIn K (.builtin "object.__class__") "__get__"= some (some (.builtin "getset_descriptor.__get__"))) (htk:W.takesIn K (.builtin "object.__class__")=some true)
   (hm:nZ K C (.type "object")=some true):zaI K H (.ref a) (.ref C)
theorem zic(I:Inv X pins Z H s)(rx:RelV x u)(ty:zaI X.K H x t)(e:lO X.K t c=some b)(h:∀tk,Q (.bool b) { s with toks:=tk }):
  bJ (bR X.prog X.w) A (call (.builtin "isinstance") [u,c]) Q E s:=by
 cases ty with
 |non=>cases (show u=fJ from rx);exact iK W.kitx_none I.kIn lD e (λz=>nomatch z) h
 |bl y=>cases (show u=oY y from rx);exact iK W.kitx_bool I.kIn lD e (λz=>nomatch z) h
 |int i=>obtain⟨t,q⟩:=(show ∃t,u=nj i t from rx);cases q;exact iK W.kitx_int I.kIn lD e (λz=>nomatch z) h
 |str y=>obtain⟨t,q⟩:=(show ∃t,u=Cj y t from rx);cases q;exact iK W.kitx_str I.kIn lD e (λz=>nomatch z) h
 |flt y=>obtain⟨t,q⟩:=(show ∃t,u=CT y t from rx);cases q;exact iK W.kitx_float I.kIn lD e (λz=>nomatch z) h
 |@lst a xs ea=>
  cases (show u=aY a from rx);obtain⟨_,_,n,_,h1⟩:=(show ObjOk X.prog X.w H s.heap a (.lst xs) from I.hok a _ ea)
  exact iK Ga I.kIn ⟨_,h1,rfl⟩ e (λz=>nomatch z) h
 |@frz a ob xs ea=>
  cases (show u=aY a from rx);obtain⟨_,_,_,n,_,h1⟩:=(show ObjOk X.prog X.w H s.heap a (.frz ob (.lst xs)) from I.hok a _ ea)
  exact iK Ga I.kIn ⟨_,h1,rfl⟩ e (λz=>nomatch z) h
 |@tup a xs ea=>
  cases (show u=aY a from rx);obtain⟨_,_,_,p⟩:=(show ObjOk X.prog X.w H s.heap a (.tup xs) from I.hok a _ ea)
  obtain⟨o,h1,h2,_⟩:=p;exact iK W.kitx_tuple I.kIn ⟨o,h1,h2⟩ e (λz=>nomatch z) h
 |@dK a kvs ea=>
  cases (show u=aY a from rx);obtain⟨_,_,vs,_,p⟩:=(show ObjOk X.prog X.w H s.heap a (.dK kvs) from I.hok a _ ea)
  obtain⟨o,es,ep,h1,h2,_⟩:=p;exact iK Gb I.kIn ⟨o,h1,h2.1⟩ e (λz=>nomatch z) h
 |@dT a kvs ea=>
  cases (show u=aY a from rx);obtain⟨_,_,xs,_,o,es,ep,h1,h2,_⟩:=(show ObjOk X.prog X.w H s.heap a (.dT kvs) from I.hok a _ ea)
  exact iK Gb I.kIn ⟨o,h1,h2.1⟩ e (λz=>nomatch z) h
 |@ins a C dx fs ea cl ha hn htk hm=>
  cases (show u=aY a from rx);obtain⟨mA,O,_⟩:=zbM I.hok ea
  obtain⟨od,J,_⟩:=O.look;exact iK (W.kitx_own (cl.get _) cl.hd ha hn htk hm) I.kIn J e (λz=>nomatch z) h
end
structure Room (k:Nat) (A:eH):Prop where
 hd:A.handled=none
 dp:A.depth+k+5<DK
 un:A.units+16*k+200<iT
 gd:A.guards=some []
theorem Room.mono(r:Room k A)(h:j<=k):Room j A:=⟨r.hd,by have:=r.dp;omega,by have:=r.un;omega,r.gd⟩
theorem Room.deeper(r:Room (k+1) A)(env:GD):Room k (A.deeper env):=
 ⟨r.hd,by have:=r.dp;show A.depth+1+k+5<_;omega,by have:=r.un;show A.units+3+16*k+200<_;omega,r.gd⟩
theorem Room.in1(r:Room (k+1) A):Room k A.in1 :=
 ⟨r.hd,by have:=r.dp;show A.depth+k+5<_;omega,by have:=r.un;show A.units+1+16*k+200<_;omega,r.gd⟩
theorem zgd{A:eH}:(A.under (.builtin "type.__call__" ⟨.ref C::us,kw⟩)).depth=A.depth+1:=by
 first | rfl | simp[o9,Code.weight,Code.isCreation,Fi,Code.isCaller,Gd,Bv,guardIds]
theorem zf7{A:eH}:(A.under (.builtin "type.__call__" ⟨.ref C::us,kw⟩)).units=A.units+1:=by
 first | rfl | simp[o9,Code.cUnits,Gd,Bv]
theorem Room.make(r:Room (k+1) A)(C:aq)(us:List aG)(kw:List (cG×aG)):Room k (A.under (.builtin "type.__call__" ⟨.ref C::us,kw⟩)):=
 ⟨r.hd,by have:=r.dp;rw[zgd];omega,by have:=r.un;rw[zf7];omega,by first | exact r.gd | (simp[o9,Code.guards,Fi,guardIds];exact r.gd)⟩
theorem Room.depth(r:Room k A):A.depth<DK:=by have:=r.dp;omega
theorem Room.units(r:Room k A):A.units+64<iT:=by have:=r.un;omega
def Qh:TA:=λ_ H Q=>Q [] H
def ZW(ta:TE)(tr:TA):TA:=λZ H Q=>ta Z H λx H1=>tr Z H1 λxs H2=>Q (x::xs) H2
section
variable {X:Cx} {e:eV} {es:List eV} {te:TE} {t:TA} {pos:mV}
theorem zf:PA X [] Qh:=λ_ _ _ _ H Q I h=>iU ⟨[],H,I,.nil,h⟩
theorem zc(ha:PE X e te)(hr:PA X es t)(hs:bF (e::es) X.env=(false,dI e X.env)::bF es X.env:=by rfl):PA X (e::es) (ZW te t):=by
 intro pos pins s Z H Q I h;rw[hs];show bJ _ _ (Bt ((false,dI e X.env)::gh pos (bF es X.env))) _ _ s;refine il (thn (ha pins s Z H _ I h) λu s1 ⟨x,H1,I1,r1,q1⟩=>?_);exact thn (hr pos pins s1 Z H1 _ I1 q1) λus s2 ⟨xs,H2,I2,r2,q2⟩=>⟨x::xs,H2,I2,.cons r1 r2,q2⟩
def zmc(t:TA):TE:=λZ H Q=>t Z H λxs H1=>xs.length<=aZ/\∀p,H1 p=none->Q (.ref p) (upd H1 p (.tup xs))
def zhC(t:TA):TE:=λZ H Q=>t Z H λxs H1=>xs.length<=aZ/\∀p,H1 p=none->Q (.ref p) (upd H1 p (.lst xs))
theorem Zi{x1}(h:PA X es t):PE X (.Tuple es x1 pos) (zmc t):=by
 intro pins s Z H Q I hq;refine wpAny_Tuple_spliced (thn (h pos pins s Z H _ I hq) λus s1 ⟨xs,H1,I1,r,z,q⟩=>⟨by rw[<-r.length];exact z,?_⟩);have hf:H1 s1.heap.objs.size=none:=I1.hok.fresh (au _);refine⟨.ref s1.heap.objs.size,upd H1 s1.heap.objs.size (.tup xs),I1.laid (t':=s1.toks) (λb u e=>az _ e) (au _) ?_,rfl,q _ hf⟩;exact⟨z,us,r,⟨_,bC _ rfl,rfl,_,rfl⟩⟩
theorem yR(h:PA X es t):PE X (.List es pos) (zhC t):=by
 intro pins s Z H Q I hq;refine wpAny_List_spliced (thn (h pos pins s Z H _ I hq) λus s1 ⟨xs,H1,I1,r,z,q⟩=>⟨by rw[<-r.length];exact z,?_⟩);have hf:H1 s1.heap.objs.size=none:=I1.hok.fresh (au _);refine⟨.ref s1.heap.objs.size,upd H1 s1.heap.objs.size (.lst xs),I1.laid (t':=s1.toks) (λb u e=>az _ e) (au _) ?_,rfl,q _ hf⟩;exact⟨z,us,0,r,bC _ rfl⟩
end
abbrev Sp:=List V->Hp->VK->XK->Prop
abbrev CXT:=List GD->Hp->aR->XK->aG->aR->Prop
structure Env0 (P:cg) (w:cT) (K:aN) (mg:cG->Option aG) (base:dR) (A:eH) (outer:List GD) (s:aR) (H:Hp):Prop where
 frames:A.frames=some outer
 mod:Mod K mg base
 bs:∀b o,base.get? b=some o->s.heap.get? b=some o/\H b=none
 bsz:base.objs.size<=s.heap.objs.size
 funs:s.heap.FunFrames base outer
 frf:∀b∈frs outer,H b=none
 hok:HOk P w H s.heap
 bare:lw s.gens
def CE(outer:List GD)(P:cg)(w:cT)(H:Hp)(s:aR)(Q:VK)(u:aG)(s':aR):Prop :=
 ∃v H',s'.os=s.os/\lw s'.gens/\Un (frs outer) [] H H' s.heap s'.heap/\HOk P w H' s'.heap/\RelV v u/\Q v H'
def CR(CX:CXT)(outer:List GD)(P:cg)(w:cT)(H:Hp)(s:aR)(Q:VK)(E:XK)(r:HB)(s':aR):Prop :=
 match r with
 |.ok (.ret u)=>CE outer P w H s Q u s'
 |.ok _=>False
 |.error e=>CX outer H s E e s'
structure FnOk (P:cg) (w:cT) (K:aN) (mg:cG->Option aG) (base:dR) (CX:CXT) (k:Nat) (f:aq) (fd:iY) (ps:List cG) (sp:Sp):Prop where
 len:∀vs H Q E,sp vs H Q E->vs.length=ps.length
 run:∀(A:eH) (outer:List GD) (s:aR) (H:Hp) (args:Args) (us:List aG) (vs:List V) (Q:VK) (E:XK),Room k A->Env0 P w K mg base A outer s H->ph s fd args (ps.zip us)->Vals vs us->sp vs H Q E ->
  lN (bR P w) A (.call (.ref f) args) (CR CX outer P w H s Q E) s
theorem FnOk.imp{K:aN}(F:FnOk P w K mg base CX k f fd ps sp)(h:∀vs H Q E,sp' vs H Q E->sp vs H Q E):FnOk P w K mg base CX k f fd ps sp' :=
 ⟨λvs H Q E q=>F.len vs H Q E (h _ _ _ _ q),λA outer s H args us vs Q E hr he hb hv hs=>F.run A outer s H args us vs Q E hr he hb hv (h _ _ _ _ hs)⟩
theorem Env0.make{K:aN}(e:Env0 P w K mg base A outer s H)(C:aq)(us:List aG)(kw:List (cG×aG)):
  Env0 P w K mg base (A.under (.builtin "type.__call__" ⟨.ref C::us,kw⟩)) outer s H:=⟨by first | exact e.frames | (simpa[o9,Code.envs,Bv,pushEnvs] using e.frames),e.mod,e.bs,e.bsz,e.funs,e.frf,e.hok,e.bare⟩
theorem Env0.in1{K:aN}(e:Env0 P w K mg base A outer s H):
  Env0 P w K mg base A.in1 outer s H:=⟨e.frames,e.mod,e.bs,e.bsz,e.funs,e.frf,e.hok,e.bare⟩
section
variable {X:Cx} {pins:List (aq×kj)} {Z:St} {H:Hp} {s s':aR}
theorem Inv.env0(I:Inv X pins Z H s):Env0 X.prog X.w X.K X.mg X.base X.A X.stack s H :=
 ⟨I.ok.frames,I.ok.mod,I.bs,ao I.ok.bsz I.sz,I.stack,I.stkFree,I.hok,I.bare⟩
theorem Inv.after(I:Inv X pins Z H s)(h:CE X.stack X.prog X.w H s Q u s'):EP X pins Z Q u s':=by
 obtain⟨v,H',os,bare,un,hok,r,q⟩:=h;obtain⟨hh,g,d,t,os'⟩:=s';obtain rfl:os'=s.os:=os;exact⟨v,H',I.call (h':=hh) (g':=g) (d':=d) (t':=t) (ch:=[]) un hok bare (λb z=>absurd z (by simp)),r,q⟩
end
def ziV(sp:Sp)(dvs:List V)(E:XK)(t:TA):TE:=λZ H Q=>t Z H λvs H1=>sp (vs++dvs) H1 Q E
def zbh(C:aq)(m:cG)(sp:Sp)(dvs:List V)(E:XK)(ta:TE)(t:TA):TE:=λZ H Q=>ta Z H λx H1=>Ex3 λa dx fs=>x=.ref a/\H1 a=some (.ins C dx fs)/\fs.lookup m=none /\
 t Z H1 λvs H2=>sp (x::(vs++dvs)) H2 Q E
def zkF(C:aq)(sp:Sp)(dvs:List V)(E:XK)(t:TA):TE:=λZ H Q=>t Z H λvs H1=>∀x dx,H1 x=none->H1 dx=none->dx≠x ->
 sp (.ref x::(vs++dvs)) (upd (upd H1 dx (.own x)) x (.ins C dx [])) (λv H2=>v=.non/\Q (.ref x) H2) E
def Binds(K:aN)(fd:iY)(ps:List cG)(ds:List aG):Prop :=
 ∀s us,K.In s.heap->(us++ds).length=ps.length->ph s fd ⟨us,[]⟩ (ps.zip (us++ds))
theorem Binds.all{K:aN}(h:∀us:List aG,us.length=ps.length->p6 fd ⟨us,[]⟩=pure (ps.zip us)):Binds K fd ps []:=λs us _ hl=>by
 rw[cR]at hl ⊢;exact .of_eq (h us hl)
def JL(CX:CXT)(X:Cx)(E:XK):Prop:=∀(pins:List (aq×kj)) (Z:St) (H:Hp) (s:aR) (e:aG) (s':aR),Inv X pins Z H s->CX X.stack H s E e s'->X.xe e s'
section
variable {X:Cx} {CX:CXT} {k:Nat} {f C:aq} {fd:iY} {ps:List cG} {sp:Sp} {dvs:List V} {ds:List aG} {E:XK} {x m:cG} {p pos apos:mV} {e o:eV} {es:List eV} {ta:TE} {t:TA}
theorem zgf{Z:St}(F:FnOk X.prog X.w X.K X.mg X.base CX k f fd ps sp)(hr:Room k X.A)(hb:Binds X.K fd ps ds)(hd:Vals dvs ds)(hx:JL CX X E)(I:Inv X pins Z H s)(r:Vals vs us)(h:sp (vs++dvs) H Q E):bJ (bR X.prog X.w) X.A (call (.ref f) us) (EP X pins Z Q) X.xe s:=by
 have r2:Vals (vs++dvs) (us++ds):=r.append hd;have hl:(us++ds).length=ps.length:=by rw[<-r2.length];exact F.len _ _ _ _ h
 refine pq (ir (F.run X.A X.stack s H ⟨us,[]⟩ (us++ds) (vs++dvs) Q E hr I.env0 (hb s us I.kIn hl) r2 h) λr s' hq=>?_);cases r with
 |error e=>exact hx pins Z H s e s' I hq
 |ok fl=>
  cases fl with
  |ret u=>exact I.after hq
  |next=>exact cV hq
  |brk=>exact cV hq
  |cont=>exact cV hq
theorem zj4(F:FnOk X.prog X.w X.K X.mg X.base CX k f fd ps sp)(hr:Room k X.A)(hg:Gl X x)(hm:X.mg x=some (.ref f))(hk:nH X.K (.ref f)=true)(hb:Binds X.K fd ps ds)(hd:Vals dvs ds)(hx:JL CX X E)(ha:PA X (e::es) t)(hdb:(x == ("__debug__" : cG))=false:=by decide)(he:bF (e::es) X.env=(false,dI e X.env)::bF es X.env:=by rfl)(hpl:(gh pos (bF es X.env)).any (·.1)=false:=by rfl):
  PE X (.Call (.Name x p) (e::es) [] pos) (ziV sp dvs E t):=by
 intro pins s Z H Q I h;refine di (Ub I hg hm ?_ hdb);refine pA (h₀:=X.base) I.ok.mod.kin hk (thn (ha pos pins s Z H _ I h) λus s1 ⟨vs,H1,I1,r,q⟩=>⟨I1.kIn,?_⟩) he hpl;exact zgf F hr hb hd hx I1 r q
theorem zkk{pl:Ig Bool}(he:PE X o ta)(c:Cls X.K C)(hm:Meth X.K C m f)(F:FnOk X.prog X.w X.K X.mg X.base CX k f fd ps sp)(hr:Room k X.A)(hb:Binds X.K fd ps ds)(hd:Vals dvs ds)(hx:JL CX X E)(ha:PA X (e::es) t)(hst:bF (e::es) X.env=(false,dI e X.env)::bF es X.env:=by rfl)(hpl:(gh pos (bF es X.env)).any (·.1)=false:=by rfl)(ht:dI (.Call (.Attribute o m apos) (e::es) [] pos) X.env=(do
   let ov <-dI o X.env
   rM apos.atName
   let (f,first) <-Dt [ov] (oM ov m pl)
   DN pos f first (gh pos (bF (e::es) X.env)) (p7 pos (mF [] X.env))):=by rfl):
  PE X (.Call (.Attribute o m apos) (e::es) [] pos) (zbh C m sp dvs E ta t):=by
 intro pins s Z H Q I h;refine Dg (pl:=pl) (thn (he pins s Z H _ I h) λu s1 ⟨x,H1,I1,rx,a,dx,fs,ex,ea,l,q⟩=>?_) ht;subst ex;obtain rfl:u=aY a:=rx;refine zcU I1 ea c hm l ?_;refine pA (first:=[.ref a]) (h₀:=X.base) I.ok.mod.kin hm.kp (thn (ha pos pins s1 Z H1 _ I1 q) λus s2 ⟨vs,H2,I2,r,q2⟩=>⟨I2.kIn,?_⟩) hst hpl;exact zgf (us:=.ref a::us) (vs:=.ref a::vs) F hr hb hd hx I2 (.cons rfl r) q2
theorem zji(he:PE X o ta)(c:Cls X.K C)(hm:Meth X.K C m f)(F:FnOk X.prog X.w X.K X.mg X.base CX k f fd ps sp)(hr:Room k X.A)(hb:Binds X.K fd ps ds)(hd:Vals dvs ds)(hx:JL CX X E)(ht:dI (.Call (.Attribute o m apos) [] [] pos) X.env=(do
   let ov <-dI o X.env
   rM apos.atName
   let (f,first) <-Dt [ov] (oM ov m pl)
   DN pos f first (gh pos (bF [] X.env)) (p7 pos (mF [] X.env))):=by rfl):
  PE X (.Call (.Attribute o m apos) [] [] pos) (zbh C m sp dvs E ta Qh):=by
 intro pins s Z H Q I h;refine Dg (pl:=pl) (thn (he pins s Z H _ I h) λu s1 ⟨x,H1,I1,rx,a,dx,fs,ex,ea,l,q⟩=>?_) ht;subst ex;obtain rfl:u=aY a:=rx;refine zcU I1 ea c hm l ?_;exact W.callWith_K0 (first:=[.ref a]) I1.kIn hm.kp (zgf (us:=[.ref a]) (vs:=[.ref a]) F hr hb hd hx I1 (.cons rfl .nil) q)
structure Mk (K:aN) (C f:aq):Prop where
 makes:Ez K C=true
 init:iH K (.ref C) "__init__"= some (some (.ref f))
 fn:GP K (.ref f)=true
 kp:nH K (.ref C)=true
theorem ziE{Z:St}(M:Mk X.K C f)(F:FnOk X.prog X.w X.K X.mg X.base CX k f fd ps sp)(hr:Room (k+1) X.A)(hb:Binds X.K fd ps ds)(hd:Vals dvs ds)(hx:JL CX X E)(I:Inv X pins Z H s)(r:Vals vs us)(h:∀x dx,H x=none->H dx=none->dx≠x->sp (.ref x::(vs++dvs)) (upd (upd H dx (.own x)) x (.ins C dx [])) (λv H2=>v=.non/\Q (.ref x) H2) E):
  bJ (bR X.prog X.w) X.A (call (.ref C) us) (EP X pins Z Q) X.xe s:=by
 have hq:=h (s.heap.objs.size+1) s.heap.objs.size (I.hok.fresh (eY _)) (I.hok.fresh (au _)) (bA (lW _));have I2:=Inv.made (C:=C) I;have r2:Vals (V.ref (s.heap.objs.size+1)::(vs++dvs)) (aY (s.heap.objs.size+1)::(us++ds)):=.cons rfl (r.append hd);have hl:(aY (s.heap.objs.size+1)::us++ds).length=ps.length:=by
  have e:=r2.length;rw[F.len _ _ _ _ hq]at e;exact e.symm
 refine pq (zjd (f:=f) I.kIn M.makes M.init (beq_iff_eq.mp M.fn) (ir (F.run _ X.stack _ _ ⟨aY (s.heap.objs.size+1)::us,[]⟩ (aY (s.heap.objs.size+1)::(us++ds)) _ _ E (hr.make C us [])
  (I2.env0.make C us []) (hb _ (aY (s.heap.objs.size+1)::us) I2.kIn hl) r2 hq) λr s' hq'=>?_))
 cases r with
 |error e=>exact hx pins Z _ _ e s' I2 hq'
 |ok fl=>
  cases fl with
  |ret u=>
   obtain⟨v,H',I3,rv,ev,q3⟩:=I2.after hq';subst ev;exact⟨rv,⟨V.ref (s.heap.objs.size+1),H',I3,rfl,q3⟩⟩
  |next=>exact cV hq'
  |brk=>exact cV hq'
  |cont=>exact cV hq'
theorem jc(M:Mk X.K C f)(F:FnOk X.prog X.w X.K X.mg X.base CX k f fd ps sp)(hr:Room (k+1) X.A)(hg:Gl X x)(hm:X.mg x=some (.ref C))(hb:Binds X.K fd ps ds)(hd:Vals dvs ds)(hx:JL CX X E)(ha:PA X (e::es) t)(hdb:(x == ("__debug__" : cG))=false:=by decide)(he:bF (e::es) X.env=(false,dI e X.env)::bF es X.env:=by rfl)(hpl:(gh pos (bF es X.env)).any (·.1)=false:=by rfl):
  PE X (.Call (.Name x p) (e::es) [] pos) (zkF C sp dvs E t):=by
 intro pins s Z H Q I h;refine di (Ub I hg hm ?_ hdb);refine pA (h₀:=X.base) I.ok.mod.kin M.kp (thn (ha pos pins s Z H _ I h) λus s1 ⟨vs,H1,I1,r,q⟩=>⟨I1.kIn,?_⟩) he hpl;exact ziE M F hr hb hd hx I1 r q
end
section
variable {X:Cx} {CX:CXT} {k:Nat} {f C:aq} {fd:iY} {ps ks:List cG} {sp:Sp} {E:XK} {x m:cG} {p pos apos kpos:mV} {e o:eV} {es:List eV} {kws:List Du} {te ta:TE} {t tk:TA} {nm:Option cG}
variable {g:List aG->List aG->List aG} {gV:List V->List V->List V}
end
structure zG (N P:List cG) (sc:lM):Prop where
 kind:sc.kind=.function:=by rfl
 co:sc.isCoroutine=false:=by rfl
 gen:sc.isGenerator=false:=by rfl
 nd:N.Nodup:=by decide +kernel
 pre:N.take P.length=P:=by rfl
 par:∀x∈P,sc.names.lookup x=some .local\/sc.names.lookup x=some .cell:=by decide +kernel
 nofree:∀y∈sc.names,y.2≠.free:=by decide +kernel
theorem zdA{lX:cG->Option iZ}{x:cG}:∀{binds:List (cG×aG)} {m:cG->Option aG},(∀v,(x,v)∉binds)->DP lX binds m x=m x
 |[],_,_=>rfl
 | (n,v)::r,m,h=>by
  unfold DP;rw[zdA λw hw=>h w (bx _ hw)];split
  ·have:x≠n:=by rintro rfl;exact h v bI
   simp[this]
  ·rfl
theorem zdB{lX:cG->Option iZ}{x:cG}:∀{binds:List (cG×aG)} {m:cG->Option aG},(∀v,(x,v)∉binds)->DQ lX binds m x=m x
 |[],_,_=>rfl
 | (n,v)::r,m,h=>by
  unfold DQ;rw[zdB λw hw=>h w (bx _ hw)];split
  ·rfl
  ·have:x≠n:=by rintro rfl;exact h v bI
   simp[this]
theorem zdx{lX:cG->Option iZ}{x:cG}{v:aG}:∀{P:List cG} {vs:List aG} {i:Nat} {m:cG->Option aG},P.Nodup->P[i]?=some x->vs[i]?=some v->lX x=some .local ->
  DP lX (P.zip vs) m x=some v
 |[],_,_,_,_,h,_,_=>by simp at h
 |_::_,[],_,_,_,_,h,_=>by simp at h
 |p::P,w::vs,0,m,nd,h1,h2,hk=>by
  simp at h1 h2;subst h1;subst h2;show DP lX ((p,w)::P.zip vs) m p=_;unfold DP;rw[zdA λv hv=>(lA.mp nd).1 (mO hv).1,if_pos hk];simp
 |p::P,w::vs,i+1,m,nd,h1,h2,hk=>by
  show DP lX ((p,w)::P.zip vs) m x=_;unfold DP;exact zdx (i:=i) (lA.mp nd).2 (by simpa using h1) (by simpa using h2) hk
theorem zdy{lX:cG->Option iZ}{x:cG}{v:aG}:∀{P:List cG} {vs:List aG} {i:Nat} {m:cG->Option aG},P.Nodup->P[i]?=some x->vs[i]?=some v->lX x≠some .local ->
  DQ lX (P.zip vs) m x=some v
 |[],_,_,_,_,h,_,_=>by simp at h
 |_::_,[],_,_,_,_,h,_=>by simp at h
 |p::P,w::vs,0,m,nd,h1,h2,hk=>by
  simp at h1 h2;subst h1;subst h2;show DQ lX ((p,w)::P.zip vs) m p=_;unfold DQ;rw[zdB λv hv=>(lA.mp nd).1 (mO hv).1,if_neg hk];simp
 |p::P,w::vs,i+1,m,nd,h1,h2,hk=>by
  show DQ lX ((p,w)::P.zip vs) m x=_;unfold DQ;exact zdy (i:=i) (lA.mp nd).2 (by simpa using h1) (by simpa using h2) hk
def start(N:List cG)(vs:List V):St:=vs.map some++bc (N.length-vs.length) none
def Q8(CX:CXT)(P:cg)(w:cT)(K:aN)(mg:cG->Option aG)(base:dR)(N:List cG)(qual:cG)(scope:lM)(f:aq)(cd:aG)(A:eH)(outer:List GD)(s:aR)(H:Hp)(E:XK):Cx where
 prog:=P
 w:=w
 K:=K
 mg:=mg
 base:=base
 A:=A.deeper (lY qual scope s.heap.objs.size f cd)
 N:=N
 s₀:=s
 H₀:=H
 env:=lY qual scope s.heap.objs.size f cd
 outer:=outer
 stack:=lY qual scope s.heap.objs.size f cd::outer
 ex:=[]
 calm:=true
 fn:=λ_=>true
 pn:=[]
 xe:=λe s'=>bJ (bR P w) (A.deeper (lY qual scope s.heap.objs.size f cd)) (leaving (lY qual scope s.heap.objs.size f cd) e) (λ_ s''=>CX outer H s E e s'') (λe' s''=>CX outer H s E e' s'') s'
theorem zfj{sc:lM}(h:sc.names.lookup x=some .cell):∃c,(nu n sc.names []).lookup x=some c:=by
 have q:=oN sc.names n [] (.inl h);exact Option.isSome_iff_exists.mp q
theorem zdw{K:aN}(S:zG N ps scope)(hd:A.handled=none)(e0:Env0 P w K mg base A outer s H)(hl:vs.length=ps.length)(r:Vals vs us)(x:InCallC s s.heap.objs.size (DP (lY qual scope s.heap.objs.size f cd).kindOf (ps.zip us) λ_=>none) (nu (s.heap.objs.size+1) scope.names []) (DQ (lY qual scope s.heap.objs.size f cd).kindOf (ps.zip us) λ_=>none) s1):
  Inv (Q8 CX P w K mg base N qual scope f cd A outer s H E) [] (start N vs) H s1:=by
 have hpl:ps.length<=N.length:=by have:=congrArg c7 S.pre;rw[bM]at this;omega
 obtain⟨h1,tk,rfl,hk⟩:=x.done;have noA:∀b:aq,b∉(Q8 CX P w K mg base N qual scope f cd A outer s H E).ex:=λb z=>absurd (show b∈([]:List aq) from z) (by simp);refine⟨⟨e0.mod,S.kind,rfl,rfl,au _,λy z c h1 h2=>?_,λy hy=>?_,λy c _ h=>?_,λ_=>hd,Around.frames_deeper e0.frames,.inr ⟨rfl,rfl⟩,λb z=>absurd z (noA b),e0.bs,e0.bsz,λb _ _=>noA b,λb z=>absurd z (noA b),e0.funs,e0.frf⟩,
  rfl,e0.bare,Un.kept hk,⟨_,x.toInCall.ns,λi y v h1 h2 h3=>?_⟩,λy c h=>⟨_,x.cell y c h⟩,e0.hok.fresh (au _),λy c h=>?_,λp hp=>absurd (show p∈([]:List (aq×kj)) from hp) (by simp),e0.hok.kept hk,?_⟩
 ·exact name_of_addr x.apart (PySem.mem_of_lookup h1) (PySem.mem_of_lookup h2)
 ·have hy:scope.names.lookup y=some .cell\/scope.names.lookup y=some .free:=hy;rcases hy with hy | hy
  ·exact zfj hy
  ·exact absurd rfl (S.nofree _ (PySem.mem_of_lookup hy))
 ·exact d7 (x.above y c (PySem.mem_of_lookup h))
 ·have hi:i<vs.length:=by
   unfold start at h2;by_cases hi:i<vs.length
   ·exact hi
   ·rw[bG (by simpa using hi)]at h2;rw[oO]at h2;split at h2<;>cases h2
  have ha:vs[i]?=some v:=by
   unfold start at h2;rw[cB (by simpa using hi),ak]at h2;cases e:vs[i]? with
   |none=>rw[e]at h2;cases h2
   |some a=>rw[e]at h2;cases h2;rfl
  obtain⟨u,hu,rv⟩:=r.get ha;have hp:ps[i]?=some y:=by
   rw[<-S.pre,List.getElem?_take_of_lt (by omega)];exact h1
  have ndP:ps.Nodup:=by rw[<-S.pre];exact S.nd.sublist (List.take_sublist _ _)
  refine⟨u,rv,?_⟩;rcases S.par y (aJ hp) with k | k
  ·exact .inl ⟨k,zdx ndP hp hu k⟩
  ·obtain⟨c,e⟩:=zfj (n:=s.heap.objs.size+1) k;refine .inr ⟨.inl k,c,e,?_⟩;have q:=x.cell y c e;rw[zdy ndP hp hu (by show scope.names.lookup y≠_;rw[k];decide)]at q;exact q
 ·exact e0.hok.fresh (d7 (x.above y c (PySem.mem_of_lookup h)))
 ·unfold start;show _=N.length;rw[aB,aa,fG];omega
theorem zix{K:aN}{dV kV doc pm cdv ct oc:aG}(lk:K.lookup f=some ⟨oc,od,.func (oE name qual params body scope dV kV doc pm an cdv ct),osl⟩)(hcd:Bw K cdv qual=true)(S:zG N ps scope)(len:∀vs H Q E,sp vs H Q E->vs.length=ps.length)(hbody:∀A outer s H vs Q E,Room k (A.deeper (lY qual scope s.heap.objs.size f cdv))->sp vs H Q E ->
   ∃t,PSs (Q8 CX P w K mg base N qual scope f cdv A outer s H E) body t/\t { nx:=λ_ H'=>Q .non H',rt:=Q } (start N vs) H):
  FnOk P w K mg base CX (k+1) f (oE name qual params body scope dV kV doc pm an cdv ct) ps sp:=by
 refine⟨len,λA outer s H args us vs Q E hr e0 hb r hsp=>?_⟩;have hl:=len _ _ _ _ hsp;have KX:K.In s.heap:=e0.mod.kin.keeps λb o e=>(e0.bs b o e).1;have lim:s.heap.NoLimit:=e0.mod.nolimit.keeps λb o e=>(e0.bs b o e).1;have hkind:∀y∈ps.zip us,scope.names.lookup y.1=some .local\/(scope.names.lookup y.1=some .cell/\((nu (s.heap.objs.size+1) scope.names []).lookup y.1).isSome=true):=λ⟨n,v⟩ hy=>by
  rcases S.par n (mO hy).1 with q | q
  ·exact .inl q
  ·exact .inr ⟨q,oN _ _ _ (.inl q)⟩
 refine codeAny_call_function hr.depth (KX _ _ lk) rfl S.co S.gen rfl (W.codeRec_of KX hcd) (hb _ _ _ _ ?_);refine nJ S.kind hkind λenv he s1 x=>?_;subst he;refine⟨lim.keeps x.toInCall.keep,codeAny_func ?_⟩;obtain⟨t,ht,hq⟩:=hbody A outer s H vs Q E (hr.deeper _) hsp;have I:Inv (Q8 CX P w K mg base N qual scope f cdv A outer s H E) [] (start N vs) H s1:=zdw S hr.hd e0 hl r x;refine dX (ht [] s1 (start N vs) H _ I hq) (λfl s' hs=>?_) λe s' hs=>hs;have fin:∀{σ':St} {H':Hp} {v:V} {u:aG},Inv (Q8 CX P w K mg base N qual scope f cdv A outer s H E) [] σ' H' s'->RelV v u->Q v H'->CE outer P w H s Q u s' :=
  λ{σ' H' v u} J rv q=>⟨v,H',J.os,J.bare,J.base,J.hok,rv,q⟩
 cases fl with
 |ret u=>
  obtain⟨v,σ',H',J,rv,q⟩:=hs;exact fin J rv q
 |next=>
  obtain⟨σ',H',J,q⟩:=hs;exact fin (v:=V.non) (u:=fJ) J rfl q
 |brk=>
  obtain⟨_,_,_,q⟩:=hs;exact cV q
 |cont=>
  obtain⟨_,_,_,q⟩:=hs;exact cV q
section
variable {X:Cx} {x:cG} {p pos:mV} {e:eV} {es:List eV} {t:TA} {id T:String} {r:List V->Hp->VK->Prop}
def tCB(r:List V->Hp->VK->Prop)(t:TA):TE:=λZ H Q=>t Z H λvs H1=>r vs H1 Q
theorem zH(hc:Zu X (.builtin id) r)(hg:Gl X x)(hm:X.mg x=none)(hv:lL x=some (.builtin id))(ha:PA X (e::es) t)(hn:x ≠ "__name__":=by decide)(hdb:(x == ("__debug__" : cG))=false:=by decide)(he:bF (e::es) X.env=(false,dI e X.env)::bF es X.env:=by rfl)(hpl:(gh pos (bF es X.env)).any (·.1)=false:=by rfl):PE X (.Call (.Name x p) (e::es) [] pos) (tCB r t):=by
 intro pins s Z H Q I h;refine di (Zk I hg hm hv ?_ hn hdb);exact Cr (thn (ha pos pins s Z H _ I h) λus s1 ⟨vs,H1,I1,r1,q1⟩=>hc pins s1 Z H1 vs us Q I1 r1 q1) he hpl
theorem Yn(hc:Zu X (.type T) r)(hg:Gl X x)(hm:X.mg x=none)(hv:lL x=some (.type T))(ha:PA X (e::es) t)(hn:x ≠ "__name__":=by decide)(hdb:(x == ("__debug__" : cG))=false:=by decide)(he:bF (e::es) X.env=(false,dI e X.env)::bF es X.env:=by rfl)(hpl:(gh pos (bF es X.env)).any (·.1)=false:=by rfl):PE X (.Call (.Name x p) (e::es) [] pos) (tCB r t):=by
 intro pins s Z H Q I h;refine di (Zk I hg hm hv ?_ hn hdb);exact cC (thn (ha pos pins s Z H _ I h) λus s1 ⟨vs,H1,I1,r1,q1⟩=>hc pins s1 Z H1 vs us Q I1 r1 q1) he hpl
end
end L2
namespace HT
open PySem PyProof.Rows
def lexLt:List Int->List Int->Bool
 |[],[]=>false
 |[],_::_=>true
 |_::_,[]=>false
 |x::xs,y::ys=>if x=y then lexLt xs ys else decide (x<y)
theorem Wy(x y:Int)(xs ys:List Int):lexLt (x::xs) (y::ys)=if x=y then lexLt xs ys else decide (x<y):=rfl
theorem Jc:lexLt [] []=false:=rfl
theorem zcB(y:Int)(ys:List Int):lexLt [] (y::ys)=true:=rfl
theorem ZR(x:Int)(xs:List Int):lexLt (x::xs) []=false:=rfl
theorem zjK(A:eH)(s:aR)(a:Int)(t:Tok)(c:Int)(u:Tok):∃e,GQ A s (.int a t) (.int c u) e/\(e=true↔a=c):=
 ⟨(a == c),GX a t c u,by simp⟩
theorem ziK(A:eH)(s:aR)(a:Int)(t:Tok)(c:Int)(u:Tok)(prog:cg)(w:cT)(E:aG->aR->Prop)(Q:aG->aR->Prop)(h:Q (.bool (decide (a<c))) s):
  bJ (bR prog w) A (Ge .Lt (.int a t) (.int c u)) Q E s :=
 (Gw h:bJ (bR prog w) A (dw .Lt (.int a t) (.int c u)) Q E s)
section
open PySem.SeqAt
open PySem.AutoSeq1 (wpAny_loadPart')
open PySem.MeetsSeq PySem.MeetsSeq2 PySem.MeetsSeq3
end
section
variable {prog:cg} {w:cT} {A:eH} {E:aG->aR->Prop} {s:aR}
def sIx(n d:Nat):Option Int->Nat
 |none=>d
 |some v=>if v<0 then (v+(n:Int)).toNat else min v.toNat n
theorem Qq(n d:Nat):sIx n d none=d:=rfl
theorem Vc(n d k:Nat):sIx n d (some (k:Int))=min k n:=by
 show (if (k:Int)<0 then ((k:Int)+(n:Int)).toNat else min (k:Int).toNat n)=min k n;rw[if_neg (by omega),dg]
end
end HT
namespace L2
open PySem PySem.Spec PyProof.Rows
abbrev TO:=St->Hp->(Option Int->Hp->Prop)->Prop
def PO(X:Cx)(e:Option eV)(t:TO):Prop :=
 ∀(pins:List (aq×kj)) (s:aR) (Z:St) (H:Hp) (Q:Option Int->Hp->Prop),Inv X pins Z H s->t Z H Q ->
  bJ (bR X.prog X.w) X.A (evalPart e X.env) (λu s'=>∃o H',Inv X pins Z H' s'/\HD u o/\Q o H') X.xe s
def zg0:TO:=λ_ H Q=>Q none H
def zkE(t:TE):TO:=λZ H Q=>t Z H λx H1=>∃i,x=.int i/\Q (some i) H1
theorem intsAre_of:∀{us:List aG},Vals (ns.map V.int) us->iu us ns:=by
 induction ns with
 |nil=>intro us r;rw[dh]at r;cases r;exact .nil
 |cons n ns ih=>
  intro us r;rw[bz]at r;cases r with
  |cons r1 r2=>
   obtain⟨t,e⟩:=r1;subst e;exact .cons n t (ih r2)
section
variable {X:Cx} {e:eV} {te:TE} {lo hi:Option eV} {tl th:TO} {pos p2:mV}
theorem YW:PO X none zg0:=by
 intro pins s Z H Q I h;rw[El];exact bW ⟨none,H,I,.none,h⟩
theorem tK(h:PE X e te):PO X (some e) (zkE te):=by
 intro pins s Z H Q I hw;rw[evalPart_some];refine thn (h pins s Z H _ I hw) λu s1 ⟨x,H1,I1,r1,q1⟩=>?_;obtain⟨i,rfl,q⟩:=q1;obtain⟨t,rfl⟩:=r1;exact⟨some i,H1,I1,.int i t,q⟩
def SlR(X:Cx)(r:V->Option Int->Option Int->Hp->VK->Prop):Prop :=
 ∀(pins:List (aq×kj)) (s:aR) (Z:St) (H:Hp) (x:V) (v vl vu:aG) (lo hi:Option Int) (sl:aq) (Q:VK),Inv X pins Z H s->RelV x v->s.heap.IsSliceOf sl vl vu .none->HD vl lo->HD vu hi->r x lo hi H Q ->
  ∃T id,DR (.type T) "__getitem__"= pure (some (.builtin id))/\s.TypeIs v T/\bJ (bR X.prog X.w) X.A (Ho v (.ref sl)) (EP X pins Z Q) X.xe s
def tSl(r:V->Option Int->Option Int->Hp->VK->Prop)(te:TE)(tl th:TO):TE:=λZ H Q=>te Z H λx H1=>tl Z H1 λl H2=>th Z H2 λu H3=>r x l u H3 Q
theorem tX(hr:SlR X r)(he:PE X e te)(hl:PO X lo tl)(hu:PO X hi th):PE X (.Subscript e (.Slice lo hi none p2) pos) (tSl r te tl th):=by
 intro pins s Z H Q I h;refine GZ (thn (he pins s Z H _ I h) λv s1 ⟨x,H1,I1,r1,q1⟩=>?_);refine wpAny_Slice (thn (hl pins s1 Z H1 _ I1 q1) λvl s2 ⟨l,H2,I2,pl,q2⟩=>thn (hu pins s2 Z H2 _ I2 q2) λvu s3 ⟨u,H3,I3,pu,q3⟩=>?_);rw[El];refine bW ?_;have I4:Inv X pins Z H3 { s3 with heap:=s3.heap.push { cls:=.type "slice",data:=.fields #[vl,vu,.none] } }:=I3.kept (t':=s3.toks) λb ob q=>az _ q;obtain⟨T,id,hT,ht,hg⟩:=hr pins { s3 with heap:=s3.heap.push { cls:=.type "slice",data:=.fields #[vl,vu,.none] } } Z H3 x v vl vu l u s3.heap.objs.size Q I4 r1 (G6 ..) pl pu q3;show bJ (bR X.prog X.w) X.A (Em e (.Slice lo hi none p2) v (.ref s3.heap.objs.size)) (EP X pins Z Q) X.xe { s3 with heap:=s3.heap.push { cls:=.type "slice",data:=.fields #[vl,vu,.none] } };exact tail_any (ops:=[.ref s3.heap.objs.size,v]) ht hT hg (by with_unfolding_all rfl)
def UG(xs:List V)(lo hi:Option Int):List V:=(xs.drop (HT.sIx xs.length 0 lo)).take (HT.sIx xs.length xs.length hi-HT.sIx xs.length 0 lo)
theorem zfo(xs:List V)(lo hi:Option Int):(UG xs lo hi).length<=xs.length:=by
 unfold UG;rw[bM,cA];omega
end
def ixN(n:Nat)(i:Int):Option Nat:=if 0<=i then (if i<n then some i.toNat else none) else if -(n:Int)<=i then some (i+n).toNat else none
def atI{α:Type}(xs:List α)(i:Int):Option α:=(ixN xs.length i).bind λj=>xs[j]?
theorem zkx(h:ixN n i=some j):seqIndex? i n=some j/\j<n/\-(n:Int)<=i/\i<n:=by
 unfold ixN at h;by_cases h0:0<=i
 ·rw[if_pos h0]at h;by_cases h1:i<n
  ·rw[if_pos h1]at h;have e:i.toNat=j:=bY h;exact⟨by rw[Gf h0 h1,e],by omega,by omega,h1⟩
  ·rw[if_neg h1]at h;cases h
 ·rw[if_neg h0]at h;by_cases h1:-(n:Int)<=i
  ·rw[if_pos h1]at h;have e:(i+n).toNat=j:=bY h;exact⟨by rw[Fj (by omega) h1,e],by omega,h1,by omega⟩
  ·rw[if_neg h1]at h;cases h
theorem zhn(h:atI xs i=some v):∃j,seqIndex? i xs.length=some j/\xs[j]?=some v/\j<xs.length/\-(xs.length:Int)<=i/\i<xs.length:=by
 unfold atI at h;cases e:ixN xs.length i with
 |none=>rw[e]at h;cases h
 |some j=>
  rw[e]at h;obtain⟨h1,h2,h3,h4⟩:=zkx e;exact⟨j,h1,h,h2,h3,h4⟩
theorem vo{j:Nat}(h:xs[j]?=some v):atI xs (j:Int)=some v:=by
 have hj:j<xs.length:=(aO.mp h).1;have e:ixN xs.length (j:Int)=some j:=by
  unfold ixN;rw[if_pos (by omega),if_pos (by omega)];simp
 unfold atI;rw[e];exact h
theorem zjp(xs:List α)(v:α):atI (xs++[v]) (-1)=some v:=by
 have hl:(xs++[v]).length=xs.length+1:=by simp
 have e:ixN (xs++[v]).length (-1)=some xs.length:=by
  unfold ixN;rw[hl,if_neg (by decide),if_pos (by omega)];congr 1;omega
 unfold atI;rw[e];show (xs++[v])[xs.length]?=some v;simp
def zj5(b:eV):Prop:=∀o i,Gg b false o i=operate [o,i] (Ho o i)
def IxR(X:Cx)(r:R2):Prop :=
 ∀(value slice:eV) (pins:List (aq×kj)) (s:aR) (Z:St) (H:Hp) (x y:V) (v u:aG) (Q:VK),Inv X pins Z H s->RelV x v->RelV y u->r x y H Q ->
  Gg slice false v u=operate [v,u] (Ho v u)->bJ (bR X.prog X.w) X.A (Em value slice v u) (EP X pins Z Q) X.xe s
def MtR(X:Cx)(id:String)(r:V->List V->Hp->VK->Prop):Prop :=
 ∀(pins:List (aq×kj)) (s:aR) (Z:St) (H:Hp) (x:V) (xs:List V) (v:aG) (us:List aG) (Q:VK),Inv X pins Z H s->RelV x v->Vals xs us->r x xs H Q ->
  bJ (bR X.prog X.w) X.A (call (.builtin id) (v::us)) (EP X pins Z Q) X.xe s
section
variable {X:Cx} {a b:eV} {ta tb:TE} {pos:mV}
theorem zX(hr:IxR X r)(ha:PE X a ta)(hb:PE X b tb)(hs:zj5 b):PE X (.Subscript a b pos) (tOp r ta tb):=by
 intro pins s Z H Q I h;exact GZ (zlj ha hb I h λv u s2 x y H2 I2 rx ry q=>hr a b pins s2 Z H2 x y v u Q I2 rx ry q (hs _ _))
inductive IxI (S:Hp->aq->List V->Prop) (x y:V) (H:Hp) (Q:VK):Prop
 |mk (p:aq) (xs:List V) (i:Int) (v:V) (h1:x=.ref p) (h2:y=.int i) (s:S H p xs) (a:atI xs i=some v) (q:Q v H):IxI S x y H Q
def ziO(K:aN):R2:=λx y H Q=>IxI (SqL K) x y H Q
def zjT(K:aN):R2:=λx y H Q=>IxI (SqT K) x y H Q
theorem zkv:IxR X (ziO X.K):=by
 intro value slice pins s Z H x y v u Q I rx ry h hs;obtain⟨p,xs,i,z,rfl,rfl,hq,he,q⟩:=h;cases rx
 obtain⟨t,rfl⟩:=ry;obtain⟨its,r,pl,hz⟩:=I.list hq;obtain⟨j,h1,h2,h3,h4,h5⟩:=zhn he;obtain⟨w,ew,rw'⟩:=r.get h2;have hl:=r.length;have hn:=zf1;have fin:EP X pins Z Q w s:=⟨z,H,I,rw',q⟩
 by_cases h0:0<=i
 ·have hj:i.toNat=j:=by
   rw[Gf h0 h5]at h1;exact bY h1
  exact item_listR pl.isList h0 (by omega) (by rw[hj];simpa using ew) fin hs
 ·have hj:(i+(its.toArray.size:Int)).toNat=j:=by
   rw[Fj (by omega) h4]at h1;rw[aK,<-hl];exact bY h1
  exact pB (x:=w) pl.isList.typeIs Bx.lookup
   (wpAny_getItem_list_neg (Q:=λr s'=>r=w/\EP X pins Z Q r s') pl.isList (by omega) (by rw[aK]<;>omega) (by omega) (by rw[hj];simpa using ew) ⟨rfl,fin⟩) hs
theorem zlG:IxR X (zjT X.K):=by
 intro value slice pins s Z H x y v u Q I rx ry h hs;obtain⟨p,xs,i,z,rfl,rfl,hq,he,q⟩:=h;cases rx
 obtain⟨t,rfl⟩:=ry;obtain⟨its,r,pl,hz⟩:=I.tuple hq;obtain⟨j,h1,h2,h3,h4,h5⟩:=zhn he;obtain⟨w,ew,rw'⟩:=r.get h2;have hl:=r.length;have hn:=zf1;have fin:EP X pins Z Q w s:=⟨z,H,I,rw',q⟩
 exact pB (x:=w) pl.typeIs slot_tuple_getitem.lookup
  (getItem_tuple (j:=j) (Q:=λr s'=>r=w/\EP X pins Z Q r s') pl (by omega) (by omega) (by rw[aK,<-hl];exact h1) (by simpa using ew) ⟨rfl,fin⟩) hs
theorem zeu(lo hi:Option Int)(n:Nat):(lG lo hi none n).1=((HT.sIx n 0 lo:Nat):Int)/\(lG lo hi none n).2.1=((HT.sIx n n hi:Nat):Int)/\(lG lo hi none n).2.2=1:=by
 refine⟨?_,?_,rfl⟩
 ·cases lo with
  |none=>simp[lG,HT.sIx]
  |some i=>
   simp only[lG,HT.sIx,Cu,show (1:Int)>0 by decide,if_true];by_cases h:i<0
   ·simp only[h,if_true]<;>omega
   ·simp only[h,if_false]<;>omega
 ·cases hi with
  |none=>simp[lG,HT.sIx]
  |some i=>
   simp only[lG,HT.sIx,Cu,show (1:Int)>0 by decide,if_true];by_cases h:i<0
   ·simp only[h,if_true]<;>omega
   ·simp only[h,if_false]<;>omega
theorem zde(its:List aG)(lo hi:Option Int):slicePick its.toArray lo hi none=((its.drop (HT.sIx its.length 0 lo)).take (HT.sIx its.length its.length hi-HT.sIx its.length 0 lo)).toArray:=by
 obtain⟨h1,h2,h3⟩:=zeu lo hi its.toArray.size;unfold slicePick;rw[h1,h2,h3];simp only[sliceRange_one,pick_run,aK]<;>rfl
inductive SlI (K:aN) (x:V) (lo hi:Option Int) (H:Hp) (Q:VK):Prop
 |mk (a:aq) (xs:List V) (h1:x=.ref a) (h2:SqL K H a xs) (q:∀p,H p=none->Q (.ref p) (upd H p (.lst (UG xs lo hi)))):SlI K x lo hi H Q
def zlE(K:aN):V->Option Int->Option Int->Hp->VK->Prop:=λx lo hi H Q=>SlI K x lo hi H Q
theorem zkg:SlR X (zlE X.K):=by
 intro pins s Z H x v vl vu lo hi sl Q I rx hs pl pu h;obtain⟨a,xs,rfl,hx,q⟩:=h;cases rx
 obtain⟨its,r,ht,hz⟩:=I.list hx;have hlen:=r.length;refine⟨"list",_,Bx.lookup,ht.isList.typeIs,?_⟩;refine wpAny_getItem_list_slice ht.isList hs pl pu .none (by simp) ?_ (by rw[aK]<;>omega);rw[zde,<-hlen];refine⟨.ref s.heap.objs.size,_,I.laid (t':=s.toks) (o:=.lst (UG xs lo hi)) (λb ob q=>az _ q) (au _) ?_,rfl,q _ (I.hok.fresh (au _))⟩;exact⟨ao (zfo xs lo hi) hz,_,0,(r.drop (HT.sIx xs.length 0 lo)).take (HT.sIx xs.length xs.length hi-HT.sIx xs.length 0 lo),bC _ rfl⟩
theorem zeD:Zu X (.builtin "len") (λxs H Q=>∃p ys,xs=[.ref p]/\(SqL X.K H p ys\/SqT X.K H p ys)/\Q (.int ys.length) H):=by
 intro pins s Z H xs us Q I r h;obtain⟨p,ys,rfl,hq,q⟩:=h;obtain⟨u,rfl,rx⟩:=vals1 r;cases rx
 have hn:=zf1;rcases hq with hq | hq
 ·obtain⟨its,r',pl,hz⟩:=I.list hq;have hlen:=r'.length;exact Calls.call_len_list pl.isList (by simp only[aK]<;>omega) ⟨.int ys.length,H,I.tok _,⟨s.toks+1,by rw[aK,hlen]⟩,q⟩
 ·obtain⟨its,r',pl,hz⟩:=I.tuple hq;have hlen:=r'.length;exact len_tuple pl (by simp only[aK]<;>omega) ⟨.int ys.length,H,I.tok _,⟨s.toks+1,by rw[aK,hlen]⟩,q⟩
theorem zd1:Zu X (.type "list") (λxs H Q=>∃p ys,xs=[.ref p]/\(SqL X.K H p ys\/SqT X.K H p ys)/\∀l,H l=none->Q (.ref l) (upd H l (.lst ys))):=by
 intro pins s Z H xs us Q I r h;obtain⟨p,ys,rfl,hq,q⟩:=h;obtain⟨u,rfl,rx⟩:=vals1 r;cases rx
 have fin:∀(its:List aG),Vals ys its->ys.length<=aZ->∀(h':dR) (c':Nat),(∀b o',s.heap.get? b=some o'->h'.get? b=some o') ->
   h'.get? s.heap.objs.size=some { cls:=.type "list",dict:=none,data:=.seq its.toArray c',slots:=#[] }->EP X pins Z Q (.ref s.heap.objs.size) { s with heap:=h' }:=λits r' hz h' c' kp e=>
  ⟨.ref s.heap.objs.size,_,I.laid (t':=s.toks) kp (au _) (show ObjOk X.prog X.w _ h' _ (.lst ys) from ⟨hz,its,c',r',e⟩),rfl,q _ (I.hok.fresh (au _))⟩
 rcases hq with hq | hq
 ·obtain⟨its,r',pl,hz⟩:=I.list hq;have hlen:=r'.length;obtain⟨o,ho,hc,n,hd⟩:=pl.isList;exact En p (.inl rfl) ho hc hd (λh' c' kp e=>fin its r' hz h' c' kp e) (by simp only[aK]<;>omega)
 ·obtain⟨its,r',pl,hz⟩:=I.tuple hq;have hlen:=r'.length;obtain⟨o,ho,hc,n,hd⟩:=pl;exact En p (.inr rfl) ho hc hd (λh' c' kp e=>fin its r' hz h' c' kp e) (by simp only[aK]<;>omega)
def tyV(K:aN)(T:String)(x:V)(H:Hp):Prop:=match x with
 |.str _=>T ="str"
 |.int _=>T ="int"
 |.ref p=>(T ="list"/\∃xs,SqL K H p xs)\/(T ="tuple"/\∃o,K.lookup p=some o/\o.cls=.type "tuple"/\o.dict=none) \/
   (T ="dict"/\((∃kvs,H p=some (.dK kvs))\/∃kvs,H p=some (.dT kvs)))\/(T ="set"/\∃S n,H p=some (.set S n))
 |_=>False
theorem zlm{Z:St}(I:Inv X pins Z H s)(r:RelV x v)(ty:tyV X.K T x H):
  s.TypeIs v T/\∀a,v=.ref a->∃ob,s.heap.get? a=some ob/\ob.dict=none:=by
 cases x with
 |str z=>
  obtain⟨t,rfl⟩:=r;cases (show T ="str" from ty)
  exact⟨typeIs_str s z t,λ_ e=>nomatch e⟩
 |int i=>
  obtain⟨t,rfl⟩:=r;cases (show T ="int" from ty)
  exact⟨DW s i t,λ_ e=>nomatch e⟩
 |ref p=>
  cases r;rcases ty with ⟨rfl,xs,hq⟩ | ⟨rfl,o,hk,hc,hd⟩ | ⟨rfl,hk⟩ | ⟨rfl,S,n,hk⟩
  ·obtain⟨its,_,pl,_⟩:=I.list hq;refine⟨pl.isList.typeIs,λa e=>?_⟩;cases e
   obtain⟨o,n,e,c,hd,_⟩:=pl;exact⟨o,e,hd⟩
  ·refine⟨⟨o,I.kIn p o hk,hc⟩,λa e=>?_⟩;cases e
   exact⟨o,I.kIn _ o hk,hd⟩
  ·have z:∃o,s.heap.get? p=some o/\o.ExactDict:=by
    rcases hk with ⟨kvs,hk⟩ | ⟨kvs,hk⟩
    ·obtain⟨_,_,_,_,o,_,_,e,ex,_⟩:=I.hok p _ hk;exact⟨o,e,ex⟩
    ·obtain⟨_,_,_,_,o,_,_,e,ex,_⟩:=I.hok p _ hk;exact⟨o,e,ex⟩
   obtain⟨o,e,ex⟩:=z;refine⟨⟨o,e,ex.1⟩,λa e2=>?_⟩;cases e2
   exact⟨o,e,ex.2.1⟩
  ·obtain⟨o,_,_,_,e,ex,_⟩:=I.hok p _ hk;refine⟨⟨o,e,ex.1⟩,λa e2=>?_⟩;cases e2
   exact⟨o,e,ex.2.1⟩
 |_=>exact cV ty
def tBM(K:aN)(T:String)(r:V->List V->Hp->VK->Prop)(to:TE)(t:TA):TE:=λZ H Q=>to Z H λx H1=>tyV K T x H1/\t Z H1 λxs H2=>r x xs H2 Q
variable {o e:eV} {es:List eV} {to:TE} {t:TA} {name:cG} {apos cpos:mV} {T id:String} {r:V->List V->Hp->VK->Prop}
theorem Vx(pa:PlainAttrs T)(slot:Slot T name id)(hty:HF (.builtin id)=pure (.type "method_descriptor"))(hm:MtR X id r)(ho:PE X o to)(ha:PA X (e::es) t)(hbase:mq o name X.env (dI o X.env)=dI o X.env:=by rfl)(hfew:((gh cpos (bF (e::es) X.env)).all (λx=>!x.1) && (p7 cpos (mF [] X.env)).all (λx=>x.1.isSome)
   && decide ((e::es).length+([]:List Du).length+(if ([]:List Du).isEmpty then 0 else 1)<30))=true:=by rfl)(hline:(apos.endLine == cpos.line)=true:=by rfl)(hs:bF (e::es) X.env=(false,dI e X.env)::bF es X.env:=by rfl)(hplain:(gh cpos (bF es X.env)).any (·.1)=false:=by rfl):
  PE X (.Call (.Attribute o name apos) (e::es) [] cpos) (tBM X.K T r to t):=by
 intro pins s Z H Q I h;refine wpAny_Call_method_late hbase hfew hline rfl (thn (ho pins s Z H _ I h) λv s1 ⟨x,H1,I1,r1,ty,q1⟩=>?_);obtain⟨h1,h2⟩:=zlm I1 r1 ty;refine⟨T,id,pa,slot,hty,h1,h2,?_⟩;have hA:=ha cpos pins s1 Z H1 _ I1 q1;rw[hs]at hA ⊢;refine Calls.callWith_builtin (by show (false || (gh cpos (bF es X.env)).any (·.1))=false;rw[hplain]<;>rfl) (p8 ?_);exact thn hA λus s2 ⟨vs,H2,I2,r2,q2⟩=>hm pins s2 Z H2 x vs v us Q I2 r1 r2 q2
end
def MtM(X:Cx)(id:String)(r:V->List V->Hp->VK->Prop):Prop :=
 ∀(pins:List (aq×kj)) (s:aR) (Z:St) (H:Hp) (x:V) (xs:List V) (v:aG) (us:List aG) (Q:VK),Inv X pins Z H s->RelV x v->Vals xs us->r x xs H Q ->
  bJ (bR X.prog X.w) X.A (call (.builtin id) (v::us)) (EP X pins Z Q) X.xe s
theorem Vals.one:∀{x:V} {us:List aG},Vals [x] us->∃u,us=[u]/\RelV x u
 |_,_,.cons r .nil=>⟨_,rfl,r⟩
theorem Vals.zero:∀{us:List aG},Vals [] us->us=[]
 |_,.nil=>rfl
theorem Vals.dropLast(h:Vals xs us):Vals xs.dropLast us.dropLast:=by
 induction h with
 |nil=>exact .nil
 |cons r t ih=>
  cases t with
  |nil=>exact .nil
  |cons q t'=>exact .cons r ih
theorem Vals.reverse(h:Vals xs us):Vals xs.reverse us.reverse:=by
 induction h with
 |nil=>exact .nil
 |cons r t ih=>rw[By,By];exact Vals.append ih (.cons r .nil)
theorem Vals.rep{xs:List V}{us:List aG}(h:Vals xs us):∀k:Nat,Vals (bc k xs).flatten (bc k us).flatten
 |0=>.nil
 |k+1=>by
  rw[fB,fB,gF,gF];exact Vals.append h (Vals.rep h k)
theorem foldl_rep(its:List aG):∀(k:Nat) (acc:List aG),
  DX (λx1 x2=>x1++x2) acc.toArray (bc k its.toArray)=(acc++(bc k its).flatten).toArray
 |0,acc=>by simp
 |k+1,acc=>by
  have e:acc.toArray++its.toArray=(acc++its).toArray:=by simp
  have e2:(acc++its)++(bc k its).flatten=acc++(bc (k+1) its).flatten:=by
   rw[fB,gF,cQ]
  rw[<-e2,<-foldl_rep its k (acc++its),<-e,fB,pI]
section
variable {X:Cx} {pins:List (aq×kj)} {Z:St} {H:Hp} {s:aR} {l b:aq} {xs ys zs:List V}
theorem Inv.lset{its its':List aG}(I:Inv X pins Z H s)(hH:H l=some (.lst xs))(e:s.heap.get? l=some { cls:=.type "list",data:=.seq its.toArray n })(hf:f its.toArray=its'.toArray)(hv:Vals ys its')(hz:ys.length<=aZ):
  Inv X pins Z (upd H l (.lst ys)) { s with heap:=s.heap.update l (dC f),toks:=t' }:=by
 have q:=PySem.IsL.update e f;rw[hf]at q;refine I.write (x:=l) (e:=l) (by rw[hH];exact trivial) (.inl rfl) (λb' u hb hu=>(dW s.heap (dC f) (cP hb)).trans hu) ⟨_,q⟩ ?_;exact⟨hz,its',_,hv,q⟩
theorem Inv.lnew(I:Inv X pins Z H s)(hv:Vals ys its)(hz:ys.length<=aZ):
  Inv X pins Z (upd H s.heap.objs.size (.lst ys)) { s with heap:=s.heap.push { cls:=.type "list",data:=.seq its.toArray },toks:=t' } :=
 I.laid (λ_ _ q=>az _ q) (au _) ⟨hz,its,0,hv,bC _ rfl⟩
theorem Inv.fresh(I:Inv X pins Z H s):H s.heap.objs.size=none:=I.hok.fresh (au _)
theorem Inv.lstM(I:Inv X pins Z H s)(hH:H l=some (.lst xs)):xs.length<=aZ/\∃its n,Vals xs its/\xs.length=its.length/\s.heap.get? l=some { cls:=.type "list",data:=.seq its.toArray n }:=by
 obtain⟨z,its,n,r,e⟩:=I.hok l _ hH;exact⟨z,its,n,r,r.length,e⟩
theorem zfF(h:n<=aZ):gO n=false:=by
 unfold gO;exact decide_eq_false (by omega)
end
section
variable {X:Cx}
inductive ApI (x:V) (vs:List V) (H:Hp) (Q:VK):Prop
 |mk (l:aq) (xs:List V) (y:V) (h1:x=.ref l) (h2:vs=[y]) (h3:H l=some (.lst xs)) (h4:xs.length<aZ) (q:Q .non (upd H l (.lst (xs++[y])))):ApI x vs H Q
def zdW:V->List V->Hp->VK->Prop:=λx vs H Q=>ApI x vs H Q
theorem qU:MtM X "list.append" zdW:=by
 intro pins s Z H x vs v us Q I rx rv h;obtain⟨l,xs,y,rfl,rfl,hH,hz,q⟩:=h;cases rx
 obtain⟨u,rfl,ru⟩:=rv.one;obtain⟨z,its,n,r,hl,e⟩:=I.lstM hH;refine lZ sO ⟨_,e,rfl⟩ rR (rm _ _) (PySem.list_append l its.toArray n u (by rw[aK];omega)) ⟨e,?_⟩;refine⟨.non,_,I.lset (its':=its++[u]) hH e (by simp) (r.append (.cons ru .nil)) ?_,rfl,q⟩;rw[aB,aU];omega
def zhm:V->List V->Hp->VK->Prop:=λx vs H Q=>Ex4 λl b xs zs=>x=.ref l/\vs=[.ref b]/\H l=some (.lst xs)/\H b=some (.lst zs)/\xs.length+zs.length<=aZ/\Q .non (upd H l (.lst (xs++zs)))
theorem ziq:MtM X "list.extend" zhm:=by
 intro pins s Z H x vs v us Q I rx rv h;obtain⟨l,b,xs,zs,rfl,rfl,hH,hB,hz,q⟩:=h;cases rx
 obtain⟨u,rfl,ru⟩:=rv.one;cases ru
 obtain⟨z,its,n,r,hl,e⟩:=I.lstM hH;obtain⟨z2,its2,n2,r2,hl2,e2⟩:=I.lstM hB;have hsz:its.toArray.size+its2.toArray.size<=aZ:=by rw[aK,aK];omega
 have hlong:¬ (!its.toArray.isEmpty && gO (its.toArray.size+its2.toArray.size))=true:=by
  rw[zfF hsz,rn];exact bu
 refine lZ F.slot_list_extend ⟨_,e,rfl⟩ F.entry_list_extend (F.args_list_extend_2 _ _)
  (BJ l its.toArray n b its2.toArray n2 hlong (by rw[aK];omega) (by omega)) ⟨e,e2,?_⟩
 refine⟨.non,_,I.lset (its':=its++its2) hH e (by simp) (r.append r2) ?_,rfl,q⟩;rw[aB];omega
inductive CaI (x y:V) (H:Hp) (Q:VK):Prop
 |mk (l b:aq) (xs zs:List V) (h1:x=.ref l) (h2:y=.ref b) (h3:H l=some (.lst xs)) (h4:H b=some (.lst zs)) (h5:xs.length+zs.length<=aZ) (q:∀p,H p=none->Q (.ref p) (upd H p (.lst (xs++zs)))):CaI x y H Q
def zl1:R2:=λx y H Q=>CaI x y H Q
theorem ZZ:OpR X (mD .Add) zl1:=by
 intro pins s Z H x y v u Q I rx ry h;obtain⟨l,b,xs,zs,rfl,rfl,hH,hB,hz,q⟩:=h;cases rx
 cases ry;obtain⟨z,its,n,r,hl,e⟩:=I.lstM hH
 obtain⟨z2,its2,n2,r2,hl2,e2⟩:=I.lstM hB;refine PySem.P.add_list e e2 ?_ (by rw[aK,aK];omega);have ea:its.toArray++its2.toArray=(its++its2).toArray:=by simp
 rw[ea];exact⟨.ref _,_,I.lnew (t':=s.toks) (r.append r2) (by rw[aB];omega),rfl,q _ I.fresh⟩
def zmv:R2:=λx y H Q=>Ex3 λl k xs=>x=.ref l/\y=.int k/\H l=some (.lst xs)/\-(2^63)<=k/\k<2^63/\xs.length*k.toNat<=aZ /\
 ∀p,H p=none->Q (.ref p) (upd H p (.lst (bc k.toNat xs).flatten))
theorem len_rep{α:Type}(xs:List α)(k:Nat):(bc k xs).flatten.length=k*xs.length:=by
 induction k with
 |zero=>simp
 |succ k ih=>rw[fB,gF,aB,ih,fM,mZ]
theorem ziP:OpR X (mD .Mult) zmv:=by
 intro pins s Z H x y v u Q I rx ry h;obtain⟨l,k,xs,rfl,rfl,hH,h1,h2,hz,q⟩:=h;cases rx
 obtain⟨t,rfl⟩:=ry;obtain⟨z,its,n,r,hl,e⟩:=I.lstM hH;have hlen:its.toArray.size*k.toNat<=aZ:=by rw[aK,<-hl];exact hz
 have hcap:¬ its.toArray.size*k.toNat>(2^63-1) / 8:=by
  have:(aZ:Nat)<=(2^63-1) / 8:=by decide
  omega
 have hfit:¬ (!Builtin.List.listFitsIndex k)=true:=by
  rw[fitsIndex_both h1 h2];exact bu
 have hlong:¬ gO (its.toArray.size*k.toNat)=true:=by
  rw[zfF hlen];exact bu
 have hnew:DX (λx1 x2=>x1++x2) #[] (bc (if its.toArray.isEmpty=true then 0 else k.toNat) its.toArray)=(bc k.toNat its).flatten.toArray:=by
  have f0:∀m:Nat,DX (λx1 x2=>x1++x2) #[] (bc m its.toArray)=(bc m its).flatten.toArray:=λm=>by
   have:=foldl_rep its m [];rw[fC]at this;exact this
  rw[f0];cases its with
  |nil=>simp
  |cons a r'=>rw[if_neg (by simp)]
 refine wpAny_binaryOp_repeat_ref (T:="list") (U:="int") (by decide) ⟨_,e,rfl⟩ (λs'=>DW s' k t) noFill_list_mul F.fills_int_mul Dh repeat_list F.slot_int_index.lookup
  (lZ Dh (DW s k t) F.entry_int_rmul (F.args_int_rmul_2 _ _) (int___rmul___int_list k t l its.toArray n)
   ⟨e,rfl,⟨_,e,rfl⟩,lZ F.slot_list_mul ⟨_,e,rfl⟩ F.entry_list_mul (F.args_list_mul_2 _ _) (Bq l its.toArray n k t hfit hcap hlong) ⟨e,?_⟩⟩)
 rw[hnew];exact⟨.ref _,_,I.lnew (t':=s.toks) (r.rep k.toNat) (by rw[len_rep,dN];exact hz),rfl,q _ I.fresh⟩
end
section
variable {prog:cg} {w:cT} {A:eH} {E:aG->aR->Prop} {s:aR}
end
section
variable {X:Cx}
end
end L2
namespace Att
open PySem PySem.W PySem.Calls PyProof.Rows
theorem zbl:∀ns vs,WellAll P h vs (ns.map Hu)->iu vs ns:=by
 intro ns
 induction ns with
 |nil=>
  intro vs w;rw[dh]at w;cases w
  exact .nil
 |cons n ns ih=>
  intro vs w;rw[bz]at w;cases w with
  |cons a b=>
   cases a;exact .cons _ _ (ih _ b)
theorem zie{l:Hq}(hn:l.most=some n)(hpre:l.row.toRowW.claim.pre args=true)(hwl:WellAll P h vals args):
  ∃a vs ns,vals=[aY a]/\args=[WData.list (ns.map Hu)]/\h.get? a=some { cls:=.type "list",data:=.seq vs.toArray }/\iu vs ns/\ns.length<=n:=by
 have hsh:WShape.hasAll [] args [.list .int]=true:=(G7 hpre).1;have hc:l.pre.holds [] { args:=args }=true:=(G7 hpre).2;obtain⟨d,r,rfl,h1,h2⟩:=hasAllW_cons hsh;obtain rfl:=hasAllW_nil h2;obtain⟨xs,rfl,h3⟩:=hasW_list h1;obtain⟨ns,rfl⟩:=items_int h3;have hlen:ns.length<=n:=by
  unfold Ih at hc;have h4:(WTm.not (.lt (.lit (.int (n:Int))) (.len (.arg 0)))).holds [] { args:=[.list (ns.map .int)] }=true:=by
   have h4:=(holds_andW hc).1;rw[hn]at h4;exact h4
  have h5:=condW_of h4 (w_not (w_lt w_lit (w_len_list (w_arg rfl))));rw[aa]at h5;refine Nat.le_of_not_lt λq=>?_;have q':(n:Int)<((ns.length:Nat):Int):=by omega
  first
   | (rw[decide_eq_true q']at h5;exact absurd h5 (by decide))
   | (simp at h5;omega)
 cases hwl with
 |cons w1 w2=>
  cases w2;cases w1 with
  |list ho hall=>exact⟨_,_,ns,rfl,rfl,ho,zbl ns _ hall,hlen⟩
theorem zhP(l:Hq)(args:List WData):l.row.toRowW.claim.post args (.bool true) args=true :=
 postW_of (r:=l.row.toRowW) (X:=(true == true))
  (show G8 [] (.bool true) .bool=true by first | rfl | decide | simp[G8,WShape.arms,WShape.armsAll])
  (show (WTm.eq .res (.lit (.bool true))).value [] { args:=args,res:=some (.bool true),after:=args }=some (.bool (true == true)) from w_eq_bool (w_res rfl) w_lit) rfl
theorem zfl{l:Hq}(hn:l.most=some n)(hdf:d.params.defaults=[])(call:∀w s₀ s₁ mg mb fa o pm cd doc a vs ns,
   Ground q loose [] XP w s₀ mg mb s₁.heap->YP w s₁.heap ->
   s₁.heap.get? fa=some o->o.data=.func (docDef d.name d.params d.body d.scope pm cd doc)->s₁.heap.CodeRec cd d.name->mg d.name=some (.ref fa) ->
   s₁.heap.get? a=some { cls:=.type "list",data:=.seq vs.toArray }->iu vs ns->ns.length<=n->s₁.gens=#[] ->
   lN (bR l.prog w) rO (.call (.ref fa) ⟨[.ref a],[]⟩) (λr s'=>r=.ok (.ret (.bool true))/\OldK s₁.heap s'.heap/\s'.os=s₁.os/\lw s'.gens) s₁):
  WalkO q loose XP YP l.row.toRowW d [] (λf vs=>PySem.call f vs):=by
 intro w s₀ s₁ mg mb G Y fa o pm cd doc dV kV ho hd hcd hD hmg hg args vals as hpre hlay hrd hwl hlo;obtain rfl:dV=.none:=Dflts.none hD hdf;obtain rfl:kV=.none:=Dflts.noKw hD;obtain⟨a,vs,ns,rfl,rfl,hobj,hints,hlen⟩:=zie hn hpre hwl;refine enter_call (ir (call w s₀ s₁ mg mb fa o pm cd doc a vs ns G Y ho (fd_plain hd) hcd hmg hobj hints hlen hg) λr s' hq=>?_);obtain⟨rfl,h2,h3,h4⟩:=hq;exact⟨.inl ⟨.bool true,.bool true,[],rfl,λ_=>rfl,.bool true,zhP l _,λ_=>⟨Hr,λ_ hm=>(nomatch hm)⟩⟩,h2,h3,h4⟩
section
variable {prog:cg} {w:cT} {A:eH} {E:aG->aR->Prop} {s:aR} {K:Frag}
end
end Att
namespace L2
open PySem PySem.Spec PyProof.Rows
theorem zdM:∀{vs:List aG} {ns:List Int},iu vs ns->Vals (ns.map V.int) vs
 |_,_,.nil=>.nil
 |_,_,.cons n t h=>.cons ⟨t,rfl⟩ (zdM h)
def inClass(s:cz)(j:Nat):cz:=match s with
 |.ClassDef _ _ _ body _ _ _ _ _ _ _=>body.getD j (.Pass ⟨0,0,0,0⟩)
 |_=>.Pass ⟨0,0,0,0⟩
def X6(s:cz):Cv:=match s with
 |.FunctionDef _ a _ _ _ _ _ _ _ _=>a
 |_=>{ posonlyargs:=[],args:=[],vararg:=none,kwonlyargs:=[],kw_defaults:=[],kwarg:=none,defaults:=[] }
def zj(s:cz):List cz:=match s with
 |.FunctionDef _ _ b _ _ _ _ _ _ _=>b
 |_=>[]
def zp(s:cz):lM:=match s with
 |.FunctionDef _ _ _ _ _ _ sc _ _ _=>sc
 |_=>{ kind:=.function,names:=[],isGenerator:=false,isCoroutine:=false }
abbrev CX0:CXT:=λ_ _ _ _ _ _=>False
abbrev E0:XK:=λ_ _ _=>False
theorem Xf:JL CX0 X E0:=λ_ _ _ _ _ _ _ h=>h.elim
structure Fun (K:aN) (x qual:cG) (st:cz) (f:aq) (fd:iY):Prop where
 ex:∃(oc:aG) (od:Option aq) (kV doc pm:aG) (an:Option aq) (cdv ct:aG) (osl:Array (Option aG)),
  fd=oE x qual (X6 st) (zj st) (zp st) .none kV doc pm an cdv ct/\K.lookup f=some ⟨oc,od,.func fd,osl⟩/\Bw K cdv qual=true
 kp:nH K (.ref f)=true
section
variable {P:cg} {w:cT} {K:aN} {mg:cG->Option aG} {base:dR}
theorem Fun.ok{st:cz}(F:Fun K x qual st f fd)(S:zG N ps (zp st))(len:∀vs H Q E,sp vs H Q E->vs.length=ps.length)(hbody:∀cdv A outer s H vs Q E,Room k (A.deeper (lY qual (zp st) s.heap.objs.size f cdv))->sp vs H Q E ->
   ∃t,PSs (Q8 CX0 P w K mg base N qual (zp st) f cdv A outer s H E).nox (zj st) t/\t { nx:=λ_ H'=>Q .non H',rt:=Q } (start N vs) H):FnOk P w K mg base CX0 (k+1) f fd ps sp:=by
 obtain⟨oc,od,kV,doc,pm,an,cdv,ct,osl,rfl,lk,hcd⟩:=F.ex;refine zix lk hcd S len λA outer s H vs Q E hr hsp=>?_;obtain⟨t,h,q⟩:=hbody cdv A outer s H vs Q E hr hsp;exact⟨t,h.nox,q⟩
theorem Fun.binds{st:cz}(F:Fun K x qual st f fd)(h:∀kV doc pm an cdv ct us,us.length=ps.length->p6 (oE x qual (X6 st) (zj st) (zp st) .none kV doc pm an cdv ct) ⟨us,[]⟩=pure (ps.zip us)):Binds K fd ps []:=by
 obtain⟨oc,od,kV,doc,pm,an,cdv,ct,osl,rfl,lk,hcd⟩:=F.ex;exact .all (h kV doc pm an cdv ct)
theorem zel{st:cz}{kV doc pm cdv ct:aG}(l:K.lookup f=some ⟨oc,od,.func (oE x qual (X6 st) (zj st) (zp st) .none kV doc pm an cdv ct),osl⟩)(c:Bw K cdv qual=true)(k:nH K (.ref f)=true):Fun K x qual st f (oE x qual (X6 st) (zj st) (zp st) .none kV doc pm an cdv ct):=⟨⟨oc,od,kV,doc,pm,an,cdv,ct,osl,rfl,l,c⟩,k⟩
end
section
variable {X:Cx}
theorem pv(i:Nat){pos:mV}(hN:X.N[i]?=some x:=by rfl)(hv:Vis X.env.scope x:=by first | exact aW rfl | exact lE (aW rfl) | exact lE (lE rfl))(hd:(x == ("__debug__" : cG))=false:=by decide)(hcd:(x == ("__classdict__" : cG))=false:=by decide):PE X (.Name x pos) (zby i):=zle hN hv hd hcd
end
theorem wN{A B:Prop}(h:B):if false=true then A else B:=by
 rw[if_neg bu];exact h
theorem qd{A B:Prop}(h:A):if true=true then A else B:=by
 rw[if_pos rfl];exact h
theorem JC{c A B:Prop}[Decidable c](h1:c->A)(h2:¬ c->B):if c then A else B:=by
 by_cases h:c
 ·rw[if_pos h];exact h1 h
 ·rw[if_neg h];exact h2 h
def Same(H H':Hp):Prop:=∀b o,H b=some o->H' b=some o
theorem Same.refl(H:Hp):Same H H:=λ_ _ h=>h
theorem Same.trans(a:Same H H1)(b:Same H1 H2):Same H H2:=λc o h=>b c o (a c o h)
theorem Same.free(e:Same H H')(h:H' l=Gh):H l=Gh:=by
 cases q:H l with
 |none=>rfl
 |some o=>
  rw[e l o q]at h;cases h
def Xp(cells:List (cG×aq)):List (cG×iZ)->List (cG×aq)->List (cG×aq)
 |[],cs=>cs
 | (n,k)::r,cs=>Xp cells r (if k=.free then (match cells.lookup n with | some c=>(n,c)::cs | none=>cs) else cs)
theorem U9{env:GD}:∀(names:List (cG×iZ)) (cs:List (cG×aq)),(∀x∈names,x.2=.free->∃c,env.cells.lookup x.1=some c) ->
  (forIn names cs λ(x:cG×iZ) (r:List (cG×aq))=>if (x.2 == .free)=true then (do let c <-HH env x.1;pure (iI ((x.1,c)::r)):Ig _) else pure (iI r))=pure (Xp env.cells names cs)
 |[],cs,_=>rfl
 | (n,k)::r,cs,h=>by
  have ih:=λcs'=>U9 (env:=env) r cs' λx hx=>h x (bx _ hx);rw[List.forIn_cons];by_cases hk:k=.free
  ·subst hk;obtain⟨c,hc⟩:=h (n,.free) bI rfl;have e:HH env n=pure c:=by unfold HH;rw[hc]
   simp only[beq_self_eq_true,if_true,e,pure_bind,Xp,hc];exact ih _
  ·have hb:(k == kY)=false:=by simpa using hk
   simp only[hb,eQ,if_false,pure_bind,Xp,hk];exact ih _
theorem Ja(h:∀x∈scope.names,x.2=.free->∃c,env.cells.lookup x.1=some c):sS scope env=pure (Xp env.cells scope.names []):=by
  have e:=U9 scope.names [] h;unfold sS
  first
    | (simp only[bind_pure];exact e)
    | (show (forIn scope.names [] _ >>= λr=>pure r)=_
       rw[show (forIn scope.names ([]:List (cG×aq)) _:Ig _)=_ from e];rfl)
theorem JK{cells:List (cG×aq)}{y:cG}{c:aq}:∀{names:List (cG×iZ)} {cs:List (cG×aq)},(∀y c,cs.lookup y=some c->cells.lookup y=some c)->(Xp cells names cs).lookup y=some c->cells.lookup y=some c
 |[],cs,h,e=>h y c e
 | (n,k)::r,cs,h,e=>by
  refine JK (names:=r) ?_ e;intro y' c' e';by_cases hk:k=.free
  ·rw[if_pos hk]at e';cases q:cells.lookup n with
   |none=>rw[q]at e';exact h _ _ e'
   |some d=>
    rw[q]at e';simp only[eZ]at e';cases hb:y' == n with
    |true=>
     rw[hb]at e';cases e'
     have:y'=n:=by simpa using hb
     rw[this];exact q
    |false=>rw[hb]at e';exact h _ _ e'
  ·rw[if_neg hk]at e';exact h _ _ e'
theorem zch{cells:List (cG×aq)}{y:cG}:∀{names:List (cG×iZ)} {cs:List (cG×aq)},((∃c,cs.lookup y=some c)\/((y,kY)∈names/\∃c,cells.lookup y=some c))->∃c,(Xp cells names cs).lookup y=some c
 |[],cs,h=>by
  rcases h with h | ⟨h,_⟩
  ·exact h
  ·cases h
 | (n,k)::r,cs,h=>by
  refine zch (names:=r) ?_;rcases h with ⟨c,h⟩ | ⟨h,c,hc⟩
  ·left;by_cases hk:k=.free
   ·rw[if_pos hk];cases q:cells.lookup n with
    |none=>exact⟨c,h⟩
    |some d=>
     simp only[eZ];cases hb:y == n with
     |true=>exact⟨d,rfl⟩
     |false=>exact⟨c,h⟩
   ·rw[if_neg hk];exact⟨c,h⟩
  ·rcases aP.mp h with e | h
   ·cases e;left
    rw[if_pos rfl,hc];exact⟨c,by simp⟩
   ·exact .inr ⟨h,c,hc⟩
theorem Z5{env:GD}:∀{names:List (cG×iZ)} {x:cG} {k:iZ},
  (names.map λ(n,k)=>if (k == kY && env.scope.kind == .function && env.kindOf n == some .cell) then (n,Eo) else (n,k)).lookup x=some k->names.lookup x=some k\/(k=.cell/\names.lookup x=some .free)
 |[],_,_,h=>by simp at h
 | (n,k0)::r,x,k,h=>by
  have ih:=@Z5 env r x k;rw[bz]at h;by_cases hc:(k0 == kY && env.scope.kind == .function && env.kindOf n == some .cell)=true
  ·simp only[hc,if_true,eZ]at h;have hk0:k0=.free:=by
    simp only[dJ]at hc;simpa using hc.1.1
   cases hx:x == n with
   |true=>rw[hx]at h;cases h;right;simp[eZ,hx,hk0]
   |false=>rw[hx]at h;simp only[eZ,hx];exact ih h
  ·have hc':(k0 == kY && env.scope.kind == .function && env.kindOf n == some .cell)=false:=by simpa using hc
   simp only[hc',eQ,if_false,eZ]at h;cases hx:x == n with
   |true=>rw[hx]at h;cases h;left;simp[eZ,hx]
   |false=>rw[hx]at h;simp only[eZ,hx];exact ih h
def cxG(X:Cx)(ow N:List cG)(scope:lM)(C:aq)(s₀:aR)(H₀:Hp)(ex:List aq):Cx:={ X with N:=N,s₀:=s₀,H₀:=H₀,env:=Gi scope (ow.map (·,C+1)++Xp X.env.cells scope.names []) C X.env,outer:=X.stack,ex:=ex,fn:=λy=>ow.elem y,pn:=[],xe:=λ_ _=>False }
def cxC(X:Cx)(N:List cG)(scope:lM)(C:aq)(s₀:aR)(H₀:Hp)(ex:List aq):Cx:=cxG X [] N scope C s₀ H₀ ex
def XN(js:List Nat)(Z:St):St:=js.map λj=>(Z[j]?).join
theorem ziX{i:Nat}(h:(XN js Z)[i]?=some (some v)):∃j,js[i]?=some j/\Z[j]?=some (some v):=by
 unfold XN at h;rw[ak]at h;cases e:js[i]? with
 |none=>rw[e]at h;cases h
 |some j=>
  rw[e]at h;have h':(Z[j]?).join=some v:=bY h;refine⟨j,rfl,?_⟩;cases q:Z[j]? with
  |none=>rw[q]at h';cases h'
  |some z=>rw[q]at h';exact congrArg some h'
structure CScope (sc:lM) (scope:lM) (x:cG) (M:List cG) (ys:List cG) (js:List Nat):Prop where
 kind:scope.kind=.function:=by rfl
 cell:∀y∈scope.names,y.2≠.cell:=by decide +kernel
 loc:∀y∈scope.names,y.2=.local->scope.names.lookup y.1=some .local:=by decide +kernel
 var:scope.names.lookup x=some .local:=by rfl
 free:∀y∈scope.names,y.2=.free->sc.names.lookup y.1=some .cell\/sc.names.lookup y.1=some .free:=by decide +kernel
 caps:js.map (M[·]?)=ys.map some:=by rfl
 fr:∀y∈ys,scope.names.lookup y=some .free:=by decide +kernel
 nd:(x::ys).Nodup:=by decide +kernel
structure zih (sc:lM) (scope:lM) (xs ow:List cG) (M:List cG) (ys:List cG) (js:List Nat):Prop where
 kind:scope.kind=.function
 cell:∀y∈scope.names,y.2=.cell->y.1∈ow
 loc:∀y∈scope.names,y.2=.local->scope.names.lookup y.1=some .local
 free:∀y∈scope.names,y.2=.free->sc.names.lookup y.1=some .cell\/sc.names.lookup y.1=some .free
 caps:js.map (M[·]?)=ys.map some
 fr:∀y∈ys,scope.names.lookup y=some .free
 nd:(xs++ys).Nodup
 one:∀y∈ow,∀z∈ow,y=z
 sub:∀y∈ow,y∈xs
 own:∀n acc,nu n scope.names acc=ow.map (·,n)++acc
 psh:∀h:dR,∀y∈ow,(pushCells h scope.names).get? h.objs.size=some { cls:=.type "cell",data:=.cell none }
theorem zfB:∀{names:List (cG×iZ)} {n:Nat} {acc:List (cG×aq)},(∀y∈names,y.2≠.cell)->nu n names acc=acc
 |[],_,_,_=>rfl
 | (_,k)::r,_,_,h=>by
  unfold nu;rw[if_neg (λe=>h _ bI (eq_of_beq e))];exact zfB λy hy=>h y (bx _ hy)
theorem Qx{C:aq}{cl:List (cG×aq)}{y:cG}:∀ow:List cG,(ow.map (·,C)++cl).lookup y=if y∈ow then some C else cl.lookup y
 |[]=>rfl
 |x::r=>by
  rw[bz,gR,eZ,Qx r];by_cases h:y=x
  ·subst h;simp
  ·rw[beq_eq_false_iff_ne.mpr h];simp[h]
def nones(xs:List cG):St:=xs.map λ_=>none
theorem QV:(nones xs).length=xs.length:=aa ..
theorem zdU(h:(nones xs++c)[i]?=some (some v)):∃k,i=xs.length+k/\c[k]?=some (some v):=by
 by_cases hix:i<xs.length
 ·rw[cB (by rw[QV];exact hix)]at h;unfold nones at h;rw[ak,aj hix]at h;cases h
 ·rw[bG (by rw[QV];omega),QV]at h;exact⟨i-xs.length,by omega,h⟩
theorem ziZ(S:zih sc scope xs ow N ys js)(hQ:∀h',h'.Ns s.heap.objs.size (λ_=>none)->(∀y∈ow,h'.get? (s.heap.objs.size+1)=some { cls:=.type "cell",data:=.cell none })->(∀b o,s.heap.get? b=some o->h'.get? b=some o) ->
   Q { scope,locals:=s.heap.objs.size,globals,cells:=ow.map (·,s.heap.objs.size+1)++cl,qual,func:=none,code:=outer.code,frame:=outer.frame,builtins:=outer.builtins } { s with heap:=h' }):
  bJ M A (rA scope globals cl [] qual none .none (some outer)) Q E s:=by
 simp only[rA,sU,if_true];refine aH (wpAny_alloc (aH (wpAny_layCells _ (λname kind cells=>by cases hkc:kind == Eo<;>simp[hkc]) _ _ _ _ ?_)));rw[S.own];simp only[List.forIn_nil];refine aH (bW (bW ?_));have hsz:(s.heap.push { cls:=.type "dict",data:=.dict #[] }).objs.size=s.heap.objs.size+1:=iW ..;have q:=hQ _ ((Ii s.heap (.type "dict")).keeps λb o e=>Di scope.names _ b o e) (λy hy=>by rw[<-hsz];exact S.psh _ y hy) λb o e=>Di _ _ _ _ (az _ e);rw[<-hsz]at q;exact q
section
variable {X:Cx} {pins:List (aq×kj)} {Z:St} {H:Hp} {s:aR} {scope:lM} {x:cG} {xs ow ys:List cG} {js:List Nat} {fp:List aq} {h₁:dR} {tk:Nat} {C:aq}
theorem zhZ(I:Inv X pins Z H s)(S:zih X.env.scope scope xs ow X.N ys js)(hf:∀b∈fp,zbu X pins H b)(ho:∀b∈fp,∃o,s.heap.get? b=some o)(hC:s.heap.objs.size<=C)(hk:∀b o,s.heap.get? b=some o->h₁.get? b=some o)(hn:h₁.Ns C λ_=>none)(hcell:∀y∈ow,h₁.get? (C+1)=some { cls:=.type "cell",data:=.cell none }):
  Inv (cxG X ow (xs++ys) scope C s H fp) [] (nones xs++XN js Z) H { s with heap:=h₁,toks:=tk }:=by
 generalize hcl:Xp X.env.cells scope.names []=cl;have sub:∀y c,cl.lookup y=some c->X.env.cells.lookup y=some c:=λy c e=>JK (λ_ _ z=>by simp at z) (hcl▸e);have eE:(cxG X ow (xs++ys) scope C s H fp).env=Gi scope (ow.map (·,C+1)++cl) C X.env:=by rw[<-hcl];rfl
 have has:∀y,y∉ow->scope.names.lookup y=some .free->∃c,(ow.map (·,C+1)++cl).lookup y=some c/\cl.lookup y=some c:=λy hy e=>by
  have m:(y,kY)∈scope.names:=PySem.mem_of_lookup e;obtain⟨c,h⟩:=zch (.inr ⟨m,I.ok.has y (S.free _ m rfl)⟩);rw[Qx,if_neg hy,<-hcl];exact⟨c,h,h⟩
 have look:∀y c,(cxG X ow (xs++ys) scope C s H fp).env.cells.lookup y=some c->(y∈ow/\c=C+1)\/(y∉ow/\cl.lookup y=some c):=λy c e=>by
  rw[eE]at e;have e:(ow.map (·,C+1)++cl).lookup y=some c:=e;rw[Qx]at e;split at e
  ·exact .inl ⟨‹_›,(bY e).symm⟩
  ·exact .inr ⟨‹_›,e⟩
 have old:∀y c,cl.lookup y=some c->¬ C+1=c:=λy c e z=>by
  obtain⟨v,o,e2,_⟩:=I.cell y c (sub y c e);exact absurd (aQ e2) (z▸G9.mpr (gG hC))
 have lt:∀b∈fp,b<s.heap.objs.size:=λb hb=>by obtain⟨o,e⟩:=ho b hb;exact aQ e
 have ok:(cxG X ow (xs++ys) scope C s H fp).Ok:=by
  refine⟨I.ok.mod,S.kind,I.ok.glob,I.ok.blt,hC,λy z c e1 e2=>?inj,λy hy=>?_,λy c z e=>?_,I.ok.hd,I.ok.frames,.inl rfl,λb hb=>?_,I.bs,ao I.ok.bsz I.sz,λb o e hb=>?_,λb hb z=>?_,I.stack,I.stkFree⟩
  case inj=>
   rcases look y c e1 with ⟨h1,h2⟩ | ⟨_,h1⟩<;>rcases look z c e2 with ⟨h3,h4⟩ | ⟨_,h3⟩
   ·exact S.one _ h1 _ h3
   ·exact absurd h2.symm (old z c h3)
   ·exact absurd h4.symm (old y c h1)
   ·exact I.ok.inj y z c (sub _ _ h1) (sub _ _ h3)
  ·have hy':(BK scope X.env).names.lookup y=some .cell\/(BK scope X.env).names.lookup y=some .free:=hy;rw[eE];show ∃c,(ow.map (·,C+1)++cl).lookup y=some c;by_cases hyx:y∈ow
   ·exact⟨C+1,by rw[Qx,if_pos hyx]⟩
   have has':=λz=>(has y hyx z).imp λ_ h=>h.1;rcases hy' with e | e
   ·rcases Z5 e with z | ⟨_,z⟩
    ·exact absurd (S.cell _ (PySem.mem_of_lookup z) rfl) hyx
    ·exact has' z
   ·rcases Z5 e with z | ⟨z,_⟩
    ·exact has' z
    ·cases z
  ·rcases look y c e with ⟨_,h⟩ | ⟨h,_⟩
   ·rw[h];exact gG hC
   ·exact absurd (List.elem_iff.mp z) h
  ·refine⟨bA (aA (lt b hb) hC),λy c e=>?_⟩;rcases look y c e with ⟨_,h⟩ | ⟨_,h⟩
   ·rw[h];exact fj (aA (lt b hb) (gG hC))
   ·exact (hf b hb).2.2.2.2.1 y c (sub y c h)
  ·rcases (hf b hb).2.2.2.1 with z | z
   ·exact I.ok.noex b o e z
   ·exact absurd (aA (aQ e) (ao I.ok.bsz z)) (dY _)
  ·rcases aP.mp (I.stkSub b z) with e | e
   ·exact (hf b hb).2.1 e
   ·exact (hf b hb).2.2.1 e
 refine⟨ok,rfl,I.bare,Un.kept hk,⟨_,hn,λi y v e1 e2 e3=>?_⟩,λy c e=>?_,I.hok.fresh hC,λy c e=>(look y c e).elim (λh=>by rw[h.2];exact I.hok.fresh (gG hC)) (λh=>I.freeC y c (sub y c h.2)),λp hp=>absurd (show p∈([]:List (aq×kj)) from hp) (by simp),I.hok.kept hk,?_⟩
 ·obtain⟨k,rfl,e2'⟩:=zdU e2;have e1':ys[k]?=some y:=by
   have e1:(xs++ys)[xs.length+k]?=some y:=e1;rw[bG (by omega),gU]at e1;exact e1
  obtain⟨j,hj,hσ⟩:=ziX e2';have hN:X.N[j]?=some y:=by
   have z:=congrArg (λl=>l[k]?) S.caps;simp only[ak,hj,e1',dG]at z;exact bY z
  have hmy:=aJ e1';have hfr:=S.fr y hmy;have hkind:=S.free _ (PySem.mem_of_lookup hfr) rfl;obtain⟨m',hns,hl⟩:=I.loc;obtain⟨u,r,lk⟩:=hl j y v hN hσ (.inr hkind);refine⟨u,r,.inr ⟨?_,?_⟩⟩
  ·have e3':(BK scope X.env).names.lookup y=some .local\/(BK scope X.env).names.lookup y=some .cell\/(BK scope X.env).names.lookup y=some .free:=e3;rcases e3' with z | z
   ·rcases Z5 z with q | ⟨q,_⟩
    ·rw[hfr]at q;cases q
    ·cases q
   ·exact z
  ·obtain⟨c,hc,hc2⟩:=has y (λz=>(fP.mp S.nd).2.2 y (S.sub y z) y hmy rfl) hfr;rw[eE];refine⟨c,hc,?_⟩;rcases lk with ⟨z,_⟩ | ⟨_,c',hc',cell⟩
   ·rcases hkind with q | q<;>· rw[show X.env.scope.names.lookup y=some .local from z]at q;cases q
   ·rw[sub y c hc2]at hc';cases hc'
    obtain⟨o,e,d⟩:=cell;exact⟨o,hk _ _ e,d⟩
 ·rcases look y c e with ⟨q,h⟩ | ⟨_,h⟩
  ·rw[h];exact⟨none,_,hcell y q,rfl⟩
  ·obtain⟨v,o,e',d⟩:=I.cell y c (sub y c h);exact⟨v,o,hk _ _ e',d⟩
 ·have z:=congrArg c7 S.caps;simp only[aa]at z;show (nones xs++XN js Z).length=(xs++ys).length;simp[XN,nones,z]
theorem CScope.gn(S:CScope sc scope x N ys js):zih sc scope [x] [] N ys js:=⟨S.kind,λy h e=>absurd e (S.cell y h),S.loc,S.free,S.caps,S.fr,S.nd,nofun,nofun,λ_ _=>zfB S.cell,λ_=>nofun⟩
end
def PTs(X:Cx)(ifs:List eV)(t:TT):Prop :=
 ∀(pins:List (aq×kj)) (s:aR) (Z:St) (H:Hp) (Q:Bool->Hp->Prop),Inv X pins Z H s->t Z H Q ->
  bJ (bR X.prog X.w) X.A (forIn ifs true λc r=>if r=true then do let ok <-Fd c X.env (dI c X.env);pure (iI ok) else pure (iI r)) (TP X pins Z Q) X.xe s
def Vp:TT:=λ_ H Q=>Q true H
theorem vU:PTs X [] Vp:=λpins s Z H Q I h=>wpAny_tests_nil ⟨H,I,h⟩
theorem uq(h:PT X c t):PTs X [c] t:=λpins s Z H Q I hw=>wpAny_tests_one (h pins s Z H Q I hw)
def CompLoop(J:It)(js:List Nat)(tt:TT)(te:TE)(Z:St)(Q:VK)(H:Hp):Prop:=∃W:Nat->Nat->List V->Hp->Prop,(∃m,W 0 m [] H)/\∀i m ys H,W i m ys H ->
 (J.stop i H/\∀D,H D=none->Q (.ref D) (upd H D (.lst ys))) \/
 (J.go i H/\ys.length<aZ/\∃N:List V->Hp->Prop,(∀ys' H',N ys' H'->∃m',m'<m/\W (i+1) m' ys' H')/\∀x H',J.yld i H x H'->tt (some x::XN js Z) H' λb H2=>if b=true then te (some x::XN js Z) H2 λv H3=>N (ys++[v]) H3 else N ys H2)
def zhr(wi:TI)(js:List Nat)(tt:TT)(te:TE):TE:=λZ H Q=>wi Z H λJ H1=>CompLoop J js tt te Z Q H1
theorem HOk.track(x:HOk P w H h)(hn:H a=none)(new:ObjOk P w (upd H a o) h a o):HOk P w (upd H a o) h:=λb u e=>by
 by_cases hb:b=a
 ·subst hb;rw[zq]at e;cases e;exact new
 ·rw[zA hb]at e;exact (x b u e).stay (λ_ _ _ q=>q) (λc q=>by rw[zA (zF q hn)];exact q) λc xs q=>by rw[zA (zF q hn)];exact q
section
variable {prog:cg} {w:cT} {A:eH} {R:HB->aR->Prop} {s:aR}
theorem zil(hN:N=notedBy (bR prog w) A env λe s'=>R (.error e) s')(I:Nat->aR->Prop)(turn:∀n s,I n s->bJ (bR prog w) A (Hz it) (λr s₁=>match r with
   |none=>R (.ok .next) s₁
   |some v=>bJ (bR prog w) A (mK target it v) (λ_ s₅=>bJ (bR prog w) A (Cp target env v) (λ_ s₂=>
     bJ (bR prog w) A (forIn ifs true λc r=>if r=true then do let ok <-Fd c env (dI c env);pure (iI ok) else pure (iI r)) (λok s₃=>if ok=true then bJ (bR prog w) A (dI elt env) (λx s₄=>bJ (bR prog w) A (call (.builtin "list.append") [acc,x]) (λ_ s₅=>∃m,m<n/\I m s₅) N s₄) N s₃ else ∃m,m<n/\I m s₃) N s₂) N s₅) N s₁) N s)(n:Nat)(h:I n s):lN (bR prog w) A (.compLoop (.ListComp elt [⟨target,iter,ifs,0⟩] scope pos) 0 it acc env) R s:=by
 subst hN;refine codeAny_loop rfl I (λn s hI=>?_) n h;show bJ _ A ((compTurn (.ListComp elt [⟨target,iter,ifs,0⟩] scope pos) 0 it acc env).onRaise (λx=>do noteFrame x env;theTreesLotGoes x)) _ _ s;rw[compTurn_list];refine wpAny_noted (aH (oF (aH (dX (turn n s hI) (λr s₁ h₁=>?_) λ_ _ h'=>h'))));cases r with
 |none=>exact bW h₁
 |some v=>
  refine aH (dX h₁ (λ_ s₅ h₅=>aH (dX h₅ (λ_ s₂ h₂=>aH (dX h₂ (λok s₃ h₃=>?_) λ_ _ h'=>h')) λ_ _ h'=>h')) λ_ _ h'=>h');cases ok with
  |false=>exact bW ⟨rfl,h₃⟩
  |true=>exact aH (aH (dX h₃ (λx s₄ h₄=>aH (dX h₄ (λ_ s₆ h₆=>bW (bW ⟨rfl,h₆⟩)) λ_ _ h'=>h')) λ_ _ h'=>h'))
end
def QZ(J:It)(xs:List cG)(js:List Nat)(g:TG)(tt:TT)(te:TE)(Z:St)(Q:VK)(H:Hp):Prop:=∃W:Nat->Nat->List V->Hp->Prop,(∃m,W 0 m [] H)/\∀i m ys H,W i m ys H ->
 (J.stop i H/\∀D,H D=none->Q (.ref D) (upd H D (.lst ys))) \/
 (J.go i H/\ys.length<aZ/\∃N:List V->Hp->Prop,(∀ys' H',N ys' H'->∃m',m'<m/\W (i+1) m' ys' H')/\∀x H',J.yld i H x H'->g x (nones xs++XN js Z) H' fun σ' H1=>(∃vs:St,vs.length=xs.length/\σ'=vs++XN js Z)/\tt σ' H1 λb H2=>if b=true then te σ' H2 λv H3=>N (ys++[v]) H3 else N ys H2)
section
variable {X:Cx} {elt iter:eV} {ifs:List eV} {tg:eV} {xs ow:List cG} {pos:mV} {g:TG} {scope:lM} {ys:List cG} {js:List Nat} {wi:TI} {tt:TT} {te:TE}
theorem zbe{Z:St}{R:aG->aq->HB->aR->Prop}(S:zih X.env.scope scope xs ow X.N ys js)(hc:X.calm=true)(hg:∀C s₀ H₀ ex,PG (cxG X ow (xs++ys) scope C s₀ H₀ ex) tg g)(ht:∀C s₀ H₀ ex,PTs (cxG X ow (xs++ys) scope C s₀ H₀ ex) ifs tt)(he:∀C s₀ H₀ ex,PE (cxG X ow (xs++ys) scope C s₀ H₀ ex) elt te)(I:Inv X pins Z H s)(T:Turn X.prog X.w X.K tg J fp it tn)(st:tn 0 s.heap)(hf:∀b∈fp,zbu X pins H b)(hw:QZ J xs js g tt te Z Q H)(hR:∀D C s' H' m',Inv X pins Z H' s'->Q (.ref D) H'->s.heap.objs.size<=C->H' C=none->s'.heap.Ns C m'->R (.ref D) C (.ok .next) s'):
  bJ (bR X.prog X.w) X.A (newList []) (λacc s₃=>bJ (bR X.prog X.w) X.A (rA scope X.env.globals (Xp X.env.cells scope.names []) [] X.env.qual none .none (some X.env)) (λcenv s₄=>
   lN (bR X.prog X.w) X.A (.compStart (.ListComp elt [⟨tg,iter,ifs,0⟩] scope pos) 0 (.ref it) acc { cenv with scope:=BK scope X.env }) (R acc cenv.locals) s₄) E s₃) E s:=by
 obtain⟨W,⟨m0,w0⟩,turn⟩:=hw;refine wpAny_newObj_type (ziZ S λh₁ hns₁ hce₁ hsb₁=>?_);dsimp only at hns₁ hce₁ hsb₁ ⊢;generalize hH2:s.heap.push { cls:=.type "list",dict:=none,data:=.seq ([]:List aG).toArray }=G at hns₁ hce₁ hsb₁ ⊢;generalize hD:s.heap.objs.size=D at *;generalize hCe:G.objs.size=C at *;have hC:C=D+1:=by rw[<-hCe,<-hH2,iW,hD]
 have hDlt:D<C:=by rw[hC];exact lW D
 have hDC:D≠C:=bA hDlt;have old:∀b o,s.heap.get? b=some o->h₁.get? b=some o:=λb o e=>hsb₁ b o (hH2▸az _ e);have hacc:h₁.get? D=some { cls:=.type "list",data:=.seq ([]:List aG).toArray 0 }:=by
  refine hsb₁ D _ ?_;rw[<-hH2,<-hD];exact bC _ rfl
 have obj0:=T.obj 0 _ st;have fplt:∀b∈fp,b<D:=λb hb=>by obtain⟨o,e,_⟩:=obj0 b hb;exact hD▸aQ e
 generalize hX:cxG X ow (xs++ys) scope C s H fp=X';have I1:Inv X' [] (nones xs++XN js Z) H { s with heap:=h₁,toks:=s.toks }:=by
  subst hX;exact zhZ I S hf (λb hb=>by obtain⟨o,e,_⟩:=obj0 b hb;exact⟨o,e⟩) (by omega) old hns₁ hce₁
 have eP:X'.prog=X.prog:=by subst hX;rfl
 have eW:X'.w=X.w:=by subst hX;rfl
 have eK:X'.K=X.K:=by subst hX;rfl
 have eA:X'.A=X.A:=by subst hX;rfl
 have eC:X'.calm=true:=by subst hX;exact hc
 have eL:X'.env.locals=C:=by subst hX;rfl
 have eS:X'.s₀=s:=by subst hX;rfl
 have eN:X'.N=xs++ys:=by subst hX;rfl
 have eE:X'.env=Gi scope (ow.map (·,C+1)++Xp X.env.cells scope.names []) C X.env:=by subst hX;rfl
 have eXe:X'.xe=λ_ _=>False:=by subst hX;rfl
 have eX:X'.ex=fp:=by subst hX;rfl
 have ePn:X'.pn=[]:=by subst hX;rfl
 have efs:∀b,b∈X'.fs->b∈frs X.stack:=λb z=>by subst hX;exact z
 have look:∀y c,X'.env.cells.lookup y=some c->C<c\/X.env.cells.lookup y=some c:=λy c e=>by
  rw[eE]at e;have e:(ow.map (·,C+1)++Xp X.env.cells scope.names []).lookup y=some c:=e;rw[Qx]at e;split at e
  ·exact .inl (Nat.lt_of_succ_le (mY (bY e)))
  ·exact .inr (JK (λ_ _ z=>by simp at z) e)
 have cellNe:∀y c,X'.env.cells.lookup y=some c->c≠D:=λy c e=>by
  rcases look y c e with z | z
  ·exact fj (km hDlt z)
  ·obtain⟨v,o,e2,_⟩:=I.cell y c z;exact bA (hD▸aQ e2)
 have frLt:∀b,b∈X'.fs->b<D:=λb z=>by
  rcases aP.mp (I.stkSub b (efs b z)) with e | e
  ·rw[e];exact hD▸I.lt
  ·exact Nat.lt_of_not_le λh=>I.nofs (hD▸h) e
 have fpOk:∀(p:List (aq×kj)) (H':Hp),(∀b∈fp,H' b=none)->(∀q∈p,q.1=D)->∀b∈fp,zbu X' p H' b:=λp H' hn hp b hb=>by
  refine⟨hn b hb,?_,λz=>?_,.inl (eX▸hb),λy c e=>?_,λq hq=>?_⟩
  ·rw[eL];exact bA (km (fplt b hb) hDlt)
  ·rcases aP.mp (I.stkSub b (efs b z)) with e | e
   ·exact (hf b hb).2.1 e
   ·exact (hf b hb).2.2.1 e
  ·rcases look y c e with z | z
   ·exact fj (km (km (fplt b hb) hDlt) z)
   ·exact (hf b hb).2.2.2.2.1 y c z
  ·rw[ePn,fC]at hq;rw[hp q hq];exact fj (fplt b hb)
 have noCell:∀(its:List aG) (k:Nat) v,({ cls:=.type "list",data:=.seq its.toArray k }:kj).data≠.cell v:=λits k v z=>by cases z
 have done:∀{zs:List V} {its:List aG} {k:Nat} {H':Hp} {s':aR},Inv X' [] (nones xs++XN js Z) H' s'->s'.heap.get? D=some { cls:=.type "list",data:=.seq its.toArray k }->Vals zs its->H' D=none->zs.length<=aZ ->
   (∀D,H' D=none->Q (.ref D) (upd H' D (.lst zs)))->R (.ref D) C (.ok .next) s':=λ{zs its k H' s'} I' hd hv hn hz q=>by
  have un:=I'.base;obtain⟨m',hns,_⟩:=I'.loc;rw[eL]at hns;have hCn:H' C=none:=by have:=I'.free;rw[eL]at this;exact this
  have hH0:X'.H₀=H:=by subst hX;rfl
  rw[hH0,eS,eX]at un;have un2:Un (frs X.stack) fp H (upd H' D (.lst zs)) s.heap s'.heap:=by
   have ne:∀b o,s.heap.get? b=some o->b≠D:=λb o e=>bA (hD▸aQ e);have un':Un (frs X.stack) fp H H' s.heap s'.heap:=by subst hX;exact un
   exact⟨un'.keep,un'.slot,λb o e n hx=>by rw[zA (ne b o e)];exact un'.free b o e n hx,un'.there,λb xs e=>by rw[zA (zF (un'.tups b xs e) hn)];exact un'.tups b xs e,
    λb o u e=>by rw[zA (zF (un'.frzs b o u e) hn)];exact un'.frzs b o u e,λb ps e=>by
     obtain⟨more,z⟩:=un'.tbls b ps e;exact⟨more,by rw[zA (zF z hn)];exact z⟩⟩
  have hok:HOk X.prog X.w (upd H' D (.lst zs)) s'.heap:=by
   have h0:=I'.hok;rw[eP,eW]at h0;exact h0.track hn ⟨hz,its,k,hv,hd⟩
  have I2:Inv X pins Z (upd H' D (.lst zs)) s':=I.call' (by have:=I'.os;rw[eS]at this;exact this) un2 hok I'.bare λb hb=>⟨(hf b hb).2.2.2.1,(hf b hb).2.1,(hf b hb).2.2.2.2.1,(hf b hb).2.2.2.2.2⟩
  exact hR D C s' _ m' I2 (q D hn) (by omega) (by rw[zA (cP hDC)];exact hCn) hns
 have loop:lN (bR X.prog X.w) X.A (.compLoop (.ListComp elt [⟨tg,iter,ifs,0⟩] scope pos) 0 (.ref it) (.ref D) X'.env) (R (.ref D) C) { s with heap:=h₁,toks:=s.toks }:=by
  refine zil rfl (λn s'=>∃i zs its k H',Inv X' [] (nones xs++XN js Z) H' s'/\tn i s'.heap/\(∀b∈fp,H' b=none)/\s'.heap.get? D=some { cls:=.type "list",data:=.seq its.toArray k }/\Vals zs its/\H' D=none/\zs.length<=aZ/\W i n zs H')
   ?_ m0 ⟨0,[],[],0,H,I1,T.keep _ _ _ st (λb hb o e=>old b o e),λb hb=>(hf b hb).1,hacc,.nil,I.hok.fresh (by omega),bK _,w0⟩
  rintro n s3 ⟨i,zs,its,k,H3,I3,st3,fr3,d3,v3,n3,z3,w3⟩;have pinD:Inv X' [(D,{ cls:=.type "list",data:=.seq its.toArray k })] (nones xs++XN js Z) H3 s3:=I3.pins_of λp hp=>by
   have e:p=(D,{ cls:=.type "list",data:=.seq its.toArray k }):=by simpa using hp
   subst e;exact⟨d3,n3,by rw[eL];exact hDC,λz=>dY _ (frLt D z),noCell its k⟩
  have hpD:∀q∈[(D,({ cls:=.type "list",data:=.seq its.toArray k }:kj))],q.1=D:=λq hq=>by
   have e:q=(D,{ cls:=.type "list",data:=.seq its.toArray k }):=by simpa using hq
   rw[e]
  rcases turn i n zs H3 w3 with ⟨stop,qn⟩ | ⟨go,hzl,NN,hNN,step⟩
  ·refine thn (eA▸T.done X' eP eW eK eC i _ s3 _ H3 _ pinD (fpOk _ _ fr3 hpD) st3 stop) λr s4 ⟨hr,I4⟩=>?_;subst hr;exact done (I4.pins_of λp hp=>absurd hp (by simp)) (I4.pin (D,{ cls:=.type "list",data:=.seq its.toArray k }) (aV _ (by simp))).1 v3 n3 z3 qn
  ·refine thn (eA▸T.item X' eP eW eK eC i _ s3 _ H3 _ pinD (fpOk _ _ fr3 hpD) st3 go) λr s4 ⟨u,hr,h4⟩=>?_;subst hr;refine thn h4 λ_ s4 ⟨v,H5,I5,r5,y5,st5,fr5⟩=>?_;have I5':=I5.pinned (fpOk _ _ fr5 hpD) (T.obj _ _ st5);have ev:∀{α:Type} {t:Ig α} {Q':α->aR->Prop} {E':aG->aR->Prop} {s':aR},bJ (bR X'.prog X'.w) X'.A t Q' X'.xe s'->bJ (bR X.prog X.w) X.A t Q' E' s':=λ{α t Q' E' s'} hh=>by
    rw[eP,eW,eA,eXe]at hh;exact dX hh (λ_ _ q=>q) λ_ _ z=>z.elim
   have hgg:PG X' tg g:=hX▸hg C s H fp;refine ev (thn (hgg _ s4 _ H5 v u _ I5' r5 (step v H5 y5)) λ_ s6 ⟨σ6,H6,I6,⟨vs6,hvl,e6⟩,q6⟩=>?_);subst e6;have back:∀{σ':St} {H7:Hp} {s7:aR},Inv X' ([(D,{ cls:=.type "list",data:=.seq its.toArray k })]++zaJ fp s4.heap) (vs6++XN js Z) H7 s7->Inv X' [] (nones xs++XN js Z) H7 s7:=λ{_ H7 s7} I7=>by
    refine (I7.pins_of λp hp=>absurd hp (by simp)).weak (by rw[aB,aB,hvl,QV]) λi v' e=>?_;obtain⟨k',rfl,e'⟩:=zdU e;rw[bG (by omega),hvl,gU];exact e'
   have fps:∀{σ':St} {H7:Hp} {s7:aR},Inv X' ([(D,{ cls:=.type "list",data:=.seq its.toArray k })]++zaJ fp s4.heap) σ' H7 s7->(∀b∈fp,H7 b=none)/\(∀b∈fp,∀o,s4.heap.get? b=some o->s7.heap.get? b=some o)/\s7.heap.get? D=some { cls:=.type "list",data:=.seq its.toArray k }/\H7 D=none:=λ{σ' H7 s7} I7=>by
    have g:∀b∈fp,∀o,s4.heap.get? b=some o->s7.heap.get? b=some o/\H7 b=none:=λb hb o e=>by
     have z:=I7.pin (b,o) (aV _ (aV _ (JR hb e)));exact⟨z.1,z.2.1⟩
    refine⟨λb hb=>?_,λb hb o e=>(g b hb o e).1,(I7.pin (D,{ cls:=.type "list",data:=.seq its.toArray k }) (aV _ (by simp))).1,(I7.pin (D,{ cls:=.type "list",data:=.seq its.toArray k }) (aV _ (by simp))).2.1⟩;obtain⟨o,e,_⟩:=T.obj _ _ st5 b hb;exact (g b hb o e).2
   have hte:PTs X' ifs tt:=hX▸ht C s H fp;have hee:PE X' elt te:=hX▸he C s H fp;refine ev (thn (hte _ s6 _ H6 _ I6 q6) λb s7 ⟨H7,I7,q7⟩=>?_);cases b with
   |false=>
    rw[if_neg bu];rw[if_neg bu]at q7;obtain⟨m',hm,w7⟩:=hNN _ _ q7;obtain⟨g1,g2,g3,g4⟩:=fps I7;exact⟨m',hm,i+1,zs,its,k,H7,back (σ':=[]) I7,T.keep _ _ _ st5 g2,g1,g3,v3,g4,z3,w7⟩
   |true=>
    rw[if_pos rfl];rw[if_pos rfl]at q7;refine ev (thn (hee _ s7 _ H7 _ I7 q7) λu8 s8 ⟨v8,H8,I8,r8,q8⟩=>?_);obtain⟨m',hm,w8⟩:=hNN _ _ q8;obtain⟨g1,g2,g3,g4⟩:=fps I8;have hil:=v3.length;refine lZ sO ⟨_,g3,rfl⟩ rR (rm _ _) (PySem.list_append D its.toArray k u8 (by rw[aK];omega)) ⟨g3,?_⟩;have q:=PySem.IsL.update g3 (λa=>a.push u8);have ea:its.toArray.push u8=(its++[u8]).toArray:=by simp
    rw[ea]at q;have kk:∀b o,b≠D->s8.heap.get? b=some o->(s8.heap.update D (dC λa=>a.push u8)).get? b=some o:=λb o hb e=>(dW _ _ (cP hb)).trans e;have I9:Inv X' [] (nones xs++XN js Z) H8 { s8 with heap:=s8.heap.update D (dC λa=>a.push u8),toks:=s8.toks }:=by
     refine (back (σ':=[]) I8).turned kk g4 (by rw[eL];exact hDC) (.inr (by rw[eS];omega)) cellNe λp hp=>?_;rw[ePn]at hp;exact absurd hp (by simp)
    refine⟨m',hm,i+1,zs++[v8],its++[u8],_,H8,I9,T.keep _ _ _ st5 (λb hb o e=>kk b o (bA (fplt b hb)) (g2 b hb o e)),g1,q,v3.append (.cons r8 .nil),g4,?_,w8⟩;rw[aB,aU];omega
 rw[eE]at loop;exact codeAny_compStart_list loop (T.self _ 0 _ _ _ (T.keep _ _ _ st (λb hb o e=>old b o e)) loop)
theorem zjz{L:It->St->VK->Hp->Prop}(hL:∀J Z Q H,L J Z Q H->QZ J xs js g tt te Z Q H)(S:zih X.env.scope scope xs ow X.N ys js)(hc:X.calm=true)(hi:PI X tg iter wi)(hg:∀C s₀ H₀ ex,PG (cxG X ow (xs++ys) scope C s₀ H₀ ex) tg g)(ht:∀C s₀ H₀ ex,PTs (cxG X ow (xs++ys) scope C s₀ H₀ ex) ifs tt)(he:∀C s₀ H₀ ex,PE (cxG X ow (xs++ys) scope C s₀ H₀ ex) elt te)(hs:∀x,iR iter X.env x=pure x:=by intro _;rfl):PE X (.ListComp elt [⟨tg,iter,ifs,0⟩] scope pos) (λZ H Q=>wi Z H λJ H1=>L J Z Q H1):=by
 intro pins s Z H Q I h;rw[eval_ListComp];refine oG (use:=none) rfl hs (Ja λy hy e=>I.ok.has _ (S.free y hy e)) S.kind S.loc (thn (hi pins s Z H _ I h) λv s1 h1=>thn h1 λitv s2 h2=>?_);obtain⟨it,fp,tn,J,H2,e,I2,T,st2,f2,hw⟩:=h2;subst e;refine zbe (Q:=Q) (R:=λacc C=>compPost (bR X.prog X.w) X.A X.xe none (EP X pins Z Q) acc C) S hc hg ht he I2 T st2 f2 (hL _ _ _ _ hw) ?_;intro D C s' H' m' I' q hC hn hns;refine⟨m',hns,λh' hs'=>⟨.ref D,H',?_,rfl,q⟩⟩;have e:=I2.fpOk hC hn;exact I'.turned (t':=s'.toks) (λb o hb e=>(hs'.2 b hb).trans e) hn e.2.1 e.2.2.2.1 e.2.2.2.2.1 e.2.2.2.2.2
theorem zfk{L:It->St->VK->Hp->Prop}(hL:∀J Z Q H,L J Z Q H->QZ J xs js g tt te Z Q H){py spos:mV}(S:zih X.env.scope scope xs ow X.N ys js)(hc:X.calm=true)(hN:X.N.Nodup)(hy:X.N[i]?=some y)(hl:Loc X.env.scope y)(hi:PI X tg iter wi)(hg:∀C s₀ H₀ ex,PG (cxG X ow (xs++ys) scope C s₀ H₀ ex) tg g)(ht:∀C s₀ H₀ ex,PTs (cxG X ow (xs++ys) scope C s₀ H₀ ex) ifs tt)(he:∀C s₀ H₀ ex,PE (cxG X ow (xs++ys) scope C s₀ H₀ ex) elt te)(hf:X.fn y=true\/X.env.scope.names.lookup y=some .local:=by first | exact .inl rfl | exact .inr rfl | assumption)(hsw:rN (.ListComp elt [⟨tg,iter,ifs,0⟩] scope pos) (some (.Name y py)) spos.line X.env=pure true:=by rfl)(hs:∀x,iR iter X.env x=pure x:=by intro _;rfl):PS X (.Assign [.Name y py] (.ListComp elt [⟨tg,iter,ifs,0⟩] scope pos) spos) (zaO (λZ H Q=>wi Z H λJ H1=>L J Z Q H1) (j9 i)):=by
 intro pins s Z H D I h;rw[exec_Assign_Name_used _ _ _ _ hsw];refine aH (oF (aH ?_));show bJ _ X.A (do let _ <-comprehension (.ListComp elt [⟨tg,iter,ifs,0⟩] scope pos) scope X.env _ (newList []) false (dI iter X.env) (some (Cp (.Name y py) X.env))) _ _ s;refine aH (dX (oG (use:=some (Cp (.Name y py) X.env)) (Q:=λ_ s'=>SP X pins D .next s') rfl hs (Ja λy hy e=>I.ok.has _ (S.free y hy e)) S.kind S.loc
  (thn (hi pins s Z H _ I h) λv s1 h1=>thn h1 λitv s2 h2=>?_)) (λ_ s' hq=>bW (bW hq)) λ_ _ e=>e)
 obtain⟨it,fp,tn,J,H2,e,I2,T,st2,f2,hw⟩:=h2;subst e;refine zbe (Q:=λv H'=>j9 i v Z H' D.nx) (R:=λacc C=>compPost (bR X.prog X.w) X.A X.xe (some (Cp (.Name y py) X.env)) (λ_ s'=>SP X pins D .next s') acc C) S hc hg ht he I2 T st2 f2 (hL _ _ _ _ hw) ?_;intro Da C s' H' m' I' q hC hn hns;have e:=I2.fpOk hC hn;show bJ _ X.A (Cp (.Name y py) X.env (.ref Da)) _ _ _;refine Bu (zdG I' hN hy hl (show RelV (.ref Da) (.ref Da) from rfl) (λs2' I3 ⟨a,sb,ha⟩=>?_) hf);have hCa:C≠a:=by
  rcases ha with z | z
  ·rw[z];exact e.2.1
  ·intro w;exact e.2.2.2.2.1 _ _ z w.symm
 refine⟨m',hns.sameBut sb hCa,λh' hs'=>⟨_,H',?_,q⟩⟩;exact I3.turned (t':=s2'.toks) (λb o hb e=>(hs'.2 b hb).trans e) hn e.2.1 e.2.2.2.1 e.2.2.2.2.1 e.2.2.2.2.2
theorem CompLoop.t(h:CompLoop J js tt te Z Q H):QZ J [x] js (j9 0) tt te Z Q H:=by
 obtain⟨W,h0,h⟩:=h;exact⟨W,h0,λi m ys H w=>(h i m ys H w).imp id λ⟨a,b,N,c,d⟩=>⟨a,b,N,c,λx H' y=>⟨⟨[some x],rfl,rfl⟩,d x H' y⟩⟩⟩
variable {x:cG} {px:mV}
theorem wO(S:CScope X.env.scope scope x X.N ys js)(hc:X.calm=true)(hi:PI X (.Name x px) iter wi)(ht:∀C s₀ H₀ ex,PTs (cxC X (x::ys) scope C s₀ H₀ ex) ifs tt)(he:∀C s₀ H₀ ex,PE (cxC X (x::ys) scope C s₀ H₀ ex) elt te)(hs:∀x,iR iter X.env x=pure x:=by intro _;rfl):PE X (.ListComp elt [⟨.Name x px,iter,ifs,0⟩] scope pos) (zhr wi js tt te):=
 zjz (λ_ _ _ _ h=>h.t) S.gn hc hi (λ_ _ _ _=>yV S.nd rfl (.inl (kh S.var)) (.inr (kh S.var))) ht he hs
theorem wL{py spos:mV}(S:CScope X.env.scope scope x X.N ys js)(hc:X.calm=true)(hN:X.N.Nodup)(hy:X.N[i]?=some y)(hl:Loc X.env.scope y)(hi:PI X (.Name x px) iter wi)(ht:∀C s₀ H₀ ex,PTs (cxC X (x::ys) scope C s₀ H₀ ex) ifs tt)(he:∀C s₀ H₀ ex,PE (cxC X (x::ys) scope C s₀ H₀ ex) elt te)(hf:X.fn y=true\/X.env.scope.names.lookup y=some .local:=by first | exact .inl rfl | exact .inr rfl | assumption)(hsw:rN (.ListComp elt [⟨.Name x px,iter,ifs,0⟩] scope pos) (some (.Name y py)) spos.line X.env=pure true:=by rfl)(hs:∀x,iR iter X.env x=pure x:=by intro _;rfl):PS X (.Assign [.Name y py] (.ListComp elt [⟨.Name x px,iter,ifs,0⟩] scope pos) spos) (zaO (zhr wi js tt te) (j9 i)):=
 zfk (λ_ _ _ _ h=>h.t) S.gn hc hN hy hl hi (λ_ _ _ _=>yV S.nd rfl (.inl (kh S.var)) (.inr (kh S.var))) ht he hf hsw hs
end
theorem vZ{K:aN}(Pv:Nat->List V->Hp->Prop)(h0:Pv 0 [] H)(hl:∀i ys H,i<=xs.length->Pv i ys H->SqL K H a xs)(hs:∀i x ys H,xs[i]?=some x->Pv i ys H->ys.length<aZ/\tt (some x::XN js Z) H λb H2=>if b=true then te (some x::XN js Z) H2 λv H3=>Pv (i+1) (ys++[v]) H3 else Pv (i+1) ys H2)(hd:∀ys H,Pv xs.length ys H->∀D,H D=none->Q (.ref D) (upd H D (.lst ys))):
  CompLoop (Itl K a) js tt te Z Q H:=by
 refine⟨λi m ys H=>m=xs.length-i/\i<=xs.length/\Pv i ys H,⟨xs.length,by simp,bK _,h0⟩,?_⟩;rintro i m ys H ⟨rfl,hi,p⟩;have q:=hl i ys H hi p;by_cases hlt:i<xs.length
 ·have hx:xs[i]?=some xs[i]:=aj hlt;obtain⟨hz,hst⟩:=hs i xs[i] ys H hx p;refine .inr ⟨⟨xs,xs[i],q,hx⟩,hz,Pv (i+1),λys' H' p'=>⟨xs.length-(i+1),by omega,rfl,hlt,p'⟩,λx H' y=>?_⟩;obtain⟨e,y⟩:=y;subst e;have e2:=y xs q;rw[hx]at e2;cases e2
  exact hst
 ·have e:i=xs.length:=by omega
  subst e;exact .inl ⟨⟨xs,q,au _⟩,hd ys H p⟩
theorem jF{lo:Int}(Pv:Nat->List V->Hp->Prop)(h0:Pv 0 [] H)(hs:∀i ys H,i<n->Pv i ys H->ys.length<aZ/\tt (some (.int (lo+i))::XN js Z) H λb H2=>if b=true then te (some (.int (lo+i))::XN js Z) H2 λv H3=>Pv (i+1) (ys++[v]) H3 else Pv (i+1) ys H2)(hd:∀ys H,Pv n ys H->∀D,H D=none->Q (.ref D) (upd H D (.lst ys))):
  CompLoop (Itr lo n) js tt te Z Q H:=by
 refine⟨λi m ys H=>m=n-i/\i<=n/\Pv i ys H,⟨n,by simp,bK _,h0⟩,?_⟩;rintro i m ys H ⟨rfl,hi,p⟩;by_cases hlt:i<n
 ·obtain⟨hz,hst⟩:=hs i ys H hlt p;refine .inr ⟨hlt,hz,Pv (i+1),λys' H' p'=>⟨n-(i+1),by omega,rfl,hlt,p'⟩,λx H' y=>?_⟩;obtain⟨e,y⟩:=y;subst e y;exact hst
 ·have e:i=n:=by omega
  subst e;exact .inl ⟨au _,hd ys H p⟩
open PySem PySem.Spec PyProof.Rows PySem.SeqAt
inductive Tr where
 |non | bl (b:Bool) | int (i:Int) | str (x:cG) | lst (ts:List Tr) | tup (ts:List Tr)
mutual
def TrAt(K:aN)(H:Hp):Tr->V->Prop
 |.non,v=>v=.non
 |.bl b,v=>v=.bl b
 |.int i,v=>v=.int i
 |.str x,v=>v=.str x
 |.lst ts,v=>∃a xs,v=.ref a/\SqL K H a xs/\TrsAt K H ts xs
 |.tup ts,v=>∃a xs,v=.ref a/\SqT K H a xs/\TrsAt K H ts xs
def TrsAt(K:aN)(H:Hp):List Tr->List V->Prop
 |[],xs=>xs=[]
 |t::ts,xs=>∃y ys,xs=y::ys/\TrAt K H t y/\TrsAt K H ts ys
end
mutual
def teq:Tr->Tr->Bool
 |.non,.non=>true
 |.bl a,.bl b=>a == b
 |.bl a,.int b=>(if a then 1 else 0) == b
 |.int a,.bl b=>a == (if b then 1 else 0)
 |.int a,.int b=>a == b
 |.str a,.str b=>a == b
 |.lst a,.lst b=>Xl a b
 |.tup a,.tup b=>Xl a b
 |_,_=>false
def Xl:List Tr->List Tr->Bool
 |[],[]=>true
 |t::ts,u::us=>teq t u && Xl ts us
 |_,_=>false
end
mutual
def ZQ:Tr->Nat
 |.lst ts=>qg ts+1
 |.tup ts=>qg ts+1
 |_=>0
def qg:List Tr->Nat
 |[]=>0
 |t::ts=>max (ZQ t) (qg ts)
end
theorem QD{t:Tr}:∀{ts:List Tr},t∈ts->ZQ t<=qg ts
 |u::ts,h=>by
  rw[qg];rcases aP.mp h with e | h
  ·rw[e];exact pJ _ _
  ·exact ao (QD h) (Nat.le_max_right _ _)
section
variable {K:aN} {H:Hp}
theorem TrsAt.length:∀{ts:List Tr} {xs:List V},TrsAt K H ts xs->ts.length=xs.length
 |[],xs,h=>by rw[TrsAt]at h;subst h;rfl
 |t::ts,xs,h=>by
  rw[TrsAt]at h;obtain⟨y,ys,rfl,_,h⟩:=h;rw[bB,bB,TrsAt.length h]
theorem TrsAt.get:∀{ts:List Tr} {xs:List V} {j:Nat} {t:Tr},TrsAt K H ts xs->ts[j]?=some t->∃x,xs[j]?=some x/\TrAt K H t x
 |[],xs,j,t,h,e=>by simp at e
 |u::ts,xs,0,t,h,e=>by
  rw[TrsAt]at h;obtain⟨y,ys,rfl,hy,h⟩:=h;simp at e;subst e;exact⟨y,rfl,hy⟩
 |u::ts,xs,j+1,t,h,e=>by
  rw[TrsAt]at h;obtain⟨y,ys,rfl,hy,h⟩:=h;obtain⟨x,e1,e2⟩:=TrsAt.get (j:=j) h (by simpa using e);exact⟨x,by simpa using e1,e2⟩
theorem TrsAt.mk:∀{ts:List Tr} {xs:List V},ts.length=xs.length->(∀(j:Nat) (t:Tr) (x:V),ts[j]?=some t->xs[j]?=some x->TrAt K H t x)->TrsAt K H ts xs
 |[],[],_,_=>by rw[TrsAt]
 |[],_::_,h,_=>by simp at h
 |_::_,[],h,_=>by simp at h
 |t::ts,x::xs,h,f=>by
  rw[TrsAt];exact⟨x,xs,rfl,f 0 t x rfl rfl,TrsAt.mk (by simpa using h) λj t x e1 e2=>f (j+1) t x (by simpa using e1) (by simpa using e2)⟩
theorem TrsAt.ints:∀{ns:List Int},TrsAt K H (ns.map Tr.int) (ns.map V.int)
 |[]=>by rw[dh,TrsAt];rfl
 |n::ns=>by rw[bz,TrsAt];exact⟨_,_,rfl,by rw[TrAt],TrsAt.ints⟩
def xT(ns:List Int):Tr:=.lst (ns.map Tr.int)
theorem TrAt.ints(h:SqL K H a (ns.map V.int)):TrAt K H (xT ns) (.ref a):=by
 unfold xT;rw[TrAt];exact⟨a,_,rfl,h,TrsAt.ints⟩
end
mutual
theorem zb6:∀t:Tr,teq t t=true
 |.non=>by rw[teq]
 |.bl b=>by rw[teq];simp
 |.int i=>by rw[teq];simp
 |.str x=>by rw[teq];simp
 |.lst ts=>by rw[teq];exact V4 ts
 |.tup ts=>by rw[teq];exact V4 ts
theorem V4:∀ts:List Tr,Xl ts ts=true
 |[]=>by rw[Xl]
 |t::ts=>by rw[Xl,zb6 t,V4 ts];rfl
end
theorem zcz{α:Type}[DecidableEq α]{f:α->Tr}(h:∀a b,teq (f a) (f b)=decide (a=b)):∀(xs ys:List α),Xl (xs.map f) (ys.map f)=decide (xs=ys)
 |[],[]=>by simp[Xl]
 |[],_::_=>by simp[Xl]
 |_::_,[]=>by simp[Xl]
 |x::xs,y::ys=>by
  rw[bz,bz,Xl,h,zcz h xs ys,bD];simp
theorem zhk(a b:Int):teq (.int a) (.int b)=decide (a=b):=by rw[teq,bD];simp
theorem j0(a b:List Int):teq (xT a) (xT b)=decide (a=b):=by unfold xT;rw[teq];exact zcz zhk a b
theorem zci:∀ns:List Int,qg (ns.map Tr.int)=0
 |[]=>by simp[qg]
 |n::ns=>by rw[bz,qg,zci ns,ZQ]<;>simp
theorem Yz(ns:List Int):ZQ (xT ns)=1:=by unfold xT;rw[ZQ,zci]
theorem QK:∀{ts us:List Tr},ts.length≠us.length->Xl ts us=false
 |[],[],h=>absurd rfl h
 |[],_::_,_=>by simp[Xl]
 |_::_,[],_=>by simp[Xl]
 |t::ts,u::us,h=>by rw[Xl,QK (by simpa using h),rn]
def eAt(ts us:List Tr)(j:Nat):Bool:=match ts[j]?,us[j]? with
 |some t,some u=>teq t u
 |_,_=>true
theorem zdY:∀{ts us:List Tr},ts.length=us.length->(aD ts.length).all (eAt ts us)=Xl ts us
 |[],[],_=>by simp[Xl]
 |[],_::_,h=>by simp at h
 |_::_,[],h=>by simp at h
 |t::ts,u::us,h=>by
  rw[bB,iw,sE,pC,Xl,<-zdY (ts:=ts) (us:=us) (by simpa using h)];rfl
section
variable {X:Cx} {pins:List (aq×kj)} {Z:St} {H:Hp} {s:aR}
theorem zb1(I:Inv X pins Z H s):∀(n:Nat) {t u:Tr} {v:V},ZQ t<=n->TrAt X.K H t v->TrAt X.K H u v->t=u:=by
 intro n
 induction n with
 |zero=>
  intro t u v hd ht hu;cases t with
  |lst ts=>rw[ZQ]at hd;omega
  |tup ts=>rw[ZQ]at hd;omega
  |_=>(rw[TrAt]at ht;subst ht;cases u<;>(rw[TrAt]at hu)<;>first | rfl | (obtain⟨_,_,z,_⟩:=hu;cases z) | (cases hu;rfl) | cases hu)
 |succ n ih=>
  intro t u v hd ht hu;have lists:∀{ts us:List Tr} {xs:List V},qg ts<=n->TrsAt X.K H ts xs->TrsAt X.K H us xs->ts=us:=by
   intro ts us xs hd h1 h2;apply gH;intro j;have l1:=h1.length;have l2:=h2.length;by_cases hj:j<ts.length
   ·obtain⟨t,e⟩:∃t,ts[j]?=some t:=⟨_,aj hj⟩
    obtain⟨u,e'⟩:∃u,us[j]?=some u:=⟨_,aj (by omega)⟩
    obtain⟨x,ex,hx⟩:=h1.get e;obtain⟨y,ey,hy⟩:=h2.get e';rw[ex]at ey;cases ey
    rw[e,e',ih (ao (QD (aJ e)) hd) hx hy]
   ·rw[bN (by omega),bN (by omega)]
  cases t with
  |lst ts=>
   rw[TrAt]at ht;obtain⟨a,xs,rfl,q,h1⟩:=ht;cases u with
   |lst us=>
    rw[TrAt]at hu;obtain⟨b,ys,e,q',h2⟩:=hu;cases e
    rw[I.list_inj q' q]at h2;rw[lists (by rw[ZQ]at hd;omega) h1 h2]
   |tup us=>
    rw[TrAt]at hu;obtain⟨b,ys,e,q',h2⟩:=hu;cases e
    obtain⟨_,_,pl,_⟩:=I.list q;obtain⟨_,_,pt,_⟩:=I.tuple q';exact absurd rfl (ne_of_list_tuple pl.isList pt)
   |_=>rw[TrAt]at hu;cases hu
  |tup ts=>
   rw[TrAt]at ht;obtain⟨a,xs,rfl,q,h1⟩:=ht;cases u with
   |tup us=>
    rw[TrAt]at hu;obtain⟨b,ys,e,q',h2⟩:=hu;cases e
    rw[I.tuple_inj q' q]at h2;rw[lists (by rw[ZQ]at hd;omega) h1 h2]
   |lst us=>
    rw[TrAt]at hu;obtain⟨b,ys,e,q',h2⟩:=hu;cases e
    obtain⟨_,_,pl,_⟩:=I.list q';obtain⟨_,_,pt,_⟩:=I.tuple q;exact absurd rfl (ne_of_list_tuple pl.isList pt)
   |_=>rw[TrAt]at hu;cases hu
  |_=>(rw[TrAt]at ht;subst ht;cases u<;>(rw[TrAt]at hu)<;>first | rfl | (obtain⟨_,_,z,_⟩:=hu;cases z) | (cases hu;rfl) | cases hu)
structure zmr (A:eH) (s:aR) (a b:aG) (r:Bool):Prop where
 rc:RcAt A s a b r
 ne:RcNeAt A s a b (!r)
 eq:EqAt A s a b r
theorem units_in1(A:eH):A.in1.units=A.units+1:=rfl
theorem zbK(I:Inv X pins Z H s):∀(n:Nat) {t u:Tr} {v w:V} {a b:aG} {A:eH},ZQ t<=n->TrAt X.K H t v->TrAt X.K H u w->RelV v a->RelV w b->A.units+n<iT->zmr A s a b (teq t u):=by
 intro n
 induction n with
 |zero=>
  intro t u v w a b A hd ht hu ra rb hA;have hA':A.units<iT:=by omega
  cases t with
  |lst ts=>rw[ZQ]at hd;omega
  |tup ts=>rw[ZQ]at hd;omega
  |non=>
   rw[TrAt]at ht;subst ht;cases ra
   cases u with
   |non=>rw[TrAt]at hu;subst hu;cases rb;rw[teq];exact⟨.none_none,.none_none,.same _⟩
   |bl b=>rw[TrAt]at hu;subst hu;cases rb;simp only[teq];exact⟨.none_bool _,.none_bool _,.none_bool _⟩
   |int b=>rw[TrAt]at hu;subst hu;obtain⟨_,rfl⟩:=rb;simp only[teq];exact⟨.none_int _ _,.none_int _ _,.none_int _ _⟩
   |str b=>rw[TrAt]at hu;subst hu;obtain⟨_,rfl⟩:=rb;simp only[teq];exact⟨.none_str _ _,.none_str _ _,.none_str _ _⟩
   |lst us=>rw[TrAt]at hu;obtain⟨p,ys,rfl,q,_⟩:=hu;cases rb;obtain⟨_,_,pl,_⟩:=I.list q;simp only[teq];exact⟨.none_list pl.isList hA',.none_list pl.isList hA',.none_list pl.isList hA'⟩
   |tup us=>rw[TrAt]at hu;obtain⟨p,ys,rfl,q,_⟩:=hu;cases rb;obtain⟨_,_,pl,_⟩:=I.tuple q;simp only[teq];exact⟨.none_tuple pl hA',.none_tuple pl hA',.none_tuple pl hA'⟩
  |bl c=>
   rw[TrAt]at ht;subst ht;cases ra
   cases u with
   |non=>rw[TrAt]at hu;subst hu;cases rb;simp only[teq];exact⟨.bool_none _,.bool_none _,.bool_none _⟩
   |bl b=>rw[TrAt]at hu;subst hu;cases rb;rw[teq];exact⟨.bool_bool _ _,.bool_bool _ _,.bool_bool _ _⟩
   |int b=>rw[TrAt]at hu;subst hu;obtain⟨_,rfl⟩:=rb;rw[teq];exact⟨.bool_int _ _ _,.bool_int _ _ _,.bool_int _ _ _⟩
   |str b=>rw[TrAt]at hu;subst hu;obtain⟨_,rfl⟩:=rb;simp only[teq];exact⟨.bool_str _ _ _,.bool_str _ _ _,.bool_str _ _ _⟩
   |lst us=>rw[TrAt]at hu;obtain⟨p,ys,rfl,q,_⟩:=hu;cases rb;obtain⟨_,_,pl,_⟩:=I.list q;simp only[teq];exact⟨.bool_list _ pl.isList hA',.bool_list _ pl.isList hA',.bool_list _ pl.isList hA'⟩
   |tup us=>rw[TrAt]at hu;obtain⟨p,ys,rfl,q,_⟩:=hu;cases rb;obtain⟨_,_,pl,_⟩:=I.tuple q;simp only[teq];exact⟨.bool_tuple _ pl hA',.bool_tuple _ pl hA',.bool_tuple _ pl hA'⟩
  |int c=>
   rw[TrAt]at ht;subst ht;obtain⟨_,rfl⟩:=ra;cases u with
   |non=>rw[TrAt]at hu;subst hu;cases rb;simp only[teq];exact⟨.int_none _ _,.int_none _ _,.int_none _ _⟩
   |bl b=>rw[TrAt]at hu;subst hu;cases rb;rw[teq];exact⟨.int_bool _ _ _,.int_bool _ _ _,.int_bool _ _ _⟩
   |int b=>rw[TrAt]at hu;subst hu;obtain⟨_,rfl⟩:=rb;rw[teq];exact⟨.int_int _ _ _ _,.int_int _ _ _ _,.int_int _ _ _ _⟩
   |str b=>rw[TrAt]at hu;subst hu;obtain⟨_,rfl⟩:=rb;simp only[teq];exact⟨.int_str _ _ _ _,.int_str _ _ _ _,.int_str _ _ _ _⟩
   |lst us=>rw[TrAt]at hu;obtain⟨p,ys,rfl,q,_⟩:=hu;cases rb;obtain⟨_,_,pl,_⟩:=I.list q;simp only[teq];exact⟨.int_list _ _ pl.isList hA',.int_list _ _ pl.isList hA',.int_list _ _ pl.isList hA'⟩
   |tup us=>rw[TrAt]at hu;obtain⟨p,ys,rfl,q,_⟩:=hu;cases rb;obtain⟨_,_,pl,_⟩:=I.tuple q;simp only[teq];exact⟨.int_tuple _ _ pl hA',.int_tuple _ _ pl hA',.int_tuple _ _ pl hA'⟩
  |str c=>
   rw[TrAt]at ht;subst ht;obtain⟨_,rfl⟩:=ra;cases u with
   |non=>rw[TrAt]at hu;subst hu;cases rb;simp only[teq];exact⟨.str_none _ _,.str_none _ _,.str_none _ _⟩
   |bl b=>rw[TrAt]at hu;subst hu;cases rb;simp only[teq];exact⟨.str_bool _ _ _,.str_bool _ _ _,.str_bool _ _ _⟩
   |int b=>rw[TrAt]at hu;subst hu;obtain⟨_,rfl⟩:=rb;simp only[teq];exact⟨.str_int _ _ _ _,.str_int _ _ _ _,.str_int _ _ _ _⟩
   |str b=>rw[TrAt]at hu;subst hu;obtain⟨_,rfl⟩:=rb;rw[teq];exact⟨.str_str _ _ _ _,.str_str _ _ _ _,.str_str _ _ _ _⟩
   |lst us=>rw[TrAt]at hu;obtain⟨p,ys,rfl,q,_⟩:=hu;cases rb;obtain⟨_,_,pl,_⟩:=I.list q;simp only[teq];exact⟨.str_list _ _ pl.isList hA',.str_list _ _ pl.isList hA',.str_list _ _ pl.isList hA'⟩
   |tup us=>rw[TrAt]at hu;obtain⟨p,ys,rfl,q,_⟩:=hu;cases rb;obtain⟨_,_,pl,_⟩:=I.tuple q;simp only[teq];exact⟨.str_tuple _ _ pl hA',.str_tuple _ _ pl hA',.str_tuple _ _ pl hA'⟩
 |succ n ih=>
  intro t u v w a b A hd ht hu ra rb hA;have hA':A.units<iT:=by omega
  have items:∀{ts us:List Tr} {xs ys:List V} {its its2:List aG},qg ts<=n->TrsAt X.K H ts xs->TrsAt X.K H us ys->Vals xs its->Vals ys its2 ->
    ∀j (h1:j<its.toArray.size) (h2:j<its2.toArray.size),EqAt A.in1 s its.toArray[j] its2.toArray[j] (eAt ts us j):=by
   intro ts us xs ys its its2 hdn h1 h2 r1 r2 j hj1 hj2;have l1:=h1.length;have l2:=h2.length;have m1:=r1.length;have m2:=r2.length;rw[aK]at hj1 hj2;obtain⟨t,e⟩:∃t,ts[j]?=some t:=⟨_,aj (by omega)⟩
   obtain⟨u,e'⟩:∃u,us[j]?=some u:=⟨_,aj (by omega)⟩
   obtain⟨x,ex,hx⟩:=h1.get e;obtain⟨y,ey,hy⟩:=h2.get e';obtain⟨vx,fx,rx⟩:=r1.get ex;obtain⟨vy,fy,ry⟩:=r2.get ey;have g1:its.toArray[j]'(by simpa using hj1)=vx:=by
    have z:its[j]=vx:=bY ((aj hj1).symm.trans fx);simpa using z
   have g2:its2.toArray[j]'(by simpa using hj2)=vy:=by
    have z:its2[j]=vy:=bY ((aj hj2).symm.trans fy);simpa using z
   rw[g1,g2];have q:=(ih (A:=A.in1) (ao (QD (aJ e)) hdn) hx hy rx ry (by rw[units_in1];omega)).eq;unfold eAt;rw[e,e'];exact q
  by_cases hz:ZQ t<=n
  ·exact ih hz ht hu ra rb (by omega)
  cases t with
  |lst ts=>
   rw[TrAt]at ht;obtain⟨p,xs,rfl,q,h1⟩:=ht;cases ra
   obtain⟨its,r1,pl,_⟩:=I.list q;cases u with
   |non=>rw[TrAt]at hu;subst hu;cases rb;simp only[teq];exact⟨.list_none pl.isList hA',.list_none pl.isList hA',.list_none pl.isList hA'⟩
   |bl b=>rw[TrAt]at hu;subst hu;cases rb;simp only[teq];exact⟨.list_bool _ pl.isList hA',.list_bool _ pl.isList hA',.list_bool _ pl.isList hA'⟩
   |int b=>rw[TrAt]at hu;subst hu;obtain⟨_,rfl⟩:=rb;simp only[teq];exact⟨.list_int _ _ pl.isList hA',.list_int _ _ pl.isList hA',.list_int _ _ pl.isList hA'⟩
   |str b=>rw[TrAt]at hu;subst hu;obtain⟨_,rfl⟩:=rb;simp only[teq];exact⟨.list_str _ _ pl.isList hA',.list_str _ _ pl.isList hA',.list_str _ _ pl.isList hA'⟩
   |tup us=>rw[TrAt]at hu;obtain⟨p',ys,rfl,q',_⟩:=hu;cases rb;obtain⟨_,_,pl',_⟩:=I.tuple q';simp only[teq];exact⟨.list_tuple pl.isList pl' hA',.list_tuple pl.isList pl' hA',.list_tuple pl.isList pl' hA'⟩
   |lst us=>
    have hu0:=hu;rw[TrAt]at hu;obtain⟨p',ys,rfl,q',h2⟩:=hu;cases rb
    obtain⟨its2,r2,pl',_⟩:=I.list q';have l1:=h1.length;have l2:=h2.length;have m1:=r1.length;have m2:=r2.length;have hdn:qg ts<=n:=by rw[ZQ]at hd;omega
    have both:RcAt A s (.ref p) (.ref p') (Xl ts us)/\RcNeAt A s (.ref p) (.ref p') (!Xl ts us):=by
     by_cases hsz:ts.length=us.length
     ·have hs:its.toArray.size=its2.toArray.size:=by rw[aK,aK];omega
      have it:=items hdn h1 h2 r1 r2;have e1:(aD its.toArray.size).all (eAt ts us)=Xl ts us:=by
       rw[aK,<-m1,<-l1];exact zdY hsz
      have a1:=RcAt.lists pl.isList pl'.isList hs hA' it;have a2:=RcNeAt.lists pl.isList pl'.isList hs hA' it;rw[e1]at a1 a2;exact⟨a1,a2⟩
     ·have hs:(its.toArray.size != its2.toArray.size)=true:=by
       rw[aK,aK,bne_iff_ne];omega
      rw[QK hsz];exact⟨.lists_lengths pl.isList pl'.isList hs hA',.lists_lengths pl.isList pl'.isList hs hA'⟩
    rw[teq];refine⟨both.1,both.2,?_⟩;by_cases hpp:p=p'
    ·subst hpp;have e:Tr.lst ts=Tr.lst us:=zb1 I (n+1) hd (show TrAt X.K H (.lst ts) (.ref p) by rw[TrAt];exact⟨p,xs,rfl,q,h1⟩) hu0;cases e
     rw[V4];exact .same _
    ·exact .of_refs hpp both.1
  |tup ts=>
   rw[TrAt]at ht;obtain⟨p,xs,rfl,q,h1⟩:=ht;cases ra
   obtain⟨its,r1,pl,_⟩:=I.tuple q;cases u with
   |non=>rw[TrAt]at hu;subst hu;cases rb;simp only[teq];exact⟨.tuple_none pl hA',.tuple_none pl hA',.tuple_none pl hA'⟩
   |bl b=>rw[TrAt]at hu;subst hu;cases rb;simp only[teq];exact⟨.tuple_bool _ pl hA',.tuple_bool _ pl hA',.tuple_bool _ pl hA'⟩
   |int b=>rw[TrAt]at hu;subst hu;obtain⟨_,rfl⟩:=rb;simp only[teq];exact⟨.tuple_int _ _ pl hA',.tuple_int _ _ pl hA',.tuple_int _ _ pl hA'⟩
   |str b=>rw[TrAt]at hu;subst hu;obtain⟨_,rfl⟩:=rb;simp only[teq];exact⟨.tuple_str _ _ pl hA',.tuple_str _ _ pl hA',.tuple_str _ _ pl hA'⟩
   |lst us=>rw[TrAt]at hu;obtain⟨p',ys,rfl,q',_⟩:=hu;cases rb;obtain⟨_,_,pl',_⟩:=I.list q';simp only[teq];exact⟨.tuple_list pl pl'.isList hA',.tuple_list pl pl'.isList hA',.tuple_list pl pl'.isList hA'⟩
   |tup us=>
    have hu0:=hu;rw[TrAt]at hu;obtain⟨p',ys,rfl,q',h2⟩:=hu;cases rb
    obtain⟨its2,r2,pl',_⟩:=I.tuple q';have l1:=h1.length;have l2:=h2.length;have m1:=r1.length;have m2:=r2.length;have hdn:qg ts<=n:=by rw[ZQ]at hd;omega
    have e1:((aD (min its.toArray.size its2.toArray.size)).all (eAt ts us) && its.toArray.size == its2.toArray.size)=Xl ts us:=by
     rw[aK,aK,<-m1,<-l1,<-m2,<-l2];by_cases hsz:ts.length=us.length
     ·rw[<-hsz,Fl,beq_self_eq_true,Bool.and_true];exact zdY hsz
     ·rw[QK hsz,beq_eq_false_iff_ne.mpr hsz,rn]
    have it:=items hdn h1 h2 r1 r2;have a1:=RcAt.tuples pl pl' hA' it;have a2:=RcNeAt.tuples pl pl' hA' it;rw[e1]at a1 a2;rw[teq];refine⟨a1,a2,?_⟩;by_cases hpp:p=p'
    ·subst hpp;have e:Tr.tup ts=Tr.tup us:=zb1 I (n+1) hd (show TrAt X.K H (.tup ts) (.ref p) by rw[TrAt];exact⟨p,xs,rfl,q,h1⟩) hu0;cases e
     rw[V4];exact .same _
    ·exact .of_refs hpp a1
  |non=>exact absurd (bK _) hz
  |bl b=>exact absurd (bK _) hz
  |int b=>exact absurd (bK _) hz
  |str b=>exact absurd (bK _) hz
end
section
variable {X:Cx}
inductive EqI (K:aN) (neg:Bool) (x y:V) (H:Hp) (Q:VK):Prop
 |mk (t u:Tr) (h1:TrAt K H t x) (h2:TrAt K H u y) (h3:ZQ t<=8) (q:Q (.bl (if neg then !teq t u else teq t u)) H):EqI K neg x y H Q
def zgu(K:aN)(neg:Bool):R2:=λx y H Q=>EqI K neg x y H Q
theorem zkT(hu:X.A.units+64<iT):OpR X (dw .Eq) (zgu X.K false):=by
 intro pins s Z H x y v u Q I rx ry h;obtain⟨t,t',h1,h2,hd,q⟩:=h;exact (zbK I 8 hd h1 h2 rx ry (by omega)).rc _ _ _ _ ⟨.bl _,H,I,rfl,q⟩
theorem zk0(hu:X.A.units+64<iT):OpR X (dw .NotEq) (zgu X.K true):=by
 intro pins s Z H x y v u Q I rx ry h;obtain⟨t,t',h1,h2,hd,q⟩:=h;exact (zbK I 8 hd h1 h2 rx ry (by omega)).ne _ _ _ _ ⟨.bl _,H,I,rfl,q⟩
open Classical in
def zge(K:aN)(neg:Bool):R2:=λx y H Q=>Ex4 λp xs ts u=>y=.ref p/\SqL K H p xs/\TrsAt K H ts xs/\TrAt K H u x/\qg ts<=8/\Q (.bl (if neg then !(ts.any λt=>teq t u) else ts.any λt=>teq t u)) H
open Classical in
theorem zcX{pins:List (aq×kj)}{Z:St}{H:Hp}{s:aR}(I:Inv X pins Z H s){u:Tr}:∀{ts:List Tr} {xs:List V} {its:List aG},qg ts<=8->TrsAt X.K H ts xs->Vals xs its ->
  its.any (λy=>decide (∃t x,RelV x y/\TrAt X.K H t x/\teq t u=true))=ts.any λt=>teq t u
 |[],xs,its,_,h,r=>by rw[TrsAt]at h;subst h;cases r;rfl
 |t::ts,xs,its,hd,h,r=>by
  rw[TrsAt]at h;obtain⟨y,ys,rfl,hy,h⟩:=h;cases r with
  |cons r1 r2=>
   rw[qg]at hd;rw[kZ,kZ,zcX I (by omega) h r2];congr 1;rw[bD,decide_eq_true_iff];constructor
   ·rintro⟨t',x',r',h',e⟩;rw[r1.inj r']at hy;rw[zb1 I 8 (by omega) hy h'];exact e
   ·intro e;exact⟨t,y,r1,hy,e⟩
open Classical in
theorem zdV{pins:List (aq×kj)}{Z:St}{H:Hp}{s:aR}(I:Inv X pins Z H s)(hu:X.A.units+64<iT){u:Tr}{x:V}{v:aG}(hx:TrAt X.K H u x)(rx:RelV x v){ts:List Tr}{xs:List V}{its:List aG}(hd:qg ts<=8)(h:TrsAt X.K H ts xs)(r:Vals xs its):
  ∀y,y∈its.toArray->GQ X.A.in1 s y v (decide (∃t x,RelV x y/\TrAt X.K H t x/\teq t u=true)):=by
 intro y hy;have hy':y∈its:=by simpa using hy
 obtain⟨j,hj,e⟩:=rT hy';have l1:=h.length;have m1:=r.length;obtain⟨t,et⟩:∃t,ts[j]?=some t:=⟨_,aj (by omega)⟩
 obtain⟨z,ez,hz⟩:=h.get et;obtain⟨w,ew,rw'⟩:=r.get ez;have e':y=w:=by
  rw[aj hj]at ew;exact e.symm.trans (bY ew)
 subst e';have hd':ZQ t<=8:=ao (QD (aJ et)) hd;have q:=(zbK I 8 (A:=X.A.in1) hd' hz hx rw' rx (by rw[units_in1];omega)).eq;have e2:decide (∃t x,RelV x y/\TrAt X.K H t x/\teq t u=true)=teq t u:=by
  rw[bD,decide_eq_true_iff];constructor
  ·rintro⟨t',x',r',h',e3⟩;rw[rw'.inj r']at hz;rw[zb1 I 8 hd' hz h'];exact e3
  ·intro e3;exact⟨t,z,rw',hz,e3⟩
 rw[e2];exact q
open Classical in
theorem zkZ(hu:X.A.units+64<iT):OpR X (dw .In) (zge X.K false):=by
 intro pins s Z H x y v u Q I rx ry h;obtain⟨p,xs,ts,t,rfl,hq,hts,ht,hd,q⟩:=h;cases ry
 obtain⟨its,r,pl,hz⟩:=I.list hq;refine SeqAt.in_listAt _ pl.isList (zdV I hu ht rx hd hts r) ⟨.bl _,H,I,rfl,?_⟩;simp only[Cw];rw[zcX I hd hts r];exact q
open Classical in
theorem zik(hu:X.A.units+64<iT):OpR X (dw .NotIn) (zge X.K true):=by
 intro pins s Z H x y v u Q I rx ry h;obtain⟨p,xs,ts,t,rfl,hq,hts,ht,hd,q⟩:=h;cases ry
 obtain⟨its,r,pl,hz⟩:=I.list hq;refine SeqAt.notIn_listAt _ pl.isList (zdV I hu ht rx hd hts r) ⟨.bl _,H,I,rfl,?_⟩;simp only[Cw];rw[zcX I hd hts r];exact q
end
end L2
namespace L2
open PySem PySem.Spec PyProof.Rows
theorem zeV{K:aN}(h1:Hv U=true)(h2:(fastBuiltinMro T).map (·.contains (gM U))=some b)(hb:T=U->b=true):lO K (.type T) (.type U)=some b:=by
 unfold lO;by_cases e:T=U
 ·subst e;rw[if_pos (by simp),hb rfl]
 ·rw[if_neg (by simpa using e)];show (if Hv U=true then W.subIn K (.type T) (.type U) else none)=some b;rw[if_pos h1];exact h2
section
variable {K:aN}
theorem zfR:lO K (.type "int") (.type "int")=some true:=zeV (by decide +kernel) (by decide +kernel) (λ_=>rfl)
theorem zep:lO K (.type "int") (.type "bool")=some false:=zeV (by decide +kernel) (by decide +kernel) (λe=>absurd e (by decide))
theorem Vu:lO K (.type "list") (.type "list")=some true:=zeV (by decide +kernel) (by decide +kernel) (λ_=>rfl)
theorem zbv:lO K (.type "tuple") (.type "tuple")=some true:=zeV (by decide +kernel) (by decide +kernel) (λ_=>rfl)
end
section
variable {X:Cx}
inductive IsI (K:aN) (xs:List V) (H:Hp) (Q:VK):Prop
 |mk (x:V) (T:String) (t:aG) (b:Bool) (h1:xs=[x,.ty T]) (h2:zaI K H x t) (h3:lO K t (.type T)=some b) (q:Q (.bl b) H):IsI K xs H Q
def zlI(K:aN):List V->Hp->VK->Prop:=λxs H Q=>IsI K xs H Q
theorem zcD:Zu X (.builtin "isinstance") (zlI X.K):=by
 intro pins s Z H xs us Q I r h;obtain⟨x,T,t,b,rfl,ty,e,q⟩:=h;obtain⟨u,v,rfl,rx,rt⟩:=vals2 r;cases rt
 exact zic I rx ty e λtk=>⟨.bl b,H,I.tok tk,rfl,q⟩
def zlL(i j:Int):Prop:=0<j/\j<2^200
theorem VL:OpR X (mD .FloorDiv) (rI zlL λi j=>.int (i / j)):=opI λi j _ _ _ _ _ hc q=>by
 have h1:(0:Int)<j:=hc.1;have h2:j<2^200:=hc.2;refine floordiv_int (by omega) (by rw[Int.fdiv_eq_ediv_of_nonneg i (by omega)];exact q) (.inl (Ep ?_));have h3:j.natAbs<2^200:=by omega
 have h4:j.natAbs.log2<200:=(Nat.log2_lt (by omega)).mpr h3;omega
theorem za6{bs:List Bool}(r:Vals (bs.map V.bl) its):TruthOf P w A (λi v=>its.toArray[i]?=some v) (λi=>bs.getD i false):=by
 intro i v s Q E hP hQ;have hl:=r.length;rw[aa]at hl;have e:its[i]?=some v:=by simpa using hP
 have hi:i<its.length:=(aO.mp e).1;have e2:(bs.map V.bl)[i]?=some (.bl (bs[i]'(by omega))):=by rw[ak,aj (by omega)];rfl
 obtain⟨u,e3,r3⟩:=r.get e2;rw[e]at e3;cases e3
 cases r3;have e4:bs.getD i false=bs[i]:=by rw[aL,aj (by omega)];rfl
 exact dM (e4▸hQ)
theorem zfd:∀bs:List Bool,(aD bs.length).all (λi=>bs.getD i false)=bs.all id
 |[]=>rfl
 |b::bs=>by
  rw[bB,iw,sE,pC,sE,<-zfd bs];rfl
theorem zfA:∀bs:List Bool,(aD bs.length).any (λi=>bs.getD i false)=bs.any id
 |[]=>rfl
 |b::bs=>by
  rw[bB,iw,kZ,kE,kZ,<-zfA bs];rfl
def zlN(K:aN):List V->Hp->VK->Prop:=λxs H Q=>Ex2 λ(a:aq) (bs:List Bool)=>xs=[.ref a]/\SqL K H a (bs.map V.bl)/\Q (.bl (bs.all id)) H
def zlZ(K:aN):List V->Hp->VK->Prop:=λxs H Q=>Ex2 λ(a:aq) (bs:List Bool)=>xs=[.ref a]/\SqL K H a (bs.map V.bl)/\Q (.bl (bs.any id)) H
theorem zi5(hc:X.calm=true):Zu X (.builtin "all") (zlN X.K):=by
 intro pins s Z H xs us Q I r h;obtain⟨a,bs,rfl,hq,q⟩:=h;obtain⟨u,rfl,rx⟩:=vals1 r;cases rx
 obtain⟨its,rv,pl,hz⟩:=I.list hq;have hl:=rv.length;rw[aa]at hl;obtain⟨o,n,eo,_⟩:=id pl;have hne:a≠s.heap.objs.size:=bA (aQ eo);refine call_all_walk (nY pl.isList ?_);refine⟨_,_,_,_,_,_,_,rfl,Ha (A:=X.A.in1) (show X.A.in1.handled=none from I.ok.hd hc) s.heap.objs.size a hne its.toArray,⟨⟨_,bC _ rfl,rfl,rfl⟩,pl.isList.at λo e=>az _ e⟩,za6 rv,λh' tk hk=>?_⟩;have I1:Inv X pins Z H { s with heap:=h',toks:=tk }:=I.kept λb o e=>hk b o (by have:=aQ e;simp;exact bA this) (az _ e);refine⟨.bl _,H,I1,rfl,?_⟩;rw[aK,<-hl,zfd];exact q
theorem zjF(hc:X.calm=true):Zu X (.builtin "any") (zlZ X.K):=by
 intro pins s Z H xs us Q I r h;obtain⟨a,bs,rfl,hq,q⟩:=h;obtain⟨u,rfl,rx⟩:=vals1 r;cases rx
 obtain⟨its,rv,pl,hz⟩:=I.list hq;have hl:=rv.length;rw[aa]at hl;obtain⟨o,n,eo,_⟩:=id pl;have hne:a≠s.heap.objs.size:=bA (aQ eo);refine call_any_walk (nY pl.isList ?_);refine⟨_,_,_,_,_,_,_,rfl,Ha (A:=X.A.in1) (show X.A.in1.handled=none from I.ok.hd hc) s.heap.objs.size a hne its.toArray,⟨⟨_,bC _ rfl,rfl,rfl⟩,pl.isList.at λo e=>az _ e⟩,za6 rv,λh' tk hk=>?_⟩;have I1:Inv X pins Z H { s with heap:=h',toks:=tk }:=I.kept λb o e=>hk b o (by have:=aQ e;simp;exact bA this) (az _ e);refine⟨.bl _,H,I1,rfl,?_⟩;rw[aK,<-hl,zfA];exact q
theorem ziC:DR (.type "list_reverseiterator") "__len__"= pure none:=by rw[Dj,pN];kernel_rfl
theorem zj6:DR (.type "list_reverseiterator") "__length_hint__"= pure (some (.builtin "list_reverseiterator.__length_hint__")):=by rw[Dj,pN];kernel_rfl
section
variable {prog:cg} {w:cT} {A:eH} {E:aG->aR->Prop} {s:aR}
theorem zf4(hh:A.handled=none)(hit:s.heap.IsRevIter I l ((items.size:Int)-1))(hL:s.heap.IsList l items)(S:aq)(res:aG)(c₀:Nat)(hS:s.heap.get? S=some { cls:=.type "list",data:=.seq #[] c₀ })(hSl:S≠l)(hR:∀s' acc' c',Moved [S,I] (λa b=>b=a) s s'->s'.heap.get? S=some { cls:=.type "list",dict:=none,data:=.seq acc' c',slots:=#[] } ->
   Fo (λi v=>items[items.size-1-i]?=some v) acc' items.size->R (.ok (.ret res)) s')(hn:items.size<=aZ):
  bJ (bR prog w) A.in1 (fX (.ref S) (.ref I) res)
   (λfin s'=>match fin with | .done f=>R (.ok f) s' | .again c'=>c'.quiet=true/\lN (bR prog w) A c' R s') (λe s'=>R (.error e) s') s:=by
 obtain⟨oi,hoi,hci,hdi⟩:=id hit;obtain⟨ol,hol,hcl,nl,hdl⟩:=id hL;have hSI:S≠I:=by
  rintro rfl;rw[hS]at hoi;cases hoi;exact absurd (show gM "list"= gM "list_reverseiterator" from hci) (by decide)
 have hne:l≠I:=by
  rintro rfl;rw[hol]at hoi;cases hoi;rw[hcl]at hci;exact absurd hci (by decide)
 have hSf:S∉[I,l]:=λhm=>by
  rcases aP.mp hm with e | hm
  ·exact hSI e
  ·exact hSl (cJ.mp hm)
 unfold fX;refine aH (Fp (T:="list_reverseiterator") hit.typeIs ?_);have h1:oH (.ref S) (.ref I)=false:=by simp[oH,hSI]
 have h2:(gM "list_reverseiterator"== gM "list")=false:=by decide
 have h3:(gM "list_reverseiterator"== gM "tuple")=false:=by decide
 simp only[h1,h2,h3,Bool.or_false,eQ,if_false];refine aH (wpAny_pyIter_revIter hit ?_);refine aH (my ?_);unfold Dv;refine aH (Dk hit.typeIs ziC ?_);show bJ _ A.in1 (specialOf (aY I) (m7 "__length_hint__") >>= _) _ _ _;refine aH (Dk hit.typeIs zj6 ?_);generalize hid:("list_reverseiterator.__length_hint__" : String)=id0
 wp_delta
 rw[show splitId id0=some ("list_reverseiterator","__length_hint__") from by subst hid;decide +kernel];subst hid;refine aH (wpAny_isInstance (b:=true) hit.typeIs (by rw[isSubtype_type];kernel_rfl) ?_);refine bW ?_;rw[if_neg (by decide)];have W:=Walks.listRev (prog:=prog) (w:=w) (A:=A.in1) hh I l hne items;refine bW ⟨sG F.plain_extend_loop _,codeAny_extend_loopS W.toS hn _ hSf _ items.size 0 _ _ _ rfl (bK _) ⟨bK _,by simpa using hit,hL⟩ hS (Ij _) λs' acc' c' hm hS' hacc=>?_⟩;exact hR s' acc' c' hm hS' hacc
theorem ziI(hh:A.handled=none)(hit:s.heap.IsRevIter I l ((items.size:Int)-1))(hL:s.heap.IsList l items)(S:aq)(hS:s.heap.get? S=some { cls:=.type "list",data:=.seq #[] })(hSl:S≠l)(hSI:S≠I)(hR:∀s' acc' c',s'.gens=s.gens->s'.os=s.os->(∀b o,b≠S->b≠I->s.heap.get? b=some o->s'.heap.get? b=some o)->s'.heap.get? S=some { cls:=.type "list",dict:=none,data:=.seq acc' c',slots:=#[] } ->
   Fo (λi v=>items[items.size-1-i]?=some v) acc' items.size->R (.ok (.ret .none)) s')(hn:items.size<=aZ):
  bJ (bR prog w) A.in1 (rP.«list.__init__» ⟨[.ref S,.ref I],[]⟩)
   (λfin s'=>match fin with | .done f=>R (.ok f) s' | .again c'=>c'.quiet=true/\lN (bR prog w) A c' R s') (λe s'=>R (.error e) s') s:=by
 show bJ _ _ (do let old <-pD (.ref S);EY (.ref S) (λ_=>#[]);letGo old.toList.reverse;fX (.ref S) (.ref I) .none) _ _ s;refine aH ?_;unfold pD;refine aH (wpAny_seqItems hS rfl (bW ?_));show bJ _ _ (updateSeq S (λ_=>#[]) >>= λ_=>letGo (#[]:Array aG).toList.reverse >>= λ_=>fX (.ref S) (.ref I) .none) _ _ s;refine aH (wpAny_updateSeq hS rfl ?_);have hS₂:=Heap.get?_update_self (dC (λ_=>(#[]:Array aG))) hS rfl;have oth:∀b o,b≠S->s.heap.get? b=some o->(s.heap.update S (dC (λ_=>(#[]:Array aG)))).get? b=some o :=
  λb o hb e=>(dW _ _ (cP hb)).trans e
 refine aH (Gj ?_);refine zf4 (hn:=hn) hh (hit.at λo e=>oth I o (cP hSI) e) (hL.at λo e=>oth l o (cP hSl) e) S .none _ hS₂ hSl λs' acc' c' hm hS' hacc=>?_;refine hR s' acc' c' hm.gens hm.os (λb o hb hi e=>hm.heap b o (λz=>?_) (oth b o hb e)) hS' hacc;rcases aP.mp z with e' | z
 ·exact hb e'
 ·exact hi (cJ.mp z)
theorem J9(hh:A.handled=none)(hit:s.heap.IsRevIter I l ((items.size:Int)-1))(hL:s.heap.IsList l items)(hQ:∀s' acc' c',s'.gens=s.gens->s'.os=s.os->(∀b o,b≠I->s.heap.get? b=some o->s'.heap.get? b=some o) ->
   s'.heap.get? s.heap.objs.size=some { cls:=.type "list",dict:=none,data:=.seq acc' c',slots:=#[] }->Fo (λi v=>items[items.size-1-i]?=some v) acc' items.size->Q (.ref s.heap.objs.size) s')(hn:items.size<=aZ):
  bJ (bR prog w) A (call (.type "list") [.ref I]) Q E s:=by
 refine callType_codes (Q₁:=λobj s₁=>obj=.ref s.heap.objs.size/\s₁={ s with heap:=s.heap.push { cls:=.type "list",data:=.seq #[] } }) F.called_list (F.typeCall_list_1 _) F.entry_list_init
  (code_list_new _ ⟨rfl,rfl⟩) λobj s₁ h₁=>?_
 obtain⟨rfl,rfl⟩:=h₁;have hS:(s.heap.push { cls:=.type "list",data:=.seq #[] }).get? s.heap.objs.size=some { cls:=.type "list",data:=.seq #[] }:=bC _ rfl;obtain⟨oi,hoi,_⟩:=id hit;obtain⟨ol,hol,_⟩:=id hL;refine⟨⟨_,hS,rfl⟩,F.args_list_init_2 _ _,ziI (A:=A.in1) (hn:=hn) hh (hit.at λo e=>az _ e) (hL.at λo e=>az _ e) _ hS (fj (aQ hol)) (fj (aQ hoi)) λs' acc' c' hg ho hk hS' hacc=>?_⟩;exact⟨rfl,hQ s' acc' c' hg ho (λb o hI e=>hk b o (bA (aQ e)) hI (az _ e)) hS' hacc⟩
end
theorem zh5{items acc:Array aG}(h:Fo (λi v=>items[items.size-1-i]?=some v) acc items.size):acc=items.toList.reverse.toArray:=by
 apply Array.ext_getElem?;intro i;by_cases hi:i<items.size
 ·have e:acc[i]?=some (acc[i]'(by rw[h.1];exact hi)):=Array.getElem?_eq_getElem _;have q:=h.2 i _ e;rw[e,<-q];simp[List.getElem?_reverse,hi]
 ·rw[pF (by rw[h.1];omega),pF (by simp;omega)]
def zjm(K:aN)(te:TE):TE:=λZ H Q=>te Z H λx H1=>Ex2 λl ys=>x=.ref l/\SqL K H1 l ys/\∀q,H1 q=none->Q (.ref q) (upd H1 q (.lst ys.reverse))
theorem zgK{p1 p2 pos1 pos2:mV}(hc:X.calm=true)(hg1:Gl X "list")(hm1:X.mg "list"= none)(hg2:Gl X "reversed")(hm2:X.mg "reversed"= none)(he:PE X e te)(hs:bF [e] X.env=[(false,dI e X.env)]:=by rfl)(hs2:bF [.Call (.Name "reversed" p2) [e] [] pos2] X.env=[(false,dI (.Call (.Name "reversed" p2) [e] [] pos2) X.env)]:=by rfl):
  PE X (.Call (.Name "list" p1) [.Call (.Name "reversed" p2) [e] [] pos2] [] pos1) (zjm X.K te):=by
 intro pins s Z H Q I h;refine di (Zk I hg1 hm1 gW ?_);refine cC ?_ hs2 rfl;rw[hs2];show bJ _ _ (Bt ((false,dI (.Call (.Name "reversed" p2) [e] [] pos2) X.env)::gh pos1 [])) _ _ s;refine il ?_;refine di (Zk I hg2 hm2 boot_reversed ?_);refine cC ?_ hs rfl;rw[hs];show bJ _ _ (Bt ((false,dI e X.env)::gh pos2 [])) _ _ s;refine il (thn (he pins s Z H _ I h) λv s1 ⟨x,H1,I1,r1,q1⟩=>iU ?_);obtain⟨l,ys,rfl,hq,q⟩:=q1;cases r1
 obtain⟨its,rv,pl,hz⟩:=I1.list hq;have hl:=rv.length;refine call_reversed_list pl.isList (iU ?_);have hsz:(its.toArray.size:Int)=(ys.length:Int):=by rw[aK,hl]
 refine J9 (s:={ s1 with heap:=s1.heap.push (HJ l ((its.toArray.size:Int)-1)) }) (I1.ok.hd hc) (I:=s1.heap.objs.size) (l:=l) (items:=its.toArray) ⟨_,bC _ rfl,rfl,rfl⟩ (pl.isList.at λo e=>az _ e) (λs' acc c hgn ho hk hS hacc=>?_) (by rw[aK,<-hl];exact hz);have e1:(s1.heap.push (HJ l ((its.toArray.size:Int)-1))).objs.size=s1.heap.objs.size+1:=iW _ _;rw[show ({ s1 with heap:=s1.heap.push (HJ l ((its.toArray.size:Int)-1)) }:aR).heap.objs.size=s1.heap.objs.size+1 from e1]at hS ⊢;have kept:∀b o,s1.heap.get? b=some o->s'.heap.get? b=some o:=λb o e=>hk b o (bA (aQ e)) (az _ e);have hokL:=I1.laid (a:=s1.heap.objs.size+1) (o:=.lst ys.reverse) (h':=s'.heap) (t':=s'.toks) kept (eY _) ⟨by rw[kW];exact hz,its.reverse,c,rv.reverse,by rw[hS,zh5 hacc]⟩;have I2:Inv X pins Z (upd H1 (s1.heap.objs.size+1) (.lst ys.reverse)) s':=by
  refine I1.call' (ch:=[]) (by rw[ho]) ?_ hokL.hok (by rw[hgn];exact I1.bare) λb z=>absurd z (by simp);exact Un.laid kept (eY _) (I1.hok.fresh (eY _))
 exact⟨.ref _,_,I2,rfl,q _ (I1.hok.fresh (eY _))⟩
end
section
variable {X:Cx} (K:aN)
theorem zhp(e:X.K=K:=by rfl):Zu X (.builtin "isinstance") (zlI K):=by subst e;exact zcD
theorem xG(e:X.K=K:=by rfl):Zu X (.builtin "len") (λxs H Q=>∃p ys,xs=[.ref p]/\(SqL K H p ys\/SqT K H p ys)/\Q (.int ys.length) H):=by subst e;exact zeD
theorem wJ(e:X.K=K:=by rfl):IxR X (ziO K):=by subst e;exact zkv
theorem yP(e:X.K=K:=by rfl):IxR X (zjT K):=by subst e;exact zlG
theorem V1(e:X.K=K:=by rfl):SlR X (zlE K):=by subst e;exact zkg
theorem k_all(hc:X.calm=true)(e:X.K=K:=by rfl):Zu X (.builtin "all") (zlN K):=by subst e;exact zi5 hc
theorem zfa(hc:X.calm=true)(e:X.K=K:=by rfl):Zu X (.builtin "any") (zlZ K):=by subst e;exact zjF hc
theorem Wz(e:X.K=K:=by rfl):Zu X (.type "list") (λxs H Q=>∃p ys,xs=[.ref p]/\(SqL K H p ys\/SqT K H p ys)/\∀l,H l=none->Q (.ref l) (upd H l (.lst ys))):=by subst e;exact zd1
theorem U5(hu:X.A.units+64<iT)(e:X.K=K:=by rfl):OpR X (dw .Eq) (zgu K false):=by subst e;exact zkT hu
theorem Yk(hu:X.A.units+64<iT)(e:X.K=K:=by rfl):OpR X (dw .NotEq) (zgu K true):=by subst e;exact zk0 hu
theorem zhb(hu:X.A.units+64<iT)(e:X.K=K:=by rfl):OpR X (dw .In) (zge K false):=by subst e;exact zkZ hu
theorem Xb(hu:X.A.units+64<iT)(e:X.K=K:=by rfl):OpR X (dw .NotIn) (zge K true):=by subst e;exact zik hu
theorem jh(hl:PE X l tl)(e:X.K=K:=by rfl):PI X tg l (zjk K tl):=by subst e;exact zjO hl
end
structure Df (K:aN) (mg:cG->Option aG) (x:cG) (st:cz) (ps:List cG) (f:aq) (fd:iY):Prop where
 fn:Fun K x x st f fd
 b:Binds K fd ps []
 g:mg x=some (.ref f)
theorem zK{st:cz}{p pos:mV}(D:Df X.K X.mg x st ps f fd)(G:FnOk X.prog X.w X.K X.mg X.base CX0 k f fd ps sp)(hr:Room k X.A)(ha:PA X (e::es) t)(hg:Gl X x:=by rfl)(hdb:(x == ("__debug__" : cG))=false:=by decide)(he:bF (e::es) X.env=(false,dI e X.env)::bF es X.env:=by rfl)(hpl:(gh pos (bF es X.env)).any (·.1)=false:=by rfl):PE X (.Call (.Name x p) (e::es) [] pos) (ziV sp [] E0 t):=
 zj4 G hr hg D.g D.fn.kp D.b .nil Xf ha hdb he hpl
theorem zl6{K:aN}{st:cz}{kV doc pm cdv ct:aG}(X:K.In h)(G:h.Ns bZ mg)(a:lQ K bZ x=some (some (.ref f)))(l:K.lookup f=some ⟨oc,od,.func (oE x x (X6 st) (zj st) (zp st) .none kV doc pm an cdv ct),osl⟩)(c:Bw K cdv x=true)(k:nH K (.ref f)=true)(hb:∀kV doc pm an cdv ct us,us.length=ps.length->p6 (oE x x (X6 st) (zj st) (zp st) .none kV doc pm an cdv ct) ⟨us,[]⟩=pure (ps.zip us)):
  Df K mg x st ps f (oE x x (X6 st) (zj st) (zp st) .none kV doc pm an cdv ct):=
 ⟨zel l c k,(zel (st:=st) l c k).binds hb,W.mg_of X G a⟩
structure Blt (mg:cG->Option aG):Prop where
 n_isinstance:mg "isinstance"= none
 n_int:mg "int"= none
 n_bool:mg "bool"= none
 n_list:mg "list"= none
 n_tuple:mg "tuple"= none
 n_reversed:mg "reversed"= none
 n_len:mg "len"= none
 n_max:mg "max"= none
 n_min:mg "min"= none
 n_range:mg "range"= none
 n_all:mg "all"= none
 n_any:mg "any"= none
 n_sorted:mg "sorted"= none
 n_enumerate:mg "enumerate"= none
 n_repr:mg "repr"= none
theorem Vv(hr:Room k A):A.units+64<iT:=hr.units
def aw(fp:List aq)(H:Hp):Hp:=λb=>if b∈fp then none else H b
theorem Vk(h:b∈fp):aw fp H b=none:=by unfold aw;rw[if_pos h]
theorem yq(h:b∉fp):aw fp H b=H b:=by unfold aw;rw[if_neg h]
theorem yj(fp:List aq)(H:Hp):Same (aw fp H) H:=λb o e=>by
 by_cases h:b∈fp
 ·rw[Vk h]at e;cases e
 ·rw[yq h]at e;exact e
theorem Same.aw(h:Same H H')(fp:List aq):Same (aw fp H) (aw fp H'):=λb o e=>by
 by_cases hb:b∈fp
 ·rw[Vk hb]at e;cases e
 ·rw[yq hb]at e ⊢;exact h b o e
theorem zy(h:H p=none):Same H (upd H p o):=λb u e=>by rw[zA (zF e h)];exact e
end L2
namespace HT
open PySem PyProof.Rows
section
open PySem.SeqAt
open PySem.AutoSeq1 (wpAny_loadPart')
open PySem.MeetsSeq PySem.MeetsSeq2 PySem.MeetsSeq3 PySem.SeqRoads2
theorem zgY(h:iu vs ns)(hi:i<ns.length):∃t,vs[i]?=some (.int (ns[i]) t):=by
 induction h generalizing i with
 |nil=>simp at hi
 |cons a t h ih=>
  cases i with
  |zero=>exact⟨t,rfl⟩
  |succ i=>
   obtain⟨t',e⟩:=ih (i:=i) (by simpa using hi);exact⟨t',by simpa using e⟩
theorem zjS(l b:aq)(items items2:Array aG)(n n2:Nat)(dd dd2:Option aq)(sl sl2:Array (Option aG))(ns ms:List Int)(hi:iu items.toList ns)(hj:iu items2.toList ms)(k:Nat):
  ∀i:Nat,ns.length-i=k->i<=ns.length->i<=ms.length->Meets (rP.«list.__eq__.loop» ⟨[.ref l,.ref b,iQ i,iQ 0],[]⟩)
   (λ_ R s=>s.heap.get? l=some { cls:=.type "list",dict:=dd,data:=.seq items n,slots:=sl }/\s.heap.get? b=some { cls:=.type "list",dict:=dd2,data:=.seq items2 n2,slots:=sl2 } /\
    R (.ok (.ret (.bool (lexLt (ns.drop i) (ms.drop i))))) s):=by
 have z1:items.size=ns.length:=by rw[<-hi.length];simp
 have z2:items2.size=ms.length:=by rw[<-hj.length];simp
 induction k with
 |zero=>
  intro i hk h1 h2 prog w A R s h;obtain⟨hp,g,d,tk,os⟩:=s;obtain⟨hl,hb,h⟩:=h;have hin:i=ns.length:=by omega
  wp_walk using cY hl,cY hb
  have hi1:items[((i:Nat):Int).toNat]?=none:=by simp;omega
  have hd:ns.drop i=[]:=by simp;omega
  rw[hd]at h;rw[hi1]
  wp_walk using cY hl,cY hb
  show R (.ok (.ret (.bool (decide (items.size<items2.size))))) _;have e:lexLt [] (ms.drop i)=decide (items.size<items2.size):=by
   cases q:ms.drop i with
   |nil=>
    rw[Jc];have:ms.length<=i:=by simpa using List.drop_eq_nil_iff.mp q
    exact (decide_eq_false (by omega)).symm
   |cons x y=>
    rw[zcB];have:i<ms.length:=by
     by_cases z:i<ms.length
     ·exact z
     ·rw[cN (by omega)]at q;cases q
    exact (decide_eq_true (by omega)).symm
  rw[<-e];exact h
 |succ k ih=>
  intro i hk h1 h2 prog w A R s h;obtain⟨hp,g,d,tk,os⟩:=s;obtain⟨hl,hb,h⟩:=h;have hlt:i<ns.length:=by omega
  obtain⟨t,et⟩:=zgY hi hlt;have hi1:items[((i:Nat):Int).toNat]?=some (.int (ns[i]) t):=by simpa using et
  by_cases hm:i<ms.length
  ·obtain⟨u,eu⟩:=zgY hj hm;have hi2:items2[((i:Nat):Int).toNat]?=some (.int (ms[i]) u):=by simpa using eu
   wp_walk using cY hl,cY hb
   rw[gq hlt,gq hm,Wy]at h;have hc:((i:Int)+1)=((i+1:Nat):Int):=by push_cast;rfl
   rw[hi1,hi2];obtain⟨e,he,hiff⟩:=zjK A.in1 ⟨hp,g,d,tk,os⟩ (ns[i]) t (ms[i]) u;refine aH (he prog w _ _ ?_);cases e with
   |true=>
    rw[if_pos (hiff.mp rfl)]at h
    wp_walk
    rw[hc];exact⟨sG plain_eq_loop _,Dl entry_eq_loop (by
     rw[rB plain_eq_loop _];exact ih (i+1) (by omega) (by omega) (by omega) prog w A R _ ⟨hl,hb,h⟩)⟩
   |false=>
    rw[if_neg (λq=>absurd (hiff.mpr q) bu)]at h;have hri:=ziK A.in1 ⟨hp,g,d,tk,os⟩ (ns[i]) t (ms[i]) u prog w
    wp_walk using cY hl,cY hb
    rw[hi1,hi2]
    wp_walk using hri
    simpa using h
  ·have hi2:items2[((i:Nat):Int).toNat]?=none:=by simp;omega
   wp_walk using cY hl,cY hb
   rw[gq hlt,cN (show ms.length<=i by omega),ZR]at h;rw[hi1,hi2]
   wp_walk using cY hl,cY hb
   show R (.ok (.ret (.bool (decide (items.size<items2.size))))) _;rw[decide_eq_false (by omega)];exact h
theorem zaf(l b:aq)(items items2:Array aG)(n n2:Nat)(dd dd2:Option aq)(sl sl2:Array (Option aG))(ns ms:List Int)(hi:iu items.toList ns)(hj:iu items2.toList ms):
  Meets (rP.«list.__lt__» ⟨[.ref l,.ref b],[]⟩)
   (λ_ R s=>s.heap.get? l=some { cls:=.type "list",dict:=dd,data:=.seq items n,slots:=sl }/\s.heap.get? b=some { cls:=.type "list",dict:=dd2,data:=.seq items2 n2,slots:=sl2 } /\
    R (.ok (.ret (.bool (lexLt ns ms)))) s):=by
 intro prog w A R s h;obtain⟨hp,g,d,tk,os⟩:=s;obtain⟨hl,hb,h⟩:=h;have f3:=Fq
 wp_walk using cY hl,cY hb
 exact⟨sG plain_eq_loop _,Dl entry_eq_loop (by
  rw[rB plain_eq_loop _];exact zjS l b items items2 n n2 dd dd2 sl sl2 ns ms hi hj _ 0 rfl (bK _) (bK _) prog w A R _ ⟨hl,hb,by simpa using h⟩)⟩
end
section
variable {prog:cg} {w:cT} {A:eH} {E:aG->aR->Prop} {s:aR}
theorem zbf(hl:s.heap.IsList l items)(hb:s.heap.IsList b items2)(hi:iu items.toList ns)(hj:iu items2.toList ms)(hu:A.units<iT)(h:Q (.bool (lexLt ns ms)) s):bJ (bR prog w) A (Ge .Lt (.ref l) (.ref b)) Q E s:=by
 obtain⟨⟨cls,dd,data,sl⟩,ho,hc,n,hd⟩:=id hl;obtain⟨⟨cls2,dd2,data2,sl2⟩,ho2,hc2,n2,hd2⟩:=id hb;simp only at hc hd hc2 hd2;subst hc hd hc2 hd2;exact richCompare_meets_room (op:=.Lt) ⟨_,ho,rfl⟩ ⟨_,ho2,rfl⟩ PySem.F.slot_list_lt PySem.F.entry_list_lt (PySem.F.args_list_lt_2 _ _) (zaf l b items items2 n n2 dd dd2 sl sl2 ns ms hi hj)
  ⟨ho,ho2,show oY (lexLt ns ms)≠Value.notImplemented/\Q (.bool (lexLt ns ms)) s from ⟨(λx=>nomatch x),h⟩⟩ hu
end
open PySem PyProof.Rows PySem.W
def kin{α:Type}(n:Nat):HN α->Bool
 |.ret _=>true
 |.ask i j k=>decide (i<n) && decide (j<n) && kin n (k true) && kin n (k false)
def tab(b:Nat->Nat->Bool)(i j:Nat):Bool:=if i<j then b i j else if j<i then !b j i else false
theorem qp:∀a:List Int,lexLt a a=false
 |[]=>rfl
 |x::a=>by rw[Wy,if_pos rfl,qp a]
theorem U0:∀a b:List Int,a≠b->lexLt b a=!lexLt a b
 |[],[],h=>absurd rfl h
 |[],_::_,_=>rfl
 |_::_,[],_=>rfl
 |x::a,y::b,h=>by
  rw[Wy,Wy];by_cases e:x=y
  ·subst e;rw[if_pos rfl,if_pos rfl];exact U0 a b λz=>h (by rw[z])
  ·rw[if_neg e,if_neg (cP e),bD];simp;omega
theorem ZF:∀a b c:List Int,lexLt a b=true->lexLt b c=true->lexLt a c=true
 |[],[],_,h,_=>by rw[Jc]at h;cases h
 |[],_::_,[],_,h=>by rw[ZR]at h;cases h
 |[],_::_,_::_,_,_=>rfl
 |_::_,[],_,h,_=>by rw[ZR]at h;cases h
 |_::_,_::_,[],_,h=>by rw[ZR]at h;cases h
 |x::a,y::b,z::c,h1,h2=>by
  rw[Wy]at h1 h2 ⊢;by_cases e1:x=y
  ·subst e1;rw[if_pos rfl]at h1;by_cases e2:x=z
   ·subst e2;rw[if_pos rfl]at h2 ⊢;exact ZF a b c h1 h2
   ·rw[if_neg e2]at h2 ⊢;exact h2
  ·rw[if_neg e1]at h1;have h1':=of_decide_eq_true h1;by_cases e2:y=z
   ·subst e2;rw[if_neg e1];exact h1
   ·rw[if_neg e2]at h2;have h2':=of_decide_eq_true h2;rw[if_neg (show x≠z by omega)];exact decide_eq_true (by omega)
end HT
namespace L2
open PySem PySem.Spec PyProof.Rows
section
variable {X:Cx}
def zmm(K:aN):R2:=λx y H Q=>Ex4 λa b ns ms=>x=.ref a/\y=.ref b/\SqL K H a (ns.map V.int)/\SqL K H b (ms.map V.int)/\Q (.bl (HT.lexLt ns ms)) H
theorem zlX(K:aN)(hu:X.A.units+64<iT)(e:X.K=K:=by rfl):OpR X (dw .Lt) (zmm K):=by
 subst e;intro pins s Z H x y v u Q I rx ry h;obtain⟨a,b,ns,ms,rfl,rfl,ha,hb,q⟩:=h;cases rx
 cases ry;obtain⟨its,r1,p1,_⟩:=I.list ha
 obtain⟨its2,r2,p2,_⟩:=I.list hb;exact HT.zbf p1.isList p2.isList (intsAre_of r1) (intsAre_of r2) (by omega) ⟨.bl (HT.lexLt ns ms),H,I,rfl,q⟩
end
end L2
namespace HT
open PySem PyProof.Rows PySem.W
def KW{α:Type}(c:Nat->Nat->Bool)(n:Nat):HN α->(α->Prop)->Prop
 |.ret a,Q=>Q a
 |.ask i j k,Q=>i<n/\j<n/\KW c n (k (c i j)) Q
theorem KW.bind{α β:Type}{c:Nat->Nat->Bool}{n:Nat}{f:α->HN β}{Q:β->Prop}:∀{t:HN α},KW c n t (λa=>KW c n (f a) Q)->KW c n (t.bind f) Q
 |.ret _,h=>h
 |.ask _ _ k,h=>⟨h.1,h.2.1,KW.bind (t:=k _) h.2.2⟩
theorem KW.mono{α:Type}{c:Nat->Nat->Bool}{n:Nat}{Q Q':α->Prop}(hq:∀a,Q a->Q' a):∀{t:HN α},KW c n t Q->KW c n t Q'
 |.ret a,h=>hq a h
 |.ask _ _ k,h=>⟨h.1,h.2.1,KW.mono hq (t:=k _) h.2.2⟩
theorem KW.wp{α:Type}{n:Nat}{c:Nat->Nat->Bool}{cmp:Nat->Nat->(Bool->aR->Prop)->aR->Prop}{s:aR}{Q:α->Prop}(hc:∀i j C,i<n->j<n->C (c i j) s->cmp i j C s):
  ∀t:HN α,KW c n t Q->t.kasWp cmp (λa s'=>s'=s/\Q a) s
 |.ret _,h=>⟨rfl,h⟩
 |.ask i j k,h=>hc i j _ h.1 h.2.1 (KW.wp hc (k (c i j)) h.2.2)
structure Ord (c:Nat->Nat->Bool) (n:Nat):Prop where
 tr:∀i j k,i<n->j<n->k<n->c i j=true->c j k=true->c i k=true
 tot:∀i j,i<n->j<n->i≠j->c i j=false->c j i=true
 asy:∀i j,i<n->j<n->c i j=true->c j i=false
structure Pm (n:Nat) (p:Array Nat):Prop where
 sz:p.size=n
 pm:p.toList.Perm (aD n)
theorem Pm.lt(h:Pm n p)(i:Nat)(hi:i<n):p.getD i 0<n:=by
 have hs:=h.sz;have e:p.getD i 0=p[i]:=by simp[mj,hs,hi]
 rw[e];exact cZ.mp (h.pm.mem_iff.mp (by simp))
theorem Pm.ne(h:Pm n p)(hi:i<n)(hj:j<n)(hij:i≠j):p.getD i 0≠p.getD j 0:=by
 have hs:=h.sz;have e1:p.getD i 0=p.toList[i]'(by simp[hs,hi]):=by simp[mj,hs,hi]
 have e2:p.getD j 0=p.toList[j]'(by simp[hs,hj]):=by simp[mj,hs,hj]
 rw[e1,e2];have nd:p.toList.Nodup:=h.pm.nodup_iff.mpr List.nodup_range;intro z;exact hij ((lV nd).mp z)
theorem Pm.of(h:Pm n p)(z:q.Perm p):Pm n q:=⟨by rw[z.size_eq];exact h.sz,(Array.perm_iff_toList_perm.mp z).trans h.pm⟩
def Up(c:Nat->Nat->Bool)(p:Array Nat)(m:Nat):Prop:=∀i j,i<j->j<m->c (p.getD i 0) (p.getD j 0)=true
def Dn(c:Nat->Nat->Bool)(p:Array Nat)(m:Nat):Prop:=∀i j,i<j->j<m->c (p.getD j 0) (p.getD i 0)=true
section
variable {c:Nat->Nat->Bool} {n:Nat}
theorem zf6(O:Ord c n){p:Array Nat}(hp:Pm n p):∀(f m:Nat),1<=m->m+f<=n->Up c p m->KW c n (kas_asc p f m) (λr=>m<=r/\r<=m+f/\Up c p r/\(r<m+f->c (p.getD r 0) (p.getD (r-1) 0)=true))
 |0,m,_,_,u=>⟨au _,au _,u,λz=>absurd z (dY _)⟩
 |f+1,m,h1,h2,u=>by
  refine⟨hp.lt m (by omega),hp.lt (m-1) (by omega),?_⟩;cases e:c (p.getD m 0) (p.getD (m-1) 0) with
  |true=>exact⟨au _,by omega,u,λ_=>e⟩
  |false=>
   have hs:c (p.getD (m-1) 0) (p.getD m 0)=true:=O.tot _ _ (hp.lt m (by omega)) (hp.lt (m-1) (by omega)) (hp.ne (by omega) (by omega) (by omega)) e;have u':Up c p (m+1):=λi j hij hj=>by
    by_cases hjm:j<m
    ·exact u i j hij hjm
    ·have ej:j=m:=by omega
     subst ej;by_cases hi:i=j-1
     ·rw[hi];exact hs
     ·exact O.tr _ _ _ (hp.lt i (by omega)) (hp.lt (j-1) (by omega)) (hp.lt j (by omega)) (u i (j-1) (by omega) (by omega)) hs
   refine KW.mono (λr h=>?_) (zf6 O hp f (m+1) (by omega) (by omega) u');exact⟨by omega,by omega,h.2.2.1,λz=>h.2.2.2 (by omega)⟩
theorem zhx(O:Ord c n){p:Array Nat}(hp:Pm n p):∀(f m:Nat),1<=m->m+f<=n->Dn c p m->KW c n (kas_desc f p m 0) (λr=>r.1=p/\r.2.2=0/\m<=r.2.1/\r.2.1<=m+f/\Dn c p r.2.1)
 |0,m,_,_,u=>⟨rfl,rfl,au _,au _,u⟩
 |f+1,m,h1,h2,u=>by
  refine⟨hp.lt m (by omega),hp.lt (m-1) (by omega),?_⟩;cases e:c (p.getD m 0) (p.getD (m-1) 0) with
  |true=>
   have u':Dn c p (m+1):=λi j hij hj=>by
    by_cases hjm:j<m
    ·exact u i j hij hjm
    ·have ej:j=m:=by omega
     subst ej;by_cases hi:i=j-1
     ·rw[hi];exact e
     ·exact O.tr _ _ _ (hp.lt j (by omega)) (hp.lt (j-1) (by omega)) (hp.lt i (by omega)) e (u i (j-1) (by omega) (by omega))
   refine KW.mono (λr h=>?_) (zhx O hp f (m+1) (by omega) (by omega) u');exact⟨h.1,h.2.1,by omega,by omega,h.2.2.2.2⟩
  |false=>
   have hs:c (p.getD (m-1) 0) (p.getD m 0)=true:=O.tot _ _ (hp.lt m (by omega)) (hp.lt (m-1) (by omega)) (hp.ne (by omega) (by omega) (by omega)) e;refine⟨hp.lt (m-1) (by omega),hp.lt m (by omega),?_⟩;rw[hs];exact⟨rfl,rfl,au _,(show m<=m+(f+1) by omega),u⟩
theorem rev_getD(hm:m<=p.size)(k:Nat):(Ft p 0 m).getD k 0=if k<m then p.getD (m-1-k) 0 else p.getD k 0:=by
 have q:=getElem?_mirror_all (xs:=p) (i:=0) hm k;have e:∀(a:Array Nat) (j:Nat),a.getD j 0=(a[j]?).getD 0:=λa j=>by simp[m8]
 unfold Ft;rw[e,q];by_cases h:k<m
 ·rw[if_pos ⟨bK _,h⟩,if_pos h,e,dm]
 ·rw[if_neg (by omega),if_neg h,e]
theorem zjM(O:Ord c n)(hp:Pm n p)(h1:1<=m)(h2:m<=n)(u:Dn c p m):KW c n (kas_tail3 m n p) (λr=>1<=r.1/\r.1<=n/\Pm n r.2/\Up c r.2 r.1):=by
 have hr:Pm n (Ft p 0 m):=hp.of (mirror_perm _ _ _ _);have hsz:m<=p.size:=by rw[hp.sz];exact h2
 have u':Up c (Ft p 0 m) m:=λi j hij hj=>by
  rw[rev_getD hsz,rev_getD hsz,if_pos (by omega),if_pos hj];exact u _ _ (by omega) (by omega)
 refine KW.bind (KW.mono (λr h=>?_) (zf6 O hr (n-m) m h1 (by omega) u'));exact⟨by omega,by omega,hr,h.2.2.1⟩
theorem zi3(O:Ord c n)(hp:Pm n p)(h2:2<=n):KW c n (kas_count n p) (λr=>1<=r.1/\r.1<=n/\Pm n r.2/\Up c r.2 r.1):=by
 refine KW.bind (KW.mono (λr h=>?_) (zf6 O hp (n-1) 1 (au _) (by omega) (λi j hij hj=>by omega)));obtain⟨h1,h3,u,st⟩:=h;by_cases e:r=n
 ·subst e;rw[if_pos (by simp)];exact⟨h1,au _,hp,u⟩
 ·rw[if_neg (by simpa using e)];by_cases hr:r>1
  ·rw[if_pos hr];refine⟨hp.lt 0 (by omega),hp.lt (r-1) (by omega),?_⟩;rw[u 0 (r-1) (by omega) (by omega)];exact⟨h1,by omega,hp,u⟩
  ·rw[if_neg hr];have er:r=1:=by omega
   subst er;have s1:=st (by omega);have d:Dn c p 2:=λi j hij hj=>by
    have ei:i=0:=by omega
    have ej:j=1:=by omega
    subst ei;subst ej;exact s1
   refine KW.bind (KW.mono (λr h=>?_) (zhx O hp (n-2) 2 (by omega) (by omega) d));obtain⟨a1,a2,a3,a4,a5⟩:=h;obtain⟨q,m,z⟩:=r;simp only at a1 a2 a3 a4 a5;subst a1;subst a2;show KW c n (if 0>0 then _ else _) _;rw[if_neg (dY 0)];exact zjM O hp (show 1<=m by omega) (show m<=n by omega) a5
theorem zcE(O:Ord c n){p:Array Nat}(hp:Pm n p){k:Nat}(hk:k<n)(u:Up c p k):∀(f l r:Nat),l<=r->r<=k->r-l<=f->(∀i,i<l->c (p.getD i 0) (p.getD k 0)=true)->(∀i,r<=i->i<k->c (p.getD k 0) (p.getD i 0)=true) ->
  KW c n (kas_place p k f l r) (λl=>l<=k/\(∀i,i<l->c (p.getD i 0) (p.getD k 0)=true)/\(∀i,l<=i->i<k->c (p.getD k 0) (p.getD i 0)=true))
 |0,l,r,h1,h2,h3,lo,hi=>⟨by omega,lo,λi a b=>hi i (by omega) b⟩
 |f+1,l,r,h1,h2,h3,lo,hi=>by
  unfold kas_place;by_cases hlr:l>=r
  ·rw[if_pos hlr];exact⟨by omega,lo,λi a b=>hi i (by omega) b⟩
  ·rw[if_neg hlr];have hm:(l+r) / 2<k:=by omega
   refine⟨hp.lt k hk,hp.lt _ (by omega),?_⟩;cases e:c (p.getD k 0) (p.getD ((l+r) / 2) 0) with
   |true=>
    dsimp only;rw[if_pos rfl];refine zcE O hp hk u f l ((l+r) / 2) (by omega) (by omega) (by omega) lo λi a b=>?_;by_cases ei:i=(l+r) / 2
    ·rw[ei];exact e
    ·exact O.tr _ _ _ (hp.lt k hk) (hp.lt _ (by omega)) (hp.lt i (by omega)) e (u _ _ (by omega) b)
   |false=>
    dsimp only;rw[if_neg bu];have hs:c (p.getD ((l+r) / 2) 0) (p.getD k 0)=true:=O.tot _ _ (hp.lt k hk) (hp.lt _ (by omega)) (hp.ne hk (by omega) (by omega)) e;refine zcE O hp hk u f ((l+r) / 2+1) r (by omega) h2 (by omega) (λi a=>?_) hi;by_cases ei:i=(l+r) / 2
    ·rw[ei];exact hs
    ·exact O.tr _ _ _ (hp.lt i (by omega)) (hp.lt _ (by omega)) (hp.lt k hk) (u _ _ (by omega) (by omega)) hs
theorem ze0(hk:k<p.size)(hl:l<=k)(i:Nat):(bubble p k (k-l)).getD i 0=if i=l then p.getD k 0 else if l<i/\i<=k then p.getD (i-1) 0 else p.getD i 0:=by
 have q:=getElem?_bubble hk (k-l) (by omega) i;have e:∀(a:Array Nat) (j:Nat),a.getD j 0=(a[j]?).getD 0:=λa j=>by simp[m8]
 rw[show k-(k-l)=l by omega]at q;rw[e,e p k,e p (i-1),e p i,q];split
 ·rfl
 ·split
  ·rfl
  ·rfl
theorem ziv(O:Ord c n):∀(f:Nat) {p:Array Nat} {k:Nat},Pm n p->1<=k->k+f=n->Up c p k->KW c n (kas_bin f p k) (λq=>Pm n q/\Up c q n)
 |0,p,k,hp,h1,h2,u=>by
  have:k=n:=by omega
  subst this;exact⟨hp,u⟩
 |f+1,p,k,hp,h1,h2,u=>by
  refine KW.bind (KW.mono (λl h=>?_) (zcE O hp (show k<n by omega) u k 0 k (bK _) (au _) (by omega) (λi hi=>by omega) (λi a b=>by omega)));obtain⟨hlk,lo,hi⟩:=h;have hks:k<p.size:=by rw[hp.sz];omega
  refine ziv O f (hp.of (bubble_perm _ _ _)) (by omega) (by omega) λi j hij hj=>?_;rw[ze0 hks hlk,ze0 hks hlk];by_cases hi1:i=l
  ·rw[if_pos hi1,if_neg (by omega),if_pos (by omega)];exact hi _ (by omega) (by omega)
  ·rw[if_neg hi1];by_cases hi2:l<i/\i<=k
   ·rw[if_pos hi2,if_neg (by omega),if_pos (by omega)];exact u _ _ (by omega) (by omega)
   ·rw[if_neg hi2];by_cases hj1:j=l
    ·rw[if_pos hj1];exact lo _ (by omega)
    ·rw[if_neg hj1];by_cases hj2:l<j/\j<=k
     ·rw[if_pos hj2];exact u _ _ (by omega) (by omega)
     ·rw[if_neg hj2];exact u _ _ (by omega) (by omega)
theorem zkD(O:Ord c n)(h2:2<=n):KW c n (Gk n) (λp=>Pm n p/\Up c p n):=by
 have h0:Pm n (List.toArray (aD n)):=⟨by simp,by simp⟩
 refine KW.bind (KW.mono (λr h=>?_) (zi3 O h0 h2));obtain⟨h1,h3,hp,u⟩:=h;by_cases hr:r.1<n
 ·rw[if_pos hr,Nat.max_eq_left h1];exact ziv O _ hp h1 (by omega) u
 ·rw[if_neg hr];have:r.1=n:=by omega
  rw[this]at u;exact⟨hp,u⟩
end
section
variable {prog:cg} {w:cT} {A:eH} {E:aG->aR->Prop} {s:aR}
theorem zk5(hl:s.heap.IsList l items)(hb:s.heap.IsList b items2)(hi:iu items.toList ns)(hj:iu items2.toList ms)(hu:A.units+1<iT)(h:Q (lexLt ns ms) s):bJ (bR prog w) A (keyLt' oneType' (.ref l) (.ref b)) Q E s:=by
 obtain⟨⟨cls,dd,data,sl⟩,ho,hc,n,hd⟩:=id hl;obtain⟨⟨cls2,dd2,data2,sl2⟩,ho2,hc2,n2,hd2⟩:=id hb;simp only at hc hd hc2 hd2;subst hc hd hc2 hd2;rw[keyLt'_oneType,oneLt'_eq];simp only[if_true];refine aH (wpAny_cRoomFor (by omega) (aH (wpAny_callSpecialIfBound?_slot (T:="list") (name:="__lt__") ⟨_,ho,rfl⟩ PySem.F.slot_list_lt
  (lZ PySem.F.slot_list_lt ⟨_,ho,rfl⟩ PySem.F.entry_list_lt (PySem.F.args_list_lt_2 _ _) (zaf l b items items2 n n2 dd dd2 sl sl2 ns ms hi hj) ⟨ho,ho2,?_⟩))))
 exact dM h
theorem zdz{α:Type}(d:α)(zs:List α){p:List Nat}(h:p.Perm (aD zs.length)):(p.map λi=>zs.getD i d).Perm zs:=by
 have e:(aD zs.length).map (λi=>zs.getD i d)=zs:=by
  apply gH;intro i;rw[ak];by_cases hi:i<zs.length
  ·rw[bO hi,dG,aL,aj hi];rfl
  ·rw[bN (by simpa using hi),bN (by omega)];rfl
 have q:=h.map λi=>zs.getD i d;rw[e]at q;exact q
end
end HT
namespace L2
open PySem PySem.Spec PyProof.Rows
section
variable {X:Cx}
theorem zaL:∀{zs:ZB} {its:List aG},Vals (zs.map λz=>V.ref z.1) its->its=zs.map λz=>aY z.1
 |[],its,h=>by cases h;rfl
 |z::zs,its,h=>by
  cases h with
  |cons r t=>rw[zaL t];cases r;rfl
theorem zaX:∀(zs:ZB),Vals (zs.map λz=>V.ref z.1) (zs.map λz=>aY z.1)
 |[]=>.nil
 |z::zs=>.cons rfl (zaX zs)
end
section
variable {κ:Type} [DecidableEq κ]
def zk3(kvs:List (κ×V))(k:κ):Option V:=(kvs.find? λkv=>decide (kv.1=k)).map (·.2)
def putK(kvs:List (κ×V))(k:κ)(v:V):List (κ×V):=
 if (kvs.any λkv=>decide (kv.1=k))=true then kvs.map (λkv=>if kv.1=k then (kv.1,v) else kv) else kvs++[(k,v)]
theorem RelO.getD(r:RelO o u)(rd:RelV d d'):RelV (o.getD d) (u.getD d'):=by
 cases o with
 |none=>cases u with
  |none=>exact rd
  |some _=>exact (show False from r).elim
 |some _=>cases u with
  |none=>exact (show False from r).elim
  |some _=>exact r
end
abbrev KT(H:Hp):List (List Key×V)->List (List Key×aq×aG)->Prop:=Paired λp q=>p.1=q.1/\H q.2.1=some (.tup (p.1.map kV))/\RelV p.2 q.2.2
theorem KT.keeps(r:KT H kvs xs)(ht:∀b ys,H b=some (.tup ys)->H' b=some (.tup ys)):KT H' kvs xs :=
 Paired.mapP r λ_ _ z=>⟨z.1,ht _ _ z.2.1,z.2.2⟩
section
variable {P:cg} {w:cT} {H:Hp} {h:dR} {a:aq}
end
def DGet(H:Hp)(a:aq)(y:V)(r:Option V):Prop :=
 (∃kvs k,Rd H a (.dK kvs)/\y=kV k/\r=zk3 kvs k)\/∃kvs k b,Rd H a (.dT kvs)/\y=.ref b/\H b=some (.tup (k.map kV))/\r=zk3 kvs k
def DPut(H:Hp)(a:aq)(y v:V)(H':Hp):Prop :=
 (∃kvs k,H a=some (.dK kvs)/\y=kV k/\kvs.length<aZ/\H'=upd H a (.dK (putK kvs k v))) \/
 ∃kvs k b,H a=some (.dT kvs)/\y=.ref b/\H b=some (.tup (k.map kV))/\kvs.length<aZ/\H'=upd H a (.dT (putK kvs k v))
theorem DGet.k{k:Key}(e:H a=some (.dK kvs)):DGet H a (kV k) (zk3 kvs k):=.inl ⟨kvs,k,.inl e,rfl,rfl⟩
theorem DPut.k{k:Key}(e:H a=some (.dK kvs))(hl:kvs.length<aZ):DPut H a (kV k) v (upd H a (.dK (putK kvs k v))):=.inl ⟨kvs,k,e,rfl,hl,rfl⟩
section
variable {X:Cx} {pins:List (aq×kj)} {Z:St} {H:Hp} {s:aR} {a:aq} {y v:V} {u r:aG} {o:Option V} {A:eH} {E:aG->aR->Prop}
end
section
variable {X:Cx} {pins:List (aq×kj)} {Z:St} {H:Hp} {s:aR} {a:aq} {kvs:List (Key×V)} {k:Key} {u:aG} {A:eH} {E:aG->aR->Prop}
end
section
variable {X:Cx} {o i e value:eV} {pos pos' tpos:mV} {td ty tv:TE}
end
section
variable {X:Cx} {pos:mV}
end
structure M1 (X:Cx) (o:eV) (m:cG) (apos:mV) (e:eV) (cpos:mV):Prop where
 base:mq o m X.env (dI o X.env)=dI o X.env
 few:((gh cpos (bF [e] X.env)).all (λx=>!x.1) && (p7 cpos (mF [] X.env)).all (λx=>x.1.isSome)
  && decide (([e]:List eV).length+([]:List Du).length+(if ([]:List Du).isEmpty then 0 else 1)<30))=true
 line:(apos.endLine == cpos.line)=true
 trees:gh cpos (bF [e] X.env)=[(false,dI e X.env)]
section
variable {X:Cx} {pins:List (aq×kj)} {Z:St} {H:Hp} {s:aR} {a:aq} {y d:V} {u r:aG} {o:Option V} {A:eH} {E:aG->aR->Prop}
end
section
variable {X:Cx} {o e f:eV} {apos cpos:mV} {td ty tx:TE}
end
section
variable {X:Cx} {pins:List (aq×kj)} {Z:St} {H:Hp} {s:aR} {a:aq} {kvs:List (Key×V)} {A:eH} {E:aG->aR->Prop}
end
section
variable {X:Cx} {pins:List (aq×kj)} {Z:St} {H:Hp} {s:aR} {a:aq} {y:V} {u:aG} {A:eH} {E:aG->aR->Prop}
end
section
variable {X:Cx}
end
section
variable {κ:Type} [DecidableEq κ]
end
end L2
namespace HT
open PySem PyProof.Rows PySem.W
section
variable {prog:cg} {w:cT} {A:eH} {E:aG->aR->Prop} {s:aR}
theorem zgM(ho:s.heap.get? a=some (dj "list" vs.toArray n0))(h60:vs.length<=60)(O:Ord c vs.length)(hkind:∀G:dR,(∀b o,b≠a->s.heap.get? b=some o->G.get? b=some o)->2<=vs.length->∀Q:SortKind->aR->Prop,Q κ { s with heap:=G }->bJ (bR prog w) A (keyKind' vs.toArray) Q E { s with heap:=G })(hcmp:∀G:dR,(∀b o,b≠a->s.heap.get? b=some o->G.get? b=some o)->∀i j (C:Bool->aR->Prop),i<vs.length->j<vs.length->C (c i j) { s with heap:=G }->BL prog w A κ vs i j C { s with heap:=G })(h:∀p:List Nat,p.Perm (aD vs.length)->p.Pairwise (λi j=>c i j=true)->P (.done (.ret .none)) { s with heap:=Hb s.heap a vs (p.map λi=>vs.getD i fJ).toArray }):
  bJ (bR prog w) A (rP.«list.sort» ⟨[.ref a],[]⟩) P E s:=by
 rw[list_sort_plain];have hsl:vs.length<=aZ:=ao h60 (by decide);have ha:a<s.heap.objs.size:=aQ ho;obtain⟨e1,ho1⟩:∃e1,(s.heap.update a (dC λ_=>#[])).get? a=some (dj "list" #[] e1):=⟨_,mQ ho (λ_=>#[])⟩
 refine aH (BP ho rfl (aH (iM ho rfl (aH (n8 ho1 rfl (aH (DY (aH (oJ (my ?_) (bK _))) (by show vs.length<=_;exact hsl))))) (by rw[aK];exact hsl) (bK _))));generalize hG:(((s.heap.update a (dC λ_=>(#[]:Array aG))).push (dj "tuple" vs.toArray 0)).push (dj "list" #[] 0))=G;have ho6:G.get? a=some (dj "list" #[] e1):=by
  rw[<-hG,fQ _ _ _ (by rw[nM,gY];exact bA (iV ha)),fQ _ _ _ (by rw[gY];exact bA ha)];exact ho1
 have keep:∀b o,b≠a->s.heap.get? b=some o->G.get? b=some o:=λb o hb e=>by
  have hlt:=aQ e;rw[<-hG,fQ _ _ _ (by rw[nM,gY];exact bA (iV hlt)),fQ _ _ _ (by rw[gY];exact bA hlt),dW _ _ (cP hb)];exact e
 show bJ (bR prog w) A _ P E { s with heap:=G };dsimp only;have e2:∀out:Array aG,G.update a (dC λ_=>out)=Hb s.heap a vs out:=λout=>by rw[<-hG];rfl
 by_cases h2:vs.toArray.size<2
 ·rw[if_pos h2,if_pos h2];refine aH (bW ?_);rw[Dm];refine aH (bW ?_);dsimp only;rw[aK]at h2;have hout:(HQ (SortSt.mk' general' (vs.toArray.zip vs.toArray) #[] 7 none)).map (·.2)=((aD vs.length).map λi=>vs.getD i fJ).toArray:=by
   show ((vs.toArray.zip vs.toArray).map (·.2))=_;apply Cy.mp;rw[Cz,CG,CJ (by simp)];apply gH;intro i;rw[ak];by_cases hi:i<vs.length
   ·rw[bO hi,dG,aL,aj hi];rfl
   ·rw[bN (by simpa using hi),bN (by simpa using hi)];rfl
  rw[hout];refine aH (n8 ho6 rfl (aH (iM ho6 rfl ?_ (bK _) (by rw[aK,aa,aX];exact gG hsl))));simp only[bne_self_eq_false,eQ,if_false];rw[e2];refine bW (h _ (Ea _) ?_);rw[gw];intro i j hi hj hij;rw[aX]at hj;omega
 ·rw[if_neg h2,if_neg h2];rw[aK]at h2;refine aH (hkind G keep (by omega) _ ?_);have HR:(Gk vs.length).kasWp (BL prog w A κ vs) (λp s'=>s'={ s with heap:=G }/\(Pm vs.length p/\Up c p vs.length)) { s with heap:=G } :=
   KW.wp (n:=vs.length) (λi j C hi hj hC=>hcmp G keep i j C hi hj hC) _ (zkD O (by omega))
  refine aH (dX (kat_run (E:=E) (ks:=vs) (vs:=vs) (Q:=λst' s'=>∃p:Array Nat,s'={ s with heap:=G }/\HQ st'=p.map (kas_item (vs.toArray.zip vs.toArray))/\Gm st'=none/\Pm vs.length p/\Up c p vs.length)
   rfl (by omega) (by omega) (λp st' s' _ a2 a3 a4=>⟨p,a4.1,a2,a3,a4.2⟩) HR) ?_ λ_ _ e=>e)
  rintro⟨⟨⟩,st'⟩ s' ⟨p,rfl,har,hfl,hpm,hup⟩;dsimp only;have hpl:p.toList.length=vs.length:=by rw[hpm.pm.length_eq,aX]
  have hol:(p.toList.map λi=>vs.getD i fJ).length=vs.length:=by rw[aa,hpl]
  rw[kat_snds rfl har];refine aH (n8 ho6 rfl (aH (iM ho6 rfl ?_ (bK _) (by rw[aK,hol];exact gG hsl))));rw[hfl];simp only[bne_self_eq_false,eQ,if_false];rw[e2];refine bW (h _ hpm.pm ?_);rw[gw];intro i j hi hj hij;have q1:=hup i j hij (by omega);have g1:p.getD i 0=p.toList[i]:=by
   have:i<p.size:=by rw[hpm.sz];omega
   simp[mj,this]
  have g2:p.getD j 0=p.toList[j]:=by
   have:j<p.size:=by rw[hpm.sz];omega
   simp[mj,this]
  rw[g1,g2]at q1;exact q1
theorem zj9{Pv:List aG->Prop}(h60:n<=60)(hcol:∀R:List aG->aR->Prop,(∀h' tk vs,(∀b o,s.heap.get? b=some o->h'.get? b=some o)->vs.length=n->Pv vs->R vs { s with heap:=h',toks:=tk })->bJ (bR prog w) A.in1 (collect (.ref r)) R E s)(hord:∀vs,vs.length=n->Pv vs->∃c:Nat->Nat->Bool,Ord c n /\
   (∀G tk,(∀b o,s.heap.get? b=some o->G.get? b=some o)->2<=n->∀Q:SortKind->aR->Prop,Q κ { s with heap:=G,toks:=tk }->bJ (bR prog w) A.in1.in1 (keyKind' vs.toArray) Q E { s with heap:=G,toks:=tk }) /\
   (∀G tk,(∀b o,s.heap.get? b=some o->G.get? b=some o)->∀i j (C:Bool->aR->Prop),i<n->j<n->C (c i j) { s with heap:=G,toks:=tk }->BL prog w A.in1.in1 κ vs i j C { s with heap:=G,toks:=tk }) /\
   ∀(p:List Nat) (h' h'':dR) (tk e:Nat),p.Perm (aD n)->p.Pairwise (λi j=>c i j=true)->(∀b o,s.heap.get? b=some o->h'.get? b=some o)->(∀b o,h'.get? b=some o->h''.get? b=some o)->h''.get? h'.objs.size=some (dj "list" (p.map λi=>vs.getD i fJ).toArray e)->Q (.ref h'.objs.size) { s with heap:=h'',toks:=tk }):
  bJ (bR prog w) A (call (.builtin "sorted") [.ref r]) Q E s:=by
 refine Calls.call_function_entry Gn Fv Fw (args_sorted1 _) ?_;unfold rP.«sorted»;refine aH (m:=Hd "sorted" 1 1 _) (bW (aH (hcol _ λh' tk vs hk hl pv=>?_)));obtain⟨c,O,hkind,hcmp,fin⟩:=hord vs hl pv;subst hl;have hsl:vs.length<=aZ:=ao h60 (by decide);refine aH (oJ ?_ hsl);have hoL:(h'.push (dj "list" vs.toArray 0)).get? h'.objs.size=some (dj "list" vs.toArray 0):=bC _ rfl;have ne:∀b o,s.heap.get? b=some o->b≠h'.objs.size:=λb o q=>bA (aQ (hk b o q));show bJ _ _ _ _ _ { s with heap:=h'.push (dj "list" vs.toArray 0),toks:=tk };dsimp only;refine aH (my (wpAny_call_entry Eb ⟨_,hoL,rfl⟩ Do (zgM (A:=A.in1.in1) (s:={ s with heap:=h'.push (dj "list" vs.toArray 0),toks:=tk }) (κ:=κ) (c:=c) hoL h60 O (λG kG h2 Q' hq=>hkind G tk (λb o q=>kG b o (ne b o q) (az _ (hk b o q))) h2 Q' hq)
  (λG kG i j C hi hj hC=>hcmp G tk (λb o q=>kG b o (ne b o q) (az _ (hk b o q))) i j C hi hj hC) λp hp hw=>⟨_,rfl,?_⟩) (args_list_sort _)))
 refine bW ⟨_,rfl,?_⟩;obtain⟨e,he⟩:=sortedHeap_at (out:=(p.map λi=>vs.getD i fJ).toArray) hoL;refine fin p h' _ tk e hp hw hk (λb o q=>?_) he;have hlt:=aQ q;rw[sortedHeap_old (bA hlt) (by rw[nM];exact iV hlt)];exact az _ q
end
section
variable {prog:cg} {w:cT} {A:eH} {E:aG->aR->Prop} {s:aR} {d it:aq} {ks:List aG} {ep i:Nat}
end
end HT
namespace L2
open PySem PySem.Spec PyProof.Rows PySem.W
section
variable {X:Cx} {pins:List (aq×kj)} {Z:St} {H:Hp} {s:aR}
end
theorem zkR{ls:ZA}(nd:ls.Nodup):HT.Ord (λi j=>HT.lexLt (ls.getD i []) (ls.getD j [])) ls.length:=by
 have ge:∀i,(h:i<ls.length)->ls.getD i []=ls[i]:=λi h=>by rw[aL,aj h];rfl
 refine⟨λi j k _ _ _ h1 h2=>HT.ZF _ _ _ h1 h2,λi j hi hj hij h=>?_,λi j hi hj h=>?_⟩
 ·have ne:ls.getD i []≠ls.getD j []:=λz=>by
   rw[ge i hi,ge j hj]at z;exact hij ((lV nd).mp z)
  have:=HT.U0 _ _ ne;rw[h]at this;exact this
 ·cases e:HT.lexLt (ls.getD j []) (ls.getD i []) with
  |false=>rfl
  |true=>
   have:=HT.ZF _ _ _ h e;rw[HT.qp]at this;cases this
theorem ziS{zs:ZB}{p:List Nat}(hp:p.Perm (aD zs.length))(hw:p.Pairwise (λi j=>HT.lexLt ((zs.map (·.2)).getD i []) ((zs.map (·.2)).getD j [])=true)):
  ∃zs':ZB,zs'.Perm zs/\zs'.Pairwise (λx y=>HT.lexLt x.2 y.2=true)/\(p.map λi=>(zs.map λz=>aY z.1).getD i fJ)=zs'.map λz=>aY z.1:=by
 have g:∀i∈p,(zs.map (·.2)).getD i []=(zs.getD i (0,[])).2/\(zs.map λz=>aY z.1).getD i fJ=aY (zs.getD i (0,[])).1:=λi hi=>by
  have hi':=cZ.mp (hp.mem_iff.mp hi);constructor
  ·rw[aL,aL,ak,aj hi'];rfl
  ·rw[aL,aL,ak,aj hi'];rfl
 refine⟨p.map λi=>zs.getD i (0,[]),HT.zdz _ zs hp,?_,?_⟩
 ·rw[dO];refine Er ?_ hw;intro i j hi hj h;rw[(g i hi).1,(g j hj).1]at h;exact h
 ·rw[d8];exact dq λi hi=>(g i hi).2
section
variable {X:Cx}
end
open PySem PySem.Spec PyProof.Rows
def zfQ(lo c:Int)(n:Nat):It:=⟨λi _=>i<n,λi H x H'=>H'=H/\x=.int (lo+i*c),λi _=>n<=i⟩
theorem zbk{P:cg}{w:cT}{K:W.Frag}{tg:eV}(it:aq)(lo c:Int)(n:Nat):Turn P w K tg (zfQ lo c n) [it] it (λi h=>mz h it (lo+(i:Nat)*c) ((n:Int)-(i:Nat)) c) where
 mem:=by simp
 obj:=λi h st b hb=>by
  have e:b=it:=by simpa using hb
  subst e;exact⟨_,st,λv z=>by
   have z':pY _=Cq v:=z;cases z'⟩
 keep:=λi h h' st k=>k it (by simp) _ st
 item:=by
  intro X hP hw hK hc i pins s Z H E I hf st hg;subst hP hw hK;obtain⟨f0,f1,f2,f3,f4,f5⟩:=hf it (by simp);have W:=FT (prog:=X.prog) (w:=X.w) (I.ok.hd hc) it lo c n;refine W.item i s _ _ hg st λv h' tk hv st' kk=>?_;obtain⟨t,rfl⟩:=hv;have I1:Inv X pins Z H { s with heap:=h',toks:=tk }:=I.turned (λb o hb e=>kk b o (by simpa using hb) e) f0 f1 f3 f4 f5;exact⟨_,rfl,zht (s:={ s with heap:=h',toks:=tk }) (n:="range_iterator") st' rfl rfl (by decide) ⟨.int (lo+i*c),H,I1,⟨t,rfl⟩,⟨rfl,rfl⟩,st',λb hb=>(hf b hb).1⟩⟩
 done:=by
  intro X hP hw hK hc i pins s Z H E I hf st hg;subst hP hw hK;obtain⟨f0,f1,f2,f3,f4,f5⟩:=hf it (by simp);exact o6 (I.ok.hd hc) st (by have:n<=i:=hg;omega) λh' eb=>⟨rfl,I.turned (t':=s.toks) (λb o hb e=>eb b o hb e) f0 f1 f3 f4 f5⟩
 self:=λ_ _ _ _ _ st h=>o7 st h
section
variable {X:Cx} {tg:eV}
theorem zdC(hc:1<=c):bH a b c=if a<b then (b-a-1) / c+1 else 0:=by
 unfold bH;rw[if_pos (by omega)]
theorem za9(hc:1<=c):0<=bH a b c/\(∀i:Int,0<=i->i<bH a b c->a<=a+i*c/\a+i*c<b):=by
 rw[zdC hc];by_cases h:a<b
 ·rw[if_pos h];have h0:0<=(b-a-1) / c:=Dp (by omega) (by omega);have h1:(b-a-1) / c*c<=b-a-1:=Dq _ (by omega);refine⟨by omega,λi hi hn=>?_⟩;have h2:i*c<=(b-a-1) / c*c:=Int.mul_le_mul_of_nonneg_right (by omega) (by omega);have h3:0<=i*c:=Ec hi (by omega);omega
 ·rw[if_neg h];exact⟨Int.le_refl _,λi hi hn=>by omega⟩
theorem zlt(ha:0<=a/\a<=1000)(hb:0<=b/\b<=1000)(hc:1<=c/\c<=1000):gQ a b c=true:=by
 have hq:0<=(b-a-1) / c+1\/True:=.inr trivial;unfold gQ;rw[zdC hc.1];simp only[m9,dJ,pK,decide_eq_true_eq,beq_iff_eq,show c>0 by omega,if_true];by_cases h:a<b
 ·have h0:0<=(b-a-1) / c:=Dp (by omega) (by omega);have h1:(b-a-1) / c<=b-a-1:=Int.ediv_le_self _ (by omega);have h2:(b-a-1) / c*c<=b-a-1:=Dq _ (by omega);rw[if_pos h];omega
 ·rw[if_neg h];omega
def zkC(ta:TA):TI:=λZ H R=>ta Z H λvs H1=>Ex3 λi j c=>vs=[.int i,.int j,.int c]/\(0<=i/\i<=1000)/\(0<=j/\j<=1000)/\(1<=c/\c<=1000)/\R (zfQ i c (bH i j c).toNat) H1
theorem zh4{Z:St}{lo hi c:Int}(I:Inv X pins Z H s)(h1:0<=lo/\lo<=1000)(h2:0<=hi/\hi<=1000)(h3:1<=c/\c<=1000)(q:R (zfQ lo c (bH lo hi c).toNat) H):bJ (bR X.prog X.w) X.A (Dz (.ref s.heap.objs.size)) (PIE X pins Z tg R) E { s with heap:=s.heap.push { cls:=.type "range",data:=.fields #[.int lo t,.int hi u,.int c v] },toks:=tk }:=by
 refine lC (mC ..) (zlt h1 h2 h3) ?_;have I1:Inv X pins Z H { s with heap:=s.heap.push { cls:=.type "range",data:=.fields #[.int lo t,.int hi u,.int c v] },toks:=tk }:=I.kept λb o e=>az _ e;refine⟨(s.heap.push { cls:=.type "range",data:=.fields #[.int lo t,.int hi u,.int c v] }).objs.size,[(s.heap.push { cls:=.type "range",data:=.fields #[.int lo t,.int hi u,.int c v] }).objs.size],_,_,H,rfl,
  I1.kept (t':=tk) λb o e=>az _ e,zbk _ lo c (bH lo hi c).toNat,?_,λb hb=>?_,q⟩
 ·have e1:lo+((0:Nat):Int)*c=lo:=by simp
  have e2:(((bH lo hi c).toNat:Nat):Int)-((0:Nat):Int)=bH lo hi c:=by have:=(za9 (a:=lo) (b:=hi) h3.1).1;omega
  show mz _ _ (lo+((0:Nat):Int)*c) ((((bH lo hi c).toNat:Nat):Int)-((0:Nat):Int)) c;rw[e1,e2];exact bC _ rfl
 ·have e:b=(s.heap.push { cls:=.type "range",data:=.fields #[.int lo t,.int hi u,.int c v] }).objs.size:=by simpa using hb
  subst e;exact I1.fpOk (au _) (I1.hok.fresh (au _))
theorem zhR{p pos:mV}(hg:Gl X "range")(hm:X.mg "range"= none)(ha:PA X [a,b,d] ta)(hs:bF [a,b,d] X.env=[(false,dI a X.env),(false,dI b X.env),(false,dI d X.env)]:=by rfl)(hs2:bF [b,d] X.env=[(false,dI b X.env),(false,dI d X.env)]:=by rfl):
  PI X tg (.Call (.Name "range" p) [a,b,d] [] pos) (zkC ta):=by
 intro pins s Z H R I h;refine FW (Zk I hg hm nD (cC (thn (ha pos pins s Z H _ I h) λus s1 ⟨vs,H1,I1,r1,q1⟩=>?_) (by rw[hs,hs2]) (by rw[hs2];rfl)));obtain⟨i,j,c,e,q1,q2,q3,q⟩:=q1;subst e;cases r1 with
 |cons r rr=>
  cases rr with
  |cons r' rr=>
   cases rr with
   |cons r'' rr=>
    cases rr;obtain⟨t,rfl⟩:=r
    obtain⟨t',rfl⟩:=r';obtain⟨t'',rfl⟩:=r'';exact Fx (by omega) (zh4 I1 q1 q2 q3 q) (aW (pG (by omega)))
theorem zgE{lo c:Int}{g:TG}{tb:TS}{D:Ends}(Pv:Nat->St->Hp->Prop)(h0:Pv 0 Z H)(hs:∀i Z H,i<n->Pv i Z H->g (.int (lo+i*c)) Z H fun σ2 H2=>tb { D with nx:=Pv (i+1),ct:=Pv (i+1),bk:=D.nx } σ2 H2)(hd:∀Z H,Pv n Z H->D.nx Z H):
  ∃W:Nat->Nat->St->Hp->Prop,(∃m,W 0 m Z H)/\∀i m Z H,W i m Z H ->
   ((zfQ lo c n).stop i H/\D.nx Z H)\/((zfQ lo c n).go i H/\∃N:St->Hp->Prop,(∀σ' H',N σ' H'->∃m',m'<m/\W (i+1) m' σ' H')/\∀x H',(zfQ lo c n).yld i H x H'->g x Z H' fun σ2 H2=>tb { D with nx:=N,ct:=N,bk:=D.nx } σ2 H2):=by
 refine⟨λi m Z H=>m=n-i/\i<=n/\Pv i Z H,⟨n,by simp,bK _,h0⟩,?_⟩;rintro i m Z H ⟨rfl,hi,p⟩;by_cases hlt:i<n
 ·refine .inr ⟨hlt,Pv (i+1),fun σ' H' p'=>⟨n-(i+1),by omega,rfl,hlt,p'⟩,λx H' y=>?_⟩;obtain⟨e,y⟩:=y;subst e y;exact hs i Z _ hlt p
 ·have e:i=n:=by omega
  subst e;exact .inl ⟨au _,hd Z H p⟩
end
open PySem PySem.Spec PyProof.Rows PySem.SeqAt
section
variable {X:Cx}
def zlg(K:aN):List V->Hp->VK->Prop:=λxs H Q=>Ex2 λ(a:aq) (ns:List Int)=>xs=[.ref a]/\SqL K H a (ns.map V.int)/\Q (.int ns.sum) H
theorem zjn(hc:X.calm=true):Zu X (.builtin "sum") (zlg X.K):=by
 intro pins s Z H xs us Q I r h;obtain⟨a,ns,rfl,hq,q⟩:=h;obtain⟨u,rfl,rx⟩:=vals1 r;cases rx
 obtain⟨its,rv,pl,hz⟩:=I.list hq;have hi:=intsAre_of rv;obtain⟨ys,hy⟩:=hi.allInts.items;have hn:(ys.toList.map (·.1)).sum=ns.sum:=by
  have e:=hi.numsOf;have e2:=Es ys;rw[<-hy]at e2;rw[<-e,<-e2]
 refine sum_intListG (xs:=ys) (I.ok.hd hc) (by rw[<-hy];exact pl.isList) λh' tk t' hk=>?_;refine⟨.int ns.sum,H,I.kept λb o e=>hk b o e,?_,q⟩;refine⟨t',?_⟩;rw[preSum_eq,bQ (by simp),hn]
theorem zg5(K:aN)(hc:X.calm=true)(e:X.K=K:=by rfl):Zu X (.builtin "sum") (zlg K):=by subst e;exact zjn hc
def zhg(K:aN):V->List V->Hp->VK->Prop:=λx vs H Q=>Ex6 λl xs y ts u j=>x=.ref l/\vs=[y]/\SqL K H l xs/\TrsAt K H ts xs/\TrAt K H u y/\qg ts<=8/\j<ts.length /\
 (∀t,ts[j]?=some t->teq t u=true)/\(∀m t,m<j->ts[m]?=some t->teq t u=false)/\Q (.int (j:Nat)) H
open Classical in
theorem zii(hu:X.A.units+64<iT):MtM X "list.index" (zhg X.K):=by
 intro pins s Z H x vs v us Q I rx rv h;obtain⟨l,xs,y,ts,u,j,rfl,rfl,hq,hts,ht,hd,hj,hit,hno,q⟩:=h;cases rx
 obtain⟨u0,rfl,ru⟩:=Vals.one rv;obtain⟨its,r,pl,hz⟩:=I.list hq;obtain⟨⟨cls,dd,data,sl⟩,ho,hc,n,hdat⟩:=id pl.isList;simp only at hc hdat;subst hc hdat;have l1:=hts.length;have m1:=r.length;have val:∀(m:Nat) (hm:m<its.length) (t:Tr),ts[m]?=some t->decide (∃t x,RelV x its[m]/\TrAt X.K H t x/\teq t u=true)=teq t u:=by
  intro m hm t et;obtain⟨z,ez,hz'⟩:=hts.get et;obtain⟨w,ew,rw'⟩:=r.get ez;have e':its[m]=w:=by
   rw[aj hm]at ew;exact bY ew
  rw[e',bD,decide_eq_true_iff];constructor
  ·rintro⟨t',x',r',h',e3⟩;rw[rw'.inj r']at hz';rw[zb1 I 8 (ao (QD (aJ et)) hd) hz' h'];exact e3
  ·intro e3;exact⟨t,z,rw',hz',e3⟩
 have hjs:j<its.length:=by omega
 have hsl:(aZ:Int)<2^63-1:=by decide
 refine lZ PySem.F.slot_list_index ⟨_,ho,rfl⟩ PySem.F.entry_list_index (PySem.F.args_list_index_2 _ _)
  (list_indexAt l its.toArray n dd sl u0 (λy=>decide (∃t x,RelV x y/\TrAt X.K H t x/\teq t u=true)) j (by simpa using hjs) (by omega) ?_ ?_) ⟨ho,zdV I hu ht ru hd hts r,?_⟩
 ·have q:=val j hjs _ (aj hj);rw[hit _ (aj hj)]at q;simpa using q
 ·intro m hm hlt;have hm':m<ts.length:=by omega
  have q:=val m (by omega) _ (aj hm');rw[hno m _ hlt (aj hm')]at q;simpa using q
 ·exact⟨.int (j:Nat),H,I.kept λb o e=>e,⟨_,rfl⟩,q⟩
theorem ziJ(K:aN)(hu:X.A.units+64<iT)(e:X.K=K:=by rfl):MtM X "list.index" (zhg K):=by subst e;exact zii hu
end
theorem CScope.nofree(kind:scope.kind=.function)(cell:∀y∈scope.names,y.2≠.cell)(loc:∀y∈scope.names,y.2=.local->scope.names.lookup y.1=some .local)(var:scope.names.lookup x=some .local)(free:∀y∈scope.names,y.2≠.free):CScope sc scope x M [] [] :=
 ⟨kind,cell,loc,var,λy hy e=>absurd e (free y hy),rfl,by simp,by simp⟩
section
variable {X:Cx} {elt iter:eV} {ifs:List eV} {tg:eV} {xs:List cG} {pos:mV} {g:TG} {scope:lM} {ys:List cG} {js:List Nat} {wi:TI} {tt:TT} {te:TE}
end
theorem yZ(K:aN){pos:mV}(he:PE X e ta)(hb:mq e f X.env (dI e X.env)=dI e X.env:=by rfl)(ek:X.K=K:=by rfl):PE X (.Attribute e f pos) (zlW K ta f):=by subst ek;exact zk8 he hb
structure Mt (K:aN) (C:aq) (q x:cG) (st:cz) (ps:List cG) (f:aq) (fd:iY):Prop where
 fn:Fun K x q st f fd
 b:Binds K fd ps []
 m:Meth K C x f
theorem xZ{st:cz}{apos pos:mV}{pl:Ig Bool}(D:Mt X.K C q x st ps f fd)(c:Cls X.K C)(G:FnOk X.prog X.w X.K X.mg X.base CX0 k f fd ps sp)(hr:Room k X.A)(he:PE X o ta)(ha:PA X (e::es) t)(hst:bF (e::es) X.env=(false,dI e X.env)::bF es X.env:=by rfl)(hpl:(gh pos (bF es X.env)).any (·.1)=false:=by rfl)(ht:dI (.Call (.Attribute o x apos) (e::es) [] pos) X.env=(do
   let ov <-dI o X.env
   rM apos.atName
   let (f,first) <-Dt [ov] (oM ov x pl)
   DN pos f first (gh pos (bF (e::es) X.env)) (p7 pos (mF [] X.env))):=by rfl):PE X (.Call (.Attribute o x apos) (e::es) [] pos) (zbh C x sp [] E0 ta t):=
 zkk he c D.m G hr D.b .nil Xf ha hst hpl ht
theorem zgN{st:cz}(D:Mt X.K C q x st ps f fd)(c:Cls X.K C)(G:FnOk X.prog X.w X.K X.mg X.base CX0 k f fd ps sp)(hr:Room k X.A)(he:PE X o ta)(ht:dI (.Call (.Attribute o x apos) [] [] pos) X.env=(do
   let ov <-dI o X.env
   rM apos.atName
   let (f,first) <-Dt [ov] (oM ov x pl)
   DN pos f first (gh pos (bF [] X.env)) (p7 pos (mF [] X.env))):=by rfl):PE X (.Call (.Attribute o x apos) [] [] pos) (zbh C x sp [] E0 ta Qh):=
 zji he c D.m G hr D.b .nil Xf ht
structure zfm (mg:cG->Option aG):Prop where
 n_sum:mg "sum"= none
 n_abs:mg "abs"= none
 n_zip:mg "zip"= none
 n_str:mg "str"= none
theorem zjE(h:-1<=a):bH a (-1) (-1)=a+1:=by
 unfold bH;rw[if_neg (by omega)];by_cases h1:-1<a
 ·rw[if_pos h1,show (a - -1-1)=a by omega,show (- -1:Int)=1 from rfl,Int.ediv_one]
 ·rw[if_neg h1];omega
theorem zj3(h:-1<=a)(h2:a<=1000):gQ a (-1) (-1)=true:=by
 unfold gQ;rw[zjE h];simp only[m9,dJ,pK,decide_eq_true_eq,beq_iff_eq]
 first
  |omega
  | (simp;omega)
def zl4(ta:TA):TI:=λZ H R=>ta Z H λvs H1=>∃i:Int,vs=[.int i,.int (-1),.int (-1)]/\-1<=i/\i<=1000/\R (zfQ i (-1) (i+1).toNat) H1
section
variable {X:Cx} {tg:eV}
theorem zh0{Z:St}{lo:Int}(I:Inv X pins Z H s)(h1:-1<=lo)(h2:lo<=1000)(q:R (zfQ lo (-1) (lo+1).toNat) H):bJ (bR X.prog X.w) X.A (Dz (.ref s.heap.objs.size)) (PIE X pins Z tg R) E { s with heap:=s.heap.push { cls:=.type "range",data:=.fields #[.int lo t,.int (-1) u,.int (-1) v] },toks:=tk }:=by
 refine lC (mC ..) (zj3 h1 h2) ?_;have I1:Inv X pins Z H { s with heap:=s.heap.push { cls:=.type "range",data:=.fields #[.int lo t,.int (-1) u,.int (-1) v] },toks:=tk }:=I.kept λb o e=>az _ e;refine⟨_,[(s.heap.push { cls:=.type "range",data:=.fields #[.int lo t,.int (-1) u,.int (-1) v] }).objs.size],_,_,H,rfl,
  I1.kept (t':=tk) λb o e=>az _ e,zbk _ lo (-1) (lo+1).toNat,?_,λb hb=>?_,q⟩
 ·have e1:lo+((0:Nat):Int)*(-1)=lo:=by simp
  have e2:(((lo+1).toNat:Nat):Int)-((0:Nat):Int)=bH lo (-1) (-1):=by rw[zjE h1];omega
  show mz _ _ (lo+((0:Nat):Int)*(-1)) ((((lo+1).toNat:Nat):Int)-((0:Nat):Int)) (-1);rw[e1,e2];exact bC _ rfl
 ·have e:b=(s.heap.push { cls:=.type "range",data:=.fields #[.int lo t,.int (-1) u,.int (-1) v] }).objs.size:=by simpa using hb
  subst e;exact I1.fpOk (au _) (I1.hok.fresh (au _))
theorem zhD{p pos:mV}(hg:Gl X "range")(hm:X.mg "range"= none)(ha:PA X [a,b,d] ta)(hs:bF [a,b,d] X.env=[(false,dI a X.env),(false,dI b X.env),(false,dI d X.env)]:=by rfl)(hs2:bF [b,d] X.env=[(false,dI b X.env),(false,dI d X.env)]:=by rfl):
  PI X tg (.Call (.Name "range" p) [a,b,d] [] pos) (zl4 ta):=by
 intro pins s Z H R I h;refine FW (Zk I hg hm nD (cC (thn (ha pos pins s Z H _ I h) λus s1 ⟨vs,H1,I1,r1,q1⟩=>?_) (by rw[hs,hs2]) (by rw[hs2];rfl)));obtain⟨i,e,q1,q2,q⟩:=q1;subst e;cases r1 with
 |cons r rr=>
  cases rr with
  |cons r' rr=>
   cases rr with
   |cons r'' rr=>
    cases rr;obtain⟨t,rfl⟩:=r
    obtain⟨t',rfl⟩:=r';obtain⟨t'',rfl⟩:=r'';exact Fx (by omega) (zh0 I1 q1 q2 q) (aW (pG (by omega)))
end
theorem Inv.turned2{Z:St}{e it T:aq}(I:Inv X pins Z H s)(k:∀b o,b≠e->b≠it->s.heap.get? b=some o->h'.get? b=some o)(fe:zbu X pins H e)(fi:zbu X pins H it)(hT:s.heap.objs.size<=T)(new:ObjOk X.prog X.w (upd H T o) h' T o):Inv X pins Z (upd H T o) { s with heap:=h',toks:=t' }:=by
 have hn:H T=none:=I.hok.fresh hT;have na:∀b u,H b=some u->b≠T:=λb u e z=>by rw[z,hn]at e;cases e
 have ne:∀b u,H b=some u->b≠e:=λb u q z=>by rw[z,fe.1]at q;cases q
 have ni:∀b u,H b=some u->b≠it:=λb u q z=>by rw[z,fi.1]at q;cases q
 have k':∀b o,b∉[e,it]->s.heap.get? b=some o->h'.get? b=some o:=λb o hb q=>k b o (λz=>hb (by simp[z])) (λz=>hb (by simp[z])) q;refine I.step (g':=s.gens) (d':=s.drawn) (ch:=[e,it]) (λb hb=>?_) (λb o _ _ hc q _=>k' b o hc q) (λb o _ _ hc q _=>⟨o.slots,k' b o hc q⟩) (λb o hc q n=>by rw[zA (bA (aA (aQ q) hT))];exact n)
  (λb o hc q=>⟨o,k' b o hc q⟩) (λb xs q=>by rw[zA (na b _ q)];exact q) (λb o u q=>by rw[zA (na b _ q)];exact q) (λb ps q=>⟨#[],by rw[zA (na b _ q),q];simp⟩) (λm hm=>?_) (λb u q=>?_) I.bare
 ·rcases aP.mp hb with z | hb
  ·subst z;exact⟨fe.2.2.2.1,fe.2.1,fe.2.2.2.2.1,fe.2.2.2.2.2⟩
  ·have z:b=it:=by simpa using hb
   subst z;exact⟨fi.2.2.2.1,fi.2.1,fi.2.2.2.2.1,fi.2.2.2.2.2⟩
 ·obtain⟨o,es,ep,ho,r⟩:=hm;exact⟨o,es,ep,k _ o (cP fe.2.1) (cP fi.2.1) ho,r⟩
 ·by_cases hb:b=T
  ·subst hb;rw[zq]at q;cases q
   exact new
  ·rw[zA hb]at q;refine (I.hok b u q).stay (λc v hc z=>k c v ?_ ?_ z) (λc z=>by rw[zA (na c _ z)];exact z) λc xs z=>by rw[zA (na c _ z)];exact z
   ·rcases hc with rfl | hc
    ·exact ne _ _ q
    ·exact ne _ _ hc
   ·rcases hc with rfl | hc
    ·exact ni _ _ q
    ·exact ni _ _ hc
def Ite(K:aN)(a:aq):It :=
 ⟨λi H=>∃xs x,SqL K H a xs/\xs[i]?=some x,λi H v H'=>∃T x,v=.ref T/\H T=none/\H'=upd H T (.tup [.int (i:Nat),x])/\∀xs,SqL K H a xs->xs[i]?=some x,λi H=>∃xs,SqL K H a xs/\xs.length<=i⟩
theorem zhU{P:cg}{w:cT}{K:aN}{elts:List eV}{k:Nat}{tp:mV}(a e it:aq)(hei:e≠it):Turn P w K (.Tuple elts k tp) (Ite K a) [e,it] e (λi h=>(∃old,IsEnum h e it i old)/\h.IsListIter it a i) where
 mem:=by simp
 obj:=λi h st b hb=>by
  obtain⟨⟨old,he⟩,o,hi,c,d⟩:=st;rcases aP.mp hb with z | hb
  ·subst z;exact⟨_,he,λv z=>by
    have z':pY _=Cq v:=z;cases z'⟩
  ·have z:b=it:=by simpa using hb
   subst z;exact⟨o,hi,λv z=>by rw[d]at z;cases z⟩
 keep:=λi h h' st k=>by
  obtain⟨⟨old,he⟩,hi⟩:=st;exact⟨⟨old,k e (by simp) _ he⟩,hi.at λo q=>k it (by simp) o q⟩
 item:=by
  intro X hP hw hK hc i pins s Z H E I hf st hg;subst hP hw hK;obtain⟨xs,x,hq,hx⟩:=hg;obtain⟨its,rv,p,hz⟩:=I.list hq;obtain⟨u,hu,ru⟩:=rv.get hx;obtain⟨⟨old,he⟩,hi⟩:=st;refine wpAny_pyNext_enum_item he hi p.isList (x:=u) (by simpa using hu) hei λh' ho hi' hT hsz hk=>?_;refine⟨_,rfl,?_⟩;refine wpAny_letOwnedTupleGo_enum (s:={ s with heap:=h',toks:=s.toks+1 }) ho λh'' he' hs'=>?_;have helt:e<s.heap.objs.size:=aQ he;have hT2:h''.get? s.heap.objs.size=some { cls:=.type "tuple",data:=.seq #[.int i s.toks,u] }:=(hs'.2 _ (fj helt)).trans hT;have fe:=hf e (by simp);have fi:=hf it (by simp);have I1:Inv X pins Z (upd H s.heap.objs.size (.tup [.int (i:Nat),x])) { s with heap:=h'',toks:=s.toks+1 }:=by
   refine I.turned2 (λb o hb1 hb2 q=>(hs'.2 b hb1).trans (hk b o hb1 hb2 q)) fe fi (au _) ⟨by show 2<=aZ;decide,[.int i s.toks,u],.cons ⟨_,rfl⟩ (.cons ru .nil),_,hT2,rfl,0,rfl⟩
  refine⟨.ref s.heap.objs.size,_,I1,rfl,⟨s.heap.objs.size,x,rfl,I.hok.fresh (au _),rfl,λys hy=>by rw[I.list_inj hy hq];exact hx⟩,⟨⟨_,by simpa using he'⟩,hi'.at λo q=>(hs'.2 it (cP hei)).trans q⟩,λb hb=>?_⟩;have hbl:b<s.heap.objs.size:=by
   rcases aP.mp hb with z | hb
   ·rw[z];exact helt
   ·have z:b=it:=by simpa using hb
    obtain⟨o,q,_⟩:=hi;rw[z];exact aQ q
  rw[zA (bA hbl)];exact (hf b hb).1
 done:=by
  intro X hP hw hK hc i pins s Z H E I hf st hg;subst hP hw hK;obtain⟨xs,hq,hx⟩:=hg;obtain⟨its,rv,p,hz⟩:=I.list hq;obtain⟨⟨old,he⟩,hi⟩:=st;obtain⟨f0,f1,f2,f3,f4,f5⟩:=hf it (by simp);have hl:=rv.length;exact wpAny_pyNext_enum_end (I.ok.hd hc) he hi p.isList (by simp;omega) λh' eb=>⟨rfl,I.turned (t':=s.toks) (λb o hb q=>eb b o hb q) f0 f1 f3 f4 f5⟩
 self:=λ_ _ _ _ _ st h=>by
  obtain⟨⟨old,he⟩,_⟩:=st;exact BR he h
section
variable {X:Cx}
def zlU(K:aN)(tl:TA):TI:=λZ H R=>tl Z H λvs H1=>∃a,vs=[.ref a]/\(∃xs,SqL K H1 a xs)/\R (Ite K a) H1
theorem zkf(K:aN){elts:List eV}{k:Nat}{tp:mV}{p pos:mV}(hg:Gl X "enumerate")(hm:X.mg "enumerate"= none)(ha:PA X [a] ta)(hs:bF [a] X.env=[(false,dI a X.env)]:=by rfl)(ek:X.K=K:=by rfl):
  PI X (.Tuple elts k tp) (.Call (.Name "enumerate" p) [a] [] pos) (zlU K ta):=by
 subst ek;intro pins s Z H R I h;refine FW (Zk I hg hm boot_enumerate (cC (thn (ha pos pins s Z H _ I h) λus s1 ⟨vs,H1,I1,r1,q1⟩=>?_) (by rw[hs];rfl) (by rfl)));obtain⟨l,e,⟨xs,hq⟩,q⟩:=q1;subst e;cases r1 with
 |cons r rr=>
  cases rr;cases r
  obtain⟨its,rv,pl,hz⟩:=I1.list hq;refine call_enumerate_list pl.isList λh' he hi hsz hk=>?_;refine BR (s:={ s1 with heap:=h' }) he ?_;have I2:Inv X pins Z H1 { s1 with heap:=h' }:=I1.kept (t':=s1.toks) λb o q=>hk b o q;refine⟨s1.heap.objs.size+1,[s1.heap.objs.size+1,s1.heap.objs.size],_,_,H1,rfl,I2,zhU l _ _ (Nat.succ_ne_self _),⟨⟨_,he⟩,hi⟩,λb hb=>?_,q⟩;have hb2:s1.heap.objs.size<=b:=by
   rcases aP.mp hb with z | hb
   ·rw[z];exact eY _
   ·have z:b=s1.heap.objs.size:=by simpa using hb
    rw[z];exact au _
  exact I1.fpOk hb2 (I1.hok.fresh hb2)
theorem zju{K:W.Frag}{g:TG}{tb:TS}{D:Ends}(Pv:Nat->St->Hp->Prop)(h0:Pv 0 Z H)(hl:∀i Z H,i<=xs.length->Pv i Z H->SqL K H a xs)(hs:∀i x Z H T,xs[i]?=some x->Pv i Z H->H T=none->g (.ref T) Z (upd H T (.tup [.int (i:Nat),x])) fun σ2 H2=>tb { D with nx:=Pv (i+1),ct:=Pv (i+1),bk:=D.nx } σ2 H2)(hd:∀Z H,Pv xs.length Z H->D.nx Z H):
  ∃W:Nat->Nat->St->Hp->Prop,(∃m,W 0 m Z H)/\∀i m Z H,W i m Z H ->
   ((Ite K a).stop i H/\D.nx Z H)\/((Ite K a).go i H/\∃N:St->Hp->Prop,(∀σ' H',N σ' H'->∃m',m'<m/\W (i+1) m' σ' H')/\∀x H',(Ite K a).yld i H x H'->g x Z H' fun σ2 H2=>tb { D with nx:=N,ct:=N,bk:=D.nx } σ2 H2):=by
 refine⟨λi m Z H=>m=xs.length-i/\i<=xs.length/\Pv i Z H,⟨xs.length,by simp,bK _,h0⟩,?_⟩;rintro i m Z H ⟨rfl,hi,p⟩;have q:=hl i Z H hi p;by_cases hlt:i<xs.length
 ·have hx:xs[i]?=some xs[i]:=aj hlt;refine .inr ⟨⟨xs,xs[i],q,hx⟩,Pv (i+1),fun σ' H' p'=>⟨xs.length-(i+1),by omega,rfl,hlt,p'⟩,λv H' y=>?_⟩;obtain⟨T,x,rfl,hT,rfl,hy⟩:=y;have e2:=hy xs q;rw[hx]at e2;cases e2
  exact hs i xs[i] Z H T hx p hT
 ·have e:i=xs.length:=by omega
  subst e;exact .inl ⟨⟨xs,q,au _⟩,hd Z H p⟩
end
def zhe(c:aq)(q:cG):HO:=.ext λh=>h.CodeRec (.ref c) q
def zg1(P:aq)(pos:mV)(q:cG)(H:Hp)(c:aq):Prop:=H P=some (.tbl #[iQ pos.line,iQ pos.col,.ref c])/\H c=some (zhe c q)
def zaw(P:aq)(pos:mV)(q:cG)(H:Hp):Prop:=H P=some (.tbl #[])\/∃c,zg1 P pos q H c
section
variable {P:cg} {w:cT} {K:Frag} {mg:cG->Option aG} {base:dR} {N ps:List cG} {k:Nat} {A:eH} {outer:List GD} {s:aR} {H:Hp} {us:List aG} {vs:List V} {Q:VK} {E:XK} {f:aq} {o:kj}
 {name qual:cG} {params:Cv} {body:eV} {scope:lM} {pm cdv ct:aG} {args:Args}
theorem zjP(ho:s.heap.get? f=some o)(hd:o.data=.func (Hf name qual params body scope [] pm cdv ct))(hcd:s.heap.CodeRec cdv qual)(S:zG N ps scope)(hr:Room (k+1) A)(e0:Env0 P w K mg base A outer s H)(hb:ph s (Hf name qual params body scope [] pm cdv ct) args (ps.zip us))(hl:vs.length=ps.length)(r:Vals vs us)(hbody:∃t,PE (Q8 CX0 P w K mg base N qual scope f cdv A outer s H E) body t/\t (start N vs) H Q):lN (bR P w) A (.call (.ref f) args) (CR CX0 outer P w H s Q E) s:=by
 have lim:s.heap.NoLimit:=e0.mod.nolimit.keeps λb o e=>(e0.bs b o e).1;have hkind:∀y∈ps.zip us,scope.names.lookup y.1=some .local\/(scope.names.lookup y.1=some .cell/\((nu (s.heap.objs.size+1) scope.names []).lookup y.1).isSome=true):=λ⟨n,v⟩ hy=>by
  rcases S.par n (mO hy).1 with q | q
  ·exact .inl q
  ·exact .inr ⟨q,oN _ _ _ (.inl q)⟩
 refine kla_callFunE hr.depth ho hd S.co S.gen rfl hcd (hb _ _ _ _ ?_);refine nJ S.kind hkind λenv he s1 x=>?_;subst he;refine⟨lim.keeps x.toInCall.keep,kla_codeExpr ?_⟩;obtain⟨t,ht,hq⟩:=hbody;have I:Inv (Q8 CX0 P w K mg base N qual scope f cdv A outer s H E) [] (start N vs) H s1:=zdw S hr.hd e0 hl r x;refine dX (ht [] s1 (start N vs) H _ I hq) (λu s' hs=>?_) λe s' hs=>hs;obtain⟨v,H',J,rv,q⟩:=hs;exact⟨v,H',J.os,J.bare,J.base,J.hok,rv,q⟩
end
section
variable {X:Cx} {pins:List (aq×kj)} {Z:St} {H:Hp} {s:aR} {params:Cv} {body:eV} {scope:lM} {pos:mV} {c P:aq} {Q:aG->aR->Prop}
theorem zjJ(I:Inv X pins Z H s)(hdef:Hg params X.env=([],[]))(hcl:sS scope X.env=pure [])(hcode:X.env.code=.ref c)(hK:Ed X.K c P=true)(hB:X.base.BuiltinsAt X.mg P)(hgP:bZ≠P)(hT:zaw P pos (X.env.qual ++ "<lambda>") H)(h:∀f c' H' s' pm ct,Inv X pins Z H' s'->zg1 P pos (X.env.qual ++ "<lambda>") H' c'->s'.heap.get? f=some (BV "<lambda>" (X.env.qual ++ "<lambda>") params body scope [] pm c' ct)->H' f=none->s.heap.objs.size<=f ->
   (∀b u,b≠P->H b=some u->H' b=some u)->Q (.ref f) s'):
  bJ (bR X.prog X.w) X.A (dI (.Lambda params body scope pos) X.env) Q X.xe s:=by
 have C:CodeHd s.heap c P:=Gp I.kIn hK;have hg:s.heap.Ns bZ X.mg:=I.mod.glob.keeps I.bk;have hb:s.heap.BuiltinsAt X.mg P:=by
  obtain⟨bm,o,b1,b2,b3,b4,b5,b6,b7,b8⟩:=hB;exact⟨bm,o,b1,b2,b3,b4,I.bk _ _ b5,b6,b7,b8⟩
 refine kla_eval hdef ?_;rcases hT with hP | ⟨c',hP,hc'⟩
 ·have hPo:s.heap.get? P=some (Fy #[]):=I.hok P _ hP;refine kla_makeFunction hcl I.ok.glob hg hcode C hPo (show TriplesOk [] from trivial) rfl hgP hb λc' ct h' tk hx hge hlt hrec htb=>?_;have htb':h'.get? P=some (Fy #[iQ pos.line,iQ pos.col,.ref c']):=htb;have hPc:P≠c':=λz=>by
   have:=aQ hPo;rw[z]at this;exact absurd (aA this hge) (dY _)
  have hHc:H c'=none:=I.hok.fresh hge;have old:∀b o,b≠P->s.heap.get? b=some o->(h'.push (BV "<lambda>" (X.env.qual ++ "<lambda>") params body scope [] ((X.mg "__name__").getD .none) c' ct)).get? b=some o:=λb o hb e=>az _ (hx b o hb e);have nP:∀b,H b=none->b≠P:=λb n z=>by rw[z,hP]at n;cases n
  have up:∀b u,b≠P->H b=some u->upd (upd H P (.tbl #[iQ pos.line,iQ pos.col,.ref c'])) c' (zhe c' (X.env.qual ++ "<lambda>")) b=some u:=λb u hb e=>by
   rw[zA (λz=>by rw[z,hHc]at e;cases e),zA hb];exact e
  have upn:∀b,b≠P->b≠c'->H b=none->upd (upd H P (.tbl #[iQ pos.line,iQ pos.col,.ref c'])) c' (zhe c' (X.env.qual ++ "<lambda>")) b=none:=λb h1 h2 e=>by
   rw[zA h2,zA h1];exact e
  have J:Inv X pins Z (upd (upd H P (.tbl #[iQ pos.line,iQ pos.col,.ref c'])) c' (zhe c' (X.env.qual ++ "<lambda>"))) { s with heap:=h'.push (BV "<lambda>" (X.env.qual ++ "<lambda>") params body scope [] ((X.mg "__name__").getD .none) c' ct),toks:=tk }:=by
   refine I.un ⟨λb o e n _ _=>old b o (nP b n) e,λb o e n _ _=>⟨o.slots,old b o (nP b n) e⟩,λb o e n _=>upn b (nP b n) (bA (aA (aQ e) hge)) n,λb o e _=>?_,λb xs e=>up b _ (λz=>by rw[z,hP]at e;cases e) e,λb o u e=>up b _ (λz=>by rw[z,hP]at e;cases e) e,λb ps e=>?_⟩ ?_
   ·by_cases hb:b=P
    ·rw[hb];exact⟨_,az _ htb'⟩
    ·exact⟨o,old b o hb e⟩
   ·by_cases hb:b=P
    ·rw[hb]at e ⊢;rw[hP]at e;cases e
     exact⟨#[iQ pos.line,iQ pos.col,.ref c'],by rw[zA hPc,zq];rfl⟩
    ·exact⟨#[],by rw[up b _ hb e];simp⟩
   ·intro b u e;by_cases hbc:b=c'
    ·subst hbc;rw[zq]at e;cases e
     obtain⟨c2,oc,vs,t,e1,e2,e3,e4⟩:=id hrec;cases e1
     have q:=az (BV "<lambda>" (X.env.qual ++ "<lambda>") params body scope [] ((X.mg "__name__").getD .none) b ct) e2;refine⟨⟨b,oc,vs,t,rfl,q,e3,e4⟩,⟨oc,q⟩,λh1 h2 ⟨c3,o3,v3,t3,a1,a2,a3,a4⟩ k=>?_⟩;cases a1
     exact⟨b,o3,v3,t3,rfl,k _ a2,a3,a4⟩
    ·rw[zA hbc]at e;by_cases hbP:b=P
     ·rw[hbP]at e ⊢;rw[zq]at e;cases e
      exact az _ htb'
     ·rw[zA hbP]at e;refine (I.hok b u e).stay (λd v hd q=>old d v ?_ q) (λd q=>?_) λd xs q=>?_
      ·rcases hd with rfl | hd
       ·exact hbP
       ·intro z;rw[z,hP]at hd;cases hd
      ·exact up d _ (λz=>by rw[z,hP]at q;cases q) q
      ·exact up d _ (λz=>by rw[z,hP]at q;cases q) q
  have hsz:s.heap.objs.size<=h'.objs.size:=d7 (bw hge hlt);refine h _ c' _ _ _ ct J ⟨by rw[zA hPc,zq],zq⟩ (bC _ rfl) ?_ hsz up;exact upn _ (fj (aA (aQ hPo) hsz)) (fj hlt) (I.hok.fresh hsz)
 ·have hPo:s.heap.get? P=some (Fy #[iQ pos.line,iQ pos.col,.ref c']):=I.hok P _ hP;refine kla_makeFunctionHit hcl I.ok.glob hg hcode C hPo (show TriplesOk [iQ pos.line,iQ pos.col,.ref c'] from trivial) (cv:=.ref c') ?_ hb λct h' tk hk hsz=>?_
  ·have:=codeAmong_snoc (pos:=pos) (c:=.ref c') [] trivial rfl;exact this
  ·exact h _ c' H _ _ ct (I.kept (t':=tk) λb u e=>az _ (hk b u e)) ⟨hP,hc'⟩ (bC _ rfl) (I.hok.fresh hsz) hsz (λb u _ e=>e)
end
end L2
namespace HT
def uE(a b:List Int):Bool:=if a.length=b.length then lexLt a b else decide (a.length<b.length)
theorem Yh(a:List Int):uE a a=false:=by unfold uE;rw[if_pos rfl,qp]
theorem QG(a b c:List Int)(h1:uE a b=true)(h2:uE b c=true):uE a c=true:=by
 unfold uE at *;by_cases e1:a.length=b.length
 ·rw[if_pos e1]at h1;by_cases e2:b.length=c.length
  ·rw[if_pos e2]at h2;rw[if_pos (e1.trans e2)];exact ZF a b c h1 h2
  ·rw[if_neg e2]at h2;rw[if_neg (by omega)];have:=of_decide_eq_true h2;exact decide_eq_true (by omega)
 ·rw[if_neg e1]at h1;have h1':=of_decide_eq_true h1;by_cases e2:b.length=c.length
  ·rw[if_neg (by omega)];exact decide_eq_true (by omega)
  ·rw[if_neg e2]at h2;have:=of_decide_eq_true h2;rw[if_neg (by omega)];exact decide_eq_true (by omega)
theorem zgJ(a b:List Int)(h:a≠b):uE b a=!uE a b:=by
 unfold uE;by_cases e:a.length=b.length
 ·rw[if_pos e,if_pos e.symm,U0 a b h]
 ·rw[if_neg e,if_neg (cP e),bD];simp;omega
theorem zmx{ls:ZA}(nd:ls.Nodup):Ord (λi j=>uE (ls.getD i []) (ls.getD j [])) ls.length:=by
 have ge:∀i,(h:i<ls.length)->ls.getD i []=ls[i]:=λi h=>by rw[aL,aj h];rfl
 refine⟨λi j k _ _ _ h1 h2=>QG _ _ _ h1 h2,λi j hi hj hij h=>?_,λi j hi hj h=>?_⟩
 ·have ne:ls.getD i []≠ls.getD j []:=λz=>by
   rw[ge i hi,ge j hj]at z;exact hij ((lV nd).mp z)
  have:=zgJ _ _ ne;rw[h]at this;exact this
 ·cases e:uE (ls.getD j []) (ls.getD i []) with
  |false=>rfl
  |true=>
   have:=QG _ _ _ h e;rw[Yh]at this;cases this
end HT
namespace L2
open PySem PySem.Spec PyProof.Rows PySem.W
section
variable {X:Cx} {pins:List (aq×kj)} {Z:St} {H:Hp} {s:aR}
theorem zf8(I:Inv X pins Z H s)(h:H p=some (.tup [.int n,.ref z])):∃t o m,s.heap.get? p=some o/\o.cls=.type "tuple"/\o.data=.seq #[.int n t,.ref z] m:=by
 obtain⟨_,its,r,o,e,hc,m,hd⟩:=I.hok p _ h;cases r with
 |cons r1 r2=>
  cases r2 with
  |cons r3 r4=>
   cases r4;obtain⟨t,rfl⟩:=r1
   cases r3;exact⟨t,o,m,e,hc,hd⟩
theorem zkU(I:Inv X pins Z H s)(hp:H p=some (.tup [.int as.length,.ref za]))(hq:H q=some (.tup [.int bs.length,.ref zb]))(ha:H za=some (.lst (as.map V.int)))(hb:H zb=some (.lst (bs.map V.int)))(hu:A.units+2<iT)(h:Q (HT.uE as bs) s):bJ (bR X.prog X.w) A (keyLt' (tuples' true) (.ref p) (.ref q)) Q E s:=by
 obtain⟨t,o,m,e,_,hd⟩:=zf8 I hp;obtain⟨t',o',m',e',_,hd'⟩:=zf8 I hq;refine kat_lt e hd e' hd' ?_;refine kat_cons (Ck ?_);unfold HT.uE at h;by_cases hl:as.length=bs.length
 ·rw[if_pos hl]at h;have e1:((as.length:Int) == (bs.length:Int))=true:=by rw[hl];simp
  rw[e1];refine kat_yes (kat_cons ?_);refine (zbK I (A:=A) 1 (t:=xT as) (u:=xT bs) (v:=.ref za) (w:=.ref zb) (by rw[Yz];exact au _) (TrAt.ints (SqL.of ha)) (TrAt.ints (SqL.of hb)) rfl rfl (by omega)).eq _ _ _ _ ?_;rw[j0];by_cases hab:as=bs
  ·rw[decide_eq_true hab];refine kat_yes (kat_nil ?_);rw[hab,HT.qp]at h;exact h
  ·rw[decide_eq_false hab];refine kat_no (kat_one _ _ ?_);obtain⟨its,r1,p1,_⟩:=I.list (SqL.of ha);obtain⟨its2,r2,p2,_⟩:=I.list (SqL.of hb);exact HT.zbf p1.isList p2.isList (by simpa using intsAre_of r1) (by simpa using intsAre_of r2) (by omega) h
 ·rw[if_neg hl]at h;have e1:((as.length:Int) == (bs.length:Int))=false:=by simp;omega
  rw[e1];refine kat_no ?_;refine oneLt_int ?_;have:decide ((as.length:Int)<(bs.length:Int))=decide (as.length<bs.length):=by
   rw[bD];simp
  rw[this];exact h
end
end L2
set_option maxHeartbeats 4000000
namespace L2
open PySem PySem.Spec PyProof.Rows PySem.W
section
variable {X:Cx} {pins:List (aq×kj)} {Z:St} {H:Hp} {s:aR}
structure zhE (X:Cx) (pins:List (aq×kj)) (n:Nat) (a:aq):Prop where
 s0:X.s₀.heap.objs.size<=a
 lo:a≠X.env.locals
 ce:∀x c,X.env.cells.lookup x=some c->c≠a
 fs:a∉X.fs
 pn:∀p∈X.pn++pins,p.1≠a
 ge:n<=a
theorem Inv.late(I:Inv X pins Z H s){a:aq}(h:s.heap.objs.size<=a):zhE X pins s.heap.objs.size a :=
 ⟨ao I.sz h,fj (aA I.lt h),λx c e z=>by
  obtain⟨v,o,ho,_⟩:=I.cell x c e;rw[z]at ho;exact absurd (aA (aQ ho) h) (dY _),I.nofs h,λp hp z=>by
  obtain⟨e,_⟩:=I.pin p hp;rw[z]at e;exact absurd (aA (aQ e) h) (dY _),h⟩
theorem Inv.tell(I:Inv X pins Z H s)(L:zhE X pins m a)(hn:H a=none)(k:∀b o,b≠a->s.heap.get? b=some o->h'.get? b=some o)(hv:Vals xs its)(hz:xs.length<=aZ)(ha:h'.get? a=some (dj "list" its.toArray n)):Inv X pins Z (upd H a (.lst xs)) { s with heap:=h',toks:=t' }:=by
 have na:∀b u,H b=some u->b≠a:=λb u e z=>by rw[z,hn]at e;cases e
 refine I.step (g':=s.gens) (d':=s.drawn) (ch:=[a]) (λb hb=>?_) (λb o _ _ hc e _=>k b o (λz=>hc (by simp[z])) e) (λb o _ _ hc e _=>⟨o.slots,k b o (λz=>hc (by simp[z])) e⟩) (λb o hc e n=>by rw[zA (λz=>hc (by simp[z]))];exact n)
  (λb o hc e=>⟨o,k b o (λz=>hc (by simp[z])) e⟩) (λb xs e=>by rw[zA (na b _ e)];exact e) (λb o u e=>by rw[zA (na b _ e)];exact e) (λb ps e=>⟨#[],by rw[zA (na b _ e),e];simp⟩) (λm hm=>?_) (λb u e=>?_) I.bare
 ·have e:b=a:=by simpa using hb
  subst e;exact⟨.inr L.s0,L.lo,L.ce,L.pn⟩
 ·obtain⟨o,es,ep,ho,r⟩:=hm;exact⟨o,es,ep,k _ o (cP L.lo) ho,r⟩
 ·by_cases hb:b=a
  ·subst hb;rw[zq]at e;cases e
   exact⟨hz,its,n,hv,ha⟩
  ·rw[zA hb]at e;refine (I.hok b u e).stay (λc v hc q=>k c v ?_ q) (λc q=>by rw[zA (na c _ q)];exact q) λc xs q=>by rw[zA (na c _ q)];exact q
   rcases hc with rfl | hc
   ·exact hb
   ·exact na c _ hc
def zlb(H:Hp)(zs:ZB)(pl:List aq):Prop:=∀j z,zs[j]?=some z->j<pl.length->∃p,pl[j]?=some p/\H p=some (.tup [.int z.2.length,.ref z.1])
theorem kat_tups(I:Inv X pins Z H s):∀pl:List aq,(∀p∈pl,∃(n:Int) (z:aq),H p=some (.tup [.int n,.ref z]))->∃fs:List aG,KatTups s.heap (pl.map aY) fs/\fs.length=pl.length/\∀v∈fs,∃n t,v=nj n t
 |[],_=>⟨[],Ik,rfl,λv hv=>by cases hv⟩
 |p::pl,h=>by
  obtain⟨fs,h1,h2,h3⟩:=kat_tups I pl λq hq=>h q (.tail _ hq);obtain⟨n,z,e⟩:=h p (.head _);obtain⟨t,o,m,e1,e2,e3⟩:=zf8 I e;refine⟨.int n t::fs,Ia e1 e2 e3 rfl h1,by simp[h2],λv hv=>?_⟩;rcases aP.mp hv with rfl | hv
  ·exact⟨n,t,rfl⟩
  ·exact h3 v hv
theorem zjv{zs:ZB}(I:Inv X ((f,fo)::(a,dj "list" #[] e1)::pins) Z H s)(La:zhE X pins n a)(Lk:zhE X ((f,fo)::(a,dj "list" #[] e1)::pins) n kS)(hkS:s.heap.get? kS=some (dj "list" #[] 0))(hkn:H kS=none)(hz:∀z∈zs,H z.1=some (.lst (z.2.map V.int)))(nd:(zs.map (·.2)).Nodup)(h60:zs.length<=60)(hu:A.units+2<iT)(turn:∀H' s' pins' z,Inv X pins' Z H' s'->(f,fo)∈pins'->Same H H'->z∈zs ->
   bJ (bR X.prog X.w) A (call (.ref f) [.ref z.1]) (EP X pins' Z λv H2=>∃p,v=.ref p/\H' p=none/\H2=upd H' p (.tup [.int z.2.length,.ref z.1])) (λ_ _=>False) s')(done:∀(H':Hp) (s':aR) (zs':ZB),Inv X pins Z (upd H' a (.lst (zs'.map λz=>V.ref z.1))) s'->Same H H'->H' a=none->zs'.Perm zs->zs'.Pairwise (λx y=>HT.uE x.2 y.2=true)->P (.done (.ret .none)) s'):
  bJ (bR X.prog X.w) A (ksk_rest a (.ref f) false (zs.map λz=>aY z.1).toArray e1 (.ref kS)) P E s:=by
 unfold ksk_rest;refine aH (wpAny_rule ?_)
 first
  |rw[List.forIn_toArray]
  | (rw[<-sV];simp only[List.toList_toArray])
  |rw[<-sV]
 refine aH (ksk_fold (λi s'=>∃(H':Hp) (pl:List aq) (e:Nat),Inv X ((f,fo)::(a,dj "list" #[] e1)::pins) Z H' s'/\s'.heap.get? kS=some (dj "list" (pl.map aY).toArray e)/\H' kS=none/\pl.length=i/\zlb H' zs pl/\Same H H') (zs.map λz=>aY z.1) 0 s
  ⟨H,[],0,I,hkS,hkn,rfl,λj z _ h=>by simp at h,Same.refl _⟩ ?step ?fin)
 case step=>
  rintro j x s' hx ⟨H',pl,e,I',hk',hkn',hpl,hkeys,sm⟩;rw[dm]at hpl ⊢;rw[ak]at hx;obtain⟨z,hzj,ez⟩:=aM.mp hx;subst ez;have hzm:=aJ hzj;have hj:j<zs.length:=(aO.mp hzj).1;have I2:Inv X ((kS,dj "list" (pl.map aY).toArray e)::(f,fo)::(a,dj "list" #[] e1)::pins) Z H' s':=I'.pins_of λp hp=>by
   rcases aP.mp hp with rfl | hp
   ·exact⟨hk',hkn',Lk.lo,Lk.fs,λv z=>by cases z⟩
   ·exact I'.pin p (aV _ hp)
  refine aH (wpAny_attempt (dX (turn H' s' _ z I2 (by simp) sm hzm) (λv s'' he=>?_) λ_ _ hF=>hF.elim));obtain⟨v',H2,I3,rv,p,rfl,hpf,rfl⟩:=he;cases rv
  have pk:=I3.pin (kS,dj "list" (pl.map aY).toArray e) (aV _ (.head _));have I4:Inv X ((f,fo)::(a,dj "list" #[] e1)::pins) Z (upd H' p (.tup [.int z.2.length,.ref z.1])) s'':=I3.pins_of λq hq=>I3.pin q (aV _ (.tail _ hq));obtain⟨c2,hc2⟩:∃c2,(s''.heap.update kS (dC (·.push (.ref p)))).get? kS=some (dj "list" ((pl.map aY).toArray.push (.ref p)) c2):=⟨_,mQ pk.1 (·.push (.ref p))⟩
  have hsl:(pl.map aY).toArray.size<=60:=by rw[aK,aa];omega
  dsimp only;refine aH (iM pk.1 rfl ?_ (ao hsl (by decide)) (by rw[Array.size_push];exact ao (fZ hsl) (by decide)));refine bW ⟨rfl,_,pl++[p],c2,I4.turned (t':=s''.toks) (λb o hb q=>?_) pk.2.1 Lk.lo (.inr Lk.s0) Lk.ce Lk.pn,?_,pk.2.1,by rw[aB,aU,hpl],λi y hy hi=>?_,sm.trans (zy hpf)⟩
  ·rw[dW _ _ (cP hb)];exact q
  ·rw[hc2];simp
  ·by_cases hlt:i<pl.length
   ·obtain⟨p',e1',e2'⟩:=hkeys i y hy hlt;exact⟨p',by rw[cB hlt];exact e1',by rw[zA (zF e2' hpf)];exact e2'⟩
   ·have ei:i=pl.length:=by rw[aB,aU]at hi;omega
    have ej:i=j:=by omega
    rw[ej,hzj]at hy;cases hy
    exact⟨p,by rw[ei];simp,zq⟩
 case fin=>
  rintro s' ⟨H',pl,e,I',hk',hkn',hpl,hkeys,sm⟩;rw[dm,aa]at hpl
  try dsimp only
  refine aH (BP hk' rfl ?_);have ga:=I'.pin (a,dj "list" #[] e1) (aV _ (.tail _ (.head _)));have Ip:Inv X pins Z H' s':=I'.pins_of λq hq=>I'.pin q (by
   rcases bf.mp (aV X.pn hq) with h | h
   ·exact dB _ h
   ·exact aV _ (.tail _ (.tail _ h)))
  have nka:kS≠a:=λz=>Lk.pn (a,dj "list" #[] e1) (aV _ (.tail _ (.head _))) z.symm;have tail:∀(st:SortSt) (zs':ZB),(HQ st).map (·.2)=(zs'.map λz=>aY z.1).toArray->Gm st=none->zs'.Perm zs->zs'.Pairwise (λx y=>HT.uE x.2 y.2=true) ->
    bJ (bR X.prog X.w) A (ksk_tail a false e1 (.ref kS) st) P E s':=by
   intro st zs' hout hfl pm pw;have hlen:zs'.length<=60:=by rw[pm.length_eq];exact h60
   have s1:=Gx s'.heap kS (dC λ_=>(#[]:Array aG));have na1:(s'.heap.update kS (dC λ_=>(#[]:Array aG))).get? a=some (dj "list" #[] e1):=(s1.2 a nka.symm).trans ga.1;obtain⟨c2,hc2⟩:∃c2,((s'.heap.update kS (dC λ_=>(#[]:Array aG))).update a (dC λ_=>(zs'.map λz=>aY z.1).toArray)).get? a=some (dj "list" (zs'.map λz=>aY z.1).toArray c2):=
    ⟨_,mQ na1 λ_=>(zs'.map λz=>aY z.1).toArray⟩
   have I5:Inv X pins Z H' { s' with heap:=s'.heap.update kS (dC λ_=>(#[]:Array aG)),toks:=s'.toks }:=Ip.turned (λb o hb q=>by rw[dW _ _ (cP hb)];exact q) hkn' Lk.lo (.inr Lk.s0) Lk.ce (λq hq=>Lk.pn q (by
    rcases bf.mp hq with h | h
    ·exact dB _ h
    ·exact aV _ (.tail _ (.tail _ h))))
   have I6:=I5.tell (t':=s'.toks) (h':=(s'.heap.update kS (dC λ_=>(#[]:Array aG))).update a (dC λ_=>(zs'.map λz=>aY z.1).toArray)) La ga.2.1 (λb o hb q=>by rw[dW _ _ (cP hb)];exact q) (zaX zs') (by rw[aa];exact ao hlen (by decide)) hc2;unfold ksk_tail
   try dsimp only
   refine aH (iM hk' rfl ?_ (by rw[aK,aa,hpl];exact ao h60 (by decide)) (bK _));refine aH (Gj ?_);refine aH (n8 na1 rfl ?_);simp only[eQ,if_false];rw[hout];refine aH (iM na1 rfl ?_ (bK _) (by rw[aK,aa];exact ao hlen (by decide)));rw[hfl];simp only[bne_self_eq_false,eQ,if_false];exact bW (done H' _ zs' I6 sm ga.2.1 pm pw)
  unfold ksk_end
  try dsimp only
  simp only[eQ,if_false];have hvl:(zs.map λz=>aY z.1).toArray.size=zs.length:=by rw[aK,aa]
  by_cases h2:(zs.map λz=>aY z.1).toArray.size<2
  ·rw[if_pos h2,if_pos h2];refine aH (bW ?_);rw[Dm];refine aH (bW ?_)
   try dsimp only
   refine tail _ zs ?_ rfl (Ea _) ?_
   ·show (((pl.map aY).toArray.zip (zs.map λz=>aY z.1).toArray).map (·.2))=_;apply Cy.mp;rw[Cz,CG,CJ (by simp[hpl])]
   ·rw[hvl]at h2
    match zs,h2 with
    |[],_=>exact .nil
    |[_],_=>exact oR _ _
  ·rw[if_neg h2,if_neg h2];rw[hvl]at h2;have hkl:(pl.map aY).length=(zs.map λz=>aY z.1).length:=by rw[aa,aa,hpl]
   have hk2:∀j,j<zs.length->∃p,pl[j]?=some p/\H' p=some (.tup [.int (zs.getD j (0,[])).2.length,.ref (zs.getD j (0,[])).1])/\zs.getD j (0,[])∈zs:=λj hj=>by
    have e:zs.getD j (0,[])=zs[j]:=by rw[aL,aj hj];rfl
    rw[e];obtain⟨p,e1,e2⟩:=hkeys j zs[j] (aj hj) (by omega);exact⟨p,e1,e2,gb hj⟩
   obtain⟨fs,ht,hfl,hfi⟩:=kat_tups I' pl λp hp=>by
    obtain⟨j,hj,rfl⟩:=rT hp;obtain⟨p',e1,e2,_⟩:=hk2 j (by omega);rw[aj hj]at e1;cases e1
    exact⟨_,_,e2⟩
   refine aH (kat_kind (T:=.type "int") ht (by omega) (λv hv=>?_) (by decide) ?_)
   ·obtain⟨n,t,rfl⟩:=hfi v hv;exact Looks.of_pure rfl
   have ls2:(zs.map (·.2)).length=zs.length:=aa ..;have HR:(Gk (zs.map λz=>aY z.1).length).kasWp (BL X.prog X.w A (tuples' true) (pl.map aY)) (λp s''=>s''=s'/\(HT.Pm zs.length p/\HT.Up (λi j=>HT.uE ((zs.map (·.2)).getD i []) ((zs.map (·.2)).getD j [])) p zs.length)) s':=by
    rw[aa];have O:=HT.zmx nd;rw[ls2]at O;refine HT.KW.wp (n:=zs.length) (λi j C hi hj hC=>?_) _ (HT.zkD O (by omega));obtain⟨p,e1,e2,e3⟩:=hk2 i hi;obtain⟨q,d1,d2,d3⟩:=hk2 j hj;have ei:(zs.map (·.2)).getD i []=(zs.getD i (0,[])).2:=by rw[aL,aL,ak,aj hi];rfl
    have ej:(zs.map (·.2)).getD j []=(zs.getD j (0,[])).2:=by rw[aL,aL,ak,aj hj];rfl
    have gi:(pl.map aY).getD i fJ=.ref p:=by rw[aL,ak,e1];rfl
    have gj:(pl.map aY).getD j fJ=.ref q:=by rw[aL,ak,d1];rfl
    unfold BL;rw[gi,gj];refine zkU I' e2 d2 (sm _ _ (hz _ e3)) (sm _ _ (hz _ d3)) hu ?_
    try dsimp only at hC
    rw[ei,ej]at hC;exact hC
   have eT:(gM "int" != gM "tuple")=true:=by decide
   rw[eT];refine aH (dX (kat_run (ks:=pl.map aY) (vs:=zs.map λz=>aY z.1) (Q:=λst' s''=>∃p:Array Nat,s''=s'/\HQ st'=p.map (kas_item ((pl.map aY).toArray.zip (zs.map λz=>aY z.1).toArray))/\Gm st'=none/\HT.Pm zs.length p/\HT.Up (λi j=>HT.uE ((zs.map (·.2)).getD i []) ((zs.map (·.2)).getD j [])) p zs.length)
    hkl (by rw[aa];omega) (by rw[aa];omega) (λp st' s'' _ a2 a3 a4=>⟨p,a4.1,a2,a3,a4.2⟩) HR) ?_ λ_ _ e=>e)
   rintro⟨⟨⟩,st'⟩ s'' ⟨p,rfl,har,hfl2,hpm,hup⟩
   try dsimp only
   have hout:=kat_snds hkl har;have hpl2:p.toList.length=zs.length:=by rw[hpm.pm.length_eq,aX]
   refine tail st' (p.toList.map λi=>zs.getD i (0,[])) ?_ hfl2 (HT.zdz _ zs hpm.pm) ?_
   ·rw[hout,d8];congr 1;refine dq λi hi=>?_;have hi':=cZ.mp (hpm.pm.mem_iff.mp hi);show _=aY (zs.getD i (0,[])).1;rw[aL,aL,ak,aj hi'];rfl
   ·rw[dO,gw];intro i j hi hj hij;have q1:=hup i j hij (by omega);have e1:p.getD i 0=p.toList[i]:=by
     have:i<p.size:=by rw[hpm.sz];omega
     simp[mj,this]
    have e2:p.getD j 0=p.toList[j]:=by
     have:j<p.size:=by rw[hpm.sz];omega
     simp[mj,this]
    rw[e1,e2]at q1;have m1:=cZ.mp (hpm.pm.mem_iff.mp (gb hi));have m2:=cZ.mp (hpm.pm.mem_iff.mp (gb hj));have ei:(zs.map (·.2)).getD p.toList[i] []=(zs.getD p.toList[i] (0,[])).2:=by rw[aL,aL,ak,aj m1];rfl
    have ej:(zs.map (·.2)).getD p.toList[j] []=(zs.getD p.toList[j] (0,[])).2:=by rw[aL,aL,ak,aj m2];rfl
    try dsimp only at q1
    rw[ei,ej]at q1;exact q1
theorem zbj{zs:ZB}(I:Inv X ((f,fo)::pins) Z H s)(hl:H l=some (.lst (zs.map λz=>V.ref z.1)))(hz:∀z∈zs,H z.1=some (.lst (z.2.map V.int)))(nd:(zs.map (·.2)).Nodup)(h60:zs.length<=60)(hu:X.A.in1.in1.units+2<iT)(turn:∀H' s' pins' z,Inv X pins' Z H' s'->(f,fo)∈pins'->Same H H'->z∈zs ->
   bJ (bR X.prog X.w) X.A.in1.in1 (call (.ref f) [.ref z.1]) (EP X pins' Z λv H2=>∃p,v=.ref p/\H' p=none/\H2=upd H' p (.tup [.int z.2.length,.ref z.1])) (λ_ _=>False) s')(q:∀(D:aq) (H':Hp) (zs':ZB),H D=none->Same H H'->H' D=none->zs'.Perm zs->zs'.Pairwise (λx y=>HT.uE x.2 y.2=true)->Q (.ref D) (upd H' D (.lst (zs'.map λz=>V.ref z.1)))):
  bJ (bR X.prog X.w) X.A (call (.builtin "sorted") [.ref l] [(m7 "key",.ref f)]) (EP X pins Z Q) X.xe s:=by
 obtain⟨its,r1,p1,_⟩:=I.list (SqL.of hl);have e1:=zaL r1;subst e1;have hvl:(zs.map λz=>aY z.1).length=zs.length:=aa ..;have hsl:(zs.map λz=>aY z.1).length<=aZ:=by rw[hvl,CW];omega
 refine call_function_entry_kw Gn Fv Fw (ksk_s1 _ _) ?_;unfold rP.«sorted»;refine aH (m:=Hd "sorted" 1 1 _) (bW (aH (Fz p1.isList (aH (oJ ?_ hsl)) hsl)));generalize hB:(s.heap.push (dj "list" #[] 0)).update s.heap.objs.size (dC (·++(zs.map λz=>aY z.1).toArray))=B;have hsz:B.objs.size=s.heap.objs.size+1:=by rw[<-hB,gY,nM]
 have keep:∀b o,s.heap.get? b=some o->(B.push (dj "list" (zs.map λz=>aY z.1).toArray 0)).get? b=some o:=λb o q=>by
  have hlt:b<s.heap.objs.size:=aQ q;rw[fQ _ _ _ (by rw[hsz];exact bA (iV hlt)),<-hB,mW _ _ _ _ (bA hlt),fQ _ _ _ (bA hlt)];exact q
 have hoL:(B.push (dj "list" (zs.map λz=>aY z.1).toArray 0)).get? (s.heap.objs.size+1)=some (dj "list" (zs.map λz=>aY z.1).toArray 0):=by
  rw[<-hsz];exact bC _ rfl
 have hszB:(B.push (dj "list" (zs.map λz=>aY z.1).toArray 0)).objs.size=s.heap.objs.size+2:=by rw[nM,hsz]
 show bJ _ _ _ _ _ { s with heap:=B.push (dj "list" (zs.map λz=>aY z.1).toArray 0) };dsimp only;rw[hsz];refine aH (my (wpAny_call_entry_kw Eb ⟨_,hoL,rfl⟩ Do ?body (ksk_l1 _ _)))
 case body=>
  show bJ (bR X.prog X.w) X.A.in1.in1 (rP.«list.sort» ⟨[.ref (s.heap.objs.size+1)],[(m7 "key",.ref f)]⟩) _ _ _;rw[ksk_t1];unfold ksk_tree;generalize hG:B.push (dj "list" (zs.map λz=>aY z.1).toArray 0)=G at keep hoL hszB;generalize hLd:s.heap.objs.size+1=L at hoL;have hLG:L<G.objs.size:=aQ hoL;obtain⟨e1,ho1⟩:∃e1,(G.update L (dC λ_=>(#[]:Array aG))).get? L=some (dj "list" #[] e1):=⟨_,mQ hoL λ_=>#[]⟩
  refine aH (BP (s:={ s with heap:=G }) hoL rfl ?_);refine aH (iM (s:={ s with heap:=G }) hoL rfl ?_ (by rw[aK];exact hsl) (bK _));refine aH (n8 ho1 rfl ?_);refine aH (DY ?_ (by show (zs.map λz=>aY z.1).length<=_;exact hsl));refine aH (oJ ?_ (bK _));refine my ?_;generalize hM:(G.update L (dC λ_=>(#[]:Array aG))).push (dj "tuple" (zs.map λz=>aY z.1).toArray 0)=M;have hMs:M.objs.size=s.heap.objs.size+3:=by rw[<-hM,nM,gY,hszB]
  have hkS:(M.push (dj "list" #[] 0)).get? (s.heap.objs.size+3)=some (dj "list" #[] 0):=by rw[<-hMs];exact bC _ rfl
  have hL2:(M.push (dj "list" #[] 0)).get? L=some (dj "list" #[] e1):=az _ (by rw[<-hM];exact az _ ho1);have keep2:∀b o,s.heap.get? b=some o->(M.push (dj "list" #[] 0)).get? b=some o:=λb o q=>by
   have hlt:b<s.heap.objs.size:=aQ q;refine az _ ?_;rw[<-hM];refine az _ ?_;rw[mW _ _ _ _ (by rw[<-hLd];exact bA (iV hlt))];exact keep b o q
  have La0:=I.late (a:=L) (by rw[<-hLd];exact eY _);have Lk0:=I.late (a:=s.heap.objs.size+3) (by omega);have I1:Inv X ((f,fo)::pins) Z H { s with heap:=M.push (dj "list" #[] 0),toks:=s.toks }:=I.kept keep2;have hLn:H L=none:=I.hok.fresh (by rw[<-hLd];exact eY _);have I2:Inv X ((f,fo)::(L,dj "list" #[] e1)::pins) Z H { s with heap:=M.push (dj "list" #[] 0),toks:=s.toks }:=I1.pins_of λp hp=>by
   rcases aP.mp hp with rfl | hp
   ·exact I1.pin _ (aV _ (.head _))
   ·rcases aP.mp hp with rfl | hp
    ·exact⟨hL2,hLn,La0.lo,La0.fs,λv z=>by cases z⟩
    ·exact I1.pin p (aV _ (.tail _ hp))
  have La:zhE X pins s.heap.objs.size L:=⟨La0.s0,La0.lo,La0.ce,La0.fs,λp hp=>La0.pn p (by
   rcases bf.mp hp with h | h
   ·exact dB _ h
   ·exact aV _ (.tail _ h)),La0.ge⟩
  have Lk:zhE X ((f,fo)::(L,dj "list" #[] e1)::pins) s.heap.objs.size (s.heap.objs.size+3):=⟨Lk0.s0,Lk0.lo,Lk0.ce,Lk0.fs,λp hp=>by
   rcases bf.mp hp with h | h
   ·exact Lk0.pn p (dB _ h)
   ·rcases aP.mp h with rfl | h
    ·exact Lk0.pn _ (aV _ (.head _))
    ·rcases aP.mp h with rfl | h
     ·show L≠_;rw[<-hLd];omega
     ·exact Lk0.pn p (aV _ (.tail _ h)),Lk0.ge⟩
  rw[hMs];refine zjv (s:={ s with heap:=M.push (dj "list" #[] 0) }) I2 La Lk hkS (I.hok.fresh (by omega)) hz nd h60 hu turn λH' s' zs' I' sm hn pm pw=>⟨_,rfl,?_⟩
  exact bW ⟨_,rfl,.ref L,_,I',rfl,q L H' zs' hLn sm hn pm pw⟩
end
section
variable {X:Cx} {Z:St} {H:Hp} {s:aR} {params:Cv} {body:eV} {scope:lM} {pos lpos kpos p:mV} {c P:aq} {y:cG} {e:eV} {te:TE}
theorem zir(I:Inv X pins Z H s)(hf:(f,BV "<lambda>" q params body scope [] pm c' ct)∈pins)(hL:zg1 P lpos q H c')(S:zG [y] [y] scope)(hr:Room (k+1) X.A.in1.in1)(hb:∀pm ct u,p6 (Hf "<lambda>" q params body scope [] pm (.ref c') ct) ⟨[u],[]⟩=pure [(y,u)])(rv:RelV v u)(hbody:∃t,PE (Q8 CX0 X.prog X.w X.K X.mg X.base [y] q scope f (.ref c') X.A.in1.in1 X.stack s H E0) body t/\t (start [y] [v]) H Q):
  bJ (bR X.prog X.w) X.A.in1.in1 (call (.ref f) [u]) (EP X pins Z Q) (λ_ _=>False) s:=by
 have pf:=I.pin _ (aV X.pn hf);have hcd:s.heap.CodeRec (.ref c') q:=(I.hok c' _ hL.2).1;refine pq (ir (zjP (k:=k) (N:=[y]) (ps:=[y]) (us:=[u]) (vs:=[v]) (E:=E0) pf.1 rfl hcd S hr I.env0.in1.in1 (HX (hb pm ct u)) rfl (.cons rv .nil) hbody) λr s' hq=>?_);cases r with
 |error e=>exact hq
 |ok fl=>
  cases fl with
  |ret u=>exact I.after hq
  |next=>exact cV hq
  |brk=>exact cV hq
  |cont=>exact cV hq
def zjD(P:aq)(lpos:mV)(q:cG)(te:TE):TE:=λZ H Q=>te Z H λx H1=>∃(l:aq) (zs:ZB),x=.ref l/\H1 l=some (.lst (zs.map λz=>V.ref z.1))/\(∀z∈zs,H1 z.1=some (.lst (z.2.map V.int)))/\(zs.map (·.2)).Nodup/\zs.length<=60/\zaw P lpos q H1 /\
 ∀(D:aq) (zs':ZB) (H2:Hp),H1 D=none->H2 D=none->(∀b u,b≠P->H1 b=some u->H2 b=some u)->zaw P lpos q H2->zs'.Perm zs->zs'.Pairwise (λx y=>HT.uE x.2 y.2=true)->Q (.ref D) (upd H2 D (.lst (zs'.map λz=>V.ref z.1)))
theorem zf3(he:PE X e te)(hg:Gl X "sorted")(hm:X.mg "sorted"= none)(hr:Room (k+3) X.A)(hdef:Hg params X.env=([],[]))(hcl:sS scope X.env=pure [])(hcode:X.env.code=.ref c)(hK:Ed X.K c P=true)(hB:X.base.BuiltinsAt X.mg P)(hgP:bZ≠P)(S:zG [y] [y] scope)(hb:∀pm cd ct u,p6 (Hf "<lambda>" (X.env.qual ++ "<lambda>") params body scope [] pm cd ct) ⟨[u],[]⟩=pure [(y,u)])(hbody:∀(f c':aq) (s:aR) (H:Hp) (z:aq×List Int),H z.1=some (.lst (z.2.map V.int))->∃t,PE (Q8 CX0 X.prog X.w X.K X.mg X.base [y] (X.env.qual ++ "<lambda>") scope f (.ref c') X.A.in1.in1 X.stack s H E0) body t /\
   t (start [y] [.ref z.1]) H λv H2=>∃p,v=.ref p/\H p=none/\H2=upd H p (.tup [.int z.2.length,.ref z.1]))(hs1:bF [e] X.env=[(false,dI e X.env)]:=by rfl):
  PE X (.Call (.Name "sorted" p) [e] [⟨some "key",.Lambda params body scope lpos,kpos⟩] pos) (zjD P lpos (X.env.qual ++ "<lambda>") te):=by
 intro pins s Z H Q I h;refine di (Zk I hg hm lH ?_ (by decide) (by decide));have ha:PA X [e] (ZW te Qh):=zc he zf hs1;refine Gq (thn (ha pos pins s Z H (λvs H1=>match vs with
  |[x]=>∃(l:aq) (zs:ZB),x=.ref l/\H1 l=some (.lst (zs.map λz=>V.ref z.1))/\(∀z∈zs,H1 z.1=some (.lst (z.2.map V.int)))/\(zs.map (·.2)).Nodup/\zs.length<=60/\zaw P lpos (X.env.qual ++ "<lambda>") H1 /\
   ∀(D:aq) (zs':ZB) (H2:Hp),H1 D=none->H2 D=none->(∀b u,b≠P->H1 b=some u->H2 b=some u)->zaw P lpos (X.env.qual ++ "<lambda>") H2->zs'.Perm zs->zs'.Pairwise (λx y=>HT.uE x.2 y.2=true)->Q (.ref D) (upd H2 D (.lst (zs'.map λz=>V.ref z.1)))
  |_=>False) I h) λus s1 ⟨vs,H1,I1,r1,q1⟩=>?_) (by rw[hs1];rfl) (by rw[hs1];rfl)
 match vs,q1 with
 |[x],q1=>
  obtain⟨l,zs,rfl,hl,hz,nd,h60,hT,q⟩:=q1;obtain⟨u,rfl,rx⟩:=vals1 r1;cases rx
  show bJ _ _ (evalAll ((do let v <-dI (.Lambda params body scope lpos) X.env;rM pos;pure v)::[])) _ _ s1;refine sW (aH (zjJ I1 hdef hcl hcode hK hB hgP hT λf c' H2 s2 pm ct I2 hL hfo hfn hsz up=>aH (oF (bW ?_))));refine BW ?_;have Lf:=I1.late hsz;have I3:Inv X ((f,BV "<lambda>" (X.env.qual ++ "<lambda>") params body scope [] pm c' ct)::pins) Z H2 s2:=I2.pins_of λp hp=>by
   rcases aP.mp hp with rfl | hp
   ·exact⟨hfo,hfn,Lf.lo,Lf.fs,λv z=>by cases z⟩
   ·exact I2.pin p (aV _ hp)
  have hPl:∀b xs,H1 b=some (.lst xs)->b≠P:=λb xs e z=>by
   rw[z]at e;rcases hT with t | ⟨c2,t,_⟩
   ·rw[t]at e;cases e
   ·rw[t]at e;cases e
  have hr2:Room (k+1) X.A.in1.in1:=(hr.in1).in1;show bJ _ _ (call (.builtin "sorted") [.ref l] [(m7 "key",.ref f)]) _ _ s2;refine zbj I3 (up _ _ (hPl _ _ hl) hl) (λz hzm=>up _ _ (hPl _ _ (hz z hzm)) (hz z hzm)) nd h60 (by have:=hr2.units;omega) (λH' s' pins' z I' hf sm hzm=>?_) λD H' zs' hD sm hn pm pw=>?_
  ·have hL':zg1 P lpos (X.env.qual ++ "<lambda>") H' c':=⟨sm _ _ hL.1,sm _ _ hL.2⟩
   exact zir (v:=.ref z.1) I' hf hL' S hr2 (λpm ct u=>hb pm (.ref c') ct u) rfl (hbody f c' s' H' z (sm _ _ (up _ _ (hPl _ _ (hz z hzm)) (hz z hzm))))
  ·refine q D zs' H' ?_ hn (λb u hb e=>sm _ _ (up b u hb e)) (.inr ⟨c',sm _ _ hL.1,sm _ _ hL.2⟩) pm pw;cases e:H1 D with
   |none=>rfl
   |some u=>
    by_cases hDP:D=P
    ·rw[hDP,hL.1]at hD;cases hD
    ·rw[up D u hDP e]at hD;cases hD
end
theorem zin{K:Frag}(KX:K.In s₁.heap)(hns:s₁.heap.Ns bZ mg)(hb:s₁.heap.Ns oZ mb)(hbb:∀x:cG,x ≠ "__name__"->mb x=lL x)(hlim:s₁.heap.NoLimit)(hg:s₁.gens=#[])(hBM:∃bm ob,mg "__builtins__"= some (.ref bm)/\bm≠oZ/\s₁.heap.get? bm=some ob/\ob.cls=.type "module"/\ob.dict=some oZ/\ob.data=.plain)(hT:s₁.heap.get? T=some (Fy #[]))(hKT:K.lookup T=none)(hcT:Ed K c T=true)(ha:s₁.heap.get? a=some { cls:=.type "list",data:=.seq vs.toArray })(hi:iu vs ns)(hl:ns.length<=aZ)(hr:Room k rO)(F:∀base:dR,K.In base->base.Ns bZ mg->base.BuiltinsAt mg T->FnOk P w K mg base CX k fa fd [x] sp)(hbind:∀s u,ph s fd ⟨[u],[]⟩ [(x,u)])(hsp:∀H:Hp,H T=some (.tbl #[])->SqL K H a (ns.map V.int)->sp [.ref a] H (λv _=>v=.bl true) λ_ _ _=>False)(hCX:∀H e s',CX [] H s₁ (λ_ _ _=>False) e s'->False):
  lN (bR P w) rO (.call (.ref fa) ⟨[.ref a],[]⟩) (λr s'=>r=.ok (.ret (.bool true))/\OldK s₁.heap s'.heap/\s'.os=s₁.os/\lw s'.gens) s₁:=by
 have rv:=zdM hi;have lenV:=hi.length;have tabT:s₁.heap.TableAt c T #[]:=(Gp KX hcT).tab hT;have core:∀H:Hp,H T=some (.tbl #[])->SqL K H a (ns.map V.int)->HOk P w H s₁.heap->(∀b,H b≠none->b=a\/b=T)->(∀b,b≠T->H b=none\/∃o xs,H b=some (.frz o (.lst xs)))->(∀b,H b≠none->K.lookup b=none) ->
   lN (bR P w) rO (.call (.ref fa) ⟨[.ref a],[]⟩) (λr s'=>r=.ok (.ret (.bool true))/\OldK s₁.heap s'.heap/\s'.os=s₁.os/\lw s'.gens) s₁:=by
  intro H hHT hS hok hA hO hK;have base_of:∀{b:aq} {o:kj},s₁.heap.get? b=some o->H b=none->(zc7 s₁.heap H).get? b=some o:=λe n=>zjb e n;have noA:∀{b:aq} {o:kj},s₁.heap.get? b=some o->(∀xs n,o.data≠.seq xs n)->(∀ps,o.data≠.fields ps)->H b=none:=λ{b o} e d1 d2=>by
   cases q:H b with
   |none=>rfl
   |some u=>
    rcases hA b (by rw[q];simp) with e' | e'
    ·subst e';rw[ha]at e;cases e
     exact absurd rfl (d1 _ _)
    ·subst e';rw[hT]at e;cases e
     exact absurd rfl (d2 _)
  have nsK:∀{b:aq} {m:cG->Option aG},s₁.heap.Ns b m->(zc7 s₁.heap H).Ns b m:=λ{b m} ⟨o,es,ep,e,d,r⟩=>⟨o,es,ep,base_of e (noA e (λxs n z=>by rw[d]at z;cases z) (λps z=>by rw[d]at z;cases z)),d,r⟩
  have hKb:K.In (zc7 s₁.heap H):=λb o e=>base_of (KX b o e) (by
   cases q:H b with
   |none=>rfl
   |some u=>rw[hK b (by rw[q];simp)]at e;cases e)
  have hM:Mod K mg (zc7 s₁.heap H):=⟨hKb,nsK hns,⟨mb,nsK hb,hbb⟩,let ⟨mc,h1,h2⟩:=hlim;⟨mc,nsK h1,h2⟩⟩
  have hBA:(zc7 s₁.heap H).BuiltinsAt mg T:=by
   obtain⟨bm,ob,b1,b2,b3,b4,b5,b6⟩:=hBM;refine⟨bm,ob,b1,b2,λz=>?_,λz=>?_,base_of b3 (noA b3 (λxs n z=>by rw[b6]at z;cases z) (λps z=>by rw[b6]at z;cases z)),b4,b5,b6⟩
   ·obtain⟨o,es,ep,e,hd,_⟩:=hns;rw[z,e]at b3;cases b3
    rw[hd]at b6;cases b6
   ·rw[z,hT]at b3;cases b3;cases b4
  have e0:Env0 P w K mg (zc7 s₁.heap H) rO [] s₁ H:=⟨rfl,hM,λb o e=>zkj e,mY (zhS _ _),trivial,λb hb=>absurd (show b∈([]:List aq) from hb) (by simp),hok,.of_eq hg⟩
  refine ir ((F _ hKb (nsK hns) hBA).run rO [] s₁ H ⟨[.ref a],[]⟩ [.ref a] [.ref a] _ _ hr e0 (hbind s₁ (.ref a)) (.cons rfl .nil) (hsp H hHT hS)) λr s' h=>?_;cases r with
  |error e=>exact (hCX H e s' h).elim
  |ok fl=>
   cases fl with
   |next=>exact cV h
   |brk=>exact cV h
   |cont=>exact cV h
   |ret u=>
    obtain⟨v,H',os,bare,un,hok',r',q⟩:=h;have q':v=.bl true:=q;subst q';obtain rfl:u=oY true:=r';have oth:∀b o,b≠T->s₁.heap.get? b=some o->s'.heap.get? b=some o:=λb o hbT e=>by
     cases q:H b with
     |none=>exact un.keep b o e q (by intro z;exact absurd (show b∈([]:List aq) from z) (by simp)) (by simp)
     |some u=>
      rcases hO b hbT with z | ⟨ob,xs,z⟩
      ·rw[q]at z;cases z
      ·have z2:=un.frzs b ob _ z;obtain⟨e1,_⟩:=hok b _ z;obtain⟨e2,_⟩:=hok' b _ z2;rw[e]at e1;cases e1
       exact e2
    obtain⟨more,hm⟩:=un.tbls T _ hHT;have hTm:s'.heap.get? T=some { cls:=.none,data:=.fields (#[]++more) }:=hok' T _ hm;refine⟨rfl,⟨λb o e=>?_,λb o e=>?_⟩,os,bare⟩
    ·by_cases hbT:b=T
     ·subst hbT;rw[hT]at e;cases e
      exact .inr (.inl ⟨tabT.isCodeTable,rfl,#[],more,rfl,hTm⟩)
     ·exact .inl (oth b o hbT e)
    ·by_cases hbT:b=T
     ·subst hbT;exact⟨_,hTm⟩
     ·exact⟨o,oth b o hbT e⟩
 have hTa:T≠a:=λz=>by rw[z,ha]at hT;cases hT
 cases hk:K.lookup a with
 |some o=>
  have e:=KX a o hk;rw[ha]at e;cases e
  refine core (λb=>if b=T then some (.tbl #[]) else none) (if_pos rfl) (.inr ⟨_,vs.toArray,_,hk,rfl,rfl,rfl,by rw[aK,lenV];exact hl,by simpa using rv⟩) (λb u z=>?_) (λb z=>?_) (λb hb=>.inl (if_neg hb)) λb z=>?_
  ·by_cases hb:b=T
   ·have z':=(if_pos hb).symm.trans z;cases z'
    subst hb;exact hT
   ·have z':=(if_neg hb).symm.trans z;cases z'
  ·by_cases hb:b=T
   ·exact .inr hb
   ·exact absurd (if_neg hb) z
  ·by_cases hb:b=T
   ·rw[hb];exact hKT
   ·exact absurd (if_neg hb) z
 |none=>
  refine core (λb=>if b=a then some (.frz { cls:=.type "list",data:=.seq vs.toArray } (.lst (ns.map V.int))) else if b=T then some (.tbl #[]) else none) (by rw[if_neg hTa,if_pos rfl]) (.inl (.inr ⟨{ cls:=.type "list",data:=.seq vs.toArray },if_pos rfl⟩)) (λb u z=>?_) (λb z=>?_) (λb hb=>?_) λb z=>?_
  ·by_cases hb:b=a
   ·have z':=(if_pos hb).symm.trans z;cases z'
    subst hb;exact⟨ha,by rw[aa];exact hl,vs,_,rv,ha⟩
   ·have z':=(if_neg hb).symm.trans z;by_cases hb2:b=T
    ·have z2:=(if_pos hb2).symm.trans z';cases z2
     subst hb2;exact hT
    ·have z2:=(if_neg hb2).symm.trans z';cases z2
  ·by_cases hb:b=a
   ·exact .inl hb
   ·by_cases hb2:b=T
    ·exact .inr hb2
    ·exact absurd (by rw[if_neg hb,if_neg hb2]) z
  ·by_cases hba:b=a
   ·exact .inr ⟨_,_,if_pos hba⟩
   ·exact .inl (by rw[if_neg hba,if_neg hb])
  ·by_cases hb:b=a
   ·rw[hb];exact hk
   ·by_cases hb2:b=T
    ·rw[hb2];exact hKT
    ·exact absurd (by rw[if_neg hb,if_neg hb2]) z
theorem zmf{l:Fb}{K:Params->aN}{sp:cT->Sp}(hn:l.most=some n)(hn2:n<=aZ)(hdf:d.params.defaults=[])(hr:Room k rO)(hY:∀w h,YP w h->(K w.params).In h)(hYT:∀w h,YP w h->h.get? T=some (Fy #[]))(hKT:∀w:cT,(K w.params).lookup T=none)(hcT:∀w:cT,Ed (K w.params) c T=true)(F:∀w mg fa h,(K w.params).In h->h.Ns bZ mg->mg d.name=some (.ref fa) ->
   ∃fd:iY,(∀s u,ph s fd ⟨[u],[]⟩ [(x,u)]) /\
    ∀base:dR,(K w.params).In base->base.Ns bZ mg->base.BuiltinsAt mg T->FnOk l.prog w (K w.params) mg base CX0 k fa fd [x] (sp w))(hsp:∀(w:cT) (H:Hp) (a:aq) (ns:List Int),ns.length<=n->H T=some (.tbl #[])->SqL (K w.params) H a (ns.map V.int)->sp w [.ref a] H (λv _=>v=.bl true) λ_ _ _=>False):
  W.WalkO q loose XP YP l.row.toRowW d [] (λf vs=>PySem.call f vs):=by
 refine Att.zfl hn hdf λw s₀ s₁ mg mb fa o pm cd doc a vs ns G Y ho hd hcd hmg hobj hints hlen hg=>?_;have KX:=hY w _ Y;obtain⟨fd,hb,hF⟩:=F w mg fa _ KX G.T.g hmg;exact zin KX G.T.g G.T.b G.T.builtins G.T.nolimit hg G.T.bmain (hYT w _ Y) (hKT w) (hcT w) hobj hints (ao hlen hn2) hr hF hb (λH hO hS=>hsp w H a ns hlen hO hS) λH e s' h=>h
section
variable {X:Cx}
def zi0(K:aN):List V->Hp->VK->Prop:=λxs H Q=>Ex2 λ(a:aq) (zs:ZB)=>xs=[.ref a]/\SqL K H a (zs.map λz=>V.ref z.1)/\zs.length<=60/\(∀z∈zs,SqL K H z.1 (z.2.map V.int))/\(zs.map (·.2)).Nodup /\
 ∀(p:aq) (zs':ZB),H p=none->zs'.Perm zs->zs'.Pairwise (λx y=>HT.lexLt x.2 y.2=true)->Q (.ref p) (upd H p (.lst (zs'.map λz=>V.ref z.1)))
theorem zac(K:aN)(hu:X.A.units+64<iT)(e:X.K=K:=by rfl):Zu X (.builtin "sorted") (zi0 K):=by
 subst e;intro pins s Z H xs us Q I r h;obtain⟨a,zs,rfl,ha,h60,hz,nd,q⟩:=h;obtain⟨u,rfl,rx⟩:=vals1 r;cases rx
 obtain⟨its,r1,p1,_⟩:=I.list ha;have e1:=zaL r1;subst e1;have hO:=zkR nd;rw[aa]at hO;have hkl:(zs.map λz=>aY z.1).length=zs.length:=aa ..;have hzl:∀z∈zs,∃its:List aG,s.heap.IsList z.1 its.toArray/\iu its z.2:=λz hzm=>by
  obtain⟨its,r2,p2,_⟩:=I.list (hz z hzm);exact⟨its,p2.isList,by simpa using intsAre_of r2⟩
 refine HT.zj9 (n:=zs.length) (κ:=oneType') (Pv:=λvs=>vs=zs.map λz=>aY z.1) h60 (λR hR=>?_) λvs hl hv=>?_
 ·have hsl:(zs.map λz=>aY z.1).length<=aZ:=by rw[hkl];exact ao h60 (by decide)
  refine Fz p1.isList ?_ hsl;refine hR _ s.toks _ (λb o q=>?_) hkl rfl;have hlt:=aQ q;rw[mW _ _ _ _ (bA hlt),fQ _ _ _ (bA hlt)];exact q
 ·subst hv;have gr:∀i,i<zs.length->(zs.map λz=>aY z.1).getD i fJ=.ref (zs.getD i (0,[])).1/\(zs.map (·.2)).getD i []=(zs.getD i (0,[])).2/\zs.getD i (0,[])∈zs:=λi hi=>by
   have e:zs.getD i (0,[])=zs[i]:=by rw[aL,aj hi];rfl
   rw[e];refine⟨?_,?_,gb _⟩
   ·rw[aL,ak,aj hi];rfl
   ·rw[aL,ak,aj hi];rfl
  refine⟨_,hO,λG tk kG hn2 Q' hq=>?_,λG tk kG i j C hi hj hC=>?_,λp h' h'' tk e hp hw k1 k2 hat=>?_⟩
  ·refine kas_kind (T:=.type "list") (by omega) (λv hv=>?_) (by decide) (by decide) hq;obtain⟨z,hzm,rfl⟩:=bh.mp hv;obtain⟨its,hl,_⟩:=hzl z hzm;obtain⟨o,e,hcl,_⟩:=hl;intro A' Q' E' s' k q;exact Fp (T:="list") ⟨o,k _ _ (kG _ _ e),hcl⟩ q
  ·obtain⟨a1,a2,a3⟩:=gr i hi;obtain⟨b1,b2,b3⟩:=gr j hj;obtain⟨its,hl,hI⟩:=hzl _ a3;obtain⟨its2,hl2,hI2⟩:=hzl _ b3;unfold BL;rw[a1,b1];refine HT.zk5 (s:={ s with heap:=G,toks:=tk }) (hl.at λo e=>kG _ o e) (hl2.at λo e=>kG _ o e) (by simpa using hI) (by simpa using hI2) (by show X.A.units+1+1+1<iT;omega) ?_;rw[a2,b2]at hC;exact hC
  ·obtain⟨zs',pm,pw,hm⟩:=ziS hp hw;rw[hm]at hat;have I1:=I.kept (t':=tk) k1;have hfree:H h'.objs.size=none:=I1.hok.fresh (au _);have hl':zs'.length=zs.length:=pm.length_eq;exact⟨.ref h'.objs.size,_,I1.laid (t':=tk) (o:=.lst (zs'.map λz=>V.ref z.1)) k2 (au _) ⟨by rw[aa];exact ao (show zs'.length<=60 by omega) (by decide),_,e,zaX zs',hat⟩,rfl,q _ zs' hfree pm pw⟩
end
open PySem PySem.Spec PyProof.Rows
section
variable {X:Cx} {elt iter:eV} {ifs:List eV} {x:cG} {px pos:mV} {scope:lM} {ys:List cG} {js:List Nat} {wi:TI} {tt:TT} {te:TE}
end
theorem zj1(hN:X.N.Nodup)(hi:X.N[i]?=some x)(hx:Loc X.env.scope x)(h:PA X es t)(hf:X.fn x=true\/X.env.scope.names.lookup x=some .local:=by first | exact .inl rfl | exact .inr rfl | assumption):
  PS X (.Assign [.Name x pos'] (.List es lp) pos) (zaO (zhC t) (j9 i)):=zU hN hi hx (yR h) rfl hf
def zis(n:aq->Prop)(h:dR)(e:aq)(c:aG):Prop :=
 ∃oe oT vs ts a0 T,h.get? e=some oe/\oe.cls=c/\oe.data=.fields vs/\vs[0]?=some a0/\vs[1]?=some (.ref T)/\n T/\T≠e/\h.get? T=some oT/\oT.data=.fields ts/\ts[3]?=some .none
def CX1(P:cg)(w:cT):CXT:=λouter H s E e s'=>
 ∃ea c H',e=.ref ea/\s'.os=s.os/\lw s'.gens/\Un (frs outer) [] H H' s.heap s'.heap/\HOk P w H' s'.heap/\s.heap.get? ea=none/\H' ea=none /\
  zis (λT=>s.heap.get? T=none/\H' T=none) s'.heap ea c/\E c none H'
def zkM(X:Cx)(Ex:St->XK):Prop:=∀(pins:List (aq×kj)) (Z:St) (H:Hp) (s:aR) (h':dR) (ea:aq) (c:aG) (vs:List aG),Inv X pins Z H s->Heap.MadeExcOf s.heap h' ea c vs->Ex Z c none H->X.xe (.ref ea) { s with heap:=h' }
def zi2(X:Cx)(Ex:St->XK):Prop:=∀(pins:List (aq×kj)) (Z:St) (H:Hp) (s:aR) (e:aG) (s':aR),Inv X pins Z H s->CX1 X.prog X.w X.stack H s (Ex Z) e s'->X.xe e s'
theorem FnOk.up{K:aN}(F:FnOk P w K mg base CX0 k f fd ps sp):FnOk P w K mg base CX k f fd ps sp :=
 ⟨F.len,λA outer s H args us vs Q E hr e0 hb hv hs=>ir (F.run A outer s H args us vs Q E hr e0 hb hv hs) λr s' q=>by
  cases r with
  |error e=>exact cV q
  |ok fl=>cases fl<;>exact q⟩
theorem ObjOk.thereO(x:ObjOk P w H h a o):∃u,h.get? a=some u:=by
 cases o with
 |lst xs=>obtain⟨_,_,_,_,e⟩:=x;exact⟨_,e⟩
 |tup xs=>obtain⟨_,_,_,o,e,_⟩:=x;exact⟨_,e⟩
 |dK kvs=>obtain⟨_,_,_,_,o,_,_,e,_⟩:=x;exact⟨_,e⟩
 |dT kvs=>obtain⟨_,_,_,_,o,_,_,e,_⟩:=x;exact⟨_,e⟩
 |set S n=>obtain⟨o,_,_,_,e,_⟩:=x;exact⟨_,e⟩
 |ins C dx fs=>obtain⟨_,_,_,e,_⟩:=x;exact⟨_,e⟩
 |own y=>exact x
 |xd fs=>obtain⟨_,⟨_,_,_,e,_⟩,_⟩:=x;exact⟨_,e⟩
 |rng lo hi=>obtain⟨_,_,_,e⟩:=x;exact⟨_,e⟩
 |frz ob u=>obtain⟨e,_⟩:=x;exact⟨_,e⟩
 |tbl ps=>exact⟨_,(show h.get? a=some _ from x)⟩
 |met f y=>exact⟨_,(show h.get? a=some _ from x)⟩
 |ext φ=>obtain⟨_,e,_⟩:=x;exact e
theorem HOk.off(x:HOk P w H h)(e:h.get? a=none):H a=none:=by
 cases q:H a with
 |none=>rfl
 |some o=>obtain⟨u,z⟩:=(x a o q).thereO;rw[e]at z;cases z
section
variable {X:Cx} {pins:List (aq×kj)} {Z:St} {H H':Hp} {s s':aR} {h' B:dR} {ea:aq} {c a0:aG}
def zcP(X:Cx)(H':Hp)(s s':aR)(B:dR):Prop:=∀b o,s'.heap.get? b=some o->((∃u,s.heap.get? b=some u)\/H' b≠none)->b∉frs X.stack->B.get? b=some o
theorem zfS(I:Inv X pins Z H s)(un:Un (frs X.stack) [] H H' s.heap s'.heap):∀b∈frs X.stack,H' b=none:=λb hb=>by
 obtain⟨_,o,ho,_⟩:=I.stack.mem hb;exact un.free b o ho (I.stkFree b hb) (by simp)
theorem zgb(I:Inv X pins Z H s)(un:Un (frs X.stack) [] H H' s.heap s'.heap)(hok:HOk X.prog X.w H' s'.heap)(hB:zcP X H' s s' B)(st:B.StaysIn h')(up:s'.heap.UpToSlots h'):
  Un (frs X.stack) [] H H' s.heap h'/\HOk X.prog X.w H' h':=by
 have fr:=zfS I un;have sl:∀b o,s.heap.get? b=some o->b∈frs X.stack->∃q,h'.get? b=some { o with slots:=q }:=λb o e hb=>by
  obtain⟨_,o2,ho,hd⟩:=I.stack.mem hb;rw[e]at ho;cases ho
  obtain⟨q,e1⟩:=un.slot b o e (I.stkFree b hb) hb (by simp);obtain⟨q2,e2⟩:=up b _ e1 hd;exact⟨q2,e2⟩
 refine⟨⟨λb o e n hb _=>?_,λb o e _ hb _=>sl b o e hb,λb o e n _=>un.free b o e n (by simp),λb o e _=>?_,un.tups,un.frzs,un.tbls⟩,λa o e=>?_⟩
 ·exact st b o (hB b o (un.keep b o e n hb (by simp)) (.inl ⟨o,e⟩) hb)
 ·by_cases hb:b∈frs X.stack
  ·obtain⟨q,e1⟩:=sl b o e hb;exact⟨_,e1⟩
  ·obtain⟨o1,e1⟩:=un.there b o e (by simp);exact⟨o1,st b o1 (hB b o1 e1 (.inl ⟨o,e⟩) hb)⟩
 ·refine (hok a o e).stay (λb u hc q=>?_) (λ_ q=>q) λ_ _ q=>q;have nb:H' b≠none:=by
   rcases hc with z | z
   ·rw[z,e];intro z2;cases z2
   ·rw[z];intro z2;cases z2
  exact st b u (hB b u q (.inr nb) λhb=>nb (fr b hb))
theorem zmd(I:Inv X pins Z H s)(un:Un (frs X.stack) [] H H' s.heap s'.heap)(hok:HOk X.prog X.w H' s'.heap)(hB:zcP X H' s s' B)(st:B.StaysIn h')(up:s'.heap.UpToSlots h')(t:h'.TracedW B ea c a0):
  zis (λT=>s.heap.get? T=none/\H' T=none) h' ea c:=by
 have fr:=zfS I un;obtain⟨oe,vs,T,oT,ts,he,⟨hc,h0⟩,hd,h1,hnT,hTe,hT,hdT,h3⟩:=t;have nF:T∉frs X.stack:=λhb=>by
  obtain⟨_,o,ho,hd⟩:=I.stack.mem hb;obtain⟨q,e1⟩:=un.slot T o ho (I.stkFree T hb) hb (by simp);obtain⟨q2,e2⟩:=up T _ e1 hd;rw[hT]at e2;cases e2
  exact hd _ hdT
 refine⟨oe,oT,vs,ts,a0,T,he,hc,hd,h0,h1,⟨?_,?_⟩,hTe,hT,hdT,h3⟩
 ·cases q:s.heap.get? T with
  |none=>rfl
  |some o=>
   obtain⟨o1,e1⟩:=un.there T o q (by simp);have:=hB T o1 e1 (.inl ⟨o,q⟩) nF;rw[hnT]at this;cases this
 ·cases q:H' T with
  |none=>rfl
  |some o=>
   obtain⟨o1,e1⟩:=(hok T o q).thereO;have:=hB T o1 e1 (.inr (by rw[q];intro z;cases z)) nF;rw[hnT]at this;cases this
theorem zke(I:Inv X pins Z H s)(hx:X.ex=[])(os:s'.os=s.os)(bare:lw s'.gens)(un:Un (frs X.stack) [] H H' s.heap s'.heap)(hok:HOk X.prog X.w H' s'.heap)(n0:s.heap.get? ea=none)(n1:H' ea=none)(hB:zcP X H' s s' B)(st:B.StaysIn h')(t:h'.TracedW B ea c a0)(up:s'.heap.UpToSlots h')(hE:E c none H'):CX1 X.prog X.w X.outer X.H₀ X.s₀ E (.ref ea) { s' with heap:=h' }:=by
 obtain⟨u1,k1⟩:=zgb I un hok hB st up;have J:Inv X pins Z H' { s' with heap:=h' }:=I.call' (ch:=[]) os u1 k1 bare λb z=>absurd z (by simp);have off:∀b,s.heap.get? b=none->X.s₀.heap.get? b=none:=λb e=>by
  cases q:X.s₀.heap.get? b with
  |none=>rfl
  |some o=>
   obtain⟨o1,e1⟩:=I.base.there b o q (by rw[hx];simp);rw[e]at e1;cases e1
 have ub:=J.base;rw[hx]at ub;obtain⟨oe,oT,vs,ts,a1,T,he,hc,hd,h0,h1,⟨hn,hm⟩,r⟩:=zmd I un hok hB st up t;exact⟨ea,c,H',rfl,J.os,J.bare,ub,k1,off ea n0,n1,⟨oe,oT,vs,ts,a1,T,he,hc,hd,h0,h1,⟨off T hn,hm⟩,r⟩,hE⟩
theorem zgA(n0:s.heap.get? ea=none)(n1:H' ea=none)(nT:∀T∈Ts,s.heap.get? T=none/\H' T=none):zcP X H' s s' (rK s'.heap (ea::(Ts++frs X.stack))):=λb o e hb hf=>by
 refine sr _ e λhm=>?_;have bad:∀a,s.heap.get? a=none->H' a=none->b≠a:=λa h1 h2 z=>by
  subst z;rcases hb with ⟨u,q⟩ | q
  ·rw[h1]at q;cases q
  ·exact q h2
 rcases aP.mp hm with z | hm
 ·exact bad ea n0 n1 z
 ·rcases bf.mp hm with z | z
  ·exact bad b (nT b z).1 (nT b z).2 rfl
  ·exact hf z
theorem zcK(I:Inv X pins Z H s)(os:s'.os=s.os)(bare:lw s'.gens)(un:Un (frs X.stack) [] H H' s.heap s'.heap)(hok:HOk X.prog X.w H' s'.heap)(ha:∀b∈frs X.stack,b∈as):s'.heap.FunFrames (rK s'.heap as) X.stack:=by
 have J:Inv X pins Z H' s':=I.call' (ch:=[]) os un hok bare λb z=>absurd z (by simp);exact W.funFrames_hide J.stack λenv he b hb=>ha b (nG.mpr ⟨env,he,hb⟩)
theorem zku(I:Inv X pins Z H s)(os:s'.os=s.os)(bare:lw s'.gens)(un:Un (frs X.stack) [] H H' s.heap s'.heap)(hok:HOk X.prog X.w H' s'.heap)(n0:s.heap.get? ea=none)(n1:H' ea=none)(t:zis (λT=>s.heap.get? T=none/\H' T=none) s'.heap ea c):∃B a0,zcP X H' s s' B/\FJ B X.stack ea c a0 s'.heap:=by
 obtain⟨oe,oT,vs,ts,a0,T,he,hc,hd,h0,h1,⟨hn,hm⟩,hTe,hT,hdT,h3⟩:=t;refine⟨rK s'.heap (ea::([T]++frs X.stack)),a0,zgA n0 n1 (λb hb=>by rw[cJ.mp hb];exact⟨hn,hm⟩),λb o q=>Br _ q,pU _ (by simp),zcK I os bare un hok (by intro b hb;simp[hb]),?_⟩;exact⟨oe,vs,T,oT,ts,he,⟨hc,h0⟩,hd,h1,pU _ (by simp),hTe,hT,hdT,h3⟩
end
theorem zfh{K:aN}:
  zkM (Q8 (CX1 P w) P w K mg base N qual scope f cd A outer s₀ H₀ E) λ_=>E:=by
 intro pins Z H s h' ea c vs I hm hE;show bJ _ _ (leaving (lY qual scope s₀.heap.objs.size f cd) (.ref ea)) _ _ _;refine wpAny_leaves_madeW (s:={ s with heap:=h' }) (base:=rK s.heap (frs (Q8 (CX1 P w) P w K mg base N qual scope f cd A outer s₀ H₀ E).stack)) I.ok.frames rfl (λb o q=>Br _ q)
  (zcK I rfl I.bare Un.refl I.hok λb hb=>hb) hm λh2 t fl _ _ up=>?_
 refine zke (s':={ s with heap:=h' }) I rfl rfl I.bare (Un.kept hm.keeps) (I.hok.kept hm.keeps) hm.new (I.hok.off hm.new) (λb o e hb hf=>?_) fl.1 fl.2.2.2 up hE;refine sr _ ?_ hf;rcases hb with ⟨u,q⟩ | q
 ·have z:=hm.keeps b u q;rw[show h'.get? b=some o from e]at z;cases z;exact q
 ·cases r:H b with
  |none=>exact absurd r q
  |some x=>
   obtain⟨u,q⟩:=(I.hok b x r).thereO;have z:=hm.keeps b u q;rw[show h'.get? b=some o from e]at z;cases z;exact q
abbrev veT:List aG:=[.type "ValueError",.type "Exception",.type "BaseException",.type "object"]
structure zjo (K:aN) (mg:cG->Option aG) (x:cG) (C:aq):Prop where
 g:mg x=some (.ref C)
 ok:Dw K C veT "ValueError.__new__"= true
theorem zkh{K:aN}(X:K.In h)(q:Dw K C bmB newId=true):
  ∃bm bs N nm qn hd ab sn sub col dd k0 k1 k2 k3 k5 mN,
   h.get? C=some (excClassObj nm qn C N bs bm hd sn sub ab col dd k0 k1 k2 k3 k5 newId)/\h.Ns N mN/\mN "__init__"= none/\OwnTail h bmB bm:=by
 unfold Dw at q;split at q
 ·rename_i dd cd sl e
  split at q
  ·rename_i C2 bm k0 k1 k2 k3 n k5 hm hs
   rw[dJ,dJ,dJ,dJ,dJ]at q;have z1:=eq_of_beq q.1.1.1.1.1;have z2:=eq_of_beq q.1.1.1.1.2;have z3:cd.hasDel=false:=by simpa using q.1.1.1.2
   cases cd with
   |mk nm bs mro ns qn hd sn sub ab col del=>
    cases sl with
    |mk l=>
     have hs':l=_:=hs;have hm':mro=_:=hm;have z3':del=false:=z3;subst hs' hm' z3' z1 z2;exact⟨bm,bs,ns,nm,qn,hd,ab,sn,sub,col,dd,k0,k1,k2,k3,k5,_,X _ _ e,Hy (W.isNs_of_in X q.1.2),W.nsMap_none_of_in X q.1.2 (eq_of_beq q.2),W.tail_of_in X q.1.1.2⟩
  ·cases q
 ·cases q
def zlf(c:aG)(Ex:St->XK)(t:TA):TS:=λ_ Z H=>t Z H λvs H1=>vs.length<=aZ/\Ex Z c none H1
theorem zfv{np cpos pos:mV}(O:zjo X.K X.mg x C)(hx:zkM X Ex)(hc:X.calm=true)(ha:PA X (e::es) t)(hg:Gl X x:=by rfl)(hdb:(x == ("__debug__" : cG))=false:=by decide)(he:bF (e::es) X.env=(false,dI e X.env)::bF es X.env:=by rfl)(hpl:(gh cpos (bF (e::es) X.env)).any (·.1)=false:=by rfl):PS X (.Raise (some (.Call (.Name x np) (e::es) [] cpos)) none pos) (zlf (.ref C) Ex t):=by
 intro pins s Z H D I h;obtain⟨bm,bs,N,nm,qn,hd,ab,sn,sub,col,dd,k0,k1,k2,k3,k5,mN,hC,hN,hni,T⟩:=zkh (h:=X.base) I.ok.mod.kin O.ok;refine wpAny_Raise_call_subT (C:=C) (nm:=nm) (q:=qn) (N:=N) (bs:=bs) (bm:=bm) (hdct:=hd) (sn:=sn) (sub:=sub) (ab:=ab) (col:=col) (dd:=dd) (k0:=k0) (k1:=k1) (k2:=k2) (k3:=k3) (k5:=k5)
  PySem.F.excBase_ValueError (mN:=mN) (T.hasType PySem.F.excBase_ValueError.hasBase) (I.ok.hd hc) hpl hni (Ub I hg O.g ⟨rfl,?_⟩ hdb)
 have ha':=ha cpos pins s Z H _ I h;rw[he]at ha' ⊢;refine p8 (thn ha' λus s1 ⟨vs,H1,I1,r,hz,q⟩=>?_);exact⟨rfl,by rw[<-r.length];exact hz,I1.bk _ _ hC,hN.keeps I1.bk,T.keeps I1.bk,λh' ea hm=>hx pins Z H1 s1 h' ea (.ref C) us I1 hm q⟩
def zgx(sp:Sp)(Ex:St->XK)(t:TA):TE:=λZ H Q=>t Z H λvs H1=>sp vs H1 Q (Ex Z)
theorem zkp{Z:St}(F:FnOk X.prog X.w X.K X.mg X.base (CX1 X.prog X.w) k f fd ps sp)(hr:Room k X.A)(hb:Binds X.K fd ps [])(hx:zi2 X Ex)(I:Inv X pins Z H s)(r:Vals vs us)(h:sp vs H Q (Ex Z)):bJ (bR X.prog X.w) X.A (call (.ref f) us) (EP X pins Z Q) X.xe s:=by
 have hl:us.length=ps.length:=by rw[<-r.length];exact F.len _ _ _ _ h
 have hb':=hb s us I.kIn (by rw[cR];exact hl);rw[cR]at hb';refine pq (ir (F.run X.A X.stack s H ⟨us,[]⟩ us vs Q (Ex Z) hr I.env0 hb' r h) λr s' hq=>?_);cases r with
 |error e=>exact hx pins Z H s e s' I hq
 |ok fl=>
  cases fl with
  |ret u=>exact I.after hq
  |next=>exact cV hq
  |brk=>exact cV hq
  |cont=>exact cV hq
theorem zli{st:cz}{p pos:mV}(D:Df X.K X.mg x st ps f fd)(G:FnOk X.prog X.w X.K X.mg X.base (CX1 X.prog X.w) k f fd ps sp)(hr:Room k X.A)(hx:zi2 X Ex)(ha:PA X (e::es) t)(hg:Gl X x:=by rfl)(hdb:(x == ("__debug__" : cG))=false:=by decide)(he:bF (e::es) X.env=(false,dI e X.env)::bF es X.env:=by rfl)(hpl:(gh pos (bF es X.env)).any (·.1)=false:=by rfl):PE X (.Call (.Name x p) (e::es) [] pos) (zgx sp Ex t):=by
 intro pins s Z H Q I h;refine di (Ub I hg D.g ?_ hdb);refine pA (h₀:=X.base) I.ok.mod.kin D.fn.kp (thn (ha pos pins s Z H _ I h) λus s1 ⟨vs,H1,I1,r,q⟩=>⟨I1.kIn,?_⟩) he hpl;exact zkp G hr D.b hx I1 r q
theorem Fun.ok1{K:aN}{st:cz}(F:Fun K x qual st f fd)(S:zG N ps (zp st))(len:∀vs H Q E,sp vs H Q E->vs.length=ps.length)(hbody:∀cdv A outer s H vs Q E,Room k (A.deeper (lY qual (zp st) s.heap.objs.size f cdv))->sp vs H Q E ->
   ∃t,PSs (Q8 (CX1 P w) P w K mg base N qual (zp st) f cdv A outer s H E) (zj st) t/\t { nx:=λ_ H'=>Q .non H',rt:=Q } (start N vs) H):FnOk P w K mg base (CX1 P w) (k+1) f fd ps sp:=by
 obtain⟨oc,od,kV,doc,pm,an,cdv,ct,osl,rfl,lk,hcd⟩:=F.ex;exact zix lk hcd S len λA outer s H vs Q E hr hsp=>hbody cdv A outer s H vs Q E hr hsp
open PySem PySem.Spec PyProof.Rows Builtin Builtin.ObjectAttr Builtin.Getset_descriptor
def ExcAt(e C:aq)(h:dR):Prop:=∃o,h.get? e=some o/\o.cls=.ref C
section
variable {prog:cg} {w:cT} {A:eH} {K:aN} {e C:aq} {h:dR}
theorem ExcAt.ty(x:ExcAt e C h):W.Looks M h (HF (.ref e)) (.ref C):=by
 obtain⟨o,h1,h2⟩:=x;have L:W.Looks M h (HF (.ref e)) o.cls:=(Il h1).andThen .now;rw[h2]at L;exact L
def zjB(e C:aq):HO:=.ext λh=>ExcAt e C h
end
structure zd4 (K:aN) (mg:cG->Option aG) (y:cG) (Ch:aq):Prop where
 g:mg y=some (.ref Ch)
 mb:nZ K Ch (.type "BaseException")=some true
theorem zh9{K:aN}(X:K.In s.heap)(x:ExcAt e C s.heap)(m:rC K (.ref C) (.ref Ch)=some b)(hb:nZ K Ch (.type "BaseException")=some true)(q:Q b s):bJ (bR prog w) A (Hh (.ref e) (.ref Ch)) Q E s:=by
 cases s with
 |mk hp gn dr tk os=>
  obtain⟨y1,y2,y3⟩:=W.kit_cls (M:=bR prog w) X m;have y0:=x.ty (M:=bR prog w);have y4:=W.looks_mroIn (M:=bR prog w) X hb;have y5:=tc_notTuple;unfold Hh isInstance isExcClass
  repeat (first | with_reducible refine W.Looks.at (by assumption) ?_ | (with_reducible refine wpAny_of_eq y5 ?_) | with_reducible refine aH ?_ | wp_step)
  cases b
  ·exact bW (bW (bW q))
  ·exact bW (bW (bW q))
section
variable {X:Cx} {pins:List (aq×kj)} {Z:St} {H H':Hp} {s s':aR}
abbrev Cx.sui(X:Cx)(e:aq):Cx:={ X with A:=X.A.mark (some (.ref e)),calm:=false,xe:=λ_ _=>False }
theorem Inv.toSui(I:Inv X pins Z H s)(e:aq):Inv (X.sui e) pins Z H s :=
 ⟨⟨I.ok.mod,I.ok.kind,I.ok.glob,I.ok.blt,I.ok.above,I.ok.inj,I.ok.has,I.ok.cab,(λz=>nomatch z),I.ok.frames,I.ok.stk,I.ok.exf,I.ok.bs,I.ok.bsz,I.ok.noex,I.ok.exfs,I.ok.funs,I.ok.frf⟩,I.os,I.bare,I.base,I.loc,I.cell,I.free,I.freeC,I.pin,I.hok,I.len⟩
theorem Inv.ofSui(ok:X.Ok)(I:Inv (X.sui e) pins Z H s):Inv X pins Z H s:=⟨ok,I.os,I.bare,I.base,I.loc,I.cell,I.free,I.freeC,I.pin,I.hok,I.len⟩
abbrev Cx.body(X:Cx)(E:aG->aR->Prop)(pn:List (aq×kj)):Cx:={ X with xe:=E,pn:=pn }
theorem Inv.toBody(I:Inv X pins Z H s)(E:aG->aR->Prop):Inv (X.body E (X.pn++pins)) [] Z H s :=
 ⟨⟨I.ok.mod,I.ok.kind,I.ok.glob,I.ok.blt,I.ok.above,I.ok.inj,I.ok.has,I.ok.cab,I.ok.hd,I.ok.frames,I.ok.stk,I.ok.exf,I.ok.bs,I.ok.bsz,I.ok.noex,I.ok.exfs,I.ok.funs,I.ok.frf⟩,I.os,I.bare,I.base,I.loc,I.cell,I.free,I.freeC,λp hp=>I.pin p (by rw[cR]at hp;exact hp),I.hok,I.len⟩
theorem Inv.ofBody(ok:X.Ok)(I:Inv (X.body E (X.pn++pins)) pins' Z H s):Inv X pins Z H s:=⟨ok,I.os,I.bare,I.base,I.loc,I.cell,I.free,I.freeC,λp hp=>I.pin p (dB _ hp),I.hok,I.len⟩
theorem SP.ofBody(ok:X.Ok)(h:SP (X.body E (X.pn++pins)) [] D f s'):SP X pins D f s':=by
 cases f with
 |next=>obtain⟨σ',H',I,q⟩:=h;exact⟨σ',H',I.ofBody ok,q⟩
 |brk=>obtain⟨σ',H',I,q⟩:=h;exact⟨σ',H',I.ofBody ok,q⟩
 |cont=>obtain⟨σ',H',I,q⟩:=h;exact⟨σ',H',I.ofBody ok,q⟩
 |ret u=>obtain⟨v,σ',H',I,r,q⟩:=h;exact⟨v,σ',H',I.ofBody ok,r,q⟩
theorem zib(un:Un (frs X.stack) [] H H' s.heap h')(hok:HOk X.prog X.w H' h')(n0:s.heap.get? e=none)(n1:H' e=none)(x:ExcAt e C h'):
  Un (frs X.stack) [] H (upd H' e (zjB e C)) s.heap h'/\HOk X.prog X.w (upd H' e (zjB e C)) h':=by
 have ne:∀b o,s.heap.get? b=some o->b≠e:=λb o q z=>by rw[z,n0]at q;cases q
 refine⟨⟨un.keep,un.slot,λb o q n hx=>by rw[zA (ne b o q)];exact un.free b o q n hx,un.there,λb xs q=>?_,λb o u q=>?_,λb ps q=>?_⟩,λb o q=>?_⟩
 ·have z:=un.tups b xs q;rw[zA (zF z n1)];exact z
 ·have z:=un.frzs b o u q;rw[zA (zF z n1)];exact z
 ·obtain⟨more,z⟩:=un.tbls b ps q;exact⟨more,by rw[zA (zF z n1)];exact z⟩
 ·by_cases hb:b=e
  ·subst hb;rw[zq]at q;cases q
   obtain⟨o,h1,h2⟩:=id x;exact⟨x,⟨o,h1⟩,λha hb' xa ka=>let ⟨o,h1,h2⟩:=xa;⟨o,ka o h1,h2⟩⟩
  ·rw[zA hb]at q;exact (hok b o q).stay (λc u _ z=>z) (λc z=>by rw[zA (zF z n1)];exact z) λc xs z=>by rw[zA (zF z n1)];exact z
end
def xNo(K:aN)(Ch:aq)(ts:TS)(D:Ends):St->XK:=λZ c _ H=>∃C,c=.ref C/\rC K (.ref C) (.ref Ch)=some true/\∀e,H e=none->ts D Z (upd H e (zjB e C))
def zgm(K:aN)(Ch:aq)(tb:(St->XK)->TS)(ts:TS):TS:=λD Z H=>tb (xNo K Ch ts D) D Z H
section
variable {X:Cx} {y n:cG} {Ch:aq} {i:Nat} {body suite:List cz} {b₀:cz} {tb:(St->XK)->TS} {ts:TS} {np hpos pos:mV}
theorem ziQ(O:zd4 X.K X.mg y Ch)(hstk:X.stack=X.env::X.outer)(hfr:X.env.frame=some X.env.locals)(hb:∀E pn Ex,zi2 (X.body E pn) Ex->PSs (X.body E pn) body (tb Ex))(hs:∀e,PSs (X.sui e) (b₀::suite) ts)(hg:Gl X y:=by rfl)(hdb:(y == ("__debug__" : cG))=false:=by decide):
  PS X (.Try body [.ExceptHandler (some (.Name y np)) none (b₀::suite) hpos] [] [] pos) (zgm X.K Ch tb ts):=by
 intro pins s Z H D I h;have ok:=I.ok;refine wpAny_Try_except (dX (hb (λe s₁=>bJ (bR X.prog X.w) X.A (noteFrame e X.env) (λ_ s₂=>bJ (bR X.prog X.w) X.A (setFlight e none) (λ_ s₃=>bJ (bR X.prog X.w) X.A (handleBy e X.env [.ExceptHandler (some (.Name y np)) none (b₀::suite) hpos]) (SP X pins D) X.xe s₃) X.xe s₂) X.xe s₁)
  (X.pn++pins) (xNo X.K Ch ts D) ?_ [] s Z H D (I.toBody _) h) (λf s1 q=>?_) λ_ _ z=>z)
 ·intro pins2 σ2 H2 s2 e s3 I2 hcx;have I2:=I2.ofBody ok;obtain⟨ea,c,H3,rfl,os,bare,un,hok,n0,n1,t,C,rfl,hk,hq⟩:=hcx;obtain⟨B,a0,hB,fl⟩:=zku I2 os bare un hok n0 n1 t;have fl':FJ B (X.env::X.outer) ea (.ref C) a0 s3.heap:=by rw[<-hstk];exact fl
  refine wpAny_looks_onW (by rw[ok.frames,hstk]) hfr fl' λh4 held up4=>wpAny_landsW held λh5 fl5 up5=>?_;obtain⟨u5,k5⟩:=zgb I2 un hok hB fl5.1 (up4.trans up5);have J5:Inv X pins σ2 H3 { s3 with heap:=h5 }:=I2.call' (ch:=[]) os u5 k5 bare λb z=>absurd z (by simp);have x5:ExcAt ea C h5:=fl5.there;refine wpAny_handleBy_cons (codeAny_handlers_test (Ub (X:=X.sui ea) (J5.toSui ea) hg O.g ?_ hdb)) (by intro z;cases z);refine zh9 J5.kIn x5 hk O.mb (codeAny_handlers_suite (lands_againW fl5 λh6 fl6 up6=>?_));obtain⟨u6,k6⟩:=zgb I2 un hok hB fl6.1 ((up4.trans up5).trans up6);obtain⟨u7,k7⟩:=zib u6 k6 n0 n1 fl6.there;have J7:Inv X pins σ2 (upd H3 ea (zjB ea C)) { s3 with heap:=h6 }:=I2.call' (ch:=[]) os u7 k7 bare λb z=>absurd z (by simp);refine dX (hs ea pins _ _ _ D (J7.toSui ea) (hq ea n1)) (λf s9 q=>?_) λ_ _ z=>cV z;cases f with
  |next=>obtain⟨σ9,H9,J,q⟩:=q;exact⟨_,_,J.ofSui ok,q⟩
  |brk=>obtain⟨σ9,H9,J,q⟩:=q;exact⟨_,_,J.ofSui ok,q⟩
  |cont=>obtain⟨σ9,H9,J,q⟩:=q;exact⟨_,_,J.ofSui ok,q⟩
  |ret u=>obtain⟨v,σ9,H9,J,r,q⟩:=q;exact⟨v,_,_,J.ofSui ok,r,q⟩
 ·cases f with
  |next=>exact lz (SP.ofBody ok q)
  |ret u=>exact SP.ofBody ok q
  |brk=>exact SP.ofBody ok q
  |cont=>exact SP.ofBody ok q
end
open PySem PyProof.Rows
@[irreducible] def PEI (X:Cx) (e:eV) (t:TE):Prop:=PE X e t
@[irreducible] def PAI (X:Cx) (es:List eV) (t:TA):Prop:=PA X es t
@[irreducible] def PSsI (X:Cx) (st:List cz) (t:TS):Prop:=PSs X st t
theorem PEI.o(h:PEI X e t):PE X e t:=by unfold PEI at h;exact h
theorem PAI.o(h:PAI X es t):PA X es t:=by unfold PAI at h;exact h
theorem PSsI.o(h:PSsI X l t):PSs X l t:=by unfold PSsI at h;exact h
theorem pei(h:PE X e t):PEI X e t:=by unfold PEI;exact h
theorem pai(h:PA X es t):PAI X es t:=by unfold PAI;exact h
theorem zms(h:PSs X l t):PSsI X l t:=by unfold PSsI;exact h
theorem U4{i j pos}:PEI X (.Constant (.int i) j pos) (tC (.int i)):=pei zu
theorem zkr:PAI X [] Qh:=pai zf
theorem Wn(ha:PEI X e te)(hr:PAI X es t)(hs:bF (e::es) X.env=(false,dI e X.env)::bF es X.env:=by rfl):PAI X (e::es) (ZW te t):=pai (zc ha.o hr.o hs)
theorem zhT{st:cz}{rest:List cz}(h1:PS X st t)(h2:PSsI X rest u):PSs X (st::rest) (Y9 t u):=zg h1 h2.o
theorem zjl{rest:List cz}(hN:X.N.Nodup)(hi:X.N[i]?=some x)(hx:Loc X.env.scope x)(h:PAI X es t)(hr:PSs X rest u)(hf:X.fn x=true\/X.env.scope.names.lookup x=some .local:=by first | exact .inl rfl | exact .inr rfl | assumption):
  PSsI X (.Assign [.Name x pos'] (.List es lp) pos::rest) (Y9 (zaO (zhC t) (j9 i)) u):=zms (zg (zj1 hN hi hx h.o hf) hr)
theorem zhJ{P:cg}{w:cT}{K:W.Frag}{tg:eV}(it:aq)(lo:Int)(n:Nat):Turn P w K tg (Itr lo n) [it] it (λi h=>Hj h it (lo+(i:Nat)*1) ((n:Int)-(i:Nat)) 1) where
 mem:=by simp
 obj:=λi h st b hb=>by
  have e:b=it:=by simpa using hb
  subst e;exact⟨_,st,λv z=>by
   have z':pY _=Cq v:=z;cases z'⟩
 keep:=λi h h' st k=>k it (by simp) _ st
 item:=by
  intro X hP hw hK hc i pins s Z H E I hf st hg;subst hP hw hK;obtain⟨f0,f1,f2,f3,f4,f5⟩:=hf it (by simp);have W:=Walks.longrange (prog:=X.prog) (w:=X.w) (I.ok.hd hc) it lo 1 n;refine W.item i s _ _ hg st λv h' tk hv st' kk=>?_;obtain⟨t,rfl⟩:=hv;have I1:Inv X pins Z H { s with heap:=h',toks:=tk }:=I.turned (λb o hb e=>kk b o (by simpa using hb) e) f0 f1 f3 f4 f5;have e1:lo+(i:Int)*1=lo+i:=by omega
  exact⟨_,rfl,zht (s:={ s with heap:=h',toks:=tk }) (n:="longrange_iterator") st' rfl rfl (by decide) ⟨.int (lo+i),H,I1,⟨t,by rw[e1]⟩,⟨rfl,rfl⟩,st',λb hb=>(hf b hb).1⟩⟩
 done:=by
  intro X hP hw hK hc i pins s Z H E I hf st hg;subst hP hw hK;obtain⟨f0,f1,f2,f3,f4,f5⟩:=hf it (by simp);exact wpAny_pyNext_long_end (I.ok.hd hc) st (by have:n<=i:=hg;omega) λh' eb=>⟨rfl,I.turned (t':=s.toks) (λb o hb e=>eb b o hb e) f0 f1 f3 f4 f5⟩
 self:=λ_ _ _ _ _ st h=>wpAny_pyIter_longiter st h
section
variable {X:Cx} {tg:eV}
theorem zid{Z:St}{lo hi:Int}(I:Inv X pins Z H s)(q:R (Itr lo (hi-lo).toNat) H):bJ (bR X.prog X.w) X.A (Dz (.ref s.heap.objs.size)) (PIE X pins Z tg R) E { s with heap:=s.heap.push { cls:=.type "range",data:=.fields #[.int lo t,.int hi u,.int 1 v] },toks:=tk }:=by
 have I1:Inv X pins Z H { s with heap:=s.heap.push { cls:=.type "range",data:=.fields #[.int lo t,.int hi u,.int 1 v] },toks:=tk }:=I.kept λb o e=>az _ e;have e1:lo+((0:Nat):Int)*1=lo:=by simp
 have e2:(((hi-lo).toNat:Nat):Int)-((0:Nat):Int)=bH lo hi 1:=by rw[su];split<;>omega
 have ok:∀b∈[(s.heap.push { cls:=.type "range",data:=.fields #[.int lo t,.int hi u,.int 1 v] }).objs.size],zbu X pins H b:=λb hb=>by
  have e:b=(s.heap.push { cls:=.type "range",data:=.fields #[.int lo t,.int hi u,.int 1 v] }).objs.size:=by simpa using hb
  subst e;exact I1.fpOk (au _) (I1.hok.fresh (au _))
 cases hsm:gQ lo hi 1 with
 |true=>
  refine lC (mC ..) hsm ?_;refine⟨_,[(s.heap.push { cls:=.type "range",data:=.fields #[.int lo t,.int hi u,.int 1 v] }).objs.size],_,_,H,rfl,I1.kept (t':=tk) λb o e=>az _ e,zcW _ lo (hi-lo).toNat,?_,ok,q⟩;show mz _ _ (lo+((0:Nat):Int)*1) ((((hi-lo).toNat:Nat):Int)-((0:Nat):Int)) 1;rw[e1,e2];exact bC _ rfl
 |false=>
  refine wpAny_pyIter_longrange (mC ..) hsm ?_;refine⟨_,[(s.heap.push { cls:=.type "range",data:=.fields #[.int lo t,.int hi u,.int 1 v] }).objs.size],_,_,H,rfl,I1.kept (t':=tk) λb o e=>az _ e,zhJ _ lo (hi-lo).toNat,?_,ok,q⟩;show Hj _ _ (lo+((0:Nat):Int)*1) ((((hi-lo).toNat:Nat):Int)-((0:Nat):Int)) 1;rw[e1,e2];exact bC _ rfl
def zlF(ta:TA):TI:=λZ H R=>ta Z H λvs H1=>Ex2 λi j=>vs=[.int i,.int j]/\R (Itr i (j-i).toNat) H1
theorem zga{p pos:mV}(hg:Gl X "range")(hm:X.mg "range"= none)(ha:PA X [a,b] ta)(hs:bF [a,b] X.env=[(false,dI a X.env),(false,dI b X.env)]:=by rfl)(hs2:bF [b] X.env=[(false,dI b X.env)]:=by rfl):
  PI X tg (.Call (.Name "range" p) [a,b] [] pos) (zlF ta):=by
 intro pins s Z H R I h;refine FW (Zk I hg hm nD (cC (thn (ha pos pins s Z H _ I h) λus s1 ⟨vs,H1,I1,r1,q1⟩=>?_) (by rw[hs,hs2]) (by rw[hs2];rfl)));obtain⟨i,j,e,q⟩:=q1;subst e;cases r1 with
 |cons r rr=>
  cases rr with
  |cons r' rr=>
   cases rr;obtain⟨t,rfl⟩:=r
   obtain⟨t',rfl⟩:=r';exact Fg (zid I1 q)
end
section
variable {X:Cx}
def zgG(te:TE):TE:=λZ H Q=>te Z H λx H1=>∃n:Nat,x=.int n/\n<=1000/\∀q,H1 q=none->Q (.ref q) (upd H1 q (.lst ((aD n).map λ(c:Nat)=>V.int c)))
theorem zgy:∀{n:Nat} {its:List aG},its.length=n->(∀(i:Nat) v,its[i]?=some v->∃t,v=nj (0+(i:Int)*1) t)->Vals ((aD n).map λ(c:Nat)=>V.int c) its:=by
 intro n its hl h;have key:∀(k:Nat) (its:List aG),(∀(i:Nat) v,its[i]?=some v->∃t,v=nj ((k:Int)+(i:Int)) t)->Vals ((List.range' k its.length).map λ(c:Nat)=>V.int c) its:=by
  intro k its
  induction its generalizing k with
  |nil=>intro _;exact .nil
  |cons x l ih=>
   intro h;rw[bB,List.range'_succ,bz];refine .cons ?_ (ih (k+1) λi v e=>?_)
   ·obtain⟨t,e⟩:=h 0 x rfl;exact⟨t,by rw[e];simp⟩
   ·obtain⟨t,e'⟩:=h (i+1) v (by simpa using e);exact⟨t,by rw[e'];congr 1;omega⟩
 subst hl;rw[List.range_eq_range'];exact key 0 its λi v e=>by
  obtain⟨t,e'⟩:=h i v e;exact⟨t,by rw[e'];congr 1;omega⟩
theorem zas{p1 p2 pos1 pos2:mV}(hc:X.calm=true)(hg1:Gl X "list")(hm1:X.mg "list"= none)(hg2:Gl X "range")(hm2:X.mg "range"= none)(he:PE X e te)(hs:bF [e] X.env=[(false,dI e X.env)]:=by rfl)(hs2:bF [.Call (.Name "range" p2) [e] [] pos2] X.env=[(false,dI (.Call (.Name "range" p2) [e] [] pos2) X.env)]:=by rfl):
  PE X (.Call (.Name "list" p1) [.Call (.Name "range" p2) [e] [] pos2] [] pos1) (zgG te):=by
 intro pins s Z H Q I h;refine di (Zk I hg1 hm1 gW ?_);refine cC ?_ hs2 rfl;rw[hs2];show bJ _ _ (Bt ((false,dI (.Call (.Name "range" p2) [e] [] pos2) X.env)::gh pos1 [])) _ _ s;refine il ?_;refine di (Zk I hg2 hm2 nD ?_);refine cC ?_ hs rfl;rw[hs];show bJ _ _ (Bt ((false,dI e X.env)::gh pos2 [])) _ _ s;refine il (thn (he pins s Z H _ I h) λv s1 ⟨x,H1,I1,r1,q1⟩=>iU ?_);obtain⟨n,rfl,hn,q⟩:=q1;obtain⟨t,rfl⟩:=r1;refine Ff (iU ?_);have hsz:bH 0 (n:Int) 1=(n:Nat):=by rw[su];split<;>omega
 refine call_list_range (n:=n) (I1.ok.hd hc) (mC ..) (small_one (by decide) (by decide) (by omega) (by omega)) hsz (ao hn (by decide)) λh' tk acc' c' hk hS hacc=>?_;simp only[iW]at hS ⊢;have kept:∀b o,s1.heap.get? b=some o->h'.get? b=some o:=λb o e=>hk b o (az _ e);have rv:Vals ((aD n).map λ(c:Nat)=>V.int c) acc'.toList:=zgy (by rw[fU];exact hacc.1) λi v e=>hacc.2 i v (by rw[<-Array.getElem?_toList];exact e);have hokL:=I1.laid (a:=s1.heap.objs.size+1) (o:=.lst ((aD n).map λ(c:Nat)=>V.int c)) (h':=h') (t':=tk) kept (eY _) ⟨by rw[aa,aX];exact ao hn (by decide),acc'.toList,c',rv,by rw[hS]⟩;exact⟨.ref _,_,hokL,rfl,q _ (I1.hok.fresh (eY _))⟩
end
def CMulB(i j:Int):Prop:=i.natAbs<2^100000/\j.natAbs<2^100000
theorem zkm:OpR X (mD .Mult) (rI CMulB λi j=>.int (i*j)):=opI λi j _ _ _ _ _ hc q=>by
 have h:(100000:Nat)<=2^20:=by decide
 exact mul_int q (Hw (ao (Hk hc.1) h) (ao (Hk hc.2) h))
theorem CMulB.nat{i j k l:Nat}(h1:i<2^k)(h2:j<2^l)(hk:k<=100000)(hl:l<=100000):CMulB (i:Int) (j:Int):=
 ⟨by rw[sX];exact aA h1 (cH (eY 1) hk),by rw[sX];exact aA h2 (cH (eY 1) hl)⟩
section
variable {X:Cx} {pins:List (aq×kj)} {Z:St} {H:Hp} {s:aR} {h':dR} {T:aq} {o:HO} {t':Nat} {fp:List aq}
end
section
variable {X:Cx}
end
open PySem PySem.Spec PyProof.Rows PySem.SeqAt
section
variable {X:Cx}
def zec(K:aN):V->List V->Hp->VK->Prop:=λx vs H Q=>∃(l:aq) (ns:List Int) (k:Int),x=.ref l/\vs=[.int k]/\SqL K H l (ns.map V.int)/\Q (.int (ns.count k:Nat)) H
theorem zhV:MtM X "list.count" (zec X.K):=by
 intro pins s Z H x vs v us Q I rx rv h;obtain⟨l,ns,k,rfl,rfl,hq,q⟩:=h;cases rx
 obtain⟨u0,rfl,ru⟩:=Vals.one rv;obtain⟨its,r,pl,hz⟩:=I.list hq;obtain⟨t,rfl⟩:=ru;exact count_list_ints pl.isList (intsAre_of r) ⟨.int (ns.count k:Nat),H,I.kept λb o e=>e,⟨_,rfl⟩,q⟩
theorem ziz(K:aN)(e:X.K=K:=by rfl):MtM X "list.count" (zec K):=by subst e;exact zhV
end
structure Sq (X:Cx) (l:List cz) where
 t:TS
 p:PSs X l t
def sbs:cz->Bool->List cz
 |.For _ _ b _ _,true=>b
 |.While _ b _ _,true=>b
 |.If _ b _ _,true=>b
 |.If _ _ b _,false=>b
 |_,_=>[]
def sb(l:List cz)(i:Nat)(k:Bool):List cz :=
 match l.drop i with
 |s::_=>sbs s k
 |[]=>[]
theorem xu(h:let Y:=X;∃t,PSs Y l t/\t D Z H):∃t,PSs X l t/\t D Z H:=h
end L2
namespace Lw
def yJ(b n:Nat):List Int:=if h:2<=b/\b<=n then yJ b (n / b)++[((n % b:Nat):Int)] else [(n:Int)]
termination_by n
decreasing_by exact gB (by omega) (by omega)
theorem uM(h:n<b):yJ b n=[(n:Int)]:=by
 rw[yJ,dif_neg (by omega)]
theorem YS(h2:2<=b)(h:b<=n):yJ b n=yJ b (n / b)++[((n % b:Nat):Int)]:=by
 rw[yJ,dif_pos ⟨h2,h⟩]
def ahead(b r:Nat):List Int:=if r=0 then [] else yJ b r
theorem QL(h2:2<=b):yJ b n=ahead b (n / b)++[((n % b:Nat):Int)]:=by
 unfold ahead;by_cases h:n<b
 ·rw[uM h,if_pos (fc h),kI h];rfl
 ·rw[YS h2 (by omega),if_neg];have:=Dc (a:=n) (b:=b) (by omega) (by omega);omega
theorem zgC(h2:2<=b)(hr:0<r):ahead b r=ahead b (r / b)++[((r % b:Nat):Int)]:=by
 rw[<-QL h2];unfold ahead;rw[if_neg (by omega)]
theorem uP{b:Nat}(h2:2<=b):∀(m n:Nat),n<2^m->(yJ b n).length<=m+1
 |0,n,h=>by rw[uM (by simp at h;omega)];simp
 |m+1,n,h=>by
  by_cases hn:n<b
  ·rw[uM hn];simp
  ·rw[YS h2 (by omega),aB,aU];have h3:n / b<=n / 2:=Nat.div_le_div_left h2 (by omega);have h4:n / 2<2^m:=by rw[iy]at h;omega
   have:=uP h2 m (n / b) (by omega);omega
theorem zbR(h2:2<=b):∀n,∀f∈yJ b n,0<=f/\f<b:=by
 intro n
 induction n using mR with
 |_ n ih=>
  intro f hf;by_cases hn:n<b
  ·rw[uM hn]at hf;have:f=(n:Int):=by simpa using hf
   omega
  ·rw[YS h2 (by omega)]at hf;rcases bf.mp hf with hf | hf
   ·exact ih (n / b) (gB (by omega) (by omega)) f hf
   ·have e:f=((n % b:Nat):Int):=by simpa using hf
    have:=iz n (show 0<b by omega);omega
theorem zam:yJ b n≠[]:=by
 rw[yJ];split
 ·simp
 ·simp
def tops(b:Nat):Nat->Nat->List Int
 |0,n=>[((n / b^0:Nat):Int)]
 |k+1,n=>((n / b^(k+1):Nat):Int)::tops b k (n % b^(k+1))
theorem zdP{b:Nat}:∀(k n:Nat),tops b (k+1) n=tops b k (n / b)++[((n % b:Nat):Int)]
 |0,n=>by simp[tops]
 |k+1,n=>by
  rw[tops,zdP k (n % b^(k+2)),tops,gR];have e:b^(k+1+1)=b*b^(k+1):=by rw[iy,dN]
  have e1:n % b^(k+1+1) / b=n / b % b^(k+1):=by rw[e,nO]
  have e2:n % b^(k+1+1) % b=n % b:=by rw[e,pO]
  have e3:n / b^(k+1+1)=n / b / b^(k+1):=by rw[e,pH]
  rw[e1,e2,e3]
theorem QX{b:Nat}(h2:2<=b):∀(k n:Nat),n<b^(k+1)->(k=0\/b^k<=n)->tops b k n=yJ b n
 |0,n,h,_=>by
  rw[uM (by simpa using h)];simp[tops]
 |k+1,n,h,hk=>by
  have hge:b^(k+1)<=n:=by
   rcases hk with z | z
   ·omega
   ·exact z
  have hb:b<=n:=ao (by rw[iy];exact lR b (fD (by omega))) hge;rw[zdP,YS h2 hb];have h3:n / b<b^(k+1):=by
   rw[fH (by omega),<-iy];exact h
  have h4:b^k<=n / b:=by
   rw[pP (by omega),<-iy];exact hge
  rw[QX h2 k (n / b) h3 (.inr h4)]
theorem ze6{b:Nat}:∀(k n:Nat),(tops b k n).length=k+1
 |0,n=>rfl
 |k+1,n=>by rw[tops,bB,ze6 k]
def zdu(b:Int)(ns:List Int):Int:=ns.foldl (λn f=>n*b+f) 0
theorem zaH(b f:Int)(ns:List Int):zdu b (ns++[f])=zdu b ns*b+f:=by
 unfold zdu;rw[List.foldl_append];rfl
structure zgQ (b:Nat) (ns:List Int):Prop where
 ne:ns≠[]
 len:ns.length<=200
 fig:∀f∈ns,0<=f/\f<b
 first:ns.head?≠some 0\/ns.length=1
def Zr(st fs:List Int):Bool:=(aD fs.length).any λk=>decide ((fs.drop k).take st.length=st)
theorem tR(h:st≠[]):Zr st fs=true↔∃k,(fs.drop k).take st.length=st:=by
 unfold Zr;simp only[cI,cZ,decide_eq_true_eq];constructor
 ·rintro⟨k,_,e⟩;exact⟨k,e⟩
 ·rintro⟨k,e⟩;refine⟨k,?_,e⟩;have hl:=congrArg c7 e;rw[bM,cA]at hl;have:0<st.length:=cF.mpr h;omega
theorem Ju(h:st≠[]):Zr st fs=(aD ((fs.length:Int)-st.length+1).toNat).any λk=>decide ((fs.drop k).take st.length=st):=by
 rw[bD,tR h];simp only[cI,cZ,decide_eq_true_eq];constructor
 ·rintro⟨k,e⟩;refine⟨k,?_,e⟩;have hl:=congrArg c7 e;rw[bM,cA]at hl;have:0<st.length:=cF.mpr h;omega
 ·rintro⟨k,_,e⟩;exact⟨k,e⟩
def lacks(ls:ZA)(fs:List Int):Bool:=!ls.any λst=>Zr st fs
theorem zif{b:Nat}(h2:2<=b):∀n:Nat,zdu b (yJ b n)=n:=by
 intro n
 induction n using mR with
 |_ n ih=>
  by_cases h:n<b
  ·rw[uM h];simp[zdu]
  ·rw[YS h2 (by omega),zaH,ih (n / b) (gB (by omega) (by omega))];have:=gC n b;have e:((n / b:Nat):Int)*(b:Int)+((n % b:Nat):Int)=((n / b*b+n % b:Nat):Int):=by push_cast;rfl
   rw[e,dN,this]
theorem zh3(h2:2<=b):∀n:Nat,0<n->(yJ b n).head?≠some 0:=by
 intro n
 induction n using mR with
 |_ n ih=>
  intro hn;by_cases h:n<b
  ·rw[uM h];simp;omega
  ·rw[YS h2 (by omega)];have q:=ih (n / b) (gB hn (by omega)) (Dc (by omega) (by omega));cases e:yJ b (n / b) with
   |nil=>exact absurd e zam
   |cons x y=>rw[e]at q;simpa using q
theorem zio(h2:2<=b)(hn:n<2^199):zgQ b (yJ b n):=by
 refine⟨zam,uP h2 199 n hn,zbR h2 n,?_⟩;by_cases h:n=0
 ·right;rw[h,uM (by omega)];rfl
 ·left;exact zh3 h2 n (by omega)
theorem zhM(h2:2<=b)(hn:0<n)(hf:f<b):yJ b (n*b+f)=yJ b n++[(f:Int)]:=by
 have hge:b<=n*b+f:=ao (lR b hn) (Nat.le_add_right _ _);have e1:(n*b+f) / b=n:=by rw[dN,Nat.mul_add_div (by omega),fc hf];rfl
 have e2:(n*b+f) % b=f:=by rw[dN,Nat.mul_add_mod,kI hf]
 rw[YS h2 hge,e1,e2]
theorem zh6{b:Nat}(h2:2<=b):∀k st,st.length=k->st≠[]->(∀f∈st,0<=f/\f<(b:Int))->(st.head?≠some 0\/st.length=1)->∃n:Nat,zdu b st=n/\yJ b n=st/\(st.head?≠some 0->0<n):=by
 intro k
 induction k with
 |zero=>intro st hk ne;exact absurd (fO hk) ne
 |succ k ih=>
  intro st hk ne hf h0;obtain⟨ini,x,rfl⟩:∃ini x,st=ini++[x]:=⟨st.dropLast,st.getLast ne,(List.dropLast_concat_getLast ne).symm⟩
  have hx:=hf x (by simp);obtain⟨g,rfl⟩:=Int.eq_ofNat_of_zero_le hx.1;cases hi:ini with
  |nil=>
   subst hi;refine⟨g,by simp[zdu],by rw[uM (by omega)];rfl,λh=>?_⟩;have:(g:Int)≠0:=by simpa using h
   omega
  |cons y ys=>
   have hne:ini≠[]:=by rw[hi];simp
   have hhead:ini.head?≠some 0:=by
    rcases h0 with h | h
    ·rw[hi]at h ⊢;simpa using h
    ·rw[hi]at h;simp at h
   obtain⟨m,e1,e2,e3⟩:=ih ini (by simpa using hk) hne (λf hm=>hf f (by simp[hm])) (.inl hhead);have hm:=e3 hhead;rw[<-hi];refine⟨m*b+g,?_,?_,λ_=>?_⟩
   ·rw[zaH,e1];push_cast;rfl
   ·rw[zhM h2 hm (by omega),e2]
   ·have:=Nat.le_mul_of_pos_right m (show 0<b by omega);omega
theorem zjy(h:st≠[])(q:Zr st fs=true):Zr st (fs++gs)=true:=by
 rw[tR h]at q ⊢;obtain⟨k,e⟩:=q;refine⟨k,?_⟩;have hl:=congrArg c7 e;rw[bM,cA]at hl;have hp:0<st.length:=cF.mpr h;rw[cW (by omega),ig (by rw[cA];omega)];exact e
theorem ZK(ne:∀l∈ls,l≠[])(h:lacks ls (fs++gs)=true):lacks ls fs=true:=by
 unfold lacks at *;rw[cU,cu]at h ⊢;intro l hl q;exact h l hl (zjy (ne l hl) q)
def Xq(ls:ZA)(fs:List Int):Bool:=ls.any λst=>decide (st.take fs.length=fs)
def zY(ls:ZA):List Int->List Int
 |[]=>[]
 |x::fs=>if Xq ls (x::fs) then x::fs else zY ls fs
theorem Wv{ls:ZA}:∀(i:Nat) (fs:List Int),i<=fs.length->(∀k,k<i->Xq ls (fs.drop k)=false)->zY ls fs=zY ls (fs.drop i)
 |0,_,_,_=>rfl
 |i+1,[],h,_=>by simp at h
 |i+1,x::fs,h,q=>by
  have h0:=q 0 (by omega);rw[gZ]at h0;rw[zY,if_neg (by rw[h0];decide),fV];exact Wv i fs (by simpa using h) λk hk=>by have:=q (k+1) (by omega);rwa[fV]at this
theorem zcR(h:Xq ls fs=true):zY ls fs=fs:=by
 cases fs with
 |nil=>rfl
 |cons x fs=>rw[zY,if_pos h]
theorem zfx(hi:i<=fs.length)(h:∀k,k<i->Xq ls (fs.drop k)=false)(q:Xq ls (fs.drop i)=true):zY ls fs=fs.drop i:=by
 rw[Wv i fs hi h,zcR q]
theorem zbX(h:∀k,k<fs.length->Xq ls (fs.drop k)=false):zY ls fs=[]:=by
 rw[Wv fs.length fs (au _) h,CP];rfl
def zfY(ls:ZA)(x:List Int):Prop:=x=[]\/∃st∈ls,∃k,1<=k/\k<st.length/\x=st.take k/\lacks ls x=true
structure StandsL (ls:ZA) (xs:ZA):Prop where
 mem:∀x,x∈xs↔zfY ls x
 up:xs.Pairwise λx y=>HT.uE x y=true
theorem StandsL.nodup(h:StandsL ls xs):xs.Nodup:=by
 refine h.up.imp λ{x y} q z=>?_;rw[z,HT.Yh]at q;cases q
theorem zcN(h:∀st∈ls,st.length<=4)(q:zfY ls x):x.length<=3:=by
 rcases q with rfl | ⟨st,hst,k,h1,h2,rfl,_⟩
 ·decide
 ·have:=h st hst;rw[bM];omega
theorem zhA(h:Xq ls (y++[x])=true):Xq ls y=true:=by
 unfold Xq at *;rw[cI]at h ⊢;obtain⟨st,hst,q⟩:=h;refine⟨st,hst,decide_eq_true ?_⟩;have q:=of_decide_eq_true q;have e:=congrArg (List.take y.length) q;rw[Ef,List.take_take,aB]at e;rw[dH (by omega)]at e;exact e
theorem Us{ls:ZA}:∀fs:List Int,∃j,j<=fs.length/\zY ls fs=fs.drop j/\(∀k,k<j->Xq ls (fs.drop k)=false)/\(j<fs.length->Xq ls (fs.drop j)=true)
 |[]=>⟨0,au _,rfl,λk hk=>by omega,λh=>by simp at h⟩
 |x::fs=>by
  by_cases h:Xq ls (x::fs)=true
  ·exact⟨0,bK _,by rw[zY,if_pos h];rfl,λk hk=>by omega,λ_=>h⟩
  ·obtain⟨j,h1,h2,h3,h4⟩:=Us (ls:=ls) fs;refine⟨j+1,by rw[bB];omega,by rw[zY,if_neg h,h2,fV],λk hk=>?_,λhj=>by rw[fV];exact h4 (by rw[bB]at hj;omega)⟩;cases k with
   |zero=>rw[gZ];simpa using h
   |succ k=>rw[fV];exact h3 k (by omega)
theorem qx(fs:List Int)(x:Int):zY ls (zY ls fs++[x])=zY ls (fs++[x]):=by
 obtain⟨j,h1,h2,h3,_⟩:=Us (ls:=ls) fs;rw[h2,Wv j (fs++[x]) (by rw[aB];omega) (λk hk=>?_),cW h1];rw[cW (by omega)];cases e:Xq ls (fs.drop k++[x]) with
 |false=>rfl
 |true=>rw[<-h3 k hk,zhA e]
theorem zhF(ne:st≠[])(h:Zr st (fs.drop j)=true):Zr st fs=true:=by
 rw[tR ne]at h ⊢;obtain⟨k,e⟩:=h;exact⟨j+k,by rw[<-Eg];exact e⟩
theorem zcI(ne:∀l∈ls,l≠[])(j:Nat)(h:lacks ls fs=true):lacks ls (fs.drop j)=true:=by
 unfold lacks at *;rw[cU,cu]at h ⊢;intro st hst q;exact h st hst (zhF (ne st hst) q)
theorem qH(ne:∀l∈ls,l≠[])(x:Int)(h:lacks ls fs=true):lacks ls (zY ls fs++[x])=lacks ls (fs++[x]):=by
 obtain⟨j,h1,h2,h3,_⟩:=Us (ls:=ls) fs;rw[h2,<-cW h1];rw[bD];constructor
 ·intro q;unfold lacks at *;rw[cU,cu]at h q ⊢;intro st hst hs;rw[tR (ne st hst)]at hs;obtain⟨k,e⟩:=hs;have hp:0<st.length:=cF.mpr (ne st hst);have hl:=congrArg c7 e;rw[bM,cA,aB,aU]at hl;by_cases hin:k+st.length<=fs.length
  ·refine h st hst ((tR (ne st hst)).mpr ⟨k,?_⟩);rw[cW (by omega),ig (by rw[cA];omega)]at e;exact e
  ·have hk:k+st.length=fs.length+1:=by omega
   rw[bQ (by rw[cA,aB,aU];omega)]at e;by_cases hkj:j<=k
   ·refine q st hst ((tR (ne st hst)).mpr ⟨k-j,?_⟩);rw[Eg,show j+(k-j)=k by omega,e,bQ (au _)]
   ·have h3k:=h3 k (by omega);rw[cW (by omega)]at e;unfold Xq at h3k;rw[cu]at h3k;refine h3k st hst (decide_eq_true ?_);rw[<-e,Ef]
 ·intro q;exact zcI ne j q
theorem Yx(ne:∀l∈ls,l≠[])(h:lacks ls fs=true):zfY ls (zY ls fs):=by
 obtain⟨j,h1,h2,_,h4⟩:=Us (ls:=ls) fs;rw[h2];by_cases hj:j<fs.length
 ·have q:=h4 hj;unfold Xq at q;rw[cI]at q;obtain⟨st,hst,q⟩:=q;have q:=of_decide_eq_true q;have hl:=congrArg c7 q;rw[bM]at hl;have hlen:(fs.drop j).length=fs.length-j:=cA ..;have hlk:=zcI ne j h;refine .inr ⟨st,hst,(fs.drop j).length,by omega,?_,q.symm,hlk⟩;by_cases hlt:(fs.drop j).length<st.length
  ·exact hlt
  ·exfalso;have hle:st.length<=(fs.drop j).length:=by omega
   rw[bQ hle]at q;unfold lacks at hlk;rw[cU,cu]at hlk;refine hlk st hst ((tR (ne st hst)).mpr ⟨0,?_⟩);rw[gZ,<-q,bQ (au _)]
 ·left;exact cN (by omega)
theorem zfP(h:HT.uE a b=true):HT.uE b a=false:=by
 cases e:HT.uE b a with
 |false=>rfl
 |true=>
  have:=HT.QG _ _ _ h e;rw[HT.Yh]at this;cases this
theorem zdO:∀{xs ys:ZA},xs.Pairwise (λx y=>HT.uE x y=true)->ys.Pairwise (λx y=>HT.uE x y=true)->(∀x,x∈xs↔x∈ys)->xs=ys
 |[],[],_,_,_=>rfl
 |[],y::ys,_,_,h=>absurd ((h y).mpr bI) (by simp)
 |x::xs,[],_,_,h=>absurd ((h x).mp bI) (by simp)
 |x::xs,y::ys,hx,hy,h=>by
  rw[eU]at hx hy;have exy:x=y:=by
   rcases aP.mp ((h x).mp bI) with e | e
   ·exact e
   ·rcases aP.mp ((h y).mpr bI) with e' | e'
    ·exact e'.symm
    ·have a1:=hy.1 x e;have a2:=hx.1 y e';rw[zfP a1]at a2;cases a2
  subst exy;have nx:∀z∈xs,z≠x:=λz hz e=>by have:=hx.1 z hz;rw[e,HT.Yh]at this;cases this
  have ny:∀z∈ys,z≠x:=λz hz e=>by have:=hy.1 z hz;rw[e,HT.Yh]at this;cases this
  rw[zdO hx.2 hy.2 λz=>?_];constructor
  ·intro hz;rcases aP.mp ((h z).mp (bx _ hz)) with e | e
   ·exact absurd e (nx z hz)
   ·exact e
  ·intro hz;rcases aP.mp ((h z).mpr (bx _ hz)) with e | e
   ·exact absurd e (ny z hz)
   ·exact e
theorem StandsL.first(a:StandsL ls xs):∃r,xs=[]::r:=by
 have h0:([]:List Int)∈xs:=(a.mem []).mpr (.inl rfl);cases xs with
 |nil=>cases h0
 |cons x r=>
  rcases aP.mp h0 with e | e
  ·exact⟨r,by rw[e]⟩
  ·have:=(eU.mp a.up).1 [] e;unfold HT.uE at this;by_cases hl:x.length=([]:List Int).length
   ·have:x=[]:=fO hl;exact⟨r,by rw[this]⟩
   ·rw[if_neg hl]at this;have:=of_decide_eq_true this;simp at this
def cnt(ls:ZA)(b:Nat):Nat->List Int->Nat
 |0,_=>1
 |t+1,x=>((aD b).map λ(c:Nat)=>if lacks ls (x++[(c:Int)])=true then cnt ls b t (zY ls (x++[(c:Int)])) else 0).sum
def qb(b:Nat):Nat->Nat->List Int
 |0,_=>[]
 |t+1,r=>((r / b^t:Nat):Int)::qb b t (r % b^t)
def many(p:Nat->Bool):Nat->Nat
 |0=>0
 |n+1=>many p n+(if p n=true then 1 else 0)
theorem jG{p q:Nat->Bool}:∀{N:Nat},(∀n,n<N->p n=q n)->many p N=many q N
 |0,_=>rfl
 |N+1,h=>by rw[many,many,jG (N:=N) λn hn=>h n (by omega),h N (by omega)]
theorem V2{p:Nat->Bool}:∀{N:Nat},(∀n,n<N->p n=false)->many p N=0
 |0,_=>rfl
 |N+1,h=>by rw[many,V2 (N:=N) λn hn=>h n (by omega),h N (by omega)];rfl
theorem VD(p:Nat->Bool)(A:Nat):∀B:Nat,many p (A+B)=many p A+many (λn=>p (A+n)) B
 |0=>rfl
 |B+1=>by rw[<-dZ,many,many,VD p A B,dZ]
theorem zb7(p:Nat->Bool)(B:Nat):∀A:Nat,many p (A*B)=((aD A).map λc=>many (λr=>p (c*B+r)) B).sum
 |0=>by simp[many]
 |A+1=>by
  rw[fM,VD,zb7 p B A,cL,aF,dU];simp
theorem jP(p:Nat->Bool)(h:A<=B):many p A<=many p B:=by
 obtain⟨k,rfl⟩:=oU h;rw[VD];omega
theorem XC(p:Nat->Bool)(h:A<B)(q:p A=true):many p A<many p B:=by
 have e:many p (A+1)=many p A+1:=by rw[many,if_pos q]
 have:=jP p (A:=A+1) (B:=B) h;omega
theorem Qo(p:Nat->Bool)(ha:p A=true)(hb:p B=true)(e:many p A=many p B):A=B:=by
 rcases Nat.lt_trichotomy A B with h | h | h
 ·have:=XC p h ha;omega
 ·exact h
 ·have:=XC p h hb;omega
theorem zfE{p q:Nat->Bool}(h:∀n,p n=true->q n=true):∀N:Nat,many p N<=many q N
 |0=>au _
 |N+1=>by
  have i:=zfE h N;rw[many,many];by_cases e:p N=true
  ·rw[if_pos e,if_pos (h N e)];omega
  ·rw[if_neg e];omega
theorem Z1(hr:r<b^t):qb b (t+1) (c*b^t+r)=(c:Int)::qb b t r:=by
 have h0:0<b^t:=by omega
 rw[qb,mZ,pQ _ _ h0,fc hr,dm,nQ,kI hr]
theorem Y5{f g:Nat->Nat}:∀{N:Nat},(∀c,c<N->f c=g c)->((aD N).map f).sum=((aD N).map g).sum:=by
 intro N h;congr 1;apply dq;intro c hc;exact h c (cZ.mp hc)
theorem zcc(ne:∀l∈ls,l≠[])(ih:∀x,lacks ls x=true->many (λr=>lacks ls (x++qb b t r)) (b^t)=cnt ls b t (zY ls x))(c:Nat):
  many (λr=>lacks ls (x++qb b (t+1) (c*b^t+r))) (b^t)=if lacks ls (x++[(c:Int)])=true then cnt ls b t (zY ls (x++[(c:Int)])) else 0:=by
 have e1:many (λr=>lacks ls (x++qb b (t+1) (c*b^t+r))) (b^t)=many (λr=>lacks ls (x++[(c:Int)]++qb b t r)) (b^t):=by
  apply jG;intro r hr;show lacks ls _=lacks ls _;rw[Z1 hr,cQ];rfl
 rw[e1];by_cases h:lacks ls (x++[(c:Int)])=true
 ·rw[if_pos h,ih _ h]
 ·rw[if_neg h];apply V2;intro r _;cases hc:lacks ls (x++[(c:Int)]++qb b t r) with
  |false=>rfl
  |true=>exact absurd (ZK ne hc) h
theorem zbN{ls:ZA}(ne:∀l∈ls,l≠[]){b:Nat}:∀(t:Nat) (x:List Int),lacks ls x=true->many (λr=>lacks ls (x++qb b t r)) (b^t)=cnt ls b t (zY ls x)
 |0,x,h=>by
  rw[dD,many,many,cnt,qb,cR,if_pos h]
 |t+1,x,h=>by
  rw[cX,zb7,cnt];apply Y5;intro c _;rw[zcc ne (zbN ne t),qH ne _ h,qx]
def gd(ls:ZA)(b n:Nat):Bool:=lacks ls (yJ b n)
theorem zc3{b:Nat}:∀(t n:Nat),qb b (t+1) n=tops b t n
 |0,n=>by simp[qb,tops]
 |t+1,n=>by rw[qb,zc3 t,tops]
theorem zcO(h2:2<=b)(h1:1<=c)(hc:c<b)(hr:r<b^t):yJ b (c*b^t+r)=(c:Int)::qb b t r:=by
 rw[<-Z1 hr,zc3];refine (QX h2 t _ ?_ (.inr ?_)).symm
 ·rw[cX];have:(c+1)*b^t<=b*b^t:=gJ _ hc;rw[fM]at this;omega
 ·have:1*b^t<=c*b^t:=gJ _ h1;omega
def vH(ls:ZA)(b:Nat):Nat->Nat
 |0=>if lacks ls [0]=true then 1 else 0
 |t+1=>((aD b).map λ(c:Nat)=>if c=0 then vH ls b t else if lacks ls [(c:Int)]=true then cnt ls b t (zY ls [(c:Int)]) else 0).sum
theorem zdL(ne:∀l∈ls,l≠[])(h2:2<=b)(h1:1<=c)(hc:c<b):many (λr=>gd ls b (c*b^t+r)) (b^t)=if lacks ls [(c:Int)]=true then cnt ls b t (zY ls [(c:Int)]) else 0:=by
 have e:=zcc (x:=[]) ne (b:=b) (t:=t) (zbN ne t) c;rw[fC]at e;rw[<-e];apply jG;intro r hr;show gd ls b _=lacks ls _;rw[gd,zcO h2 h1 hc hr,fC,Z1 hr]
theorem ux{ls:ZA}(ne:∀l∈ls,l≠[]){b:Nat}(h2:2<=b):∀t:Nat,vH ls b t=many (gd ls b) (b^t)
 |0=>by
  rw[dD,many,many,vH,dm];unfold gd;rw[uM (show 0<b by omega)];rfl
 |t+1=>by
  rw[cX,zb7,vH];apply Y5;intro c hc;by_cases h0:c=0
  ·subst h0;rw[if_pos rfl,ux ne h2 t];apply jG;intro r _;rw[d9,dm]
  ·rw[if_neg h0,zdL ne h2 (by omega) hc]
theorem zhl{ls:ZA}(ne:∀l∈ls,l≠[]):∀(g:List Int) {x y:List Int},lacks ls x=true->lacks ls y=true->zY ls x=zY ls y->lacks ls (x++g)=lacks ls (y++g)/\(lacks ls (x++g)=true->zY ls (x++g)=zY ls (y++g))
 |[],x,y,hx,hy,e=>by
  rw[cR,cR,hx,hy];exact⟨rfl,λ_=>e⟩
 |c::g,x,y,hx,hy,e=>by
  have e1:lacks ls (x++[c])=lacks ls (y++[c]):=by rw[<-qH ne c hx,<-qH ne c hy,e]
  have e2:zY ls (x++[c])=zY ls (y++[c]):=by rw[<-qx x c,<-qx y c,e]
  have a1:x++c::g=x++[c]++g:=by rw[cQ];rfl
  have a2:y++c::g=y++[c]++g:=by rw[cQ];rfl
  rw[a1,a2];by_cases h:lacks ls (x++[c])=true
  ·exact zhl ne g h (e1▸h) e2
  ·have f1:lacks ls (x++[c]++g)=false:=by
    cases hc:lacks ls (x++[c]++g) with
    |false=>rfl
    |true=>exact absurd (ZK ne hc) h
   have f2:lacks ls (y++[c]++g)=false:=by
    cases hc:lacks ls (y++[c]++g) with
    |false=>rfl
    |true=>exact absurd (e1▸ZK ne hc) h
   rw[f1,f2];exact⟨rfl,λz=>by cases z⟩
theorem zgt{α:Type}[DecidableEq α]:∀(xs ws:List α),(∀x∈xs,x∈ws)->ws.length<xs.length->∃(i j:Nat) (x:α),i<j/\xs[i]?=some x/\xs[j]?=some x
 |[],ws,_,h=>by simp at h
 |x::xs,ws,hm,h=>by
  by_cases hx:x∈xs
  ·obtain⟨j,hj⟩:=List.getElem?_of_mem hx;exact⟨0,j+1,x,by omega,rfl,by simpa using hj⟩
  ·have hxw:=hm x bI;obtain⟨i,j,z,hij,h1,h2⟩:=zgt xs (ws.erase x) (λy hy=>(List.mem_erase_of_ne (λe:y=x=>hx (by rw[<-e];exact hy))).mpr (hm y (bx _ hy))) (by
    rw[List.length_erase_of_mem hxw];rw[bB]at h;have:0<ws.length:=List.length_pos_of_mem hxw;omega)
   exact⟨i+1,j+1,z,by omega,by simpa using h1,by simpa using h2⟩
theorem zgL(ne:∀l∈ls,l≠[])(k:Nat)(h:lacks ls fs=true):lacks ls (fs.take k)=true:=by
 apply ZK (gs:=fs.drop k) ne;rw[pR];exact h
theorem za2(h2:2<=b)(hn:n<b^(k+1))(h:k=0\/b^k<=n):(yJ b n).length=k+1:=by
 rw[<-QX h2 k n hn h,ze6]
theorem zeI(h2:2<=b)(n:Nat):∃k,n<b^(k+1)/\(k=0\/b^k<=n):=by
 have key:∀K:Nat,n<b^(K+1)->∃k,n<b^(k+1)/\(k=0\/b^k<=n):=by
  intro K
  induction K with
  |zero=>intro h;exact⟨0,h,.inl rfl⟩
  |succ K ih=>
   intro h;by_cases q:n<b^(K+1)
   ·exact ih q
   ·exact⟨K+1,h,.inr (by omega)⟩
 refine key n ?_;have:n<2^n:=Nat.lt_two_pow_self;have h3:2^n<=b^n:=fW h2 n;have h4:b^n<=b^(n+1):=cH (by omega) (eY n);omega
theorem J3(h2:2<=b):(yJ b n).length=k+1↔n<b^(k+1)/\(k=0\/b^k<=n):=by
 refine⟨λh=>?_,λh=>za2 h2 h.1 h.2⟩;obtain⟨m,h1,h3⟩:=zeI h2 n;have e:=za2 h2 h1 h3;rw[h]at e;obtain rfl:k=m:=by omega
 exact⟨h1,h3⟩
def Vf(ls:ZA)(b t:Nat):Option (List Int)->Nat->Nat
 |some x,c=>if lacks ls (x++[(c:Int)])=true then cnt ls b t (zY ls (x++[(c:Int)])) else 0
 |none,c=>if c=0 then vH ls b t else if lacks ls [(c:Int)]=true then cnt ls b t (zY ls [(c:Int)]) else 0
def under(ls:ZA)(b t:Nat)(o:Option (List Int))(s:Nat):Nat:=((aD s).map (Vf ls b t o)).sum
theorem Jx(ls:ZA)(b t:Nat)(o:Option (List Int)):under ls b t o 0=0:=rfl
theorem Uh(ls:ZA)(b t:Nat)(o:Option (List Int))(s:Nat):under ls b t o (s+1)=under ls b t o s+Vf ls b t o s:=by
 unfold under;rw[cL,aF,dU];simp
def Rep(ls:ZA)(b m:Nat)(o:Option (List Int)):Prop:=(m=0/\o=none)\/(1<=m/\gd ls b m=true/\o=some (zY ls (yJ b m)))
theorem Zn(h2:2<=b)(h1:1<=m)(hc:c<b):yJ b (m*b+c)=yJ b m++[(c:Int)]:=by
 have hge:b<=m*b+c:=by
  have:1*b<=m*b:=gJ b h1;omega
 rw[YS h2 hge];have e1:(m*b+c) / b=m:=by rw[mZ,pQ _ _ (by omega),fc hc,dm]
 have e2:(m*b+c) % b=c:=by rw[mZ,nQ,kI hc]
 rw[e1,e2]
theorem zfU(h2:2<=b)(h1:1<=m):1<=m*b+c:=by
 have:1*b<=m*b:=gJ b h1;omega
theorem Vz{b m:Nat}(h2:2<=b)(h1:1<=m):∀(t r:Nat),r<b^t->yJ b (m*b^t+r)=yJ b m++qb b t r
 |0,r,hr=>by
  have:r=0:=by rw[dD]at hr;omega
  subst this;rw[dD,rD,iB,qb,cR]
 |t+1,r,hr=>by
  have hp:0<b^t:=fD (by omega);have hc:r / b^t<b:=by
   rw[fH hp];rw[cX,]at hr;exact hr
  have hm:r % b^t<b^t:=iz _ hp;have e:m*b^(t+1)+r=(m*b+r / b^t)*b^t+r % b^t:=by
   have h:=gC r (b^t);rw[cX,Gs,fY,dZ,dN (r / b^t),h]
  have h1':1<=m*b+r / b^t:=zfU h2 h1;rw[e,Vz h2 h1' t _ hm,Zn h2 h1 hc,qb,cQ];rfl
theorem zcy(ne:∀l∈ls,l≠[])(h2:2<=b)(R:Rep ls b m o)(t:Nat)(hc:c<b):Vf ls b t o c=many (λr=>gd ls b ((m*b+c)*b^t+r)) (b^t):=by
 rcases R with ⟨rfl,rfl⟩ | ⟨h1,hg,rfl⟩
 ·rw[d9,dm];show (if c=0 then _ else _)=_;by_cases h0:c=0
  ·subst h0;rw[if_pos rfl,ux ne h2];apply jG;intro r _;rw[d9,dm]
  ·rw[if_neg h0,zdL ne h2 (by omega) hc]
 ·have e:=zcc (x:=yJ b m) ne (b:=b) (t:=t) (zbN ne t) c;show (if lacks ls (zY ls (yJ b m)++[(c:Int)])=true then cnt ls b t (zY ls (zY ls (yJ b m)++[(c:Int)])) else 0)=_;rw[qH ne _ hg,qx,<-e];apply jG;intro r hr;show lacks ls _=gd ls b _;rw[gd,Vz h2 (zfU h2 h1) t r hr,Zn h2 h1 hc,Z1 hr,cQ];rfl
theorem Wx{ls:ZA}(ne:∀l∈ls,l≠[]){b m:Nat}{o:Option (List Int)}(h2:2<=b)(R:Rep ls b m o)(t:Nat):∀{s:Nat},s<=b->many (gd ls b) (m*b^(t+1))+under ls b t o s=many (gd ls b) ((m*b+s)*b^t)
 |0,_=>by rw[Jx,iB,cX,show (m*b+0)*b^t=m*(b*b^t) by rw[iB,fY]]
 |s+1,hs=>by
  rw[Uh,<-dZ,Wx ne h2 R t (s:=s) (by omega),zcy ne h2 R t (show s<b by omega),<-dZ,fM (m*b+s),VD]
theorem Rep.step(ne:∀l∈ls,l≠[])(h2:2<=b)(R:Rep ls b m o)(hc:c<b):
  (o=none/\c=0/\Rep ls b (m*b+c) none)\/(¬ (o=none/\c=0)/\((lacks ls (o.getD []++[(c:Int)])=true/\Rep ls b (m*b+c) (some (zY ls (o.getD []++[(c:Int)]))))\/(lacks ls (o.getD []++[(c:Int)])=false/\1<=m*b+c/\gd ls b (m*b+c)=false))):=by
 rcases R with ⟨rfl,rfl⟩ | ⟨h1,hg,rfl⟩
 ·by_cases h0:c=0
  ·left;exact⟨rfl,h0,.inl ⟨by rw[h0];omega,rfl⟩⟩
  ·right;refine⟨λz=>h0 z.2,?_⟩;rw[d9,dm];show (lacks ls [(c:Int)]=true/\_)\/(lacks ls [(c:Int)]=false/\_)
   have eg:gd ls b c=lacks ls [(c:Int)]:=by unfold gd;rw[uM hc]
   cases hl:lacks ls [(c:Int)] with
   |true=>left;exact⟨rfl,.inr ⟨by omega,by rw[eg];exact hl,by rw[uM hc];rfl⟩⟩
   |false=>right;exact⟨rfl,by omega,by rw[eg];exact hl⟩
 ·right;refine⟨λz=>(nomatch z.1),?_⟩;have hm:1<=m*b+c:=zfU h2 h1;show (lacks ls (zY ls (yJ b m)++[(c:Int)])=true/\Rep ls b (m*b+c) (some (zY ls (zY ls (yJ b m)++[(c:Int)]))))\/(lacks ls (zY ls (yJ b m)++[(c:Int)])=false/\_)
  rw[qH ne _ hg,qx];have eg:gd ls b (m*b+c)=lacks ls (yJ b m++[(c:Int)]):=by unfold gd;rw[Zn h2 h1 hc]
  cases hl:lacks ls (yJ b m++[(c:Int)]) with
  |true=>left;exact⟨rfl,.inr ⟨hm,by rw[eg];exact hl,by rw[Zn h2 h1 hc]⟩⟩
  |false=>right;exact⟨rfl,hm,by rw[eg];exact hl⟩
theorem zgs(ne:∀l∈ls,l≠[])(h2:2<=b)(h1:1<=m)(hg:gd ls b m=false)(t:Nat)(hr:r<=b^t):many (gd ls b) (m*b^t+r)=many (gd ls b) (m*b^t):=by
 rw[VD,V2 (N:=r)]
 ·omega
 intro k hk;show gd ls b _=false;cases hc:gd ls b (m*b^t+k) with
 |false=>rfl
 |true=>
  unfold gd at hc hg;rw[Vz h2 h1 t k (by omega)]at hc;rw[ZK ne hc]at hg;cases hg
theorem zeX{b:Nat}:∀{t n k:Nat},k<t->n<b^t->(qb b t n)[k]?=some (((n / b^(t-1-k)) % b:Nat):Int)
 |0,_,_,hk,_=>by omega
 |t+1,n,0,_,hn=>by
  have:n / b^t<b:=by
   rw[cX]at hn;rcases sY (b^t) with h | h
   ·rw[h]at hn;omega
   ·rw[fH h];exact hn
  rw[qb,List.getElem?_cons_zero,show t+1-1-0=t by omega,kI this]
 |t+1,n,k+1,hk,hn=>by
  have hb:0<b:=by
   rcases sY b with h | h
   ·subst h;rw[Nat.zero_pow (by omega)]at hn;omega
   ·exact h
  rw[qb,List.getElem?_cons_succ,zeX (by omega) (iz _ (fD hb))];have e:t+1-1-(k+1)=t-1-k:=by omega
  rw[e];generalize hj:t-1-k=j;obtain⟨q,hq⟩:∃q,t=j+(q+1):=⟨t-j-1,by omega⟩
  rw[hq,ik,nO,cX,pO]
theorem ze7(h2:2<=b)(hN:(yJ b n).length=N)(hk:k<N):(yJ b n)[k]?=some (((n / b^(N-1-k)) % b:Nat):Int):=by
 obtain⟨K,rfl⟩:∃K,N=K+1:=⟨N-1,by omega⟩
 obtain⟨h1,h3⟩:=(J3 h2).mp hN;rw[<-QX h2 K n h1 h3,<-zc3];exact zeX hk h1
theorem W8(h2:2<=b)(hN:(yJ b n).length=N):n<b^N:=by
 cases N with
 |zero=>exact absurd (oV.mp hN) zam
 |succ K=>exact ((J3 h2).mp hN).1
theorem zfz(hb:0<b):n / b^t=n / b^(t+1)*b+(n / b^t) % b:=by
 have h:=gC (n / b^t) b;rw[pH,<-iy,dN]at h;exact h.symm
theorem zlH(ne:∀l∈ls,l≠[])(h2:2<=b)(h1:1<=h)(hr:r<b^t)(hg:gd ls b (h*b^t+r)=true):gd ls b h=true:=by
 unfold gd at *;rw[Vz h2 h1 t r hr]at hg;exact ZK ne hg
theorem zhG(ne:∀l∈ls,l≠[])(h2:2<=b)(hN:(yJ b n).length=N)(h:many (gd ls b) (b^(N+1))<=many (gd ls b) n):∀g,n<=g->gd ls b g=false:=by
 have low:∀g,n<=g->g<b^(N+1)->gd ls b g=false:=by
  intro g h1 h3;cases e:gd ls b g with
  |false=>rfl
  |true=>
   have a1:=XC (gd ls b) h3 e;have a2:=jP (gd ls b) h1;omega
 intro g h1;by_cases hs:g<b^(N+1)
 ·exact low g h1 hs
 ·cases e:gd ls b g with
  |false=>rfl
  |true=>
   exfalso;obtain⟨k,k1,k2⟩:=zeI h2 g;have hk:N+1<=k:=by
    by_cases z:N+1<=k
    ·exact z
    ·have:b^(k+1)<=b^(N+1):=cH (by omega) (by omega);omega
   have k3:b^k<=g:=by rcases k2 with z | z;omega;exact z
   obtain⟨t,rfl⟩:∃t,k=N+t:=⟨k-N,by omega⟩
   have hp:0<b^t:=fD (by omega);have hlo:b^N<=g / b^t:=by
    rw[pP hp,<-ik];exact k3
   have hhi:g / b^t<b^(N+1):=by
    rw[fH hp,<-ik,show N+1+t=N+t+1 by omega];exact k1
   have hn:=W8 h2 hN;have hpos:0<b^N:=fD (by omega);have hg:gd ls b (g / b^t)=true:=by
    refine zlH ne h2 (by omega) (iz g hp) (t:=t) ?_;rw[dN,gC];exact e
   have:=low (g / b^t) (by omega) hhi;rw[hg]at this;cases this
theorem zgW(hg:p g=true)(h:many p n<=many p g):n<=g:=by
 by_cases z:n<=g
 ·exact z
 ·have:=XC p (show g<n by omega) hg;omega
theorem zgV(h:many p g<many p n):g<n:=by
 by_cases z:g<n
 ·exact z
 ·have:=jP p (show n<=g by omega);omega
theorem zjH(h2:2<=b)(h16:b<=16)(hN:(yJ b n).length=N):b^(N+1)<=256*(n+1):=by
 cases N with
 |zero=>exact absurd (oV.mp hN) zam
 |succ K=>
  obtain⟨_,h3⟩:=(J3 h2).mp hN;have hb:b*b<=256:=rE h16 h16;have e:b^(K+1+1)=b*b*b^K:=by rw[cX,cX,fY]
  rw[e];rcases h3 with h | h
  ·subst h;rw[dD];omega
  ·calc b*b*b^K<=256*b^K:=gJ _ hb
    _<=256*(n+1):=rW _ (by omega)
theorem zhL(h:∀l∈ls,l∈ms)(q:lacks ms fs=true):lacks ls fs=true:=by
 unfold lacks at *;rw[cU,cu]at q ⊢;intro st hst;exact q st (h st hst)
theorem zdD(h:∀l∈ls,l∈ms)(b n:Nat):many (gd ms b) n<=many (gd ls b) n:=zfE (λk q=>zhL h q) n
def wsum(w:Nat->Nat)(sc:Nat):List Int->Nat
 |[]=>0
 |c::l=>sc^l.length*w c.toNat+wsum w sc l
def tot(p:Nat->Bool)(f:Nat->Nat):Nat->Nat
 |0=>0
 |n+1=>tot p f n+(if p n=true then f n else 0)
theorem jJ{p q:Nat->Bool}{f g:Nat->Nat}:∀{N:Nat},(∀n,n<N->p n=q n)->(∀n,n<N->f n=g n)->tot p f N=tot q g N
 |0,_,_=>rfl
 |N+1,h,k=>by rw[tot,tot,jJ (N:=N) (λn hn=>h n (by omega)) (λn hn=>k n (by omega)),h N (by omega),k N (by omega)]
theorem zc0{p:Nat->Bool}{f:Nat->Nat}:∀{N:Nat},(∀n,n<N->p n=false)->tot p f N=0
 |0,_=>rfl
 |N+1,h=>by rw[tot,zc0 (N:=N) λn hn=>h n (by omega),h N (by omega)];rfl
theorem zbE(p:Nat->Bool)(f:Nat->Nat)(A:Nat):∀B:Nat,tot p f (A+B)=tot p f A+tot (λn=>p (A+n)) (λn=>f (A+n)) B
 |0=>rfl
 |B+1=>by rw[<-dZ,tot,tot,zbE p f A B,dZ]
theorem zea(p:Nat->Bool)(f:Nat->Nat)(B:Nat):∀A:Nat,tot p f (A*B)=((aD A).map λc=>tot (λr=>p (c*B+r)) (λr=>f (c*B+r)) B).sum
 |0=>by simp[tot]
 |A+1=>by
  rw[fM,zbE,zea p f B A,cL,aF,dU];simp
theorem zca(p:Nat->Bool)(f:Nat->Nat)(a:Nat):∀N:Nat,tot p (λn=>a+f n) N=a*many p N+tot p f N
 |0=>by simp[tot,many]
 |N+1=>by
  rw[tot,tot,many,zca p f a N];by_cases h:p N=true
  ·rw[if_pos h,if_pos h,if_pos h,mG];omega
  ·rw[if_neg h,if_neg h,if_neg h,iB,iB,iB]
theorem zcn(b:Nat):∀t r:Nat,(qb b t r).length=t
 |0,_=>rfl
 |t+1,r=>by rw[qb,bB,zcn b t]
def tt(ls:ZA)(b:Nat)(w:Nat->Nat)(sc:Nat):Nat->List Int->Nat
 |0,_=>0
 |t+1,x=>((aD b).map λ(c:Nat)=>if lacks ls (x++[(c:Int)])=true then sc^t*w c*cnt ls b t (zY ls (x++[(c:Int)]))+tt ls b w sc t (zY ls (x++[(c:Int)])) else 0).sum
def ttO(ls:ZA)(b:Nat)(w:Nat->Nat)(sc:Nat):Nat->Nat
 |0=>w 0*vH ls b 0
 |t+1=>((aD b).map λ(c:Nat)=>if c=0 then ttO ls b w sc t else if lacks ls [(c:Int)]=true then sc^t*w c*cnt ls b t (zY ls [(c:Int)])+tt ls b w sc t (zY ls [(c:Int)]) else 0).sum
theorem zeR(ne:∀l∈ls,l≠[])(ih:∀x,lacks ls x=true->tot (λr=>lacks ls (x++qb b t r)) (λr=>wsum w sc (qb b t r)) (b^t)=tt ls b w sc t (zY ls x))(c:Nat):
  tot (λr=>lacks ls (x++qb b (t+1) (c*b^t+r))) (λr=>wsum w sc (qb b (t+1) (c*b^t+r))) (b^t)=if lacks ls (x++[(c:Int)])=true then sc^t*w c*cnt ls b t (zY ls (x++[(c:Int)]))+tt ls b w sc t (zY ls (x++[(c:Int)])) else 0:=by
 have e1:tot (λr=>lacks ls (x++qb b (t+1) (c*b^t+r))) (λr=>wsum w sc (qb b (t+1) (c*b^t+r))) (b^t)=tot (λr=>lacks ls (x++[(c:Int)]++qb b t r)) (λr=>sc^t*w c+wsum w sc (qb b t r)) (b^t):=by
  apply jJ
  ·intro r hr;show lacks ls _=lacks ls _;rw[Z1 hr,cQ];rfl
  ·intro r hr;show wsum w sc _=_;rw[Z1 hr,wsum,zcn];rfl
 rw[e1,zca];by_cases h:lacks ls (x++[(c:Int)])=true
 ·rw[if_pos h,ih _ h,zbN ne t _ h]
 ·rw[if_neg h];have hn:∀r,r<b^t->lacks ls (x++[(c:Int)]++qb b t r)=false:=by
   intro r _;cases hc:lacks ls (x++[(c:Int)]++qb b t r) with
   |false=>rfl
   |true=>exact absurd (ZK ne hc) h
  rw[V2 hn,zc0 hn];simp
theorem zgw{ls:ZA}(ne:∀l∈ls,l≠[]){b sc:Nat}{w:Nat->Nat}:∀(t:Nat) (x:List Int),lacks ls x=true->tot (λr=>lacks ls (x++qb b t r)) (λr=>wsum w sc (qb b t r)) (b^t)=tt ls b w sc t (zY ls x)
 |0,x,h=>by
  rw[dD,tot,tot,tt,qb,wsum];simp
 |t+1,x,h=>by
  rw[cX,zea,tt];apply Y5;intro c _;rw[zeR ne (zgw ne t),qH ne _ h,qx]
theorem ze8(ne:∀l∈ls,l≠[])(h2:2<=b)(h1:1<=c)(hc:c<b):tot (λr=>gd ls b (c*b^t+r)) (λr=>wsum w sc (yJ b (c*b^t+r))) (b^t)=if lacks ls [(c:Int)]=true then sc^t*w c*cnt ls b t (zY ls [(c:Int)])+tt ls b w sc t (zY ls [(c:Int)]) else 0:=by
 have e:=zeR (x:=[]) ne (b:=b) (t:=t) (w:=w) (sc:=sc) (zgw ne t) c;rw[fC]at e;rw[<-e];apply jJ
 ·intro r hr;show gd ls b _=lacks ls _;rw[gd,zcO h2 h1 hc hr,fC,Z1 hr]
 ·intro r hr;show wsum w sc _=wsum w sc _;rw[zcO h2 h1 hc hr,Z1 hr]
theorem zeS{ls:ZA}(ne:∀l∈ls,l≠[]){b sc:Nat}{w:Nat->Nat}(h2:2<=b):∀t:Nat,ttO ls b w sc t=tot (gd ls b) (λn=>wsum w sc (yJ b n)) (b^t)
 |0=>by
  rw[dD,tot,tot,ttO,dm];unfold gd;rw[uM (show 0<b by omega),vH];show w 0*(if lacks ls [0]=true then 1 else 0)=if lacks ls [0]=true then wsum w sc [0] else 0;split<;>simp[wsum]
 |t+1=>by
  rw[cX,zea,ttO];apply Y5;intro c hc;by_cases h0:c=0
  ·subst h0;rw[if_pos rfl,zeS ne h2 t];apply jJ<;>intro r _<;>simp
  ·rw[if_neg h0,ze8 ne h2 (by omega) hc]
theorem wsum_snoc(w:Nat->Nat)(sc:Nat)(c:Int):∀l:List Int,wsum w sc (l++[c])=sc*wsum w sc l+w c.toNat
 |[]=>by simp[wsum]
 |d::l=>by
  rw[gR,wsum,wsum,wsum_snoc w sc c l,aB,aU,cX,mG,fY];omega
theorem zfi(h2:2<=b)(n:Nat):wsum (λc=>c) b (yJ b n)=n:=by
 induction n using mR with
 |_ n ih=>
  by_cases h:n<b
  ·rw[uM h];simp[wsum]
  ·have h1:1<=n / b:=Dc (by omega) (by omega);have hc:n % b<b:=iz _ (by omega);have e:n / b*b+n % b=n:=by rw[dN];exact gC n b
   have ef:=Zn h2 h1 hc;rw[e]at ef;rw[ef,wsum_snoc,ih (n / b) (gB (by omega) (by omega)),dN];exact e
theorem zhh(ne:∀l∈ls,l≠[])(h2:2<=b)(t:Nat):ttO ls b (λc=>c) b t=tot (gd ls b) (λn=>n) (b^t):=by
 rw[zeS ne h2];exact jJ (λ_ _=>rfl) (λn _=>zfi h2 n)
def Qt(b m:Nat):Nat:=if m=1 then 0 else b^(m-1)
theorem zkl:tot (gd ls b) (λn=>n) (b^(m-1))=tot (gd ls b) (λn=>n) (Qt b m):=by
 unfold Qt;split
 ·rename_i h
  subst h;rw[eG,dD,tot,tot];split<;>rfl
 ·rfl
theorem zjq(hAB:A<=B)(h:many p A=many p B):tot p f B=tot p f A:=by
 obtain⟨k,rfl⟩:=oU hAB;rw[zbE,zc0 (p:=λn=>p (A+n)) (f:=λn=>f (A+n)) (N:=k) λn hn=>?_]
 ·rfl
 ·show p (A+n)=false;cases hp:p (A+n) with
  |false=>rfl
  |true=>
   have:=XC p (show A+n<A+k by omega) hp;have:=jP p (show A<=A+n by omega);omega
theorem zbd(w:Nat->Nat)(sc:Nat)(k:List Int):∀l:List Int,wsum w sc (l++k)=sc^k.length*wsum w sc l+wsum w sc k
 |[]=>by simp[wsum]
 |c::l=>by
  rw[gR,wsum,wsum,zbd w sc k l,aB,ik,mG,<-dZ];congr 2;rw[dN (sc^l.length),fY]
def ahd(w:Nat->Nat)(sc b m:Nat):Nat:=if m=0 then 0 else wsum w sc (yJ b m)
theorem zi9(h2:2<=b)(hc:c<b)(h:1<=m*b+c):ahd w sc b (m*b+c)=sc*ahd w sc b m+w c:=by
 unfold ahd;rw[if_neg (by omega)];by_cases hm:m=0
 ·subst hm;rw[if_pos rfl,d9,dm,uM hc];simp[wsum]
 ·rw[if_neg hm,Zn h2 (by omega) hc,wsum_snoc];rfl
def fw(w:Nat->Nat)(sc b n:Nat):Nat:=wsum w sc (yJ b n)
def one(c:Nat):Nat->Nat:=λd=>if d=c then 1 else 0
end Lw
namespace L2
open Lw
def zdX(x:List Int):ZA->ZA
 |[]=>[x]
 |y::ys=>if x=y then y::ys else if HT.lexLt x y=true then x::y::ys else y::zdX x ys
def uni(ls:ZA):ZA:=ls.foldr zdX []
theorem zcY{x l:List Int}:∀{ys:ZA},l∈zdX x ys↔l=x\/l∈ys
 |[]=>by simp[zdX]
 |y::ys=>by
  unfold zdX;by_cases h:x=y
  ·rw[if_pos h,h];simp
  ·rw[if_neg h];split
   ·simp
   ·rw[aP,zcY (ys:=ys),aP];constructor<;>(rintro (z | z | z)<;>simp[z])
theorem YX{l:List Int}:∀{ls:ZA},l∈uni ls↔l∈ls
 |[]=>by simp[uni]
 |x::ls=>by
  show l∈zdX x (uni ls)↔_;rw[zcY,YX,aP]
abbrev LPw(ls:ZA):Prop:=ls.Pairwise λx y=>HT.lexLt x y=true
theorem zhd{x:List Int}:∀{ys:ZA},LPw ys->LPw (zdX x ys)
 |[],_=>by simp[zdX,LPw]
 |y::ys,h=>by
  obtain⟨h1,h2⟩:=eU.mp h;unfold zdX;by_cases e:x=y
  ·rw[if_pos e];exact h
  ·rw[if_neg e];split
   next q=>
    refine eU.mpr ⟨λz hz=>?_,h⟩;rcases aP.mp hz with rfl | hz
    ·exact q
    ·exact HT.ZF _ _ _ q (h1 z hz)
   next q=>
    refine eU.mpr ⟨λz hz=>?_,zhd h2⟩;rcases zcY.mp hz with rfl | hz
    ·have f:=HT.U0 z y e;cases c:HT.lexLt z y with
     |true=>exact absurd c q
     |false=>rw[c]at f;exact f
    ·exact h1 z hz
theorem zaE:∀{ls:ZA},LPw (uni ls)
 |[]=>.nil
 |x::ls=>zhd (zaE (ls:=ls))
theorem JZ:∀{a b:ZA},LPw a->LPw b->(∀l,l∈a↔l∈b)->a=b
 |[],[],_,_,_=>rfl
 |[],y::b,_,_,h=>absurd ((h y).mpr (.head _)) (by simp)
 |x::a,[],_,_,h=>absurd ((h x).mp (.head _)) (by simp)
 |x::a,y::b,ha,hb,h=>by
  obtain⟨a1,a2⟩:=eU.mp ha;obtain⟨b1,b2⟩:=eU.mp hb;have irr:∀z:List Int,HT.lexLt z z≠true:=λz q=>by rw[HT.qp]at q;cases q
  have e:x=y:=by
   rcases aP.mp ((h x).mp (.head _)) with z | z
   ·exact z
   ·rcases aP.mp ((h y).mpr (.head _)) with q | q
    ·exact q.symm
    ·exact absurd (HT.ZF _ _ _ (a1 y q) (b1 x z)) (irr x)
  subst e;rw[JZ a2 b2 λl=>?_];constructor
  ·intro hl;rcases aP.mp ((h l).mp (.tail _ hl)) with z | z
   ·subst z;exact absurd (a1 l hl) (irr l)
   ·exact z
  ·intro hl;rcases aP.mp ((h l).mpr (.tail _ hl)) with z | z
   ·subst z;exact absurd (b1 l hl) (irr l)
   ·exact z
theorem ziD(ha:LPw a)(h:∀l,l∈a↔l∈ls):a=uni ls:=JZ ha zaE λl=>by rw[h,YX]
theorem LPw.nodup(h:LPw a):a.Nodup:=h.imp λq e=>by subst e;rw[HT.qp]at q;cases q
def t8(U:ZA)(st:List Int):Bool:=U.any λo=>decide (o≠st) && Zr o st
def needed(U:ZA):ZA:=U.filter λst=>!t8 U st
abbrev CN:=Nat×ZA
def zaB(cs:List CN):ZA:=cs.flatMap (·.2)
def Xv(cs:List CN):ZA:=needed (uni (zaB cs))
def zhs(cs:List CN):Nat:=(cs.headD (0,[])).1
def zbi(cs:List CN):Bool:=cs.all λc=>decide (c.1=zhs cs)
theorem zdS(h:LPw U):LPw (needed U):=h.filter _
end L2
namespace Lw
def zex:List Int->List Int->Bool
 |[],_=>true
 |_::_,[]=>false
 |a::l,b::w=>if a=b then zex l w else false
theorem zaa:∀{l w:List Int},zex l w=true↔w.take l.length=l
 |[],w=>by simp[zex]
 |a::l,[]=>by simp[zex]
 |a::l,b::w=>by
  rw[zex];by_cases e:a=b
  ·subst e;rw[if_pos rfl,zaa];simp
  ·rw[if_neg e];simp;intro z;exact absurd z.symm e
def zhz(l:List Int):List Int->Bool
 |[]=>false
 |b::w=>zex l (b::w) || zhz l w
theorem zfq{l:List Int}(h:l≠[]):∀{w:List Int},zhz l w=true↔∃k,(w.drop k).take l.length=l
 |[]=>by
  simp only[zhz,sI,sJ];constructor
  ·intro z;cases z
  ·rintro⟨_,z⟩;exact absurd z.symm h
 |b::w=>by
  rw[zhz,pK,zaa,zfq h];constructor
  ·rintro (z | ⟨k,z⟩)
   ·exact⟨0,z⟩
   ·exact⟨k+1,z⟩
  ·rintro⟨k,z⟩;cases k with
   |zero=>exact .inl z
   |succ k=>exact .inr ⟨k,z⟩
theorem zkw(h:l≠[]):zhz l w=Zr l w:=by
 rw[bD,zfq h,tR h]
def zet(ls:ZA)(w:List Int):Bool:=!ls.any λl=>zhz l w
theorem zhQ(ne:∀l∈ls,l≠[])(w:List Int):zet ls w=lacks ls w:=by
 unfold zet lacks;congr 1
 induction ls with
 |nil=>rfl
 |cons l ls ih=>rw[kZ,kZ,ih λx hx=>ne x (bx _ hx),zkw (ne l bI)]
def per(u:List Int):Nat->List Int
 |0=>[]
 |n+1=>per u n++u
theorem zbD(u:List Int)(a:Nat):∀c:Nat,per u (a+c)=per u a++per u c
 |0=>by simp[per]
 |c+1=>by rw[<-dZ,per,zbD u a c,per,cQ]
theorem zeP(u:List Int):∀n:Nat,(per u n).length=n*u.length
 |0=>by simp[per]
 |n+1=>by rw[per,aB,zeP u n,fM]
theorem zg7{u:List Int}{x:Int}:∀{n:Nat},x∈per u n->x∈u
 |0,h=>by simp[per]at h
 |n+1,h=>by
  rw[per]at h;rcases bf.mp h with h | h
  ·exact zg7 h
  ·exact h
theorem zi4(h4:∀l∈ls,l.length<=4)(hw:4<w.length):Xq ls w=false:=by
 unfold Xq;rw[cu];intro st hst;have:=h4 st hst;intro z;have z:=congrArg c7 (of_decide_eq_true z);rw[bM]at z;omega
theorem ze9(h4:∀l∈ls,l.length<=4)(x:List Int)(hg:4<=g.length):zY ls (x++g)=zY ls g:=by
 rw[Wv x.length (x++g) (by rw[aB];omega) (λk hk=>zi4 h4 (by rw[cA,aB];omega)),List.drop_left]
theorem zhc{ls:ZA}(ne:∀l∈ls,l≠[])(h4:∀l∈ls,l.length<=4){p u:List Int}(hu:u≠[])(h:lacks ls (p++per u 6)=true):∀k:Nat,lacks ls (p++per u (k+6))=true
 |0=>h
 |k+1=>by
  have ih:=zhc ne h4 hu h k;have hul:0<u.length:=cF.mpr hu;have e1:p++per u (k+6)=(p++per u (k+5))++u:=by rw[cQ];rfl
  have e2:p++per u (k+1+6)=(p++per u (k+6))++u:=by rw[cQ];rfl
  have l5:4<=(per u 5).length:=by rw[zeP];omega
  have t1:zY ls (p++per u (k+5))=zY ls (per u 5):=by rw[zbD,<-cQ,ze9 h4 _ l5]
  have t2:zY ls (p++per u (k+6))=zY ls (per u 5):=by rw[show k+6=(k+1)+5 by omega,zbD,<-cQ,ze9 h4 _ l5]
  rw[e1]at ih;have q:=(zhl ne u (ZK ne ih) (by rw[e1];exact ih) (t1.trans t2.symm)).1;rw[e2,<-q];exact ih
theorem zkn{ls ws:ZA}(ne:∀l∈ls,l≠[])(h2:2<=b)(hn:¬ vH ls b ws.length<vH ls b (ws.length+1))(hw:∀f∈w,0<=f/\f<(b:Int))(hh:w.head?≠some 0)(hl:ws.length<w.length):lacks ls w=false:=by
 cases q:lacks ls w with
 |false=>rfl
 |true=>
  exfalso;have q1:=zgL ne (ws.length+1) q;have l1:(w.take (ws.length+1)).length=ws.length+1:=by rw[bM];omega
  have n1:w.take (ws.length+1)≠[]:=λz=>by rw[z]at l1;simp at l1
  have hh1:(w.take (ws.length+1)).head?≠some 0:=by
   cases w with
   |nil=>simp at hl
   |cons a w=>simpa using hh
  obtain⟨m,_,e2,e3⟩:=zh6 h2 (ws.length+1) (w.take (ws.length+1)) l1 n1 (λf hf=>hw f (mH hf)) (.inl hh1);have hs:(yJ b m).length=ws.length+1:=by rw[e2];exact l1
  obtain⟨a1,a2⟩:=(J3 h2).mp hs;have hg:gd ls b m=true:=by unfold gd;rw[e2];exact q1
  have a3:b^ws.length<=m:=by
   rcases a2 with z | z
   ·rw[z,dD];exact e3 hh1
   ·exact z
  refine hn ?_;rw[ux ne h2,ux ne h2];have b1:=XC (gd ls b) a1 hg;have b2:=jP (gd ls b) a3;omega
def zmg(w:List Int):ZA:=(aD w.length).flatMap λi=>(aD 4).map λj=>(w.drop i).take (j+1)
theorem ziN(h1:l≠[])(h4:l.length<=4)(h:Zr l w=true):l∈zmg w:=by
 unfold Zr at h;rw[cI]at h;obtain⟨k,hk,z⟩:=h;have z:=of_decide_eq_true z;have hl:0<l.length:=cF.mpr h1;exact CQ.mpr ⟨k,hk,bh.mpr ⟨l.length-1,cZ.mpr (by omega),by rw[show l.length-1+1=l.length by omega];exact z⟩⟩
def chk(leaf:ZA->Bool):List (List Int×List Int)->Nat->ZA->Bool
 |_,0,_=>true
 |[],_+1,S=>leaf S
 |t::ts,n+1,S=>if zet S (t.1++per t.2 6)=true then (zmg (t.1++per t.2 6)).eraseDups.all λl=>chk leaf ts n (l::S) else chk leaf ts (n+1) S
structure Tst (b:Nat) (t:List Int×List Int):Prop where
 ne:t.2≠[]
 fig:∀f∈t.1++t.2,0<=f/\f<(b:Int)
 hd:(t.1++t.2).head?≠some 0
theorem zlz{ls ws:ZA}(ne:∀l∈ls,l≠[])(h4:∀l∈ls,l.length<=4)(hl4:ls.length<=4)(h2:2<=b)(hn:¬ vH ls b ws.length<vH ls b (ws.length+1)){R:Prop}(hleaf:∀S,leaf S=true->(∀l∈S,l∈ls)->R):
  ∀ts n S,(∀t∈ts,Tst b t)->chk leaf ts n S=true->(∀l∈S,l∈ls)->S.Nodup->S.length+n=5->R:=by
 intro ts
 induction ts with
 |nil=>
  intro n S _ hc hS nd hl;cases n with
  |zero=>
   exfalso;obtain⟨i,j,x,hij,e1,e2⟩:=zgt S ls hS (by omega);have:=(BX (aO.mp e1).1 nd).mp (e1.trans e2.symm);omega
  |succ n=>rw[chk]at hc;exact hleaf S hc hS
 |cons t ts ih=>
  intro n S ht hc hS nd hl;cases n with
  |zero=>
   exfalso;obtain⟨i,j,x,hij,e1,e2⟩:=zgt S ls hS (by omega);have:=(BX (aO.mp e1).1 nd).mp (e1.trans e2.symm);omega
  |succ n=>
   have ht':∀x∈ts,Tst b x:=λx hx=>ht x (bx _ hx);have T:=ht t bI;rw[chk]at hc;by_cases hq:zet S (t.1++per t.2 6)=true
   ·rw[if_pos hq]at hc;rw[zhQ (λl hl=>ne l (hS l hl))]at hq;have bad:lacks ls (t.1++per t.2 6)=false:=by
     cases q:lacks ls (t.1++per t.2 6) with
     |false=>rfl
     |true=>
      have z:=zhc ne h4 T.ne q ws.length;have hul:0<t.2.length:=cF.mpr T.ne;have e:t.1++per t.2 (ws.length+6)=t.1++(t.2++per t.2 (ws.length+5)):=by rw[show ws.length+6=1+(ws.length+5) by omega,zbD];rfl
      have w1:=zkn ne h2 hn (w:=t.1++per t.2 (ws.length+6)) (λf hf=>T.fig f (by
       rcases bf.mp hf with h | h
       ·exact dB _ h
       ·exact aV _ (zg7 h))) (by
        rw[e];cases h1:t.1 with
        |nil=>
         have:=T.hd;rw[h1]at this;cases h2:t.2 with
         |nil=>exact absurd h2 T.ne
         |cons x y=>rw[h2]at this;simpa using this
        |cons x y=>
         have:=T.hd;rw[h1]at this;simpa using this) (by
        rw[aB,zeP];have:(ws.length+6)*1<=(ws.length+6)*t.2.length:=rW _ hul;omega)
      rw[z]at w1;cases w1
    unfold lacks at bad;have bad:(ls.any λst=>Zr st (t.1++per t.2 6))=true:=by simpa using bad
    rw[cI]at bad;obtain⟨l,hl1,hl2⟩:=bad;rw[gf]at hc;refine ih n (l::S) ht' (hc l (List.mem_eraseDups.mpr (ziN (ne l hl1) (h4 l hl1) hl2))) (λx hx=>?_) (lA.mpr ⟨λz=>?_,nd⟩) (by rw[bB];omega)
    ·rcases aP.mp hx with rfl | hx
     ·exact hl1
     ·exact hS x hx
    ·unfold lacks at hq;have hq:(S.any λst=>Zr st (t.1++per t.2 6))=false:=by simpa using hq
     rw[cu]at hq;exact hq l z hl2
   ·rw[if_neg hq]at hc;exact ih (n+1) S ht' hc hS nd hl
def okR(S:ZA)(w:List Int):Bool:=!S.any λl=>zex l w
def dfs(S:ZA)(b:Nat):Nat->List Int->Nat
 |0,_=>1
 |t+1,rx=>1+((aD b).map λ(c:Nat)=>if okR S ((c:Int)::rx)=true then dfs S b t ((c:Int)::rx) else 0).sum
theorem zgO{l w:List Int}(h:zex l.reverse w.reverse=true):w.drop (w.length-l.length)=l:=by
 rw[zaa,kW,BZ]at h;exact List.reverse_inj.mp h
theorem zdI(ne:∀l∈S,l≠[])(h:lacks S x=true):okR (S.map kJ) (c::x.reverse)=lacks S (x++[c]):=by
 have e:c::x.reverse=(x++[c]).reverse:=by simp
 rw[e];unfold okR;cases q:lacks S (x++[c]) with
 |true=>
  unfold lacks at q;have q:(S.any λst=>Zr st (x++[c]))=false:=by simpa using q
  rw[cu]at q;rw[cU,cu];intro r hr z;obtain⟨l,hl,rfl⟩:=bh.mp hr;refine q l hl ((tR (ne l hl)).mpr ⟨(x++[c]).length-l.length,?_⟩);rw[zgO z,cj]
 |false=>
  unfold lacks at q;have q:(S.any λst=>Zr st (x++[c]))=true:=by simpa using q
  rw[cI]at q;obtain⟨l,hl,hs⟩:=q;obtain⟨k,hk⟩:=(tR (ne l hl)).mp hs;have hl0:0<l.length:=cF.mpr (ne l hl);have hkl:=congrArg c7 hk;rw[bM,cA,aB,aU]at hkl;by_cases hin:k+l.length<=x.length
  ·exfalso;unfold lacks at h;have h:(S.any λst=>Zr st x)=false:=by simpa using h
   rw[cu]at h;refine h l hl ((tR (ne l hl)).mpr ⟨k,?_⟩);rw[cW (by omega),ig (by rw[cA];omega)]at hk;exact hk
  ·have hk2:(x++[c]).drop k=l:=by
    rw[bQ (by rw[cA,aB,aU];omega)]at hk;exact hk
   have:(S.map kJ).any (λl=>zex l (x++[c]).reverse)=true:=by
    rw[cI];refine⟨l.reverse,bh.mpr ⟨l,hl,rfl⟩,?_⟩;rw[zaa,kW,BZ];congr 1;rw[aB,aU,show x.length+1-l.length=k by omega];exact hk2
   rw[this];rfl
def zcV(S:ZA)(b:Nat)(y:List Int):Nat->Nat
 |0=>1
 |t+1=>zcV S b y t+cnt S b (t+1) y
theorem zeO{f g:Nat->Nat}:∀l:List Nat,(l.map f).sum+(l.map g).sum=(l.map λc=>f c+g c).sum
 |[]=>rfl
 |c::l=>by rw[bz,bz,bz,lq,lq,lq,<-zeO l];omega
theorem zdJ(S:ZA)(b:Nat)(y:List Int):∀t:Nat,zcV S b y (t+1)=1+((aD b).map λ(c:Nat)=>if lacks S (y++[(c:Int)])=true then zcV S b (zY S (y++[(c:Int)])) t else 0).sum
 |0=>by rw[zcV,zcV,cnt];rfl
 |t+1=>by
  rw[zcV,zdJ S b y t,cnt,dZ,zeO];congr 2;refine dq λc _=>?_;by_cases q:lacks S (y++[(c:Int)])=true
  ·rw[if_pos q,if_pos q,if_pos q,zcV]
  ·rw[if_neg q,if_neg q,if_neg q]
theorem zfw{S:ZA}(ne:∀l∈S,l≠[]){b:Nat}:∀(t:Nat) {x:List Int},lacks S x=true->dfs (S.map kJ) b t x.reverse=zcV S b (zY S x) t
 |0,x,_=>rfl
 |t+1,x,h=>by
  rw[dfs,zdJ];congr 2;refine dq λc _=>?_;have e:((c:Int)::x.reverse)=(x++[(c:Int)]).reverse:=by simp
  rw[zdI ne h,qH ne _ h,qx];by_cases q:lacks S (x++[(c:Int)])=true
  ·rw[if_pos q,if_pos q,e,zfw ne t q]
  ·rw[if_neg q,if_neg q]
theorem zco{A:Nat}{B:Nat->Nat}:∀{b:Nat},0<b->((aD b).map λc=>if c=0 then A else B c).sum=A+((aD b).map λc=>if c=0 then 0 else B c).sum
 |0,h=>absurd h (by omega)
 |b+1,_=>by
  rw[cL,aF,aF,dU,dU];cases b with
  |zero=>simp
  |succ b=>
   rw[zco (b:=b+1) (by omega)];simp only[bz,dh,lq,FN];rw[if_neg (by omega),if_neg (by omega)];omega
theorem zdK{S:ZA}{b:Nat}(h2:2<=b):∀t:Nat,vH S b (t+1)=vH S b 0+((aD b).map λ(c:Nat)=>if c=0 then 0 else if lacks S [(c:Int)]=true then zcV S b (zY S [(c:Int)]) t else 0).sum
 |0=>by
  have e:vH S b (0+1)=((aD b).map λ(c:Nat)=>if c=0 then vH S b 0 else if lacks S [(c:Int)]=true then cnt S b 0 (zY S [(c:Int)]) else 0).sum:=rfl;rw[e,zco (by omega)];rfl
 |t+1=>by
  have e:vH S b (t+1+1)=((aD b).map λ(c:Nat)=>if c=0 then vH S b (t+1) else if lacks S [(c:Int)]=true then cnt S b (t+1) (zY S [(c:Int)]) else 0).sum:=rfl;rw[e,zco (by omega),zdK h2 t,dZ,zeO];congr 2;refine dq λc _=>?_;by_cases z:c=0
  ·rw[if_pos z,if_pos z,if_pos z]
  ·rw[if_neg z,if_neg z,if_neg z];by_cases q:lacks S [(c:Int)]=true
   ·rw[if_pos q,if_pos q,if_pos q,zcV]
   ·rw[if_neg q,if_neg q,if_neg q]
def zdN(b:Nat)(S:ZA):Bool:=decide (1+((aD b).map λ(c:Nat)=>if c=0 then 0 else if okR (S.map kJ) [(c:Int)]=true then dfs (S.map kJ) b 13 [(c:Int)] else 0).sum<=62)
theorem zjt(h2:2<=b)(ne:∀l∈S,l≠[])(h:zdN b S=true):vH S b 14<=62:=by
 have h:=of_decide_eq_true h;have e0:lacks S []=true:=by
  unfold lacks;rw[cU,cu];intro l hl z;simp[Zr]at z
 have h0:vH S b 0<=1:=by rw[vH];split<;>omega
 have e:((aD b).map λ(c:Nat)=>if c=0 then 0 else if lacks S [(c:Int)]=true then zcV S b (zY S [(c:Int)]) 13 else 0).sum=((aD b).map λ(c:Nat)=>if c=0 then 0 else if okR (S.map kJ) [(c:Int)]=true then dfs (S.map kJ) b 13 [(c:Int)] else 0).sum:=by
  congr 1;refine dq λc _=>?_;have q1:=zdI ne (x:=[]) (c:=(c:Int)) e0;rw[List.reverse_nil,fC]at q1;rw[q1];by_cases z:c=0
  ·rw[if_pos z,if_pos z]
  ·rw[if_neg z,if_neg z];by_cases q:lacks S [(c:Int)]=true
   ·rw[if_pos q,if_pos q];exact (zfw ne 13 (x:=[(c:Int)]) q).symm
   ·rw[if_neg q,if_neg q]
 rw[zdK h2 13,e];omega
def tests(b:Nat):List (List Int×List Int):=
 let F:=((aD (min b 6)).drop 1).map λ(c:Nat)=>(c:Int)
 if 6<=b then F.map λf=>([],[f]) else
 (F.map λf=>([],[f]))++(F.map λf=>([f],[0]))++(F.map λf=>([],[f,0]))++(F.flatMap λf=>(F.filter λg=>decide (f<g)).map λg=>([],[f,g]))++(F.map λf=>([],[f,0,0]))++(F.map λf=>([],[f,f,0])) ++
  (F.flatMap λf=>(F.filter λg=>decide (f≠g)).map λg=>([],[f,f,g]))++(F.map λf=>([],[f,f,f,0]))++(F.map λf=>([],[f,0,0,0]))++(F.map λf=>([],[f,f,0,0]))
def zkS(b:Nat)(t:List Int×List Int):Bool:=decide (t.2≠[]) && ((t.1++t.2).all λf=>decide (0<=f/\f<(b:Int))) && decide ((t.1++t.2).head?≠some 0)
theorem zko(h:zkS b t=true):Tst b t:=by
 unfold zkS at h;rw[dJ,dJ,gf]at h;exact⟨of_decide_eq_true h.1.1,λf hf=>of_decide_eq_true (h.1.2 f hf),of_decide_eq_true h.2⟩
theorem zmn:chk (zdN 2) (tests 2) 5 []=true:=by decide +kernel
theorem zmh:chk (zdN 3) (tests 3) 5 []=true:=by decide +kernel
theorem zml:chk (zdN 4) (tests 4) 5 []=true:=by decide +kernel
theorem zmj:chk (zdN 5) (tests 5) 5 []=true:=by decide +kernel
theorem zmp:chk (λ_=>false) (tests 6) 5 []=true:=by decide +kernel
theorem zkt:∀b,b<17->2<=b->(tests b).all (zkS b)=true:=by decide +kernel
theorem zk4(h:6<=b):tests b=tests 6:=by
 unfold tests;rw[fK h,if_pos h];rfl
theorem few{ls ws:ZA}(ne:∀l∈ls,l≠[])(h4:∀l∈ls,l.length<=4)(hl4:ls.length<=4)(h2:2<=b)(h16:b<=16)(hn:¬ vH ls b ws.length<vH ls b (ws.length+1)):vH ls b 14<=62:=by
 have ht:∀t∈tests b,Tst b t:=λt h=>zko (gf.mp (zkt b (by omega) h2) t h);have hleaf:∀S,zdN b S=true->(∀l∈S,l∈ls)->vH ls b 14<=62:=λS hS hin=>by
  have q:=zjt h2 (λl hl=>ne l (hin l hl)) hS;rw[ux (λl hl=>ne l (hin l hl)) h2]at q;rw[ux ne h2];exact ao (zdD hin b _) q
 have go:∀{leaf:ZA->Bool},chk leaf (tests b) 5 []=true->(∀S,leaf S=true->(∀l∈S,l∈ls)->vH ls b 14<=62)->vH ls b 14<=62:=λhc hf=>zlz ne h4 hl4 h2 hn hf (tests b) 5 [] ht hc (λl h=>nomatch h) List.nodup_nil rfl;by_cases h6:6<=b
 ·exact go (by rw[zk4 h6];exact zmp) (λS hS _=>by cases hS)
 ·have hb:b=2\/b=3\/b=4\/b=5:=by omega
  rcases hb with rfl | rfl | rfl | rfl
  ·exact go zmn hleaf
  ·exact go zmh hleaf
  ·exact go zml hleaf
  ·exact go zmj hleaf
open PySem L2 PyProof.Rows
def top(i:Nat):cz:=PySem.Challenge.pw_lackstretch_k45_whole_all_numbers_gone_t.main.body.getD i (.Pass ⟨0,0,0,0⟩)
abbrev jD:cz:=top 16
abbrev jo:cz:=top 17
abbrev Vy:cz:=top 18
abbrev ZJ:cz:=top 19
abbrev uv:cz:=top 20
abbrev qO:cz:=top 21
abbrev jQ:cz:=top 22
abbrev Xh:cz:=top 23
abbrev qX:cz:=top 24
abbrev We:cz:=top 25
abbrev Ye:cz:=top 26
abbrev uz:cz:=top 27
abbrev yD:cz:=top 28
abbrev Wi:cz:=top 29
abbrev vm:cz:=top 30
abbrev qj:cz:=top 31
abbrev wG:cz:=top 32
abbrev qm:cz:=top 33
abbrev Yo:cz:=top 34
abbrev Z8:cz:=top 36
abbrev vg:cz:=top 37
abbrev xF:cz:=top 38
abbrev Ux:cz:=top 39
abbrev uB:cz:=top 40
abbrev jU:cz:=top 41
abbrev qi:cz:=top 42
abbrev tV:cz:=top 45
abbrev ZX:cz:=top 46
abbrev Zz:cz:=top 47
abbrev vI:cz:=inClass (top 48) 0
abbrev vJ:cz:=inClass (top 48) 1
abbrev uc:cz:=inClass (top 48) 2
abbrev vC:cz:=inClass (top 48) 3
abbrev yG:cz:=inClass (top 48) 4
abbrev yH:cz:=inClass (top 48) 5
abbrev vY:cz:=inClass (top 48) 6
abbrev yr:cz:=inClass (top 48) 7
abbrev tL:cz:=inClass (top 48) 8
abbrev uZ:cz:=top 50
abbrev YC:cz:=top 51
abbrev Wj:cz:=top 52
abbrev Zm:cz:=top 53
abbrev vN:cz:=top 54
abbrev ut:cz:=top 55
abbrev wu:cz:=inClass (top 57) 0
abbrev uX:cz:=inClass (top 57) 1
abbrev jE:cz:=inClass (top 57) 2
abbrev wM:cz:=inClass (top 57) 3
abbrev j7:cz:=inClass (top 57) 4
abbrev tZ:cz:=inClass (top 57) 6
abbrev wj:cz:=top 59
abbrev vV:cz:=inClass (top 60) 0
abbrev vq:cz:=inClass (top 60) 1
abbrev vA:cz:=inClass (top 60) 2
abbrev yI:cz:=inClass (top 60) 3
abbrev yd:cz:=inClass (top 60) 4
abbrev uD:cz:=inClass (top 60) 5
abbrev qN:cz:=top 61
abbrev jy:cz:=top 62
abbrev v7:cz:=top 63
abbrev wV:cz:=top 64
abbrev uy:cz:=top 66
abbrev ue:cz:=top 67
abbrev uV:cz:=top 68
abbrev vK:cz:=top 69
abbrev xP:cz:=top 70
abbrev jt:cz:=top 71
abbrev ZG:cz:=top 76
abbrev tD:cz:=top 77
abbrev Y4:cz:=top 78
abbrev wW:cz:=top 79
abbrev ZL:cz:=top 80
abbrev vM:cz:=top 81
abbrev qR:cz:=top 82
abbrev vQ:cz:=top 83
abbrev vB:cz:=top 84
abbrev j6:cz:=top 85
abbrev vG:cz:=top 86
abbrev Xc:cz:=top 88
abbrev uO:cz:=top 89
abbrev vO:cz:=top 90
abbrev xg:cz:=top 91
abbrev ql:cz:=top 92
abbrev yQ:cz:=top 93
abbrev xX:cz:=top 94
abbrev yN:cz:=top 95
abbrev vL:cz:=top 96
abbrev ym:cz:=top 97
abbrev Xa:cz:=top 98
abbrev yg:cz:=top 99
abbrev yu:cz:=top 100
abbrev yc:cz:=top 101
abbrev Zv:cz:=top 102
section
variable {P:cg} {w:cT} {K:aN} {mg:cG->Option aG} {base:dR}
def Ve:Sp:=λvs H Q _=>∃i:Int,vs=[.int i]/\Q (.bl true) H
theorem zff:zG ["thing"] ["thing"] (zp jD):={}
theorem Qi(D:Df K mg "is_whole" jD Aa f fd)(T:Blt mg):FnOk P w K mg base CX0 1 f fd Aa Ve:=by
 refine D.fn.ok zff (λvs H Q E h=>?_) (λcdv A outer s H vs Q E hr h=>?_)
 ·obtain⟨i,rfl,_⟩:=h;rfl
 ·obtain⟨i,rfl,q⟩:=h;refine⟨_,(zm (zE (Ww (zH zcD (by rfl) T.n_isinstance iJ (zc (pv 0) (zc (QW (v:=.ty "int") rfl T.n_int boot_int rfl) zf))) (Xr (zjL (zH zcD (by rfl) T.n_isinstance iJ (zc (pv 0) (zc (QW (v:=.ty "bool") rfl T.n_bool boot_bool rfl) zf)))))))),?_⟩;refine⟨_,rfl,_,_,_,_,rfl,.int i,zfR,_,rfl,qd ?_⟩;refine⟨_,rfl,_,_,_,_,rfl,.int i,zep,_,rfl,?_⟩;exact q
def Jq:Sp:=λvs H Q _=>∃i:Int,vs=[.int i]/\Q (.bl (decide (2<=i/\i<=16))) H
theorem zf5:zG ["thing"] ["thing"] (zp Vy):={}
theorem zgp(D:Df K mg "is_base" Vy Aa f fd)(ww:Df K mg "is_whole" jD Aa f1 fd1)(T:Blt mg)(Ut:mg "LEAST_BASE"= some (.int 2 t1))(Xn:mg "GREATEST_BASE"= some (.int 16 t2)):
  FnOk P w K mg base CX0 2 f fd Aa Jq:=by
 have VF:FnOk P w K mg base CX0 1 f1 fd1 Aa Ve:=Qi ww T;refine D.fn.ok zf5 (λvs H Q E h=>?_) (λcdv A outer s H vs Q E hr h=>?_)
 ·obtain⟨i,rfl,_⟩:=h;rfl
 ·obtain⟨i,rfl,q⟩:=h;refine⟨_,(zm (zE (Ww (zK ww VF (hr.mono (by decide)) (zc (pv 0) zf)) (Xr (zcp U7 U7 (Z0 (v:=.int 2) rfl Ut ⟨_,rfl⟩) (pv 0) (Z0 (v:=.int 16) rfl Xn ⟨_,rfl⟩)))))),?_⟩;refine⟨_,rfl,i,rfl,_,rfl,qd ?_⟩;refine⟨_,rfl,_,_,rfl,rfl,_,rfl,?_⟩;refine JC (λh1=>?_) (λh1=>?_)
  ·have h1':(2:Int)<=i:=of_decide_eq_true h1;refine⟨_,_,rfl,rfl,?_⟩;rw[show decide (2<=i/\i<=16)=decide (i<=16) by simp[h1']]at q;exact q
  ·have h1':¬ (2:Int)<=i:=λz=>h1 (decide_eq_true z);rw[show decide (2<=i/\i<=16)=false by simp[h1']]at q;exact q
def Vr:Sp:=λvs H Q _=>∃i:Int,vs=[.int i]/\2<=i/\i<=16/\Q .non H
theorem zdl:zG ["thing"] ["thing"] (zp Ye):={}
theorem zc9(D:Df K mg "check_base" Ye Aa f fd)(WL:Df K mg "is_base" Vy Aa f1 fd1)(VB:FnOk P w K mg base CX0 2 f1 fd1 Aa Jq):
  FnOk P w K mg base CX0 3 f fd Aa Vr:=by
 refine D.fn.ok zdl (λvs H Q E h=>?_) (λcdv A outer s H vs Q E hr h=>?_)
 ·obtain⟨i,rfl,_⟩:=h;rfl
 ·obtain⟨i,rfl,h1,h2,q⟩:=h;refine⟨_,(zm (yx (wB (yX (zK WL VB (hr.mono (by decide)) (zc (pv 0) zf))))
    (zm uf)
    zQ)),?_⟩
  refine⟨_,rfl,i,rfl,_,rfl,?_⟩;rw[decide_eq_true (show 2<=i/\i<=16 from ⟨h1,h2⟩)];exact wN q
def ZM:Sp:=λvs H Q _=>∃i:Int,vs=[.int i]/\Q (.bl (decide (0<=i))) H
theorem zer:zG ["thing"] ["thing"] (zp jo):={}
theorem U3(D:Df K mg "is_number" jo Aa f fd)(ww:Df K mg "is_whole" jD Aa f1 fd1)(T:Blt mg):
  FnOk P w K mg base CX0 2 f fd Aa ZM:=by
 have VF:FnOk P w K mg base CX0 1 f1 fd1 Aa Ve:=Qi ww T;refine D.fn.ok zer (λvs H Q E h=>?_) (λcdv A outer s H vs Q E hr h=>?_)
 ·obtain⟨i,rfl,_⟩:=h;rfl
 ·obtain⟨i,rfl,q⟩:=h;refine⟨_,(zm (zE (Ww (zK ww VF (hr.mono (by decide)) (zc (pv 0) zf)) (Xr (ul zjf (pv 0) zu (zT _)))))),?_⟩;refine⟨_,rfl,i,rfl,_,rfl,qd ?_⟩;exact⟨_,rfl,_,_,rfl,rfl,q⟩
def qM:Sp:=λvs H Q _=>∃i:Int,vs=[.int i]/\0<=i/\Q .non H
theorem zbr:zG ["thing"] ["thing"] (zp uz):={}
theorem zbn(D:Df K mg "check_number" uz Aa f fd)(wK:Df K mg "is_number" jo Aa f2 fd2)(ww:Df K mg "is_whole" jD Aa f1 fd1)(T:Blt mg):
  FnOk P w K mg base CX0 3 f fd Aa qM:=by
 have uY:FnOk P w K mg base CX0 2 f2 fd2 Aa ZM:=U3 wK ww T;refine D.fn.ok zbr (λvs H Q E h=>?_) (λcdv A outer s H vs Q E hr h=>?_)
 ·obtain⟨i,rfl,_⟩:=h;rfl
 ·obtain⟨i,rfl,h1,q⟩:=h;refine⟨_,(zm (yx (wB (yX (zK wK uY (hr.mono (by decide)) (zc (pv 0) zf))))
    (zm uf)
    zQ)),?_⟩
  refine⟨_,rfl,i,rfl,_,rfl,?_⟩;rw[decide_eq_true h1];exact wN q
def wD:Sp:=λvs H Q _=>∃b n:Nat,vs=[.int b,.int n]/\2<=b/\b<=16/\n<2^900 /\
 ∀l H',H l=none->H' l=some (.lst ((yJ b n).map V.int))->Same H H'->Q (.ref l) H'
theorem Y7:zG ["base","n","backwards","rest"] ["base","n"] (zp wG):={}
theorem zdk(D:Df K mg "figures_of" wG Ae f fd)(jr:Df K mg "check_base" Ye Aa f1 fd1)(ZC:FnOk P w K mg base CX0 3 f1 fd1 Aa Vr)(xn:Df K mg "check_number" uz Aa f2 fd2)(xQ:FnOk P w K mg base CX0 3 f2 fd2 Aa qM)(T:Blt mg):FnOk P w K mg base CX0 4 f fd Ae wD:=by
 refine D.fn.ok Y7 (λvs H Q E h=>?_) (λcdv A outer s H vs Q E hr h=>?_)
 ·obtain⟨b,n,rfl,_⟩:=h;rfl
 ·obtain⟨b,n,rfl,h2,h16,hn,k⟩:=h;refine⟨_,(zg (yw (zK jr ZC (hr.mono (by decide)) (zc (pv 0) zf)))
   (zg (yw (zK xn xQ (hr.mono (by decide)) (zc (pv 1) zf)))
   (zg (zU (i:=2) Y7.nd rfl (aW rfl) (yR (zc (zV qy (pv 1) (pv 0)) zf)))
   (zg (zU (i:=3) Y7.nd rfl (aW rfl) (zV VL (pv 1) (pv 0)))
   (zg (JW bj (zP zaj (pv 3) zu (zT _))
    (zg (yw (Vx PySem.F.plainAttrs_list PySem.F.slot_list_append PySem.F.type_list_append qU (pv 2) (zc (zV qy (pv 3) (pv 0)) zf)))
    (zm (zU (i:=3) Y7.nd rfl (aW rfl) (zV VL (pv 3) (pv 0))))))
   (zm (zE (zgK rfl rfl T.n_list rfl T.n_reversed (pv 2))))))))),?_⟩
  refine⟨_,rfl,(b:Int),rfl,by omega,by omega,?_⟩;refine⟨_,rfl,(n:Int),rfl,by omega,?_⟩;refine⟨_,rfl,_,rfl,_,_,rfl,rfl,(by omega:(0:Int)<b),(by decide:1<=aZ),λl hl=>?_⟩;refine⟨_,rfl,_,rfl,_,_,rfl,rfl,⟨by omega,by omega⟩,?_⟩;have hlen:=uP h2 900 n hn;refine zad (λZ H2=>∃(r:Nat) (L:List Int),Z=[some (.int b),some (.int n),some (.ref l),some (.int r)]/\H2 l=some (.lst (L.map V.int))/\Same H H2/\yJ b n=ahead b r++L.reverse)
   (λZ _=>match Z with | [_,_,_,some (.int r)]=>r.toNat | _=>0) ?_ ?_ ?_
  ·refine⟨n / b,[((n % b:Nat):Int)],?_,?_,zy hl,?_⟩
   ·rfl
   ·rw[zq];simp
   ·rw[QL h2];simp
  ·rintro Z H2 ⟨r,L,rfl,hL,sH,he⟩;refine⟨_,rfl,_,_,rfl,rfl,_,rfl,?_⟩;refine JC (λh1=>?_) (λh1=>?_)
   ·have hr0:0<r:=by have:=of_decide_eq_true h1;omega
    have hLl:L.length<=901:=by
     have:=congrArg c7 he;rw[aB,kW]at this;omega
    refine⟨_,rfl,.inl ⟨rfl,_,SqL.of hL⟩,_,rfl,_,rfl,_,_,rfl,rfl,(by omega:(0:Int)<b),l,_,_,rfl,rfl,hL,by rw[aa];exact bw hLl (by decide),?_⟩;refine⟨_,rfl,_,rfl,_,_,rfl,rfl,⟨by omega,by omega⟩,?_⟩;refine⟨⟨r / b,L++[((r % b:Nat):Int)],?_,?_,?_,?_⟩,?_⟩
    ·simp
    ·rw[zq];simp
    ·exact λb' o e=>by rw[zA (zF e hl)];exact sH b' o e
    ·rw[he,zgC h2 hr0,List.reverse_append];simp
    ·show ((r:Int) / (b:Int)).toNat<(r:Int).toNat;have:r / b<r:=gB hr0 (by omega);omega
   ·have hr0:r=0:=by
     by_cases z:r=0
     ·exact z
     ·exact absurd (decide_eq_true (by omega:(0:Int)<r)) h1
    subst hr0;refine⟨_,rfl,l,_,rfl,SqL.of hL,λq hq=>?_⟩;have hlq:q≠l:=λz=>by rw[z,hL]at hq;cases hq
    refine k q _ (sH.free hq) ?_ (sH.trans (zy hq));rw[zq,he];simp[ahead]
  ·intro Z H2 Q Q' hq;rintro⟨v,e,i,j,e1,e2,k,e3,q⟩;exact⟨v,e,i,j,e1,e2,k,e3,hq _ _ q⟩
def XJ:Sp:=λvs H Q _=>∃b i:Int,vs=[.int b,.int i]/\Q (.bl (decide (0<=i/\i<b))) H
theorem zd8:zG ["base","thing"] ["base","thing"] (zp ZJ):={}
theorem zee(D:Df K mg "is_figure" ZJ Ad f fd)(ww:Df K mg "is_whole" jD Aa f1 fd1)(T:Blt mg):FnOk P w K mg base CX0 2 f fd Ad XJ:=by
 have VF:FnOk P w K mg base CX0 1 f1 fd1 Aa Ve:=Qi ww T;refine D.fn.ok zd8 (λvs H Q E h=>?_) (λcdv A outer s H vs Q E hr h=>?_)
 ·obtain⟨b,i,rfl,_⟩:=h;rfl
 ·obtain⟨b,i,rfl,q⟩:=h;refine⟨_,(zm (zE (Ww (zK ww VF (hr.mono (by decide)) (zc (pv 1) zf)) (Xr (zcp U7 zbg zu (pv 1) (pv 0)))))),?_⟩;refine⟨_,rfl,i,rfl,_,rfl,qd ?_⟩;refine⟨_,rfl,_,_,rfl,rfl,_,rfl,?_⟩;refine JC (λh1=>?_) (λh1=>?_)
  ·have h1':(0:Int)<=i:=of_decide_eq_true h1;refine⟨_,rfl,_,_,rfl,rfl,?_⟩;rw[show decide (0<=i/\i<b)=decide (i<b) by simp[h1']]at q;exact q
  ·have h1':¬ (0:Int)<=i:=λz=>h1 (decide_eq_true z);rw[show decide (0<=i/\i<b)=false by simp[h1']]at q;exact q
def jl:Sp:=λvs H Q _=>∃(b:Int) (a:aq) (ns:List Int),vs=[.int b,.ref a]/\H a=some (.lst (ns.map V.int))/\ns.length<=1000/\∀H',Same H H'->Q (.bl (ns.all λi=>decide (0<=i/\i<b))) H'
theorem zct:zG ["base","thing"] ["base","thing"] (zp uv):={}
theorem zcT(D:Df K mg "are_figures" uv Ad f fd)(u9:Df K mg "is_figure" ZJ Ad f1 fd1)(qu:FnOk P w K mg base CX0 2 f1 fd1 Ad XJ)(T:Blt mg):
  FnOk P w K mg base CX0 3 f fd Ad jl:=by
 refine D.fn.ok zct (λvs H Q E h=>?_) (λcdv A outer s H vs Q E hr h=>?_)
 ·obtain⟨b,a,ns,rfl,_⟩:=h;rfl
 ·obtain⟨b,a,ns,rfl,ha,hlen,kk⟩:=h;refine⟨_,(zm (zE (Ww (zH (zhp K) (by rfl) T.n_isinstance iJ (zc (pv 1) (zc (QW (v:=.ty "list") rfl T.n_list gW rfl) zf))) (Xr (zH (k_all K rfl) (by rfl) T.n_all Ca (zc (wO (show CScope (zp uv) _ "each" ["base","thing"] ["base"] [0] from {}) rfl (jh K (pv 1)) (λ_ _ _ _=>vU) (λ_ _ _ _=>(zK u9 qu (hr.mono (by decide)) (zc (pv 1) (zc (pv 0) zf))))) zf)))))),?_⟩;refine⟨_,rfl,_,_,_,_,rfl,.lst ha,Vu,_,rfl,qd ?_⟩;refine⟨_,rfl,a,rfl,⟨_,SqL.of ha⟩,vZ (K:=K) (a:=a) (xs:=ns.map V.int) (λi ys H4=>ys=((ns.take i).map λi=>decide (0<=i/\i<b)).map V.bl/\H4=H) ⟨by simp,rfl⟩ (λi ys H4 _ ⟨_,e⟩=>by rw[e];exact SqL.of ha) ?_ ?_⟩
  ·rintro j x ys H4 hx ⟨rfl,rfl⟩;refine⟨?_,?_⟩
   ·rw[aa,aa,bM];exact bw (ao (kO _ _) hlen) (by decide)
   obtain⟨z,hz,rfl⟩:∃z,ns[j]?=some z/\x=V.int z:=by
    rw[ak]at hx;obtain⟨z,h,e⟩:=aM.mp hx;exact⟨z,h,e.symm⟩
   unfold Vp;dsimp only;rw[if_pos rfl];refine⟨_,rfl,_,rfl,b,z,rfl,?_,rfl⟩;rw[cO,hz];simp
  ·rintro ys H4 ⟨rfl,rfl⟩ Dd hD;refine⟨Dd,_,rfl,SqL.of zq,?_⟩;have q:=kk _ (zy hD (o:=.lst (((ns.take (ns.map V.int).length).map λi=>decide (0<=i/\i<b)).map V.bl)));rw[aa,cj]at q ⊢;rw[pC];exact q
structure RuleAt (H:Hp) (r:aq) (b:Nat) (bl:aq) (zs:ZB):Prop where
 tu:H r=some (.tup [.int b,.ref bl])
 li:H bl=some (.lst (zs.map λz=>V.ref z.1))
 st:∀z∈zs,H z.1=some (.lst (z.2.map V.int))
theorem RuleAt.same(R:RuleAt H r b bl zs)(s:Same H H'):RuleAt H' r b bl zs:=⟨s _ _ R.tu,s _ _ R.li,λz hz=>s _ _ (R.st z hz)⟩
structure zay (b:Nat) (l:List Int):Prop where
 ne:l≠[]
 len:l.length<=4
 fig:∀f∈l,0<=f/\f<b
structure GoodRule (b:Nat) (ls:ZA):Prop where
 b2:2<=b
 b16:b<=16
 len:ls.length<=4
 st:∀l∈ls,zay b l
 up:ls.Pairwise λx y=>HT.lexLt x y=true
theorem zaR{b:Nat}{ns:List Int}(h:∀f∈ns,0<=f/\f<(b:Int)):(ns.all λi=>decide (0<=i/\i<(b:Int)))=true:=by
 rw[gf];intro x hx;exact decide_eq_true (h x hx)
def Y6:Sp:=λvs H Q _=>∃(b:Nat) (a:aq) (ns:List Int),vs=[.int b,.ref a]/\H a=some (.lst (ns.map V.int))/\zay b ns/\∀H',Same H H'->Q (.bl true) H'
theorem zc8:zG ["base","thing"] ["base","thing"] (zp jQ):={}
theorem zdd(D:Df K mg "is_stretch" jQ Ad f fd)(xU:Df K mg "are_figures" uv Ad f1 fd1)(wH:FnOk P w K mg base CX0 3 f1 fd1 Ad jl)(Z7:mg "LONGEST_STRETCH"= some (.int 4 t1))(T:Blt mg):
  FnOk P w K mg base CX0 4 f fd Ad Y6:=by
 refine D.fn.ok zc8 (λvs H Q E h=>?_) (λcdv A outer s H vs Q E hr h=>?_)
 ·obtain⟨b,a,ns,rfl,_⟩:=h;rfl
 ·obtain⟨b,a,ns,rfl,ha,g,kk⟩:=h;refine⟨_,(zm (zE (Ww (zK xU wH (hr.mono (by decide)) (zc (pv 0) (zc (pv 1) zf))) (Xr (zcp U7 U7 zu (zH (xG K) (by rfl) T.n_len PySem.boot_len (zc (pv 1) zf)) (Z0 (v:=.int 4) rfl Z7 ⟨_,rfl⟩)))))),?_⟩;have hlen:=g.len;refine⟨_,rfl,_,rfl,b,a,ns,rfl,ha,ao hlen (by decide),λH1 s1=>?_⟩;rw[zaR g.fig];refine⟨_,rfl,qd ?_⟩;have hpos:0<ns.length:=cF.mpr g.ne;refine⟨_,rfl,a,_,rfl,.inl (SqL.of (s1 _ _ ha)),_,_,rfl,rfl,_,rfl,?_⟩;rw[aa,decide_eq_true (show (1:Int)<=(ns.length:Int) by omega)];refine qd ?_;refine⟨_,_,rfl,rfl,?_⟩;dsimp only;rw[decide_eq_true (show (ns.length:Int)<=4 by omega)];exact kk H1 s1
def zap:Sp:=λvs H Q _=>∃(bl:aq) (zs:ZB),vs=[.ref bl]/\H bl=some (.lst (zs.map λz=>V.ref z.1))/\(∀z∈zs,H z.1=some (.lst (z.2.map V.int)))/\zs.length<=4/\(zs.map (·.2)).Pairwise (λx y=>HT.lexLt x y=true)/\∀H',Same H H'->Q (.bl true) H'
theorem zef:zG ["stretches"] ["stretches"] (zp Xh):={}
theorem zej:(bc n true).all id=true:=by
 rw[gf];intro x hx;exact (List.mem_replicate.mp hx).2
theorem zeF(D:Df K mg "is_rising" Xh A7 f fd)(T:Blt mg):FnOk P w K mg base CX0 1 f fd A7 zap:=by
 refine D.fn.ok zef (λvs H Q E h=>?_) (λcdv A outer s H vs Q E hr h=>?_)
 ·obtain⟨bl,zs,rfl,_⟩:=h;rfl
 ·obtain⟨bl,zs,rfl,hb,hz,h4,up,kk⟩:=h;have HU:=Vv hr;refine⟨_,(zm (zE (zH (k_all K rfl) (by rfl) T.n_all Ca (zc (wO (show CScope (zp Xh) _ "k" ["stretches"] ["stretches"] [0] from {}) rfl (yM rfl T.n_range (zc (zV Zq (zH (xG K) (by rfl) T.n_len PySem.boot_len (zc (pv 0) zf)) zu) zf)) (λ_ _ _ _=>vU) (λ_ _ _ _=>(ul (zlX K HU) (zX (wJ K) (pv 1) (pv 0) (λ_ _=>rfl)) (zX (wJ K) (pv 1) (zV xO (pv 0) zu) (λ_ _=>rfl)) (zT _)))) zf)))),?_⟩;refine⟨_,rfl,bl,_,rfl,.inl (SqL.of hb),_,_,rfl,rfl,_,rfl,?_⟩;rw[aa];refine⟨by omega,by omega,jF (lo:=0) (n:=((zs.length:Int)-1).toNat) (λi ys H4=>ys=(bc i true).map V.bl/\H4=H) ⟨by simp,rfl⟩ ?_ ?_⟩
  ·rintro i ys H4 hi ⟨rfl,rfl⟩;refine⟨by rw[aa,fG];exact aA (show i<5 by omega) (by decide),?_⟩;unfold Vp;dsimp only;rw[if_pos rfl];have hi0:i<zs.length:=by omega
   have hi1:i+1<zs.length:=by omega
   have g0:atI (zs.map λz=>V.ref z.1) (0+(i:Int))=some (.ref (zs[i]).1):=by rw[cM];exact vo (by rw[ak,aj hi0];rfl)
   have g1:atI (zs.map λz=>V.ref z.1) (0+(i:Int)+1)=some (.ref (zs[i+1]).1):=by rw[cM];exact vo (j:=i+1) (by rw[ak,aj hi1];rfl)
   refine⟨_,rfl,_,rfl,bl,_,_,_,rfl,rfl,SqL.of hb,g0,?_⟩;refine⟨_,rfl,_,rfl,_,_,rfl,rfl,bl,_,_,_,rfl,rfl,SqL.of hb,g1,?_⟩;refine⟨_,_,_,_,rfl,rfl,SqL.of (hz _ (gb hi0)),SqL.of (hz _ (gb hi1)),?_,rfl⟩;rw[dO,gw]at up;rw[up i (i+1) hi0 hi1 (by omega),mJ];simp
  ·rintro ys H4 ⟨rfl,rfl⟩ Dd hD;refine⟨Dd,_,rfl,SqL.of zq,?_⟩;rw[zej];exact kk _ (zy hD)
def Qp:Sp:=λvs H Q _=>∃(b:Nat) (bl:aq) (zs:ZB),vs=[.int b,.ref bl]/\H bl=some (.lst (zs.map λz=>V.ref z.1))/\(∀z∈zs,H z.1=some (.lst (z.2.map V.int)))/\GoodRule b (zs.map (·.2))/\∀H',Same H H'->Q (.bl true) H'
theorem zcj:zG ["base","thing"] ["base","thing"] (zp qX):={}
theorem zbS(D:Df K mg "is_bad_list" qX Ad f fd)(uw:Df K mg "is_stretch" jQ Ad f1 fd1)(uH:FnOk P w K mg base CX0 4 f1 fd1 Ad Y6)(Ua:Df K mg "is_rising" Xh A7 f2 fd2)(xV:mg "MOST_STRETCHES"= some (.int 4 t1))(T:Blt mg):
  FnOk P w K mg base CX0 5 f fd Ad Qp:=by
 have zfX:FnOk P w K mg base CX0 1 f2 fd2 A7 zap:=zeF Ua T;refine D.fn.ok zcj (λvs H Q E h=>?_) (λcdv A outer s H vs Q E hr h=>?_)
 ·obtain⟨b,bl,zs,rfl,_⟩:=h;rfl
 ·obtain⟨b,bl,zs,rfl,hb,hz,g,kk⟩:=h;have h4:zs.length<=4:=by have:=g.len;rwa[aa]at this
  refine xu ?_;intro XX;let q1:Sq XX ((zj qX).drop 1):=⟨_,zm (zE (Ww (zH (k_all K rfl) (by rfl) T.n_all Ca (zc (wO (show CScope (zp qX) _ "each" ["base","thing"] ["base"] [0] from {}) rfl (jh K (pv 1)) (λ_ _ _ _=>vU) (λ_ _ _ _=>(zK uw uH (hr.mono (by decide)) (zc (pv 1) (zc (pv 0) zf))))) zf)) (Xr (zK Ua zfX (hr.mono (by decide)) (zc (pv 1) zf)))))⟩
  refine⟨_,(zg (yx (PW.pt (Z6 (wB (yX (zH (zhp K) (by rfl) T.n_isinstance iJ (zc (pv 1) (zc (QW (v:=.ty "list") rfl T.n_list gW rfl) zf))))) (qw (zP zaj (zH (xG K) (by rfl) T.n_len PySem.boot_len (zc (pv 1) zf)) (Z0 (v:=.int 4) rfl xV ⟨_,rfl⟩) (zT _)))))
    (zm (zE vX))
    zQ) q1.p),?_⟩
  refine⟨_,rfl,_,_,_,_,rfl,.lst hb,Vu,_,rfl,wN ?_⟩;refine⟨_,rfl,bl,_,rfl,.inl (SqL.of hb),_,_,rfl,rfl,_,rfl,?_⟩;rw[aa,decide_eq_false (show ¬ (4:Int)<(zs.length:Int) by omega)];refine wN ?_;refine⟨_,rfl,bl,rfl,⟨_,SqL.of hb⟩,vZ (K:=K) (a:=bl) (xs:=zs.map λz=>V.ref z.1) (λi ys H4=>ys=(bc i true).map V.bl/\Same H H4) ⟨by simp,Same.refl _⟩ (λi ys H4 _ ⟨_,e⟩=>SqL.of (e _ _ hb)) ?_ ?_⟩
  ·rintro j x ys H4 hx ⟨rfl,s4⟩;rw[ak]at hx;obtain⟨z,hzj,e⟩:=aM.mp hx;subst e;have hzm:=aJ hzj;have hj:j<zs.length:=(aO.mp hzj).1;refine⟨by rw[aa,fG];exact aA (show j<5 by omega) (by decide),?_⟩;unfold Vp;dsimp only;rw[if_pos rfl];refine⟨_,rfl,_,rfl,b,z.1,z.2,rfl,s4 _ _ (hz z hzm),g.st _ (bh.mpr ⟨z,hzm,rfl⟩),λH5 s5=>⟨?_,s4.trans s5⟩⟩;rw[mJ];simp
  ·rintro ys H4 ⟨rfl,s4⟩ Dd hD;refine⟨Dd,_,rfl,SqL.of zq,?_⟩;rw[zej];have s5:=s4.trans (zy hD (o:=.lst ((bc (zs.map λz=>V.ref z.1).length true).map V.bl)));refine⟨_,rfl,qd ?_⟩;exact⟨_,rfl,bl,zs,rfl,s5 _ _ hb,λz hzm=>s5 _ _ (hz z hzm),h4,g.up,λH6 s6=>kk H6 (s5.trans s6)⟩
def JM:Sp:=λvs H Q _=>∃r b bl zs,vs=[.ref r]/\RuleAt H r b bl zs/\GoodRule b (zs.map (·.2))/\∀H',Same H H'->Q (.bl true) H'
theorem zgh:zG ["thing"] ["thing"] (zp We):={}
theorem zfZ(D:Df K mg "is_rule" We Aa f fd)(WL:Df K mg "is_base" Vy Aa f1 fd1)(VB:FnOk P w K mg base CX0 2 f1 fd1 Aa Jq)(Wb:Df K mg "is_bad_list" qX Ad f2 fd2)(Ui:FnOk P w K mg base CX0 5 f2 fd2 Ad Qp)(T:Blt mg):
  FnOk P w K mg base CX0 6 f fd Aa JM:=by
 refine D.fn.ok zgh (λvs H Q E h=>?_) (λcdv A outer s H vs Q E hr h=>?_)
 ·obtain⟨r,b,bl,zs,rfl,_⟩:=h;rfl
 ·obtain⟨r,b,bl,zs,rfl,R,g,kk⟩:=h;have b2:=g.b2;have b16:=g.b16;refine xu ?_;intro XX;let q1:Sq XX ((zj We).drop 1):=⟨_,zm (zE (Ww (zK WL VB (hr.mono (by decide)) (zc (zX (yP K) (pv 0) zu (λ_ _=>rfl)) zf)) (Xr (zK Wb Ui (hr.mono (by decide)) (zc (zX (yP K) (pv 0) zu (λ_ _=>rfl)) (zc (zX (yP K) (pv 0) zu (λ_ _=>rfl)) zf))))))⟩
  refine⟨_,(zg (yx (PW.pt (Z6 (wB (yX (zH (zhp K) (by rfl) T.n_isinstance iJ (zc (pv 0) (zc (QW (v:=.ty "tuple") rfl T.n_tuple boot_tuple rfl) zf))))) (qw (zP Va (zH (xG K) (by rfl) T.n_len PySem.boot_len (zc (pv 0) zf)) zu (zT _)))))
    (zm (zE vX))
    zQ) q1.p),?_⟩
  refine⟨_,rfl,_,_,_,_,rfl,.tup R.tu,zbv,_,rfl,wN ?_⟩;refine⟨_,rfl,r,_,rfl,.inr (SqT.of R.tu),rfl,_,rfl,?_⟩;refine wN ?_;refine⟨_,rfl,r,_,_,V.int b,rfl,rfl,SqT.of R.tu,rfl,(b:Int),rfl,?_⟩;rw[decide_eq_true (show (2:Int)<=b/\(b:Int)<=16 from ⟨by omega,by omega⟩)];refine⟨_,rfl,qd ?_⟩;refine⟨_,rfl,r,_,_,V.int b,rfl,rfl,SqT.of R.tu,rfl,_,rfl,r,_,_,V.ref bl,rfl,rfl,SqT.of R.tu,rfl,b,bl,zs,rfl,R.li,R.st,g,kk⟩
def yF:Sp:=λvs H Q _=>∃r b bl zs,vs=[.ref r]/\RuleAt H r b bl zs/\GoodRule b (zs.map (·.2))/\∀H',Same H H'->Q .non H'
theorem zdg:zG ["thing"] ["thing"] (zp yD):={}
theorem zds(D:Df K mg "check_rule" yD Aa f fd)(Wu:Df K mg "is_rule" We Aa f1 fd1)(V8:FnOk P w K mg base CX0 6 f1 fd1 Aa JM):FnOk P w K mg base CX0 7 f fd Aa yF:=by
 refine D.fn.ok zdg (λvs H Q E h=>?_) (λcdv A outer s H vs Q E hr h=>?_)
 ·obtain⟨r,b,bl,zs,rfl,_⟩:=h;rfl
 ·obtain⟨r,b,bl,zs,rfl,R,g,kk⟩:=h;refine⟨_,(zm (yx (wB (yX (zK Wu V8 (hr.mono (by decide)) (zc (pv 0) zf))))
    (zm uf)
    zQ)),?_⟩
  exact⟨_,rfl,r,b,bl,zs,rfl,R,g,λH1 s1=>⟨_,rfl,wN (kk H1 s1)⟩⟩
theorem zjh(xs:List V)(k m:Nat):UG xs (some (k:Int)) (some (m:Int))=(xs.drop k).take (m-k):=by
 unfold UG;rw[HT.Vc,HT.Vc];by_cases hk:k<=xs.length
 ·rw[dH hk];by_cases hm:m<=xs.length
  ·rw[dH hm]
  ·rw[fK (by omega),bQ (by rw[cA];omega),bQ (by rw[cA];omega)]
 ·rw[cN (show xs.length<=k by omega),fK (show xs.length<=k by omega),cN (au _)];simp
def Ys:Sp:=λvs H Q _=>∃sa fa st fs,vs=[.ref sa,.ref fa]/\H sa=some (.lst (st.map V.int))/\H fa=some (.lst (fs.map V.int))/\st≠[]/\st.length<=1000/\fs.length<=1000/\∀H',Same H H'->Q (.bl (Zr st fs)) H'
theorem V7:zG ["stretch","figures","size"] ["stretch","figures"] (zp vm):={}
theorem VH(D:Df K mg "stands_within" vm Ay f fd)(T:Blt mg):FnOk P w K mg base CX0 1 f fd Ay Ys:=by
 refine D.fn.ok V7 (λvs H Q E h=>?_) (λcdv A outer s H vs Q E hr h=>?_)
 ·obtain⟨sa,fa,st,fs,rfl,_⟩:=h;rfl
 ·obtain⟨sa,fa,st,fs,rfl,hs,hf,ne,hl1,hl2,kk⟩:=h;have HU:=Vv hr;refine xu ?_;intro XX;let q1:Sq XX ((zj vm).drop 1):=⟨_,zm (zE (zH (zfa K rfl) (by rfl) T.n_any Cd (zc (wO (show CScope (zp vm) _ "k" ["stretch","figures","size"] ["stretch","figures","size"] [0,1,2] from {}) rfl (yM rfl T.n_range (zc (zV xO (zV Zq (zH (xG K) (by rfl) T.n_len PySem.boot_len (zc (pv 1) zf)) (pv 2)) zu) zf)) (λ_ _ _ _=>vU) (λ_ _ _ _=>(ul (U5 K HU) (tX (V1 K) (pv 2) (tK (pv 0)) (tK (zV xO (pv 0) (pv 3)))) (pv 1) (zT _)))) zf)))⟩
  refine⟨_,(zg (zU (i:=2) V7.nd rfl (lE rfl) (zH (xG K) (by rfl) T.n_len PySem.boot_len (zc (pv 0) zf))) q1.p),?_⟩;refine⟨_,rfl,sa,_,rfl,.inl (SqL.of hs),?_⟩;rw[aa];refine⟨_,rfl,fa,_,rfl,.inl (SqL.of hf),_,rfl,_,_,rfl,rfl,_,_,rfl,rfl,_,rfl,?_⟩;rw[aa];let J1:Nat->List V->L2.Hp->Prop:=λi ys H4=>ys=((aD i).map λk=>decide ((fs.drop k).take st.length=st)).map V.bl/\Same H H4;refine⟨by omega,by omega,jF (lo:=0) (n:=((fs.length:Int)-st.length+1).toNat) J1 ⟨by simp,Same.refl _⟩ ?_ ?_⟩
  ·rintro i ys H4 hi ⟨rfl,s4⟩;refine⟨by rw[aa,aa,aX];exact aA (show i<2000 by omega) (by decide),?_⟩;unfold Vp;dsimp only;rw[if_pos rfl];refine⟨_,rfl,_,rfl,_,rfl,_,rfl,_,rfl,_,_,rfl,rfl,_,rfl,fa,_,rfl,SqL.of (s4 _ _ hf),λp hp=>?_⟩;have e1:UG (fs.map V.int) (some (0+(i:Int))) (some (0+(i:Int)+(st.length:Int)))=((fs.drop i).take st.length).map V.int:=by
    have e:(0+(i:Int)+(st.length:Int))=((i+st.length:Nat):Int):=by omega
    rw[e,cM,zjh,lu,oK,gU]
   rw[e1];refine⟨_,rfl,xT ((fs.drop i).take st.length),xT st,TrAt.ints (a:=p) (SqL.of zq),TrAt.ints (a:=sa) (SqL.of (zy hp _ _ (s4 _ _ hs))),(by rw[Yz];decide),?_,s4.trans (zy hp)⟩;rw[cL,aF,aF];have e2:=j0 ((fs.drop i).take st.length) st;show _=_++[V.bl (decide ((fs.drop i).take st.length=st))]
   rw[<-e2];rfl
  ·rintro ys H4 ⟨rfl,s4⟩ Dd hD;refine⟨Dd,_,rfl,SqL.of zq,?_⟩;have q:=kk _ (s4.trans (zy hD (o:=.lst (((aD ((fs.length:Int)-st.length+1).toNat).map λk=>decide ((fs.drop k).take st.length=st)).map V.bl))));rw[Ju ne]at q;rw[kE];exact q
def Z4:Sp:=λvs H Q _=>∃(bl fa:aq) (zs:ZB) (fs:List Int),vs=[.ref bl,.ref fa]/\H bl=some (.lst (zs.map λz=>V.ref z.1))/\(∀z∈zs,H z.1=some (.lst (z.2.map V.int)))/\H fa=some (.lst (fs.map V.int))/\zs.length<=100/\fs.length<=1000/\(∀z∈zs,z.2≠[]/\z.2.length<=1000)/\∀H',Same H H'->Q (.bl (lacks (zs.map (·.2)) fs)) H'
theorem zeA:zG ["bad","figures"] ["bad","figures"] (zp qj):={}
theorem zeB(D:Df K mg "lacks_all" qj Ag f fd)(wA:Df K mg "stands_within" vm Ay f1 fd1)(T:Blt mg):FnOk P w K mg base CX0 2 f fd Ag Z4:=by
 have WY:FnOk P w K mg base CX0 1 f1 fd1 Ay Ys:=VH wA T;refine D.fn.ok zeA (λvs H Q E h=>?_) (λcdv A outer s H vs Q E hr h=>?_)
 ·obtain⟨bl,fa,zs,fs,rfl,_⟩:=h;rfl
 ·obtain⟨bl,fa,zs,fs,rfl,hb,hz,hf,hl1,hl2,ne,kk⟩:=h;refine⟨_,(zm (zE (zjL (zH (zfa K rfl) (by rfl) T.n_any Cd (zc (wO (show CScope (zp qj) _ "stretch" ["bad","figures"] ["figures"] [1] from {}) rfl (jh K (pv 0)) (λ_ _ _ _=>vU) (λ_ _ _ _=>(zK wA WY (hr.mono (by decide)) (zc (pv 0) (zc (pv 1) zf))))) zf))))),?_⟩;let J2:Nat->List V->L2.Hp->Prop:=λi ys H4=>ys=((zs.take i).map λz=>Zr z.2 fs).map V.bl/\Same H H4;refine⟨_,rfl,bl,rfl,⟨_,SqL.of hb⟩,vZ (K:=K) (a:=bl) (xs:=zs.map λz=>V.ref z.1) J2 ⟨by simp,Same.refl _⟩ (λi ys H4 _ ⟨_,e⟩=>SqL.of (e _ _ hb)) ?_ ?_⟩
  ·rintro j x ys H4 hx ⟨rfl,s4⟩;rw[ak]at hx;obtain⟨z,hzj,e⟩:=aM.mp hx;subst e;have hzm:=aJ hzj;refine⟨?_,?_⟩
   ·rw[aa,aa,bM];exact bw (ao (kO _ _) hl1) (by decide)
   unfold Vp;dsimp only;rw[if_pos rfl];refine⟨_,rfl,_,rfl,z.1,fa,z.2,fs,rfl,s4 _ _ (hz z hzm),s4 _ _ hf,(ne z hzm).1,(ne z hzm).2,hl2,λH5 s5=>⟨?_,s4.trans s5⟩⟩;rw[cO,hzj];simp
  ·rintro ys H4 ⟨rfl,s4⟩ Dd hD;refine⟨Dd,_,rfl,SqL.of zq,_,rfl,?_⟩;have q:=kk _ (s4.trans (zy hD (o:=.lst (((zs.take (zs.map λz=>V.ref z.1).length).map λz=>Zr z.2 fs).map V.bl))));rw[aa,cj]at q ⊢;unfold lacks at q;rw[kE]at q ⊢;exact q
def WQ:Sp:=λvs H Q _=>∃(r:aq) (b:Nat) (bl:aq) (zs:ZB) (n:Nat),vs=[.ref r,.int n]/\RuleAt H r b bl zs/\GoodRule b (zs.map (·.2))/\n<2^900/\∀H',Same H H'->Q (.bl (lacks (zs.map (·.2)) (yJ b n))) H'
theorem zgS:zG ["rule","n"] ["rule","n"] (zp Yo):={}
theorem zgn(D:Df K mg "is_good" Yo Ab f fd)(zJ:Df K mg "check_rule" yD Aa f1 fd1)(zL:FnOk P w K mg base CX0 7 f1 fd1 Aa yF)(vD:Df K mg "lacks_all" qj Ag f2 fd2)(ud:FnOk P w K mg base CX0 2 f2 fd2 Ag Z4)(ye:Df K mg "figures_of" wG Ae f3 fd3)(yh:FnOk P w K mg base CX0 4 f3 fd3 Ae wD)(T:Blt mg):
  FnOk P w K mg base CX0 8 f fd Ab WQ:=by
 refine D.fn.ok zgS (λvs H Q E h=>?_) (λcdv A outer s H vs Q E hr h=>?_)
 ·obtain⟨r,b,bl,zs,n,rfl,_⟩:=h;rfl
 ·obtain⟨r,b,bl,zs,n,rfl,R,g,hn,kk⟩:=h;refine xu ?_;intro XX;let q1:Sq XX ((zj Yo).drop 1):=⟨_,zm (zE (zK vD ud (hr.mono (by decide)) (zc (zX (yP K) (pv 0) zu (λ_ _=>rfl)) (zc (zK ye yh (hr.mono (by decide)) (zc (zX (yP K) (pv 0) zu (λ_ _=>rfl)) (zc (pv 1) zf))) zf))))⟩
  refine⟨_,(zg (yw (zK zJ zL (hr.mono (by decide)) (zc (pv 0) zf))) q1.p),?_⟩;refine⟨_,rfl,r,b,bl,zs,rfl,R,g,λH1 s1=>?_⟩;have R1:=R.same s1;refine⟨_,rfl,r,_,_,V.ref bl,rfl,rfl,SqT.of R1.tu,rfl,?_⟩;refine⟨_,rfl,r,_,_,V.int b,rfl,rfl,SqT.of R1.tu,rfl,_,rfl,b,n,rfl,g.b2,g.b16,hn,λl H2 hl hv s2=>?_⟩;have R2:=R1.same s2;have hfl:=uP g.b2 900 n hn;have h4:zs.length<=4:=by have:=g.len;rwa[aa]at this
  exact⟨bl,l,zs,yJ b n,rfl,R2.li,R2.st,hv,by omega,by omega,λz hz=>⟨(g.st _ (bh.mpr ⟨z,hz,rfl⟩)).ne,ao (g.st _ (bh.mpr ⟨z,hz,rfl⟩)).len (by decide)⟩,λH3 s3=>kk H3 ((s1.trans s2).trans s3)⟩
end
theorem QR(xs:List V)(m:Nat):UG xs none (some (m:Int))=xs.take m:=by
 unfold UG;rw[HT.Vc,HT.Qq,gZ,iD];by_cases h:m<=xs.length
 ·rw[dH h]
 ·rw[fK (by omega),bQ (au _),bQ (by omega)]
theorem QM(xs:List V)(m:Nat):UG xs (some (m:Int)) none=xs.drop m:=by
 unfold UG;rw[HT.Vc,HT.Qq];by_cases h:m<=xs.length
 ·rw[dH h,bQ (by rw[cA];omega)]
 ·rw[fK (by omega),cN (au _),cN (by omega)];simp
theorem VG{ls:ZA}:((ls.map xT).any λt=>teq t (xT x))=decide (x∈ls):=by
 rw[bD];simp only[cI,bh,decide_eq_true_eq];constructor
 ·rintro⟨t,⟨l,hl,rfl⟩,e⟩;rw[j0]at e;rw[<-of_decide_eq_true e];exact hl
 ·intro h;exact⟨xT x,⟨x,h,rfl⟩,zb6 _⟩
theorem qe:∀ls:ZA,qg (ls.map xT)<=1
 |[]=>by simp[qg]
 |l::ls=>by rw[bz,qg,Yz];have:=qe ls;omega
theorem TrsAt.lists{K:aN}{H:Hp}:∀{zs:ZB},(∀z∈zs,H z.1=some (.lst (z.2.map V.int)))->TrsAt K H ((zs.map (·.2)).map xT) (zs.map λz=>V.ref z.1)
 |[],_=>by rw[dh,dh,TrsAt];rfl
 |z::zs,h=>by
  rw[bz,bz,TrsAt];exact⟨_,_,rfl,TrAt.ints (SqL.of (h z bI)),TrsAt.lists λz hz=>h z (bx _ hz)⟩
section
variable {P:cg} {w:cT} {K:aN} {mg:cG->Option aG} {base:dR}
def Ji:Sp:=λvs H Q _=>∃(bl fa:aq) (zs:ZB) (fs:List Int),vs=[.ref bl,.ref fa]/\H bl=some (.lst (zs.map λz=>V.ref z.1))/\(∀z∈zs,H z.1=some (.lst (z.2.map V.int)))/\H fa=some (.lst (fs.map V.int))/\zs.length<=100/\∀H',Same H H'->Q (.bl (Xq (zs.map (·.2)) fs)) H'
theorem zdb:zG ["bad","figures"] ["bad","figures"] (zp Z8):={}
theorem zdm(D:Df K mg "begins_one" Z8 Ag f fd)(T:Blt mg):FnOk P w K mg base CX0 1 f fd Ag Ji:=by
 refine D.fn.ok zdb (λvs H Q E h=>?_) (λcdv A outer s H vs Q E hr h=>?_)
 ·obtain⟨bl,fa,zs,fs,rfl,_⟩:=h;rfl
 ·obtain⟨bl,fa,zs,fs,rfl,hb,hz,hf,hl1,kk⟩:=h;have HU:=Vv hr;refine⟨_,(zm (zE (zH (zfa K rfl) (by rfl) T.n_any Cd (zc (wO (show CScope (zp Z8) _ "stretch" ["bad","figures"] ["figures"] [1] from {}) rfl (jh K (pv 0)) (λ_ _ _ _=>vU) (λ_ _ _ _=>(ul (U5 K HU) (tX (V1 K) (pv 0) YW (tK (zH (xG K) (by rfl) T.n_len PySem.boot_len (zc (pv 1) zf)))) (pv 1) (zT _)))) zf)))),?_⟩;refine⟨_,rfl,bl,rfl,⟨_,SqL.of hb⟩,vZ (K:=K) (a:=bl) (xs:=zs.map λz=>V.ref z.1) (λi ys H4=>ys=((zs.take i).map λz=>decide (z.2.take fs.length=fs)).map V.bl/\Same H H4) ⟨by simp,Same.refl _⟩ (λi ys H4 _ ⟨_,e⟩=>SqL.of (e _ _ hb)) ?_ ?_⟩
  ·rintro j x ys H4 hx ⟨rfl,s4⟩;rw[ak]at hx;obtain⟨z,hzj,e⟩:=aM.mp hx;subst e;have hzm:=aJ hzj;refine⟨?_,?_⟩
   ·rw[aa,aa,bM];exact bw (ao (kO _ _) hl1) (by decide)
   unfold Vp;dsimp only;rw[if_pos rfl];refine⟨_,rfl,_,rfl,fa,_,rfl,.inl (SqL.of (s4 _ _ hf)),_,rfl,z.1,_,rfl,SqL.of (s4 _ _ (hz z hzm)),λp hp=>?_⟩;rw[aa,QR,<-lu];refine⟨_,rfl,xT (z.2.take fs.length),xT fs,TrAt.ints (a:=p) (SqL.of zq),TrAt.ints (a:=fa) (SqL.of (zy hp _ _ (s4 _ _ hf))),(by rw[Yz];decide),?_,s4.trans (zy hp)⟩;rw[cO,hzj];have e2:=j0 (z.2.take fs.length) fs;show _++[V.bl (teq _ _)]=_;rw[e2];simp
  ·rintro ys H4 ⟨rfl,s4⟩ Dd hD;refine⟨Dd,_,rfl,SqL.of zq,?_⟩;have q:=kk _ (s4.trans (zy hD (o:=.lst (((zs.take (zs.map λz=>V.ref z.1).length).map λz=>decide (z.2.take fs.length=fs)).map V.bl))));rw[aa,cj]at q ⊢;unfold Xq at q;rw[kE]at q ⊢;exact q
def StandV(ls:ZA)(fs:List Int)(H H':Hp)(v:V):Prop:=(lacks ls fs=false/\v=.non)\/(lacks ls fs=true/\∃l,v=.ref l/\H l=none/\H' l=some (.lst ((zY ls fs).map V.int)))
def jT:Sp:=λvs H Q _=>∃(bl fa:aq) (zs:ZB) (fs:List Int),vs=[.ref bl,.ref fa]/\H bl=some (.lst (zs.map λz=>V.ref z.1))/\(∀z∈zs,H z.1=some (.lst (z.2.map V.int)))/\H fa=some (.lst (fs.map V.int))/\zs.length<=100/\fs.length<=1000/\(∀z∈zs,z.2≠[]/\z.2.length<=1000) /\
 ∀v H',StandV (zs.map (·.2)) fs H H' v->Same H H'->Q v H'
theorem V3:zG ["bad","figures","start"] ["bad","figures"] (zp vg):={}
theorem za3(D:Df K mg "longest_stand" vg Ag f fd)(vD:Df K mg "lacks_all" qj Ag f1 fd1)(ud:FnOk P w K mg base CX0 2 f1 fd1 Ag Z4)(W5:Df K mg "begins_one" Z8 Ag f2 fd2)(T:Blt mg):FnOk P w K mg base CX0 3 f fd Ag jT:=by
 have zfu:FnOk P w K mg base CX0 1 f2 fd2 Ag Ji:=zdm W5 T;refine D.fn.ok V3 (λvs H Q E h=>?_) (λcdv A outer s H vs Q E hr h=>?_)
 ·obtain⟨bl,fa,zs,fs,rfl,_⟩:=h;rfl
 ·obtain⟨bl,fa,zs,fs,rfl,hb,hz,hf,hl1,hl2,ne,kk⟩:=h;refine xu ?_;intro XX;let q1:Sq XX ((zj vg).drop 2):=⟨_,zm (zE (yR zf))⟩
  let q2:Sq XX ((zj vg).drop 1):=⟨_,zg (wR bj rfl (yM rfl T.n_range (zc (zH (xG K) (by rfl) T.n_len PySem.boot_len (zc (pv 1) zf)) zf)) (yV (i:=2) V3.nd rfl (aW rfl))
    (zm (yx (yX (zK W5 zfu (hr.mono (by decide)) (zc (pv 0) (zc (tX (V1 K) (pv 1) (tK (pv 2)) YW) zf))))
     (zm (zE (tX (V1 K) (pv 1) (tK (pv 2)) YW)))
     zQ))) q1.p⟩
  refine⟨_,(zg (yx (wB (yX (zK vD ud (hr.mono (by decide)) (zc (pv 0) (zc (pv 1) zf)))))
    (zm (zE uF))
    zQ) q2.p),?_⟩
  refine⟨_,rfl,_,rfl,bl,fa,zs,fs,rfl,hb,hz,hf,hl1,hl2,ne,λH1 s1=>⟨_,rfl,?_⟩⟩;cases hL:lacks (zs.map (·.2)) fs with
  |false=>exact qd (kk _ _ (.inl ⟨hL,rfl⟩) s1)
  |true=>
   refine wN ?_;refine⟨_,rfl,fa,_,rfl,.inl (SqL.of (s1 _ _ hf)),(((fs.map V.int).length:Nat):Int),rfl,by rw[aa];omega,by rw[aa];omega,jL (lo:=0) (n:=(((fs.map V.int).length:Nat):Int).toNat) (λi Z H2=>∃v1:Option V,Z=[some (.ref bl),some (.ref fa),v1]/\Same H H2/\∀k,k<i->Xq (zs.map (·.2)) (fs.drop k)=false) ⟨none,rfl,s1,λk hk=>by omega⟩ ?_ ?_⟩
   ·rintro i Z H2 hi ⟨v1,rfl,s2,hno⟩;have hi':i<fs.length:=by rw[aa]at hi;omega
    refine⟨_,rfl,_,rfl,_,rfl,_,rfl,fa,_,rfl,SqL.of (s2 _ _ hf),λp hp=>?_⟩;rw[cM,QM,<-oK];have t:=s2.trans (zy hp (o:=.lst ((fs.drop i).map V.int)));refine⟨bl,p,zs,fs.drop i,rfl,t _ _ hb,λz hzm=>t _ _ (hz z hzm),zq,hl1,λH3 s3=>⟨_,rfl,?_⟩⟩;have t3:=t.trans s3;cases hB:Xq (zs.map (·.2)) (fs.drop i) with
    |true=>
     refine qd ⟨_,rfl,_,rfl,_,rfl,fa,_,rfl,SqL.of (t3 _ _ hf),λq hq=>?_⟩;rw[QM,<-oK];refine kk _ _ (.inr ⟨hL,q,rfl,t3.free hq,?_⟩) (t3.trans (zy hq));rw[zq,zfx (by omega) hno hB]
    |false=>
     refine wN ⟨_,rfl,t3,λk hk=>?_⟩;by_cases e:k<i
     ·exact hno k e
     ·have:k=i:=by omega
      rw[this];exact hB
   ·rintro Z H2 ⟨v1,rfl,s2,hno⟩;refine⟨(by decide:0<=aZ),λq hq=>kk _ _ (.inr ⟨hL,q,rfl,s2.free hq,?_⟩) (s2.trans (zy hq))⟩;rw[zq,zbX (λk hk=>hno k (by rw[aa];omega))];rfl
def Zd:Sp:=λvs H Q _=>∃r b bl zs fa fs,vs=[.ref r,.ref fa]/\RuleAt H r b bl zs/\GoodRule b (zs.map (·.2))/\H fa=some (.lst (fs.map V.int))/\fs.length<=1000/\(∀x∈fs,0<=x/\x<(b:Int)) /\
 ∀v H',StandV (zs.map (·.2)) fs H H' v->Same H H'->Q v H'
theorem zbs:zG ["rule","figures"] ["rule","figures"] (zp uB):={}
theorem StandV.back(s:Same H H1)(h:StandV ls fs H1 H' v):StandV ls fs H H' v:=by
 rcases h with h | ⟨a,l,b,c,d⟩
 ·exact .inl h
 ·exact .inr ⟨a,l,b,s.free c,d⟩
theorem zbw(D:Df K mg "stand_behind" uB Ak f fd)(zJ:Df K mg "check_rule" yD Aa f1 fd1)(zL:FnOk P w K mg base CX0 7 f1 fd1 Aa yF)(xU:Df K mg "are_figures" uv Ad f2 fd2)(wH:FnOk P w K mg base CX0 3 f2 fd2 Ad jl)(wy:Df K mg "longest_stand" vg Ag f3 fd3)(wX:FnOk P w K mg base CX0 3 f3 fd3 Ag jT)(T:Blt mg):
  FnOk P w K mg base CX0 8 f fd Ak Zd:=by
 refine D.fn.ok zbs (λvs H Q E h=>?_) (λcdv A outer s H vs Q E hr h=>?_)
 ·obtain⟨r,b,bl,zs,fa,fs,rfl,_⟩:=h;rfl
 ·obtain⟨r,b,bl,zs,fa,fs,rfl,R,g,hf,hl,hfig,kk⟩:=h;have h4:zs.length<=4:=by have:=g.len;rwa[aa]at this
  refine xu ?_;intro XX;let q1:Sq XX ((zj uB).drop 2):=⟨_,zm (zE (zK wy wX (hr.mono (by decide)) (zc (zX (yP K) (pv 0) zu (λ_ _=>rfl)) (zc (pv 1) zf))))⟩
  let q2:Sq XX ((zj uB).drop 1):=⟨_,zg (yx (wB (yX (zK xU wH (hr.mono (by decide)) (zc (zX (yP K) (pv 0) zu (λ_ _=>rfl)) (zc (pv 1) zf)))))
    (zm uf)
    zQ) q1.p⟩
  refine⟨_,(zg (yw (zK zJ zL (hr.mono (by decide)) (zc (pv 0) zf))) q2.p),?_⟩;refine⟨_,rfl,r,b,bl,zs,rfl,R,g,λH1 s1=>?_⟩;have R1:=R.same s1;refine⟨_,rfl,r,_,_,V.int b,rfl,rfl,SqT.of R1.tu,rfl,_,rfl,(b:Int),fa,fs,rfl,s1 _ _ hf,hl,λH2 s2=>⟨_,rfl,?_⟩⟩;rw[zaR hfig];refine wN ?_;have R2:=R1.same s2;refine⟨_,rfl,r,_,_,V.ref bl,rfl,rfl,SqT.of R2.tu,rfl,_,rfl,bl,fa,zs,fs,rfl,R2.li,R2.st,(s1.trans s2) _ _ hf,by omega,hl,λz hz=>⟨(g.st _ (bh.mpr ⟨z,hz,rfl⟩)).ne,ao (g.st _ (bh.mpr ⟨z,hz,rfl⟩)).len (by decide)⟩,λv H3 sv s3=>?_⟩;exact kk v H3 (sv.back (s1.trans s2)) ((s1.trans s2).trans s3)
end
section
variable {P:cg} {w:cT} {K:aN} {mg:cG->Option aG} {base:dR} {T0:aq}
def lamP:mV:=⟨106,29,106,59⟩
def zkH:lM:=match (zj xF).getLast? with
 |some (.Return (some (.Call _ _ [⟨_,.Lambda _ _ sc _,_⟩] _)) _)=>sc
 |_=>zp xF
theorem zkY:zG ["each"] ["each"] zkH:={}
theorem zjG(s:Same H H')(h:H p=none):Same H (upd H' p o):=λb u e=>by rw[zA (zF e h)];exact s b u e
def SameL(T:aq)(H H':Hp):Prop:=∀b u,b≠T->H b=some u->H' b=some u
abbrev LT(T:aq)(H:Hp):Prop:=zaw T lamP ((("stands_of" : cG)++(".<locals>." : cG))++("<lambda>" : cG)) H
theorem SameL.of(s:Same H H'):SameL T H H':=λb u _ e=>s b u e
theorem SameL.trans(a:SameL T H H1)(b:SameL T H1 H2):SameL T H H2:=λc u h e=>b c u h (a c u h e)
theorem LT.same(h:LT T H)(s:Same H H'):LT T H':=by
 rcases h with h | ⟨c,h1,h2⟩
 ·exact .inl (s _ _ h)
 ·exact .inr ⟨c,s _ _ h1,s _ _ h2⟩
theorem LT.lst(h:LT T H)(e:H b=some (.lst xs)):b≠T:=λz=>by
 rw[z]at e;rcases h with h | ⟨c,h,_⟩
 ·rw[h]at e;cases e
 ·rw[h]at e;cases e
theorem LT.tup(h:LT T H)(e:H b=some (.tup xs)):b≠T:=λz=>by
 rw[z]at e;rcases h with h | ⟨c,h,_⟩
 ·rw[h]at e;cases e
 ·rw[h]at e;cases e
theorem LT.none(h:LT T H)(e:H b=none):b≠T:=λz=>by
 rw[z]at e;rcases h with h | ⟨c,h,_⟩
 ·rw[h]at e;cases e
 ·rw[h]at e;cases e
def X8(T:aq):Sp:=λvs H Q _=>∃(bl:aq) (zs:ZB),vs=[.ref bl]/\H bl=some (.lst (zs.map λz=>V.ref z.1))/\(∀z∈zs,H z.1=some (.lst (z.2.map V.int)))/\zs.length<=4/\(∀z∈zs,z.2≠[]/\z.2.length<=4)/\LT T H /\
 ∀(D:aq) (ws:ZB) (H':Hp),H D=none->H' D=some (.lst (ws.map λz=>V.ref z.1))->(∀z∈ws,H z.1=none/\H' z.1=some (.lst (z.2.map V.int))/\z.1≠D)->StandsL (zs.map (·.2)) (ws.map (·.2))->ws.length<=13->SameL T H H'->LT T H'->Q (.ref D) H'
theorem Yi:zG ["bad","found","stretch","size","stand"] ["bad"] (zp xF):={}
theorem zeT(D:Df K mg "stands_of" xF ["bad"] f fd)(hc:fd.code=.ref c)(hcT:Eh K c T0=true)(hBM:base.BuiltinsAt mg T0)(hgT:bZ≠T0)(vD:Df K mg "lacks_all" qj Ag f1 fd1)(ud:FnOk P w K mg base CX0 2 f1 fd1 Ag Z4)(T:Blt mg):
    FnOk P w K mg base CX0 6 f fd ["bad"] (X8 T0):=by
  obtain⟨oc,od,kV,doc,pm,an,cdv,ct,osl,rfl,lk,hcd⟩:=D.fn.ex;obtain rfl:cdv=.ref c:=hc;refine zix lk hcd Yi (λvs H Q E h=>?_) (λA outer s H vs Q E hr h=>?_)
  · obtain⟨bl,zs,rfl,_⟩:=h;rfl
  · obtain⟨bl,zs,rfl,hb,hz,h4,hst,hLT,kk⟩:=h
    have HU:=Vv hr;have lam_body:∀(f' c':aq) (s':aR) (H':Hp) (z:aq×List Int),H' z.1=some (.lst (z.2.map V.int))->∃t,PE (Q8 CX0 P w K mg base ["each"] ((("stands_of" : cG)++(".<locals>." : cG))++("<lambda>" : cG)) zkH f' (.ref c') (A.deeper (lY "stands_of" (zp xF) s.heap.objs.size f (.ref c))).in1.in1 (lY "stands_of" (zp xF) s.heap.objs.size f (.ref c)::outer) s' H' E0)
        (match (zj xF).getLast? with
          |some (.Return (some (.Call _ _ [⟨_,.Lambda _ b _ _,_⟩] _)) _)=>b
          |_=>.Constant .none 0 ⟨0,0,0,0⟩) t /\
        t (start ["each"] [.ref z.1]) H' λv H2=>∃p,v=.ref p/\H' p=none/\H2=upd H' p (.tup [.int z.2.length,.ref z.1]):=by
      intro f' c' s' H' z hz';refine⟨_,(Zi (zc (zH (xG K) (by rfl) T.n_len PySem.boot_len (zc (pv 0) zf)) (zc (pv 0) zf))),?_⟩;refine⟨_,rfl,z.1,_,rfl,.inl (SqL.of hz'),_,rfl,(by show 2<=aZ;decide),λp hp=>⟨p,rfl,hp,?_⟩⟩;rw[aa]
    refine Exists.elim (?key:∃t,PSs (Q8 CX0 P w K mg base ["bad","found","stretch","size","stand"] "stands_of" (zp xF) f (.ref c) A outer s H E).nox (zj xF) t/\t { nx:=λ_ H'=>Q .non H',rt:=Q } (start ["bad","found","stretch","size","stand"] [.ref bl]) H) λt h=>⟨t,h.1.nox,h.2⟩
    refine xu ?_;intro XX;let q1:Sq XX ((zj xF).drop 2):=⟨_,zm (zE (zf3 (k:=1) (pv 1) rfl T.n_sorted (hr.mono (by decide)) rfl rfl rfl hcT hBM hgT zkY (λ_ _ _ _=>rfl) lam_body))⟩
    let q2:Sq XX ((sb (sb (zj xF) 1 true) 0 true).drop 1):=⟨_,zm (yx (PW.pt (zck (zP (Xb K HU) (pv 4) (pv 1) (by with_unfolding_all rfl)) (zal (yX (zK vD ud (hr.mono (by decide)) (zc (pv 0) (zc (pv 4) zf)))))))
            (zm (yw (Vx PySem.F.plainAttrs_list PySem.F.slot_list_append PySem.F.type_list_append qU (pv 1) (zc (pv 4) zf))))
            zQ)⟩
    let q3:Sq XX ((zj xF).drop 1):=⟨_,zg (wR bj rfl (jh K (pv 0)) (yV (i:=2) Yi.nd rfl (aW rfl))
        (zm (wR bj rfl (zaV rfl T.n_range (zc zu (zc (zH (xG K) (by rfl) T.n_len PySem.boot_len (zc (pv 2) zf)) zf))) (yV (i:=3) Yi.nd rfl (aW rfl))
          (zg (zU (i:=4) Yi.nd rfl (aW rfl) (tX (V1 K) (pv 2) YW (tK (pv 3)))) q2.p)))) q1.p⟩
    refine⟨_,(zg (zU (i:=1) Yi.nd rfl (aW rfl) (yR (zc (yR zf) zf))) q3.p),?_⟩;have hls:∀st∈zs.map (·.2),st≠[]/\st.length<=4:=λst h=>by obtain⟨z,hz,rfl⟩:=bh.mp h;exact hst z hz
    refine⟨(by decide:0<=aZ),λe0 he0=>⟨(by show 1<=aZ;decide),λfo hfo=>?_⟩⟩;have hfoH:H fo=none:=(zy he0).free hfo;have nef:e0≠fo:=λz=>by rw[<-z,zq]at hfo;cases hfo
    let Inv1:ZB->(List Int->Prop)->Hp->Prop:=λws M H2=>H2 fo=some (.lst (ws.map λz=>V.ref z.1))/\(∀z∈ws,H z.1=none/\H2 z.1=some (.lst (z.2.map V.int))/\z.1≠fo)/\(ws.map (·.2)).Nodup/\(∀x,x∈ws.map (·.2)↔M x)/\Same H H2;let M1:Nat->List Int->Prop:=λi x=>x=[]\/∃z∈zs.take i,∃k,1<=k/\k<z.2.length/\x=z.2.take k/\lacks (zs.map (·.2)) x=true;let J1:Nat->L2.St->L2.Hp->Prop:=λi Z H2=>Ex4 λ(v2:Option V) (v3:Option V) (v4:Option V) (ws:ZB)=>An3 (Z=[some (.ref bl),some (.ref fo),v2,v3,v4]) (Inv1 ws (M1 i) H2) (ws.length<=1+3*i);refine⟨_,rfl,bl,rfl,⟨_,SqL.of ((zy he0).trans (zy hfo) _ _ hb)⟩,J8 (K:=K) (a:=bl) (xs:=zs.map λz=>V.ref z.1) J1
      ⟨none,none,none,[(e0,[])],rfl,⟨zq,λz hz'=>?_,by simp,λx=>?_,(zy he0).trans (zy hfo)⟩,by simp⟩ (λi Z H2 _ ⟨_,_,_,_,_,⟨_,_,_,_,e⟩,_⟩=>SqL.of (e _ _ hb)) ?_ ?_⟩
    · have e:z=(e0,[]):=by simpa using hz'
      subst e;exact⟨he0,by rw[zA nef,zq];rfl,nef⟩
    · constructor
      · intro hx
        exact .inl (by simpa using hx)
      · rintro (rfl | ⟨z,hz',_⟩)
        · simp
        · simp at hz'
    · rintro i x Z H2 hx ⟨v2,v3,v4,ws,rfl,⟨hF,hW,ndW,hM,sm⟩,hlen⟩
      rw[ak]at hx;obtain⟨z,hzj,e⟩:=aM.mp hx;subst e;have hzm:=aJ hzj;have hi4:i<zs.length:=(aO.mp hzj).1;obtain⟨hne,hz4⟩:=hst z hzm;have hpos:0<z.2.length:=cF.mpr hne;refine⟨_,rfl,z.1,_,rfl,.inl (SqL.of (sm _ _ (hz z hzm))),1,_,rfl,?_,?_⟩
      · rw[aa];omega
      rw[aa];let J2:Nat->L2.St->L2.Hp->Prop:=λj Z H3=>Ex3 λ(v3:Option V) (v4:Option V) (ws:ZB)=>An3 (Z=[some (.ref bl),some (.ref fo),some (.ref z.1),v3,v4]) (Inv1 ws (λx=>M1 i x\/∃k,1<=k/\k<=j/\x=z.2.take k/\lacks (zs.map (·.2)) x=true) H3) (ws.length<=1+3*i+j);refine jL (lo:=1) (n:=((z.2.length:Int)-1).toNat) J2
        ⟨_,_,ws,rfl,⟨hF,hW,ndW,λx=>?_,sm⟩,hlen⟩ ?_ ?_
      · rw[hM]
        constructor
        · exact .inl
        · rintro (h | ⟨k,h1,h2,_⟩)
          · exact h
          · omega
      · rintro j Z H3 hj ⟨v3,v4,ws,rfl,⟨hF,hW,ndW,hM,sm⟩,hlen⟩
        have hj':j+1<z.2.length:=by omega
        refine⟨_,rfl,_,rfl,_,rfl,z.1,_,rfl,SqL.of (sm _ _ (hz z hzm)),λp hp=>?_⟩;rw[show (1:Int)+(j:Int)=((j+1:Nat):Int) by omega,QR,<-lu];have sm2:=sm.trans (zy hp (o:=.lst ((z.2.take (j+1)).map V.int)));have hF2:(upd H3 p (.lst ((z.2.take (j+1)).map V.int))) fo=some (.lst (ws.map λz=>V.ref z.1)):=zy hp _ _ hF;have hW2:∀y∈ws,H y.1=none/\(upd H3 p (.lst ((z.2.take (j+1)).map V.int))) y.1=some (.lst (y.2.map V.int))/\y.1≠fo:=λy hy=>⟨(hW y hy).1,zy hp _ _ (hW y hy).2.1,(hW y hy).2.2⟩
        have npf:p≠fo:=λy=>by rw[y,hF]at hp;cases hp
        have hpH:H p=none:=sm.free hp;generalize hx:z.2.take (j+1)=x at *;have hxl:x.length<=4:=by rw[<-hx,bM];omega
        have stay:(x∈ws.map (·.2)\/lacks (zs.map (·.2)) x=false)->∀y,y∈ws.map (·.2)↔(M1 i y\/∃k,1<=k/\k<=j+1/\y=z.2.take k/\lacks (zs.map (·.2)) y=true):=λhor y=>by
          constructor
          · intro hy
            rcases (hM y).mp hy with h | ⟨k,h1,h2,h3⟩
            · exact .inl h
            · exact .inr ⟨k,h1,by omega,h3⟩
          · rintro (h | ⟨k,h1,h2,h3,h4⟩)
            · exact (hM y).mpr (.inl h)
            · by_cases hk:k<=j
              · exact (hM y).mpr (.inr ⟨k,h1,hk,h3,h4⟩)
              · have:k=j+1:=by omega
                rw[this,hx]at h3;rw[h3]at h4 ⊢;rcases hor with h | h
                · exact h
                · rw[h]at h4;cases h4
        refine⟨_,rfl,_,rfl,fo,_,(ws.map (·.2)).map xT,xT x,rfl,SqL.of hF2,TrsAt.lists (λy hy=>(hW2 y hy).2.1),TrAt.ints (a:=p) (SqL.of zq),ao (qe _) (by decide),_,rfl,?_⟩;rw[if_pos rfl,VG];by_cases hin:x∈ws.map (·.2)
        · rw[decide_eq_true hin]
          refine wN ?_;exact wN ⟨_,_,ws,rfl,⟨hF2,hW2,ndW,stay (.inl hin),sm2⟩,by omega⟩
        · rw[decide_eq_false hin]
          refine qd ?_;refine⟨_,rfl,_,rfl,bl,p,zs,x,rfl,sm2 _ _ hb,λy hy=>sm2 _ _ (hz y hy),zq,by omega,by omega,λy hy=>⟨(hst y hy).1,ao (hst y hy).2 (by decide)⟩,λH4 s4=>⟨_,rfl,?_⟩⟩;have sm4:=sm2.trans s4;have hF4:=s4 _ _ hF2;have hW4:∀y∈ws,H y.1=none/\H4 y.1=some (.lst (y.2.map V.int))/\y.1≠fo:=λy hy=>⟨(hW2 y hy).1,s4 _ _ (hW2 y hy).2.1,(hW2 y hy).2.2⟩
          have hp4:=s4 _ _ (zq (H:=H3) (a:=p) (o:=.lst (x.map V.int)));cases hLk:lacks (zs.map (·.2)) x with
          |false=>exact wN ⟨_,_,ws,rfl,⟨hF4,hW4,ndW,stay (.inr hLk),sm4⟩,by omega⟩
          |true=>
            refine qd ⟨_,rfl,.inl ⟨rfl,_,SqL.of hF4⟩,_,rfl,fo,_,_,rfl,rfl,hF4,by rw[aa];exact bw (show ws.length<=100 by omega) (by decide),?_⟩;refine⟨_,_,ws++[(p,x)],rfl,⟨by rw[zq,aF];rfl,λy hy=>?_,?_,λy=>?_,zjG sm4 hfoH⟩,by rw[aB,aU];omega⟩
            · rcases bf.mp hy with hy | hy
              · obtain⟨a1,a2,a3⟩:=hW4 y hy
                exact⟨a1,by rw[zA a3];exact a2,a3⟩
              · rw[cJ.mp hy]
                exact⟨hpH,by rw[zA npf];exact hp4,npf⟩
            · rw[aF]
              refine fP.mpr ⟨ndW,by simp,λa ha b hb'=>?_⟩;have e:b=x:=by simpa using hb'
              rw[e];exact λq=>hin (q▸ha)
            · rw[aF,bf]
              constructor
              · rintro (h | h)
                · rcases (hM y).mp h with h | ⟨k,h1,h2,h3⟩
                  · exact .inl h
                  · exact .inr ⟨k,h1,by omega,h3⟩
                · have e:y=x:=by simpa using h
                  rw[e];exact .inr ⟨j+1,by omega,au _,hx.symm,hLk⟩
              · rintro (h | ⟨k,h1,h2,h3,h4⟩)
                · exact .inl ((hM y).mpr (.inl h))
                · by_cases hk:k<=j
                  · exact .inl ((hM y).mpr (.inr ⟨k,h1,hk,h3,h4⟩))
                  · have:k=j+1:=by omega
                    rw[this,hx]at h3;exact .inr (by simp[h3])
      · rintro Z H3 ⟨v3,v4,ws,rfl,⟨hF,hW,ndW,hM,sm⟩,hlen⟩
        refine⟨_,_,_,ws,rfl,⟨hF,hW,ndW,λx=>?_,sm⟩,by omega⟩;rw[hM];constructor
        · rintro ((h | ⟨y,hy,h⟩) | ⟨k,h1,h2,h3⟩)
          · exact .inl h
          · exact .inr ⟨y,by rw[cO];exact dB _ hy,h⟩
          · exact .inr ⟨z,by rw[cO,hzj];simp,k,h1,by omega,h3⟩
        · rintro (h | ⟨y,hy,k,h1,h2,h3⟩)
          · exact .inl (.inl h)
          · rw[cO,hzj]at hy
            rcases bf.mp hy with hy | hy
            · exact .inl (.inr ⟨y,hy,k,h1,h2,h3⟩)
            · have e:y=z:=by simpa using hy
              rw[e]at h2 h3;exact .inr ⟨k,h1,by omega,h3⟩
    · rintro Z H2 ⟨v2,v3,v4,ws,rfl,⟨hF,hW,ndW,hM,sm⟩,hlen⟩
      rw[aa]at hM hlen;refine⟨_,rfl,fo,ws,rfl,hF,λz hz'=>(hW z hz').2.1,ndW,by omega,hLT.same sm,λD ws' H3 hD hD3 up lt pm pw=>?_⟩;have lt2:=hLT.same sm;have inw:∀z∈ws',z∈ws:=λz hz'=>pm.mem_iff.mp hz';refine kk D ws' _ (sm.free hD) zq (λz hz'=>?_) ⟨λx=>?_,by rw[dO];exact pw⟩ (by rw[pm.length_eq];omega) (λb u hb' e=>?_) ?_
      · obtain⟨a1,a2,a3⟩:=hW z (inw z hz')
        have n1:z.1≠D:=zF a2 hD;exact⟨a1,by rw[zA n1];exact up _ _ (lt2.lst a2) a2,n1⟩
      · have e:x∈ws'.map (·.2)↔x∈ws.map (·.2):=(pm.map (·.2)).mem_iff
        rw[e,hM];show (x=[]\/_)↔(x=[]\/_);constructor
        · rintro (h | ⟨z,hz',k,h1,h2,h3,h4⟩)
          · exact .inl h
          · rw[cj]at hz'
            exact .inr ⟨z.2,bh.mpr ⟨z,hz',rfl⟩,k,h1,h2,h3,h4⟩
        · rintro (h | ⟨st,hst',k,h1,h2,h3,h4⟩)
          · exact .inl h
          · obtain⟨z,hz',rfl⟩:=bh.mp hst'
            exact .inr ⟨z,by rw[cj];exact hz',k,h1,h2,h3,h4⟩
      · have q:=up b u hb' (sm _ _ e)
        rw[zA (zF q hD3)];exact q
      · exact LT.same (show LT T0 H3 from lt) (zy hD3)
theorem SameL.free(s:SameL T H H')(lt:LT T H')(h:H' l=none):H l=none:=by
 cases e:H l with
 |none=>rfl
 |some u=>
  have:=s l u (lt.none h) e;rw[h]at this;cases this
theorem RuleAt.sameL(R:RuleAt H r b bl zs)(lt:LT T H)(s:SameL T H H'):RuleAt H' r b bl zs :=
 ⟨s _ _ (lt.tup R.tu) R.tu,s _ _ (lt.lst R.li) R.li,λz hz=>s _ _ (lt.lst (R.st z hz)) (R.st z hz)⟩
theorem zfD(g:GoodRule b ls)(h:zfY ls x):x.length<=3/\∀f∈x,0<=f/\f<(b:Int):=by
 refine⟨zcN (λst h=>(g.st st h).len) h,λf hf=>?_⟩;rcases h with rfl | ⟨st,hst,k,_,_,rfl,_⟩
 ·cases hf
 ·exact (g.st st hst).fig f (mH hf)
theorem zcX{ls:ZA}(h:x∈ls):((ls.map xT).any λt=>teq t (xT x))=true:=by rw[VG,decide_eq_true h]
def zba(T:aq):Sp:=λvs H Q _=>∃r b bl zs sa xs,vs=[.ref r,.ref sa]/\RuleAt H r b bl zs/\GoodRule b (zs.map (·.2))/\H sa=some (.lst (xs.map V.int))/\zfY (zs.map (·.2)) xs/\LT T H/\∀H',SameL T H H'->LT T H'->Q (.bl true) H'
theorem zfn:zG ["rule","thing"] ["rule","thing"] (zp Ux):={}
theorem zfI(D:Df K mg "is_stand" Ux A8 f fd)(xU:Df K mg "are_figures" uv Ad f1 fd1)(wH:FnOk P w K mg base CX0 3 f1 fd1 Ad jl)(tE:Df K mg "stands_of" xF ["bad"] f2 fd2)(qK:FnOk P w K mg base CX0 6 f2 fd2 ["bad"] (X8 T0))(T:Blt mg):FnOk P w K mg base CX0 7 f fd A8 (zba T0):=by
 refine D.fn.ok zfn (λvs H Q E h=>?_) (λcdv A outer s H vs Q E hr h=>?_)
 ·obtain⟨r,b,bl,zs,sa,xs,rfl,_⟩:=h;rfl
 ·obtain⟨r,b,bl,zs,sa,xs,rfl,R,g,hs,hst,lt,kk⟩:=h;have HU:=Vv hr;obtain⟨hl3,hfig⟩:=zfD g hst;have h4:zs.length<=4:=by have:=g.len;rwa[aa]at this
  refine⟨_,(zm (zE (Ww (zK xU wH (hr.mono (by decide)) (zc (zX (yP K) (pv 0) zu (λ_ _=>rfl)) (zc (pv 1) zf))) (Xr (ul (zhb K HU) (pv 1) (zK tE qK (hr.mono (by decide)) (zc (zX (yP K) (pv 0) zu (λ_ _=>rfl)) zf)) (by with_unfolding_all rfl)))))),?_⟩;refine⟨_,rfl,r,_,_,V.int b,rfl,rfl,SqT.of R.tu,rfl,_,rfl,(b:Int),sa,xs,rfl,hs,by omega,λH1 s1=>?_⟩;rw[zaR hfig];refine⟨_,rfl,qd ?_⟩;have R1:=R.same s1;have lt1:=lt.same s1;refine⟨_,rfl,_,rfl,r,_,_,V.ref bl,rfl,rfl,SqT.of R1.tu,rfl,bl,zs,rfl,R1.li,R1.st,h4,λz hz=>⟨(g.st _ (bh.mpr ⟨z,hz,rfl⟩)).ne,(g.st _ (bh.mpr ⟨z,hz,rfl⟩)).len⟩,lt1,λDd ws H2 hD hDv hW SL hlen sm2 lt2=>?_⟩;have hs2:=sm2 _ _ (lt1.lst (s1 _ _ hs)) (s1 _ _ hs);refine⟨Dd,_,(ws.map (·.2)).map xT,xT xs,rfl,SqL.of hDv,TrsAt.lists (λz hz=>(hW z hz).2.1),TrAt.ints (a:=sa) (SqL.of hs2),ao (qe _) (by decide),?_⟩;have e:=zcX ((SL.mem xs).mpr hst);have q:=kk H2 ((SameL.of s1).trans sm2) lt2;rw[<-e]at q;exact q
def Y0(T:aq):Sp:=λvs H Q _=>∃r b bl zs,vs=[.ref r]/\RuleAt H r b bl zs/\GoodRule b (zs.map (·.2))/\LT T H /\
 ∀(D:aq) (ws:ZB) (H':Hp),H D=none->H' D=some (.lst (ws.map λz=>V.ref z.1))->(∀z∈ws,H z.1=none/\H' z.1=some (.lst (z.2.map V.int))/\z.1≠D)->StandsL (zs.map (·.2)) (ws.map (·.2))->ws.length<=13->SameL T H H'->LT T H'->Q (.ref D) H'
theorem zdi:zG ["rule"] ["rule"] (zp jU):={}
theorem zdq(D:Df K mg "all_stands" jU Al f fd)(zJ:Df K mg "check_rule" yD Aa f1 fd1)(zL:FnOk P w K mg base CX0 7 f1 fd1 Aa yF)(tE:Df K mg "stands_of" xF ["bad"] f2 fd2)(qK:FnOk P w K mg base CX0 6 f2 fd2 ["bad"] (X8 T0)):FnOk P w K mg base CX0 8 f fd Al (Y0 T0):=by
 refine D.fn.ok zdi (λvs H Q E h=>?_) (λcdv A outer s H vs Q E hr h=>?_)
 ·obtain⟨r,b,bl,zs,rfl,_⟩:=h;rfl
 ·obtain⟨r,b,bl,zs,rfl,R,g,lt,kk⟩:=h;have h4:zs.length<=4:=by have:=g.len;rwa[aa]at this
  refine xu ?_;intro XX;let q1:Sq XX ((zj jU).drop 1):=⟨_,zm (zE (zK tE qK (hr.mono (by decide)) (zc (zX (yP K) (pv 0) zu (λ_ _=>rfl)) zf)))⟩
  refine⟨_,(zg (yw (zK zJ zL (hr.mono (by decide)) (zc (pv 0) zf))) q1.p),?_⟩;refine⟨_,rfl,r,b,bl,zs,rfl,R,g,λH1 s1=>?_⟩;have R1:=R.same s1;have lt1:=lt.same s1;refine⟨_,rfl,r,_,_,V.ref bl,rfl,rfl,SqT.of R1.tu,rfl,bl,zs,rfl,R1.li,R1.st,h4,λz hz=>⟨(g.st _ (bh.mpr ⟨z,hz,rfl⟩)).ne,(g.st _ (bh.mpr ⟨z,hz,rfl⟩)).len⟩,lt1,λDd ws H2 hD hDv hW SL hlen sm2 lt2=>?_⟩;exact kk Dd ws H2 (s1.free hD) hDv (λz hz=>⟨s1.free (hW z hz).1,(hW z hz).2⟩) SL hlen ((SameL.of s1).trans sm2) lt2
def XF(T:aq):Sp:=λvs H Q _=>∃r b bl zs sa xs x,vs=[.ref r,.ref sa,.int x]/\RuleAt H r b bl zs/\GoodRule b (zs.map (·.2))/\H sa=some (.lst (xs.map V.int))/\zfY (zs.map (·.2)) xs/\0<=x/\x<(b:Int)/\LT T H /\
 ∀v H',StandV (zs.map (·.2)) (xs++[x]) H H' v->SameL T H H'->LT T H'->Q v H'
theorem zeq:zG ["rule","stand","figure"] ["rule","stand","figure"] (zp qi):={}
theorem zeh(D:Df K mg "step_from" qi Az f fd)(zJ:Df K mg "check_rule" yD Aa f1 fd1)(zL:FnOk P w K mg base CX0 7 f1 fd1 Aa yF)(QS:Df K mg "is_stand" Ux A8 f2 fd2)(zaz:FnOk P w K mg base CX0 7 f2 fd2 A8 (zba T0))(u9:Df K mg "is_figure" ZJ Ad f3 fd3)(qu:FnOk P w K mg base CX0 2 f3 fd3 Ad XJ)(wy:Df K mg "longest_stand" vg Ag f4 fd4)(wX:FnOk P w K mg base CX0 3 f4 fd4 Ag jT)(T:Blt mg):FnOk P w K mg base CX0 8 f fd Az (XF T0):=by
 refine D.fn.ok zeq (λvs H Q E h=>?_) (λcdv A outer s H vs Q E hr h=>?_)
 ·obtain⟨r,b,bl,zs,sa,xs,x,rfl,_⟩:=h;rfl
 ·obtain⟨r,b,bl,zs,sa,xs,x,rfl,R,g,hs,hst,hx0,hxb,lt,kk⟩:=h;obtain⟨hl3,hfig⟩:=zfD g hst;have h4:zs.length<=4:=by have:=g.len;rwa[aa]at this
  refine xu ?_;intro XX;let q1:Sq XX ((zj qi).drop 3):=⟨_,zm (zE (zK wy wX (hr.mono (by decide)) (zc (zX (yP K) (pv 0) zu (λ_ _=>rfl)) (zc (zV ZZ (pv 1) (yR (zc (pv 2) zf))) zf))))⟩
  let q2:Sq XX ((zj qi).drop 2):=⟨_,zg (yx (wB (yX (zK u9 qu (hr.mono (by decide)) (zc (zX (yP K) (pv 0) zu (λ_ _=>rfl)) (zc (pv 2) zf)))))
    (zm uf)
    zQ) q1.p⟩
  let q3:Sq XX ((zj qi).drop 1):=⟨_,zg (yx (wB (yX (zK QS zaz (hr.mono (by decide)) (zc (pv 0) (zc (pv 1) zf)))))
    (zm uf)
    zQ) q2.p⟩
  refine⟨_,(zg (yw (zK zJ zL (hr.mono (by decide)) (zc (pv 0) zf))) q3.p),?_⟩;refine⟨_,rfl,r,b,bl,zs,rfl,R,g,λH1 s1=>?_⟩;have R1:=R.same s1;have lt1:=lt.same s1;refine⟨_,rfl,_,rfl,r,b,bl,zs,sa,xs,rfl,R1,g,s1 _ _ hs,hst,lt1,λH2 sm2 lt2=>⟨_,rfl,wN ?_⟩⟩;have R2:=R1.sameL lt1 sm2;have hs2:=sm2 _ _ (lt1.lst (s1 _ _ hs)) (s1 _ _ hs);refine⟨_,rfl,r,_,_,V.int b,rfl,rfl,SqT.of R2.tu,rfl,_,rfl,(b:Int),x,rfl,_,rfl,?_⟩;rw[decide_eq_true (show 0<=x/\x<(b:Int) from ⟨hx0,hxb⟩)];refine wN ?_;refine⟨_,rfl,r,_,_,V.ref bl,rfl,rfl,SqT.of R2.tu,rfl,_,rfl,_,rfl,(by show 1<=aZ;decide),λp1 q1=>?_⟩;have n1:sa≠p1:=zF hs2 q1;refine⟨sa,p1,_,_,rfl,rfl,by rw[zA n1];exact hs2,zq,by rw[aa];exact ao (show xs.length+1<=100 by omega) (by decide),λp2 q2=>?_⟩;have t2:=(zy q1 (o:=.lst [V.int x])).trans (zy q2 (o:=.lst (xs.map V.int++[V.int x])));have R3:=R2.same t2;refine⟨bl,p2,zs,xs++[x],rfl,R3.li,R3.st,by rw[zq,aF];rfl,by omega,by rw[aB,aU];omega,λz hz=>⟨(g.st _ (bh.mpr ⟨z,hz,rfl⟩)).ne,ao (g.st _ (bh.mpr ⟨z,hz,rfl⟩)).len (by decide)⟩,λv H3 sv s3=>?_⟩;have sm3:SameL T0 H H3:=((SameL.of s1).trans sm2).trans (SameL.of (t2.trans s3));refine kk v H3 ?_ sm3 (lt2.same (t2.trans s3));rcases sv with h | ⟨a1,l,a2,a3,a4⟩
  ·exact .inl h
  ·exact .inr ⟨a1,l,a2,s1.free (sm2.free lt2 (t2.free a3)),a4⟩
def plc(ls ws:ZA)(fs:List Int):V:=if lacks ls fs=true then .int ((ws.idxOf (zY ls fs):Nat):Int) else .non
theorem Qf{x:List Int}:∀{xs:ZA} {m:Nat},m<xs.idxOf x->∀h:m<xs.length,xs[m]≠x
 |[],m,h,h'=>by simp at h'
 |y::ys,m,h,h'=>by
  rw[List.idxOf_cons]at h;by_cases e:y=x
  ·subst e;simp at h
  ·have e':(y == x)=false:=by simpa using e
   rw[e']at h;cases m with
   |zero=>simpa using e
   |succ m=>simpa using Qf (x:=x) (xs:=ys) (m:=m) (by simpa using h) (by simpa using h')
def Qc:Sp:=λvs H Q _=>∃(bl Dd fa:aq) (zs ws:ZB) (fs:List Int),vs=[.ref bl,.ref Dd,.ref fa]/\H bl=some (.lst (zs.map λz=>V.ref z.1))/\(∀z∈zs,H z.1=some (.lst (z.2.map V.int)))/\H Dd=some (.lst (ws.map λz=>V.ref z.1))/\(∀z∈ws,H z.1=some (.lst (z.2.map V.int)))/\H fa=some (.lst (fs.map V.int))/\zs.length<=4/\ws.length<=13/\fs.length<=1000/\(∀z∈zs,z.2≠[]/\z.2.length<=4) /\
 (lacks (zs.map (·.2)) fs=true->zY (zs.map (·.2)) fs∈ws.map (·.2))/\∀H',Same H H'->Q (plc (zs.map (·.2)) (ws.map (·.2)) fs) H'
theorem U8:zG ["bad","stands","figures","stand"] ["bad","stands","figures"] (zp tV):={}
theorem zbp(D:Df K mg "place_behind" tV Bd f fd)(wy:Df K mg "longest_stand" vg Ag f1 fd1)(wX:FnOk P w K mg base CX0 3 f1 fd1 Ag jT):FnOk P w K mg base CX0 4 f fd Bd Qc:=by
 refine D.fn.ok U8 (λvs H Q E h=>?_) (λcdv A outer s H vs Q E hr h=>?_)
 ·obtain⟨bl,Dd,fa,zs,ws,fs,rfl,_⟩:=h;rfl
 ·obtain⟨bl,Dd,fa,zs,ws,fs,rfl,hb,hz,hD,hw,hf,h4,h13,hl,hst,hin,kk⟩:=h;have HU:=Vv hr;refine xu ?_;intro XX;let q1:Sq XX ((zj tV).drop 2):=⟨_,zm (zE (Vx PySem.F.plainAttrs_list PySem.F.slot_list_index PySem.F.type_list_index (ziJ K HU) (pv 1) (zc (pv 3) zf)))⟩
  let q2:Sq XX ((zj tV).drop 1):=⟨_,zg (yx (zP zes (pv 3) uF (zT _))
    (zm (zE uF))
    zQ) q1.p⟩
  refine⟨_,(zg (zU (i:=3) U8.nd rfl (aW rfl) (zK wy wX (hr.mono (by decide)) (zc (pv 0) (zc (pv 2) zf)))) q2.p),?_⟩;refine⟨_,rfl,_,rfl,bl,fa,zs,fs,rfl,hb,hz,hf,by omega,hl,λz hz=>⟨(hst z hz).1,ao (hst z hz).2 (by decide)⟩,λv H1 sv s1=>?_⟩;have q:=kk H1 s1;unfold plc at q;rcases sv with ⟨hL,rfl⟩ | ⟨hL,l,rfl,hn,hv⟩
  ·rw[hL,if_neg (by decide)]at q;exact⟨_,rfl,rfl,_,rfl,qd q⟩
  ·rw[if_pos hL]at q;have hm:=hin hL;have hlt:=gP.mpr hm;refine⟨_,rfl,rfl,_,rfl,wN ?_⟩;refine⟨_,rfl,.inl ⟨rfl,_,SqL.of (s1 _ _ hD)⟩,_,rfl,Dd,_,_,(ws.map (·.2)).map xT,xT (zY (zs.map (·.2)) fs),(ws.map (·.2)).idxOf (zY (zs.map (·.2)) fs),rfl,rfl,SqL.of (s1 _ _ hD),TrsAt.lists (λz hz=>s1 _ _ (hw z hz)),TrAt.ints (a:=l) (SqL.of hv),ao (qe _) (by decide),by rw[aa];exact hlt,?_,?_,q⟩
   ·intro t ht;rw[ak,aj hlt,dG]at ht;rw[<-bY ht,iG hlt,j0,decide_eq_true rfl]
   ·intro m t hm' ht;rw[ak,aj (km hm' hlt),dG]at ht;rw[<-bY ht,j0,decide_eq_false];intro e;have q3:=Qf hm' (km hm' hlt);exact q3 e
def zbz(ls ws:ZA)(b:Nat)(x:List Int):List V:=(aD b).map λ(c:Nat)=>plc ls ws (x++[(c:Int)])
def Jf:Sp:=λvs H Q _=>∃(r:aq) (b:Nat) (bl:aq) (zs:ZB) (Dd:aq) (ws:ZB) (sa:aq) (xs:List Int),vs=[.ref r,.ref Dd,.ref sa]/\RuleAt H r b bl zs/\GoodRule b (zs.map (·.2))/\H Dd=some (.lst (ws.map λz=>V.ref z.1))/\(∀z∈ws,H z.1=some (.lst (z.2.map V.int)))/\StandsL (zs.map (·.2)) (ws.map (·.2))/\ws.length<=13/\H sa=some (.lst (xs.map V.int))/\xs.length<=100 /\
 ∀p H',H p=none->Same H H'->H' p=some (.lst (zbz (zs.map (·.2)) (ws.map (·.2)) b xs))->Q (.ref p) H'
theorem zdp:zG ["rule","stands","stand"] ["rule","stands","stand"] (zp ZX):={}
theorem zdh(D:Df K mg "steps_from" ZX A9 f fd)(YM:Df K mg "place_behind" tV Bd f1 fd1)(Vs:FnOk P w K mg base CX0 4 f1 fd1 Bd Qc)(T:Blt mg):FnOk P w K mg base CX0 5 f fd A9 Jf:=by
 refine D.fn.ok zdp (λvs H Q E h=>?_) (λcdv A outer s H vs Q E hr h=>?_)
 ·obtain⟨r,b,bl,zs,Dd,ws,sa,xs,rfl,_⟩:=h;rfl
 ·obtain⟨r,b,bl,zs,Dd,ws,sa,xs,rfl,R,g,hD,hw,SL,h13,hs,hl,kk⟩:=h;have h4:zs.length<=4:=by have:=g.len;rwa[aa]at this
  have ne:∀l∈zs.map (·.2),l≠[]:=λl hl=>(g.st l hl).ne;refine⟨_,(zm (zE (wO (show CScope (zp ZX) _ "figure" ["rule","stands","stand"] ["stands","rule","stand"] [1,0,2] from {}) rfl (yM rfl T.n_range (zc (zX (yP K) (pv 0) zu (λ_ _=>rfl)) zf)) (λ_ _ _ _=>vU) (λ_ _ _ _=>(zK YM Vs (hr.mono (by decide)) (zc (zX (yP K) (pv 2) zu (λ_ _=>rfl)) (zc (pv 1) (zc (zV ZZ (pv 3) (yR (zc (pv 0) zf))) zf)))))))),?_⟩;have b16:=g.b16;let J1:Nat->List V->L2.Hp->Prop:=λi ys H4=>ys=zbz (zs.map (·.2)) (ws.map (·.2)) i xs/\Same H H4;refine⟨_,rfl,r,_,_,V.int b,rfl,rfl,SqT.of R.tu,rfl,(b:Int),rfl,by omega,by omega,jF (lo:=0) (n:=(b:Int).toNat) J1 ⟨rfl,Same.refl _⟩ ?_ ?_⟩
  ·rintro i ys H4 hi ⟨rfl,s4⟩;have hi':i<b:=by omega
   refine⟨?_,?_⟩
   ·unfold zbz;rw[aa,aX];exact aA (show i<16 by omega) (by decide)
   unfold Vp;dsimp only;rw[if_pos rfl];have R4:=R.same s4;have hs4:=s4 _ _ hs;refine⟨_,rfl,r,_,_,V.ref bl,rfl,rfl,SqT.of R4.tu,rfl,_,rfl,_,rfl,_,rfl,(by show 1<=aZ;decide),λp1 q1=>?_⟩;have n1:sa≠p1:=zF hs4 q1;refine⟨sa,p1,_,_,rfl,rfl,by rw[zA n1];exact hs4,zq,by rw[aa];exact ao (show xs.length+1<=101 by omega) (by decide),λp2 q2=>?_⟩;have t2:=s4.trans ((zy q1 (o:=.lst [V.int (0+(i:Int))])).trans (zy q2 (o:=.lst (xs.map V.int++[V.int (0+(i:Int))]))));have R5:=R.same t2;refine⟨bl,Dd,p2,zs,ws,xs++[0+(i:Int)],rfl,R5.li,R5.st,t2 _ _ hD,λz hz=>t2 _ _ (hw z hz),by rw[zq,aF];rfl,h4,h13,by rw[aB,aU];omega,λz hz=>⟨(g.st _ (bh.mpr ⟨z,hz,rfl⟩)).ne,(g.st _ (bh.mpr ⟨z,hz,rfl⟩)).len⟩,λh=>(SL.mem _).mpr (Yx ne h),λH5 s5=>⟨?_,t2.trans s5⟩⟩;unfold zbz;rw[cL,aF,cM];rfl
  ·rintro ys H4 ⟨rfl,s4⟩ p hp;refine kk p _ (s4.free hp) (s4.trans (zy hp)) ?_;rw[zq,dg]
def Uu(ls ws:ZA)(b:Nat):List (List V):=ws.map (zbz ls ws b)++[V.int (ws.length:Nat)::(zbz ls ws b []).drop 1]
def JX:Sp:=λvs H Q _=>∃(r:aq) (b:Nat) (bl:aq) (zs:ZB) (Dd:aq) (ws:ZB),vs=[.ref r,.ref Dd]/\RuleAt H r b bl zs/\GoodRule b (zs.map (·.2))/\H Dd=some (.lst (ws.map λz=>V.ref z.1))/\(∀z∈ws,H z.1=some (.lst (z.2.map V.int)))/\StandsL (zs.map (·.2)) (ws.map (·.2))/\ws.length<=13 /\
 ∀(p:aq) (rs:List (aq×List V)) (H':Hp),H p=none->Same H H'->H' p=some (.lst (rs.map λz=>V.ref z.1))->(∀z∈rs,H z.1=none/\H' z.1=some (.lst z.2))->rs.map (·.2)=Uu (zs.map (·.2)) (ws.map (·.2)) b->Q (.ref p) H'
theorem J6:zG ["rule","stands","steps"] ["rule","stands"] (zp Zz):={}
theorem zei(D:Df K mg "all_steps" Zz Be f fd)(W9:Df K mg "steps_from" ZX A9 f1 fd1)(QB:FnOk P w K mg base CX0 5 f1 fd1 A9 Jf)(T:Blt mg):FnOk P w K mg base CX0 6 f fd Be JX:=by
 refine D.fn.ok J6 (λvs H Q E h=>?_) (λcdv A outer s H vs Q E hr h=>?_)
 ·obtain⟨r,b,bl,zs,Dd,ws,rfl,_⟩:=h;rfl
 ·obtain⟨r,b,bl,zs,Dd,ws,rfl,R,g,hD,hw,SL,h13,kk⟩:=h;have l3:∀z∈ws,z.2.length<=3:=λz hz=>zcN (λst h=>(g.st st h).len) ((SL.mem _).mp (bh.mpr ⟨z,hz,rfl⟩));obtain⟨w1,hw1⟩:=SL.first;refine xu ?_;intro XX;let q1:Sq XX ((zj Zz).drop 1):=⟨_,zm (zE (zV ZZ (pv 2) (yR (zc (zV ZZ (yR (zc (zH (xG K) (by rfl) T.n_len PySem.boot_len (zc (pv 1) zf)) zf)) (tX (V1 K) (zX (wJ K) (pv 2) zu (λ_ _=>rfl)) (tK zu) YW)) zf))))⟩
  refine⟨_,(zg (wL (i:=2) (show CScope (zp Zz) _ "stand" ["rule","stands","steps"] ["rule","stands"] [0,1] from {}) rfl J6.nd rfl (aW rfl) (jh K (pv 1)) (λ_ _ _ _=>vU) (λ_ _ _ _=>(zK W9 QB (hr.mono (by decide)) (zc (pv 1) (zc (pv 2) (zc (pv 0) zf)))))) q1.p),?_⟩;let J2:Nat->List V->L2.Hp->Prop:=λi ys H4=>∃rs:List (aq×List V),An4 (ys=(rs.map λz=>V.ref z.1)) ((∀z∈rs,H z.1=none/\H4 z.1=some (.lst z.2))) (rs.map (·.2)=(ws.take i).map (λz=>zbz (zs.map (·.2)) (ws.map (·.2)) b z.2)) (Same H H4);refine⟨_,rfl,Dd,rfl,⟨_,SqL.of hD⟩,vZ (K:=K) (a:=Dd) (xs:=ws.map λz=>V.ref z.1) J2 ⟨[],rfl,λz hz=>(by cases hz),rfl,Same.refl _⟩ (λi ys H4 _ ⟨_,_,_,_,e⟩=>SqL.of (e _ _ hD)) ?_ ?_⟩
  ·rintro j x ys H4 hx ⟨rs,rfl,hrs,hr2,s4⟩;rw[ak]at hx;obtain⟨z,hzj,e⟩:=aM.mp hx;subst e;have hzm:=aJ hzj;refine⟨?_,?_⟩
   ·have e1:=congrArg c7 hr2;rw[aa,aa,bM]at e1;rw[aa,e1];exact bw (ao (kO _ _) h13) (by decide)
   unfold Vp;dsimp only;rw[if_pos rfl];refine⟨_,rfl,_,rfl,_,rfl,r,b,bl,zs,Dd,ws,z.1,z.2,rfl,R.same s4,g,s4 _ _ hD,λz hz=>s4 _ _ (hw z hz),SL,h13,s4 _ _ (hw z hzm),ao (l3 z hzm) (by decide),λp H5 hp s5 hv=>?_⟩;refine⟨rs++[(p,zbz (zs.map (·.2)) (ws.map (·.2)) b z.2)],by simp,λy hy=>?_,?_,s4.trans s5⟩
   ·rcases bf.mp hy with h | h
    ·exact⟨(hrs y h).1,s5 _ _ (hrs y h).2⟩
    ·rw[cJ]at h;subst h;exact⟨s4.free hp,hv⟩
   ·rw[aF,hr2,cO,hzj];simp
  ·rintro ys H4 ⟨rs,rfl,hrs,hr2,s4⟩ p hp;have hl2:=congrArg c7 hr2;rw[aa,cj]at hr2;rw[aa,aa,bM,aa,Fl]at hl2;obtain⟨w0,ws',rfl⟩:∃w0 ws',ws=w0::ws':=by
    cases ws with
    |nil=>simp at hw1
    |cons a b=>exact⟨a,b,rfl⟩
   have hw0:w0.2=[]:=by
    rw[bz]at hw1;exact (Et hw1).1
   obtain⟨r0,rs',rfl⟩:∃r0 rs',rs=r0::rs':=by
    cases rs with
    |nil=>simp at hl2
    |cons a b=>exact⟨a,b,rfl⟩
   have hr0:r0.2=zbz (zs.map (·.2)) ((w0::ws').map (·.2)) b []:=by
    have e:=(Et hr2).1;rw[<-hw0];exact e
   have t4:=s4.trans (zy hp (o:=.lst ((r0::rs').map λz=>V.ref z.1)));have hr04:∀z∈r0::rs',upd H4 p (.lst ((r0::rs').map λz=>V.ref z.1)) z.1=some (.lst z.2):=λz hz=>zy hp _ _ (hrs z hz).2;refine⟨_,rfl,_,rfl,Dd,_,rfl,.inl (SqL.of (t4 _ _ hD)),(by show 1<=aZ;decide),λp1 q1=>?_⟩;have u1:=zy q1 (o:=.lst [V.int (((w0::ws').map λz=>V.ref z.1).length:Nat)]);refine⟨_,rfl,p,_,_,V.ref r0.1,rfl,rfl,SqL.of (u1 _ _ zq),vo (j:=0) rfl,_,rfl,r0.1,_,rfl,SqL.of (u1 _ _ (hr04 r0 bI)),λp2 q2=>?_⟩;have hb1:r0.2.length<=16:=by
    rw[hr0];unfold zbz;rw[aa,aX];exact g.b16
   have u2:=u1.trans (zy q2 (o:=.lst (UG r0.2 (some 1) none)));refine⟨p1,p2,_,_,rfl,rfl,zy q2 _ _ zq,zq,?_,λp3 q3=>?_⟩
   ·rw[show (1:Int)=((1:Nat):Int) from rfl,QM,cA,aU];exact ao (show 1+(r0.2.length-1)<=100 by omega) (by decide)
   have ev:([V.int (((w0::ws').map λz=>V.ref z.1).length:Nat)]++UG r0.2 (some 1) none)=V.int (((w0::ws').map (·.2)).length:Nat)::(zbz (zs.map (·.2)) ((w0::ws').map (·.2)) b []).drop 1:=by
    rw[show (1:Int)=((1:Nat):Int) from rfl,QM,hr0,aa,aa];rfl
   have u3:=u2.trans (zy q3 (o:=.lst ([V.int (((w0::ws').map λz=>V.ref z.1).length:Nat)]++UG r0.2 (some 1) none)));refine⟨(by show 1<=aZ;decide),λp4 q4=>?_⟩;have u4:=u3.trans (zy q4 (o:=.lst [V.ref p3]));refine⟨p,p4,_,_,rfl,rfl,u4 _ _ zq,zq,?_,λp5 q5=>?_⟩
   ·rw[aa,aU];exact ao (show (r0::rs').length+1<=100 by omega) (by decide)
   have u5:=u4.trans (zy q5 (o:=.lst ((r0::rs').map (λz=>V.ref z.1)++[V.ref p3])));refine kk p5 (r0::rs'++[(p3,[V.int (((w0::ws').map λz=>V.ref z.1).length:Nat)]++UG r0.2 (some 1) none)]) _ (t4.free (u4.free q5)) (t4.trans u5) ?_ ?_ ?_
   ·rw[zq,aF];rfl
   ·intro z hz;rcases bf.mp hz with h | h
    ·exact⟨(hrs z h).1,u5 _ _ (hr04 z h)⟩
    ·rw[cJ]at h;subst h;exact⟨t4.free (u2.free q3),zy q5 _ _ (zy q4 _ _ zq)⟩
   ·rw[aF,hr2,ev];unfold Uu;rw[d8];rfl
end
structure ClT (K:aN) (mg:cG->Option aG) (C:aq):Prop where
 cl:Cls K C
 nm:mg "Tails"= some (.ref C)
 n_base:NoAttr K C "base"
 n_outset:NoAttr K C "outset"
 n_steps:NoAttr K C "steps"
 n_layers:NoAttr K C "layers"
def Q3(b n:Nat)(sa la:aq):List (cG×V):=yo "layers" (.ref la) (yo "steps" (.ref sa) (yo "outset" (.int n) (yo "base" (.int b) [])))
theorem zaW(b n:Nat)(sa la:aq):(Q3 b n sa la).lookup ("base" : cG)=some (.int b):=by
 unfold Q3;rw[zO,if_neg (by decide +kernel),zO,if_neg (by decide +kernel),zO,if_neg (by decide +kernel),zO,if_pos rfl]
theorem vR(b n:Nat)(sa la:aq):(Q3 b n sa la).lookup ("outset" : cG)=some (.int n):=by
 unfold Q3;rw[zO,if_neg (by decide +kernel),zO,if_neg (by decide +kernel),zO,if_pos rfl]
theorem uW(b n:Nat)(sa la:aq):(Q3 b n sa la).lookup ("steps" : cG)=some (.ref sa):=by
 unfold Q3;rw[zO,if_neg (by decide +kernel),zO,if_pos rfl]
theorem Vi(b n:Nat)(sa la:aq):(Q3 b n sa la).lookup ("layers" : cG)=some (.ref la):=by
 unfold Q3;rw[zO,if_pos rfl]
theorem xM(b n:Nat)(sa la:aq){m:cG}(h1:¬ m ="layers":=by decide +kernel)(h2:¬ m ="steps":=by decide +kernel)(h3:¬ m ="outset":=by decide +kernel)(h4:¬ m ="base":=by decide +kernel):(Q3 b n sa la).lookup m=none:=by
 unfold Q3;rw[zO,if_neg h1,zO,if_neg h2,zO,if_neg h3,zO,if_neg h4];rfl
def ur(ls ws:ZA)(b t:Nat):List Int:=(ws.map λx=>((cnt ls b t x:Nat):Int))++[((vH ls b t:Nat):Int)]
def stepV(ls ws:ZA):Option (List Int)->Nat->V
 |some x,c=>plc ls ws (x++[(c:Int)])
 |none,c=>if c=0 then .int (ws.length:Nat) else plc ls ws [(c:Int)]
theorem zgF(ls ws:ZA)(x:List Int)(c:Nat):stepV ls ws (some x) c=plc ls ws (x++[(c:Int)]):=rfl
theorem jm(ls ws:ZA)(c:Nat):stepV ls ws none c=if c=0 then .int (ws.length:Nat) else plc ls ws [(c:Int)]:=rfl
theorem Jp(ls:ZA)(b t:Nat)(x:List Int)(c:Nat):Vf ls b t (some x) c=if lacks ls (x++[(c:Int)])=true then cnt ls b t (zY ls (x++[(c:Int)])) else 0:=rfl
theorem Yy(ls:ZA)(b t:Nat)(c:Nat):Vf ls b t none c=if c=0 then vH ls b t else if lacks ls [(c:Int)]=true then cnt ls b t (zY ls [(c:Int)]) else 0:=rfl
theorem UJ(hb:1<=b)(hi:i<=ws.length):(Uu ls ws b)[i]?=some ((aD b).map (stepV ls ws ws[i]?)):=by
 unfold Uu;by_cases h:i<ws.length
 ·rw[cB (by rw[aa];exact h),ak,aj h];rfl
 ·have e:i=ws.length:=by omega
  subst e;rw[bG (by rw[aa];exact au _),aa,eG,bN (au _)];show some _=some _;congr 1;obtain⟨k,rfl⟩:∃k,b=k+1:=⟨b-1,by omega⟩
  unfold zbz;rw[iw,bz,bz,fV,gZ];rw[d8,d8];rfl
structure TailsAt (C:aq) (H:Hp) (p la:aq) (b:Nat) (ls ws:ZA) (L:Nat):Prop where
 ob:∃(dx sa:aq) (srs:List (aq×List V)),aw [la] H p=some (.ins C dx (Q3 b ws.length sa la))/\aw [la] H sa=some (.lst (srs.map λz=>V.ref z.1))/\(∀z∈srs,aw [la] H z.1=some (.lst z.2))/\srs.map (·.2)=Uu ls ws b
 ly:∃lrs:ZB,H la=some (.lst (lrs.map λz=>V.ref z.1))/\(∀z∈lrs,aw [la] H z.1=some (.lst (z.2.map V.int)))/\lrs.map (·.2)=(aD L).map (ur ls ws b)
 l1:1<=L
structure GoodT (b:Nat) (ls ws:ZA):Prop where
 g:GoodRule b ls
 s:StandsL ls ws
 h13:ws.length<=13
theorem GoodT.ne(G:GoodT b ls ws):∀l∈ls,l≠[]:=λl hl=>(G.g.st l hl).ne
theorem TailsAt.same{C p la b:Nat}(A:TailsAt C H p la b ls ws L)(m:Same H H'):TailsAt C H' p la b ls ws L:=by
 obtain⟨dx,sa,srs,h1,h2,h3,h4⟩:=A.ob;obtain⟨lrs,g1,g2,g3⟩:=A.ly;have m':=m.aw [la];exact⟨⟨dx,sa,srs,m' _ _ h1,m' _ _ h2,λz hz=>m' _ _ (h3 z hz),h4⟩,⟨lrs,m _ _ g1,λz hz=>m' _ _ (g2 z hz),g3⟩,A.l1⟩
theorem zbb(G:GoodT b ls ws)(hi:i<=ws.length):
  (stepV ls ws ws[i]? c=.non/\Vf ls b t ws[i]? c=0)\/∃j:Nat,stepV ls ws ws[i]? c=.int j/\j<=ws.length/\(ur ls ws b t)[j]?=some ((Vf ls b t ws[i]? c:Nat):Int):=by
 have at_:∀fs:List Int,lacks ls fs=true->∃j:Nat,plc ls ws fs=.int j/\j<=ws.length/\(ur ls ws b t)[j]?=some ((cnt ls b t (zY ls fs):Nat):Int):=by
  intro fs h;have hm:zY ls fs∈ws:=(G.s.mem _).mpr (Yx G.ne h);have hlt:=gP.mpr hm;refine⟨ws.idxOf (zY ls fs),by unfold plc;rw[if_pos h],d7 hlt,?_⟩;unfold ur;rw[cB (by rw[aa];exact hlt),ak,aj hlt,iG hlt];rfl
 cases hw:ws[i]? with
 |some x=>
  show (plc ls ws (x++[(c:Int)])=.non/\(if lacks ls (x++[(c:Int)])=true then _ else 0)=0)\/_;by_cases h:lacks ls (x++[(c:Int)])=true
  ·right;obtain⟨j,h1,h2,h3⟩:=at_ _ h;refine⟨j,h1,h2,?_⟩;rw[h3,Jp,if_pos h]
  ·left;exact⟨by unfold plc;rw[if_neg h],by rw[if_neg h]⟩
 |none=>
  by_cases h0:c=0
  ·right;refine⟨ws.length,by rw[jm,if_pos h0],au _,?_⟩;unfold ur;rw[Yy,if_pos h0,bG (by rw[aa];exact au _),aa,eG];rfl
  ·by_cases h:lacks ls [(c:Int)]=true
   ·right;obtain⟨j,h1,h2,h3⟩:=at_ _ h;refine⟨j,by rw[jm,if_neg h0];exact h1,h2,?_⟩;rw[h3,Yy,if_neg h0,if_pos h]
   ·left;refine⟨?_,?_⟩
    ·rw[jm,if_neg h0];unfold plc;rw[if_neg h]
    ·rw[Yy,if_neg h0,if_neg h]
theorem Uy(h:b∈fp):aw fp (upd H b o)=aw fp H:=by
 funext c;by_cases hc:c∈fp
 ·rw[Vk hc,Vk hc]
 ·rw[yq hc,yq hc,zA (λz:c=b=>hc (by rw[z];exact h))]
section
variable {P:cg} {w:cT} {K:aN} {mg:cG->Option aG} {base:dR} {T0 C:aq}
def JB(C:aq):Sp:=λvs H Q _=>∃(p la:aq) (b:Nat) (ls ws:ZA) (L t:Nat) (lay:aq) (i s:Nat),vs=[.ref p,.ref lay,.int i,.int s]/\TailsAt C H p la b ls ws L/\GoodT b ls ws/\H lay=some (.lst ((ur ls ws b t).map V.int))/\i<=ws.length/\s<=b /\
 ∀H',Same H H'->Q (.int (under ls b t ws[i]? s:Nat)) H'
theorem zaQ:zG ["self","layer","place","stop"] ["self","layer","place","stop"] (zp uc):={}
theorem zcv(D:Mt K C "Tails.many_by" "many_by" uc Aw f fd)(zB:ClT K mg C)(T:Blt mg)(U:zfm mg):FnOk P w K mg base CX0 1 f fd Aw (JB C):=by
 refine D.fn.ok zaQ (λvs H Q E h=>?_) (λcdv A outer s H vs Q E hr h=>?_)
 ·obtain⟨p,la,b,ls,ws,L,t,lay,i,s,rfl,_⟩:=h;rfl
 ·obtain⟨p,la,b,ls,ws,L,t,lay,i,s,rfl,TA,G,hlay,hi,hs,kk⟩:=h;obtain⟨dx,sa,srs,h1,h2,h3,h4⟩:=TA.ob;have b16:=G.g.b16;have b2:=G.g.b2;refine⟨_,(zm (zE (zH (zg5 K rfl) (by rfl) U.n_sum Ei (zc (wO (show CScope (zp uc) _ "behind" ["self","layer","place","stop"] ["layer"] [1] from {}) rfl (jh K (tX (V1 K) (zX (wJ K) (yZ K (pv 0)) (pv 2) (λ_ _=>rfl)) YW (tK (pv 3)))) (λ_ _ _ _=>(uq (zP zbP (pv 0) uF (zT _)))) (λ_ _ _ _=>(zX (wJ K) (pv 1) (pv 0) (λ_ _=>rfl)))) zf)))),?_⟩;have hrow:=UJ (ls:=ls) (b:=b) (by omega) hi;rw[<-h4,ak]at hrow;obtain⟨z,hz,ez⟩:=aM.mp hrow;have hzm:=aJ hz;have hz3:=yj _ _ _ _ (h3 z hzm);refine⟨_,rfl,p,C,dx,_,_,rfl,yj _ _ _ _ h1,zB.cl,zB.n_steps,uW _ _ _ _,_,rfl,sa,_,_,V.ref z.1,rfl,rfl,SqL.of (yj _ _ _ _ h2),vo (by rw[ak,hz];rfl),?_⟩;refine⟨_,rfl,_,rfl,z.1,_,rfl,SqL.of hz3,λq hq=>?_⟩;have m1:=zy hq (o:=.lst (UG z.2 none (some (s:Int))));have ecut:UG z.2 none (some (s:Int))=(aD s).map (stepV ls ws ws[i]?):=by
   rw[QR,ez,<-lu,Dr,dH hs]
  rw[ecut]at m1 ⊢;refine⟨q,rfl,⟨_,SqL.of zq⟩,vZ (K:=K) (a:=q) (xs:=(aD s).map (stepV ls ws ws[i]?)) (λk ys H4=>H4=upd H q (.lst ((aD s).map (stepV ls ws ws[i]?)))/\∃ms:List Int,ys=ms.map V.int/\ms.length<=k/\ms.sum=((under ls b t ws[i]? k:Nat):Int)) ⟨rfl,[],rfl,au _,by simp[under]⟩ (λk ys H4 _ ⟨e,_⟩=>by rw[e];exact SqL.of zq) ?_ ?_⟩
  ·rintro k x ys H4 hx ⟨rfl,ms,rfl,hml,hms⟩;rw[ak]at hx;obtain⟨c,hc,e⟩:=aM.mp hx;have hk:k<s:=by have:=(aO.mp hc).1;rwa[aX]at this
   have ec:c=k:=by
    rw[bO hk]at hc;exact (bY hc).symm
   subst ec;subst e;refine⟨by rw[aa];exact bw (show ms.length<=16 by omega) (by decide),?_⟩;have hus:=Uh ls b t ws[i]? c;rcases zbb (t:=t) G (c:=c) hi with ⟨e1,e2⟩ | ⟨j,e1,e2,e3⟩
   ·rw[e1];refine⟨_,rfl,rfl,_,rfl,wN ⟨rfl,ms,rfl,by omega,?_⟩⟩;rw[hus,e2,hms];omega
   ·rw[e1];refine⟨_,rfl,rfl,_,rfl,qd ?_⟩;refine⟨_,rfl,_,rfl,lay,_,_,V.int ((Vf ls b t ws[i]? c:Nat):Int),rfl,rfl,SqL.of (m1 _ _ hlay),vo (by rw[ak,e3];rfl),rfl,ms++[((Vf ls b t ws[i]? c:Nat):Int)],by simp,by rw[aB,aU];omega,?_⟩;rw[dU,hms,hus];simp
  ·rintro ys H4 ⟨rfl,ms,rfl,hml,hms⟩ Dd hD;refine⟨Dd,ms,rfl,SqL.of zq,?_⟩;rw[hms,aa,aX];exact kk _ (m1.trans (zy hD))
def TQ(C:aq)(H:Hp)(p la:aq)(b:Nat)(ls ws:ZA)(L:Nat)(R:Nat->Hp->Prop):Prop:=∀L' H',L<=L'->TailsAt C H' p la b ls ws L'->Same (aw [la] H) (aw [la] H')->R L' H'
def zag(C:aq):Sp:=λvs H Q _=>∃(p la:aq) (b:Nat) (ls ws:ZA) (L t:Nat),vs=[.ref p,.int t]/\TailsAt C H p la b ls ws L/\GoodT b ls ws/\L<=1000/\t<1000 /\
 ∀lay:aq,TQ C H p la b ls ws L λL' H'=>L'<=max L (t+1)->aw [la] H' lay=some (.lst ((ur ls ws b t).map V.int))->Q (.ref lay) H'
theorem Qs:zG ["self","left","shorter"] ["self","left"] (zp vJ):={}
theorem ze5:((aD (ws.length+1)).map λi=>((under ls b t ws[i]? b:Nat):Int))=ur ls ws b (t+1):=by
 unfold ur;apply gH;intro i;rw[ak];by_cases h:i<ws.length
 ·rw[bO (by omega),cB (by rw[aa];exact h),ak,dG,aj h];rfl
 ·by_cases h2:i=ws.length
  ·subst h2;rw[bO (by omega),bG (by rw[aa];exact au _),aa,eG,dG,bN (au _)];rfl
  ·rw[bN (by rw[aX];omega),bN (by rw[aB,aa,aU];omega)];rfl
theorem zcx(D:Mt K C "Tails.layer" "layer" vJ An f fd)(xf:Mt K C "Tails.many_by" "many_by" uc Aw f1 fd1)(zB:ClT K mg C)(T:Blt mg)(U:zfm mg):FnOk P w K mg base CX0 2 f fd An (zag C):=by
 have WN:FnOk P w K mg base CX0 1 f1 fd1 Aw (JB C):=zcv xf zB T U;refine D.fn.ok Qs (λvs H Q E h=>?_) (λcdv A outer s H vs Q E hr h=>?_)
 ·obtain⟨p,la,b,ls,ws,L,t,rfl,_⟩:=h;rfl
 ·obtain⟨p,la,b,ls,ws,L,t,rfl,TA,G,hL,ht,kk⟩:=h;have h13:=G.h13;refine xu ?_;intro XX;let q1:Sq XX ((zj vJ).drop 1):=⟨_,zm (zE (zX (wJ K) (yZ K (pv 0)) (pv 1) (λ_ _=>rfl)))⟩
  let q2:Sq XX ((sb (zj vJ) 0 true).drop 1):=⟨_,zm (yw (Vx PySem.F.plainAttrs_list PySem.F.slot_list_append PySem.F.type_list_append qU (yZ K (pv 0)) (zc (wO (show CScope (zp vJ) _ "place" ["self","left","shorter"] ["shorter","self"] [2,0] from {}) rfl (yM rfl T.n_range (zc (zV xO (yZ K (pv 0)) zu) zf)) (λ_ _ _ _=>vU) (λ_ _ _ _=>(xZ xf zB.cl WN (hr.mono (by decide)) (pv 2) (zc (pv 1) (zc (pv 0) (zc (yZ K (pv 2)) zf)))))) zf)))⟩
  refine⟨_,(zg (JW bj (zP U7 (zH (xG K) (by rfl) T.n_len PySem.boot_len (zc (yZ K (pv 0)) zf)) (pv 1) (zT _))
    (zg (zU (i:=2) Qs.nd rfl (lE rfl) (zX (wJ K) (yZ K (pv 0)) (zcb Jw zu) (λ_ _=>rfl))) q2.p)) q1.p),?_⟩
  refine zad (λZ H2=>∃(v:Option V) (L':Nat),Z=[some (.ref p),some (.int t),v]/\L<=L'/\L'<=max L (t+1)/\TailsAt C H2 p la b ls ws L'/\Same (aw [la] H) (aw [la] H2))
   (λZ H2=>match H2 la with | some (.lst xs)=>t+1-xs.length | _=>0) ⟨none,L,rfl,au _,pJ _ _,TA,Same.refl _⟩ ?_ ?_
  ·rintro Z H2 ⟨v,L',rfl,hLL,hLm,TA2,m2⟩;obtain⟨dx,sa,srs,h1,h2,h3,h4⟩:=TA2.ob;obtain⟨lrs,g1,g2,g3⟩:=TA2.ly;have hl:lrs.length=L':=by have:=congrArg c7 g3;rwa[aa,aa,aX]at this
   have hp:=yj _ _ _ _ h1;have l1:=TA2.l1;refine⟨_,rfl,p,C,dx,_,_,rfl,hp,zB.cl,zB.n_layers,Vi _ _ _ _,la,_,rfl,.inl (SqL.of g1),_,rfl,_,_,rfl,rfl,_,rfl,?_⟩;rw[aa,hl];refine JC (λhc=>?_) (λhc=>?_)
   ·have hc':L'<=t:=by have:=of_decide_eq_true hc;omega
    have hlast:lrs[L'-1]?=some lrs[L'-1]:=aj (by omega);generalize hz:lrs[L'-1]=z at hlast;have hzm:z∈lrs:=aJ hlast;have hz2:z.2=ur ls ws b (L'-1):=by
     have e:=congrArg (λl=>l[L'-1]?) g3;simp only[ak,hlast,bO (show L'-1<L' by omega),dG]at e;exact bY e
    have elr:lrs=lrs.take (L'-1)++[z]:=by
     have e:=(pR (L'-1) lrs).symm;rw[gq (show L'-1<lrs.length by omega),hz,cN (by omega)]at e;exact e
    have eat:atI (lrs.map λz=>V.ref z.1) (-1)=some (V.ref z.1):=by
     rw[elr,aF];exact zjp _ _
    refine⟨_,rfl,p,C,dx,_,_,rfl,hp,zB.cl,zB.n_layers,Vi _ _ _ _,_,rfl,la,_,_,V.ref z.1,rfl,rfl,SqL.of g1,eat,?_⟩;refine⟨_,rfl,p,C,dx,_,_,rfl,hp,zB.cl,zB.n_layers,Vi _ _ _ _,.inl ⟨rfl,_,SqL.of g1⟩,?_⟩;refine⟨_,rfl,p,C,dx,_,_,rfl,hp,zB.cl,zB.n_outset,vR _ _ _ _,_,_,rfl,rfl,((ws.length:Int)+1),rfl,by omega,by omega,jF (lo:=0) (n:=((ws.length:Int)+1).toNat) (λi ys H4=>ys=(((aD i).map λi=>((under ls b (L'-1) ws[i]? b:Nat):Int))).map V.int/\Same H2 H4) ⟨rfl,Same.refl _⟩ ?_ ?_⟩
    ·rintro i ys H4 hi ⟨rfl,m4⟩;refine⟨by rw[aa,aa,aX];exact aA (show i<20 by omega) (by decide),?_⟩;unfold Vp;dsimp only;rw[if_pos rfl];have TA4:=TA2.same m4;have hp4:=m4 _ _ hp;refine⟨_,rfl,p,dx,_,rfl,hp4,xM _ _ _ _,_,rfl,_,rfl,_,rfl,p,C,dx,_,_,rfl,hp4,zB.cl,zB.n_base,zaW _ _ _ _,?_⟩;refine⟨p,la,b,ls,ws,L',L'-1,z.1,i,b,by rw[cM];rfl,TA4,G,?_,by omega,au _,λH5 m5=>⟨?_,m4.trans m5⟩⟩
     ·rw[<-hz2];exact m4 _ _ (yj _ _ _ _ (g2 z hzm))
     ·rw[cL,aF,aF];rfl
    rintro ys H4 ⟨rfl,m4⟩ q hq;rw[show ((ws.length:Int)+1).toNat=ws.length+1 by omega,ze5,show L'-1+1=L' by omega];have m5:=zy hq (o:=.lst ((ur ls ws b L').map V.int));have gla:=m5 _ _ (m4 _ _ g1);have nq:q≠la:=λe=>by rw[e,m4 _ _ g1]at hq;cases hq
    refine⟨la,_,_,rfl,rfl,gla,by rw[aa,hl];exact bw (show L'<=1000 by omega) (by decide),?_⟩;have m25:Same (aw [la] H2) (aw [la] (upd (upd H4 q (.lst ((ur ls ws b L').map V.int))) la (.lst (lrs.map (λz=>V.ref z.1)++[.ref q])))):=by
     rw[Uy (by simp)];exact (m4.trans m5).aw [la]
    refine⟨⟨_,L'+1,rfl,by omega,by omega,⟨⟨dx,sa,srs,m25 _ _ h1,m25 _ _ h2,λy hy=>m25 _ _ (h3 y hy),h4⟩,⟨lrs++[(q,ur ls ws b L')],by rw[zq];simp,λy hy=>?_,?_⟩,by omega⟩,m2.trans m25⟩,?_⟩
    ·rcases bf.mp hy with hy | hy
     ·exact m25 _ _ (g2 y hy)
     ·have e:y=(q,ur ls ws b L'):=by simpa using hy
      subst e;rw[Uy (by simp),yq (by simp[nq]),zq]
    ·rw[aF,g3,cL,aF];rfl
    ·show (match (upd (upd H4 q (.lst ((ur ls ws b L').map V.int))) la (.lst (lrs.map (λz=>V.ref z.1)++[.ref q]))) la with | some (.lst xs)=>t+1-xs.length | _=>0)<(match H2 la with | some (.lst xs)=>t+1-xs.length | _=>0);rw[zq,g1];show t+1-(lrs.map (λz=>V.ref z.1)++[V.ref q]).length<t+1-(lrs.map λz=>V.ref z.1).length;rw[aB,aa,aU];omega
   ·have hc':t<L':=by
     by_cases z:t<L'
     ·exact z
     ·exact absurd (decide_eq_true (by omega:(L':Int)<=t)) hc
    have hlast:lrs[t]?=some lrs[t]:=aj (by omega);generalize hz:lrs[t]=z at hlast;have hzm:z∈lrs:=aJ hlast;have hz2:z.2=ur ls ws b t:=by
     have e:=congrArg (λl=>l[t]?) g3;simp only[ak,hlast,bO hc',dG]at e;exact bY e
    refine⟨_,rfl,p,C,dx,_,_,rfl,hp,zB.cl,zB.n_layers,Vi _ _ _ _,_,rfl,la,_,_,V.ref z.1,rfl,rfl,SqL.of g1,vo (by rw[ak,hlast];rfl),?_⟩;exact kk z.1 L' H2 hLL TA2 m2 hLm (by rw[<-hz2];exact g2 z hzm)
  ·intro Z H2 Q Q' hq;rintro⟨v0,e0,a,C',dx,fs,v,h1,h2,h3,h4,h5,p',ys,h6,h7,v1,e1,i,j,e3,e4,k,e5,q⟩;exact⟨v0,e0,a,C',dx,fs,v,h1,h2,h3,h4,h5,p',ys,h6,h7,v1,e1,i,j,e3,e4,k,e5,hq _ _ q⟩
def YT(C:aq):Sp:=λvs H Q _=>∃(p la:aq) (b:Nat) (ls ws:ZA) (L i s t:Nat),vs=[.ref p,.int i,.int s,.int t]/\TailsAt C H p la b ls ws L/\GoodT b ls ws/\L<=1000/\t<1000/\i<=ws.length/\s<=b/\TQ C H p la b ls ws L λL' H'=>L'<=max L (t+1)->Q (.int (under ls b t ws[i]? s:Nat)) H'
theorem Q4:zG ["self","place","stop","left"] ["self","place","stop","left"] (zp vC):={}
theorem zdr(D:Mt K C "Tails.many_under" "many_under" vC As f fd)(wI:Mt K C "Tails.layer" "layer" vJ An f1 fd1)(xf:Mt K C "Tails.many_by" "many_by" uc Aw f2 fd2)(zB:ClT K mg C)(T:Blt mg)(U:zfm mg):FnOk P w K mg base CX0 3 f fd As (YT C):=by
 have WN:FnOk P w K mg base CX0 1 f2 fd2 Aw (JB C):=zcv xf zB T U;have qI:FnOk P w K mg base CX0 2 f1 fd1 An (zag C):=zcx wI xf zB T U;refine D.fn.ok Q4 (λvs H Q E h=>?_) (λcdv A outer s H vs Q E hr h=>?_)
 ·obtain⟨p,la,b,ls,ws,L,i,s,t,rfl,_⟩:=h;rfl
 ·obtain⟨p,la,b,ls,ws,L,i,s,t,rfl,TA,G,hL,ht,hi,hs,kk⟩:=h;obtain⟨dx,sa,srs,h1,h2,h3,h4⟩:=TA.ob;have hp:=yj _ _ _ _ h1;refine⟨_,(zm (zE (xZ xf zB.cl WN (hr.mono (by decide)) (pv 0) (zc (xZ wI zB.cl qI (hr.mono (by decide)) (pv 0) (zc (pv 3) zf)) (zc (pv 1) (zc (pv 2) zf)))))),?_⟩;refine⟨_,rfl,p,dx,_,rfl,hp,xM _ _ _ _,?_⟩;refine⟨_,rfl,p,dx,_,rfl,hp,xM _ _ _ _,_,rfl,p,la,b,ls,ws,L,t,rfl,TA,G,hL,ht,λlay L' H' hLL TA' m' hm hlay=>?_⟩;exact⟨_,rfl,_,rfl,p,la,b,ls,ws,L',t,lay,i,s,rfl,TA',G,yj _ _ _ _ hlay,hi,hs,λH2 m2=>kk L' H2 hLL (TA'.same m2) (m'.trans (m2.aw [la])) hm⟩
def w5(C:aq):Sp:=λvs H Q _=>∃(p la:aq) (b:Nat) (ls ws:ZA) (L t:Nat),vs=[.ref p,.int t]/\TailsAt C H p la b ls ws L/\GoodT b ls ws/\L<=1000/\t<1000/\TQ C H p la b ls ws L λL' H'=>L'<=max L (t+1)->Q (.int (vH ls b t:Nat)) H'
theorem Qw:zG ["self","size"] ["self","size"] (zp yH):={}
theorem zb0(D:Mt K C "Tails.many_within" "many_within" yH Ah f fd)(wI:Mt K C "Tails.layer" "layer" vJ An f1 fd1)(xf:Mt K C "Tails.many_by" "many_by" uc Aw f2 fd2)(zB:ClT K mg C)(T:Blt mg)(U:zfm mg):FnOk P w K mg base CX0 3 f fd Ah (w5 C):=by
 have qI:FnOk P w K mg base CX0 2 f1 fd1 An (zag C):=zcx wI xf zB T U;refine D.fn.ok Qw (λvs H Q E h=>?_) (λcdv A outer s H vs Q E hr h=>?_)
 ·obtain⟨p,la,b,ls,ws,L,t,rfl,_⟩:=h;rfl
 ·obtain⟨p,la,b,ls,ws,L,t,rfl,TA,G,hL,ht,kk⟩:=h;obtain⟨dx,sa,srs,h1,h2,h3,h4⟩:=TA.ob;have hp:=yj _ _ _ _ h1;refine⟨_,(zm (zE (zX (wJ K) (xZ wI zB.cl qI (hr.mono (by decide)) (pv 0) (zc (pv 1) zf)) (yZ K (pv 0)) (λ_ _=>rfl)))),?_⟩;refine⟨_,rfl,p,dx,_,rfl,hp,xM _ _ _ _,_,rfl,p,la,b,ls,ws,L,t,rfl,TA,G,hL,ht,λlay L' H' hLL TA' m' hm hlay=>?_⟩;obtain⟨dx',sa',srs',h1',h2',h3',h4'⟩:=TA'.ob;refine⟨_,rfl,p,C,dx',_,_,rfl,yj _ _ _ _ h1',zB.cl,zB.n_outset,vR _ _ _ _,lay,_,_,V.int ((vH ls b t:Nat):Int),rfl,rfl,SqL.of (yj _ _ _ _ hlay),vo ?_,kk L' H' hLL TA' m' hm⟩;unfold ur;rw[aF,bG (by rw[aa,aa];exact au _),aa,aa,eG];rfl
end
theorem zaK(G:GoodT b ls ws)(hi:i<=ws.length)(R:Rep ls b m ws[i]?)(hc:c<b):
  (∃j:Nat,stepV ls ws ws[i]? c=.int j/\j<=ws.length/\Rep ls b (m*b+c) ws[j]?)\/(stepV ls ws ws[i]? c=.non/\1<=m*b+c/\gd ls b (m*b+c)=false):=by
 have b2:=G.g.b2;have ep:∀h:¬ (ws[i]?=none/\c=0),stepV ls ws ws[i]? c=plc ls ws (ws[i]?.getD []++[(c:Int)]):=by
  intro h;cases hw:ws[i]? with
  |some x=>rfl
  |none=>
   rw[jm,if_neg (λz=>h ⟨hw,z⟩)];rfl
 rcases R.step G.ne b2 hc with ⟨h1,h2,h3⟩ | ⟨h0,⟨h1,h2⟩ | ⟨h1,h2,h3⟩⟩
 ·left;refine⟨ws.length,by rw[h1,jm,if_pos h2],au _,by rw[bN (au _)];exact h3⟩
 ·left;have hm:zY ls (ws[i]?.getD []++[(c:Int)])∈ws:=(G.s.mem _).mpr (Yx G.ne h1);have hlt:=gP.mpr hm;refine⟨ws.idxOf (zY ls (ws[i]?.getD []++[(c:Int)])),by rw[ep h0];unfold plc;rw[if_pos h1],d7 hlt,?_⟩;rw[aj hlt,iG hlt];exact h2
 ·right;exact⟨by rw[ep h0];unfold plc;rw[if_neg (by rw[h1];exact bu)],h2,h3⟩
section
variable {P:cg} {w:cT} {K:aN} {mg:cG->Option aG} {base:dR} {T0 C:aq}
theorem zb9{p la b:Nat}(TA:TailsAt C H p la b ls ws L)(G:GoodT b ls ws)(hi:i<=ws.length)(hc:c<b):
  ∃(dx sa:aq) (srs:List (aq×List V)) (z:aq×List V),H p=some (.ins C dx (Q3 b ws.length sa la))/\H sa=some (.lst (srs.map λz=>V.ref z.1))/\atI (srs.map λz=>V.ref z.1) (i:Int)=some (V.ref z.1)/\H z.1=some (.lst z.2)/\atI z.2 (c:Int)=some (stepV ls ws ws[i]? c):=by
 obtain⟨dx,sa,srs,h1,h2,h3,h4⟩:=TA.ob;have hrow:=UJ (ls:=ls) (b:=b) (by have:=G.g.b2;omega) hi;rw[<-h4,ak]at hrow;obtain⟨z,hz,ez⟩:=aM.mp hrow;refine⟨dx,sa,srs,z,yj _ _ _ _ h1,yj _ _ _ _ h2,vo (by rw[ak,hz];rfl),yj _ _ _ _ (h3 z (aJ hz)),vo ?_⟩;rw[ez,ak,bO hc];rfl
theorem TailsAt.obj{p la b:Nat}(TA:TailsAt C H p la b ls ws L):∃dx sa,H p=some (.ins C dx (Q3 b ws.length sa la)):=by
 obtain⟨dx,sa,srs,h1,_⟩:=TA.ob;exact⟨dx,sa,yj _ _ _ _ h1⟩
def jZ(C:aq):Sp:=λvs H Q _=>∃p la b ls ws L fa n,vs=[.ref p,.ref fa]/\TailsAt C H p la b ls ws L/\GoodT b ls ws/\L<=1000/\aw [la] H fa=some (.lst ((yJ b n).map V.int))/\n<2^900/\TQ C H p la b ls ws L λL' H'=>L'<=1000->Q (.int (many (gd ls b) n:Nat)) H'
theorem vd:zG ["self","figures","place","many","k"] ["self","figures"] (zp yG):={}
theorem zda(D:Mt K C "Tails.many_below" "many_below" yG Aj f fd)(yW:Mt K C "Tails.many_under" "many_under" vC As f1 fd1)(xK:FnOk P w K mg base CX0 3 f1 fd1 As (YT C))(zB:ClT K mg C)(T:Blt mg):FnOk P w K mg base CX0 4 f fd Aj (jZ C):=by
 refine D.fn.ok vd (λvs H Q E h=>?_) (λcdv A outer s H vs Q E hr h=>?_)
 ·obtain⟨p,la,b,ls,ws,L,fa,n,rfl,_⟩:=h;rfl
 ·obtain⟨p,la,b,ls,ws,L,fa,n,rfl,TA,G,hL,hf,hn,kk⟩:=h;have b2:=G.g.b2;have hlen:=uP b2 900 n hn;obtain⟨dx0,sa0,hp0⟩:=TA.obj;generalize hN:(yJ b n).length=N at hlen;have hnN:=W8 b2 hN;refine xu ?_;intro XX;let q1:Sq XX ((zj yG).drop 3):=⟨_,zm (zE (pv 3))⟩
  let q2:Sq XX ((sb (zj yG) 2 true).drop 2):=⟨_,zm (yx (zP zes (pv 2) uF (zT _))
     (zm (zE (pv 3)))
     zQ)⟩
  let q3:Sq XX ((sb (zj yG) 2 true).drop 1):=⟨_,zg (zU (i:=2) vd.nd rfl (aW rfl) (zX (wJ K) (zX (wJ K) (yZ K (pv 0)) (pv 2) (λ_ _=>rfl)) (zX (wJ K) (pv 1) (pv 4) (λ_ _=>rfl)) (λ_ _=>rfl))) q2.p⟩
  let q4:Sq XX ((zj yG).drop 2):=⟨_,zg (wR bj rfl (yM rfl T.n_range (zc (zH (xG K) (by rfl) T.n_len PySem.boot_len (zc (pv 1) zf)) zf)) (yV (i:=4) vd.nd rfl (aW rfl))
    (zg (zaS (i:=3) vd.nd rfl (aW rfl) (xZ yW zB.cl xK (hr.mono (by decide)) (pv 0) (zc (pv 2) (zc (zX (wJ K) (pv 1) (pv 4) (λ_ _=>rfl)) (zc (zV Zq (zV Zq (zH (xG K) (by rfl) T.n_len PySem.boot_len (zc (pv 1) zf)) (pv 4)) zu) zf)))) zbW) q3.p)) q1.p⟩
  let q5:Sq XX ((zj yG).drop 1):=⟨_,zg (zU (i:=3) vd.nd rfl (aW rfl) zu) q4.p⟩
  refine⟨_,(zg (zU (i:=2) vd.nd rfl (aW rfl) (yZ K (pv 0))) q5.p),?_⟩;refine⟨_,rfl,p,C,dx0,_,_,rfl,hp0,zB.cl,zB.n_outset,vR _ _ _ _,?_⟩;refine⟨_,rfl,fa,_,rfl,.inl (SqL.of (yj _ _ _ _ hf)),?_⟩;rw[aa,hN];refine⟨_,rfl,by omega,by omega,jL (lo:=0) (n:=(N:Int).toNat) (λk Z H2=>∃(v4:Option V) (i L':Nat),Z=[some (.ref p),some (.ref fa),some (.int i),some (.int (many (gd ls b) (n / b^(N-k)*b^(N-k)):Nat)),v4]/\i<=ws.length/\Rep ls b (n / b^(N-k)) ws[i]?/\L<=L'/\L'<=1000/\TailsAt C H2 p la b ls ws L'/\Same (aw [la] H) (aw [la] H2)) ⟨none,ws.length,L,?_,au _,?_,au _,hL,TA,Same.refl _⟩ ?_ ?_⟩
  ·rw[iD,fc hnN,d9];rfl
  ·rw[iD,fc hnN,bN (au _)];exact .inl ⟨rfl,rfl⟩
  ·rintro k Z H2 hk ⟨v4,i,L',rfl,hi,R,hLL,hL',TA2,m2⟩;have hkN:k<N:=by omega
   obtain⟨t,ht⟩:∃t,N-k=t+1:=⟨N-k-1,by omega⟩
   have et:N-1-k=t:=by omega
   have hfk:=ze7 b2 hN hkN;rw[et]at hfk;rw[ht]at R ⊢;have hnx:=zfz (b:=b) (n:=n) (t:=t) (by omega);have hcb:n / b^t % b<b:=iz _ (by omega);generalize hc:n / b^t % b=c at hfk hnx hcb;have hf2:=m2 _ _ hf;have hfH2:=yj _ _ _ _ hf2;obtain⟨dx2,sa2,hp2⟩:=TA2.obj;have hat:atI ((yJ b n).map V.int) (0+(k:Int))=some (V.int (c:Nat)):=by rw[cM];exact vo (by rw[ak,hfk];rfl)
   refine⟨_,rfl,_,rfl,p,dx2,_,rfl,hp2,xM _ _ _ _,_,rfl,_,rfl,_,rfl,fa,_,_,_,rfl,rfl,SqL.of hfH2,hat,_,rfl,fa,_,rfl,.inl (SqL.of hfH2),_,rfl,_,_,rfl,rfl,_,_,rfl,rfl,?_⟩;refine⟨p,la,b,ls,ws,L',i,c,t,?_,TA2,G,hL',by omega,hi,by omega,λL3 H3 hL3 TA3 m3 hmx=>?_⟩
   ·rw[aa,hN];show [V.ref p,V.int i,V.int c,V.int ((N:Int)-(0+(k:Int))-1)]=_;rw[show ((N:Int)-(0+(k:Int))-1)=(t:Int) by omega]
   have hL3':L3<=1000:=by omega
   have m23:=m2.trans m3;have hf3:=yj _ _ _ _ (m23 _ _ hf);refine⟨_,_,rfl,rfl,?_⟩;have eum:=Wx G.ne b2 R t (s:=c) (by omega);rw[<-hnx]at eum;obtain⟨dx3,sa3,srs3,z3,q1,q2,q3,q4,q5⟩:=zb9 TA3 G hi hcb;refine⟨_,rfl,p,C,dx3,_,_,rfl,q1,zB.cl,zB.n_steps,uW _ _ _ _,_,rfl,sa3,_,_,_,rfl,rfl,SqL.of q2,q3,_,rfl,_,rfl,fa,_,_,_,rfl,rfl,SqL.of hf3,hat,z3.1,_,_,_,rfl,rfl,SqL.of q4,q5,?_⟩;rcases zaK G hi R hcb with ⟨j,e1,e2,e3⟩ | ⟨e1,e2,e3⟩
   ·rw[e1];refine⟨_,rfl,rfl,_,rfl,wN ⟨some (.int (0+(k:Int))),j,L3,?_,e2,?_,by omega,hL3',TA3,m23⟩⟩
    ·rw[show N-(k+1)=t by omega,<-eum];show [_,_,_,some (V.int ((many (gd ls b) (n / b^(t+1)*b^(t+1)):Nat)+(under ls b t ws[i]? c:Nat):Int)),_]=[_,_,_,some (V.int ((many (gd ls b) (n / b^(t+1)*b^(t+1))+under ls b t ws[i]? c:Nat):Int)),_]
     rw[du]
    ·rw[show N-(k+1)=t by omega,hnx];exact e3
   ·rw[e1];refine⟨_,rfl,rfl,_,rfl,qd ⟨_,rfl,?_⟩⟩;have q:=kk L3 H3 (by omega) TA3 m23 hL3';rw[<-hnx]at e2 e3;have ebad:=zgs G.ne b2 e2 e3 t (r:=n % b^t) (d7 (iz _ (fD (by omega))));rw[dN,gC,dN]at ebad;rw[ebad,<-eum,du]at q;exact q
  ·rintro Z H2 ⟨v4,i,L',rfl,hi,R,hLL,hL',TA2,m2⟩;refine⟨_,rfl,?_⟩;have q:=kk L' H2 hLL TA2 m2 hL';rw[dg,eG,dD,Gu,rD];exact q
def J0(C:aq):Sp:=λvs H Q _=>∃(p la:aq) (b:Nat) (ls ws:ZA) (L i k t:Nat),vs=[.ref p,.int i,.int k,.int t]/\TailsAt C H p la b ls ws L/\GoodT b ls ws/\L<=1000/\t<1000/\i<=ws.length/\k<under ls b t ws[i]? b /\
 ∀c:Nat,c<b->under ls b t ws[i]? c<=k->k<under ls b t ws[i]? (c+1)->TQ C H p la b ls ws L λL' H'=>L'<=1000->Q (.int c) H'
theorem Zh:zG ["self","place","k","left","figure"] ["self","place","k","left"] (zp vY):={}
theorem zdZ(D:Mt K C "Tails.figure_at" "figure_at" vY Bf f fd)(yW:Mt K C "Tails.many_under" "many_under" vC As f1 fd1)(xK:FnOk P w K mg base CX0 3 f1 fd1 As (YT C))(zB:ClT K mg C)(T:Blt mg):FnOk P w K mg base CX0 4 f fd Bf (J0 C):=by
 refine D.fn.ok Zh (λvs H Q E h=>?_) (λcdv A outer s H vs Q E hr h=>?_)
 ·obtain⟨p,la,b,ls,ws,L,i,k,t,rfl,_⟩:=h;rfl
 ·obtain⟨p,la,b,ls,ws,L,i,k,t,rfl,TA,G,hL,ht,hi,hk,kk⟩:=h;refine xu ?_;intro XX;let q1:Sq XX ((zj vY).drop 2):=⟨_,zm (zE (pv 4))⟩
  let q2:Sq XX ((zj vY).drop 1):=⟨_,zg (JW bj (zP U7 (xZ yW zB.cl xK (hr.mono (by decide)) (pv 0) (zc (pv 1) (zc (zV xO (pv 4) zu) (zc (pv 3) zf)))) (pv 2) (zT _))
    (zm (zaS (i:=4) Zh.nd rfl (aW rfl) zu zbW))) q1.p⟩
  refine⟨_,(zg (zU (i:=4) Zh.nd rfl (aW rfl) zu) q2.p),?_⟩;refine zad (λZ H2=>∃(c L':Nat),Z=[some (.ref p),some (.int i),some (.int k),some (.int t),some (.int c)]/\c<b/\under ls b t ws[i]? c<=k/\L<=L'/\L'<=1000/\TailsAt C H2 p la b ls ws L'/\Same (aw [la] H) (aw [la] H2))
   (λZ _=>match Z with | [_,_,_,_,some (.int c)]=>b-c.toNat | _=>0) ⟨0,L,rfl,by have:=G.g.b2;omega,by rw[Jx];exact bK _,au _,hL,TA,Same.refl _⟩ ?_ ?_
  ·rintro Z H2 ⟨c,L',rfl,hc,hu,hLL,hL',TA2,m2⟩;obtain⟨dx2,sa2,hp2⟩:=TA2.obj;refine⟨_,rfl,p,dx2,_,rfl,hp2,xM _ _ _ _,_,rfl,_,rfl,_,_,rfl,rfl,_,rfl,p,la,b,ls,ws,L',i,c+1,t,rfl,TA2,G,hL',ht,hi,by omega,λL3 H3 hL3 TA3 m3 hmx=>?_⟩;refine⟨_,rfl,_,_,rfl,rfl,_,rfl,?_⟩;refine JC (λh1=>?_) (λh1=>?_)
   ·have h1':under ls b t ws[i]? (c+1)<=k:=by have:=of_decide_eq_true h1;omega
    have hcb:c+1<b:=by
     by_cases z:c+1<b
     ·exact z
     ·rw[show c+1=b by omega]at h1';omega
    refine⟨_,rfl,_,_,rfl,rfl,⟨c+1,L3,rfl,hcb,h1',by omega,by omega,TA3,m2.trans m3⟩,?_⟩;show b-((c:Int)+1).toNat<b-(c:Int).toNat;omega
   ·have h1':k<under ls b t ws[i]? (c+1):=by
     by_cases z:k<under ls b t ws[i]? (c+1)
     ·exact z
     ·exact absurd (decide_eq_true (by omega:((under ls b t ws[i]? (c+1):Nat):Int)<=k)) h1
    exact⟨_,rfl,kk c hc hu h1' L3 H3 (by omega) TA3 (m2.trans m3) (by omega)⟩
  ·intro Z H2 Q Q' hq;rintro⟨v0,e0,a,dx,fs,h1,h2,h3,v1,e1,v4,e4,i4,j4,e5,e6,v3,e3,p',la',b',ls',ws',L',i',s',t',g1,g2,g3,g4,g5,g6,g7,g8⟩;exact⟨v0,e0,a,dx,fs,h1,h2,h3,v1,e1,v4,e4,i4,j4,e5,e6,v3,e3,p',la',b',ls',ws',L',i',s',t',g1,g2,g3,g4,g5,g6,g7,λL2 H3 a1 a2 a3 a4=>by
    obtain⟨v2,e2,i2,j2,e7,e8,k2,e9,q⟩:=g8 L2 H3 a1 a2 a3 a4;exact⟨v2,e2,i2,j2,e7,e8,k2,e9,hq _ _ q⟩⟩
def jM(C:aq):Sp:=λvs H Q _=>∃(p la:aq) (b:Nat) (ls ws:ZA) (L sz k:Nat),vs=[.ref p,.int sz,.int k]/\TailsAt C H p la b ls ws L/\GoodT b ls ws/\L<=1000/\sz<1000/\k<many (gd ls b) (b^sz) /\
 ∀n:Nat,gd ls b n=true->many (gd ls b) n=k->n<b^sz->TQ C H p la b ls ws L λL' H'=>L'<=1000->Q (.int n) H'
theorem xN:zG ["self","size","k","place","n","left","figure"] ["self","size","k"] (zp yr):={}
theorem zez(D:Mt K C "Tails.number_at" "number_at" yr Ap f fd)(yW:Mt K C "Tails.many_under" "many_under" vC As f1 fd1)(xK:FnOk P w K mg base CX0 3 f1 fd1 As (YT C))(jV:Mt K C "Tails.figure_at" "figure_at" vY Bf f2 fd2)(Yr:FnOk P w K mg base CX0 4 f2 fd2 Bf (J0 C))(zB:ClT K mg C)(T:Blt mg):FnOk P w K mg base CX0 5 f fd Ap (jM C):=by
 refine D.fn.ok xN (λvs H Q E h=>?_) (λcdv A outer s H vs Q E hr h=>?_)
 ·obtain⟨p,la,b,ls,ws,L,sz,k,rfl,_⟩:=h;rfl
 ·obtain⟨p,la,b,ls,ws,L,sz,k,rfl,TA,G,hL,hsz,hk,kk⟩:=h;have b2:=G.g.b2;have b16:=G.g.b16;obtain⟨dx0,sa0,hp0⟩:=TA.obj;refine xu ?_;intro XX;let q1:Sq XX ((zj yr).drop 3):=⟨_,zm (zE (pv 4))⟩
  let q2:Sq XX ((sb (zj yr) 2 true).drop 3):=⟨_,zm (zU (i:=4) xN.nd rfl (aW rfl) (zV xO (zV Zj (pv 4) (yZ K (pv 0))) (pv 6)))⟩
  let q3:Sq XX ((sb (zj yr) 2 true).drop 2):=⟨_,zg (zU (i:=3) xN.nd rfl (aW rfl) (zX (wJ K) (zX (wJ K) (yZ K (pv 0)) (pv 3) (λ_ _=>rfl)) (pv 6) (λ_ _=>rfl))) q2.p⟩
  let q4:Sq XX ((sb (zj yr) 2 true).drop 1):=⟨_,zg (zaS (i:=2) xN.nd rfl (aW rfl) (xZ yW zB.cl xK (hr.mono (by decide)) (pv 0) (zc (pv 3) (zc (pv 6) (zc (pv 5) zf)))) zk6) q3.p⟩
  let q5:Sq XX ((zj yr).drop 2):=⟨_,zg (wR bj rfl (zhD rfl T.n_range (zc (zV Zq (pv 1) zu) (zc (zcb Jw zu) (zc (zcb Jw zu) zf)))) (yV (i:=5) xN.nd rfl (aW rfl))
    (zg (zU (i:=6) xN.nd rfl (aW rfl) (xZ jV zB.cl Yr (hr.mono (by decide)) (pv 0) (zc (pv 3) (zc (pv 2) (zc (pv 5) zf))))) q4.p)) q1.p⟩
  let q6:Sq XX ((zj yr).drop 1):=⟨_,zg (zU (i:=4) xN.nd rfl (aW rfl) zu) q5.p⟩
  refine⟨_,(zg (zU (i:=3) xN.nd rfl (aW rfl) (yZ K (pv 0))) q6.p),?_⟩;refine⟨_,rfl,p,C,dx0,_,_,rfl,hp0,zB.cl,zB.n_outset,vR _ _ _ _,?_⟩;refine⟨_,rfl,_,_,rfl,rfl,_,rfl,_,rfl,((sz:Int)-1),rfl,by omega,by omega,?_⟩;rw[show ((sz:Int)-1+1).toNat=sz by omega];refine zgE (lo:=(sz:Int)-1) (c:=-1) (n:=sz) (λj Z H2=>∃(v5 v6:Option V) (i m L':Nat),Z=[some (.ref p),some (.int sz),some (.int ((k:Int)-(many (gd ls b) (m*b^(sz-j)):Nat))),some (.int i),some (.int m),v5,v6]/\i<=ws.length/\Rep ls b m ws[i]?/\many (gd ls b) (m*b^(sz-j))<=k/\k<many (gd ls b) ((m+1)*b^(sz-j))/\L<=L'/\L'<=1000/\TailsAt C H2 p la b ls ws L'/\Same (aw [la] H) (aw [la] H2)) ⟨none,none,ws.length,0,L,?_,au _,?_,?_,?_,au _,hL,TA,Same.refl _⟩ ?_ ?_
  ·rw[d9];show [_,_,some (V.int k),_,_,_,_]=[_,_,some (V.int ((k:Int)-((0:Nat):Int))),_,_,_,_]
   rw[Int.natCast_zero,Int.sub_zero]
  ·rw[bN (au _)];exact .inl ⟨rfl,rfl⟩
  ·rw[d9];exact bK _
  ·rw[iD,dm,lJ];exact hk
  ·rintro j Z H2 hj ⟨v5,v6,i,m,L',rfl,hi,R,hlo,hhi,hLL,hL',TA2,m2⟩;obtain⟨t,ht⟩:∃t,sz-j=t+1:=⟨sz-j-1,by omega⟩
   rw[ht]at hlo hhi ⊢;have elft:((sz:Int)-1+(j:Int)*(-1))=(t:Int):=by omega
   rw[elft];have eb:=Wx G.ne b2 R t (s:=b) (au _);have eb2:(m*b+b)*b^t=(m+1)*b^(t+1):=by rw[cX,<-fY,fM]
   rw[eb2]at eb;obtain⟨k',hk'⟩:∃k',k=many (gd ls b) (m*b^(t+1))+k':=⟨k-many (gd ls b) (m*b^(t+1)),by omega⟩
   have ek:((k:Int)-(many (gd ls b) (m*b^(t+1)):Nat))=(k':Int):=by omega
   rw[ek];obtain⟨dx2,sa2,hp2⟩:=TA2.obj;refine⟨_,rfl,p,dx2,_,rfl,hp2,xM _ _ _ _,_,rfl,_,rfl,_,rfl,p,la,b,ls,ws,L',i,k',t,rfl,TA2,G,hL',by omega,hi,by omega,λc hc hu1 hu2 L3 H3 hL3 TA3 m3 hL3'=>?_⟩;obtain⟨dx3,sa3,hp3⟩:=TA3.obj;refine⟨_,rfl,_,rfl,p,dx3,_,rfl,hp3,xM _ _ _ _,_,rfl,_,rfl,_,rfl,p,la,b,ls,ws,L3,i,c,t,rfl,TA3,G,hL3',by omega,hi,by omega,λL4 H4 hL4 TA4 m4 hmx=>⟨_,_,rfl,rfl,?_⟩⟩;have m24:=m2.trans (m3.trans m4);obtain⟨dx4,sa4,srs4,z4,q1,q2,q3,q4,q5⟩:=zb9 TA4 G hi hc;refine⟨_,rfl,p,C,dx4,_,_,rfl,q1,zB.cl,zB.n_steps,uW _ _ _ _,_,rfl,sa4,_,_,_,rfl,rfl,SqL.of q2,q3,_,rfl,z4.1,_,_,_,rfl,rfl,SqL.of q4,q5,?_⟩;refine⟨_,rfl,_,rfl,p,C,dx4,_,_,rfl,q1,zB.cl,zB.n_base,zaW _ _ _ _,_,_,rfl,rfl,.inr ⟨by omega,by omega⟩,_,rfl,_,_,rfl,rfl,?_⟩;have e1:=Wx G.ne b2 R t (s:=c) (by omega);have e2:=Wx G.ne b2 R t (s:=c+1) (by omega);have hlo':many (gd ls b) ((m*b+c)*b^t)<=k:=by omega
   have hhi':k<many (gd ls b) ((m*b+c+1)*b^t):=by
    rw[show m*b+c+1=m*b+(c+1) by omega];omega
   rcases zaK G hi R hc with ⟨j',f1,f2,f3⟩ | ⟨f1,f2,f3⟩
   ·rw[f1];refine⟨some (.int t),some (.int c),j',m*b+c,L4,?_,f2,f3,?_,?_,by omega,by omega,TA4,m24⟩
    ·rw[show sz-(j+1)=t by omega];show [_,_,some (V.int ((k':Int)-(under ls b t ws[i]? c:Nat))),some (V.int (j':Nat)),some (V.int ((m:Int)*b+c)),_,_]=[_,_,some (V.int ((k:Int)-(many (gd ls b) ((m*b+c)*b^t):Nat))),some (V.int (j':Nat)),some (V.int ((m*b+c:Nat):Int)),_,_]
     rw[show ((k':Int)-(under ls b t ws[i]? c:Nat))=((k:Int)-(many (gd ls b) ((m*b+c)*b^t):Nat)) by omega,du,pL]
    ·rw[show sz-(j+1)=t by omega];exact hlo'
    ·rw[show sz-(j+1)=t by omega];exact hhi'
   ·exfalso;have eb3:=zgs G.ne b2 f2 f3 t (r:=b^t) (au _);rw[<-fM]at eb3;have:(m*b+c).succ=m*b+c+1:=rfl;rw[this]at eb3;omega
  ·rintro Z H2 ⟨v5,v6,i,m,L',rfl,hi,R,hlo,hhi,hLL,hL',TA2,m2⟩;rw[eG,dD,rD]at hlo hhi;have hg:gd ls b m=true:=by
    cases e:gd ls b m with
    |true=>rfl
    |false=>
     have:many (gd ls b) (m+1)=many (gd ls b) m:=by rw[many,e];rfl
     omega
   have em:many (gd ls b) m=k:=by
    have:many (gd ls b) (m+1)=many (gd ls b) m+1:=by rw[many,if_pos hg]
    omega
   refine⟨_,rfl,kk m hg em ?_ L' H2 hLL TA2 m2 hL'⟩;by_cases z:m<b^sz
   ·exact z
   ·have:=jP (gd ls b) (show b^sz<=m by omega);omega
end
theorem LT.off(h:LT T H)(hla:H la=some (.lst xs))(m:Same (aw [la] H) (aw [la] H')):LT T H':=by
 have go:∀c o,c≠la->H c=some o->H' c=some o:=λc o hc e=>by
  have hc':c∉[la]:=by simpa using hc
  have:=m c o (by rw[yq hc'];exact e);rwa[yq hc']at this
 have n0:T≠la:=cP (h.lst hla);rcases h with h | ⟨c,h1,h2⟩
 ·exact .inl (go _ _ n0 h)
 ·refine .inr ⟨c,go _ _ n0 h1,go _ _ (λz=>?_) h2⟩;rw[z,hla]at h2;cases h2
theorem zed{α:Type}{f:α->V}(h:∀a,f a=V.int 1):∀l:List α,(bc l.length [V.int 1]).flatten=l.map f
 |[]=>rfl
 |a::l=>by rw[bB,fB,gF,zed h l,bz,h a];rfl
section
variable {P:cg} {w:cT} {K:aN} {mg:cG->Option aG} {base:dR} {T0 C:aq}
def qQ(T0 C:aq):Sp:=λvs H Q _=>∃p dx r b bl zs,vs=[.ref p,.ref r]/\H p=some (.ins C dx [])/\RuleAt H r b bl zs/\GoodRule b (zs.map (·.2))/\LT T0 H /\
 ∀la ws H',TailsAt C H' p la b (zs.map (·.2)) ws 1->GoodT b (zs.map (·.2)) ws->(∀c o,c≠p->c≠T0->H c=some o->H' c=some o)->LT T0 H'->H la=none->Q .non H'
theorem Vd:zG ["self","rule","stands"] ["self","rule"] (zp vI):={}
theorem ziW(D:Mt K C "Tails.__init__" "__init__" vI Ai f fd)(tE:Df K mg "stands_of" xF ["bad"] f1 fd1)(qK:FnOk P w K mg base CX0 6 f1 fd1 ["bad"] (X8 T0))(Uj:Df K mg "all_steps" Zz Be f2 fd2)(Jk:FnOk P w K mg base CX0 6 f2 fd2 Be JX)(vD:Df K mg "lacks_all" qj Ag f3 fd3)(ud:FnOk P w K mg base CX0 2 f3 fd3 Ag Z4)(zB:ClT K mg C)(T:Blt mg):FnOk P w K mg base CX0 7 f fd Ai (qQ T0 C):=by
 refine D.fn.ok Vd (λvs H Q E h=>?_) (λcdv A outer s H vs Q E hr h=>?_)
 ·obtain⟨p,dx,r,b,bl,zs,rfl,_⟩:=h;rfl
 ·obtain⟨p,dx,r,b,bl,zs,rfl,hp,R,g,hT,kk⟩:=h;have h4:zs.length<=4:=by have:=g.len;rwa[aa]at this
  have gz:∀z∈zs,z.2≠[]/\z.2.length<=4:=λz hz=>⟨(g.st _ (bh.mpr ⟨z,hz,rfl⟩)).ne,(g.st _ (bh.mpr ⟨z,hz,rfl⟩)).len⟩
  have npT:p≠T0:=λz=>by
   rw[z]at hp;rcases hT with h | ⟨c,h,_⟩
   ·rw[h]at hp;cases hp
   ·rw[h]at hp;cases hp
  refine xu ?_;intro XX;let q1:Sq XX ((zj vI).drop 4):=⟨_,zm (Yv (pv 0) (yR (zc (zV ZZ (zV ziP (yR (zc zu zf)) (zH (xG K) (by rfl) T.n_len PySem.boot_len (zc (pv 2) zf))) (yR (zc (zfV (yX (zK vD ud (hr.mono (by decide)) (zc (zX (yP K) (pv 1) zu (λ_ _=>rfl)) (zc (yR (zc zu zf)) zf)))) zu zu) zf))) zf)) rfl)⟩
  let q2:Sq XX ((zj vI).drop 3):=⟨_,zg (Yv (pv 0) (zK Uj Jk (hr.mono (by decide)) (zc (pv 1) (zc (pv 2) zf))) rfl) q1.p⟩
  let q3:Sq XX ((zj vI).drop 2):=⟨_,zg (Yv (pv 0) (zH (xG K) (by rfl) T.n_len PySem.boot_len (zc (pv 2) zf)) rfl) q2.p⟩
  let q4:Sq XX ((zj vI).drop 1):=⟨_,zg (Yv (pv 0) (zX (yP K) (pv 1) zu (λ_ _=>rfl)) rfl) q3.p⟩
  refine⟨_,(zg (zU (i:=2) Vd.nd rfl (aW rfl) (zK tE qK (hr.mono (by decide)) (zc (zX (yP K) (pv 1) zu (λ_ _=>rfl)) zf))) q4.p),?_⟩;refine⟨_,rfl,r,_,_,V.ref bl,rfl,rfl,SqT.of R.tu,rfl,bl,zs,rfl,R.li,R.st,h4,gz,hT,λDd ws H1 hDn hD hws SL h13 mL hT1=>?_⟩;have R1:RuleAt H1 r b bl zs:=⟨mL _ _ (hT.tup R.tu) R.tu,mL _ _ (hT.lst R.li) R.li,λz hz=>mL _ _ (hT.lst (R.st z hz)) (R.st z hz)⟩
  have hp1:=mL _ _ npT hp;have rp:r≠p:=jg R1.tu hp1 (λz=>nomatch z);have lp:∀{c:aq} {xs:List V},H1 c=some (.lst xs)->c≠p:=λh=>jg h hp1 (λz=>nomatch z);refine⟨_,rfl,r,_,_,V.int b,rfl,rfl,SqT.of R1.tu,rfl,_,rfl,p,C,dx,_,rfl,hp1,zB.cl,zB.n_base,(by show 0<1000;decide),?_⟩;refine⟨_,rfl,Dd,_,rfl,.inl (SqL.of (by rw[zA (lp hD)];exact hD)),_,rfl,p,C,dx,_,rfl,zq,zB.cl,zB.n_outset,(by show 1<1000;decide),?_⟩;rw[zg3,aa];generalize hH3:upd H1 p (.ins C dx (yo "outset" (.int (ws.length:Nat)) (yo "base" (.int b) [])))=H3;have m3:∀c o,c≠p->H1 c=some o->H3 c=some o:=λc o hc e=>by rw[<-hH3,zA hc];exact e
  have hp3:H3 p=some (.ins C dx (yo "outset" (.int (ws.length:Nat)) (yo "base" (.int b) []))):=by rw[<-hH3,zq]
  have R3:RuleAt H3 r b bl zs:=⟨m3 _ _ rp R1.tu,m3 _ _ (lp R1.li) R1.li,λz hz=>m3 _ _ (lp (R1.st z hz)) (R1.st z hz)⟩
  refine⟨_,rfl,_,rfl,r,b,bl,zs,Dd,ws,rfl,R3,g,m3 _ _ (lp hD) hD,λz hz=>m3 _ _ (lp (hws z hz).2.1) (hws z hz).2.1,SL,h13,λsa srs H4 hsa m4 hsal hsrs hsr2=>?_⟩;have hp4:=m4 _ _ hp3;have len2:(yo "outset" (.int (ws.length:Nat)) (yo "base" (.int b) [])).length<=2:=ao (uR _ _ _) (fZ (uR _ _ _));refine⟨_,rfl,p,C,dx,_,rfl,hp4,zB.cl,zB.n_steps,by omega,?_⟩;generalize hH5:upd H4 p (.ins C dx (yo "steps" (.ref sa) (yo "outset" (.int (ws.length:Nat)) (yo "base" (.int b) []))))=H5;have m5:∀c o,c≠p->H4 c=some o->H5 c=some o:=λc o hc e=>by rw[<-hH5,zA hc];exact e
  have hp5:H5 p=some (.ins C dx (yo "steps" (.ref sa) (yo "outset" (.int (ws.length:Nat)) (yo "base" (.int b) [])))):=by rw[<-hH5,zq]
  have lp4:∀{c:aq} {xs:List V},H4 c=some (.lst xs)->c≠p:=λh=>jg h hp4 (λz=>nomatch z);have R4:=R3.same m4;have R5:RuleAt H5 r b bl zs:=⟨m5 _ _ (jg R4.tu hp4 (λz=>nomatch z)) R4.tu,m5 _ _ (lp4 R4.li) R4.li,λz hz=>m5 _ _ (lp4 (R4.st z hz)) (R4.st z hz)⟩
  have hD5:H5 Dd=some (.lst (ws.map λz=>V.ref z.1)):=m5 _ _ (lp4 (m4 _ _ (m3 _ _ (lp hD) hD))) (m4 _ _ (m3 _ _ (lp hD) hD));refine⟨(by show 1<=aZ;decide),λq1 n1=>?_⟩;refine⟨_,rfl,Dd,_,rfl,.inl (SqL.of (zy n1 _ _ hD5)),?_⟩;rw[aa];refine⟨q1,_,_,rfl,rfl,zq,by omega,by omega,?_,λq2 n2=>?_⟩
  ·show 1*(ws.length:Int).toNat<=aZ;exact ao (show 1*(ws.length:Int).toNat<=13 by omega) (by decide)
  have s1:=zy n1 (o:=.lst [V.int 1]);have s2:=s1.trans (zy n2 (o:=.lst (bc (ws.length:Int).toNat [V.int 1]).flatten));have R6:=R5.same s2;refine⟨_,rfl,r,_,_,V.ref bl,rfl,rfl,SqT.of R6.tu,rfl,(by show 1<=aZ;decide),λq3 n3=>?_⟩;have s3:=s2.trans (zy n3 (o:=.lst [V.int 0]));have R7:=R5.same s3;refine⟨bl,q3,zs,[0],rfl,R7.li,R7.st,zq,by omega,by decide,λz hz=>⟨(gz z hz).1,ao (gz z hz).2 (by decide)⟩,λH8 s8=>⟨_,rfl,?_⟩⟩;have s38:=s3.trans s8;have fin:∀x:Int,x=((vH (zs.map (·.2)) b 0:Nat):Int)->∀q4,H8 q4=none->q2≠q4->∀q5,upd H8 q4 (.lst [V.int x]) q5=none->∀q6,upd (upd H8 q4 (.lst [V.int x])) q5 (.lst ((bc (ws.length:Int).toNat [V.int 1]).flatten++[V.int x])) q6=none ->
    Q .non (upd (upd (upd (upd H8 q4 (.lst [V.int x])) q5 (.lst ((bc (ws.length:Int).toNat [V.int 1]).flatten++[V.int x]))) q6 (.lst [V.ref q5])) p (.ins C dx (yo "layers" (.ref q6) (yo "steps" (.ref sa) (yo "outset" (.int (ws.length:Nat)) (yo "base" (.int b) [])))))):=by
   intro x hx q4 n4 _ q5 n5 q6 n6;have t4:=zy n4 (o:=.lst [V.int x]);have t5:=zy n5 (o:=.lst ((bc (ws.length:Int).toNat [V.int 1]).flatten++[V.int x]));have t6:=zy n6 (o:=.lst [V.ref q5]);have t46:=t4.trans (t5.trans t6);have s56:=s38.trans t46;have hp9:=s56 _ _ hp5;have f5:∀c,H5 c=none->H c=none:=λc hc=>by
    have h5:H4 c=none:=by
     rw[<-hH5]at hc;by_cases z:c=p
     ·subst z;rw[zq]at hc;cases hc
     ·rwa[zA z]at hc
    have h3':H3 c=none:=m4.free h5;have h1':H1 c=none:=by
     rw[<-hH3]at h3';by_cases z:c=p
     ·subst z;rw[zq]at h3';cases h3'
     ·rwa[zA z]at h3'
    cases e:H c with
    |none=>rfl
    |some o=>
     by_cases z:c=T0
     ·subst z;exact absurd h1' (by
       rcases hT1 with h | ⟨d,h,_⟩
       ·rw[h];simp
       ·rw[h];simp)
     ·rw[mL c o z e]at h1';cases h1'
   have q6H5:H5 q6=none:=(s38.trans (t4.trans t5)).free n6;have q6p:q6≠p:=λz=>by rw[z,hp5]at q6H5;cases q6H5
   have np5:q5≠q6:=λz=>by rw[<-z,zq]at n6;cases n6
   generalize hH9:upd (upd (upd H8 q4 (.lst [V.int x])) q5 (.lst ((bc (ws.length:Int).toNat [V.int 1]).flatten++[V.int x]))) q6 (.lst [V.ref q5])=H9 at t6 t46 s56 hp9;have hq6:H9 q6=some (.lst [V.ref q5]):=by rw[<-hH9,zq]
   have hq5:H9 q5=some (.lst ((bc (ws.length:Int).toNat [V.int 1]).flatten++[V.int x])):=by rw[<-hH9,zA np5,zq]
   have q5p:q5≠p:=jg hq5 hp9 (λz=>nomatch z);have off:∀c o,c≠p->H5 c=some o->aw [q6] (upd H9 p (.ins C dx (Q3 b ws.length sa q6))) c=some o:=λc o hc e=>by
    have hcq:c≠q6:=zF e q6H5;rw[yq (by simpa using hcq),zA hc];exact s56 c o e
   have sa4:H4 sa=some (.lst (srs.map λz=>V.ref z.1)):=hsal;have l1:∀{c:aq} {xs:List V},H4 c=some (.lst xs)->H5 c=some (.lst xs)/\c≠p:=λh=>⟨m5 _ _ (lp4 h) h,lp4 h⟩
   refine kk q6 (ws.map (·.2)) _ ⟨⟨dx,sa,srs,?_,off _ _ (l1 hsal).2 (l1 hsal).1,λz hz=>off _ _ (l1 (hsrs z hz).2).2 (l1 (hsrs z hz).2).1,hsr2⟩,⟨[(q5,ur (zs.map (·.2)) (ws.map (·.2)) b 0)],by rw[zA q6p];exact hq6,λz hz=>?_,rfl⟩,au _⟩ ⟨g,SL,by rw[aa];exact h13⟩ (λc o hc hcT e=>?_) ?_ (f5 _ q6H5)
   ·rw[yq (by simpa using cP q6p),aa];exact zq
   ·have e:z=(q5,ur (zs.map (·.2)) (ws.map (·.2)) b 0):=by simpa using hz
    subst e;rw[yq (by simpa using np5),zA q5p,hq5];congr 2;unfold ur;rw[aF,hx,dg,d8,d8];rw[zed (λ_=>rfl) ws];rfl
   ·rw[zA hc];have h1:=mL c o hcT e;exact s56 c o (m5 c o hc (m4 c o (m3 c o hc h1)))
   ·have a1:LT T0 H3:=by
     rcases hT1 with h | ⟨d,h1,h2⟩
     ·exact .inl (m3 _ _ (cP npT) h)
     ·exact .inr ⟨d,m3 _ _ (cP npT) h1,m3 _ _ (jg h2 hp1 (λz=>nomatch z)) h2⟩
    have a2:=a1.same m4;have a3:LT T0 H5:=by
     rcases a2 with h | ⟨d,h1,h2⟩
     ·exact .inl (m5 _ _ (cP npT) h)
     ·exact .inr ⟨d,m5 _ _ (cP npT) h1,m5 _ _ (jg h2 hp4 (λz=>nomatch z)) h2⟩
    have a4:=a3.same s56;rcases a4 with h | ⟨d,h1,h2⟩
    ·exact .inl (by rw[zA (cP npT)];exact h)
    ·exact .inr ⟨d,by rw[zA (cP npT)];exact h1,by rw[zA (jg h2 hp9 (λz=>nomatch z))];exact h2⟩
  have hq2:H8 q2=some (.lst (bc (ws.length:Int).toNat [V.int 1]).flatten):=s8 _ _ (zy n3 _ _ zq);have lenr:(bc (ws.length:Int).toNat [V.int 1]).flatten.length<=13:=by rw[dg,zed (f:=λ_=>V.int 1) (λ_=>rfl) ws,aa];exact h13
  have len3:(yo "steps" (.ref sa) (yo "outset" (.int (ws.length:Nat)) (yo "base" (.int b) []))).length<=3:=ao (uR _ _ _) (fZ len2);cases hlk:lacks (zs.map (·.2)) [0]
  case' true=>
   refine qd ⟨(by show 1<=aZ;decide),λq4 n4=>?_⟩;have hx:(1:Int)=((vH (zs.map (·.2)) b 0:Nat):Int):=by unfold vH;rw[hlk];rfl
  case' false=>
   refine wN ⟨(by show 1<=aZ;decide),λq4 n4=>?_⟩;have hx:(0:Int)=((vH (zs.map (·.2)) b 0:Nat):Int):=by unfold vH;rw[hlk];rfl
  all_goals
   have nq:q2≠q4:=zF hq2 n4;refine⟨q2,q4,_,_,rfl,rfl,by rw[zA nq];exact hq2,zq,ao (Ej lenr (au 1)) (by decide),λq5 n5=>⟨(by show 1<=aZ;decide),λq6 n6=>?_⟩⟩;have hp8:=s38 _ _ hp5;exact⟨_,rfl,p,C,dx,_,rfl,(zy n4).trans ((zy n5).trans (zy n6)) _ _ hp8,zB.cl,zB.n_layers,by omega,fin _ hx q4 n4 nq q5 n5 q6 n6⟩
def Ql(C:aq):Sp:=λvs H Q _=>∃p la b ls ws L,vs=[.ref p]/\TailsAt C H p la b ls ws L/\GoodT b ls ws/\L<=1000/\TQ C H p la b ls ws L λL' H'=>L'<=1000->Q (.bl (decide (vH ls b ws.length<vH ls b (ws.length+1)))) H'
end
theorem zbJ(nx:H x=none)(ndx:H dx=none):Same H (upd (upd H dx (.own x)) x (.ins C dx [])):=λb o e=>by
 rw[zA (zF e nx),zA (zF e ndx)];exact e
theorem Zx(m:SameL T0 H H1)(hla:H la=none)(a:Same (aw [la] H1) (aw [la] H2)):SameL T0 H H2:=λc o hc e=>by
 have hcl:c∉[la]:=by simpa using zF e hla
 have:=a c o (by rw[yq hcl];exact m c o hc e);rwa[yq hcl]at this
theorem TailsAt.la{C p la b:Nat}(TA:TailsAt C H p la b ls ws L):∃xs,H la=some (.lst xs):=let ⟨_,h,_⟩:=TA.ly;⟨_,h⟩
section
variable {P:cg} {w:cT} {K:aN} {mg:cG->Option aG} {base:dR} {T0 C:aq}
def zl7(T0 C:aq)(b:Nat)(ls:ZA)(H:Hp)(x:aq)(H':Hp):Prop:=∃la ws,TailsAt C H' x la b ls ws 1/\GoodT b ls ws/\SameL T0 H H'/\LT T0 H'/\H la=none
theorem Y8(R:RuleAt H r b bl zs)(g:GoodRule b (zs.map (·.2)))(hT:LT T0 H){R':aq->Hp->Prop}(k:∀x H',zl7 T0 C b (zs.map (·.2)) H x H'->R' x H'):
  ∀x dx,H x=none->H dx=none->dx≠x->qQ T0 C (.ref x::([.ref r]++[])) (upd (upd H dx (.own x)) x (.ins C dx [])) (λv H2=>v=.non/\R' x H2) E0:=by
 intro x dx nx ndx nex;have s0:=zbJ (C:=C) nx ndx;refine⟨x,dx,r,b,bl,zs,rfl,zq,R.same s0,g,hT.same s0,λla ws H' TA G fr hT' hla=>⟨rfl,k x H' ⟨la,ws,TA,G,λc o hc e=>fr c o (zF e nx) hc (s0 c o e),hT',s0.free hla⟩⟩⟩
theorem QC:zG ["self"] ["self"] (zp tL):={}
theorem zcJ(D:Mt K C "Tails.are_endless" "are_endless" tL Ao f fd)(zM:Mt K C "Tails.many_within" "many_within" yH Ah f1 fd1)(zN:FnOk P w K mg base CX0 3 f1 fd1 Ah (w5 C))(zB:ClT K mg C):FnOk P w K mg base CX0 4 f fd Ao (Ql C):=by
 refine D.fn.ok QC (λvs H Q E h=>?_) (λcdv A outer s H vs Q E hr h=>?_)
 ·obtain⟨p,la,b,ls,ws,L,rfl,_⟩:=h;rfl
 ·obtain⟨p,la,b,ls,ws,L,rfl,TA,G,hL,kk⟩:=h;have h13:=G.h13;obtain⟨dx,sa,hp⟩:=TA.obj;refine⟨_,(zm (zE (ul zaj (xZ zM zB.cl zN (hr.mono (by decide)) (pv 0) (zc (zV xO (yZ K (pv 0)) zu) zf)) (xZ zM zB.cl zN (hr.mono (by decide)) (pv 0) (zc (yZ K (pv 0)) zf)) (zT _)))),?_⟩;refine⟨_,rfl,p,dx,_,rfl,hp,xM _ _ _ _,_,rfl,p,C,dx,_,_,rfl,hp,zB.cl,zB.n_outset,vR _ _ _ _,_,_,rfl,rfl,p,la,b,ls,ws,L,ws.length+1,by rw[du];rfl,TA,G,hL,by omega,λL2 H2 hL2 TA2 m2 hmx=>?_⟩;obtain⟨dx2,sa2,hp2⟩:=TA2.obj;refine⟨_,rfl,p,dx2,_,rfl,hp2,xM _ _ _ _,_,rfl,p,C,dx2,_,_,rfl,hp2,zB.cl,zB.n_outset,vR _ _ _ _,p,la,b,ls,ws,L2,ws.length,rfl,TA2,G,by omega,by omega,λL3 H3 hL3 TA3 m3 hmx3=>⟨_,_,rfl,rfl,?_⟩⟩;have q:=kk L3 H3 (by omega) TA3 (m2.trans m3) (by omega);rw[show decide (vH ls b ws.length<vH ls b (ws.length+1))=decide (((vH ls b ws.length:Nat):Int)<((vH ls b (ws.length+1):Nat):Int)) by rw[bD];simp]at q;exact q
def ziy(ls:ZA)(b k:Nat)(v:V):Prop:=(k<many (gd ls b) (b^60)/\∃g:Nat,v=.int g/\gd ls b g=true/\many (gd ls b) g=k/\g<b^60)\/(many (gd ls b) (b^60)<=k/\v=.non)
def zcw(C:aq):Sp:=λvs H Q _=>∃(p la:aq) (b:Nat) (ls ws:ZA) (L k:Nat),vs=[.ref p,.int k]/\TailsAt C H p la b ls ws L/\GoodT b ls ws/\L<=1000/\(k<many (gd ls b) (b^60)\/¬ vH ls b ws.length<vH ls b (ws.length+1)) /\
 ∀v,ziy ls b k v->TQ C H p la b ls ws L λL' H'=>L'<=1000->Q v H'
theorem zcl:zG ["tails","k","size"] ["tails","k"] (zp YC):={}
theorem zgl(D:Df K mg "good_at" YC Bg f fd)(xn:Df K mg "check_number" uz Aa f1 fd1)(xQ:FnOk P w K mg base CX0 3 f1 fd1 Aa qM)(zM:Mt K C "Tails.many_within" "many_within" yH Ah f2 fd2)(zN:FnOk P w K mg base CX0 3 f2 fd2 Ah (w5 C))(yp:Mt K C "Tails.number_at" "number_at" yr Ap f3 fd3)(yt:FnOk P w K mg base CX0 5 f3 fd3 Ap (jM C))(qz:Mt K C "Tails.are_endless" "are_endless" tL Ao f4 fd4)(Zo:FnOk P w K mg base CX0 4 f4 fd4 Ao (Ql C))(zB:ClT K mg C)(tM:mg "MOST_FIGURES"= some (.int 60 t1))(T:Blt mg):FnOk P w K mg base CX0 6 f fd Bg (zcw C):=by
 refine D.fn.ok zcl (λvs H Q E h=>?_) (λcdv A outer s H vs Q E hr h=>?_)
 ·obtain⟨p,la,b,ls,ws,L,k,rfl,_⟩:=h;rfl
 ·obtain⟨p,la,b,ls,ws,L,k,rfl,TA,G,hL,hpre,kk⟩:=h;have b2:=G.g.b2;refine xu ?_;intro XX;let q1:Sq XX ((zj YC).drop 3):=⟨_,zm (zE uF)⟩
  let q2:Sq XX ((zj YC).drop 2):=⟨_,zg (yx (yX (zgN qz zB.cl Zo (hr.mono (by decide)) (pv 0)))
    (zm uf)
    zQ) q1.p⟩
  let q3:Sq XX ((zj YC).drop 1):=⟨_,zg (wR bj rfl (yM rfl T.n_range (zc (zV xO (Z0 (v:=.int 60) rfl tM ⟨_,rfl⟩) zu) zf)) (yV (i:=2) zcl.nd rfl (aW rfl))
    (zm (yx (zP zaj (xZ zM zB.cl zN (hr.mono (by decide)) (pv 0) (zc (pv 2) zf)) (pv 1) (zT _))
     (zm (zE (xZ yp zB.cl yt (hr.mono (by decide)) (pv 0) (zc (pv 2) (zc (pv 1) zf)))))
     zQ))) q2.p⟩
  refine⟨_,(zg (yw (zK xn xQ (hr.mono (by decide)) (zc (pv 1) zf))) q3.p),?_⟩;refine⟨_,rfl,(k:Int),rfl,by omega,?_⟩;refine⟨_,_,rfl,rfl,61,rfl,by decide,by decide,jL (lo:=0) (n:=61) (λi Z H2=>∃(v2:Option V) (L':Nat),Z=[some (.ref p),some (.int k),v2]/\(∀j,j<i->many (gd ls b) (b^j)<=k)/\L<=L'/\L'<=1000/\TailsAt C H2 p la b ls ws L'/\Same (aw [la] H) (aw [la] H2)) ⟨none,L,rfl,λj hj=>by omega,au _,hL,TA,Same.refl _⟩ ?_ ?_⟩
  ·rintro i Z H2 hi ⟨v2,L',rfl,hno,hLL,hL',TA2,m2⟩;obtain⟨dx2,sa2,hp2⟩:=TA2.obj;refine⟨_,rfl,p,dx2,_,rfl,hp2,xM _ _ _ _,_,rfl,p,la,b,ls,ws,L',i,by rw[cM];rfl,TA2,G,hL',by omega,λL3 H3 hL3 TA3 m3 hmx=>?_⟩;rw[ux G.ne b2];refine⟨_,rfl,_,_,rfl,rfl,_,rfl,?_⟩;refine JC (λh1=>?_) (λh1=>?_)
   ·have h1':k<many (gd ls b) (b^i):=by have:=of_decide_eq_true h1;omega
    obtain⟨dx3,sa3,hp3⟩:=TA3.obj;refine⟨_,rfl,p,dx3,_,rfl,hp3,xM _ _ _ _,_,rfl,_,rfl,p,la,b,ls,ws,L3,i,k,by rw[cM];rfl,TA3,G,by omega,by omega,h1',λn hg hm hnb L4 H4 hL4 TA4 m4 hL4'=>?_⟩;have hpow:b^i<=b^60:=cH (by omega) (by omega);exact kk (.int n) (.inl ⟨aA h1' (jP _ hpow),n,rfl,hg,hm,aA hnb hpow⟩) L4 H4 (by omega) TA4 (m2.trans (m3.trans m4)) hL4'
   ·have h1':many (gd ls b) (b^i)<=k:=by
     by_cases z:many (gd ls b) (b^i)<=k
     ·exact z
     ·exact absurd (decide_eq_true (by omega:((k:Nat):Int)<(many (gd ls b) (b^i):Nat))) h1
    refine⟨_,L3,rfl,λj hj=>?_,by omega,by omega,TA3,m2.trans m3⟩;by_cases hji:j<i
    ·exact hno j hji
    ·rw[show j=i by omega];exact h1'
  ·rintro Z H2 ⟨v2,L',rfl,hno,hLL,hL',TA2,m2⟩;have h60:=hno 60 (by decide);obtain⟨dx2,sa2,hp2⟩:=TA2.obj;refine⟨_,rfl,p,dx2,_,rfl,hp2,xM _ _ _ _,p,la,b,ls,ws,L',rfl,TA2,G,hL',λL3 H3 hL3 TA3 m3 hL3'=>⟨_,rfl,?_⟩⟩;rw[decide_eq_false (by rcases hpre with h | h;omega;exact h)];exact wN (kk .non (.inr ⟨h60,rfl⟩) L3 H3 (by omega) TA3 (m2.trans m3) hL3')
def ju(T0:aq):Sp:=λvs H Q _=>∃(r:aq) (b:Nat) (bl:aq) (zs:ZB) (n:Nat),vs=[.ref r,.int n]/\RuleAt H r b bl zs/\GoodRule b (zs.map (·.2))/\n<2^900/\LT T0 H/\∀H',SameL T0 H H'->LT T0 H'->Q (.int (many (gd (zs.map (·.2)) b) n:Nat)) H'
theorem zcF:zG ["rule","n"] ["rule","n"] (zp uZ):={}
theorem zc5(D:Df K mg "count_below" uZ Ab f fd)(zJ:Df K mg "check_rule" yD Aa f1 fd1)(zL:FnOk P w K mg base CX0 7 f1 fd1 Aa yF)(ye:Df K mg "figures_of" wG Ae f2 fd2)(yh:FnOk P w K mg base CX0 4 f2 fd2 Ae wD)(wU:Mk K C f3)(wQ:Binds K fd3 ["self","rule"] [])(zZ:FnOk P w K mg base CX0 7 f3 fd3 Ai (qQ T0 C))(yE:Mt K C "Tails.many_below" "many_below" yG Aj f4 fd4)(yK:FnOk P w K mg base CX0 4 f4 fd4 Aj (jZ C))(zB:ClT K mg C):FnOk P w K mg base CX0 9 f fd Ab (ju T0):=by
 refine D.fn.ok zcF (λvs H Q E h=>?_) (λcdv A outer s H vs Q E hr h=>?_)
 ·obtain⟨r,b,bl,zs,n,rfl,_⟩:=h;rfl
 ·obtain⟨r,b,bl,zs,n,rfl,R,g,hn,hT,kk⟩:=h;refine xu ?_;intro XX;let q1:Sq XX ((zj uZ).drop 1):=⟨_,zm (zE (xZ yE zB.cl yK (hr.mono (by decide)) (jc wU zZ (hr.mono (by decide)) rfl zB.nm wQ .nil Xf (zc (pv 0) zf)) (zc (zK ye yh (hr.mono (by decide)) (zc (zX (yP K) (pv 0) zu (λ_ _=>rfl)) (zc (pv 1) zf))) zf)))⟩
  refine⟨_,(zg (yw (zK zJ zL (hr.mono (by decide)) (zc (pv 0) zf))) q1.p),?_⟩;refine⟨_,rfl,r,b,bl,zs,rfl,R,g,λH1 m1=>?_⟩;refine⟨_,rfl,?_⟩;refine Y8 (R.same m1) g (hT.same m1) ?_;rintro x H2 ⟨la,ws,TA,G,mL,hT2,hla⟩;obtain⟨dx2,sa2,hp2⟩:=TA.obj;have R2:=(R.same m1).sameL (hT.same m1) mL;refine⟨x,dx2,_,rfl,hp2,xM _ _ _ _,?_⟩;refine⟨_,rfl,r,_,_,V.int b,rfl,rfl,SqT.of R2.tu,rfl,_,rfl,b,n,rfl,g.b2,g.b16,hn,λl H3 hl hv m3=>?_⟩;obtain⟨xs,hla2⟩:=TA.la;have nl:l≠la:=λz=>by rw[z,hla2]at hl;cases hl
  refine⟨x,la,b,_,ws,1,l,n,rfl,TA.same m3,G,by decide,by rw[yq (by simpa using nl)];exact hv,hn,λL4 H4 hL4 TA4 m4 hL4'=>?_⟩;have mL3:SameL T0 H1 H3:=mL.trans (.of m3);have mL4:=Zx mL3 hla m4;exact kk H4 ((SameL.of m1).trans mL4) ((hT2.same m3).off (m3 _ _ hla2) m4)
def zl5(ls:ZA)(b n:Nat)(v:V):Prop:=(v=.non/\∀g,n<=g->gd ls b g=false)\/∃g:Nat,v=.int g/\n<=g/\gd ls b g=true/\many (gd ls b) g=many (gd ls b) n/\g<256*(n+1)
def zl2(ls:ZA)(b n:Nat)(v:V):Prop:=(v=.non/\many (gd ls b) n=0)\/∃g:Nat,v=.int g/\g<n/\gd ls b g=true/\many (gd ls b) g+1=many (gd ls b) n
def jz(T0:aq)(pre:ZA->Nat->Nat->Prop)(R:ZA->Nat->Nat->V->Prop):Sp:=λvs H Q _=>∃(r:aq) (b:Nat) (bl:aq) (zs:ZB) (n:Nat),vs=[.ref r,.int n]/\RuleAt H r b bl zs/\GoodRule b (zs.map (·.2))/\pre (zs.map (·.2)) b n/\LT T0 H/\∀v H',R (zs.map (·.2)) b n v->SameL T0 H H'->LT T0 H'->Q v H'
abbrev Wa(T0:aq):Sp:=jz T0 (λ_ _ n=>n<2^850) zl5
abbrev XM(T0:aq):Sp:=jz T0 (λ_ _ n=>n<2^850) zl2
theorem Yg:zG ["rule","n","figures","tails","k","size"] ["rule","n"] (zp vN):={}
theorem zeo(D:Df K mg "next_good" vN Ab f fd)(zJ:Df K mg "check_rule" yD Aa f1 fd1)(zL:FnOk P w K mg base CX0 7 f1 fd1 Aa yF)(ye:Df K mg "figures_of" wG Ae f2 fd2)(yh:FnOk P w K mg base CX0 4 f2 fd2 Ae wD)(wU:Mk K C f3)(wQ:Binds K fd3 ["self","rule"] [])(zZ:FnOk P w K mg base CX0 7 f3 fd3 Ai (qQ T0 C))(yE:Mt K C "Tails.many_below" "many_below" yG Aj f4 fd4)(yK:FnOk P w K mg base CX0 4 f4 fd4 Aj (jZ C))(zM:Mt K C "Tails.many_within" "many_within" yH Ah f5 fd5)(zN:FnOk P w K mg base CX0 3 f5 fd5 Ah (w5 C))(yp:Mt K C "Tails.number_at" "number_at" yr Ap f6 fd6)(yt:FnOk P w K mg base CX0 5 f6 fd6 Ap (jM C))(zB:ClT K mg C)(T:Blt mg):FnOk P w K mg base CX0 9 f fd Ab (Wa T0):=by
 refine D.fn.ok Yg (λvs H Q E h=>?_) (λcdv A outer s H vs Q E hr h=>?_)
 ·obtain⟨r,b,bl,zs,n,rfl,_⟩:=h;rfl
 ·obtain⟨r,b,bl,zs,n,rfl,R,g,hn,hT,kk⟩:=h;have hn9:n<2^900:=by omega
  have hlen:=uP g.b2 850 n hn;refine xu ?_;intro XX;let q1:Sq XX ((zj vN).drop 6):=⟨_,zm (zE uF)⟩
  let q2:Sq XX ((zj vN).drop 5):=⟨_,zg (yx (zP zaj (xZ zM zB.cl zN (hr.mono (by decide)) (pv 3) (zc (pv 5) zf)) (pv 4) (zT _))
    (zm (zE (xZ yp zB.cl yt (hr.mono (by decide)) (pv 3) (zc (pv 5) (zc (pv 4) zf)))))
    zQ) q1.p⟩
  let q3:Sq XX ((zj vN).drop 4):=⟨_,zg (zU (i:=5) Yg.nd rfl (aW rfl) (zV xO (zH (xG K) (by rfl) T.n_len PySem.boot_len (zc (pv 2) zf)) zu)) q2.p⟩
  let q4:Sq XX ((zj vN).drop 3):=⟨_,zg (zU (i:=4) Yg.nd rfl (aW rfl) (xZ yE zB.cl yK (hr.mono (by decide)) (pv 3) (zc (pv 2) zf))) q3.p⟩
  let q5:Sq XX ((zj vN).drop 2):=⟨_,zg (zU (i:=3) Yg.nd rfl (aW rfl) (jc wU zZ (hr.mono (by decide)) rfl zB.nm wQ .nil Xf (zc (pv 0) zf))) q4.p⟩
  let q6:Sq XX ((zj vN).drop 1):=⟨_,zg (zU (i:=2) Yg.nd rfl (aW rfl) (zK ye yh (hr.mono (by decide)) (zc (zX (yP K) (pv 0) zu (λ_ _=>rfl)) (zc (pv 1) zf)))) q5.p⟩
  refine⟨_,(zg (yw (zK zJ zL (hr.mono (by decide)) (zc (pv 0) zf))) q6.p),?_⟩;refine⟨_,rfl,r,b,bl,zs,rfl,R,g,λH1 m1=>?_⟩;have R1:=R.same m1;refine⟨_,rfl,r,_,_,V.int b,rfl,rfl,SqT.of R1.tu,rfl,_,rfl,b,n,rfl,g.b2,g.b16,hn9,λl H2 hl hv m2=>?_⟩;have m12:=m1.trans m2;refine⟨_,rfl,?_⟩;refine Y8 (R.same m12) g (hT.same m12) ?_;rintro x H3 ⟨la,ws,TA,G,mL,hT3,hla⟩;have hl3:=mL _ _ ((hT.same m12).lst hv) hv;have nl:l≠la:=λz=>by rw[z,hla]at hv;cases hv
  obtain⟨xs,hla3⟩:=TA.la;obtain⟨dx3,sa3,hp3⟩:=TA.obj;refine⟨_,rfl,x,dx3,_,rfl,hp3,xM _ _ _ _,_,rfl,x,la,b,_,ws,1,l,n,rfl,TA,G,by decide,by rw[yq (by simpa using nl)];exact hl3,hn9,λL4 H4 hL4 TA4 m4 hL4'=>?_⟩;have hl4:aw [la] H4 l=some (.lst ((yJ b n).map V.int)):=m4 _ _ (by rw[yq (by simpa using nl)];exact hl3);refine⟨_,rfl,l,_,rfl,.inl (SqL.of (yj _ _ _ _ hl4)),_,_,rfl,rfl,?_⟩;rw[aa];obtain⟨dx4,sa4,hp4⟩:=TA4.obj;refine⟨_,rfl,x,dx4,_,rfl,hp4,xM _ _ _ _,_,rfl,x,la,b,_,ws,L4,(yJ b n).length+1,by rw[du];rfl,TA4,G,hL4',by omega,λL5 H5 hL5 TA5 m5 hmx=>?_⟩;rw[ux G.ne g.b2];refine⟨_,rfl,_,_,rfl,rfl,_,rfl,?_⟩;have m45:=m4.trans m5;have fin:∀H',Same (aw [la] H5) (aw [la] H')->SameL T0 H H'/\LT T0 H':=λH' m'=>⟨Zx ((SameL.of m12).trans mL) (m12.free hla) (m45.trans m'),hT3.off hla3 (m45.trans m')⟩
  refine JC (λh1=>?_) (λh1=>?_)
  ·have h1':many (gd (zs.map (·.2)) b) n<many (gd (zs.map (·.2)) b) (b^((yJ b n).length+1)):=by have:=of_decide_eq_true h1;omega
   obtain⟨dx5,sa5,hp5⟩:=TA5.obj;refine⟨_,rfl,x,dx5,_,rfl,hp5,xM _ _ _ _,_,rfl,_,rfl,x,la,b,_,ws,L5,(yJ b n).length+1,many (gd (zs.map (·.2)) b) n,by rw[du];rfl,TA5,G,by omega,by omega,h1',λq hg hm hq L6 H6 hL6 TA6 m6 hL6'=>?_⟩;obtain⟨a1,a2⟩:=fin H6 m6;exact kk _ H6 (.inr ⟨q,rfl,zgW hg (by omega),hg,hm,aA hq (zjH g.b2 g.b16 rfl)⟩) a1 a2
  ·have h1':many (gd (zs.map (·.2)) b) (b^((yJ b n).length+1))<=many (gd (zs.map (·.2)) b) n:=by
    by_cases z:many (gd (zs.map (·.2)) b) (b^((yJ b n).length+1))<=many (gd (zs.map (·.2)) b) n
    ·exact z
    ·exact absurd (decide_eq_true (by omega:((many (gd (zs.map (·.2)) b) n:Nat):Int)<(many (gd (zs.map (·.2)) b) (b^((yJ b n).length+1)):Nat))) h1
   obtain⟨a1,a2⟩:=fin H5 (Same.refl _);exact kk _ H5 (.inl ⟨rfl,zhG G.ne g.b2 rfl h1'⟩) a1 a2
theorem X7:zG ["rule","n","figures","tails","k"] ["rule","n"] (zp ut):={}
theorem zd9(D:Df K mg "last_good" ut Ab f fd)(zJ:Df K mg "check_rule" yD Aa f1 fd1)(zL:FnOk P w K mg base CX0 7 f1 fd1 Aa yF)(ye:Df K mg "figures_of" wG Ae f2 fd2)(yh:FnOk P w K mg base CX0 4 f2 fd2 Ae wD)(wU:Mk K C f3)(wQ:Binds K fd3 ["self","rule"] [])(zZ:FnOk P w K mg base CX0 7 f3 fd3 Ai (qQ T0 C))(yE:Mt K C "Tails.many_below" "many_below" yG Aj f4 fd4)(yK:FnOk P w K mg base CX0 4 f4 fd4 Aj (jZ C))(yp:Mt K C "Tails.number_at" "number_at" yr Ap f6 fd6)(yt:FnOk P w K mg base CX0 5 f6 fd6 Ap (jM C))(zB:ClT K mg C)(T:Blt mg):FnOk P w K mg base CX0 9 f fd Ab (XM T0):=by
 refine D.fn.ok X7 (λvs H Q E h=>?_) (λcdv A outer s H vs Q E hr h=>?_)
 ·obtain⟨r,b,bl,zs,n,rfl,_⟩:=h;rfl
 ·obtain⟨r,b,bl,zs,n,rfl,R,g,hn,hT,kk⟩:=h;have hn9:n<2^900:=by omega
  have hlen:=uP g.b2 850 n hn;refine xu ?_;intro XX;let q1:Sq XX ((zj ut).drop 5):=⟨_,zm (zE (xZ yp zB.cl yt (hr.mono (by decide)) (pv 3) (zc (zH (xG K) (by rfl) T.n_len PySem.boot_len (zc (pv 2) zf)) (zc (zV Zq (pv 4) zu) zf))))⟩
  let q2:Sq XX ((zj ut).drop 4):=⟨_,zg (yx (zP Qe (pv 4) zu (zT _))
    (zm (zE uF))
    zQ) q1.p⟩
  let q3:Sq XX ((zj ut).drop 3):=⟨_,zg (zU (i:=4) X7.nd rfl (aW rfl) (xZ yE zB.cl yK (hr.mono (by decide)) (pv 3) (zc (pv 2) zf))) q2.p⟩
  let q4:Sq XX ((zj ut).drop 2):=⟨_,zg (zU (i:=3) X7.nd rfl (aW rfl) (jc wU zZ (hr.mono (by decide)) rfl zB.nm wQ .nil Xf (zc (pv 0) zf))) q3.p⟩
  let q5:Sq XX ((zj ut).drop 1):=⟨_,zg (zU (i:=2) X7.nd rfl (aW rfl) (zK ye yh (hr.mono (by decide)) (zc (zX (yP K) (pv 0) zu (λ_ _=>rfl)) (zc (pv 1) zf)))) q4.p⟩
  refine⟨_,(zg (yw (zK zJ zL (hr.mono (by decide)) (zc (pv 0) zf))) q5.p),?_⟩;refine⟨_,rfl,r,b,bl,zs,rfl,R,g,λH1 m1=>?_⟩;have R1:=R.same m1;refine⟨_,rfl,r,_,_,V.int b,rfl,rfl,SqT.of R1.tu,rfl,_,rfl,b,n,rfl,g.b2,g.b16,hn9,λl H2 hl hv m2=>?_⟩;have m12:=m1.trans m2;refine⟨_,rfl,?_⟩;refine Y8 (R.same m12) g (hT.same m12) ?_;rintro x H3 ⟨la,ws,TA,G,mL,hT3,hla⟩;have hl3:=mL _ _ ((hT.same m12).lst hv) hv;have nl:l≠la:=λz=>by rw[z,hla]at hv;cases hv
  obtain⟨xs,hla3⟩:=TA.la;obtain⟨dx3,sa3,hp3⟩:=TA.obj;refine⟨_,rfl,x,dx3,_,rfl,hp3,xM _ _ _ _,_,rfl,x,la,b,_,ws,1,l,n,rfl,TA,G,by decide,by rw[yq (by simpa using nl)];exact hl3,hn9,λL4 H4 hL4 TA4 m4 hL4'=>?_⟩;have hl4:aw [la] H4 l=some (.lst ((yJ b n).map V.int)):=m4 _ _ (by rw[yq (by simpa using nl)];exact hl3);have fin:∀H',Same (aw [la] H4) (aw [la] H')->SameL T0 H H'/\LT T0 H':=λH' m'=>⟨Zx ((SameL.of m12).trans mL) (m12.free hla) (m4.trans m'),hT3.off hla3 (m4.trans m')⟩
  refine⟨_,rfl,rfl,_,rfl,?_⟩;refine JC (λhz=>?_) (λhz=>?_)
  ·have h0:many (gd (zs.map (·.2)) b) n=0:=by
    have z:=of_decide_eq_true hz;injection z with z
    omega
   obtain⟨a1,a2⟩:=fin H4 (Same.refl _);exact kk _ H4 (.inl ⟨rfl,h0⟩) a1 a2
  ·have h0:¬ many (gd (zs.map (·.2)) b) n=0:=λz=>hz (decide_eq_true (by rw[z];rfl));obtain⟨dx4,sa4,hp4⟩:=TA4.obj;have hle:=jP (gd (zs.map (·.2)) b) (d7 (W8 g.b2 (b:=b) (n:=n) rfl));refine⟨_,rfl,x,dx4,_,rfl,hp4,xM _ _ _ _,_,rfl,l,_,rfl,.inl (SqL.of (yj _ _ _ _ hl4)),_,rfl,_,_,rfl,rfl,x,la,b,_,ws,L4,(yJ b n).length,many (gd (zs.map (·.2)) b) n-1,?_,TA4,G,hL4',by omega,by omega,λq hg hm hq L6 H6 hL6 TA6 m6 hL6'=>?_⟩
   ·rw[aa];show [V.ref x,V.int _,V.int ((many (gd (zs.map (·.2)) b) n:Nat)-1:Int)]=_;rw[show (((many (gd (zs.map (·.2)) b) n:Nat):Int)-1)=((many (gd (zs.map (·.2)) b) n-1:Nat):Int) by omega]
   ·obtain⟨a1,a2⟩:=fin H6 m6;exact kk _ H6 (.inr ⟨q,rfl,zgV (p:=gd (zs.map (·.2)) b) (by omega),hg,by omega⟩) a1 a2
def Ends(ls:ZA)(b:Nat):Prop:=∀ws,StandsL ls ws->¬ vH ls b ws.length<vH ls b (ws.length+1)
abbrev Ul(T0:aq):Sp:=jz T0 (λls b k=>k<many (gd ls b) (b^60)\/Ends ls b) (λls b k v=>ziy ls b k v)
theorem zgr:zG ["rule","k"] ["rule","k"] (zp Wj):={}
theorem zgP(D:Df K mg "good_by" Wj A0 f fd)(zJ:Df K mg "check_rule" yD Aa f1 fd1)(zL:FnOk P w K mg base CX0 7 f1 fd1 Aa yF)(zao:Df K mg "good_at" YC Bg f2 fd2)(zcf:FnOk P w K mg base CX0 6 f2 fd2 Bg (zcw C))(wU:Mk K C f3)(wQ:Binds K fd3 ["self","rule"] [])(zZ:FnOk P w K mg base CX0 7 f3 fd3 Ai (qQ T0 C))(zB:ClT K mg C):FnOk P w K mg base CX0 9 f fd A0 (Ul T0):=by
 refine D.fn.ok zgr (λvs H Q E h=>?_) (λcdv A outer s H vs Q E hr h=>?_)
 ·obtain⟨r,b,bl,zs,n,rfl,_⟩:=h;rfl
 ·obtain⟨r,b,bl,zs,k,rfl,R,g,hpre,hT,kk⟩:=h;refine xu ?_;intro XX;let q1:Sq XX ((zj Wj).drop 1):=⟨_,zm (zE (zK zao zcf (hr.mono (by decide)) (zc (jc wU zZ (hr.mono (by decide)) rfl zB.nm wQ .nil Xf (zc (pv 0) zf)) (zc (pv 1) zf))))⟩
  refine⟨_,(zg (yw (zK zJ zL (hr.mono (by decide)) (zc (pv 0) zf))) q1.p),?_⟩;refine⟨_,rfl,r,b,bl,zs,rfl,R,g,λH1 m1=>?_⟩;refine⟨_,rfl,?_⟩;refine Y8 (R.same m1) g (hT.same m1) ?_;rintro x H3 ⟨la,ws,TA,G,mL,hT3,hla⟩;obtain⟨xs,hla3⟩:=TA.la;refine⟨_,rfl,x,la,b,_,ws,1,k,rfl,TA,G,by decide,?_,λv hv L4 H4 hL4 TA4 m4 hL4'=>?_⟩
  ·rcases hpre with h | h
   ·exact .inl h
   ·exact .inr (h ws G.s)
  ·exact kk v H4 hv (Zx ((SameL.of m1).trans mL) (m1.free hla) m4) (hT3.off hla3 m4)
abbrev W4(T0:aq):Sp:=jz T0 (λls b n=>n<2^900/\gd ls b n=true) (λls b n v=>v=.int (many (gd ls b) n:Nat))
theorem zfN:zG ["rule","n"] ["rule","n"] (zp Zm):={}
theorem zft(D:Df K mg "place_of" Zm Ab f fd)(zJ:Df K mg "check_rule" yD Aa f1 fd1)(zL:FnOk P w K mg base CX0 7 f1 fd1 Aa yF)(wK:Df K mg "is_number" jo Aa f2 fd2)(uY:FnOk P w K mg base CX0 2 f2 fd2 Aa ZM)(Za:Df K mg "is_good" Yo Ab f3 fd3)(Yd:FnOk P w K mg base CX0 8 f3 fd3 Ab WQ)(uh:Df K mg "count_below" uZ Ab f4 fd4)(uI:FnOk P w K mg base CX0 9 f4 fd4 Ab (ju T0)):FnOk P w K mg base CX0 10 f fd Ab (W4 T0):=by
 refine D.fn.ok zfN (λvs H Q E h=>?_) (λcdv A outer s H vs Q E hr h=>?_)
 ·obtain⟨r,b,bl,zs,n,rfl,_⟩:=h;rfl
 ·obtain⟨r,b,bl,zs,n,rfl,R,g,⟨hn,hg⟩,hT,kk⟩:=h;refine xu ?_;intro XX;let q1:Sq XX ((zj Zm).drop 2):=⟨_,zm (zE (zK uh uI (hr.mono (by decide)) (zc (pv 0) (zc (pv 1) zf))))⟩
  let q2:Sq XX ((zj Zm).drop 1):=⟨_,zg (yx (PW.pt (Z6 (wB (yX (zK wK uY (hr.mono (by decide)) (zc (pv 1) zf)))) (qw (wB (yX (zK Za Yd (hr.mono (by decide)) (zc (pv 0) (zc (pv 1) zf))))))))
    (zm uf)
    zQ) q1.p⟩
  refine⟨_,(zg (yw (zK zJ zL (hr.mono (by decide)) (zc (pv 0) zf))) q2.p),?_⟩;refine⟨_,rfl,r,b,bl,zs,rfl,R,g,λH1 m1=>?_⟩;refine⟨_,rfl,(n:Int),rfl,_,rfl,?_⟩;rw[decide_eq_true (show (0:Int)<=n by omega)];refine wN ?_;refine⟨_,rfl,_,rfl,r,b,bl,zs,n,rfl,R.same m1,g,hn,λH2 m2=>⟨_,rfl,?_⟩⟩;have hg':lacks (zs.map (·.2)) (yJ b n)=true:=hg;rw[hg'];refine wN ?_;have m12:=m1.trans m2;exact⟨_,rfl,_,rfl,r,b,bl,zs,n,rfl,R.same m12,g,hn,hT.same m12,λH3 mL hT3=>kk _ H3 rfl ((SameL.of m12).trans mL) hT3⟩
def qP:Sp:=λvs H Q _=>∃m:Nat,vs=[.int m]/\1<=m/\m<=60/\Q .non H
theorem zbq:zG ["thing"] ["thing"] (zp uy):={}
theorem zbB(D:Df K mg "check_length" uy Aa f fd)(wK:Df K mg "is_number" jo Aa f1 fd1)(uY:FnOk P w K mg base CX0 2 f1 fd1 Aa ZM)(tM:mg "MOST_FIGURES"= some (.int 60 t1)):FnOk P w K mg base CX0 3 f fd Aa qP:=by
 refine D.fn.ok zbq (λvs H Q E h=>?_) (λcdv A outer s H vs Q E hr h=>?_)
 ·obtain⟨m,rfl,_⟩:=h;rfl
 ·obtain⟨m,rfl,h1,h2,kk⟩:=h;refine⟨_,(zm (yx (PW.pt (Z6 (wB (yX (zK wK uY (hr.mono (by decide)) (zc (pv 0) zf)))) (qw (wB (zcC U7 U7 zu (pv 0) (Z0 (v:=.int 60) rfl tM ⟨_,rfl⟩))))))
    (zm uf)
    zQ)),?_⟩
  refine⟨_,rfl,(m:Int),rfl,_,rfl,?_⟩;rw[decide_eq_true (show (0:Int)<=m by omega)];refine wN ?_;refine⟨_,rfl,_,_,rfl,rfl,_,rfl,?_⟩;rw[decide_eq_true (show (1:Int)<=m by omega)];refine qd ?_;refine⟨_,_,rfl,rfl,_,rfl,?_⟩;rw[decide_eq_true (show (m:Int)<=60 by omega)];exact wN kk
def low(ls:ZA)(b m:Nat):Nat:=if m=1 then 0 else many (gd ls b) (b^(m-1))
def jN(C:aq):Sp:=λvs H Q _=>∃(p la:aq) (b:Nat) (ls ws:ZA) (L m:Nat),vs=[.ref p,.int m]/\TailsAt C H p la b ls ws L/\GoodT b ls ws/\L<=1000/\1<=m/\m<=60/\TQ C H p la b ls ws L λL' H'=>L'<=1000->Q (.int (low ls b m:Nat)) H'
theorem zaC:zG ["tails","m"] ["tails","m"] (zp ue):={}
theorem zaF(D:Df K mg "count_shorter" ue Au f fd)(zM:Mt K C "Tails.many_within" "many_within" yH Ah f1 fd1)(zN:FnOk P w K mg base CX0 3 f1 fd1 Ah (w5 C))(zB:ClT K mg C):FnOk P w K mg base CX0 4 f fd Au (jN C):=by
 refine D.fn.ok zaC (λvs H Q E h=>?_) (λcdv A outer s H vs Q E hr h=>?_)
 ·obtain⟨p,la,b,ls,ws,L,m,rfl,_⟩:=h;rfl
 ·obtain⟨p,la,b,ls,ws,L,m,rfl,TA,G,hL,h1,h2,kk⟩:=h;obtain⟨dx,sa,hp⟩:=TA.obj;refine xu ?_;intro XX;let q1:Sq XX ((zj ue).drop 1):=⟨_,zm (zE (xZ zM zB.cl zN (hr.mono (by decide)) (pv 0) (zc (zV Zq (pv 1) zu) zf)))⟩
  refine⟨_,(zg (yx (zP Qe (pv 1) zu (zT _))
    (zm (zE zu))
    zQ) q1.p),?_⟩
  refine⟨_,rfl,rfl,_,rfl,?_⟩;refine JC (λhz=>?_) (λhz=>?_)
  ·have e:m=1:=by
    have z:=of_decide_eq_true hz;injection z with z
    omega
   have q:=kk L H (au _) TA (Same.refl _) hL;unfold low at q;rw[if_pos e]at q;exact q
  ·have e:¬ m=1:=λz=>hz (decide_eq_true (by rw[z];rfl));refine⟨_,rfl,p,dx,_,rfl,hp,xM _ _ _ _,_,rfl,_,_,rfl,rfl,p,la,b,ls,ws,L,m-1,?_,TA,G,hL,by omega,λL2 H2 hL2 TA2 m2 hmx=>?_⟩
   ·show [V.ref p,V.int ((m:Int)-1)]=_;rw[show ((m:Int)-1)=((m-1:Nat):Int) by omega]
   ·have q:=kk L2 H2 hL2 TA2 m2 (by omega);unfold low at q;rw[if_neg e,<-ux G.ne G.g.b2]at q;exact q
abbrev WK:ZA->Nat->Nat->Prop:=λ_ _ m=>1<=m/\m<=60
abbrev YQ(T0:aq):Sp:=jz T0 WK (λls b m v=>v=.int ((many (gd ls b) (b^m):Nat)-(low ls b m:Nat)))
def zaP(ls:ZA)(b m:Nat)(v:V):Prop:=(v=.non/\many (gd ls b) (b^m)=low ls b m)\/∃g:Nat,v=.int g/\gd ls b g=true/\many (gd ls b) g=low ls b m/\g<b^m
def Wf(ls:ZA)(b m:Nat)(v:V):Prop:=(v=.non/\many (gd ls b) (b^m)=low ls b m)\/∃g:Nat,v=.int g/\gd ls b g=true/\many (gd ls b) g+1=many (gd ls b) (b^m)/\g<b^m/\low ls b m<many (gd ls b) (b^m)
theorem zi7(hb:1<=b):low ls b m<=many (gd ls b) (b^m):=by
 unfold low;split
 ·exact bK _
 ·exact jP _ (cH hb (by omega))
theorem Jb:zG ["rule","m","tails"] ["rule","m"] (zp uV):={}
theorem zdo(D:Df K mg "count_long" uV Af f fd)(zJ:Df K mg "check_rule" yD Aa f1 fd1)(zL:FnOk P w K mg base CX0 7 f1 fd1 Aa yF)(xq:Df K mg "check_length" uy Aa f2 fd2)(xR:FnOk P w K mg base CX0 3 f2 fd2 Aa qP)(wU:Mk K C f3)(wQ:Binds K fd3 ["self","rule"] [])(zZ:FnOk P w K mg base CX0 7 f3 fd3 Ai (qQ T0 C))(zM:Mt K C "Tails.many_within" "many_within" yH Ah f4 fd4)(zN:FnOk P w K mg base CX0 3 f4 fd4 Ah (w5 C))(wC:Df K mg "count_shorter" ue Au f5 fd5)(wY:FnOk P w K mg base CX0 4 f5 fd5 Au (jN C))(zB:ClT K mg C):FnOk P w K mg base CX0 9 f fd Af (YQ T0):=by
 refine D.fn.ok Jb (λvs H Q E h=>?_) (λcdv A outer s H vs Q E hr h=>?_)
 ·obtain⟨r,b,bl,zs,n,rfl,_⟩:=h;rfl
 ·obtain⟨r,b,bl,zs,m,rfl,R,g,⟨hm1,hm2⟩,hT,kk⟩:=h;refine xu ?_;intro XX;let q1:Sq XX ((zj uV).drop 3):=⟨_,zm (zE (zV Zq (xZ zM zB.cl zN (hr.mono (by decide)) (pv 2) (zc (pv 1) zf)) (zK wC wY (hr.mono (by decide)) (zc (pv 2) (zc (pv 1) zf)))))⟩
  let q2:Sq XX ((zj uV).drop 2):=⟨_,zg (zU (i:=2) Jb.nd rfl (aW rfl) (jc wU zZ (hr.mono (by decide)) rfl zB.nm wQ .nil Xf (zc (pv 0) zf))) q1.p⟩
  let q3:Sq XX ((zj uV).drop 1):=⟨_,zg (yw (zK xq xR (hr.mono (by decide)) (zc (pv 1) zf))) q2.p⟩
  refine⟨_,(zg (yw (zK zJ zL (hr.mono (by decide)) (zc (pv 0) zf))) q3.p),?_⟩;refine⟨_,rfl,r,b,bl,zs,rfl,R,g,λH1 m1=>?_⟩;refine⟨_,rfl,m,rfl,hm1,hm2,?_⟩;refine⟨_,rfl,?_⟩;refine Y8 (R.same m1) g (hT.same m1) ?_;rintro x H3 ⟨la,ws,TA,G,mL,hT3,hla⟩;obtain⟨xs,hla3⟩:=TA.la;obtain⟨dx3,sa3,hp3⟩:=TA.obj;refine⟨_,rfl,x,dx3,_,rfl,hp3,xM _ _ _ _,_,rfl,x,la,b,_,ws,1,m,rfl,TA,G,by decide,by omega,λL4 H4 hL4 TA4 m4 hmx=>?_⟩;refine⟨_,rfl,_,rfl,x,la,b,_,ws,L4,m,rfl,TA4,G,by omega,hm1,hm2,λL5 H5 hL5 TA5 m5 hL5'=>⟨_,_,rfl,rfl,?_⟩⟩;have m45:=m4.trans m5;refine kk _ H5 ?_ (Zx ((SameL.of m1).trans mL) (m1.free hla) m45) (hT3.off hla3 m45);rw[ux G.ne g.b2]
theorem Vq:zG ["rule","m","tails","k"] ["rule","m"] (zp vK):={}
theorem zdn(D:Df K mg "least_long" vK Af f fd)(zJ:Df K mg "check_rule" yD Aa f1 fd1)(zL:FnOk P w K mg base CX0 7 f1 fd1 Aa yF)(xq:Df K mg "check_length" uy Aa f2 fd2)(xR:FnOk P w K mg base CX0 3 f2 fd2 Aa qP)(wU:Mk K C f3)(wQ:Binds K fd3 ["self","rule"] [])(zZ:FnOk P w K mg base CX0 7 f3 fd3 Ai (qQ T0 C))(zM:Mt K C "Tails.many_within" "many_within" yH Ah f4 fd4)(zN:FnOk P w K mg base CX0 3 f4 fd4 Ah (w5 C))(wC:Df K mg "count_shorter" ue Au f5 fd5)(wY:FnOk P w K mg base CX0 4 f5 fd5 Au (jN C))(yp:Mt K C "Tails.number_at" "number_at" yr Ap f6 fd6)(yt:FnOk P w K mg base CX0 5 f6 fd6 Ap (jM C))(zB:ClT K mg C):FnOk P w K mg base CX0 9 f fd Af (jz T0 WK zaP):=by
 refine D.fn.ok Vq (λvs H Q E h=>?_) (λcdv A outer s H vs Q E hr h=>?_)
 ·obtain⟨r,b,bl,zs,n,rfl,_⟩:=h;rfl
 ·obtain⟨r,b,bl,zs,m,rfl,R,g,⟨hm1,hm2⟩,hT,kk⟩:=h;refine xu ?_;intro XX;let q1:Sq XX ((zj vK).drop 5):=⟨_,zm (zE (xZ yp zB.cl yt (hr.mono (by decide)) (pv 2) (zc (pv 1) (zc (pv 3) zf))))⟩
  let q2:Sq XX ((zj vK).drop 4):=⟨_,zg (yx (zP Qe (xZ zM zB.cl zN (hr.mono (by decide)) (pv 2) (zc (pv 1) zf)) (pv 3) (zT _))
    (zm (zE uF))
    zQ) q1.p⟩
  let q3:Sq XX ((zj vK).drop 3):=⟨_,zg (zU (i:=3) Vq.nd rfl (aW rfl) (zK wC wY (hr.mono (by decide)) (zc (pv 2) (zc (pv 1) zf)))) q2.p⟩
  let q4:Sq XX ((zj vK).drop 2):=⟨_,zg (zU (i:=2) Vq.nd rfl (aW rfl) (jc wU zZ (hr.mono (by decide)) rfl zB.nm wQ .nil Xf (zc (pv 0) zf))) q3.p⟩
  let q5:Sq XX ((zj vK).drop 1):=⟨_,zg (yw (zK xq xR (hr.mono (by decide)) (zc (pv 1) zf))) q4.p⟩
  refine⟨_,(zg (yw (zK zJ zL (hr.mono (by decide)) (zc (pv 0) zf))) q5.p),?_⟩;refine⟨_,rfl,r,b,bl,zs,rfl,R,g,λH1 m1=>?_⟩;refine⟨_,rfl,m,rfl,hm1,hm2,?_⟩;refine⟨_,rfl,?_⟩;refine Y8 (R.same m1) g (hT.same m1) ?_;rintro x H3 ⟨la,ws,TA,G,mL,hT3,hla⟩;obtain⟨xs,hla3⟩:=TA.la;have hle:=zi7 (ls:=zs.map (·.2)) (m:=m) (show 1<=b by have:=g.b2;omega);refine⟨_,rfl,_,rfl,x,la,b,_,ws,1,m,rfl,TA,G,by decide,hm1,hm2,λL4 H4 hL4 TA4 m4 hL4'=>?_⟩;obtain⟨dx4,sa4,hp4⟩:=TA4.obj;refine⟨_,rfl,x,dx4,_,rfl,hp4,xM _ _ _ _,_,rfl,x,la,b,_,ws,L4,m,rfl,TA4,G,hL4',by omega,λL5 H5 hL5 TA5 m5 hmx=>?_⟩;rw[ux G.ne g.b2];have m45:=m4.trans m5;have fin:∀H',Same (aw [la] H5) (aw [la] H')->SameL T0 H H'/\LT T0 H':=λH' m'=>⟨Zx ((SameL.of m1).trans mL) (m1.free hla) (m45.trans m'),hT3.off hla3 (m45.trans m')⟩
  refine⟨_,rfl,rfl,_,rfl,?_⟩;refine JC (λhz=>?_) (λhz=>?_)
  ·have e:many (gd (zs.map (·.2)) b) (b^m)=low (zs.map (·.2)) b m:=by
    have z:=of_decide_eq_true hz;injection z with z
    omega
   obtain⟨a1,a2⟩:=fin H5 (Same.refl _);exact kk _ H5 (.inl ⟨rfl,e⟩) a1 a2
  ·have e:¬ many (gd (zs.map (·.2)) b) (b^m)=low (zs.map (·.2)) b m:=λz=>hz (decide_eq_true (by rw[z]));obtain⟨dx5,sa5,hp5⟩:=TA5.obj;refine⟨_,rfl,x,dx5,_,rfl,hp5,xM _ _ _ _,_,rfl,_,rfl,x,la,b,_,ws,L5,m,low (zs.map (·.2)) b m,rfl,TA5,G,by omega,by omega,by omega,λq hg hm hq L6 H6 hL6 TA6 m6 hL6'=>?_⟩;obtain⟨a1,a2⟩:=fin H6 m6;exact kk _ H6 (.inr ⟨q,rfl,hg,hm,hq⟩) a1 a2
theorem YJ:zG ["rule","m","tails","many"] ["rule","m"] (zp xP):={}
theorem zaZ(D:Df K mg "greatest_long" xP Af f fd)(zJ:Df K mg "check_rule" yD Aa f1 fd1)(zL:FnOk P w K mg base CX0 7 f1 fd1 Aa yF)(xq:Df K mg "check_length" uy Aa f2 fd2)(xR:FnOk P w K mg base CX0 3 f2 fd2 Aa qP)(wU:Mk K C f3)(wQ:Binds K fd3 ["self","rule"] [])(zZ:FnOk P w K mg base CX0 7 f3 fd3 Ai (qQ T0 C))(zM:Mt K C "Tails.many_within" "many_within" yH Ah f4 fd4)(zN:FnOk P w K mg base CX0 3 f4 fd4 Ah (w5 C))(wC:Df K mg "count_shorter" ue Au f5 fd5)(wY:FnOk P w K mg base CX0 4 f5 fd5 Au (jN C))(yp:Mt K C "Tails.number_at" "number_at" yr Ap f6 fd6)(yt:FnOk P w K mg base CX0 5 f6 fd6 Ap (jM C))(zB:ClT K mg C):FnOk P w K mg base CX0 9 f fd Af (jz T0 WK Wf):=by
 refine D.fn.ok YJ (λvs H Q E h=>?_) (λcdv A outer s H vs Q E hr h=>?_)
 ·obtain⟨r,b,bl,zs,n,rfl,_⟩:=h;rfl
 ·obtain⟨r,b,bl,zs,m,rfl,R,g,⟨hm1,hm2⟩,hT,kk⟩:=h;refine xu ?_;intro XX;let q1:Sq XX ((zj xP).drop 5):=⟨_,zm (zE (xZ yp zB.cl yt (hr.mono (by decide)) (pv 2) (zc (pv 1) (zc (zV Zq (pv 3) zu) zf))))⟩
  let q2:Sq XX ((zj xP).drop 4):=⟨_,zg (yx (zP Qe (pv 3) (zK wC wY (hr.mono (by decide)) (zc (pv 2) (zc (pv 1) zf))) (zT _))
    (zm (zE uF))
    zQ) q1.p⟩
  let q3:Sq XX ((zj xP).drop 3):=⟨_,zg (zU (i:=3) YJ.nd rfl (aW rfl) (xZ zM zB.cl zN (hr.mono (by decide)) (pv 2) (zc (pv 1) zf))) q2.p⟩
  let q4:Sq XX ((zj xP).drop 2):=⟨_,zg (zU (i:=2) YJ.nd rfl (aW rfl) (jc wU zZ (hr.mono (by decide)) rfl zB.nm wQ .nil Xf (zc (pv 0) zf))) q3.p⟩
  let q5:Sq XX ((zj xP).drop 1):=⟨_,zg (yw (zK xq xR (hr.mono (by decide)) (zc (pv 1) zf))) q4.p⟩
  refine⟨_,(zg (yw (zK zJ zL (hr.mono (by decide)) (zc (pv 0) zf))) q5.p),?_⟩;refine⟨_,rfl,r,b,bl,zs,rfl,R,g,λH1 m1=>?_⟩;refine⟨_,rfl,m,rfl,hm1,hm2,?_⟩;refine⟨_,rfl,?_⟩;refine Y8 (R.same m1) g (hT.same m1) ?_;rintro x H3 ⟨la,ws,TA,G,mL,hT3,hla⟩;obtain⟨xs,hla3⟩:=TA.la;have hle:=zi7 (ls:=zs.map (·.2)) (m:=m) (show 1<=b by have:=g.b2;omega);obtain⟨dx3,sa3,hp3⟩:=TA.obj;refine⟨_,rfl,x,dx3,_,rfl,hp3,xM _ _ _ _,_,rfl,x,la,b,_,ws,1,m,rfl,TA,G,by decide,by omega,λL4 H4 hL4 TA4 m4 hmx=>?_⟩;rw[ux G.ne g.b2];refine⟨_,rfl,_,rfl,_,rfl,x,la,b,_,ws,L4,m,rfl,TA4,G,by omega,hm1,hm2,λL5 H5 hL5 TA5 m5 hL5'=>?_⟩;have m45:=m4.trans m5;have fin:∀H',Same (aw [la] H5) (aw [la] H')->SameL T0 H H'/\LT T0 H':=λH' m'=>⟨Zx ((SameL.of m1).trans mL) (m1.free hla) (m45.trans m'),hT3.off hla3 (m45.trans m')⟩
  refine⟨rfl,_,rfl,?_⟩;refine JC (λhz=>?_) (λhz=>?_)
  ·have e:many (gd (zs.map (·.2)) b) (b^m)=low (zs.map (·.2)) b m:=by
    have z:=of_decide_eq_true hz;injection z with z
    omega
   obtain⟨a1,a2⟩:=fin H5 (Same.refl _);exact kk _ H5 (.inl ⟨rfl,e⟩) a1 a2
  ·have e:¬ many (gd (zs.map (·.2)) b) (b^m)=low (zs.map (·.2)) b m:=λz=>hz (decide_eq_true (by rw[z]));obtain⟨dx5,sa5,hp5⟩:=TA5.obj;refine⟨_,rfl,x,dx5,_,rfl,hp5,xM _ _ _ _,_,rfl,_,rfl,_,_,rfl,rfl,x,la,b,_,ws,L5,m,many (gd (zs.map (·.2)) b) (b^m)-1,?_,TA5,G,by omega,by omega,by omega,λq hg hm hq L6 H6 hL6 TA6 m6 hL6'=>?_⟩
   ·show [V.ref x,V.int m,V.int ((many (gd (zs.map (·.2)) b) (b^m):Nat)-1:Int)]=_;rw[show (((many (gd (zs.map (·.2)) b) (b^m):Nat):Int)-1)=((many (gd (zs.map (·.2)) b) (b^m)-1:Nat):Int) by omega]
   ·obtain⟨a1,a2⟩:=fin H6 m6;exact kk _ H6 (.inr ⟨q,rfl,hg,by omega,hq,by omega⟩) a1 a2
end
structure ClS (K:aN) (mg:cG->Option aG) (C:aq):Prop where
 cl:Cls K C
 nm:mg "Totals"= some (.ref C)
 n_tails:NoAttr K C "tails"
 n_weights:NoAttr K C "weights"
 n_layers:NoAttr K C "layers"
def Qj(tl wa l2:aq):List (cG×V):=yo "layers" (.ref l2) (yo "weights" (.ref wa) (yo "tails" (.ref tl) []))
theorem jA(tl wa l2:aq):(Qj tl wa l2).lookup ("tails" : cG)=some (.ref tl):=by
 unfold Qj;rw[zO,if_neg (by decide +kernel),zO,if_neg (by decide +kernel),zO,if_pos rfl]
theorem zd0(tl wa l2:aq):(Qj tl wa l2).lookup ("weights" : cG)=some (.ref wa):=by
 unfold Qj;rw[zO,if_neg (by decide +kernel),zO,if_pos rfl]
theorem Qm(tl wa l2:aq):(Qj tl wa l2).lookup ("layers" : cG)=some (.ref l2):=by
 unfold Qj;rw[zO,if_pos rfl]
theorem W6(tl wa l2:aq){m:cG}(h1:¬ m ="layers":=by decide +kernel)(h2:¬ m ="weights":=by decide +kernel)(h3:¬ m ="tails":=by decide +kernel):(Qj tl wa l2).lookup m=none:=by
 unfold Qj;rw[zO,if_neg h1,zO,if_neg h2,zO,if_neg h3];rfl
def qL(b:Nat)(w:Nat->Nat)(sc k:Nat):List Int:=(aD b).map λc=>((sc^k*w c:Nat):Int)
def Vo(ls ws:ZA)(b:Nat)(w:Nat->Nat)(sc t:Nat):List Int:=(ws.map λx=>((tt ls b w sc t x:Nat):Int))++[((ttO ls b w sc t:Nat):Int)]
def stepT(ls:ZA)(b:Nat)(w:Nat->Nat)(sc t:Nat):Option (List Int)->Nat->Nat
 |some x,c=>if lacks ls (x++[(c:Int)])=true then sc^t*w c*cnt ls b t (zY ls (x++[(c:Int)]))+tt ls b w sc t (zY ls (x++[(c:Int)])) else 0
 |none,c=>if c=0 then ttO ls b w sc t else if lacks ls [(c:Int)]=true then sc^t*w c*cnt ls b t (zY ls [(c:Int)])+tt ls b w sc t (zY ls [(c:Int)]) else 0
def Xo(ls:ZA)(b:Nat)(w:Nat->Nat)(sc t:Nat)(o:Option (List Int))(s:Nat):Nat:=((aD s).map (stepT ls b w sc t o)).sum
theorem zbc(ls:ZA)(b:Nat)(w:Nat->Nat)(sc t:Nat)(o:Option (List Int))(s:Nat):Xo ls b w sc t o (s+1)=Xo ls b w sc t o s+stepT ls b w sc t o s:=by
 unfold Xo;rw[cL,aF,dU];simp
theorem zig:((aD (ws.length+1)).map λi=>((Xo ls b w sc t ws[i]? b:Nat):Int))=Vo ls ws b w sc (t+1):=by
 unfold Vo;apply gH;intro i;rw[ak];by_cases h:i<ws.length
 ·rw[bO (by omega),cB (by rw[aa];exact h),ak,dG,aj h];rfl
 ·by_cases h2:i=ws.length
  ·subst h2;rw[bO (by omega),bG (by rw[aa];exact au _),aa,eG,dG,bN (au _)];rfl
  ·rw[bN (by rw[aX];omega),bN (by rw[aB,aa,aU];omega)];rfl
theorem zfL(G:GoodT b ls ws)(hi:i<=ws.length):
  (stepV ls ws ws[i]? c=.non/\stepT ls b w sc t ws[i]? c=0/\Vf ls b t ws[i]? c=0)\/∃(j x y z:Nat),stepV ls ws ws[i]? c=.int j/\j<=ws.length/\(ur ls ws b t)[j]?=some ((x:Nat):Int)/\(Vo ls ws b w sc t)[j]?=some ((y:Nat):Int)/\z=(if j=ws.length then 0 else sc^t*w c)/\stepT ls b w sc t ws[i]? c=z*x+y/\Vf ls b t ws[i]? c=x:=by
 have at_:∀fs:List Int,lacks ls fs=true->∃j:Nat,plc ls ws fs=.int j/\j<ws.length/\(ur ls ws b t)[j]?=some ((cnt ls b t (zY ls fs):Nat):Int)/\(Vo ls ws b w sc t)[j]?=some ((tt ls b w sc t (zY ls fs):Nat):Int):=by
  intro fs h;have hm:zY ls fs∈ws:=(G.s.mem _).mpr (Yx G.ne h);have hlt:=gP.mpr hm;refine⟨ws.idxOf (zY ls fs),by unfold plc;rw[if_pos h],hlt,?_,?_⟩
  ·unfold ur;rw[cB (by rw[aa];exact hlt),ak,aj hlt,iG hlt];rfl
  ·unfold Vo;rw[cB (by rw[aa];exact hlt),ak,aj hlt,iG hlt];rfl
 cases hw:ws[i]? with
 |some x=>
  by_cases h:lacks ls (x++[(c:Int)])=true
  ·right;obtain⟨j,h1,h2,h3,h4⟩:=at_ _ h;refine⟨j,_,_,sc^t*w c,h1,d7 h2,h3,h4,by rw[if_neg (by omega)],?_,by rw[Jp,if_pos h]⟩;show (if lacks ls (x++[(c:Int)])=true then _ else 0)=_;rw[if_pos h]
  ·left;refine⟨by rw[zgF];unfold plc;rw[if_neg h],?_,by rw[Jp,if_neg h]⟩;show (if lacks ls (x++[(c:Int)])=true then _ else 0)=_;rw[if_neg h]
 |none=>
  by_cases h0:c=0
  ·right;refine⟨ws.length,vH ls b t,ttO ls b w sc t,0,by rw[jm,if_pos h0],au _,?_,?_,by rw[if_pos rfl],?_,by rw[Yy,if_pos h0]⟩
   ·unfold ur;rw[bG (by rw[aa];exact au _),aa,eG];rfl
   ·unfold Vo;rw[bG (by rw[aa];exact au _),aa,eG];rfl
   ·show (if c=0 then _ else _)=_;rw[if_pos h0];omega
  ·by_cases h:lacks ls [(c:Int)]=true
   ·right;obtain⟨j,h1,h2,h3,h4⟩:=at_ _ h;refine⟨j,_,_,sc^t*w c,by rw[jm,if_neg h0];exact h1,d7 h2,h3,h4,by rw[if_neg (by omega)],?_,by rw[Yy,if_neg h0,if_pos h]⟩;show (if c=0 then _ else if lacks ls [(c:Int)]=true then _ else 0)=_;rw[if_neg h0,if_pos h]
   ·left;refine⟨?_,?_,by rw[Yy,if_neg h0,if_neg h]⟩
    ·rw[jm,if_neg h0];unfold plc;rw[if_neg h]
    ·show (if c=0 then _ else if lacks ls [(c:Int)]=true then _ else 0)=_;rw[if_neg h0,if_neg h]
structure RowsAt (H:Hp) (a:aq) (rs:ZA):Prop where
 ex:∃zs:ZB,H a=some (.lst (zs.map λz=>V.ref z.1))/\(∀z∈zs,H z.1=some (.lst (z.2.map V.int)))/\zs.map (·.2)=rs
theorem RowsAt.same(R:RowsAt H a rs)(m:Same H H'):RowsAt H' a rs:=by
 obtain⟨zs,h1,h2,h3⟩:=R.ex;exact⟨⟨zs,m _ _ h1,λz hz=>m _ _ (h2 z hz),h3⟩⟩
theorem RowsAt.get(R:RowsAt H a rs){k:Nat}(h:rs[k]?=some r):∃zs q,H a=some (.lst zs)/\atI zs (k:Int)=some (V.ref q)/\H q=some (.lst (r.map V.int)):=by
 obtain⟨zs,h1,h2,h3⟩:=R.ex;rw[<-h3,ak]at h;obtain⟨z,hz,e⟩:=aM.mp h;subst e;exact⟨_,z.1,h1,vo (by rw[ak,hz];rfl),h2 z (aJ hz)⟩
section
variable {P:cg} {w:cT} {K:aN} {mg:cG->Option aG} {base:dR} {T0 C CS:aq}
def WP:Sp:=λvs H Q _=>∃(wl:aq) (b:Nat) (w:Nat->Nat) (sc sz:Nat),vs=[.ref wl,.int sc,.int sz]/\H wl=some (.lst ((qL b w sc 0).map V.int))/\b<=16/\sc<=16/\sz<=900/\∀q H',H q=none->RowsAt H' q ((aD sz).map (qL b w sc))->Same H H'->Q (.ref q) H'
theorem qD:zG ["weights","scale","size","told","left"] ["weights","scale","size"] (zp wj):={}
theorem JD(D:Df K mg "weights_by_left" wj Bh f fd)(T:Blt mg):FnOk P w K mg base CX0 1 f fd Bh WP:=by
 refine D.fn.ok qD (λvs H Q E h=>?_) (λcdv A outer s H vs Q E hr h=>?_)
 ·obtain⟨wl,b,w,sc,sz,rfl,_⟩:=h;rfl
 ·obtain⟨wl,b,wt,sc,sz,rfl,hw,hb,hsc,hsz,kk⟩:=h;refine xu ?_;intro XX;let q1:Sq XX ((zj wj).drop 2):=⟨_,zm (zE (pv 3))⟩
  let q2:Sq XX ((sb (zj wj) 1 true).drop 1):=⟨_,zm (wL (i:=0) (show CScope (zp wj) _ "weight" ["weights","scale","size","told","left"] ["scale"] [1] from {}) rfl qD.nd rfl (aW rfl) (jh K (pv 0)) (λ_ _ _ _=>vU) (λ_ _ _ _=>(zV Zj (pv 1) (pv 0))))⟩
  let q3:Sq XX ((zj wj).drop 1):=⟨_,zg (wR bj rfl (yM rfl T.n_range (zc (pv 2) zf)) (yV (i:=4) qD.nd rfl (aW rfl))
    (zg (yw (Vx PySem.F.plainAttrs_list PySem.F.slot_list_append PySem.F.type_list_append qU (pv 3) (zc (pv 0) zf))) q2.p)) q1.p⟩
  refine⟨_,(zg (zU (i:=3) qD.nd rfl (aW rfl) (yR zf)) q3.p),?_⟩;refine⟨(by decide:0<=aZ),λto hto=>?_⟩;have m1:=zy hto (o:=.lst []);refine⟨_,rfl,_,rfl,by omega,by omega,jL (lo:=0) (n:=(sz:Int).toNat) (λi Z H2=>∃(v4:Option V) (wi:aq) (zs:ZB),Z=[some (.ref wi),some (.int sc),some (.int sz),some (.ref to),v4]/\wi≠to/\H2 wi=some (.lst ((qL b wt sc i).map V.int))/\H2 to=some (.lst (zs.map λz=>V.ref z.1))/\(∀z∈zs,z.1≠to/\H2 z.1=some (.lst (z.2.map V.int)))/\zs.map (·.2)=(aD i).map (qL b wt sc)/\Same H H2)
   ⟨none,wl,[],rfl,zF hw hto,m1 _ _ hw,zq,by simp,rfl,m1⟩ ?_ ?_⟩
  ·rintro i Z H2 hi ⟨v4,wi,zs,rfl,nw,hwi,hto2,hzs,ezs,m2⟩;have hzl:zs.length=i:=by have:=congrArg c7 ezs;rwa[aa,aa,aX]at this
   refine⟨_,rfl,.inl ⟨rfl,_,SqL.of hto2⟩,_,rfl,to,_,_,rfl,rfl,hto2,by rw[aa,hzl];exact aA (show i<1000 by omega) (by decide),?_⟩;have m3:Same H (upd H2 to (.lst (zs.map (λz=>V.ref z.1)++[V.ref wi]))):=λc o e=>by rw[zA (zF e hto)];exact m2 c o e
   have hwi3:upd H2 to (.lst (zs.map (λz=>V.ref z.1)++[V.ref wi])) wi=some (.lst ((qL b wt sc i).map V.int)):=by rw[zA nw];exact hwi
   have hz3:∀z∈zs++[(wi,qL b wt sc i)],z.1≠to/\upd H2 to (.lst (zs.map (λz=>V.ref z.1)++[V.ref wi])) z.1=some (.lst (z.2.map V.int)):=λz hz=>by
    rcases bf.mp hz with hz | hz
    ·exact⟨(hzs z hz).1,by rw[zA (hzs z hz).1];exact (hzs z hz).2⟩
    ·have e:z=(wi,qL b wt sc i):=by simpa using hz
     subst e;exact⟨nw,hwi3⟩
   have hto3:upd H2 to (.lst (zs.map (λz=>V.ref z.1)++[V.ref wi])) to=some (.lst ((zs++[(wi,qL b wt sc i)]).map λz=>V.ref z.1)):=by rw[zq];simp
   generalize upd H2 to (.lst (zs.map (λz=>V.ref z.1)++[V.ref wi]))=H3 at m3 hwi3 hz3 hto3;refine⟨_,rfl,wi,rfl,⟨_,SqL.of hwi3⟩,vZ (K:=K) (a:=wi) (xs:=(qL b wt sc i).map V.int) (λk ys H4=>H4=H3/\ys=((qL b wt sc (i+1)).take k).map V.int) ⟨rfl,rfl⟩ (λk ys H4 _ ⟨e,_⟩=>by rw[e];exact SqL.of hwi3) ?_ ?_⟩
   ·rintro k x ys H4 hx ⟨rfl,rfl⟩;unfold qL at hx;rw[ak,ak]at hx;obtain⟨y,hy,e⟩:=aM.mp hx;obtain⟨c,hc,e2⟩:=aM.mp hy;subst e2;subst e;have hk:k<b:=by have:=(aO.mp hc).1;rwa[aX]at this
    have ec:c=k:=by rw[bO hk]at hc;exact (bY hc).symm
    subst ec;refine⟨by rw[aa];exact bw (ao (rF _ _) (by unfold qL;rw[aa,aX];exact hb)) (by decide),?_⟩;unfold Vp;dsimp only;rw[if_pos rfl];refine⟨_,rfl,_,rfl,_,_,rfl,rfl,.inl ⟨by omega,by omega⟩,rfl,?_⟩;have e3:(qL b wt sc (i+1))[c]?=some ((sc:Int)*((sc^i*wt c:Nat):Int)):=by
     unfold qL;rw[ak,bO hk,dG,cX,fY,pL]
    rw[cO,e3,aF];rfl
   ·rintro ys H4 ⟨rfl,rfl⟩ q hq;have m4:=zy hq (o:=.lst (((qL b wt sc (i+1)).take ((qL b wt sc i).map V.int).length).map V.int));have nq:q≠to:=cP (zF hto3 hq);have etk:(qL b wt sc (i+1)).take ((qL b wt sc i).map V.int).length=qL b wt sc (i+1):=bQ (by unfold qL;simp);refine⟨_,q,zs++[(wi,qL b wt sc i)],rfl,nq,by rw[zq,etk],m4 _ _ hto3,λz hz=>⟨(hz3 z hz).1,m4 _ _ (hz3 z hz).2⟩,?_,m3.trans m4⟩;rw[aF,ezs,cL,aF];rfl
  ·rintro Z H2 ⟨v4,wi,zs,rfl,nw,hwi,hto2,hzs,ezs,m2⟩;exact⟨_,rfl,kk to H2 hto ⟨⟨zs,hto2,λz hz=>(hzs z hz).2,by rw[ezs,dg]⟩⟩ m2⟩
end
structure TotAt (C CS:aq) (H:Hp) (p tl la wa l2:aq) (b:Nat) (ls ws:ZA) (L:Nat) (wt:Nat->Nat) (sc sz M:Nat):Prop where
 ob:∃dx,aw [la,l2] H p=some (.ins CS dx (Qj tl wa l2))
 ta:TailsAt C H tl la b ls ws L
 sa:∃dx sa,aw [la,l2] H tl=some (.ins C dx (Q3 b ws.length sa la))/\sa≠l2
 wr:RowsAt (aw [la,l2] H) wa ((aD sz).map (qL b wt sc))
 ly:∃zs:ZB,H l2=some (.lst (zs.map λz=>V.ref z.1))/\(∀z∈zs,aw [la,l2] H z.1=some (.lst (z.2.map V.int)))/\zs.map (·.2)=(aD M).map (Vo ls ws b wt sc)
 ne:la≠l2
theorem zlx(m:Same (aw [la] H) (aw [la] H')):Same (aw [la,l2] H) (aw [la,l2] H'):=λc o e=>by
 have hc:c∉[la,l2]:=λhc=>by rw[Vk hc]at e;cases e
 have hc1:c∉[la]:=λz=>hc (by simp at z;simp[z]);rw[yq hc]at e ⊢;have:=m c o (by rw[yq hc1];exact e);rwa[yq hc1]at this
section
variable {C CS:aq} {H H':Hp} {p tl la wa l2:aq} {b:Nat} {ls ws:ZA} {L L':Nat} {wt:Nat->Nat} {sc sz M:Nat}
theorem TotAt.more(A:TotAt C CS H p tl la wa l2 b ls ws L wt sc sz M)(TA:TailsAt C H' tl la b ls ws L')(m:Same (aw [la] H) (aw [la] H')):TotAt C CS H' p tl la wa l2 b ls ws L' wt sc sz M:=by
 have m2:=zlx (l2:=l2) m;obtain⟨dx,h1⟩:=A.ob;obtain⟨dx2,sa,h2,h3⟩:=A.sa;obtain⟨zs,g1,g2,g3⟩:=A.ly;have hn:l2∉[la]:=by simpa using cP A.ne
 exact⟨⟨dx,m2 _ _ h1⟩,TA,⟨dx2,sa,m2 _ _ h2,h3⟩,A.wr.same m2,⟨zs,by
  have:=m l2 _ (by rw[yq hn];exact g1);rwa[yq hn]at this,λz hz=>m2 _ _ (g2 z hz),g3⟩,A.ne⟩
theorem TotAt.same(A:TotAt C CS H p tl la wa l2 b ls ws L wt sc sz M)(m:Same H H'):TotAt C CS H' p tl la wa l2 b ls ws L wt sc sz M:=A.more (A.ta.same m) (m.aw [la])
theorem TotAt.obj(A:TotAt C CS H p tl la wa l2 b ls ws L wt sc sz M):∃dx,H p=some (.ins CS dx (Qj tl wa l2)):=let ⟨dx,h⟩:=A.ob;⟨dx,yj _ _ _ _ h⟩
theorem TotAt.lay(A:TotAt C CS H p tl la wa l2 b ls ws L wt sc sz M)(ht:t<M):∃zs q,H l2=some (.lst zs)/\atI zs (t:Int)=some (V.ref q)/\aw [la] H q=some (.lst ((Vo ls ws b wt sc t).map V.int)):=by
 obtain⟨zs,g1,g2,g3⟩:=A.ly;have h:((aD M).map (Vo ls ws b wt sc))[t]?=some (Vo ls ws b wt sc t):=by rw[ak,bO ht];rfl
 rw[<-g3,ak]at h;obtain⟨z,hz,e⟩:=aM.mp h;refine⟨_,z.1,g1,vo (by rw[ak,hz];rfl),?_⟩;have:=g2 z (aJ hz);rw[e]at this;have hc:z.1∉[la,l2]:=λhc=>by rw[Vk hc]at this;cases this
 rw[yq hc]at this;rw[yq (λz=>hc (by simp at z;simp[z]))];exact this
end
theorem zgD(ls:ZA)(b:Nat):∀(t:Nat) (x:List Int),cnt ls b t x<=b^t
 |0,_=>by simp[cnt]
 |t+1,x=>by
  rw[cnt,cX];have:∀(n:Nat),((aD n).map λ(c:Nat)=>if lacks ls (x++[(c:Int)])=true then cnt ls b t (zY ls (x++[(c:Int)])) else 0).sum<=n*b^t:=by
   intro n
   induction n with
   |zero=>simp
   |succ n ih=>
    rw[cL,aF,dU,fM];simp only[bz,dh,lq,FN,iB];have:(if lacks ls (x++[(n:Int)])=true then cnt ls b t (zY ls (x++[(n:Int)])) else 0)<=b^t:=by
     split
     ·exact zgD ls b t _
     ·exact bK _
    omega
  exact this b
theorem zhy(p:Nat->Bool):∀N:Nat,many p N<=N
 |0=>au _
 |N+1=>by
  rw[many];have:=zhy p N;split<;>omega
theorem ziU(ne:∀l∈ls,l≠[])(h2:2<=b)(t:Nat)(o:Option (List Int))(c:Nat):Vf ls b t o c<=b^t:=by
 cases o with
 |some x=>
  show (if _ then _ else 0)<=_;split
  ·exact zgD ls b t _
  ·exact bK _
 |none=>
  show (if c=0 then _ else if _ then _ else 0)<=_;split
  ·rw[ux ne h2];exact zhy _ _
  ·split
   ·exact zgD ls b t _
   ·exact bK _
theorem zkJ(h:b<=16)(ht:t<=1000):b^t<2^4001:=by
 have h1:b^t<=16^t:=fW h t;have h2:(16:Nat)^t=2^(4*t):=by rw[show (16:Nat)=2^4 from rfl,<-De]
 have h3:2^(4*t)<2^4001:=Nat.pow_lt_pow_right (lW 1) (by omega);omega
section
variable {P:cg} {w:cT} {K:aN} {mg:cG->Option aG} {base:dR} {T0 C CS:aq}
def Uo(C CS:aq):Sp:=λvs H Q _=>∃(p tl la wa l2:aq) (b:Nat) (ls ws:ZA) (L:Nat) (wt:Nat->Nat) (sc sz M j c t:Nat),vs=[.ref p,.int j,.int c,.int t]/\TotAt C CS H p tl la wa l2 b ls ws L wt sc sz M/\c<b/\t<sz/\Q (.int ((if j=ws.length then 0 else sc^t*wt c:Nat):Int)) H
theorem Q9:zG ["self","behind","figure","left"] ["self","behind","figure","left"] (zp vA):={}
theorem zen(D:Mt K CS "Totals.weight_of" "weight_of" vA A1 f fd)(zB:ClT K mg C)(zR:ClS K mg CS):FnOk P w K mg base CX0 1 f fd A1 (Uo C CS):=by
 refine D.fn.ok Q9 (λvs H Q E h=>?_) (λcdv A outer s H vs Q E hr h=>?_)
 ·obtain⟨p,tl,la,wa,l2,b,ls,ws,L,wt,sc,sz,M,j,c,t,rfl,_⟩:=h;rfl
 ·obtain⟨p,tl,la,wa,l2,b,ls,ws,L,wt,sc,sz,M,j,c,t,rfl,TT,hc,ht,kk⟩:=h;obtain⟨dx,hp⟩:=TT.obj;obtain⟨dt,sa,htl⟩:=TT.ta.obj;obtain⟨zs,q,w1,w2,w3⟩:=TT.wr.get (k:=t) (r:=qL b wt sc t) (by rw[ak,bO ht];rfl);refine xu ?_;intro XX;let q1:Sq XX ((zj vA).drop 1):=⟨_,zm (zE (zX (wJ K) (zX (wJ K) (yZ K (pv 0)) (pv 3) (λ_ _=>rfl)) (pv 2) (λ_ _=>rfl)))⟩
  refine⟨_,(zg (yx (zP Qe (pv 1) (yZ K (yZ K (pv 0))) (zT _))
    (zm (zE zu))
    zQ) q1.p),?_⟩
  refine⟨_,rfl,_,rfl,p,CS,dx,_,_,rfl,hp,zR.cl,zR.n_tails,jA _ _ _,tl,C,dt,_,_,rfl,htl,zB.cl,zB.n_outset,vR _ _ _ _,rfl,_,rfl,?_⟩;refine JC (λh=>?_) (λh=>?_)
  ·have e:j=ws.length:=by have z:=of_decide_eq_true h;injection z with z;omega
   rw[if_pos e]at kk;exact kk
  ·have e:¬ j=ws.length:=λz=>h (decide_eq_true (by rw[z]));rw[if_neg e]at kk;refine⟨_,rfl,p,CS,dx,_,_,rfl,hp,zR.cl,zR.n_weights,zd0 _ _ _,_,rfl,wa,_,_,V.ref q,rfl,rfl,SqL.of (yj _ _ _ _ w1),w2,_,rfl,q,_,_,V.int ((sc^t*wt c:Nat):Int),rfl,rfl,SqL.of (yj _ _ _ _ w3),vo ?_,kk⟩;unfold qL;rw[ak,ak,bO hc];rfl
def SQ(C CS:aq)(H:Hp)(p tl la wa l2:aq)(b:Nat)(ls ws:ZA)(L:Nat)(wt:Nat->Nat)(sc sz M:Nat)(R:Nat->Hp->Prop):Prop:=∀L' H',L<=L'->TotAt C CS H' p tl la wa l2 b ls ws L' wt sc sz M->Same (aw [la] H) (aw [la] H')->R L' H'
def WM(C CS:aq):Sp:=λvs H Q _=>∃(p tl la wa l2:aq) (b:Nat) (ls ws:ZA) (L:Nat) (wt:Nat->Nat) (sc sz M i s t ah:Nat),vs=[.ref p,.int i,.int s,.int t,.int ah]/\TotAt C CS H p tl la wa l2 b ls ws L wt sc sz M/\GoodT b ls ws/\L<=1000/\t<900/\t<sz/\t<M/\i<=ws.length/\s<=b/\sc<=16/\(∀c,c<b->wt c<2^64)/\ah<2^5000 /\
 SQ C CS H p tl la wa l2 b ls ws L wt sc sz M λL' H'=>L'<=max L (t+1)->Q (.int ((ah*under ls b t ws[i]? s+Xo ls b wt sc t ws[i]? s:Nat):Int)) H'
theorem yS:zG ["self","place","stop","left","ahead","counts","totals","total","figure","behind","weight"] ["self","place","stop","left","ahead"] (zp yI):={}
set_option maxHeartbeats 0 in
theorem zcg(D:Mt K CS "Totals.total_under" "total_under" yI A4 f fd)(wI:Mt K C "Tails.layer" "layer" vJ An f1 fd1)(qI:FnOk P w K mg base CX0 2 f1 fd1 An (zag C))(wZ:Mt K CS "Totals.weight_of" "weight_of" vA A1 f2 fd2)(vW:FnOk P w K mg base CX0 1 f2 fd2 A1 (Uo C CS))(zB:ClT K mg C)(zR:ClS K mg CS)(T:Blt mg):FnOk P w K mg base CX0 3 f fd A4 (WM C CS):=by
 refine D.fn.ok yS (λvs H Q E h=>?_) (λcdv A outer s H vs Q E hr h=>?_)
 ·obtain⟨p,tl,la,wa,l2,b,ls,ws,L,wt,sc,sz,M,i,s,t,ah,rfl,_⟩:=h;rfl
 ·obtain⟨p,tl,la,wa,l2,b,ls,ws,L,wt,sc,sz,M,i,s,t,ah,rfl,TT,G,hL,ht,hts,htM,hi,hs,hsc,hwt,hah,kk⟩:=h;have b2:=G.g.b2;have b16:=G.g.b16;obtain⟨dx,hp⟩:=TT.obj;obtain⟨dt,sa0,htl⟩:=TT.ta.obj;refine xu ?_;intro XX;let q1:Sq XX ((zj yI).drop 4):=⟨_,zm (zE (pv 7))⟩
  let q2:Sq XX ((sb (sb (zj yI) 3 true) 0 true).drop 1):=⟨_,zm (zaS (i:=7) yS.nd rfl (aW rfl) (zV xO (zV zkm (pv 10) (zX (wJ K) (pv 5) (pv 9) (λ_ _=>rfl))) (zX (wJ K) (pv 6) (pv 9) (λ_ _=>rfl))) zbW)⟩
  let q3:Sq XX ((zj yI).drop 3):=⟨_,zg (wR bj rfl (zkf K rfl T.n_enumerate (zc (tX (V1 K) (zX (wJ K) (yZ K (yZ K (pv 0))) (pv 1) (λ_ _=>rfl)) YW (tK (pv 2))) zf)) (zlu rfl (ze3 (yV (i:=8) yS.nd rfl (aW rfl)) (ze3 (yV (i:=9) yS.nd rfl (aW rfl)) zks)))
    (zm (yx (zP zbP (pv 9) uF (zT _))
     (zg (zU (i:=10) yS.nd rfl (aW rfl) (zV xO (pv 4) (xZ wZ zR.cl vW (hr.mono (by decide)) (pv 0) (zc (pv 9) (zc (pv 8) (zc (pv 3) zf)))))) q2.p)
     zQ))) q1.p⟩
  let q4:Sq XX ((zj yI).drop 2):=⟨_,zg (zU (i:=7) yS.nd rfl (aW rfl) zu) q3.p⟩
  let q5:Sq XX ((zj yI).drop 1):=⟨_,zg (zU (i:=6) yS.nd rfl (aW rfl) (zX (wJ K) (yZ K (pv 0)) (pv 3) (λ_ _=>rfl))) q4.p⟩
  refine⟨_,(zg (zU (i:=5) yS.nd rfl (aW rfl) (xZ wI zB.cl qI (hr.mono (by decide)) (yZ K (pv 0)) (zc (pv 3) zf))) q5.p),?_⟩;refine⟨_,rfl,p,CS,dx,_,_,rfl,hp,zR.cl,zR.n_tails,jA _ _ _,tl,dt,_,rfl,htl,xM _ _ _ _,_,rfl,tl,la,b,ls,ws,L,t,rfl,TT.ta,G,hL,by omega,λlay L1 H1 hL1 TA1 m1 hmx hlay=>?_⟩;have TT1:=TT.more TA1 m1;obtain⟨dx1,hp1⟩:=TT1.obj;obtain⟨zs,tq,g1,g2,g3⟩:=TT1.lay htM;refine⟨_,rfl,p,CS,dx1,_,_,rfl,hp1,zR.cl,zR.n_layers,Qm _ _ _,_,rfl,l2,_,_,V.ref tq,rfl,rfl,SqL.of g1,g2,?_⟩;obtain⟨dt1,sa,srs,h1,h2,h3,h4⟩:=TA1.ob;have hrow:=UJ (ls:=ls) (b:=b) (by omega) hi;rw[<-h4,ak]at hrow;obtain⟨z,hz,ez⟩:=aM.mp hrow;have hz3:=yj _ _ _ _ (h3 z (aJ hz));refine⟨_,rfl,p,CS,dx1,_,_,rfl,hp1,zR.cl,zR.n_tails,jA _ _ _,tl,C,dt1,_,_,rfl,yj _ _ _ _ h1,zB.cl,zB.n_steps,uW _ _ _ _,_,rfl,sa,_,_,V.ref z.1,rfl,rfl,SqL.of (yj _ _ _ _ h2),vo (by rw[ak,hz];rfl),?_⟩;refine⟨_,rfl,_,rfl,z.1,_,rfl,SqL.of hz3,λq hq=>?_⟩;have ecut:UG z.2 none (some (s:Int))=(aD s).map (stepV ls ws ws[i]?):=by
   rw[QR,ez,<-lu,Dr,dH hs]
  rw[ecut];have m2:=zy hq (o:=.lst ((aD s).map (stepV ls ws ws[i]?)));have TT2:=TT1.same m2;have hq2:upd H1 q (.lst ((aD s).map (stepV ls ws ws[i]?))) q=some (.lst ((aD s).map (stepV ls ws ws[i]?))):=zq;have hlay2:=m2 _ _ (yj _ _ _ _ hlay);have htq2:=m2 _ _ (yj _ _ _ _ g3);generalize upd H1 q (.lst ((aD s).map (stepV ls ws ws[i]?)))=H2 at m2 TT2 hq2 hlay2 htq2;refine⟨q,rfl,⟨_,SqL.of hq2⟩,zju (K:=K) (a:=q) (xs:=(aD s).map (stepV ls ws ws[i]?)) (λk Z H3=>∃(v8 v9 v10:Option V),Z=[some (.ref p),some (.int i),some (.int s),some (.int t),some (.int ah),some (.ref lay),some (.ref tq),some (.int ((ah*under ls b t ws[i]? k+Xo ls b wt sc t ws[i]? k:Nat):Int)),v8,v9,v10]/\Same H2 H3)
   ⟨none,none,none,rfl,Same.refl _⟩ (λk Z H3 _ ⟨_,_,_,_,m⟩=>SqL.of (m _ _ hq2)) ?_ ?_⟩
  ·rintro k x Z H3 T1 hx ⟨v8,v9,v10,rfl,m3⟩ hT1;rw[ak]at hx;obtain⟨c,hc,e⟩:=aM.mp hx;have hk:k<s:=by have:=(aO.mp hc).1;rwa[aX]at this
   have ec:c=k:=by rw[bO hk]at hc;exact (bY hc).symm
   subst ec;subst e;refine⟨T1,_,rfl,SqT.of zq,rfl,_,_,rfl,_,_,rfl,rfl,?_⟩;have m4:=m3.trans (zy hT1 (o:=.tup [.int (c:Nat),stepV ls ws ws[i]? c]));generalize upd H3 T1 (.tup [.int (c:Nat),stepV ls ws ws[i]? c])=H4 at m4;have hus:=Uh ls b t ws[i]? c;have hut:=zbc ls b wt sc t ws[i]? c;rcases zfL (t:=t) (w:=wt) (sc:=sc) G (c:=c) hi with ⟨e1,e2,e3⟩ | ⟨j,xx,y,zz,e1,e2,e3,e4,e5,e6,e7⟩
   ·rw[e1];refine⟨_,rfl,rfl,_,rfl,wN ⟨some (.int (c:Nat)),some .non,v10,?_,m4⟩⟩;rw[hus,hut,e2,e3];rfl
   ·rw[e1];refine⟨_,rfl,rfl,_,rfl,qd ?_⟩;have TT4:=TT2.same m4;obtain⟨dx4,hp4⟩:=TT4.obj;refine⟨_,rfl,_,rfl,p,dx4,_,rfl,hp4,W6 _ _ _,_,rfl,_,rfl,_,rfl,p,tl,la,wa,l2,b,ls,ws,L1,wt,sc,sz,M,j,c,t,rfl,TT4,by omega,hts,?_⟩;rw[<-e5];have hzz:zz<2^5000:=by
     rw[e5];split
     ·exact fD (by decide)
     ·have a1:=zkJ (b:=sc) hsc (show t<=1000 by omega);have a2:=hwt c (by omega);exact aA (Nat.mul_lt_mul'' a1 a2) (by rw[<-ik];exact cH (eY 1) (by decide))
    have hxx:xx<2^4001:=by
     have:=ziU G.ne b2 t ws[i]? c;rw[e7]at this;exact bw this (zkJ b16 (by omega))
    have haz:ah+zz<2^5001:=by rw[iy];omega
    refine⟨_,_,rfl,rfl,?_⟩;refine⟨_,rfl,_,rfl,_,rfl,_,rfl,lay,_,_,V.int ((xx:Nat):Int),rfl,rfl,SqL.of (m4 _ _ hlay2),vo (by rw[ak,e3];rfl),_,_,rfl,rfl,(CMulB.nat (i:=ah+zz) (j:=xx) haz hxx (by decide) (by decide):CMulB ((ah+zz:Nat):Int) (xx:Int)),?_⟩;refine⟨_,rfl,_,rfl,tq,_,_,V.int ((y:Nat):Int),rfl,rfl,SqL.of (m4 _ _ htq2),vo (by rw[ak,e4];rfl),_,_,rfl,rfl,_,_,rfl,rfl,some (.int (c:Nat)),some (.int (j:Nat)),some (.int ((ah+zz:Nat):Int)),?_,m4⟩;have ev:((ah*under ls b t ws[i]? (c+1)+Xo ls b wt sc t ws[i]? (c+1):Nat):Int)=((ah*under ls b t ws[i]? c+Xo ls b wt sc t ws[i]? c:Nat):Int)+(((ah+zz:Nat):Int)*(xx:Int)+(y:Int)):=by
     rw[hus,hut,e6,e7,<-pL,<-du,<-du];congr 1;rw[mG,Gs];omega
    rw[ev];rfl
  ·rintro Z H3 ⟨v8,v9,v10,rfl,m3⟩;rw[aa,aX];exact⟨_,rfl,kk L1 H3 hL1 (TT2.same m3) (m1.trans ((m2.trans m3).aw [la])) hmx⟩
end
theorem zeg(G:GoodT b ls ws)(hr:r∈Uu ls ws b):V.ref a∉r:=by
 obtain⟨i,hi,e⟩:=List.mem_iff_getElem.mp hr;have hlen:(Uu ls ws b).length=ws.length+1:=by unfold Uu;rw[aB,aa,aU]
 have hi':i<=ws.length:=by omega
 have h:=UJ (ls:=ls) (b:=b) (by have:=G.g.b2;omega) hi';rw[aj hi,e]at h;have h':=bY h;intro hm;rw[h']at hm;obtain⟨c,_,hc⟩:=bh.mp hm;rcases zbb (b:=b) (t:=0) G (c:=c) hi' with ⟨e1,_⟩ | ⟨j,e1,_⟩
 ·rw[e1]at hc;cases hc
 ·rw[e1]at hc;cases hc
theorem TailsAt.updL{C tl la b l2:Nat}{rest:List V}(TA:TailsAt C H tl la b ls ws L)(G:GoodT b ls ws)(h:H l2=some (.lst (V.ref r0::rest)))(hne:la≠l2)(hsa:∃dx sa,H tl=some (.ins C dx (Q3 b ws.length sa la))/\sa≠l2):TailsAt C (upd H l2 o) tl la b ls ws L:=by
 obtain⟨dx,sa,srs,h1,h2,h3,h4⟩:=TA.ob;obtain⟨lrs,g1,g2,g3⟩:=TA.ly;obtain⟨dx',sa',k1,k2⟩:=hsa;have esa:sa'=sa:=by
  have:=yj _ _ _ _ h1;rw[k1]at this;injection this with this
  injection this with _ _ this
  have e:=uW b ws.length sa la;rw[<-this,uW]at e;injection e with e
  injection e
 have go:∀c u,c≠l2->aw [la] H c=some u->aw [la] (upd H l2 o) c=some u:=λc u hc e=>by
  have hcl:c∉[la]:=λhz=>by rw[Vk hz]at e;cases e
  rw[yq hcl]at e ⊢;rw[zA hc];exact e
 refine⟨⟨dx,sa,srs,go _ _ (λz=>?_) h1,go _ _ (λz=>k2 (by rw[esa,z])) h2,λz hz=>go _ _ (λy=>?_) (h3 z hz),h4⟩,⟨lrs,by rw[zA hne];exact g1,λz hz=>go _ _ (λy=>?_) (g2 z hz),g3⟩,TA.l1⟩
 ·have:=yj _ _ _ _ h1;rw[z,h]at this;cases this
 ·have e:=yj _ _ _ _ (h3 z hz);rw[y,h]at e;injection e with e
  injection e with e
  have hm:z.2∈Uu ls ws b:=by rw[<-h4];exact bh.mpr ⟨z,hz,rfl⟩
  exact zeg G hm (a:=r0) (by rw[<-e];exact bI)
 ·have e:=yj _ _ _ _ (g2 z hz);rw[y,h]at e;injection e with e
  injection e with e
  cases hz2:z.2 with
  |nil=>rw[hz2]at e;cases e
  |cons a l=>rw[hz2,bz]at e;injection e with e _;cases e
theorem TailsAt.updI{C tl la b p CS dxp:Nat}(TA:TailsAt C H tl la b ls ws L)(h:H p=some (.ins CS dxp fs))(hne:tl≠p):TailsAt C (upd H p o) tl la b ls ws L:=by
 obtain⟨dx,sa,srs,h1,h2,h3,h4⟩:=TA.ob;obtain⟨lrs,g1,g2,g3⟩:=TA.ly;have nl:∀{c:aq} {xs:List V},H c=some (.lst xs)->c≠p:=λe z=>by rw[z,h]at e;cases e
 have go:∀c u,c≠p->aw [la] H c=some u->aw [la] (upd H p o) c=some u:=λc u hc e=>by
  have hcl:c∉[la]:=λhz=>by rw[Vk hz]at e;cases e
  rw[yq hcl]at e ⊢;rw[zA hc];exact e
 exact⟨⟨dx,sa,srs,go _ _ hne h1,go _ _ (nl (yj _ _ _ _ h2)) h2,λz hz=>go _ _ (nl (yj _ _ _ _ (h3 z hz))) (h3 z hz),h4⟩,⟨lrs,by rw[zA (nl g1)];exact g1,λz hz=>go _ _ (nl (yj _ _ _ _ (g2 z hz))) (g2 z hz),g3⟩,TA.l1⟩
theorem RowsAt.updI(R:RowsAt H a rs)(h:H p=some (.ins CS dxp fs)):RowsAt (upd H p o) a rs:=by
 obtain⟨zs,h1,h2,h3⟩:=R.ex;have nl:∀{c:aq} {xs:List V},H c=some (.lst xs)->c≠p:=λe z=>by rw[z,h]at e;cases e
 exact⟨⟨zs,by rw[zA (nl h1)];exact h1,λz hz=>by rw[zA (nl (h2 z hz))];exact h2 z hz,h3⟩⟩
theorem LT.putI(h:LT T H)(e:H p=some (.ins CS dx fs)):LT T (upd H p o):=by
 have nT:p≠T:=λz=>by
  rw[z]at e;rcases h with h | ⟨c,h,_⟩
  ·rw[h]at e;cases e
  ·rw[h]at e;cases e
 rcases h with h | ⟨c,h1,h2⟩
 ·exact .inl (by rw[zA (cP nT)];exact h)
 ·exact .inr ⟨c,by rw[zA (cP nT)];exact h1,by rw[zA (λz=>by rw[z,e]at h2;cases h2)];exact h2⟩
section
variable {C CS:aq} {H H':Hp} {p tl la wa l2:aq} {b:Nat} {ls ws:ZA} {L L':Nat} {wt:Nat->Nat} {sc sz M:Nat}
theorem TotAt.push(A:TotAt C CS H p tl la wa l2 b ls ws L wt sc sz M)(G:GoodT b ls ws)(hM:1<=M)(hx:H l2=some (.lst xs))(hq:aw [la,l2] H q=some (.lst ((Vo ls ws b wt sc M).map V.int))):TotAt C CS (upd H l2 (.lst (xs++[.ref q]))) p tl la wa l2 b ls ws L wt sc sz (M+1):=by
 obtain⟨dx,h1⟩:=A.ob;obtain⟨dx2,sa,h2,h3⟩:=A.sa;obtain⟨zs,g1,g2,g3⟩:=A.ly;have ex:xs=zs.map λz=>V.ref z.1:=by
  rw[hx]at g1;injection g1 with g1
  injection g1
 have hzl:zs.length=M:=by have:=congrArg c7 g3;rwa[aa,aa,aX]at this
 have e0:=Uy (fp:=[la,l2]) (H:=H) (b:=l2) (o:=.lst (xs++[.ref q])) (by simp);obtain⟨z0,zr,ez⟩:∃z0 zr,zs=z0::zr:=by
  cases zs with
  |nil=>simp at hzl;omega
  |cons a l=>exact⟨a,l,rfl⟩
 refine⟨⟨dx,by rw[e0];exact h1⟩,A.ta.updL G (r0:=z0.1) (rest:=zr.map λz=>V.ref z.1) (by rw[hx,ex,ez];rfl) A.ne ⟨dx2,sa,yj _ _ _ _ h2,h3⟩,⟨dx2,sa,by rw[e0];exact h2,h3⟩,by rw[e0];exact A.wr,⟨zs++[(q,Vo ls ws b wt sc M)],by rw[zq,ex];simp,λz hz=>?_,?_⟩,A.ne⟩
 ·rw[e0];rcases bf.mp hz with hz | hz
  ·exact g2 z hz
  ·have e:z=(q,Vo ls ws b wt sc M):=by simpa using hz
   subst e;exact hq
 ·rw[aF,g3,cL,aF];rfl
end
section
variable {P:cg} {w:cT} {K:aN} {mg:cG->Option aG} {base:dR} {T0 C CS:aq}
def Qa(C CS:aq):Sp:=λvs H Q _=>∃(p tl la wa l2:aq) (b:Nat) (ls ws:ZA) (L:Nat) (wt:Nat->Nat) (sc sz M t:Nat),vs=[.ref p,.int t]/\TotAt C CS H p tl la wa l2 b ls ws L wt sc sz M/\GoodT b ls ws/\L<=900/\t<900/\t<sz/\t<M/\sc<=16/\(∀c,c<b->wt c<2^64) /\
 ∀q,SQ C CS H p tl la wa l2 b ls ws L wt sc sz M λL' H'=>L'<=max L (t+1)->aw [la,l2] H' q=some (.lst ((Vo ls ws b wt sc (t+1)).map V.int))->Q (.ref q) H'
theorem Um:zG ["self","left"] ["self","left"] (zp vq):={}
set_option maxHeartbeats 0 in
theorem zbC(D:Mt K CS "Totals.longer_layer" "longer_layer" vq An f fd)(wg:Mt K CS "Totals.total_under" "total_under" yI A4 f1 fd1)(vf:FnOk P w K mg base CX0 3 f1 fd1 A4 (WM C CS))(zB:ClT K mg C)(zR:ClS K mg CS)(T:Blt mg):FnOk P w K mg base CX0 4 f fd An (Qa C CS):=by
 refine D.fn.ok Um (λvs H Q E h=>?_) (λcdv A outer s H vs Q E hr h=>?_)
 ·obtain⟨p,tl,la,wa,l2,b,ls,ws,L,wt,sc,sz,M,t,rfl,_⟩:=h;rfl
 ·obtain⟨p,tl,la,wa,l2,b,ls,ws,L,wt,sc,sz,M,t,rfl,TT,G,hL,ht,hts,htM,hsc,hwt,kk⟩:=h;have h13:=G.h13;obtain⟨dx,hp⟩:=TT.obj;obtain⟨dt,sa0,htl⟩:=TT.ta.obj;refine⟨_,(zm (zE (wO (show CScope (zp vq) _ "place" ["self","left"] ["left","self"] [1,0] from {}) rfl (yM rfl T.n_range (zc (zV xO (yZ K (yZ K (pv 0))) zu) zf)) (λ_ _ _ _=>vU) (λ_ _ _ _=>(xZ wg zR.cl vf (hr.mono (by decide)) (pv 2) (zc (pv 0) (zc (yZ K (yZ K (pv 2))) (zc (pv 1) (zc zu zf))))))))),?_⟩;refine⟨_,rfl,p,CS,dx,_,_,rfl,hp,zR.cl,zR.n_tails,jA _ _ _,tl,C,dt,_,_,rfl,htl,zB.cl,zB.n_outset,vR _ _ _ _,_,_,rfl,rfl,((ws.length:Int)+1),rfl,by omega,by omega,jF (lo:=0) (n:=((ws.length:Int)+1).toNat) (λi ys H4=>∃L',ys=(((aD i).map λi=>((Xo ls b wt sc t ws[i]? b:Nat):Int))).map V.int/\L<=L'/\L'<=max L (t+1)/\TotAt C CS H4 p tl la wa l2 b ls ws L' wt sc sz M/\Same (aw [la] H) (aw [la] H4)) ⟨L,rfl,au _,pJ _ _,TT,Same.refl _⟩ ?_ ?_⟩
  ·rintro i ys H4 hi ⟨L',rfl,hLL,hLm,TT4,m4⟩;refine⟨by rw[aa,aa,aX];exact aA (show i<20 by omega) (by decide),?_⟩;unfold Vp;dsimp only;rw[if_pos rfl];obtain⟨dx4,hp4⟩:=TT4.obj;obtain⟨dt4,sa4,htl4⟩:=TT4.ta.obj;refine⟨_,rfl,p,dx4,_,rfl,hp4,W6 _ _ _,_,rfl,_,rfl,p,CS,dx4,_,_,rfl,hp4,zR.cl,zR.n_tails,jA _ _ _,tl,C,dt4,_,_,rfl,htl4,zB.cl,zB.n_base,zaW _ _ _ _,_,rfl,p,tl,la,wa,l2,b,ls,ws,L',wt,sc,sz,M,i,b,t,0,by rw[cM];rfl,TT4,G,by omega,ht,hts,htM,by omega,au _,hsc,hwt,fD (by decide),λL5 H5 hL5 TT5 m5 hm5=>⟨L5,?_,by omega,by omega,TT5,m4.trans m5⟩⟩;rw[cL,aF,aF,d9,dm];rfl
  ·rintro ys H4 ⟨L',rfl,hLL,hLm,TT4,m4⟩ q hq;rw[show ((ws.length:Int)+1).toNat=ws.length+1 by omega,zig];have m5:=zy hq (o:=.lst ((Vo ls ws b wt sc (t+1)).map V.int));obtain⟨xs,hla⟩:=TT4.ta.la;obtain⟨zs,hl2,_⟩:=TT4.ly;exact kk q L' _ hLL (TT4.same m5) (m4.trans (m5.aw [la])) hLm (by rw[yq (by simp[cP (zF hla hq),cP (zF hl2 hq)]),zq])
def U6(C CS:aq):Sp:=λvs H Q _=>∃(p tl la wa l2:aq) (b:Nat) (ls ws:ZA) (L:Nat) (wt:Nat->Nat) (sc sz M t:Nat),vs=[.ref p,.int t]/\TotAt C CS H p tl la wa l2 b ls ws L wt sc sz M/\t<M/\Q (.int (ttO ls b wt sc t:Nat)) H
theorem UV:zG ["self","size"] ["self","size"] (zp uD):={}
theorem zbA(D:Mt K CS "Totals.total_within" "total_within" uD Ah f fd)(zB:ClT K mg C)(zR:ClS K mg CS):FnOk P w K mg base CX0 1 f fd Ah (U6 C CS):=by
 refine D.fn.ok UV (λvs H Q E h=>?_) (λcdv A outer s H vs Q E hr h=>?_)
 ·obtain⟨p,tl,la,wa,l2,b,ls,ws,L,wt,sc,sz,M,t,rfl,_⟩:=h;rfl
 ·obtain⟨p,tl,la,wa,l2,b,ls,ws,L,wt,sc,sz,M,t,rfl,TT,htM,kk⟩:=h;obtain⟨dx,hp⟩:=TT.obj;obtain⟨dt,sa0,htl⟩:=TT.ta.obj;obtain⟨zs,tq,g1,g2,g3⟩:=TT.lay htM;refine⟨_,(zm (zE (zX (wJ K) (zX (wJ K) (yZ K (pv 0)) (pv 1) (λ_ _=>rfl)) (yZ K (yZ K (pv 0))) (λ_ _=>rfl)))),?_⟩;refine⟨_,rfl,p,CS,dx,_,_,rfl,hp,zR.cl,zR.n_layers,Qm _ _ _,_,rfl,l2,_,_,V.ref tq,rfl,rfl,SqL.of g1,g2,_,rfl,p,CS,dx,_,_,rfl,hp,zR.cl,zR.n_tails,jA _ _ _,tl,C,dt,_,_,rfl,htl,zB.cl,zB.n_outset,vR _ _ _ _,tq,_,_,V.int ((ttO ls b wt sc t:Nat):Int),rfl,rfl,SqL.of (yj _ _ _ _ g3),vo ?_,kk⟩;unfold Vo;rw[aF,bG (by rw[aa,aa];exact au _),aa,aa,eG];rfl
end
theorem LT.putL2(h:LT T H)(e:H p=some (.lst xs)):LT T (upd H p o):=
 h.off e (by rw[Uy (by simp)];exact Same.refl _)
theorem JT{α:Type}{f:α->V}(h:∀a,f a=V.int 0):∀l:List α,(bc l.length [V.int 0]).flatten=l.map f
 |[]=>rfl
 |a::l=>by rw[bB,fB,gF,JT h l,bz,h a];rfl
theorem zim:(Vo ls ws b wt sc 0).map V.int=(bc ws.length [V.int 0]).flatten++[V.int ((wt 0:Nat)*(vH ls b 0:Nat):Int)]:=by
 unfold Vo;rw[aF,d8,JT (f:=V.int ∘ λx=>((tt ls b wt sc 0 x:Nat):Int)) (λ_=>rfl) ws];congr 1
section
variable {P:cg} {w:cT} {K:aN} {mg:cG->Option aG} {base:dR} {T0 C CS:aq}
def VJ(T0 C CS:aq):Sp:=λvs H Q _=>∃(p dx r:aq) (b:Nat) (bl:aq) (zs:ZB) (wl:aq) (wt:Nat->Nat) (sc sz:Nat),vs=[.ref p,.ref r,.ref wl,.int sc,.int sz]/\H p=some (.ins CS dx [])/\RuleAt H r b bl zs/\GoodRule b (zs.map (·.2))/\LT T0 H/\H wl=some (.lst ((qL b wt sc 0).map V.int))/\sc<=16/\sz<=800/\(∀c,c<b->wt c<2^64) /\
 ∀tl la wa l2 ws L H',TotAt C CS H' p tl la wa l2 b (zs.map (·.2)) ws L wt sc sz (sz+1)->GoodT b (zs.map (·.2)) ws->L<=801->(∀c o,c≠p->c≠T0->H c=some o->H' c=some o)->LT T0 H'->H la=none->H l2=none->Q .non H'
theorem Wt:zG ["self","rule","weights","scale","size","left"] ["self","rule","weights","scale","size"] (zp vV):={}
set_option maxHeartbeats 0 in
theorem zhH(D:Mt K CS "Totals.__init__" "__init__" vV Ax f fd)(wU:Mk K C f1)(wQ:Binds K fd1 ["self","rule"] [])(zZ:FnOk P w K mg base CX0 7 f1 fd1 Ai (qQ T0 C))(jH:Df K mg "weights_by_left" wj Bh f2 fd2)(Yt:FnOk P w K mg base CX0 1 f2 fd2 Bh WP)(zM:Mt K C "Tails.many_within" "many_within" yH Ah f3 fd3)(zN:FnOk P w K mg base CX0 3 f3 fd3 Ah (w5 C))(uK:Mt K CS "Totals.longer_layer" "longer_layer" vq An f4 fd4)(jw:FnOk P w K mg base CX0 4 f4 fd4 An (Qa C CS))(zB:ClT K mg C)(zR:ClS K mg CS)(T:Blt mg):FnOk P w K mg base CX0 9 f fd Ax (VJ T0 C CS):=by
 refine D.fn.ok Wt (λvs H Q E h=>?_) (λcdv A outer s H vs Q E hr h=>?_)
 ·obtain⟨p,dx,r,b,bl,zs,wl,wt,sc,sz,rfl,_⟩:=h;rfl
 ·obtain⟨p,dx,r,b,bl,zs,wl,wt,sc,sz,rfl,hp,R,g,hT,hwl,hsc,hsz,hwt,kk⟩:=h;have b2:=g.b2;have b16:=g.b16;have npT:p≠T0:=λz=>by
   rw[z]at hp;rcases hT with h | ⟨c,h,_⟩
   ·rw[h]at hp;cases hp
   ·rw[h]at hp;cases hp
  have wlp:wl≠p:=jg hwl hp (λz=>nomatch z);refine xu ?_;intro XX;let q1:Sq XX ((zj vV).drop 3):=⟨_,zm (wR bj rfl (yM rfl T.n_range (zc (pv 4) zf)) (yV (i:=5) Wt.nd rfl (aW rfl))
    (zm (yw (Vx PySem.F.plainAttrs_list PySem.F.slot_list_append PySem.F.type_list_append qU (yZ K (pv 0)) (zc (xZ uK zR.cl jw (hr.mono (by decide)) (pv 0) (zc (pv 5) zf)) zf)))))⟩
  let q2:Sq XX ((zj vV).drop 2):=⟨_,zg (Yv (pv 0) (yR (zc (zV ZZ (zV ziP (yR (zc zu zf)) (yZ K (yZ K (pv 0)))) (yR (zc (zV Zj (zX (wJ K) (pv 2) zu (λ_ _=>rfl)) (xZ zM zB.cl zN (hr.mono (by decide)) (yZ K (pv 0)) (zc zu zf))) zf))) zf)) rfl) q1.p⟩
  let q3:Sq XX ((zj vV).drop 1):=⟨_,zg (Yv (pv 0) (zK jH Yt (hr.mono (by decide)) (zc (pv 2) (zc (pv 3) (zc (pv 4) zf)))) rfl) q2.p⟩
  refine⟨_,(zg (Yv (pv 0) (jc wU zZ (hr.mono (by decide)) rfl zB.nm wQ .nil Xf (zc (pv 1) zf)) rfl) q3.p),?_⟩;refine⟨_,rfl,?_⟩;refine Y8 R g hT ?_;rintro tl H1 ⟨la,ws,TA1,G,m1,hT1,hla⟩;have h13:=G.h13;have hp1:=m1 _ _ npT hp;have hwl1:=m1 _ _ (hT.lst hwl) hwl;have tlp:tl≠p:=λz=>by
   obtain⟨dt,sa,e⟩:=TA1.obj;rw[z,hp1]at e;injection e with e
   injection e with _ _ e
   have:=uW b ws.length sa la;rw[<-e]at this;cases this
  refine⟨_,rfl,p,CS,dx,_,rfl,hp1,zR.cl,zR.n_tails,(by show 0<1000;decide),?_⟩;have TA2:=TA1.updI (o:=.ins CS dx (yo "tails" (.ref tl) [])) hp1 tlp;have hT2:=hT1.putI (o:=.ins CS dx (yo "tails" (.ref tl) [])) hp1;have hp2:upd H1 p (.ins CS dx (yo "tails" (.ref tl) [])) p=some (.ins CS dx (yo "tails" (.ref tl) [])):=zq;have hwl2:upd H1 p (.ins CS dx (yo "tails" (.ref tl) [])) wl=some (.lst ((qL b wt sc 0).map V.int)):=by rw[zA wlp];exact hwl1
  have n2:∀c o,c≠p->c≠T0->H c=some o->upd H1 p (.ins CS dx (yo "tails" (.ref tl) [])) c=some o:=λc o h1 h2 e=>by rw[zA h1];exact m1 c o h2 e
  generalize upd H1 p (.ins CS dx (yo "tails" (.ref tl) []))=H2 at TA2 hT2 hp2 hwl2 n2;refine⟨_,rfl,_,rfl,_,rfl,wl,b,wt,sc,sz,rfl,hwl2,b16,hsc,by omega,λwa H3 hwa RW3 m3=>?_⟩;have hp3:=m3 _ _ hp2;refine⟨_,rfl,p,CS,dx,_,rfl,hp3,zR.cl,zR.n_weights,(by show 1<1000;decide),?_⟩;have TA3:=TA2.same m3;have TA4:=TA3.updI (o:=.ins CS dx (yo "weights" (.ref wa) (yo "tails" (.ref tl) []))) hp3 tlp;have hT4:=(hT2.same m3).putI (o:=.ins CS dx (yo "weights" (.ref wa) (yo "tails" (.ref tl) []))) hp3;have RW4:=RW3.updI (o:=.ins CS dx (yo "weights" (.ref wa) (yo "tails" (.ref tl) []))) hp3;have hp4:upd H3 p (.ins CS dx (yo "weights" (.ref wa) (yo "tails" (.ref tl) []))) p=some (.ins CS dx (yo "weights" (.ref wa) (yo "tails" (.ref tl) []))):=zq;have hwl4:upd H3 p (.ins CS dx (yo "weights" (.ref wa) (yo "tails" (.ref tl) []))) wl=some (.lst ((qL b wt sc 0).map V.int)):=by rw[zA wlp];exact m3 _ _ hwl2
  have n4:∀c o,c≠p->c≠T0->H c=some o->upd H3 p (.ins CS dx (yo "weights" (.ref wa) (yo "tails" (.ref tl) []))) c=some o:=λc o h1 h2 e=>by rw[zA h1];exact m3 _ _ (n2 c o h1 h2 e)
  generalize upd H3 p (.ins CS dx (yo "weights" (.ref wa) (yo "tails" (.ref tl) [])))=H4 at TA4 hT4 RW4 hp4 hwl4 n4;have lkt:(yo "weights" (.ref wa) (yo "tails" (.ref tl) [])).lookup ("tails" : cG)=some (V.ref tl):=by rw[zO,if_neg (by decide +kernel),zO,if_pos rfl]
  refine⟨(by show 1<=aZ;decide),λq1 k1=>?_⟩;have s1:=zy k1 (o:=.lst [V.int 0]);obtain⟨dt,sa,htl⟩:=(TA4.same s1).obj;refine⟨_,rfl,p,CS,dx,_,_,rfl,s1 _ _ hp4,zR.cl,zR.n_tails,lkt,tl,C,dt,_,_,rfl,htl,zB.cl,zB.n_outset,vR _ _ _ _,?_⟩;refine⟨q1,_,_,rfl,rfl,zq,by omega,by omega,?_,λq2 k2=>?_⟩
  ·show 1*(ws.length:Int).toNat<=aZ;exact ao (show 1*(ws.length:Int).toNat<=13 by omega) (by decide)
  have q2la:q2≠la:=λz=>by
   obtain⟨lx,hlx⟩:=TA4.la;have:=s1 _ _ hlx;rw[<-z,k2]at this;cases this
  have s2:=s1.trans (zy k2 (o:=.lst (bc (ws.length:Int).toNat [V.int 0]).flatten));have hq2:upd (upd H4 q1 (.lst [V.int 0])) q2 (.lst (bc (ws.length:Int).toNat [V.int 0]).flatten) q2=some (.lst (bc (ws.length:Int).toNat [V.int 0]).flatten):=zq;generalize upd (upd H4 q1 (.lst [V.int 0])) q2 (.lst (bc (ws.length:Int).toNat [V.int 0]).flatten)=H5 at s2 hq2;have TA5:=TA4.same s2;obtain⟨dt5,sa5,htl5⟩:=TA5.obj;refine⟨_,rfl,wl,_,_,V.int ((sc^0*wt 0:Nat):Int),rfl,rfl,SqL.of (s2 _ _ hwl4),?_,?_⟩
  ·refine vo (j:=0) ?_;unfold qL;rw[ak,ak,bO (by omega)];rfl
  refine⟨_,rfl,p,CS,dx,_,_,rfl,s2 _ _ hp4,zR.cl,zR.n_tails,lkt,tl,dt5,_,rfl,htl5,xM _ _ _ _,tl,la,b,_,ws,1,0,rfl,TA5,G,by decide,by decide,λL6 H6 hL6 TA6 m6 hmx=>?_⟩;have w0:=hwt 0 (by omega);have e00:sc^0*wt 0=wt 0:=by rw[dD,lJ]
  refine⟨_,_,rfl,rfl,.inl ⟨by omega,by omega⟩,?_⟩;have hT6:LT T0 H6:=(hT4.same s2).off (la:=la) (xs:=_) (TA5.la.choose_spec) m6;have off6:∀c o,c≠la->H5 c=some o->H6 c=some o:=λc o hc e=>by
   have hc':c∉[la]:=by simpa using hc
   have:=m6 c o (by rw[yq hc'];exact e);rwa[yq hc']at this
  obtain⟨lx,hlx⟩:=TA4.la;have pla:p≠la:=jg hp4 hlx (λz=>nomatch z);have hp6:=off6 _ _ pla (s2 _ _ hp4);have hq6':=off6 _ _ q2la hq2;refine⟨(by show 1<=aZ;decide),λq4 k4=>?_⟩;have nq:q2≠q4:=zF hq6' k4;refine⟨q2,q4,_,_,rfl,rfl,by rw[zA nq];exact hq6',zq,?_,λq5 k5=>⟨(by show 1<=aZ;decide),λq6 k6=>?_⟩⟩
  ·rw[dg,JT (f:=λ_=>V.int 0) (λ_=>rfl) ws,aa];exact ao (show ws.length+1<=14 by omega) (by decide)
  have t4:=zy k4 (o:=.lst [V.int (((sc^0*wt 0:Nat):Int)*((vH (zs.map (·.2)) b 0:Nat):Int))]);have t5:=t4.trans (zy k5 (o:=.lst ((bc (ws.length:Int).toNat [V.int 0]).flatten++[V.int (((sc^0*wt 0:Nat):Int)*((vH (zs.map (·.2)) b 0:Nat):Int))])));have t6:=t5.trans (zy k6 (o:=.lst [V.ref q5]));have f6:=t5.free k6;refine⟨_,rfl,p,CS,dx,_,rfl,t6 _ _ hp6,zR.cl,zR.n_layers,(by show 2<1000;decide),?_⟩;have np5:q5≠q6:=λz=>by rw[<-z,zq]at k6;cases k6
  have hp9:=t6 _ _ hp6;have hq6:=(zq:upd (upd (upd H6 q4 (.lst [V.int (((sc^0*wt 0:Nat):Int)*((vH (zs.map (·.2)) b 0:Nat):Int))])) q5 (.lst ((bc (ws.length:Int).toNat [V.int 0]).flatten++[V.int (((sc^0*wt 0:Nat):Int)*((vH (zs.map (·.2)) b 0:Nat):Int))]))) q6 (.lst [V.ref q5]) q6=_)
  have hq5:upd (upd (upd H6 q4 (.lst [V.int (((sc^0*wt 0:Nat):Int)*((vH (zs.map (·.2)) b 0:Nat):Int))])) q5 (.lst ((bc (ws.length:Int).toNat [V.int 0]).flatten++[V.int (((sc^0*wt 0:Nat):Int)*((vH (zs.map (·.2)) b 0:Nat):Int))]))) q6 (.lst [V.ref q5]) q5=some (.lst ((Vo (zs.map (·.2)) ws b wt sc 0).map V.int)):=by
   rw[zA np5,zq,zim,dg,dD,lJ]
  have f5:H6 q5=none:=t4.free k5;generalize upd (upd (upd H6 q4 (.lst [V.int (((sc^0*wt 0:Nat):Int)*((vH (zs.map (·.2)) b 0:Nat):Int))])) q5 (.lst ((bc (ws.length:Int).toNat [V.int 0]).flatten++[V.int (((sc^0*wt 0:Nat):Int)*((vH (zs.map (·.2)) b 0:Nat):Int))]))) q6 (.lst [V.ref q5])=H9 at t6 hp9 hq6 hq5;have q6p:q6≠p:=λz=>by rw[z,hp6]at f6;cases f6
  have q5p:q5≠p:=λz=>by rw[z,hp6]at f5;cases f5
  obtain⟨lx6,hlx6⟩:=TA6.la;have q6la:q6≠la:=λz=>by rw[z,hlx6]at f6;cases f6
  have q5la:q5≠la:=λz=>by rw[z,hlx6]at f5;cases f5
  have TA9:=(TA6.same t6).updI (o:=.ins CS dx (Qj tl wa q6)) hp9 tlp;have go:∀c o,c≠p->c≠la->H5 c=some o->aw [la,q6] (upd H9 p (.ins CS dx (Qj tl wa q6))) c=some o:=λc o h1 h2 e=>by
   have e6:=off6 c o h2 e;have h3:c≠q6:=zF e6 f6;rw[yq (by simp[h2,h3]),zA h1];exact t6 _ _ e6
  have TT:TotAt C CS (upd H9 p (.ins CS dx (Qj tl wa q6))) p tl la wa q6 b (zs.map (·.2)) ws L6 wt sc sz 1:=by
   refine⟨⟨dx,by rw[yq (by simp[pla,cP q6p]),zq]⟩,TA9,?_,?_,⟨[(q5,Vo (zs.map (·.2)) ws b wt sc 0)],by rw[zA q6p];exact hq6,λz hz=>?_,rfl⟩,cP q6la⟩
   ·obtain⟨dz,sz',srs,e1,e2,_⟩:=TA6.ob;have e1':=yj _ _ _ _ e1;have e2':=yj _ _ _ _ e2;have tla:tl≠la:=jg e1' hlx6 (λz=>nomatch z);refine⟨dz,sz',?_,zF e2' f6⟩;rw[yq (by simp[tla,zF e1' f6]),zA tlp];exact t6 _ _ e1'
   ·obtain⟨rz,r1,r2,r3⟩:=RW4.ex;have wane:wa≠la:=λz=>by
     obtain⟨lx2,h2⟩:=TA2.la;rw[z,h2]at hwa;cases hwa
    have wap:wa≠p:=jg r1 hp4 (λz=>nomatch z);refine⟨⟨rz,go _ _ wap wane (s2 _ _ r1),λz hz=>go _ _ (jg (r2 z hz) hp4 (λz=>nomatch z)) (λe=>?_) (s2 _ _ (r2 z hz)),r3⟩⟩;obtain⟨lrs,y1,_,_⟩:=TA4.ly;have y2:=r2 z hz;rw[e,y1]at y2;have hm:z.2∈(aD sz).map (qL b wt sc):=by rw[<-r3];exact bh.mpr ⟨z,hz,rfl⟩
    obtain⟨k,_,ek⟩:=bh.mp hm;have hl:z.2.length=b:=by rw[<-ek];unfold qL;rw[aa,aX]
    injection y2 with y2
    injection y2 with y2
    cases hz2:z.2 with
    |nil=>rw[hz2]at hl;simp at hl;omega
    |cons a l=>
     rw[hz2]at y2;cases lrs with
     |nil=>cases y2
     |cons a' l'=>injection y2 with y3 _;cases y3
   ·have e:z=(q5,Vo (zs.map (·.2)) ws b wt sc 0):=by simpa using hz
    subst e;rw[yq (by simp[q5la,np5]),zA q5p];exact hq5
  have hT9:=(hT6.same t6).putI (o:=.ins CS dx (Qj tl wa q6)) hp9;have hfr:∀c o,c≠p->c≠T0->H c=some o->upd H9 p (.ins CS dx (Qj tl wa q6)) c=some o:=λc o h1 h2 e=>by
   rw[zA h1];exact t6 _ _ (off6 _ _ (zF e hla) (s2 _ _ (n4 c o h1 h2 e)))
  have q6H:H q6=none:=by
   cases e:H q6 with
   |none=>rfl
   |some o=>
    have:=off6 _ _ (zF e hla) (s2 _ _ (n4 q6 o q6p (hT6.none f6) e));rw[f6]at this;cases this
  have eF:Qj tl wa q6=yo "layers" (.ref q6) (yo "weights" (.ref wa) (yo "tails" (.ref tl) [])):=rfl;rw[<-eF];generalize upd H9 p (.ins CS dx (Qj tl wa q6))=H10 at TT hT9 hfr;refine⟨_,rfl,_,rfl,by omega,by omega,jL (lo:=0) (n:=(sz:Int).toNat) (λi Z H2=>∃(v5:Option V) (L:Nat),Z=[some (.ref p),some (.ref r),some (.ref wl),some (.int sc),some (.int sz),v5]/\L<=i+1/\TotAt C CS H2 p tl la wa q6 b (zs.map (·.2)) ws L wt sc sz (i+1)/\(∀c o,c≠p->c≠T0->H c=some o->H2 c=some o)/\LT T0 H2)
   ⟨none,L6,rfl,by omega,TT,hfr,hT9⟩ ?_ ?_⟩
  ·rintro i Z Hi hi ⟨v5,L,rfl,hL,TTi,fri,hTi⟩;obtain⟨dxi,hpi⟩:=TTi.obj;obtain⟨zi,hl2,_⟩:=TTi.ly;refine⟨_,rfl,p,CS,dxi,_,_,rfl,hpi,zR.cl,zR.n_layers,Qm _ _ _,.inl ⟨rfl,_,SqL.of hl2⟩,_,rfl,p,dxi,_,rfl,hpi,W6 _ _ _,_,rfl,p,tl,la,wa,q6,b,_,ws,L,wt,sc,sz,i+1,i,by rw[cM];rfl,TTi,G,by omega,by omega,by omega,by omega,hsc,hwt,λq L' H' hLL TT' m' hLm hq=>?_⟩;obtain⟨zi',hl2',_,e3⟩:=TT'.ly;have hzl:zi'.length=i+1:=by have:=congrArg c7 e3;rwa[aa,aa,aX]at this
   refine⟨q6,_,_,rfl,rfl,hl2',by rw[aa,hzl];exact aA (show i+1<1000 by omega) (by decide),?_⟩;refine⟨_,L',rfl,by omega,TT'.push G (by omega) hl2' hq,λc o h1 h2 e=>?_,(hTi.off TTi.ta.la.choose_spec m').putL2 hl2'⟩;have e2:=fri c o h1 h2 e;have hcl:c≠la:=zF e hla;have hc':c∉[la]:=by simpa using hcl
   have:=m' c o (by rw[yq hc'];exact e2);rw[yq hc']at this;rw[zA (zF e q6H)];exact this
  ·rintro Z Hn ⟨v5,L,rfl,hL,TTn,frn,hTn⟩;rw[dg]at hL TTn;exact kk tl la wa q6 ws L Hn TTn G (by omega) frn hTn hla q6H
end
theorem zka(b:Nat):(qL b (λc=>c) b 0).map V.int=(aD b).map λ(c:Nat)=>V.int c:=by
 unfold qL;rw[d8];apply dq;intro c _;show V.int ((b^0*c:Nat):Int)=V.int (c:Int);rw[dD,lJ]
section
variable {P:cg} {w:cT} {K:aN} {mg:cG->Option aG} {base:dR} {T0 C CS:aq}
def Yw(T0 C CS:aq):Sp:=λvs H Q _=>∃(r:aq) (b:Nat) (bl:aq) (zs:ZB) (sz:Nat),vs=[.ref r,.int sz]/\RuleAt H r b bl zs/\GoodRule b (zs.map (·.2))/\LT T0 H/\sz<=800 /\
 ∀x tl la wa l2 ws L H',TotAt C CS H' x tl la wa l2 b (zs.map (·.2)) ws L (λc=>c) b sz (sz+1)->GoodT b (zs.map (·.2)) ws->L<=801->SameL T0 H H'->LT T0 H'->H la=none->H l2=none->Q (.ref x) H'
theorem zaY:zG ["rule","size"] ["rule","size"] (zp qN):={}
theorem za0(D:Df K mg "number_totals" qN A2 f fd)(Xy:Mk K CS f1)(XR:Binds K fd1 ["self","rule","weights","scale","size"] [])(um:FnOk P w K mg base CX0 9 f1 fd1 Ax (VJ T0 C CS))(zR:ClS K mg CS)(T:Blt mg):FnOk P w K mg base CX0 11 f fd A2 (Yw T0 C CS):=by
 refine D.fn.ok zaY (λvs H Q E h=>?_) (λcdv A outer s H vs Q E hr h=>?_)
 ·obtain⟨r,b,bl,zs,sz,rfl,_⟩:=h;rfl
 ·obtain⟨r,b,bl,zs,sz,rfl,R,g,hT,hsz,kk⟩:=h;have b2:=g.b2;have b16:=g.b16;refine⟨_,(zm (zE (jc Xy um (hr.mono (by decide)) rfl zR.nm XR .nil Xf (zc (pv 0) (zc (zas rfl rfl T.n_list rfl T.n_range (zX (yP K) (pv 0) zu (λ_ _=>rfl))) (zc (zX (yP K) (pv 0) zu (λ_ _=>rfl)) (zc (pv 1) zf))))))),?_⟩;refine⟨_,rfl,_,rfl,r,_,_,V.int b,rfl,rfl,SqT.of R.tu,rfl,b,rfl,by omega,λq hq=>?_⟩;have s1:=zy hq (o:=.lst ((aD b).map λ(c:Nat)=>V.int c));have R1:=R.same s1;refine⟨_,rfl,r,_,_,V.int b,rfl,rfl,SqT.of R1.tu,rfl,_,rfl,λx dx nx ndx nex=>?_⟩;have s0:=zbJ (C:=CS) nx ndx;have hwl:upd H q (.lst ((aD b).map λ(c:Nat)=>V.int c)) q=some (.lst ((qL b (λc=>c) b 0).map V.int)):=by rw[zq,zka]
  refine⟨x,dx,r,b,bl,zs,q,(λc=>c),b,sz,rfl,zq,R1.same s0,g,(hT.same s1).same s0,s0 _ _ hwl,b16,hsz,λc hc=>aA (show c<16 by omega) (by decide),λtl la wa l2 ws L H' TT G hL fr hT' hla hl2=>⟨rfl,?_⟩⟩;refine kk x tl la wa l2 ws L H' TT G hL (λc o hc e=>?_) hT' ((s1.trans s0).free hla) ((s1.trans s0).free hl2);exact fr c o (zF (s1 _ _ e) nx) hc ((s1.trans s0) c o e)
abbrev Vh(T0:aq):Sp:=jz T0 WK (λls b m v=>v=.int ((tot (gd ls b) (λn=>n) (b^m):Nat)-(tot (gd ls b) (λn=>n) (Qt b m):Nat)))
theorem za8:zG ["rule","m","totals"] ["rule","m"] (zp jt):={}
theorem ze4(D:Df K mg "sum_long" jt Af f fd)(zJ:Df K mg "check_rule" yD Aa f1 fd1)(zL:FnOk P w K mg base CX0 7 f1 fd1 Aa yF)(xq:Df K mg "check_length" uy Aa f2 fd2)(xR:FnOk P w K mg base CX0 3 f2 fd2 Aa qP)(uA:Df K mg "number_totals" qN A2 f3 fd3)(tY:FnOk P w K mg base CX0 11 f3 fd3 A2 (Yw T0 C CS))(vP:Mt K CS "Totals.total_within" "total_within" uD Ah f4 fd4)(uJ:FnOk P w K mg base CX0 1 f4 fd4 Ah (U6 C CS))(zR:ClS K mg CS):FnOk P w K mg base CX0 12 f fd Af (Vh T0):=by
 refine D.fn.ok za8 (λvs H Q E h=>?_) (λcdv A outer s H vs Q E hr h=>?_)
 ·obtain⟨r,b,bl,zs,n,rfl,_⟩:=h;rfl
 ·obtain⟨r,b,bl,zs,m,rfl,R,g,⟨hm1,hm2⟩,hT,kk⟩:=h;have b2:=g.b2;refine xu ?_;intro XX;let q1:Sq XX ((zj jt).drop 3):=⟨_,zm (zE (zV Zq (xZ vP zR.cl uJ (hr.mono (by decide)) (pv 2) (zc (pv 1) zf)) (xZ vP zR.cl uJ (hr.mono (by decide)) (pv 2) (zc (zV Zq (pv 1) zu) zf))))⟩
  let q2:Sq XX ((zj jt).drop 2):=⟨_,zg (zU (i:=2) za8.nd rfl (aW rfl) (zK uA tY (hr.mono (by decide)) (zc (pv 0) (zc (pv 1) zf)))) q1.p⟩
  let q3:Sq XX ((zj jt).drop 1):=⟨_,zg (yw (zK xq xR (hr.mono (by decide)) (zc (pv 1) zf))) q2.p⟩
  refine⟨_,(zg (yw (zK zJ zL (hr.mono (by decide)) (zc (pv 0) zf))) q3.p),?_⟩;refine⟨_,rfl,r,b,bl,zs,rfl,R,g,λH1 m1=>?_⟩;refine⟨_,rfl,m,rfl,hm1,hm2,?_⟩;refine⟨_,rfl,_,rfl,r,b,bl,zs,m,rfl,R.same m1,g,hT.same m1,by omega,λx tl la wa l2 ws L H2 TT G hL sL hT2 hla hl2=>?_⟩;obtain⟨dx,hp⟩:=TT.obj;refine⟨_,rfl,x,dx,_,rfl,hp,W6 _ _ _,_,rfl,x,tl,la,wa,l2,b,_,ws,L,_,b,m,m+1,m,rfl,TT,by omega,?_⟩;refine⟨_,rfl,x,dx,_,rfl,hp,W6 _ _ _,_,rfl,_,_,rfl,rfl,x,tl,la,wa,l2,b,_,ws,L,_,b,m,m+1,m-1,?_,TT,by omega,_,_,rfl,rfl,?_⟩
  ·show [V.ref x,V.int ((m:Int)-1)]=_;rw[show ((m:Int)-1)=((m-1:Nat):Int) by omega]
  ·refine kk _ H2 ?_ ((SameL.of m1).trans sL) hT2;rw[zhh G.ne b2,zhh G.ne b2,zkl]
end
theorem zh7(ne:∀l∈ls,l≠[])(h2:2<=b)(R:Rep ls b m o)(t:Nat)(hc:c<b):
  tot (λr=>gd ls b ((m*b+c)*b^t+r)) (λr=>fw w sc b ((m*b+c)*b^t+r)) (b^t)=sc^(t+1)*ahd w sc b m*Vf ls b t o c+stepT ls b w sc t o c:=by
 rcases R with ⟨rfl,rfl⟩ | ⟨h1,hg,rfl⟩
 ·have e0:ahd w sc b 0=0:=rfl;rw[e0,Ce,d9,dm,d9,dm];by_cases h0:c=0
  ·subst h0;rw[show stepT ls b w sc t none 0=ttO ls b w sc t from (by unfold stepT;exact if_pos rfl),zeS ne h2];apply jJ<;>intro r _<;>rw[d9,dm]<;>rfl
  ·show _=if c=0 then _ else _;rw[if_neg h0];exact ze8 ne h2 (by omega) hc
 ·have h1':1<=m*b+c:=zfU h2 h1;have ef:∀r,r<b^t->yJ b ((m*b+c)*b^t+r)=yJ b m++qb b (t+1) (c*b^t+r):=λr hr=>by
   rw[Vz h2 h1' t r hr,Zn h2 h1 hc,Z1 hr,cQ];rfl
  have e1:tot (λr=>gd ls b ((m*b+c)*b^t+r)) (λr=>fw w sc b ((m*b+c)*b^t+r)) (b^t)=tot (λr=>lacks ls (yJ b m++qb b (t+1) (c*b^t+r))) (λr=>sc^(t+1)*ahd w sc b m+wsum w sc (qb b (t+1) (c*b^t+r))) (b^t):=by
   apply jJ
   ·intro r hr;show lacks ls (yJ b _)=_;rw[ef r hr]
   ·intro r hr;show wsum w sc (yJ b _)=_;rw[ef r hr,zbd,zcn];unfold ahd;rw[if_neg (by omega)]
  have e2:many (λr=>lacks ls (yJ b m++qb b (t+1) (c*b^t+r))) (b^t)=Vf ls b t (some (zY ls (yJ b m))) c:=by
   rw[zcy ne h2 (.inr ⟨h1,hg,rfl⟩) t hc];apply jG;intro r hr;show _=lacks ls (yJ b _);rw[ef r hr]
  rw[e1,zca,e2,zeR ne (zgw ne t)];congr 1;show _=if lacks ls (zY ls (yJ b m)++[(c:Int)])=true then _ else 0;rw[qH ne _ hg,qx]
theorem zcG{ls:ZA}(ne:∀l∈ls,l≠[]){b m:Nat}{o:Option (List Int)}{w:Nat->Nat}{sc:Nat}(h2:2<=b)(R:Rep ls b m o)(t:Nat):∀{s:Nat},s<=b->tot (gd ls b) (fw w sc b) (m*b^(t+1))+(sc^(t+1)*ahd w sc b m*under ls b t o s+Xo ls b w sc t o s)=tot (gd ls b) (fw w sc b) ((m*b+s)*b^t)
 |0,_=>by
  rw[Jx,Ce,iB,cX,<-fY];rfl
 |s+1,hs=>by
  have ih:=zcG ne h2 R t (w:=w) (sc:=sc) (s:=s) (by omega);have e:(m*b+(s+1))*b^t=(m*b+s)*b^t+b^t:=by rw[<-dZ,fM]
  rw[e,zbE,zh7 ne h2 R t (by omega),<-ih,Uh,zbc,mG];omega
section
variable {P:cg} {w:cT} {K:aN} {mg:cG->Option aG} {base:dR} {T0 C CS:aq}
def jC(C CS:aq):Sp:=λvs H Q _=>∃p tl la wa l2 b ls ws L wt sc sz M fa n,vs=[.ref p,.ref fa]/\TotAt C CS H p tl la wa l2 b ls ws L wt sc sz M/\GoodT b ls ws/\L<=801/\sz=(yJ b n).length/\M=sz+1/\sc<=16/\(∀c,c<b->wt c<2^64)/\aw [la] H fa=some (.lst ((yJ b n).map V.int))/\n<2^800 /\
 SQ C CS H p tl la wa l2 b ls ws L wt sc sz M λL' H'=>L'<=1000->Q (.int ((tot (gd ls b) (fw wt sc b) n:Nat):Int)) H'
theorem zgZ{w:Nat->Nat}{sc b:Nat}(hsc:sc<=16)(hw:∀c,c<b->w c<2^64):∀l:List Int,(∀f∈l,f.toNat<b)->wsum w sc l<2^(4*l.length+64)
 |[],_=>fD (by decide)
 |c::l,h=>by
  have ih:=zgZ hsc hw l λx hx=>h x (bx _ hx);rw[wsum,bB];have h1:sc^l.length<=2^(4*l.length):=by rw[De];exact fW hsc _
  have h2:=hw c.toNat (h c bI);have h3:sc^l.length*w c.toNat<=2^(4*l.length+64):=by rw[ik];exact rE h1 (d7 h2)
  have h4:2^(4*(l.length+1)+64)=16*2^(4*l.length+64):=by rw[show 4*(l.length+1)+64=4+(4*l.length+64) by omega,ik]
  omega
theorem zkV{w:Nat->Nat}(h2:2<=b)(hsc:sc<=16)(hw:∀c,c<b->w c<2^64)(hn:n<b^N)(hk:k<=N)(hN:N<=900):sc^(N-k)*ahd w sc b (n / b^(N-k))<2^5000:=by
 unfold ahd;split
 ·rw[Ce];exact fD (by decide)
 ·rename_i hz
  have hlt:n / b^(N-k)<b^k:=by
   rw[fH (fD (by omega)),<-ik,show k+(N-k)=N by omega];exact hn
  have hl:(yJ b (n / b^(N-k))).length<=k:=by
   obtain⟨j,j1,j2⟩:=zeI h2 (n / b^(N-k));rw[za2 h2 j1 j2];rcases j2 with j2 | j2
   ·subst j2;cases k with
    |zero=>exact absurd (Nat.lt_one_iff.mp hlt) hz
    |succ k=>omega
   ·exact (Nat.pow_lt_pow_iff_right (show 1<b by omega)).mp (bw j2 hlt)
  have hb:=zgZ hsc hw (yJ b (n / b^(N-k))) (λf hf=>by have:=zbR h2 _ f hf;omega);have h1:sc^(N-k)<=2^(4*(N-k)):=by rw[De];exact fW hsc _
  refine aA (Nat.mul_lt_mul_of_le_of_lt h1 hb (fD (by decide))) ?_;rw[<-ik];exact cH (by decide) (by omega)
theorem yL:zG ["self","figures","place","ahead","total","k","left"] ["self","figures"] (zp yd):={}
set_option maxHeartbeats 0 in
theorem zc6(D:Mt K CS "Totals.total_below" "total_below" yd Aj f fd)(wg:Mt K CS "Totals.total_under" "total_under" yI A4 f1 fd1)(vf:FnOk P w K mg base CX0 3 f1 fd1 A4 (WM C CS))(wZ:Mt K CS "Totals.weight_of" "weight_of" vA A1 f2 fd2)(vW:FnOk P w K mg base CX0 1 f2 fd2 A1 (Uo C CS))(zB:ClT K mg C)(zR:ClS K mg CS)(T:Blt mg):FnOk P w K mg base CX0 4 f fd Aj (jC C CS):=by
 refine D.fn.ok yL (λvs H Q E h=>?_) (λcdv A outer s H vs Q E hr h=>?_)
 ·obtain⟨p,tl,la,wa,l2,b,ls,ws,L,wt,sc,sz,M,fa,n,rfl,_⟩:=h;rfl
 ·obtain⟨p,tl,la,wa,l2,b,ls,ws,L,wt,sc,sz,M,fa,n,rfl,TT,G,hL,hsz,hM,hsc,hwt,hf,hn,kk⟩:=h;have b2:=G.g.b2;have hlen:=uP b2 800 n hn;obtain⟨dx0,hp0⟩:=TT.obj;obtain⟨dt0,sa0,htl0⟩:=TT.ta.obj;generalize hN:(yJ b n).length=N at hlen hsz;have hnN:=W8 b2 hN;refine xu ?_;intro XX;let q1:Sq XX ((zj yd).drop 4):=⟨_,zm (zE (pv 4))⟩
  let q2:Sq XX ((sb (zj yd) 3 true).drop 4):=⟨_,zm (zaS (i:=3) yL.nd rfl (aW rfl) (xZ wZ zR.cl vW (hr.mono (by decide)) (pv 0) (zc (pv 2) (zc (zX (wJ K) (pv 1) (pv 5) (λ_ _=>rfl)) (zc (pv 6) zf)))) zbW)⟩
  let q3:Sq XX ((sb (zj yd) 3 true).drop 3):=⟨_,zg (yx (zP zes (pv 2) uF (zT _))
     (zm (zE (pv 4)))
     zQ) q2.p⟩
  let q4:Sq XX ((sb (zj yd) 3 true).drop 2):=⟨_,zg (zU (i:=2) yL.nd rfl (aW rfl) (zX (wJ K) (zX (wJ K) (yZ K (yZ K (pv 0))) (pv 2) (λ_ _=>rfl)) (zX (wJ K) (pv 1) (pv 5) (λ_ _=>rfl)) (λ_ _=>rfl))) q3.p⟩
  let q5:Sq XX ((sb (zj yd) 3 true).drop 1):=⟨_,zg (zaS (i:=4) yL.nd rfl (aW rfl) (xZ wg zR.cl vf (hr.mono (by decide)) (pv 0) (zc (pv 2) (zc (zX (wJ K) (pv 1) (pv 5) (λ_ _=>rfl)) (zc (pv 6) (zc (pv 3) zf))))) zbW) q4.p⟩
  let q6:Sq XX ((zj yd).drop 3):=⟨_,zg (wR bj rfl (yM rfl T.n_range (zc (zH (xG K) (by rfl) T.n_len PySem.boot_len (zc (pv 1) zf)) zf)) (yV (i:=5) yL.nd rfl (aW rfl))
    (zg (zU (i:=6) yL.nd rfl (aW rfl) (zV Zq (zV Zq (zH (xG K) (by rfl) T.n_len PySem.boot_len (zc (pv 1) zf)) (pv 5)) zu)) q5.p)) q1.p⟩
  let q7:Sq XX ((zj yd).drop 2):=⟨_,zg (zU (i:=4) yL.nd rfl (aW rfl) zu) q6.p⟩
  let q8:Sq XX ((zj yd).drop 1):=⟨_,zg (zU (i:=3) yL.nd rfl (aW rfl) zu) q7.p⟩
  refine⟨_,(zg (zU (i:=2) yL.nd rfl (aW rfl) (yZ K (yZ K (pv 0)))) q8.p),?_⟩;refine⟨_,rfl,p,CS,dx0,_,_,rfl,hp0,zR.cl,zR.n_tails,jA _ _ _,tl,C,dt0,_,_,rfl,htl0,zB.cl,zB.n_outset,vR _ _ _ _,?_⟩;refine⟨_,rfl,fa,_,rfl,.inl (SqL.of (yj _ _ _ _ hf)),?_⟩;rw[aa,hN];refine⟨_,rfl,by omega,by omega,jL (lo:=0) (n:=(N:Int).toNat) (λk Z H2=>∃(v5 v6:Option V) (i L':Nat),Z=[some (.ref p),some (.ref fa),some (.int i),some (.int ((sc^(N-k)*ahd wt sc b (n / b^(N-k)):Nat):Int)),some (.int (tot (gd ls b) (fw wt sc b) (n / b^(N-k)*b^(N-k)):Nat)),v5,v6]/\i<=ws.length/\Rep ls b (n / b^(N-k)) ws[i]?/\L<=L'/\L'<=1000/\TotAt C CS H2 p tl la wa l2 b ls ws L' wt sc sz M/\Same (aw [la] H) (aw [la] H2)) ⟨none,none,ws.length,L,?_,au _,?_,au _,by omega,TT,Same.refl _⟩ ?_ ?_⟩
  ·rw[iD,fc hnN,d9];rfl
  ·rw[iD,fc hnN,bN (au _)];exact .inl ⟨rfl,rfl⟩
  ·rintro k Z H2 hk ⟨v5,v6,i,L',rfl,hi,R,hLL,hL',TT2,m2⟩;have hkN:k<N:=by omega
   have hah:=zkV (w:=wt) b2 hsc hwt hnN (d7 hkN) (by omega);obtain⟨t,ht⟩:∃t,N-k=t+1:=⟨N-k-1,by omega⟩
   have et:N-1-k=t:=by omega
   have hfk:=ze7 b2 hN hkN;rw[et]at hfk;rw[ht]at R hah ⊢;have hnx:=zfz (b:=b) (n:=n) (t:=t) (by omega);have hcb:n / b^t % b<b:=iz _ (by omega);generalize hc:n / b^t % b=c at hfk hnx hcb;have hf2:=m2 _ _ hf;have hfH2:=yj _ _ _ _ hf2;obtain⟨dx2,hp2⟩:=TT2.obj;have hat:atI ((yJ b n).map V.int) (0+(k:Int))=some (V.int (c:Nat)):=by rw[cM];exact vo (by rw[ak,hfk];rfl)
   refine⟨_,rfl,fa,_,rfl,.inl (SqL.of hfH2),_,rfl,_,_,rfl,rfl,_,_,rfl,rfl,?_⟩;dsimp only;rw[aa,hN,show ((N:Int)-(0+(k:Int))-1)=(t:Int) by omega];refine⟨_,rfl,_,rfl,p,dx2,_,rfl,hp2,W6 _ _ _,_,rfl,_,rfl,_,rfl,fa,_,_,_,rfl,rfl,SqL.of hfH2,hat,_,rfl,_,rfl,?_⟩;refine⟨p,tl,la,wa,l2,b,ls,ws,L',wt,sc,sz,M,i,c,t,sc^(t+1)*ahd wt sc b (n / b^(t+1)),rfl,TT2,G,hL',by omega,by omega,by omega,hi,by omega,hsc,hwt,hah,λL3 H3 hL3 TT3 m3 hmx=>?_⟩;have hL3':L3<=1000:=by omega
   have m23:=m2.trans m3;have hf3:=yj _ _ _ _ (m23 _ _ hf);refine⟨_,_,rfl,rfl,?_⟩;have eum:=zcG G.ne b2 (w:=wt) (sc:=sc) R t (s:=c) (by omega);rw[<-hnx]at eum;obtain⟨dx3,sa3,srs3,z3,q1,q2,q3,q4,q5⟩:=zb9 TT3.ta G hi hcb;obtain⟨dp3,hp3⟩:=TT3.obj;refine⟨_,rfl,p,CS,dp3,_,_,rfl,hp3,zR.cl,zR.n_tails,jA _ _ _,tl,C,dx3,_,_,rfl,q1,zB.cl,zB.n_steps,uW _ _ _ _,_,rfl,sa3,_,_,_,rfl,rfl,SqL.of q2,q3,_,rfl,_,rfl,fa,_,_,_,rfl,rfl,SqL.of hf3,hat,z3.1,_,_,_,rfl,rfl,SqL.of q4,q5,?_⟩;rcases zaK G hi R hcb with ⟨j,e1,e2,e3⟩ | ⟨e1,e2,e3⟩
   ·rw[e1];refine⟨_,rfl,rfl,_,rfl,wN ?_⟩;refine⟨_,rfl,_,rfl,p,dp3,_,rfl,hp3,W6 _ _ _,_,rfl,_,rfl,_,rfl,fa,_,_,_,rfl,rfl,SqL.of hf3,hat,_,rfl,p,tl,la,wa,l2,b,ls,ws,L3,wt,sc,sz,M,j,c,t,rfl,TT3,hcb,by omega,?_⟩;refine⟨_,_,rfl,rfl,⟨some (.int (0+(k:Int))),some (.int t),j,L3,?_,e2,?_,by omega,hL3',TT3,m23⟩⟩
    ·have ea:sc^t*ahd wt sc b (n / b^t)=sc^(t+1)*ahd wt sc b (n / b^(t+1))+(if j=ws.length then 0 else sc^t*wt c):=by
      by_cases z:j=ws.length
      ·rw[if_pos z];rw[z,bN (au _)]at e3;rcases e3 with ⟨e3,_⟩ | ⟨_,_,e3⟩
       ·have hm0:n / b^(t+1)=0:=by
         by_cases y:n / b^(t+1)=0
         ·exact y
         ·exact absurd e3 (fj (zfU b2 (Nat.pos_of_ne_zero y)))
        rw[hnx,e3,hm0];show sc^t*0=sc^(t+1)*0+0;simp
       ·cases e3
      ·rw[if_neg z];have hjl:j<ws.length:=by omega
       rw[aj hjl]at e3;rcases e3 with ⟨_,e3⟩ | ⟨e3,_,_⟩
       ·cases e3
       ·rw[hnx,zi9 b2 hcb e3,mG,<-fY,show sc^(t+1)=sc^t*sc from iy _ _]
     rw[show N-(k+1)=t by omega,<-eum,ea];show [_,_,_,some (V.int (((sc^(t+1)*ahd wt sc b (n / b^(t+1)):Nat):Int)+((if j=ws.length then 0 else sc^t*wt c:Nat):Int))),some (V.int ((tot (gd ls b) (fw wt sc b) (n / b^(t+1)*b^(t+1)):Nat)+((sc^(t+1)*ahd wt sc b (n / b^(t+1))*under ls b t ws[i]? c+Xo ls b wt sc t ws[i]? c:Nat):Int))),_,_]=[_,_,_,some (V.int ((sc^(t+1)*ahd wt sc b (n / b^(t+1))+(if j=ws.length then 0 else sc^t*wt c):Nat):Int)),some (V.int ((tot (gd ls b) (fw wt sc b) (n / b^(t+1)*b^(t+1))+(sc^(t+1)*ahd wt sc b (n / b^(t+1))*under ls b t ws[i]? c+Xo ls b wt sc t ws[i]? c):Nat):Int)),_,_]
     rw[<-du,<-du]
    ·rw[show N-(k+1)=t by omega,hnx];exact e3
   ·rw[e1];refine⟨_,rfl,rfl,_,rfl,qd ⟨_,rfl,?_⟩⟩;have q:=kk L3 H3 (by omega) TT3 m23 hL3';rw[<-hnx]at e2 e3;have ebad:=zgs G.ne b2 e2 e3 t (r:=n % b^t) (d7 (iz _ (fD (by omega))));rw[dN,gC,dN]at ebad;have et:=zjq (f:=fw wt sc b) (p:=gd ls b) (A:=n / b^t*b^t) (B:=n) (Nat.div_mul_le_self _ _) ebad.symm;rw[et,<-eum,du]at q;exact q
  ·rintro Z H2 ⟨v5,v6,i,L',rfl,hi,R,hLL,hL',TT2,m2⟩;have q:=kk L' H2 hLL TT2 m2 hL';have e:n / b^(N-(N:Int).toNat)*b^(N-(N:Int).toNat)=n:=by rw[dg,eG,dD,Gu,rD]
   rw[e];exact⟨_,rfl,q⟩
end
theorem zl3{A B:Prop}(hc:c=true)(h:A):if c=true then A else B:=by rw[hc];exact qd h
theorem zl0{A B:Prop}(hc:c=false)(h:B):if c=true then A else B:=by rw[hc];exact wN h
section
variable {P:cg} {w:cT} {K:aN} {mg:cG->Option aG} {base:dR} {T0 C CS:aq}
def zkG(T0 C CS:aq)(b:Nat)(ls:ZA)(wt:Nat->Nat)(sc sz:Nat)(H:Hp)(x:aq)(H':Hp):Prop:=∃tl la wa l2 ws L,TotAt C CS H' x tl la wa l2 b ls ws L wt sc sz (sz+1)/\GoodT b ls ws/\L<=801/\SameL T0 H H'/\LT T0 H'/\H la=none/\H l2=none
theorem zdE(R:RuleAt H r b bl zs)(g:GoodRule b (zs.map (·.2)))(hT:LT T0 H)(hwl:H wl=some (.lst ((qL b wt sc 0).map V.int)))(hsc:sc<=16)(hsz:sz<=800)(hwt:∀c,c<b->wt c<2^64){R':aq->Hp->Prop}(k:∀x H',zkG T0 C CS b (zs.map (·.2)) wt sc sz H x H'->R' x H'):
  ∀x dx,H x=none->H dx=none->dx≠x->VJ T0 C CS (.ref x::([.ref r,.ref wl,.int (sc:Nat),.int (sz:Nat)]++[])) (upd (upd H dx (.own x)) x (.ins CS dx [])) (λv H2=>v=.non/\R' x H2) E0:=by
 intro x dx nx ndx nex;have s0:=zbJ (C:=CS) nx ndx;refine⟨x,dx,r,b,bl,zs,wl,wt,sc,sz,rfl,zq,R.same s0,g,hT.same s0,s0 _ _ hwl,hsc,hsz,hwt,λtl la wa l2 ws L H' TT G hL fr hT' hla hl2=>⟨rfl,k x H' ⟨tl,la,wa,l2,ws,L,TT,G,hL,λc o hc e=>fr c o (zF e nx) hc (s0 c o e),hT',s0.free hla,s0.free hl2⟩⟩⟩
theorem zcs(hsc:sc<=16)(hwt:∀c,c<b->wt c<2^64)(hn:n<2^800)(M:zkG T0 C CS b ls wt sc (yJ b n).length H2 x H3)(hfa:H2 fa=some (.lst ((yJ b n).map V.int)))(hT2:LT T0 H2)(hs:SameL T0 H H2)(hfr:∀c,H2 c=none->H c=none)(kk:∀H',SameL T0 H H'->LT T0 H'->Q (.int ((tot (gd ls b) (fw wt sc b) n:Nat):Int)) H'):∃dx fs,H3 x=some (.ins CS dx fs)/\fs.lookup ("total_below" : cG)=none/\jC C CS [.ref x,.ref fa] H3 Q E0:=by
 obtain⟨tl,la,wa,l2,ws,L,TT,G,hL,sL,hT3,hla,hl2⟩:=M;obtain⟨dx,hp⟩:=TT.obj;have fala:fa≠la:=zF hfa hla;refine⟨dx,_,hp,W6 _ _ _,x,tl,la,wa,l2,b,ls,ws,L,wt,sc,_,_,fa,n,rfl,TT,G,hL,rfl,rfl,hsc,hwt,?_,hn,λL' H' hL' TT' m' hL2=>?_⟩
 ·rw[yq (by simpa using fala)];exact sL _ _ (hT2.lst hfa) hfa
 ·obtain⟨xs,hx⟩:=TT.ta.la;exact kk H' (Zx (hs.trans sL) (hfr la hla) m') (hT3.off hx m')
def zlK:ZA->Nat->Nat->Prop:=λ_ _ n=>n<2^700
abbrev X5(T0:aq):Sp:=jz T0 zlK (λls b n v=>v=.int ((tot (gd ls b) (λk=>k) n:Nat):Int))
theorem wid(b16:b<=16):∀c,c<b->(λc:Nat=>c) c<2^64:=λc hc=>aA (show c<16 by omega) (by decide)
theorem J4:zG ["rule","n","figures"] ["rule","n"] (zp jy):={}
theorem zeC(D:Df K mg "sum_below" jy Ab f fd)(zJ:Df K mg "check_rule" yD Aa f1 fd1)(zL:FnOk P w K mg base CX0 7 f1 fd1 Aa yF)(ye:Df K mg "figures_of" wG Ae f2 fd2)(yh:FnOk P w K mg base CX0 4 f2 fd2 Ae wD)(uA:Df K mg "number_totals" qN A2 f3 fd3)(tY:FnOk P w K mg base CX0 11 f3 fd3 A2 (Yw T0 C CS))(yO:Mt K CS "Totals.total_below" "total_below" yd Aj f4 fd4)(yU:FnOk P w K mg base CX0 4 f4 fd4 Aj (jC C CS))(zR:ClS K mg CS)(T:Blt mg):FnOk P w K mg base CX0 12 f fd Ab (X5 T0):=by
 refine D.fn.ok J4 (λvs H Q E h=>?_) (λcdv A outer s H vs Q E hr h=>?_)
 ·obtain⟨r,b,bl,zs,n,rfl,_⟩:=h;rfl
 ·obtain⟨r,b,bl,zs,n,rfl,R,g,hn,hT,kk⟩:=h;have b2:=g.b2;have b16:=g.b16;have hlen:(yJ b n).length<=800:=by have:=uP b2 700 n hn;omega
  have hn8:n<2^800:=aA hn (cH (by decide) (by decide));refine xu ?_;intro XX;let q1:Sq XX ((zj jy).drop 2):=⟨_,zm (zE (xZ yO zR.cl yU (hr.mono (by decide)) (zK uA tY (hr.mono (by decide)) (zc (pv 0) (zc (zH (xG K) (by rfl) T.n_len PySem.boot_len (zc (pv 2) zf)) zf))) (zc (pv 2) zf)))⟩
  let q2:Sq XX ((zj jy).drop 1):=⟨_,zg (zU (i:=2) J4.nd rfl (aW rfl) (zK ye yh (hr.mono (by decide)) (zc (zX (yP K) (pv 0) zu (λ_ _=>rfl)) (zc (pv 1) zf)))) q1.p⟩
  refine⟨_,(zg (yw (zK zJ zL (hr.mono (by decide)) (zc (pv 0) zf))) q2.p),?_⟩;refine⟨_,rfl,r,b,bl,zs,rfl,R,g,λH1 m1=>?_⟩;have R1:=R.same m1;refine⟨_,rfl,r,_,_,V.int b,rfl,rfl,SqT.of R1.tu,rfl,_,rfl,b,n,rfl,b2,b16,aA hn (cH (by decide) (by decide)),λfa H2 hfa hv s2=>?_⟩;have m2:=m1.trans s2;refine⟨_,rfl,_,rfl,fa,_,rfl,.inl (SqL.of hv),r,b,bl,zs,(yJ b n).length,by rw[aa];rfl,R.same m2,g,hT.same m2,hlen,λx tl la wa l2 ws L H3 TT G hL sL hT3 hla hl2=>?_⟩;obtain⟨dx,fs,e1,e2,e3⟩:=zcs (T0:=T0) (Q:=Q) (H:=H) (n:=n) (fa:=fa) b16 (wid b16) hn8 ⟨tl,la,wa,l2,ws,L,TT,G,hL,sL,hT3,hla,hl2⟩ hv (hT.same m2) (SameL.of m2) (λc hc=>m2.free hc) (λH' s' hT'=>kk _ H' (congrArg (λk:Nat=>V.int (k:Int)) (jJ (λ_ _=>rfl) (λk _=>zfi b2 k))) s' hT');exact⟨x,dx,fs,rfl,e1,e2,_,rfl,e3⟩
abbrev jK(T0:aq):Sp:=jz T0 zlK (λls b n v=>v=.int ((tot (gd ls b) (fw (λc=>c) 1 b) n:Nat):Int))
theorem zfW(b:Nat)(w:Nat->Nat):(qL b w 1 0).map V.int=(aD b).map λc=>V.int (w c:Nat):=by
 unfold qL;rw[d8];apply dq;intro c _;show V.int ((1^0*w c:Nat):Int)=V.int (w c:Int);rw[dD,lJ]
theorem V9:zG ["rule","n","figures"] ["rule","n"] (zp v7):={}
theorem zav(D:Df K mg "figures_below" v7 Ab f fd)(zJ:Df K mg "check_rule" yD Aa f1 fd1)(zL:FnOk P w K mg base CX0 7 f1 fd1 Aa yF)(ye:Df K mg "figures_of" wG Ae f2 fd2)(yh:FnOk P w K mg base CX0 4 f2 fd2 Ae wD)(Xy:Mk K CS f3)(XR:Binds K fd3 ["self","rule","weights","scale","size"] [])(um:FnOk P w K mg base CX0 9 f3 fd3 Ax (VJ T0 C CS))(yO:Mt K CS "Totals.total_below" "total_below" yd Aj f4 fd4)(yU:FnOk P w K mg base CX0 4 f4 fd4 Aj (jC C CS))(zR:ClS K mg CS)(T:Blt mg):FnOk P w K mg base CX0 12 f fd Ab (jK T0):=by
 refine D.fn.ok V9 (λvs H Q E h=>?_) (λcdv A outer s H vs Q E hr h=>?_)
 ·obtain⟨r,b,bl,zs,n,rfl,_⟩:=h;rfl
 ·obtain⟨r,b,bl,zs,n,rfl,R,g,hn,hT,kk⟩:=h;have b2:=g.b2;have b16:=g.b16;have hlen:(yJ b n).length<=800:=by have:=uP b2 700 n hn;omega
  have hn8:n<2^800:=aA hn (cH (by decide) (by decide));refine xu ?_;intro XX;let q1:Sq XX ((zj v7).drop 2):=⟨_,zm (zE (xZ yO zR.cl yU (hr.mono (by decide)) (jc Xy um (hr.mono (by decide)) rfl zR.nm XR .nil Xf (zc (pv 0) (zc (zas rfl rfl T.n_list rfl T.n_range (zX (yP K) (pv 0) zu (λ_ _=>rfl))) (zc zu (zc (zH (xG K) (by rfl) T.n_len PySem.boot_len (zc (pv 2) zf)) zf))))) (zc (pv 2) zf)))⟩
  let q2:Sq XX ((zj v7).drop 1):=⟨_,zg (zU (i:=2) V9.nd rfl (aW rfl) (zK ye yh (hr.mono (by decide)) (zc (zX (yP K) (pv 0) zu (λ_ _=>rfl)) (zc (pv 1) zf)))) q1.p⟩
  refine⟨_,(zg (yw (zK zJ zL (hr.mono (by decide)) (zc (pv 0) zf))) q2.p),?_⟩;refine⟨_,rfl,r,b,bl,zs,rfl,R,g,λH1 m1=>?_⟩;have R1:=R.same m1;refine⟨_,rfl,r,_,_,V.int b,rfl,rfl,SqT.of R1.tu,rfl,_,rfl,b,n,rfl,b2,b16,aA hn (cH (by decide) (by decide)),λfa H2 hfa hv s2=>?_⟩;have R2:=R1.same s2;refine⟨_,rfl,_,rfl,r,_,_,V.int b,rfl,rfl,SqT.of R2.tu,rfl,b,rfl,by omega,λq hq=>?_⟩;have m3:=(m1.trans s2).trans (zy hq (o:=.lst ((aD b).map λ(c:Nat)=>V.int c)));have hv3:=zy hq (o:=.lst ((aD b).map λ(c:Nat)=>V.int c)) _ _ hv;have hwl:upd H2 q (.lst ((aD b).map λ(c:Nat)=>V.int c)) q=some (.lst ((qL b (λc=>c) 1 0).map V.int)):=by rw[zq,zfW]
  generalize upd H2 q (.lst ((aD b).map λ(c:Nat)=>V.int c))=H3 at m3 hv3 hwl;refine⟨_,rfl,fa,_,rfl,.inl (SqL.of hv3),?_⟩;rw[aa];refine zdE (sc:=1) (R.same m3) g (hT.same m3) hwl (by decide) hlen (wid b16) ?_;intro x H4 M;obtain⟨dx,fs,e1,e2,e3⟩:=zcs (T0:=T0) (Q:=Q) (H:=H) (n:=n) (fa:=fa) (by decide) (wid b16) hn8 M hv3 (hT.same m3) (SameL.of m3) (λc hc=>m3.free hc) (λH' s' hT'=>kk _ H' rfl s' hT');exact⟨x,dx,fs,rfl,e1,e2,_,rfl,e3⟩
def ZS(T0:aq):Sp:=λvs H Q _=>∃(r:aq) (b:Nat) (bl:aq) (zs:ZB) (n c:Nat),vs=[.ref r,.int n,.int c]/\RuleAt H r b bl zs/\GoodRule b (zs.map (·.2))/\n<2^700/\c<b/\LT T0 H/\∀H',SameL T0 H H'->LT T0 H'->Q (.int ((tot (gd (zs.map (·.2)) b) (fw (one c) 1 b) n:Nat):Int)) H'
theorem Wl:zG ["rule","n","figure","figures","weights"] ["rule","n","figure"] (zp wV):={}
theorem zce(D:Df K mg "often_below" wV A5 f fd)(zJ:Df K mg "check_rule" yD Aa f1 fd1)(zL:FnOk P w K mg base CX0 7 f1 fd1 Aa yF)(ye:Df K mg "figures_of" wG Ae f2 fd2)(yh:FnOk P w K mg base CX0 4 f2 fd2 Ae wD)(u9:Df K mg "is_figure" ZJ Ad f5 fd5)(qu:FnOk P w K mg base CX0 2 f5 fd5 Ad XJ)(Xy:Mk K CS f3)(XR:Binds K fd3 ["self","rule","weights","scale","size"] [])(um:FnOk P w K mg base CX0 9 f3 fd3 Ax (VJ T0 C CS))(yO:Mt K CS "Totals.total_below" "total_below" yd Aj f4 fd4)(yU:FnOk P w K mg base CX0 4 f4 fd4 Aj (jC C CS))(zR:ClS K mg CS)(T:Blt mg):FnOk P w K mg base CX0 12 f fd A5 (ZS T0):=by
 refine D.fn.ok Wl (λvs H Q E h=>?_) (λcdv A outer s H vs Q E hr h=>?_)
 ·obtain⟨r,b,bl,zs,n,c,rfl,_⟩:=h;rfl
 ·obtain⟨r,b,bl,zs,n,c,rfl,R,g,hn,hcb,hT,kk⟩:=h;have b2:=g.b2;have b16:=g.b16;have hlen:(yJ b n).length<=800:=by have:=uP b2 700 n hn;omega
  have hn8:n<2^800:=aA hn (cH (by decide) (by decide));refine xu ?_;intro XX;let q1:Sq XX ((zj wV).drop 4):=⟨_,zm (zE (xZ yO zR.cl yU (hr.mono (by decide)) (jc Xy um (hr.mono (by decide)) rfl zR.nm XR .nil Xf (zc (pv 0) (zc (pv 4) (zc zu (zc (zH (xG K) (by rfl) T.n_len PySem.boot_len (zc (pv 3) zf)) zf))))) (zc (pv 3) zf)))⟩
  let q2:Sq XX ((zj wV).drop 3):=⟨_,zg (wL (i:=4) (show CScope (zp wV) _ "each" ["rule","n","figure","figures","weights"] ["figure"] [2] from {}) rfl Wl.nd rfl (aW rfl) (yM rfl T.n_range (zc (zX (yP K) (pv 0) zu (λ_ _=>rfl)) zf)) (λ_ _ _ _=>vU) (λ_ _ _ _=>(zfV (zP Qe (pv 0) (pv 1) (zT _)) zu zu))) q1.p⟩
  let q3:Sq XX ((zj wV).drop 2):=⟨_,zg (yx (wB (yX (zK u9 qu (hr.mono (by decide)) (zc (zX (yP K) (pv 0) zu (λ_ _=>rfl)) (zc (pv 2) zf)))))
    (zm uf)
    zQ) q2.p⟩
  let q4:Sq XX ((zj wV).drop 1):=⟨_,zg (zU (i:=3) Wl.nd rfl (aW rfl) (zK ye yh (hr.mono (by decide)) (zc (zX (yP K) (pv 0) zu (λ_ _=>rfl)) (zc (pv 1) zf)))) q3.p⟩
  refine⟨_,(zg (yw (zK zJ zL (hr.mono (by decide)) (zc (pv 0) zf))) q4.p),?_⟩;refine⟨_,rfl,r,b,bl,zs,rfl,R,g,λH1 m1=>?_⟩;have R1:=R.same m1;refine⟨_,rfl,r,_,_,V.int b,rfl,rfl,SqT.of R1.tu,rfl,_,rfl,b,n,rfl,b2,b16,aA hn (cH (by decide) (by decide)),λfa H2 hfa hv s2=>?_⟩;have R2:=R1.same s2;refine⟨_,rfl,r,_,_,V.int b,rfl,rfl,SqT.of R2.tu,rfl,_,rfl,(b:Int),(c:Int),rfl,_,rfl,?_⟩;rw[decide_eq_true (show (0:Int)<=(c:Int)/\(c:Int)<(b:Int) by omega)];refine wN ?_;refine⟨_,rfl,r,_,_,V.int b,rfl,rfl,SqT.of R2.tu,rfl,(b:Int),rfl,by omega,by omega,jF (lo:=0) (n:=(b:Int).toNat) (λj ys Hc=>Hc=H2/\ys=(aD j).map λ(d:Nat)=>V.int (one c d:Nat)) ⟨rfl,rfl⟩ ?_ ?_⟩
  ·rintro j ys Hc hj ⟨rfl,rfl⟩;refine⟨by rw[aa,aX];exact aA (show j<17 by omega) (by decide),?_⟩;unfold Vp;dsimp only;rw[if_pos rfl];refine⟨_,rfl,_,rfl,rfl,_,rfl,?_⟩;by_cases e:j=c
   ·subst e;refine zl3 (by simp) ⟨rfl,?_⟩;rw[cL,aF];simp[one]
   ·refine zl0 (by simp;omega) ⟨rfl,?_⟩;rw[cL,aF];simp[one,e]
  rintro ys Hc ⟨rfl,rfl⟩ q hq;have m3:=(m1.trans s2).trans (zy hq (o:=.lst ((aD (b:Int).toNat).map λ(d:Nat)=>V.int (one c d:Nat))));have hv3:=zy hq (o:=.lst ((aD (b:Int).toNat).map λ(d:Nat)=>V.int (one c d:Nat))) _ _ hv;have hwl:upd Hc q (.lst ((aD (b:Int).toNat).map λ(d:Nat)=>V.int (one c d:Nat))) q=some (.lst ((qL b (one c) 1 0).map V.int)):=by rw[zq,zfW,dg]
  generalize upd Hc q (.lst ((aD (b:Int).toNat).map λ(d:Nat)=>V.int (one c d:Nat)))=H3 at m3 hv3 hwl;have hone:∀d,d<b->one c d<2^64:=λd _=>by unfold one;split<;>decide
  refine⟨_,rfl,_,rfl,_,rfl,fa,_,rfl,.inl (SqL.of hv3),?_⟩;rw[aa];refine zdE (sc:=1) (R.same m3) g (hT.same m3) hwl (by decide) hlen hone ?_;intro x H4 M;obtain⟨dx,fs,e1,e2,e3⟩:=zcs (T0:=T0) (Q:=Q) (H:=H) (n:=n) (fa:=fa) (by decide) hone hn8 M hv3 (hT.same m3) (SameL.of m3) (λc hc=>m3.free hc) (λH' s' hT'=>kk H' s' hT');exact⟨x,dx,fs,rfl,e1,e2,_,rfl,e3⟩
end
structure RL where
 r:aq
 b:Nat
 bl:aq
 zs:ZB
def RL.con(x:RL):Nat×ZA:=(x.b,x.zs.map (·.2))
structure RulesAt (H:Hp) (l:aq) (rs:List RL):Prop where
 li:H l=some (.lst (rs.map λx=>V.ref x.r))
 ru:∀x∈rs,RuleAt H x.r x.b x.bl x.zs
theorem RulesAt.same(R:RulesAt H l rs)(s:Same H H'):RulesAt H' l rs:=⟨s _ _ R.li,λx hx=>(R.ru x hx).same s⟩
structure GoodRs (rs:List RL):Prop where
 ne:rs≠[]
 len:rs.length<=3
 good:∀x∈rs,GoodRule x.b (x.zs.map (·.2))
def qY(cs:List (Nat×ZA))(n:Nat):Bool:=cs.all λc=>lacks c.2 (yJ c.1 n)
theorem GoodRs.z4(g:GoodRs rs)(hx:x∈rs):x.zs.length<=4:=by have:=(g.good x hx).len;rwa[aa]at this
section
variable {P:cg} {w:cT} {K:aN} {mg:cG->Option aG} {base:dR}
def zan:Sp:=λvs H Q _=>∃l rs,vs=[.ref l]/\RulesAt H l rs/\GoodRs rs/\∀H',Same H H'->Q (.bl true) H'
theorem zeN:zG ["thing"] ["thing"] (zp ZG):={}
theorem zeK(D:Df K mg "are_rules" ZG Aa f fd)(Wu:Df K mg "is_rule" We Aa f1 fd1)(V8:FnOk P w K mg base CX0 6 f1 fd1 Aa JM)(Ug:mg "MOST_RULES"= some (.int 3 t1))(T:Blt mg):FnOk P w K mg base CX0 7 f fd Aa zan:=by
 refine D.fn.ok zeN (λvs H Q E h=>?_) (λcdv A outer s H vs Q E hr h=>?_)
 ·obtain⟨l,rs,rfl,_⟩:=h;rfl
 ·obtain⟨l,rs,rfl,R,g,kk⟩:=h;have h3:=g.len;have h0:0<rs.length:=cF.mpr g.ne;refine xu ?_;intro XX;let q1:Sq XX ((zj ZG).drop 1):=⟨_,zm (zE (zH (k_all K rfl) (by rfl) T.n_all Ca (zc (wO (show CScope (zp ZG) _ "each" ["thing"] [] [] from {}) rfl (jh K (pv 0)) (λ_ _ _ _=>vU) (λ_ _ _ _=>(zK Wu V8 (hr.mono (by decide)) (zc (pv 0) zf)))) zf)))⟩
  refine⟨_,(zg (yx (PW.pt (Z6 (wB (yX (zH (zhp K) (by rfl) T.n_isinstance iJ (zc (pv 0) (zc (QW (v:=.ty "list") rfl T.n_list gW rfl) zf))))) (qw (wB (zcC U7 U7 zu (zH (xG K) (by rfl) T.n_len PySem.boot_len (zc (pv 0) zf)) (Z0 (v:=.int 3) rfl Ug ⟨_,rfl⟩))))))
    (zm (zE vX))
    zQ) q1.p),?_⟩
  refine⟨_,rfl,_,_,_,_,rfl,.lst R.li,Vu,_,rfl,wN ?_⟩;refine⟨_,rfl,l,_,rfl,.inl (SqL.of R.li),_,_,rfl,rfl,_,rfl,?_⟩;rw[aa,decide_eq_true (show (1:Int)<=(rs.length:Int) by omega)];refine qd ?_;refine⟨_,_,rfl,rfl,_,rfl,?_⟩;rw[decide_eq_true (show (rs.length:Int)<=3 by omega)];refine wN ?_;refine⟨_,rfl,l,rfl,⟨_,SqL.of R.li⟩,vZ (K:=K) (a:=l) (xs:=rs.map λx=>V.ref x.r) (λi ys H4=>ys=(bc i true).map V.bl/\Same H H4) ⟨by simp,Same.refl _⟩ (λi ys H4 _ ⟨_,m4⟩=>SqL.of (m4 _ _ R.li)) ?_ ?_⟩
  ·rintro j y ys H4 hx ⟨rfl,m4⟩;rw[ak]at hx;obtain⟨x,hxj,e⟩:=aM.mp hx;subst e;have hxm:=aJ hxj;have hj:j<rs.length:=(aO.mp hxj).1;refine⟨by rw[aa,fG];exact aA (show j<5 by omega) (by decide),?_⟩;unfold Vp;dsimp only;rw[if_pos rfl];refine⟨_,rfl,x.r,x.b,x.bl,x.zs,rfl,(R.ru x hxm).same m4,g.good x hxm,λH5 m5=>⟨?_,m4.trans m5⟩⟩;rw[mJ];simp
  ·rintro ys H4 ⟨rfl,m4⟩ Dd hD;refine⟨Dd,_,rfl,SqL.of zq,?_⟩;rw[zej];exact kk _ (m4.trans (zy hD))
def jx:Sp:=λvs H Q _=>∃l rs,vs=[.ref l]/\RulesAt H l rs/\GoodRs rs/\∀H',Same H H'->Q .non H'
theorem zcM:zG ["thing"] ["thing"] (zp tD):={}
theorem zb5(D:Df K mg "check_rules" tD Aa f fd)(Uw:Df K mg "are_rules" ZG Aa f1 fd1)(JP:FnOk P w K mg base CX0 7 f1 fd1 Aa zan):FnOk P w K mg base CX0 8 f fd Aa jx:=by
 refine D.fn.ok zcM (λvs H Q E h=>?_) (λcdv A outer s H vs Q E hr h=>?_)
 ·obtain⟨l,rs,rfl,_⟩:=h;rfl
 ·obtain⟨l,rs,rfl,R,g,kk⟩:=h;refine⟨_,(zm (yx (wB (yX (zK Uw JP (hr.mono (by decide)) (zc (pv 0) zf))))
    (zm uf)
    zQ)),?_⟩
  exact⟨_,rfl,l,rs,rfl,R,g,λH1 s1=>⟨_,rfl,wN (kk H1 s1)⟩⟩
def qC:Sp:=λvs H Q _=>∃(l:aq) (rs:List RL) (n:Nat),vs=[.ref l,.int n]/\RulesAt H l rs/\GoodRs rs/\n<2^200/\∀H',Same H H'->Q (.bl (qY (rs.map RL.con) n)) H'
theorem Jm:zG ["rules","n"] ["rules","n"] (zp wW):={}
theorem Jz(D:Df K mg "is_good_by_each" wW Ac f fd)(Za:Df K mg "is_good" Yo Ab f1 fd1)(Yd:FnOk P w K mg base CX0 8 f1 fd1 Ab WQ)(T:Blt mg):FnOk P w K mg base CX0 9 f fd Ac qC:=by
 refine D.fn.ok Jm (λvs H Q E h=>?_) (λcdv A outer s H vs Q E hr h=>?_)
 ·obtain⟨l,rs,n,rfl,_⟩:=h;rfl
 ·obtain⟨l,rs,n,rfl,R,g,hn,kk⟩:=h;have h3:=g.len;refine⟨_,(zm (zE (zH (k_all K rfl) (by rfl) T.n_all Ca (zc (wO (show CScope (zp wW) _ "rule" ["rules","n"] ["n"] [1] from {}) rfl (jh K (pv 0)) (λ_ _ _ _=>vU) (λ_ _ _ _=>(zK Za Yd (hr.mono (by decide)) (zc (pv 0) (zc (pv 1) zf))))) zf)))),?_⟩;refine⟨_,rfl,l,rfl,⟨_,SqL.of R.li⟩,vZ (K:=K) (a:=l) (xs:=rs.map λx=>V.ref x.r) (λi ys H4=>ys=(((rs.take i).map RL.con).map λc=>lacks c.2 (yJ c.1 n)).map V.bl/\Same H H4) ⟨by simp,Same.refl _⟩ (λi ys H4 _ ⟨_,m4⟩=>SqL.of (m4 _ _ R.li)) ?_ ?_⟩
  ·rintro j y ys H4 hx ⟨rfl,m4⟩;rw[ak]at hx;obtain⟨x,hxj,e⟩:=aM.mp hx;subst e;have hxm:=aJ hxj;refine⟨?_,?_⟩
   ·rw[aa,aa,aa,bM];exact bw (show min j rs.length<=3 by omega) (by decide)
   unfold Vp;dsimp only;rw[if_pos rfl];refine⟨_,rfl,_,rfl,x.r,x.b,x.bl,x.zs,n,rfl,(R.ru x hxm).same m4,g.good x hxm,km hn (by decide),λH5 m5=>⟨?_,m4.trans m5⟩⟩;rw[cO,hxj];simp[RL.con]
  ·rintro ys H4 ⟨rfl,m4⟩ Dd hD;refine⟨Dd,_,rfl,SqL.of zq,?_⟩;have q:=kk _ (m4.trans (zy hD (o:=.lst ((((rs.take (rs.map λx=>V.ref x.r).length).map RL.con).map λc=>lacks c.2 (yJ c.1 n)).map V.bl))));rw[aa,cj]at q ⊢;rw[pC];exact q
def XS:Sp:=λvs H Q _=>∃(l:aq) (rs:List RL) (n:Nat),vs=[.ref l,.int n]/\RulesAt H l rs/\GoodRs rs/\n<2^200/\∀H',Same H H'->Q (.bl (qY (rs.map RL.con) n)) H'
theorem zeU:zG ["rules","n"] ["rules","n"] (zp ZL):={}
theorem zeJ(D:Df K mg "keeps_all" ZL Ac f fd)(xY:Df K mg "check_rules" tD Aa f1 fd1)(wF:FnOk P w K mg base CX0 8 f1 fd1 Aa jx)(xm:Df K mg "is_good_by_each" wW Ac f2 fd2)(xW:FnOk P w K mg base CX0 9 f2 fd2 Ac qC):FnOk P w K mg base CX0 10 f fd Ac XS:=by
 refine D.fn.ok zeU (λvs H Q E h=>?_) (λcdv A outer s H vs Q E hr h=>?_)
 ·obtain⟨l,rs,n,rfl,_⟩:=h;rfl
 ·obtain⟨l,rs,n,rfl,R,g,hn,kk⟩:=h;refine xu ?_;intro XX;let q1:Sq XX ((zj ZL).drop 1):=⟨_,zm (zE (zK xm xW (hr.mono (by decide)) (zc (pv 0) (zc (pv 1) zf))))⟩
  refine⟨_,(zg (yw (zK xY wF (hr.mono (by decide)) (zc (pv 0) zf))) q1.p),?_⟩;refine⟨_,rfl,l,rs,rfl,R,g,λH1 m1=>?_⟩;exact⟨_,rfl,_,rfl,l,rs,n,rfl,R.same m1,g,hn,λH2 m2=>kk H2 (m1.trans m2)⟩
def nextK(cs:List (Nat×ZA))(n:Nat):Option Nat:=((aD 500).find? λj=>qY cs (n+j)).map λj=>n+j
def zlo:Option Nat->V
 |none=>.non
 |some m=>.int m
theorem zgH(hi:i<500)(h1:∀j,j<i->qY cs (n+j)=false)(h2:qY cs (n+i)=true):nextK cs n=some (n+i):=by
 unfold nextK;have:(aD 500).find? (λj=>qY cs (n+j))=some i:=by
  rw[List.find?_eq_some_iff_getElem];refine⟨h2,i,by rw[aX];exact hi,by simp,λj hj=>?_⟩;simp[h1 j hj]
 rw[this];rfl
theorem zgo(h1:∀j,j<500->qY cs (n+j)=false):nextK cs n=none:=by
 unfold nextK;have:(aD 500).find? (λj=>qY cs (n+j))=none:=by
  rw[List.find?_eq_none];intro j hj;rw[h1 j (cZ.mp hj)];exact bu
 rw[this];rfl
def Zc:Sp:=λvs H Q _=>∃(l:aq) (rs:List RL) (n:Nat),vs=[.ref l,.int n]/\RulesAt H l rs/\GoodRs rs/\n<2^199/\∀H',Same H H'->Q (zlo (nextK (rs.map RL.con) n)) H'
theorem Qd:zG ["rules","n","each"] ["rules","n"] (zp vQ):={}
theorem zbx(D:Df K mg "next_keeping" vQ Ac f fd)(xY:Df K mg "check_rules" tD Aa f1 fd1)(wF:FnOk P w K mg base CX0 8 f1 fd1 Aa jx)(xm:Df K mg "is_good_by_each" wW Ac f2 fd2)(xW:FnOk P w K mg base CX0 9 f2 fd2 Ac qC)(xn:Df K mg "check_number" uz Aa f3 fd3)(xQ:FnOk P w K mg base CX0 3 f3 fd3 Aa qM)(zeL:mg "REACH"= some (.int 500 t1))(T:Blt mg):FnOk P w K mg base CX0 10 f fd Ac Zc:=by
 refine D.fn.ok Qd (λvs H Q E h=>?_) (λcdv A outer s H vs Q E hr h=>?_)
 ·obtain⟨l,rs,n,rfl,_⟩:=h;rfl
 ·obtain⟨l,rs,n,rfl,R,g,hn,kk⟩:=h;refine xu ?_;intro XX;let q1:Sq XX ((zj vQ).drop 3):=⟨_,zm (zE uF)⟩
  let q2:Sq XX ((zj vQ).drop 2):=⟨_,zg (wR bj rfl (zga rfl T.n_range (zc (pv 1) (zc (zV xO (pv 1) (Z0 (v:=.int 500) rfl zeL ⟨_,rfl⟩)) zf))) (yV (i:=2) Qd.nd rfl (aW rfl))
    (zm (yx (yX (zK xm xW (hr.mono (by decide)) (zc (pv 0) (zc (pv 2) zf))))
     (zm (zE (pv 2)))
     zQ))) q1.p⟩
  let q3:Sq XX ((zj vQ).drop 1):=⟨_,zg (yw (zK xn xQ (hr.mono (by decide)) (zc (pv 1) zf))) q2.p⟩
  refine⟨_,(zg (yw (zK xY wF (hr.mono (by decide)) (zc (pv 0) zf))) q3.p),?_⟩;refine⟨_,rfl,l,rs,rfl,R,g,λH1 m1=>?_⟩;refine⟨_,rfl,(n:Int),rfl,by omega,?_⟩;refine⟨_,rfl,_,rfl,_,_,rfl,rfl,(n:Int),_,rfl,?_⟩;rw[show ((n:Int)+500-n).toNat=500 by omega];refine jL (lo:=(n:Int)) (n:=500) (λi Z H2=>∃v1:Option V,Z=[some (.ref l),some (.int n),v1]/\Same H H2/\∀j,j<i->qY (rs.map RL.con) (n+j)=false) ⟨none,rfl,m1,λj hj=>by omega⟩ ?_ ?_
  ·rintro i Z H2 hi ⟨v1,rfl,m2,hno⟩;refine⟨_,rfl,_,rfl,l,rs,n+i,by rw[du];rfl,R.same m2,g,by omega,λH3 m3=>⟨_,rfl,?_⟩⟩;cases hk:qY (rs.map RL.con) (n+i) with
   |true=>
    refine qd ⟨_,rfl,?_⟩;have q:=kk H3 (m2.trans m3);rw[zgH hi hno hk]at q;have e:zlo (some (n+i))=.int ((n:Int)+i):=by show V.int ((n+i:Nat):Int)=_;rw[du]
    rw[e]at q;exact q
   |false=>
    refine wN ⟨_,rfl,m2.trans m3,λj hj=>?_⟩;by_cases hji:j<i
    ·exact hno j hji
    ·rw[show j=i by omega];exact hk
  ·rintro Z H2 ⟨v1,rfl,m2,hno⟩;have q:=kk H2 m2;rw[zgo hno]at q;exact q
def Qk:Sp:=λvs H Q _=>∃n:Nat,vs=[.int n]/\n<=2000/\Q .non H
theorem zbT:zG ["thing"] ["thing"] (zp Y4):={}
theorem zcZ(D:Df K mg "check_bound" Y4 Aa f fd)(wK:Df K mg "is_number" jo Aa f2 fd2)(ww:Df K mg "is_whole" jD Aa f1 fd1)(YB:mg "GREATEST_BOUND"= some (.int 2000 t1))(T:Blt mg):FnOk P w K mg base CX0 3 f fd Aa Qk:=by
 have uY:FnOk P w K mg base CX0 2 f2 fd2 Aa ZM:=U3 wK ww T;refine D.fn.ok zbT (λvs H Q E h=>?_) (λcdv A outer s H vs Q E hr h=>?_)
 ·obtain⟨n,rfl,_⟩:=h;rfl
 ·obtain⟨n,rfl,hn,kk⟩:=h;refine⟨_,(zm (yx (PW.pt (Z6 (wB (yX (zK wK uY (hr.mono (by decide)) (zc (pv 0) zf)))) (qw (zP zaj (pv 0) (Z0 (v:=.int 2000) rfl YB ⟨_,rfl⟩) (zT _)))))
    (zm uf)
    zQ)),?_⟩
  refine⟨_,rfl,(n:Int),rfl,_,rfl,?_⟩;rw[decide_eq_true (show (0:Int)<=n by omega)];refine wN ?_;refine⟨_,rfl,_,_,rfl,rfl,_,rfl,?_⟩;rw[decide_eq_false (show ¬ (2000:Int)<n by omega)];exact wN kk
def zaq(cs:List (Nat×ZA))(n:Nat):List Int:=((aD n).filter (qY cs)).map λk:Nat=>(k:Int)
def jk:Sp:=λvs H Q _=>∃(l:aq) (rs:List RL) (n:Nat),vs=[.ref l,.int n]/\RulesAt H l rs/\GoodRs rs/\n<=2000/\∀p H',H p=none->H' p=some (.lst ((zaq (rs.map RL.con) n).map V.int))->Same H H'->Q (.ref p) H'
theorem zcQ:zG ["rules","n"] ["rules","n"] (zp vM):={}
theorem zbZ(D:Df K mg "all_keeping" vM Ac f fd)(xY:Df K mg "check_rules" tD Aa f1 fd1)(wF:FnOk P w K mg base CX0 8 f1 fd1 Aa jx)(XH:Df K mg "check_bound" Y4 Aa f2 fd2)(UL:FnOk P w K mg base CX0 3 f2 fd2 Aa Qk)(xm:Df K mg "is_good_by_each" wW Ac f3 fd3)(xW:FnOk P w K mg base CX0 9 f3 fd3 Ac qC)(T:Blt mg):FnOk P w K mg base CX0 10 f fd Ac jk:=by
 refine D.fn.ok zcQ (λvs H Q E h=>?_) (λcdv A outer s H vs Q E hr h=>?_)
 ·obtain⟨l,rs,n,rfl,_⟩:=h;rfl
 ·obtain⟨l,rs,n,rfl,R,g,hn,kk⟩:=h;refine xu ?_;intro XX;let q1:Sq XX ((zj vM).drop 2):=⟨_,zm (zE (wO (show CScope (zp vM) _ "each" ["rules","n"] ["rules"] [0] from {}) rfl (yM rfl T.n_range (zc (pv 1) zf)) (λ_ _ _ _=>(uq (yX (zK xm xW (hr.mono (by decide)) (zc (pv 1) (zc (pv 0) zf)))))) (λ_ _ _ _=>(pv 0))))⟩
  let q2:Sq XX ((zj vM).drop 1):=⟨_,zg (yw (zK XH UL (hr.mono (by decide)) (zc (pv 1) zf))) q1.p⟩
  refine⟨_,(zg (yw (zK xY wF (hr.mono (by decide)) (zc (pv 0) zf))) q2.p),?_⟩;refine⟨_,rfl,l,rs,rfl,R,g,λH1 m1=>?_⟩;refine⟨_,rfl,n,rfl,hn,?_⟩;refine⟨_,rfl,(n:Int),rfl,by omega,by omega,jF (lo:=0) (n:=(n:Int).toNat) (λi ys H4=>ys=(zaq (rs.map RL.con) i).map V.int/\Same H H4) ⟨by simp[zaq],m1⟩ ?_ ?_⟩
  ·rintro i ys H4 hi ⟨rfl,m4⟩;refine⟨by unfold zaq;rw[aa,aa];exact bw (ao (bV _ _) (by rw[aX];exact show i<=2000 by omega)) (by decide),?_⟩;refine⟨_,rfl,_,rfl,l,rs,i,by rw[cM];rfl,R.same m4,g,bw (show i<=2000 by omega) (by decide),λH5 m5=>⟨_,rfl,?_⟩⟩;rw[cM];cases hk:qY (rs.map RL.con) i with
   |true=>
    refine qd ⟨_,rfl,?_,m4.trans m5⟩;unfold zaq;rw[cL,bT];simp[hk]
   |false=>
    refine wN ⟨?_,m4.trans m5⟩;unfold zaq;rw[cL,bT];simp[hk]
  ·rintro ys H4 ⟨rfl,m4⟩ p hp;refine kk p _ (m4.free hp) ?_ (m4.trans (zy hp));rw[zq,dg]
def jW:Sp:=λvs H Q _=>∃(l:aq) (rs:List RL) (n:Nat),vs=[.ref l,.int n]/\RulesAt H l rs/\GoodRs rs/\n<=2000/\∀H':Hp,Same H H'->Q (.int (zaq (rs.map RL.con) n).length) H'
theorem zau:zG ["rules","n"] ["rules","n"] (zp qR):={}
theorem zax(D:Df K mg "count_keeping" qR Ac f fd)(uo:Df K mg "all_keeping" vM Ac f1 fd1)(uT:FnOk P w K mg base CX0 10 f1 fd1 Ac jk)(T:Blt mg):FnOk P w K mg base CX0 11 f fd Ac jW:=by
 refine D.fn.ok zau (λvs H Q E h=>?_) (λcdv A outer s H vs Q E hr h=>?_)
 ·obtain⟨l,rs,n,rfl,_⟩:=h;rfl
 ·obtain⟨l,rs,n,rfl,R,g,hn,kk⟩:=h;refine⟨_,(zm (zE (zH (xG K) (by rfl) T.n_len PySem.boot_len (zc (zK uo uT (hr.mono (by decide)) (zc (pv 0) (zc (pv 1) zf))) zf)))),?_⟩;refine⟨_,rfl,_,rfl,l,rs,n,rfl,R,g,hn,λp H1 hp hv m1=>⟨p,_,rfl,.inl (SqL.of hv),?_⟩⟩;rw[aa];exact kk H1 m1
theorem zlC{ls:ZA}:((ls.map xT).any λt=>teq t (xT x))=decide (x∈ls):=by
 rw[kE,bD,cI,decide_eq_true_iff];constructor
 ·rintro⟨y,hy,q⟩;have q':teq (xT y) (xT x)=true:=q;rw[j0]at q';rw[<-of_decide_eq_true q'];exact hy
 ·intro h;refine⟨x,h,?_⟩;show teq (xT x) (xT x)=true;rw[j0];exact decide_eq_true rfl
structure NewL (H H':Hp) (l:aq) (ws:ZB):Prop where
 sm:Same H H'
 nl:H l=none
 li:H' l=some (.lst (ws.map λz=>V.ref z.1))
 st:∀z∈ws,H z.1=none/\z.1≠l/\H' z.1=some (.lst (z.2.map V.int))
theorem NewL.more(N:NewL H H' l ws)(hq:H' q=none):NewL H (upd (upd H' q (.lst (ms.map V.int))) l (.lst (ws.map (λz=>V.ref z.1)++[.ref q]))) l (ws++[(q,ms)]):=by
 have nq:q≠l:=λz=>by rw[z,N.li]at hq;cases hq
 refine⟨λb o e=>?_,N.nl,by rw[zq];simp,λz hz=>?_⟩
 ·rw[zA (zF e N.nl)];exact zy hq _ _ (N.sm b o e)
 ·rcases bf.mp hz with hz | hz
  ·obtain⟨h1,h2,h3⟩:=N.st z hz;exact⟨h1,h2,by rw[zA h2];exact zy hq _ _ h3⟩
  ·have e:z=(q,ms):=by simpa using hz
   subst e;exact⟨N.sm.free hq,nq,by rw[zA nq,zq]⟩
def Xu:Sp:=λvs H Q _=>∃l rs,vs=[.ref l]/\RulesAt H l rs/\GoodRs rs/\∀(p:aq) (zs:ZB) (H':Hp),Same H H'->H p=none->(∀z∈zs,H z.1=none/\H' z.1=some (.lst (z.2.map V.int)))->H' p=some (.lst (zs.map λz=>V.ref z.1))->zs.map (·.2)=uni (zaB (rs.map RL.con))->zs.length<=12->Q (.ref p) H'
theorem tH:zG ["rules","found","rule","stretch"] ["rules"] (zp vB):={}
theorem Q7(D:Df K mg "unlike_stretches" vB Ar f fd)(T:Blt mg):FnOk P w K mg base CX0 1 f fd Ar Xu:=by
 refine D.fn.ok tH (λvs H Q E h=>?_) (λcdv A outer s H vs Q E hr h=>?_)
 ·obtain⟨l,rs,rfl,_⟩:=h;rfl
 ·obtain⟨l,rs,rfl,R,g,kk⟩:=h;have HU:=Vv hr;have h3:=g.len;refine xu ?_;intro XX;let q1:Sq XX ((zj vB).drop 2):=⟨_,zm (zE (zH (zac K HU) (by rfl) T.n_sorted lH (zc (pv 1) zf)))⟩
  let q2:Sq XX ((zj vB).drop 1):=⟨_,zg (wR bj rfl (jh K (pv 0)) (yV (i:=2) tH.nd rfl (aW rfl))
    (zm (wR bj rfl (jh K (zX (yP K) (pv 2) zu (λ_ _=>rfl))) (yV (i:=3) tH.nd rfl (aW rfl))
     (zm (yx (zP (Xb K HU) (pv 3) (pv 1) (by with_unfolding_all rfl))
      (zm (yw (Vx PySem.F.plainAttrs_list PySem.F.slot_list_append PySem.F.type_list_append qU (pv 1) (zc (Yn (Wz K) (by rfl) T.n_list gW (zc (pv 3) zf)) zf))))
      zQ))))) q1.p⟩
  refine⟨_,(zg (zU (i:=1) tH.nd rfl (aW rfl) (yR zf)) q2.p),?_⟩;refine⟨(by decide:0<=aZ),λfl hfl=>?_⟩;have m1:=zy hfl (o:=.lst []);refine⟨_,rfl,l,rfl,⟨_,SqL.of (m1 _ _ R.li)⟩,J8 (K:=K) (a:=l) (xs:=rs.map λx=>V.ref x.r) (λj Z H2=>∃(v1 v2:Option V) (ws:ZB),Z=[some (.ref l),some (.ref fl),v1,v2]/\NewL H H2 fl ws/\(ws.map (·.2)).Nodup/\(∀y,y∈ws.map (·.2)↔y∈zaB ((rs.take j).map RL.con))/\ws.length<=4*j)
   ⟨none,none,[],rfl,⟨m1,hfl,zq,by simp⟩,by simp,by simp[zaB],bK _⟩ (λj Z H2 _ ⟨_,_,_,_,N,_⟩=>SqL.of (N.sm _ _ R.li)) ?_ ?_⟩
  ·rintro j y Z H2 hx ⟨v1,v2,ws,rfl,N2,hnd,hmem,hwl⟩;rw[ak]at hx;obtain⟨x,hxj,e⟩:=aM.mp hx;subst e;have hxm:=aJ hxj;have hj:j<rs.length:=(aO.mp hxj).1;have h4:=g.z4 hxm;have Rx:=R.ru x hxm;have R2:=Rx.same N2.sm;refine⟨_,rfl,x.r,_,_,V.ref x.bl,rfl,rfl,SqT.of R2.tu,rfl,x.bl,rfl,⟨_,SqL.of R2.li⟩,J8 (K:=K) (a:=x.bl) (xs:=x.zs.map λz=>V.ref z.1) (λk Z H3=>∃(v2:Option V) (ws:ZB),Z=[some (.ref l),some (.ref fl),some (.ref x.r),v2]/\NewL H H3 fl ws/\(ws.map (·.2)).Nodup/\(∀y,y∈ws.map (·.2)↔y∈zaB ((rs.take j).map RL.con)\/y∈(x.zs.take k).map (·.2))/\ws.length<=4*j+k)
    ⟨_,ws,rfl,N2,hnd,λy=>by rw[hmem];simp,by omega⟩ (λk Z H3 _ ⟨_,_,_,N,_⟩=>SqL.of (N.sm _ _ Rx.li)) ?_ ?_⟩
   ·rintro k y Z H3 hx ⟨v2,ws,rfl,N3,hnd,hmem,hwl⟩;rw[ak]at hx;obtain⟨z,hzk,e⟩:=aM.mp hx;subst e;have hzm:=aJ hzk;have hk:k<x.zs.length:=(aO.mp hzk).1;have hz3:=N3.sm _ _ (Rx.st z hzm);have hstep:∀y,(y∈zaB ((rs.take j).map RL.con)\/y∈(x.zs.take (k+1)).map (·.2))↔(y∈zaB ((rs.take j).map RL.con)\/y∈(x.zs.take k).map (·.2))\/y=z.2:=λy=>by
     rw[cO,hzk,aF,bf];simp[or_assoc]
    refine⟨_,rfl,_,rfl,fl,_,(ws.map (·.2)).map xT,xT z.2,rfl,SqL.of N3.li,TrsAt.lists λz hz=>(N3.st z hz).2.2,TrAt.ints (SqL.of hz3),ao (qe _) (by decide),_,rfl,?_⟩;rw[zlC];by_cases hin:z.2∈ws.map (·.2)
    ·rw[decide_eq_true hin];refine wN ⟨_,ws,rfl,N3,hnd,λy=>?_,by omega⟩;rw[hstep,<-hmem];exact⟨.inl,λq=>q.elim id λe=>by rw[e];exact hin⟩
    ·rw[decide_eq_false hin];refine qd ⟨_,rfl,.inl ⟨rfl,_,SqL.of N3.li⟩,_,rfl,z.1,_,rfl,.inl (SqL.of hz3),λq hq=>?_⟩;refine⟨fl,_,_,rfl,rfl,zy hq _ _ N3.li,by rw[aa];exact bw (show ws.length<=16 by omega) (by decide),?_⟩;refine⟨_,ws++[(q,z.2)],rfl,N3.more hq,?_,λy=>?_,by rw[aB,aU];omega⟩
     ·rw[aF];refine fP.mpr ⟨hnd,by simp,λa ha c hc=>?_⟩;have e:c=z.2:=by simpa using hc
      rw[e];exact λe2=>hin (by rw[<-e2];exact ha)
     ·rw[hstep,<-hmem,aF,bf];simp
   ·rintro Z H3 ⟨v2,ws,rfl,N3,hnd,hmem,hwl⟩;refine⟨_,_,ws,rfl,N3,hnd,λy=>?_,by rw[aa]at hwl;omega⟩;rw[hmem,aa,cj,cO,hxj];unfold zaB;rw[aF,mX,bf];simp[RL.con]
  ·rintro Z H2 ⟨v1,v2,ws,rfl,N2,hnd,hmem,hwl⟩;rw[aa]at hmem hwl;rw[cj]at hmem;refine⟨_,rfl,fl,ws,rfl,SqL.of N2.li,by omega,λz hz=>SqL.of (N2.st z hz).2.2,hnd,λp zs hp pm pw=>?_⟩;refine kk p zs _ (N2.sm.trans (zy hp)) (N2.sm.free hp) (λz hz=>?_) zq (ziD ?_ λy=>?_) (by have:=pm.length_eq;omega)
   ·obtain⟨h1,_,h2⟩:=N2.st z (pm.mem_iff.mp hz);exact⟨h1,zy hp _ _ h2⟩
   ·rw[LPw,dO];exact pw
   ·rw[(pm.map (·.2)).mem_iff];exact hmem y
def Qv:Sp:=λvs H Q _=>∃(bl sa:aq) (zs:ZB) (st:List Int),vs=[.ref bl,.ref sa]/\H bl=some (.lst (zs.map λz=>V.ref z.1))/\(∀z∈zs,H z.1=some (.lst (z.2.map V.int))/\z.2≠[]/\z.2.length<=1000)/\H sa=some (.lst (st.map V.int))/\zs.length<=100/\st.length<=1000/\∀H',Same H H'->Q (.bl (t8 (zs.map (·.2)) st)) H'
theorem zcd:zG ["stretches","stretch"] ["stretches","stretch"] (zp j6):={}
theorem zcu(D:Df K mg "is_needless" j6 Ba f fd)(wA:Df K mg "stands_within" vm Ay f1 fd1)(T:Blt mg):FnOk P w K mg base CX0 2 f fd Ba Qv:=by
 have WY:FnOk P w K mg base CX0 1 f1 fd1 Ay Ys:=VH wA T;refine D.fn.ok zcd (λvs H Q E h=>?_) (λcdv A outer s H vs Q E hr h=>?_)
 ·obtain⟨bl,sa,zs,st,rfl,_⟩:=h;rfl
 ·obtain⟨bl,sa,zs,st,rfl,hb,hz,hs,hl1,hl2,kk⟩:=h;have HU:=Vv hr;refine⟨_,(zm (zE (zH (zfa K rfl) (by rfl) T.n_any Cd (zc (wO (show CScope (zp j6) _ "other" ["stretches","stretch"] ["stretch"] [1] from {}) rfl (jh K (pv 0)) (λ_ _ _ _=>vU) (λ_ _ _ _=>(Ww (ul (Yk K HU) (pv 0) (pv 1) (zT _)) (Xr (zK wA WY (hr.mono (by decide)) (zc (pv 0) (zc (pv 1) zf))))))) zf)))),?_⟩;refine⟨_,rfl,bl,rfl,⟨_,SqL.of hb⟩,vZ (K:=K) (a:=bl) (xs:=zs.map λz=>V.ref z.1) (λi ys H4=>ys=((zs.take i).map λz=>decide (z.2≠st) && Zr z.2 st).map V.bl/\Same H H4) ⟨by simp,Same.refl _⟩ (λi ys H4 _ ⟨_,e⟩=>SqL.of (e _ _ hb)) ?_ ?_⟩
  ·rintro j x ys H4 hx ⟨rfl,s4⟩;rw[ak]at hx;obtain⟨z,hzj,e⟩:=aM.mp hx;subst e;have hzm:=aJ hzj;obtain⟨h1,h2,h3⟩:=hz z hzm;refine⟨?_,?_⟩
   ·rw[aa,aa,bM];exact bw (ao (kO _ _) hl1) (by decide)
   unfold Vp;dsimp only;rw[if_pos rfl];refine⟨_,rfl,_,rfl,xT z.2,xT st,TrAt.ints (SqL.of (s4 _ _ h1)),TrAt.ints (SqL.of (s4 _ _ hs)),(by rw[Yz];decide),_,rfl,?_⟩;have hlast:∀{b:Bool},(decide (z.2≠st) && Zr z.2 st)=b->((zs.take (j+1)).map λz=>decide (z.2≠st) && Zr z.2 st).map V.bl=((zs.take j).map λz=>decide (z.2≠st) && Zr z.2 st).map V.bl++[V.bl b]:=λ{b} hb=>by
    rw[cO,hzj,aF,aF,<-hb];rfl
   show if (!teq (xT z.2) (xT st))=true then _ else _;rw[j0];by_cases hq:z.2=st
   ·rw[decide_eq_true hq];exact wN ⟨(hlast (by simp[hq])).symm,s4⟩
   ·rw[decide_eq_false hq];refine qd ⟨_,rfl,_,rfl,z.1,sa,z.2,st,rfl,s4 _ _ h1,s4 _ _ hs,h2,h3,hl2,λH5 s5=>⟨(hlast (by simp[hq])).symm,s4.trans s5⟩⟩
  ·rintro ys H4 ⟨rfl,s4⟩ Dd hD;refine⟨Dd,_,rfl,SqL.of zq,?_⟩;have q:=kk _ (s4.trans (zy hD (o:=.lst (((zs.take (zs.map λz=>V.ref z.1).length).map λz=>decide (z.2≠st) && Zr z.2 st).map V.bl))));rw[aa,cj]at q ⊢;unfold t8 at q;rw[kE]at q ⊢;exact q
def W7(CNo CMa:aq):Sp:=λvs H Q E=>∃l rs,vs=[.ref l]/\RulesAt H l rs/\GoodRs rs/\(zbi (rs.map RL.con)=false->∀H',Same H H'->E (.ref CNo) none H') /\
 (zbi (rs.map RL.con)=true->4<(Xv (rs.map RL.con)).length->∀H',Same H H'->E (.ref CMa) none H') /\
 (zbi (rs.map RL.con)=true->(Xv (rs.map RL.con)).length<=4->∀r nl zs H',Same H H'->RuleAt H' r (zhs (rs.map RL.con)) nl zs->zs.map (·.2)=Xv (rs.map RL.con)->H r=none->H nl=none->(∀z∈zs,H z.1=none)->Q (.ref r) H')
theorem Vj:zG ["rules","base","stretches","needed"] ["rules"] (zp vG):={}
theorem zfO(D:Df K mg "one_rule" vG Ar f fd)(xY:Df K mg "check_rules" tD Aa f1 fd1)(wF:FnOk P w K mg base CX0 8 f1 fd1 Aa jx)(je:Df K mg "unlike_stretches" vB Ar f2 fd2)(X4:Df K mg "is_needless" j6 Ba f3 fd3)(wA:Df K mg "stands_within" vm Ay f4 fd4)(qAg:zjo K mg "NoRules" qA)(qAh:zjo K mg "TooMany" qB)(xV:mg "MOST_STRETCHES"= some (.int 4 t1))(T:Blt mg):FnOk P w K mg base (CX1 P w) 9 f fd Ar (W7 qA qB):=by
 have zai:FnOk P w K mg base CX0 1 f2 fd2 Ar Xu:=Q7 je T;have zd5:FnOk P w K mg base CX0 2 f3 fd3 Ba Qv:=zcu X4 wA T;refine D.fn.ok1 Vj (λvs H Q E h=>?_) (λcdv A outer s H vs Q E hr h=>?_)
 ·obtain⟨l,rs,rfl,_⟩:=h;rfl
 ·obtain⟨l,rs,rfl,R,g,kNo,kMa,kOk⟩:=h;have h3:=g.len;refine xu ?_;intro XX;let q1:Sq XX ((zj vG).drop 6):=⟨_,zm (zE (Zi (zc (pv 1) (zc (pv 3) zf))))⟩
  let q2:Sq XX ((zj vG).drop 5):=⟨_,zg (yx (zP zaj (zH (xG K) (by rfl) T.n_len PySem.boot_len (zc (pv 3) zf)) (Z0 (v:=.int 4) rfl xV ⟨_,rfl⟩) (zT _))
    (zm (zfv qAh zfh rfl (zc zeG zf)))
    zQ) q1.p⟩
  let q3:Sq XX ((zj vG).drop 4):=⟨_,zg (wL (i:=3) (show CScope (zp vG) _ "stretch" ["rules","base","stretches","needed"] ["stretches"] [2] from {}) rfl Vj.nd rfl (aW rfl) (jh K (pv 2)) (λ_ _ _ _=>(uq (wB (yX (zK X4 zd5 (hr.mono (by decide)) (zc (pv 1) (zc (pv 0) zf))))))) (λ_ _ _ _=>(pv 0))) q2.p⟩
  let q4:Sq XX ((zj vG).drop 3):=⟨_,zg (zU (i:=2) Vj.nd rfl (lE rfl) (zK je zai (hr.mono (by decide)) (zc (pv 0) zf))) q3.p⟩
  let q5:Sq XX ((zj vG).drop 2):=⟨_,zg (yx (yX (zH (zfa K rfl) (by rfl) T.n_any Cd (zc (wO (show CScope (zp vG) _ "rule" ["rules","base","stretches","needed"] ["base"] [1] from {}) rfl (jh K (pv 0)) (λ_ _ _ _=>vU) (λ_ _ _ _=>(ul Va (zX (yP K) (pv 0) zu (λ_ _=>rfl)) (pv 1) (zT _)))) zf)))
    (zm (zfv qAg zfh rfl (zc zeG zf)))
    zQ) q4.p⟩
  let q6:Sq XX ((zj vG).drop 1):=⟨_,zg (zU (i:=1) Vj.nd rfl (lE rfl) (zX (yP K) (zX (wJ K) (pv 0) zu (λ_ _=>rfl)) zu (λ_ _=>rfl))) q5.p⟩
  refine⟨_,(zg (yw (zK xY wF (hr.mono (by decide)) (zc (pv 0) zf))) q6.p),?_⟩;refine⟨_,rfl,l,rs,rfl,R,g,λH1 m1=>?_⟩;obtain⟨x0,xr,hrs⟩:∃x0 xr,rs=x0::xr:=by
   cases rs with
   |nil=>exact absurd rfl g.ne
   |cons a b=>exact⟨a,b,rfl⟩
  have hb0:zhs (rs.map RL.con)=x0.b:=by rw[hrs];rfl
  have hx0:x0∈rs:=by rw[hrs];exact .head _
  have R1:=R.same m1;refine⟨_,rfl,l,_,_,V.ref x0.r,rfl,rfl,SqL.of R1.li,?_,x0.r,_,_,V.int x0.b,rfl,rfl,SqT.of (R1.ru x0 hx0).tu,rfl,?_⟩
  ·exact vo (j:=0) (by rw[ak,hrs];rfl)
  refine⟨_,rfl,l,rfl,⟨_,SqL.of R1.li⟩,vZ (K:=K) (a:=l) (xs:=rs.map λx=>V.ref x.r) (λi ys H4=>ys=((rs.take i).map λx=>!decide (x.b=x0.b)).map V.bl/\H4=H1) ⟨by simp,rfl⟩ (λi ys H4 _ ⟨_,e⟩=>by rw[e];exact SqL.of R1.li) ?_ ?_⟩
  ·rintro j y ys H4 hx ⟨rfl,rfl⟩;rw[ak]at hx;obtain⟨x,hxj,e⟩:=aM.mp hx;subst e;have hxm:=aJ hxj;refine⟨?_,?_⟩
   ·rw[aa,aa,bM];exact bw (show min j rs.length<=3 by omega) (by decide)
   unfold Vp;dsimp only;rw[if_pos rfl];refine⟨_,rfl,x.r,_,_,V.int x.b,rfl,rfl,SqT.of (R1.ru x hxm).tu,rfl,_,rfl,rfl,?_,rfl⟩;rw[cO,hxj,aF,aF];have e:decide (V.int (x.b:Int)=V.int (x0.b:Int))=decide (x.b=x0.b):=decide_eq_decide.mpr ⟨λz=>by injection z with z;omega,λz=>by rw[z]⟩;rw[e];rfl
  ·rintro ys H4 ⟨rfl,rfl⟩ Dd hD;rw[aa,cj];refine⟨Dd,_,rfl,SqL.of zq,_,rfl,?_⟩;have m2:=m1.trans (zy hD (o:=.lst ((rs.map λx=>!decide (x.b=x0.b)).map V.bl)));have hany:((rs.map λx=>!decide (x.b=x0.b)).any id)=!zbi (rs.map RL.con):=by
    rw[bD,cI,cU];unfold zbi;rw[hb0,List.all_eq_false];constructor
    ·rintro⟨v,hv,q⟩;obtain⟨x,hx,rfl⟩:=bh.mp hv;refine⟨x.con,bh.mpr ⟨x,hx,rfl⟩,?_⟩;have q':(!decide (x.b=x0.b))=true:=q;show ¬ decide (x.b=x0.b)=true;intro z;rw[z]at q';cases q'
    ·rintro⟨c,hc,q⟩;obtain⟨x,hx,rfl⟩:=bh.mp hc;refine⟨_,bh.mpr ⟨x,hx,rfl⟩,?_⟩;have q':¬ decide (x.b=x0.b)=true:=q;show (!decide (x.b=x0.b))=true;cases z:decide (x.b=x0.b)
     ·rfl
     ·exact absurd z q'
   rw[hany];cases hsb:zbi (rs.map RL.con) with
   |false=>exact qd ⟨by decide,kNo hsb _ m2⟩
   |true=>
    refine wN ?_;refine⟨_,rfl,l,rs,rfl,R.same m2,g,λp zs H3 m3 hp hz hp3 hU hl12=>?_⟩;have gz:∀z∈zs,z.2≠[]/\z.2.length<=4:=λz hzm=>by
     have q:z.2∈uni (zaB (rs.map RL.con)):=by rw[<-hU];exact bh.mpr ⟨z,hzm,rfl⟩
     rw[YX]at q;obtain⟨c,hc,hq⟩:=CQ.mp q;obtain⟨x,hx,rfl⟩:=bh.mp hc;have gs:=(g.good x hx).st _ hq;exact⟨gs.ne,gs.len⟩
    refine⟨_,rfl,p,rfl,⟨_,SqL.of hp3⟩,vZ (K:=K) (a:=p) (xs:=zs.map λz=>V.ref z.1) (λi ys H4=>ys=((zs.take i).filter λz=>!t8 (zs.map (·.2)) z.2).map (λz=>V.ref z.1)/\Same H3 H4) ⟨by simp,Same.refl _⟩ (λi ys H4 _ ⟨_,e⟩=>SqL.of (e _ _ hp3)) ?_ ?_⟩
    ·rintro j y ys H4 hx ⟨rfl,m4⟩;rw[ak]at hx;obtain⟨z,hzj,e⟩:=aM.mp hx;subst e;have hzm:=aJ hzj;refine⟨?_,?_⟩
     ·rw[aa];exact bw (ao (bV _ _) (show (zs.take j).length<=12 by rw[bM];omega)) (by decide)
     refine⟨_,rfl,_,rfl,p,z.1,zs,z.2,rfl,m4 _ _ hp3,λz hzm=>⟨m4 _ _ (hz z hzm).2,(gz z hzm).1,ao (gz z hzm).2 (by decide)⟩,m4 _ _ (hz z hzm).2,by omega,ao (gz z hzm).2 (by decide),λH5 m5=>⟨_,rfl,?_⟩⟩;cases hn:t8 (zs.map (·.2)) z.2 with
     |true=>
      refine wN ⟨?_,m4.trans m5⟩;rw[cO,hzj,bT];simp[hn]
     |false=>
      refine qd ⟨_,rfl,?_,m4.trans m5⟩;rw[cO,hzj,bT];simp[hn]
    ·rintro ys H4 ⟨rfl,m4⟩ nl hnl;rw[aa,cj];generalize hws:(zs.filter λz=>!t8 (zs.map (·.2)) z.2)=ws;have hw2:ws.map (·.2)=Xv (rs.map RL.con):=by
      unfold Xv needed;rw[<-hU,<-hws,pM];rfl
     have hwl:ws.length=(Xv (rs.map RL.con)).length:=by rw[<-hw2,aa]
     have m14:=(m2.trans m3).trans m4;have m5:=zy hnl (o:=.lst (ws.map λz=>V.ref z.1));refine⟨_,rfl,nl,_,rfl,.inl (SqL.of zq),_,_,rfl,rfl,_,rfl,?_⟩;rw[aa,hwl];by_cases h4:4<(Xv (rs.map RL.con)).length
     ·rw[decide_eq_true (show (4:Int)<((Xv (rs.map RL.con)).length:Int) by omega)];exact qd ⟨by decide,kMa hsb h4 _ (m14.trans m5)⟩
     ·rw[decide_eq_false (show ¬ (4:Int)<((Xv (rs.map RL.con)).length:Int) by omega)];refine wN ⟨_,rfl,_,rfl,(by show 2<=aZ;decide),λtp htp=>?_⟩;have hwm:∀z∈ws,z∈zs:=λz hzm=>by rw[<-hws]at hzm;exact (bU.mp hzm).1
      have m6:=zy htp (o:=.tup [.int x0.b,.ref nl]);refine kOk hsb (by omega) tp nl ws _ ((m14.trans m5).trans m6) ⟨?_,m6 _ _ zq,λz hzm=>m6 _ _ (m5 _ _ (m4 _ _ (hz z (hwm z hzm)).2))⟩ hw2 ((m14.trans m5).free htp) (m14.free hnl) λz hzm=>m2.free (hz z (hwm z hzm)).1;rw[hb0,zq]
end
end Lw
namespace L2
open PySem PyProof.Rows
def dV(ps:List (Int×Int)):List (Key×V):=ps.map λp=>(.inl p.1,.int p.2)
section
variable {K:aN}
end
section
variable {P:cg} {w:cT} {H:Hp} {h:dR}
end
section
variable {H:Hp} {k n:Nat}
end
structure Ty where
 p:Hp->V->Prop
 mo:∀{G G':Hp} {v:V},Same G G'->p G v->p G' v
structure View where
 v:Hp->Hp
 ok:Hp->Prop
 out:∀{H:Hp} {a:aq} {o:HO},v H a=some o->H a=some o
 new:∀{H:Hp} {p:aq} (o:HO),ok H->H p=none->ok (upd H p o)/\Same (v H) (v (upd H p o))/\v (upd H p o) p=some o
abbrev Cxt:=List (Option Ty)
def Fits(Γ:Cxt)(G:Hp)(Z:St):Prop:=Z.length=Γ.length/\∀(i:Nat) (T:Ty),Γ[i]?=some (some T)->∃v:V,Z[i]?=some (some v)/\T.p G v
theorem Fits.same(f:Fits Γ G Z)(s:Same G G'):Fits Γ G' Z:=⟨f.1,λi T h=>let ⟨v,e,q⟩:=f.2 i T h;⟨v,e,T.mo s q⟩⟩
theorem Fits.set(f:Fits Γ G Z)(q:T.p G v):Fits (Γ.set i (some T)) G (Z.set i (some v)):=by
 refine⟨by rw[Ds,Ds,f.1],λj T' h=>?_⟩;rw[oh]at h ⊢;by_cases e:i=j
 ·rw[if_pos e]at h ⊢;by_cases l:i<Γ.length
  ·rw[if_pos l]at h;rw[if_pos (by rw[f.1];exact l)];cases h
   exact⟨v,rfl,q⟩
  ·rw[if_neg l]at h;cases h
 ·rw[if_neg e]at h ⊢;exact f.2 j T' h
theorem Fits.nil:Fits [] G []:=⟨rfl,λi T h=>by simp at h⟩
theorem Fits.cons(q:T.p G v)(f:Fits Γ G Z):Fits (some T::Γ) G (some v::Z):=by
 refine⟨by rw[bB,bB,f.1],λi T' h=>?_⟩;cases i with
 |zero=>cases h;exact⟨v,rfl,q⟩
 |succ i=>exact f.2 i T' h
def Tp(w:View)(Γ:Cxt)(te:TE)(T:Ty):Prop:=∀Z H Q,w.ok H->Fits Γ (w.v H) Z->(∀v H',w.ok H'->Same (w.v H) (w.v H')->T.p (w.v H') v->Q v H')->te Z H Q
def tyI(lo hi:Int):Ty:=⟨λ_ v=>∃i,v=.int i/\lo<=i/\i<=hi,λ_ h=>h⟩
def W3(v:V):Ty:=⟨λ_ u=>u=v,λ_ h=>h⟩
section
variable {w:View} {Γ:Cxt} {te ta tb:TE} {K:aN} {k n m k' n' m' lo hi lo' hi':Nat} {i j i' j':Int}
end
section
variable {w:View} {Γ Γ1 Γ2:Cxt} {te:TE} {t u:TS} {T T1:Ty}
end
def zl9:Ty:=⟨λ_ _=>False,λ_ h=>h⟩
theorem Fits.no(f:Fits [some zl9] G Z):False:=let ⟨_,_,h⟩:=f.2 0 zl9 rfl;h
mutual
def At(G:Hp):Tr->V->Prop
 |.non,v=>v=.non
 |.bl b,v=>v=.bl b
 |.int i,v=>v=.int i
 |.str x,v=>v=.str x
 |.lst ts,v=>∃a xs,v=.ref a/\G a=some (.lst xs)/\Ats G ts xs
 |.tup ts,v=>∃a xs,v=.ref a/\G a=some (.tup xs)/\Ats G ts xs
def Ats(G:Hp):List Tr->List V->Prop
 |[],xs=>xs=[]
 |t::ts,xs=>∃y ys,xs=y::ys/\At G t y/\Ats G ts ys
end
mutual
theorem At.same{G H:Hp}(m:Same G H):∀{t:Tr} {v:V},At G t v->At H t v
 |.non,v,h=>by rw[At]at h ⊢;exact h
 |.bl b,v,h=>by rw[At]at h ⊢;exact h
 |.int i,v,h=>by rw[At]at h ⊢;exact h
 |.str x,v,h=>by rw[At]at h ⊢;exact h
 |.lst ts,v,h=>by
  rw[At]at h ⊢;obtain⟨a,xs,h1,h2,h3⟩:=h;exact⟨a,xs,h1,m _ _ h2,Ats.same m h3⟩
 |.tup ts,v,h=>by
  rw[At]at h ⊢;obtain⟨a,xs,h1,h2,h3⟩:=h;exact⟨a,xs,h1,m _ _ h2,Ats.same m h3⟩
theorem Ats.same{G H:Hp}(m:Same G H):∀{ts:List Tr} {xs:List V},Ats G ts xs->Ats H ts xs
 |[],xs,h=>by rw[Ats]at h ⊢;exact h
 |t::ts,xs,h=>by
  rw[Ats]at h ⊢;obtain⟨y,ys,h1,h2,h3⟩:=h;exact⟨y,ys,h1,At.same m h2,Ats.same m h3⟩
end
mutual
theorem At.tr{K:aN}{H:Hp}:∀{t:Tr} {v:V},At H t v->TrAt K H t v
 |.non,v,h=>by rw[At]at h;rw[TrAt];exact h
 |.bl b,v,h=>by rw[At]at h;rw[TrAt];exact h
 |.int i,v,h=>by rw[At]at h;rw[TrAt];exact h
 |.str x,v,h=>by rw[At]at h;rw[TrAt];exact h
 |.lst ts,v,h=>by
  rw[At]at h;rw[TrAt];obtain⟨a,xs,h1,h2,h3⟩:=h;exact⟨a,xs,h1,SqL.of h2,Ats.tr h3⟩
 |.tup ts,v,h=>by
  rw[At]at h;rw[TrAt];obtain⟨a,xs,h1,h2,h3⟩:=h;exact⟨a,xs,h1,SqT.of h2,Ats.tr h3⟩
theorem Ats.tr{K:aN}{H:Hp}:∀{ts:List Tr} {xs:List V},Ats H ts xs->TrsAt K H ts xs
 |[],xs,h=>by rw[Ats]at h;rw[TrsAt];exact h
 |t::ts,xs,h=>by
  rw[Ats]at h;rw[TrsAt];obtain⟨y,ys,h1,h2,h3⟩:=h;exact⟨y,ys,h1,At.tr h2,Ats.tr h3⟩
end
theorem Ats.len{G:Hp}:∀{ts:List Tr} {xs:List V},Ats G ts xs->xs.length=ts.length
 |[],xs,h=>by rw[Ats]at h;rw[h];rfl
 |t::ts,xs,h=>by
  rw[Ats]at h;obtain⟨y,ys,rfl,_,h3⟩:=h;rw[bB,bB,Ats.len h3]
theorem Ats.get{G:Hp}:∀{ts:List Tr} {xs:List V} {k:Nat} {v:V},Ats G ts xs->xs[k]?=some v->∃t,ts[k]?=some t/\At G t v
 |[],xs,k,v,h,e=>by rw[Ats]at h;rw[h]at e;simp at e
 |t::ts,xs,k,v,h,e=>by
  rw[Ats]at h;obtain⟨y,ys,rfl,h2,h3⟩:=h;cases k with
  |zero=>exact⟨t,rfl,by cases e;exact h2⟩
  |succ k=>exact Ats.get (ts:=ts) (k:=k) h3 (by simpa using e)
theorem Ats.app{G:Hp}:∀{ts us:List Tr} {xs ys:List V},Ats G ts xs->Ats G us ys->Ats G (ts++us) (xs++ys)
 |[],us,xs,ys,h,q=>by rw[Ats]at h;rw[h];exact q
 |t::ts,us,xs,ys,h,q=>by
  rw[Ats]at h;obtain⟨y,zs,rfl,h2,h3⟩:=h;rw[gR,gR,Ats];exact⟨y,zs++ys,rfl,h2,Ats.app h3 q⟩
theorem Ats.drop{G:Hp}:∀{ts:List Tr} {xs:List V} (n:Nat),Ats G ts xs->Ats G (ts.drop n) (xs.drop n)
 |_,_,0,h=>h
 |[],xs,n+1,h=>by rw[Ats]at h;rw[h,sI,sI,Ats]
 |t::ts,xs,n+1,h=>by
  rw[Ats]at h;obtain⟨y,zs,rfl,_,h3⟩:=h;exact Ats.drop n h3
theorem Ats.take{G:Hp}:∀{ts:List Tr} {xs:List V} (n:Nat),Ats G ts xs->Ats G (ts.take n) (xs.take n)
 |_,_,0,h=>by rw[rG,rG,Ats]
 |[],xs,n+1,h=>by rw[Ats]at h;rw[h,sJ,sJ,Ats]
 |t::ts,xs,n+1,h=>by
  rw[Ats]at h;obtain⟨y,zs,rfl,h2,h3⟩:=h;rw[rY,rY,Ats];exact⟨y,_,rfl,h2,Ats.take n h3⟩
theorem Ats.ints{G:Hp}:∀{ns:List Int} {xs:List V},Ats G (ns.map Tr.int) xs↔xs=ns.map V.int
 |[],xs=>by rw[dh,Ats];exact Iff.rfl
 |n::ns,xs=>by
  rw[bz,Ats];constructor
  ·rintro⟨y,ys,rfl,h2,h3⟩;rw[At]at h2;rw[h2,Ats.ints.mp h3];rfl
  ·rintro rfl;exact⟨_,_,rfl,by rw[At],Ats.ints.mpr rfl⟩
class Enc (α:Type) where
 en:α->Tr
open Enc
class EncQ (α:Type) [DecidableEq α] extends Enc α where
 d:Nat
 te:∀a b:α,teq (en a) (en b)=decide (a=b)
 dp:∀a:α,ZQ (en a)<=d
class EncN (α:Type) [DecidableEq α] extends EncQ α where
 nl:∀a:α,teq .non (en a)=false
 nr:∀a:α,teq (en a) .non=false
section
variable {α β:Type}
theorem zcS{f:α->Tr}{d:Nat}(h:∀a,ZQ (f a)<=d):∀l:List α,qg (l.map f)<=d
 |[]=>by rw[dh,qg];exact bK _
 |a::l=>by rw[bz,qg];exact Nat.max_le.mpr ⟨h a,zcS h l⟩
instance:EncN Int where
 en:=Tr.int
 d:=0
 te:=zhk
 dp:=λa=>by rw[ZQ]<;>simp
 nl:=λa=>by simp[teq]
 nr:=λa=>by simp[teq]
instance:EncN Bool where
 en:=Tr.bl
 d:=0
 te:=λa b=>by rw[teq,Bool.beq_eq_decide_eq]
 dp:=λa=>by rw[ZQ]<;>simp
 nl:=λa=>by simp[teq]
 nr:=λa=>by simp[teq]
instance:EncN cG where
 en:=Tr.str
 d:=0
 te:=λa b=>by rw[teq];exact bD.mpr (by simp)
 dp:=λa=>by rw[ZQ]<;>simp
 nl:=λa=>by simp[teq]
 nr:=λa=>by simp[teq]
instance eL [Enc α]:Enc (List α):=⟨λl=>.lst (l.map en)⟩
instance eP [Enc α] [Enc β]:Enc (α×β):=⟨λp=>.tup [en p.1,en p.2]⟩
def enO[Enc α]:Option α->Tr
 |none=>.non
 |some a=>en a
instance eO [Enc α]:Enc (Option α):=⟨enO⟩
instance [DecidableEq α] [EncQ α]:EncN (List α) where
 toEnc:=eL
 d:=EncQ.d α+1
 te:=λa b=>by
  show teq (.lst _) (.lst _)=_;rw[teq];exact zcz EncQ.te a b
 dp:=λa=>by
  show ZQ (.lst _)<=_;rw[ZQ];exact fZ (zcS EncQ.dp a)
 nl:=λa=>by show teq .non (.lst _)=_;simp[teq]
 nr:=λa=>by show teq (.lst _) .non=_;simp[teq]
instance [DecidableEq α] [DecidableEq β] [EncQ α] [EncQ β]:EncN (α×β) where
 toEnc:=eP
 d:=max (EncQ.d α) (EncQ.d β)+1
 te:=λa b=>by
  show teq (.tup _) (.tup _)=_;rw[teq,Xl,Xl,Xl,EncQ.te,EncQ.te,bD];obtain⟨a1,a2⟩:=a;obtain⟨b1,b2⟩:=b;simp
 dp:=λa=>by
  show ZQ (.tup _)<=_;rw[ZQ,qg,qg,qg];have h1:=EncQ.dp a.1;have h2:=EncQ.dp a.2;omega
 nl:=λa=>by show teq .non (.tup _)=_;simp[teq]
 nr:=λa=>by show teq (.tup _) .non=_;simp[teq]
instance [DecidableEq α] [EncN α]:EncQ (Option α) where
 toEnc:=eO
 d:=EncQ.d α
 te:=λa b=>by
  show teq (enO a) (enO b)=_;cases a<;>cases b<;>simp only[enO]
  ·rw[teq];simp
  ·rw[EncN.nl];simp
  ·rw[EncN.nr];simp
  ·rw[EncQ.te];simp
 dp:=λa=>by
  show ZQ (enO a)<=_;cases a with
  |none=>rw[enO,ZQ]<;>simp
  |some a=>exact EncQ.dp a
end
def Is[Enc α](a:α):Ty:=⟨λG v=>At G (en a) v,λs h=>h.same s⟩
def tyE{ι:Type}(p:ι->Prop)(T:ι->Ty):Ty:=⟨λG v=>∃m,p m/\(T m).p G v,λs ⟨m,h,q⟩=>⟨m,h,(T m).mo s q⟩⟩
theorem zW:(Is i).p G v↔v=.int i:=by show At G (.int i) v↔_;rw[At]
theorem jB:(Is i).p G v↔v=.bl i:=by show At G (.bl i) v↔_;rw[At]
theorem zlc:(Is i).p G v↔v=.str i:=by show At G (.str i) v↔_;rw[At]
theorem Vl[Enc α]:(Is (none:Option α)).p G v↔v=.non:=by show At G .non v↔_;rw[At]
theorem tQ[Enc α]{l:List α}:(Is l).p G v↔∃a xs,v=.ref a/\G a=some (.lst xs)/\Ats G (l.map en) xs:=by show At G (.lst _) v↔_;rw[At]
theorem is_tup[Enc α][Enc β]{a:α}{b:β}:(Is (a,b)).p G v↔∃p x y,v=.ref p/\G p=some (.tup [x,y])/\(Is a).p G x/\(Is b).p G y:=by
 show At G (.tup _) v↔_;rw[At];constructor
 ·rintro⟨p,xs,h1,h2,h3⟩;rw[Ats]at h3;obtain⟨x,ys,rfl,hx,h3⟩:=h3;rw[Ats]at h3;obtain⟨y,ys,rfl,hy,h3⟩:=h3;rw[Ats]at h3;subst h3;exact⟨p,x,y,h1,h2,hx,hy⟩
 ·rintro⟨p,x,y,h1,h2,hx,hy⟩;refine⟨p,_,h1,h2,?_⟩;rw[Ats];refine⟨x,_,rfl,hx,?_⟩;rw[Ats];exact⟨y,_,rfl,hy,by rw[Ats]⟩
structure Wd where
 ok:Hp->Prop
 may:aq->Prop
 mo:∀{H H':Hp},ok H->Same H H'->ok H'
 nm:∀{H:Hp} {a:aq},ok H->may a->H a≠none
structure Vw (Vb:Wd) (G H:Hp):Prop where
 sub:Same G H
 ok:Vb.ok H
 no:∀a,Vb.may a->G a=none
structure Gr (Vb:Wd) (G H G' H':Hp):Prop where
 v:Vw Vb G' H'
 sm:Same G G'
 hid:∀a o,¬ Vb.may a->H a=some o->G a=none->H' a=some o/\G' a=none
section
variable {Vb:Wd} {G H G1 H1 G2 H2:Hp}
theorem Gr.refl(s:Vw Vb G H):Gr Vb G H G H:=⟨s,Same.refl _,λ_ _ _ h1 h2=>⟨h1,h2⟩⟩
theorem Gr.trans(a:Gr Vb G H G1 H1)(b:Gr Vb G1 H1 G2 H2):Gr Vb G H G2 H2:=⟨b.v,a.sm.trans b.sm,λc o n h1 h2=>let ⟨q1,q2⟩:=a.hid c o n h1 h2;b.hid c o n q1 q2⟩
theorem Gr.big(a:Gr Vb G H G1 H1)(s:Same G H)(n:¬ Vb.may c)(h:H c=some o):H1 c=some o:=by
 cases q:G c with
 |none=>exact (a.hid c o n h q).1
 |some u=>
  have e:=s _ _ q;rw[h]at e;cases e
  exact a.v.sub _ _ (a.sm _ _ q)
theorem Gr.new(s:Vw Vb G H)(hp:H p=none):Gr Vb G H (upd G p o) (upd H p o)/\Same G (upd G p o):=by
 have gp:G p=none:=s.sub.free hp;have m:Same G (upd G p o):=λb u q=>by rw[zA (zF q gp)];exact q
 have mh:Same H (upd H p o):=λb u q=>by rw[zA (zF q hp)];exact q
 refine⟨⟨⟨λb u q=>?_,Vb.mo s.ok mh,λa ha=>?_⟩,m,λb u _ h1 h2=>?_⟩,m⟩
 ·by_cases e:b=p
  ·subst e;rw[zq]at q ⊢;exact q
  ·rw[zA e]at q ⊢;exact s.sub _ _ q
 ·rw[zA (λe=>Vb.nm s.ok ha (by rw[e];exact hp))];exact s.no a ha
 ·rw[zA (zF h1 hp),zA (zF h1 hp)];exact⟨h1,h2⟩
theorem Gr.of(s:Vw Vb G H)(m:Same H H1):Gr Vb G H G H1:=⟨⟨s.sub.trans m,Vb.mo s.ok m,s.no⟩,Same.refl _,λ_ _ _ h1 h2=>⟨m _ _ h1,h2⟩⟩
end
abbrev Tis(Ts:List Ty)(G:Hp)(vs:List V):Prop:=Paired (λ(T:Ty) v=>T.p G v) Ts vs
def Tg(Vb:Wd)(Γ:Cxt)(te:TE)(T:Ty):Prop:=∀Z G H Q,Vw Vb G H->Fits Γ G Z->(∀v G' H',Gr Vb G H G' H'->T.p G' v->Q v H')->te Z H Q
def Tt(Vb:Wd)(Γ:Cxt)(tt:TT)(b:Bool):Prop:=∀Z G H Q,Vw Vb G H->Fits Γ G Z->(∀G' H',Gr Vb G H G' H'->Q b H')->tt Z H Q
def Ta(Vb:Wd)(Γ:Cxt)(ta:TA)(Ts:List Ty):Prop:=∀Z G H Q,Vw Vb G H->Fits Γ G Z->(∀vs G' H',Gr Vb G H G' H'->Tis Ts G' vs->Q vs H')->ta Z H Q
def To(Vb:Wd)(Γ:Cxt)(to:TO)(o:Option Int):Prop:=∀Z G H Q,Vw Vb G H->Fits Γ G Z->(∀G' H',Gr Vb G H G' H'->Q o H')->to Z H Q
def Ob(Vb:Wd)(r:R2)(S T U:Ty):Prop:=∀x y G H Q,Vw Vb G H->S.p G x->T.p G y->(∀v G' H',Gr Vb G H G' H'->U.p G' v->Q v H')->r x y H Q
def Cb(Vb:Wd)(r:List V->Hp->VK->Prop)(Ts:List Ty)(T:Ty):Prop:=∀vs G H Q,Vw Vb G H->Tis Ts G vs->(∀v G' H',Gr Vb G H G' H'->T.p G' v->Q v H')->r vs H Q
def Spg(Vb:Wd)(sp:Sp)(Ts:List Ty)(T:Ty):Prop:=∀vs G H Q E,Vw Vb G H->Tis Ts G vs->(∀v G' H',Gr Vb G H G' H'->T.p G' v->Q v H')->sp vs H Q E
def Yl[Enc α](J:It)(L:List α)(G:Hp):Prop:=∀G' H',Same G G'->Same G' H'->∀i,(L.length<=i->J.stop i H')/\∀h:i<L.length,J.go i H'/\∀x Hn,J.yld i H' x Hn->Hn=H'/\(Is L[i]).p G' x
def Ti(Vb:Wd){α:Type}[Enc α](Γ:Cxt)(wi:TI)(L:List α):Prop:=∀Z G H R,Vw Vb G H->Fits Γ G Z->(∀J G' H',Gr Vb G H G' H'->Yl J L G'->R J H')->wi Z H R
def Sg(Vb:Wd)(J:Nat->Prop)(Γ:Cxt)(ts:TS)(N:Cxt->Prop)(R:Ty):Prop:=∀D Z G H,Vw Vb G H->Fits Γ G Z->(∀Γ' σ' G' H',N Γ'->Gr Vb G H G' H'->Fits Γ' G' σ'->(∀i,¬ J i->σ'[i]?=Z[i]?)->D.nx σ' H')->(∀v G' H',Gr Vb G H G' H'->R.p G' v->D.rt v H')->ts D Z H
section
variable {Vb:Wd} {Γ:Cxt} {te ta tb tc:TE} {t u:TS} {tt tu:TT} {S T U R:Ty} {N:Cxt->Prop} {i j:Int} {α β:Type} {K:aN}
theorem Tg.var(h:Γ[x]?=some (some T)):Tg Vb Γ (zby x) T:=λZ G H Q s f q=>let ⟨v,e,z⟩:=f.2 x T h;⟨v,e,q v G H (.refl s) z⟩
theorem Tg.c(h:∀G,T.p G v):Tg Vb Γ (tC v) T:=λZ G H Q s f q=>q v G H (.refl s) (h G)
theorem Tg.int:Tg Vb Γ (tC (.int i)) (Is i):=.c λ_=>zW.mpr rfl
theorem Tg.bl:Tg Vb Γ (tC (.bl b)) (Is b):=.c λ_=>jB.mpr rfl
theorem Tg.str:Tg Vb Γ (tC (.str b)) (Is b):=.c λ_=>zlc.mpr rfl
theorem Tg.non[Enc α]:Tg Vb Γ (tC .non) (Is (none:Option α)):=.c λ_=>Vl.mpr rfl
theorem Tg.sub(h:Tg Vb Γ te T)(s:∀G v,T.p G v->U.p G v):Tg Vb Γ te U:=λZ G H Q e f q=>h Z G H Q e f λv G' H' g z=>q v G' H' g (s _ _ z)
theorem Tg.eq[Enc α][Enc β]{a:α}{b:β}(h:Tg Vb Γ te (Is a))(e:en a=en b):Tg Vb Γ te (Is b):=h.sub λG v z=>by
 show At G (en b) v;rw[<-e];exact z
theorem Tg.op(ha:Tg Vb Γ ta S)(hb:Tg Vb Γ tb T)(h:Ob Vb r S T U):Tg Vb Γ (tOp r ta tb) U:=λZ G H Q s f q=>ha Z G H _ s f λx G1 H1 g1 z1=>hb Z G1 H1 _ g1.v (f.same g1.sm) λy G2 H2 g2 z2=>h x y G2 H2 Q g2.v (S.mo g2.sm z1) z2 λv G3 H3 g3 z3=>q v G3 H3 (g1.trans (g2.trans g3)) z3
theorem Ob.i0(h:∀G,U.p G (g i j)):Ob Vb (rI0 g) (Is i) (Is j) U:=λx y G H Q s hx hy q=>⟨i,j,zW.mp hx,zW.mp hy,q _ G H (.refl s) (h G)⟩
theorem Ob.iC(c:C i j)(h:∀G,U.p G (g i j)):Ob Vb (rI C g) (Is i) (Is j) U:=λx y G H Q s hx hy q=>⟨i,j,zW.mp hx,zW.mp hy,c,q _ G H (.refl s) (h G)⟩
theorem Yc:Ob Vb (rI0 λi j=>.int (i+j)) (Is i) (Is j) (Is (i+j)):=.i0 λ_=>zW.mpr rfl
theorem zi6:Ob Vb (rI0 λi j=>.int (i-j)) (Is i) (Is j) (Is (i-j)):=.i0 λ_=>zW.mpr rfl
theorem JF(c:C i j):Ob Vb (rI C λi j=>.int (i*j)) (Is i) (Is j) (Is (i*j)):=.iC c λ_=>zW.mpr rfl
theorem ziA(c:C i j):Ob Vb (rI C λi j=>.int (i / j)) (Is i) (Is j) (Is (i / j)):=.iC c λ_=>zW.mpr rfl
theorem Vm(c:C i j):Ob Vb (rI C λi j=>.int (i % j)) (Is i) (Is j) (Is (i % j)):=.iC c λ_=>zW.mpr rfl
theorem zcA{p:Int->Int->Bool}:Ob Vb (rI0 λi j=>.bl (p i j)) (Is i) (Is j) (Is (p i j)):=.i0 λ_=>jB.mpr rfl
theorem zgI:Ob Vb rEq (Is i) (Is j) (Is (decide (i=j))):=λx y G H Q s hx hy q=>by
 rw[zW.mp hx,zW.mp hy];refine⟨rfl,q _ G H (.refl s) (jB.mpr ?_)⟩;simp
theorem UW:Ob Vb rNe (Is i) (Is j) (Is (!decide (i=j))):=λx y G H Q s hx hy q=>by
 rw[zW.mp hx,zW.mp hy];refine⟨rfl,q _ G H (.refl s) (jB.mpr ?_)⟩;simp
theorem ziw{neg:Bool}[DecidableEq α][EncQ α]{a b:α}(h:EncQ.d α<=8:=by decide):Ob Vb (zgu K neg) (Is a) (Is b) (Is (if neg then !decide (a=b) else decide (a=b))):=λx y G H Q s hx hy q=>⟨_,_,(At.same s.sub hx).tr,(At.same s.sub hy).tr,ao (EncQ.dp a) h,q _ G H (.refl s) (jB.mpr (by rw[EncQ.te]))⟩
theorem zkB{neg:Bool}[DecidableEq α][EncQ α]{a:α}{l:List α}(h:EncQ.d α<=8:=by decide):Ob Vb (zge K neg) (Is a) (Is l) (Is (if neg then !decide (a∈l) else decide (a∈l))):=λx y G H Q s hx hy q=>by
 obtain⟨p,xs,rfl,h1,h2⟩:=tQ.mp hy;refine⟨p,xs,_,_,rfl,SqL.of (s.sub _ _ h1),(h2.same s.sub).tr,(At.same s.sub hx).tr,ao (zcS EncQ.dp l) h,q _ G H (.refl s) (jB.mpr ?_)⟩;have e:((l.map en).any λt=>teq t (en a))=decide (a∈l):=by
  rw[bD,kE,cI,decide_eq_true_iff];constructor
  ·rintro⟨b,hb,e⟩;have e:teq (en b) (en a)=true:=e;rw[EncQ.te]at e;rwa[<-of_decide_eq_true e]
  ·intro hm;exact⟨a,hm,zb6 _⟩
 rw[e]
theorem za4[Enc α]{a b:List α}(h:a.length+b.length<=100000):Ob Vb zl1 (Is a) (Is b) (Is (a++b)):=λx y G H Q s hx hy q=>by
 obtain⟨p,xs,rfl,h1,h2⟩:=tQ.mp hx;obtain⟨r,ys,rfl,h3,h4⟩:=tQ.mp hy;have l1:=h2.len;have l2:=h4.len;rw[aa]at l1 l2;refine⟨p,r,xs,ys,rfl,rfl,s.sub _ _ h1,s.sub _ _ h3,ao (by omega:_<=100000) (by decide),λz hz=>?_⟩;obtain⟨g,m⟩:=Gr.new (o:=.lst (xs++ys)) s hz;exact q _ _ _ g (tQ.mpr ⟨z,_,rfl,zq,by rw[aF];exact (h2.app h4).same m⟩)
theorem zi1{v:V}(h:ixN l.length i=some k)(e:l[k]?=some v):atI l i=some v:=by unfold atI;rw[h];exact e
theorem zjI[Enc α]{l:List α}{k:Nat}{a:α}(h:ixN l.length i=some k)(e:l[k]?=some a):Ob Vb (ziO K) (Is l) (Is i) (Is a):=λx y G H Q s hx hy q=>by
 obtain⟨p,xs,rfl,h1,h2⟩:=tQ.mp hx;have l1:=h2.len;rw[aa]at l1;have hk:k<xs.length:=by rw[l1];exact (aO.mp e).1
 have ek:=aj hk;obtain⟨t,e2,z⟩:=h2.get ek;rw[ak,e]at e2;cases e2
 exact⟨p,xs,i,xs[k],rfl,zW.mp hy,SqL.of (s.sub _ _ h1),zi1 (by rw[l1];exact h) ek,q _ G H (.refl s) z⟩
theorem zjj[Enc α]{l:List α}{a:α}(e:l.getLast?=some a):Ob Vb (ziO K) (Is l) (Is (-1:Int)) (Is a):=by
 have hl:l≠[]:=λz=>by rw[z]at e;cases e
 have h1:=cF.mpr hl;refine zjI (k:=l.length-1) ?_ (by rw[<-nU];exact e);unfold ixN;rw[if_neg (by decide),if_pos (by omega)];congr 1;omega
theorem WX[Enc α][Enc β]{a:α}{b:β}:Ob Vb (zjT K) (Is (a,b)) (Is (0:Int)) (Is a):=λx y G H Q s hx hy q=>by
 obtain⟨p,x,y,rfl,h1,h2,h3⟩:=is_tup.mp hx;exact⟨p,_,_,x,rfl,zW.mp hy,SqT.of (s.sub _ _ h1),rfl,q _ G H (.refl s) h2⟩
theorem Qz[Enc α][Enc β]{a:α}{b:β}:Ob Vb (zjT K) (Is (a,b)) (Is (1:Int)) (Is b):=λx y G H Q s hx hy q=>by
 obtain⟨p,x,y,rfl,h1,h2,h3⟩:=is_tup.mp hx;exact⟨p,_,_,y,rfl,zW.mp hy,SqT.of (s.sub _ _ h1),rfl,q _ G H (.refl s) h3⟩
theorem Tg.neg(ha:Tg Vb Γ ta (Is i)):Tg Vb Γ (tUn (rU λi=>.int (-i)) ta) (Is (-i)):=λZ G H Q s f q=>ha Z G H _ s f λx G1 H1 g1 z=>⟨i,zW.mp z,q _ _ _ g1 (zW.mpr rfl)⟩
theorem Ta.nil:Ta Vb Γ Qh []:=λZ G H Q s f q=>q [] G H (.refl s) .nil
theorem Ta.cons(h:Tg Vb Γ te T)(hr:Ta Vb Γ tr Ts):Ta Vb Γ (ZW te tr) (T::Ts):=λZ G H Q s f q=>h Z G H _ s f λv G1 H1 g1 z1=>hr Z G1 H1 _ g1.v (f.same g1.sm) λvs G2 H2 g2 z2=>q (v::vs) G2 H2 (g1.trans g2) (.cons (T.mo g2.sm z1) z2)
theorem Tis.ats[Enc α]{G:Hp}:∀{l:List α} {vs:List V},Tis (l.map Is) G vs->Ats G (l.map en) vs
 |[],_,.nil=>by rw[dh,Ats]
 |a::l,_,.cons h t=>by rw[bz,Ats];exact⟨_,_,rfl,h,Tis.ats t⟩
theorem Tis.len(h:Tis Ts G vs):Ts.length=vs.length:=Paired.length h
theorem Tg.lst[Enc α](l:List α)(h:Ta Vb Γ tr (l.map Is))(hl:l.length<=100000:=by first | decide | simp):Tg Vb Γ (zhC tr) (Is l):=λZ G H Q s f q=>h Z G H _ s f λvs G1 H1 g1 z=>by
 have e:=z.len;rw[aa]at e;refine⟨ao (e▸hl) (by decide),λp hp=>?_⟩;obtain⟨g,m⟩:=Gr.new (o:=.lst vs) g1.v hp;exact q _ _ _ (g1.trans g) (tQ.mpr ⟨p,_,rfl,zq,z.ats.same m⟩)
end
end L2
namespace L2
open PySem PyProof.Rows Enc
section
variable {Vb:Wd} {Γ:Cxt} {te ta tb tc:TE} {t u:TS} {tt tu:TT} {S T U R:Ty} {N:Cxt->Prop} {i j:Int} {α β:Type} {K:aN}
theorem Tg.tup[Enc α][Enc β]{a:α}{b:β}(ha:Tg Vb Γ ta (Is a))(hb:Tg Vb Γ tb (Is b)):Tg Vb Γ (zmc (ZW ta (ZW tb Qh))) (Is (a,b)):=λZ G H Q s f q=>ha Z G H _ s f λv G1 H1 g1 z1=>hb Z G1 H1 _ g1.v (f.same g1.sm) λw G2 H2 g2 z2=>⟨by show 2<=aZ;decide,λp hp=>by
 obtain⟨g,m⟩:=Gr.new (o:=.tup [v,w]) g2.v hp;exact q _ _ _ (g1.trans (g2.trans g)) (is_tup.mpr ⟨p,v,w,rfl,zq,(Is a).mo (g2.sm.trans m) z1,(Is b).mo m z2⟩)⟩
def zdv(l:List α)(lo hi:Option Int):List α:=(l.drop (HT.sIx l.length 0 lo)).take (HT.sIx l.length l.length hi-HT.sIx l.length 0 lo)
theorem zhY(l:List α)(n:Nat):zdv l (some (n:Int)) none=l.drop n:=by
 unfold zdv;rw[HT.Vc,HT.Qq];by_cases h:n<=l.length
 ·rw[dH h,bQ (by rw[cA];omega)]
 ·rw[fK (by omega),cN (au _),cN (by omega)];simp
theorem zjY(l:List α)(n:Nat):zdv l none (some (n:Int))=l.take n:=by
 unfold zdv;rw[HT.Vc,HT.Qq,gZ,iD];by_cases h:n<=l.length
 ·rw[dH h]
 ·rw[fK (by omega),bQ (au _),bQ (by omega)]
theorem zfH(l:List α)(n m:Nat):zdv l (some (n:Int)) (some ((n:Int)+(m:Int)))=(l.drop n).take m:=by
 unfold zdv;rw[show (n:Int)+(m:Int)=((n+m:Nat):Int) by omega,HT.Vc,HT.Vc];by_cases h:n<=l.length
 ·rw[dH h];by_cases h2:n+m<=l.length
  ·rw[dH h2,gU]
  ·rw[fK (by omega),bQ (by rw[cA];omega),bQ (by rw[cA];omega)]
 ·rw[show min n l.length=l.length by omega,CP,cN (by omega:l.length<=n)];simp
theorem zhX(l:List α):zdv l none (some (-1))=l.dropLast:=by
 unfold zdv;have e:HT.sIx l.length l.length (some (-1))=l.length-1:=by
  show (if (-1:Int)<0 then ((-1:Int)+(l.length:Int)).toNat else min (-1:Int).toNat l.length)=_;rw[if_pos (by decide)];omega
 rw[e,HT.Qq,gZ,iD,List.dropLast_eq_take]
theorem To.none:To Vb Γ zg0 none:=λZ G H Q s f q=>q G H (.refl s)
theorem To.some(h:Tg Vb Γ te (Is i)):To Vb Γ (zkE te) (some i):=λZ G H Q s f q=>h Z G H _ s f λv G1 H1 g1 z=>⟨i,zW.mp z,q _ _ g1⟩
theorem Tg.sl[Enc α]{l r:List α}{tl th:TO}{lo hi:Option Int}(h:Tg Vb Γ te (Is l))(hl:To Vb Γ tl lo)(hh:To Vb Γ th hi)(e:zdv l lo hi=r):Tg Vb Γ (tSl (zlE K) te tl th) (Is r):=λZ G H Q s f q=>h Z G H _ s f λx G1 H1 g1 z1=>hl Z G1 H1 _ g1.v (f.same g1.sm) λG2 H2 g2=>hh Z G2 H2 _ g2.v ((f.same g1.sm).same g2.sm) λG3 H3 g3=>by
 obtain⟨p,xs,rfl,h1,h2⟩:=tQ.mp ((Is l).mo (g2.sm.trans g3.sm) z1);refine⟨p,xs,rfl,SqL.of (g3.v.sub _ _ h1),λc hc=>?_⟩;obtain⟨g,m⟩:=Gr.new (o:=.lst (UG xs lo hi)) g3.v hc;refine q _ _ _ (g1.trans (g2.trans (g3.trans g))) (tQ.mpr ⟨c,_,rfl,zq,?_⟩);have l1:=h2.len;rw[aa]at l1;have zz:=((h2.drop (HT.sIx xs.length 0 lo)).take (HT.sIx xs.length xs.length hi-HT.sIx xs.length 0 lo)).same m;rw[<-e];unfold zdv;rw[lu,oK,<-l1];exact zz
theorem Tt.val(h:Tg Vb Γ te (Is b)):Tt Vb Γ (zg4 te) b:=λZ G H Q s f q=>h Z G H _ s f λv G1 H1 g1 z=>⟨b,jB.mp z,q _ _ g1⟩
theorem Tt.valB(h:Tg Vb Γ te (Is b)):Tt Vb Γ (tB te) b:=λZ G H Q s f q=>h Z G H _ s f λv G1 H1 g1 z=>⟨b,jB.mp z,q _ _ g1⟩
theorem Tt.and(ha:Tt Vb Γ tt p)(hb:p=true->Tt Vb Γ tu r):Tt Vb Γ (zme tt tu) (p && r):=λZ G H Q s f q=>ha Z G H _ s f λG1 H1 g1=>by
 cases p with
 |false=>exact wN (q _ _ g1)
 |true=>exact qd (hb rfl Z G1 H1 _ g1.v (f.same g1.sm) λG2 H2 g2=>q _ _ (g1.trans g2))
theorem Tt.or(ha:Tt Vb Γ tt p)(hb:p=false->Tt Vb Γ tu r):Tt Vb Γ (tOr tt tu) (p || r):=λZ G H Q s f q=>ha Z G H _ s f λG1 H1 g1=>by
 cases p with
 |true=>exact qd (q _ _ g1)
 |false=>exact wN (hb rfl Z G1 H1 _ g1.v (f.same g1.sm) λG2 H2 g2=>q _ _ (g1.trans g2))
theorem Tt.not(ha:Tt Vb Γ tt p):Tt Vb Γ (zlP tt) (!p):=λZ G H Q s f q=>ha Z G H _ s f λG1 H1 g1=>q _ _ g1
theorem Tt.yes:Tt Vb Γ Vp true:=λZ G H Q s f q=>q _ _ (.refl s)
theorem Tg.and(ha:Tg Vb Γ ta (Is p))(hb:p=true->Tg Vb Γ tb (Is r)):Tg Vb Γ (zkz ta tb) (Is (p && r)):=λZ G H Q s f q=>ha Z G H _ s f λv G1 H1 g1 z=>⟨p,jB.mp z,by
 cases p with
 |false=>exact wN (q _ _ _ g1 (jB.mpr rfl))
 |true=>exact qd (hb rfl Z G1 H1 _ g1.v (f.same g1.sm) λv G2 H2 g2 z=>q _ _ _ (g1.trans g2) z)⟩
theorem zk7[Enc α][Enc β]{a:Option α}(h:∀x,a=some x->∀G v,(Is x).p G v->v≠.non):Ob Vb (λx y H Q=>y=.non/\Q (.bl (decide (x=.non))) H) (Is a) (Is (none:Option β)) (Is a.isNone):=λx y G H Q s hx hy q=>⟨Vl.mp hy,q _ G H (.refl s) (jB.mpr (by
 cases a with
 |none=>rw[Vl.mp hx];simp
 |some a=>have:=h a rfl G x hx;simp[this]))⟩
theorem zbG[Enc α][Enc β]{a:Option α}(h:∀x,a=some x->∀G v,(Is x).p G v->v≠.non):Ob Vb (λx y H Q=>y=.non/\Q (.bl (!decide (x=.non))) H) (Is a) (Is (none:Option β)) (Is a.isSome):=λx y G H Q s hx hy q=>⟨Vl.mp hy,q _ G H (.refl s) (jB.mpr (by
 cases a with
 |none=>rw[Vl.mp hx];simp
 |some a=>have:=h a rfl G x hx;simp[this]))⟩
theorem zbV[Enc α]{l:List α}:∀G v,(Is l).p G v->v≠.non:=λG v h e=>by
 obtain⟨a,xs,rfl,_⟩:=tQ.mp h;cases e
theorem Tg.chain(ha:Tg Vb Γ ta S)(hb:Tg Vb Γ tb T)(hc:Tg Vb Γ tc U)(h1:Ob Vb r S T (Is p))(h2:Ob Vb r' T U (Is q)):Tg Vb Γ (zf9 r r' ta tb tc) (Is (p && q)):=λZ G H Q s f k=>ha Z G H _ s f λx G1 H1 g1 z1=>hb Z G1 H1 _ g1.v (f.same g1.sm) λy G2 H2 g2 z2=>h1 x y G2 H2 _ g2.v (S.mo g2.sm z1) z2 λv G3 H3 g3 z3=>⟨p,jB.mp z3,by
 cases p with
 |false=>exact wN (k _ _ _ (g1.trans (g2.trans g3)) (jB.mpr rfl))
 |true=>exact qd (hc Z G3 H3 _ g3.v (((f.same g1.sm).same g2.sm).same g3.sm) λw G4 H4 g4 z4=>h2 y w G4 H4 _ g4.v (T.mo (g3.sm.trans g4.sm) z2) z4 λv G5 H5 g5 z5=>k _ _ _ (g1.trans (g2.trans (g3.trans (g4.trans g5)))) z5)⟩
theorem Tg.cb(ha:Ta Vb Γ tr Ts)(h:Cb Vb r Ts T):Tg Vb Γ (tCB r tr) T:=λZ G H Q s f q=>ha Z G H _ s f λvs G1 H1 g1 z1=>h vs G1 H1 _ g1.v z1 λv G2 H2 g2 z2=>q _ _ _ (g1.trans g2) z2
theorem Tg.call(ha:Ta Vb Γ tr Ts)(h:Spg Vb sp Ts T):Tg Vb Γ (ziV sp [] E tr) T:=λZ G H Q s f q=>ha Z G H _ s f λvs G1 H1 g1 z1=>by
 rw[cR];exact h vs G1 H1 _ _ g1.v z1 λv G2 H2 g2 z2=>q _ _ _ (g1.trans g2) z2
theorem Cb.one(h:∀x G H Q,Vw Vb G H->S.p G x->(∀v G' H',Gr Vb G H G' H'->T.p G' v->Q v H')->r [x] H Q):Cb Vb r [S] T:=λvs G H Q s z q=>by
 cases z with
 |cons z r=>cases r;exact h _ G H Q s z q
theorem Cb.two(h:∀x y G H Q,Vw Vb G H->S.p G x->T.p G y->(∀v G' H',Gr Vb G H G' H'->U.p G' v->Q v H')->r [x,y] H Q):Cb Vb r [S,T] U:=λvs G H Q s z q=>by
 cases z with
 |cons z r=>
  cases r with
  |cons z' r=>cases r;exact h _ _ G H Q s z z' q
theorem qt[Enc α]{l:List α}:Cb Vb (λxs H Q=>∃p ys,xs=[.ref p]/\(SqL K H p ys\/SqT K H p ys)/\Q (.int ys.length) H) [Is l] (Is (l.length:Int)):=.one λx G H Q s z q=>by
 obtain⟨p,xs,rfl,h1,h2⟩:=tQ.mp z;refine⟨p,xs,rfl,.inl (SqL.of (s.sub _ _ h1)),q _ G H (.refl s) (zW.mpr ?_)⟩;rw[h2.len,aa]
theorem zbO[Enc α]{l:List α}:Cb Vb (λxs H Q=>∃p ys,xs=[.ref p]/\(SqL K H p ys\/SqT K H p ys)/\∀l,H l=none->Q (.ref l) (upd H l (.lst ys))) [Is l] (Is l):=.one λx G H Q s z q=>by
 obtain⟨p,xs,rfl,h1,h2⟩:=tQ.mp z;refine⟨p,xs,rfl,.inl (SqL.of (s.sub _ _ h1)),λc hc=>?_⟩;obtain⟨g,m⟩:=Gr.new (o:=.lst xs) s hc;exact q _ _ _ g (tQ.mpr ⟨c,_,rfl,zq,h2.same m⟩)
theorem zgc{l:List Int}:Cb Vb (zlg K) [Is l] (Is l.sum):=.one λx G H Q s z q=>by
 obtain⟨p,xs,rfl,h1,h2⟩:=tQ.mp z;rw[Ats.ints.mp h2]at h1;exact⟨p,l,rfl,SqL.of (s.sub _ _ h1),q _ G H (.refl s) (zW.mpr rfl)⟩
theorem zlp:Cb Vb (λxs H Q=>∃i j,xs=[.int i,.int j]/\Q (.int (if j>i then j else i)) H) [Is i,Is j] (Is (max i j)):=.two λx y G H Q s z z' q=>⟨i,j,by rw[zW.mp z,zW.mp z'],q _ G H (.refl s) (zW.mpr (by congr 1;omega))⟩
theorem zkP:Cb Vb (λxs H Q=>∃i j,xs=[.int i,.int j]/\Q (.int (if j<i then j else i)) H) [Is i,Is j] (Is (min i j)):=.two λx y G H Q s z z' q=>⟨i,j,by rw[zW.mp z,zW.mp z'],q _ G H (.refl s) (zW.mpr (by congr 1;omega))⟩
theorem Ti.list[Enc α]{l:List α}(h:Tg Vb Γ te (Is l)):Ti Vb Γ (zjk K te) l:=λZ G H R s f q=>h Z G H _ s f λx G1 H1 g1 z=>by
 obtain⟨p,xs,rfl,h1,h2⟩:=tQ.mp z;have l1:=h2.len;rw[aa]at l1;refine⟨p,rfl,⟨xs,SqL.of (g1.v.sub _ _ h1)⟩,q _ _ _ g1 λG' H' s1 s2 i=>⟨λhi=>⟨xs,SqL.of (s2 _ _ (s1 _ _ h1)),by rw[l1];exact hi⟩,λhi=>?_⟩⟩;have hx:i<xs.length:=by rw[l1];exact hi
 refine⟨⟨xs,xs[i],SqL.of (s2 _ _ (s1 _ _ h1)),aj hx⟩,λx Hn y=>?_⟩;obtain⟨e,y⟩:=y;have e2:=y xs (SqL.of (s2 _ _ (s1 _ _ h1)));obtain⟨t,e3,z⟩:=h2.get e2;rw[ak,aj hi]at e3;cases e3
 exact⟨e,(Is l[i]).mo s1 z⟩
def rng(lo:Int)(n:Nat):List Int:=(aD n).map λk=>lo+((k:Nat):Int)
theorem uQ{lo:Int}:(rng lo n).length=n:=by unfold rng;rw[aa,aX]
theorem zjZ{lo:Int}(h:k<(rng lo n).length):(rng lo n)[k]=lo+k:=by simp[rng]
theorem uC{lo:Int}:x∈rng lo n↔lo<=x/\x<lo+n:=by
 unfold rng;rw[bh];constructor
 ·rintro⟨k,hk,rfl⟩;have:=cZ.mp hk;omega
 ·intro h;exact⟨(x-lo).toNat,cZ.mpr (by omega),by omega⟩
theorem zja{lo:Int}:Yl (Itr lo n) (rng lo n) G:=λG' H' s1 s2 i=>⟨λhi=>by rw[uQ]at hi;exact hi,λhi=>⟨by have:=hi;rw[uQ]at this;exact this,λx Hn ⟨e1,e2⟩=>⟨e1,by rw[zjZ];exact zW.mpr e2⟩⟩⟩
theorem Ti.rng1(h:Tg Vb Γ te (Is i))(e:i.toNat=n)(h1:-(2^62)<=i/\i<2^62):Ti Vb Γ (zkN (ZW te Qh)) (rng 0 n):=λZ G H R s f q=>h Z G H _ s f λx G1 H1 g1 z=>by
 refine⟨i,by rw[zW.mp z],h1.1,h1.2,q _ _ _ g1 ?_⟩;rw[e];exact zja
theorem Ti.rng2(h:Tg Vb Γ ta (Is i))(h':Tg Vb Γ tb (Is j))(e:(j-i).toNat=n)(h1:-(2^62)<=i/\i<2^62/\-(2^62)<=j/\j<2^62):Ti Vb Γ (zkK (ZW ta (ZW tb Qh))) (rng i n):=λZ G H R s f q=>h Z G H _ s f λx G1 H1 g1 z=>h' Z G1 H1 _ g1.v (f.same g1.sm) λy G2 H2 g2 z2=>by
 refine⟨i,j,by rw[zW.mp z,zW.mp z2],h1,q _ _ _ (g1.trans g2) ?_⟩;rw[e];exact zja
def caps(js:List Nat)(Γ:Cxt):Cxt:=js.map λj=>(Γ[j]?).join
theorem Fits.caps(f:Fits Γ G Z)(js:List Nat):Fits (caps js Γ) G (XN js Z):=by
 refine⟨by unfold XN L2.caps;rw[aa,aa],λi T h=>?_⟩;unfold L2.caps at h;rw[ak]at h;obtain⟨j,hj,e⟩:=aM.mp h;have e':Γ[j]?=some (some T):=by
  cases q:Γ[j]? with
  |none=>rw[q]at e;cases e
  |some o=>rw[q]at e;exact congrArg some e
 obtain⟨v,e1,z⟩:=f.2 j T e';exact⟨v,by unfold XN;rw[ak,hj];show some ((Z[j]?).join)=_;rw[e1];rfl,z⟩
theorem Tg.comp[Enc α][Enc β]{g:α->β}(hi:Ti Vb Γ wi L)(ht:∀y,y∈L->Tt Vb (some (Is y)::caps js Γ) tt (p y))(he:∀y,y∈L->p y=true->Tg Vb (some (Is y)::caps js Γ) te (Is (g y)))(hl:L.length<=100000):Tg Vb Γ (zhr wi js tt te) (Is ((L.filter p).map g)):=λZ G H Q s f q=>hi Z G H _ s f λJ G1 H1 g1 y=>by
 refine⟨λi m ys H2=>m=L.length-i/\i<=L.length/\∃G2,Gr Vb G1 H1 G2 H2/\Ats G2 ((((L.take i).filter p).map g).map en) ys,⟨_,rfl,bK _,G1,.refl g1.v,by rw[rG,lB,dh,dh,Ats]⟩,?_⟩;rintro i m ys H2 ⟨rfl,hi,G2,g2,a⟩;have yl:=y G2 H2 g2.sm g2.v.sub i;by_cases hlt:i<L.length
 ·obtain⟨h1,h2⟩:=yl.2 hlt;have al:=a.len;rw[aa,aa]at al;have hle:((L.take i).filter p).length<=i:=ao (bV _ _) (by rw[bM];omega);refine .inr ⟨h1,bw (show ys.length<=100000 by omega) (by decide),λys' H'=>∃G2,Gr Vb G1 H1 G2 H'/\Ats G2 ((((L.take (i+1)).filter p).map g).map en) ys',λys' H' z=>⟨_,by omega,rfl,hlt,z⟩,λx H' z=>?_⟩;obtain⟨rfl,zx⟩:=h2 x H' z;have hm:L[i]∈L:=gb hlt;have ff:Fits (some (Is L[i])::caps js Γ) G2 (some x::XN js Z):=.cons zx (((f.same g1.sm).same g2.sm).caps js);have et:L.take (i+1)=L.take i++[L[i]]:=by rw[gK,aj hlt];rfl
  refine ht _ hm _ G2 _ _ g2.v ff λG3 H3 g3=>?_;cases hp:p L[i] with
  |false=>exact wN ⟨G3,g2.trans g3,by rw[et,bT,oW (by rw[hp];decide),lB,cR];exact a.same g3.sm⟩
  |true=>
   refine qd (he _ hm hp _ G3 _ _ g3.v (ff.same g3.sm) λv G4 H4 g4 zv=>⟨G4,g2.trans (g3.trans g4),?_⟩);rw[et,bT,lK hp,lB,aF,aF];exact (a.same (g3.sm.trans g4.sm)).app (by rw[bz,bz,dh,dh,Ats];exact⟨v,[],rfl,zv,by rw[Ats]⟩)
 ·have e:i=L.length:=by omega
  subst e;refine .inl ⟨yl.1 (au _),λD hD=>?_⟩;obtain⟨gn,mn⟩:=Gr.new (o:=.lst ys) g2.v hD;exact q _ _ _ (g1.trans (g2.trans gn)) (tQ.mpr ⟨D,ys,rfl,zq,by rw[cj]at a;exact a.same mn⟩)
theorem Tg.comp1[Enc α][Enc β]{g:α->β}(hi:Ti Vb Γ wi L)(he:∀y,y∈L->Tg Vb (some (Is y)::caps js Γ) te (Is (g y)))(hl:L.length<=100000):Tg Vb Γ (zhr wi js Vp te) (Is (L.map g)):=by
 have h:=Tg.comp (p:=λ_=>true) hi (λ_ _=>Tt.yes) (λy hy _=>he y hy) hl;rwa[rZ.mpr (λ_ _=>rfl)]at h
theorem Uc{Z:St}{x i:Nat}{J:Nat->Prop}(h:J x)(n:¬ J i):(Z.set x v)[i]?=Z[i]?:=by
 rw[oh,if_neg (λe:x=i=>n (e▸h))]
section
variable {J:Nat->Prop}
theorem Sg.after{Z σ1:St}(k:Sg Vb J Γ u N R)(g1:Gr Vb G H G1 H1)(f1:Fits Γ G1 σ1)(e:∀i,¬ J i->σ1[i]?=Z[i]?)(n:∀Γ' σ' G' H',N Γ'->Gr Vb G H G' H'->Fits Γ' G' σ'->(∀i,¬ J i->σ'[i]?=Z[i]?)->D.nx σ' H')(r:∀v G' H',Gr Vb G H G' H'->R.p G' v->D.rt v H'):u D σ1 H1 :=
 k D σ1 G1 H1 g1.v f1 (fun Γ' σ' G' H' a b c d=>n Γ' σ' G' H' a (g1.trans b) c λi hi=>(d i hi).trans (e i hi)) λv G' H' a b=>r v G' H' (g1.trans a) b
theorem Sg.set(h:Tg Vb Γ te T)(k:Sg Vb J (Γ.set x (some T)) u N R)(hx:J x:=by first | trivial | decide):Sg Vb J Γ (Y9 (zaO te (j9 x)) u) N R:=λD Z G H s f n r=>h Z G H _ s f λv G1 H1 g1 z=>k.after g1 ((f.same g1.sm).set z) (λi hi=>Uc hx hi) n r
theorem Sg.setE{T:ι->Ty}(h:Tg Vb Γ te (tyE p T))(k:∀m,p m->Sg Vb J (Γ.set x (some (T m))) u N R)(hx:J x:=by first | trivial | decide):Sg Vb J Γ (Y9 (zaO te (j9 x)) u) N R:=λD Z G H s f n r=>h Z G H _ s f λv G1 H1 g1 ⟨m,hm,z⟩=>(k m hm).after g1 ((f.same g1.sm).set z) (λi hi=>Uc hx hi) n r
theorem Sg.ret(h:Tg Vb Γ te R):Sg Vb J Γ (zll te) N R:=λD Z G H s f n r=>h Z G H _ s f λv G1 H1 g1 z=>r v G1 H1 g1 z
theorem Sg.nil(h:N Γ):Sg Vb J Γ Jh N R:=λD Z G H s f n r=>n Γ Z G H h (.refl s) f λ_ _=>rfl
theorem Sg.seq(h:Sg Vb J Γ t N1 R)(k:∀Γ1,N1 Γ1->Sg Vb J Γ1 u N R):Sg Vb J Γ (Y9 t u) N R:=λD Z G H s f n r=>h _ Z G H s f (fun Γ1 σ1 G1 H1 a g1 f1 e=>(k Γ1 a).after g1 f1 e n r) r
theorem Sg.iff(c:Tt Vb Γ tt p)(h1:p=true->Sg Vb J Γ t N R)(h2:p=false->Sg Vb J Γ u N R):Sg Vb J Γ (zfJ tt t u) N R:=λD Z G H s f n r=>c Z G H _ s f λG1 H1 g1=>by
 cases p with
 |true=>exact qd ((h1 rfl).after g1 (f.same g1.sm) (λ_ _=>rfl) n r)
 |false=>exact wN ((h2 rfl).after g1 (f.same g1.sm) (λ_ _=>rfl) n r)
theorem Sg.noN(h:Sg Vb J Γ t (λ_=>False) R):Sg Vb J Γ t N R:=λD Z G H s f n r=>h D Z G H s f (λ_ _ _ _ z=>z.elim) r
theorem Sg.cut(c:Tt Vb Γ tt p)(h1:p=true->Sg Vb J Γ t (λ_=>False) R)(h2:p=false->Sg Vb J Γ u N R):Sg Vb J Γ (Y9 (zfJ tt t Jh) u) N R:=.seq (N1:=fun Γ'=>Γ=Γ'/\p=false) (.iff c (λe=>.noN (h1 e)) λe=>.nil ⟨rfl,e⟩) λ_ ⟨e,e2⟩=>e▸h2 e2
theorem Sg.cut1(c:Tt Vb Γ tt p)(h1:p=true->Sg Vb J Γ t (λ_=>False) R)(h2:p=false->N Γ):Sg Vb J Γ (zfJ tt t Jh) N R:=.iff c (λe=>.noN (h1 e)) λe=>.nil (h2 e)
theorem Sg.for[Enc α]{L:List α}(I:Nat->Cxt->Prop)(hi:Ti Vb Γ wi L)(h0:I 0 Γ)(hs:∀(i:Nat) (h:i<L.length) Γ',I i Γ'->Sg Vb J (Γ'.set x (some (Is L[i]))) t (I (i+1)) R)(hd:∀Γ',I L.length Γ'->N Γ')(hx:J x:=by first | trivial | decide):Sg Vb J Γ (zh1 wi (j9 x) t) N R:=λD Z G H s f n r=>hi Z G H _ s f λJt G1 H1 g1 y=>by
 refine⟨λi m σ' H2=>m=L.length-i/\i<=L.length/\∃Γ' G2,I i Γ'/\Gr Vb G1 H1 G2 H2/\Fits Γ' G2 σ'/\∀i,¬ J i->σ'[i]?=Z[i]?,⟨_,rfl,bK _,Γ,G1,h0,.refl g1.v,f.same g1.sm,λ_ _=>rfl⟩,?_⟩;rintro i m σ' H2 ⟨rfl,hi,Γ',G2,hI,g2,f2,e2⟩;have yl:=y G2 H2 g2.sm g2.v.sub i;by_cases hlt:i<L.length
 ·obtain⟨h1,h2⟩:=yl.2 hlt;refine .inr ⟨h1,fun σ' H'=>∃Γ' G2,I (i+1) Γ'/\Gr Vb G1 H1 G2 H'/\Fits Γ' G2 σ'/\∀i,¬ J i->σ'[i]?=Z[i]?,fun σ' H' z=>⟨_,by omega,rfl,hlt,z⟩,λx H' z=>?_⟩;obtain⟨rfl,zx⟩:=h2 x H' z;exact hs i hlt Γ' hI _ _ G2 _ g2.v (f2.set zx) (fun Γ3 σ3 G3 H3 a b c d=>⟨Γ3,G3,a,g2.trans b,c,λj hj=>((d j hj).trans (Uc hx hj)).trans (e2 j hj)⟩) λv G' H' a b=>r v G' H' (g1.trans (g2.trans a)) b
 ·have e:i=L.length:=by omega
  subst e;exact .inl ⟨yl.1 (au _),n Γ' σ' G2 _ (hd _ hI) (g1.trans g2) f2 e2⟩
end
end
def spg(Vb:Wd)(Rl:List Ty->Ty->Prop):Sp:=λvs H Q _=>∃Ts T G,Rl Ts T/\Vw Vb G H/\Tis Ts G vs/\∀v G' H',Gr Vb G H G' H'->T.p G' v->Q v H'
theorem spg.of(h:Rl Ts T):Spg Vb (spg Vb Rl) Ts T:=λvs G H Q E s z q=>⟨Ts,T,G,h,s,z,q⟩
theorem Tis.fits{G:Hp}:∀{Ts:List Ty} {vs:List V},Tis Ts G vs->Fits (Ts.map some) G (vs.map some)
 |[],_,.nil=>Fits.nil
 |T::Ts,_,.cons h t=>Fits.cons h (Tis.fits t)
theorem Fits.nones(f:Fits Γ G Z)(n:Nat):Fits (Γ++bc n none) G (Z++bc n none):=by
 refine⟨by rw[aB,aB,f.1,fG,fG],λi T h=>?_⟩;by_cases hi:i<Γ.length
 ·rw[cB hi]at h;obtain⟨v,e,z⟩:=f.2 i T h;exact⟨v,by rw[cB (by rw[f.1];exact hi)];exact e,z⟩
 ·rw[bG (by omega),oO]at h;split at h<;>cases h
section
variable {P:cg} {w:cT} {K:aN} {mg:cG->Option aG} {base:dR}
theorem Df.pj{st:cz}(D:Df K mg x st ps f fd)(S:zG N ps (zp st))(len:∀Ts T,Rl Ts T->Ts.length=ps.length)(body:∀cdv A outer s H E,Room k (A.deeper (lY x (zp st) s.heap.objs.size f cdv))->∀Ts T,Rl Ts T ->
   ∃t,PSs (Q8 CX0 P w K mg base N x (zp st) f cdv A outer s H E).nox (zj st) t/\Sg Vb (λ_=>True) (Ts.map some++bc (N.length-Ts.length) none) t (λ_=>False) T):FnOk P w K mg base CX0 (k+1) f fd ps (spg Vb Rl):=by
 refine D.fn.ok S (λvs H Q E ⟨Ts,T,G,h,v,z,q⟩=>by rw[<-z.len];exact len _ _ h) λcdv A outer s H vs Q E hr ⟨Ts,T,G,h,v,z,q⟩=>?_;obtain⟨t,h1,h2⟩:=body cdv A outer s H E hr Ts T h;refine⟨t,h1,h2 _ _ G H v ?_ (λ_ _ _ _ z _ _=>z.elim) q⟩;unfold start;rw[<-z.len];exact z.fits.nones _
theorem Je(h:let Y:=X;∃t,PSs Y l t/\Sg Vb J Γ t N T):∃t,PSs X l t/\Sg Vb J Γ t N T:=h
end
theorem Gr.fresh(v:Vw Vb G H)(h:H l=none)(e:H' l=some o)(s:Same H H'):Gr Vb G H (upd G l o) H'/\Same G (upd G l o):=by
 have gl:G l=none:=v.sub.free h;have m:Same G (upd G l o):=λb u q=>by rw[zA (zF q gl)];exact q
 refine⟨⟨⟨λb u q=>?_,Vb.mo v.ok s,λa ha=>?_⟩,m,λb u _ h1 h2=>⟨s _ _ h1,?_⟩⟩,m⟩
 ·by_cases z:b=l
  ·subst z;rw[zq]at q;cases q;exact e
  ·rw[zA z]at q;exact s _ _ (v.sub _ _ q)
 ·rw[zA (λz=>Vb.nm v.ok ha (by rw[z];exact h))];exact v.no a ha
 ·rw[zA (zF h1 h)];exact h2
theorem ze1{α:Type}{G:Hp}{f:α->aq}{g:α->Tr}:∀{zs:List α},(∀z∈zs,At G (g z) (.ref (f z)))->Ats G (zs.map g) (zs.map λz=>V.ref (f z))
 |[],_=>by rw[dh,dh,Ats]
 |z::zs,h=>by
  rw[bz,bz,Ats];exact⟨_,_,rfl,h z bI,ze1 λy hy=>h y (bx _ hy)⟩
theorem Ze{l:List Int}:(Is l).p G v↔∃a,v=.ref a/\G a=some (.lst (l.map V.int)):=by
 rw[tQ];constructor
 ·rintro⟨a,xs,h1,h2,h3⟩;rw[Ats.ints.mp h3]at h2;exact⟨a,h1,h2⟩
 ·rintro⟨a,h1,h2⟩;exact⟨a,_,h1,h2,Ats.ints.mpr rfl⟩
theorem Yb{l:ZA}:(Is l).p G v↔∃(a:aq) (zs:ZB),v=.ref a/\G a=some (.lst (zs.map λz=>V.ref z.1))/\(∀z∈zs,G z.1=some (.lst (z.2.map V.int)))/\zs.map (·.2)=l:=by
 rw[tQ];constructor
 ·rintro⟨a,xs,h1,h2,h3⟩;have key:∀(l:ZA) (xs:List V),Ats G (l.map en) xs->∃zs:ZB,xs=zs.map (λz=>V.ref z.1)/\(∀z∈zs,G z.1=some (.lst (z.2.map V.int)))/\zs.map (·.2)=l:=by
   intro l
   induction l with
   |nil=>intro xs h;rw[dh,Ats]at h;exact⟨[],h,by simp,rfl⟩
   |cons x l ih=>
    intro xs h;rw[bz,Ats]at h;obtain⟨y,ys,rfl,hy,h⟩:=h;obtain⟨zs,rfl,h1,h2⟩:=ih _ h;obtain⟨b,rfl,hb⟩:=Ze.mp hy;refine⟨(b,x)::zs,rfl,λz hz=>?_,by rw[bz,h2]⟩;rcases aP.mp hz with rfl | hz
    ·exact hb
    ·exact h1 z hz
  obtain⟨zs,rfl,h4,h5⟩:=key l xs h3;exact⟨a,zs,h1,h2,h4,h5⟩
 ·rintro⟨a,zs,h1,h2,h3,rfl⟩;refine⟨a,_,h1,h2,?_⟩;rw[d8];exact ze1 λz hz=>Ze.mpr ⟨_,rfl,h3 z hz⟩
section
variable {Vb:Wd} {Γ:Cxt} {te ta tb tc:TE} {t u:TS} {tt tu:TT} {S T U R:Ty} {N:Cxt->Prop} {i j:Int} {α β:Type} {K:aN}
theorem Tg.so[Enc α]{a:α}(h:Tg Vb Γ te (Is a)):Tg Vb Γ te (Is (some a)):=h.eq rfl
theorem Jg[DecidableEq α][EncQ α]{a b:α}(h:EncQ.d α<=8:=by decide):Ob Vb (zgu K false) (Is a) (Is b) (Is (decide (a=b))):=ziw (neg:=false) h
theorem Xw[DecidableEq α][EncQ α]{a b:α}(h:EncQ.d α<=8:=by decide):Ob Vb (zgu K true) (Is a) (Is b) (Is (!decide (a=b))):=ziw (neg:=true) h
theorem ziB[DecidableEq α][EncQ α]{a:α}{l:List α}(h:EncQ.d α<=8:=by decide):Ob Vb (zge K false) (Is a) (Is l) (Is (decide (a∈l))):=zkB (neg:=false) h
theorem zbH[DecidableEq α][EncQ α]{a:α}{l:List α}(h:EncQ.d α<=8:=by decide):Ob Vb (zge K true) (Is a) (Is l) (Is (!decide (a∈l))):=zkB (neg:=true) h
theorem zjX{tr:TA}{l:List Int}(h:Tg Vb Γ te (Is l))(ha:Ta Vb Γ tr [Is i]):Tg Vb Γ (tBM K "list" (zec K) te tr) (Is ((l.count i:Nat):Int)):=λZ G H Q s f q=>h Z G H _ s f λx G1 H1 g1 z1=>by
 obtain⟨a0,rfl,h0⟩:=Ze.mp z1;refine⟨.inl ⟨rfl,_,SqL.of (g1.v.sub _ _ h0)⟩,ha Z G1 H1 _ g1.v (f.same g1.sm) λvs G2 H2 g2 z2=>?_⟩;cases z2 with
 |cons z2 r=>
  cases r;exact⟨a0,l,i,rfl,by rw[zW.mp z2],SqL.of (g2.v.sub _ _ (g2.sm _ _ h0)),q _ _ _ (g1.trans g2) (zW.mpr rfl)⟩
theorem JG[Enc α]{l:List α}{a:α}(h:0<=i)(e:l[i.toNat]?=some a):Ob Vb (ziO K) (Is l) (Is i) (Is a):=zjI (by
 have:=(aO.mp e).1;unfold ixN;rw[if_pos h,if_pos (by omega)]) e
theorem Sg.fors[Enc α](I:Nat->Cxt->Prop)(hi:Ti Vb Γ wi L)(h0:I 0 Γ)(hs:∀(i:Nat) (a:α),L[i]?=some a->∀Γ',I i Γ'->Sg Vb J (Γ'.set x (some (Is a))) t (I (i+1)) R)(hd:∀Γ',I L.length Γ'->Sg Vb J Γ' u N R)(hx:J x:=by first | trivial | decide):Sg Vb J Γ (Y9 (zh1 wi (j9 x) t) u) N R:=.seq (.for I hi h0 (λi h Γ' hI=>hs i _ (aj h) Γ' hI) (λ_ h=>h) hx) hd
theorem Sg.for1[Enc α](I:Nat->Cxt->Prop)(hi:Ti Vb Γ wi L)(h0:I 0 Γ)(hs:∀(i:Nat) (a:α),L[i]?=some a->∀Γ',I i Γ'->Sg Vb J (Γ'.set x (some (Is a))) t (I (i+1)) R)(hd:∀Γ',I L.length Γ'->N Γ')(hx:J x:=by first | trivial | decide):Sg Vb J Γ (zh1 wi (j9 x) t) N R:=.for I hi h0 (λi h Γ' hI=>hs i _ (aj h) Γ' hI) hd hx
theorem Tg.to[Enc α]{a b:α}(h:Tg Vb Γ te (Is a))(e:a=b):Tg Vb Γ te (Is b):=e▸h
theorem Tt.to(h:Tt Vb Γ tt a)(e:a=b):Tt Vb Γ tt b:=e▸h
theorem zjs[Enc α](l:List α):en l=en (l.map some):=by
 show Tr.lst _=Tr.lst _;rw[d8];rfl
theorem Tg.sos[Enc α]{a:List α}(h:Tg Vb Γ te (Is a)):Tg Vb Γ te (Is (a.map some)):=h.eq (zjs a)
theorem Ti.rng3(ha:Tg Vb Γ ta (Is i))(hb:Tg Vb Γ tb (Is j))(hc:Tg Vb Γ tc (Is c))(h1:0<=i/\i<=1000)(h2:0<=j/\j<=1000)(h3:1<=c/\c<=1000):Ti Vb Γ (zkC (ZW ta (ZW tb (ZW tc Qh)))) ((aD (bH i j c).toNat).map λk=>i+((k:Nat):Int)*c):=λZ G H R s f q=>ha Z G H _ s f λx G1 H1 g1 z1=>hb Z G1 H1 _ g1.v (f.same g1.sm) λy G2 H2 g2 z2=>hc Z G2 H2 _ g2.v ((f.same g1.sm).same g2.sm) λz G3 H3 g3 z3=>by
 refine⟨i,j,c,by rw[zW.mp z1,zW.mp z2,zW.mp z3],h1,h2,h3,q _ _ _ (g1.trans (g2.trans g3)) λG' H' s1 s2 k=>⟨λh=>?_,λh=>⟨?_,λx Hn ⟨e1,e2⟩=>⟨e1,?_⟩⟩⟩⟩
 ·rw[aa,aX]at h;exact h
 ·rw[aa,aX]at h;exact h
 ·rw[List.getElem_map,List.getElem_range];exact zW.mpr e2
theorem Qy{lo:Int}(h:(rng lo n)[k]?=some a):k<n/\a=lo+k:=by
 unfold rng at h;rw[ak]at h;obtain⟨m,h1,h2⟩:=aM.mp h;have hm:=(aO.mp h1).1;rw[aX]at hm;rw[bO hm]at h1;cases h1
 exact⟨hm,h2.symm⟩
end
open PySem PySem.Spec PyProof.Rows PySem.W
section
variable {X:Cx} {Z:St} {H:Hp} {s:aR} {kpos p pos xp:mV} {y x:cG} {e:eV} {te:TE} {st:cz} {f:aq} {fd:iY} {k:Nat} {sp:Sp}
def zdQ(te:TE):TE:=λZ H Q=>te Z H λx H1=>∃(l:aq) (zs:ZB),x=.ref l/\H1 l=some (.lst (zs.map λz=>V.ref z.1))/\(∀z∈zs,H1 z.1=some (.lst (z.2.map V.int)))/\(zs.map (·.2)).Nodup/\zs.length<=60 /\
 ∀(D:aq) (zs':ZB) (H2:Hp),H1 D=none->H2 D=none->Same H1 H2->zs'.Perm zs->zs'.Pairwise (λx y=>HT.uE x.2 y.2=true)->Q (.ref D) (upd H2 D (.lst (zs'.map λz=>V.ref z.1)))
theorem zfp(he:PE X e te)(hm:X.mg "sorted"= none)(D:Df X.K X.mg x st [y] f fd)(F:FnOk X.prog X.w X.K X.mg X.base CX0 k f fd [y] sp)(hsp:∀(a:aq) (ns:List Int) (H:Hp) (Q:VK) (E:XK),H a=some (.lst (ns.map V.int))->(∀p,H p=none->Q (.ref p) (upd H p (.tup [.int ns.length,.ref a])))->sp [.ref a] H Q E)(hr:Room (k+2) X.A)(hg:Gl X "sorted":=by rfl)(hg2:Gl X x:=by rfl)(hdb:(x == ("__debug__" : cG))=false:=by decide)(hs1:bF [e] X.env=[(false,dI e X.env)]:=by rfl):
  PE X (.Call (.Name "sorted" p) [e] [⟨some "key",.Name x xp,kpos⟩] pos) (zdQ te):=by
 intro pins s Z H Q I h;refine di (Zk I hg hm lH ?_ (by decide) (by decide));have ha:PA X [e] (ZW te Qh):=zc he zf hs1;refine Gq (thn (ha pos pins s Z H (λvs H1=>match vs with
  |[x]=>∃(l:aq) (zs:ZB),x=.ref l/\H1 l=some (.lst (zs.map λz=>V.ref z.1))/\(∀z∈zs,H1 z.1=some (.lst (z.2.map V.int)))/\(zs.map (·.2)).Nodup/\zs.length<=60 /\
   ∀(D:aq) (zs':ZB) (H2:Hp),H1 D=none->H2 D=none->Same H1 H2->zs'.Perm zs->zs'.Pairwise (λx y=>HT.uE x.2 y.2=true)->Q (.ref D) (upd H2 D (.lst (zs'.map λz=>V.ref z.1)))
  |_=>False) I h) λus s1 ⟨vs,H1,I1,r1,q1⟩=>?_) (by rw[hs1];rfl) (by rw[hs1];rfl)
 match vs,q1 with
 |[v0],q1=>
  obtain⟨l,zs,rfl,hl,hz,nd,h60,q⟩:=q1;obtain⟨u,rfl,rx⟩:=vals1 r1;cases rx
  show bJ _ _ (evalAll ((do let v <-dI (.Name x xp) X.env;rM pos;pure v)::[])) _ _ s1;refine sW (aH (Ub I1 hg2 D.g (aH (oF (bW ?_))) hdb));refine BW ?_;obtain⟨oc,od,kV,doc,pm,an,cdv,ct,osl,rfl,lk,hcd⟩:=D.fn.ex;have hb:=I1.mod.kin _ _ lk;have I3:Inv X ((f,_)::pins) Z H1 s1:=I1.pins_of λp hp=>by
   rcases aP.mp hp with rfl | hp
   ·obtain⟨b1,b2⟩:=I1.bs _ _ hb;exact⟨b1,b2,λz=>absurd (aQ hb) (G9.mpr (ao I1.ok.bsz (ao I1.ok.above (mY (Eq.symm z))))),I1.ok.nofr hb,λv z=>by cases z⟩
   ·exact I1.pin p (aV _ hp)
  show bJ _ _ (call (.builtin "sorted") [.ref l] [(m7 "key",.ref f)]) _ _ s1;have hr2:Room k X.A.in1.in1:=(hr.in1).in1;refine zbj I3 hl hz nd h60 (by have:=hr2.units;omega) (λH' s' pins' z I' hf sm hzm=>?_) λD H' zs' hD sm hn pm pw=>q D zs' H' hD hn sm pm pw;refine pq (ir (F.run X.A.in1.in1 X.stack s' H' ⟨[.ref z.1],[]⟩ [.ref z.1] [.ref z.1] (λv H2=>∃p,v=.ref p/\H' p=none/\H2=upd H' p (.tup [.int z.2.length,.ref z.1])) E0 hr2 I'.env0.in1.in1 (D.b s' [.ref z.1] I'.kIn rfl) (.cons rfl .nil) (hsp z.1 z.2 H' _ _ (sm _ _ (hz z hzm)) λp hp=>⟨p,rfl,hp,rfl⟩)) λr s'' hq=>?_);cases r with
  |error e=>exact hq
  |ok fl=>
   cases fl with
   |ret u=>exact I'.after hq
   |next=>exact cV hq
   |brk=>exact cV hq
   |cont=>exact cV hq
end
def Wd.hd(Vb:Wd)(a:aq):Wd where
 ok H:=Vb.ok H/\∃xs,H a=some (.lst xs)
 may c:=Vb.may c\/c=a
 mo:=λ⟨h1,zs,h2⟩ s=>⟨Vb.mo h1 s,zs,s _ _ h2⟩
 nm:=λ{H c} ⟨h1,zs,h2⟩ m q=>by
  rcases m with m | rfl
  ·exact Vb.nm h1 m q
  ·rw[h2]at q;cases q
def Wr(Vb:Wd):Prop:=∀{H:Hp} {a:aq} {xs ys:List V},Vb.ok H->H a=some (.lst xs)->¬ Vb.may a->Vb.ok (upd H a (.lst ys))
structure Na (Vb:Wd) (a:aq):Prop where
 n:¬ Vb.may a
 wr:Wr Vb
structure Own (a:aq) (G H:Hp) (ds:List Tr):Prop where
 no:G a=none
 st:∃xs,H a=some (.lst xs)/\Ats G ds xs
def zlh(R:Ty):Prop:=∀G G' v,R.p G v->R.p G' v
theorem zbF{b:Bool}:zlh (Is b):=λ_ _ _ h=>jB.mpr (jB.mp h)
section
variable {Vb:Wd} {a:aq} {G H G1 H1 G2 H2:Hp} {ds:List Tr}
theorem Gr.lo(g:Gr (Vb.hd a) G H G1 H1):Vw Vb G1 H1:=⟨g.v.sub,g.v.ok.1,λc h=>g.v.no c (.inl h)⟩
theorem Own.go(o:Own a G H ds)(n:¬ Vb.may a)(g:Gr Vb G H G1 H1):Own a G1 H1 ds/\Gr (Vb.hd a) G H G1 H1:=by
 obtain⟨xs,h1,h2⟩:=o.st;obtain⟨q1,q2⟩:=g.hid a _ n h1 o.no;refine⟨⟨q2,xs,q1,h2.same g.sm⟩,⟨g.v.sub,⟨g.v.ok,xs,q1⟩,λc h=>?_⟩,g.sm,λc u m=>g.hid c u λz=>m (.inl z)⟩;rcases h with h | rfl
 ·exact g.v.no c h
 ·exact q2
end
section
variable {Vb:Wd} {J:Nat->Prop} {a:aq} {Γ:Cxt} {te:TE} {t u:TS} {tt:TT} {R T:Ty} {α β:Type} [Enc α] [Enc β] {l:List α} {N:Cxt->List α->Prop} {K:aN}
def Sm(Vb:Wd)(J:Nat->Prop)(a:aq)(l:List α)(Γ:Cxt)(ts:TS)(N:Cxt->List α->Prop)(R:Ty):Prop:=Na Vb a->∀D Z G H,Vw Vb G H->Own a G H (l.map en)->Fits Γ G Z->(∀Γ' l' σ' G' H',N Γ' l'->Gr (Vb.hd a) G H G' H'->Own a G' H' (l'.map en)->Fits Γ' G' σ'->(∀i,¬ J i->σ'[i]?=Z[i]?)->D.nx σ' H')->(∀v G' H',Gr (Vb.hd a) G H G' H'->R.p G' v->D.rt v H')->ts D Z H
theorem Sm.after{Z σ1:St}(k:Sm Vb J a l Γ u N R)(na:Na Vb a)(g1:Gr (Vb.hd a) G H G1 H1)(o1:Own a G1 H1 (l.map en))(f1:Fits Γ G1 σ1)(e:∀i,¬ J i->σ1[i]?=Z[i]?)(n:∀Γ' l' σ' G' H',N Γ' l'->Gr (Vb.hd a) G H G' H'->Own a G' H' (l'.map en)->Fits Γ' G' σ'->(∀i,¬ J i->σ'[i]?=Z[i]?)->D.nx σ' H')(r:∀v G' H',Gr (Vb.hd a) G H G' H'->R.p G' v->D.rt v H'):u D σ1 H1 :=
 k na D σ1 G1 H1 g1.lo o1 f1 (fun Γ' l' σ' G' H' a b c d e'=>n Γ' l' σ' G' H' a (g1.trans b) c d λi hi=>(e' i hi).trans (e i hi)) λv G' H' a b=>r v G' H' (g1.trans a) b
theorem Gr.rh(o:Own a G H (l.map en))(s:Vw Vb G H):Gr (Vb.hd a) G H G H:=by
 obtain⟨xs,h1,h2⟩:=o.st;refine .refl ⟨s.sub,⟨s.ok,xs,h1⟩,λc h=>?_⟩;rcases h with h | rfl
 ·exact s.no c h
 ·exact o.no
theorem Sm.nil(h:N Γ l):Sm Vb J a l Γ Jh N R:=λna D Z G H s o f n r=>n Γ l Z G H h (.rh o s) o f λ_ _=>rfl
theorem Sm.set(h:Tg Vb Γ te T)(k:Sm Vb J a l (Γ.set x (some T)) u N R)(hx:J x:=by first | trivial | decide):Sm Vb J a l Γ (Y9 (zaO te (j9 x)) u) N R:=λna D Z G H s o f n r=>h Z G H _ s f λv G1 H1 g1 z=>k.after na (o.go na.n g1).2 (o.go na.n g1).1 ((f.same g1.sm).set z) (λi hi=>Uc hx hi) n r
theorem Sm.iff(c:Tt Vb Γ tt p)(h1:p=true->Sm Vb J a l Γ t N R)(h2:p=false->Sm Vb J a l Γ u N R):Sm Vb J a l Γ (zfJ tt t u) N R:=λna D Z G H s o f n r=>c Z G H _ s f λG1 H1 g1=>by
 cases p with
 |true=>exact qd ((h1 rfl).after na (o.go na.n g1).2 (o.go na.n g1).1 (f.same g1.sm) (λ_ _=>rfl) n r)
 |false=>exact wN ((h2 rfl).after na (o.go na.n g1).2 (o.go na.n g1).1 (f.same g1.sm) (λ_ _=>rfl) n r)
theorem grow(na:Na Vb a)(s:Vw Vb G H)(o:G a=none)(e:H a=some (.lst xs))(h:Ats G ds ys):Own a G (upd H a (.lst ys)) ds/\Gr (Vb.hd a) G H G (upd H a (.lst ys)):=by
 have sb:Same G (upd H a (.lst ys)):=λc u q=>by rw[zA (λz=>by rw[z,o]at q;cases q)];exact s.sub _ _ q
 refine⟨⟨o,ys,zq,h⟩,⟨sb,⟨na.wr s.ok e na.n,ys,zq⟩,λc q=>?_⟩,Same.refl _,λc u m h1 h2=>⟨by rw[zA (λz=>m (.inr z))];exact h1,h2⟩⟩;rcases q with q | rfl
 ·exact s.no c q
 ·exact o
theorem Sm.app0{x:Nat}{d:α}(hx:Γ[x]?=some (some (W3 (.ref a))))(h:Tg Vb Γ te (Is d))(hl:l.length<=100000)(k:Sm Vb J a (l++[d]) Γ Jh N R):Sm Vb J a l Γ (zg8 (tBM K "list" zdW (zby x) (ZW te Qh))) N R:=λna D Z G H s o f n r=>by
 obtain⟨v,e,z⟩:=f.2 x _ hx;have z:v=.ref a:=z;subst z;obtain⟨xs,h1,h2⟩:=o.st;have hlen:=h2.len;rw[aa]at hlen;refine⟨_,e,.inl ⟨rfl,xs,SqL.of h1⟩,h Z G H _ s f λy G1 H1 g1 z1=>?_⟩;obtain⟨o1,g1'⟩:=o.go na.n g1;obtain⟨ys,q1,q2⟩:=o1.st;obtain⟨e1,_⟩:=g1.hid a _ na.n h1 o.no;rw[e1]at q1;cases q1
 refine⟨a,xs,y,rfl,rfl,e1,bw (show xs.length<=100000 by omega) (by decide),?_⟩;obtain⟨o2,g2⟩:=grow na g1.v o1.no e1 (q2.app (us:=[en d]) (ys:=[y]) (by rw[Ats];exact⟨y,[],rfl,z1,by rw[Ats]⟩));exact k.after na (g1'.trans g2) (by rw[aF];exact o2) ((f.same g1.sm)) (λ_ _=>rfl) n r
theorem Sm.app{x:Nat}{d:α}(hx:Γ[x]?=some (some (W3 (.ref a))))(h:Tg Vb Γ te (Is d))(hl:l.length<=100000)(k:Sm Vb J a (l++[d]) Γ u N R):Sm Vb J a l Γ (Y9 (zg8 (tBM K "list" zdW (zby x) (ZW te Qh))) u) N R:=λna D Z G H s o f n r=>
 Sm.app0 (N:=fun Γ' l'=>Γ'=Γ/\l'=l++[d]) (J:=λ_=>False) (R:=R) hx h hl (.nil ⟨rfl,rfl⟩) na { D with nx:=u D } Z G H s o f (fun Γ' l' σ' G' H' ⟨e1,e2⟩ g o' f' e=>by
  subst e1 e2;exact k.after na g o' f' (λi _=>e i λz=>z) n r) r
theorem Sm.ext0{x:Nat}{m:List α}(hx:Γ[x]?=some (some (W3 (.ref a))))(h:Tg Vb Γ te (Is m))(hl:l.length+m.length<=100000)(k:Sm Vb J a (l++m) Γ Jh N R):Sm Vb J a l Γ (zg8 (tBM K "list" zhm (zby x) (ZW te Qh))) N R:=λna D Z G H s o f n r=>by
 obtain⟨v,e,z⟩:=f.2 x _ hx;have z:v=.ref a:=z;subst z;obtain⟨xs,h1,h2⟩:=o.st;have hlen:=h2.len;rw[aa]at hlen;refine⟨_,e,.inl ⟨rfl,xs,SqL.of h1⟩,h Z G H _ s f λy G1 H1 g1 z1=>?_⟩;obtain⟨b,zs,rfl,b1,b2⟩:=tQ.mp z1;have hlen2:=b2.len;rw[aa]at hlen2;obtain⟨o1,g1'⟩:=o.go na.n g1;obtain⟨ys,q1,q2⟩:=o1.st;obtain⟨e1,_⟩:=g1.hid a _ na.n h1 o.no;rw[e1]at q1;cases q1
 refine⟨a,b,xs,zs,rfl,rfl,e1,g1.v.sub _ _ b1,ao (show xs.length+zs.length<=100000 by omega) (by decide),?_⟩;obtain⟨o2,g2⟩:=grow na g1.v o1.no e1 (q2.app b2);exact k.after na (g1'.trans g2) (by rw[aF];exact o2) ((f.same g1.sm)) (λ_ _=>rfl) n r
theorem Sm.for1(I:Nat->Cxt->List α->Prop)(hi:Ti Vb Γ wi L)(h0:I 0 Γ l)(hs:∀(i:Nat) (b:β),L[i]?=some b->∀Γ' l',I i Γ' l'->Sm Vb J a l' (Γ'.set x (some (Is b))) t (I (i+1)) R)(hd:∀Γ' l',I L.length Γ' l'->N Γ' l')(hx:J x:=by first | trivial | decide):Sm Vb J a l Γ (zh1 wi (j9 x) t) N R:=λna D Z G H s o f n r=>hi Z G H _ s f λJt G1 H1 g1 y=>by
 obtain⟨o1,g1'⟩:=o.go na.n g1;refine⟨λi m σ' H2=>m=L.length-i/\i<=L.length/\∃Γ' l' G2,I i Γ' l'/\Gr (Vb.hd a) G1 H1 G2 H2/\Own a G2 H2 (l'.map en)/\Fits Γ' G2 σ'/\∀i,¬ J i->σ'[i]?=Z[i]?,⟨_,rfl,bK _,Γ,l,G1,h0,.rh o1 g1.v,o1,f.same g1.sm,λ_ _=>rfl⟩,?_⟩;rintro i m σ' H2 ⟨rfl,hi,Γ',l',G2,hI,g2,o2,f2,e2⟩;have yl:=y G2 H2 g2.sm g2.v.sub i;by_cases hlt:i<L.length
 ·obtain⟨h1,h2⟩:=yl.2 hlt;refine .inr ⟨h1,fun σ' H'=>∃Γ' l' G2,I (i+1) Γ' l'/\Gr (Vb.hd a) G1 H1 G2 H'/\Own a G2 H' (l'.map en)/\Fits Γ' G2 σ'/\∀i,¬ J i->σ'[i]?=Z[i]?,fun σ' H' z=>⟨_,by omega,rfl,hlt,z⟩,λx H' z=>?_⟩;obtain⟨rfl,zx⟩:=h2 x H' z;exact hs i _ (aj hlt) Γ' l' hI na _ _ G2 _ g2.lo o2 (f2.set zx) (fun Γ3 l3 σ3 G3 H3 a b c d e=>⟨Γ3,l3,G3,a,g2.trans b,c,d,λj hj=>((e j hj).trans (Uc hx hj)).trans (e2 j hj)⟩) λv G' H' a b=>r v G' H' (g1'.trans (g2.trans a)) b
 ·have e:i=L.length:=by omega
  subst e;exact .inl ⟨yl.1 (au _),n Γ' l' σ' G2 _ (hd _ _ hI) (g1'.trans g2) o2 f2 e2⟩
theorem Sm.seq(h:Sm Vb J a l Γ t N1 R)(k:∀Γ1 l1,N1 Γ1 l1->Sm Vb J a l1 Γ1 u N R):Sm Vb J a l Γ (Y9 t u) N R:=λna D Z G H s o f n r=>h na _ Z G H s o f (fun Γ1 l1 σ1 G1 H1 a1 g1 o1 f1 e=>(k Γ1 l1 a1).after na g1 o1 f1 e n r) r
theorem Sm.fors(I:Nat->Cxt->List α->Prop)(hi:Ti Vb Γ wi L)(h0:I 0 Γ l)(hs:∀(i:Nat) (b:β),L[i]?=some b->∀Γ' l',I i Γ' l'->Sm Vb J a l' (Γ'.set x (some (Is b))) t (I (i+1)) R)(hd:∀Γ' l',I L.length Γ' l'->Sm Vb J a l' Γ' u N R)(hx:J x:=by first | trivial | decide):Sm Vb J a l Γ (Y9 (zh1 wi (j9 x) t) u) N R:=.seq (.for1 I hi h0 hs (λ_ _ h=>h) hx) hd
theorem Sg.acc{N:Cxt->Prop}(wr:Wr Vb)(k:∀a,Sm Vb J a ([]:List α) (Γ.set x (some (W3 (.ref a)))) u (fun Γ' _=>N Γ') R)(hx:J x:=by first | trivial | decide):Sg Vb J Γ (Y9 (zaO (zhC Qh) (j9 x)) u) N R:=λD Z G H s f n r=>⟨bK _,λp hp=>by
 have na:¬ Vb.may p:=λh=>Vb.nm s.ok h hp;have gp:=s.sub.free hp;have mh:Same H (upd H p (.lst [])):=λb u q=>by rw[zA (zF q hp)];exact q
 have vw:Vw Vb G (upd H p (.lst [])):=⟨s.sub.trans mh,Vb.mo s.ok mh,s.no⟩
 have back:∀{G' H':Hp},Gr (Vb.hd p) G (upd H p (.lst [])) G' H'->Gr Vb G H G' H':=λ{G' H'} g=>⟨g.lo,g.sm,λc o m h1 h2=>g.hid c o (λz=>by
  rcases z with z | rfl
  ·exact m z
  ·rw[hp]at h1;cases h1) (mh _ _ h1) h2⟩
 exact k p ⟨na,wr⟩ D _ G _ vw ⟨gp,[],zq,by rw[dh,Ats]⟩ (f.set rfl) (fun Γ' l' σ' G' H' a b c d e=>n Γ' σ' G' H' a (back b) d λi hi=>(e i hi).trans (Uc hx hi)) λv G' H' a b=>r v G' H' (back a) b⟩
theorem Fits.at(f:Fits Γ G Z)(e:Z[x]?=some (some v))(h:T.p G v):Fits (Γ.set x (some T)) G Z:=by
 have:=f.set (i:=x) h;have e2:Z.set x (some v)=Z:=by
  apply gH;intro i;rw[oh];by_cases z:x=i
  ·subst z;have:=(aO.mp e).1;rw[if_pos rfl,if_pos this,e]
  ·rw[if_neg z]
 rwa[e2]at this
def offs(js:List Nat)(Γ:Cxt):Cxt:=(aD Γ.length).map λi=>if i∈js then none else (Γ[i]?).join
theorem Own.open(o:Own a G H (l.map en))(na:¬ Vb.may a)(s:Vw Vb G H):∃G0,Vw Vb G0 H/\Same G G0/\(Is l).p G0 (.ref a)/\∀G' H',Gr Vb G0 H G' H'->Same G (aw [a] G')/\Gr (Vb.hd a) G H (aw [a] G') H'/\Own a (aw [a] G') H' (l.map en):=by
 obtain⟨xs,h1,h2⟩:=o.st;have m0:Same G (upd G a (.lst xs)):=λb u q=>by rw[zA (zF q o.no)];exact q
 refine⟨upd G a (.lst xs),⟨λc u q=>?_,s.ok,λc hc=>?_⟩,m0,tQ.mpr ⟨a,xs,rfl,zq,h2.same m0⟩,λG' H' g=>?_⟩
 ·by_cases z:c=a
  ·subst z;rw[zq]at q;cases q;exact h1
  ·rw[zA z]at q;exact s.sub _ _ q
 ·rw[zA (λz=>na (by rw[<-z];exact hc))];exact s.no c hc
 ·have ha:a∈[a]:=by simp
  have m1:Same G (aw [a] G'):=λc u q=>by
   have nc:c∉[a]:=by simpa using zF q o.no
   rw[yq nc];exact g.sm _ _ (m0 _ _ q)
  have e1:H' a=some (.lst xs):=g.v.sub _ _ (g.sm _ _ zq);refine⟨m1,⟨⟨(yj _ _).trans g.v.sub,⟨g.v.ok,xs,e1⟩,λc hc=>?_⟩,m1,λc u m q1 q2=>?_⟩,Vk ha,xs,e1,h2.same m1⟩
  ·rcases hc with hc | rfl
   ·by_cases z:c∈[a]
    ·exact Vk z
    ·rw[yq z];exact g.v.no c hc
   ·exact Vk ha
  ·have nc:c≠a:=λz=>m (.inr z);have nc':c∉[a]:=by simpa using nc
   obtain⟨p1,p2⟩:=g.hid c u (λz=>m (.inl z)) q1 (by rw[zA nc];exact q2);exact⟨p1,by rw[yq nc'];exact p2⟩
theorem Sm.read(h:Sg Vb (·∈js) (Γ.set x (some (Is l))) t N1 R)(fr:zlh R)(hx:Γ[x]?=some (some (W3 (.ref a))))(hj:∀i∈js,J i)(h1:∀Γ1,N1 Γ1->Γ1.length=Γ.length)(hn:N (offs js Γ) l):Sm Vb J a l Γ t N R:=λna D Z G H s o f n r=>by
 obtain⟨v,e,z⟩:=f.2 x _ hx;have z:v=.ref a:=z;subst z;obtain⟨G0,s0,m0,i0,key⟩:=o.open na.n s;refine h D Z _ H s0 ((f.same m0).at e i0) (fun Γ' σ' G' H' a1 g f' fr'=>?_) λv G' H' g q=>r v _ H' (key _ _ g).2.1 (fr _ _ _ q);obtain⟨k1,k2,k3⟩:=key _ _ g;refine n _ l σ' _ H' hn k2 k3 ⟨?_,λi T q=>?_⟩ λi hi=>fr' i λz=>hi (hj i z)
 ·unfold offs;rw[aa,aX,f'.1,h1 _ a1]
 ·unfold offs at q;rw[ak]at q;obtain⟨k,hk,q⟩:=aM.mp q;have hk':=(aO.mp hk).1;rw[aX]at hk';rw[bO hk']at hk;cases hk
  by_cases z:i∈js
  ·rw[if_pos z]at q;cases q
  ·rw[if_neg z]at q;have q':Γ[i]?=some (some T):=by
    cases w:Γ[i]? with
    |none=>rw[w]at q;cases q
    |some o=>rw[w]at q;exact congrArg some q
   obtain⟨v,e1,p⟩:=f.2 i T q';exact⟨v,by rw[fr' i z];exact e1,T.mo k1 p⟩
theorem Sm.fin(h:Sg Vb J (Γ.set x (some (Is l))) u (λ_=>False) R)(fr:zlh R)(hx:Γ[x]?=some (some (W3 (.ref a)))):Sm Vb J a l Γ u N R:=λna D Z G H s o f n r=>by
 obtain⟨v,e,z⟩:=f.2 x _ hx;have z:v=.ref a:=z;subst z;obtain⟨G0,s0,m0,i0,key⟩:=o.open na.n s;exact h D Z _ H s0 ((f.same m0).at e i0) (λ_ _ _ _ z=>z.elim) λv G' H' g q=>r v _ H' (key _ _ g).2.1 (fr _ _ _ q)
end
theorem Gr.freshS(Q:aq->Prop)(v:Vw Vb G H)(hQ:∀c,Q c->H c=none)(hs:∀c o,¬ Vb.may c->H c=some o->H' c=some o)(ok:Vb.ok H'):∃G',Gr Vb G H G' H'/\Same G G'/\∀c,Q c->G' c=H' c:=by
 classical
 have gm:∀c o,G c=some o->¬ Vb.may c:=λc o h m=>by rw[v.no c m]at h;cases h
 have nq:∀c o,H c=some o->¬ Q c:=λc o h q=>by rw[hQ c q]at h;cases h
 have sm:Same G λc=>if Q c then H' c else G c:=λc o h=>by
  show (if Q c then H' c else G c)=_;rw[if_neg (nq c o (v.sub _ _ h))];exact h
 refine⟨λc=>if Q c then H' c else G c,⟨⟨λc o h=>?_,ok,λc m=>?_⟩,sm,λc o m h1 h2=>⟨hs c o m h1,?_⟩⟩,sm,λc q=>if_pos q⟩
 ·by_cases q:Q c
  ·rw[if_pos q]at h;exact h
  ·rw[if_neg q]at h;exact hs c o (gm c o h) (v.sub _ _ h)
 ·show (if Q c then H' c else G c)=_;rw[if_neg λq=>Vb.nm v.ok m (hQ c q)];exact v.no c m
 ·show (if Q c then H' c else G c)=_;rw[if_neg (nq c o h1)];exact h2
theorem Tg.sortF{l r:ZA}(h:Tg Vb Γ te (Is l))(nd:l.Nodup)(hl:l.length<=60)(e:∀l':ZA,l'.Perm l->l'.Pairwise (λx y=>HT.uE x y=true)->l'=r):Tg Vb Γ (zdQ te) (Is r):=λZ G H Q s f q=>h Z G H _ s f λx G1 H1 g1 z=>by
 obtain⟨a,zs,rfl,h1,h2,rfl⟩:=Yb.mp z;refine⟨a,zs,rfl,g1.v.sub _ _ h1,λy hy=>g1.v.sub _ _ (h2 y hy),nd,by rw[aa]at hl;exact hl,λD zs' H2 hD hD2 m pm pw=>?_⟩;have g2:=Gr.of g1.v m;obtain⟨g3,m3⟩:=Gr.new (o:=.lst (zs'.map λz=>V.ref z.1)) g2.v hD2;refine q _ _ _ (g1.trans (g2.trans g3)) (Yb.mpr ⟨D,zs',rfl,zq,λy hy=>m3 _ _ (h2 y (pm.mem_iff.mp hy)),e _ (pm.map _) (by rw[dO];exact pw)⟩)
section
variable {Vb:Wd} {J:Nat->Prop} {Γ:Cxt} {u ts:TS} {R T:Ty} {N:Cxt->Prop} {K:aN}
theorem Sg.try1{sp:Sp}{tr:TA}{Ts:List Ty}{Ch:aq}{x:Nat}(ha:Ta Vb Γ tr Ts)(h:Spg Vb sp Ts T)(k:Sg Vb J (Γ.set x (some T)) u N R)(hx:J x:=by first | trivial | decide):Sg Vb J Γ (Y9 (zgm K Ch (λEx=>zaO (zgx sp Ex tr) (j9 x)) ts) u) N R:=λD Z G H s f n r=>ha Z G H _ s f λvs G1 H1 g1 z1=>h vs G1 H1 _ _ g1.v z1 λv G2 H2 g2 z2=>k.after (g1.trans g2) (((f.same g1.sm).same g2.sm).set z2) (λi hi=>Uc hx hi) n r
theorem Sg.tryX{sp:Sp}{tr:TA}{Ts:List Ty}{C Ch:aq}{x:Nat}(ha:Ta Vb Γ tr Ts)(h:∀(vs:List V) (G H:Hp) (Q:VK) (E:XK),Vw Vb G H->Tis Ts G vs->(∀G' H',Gr Vb G H G' H'->E (.ref C) none H')->sp vs H Q E)(kt:rC K (.ref C) (.ref Ch)=some true)(k:Sg Vb J Γ (Y9 ts u) N R):Sg Vb J Γ (Y9 (zgm K Ch (λEx=>zaO (zgx sp Ex tr) (j9 x)) ts) u) N R:=λD Z G H s f n r=>ha Z G H _ s f λvs G1 H1 g1 z1=>h vs G1 H1 _ _ g1.v z1 λG2 H2 g2=>⟨C,rfl,kt,λe he=>by
 obtain⟨g3,m3⟩:=Gr.new (o:=zjB e C) g2.v he;have g4:=g1.trans (g2.trans g3);exact k.after g4 (f.same g4.sm) (λ_ _=>rfl) n r⟩
theorem zg2{l r:ZA}(nd:l.Nodup)(hl:l.length<=60)(e:∀l':ZA,l'.Perm l->l'.Pairwise (λx y=>HT.lexLt x y=true)->l'=r):Cb Vb (zi0 K) [Is l] (Is r):=.one λx G H Q s z q=>by
 obtain⟨a,zs,rfl,h1,h2,rfl⟩:=Yb.mp z;refine⟨a,zs,rfl,SqL.of (s.sub _ _ h1),by rw[aa]at hl;exact hl,λy hy=>SqL.of (s.sub _ _ (h2 y hy)),nd,λp zs' hp pm pw=>?_⟩;obtain⟨g,m⟩:=Gr.new (o:=.lst (zs'.map λz=>V.ref z.1)) s hp;exact q _ _ _ g (Yb.mpr ⟨p,zs',rfl,zq,λy hy=>m _ _ (h2 y (pm.mem_iff.mp hy)),e _ (pm.map _) (by rw[dO];exact pw)⟩)
end
end L2
namespace Lw
open PySem L2 PyProof.Rows
section
variable {P:cg} {w:cT} {K:aN} {mg:cG->Option aG} {base:dR}
def Uv(K:aN):Sp:=λvs H Q _=>∃(a:aq) (ns:List Int) (k:Nat),vs=[.ref a,.int k]/\SqL K H a (ns.map V.int)/\ns.length<=63/\k<=1000/\∀c:Int,Q (.int c) H
theorem zew:zG ["script","k"] ["script","k"] (zp Xc):={}
theorem zd2(D:Df K mg "_law_cell" Xc Bb f fd)(T:Blt mg):FnOk P w K mg base CX0 1 f fd Bb (Uv K):=by
 refine D.fn.ok zew (λvs H Q E h=>?_) (λcdv A outer s H vs Q E hr h=>?_)
 ·obtain⟨a,ns,k,rfl,_⟩:=h;rfl
 ·obtain⟨a,ns,k,rfl,hS,hlen,hk,kk⟩:=h;refine xu ?_;intro XX;let q1:Sq XX ((zj Xc).drop 1):=⟨_,zm (zE (zV xO (zV xO (zV Zj (zV Zj zu (pv 1)) (pv 1)) (zV Zj zu (pv 1))) zu))⟩
  refine⟨_,(zg (yx (zP zbg (pv 1) (zH (xG K) (by rfl) T.n_len PySem.boot_len (zc (pv 0) zf)) (zT _))
    (zm (zE (zX (wJ K) (pv 0) (pv 1) (λ_ _=>rfl))))
    zQ) q1.p),?_⟩
  refine⟨_,rfl,_,rfl,a,_,rfl,.inl hS,_,_,rfl,rfl,_,rfl,?_⟩;refine JC (λhlt=>?_) (λ_=>?_)
  ·have hlt':k<ns.length:=by
    have:=of_decide_eq_true hlt;rw[aa]at this;omega
   refine⟨_,rfl,_,rfl,a,_,_,.int (ns[k]),rfl,rfl,hS,?_,kk _⟩;exact vo (by rw[ak,aj hlt'];rfl)
  ·refine⟨_,rfl,_,_,rfl,rfl,.inl ⟨by decide,by decide⟩,_,rfl,_,_,rfl,rfl,.inr ⟨by omega,by omega⟩,_,rfl,_,_,rfl,rfl,.inl ⟨by decide,by decide⟩,_,_,rfl,rfl,_,_,rfl,rfl,kk _⟩
def zkb:List Int:=[2147483629,2147483587,2147483579,2147483563,2147483549,2147483543,2147483497]
def zaT(c k:Int):Int:=(c*48271+7919*k*k+104729*k+11) % 2147483647
def mixed(c k:Int):Int:=(zaT c k*zaT c k % zkb[(k % 7).toNat]!*16811+c % 5) / 8
theorem zhu(k:Int):∃v,zkb[(k % 7).toNat]?=some v/\zkb[(k % 7).toNat]! =v/\0<v/\v<2147483648:=by
 have h7:(k % 7).toNat<7:=by omega
 match (k % 7).toNat,h7 with
 |0,_=>exact⟨_,rfl,rfl,by decide,by decide⟩
 |1,_=>exact⟨_,rfl,rfl,by decide,by decide⟩
 |2,_=>exact⟨_,rfl,rfl,by decide,by decide⟩
 |3,_=>exact⟨_,rfl,rfl,by decide,by decide⟩
 |4,_=>exact⟨_,rfl,rfl,by decide,by decide⟩
 |5,_=>exact⟨_,rfl,rfl,by decide,by decide⟩
 |6,_=>exact⟨_,rfl,rfl,by decide,by decide⟩
theorem zak(c k:Int):0<=mixed c k/\mixed c k<2^50:=by
 obtain⟨v,_,e,h0,h1⟩:=zhu k;unfold mixed;rw[e];have x0:=gD (zaT c k*zaT c k) (show v≠0 by omega);have x1:=fL (zaT c k*zaT c k) h0;omega
def zdH(Ts:List Ty)(T:Ty):Prop:=∃c k:Int,Ts=[Is c,Is k]/\T=Is (mixed c k)/\0<=k/\k<=1000
theorem YL:zG ["cell","k","number","some"] ["cell","k"] (zp uO):={}
theorem YK(D:Df K mg "_law_mixed" uO Aq f fd):FnOk P w K mg base CX0 1 f fd Aq (spg Vb zdH):=by
  refine D.pj YL (by rintro _ _ ⟨c,k,rfl,_⟩;rfl) λcdv A outer s H E hr Ts T h=>?_;obtain⟨c,k,rfl,rfl,h0,h1⟩:=h;obtain⟨v,e1,e2,v0,v1⟩:=zhu k;refine⟨_,(zhT (zU (i:=2) YL.nd rfl (aW rfl) (zV qy (zV xO (zV xO (zV xO (zV Zj (pv 0) zu) (zV Zj (zV Zj zu (pv 1)) (pv 1))) (zV Zj zu (pv 1))) zu) zu))
   (zjl (i:=3) YL.nd rfl (aW rfl) (Wn U4 (Wn U4 (Wn U4 (Wn U4 (Wn U4 (Wn U4 (Wn U4 zkr)))))))
   (zg (zU (i:=2) YL.nd rfl (aW rfl) (zV qy (zV Zj (pv 2) (pv 2)) (zX (wJ K) (pv 3) (zV qy (pv 1) zu) (λ_ _=>rfl))))
   (zm (zE (zV VL (zV xO (zV Zj (pv 2) zu) (zV qy (pv 0) zu)) zu)))))),?_⟩
  show Sg Vb _ [some (Is c),some (Is k),none,none] _ _ _;have n0:0<=zaT c k:=gD _ (by decide);have n1:zaT c k<2147483647:=fL _ (by decide);refine Sg.set (T:=Is (zaT c k)) (.op (.op (.op (.op (.op (.var rfl) .int (JF (.inr ⟨by decide,by decide⟩))) (.op (.op .int (.var rfl) (JF (.inl ⟨by decide,by decide⟩))) (.var rfl) (JF (.inr ⟨by omega,by omega⟩))) Yc) (.op .int (.var rfl) (JF (.inl ⟨by decide,by decide⟩))) Yc) .int Yc) .int (Vm (by decide))) (Sg.set (.lst zkb (.cons .int (.cons .int (.cons .int (.cons .int (.cons .int (.cons .int (.cons .int .nil)))))))) ?_);refine Sg.set (.op (.op (.var rfl) (.var rfl) (JF (.inl ⟨by omega,by omega⟩))) (.op (.var rfl) (.op (.var rfl) .int (Vm (by decide))) (JG (by omega) e1)) (Vm v0)) (Sg.ret ?_);have x0:=gD (zaT c k*zaT c k) (show v≠0 by omega);have x1:=fL (zaT c k*zaT c k) v0;unfold mixed;rw[e2];exact (.op (.op (.op (.var rfl) .int (JF (.inr ⟨by decide,by decide⟩))) (.op (.var rfl) .int (Vm (by decide))) Yc) .int (ziA ⟨by decide,by decide⟩))
end
section
variable {P:cg} {w:cT} {K:aN} {mg:cG->Option aG} {base:dR} {T0:aq}
open Enc
structure WT (Vb:Wd) (T0:aq):Prop where
 lt:∀{H:Hp},Vb.ok H->LT T0 H
 go:∀{H H':Hp},Vb.ok H->SameL T0 H H'->LT T0 H'->Vb.ok H'
 ma:Vb.may T0
theorem LT.putL(h:LT T H)(e:H p=some (.lst xs)):LT T (upd H p (.lst ys)):=by
 rcases h with h | ⟨c,h1,h2⟩
 ·exact .inl (by rw[zA (jg h e (λz=>nomatch z))];exact h)
 ·exact .inr ⟨c,by rw[zA (jg h1 e (λz=>nomatch z))];exact h1,by rw[zA (jg h2 e (λz=>nomatch z))];exact h2⟩
def W0(T0:aq):Wd where
 ok:=LT T0
 may:=(·=T0)
 mo:=λh s=>h.same s
 nm:=λ{H a} h e q=>by
  have e:a=T0:=e;subst e;exact h.none q rfl
theorem W0.wr:Wr (W0 T0):=λh e _=>h.putL e
theorem W0.wt:WT (W0 T0) T0:=⟨λh=>h,λ_ _ h=>h,rfl⟩
theorem Gr.ofL(wt:WT Vb T0)(v:Vw Vb G H)(m:SameL T0 H H1)(l:LT T0 H1):Gr Vb G H G H1 :=
 ⟨⟨λb u q=>m b u (λz=>by rw[z,v.no _ wt.ma]at q;cases q) (v.sub _ _ q),wt.go v.ok m l,v.no⟩,Same.refl _,λa o n h1 h2=>⟨m a o (λz=>n (by rw[z];exact wt.ma)) h1,h2⟩⟩
abbrev Ru:=Int×ZA
structure GR (r:Ru) (b:Nat):Prop where
 e:r.1=(b:Int)
 g:GoodRule b r.2
theorem jd(g:GR r b):(Is r).p G v↔∃p bl zs,v=.ref p/\RuleAt G p b bl zs/\zs.map (·.2)=r.2:=by
 obtain⟨r1,r2⟩:=r;have e:r1=(b:Int):=g.e;subst e;rw[is_tup];constructor
 ·rintro⟨p,x,y,rfl,h1,h2,h3⟩;obtain⟨bl,zs,rfl,h4,h5,h6⟩:=Yb.mp h3;rw[zW.mp h2]at h1;exact⟨p,bl,zs,rfl,⟨h1,h4,h5⟩,h6⟩
 ·rintro⟨p,bl,zs,rfl,R,e⟩;exact⟨p,_,_,rfl,R.tu,zW.mpr rfl,Yb.mpr ⟨bl,zs,rfl,R.li,R.st,e⟩⟩
theorem zhN(h:Tis [S] G vs):∃x,vs=[x]/\S.p G x:=by
 cases h with
 |cons h r=>cases r;exact⟨_,rfl,h⟩
theorem zcL(h:Tis [S,T] G vs):∃x y,vs=[x,y]/\S.p G x/\T.p G y:=by
 cases h with
 |cons h r=>
  obtain⟨y,rfl,q⟩:=zhN r;exact⟨_,y,rfl,h,q⟩
theorem Jj{n:Int}(wt:WT Vb T0)(g:GR r b)(h0:0<=n)(hp:pre r.2 b n.toNat)(h:∀v,R r.2 b n.toNat v->∀G,T.p G v):Spg Vb (jz T0 pre R) [Is r,Is n] T:=λvs G H Q E s z q=>by
 obtain⟨x,y,rfl,h1,h2⟩:=zcL z;obtain⟨p,bl,zs,rfl,RA,e⟩:=(jd g).mp h1;rw[zW.mp h2,<-cD h0];refine⟨p,b,bl,zs,n.toNat,rfl,RA.same s.sub,by rw[e];exact g.g,by rw[e];exact hp,wt.lt s.ok,λv H' hr m l=>?_⟩;rw[e]at hr;exact q v G H' (Gr.ofL wt s m l) (h v hr G)
def gi(r:Ru)(n:Int):Bool:=gd r.2 r.1.toNat n.toNat
theorem zdF(g:GR r b)(n:Int):gi r n=gd r.2 b n.toNat:=by unfold gi;rw[g.e];rfl
def fi(b n:Int):List Int:=yJ b.toNat n.toNat
end
section
variable {P:cg} {w:cT} {K:aN} {mg:cG->Option aG} {base:dR}
theorem zjN:Same (aw [l] H) (aw [l] (upd H l o)):=λc u e=>by
 by_cases hc:c∈[l]
 ·rw[Vk hc]at e;cases e
 ·rw[yq hc]at e ⊢;rw[zA (λz=>hc (by rw[z];simp))];exact e
theorem zjw(n:H l=none)(s:Same (aw [l] H) (aw [l] H')):Same H H':=λc o e=>by
 have hc:c∉[l]:=by simpa using zF e n
 have:=s c o (by rw[yq hc];exact e);rwa[yq hc]at this
def QF:Sp:=λvs H Q _=>∃(c k:Nat),vs=[.int c,.int k]/\k<=1000/\∀(m:Nat) (H':Hp),(m:Int)<2^50->Same H H'->Q (.int m) H'
def Wno:Wd:=⟨λ_=>True,λ_=>False,λ_ _=>trivial,λ_ h=>h.elim⟩
theorem zb8(D:Df K mg "_law_mixed" uO Aq f fd):FnOk P w K mg base CX0 1 f fd Aq QF :=
 (YK (Vb:=Wno) D).imp λvs H Q E ⟨c,k,h,hk,kk⟩=>⟨_,_,H,⟨c,k,rfl,rfl,by omega,by omega⟩,⟨Same.refl _,trivial,λ_ z=>z.elim⟩,by rw[h];exact .cons (zW.mpr rfl) (.cons (zW.mpr rfl) .nil),λv G' H' g z=>by
  obtain⟨h0,h1⟩:=zak c k;rw[zW.mp z,<-cD h0];exact kk _ H' (by omega) λa o e=>g.big (Same.refl _) (λz=>z) e⟩
def UT:Sp:=λvs H Q _=>∃c:Nat,vs=[.int c]/\∀r b bl zs H',Same H H'->RuleAt H' r b bl zs->H r=none->H bl=none->(∀z∈zs,H z.1=none)->GoodRule b (zs.map (·.2))->Q (.ref r) H'
theorem qJ:zG ["cell","base","bad","k","wide","long","one"] ["cell"] (zp vO):={}
set_option maxHeartbeats 0 in
theorem zem(D:Df K mg "_law_rule" vO ["cell"] f fd)(yz:Df K mg "_law_mixed" uO Aq f1 fd1)(T:Blt mg):FnOk P w K mg base CX0 2 f fd ["cell"] UT:=by
 have wk:FnOk P w K mg base CX0 1 f1 fd1 Aq QF:=zb8 yz;refine D.fn.ok qJ (λvs H Q E h=>?_) (λcdv A outer s H vs Q E hr h=>?_)
 ·obtain⟨c,rfl,_⟩:=h;rfl
 ·obtain⟨c,rfl,kk⟩:=h;have HU:=Vv hr;refine xu ?_;intro XX;let q1:Sq XX ((zj vO).drop 3):=⟨_,zm (zE (Zi (zc (pv 1) (zc (zH (zac K HU) (by rfl) T.n_sorted lH (zc (pv 2) zf)) zf))))⟩
  let q2:Sq XX ((sb (zj vO) 2 true).drop 3):=⟨_,zm (yx (zP (Xb K HU) (pv 6) (pv 2) (by with_unfolding_all rfl))
     (zm (yw (Vx PySem.F.plainAttrs_list PySem.F.slot_list_append PySem.F.type_list_append qU (pv 2) (zc (pv 6) zf))))
     zQ)⟩
  let q3:Sq XX ((sb (zj vO) 2 true).drop 2):=⟨_,zg (wL (i:=6) (show CScope (zp vO) _ "j" ["cell","base","bad","k","wide","long","one"] ["wide","cell","k"] [4,0,3] from {}) rfl qJ.nd rfl (aW rfl) (yM rfl T.n_range (zc (pv 5) zf)) (λ_ _ _ _=>vU) (λ_ _ _ _=>(zV qy (zK yz wk (hr.mono (by decide)) (zc (pv 2) (zc (zV xO (zV xO zu (zV Zj zu (pv 3))) (pv 0)) zf))) (pv 1)))) q2.p⟩
  let q4:Sq XX ((sb (zj vO) 2 true).drop 1):=⟨_,zg (zU (i:=5) qJ.nd rfl (aW rfl) (zV xO zu (zV qy (zK yz wk (hr.mono (by decide)) (zc (pv 0) (zc (zV xO zu (pv 3)) zf))) zu))) q3.p⟩
  let q5:Sq XX ((zj vO).drop 2):=⟨_,zg (wR bj rfl (yM rfl T.n_range (zc (zV qy (zV VL (pv 0) zu) zu) zf)) (yV (i:=3) qJ.nd rfl (lE rfl))
    (zg (zU (i:=4) qJ.nd rfl (lE rfl) (zX (wJ K) (yR (zc (pv 1) (zc (zH (zdR rfl) (by rfl) T.n_min boot_min (zc (pv 1) (zc zu zf))) (zc zu zf)))) (zV qy (zK yz wk (hr.mono (by decide)) (zc (pv 0) (zc (pv 3) zf))) zu) (λ_ _=>rfl))) q4.p)) q1.p⟩
  let q6:Sq XX ((zj vO).drop 1):=⟨_,zg (zU (i:=2) qJ.nd rfl (aW rfl) (yR zf)) q5.p⟩
  refine⟨_,(zg (zU (i:=1) qJ.nd rfl (aW rfl) (zV xO zu (zV qy (pv 0) zu))) q6.p),?_⟩;refine⟨_,rfl,_,_,rfl,rfl,(by decide:(0:Int)<15),_,_,rfl,rfl,?_⟩;obtain⟨b,hb,b2,b16⟩:∃b:Nat,b=2+c % 15/\2<=b/\b<=16:=⟨2+c % 15,rfl,by omega,by omega⟩
  refine⟨(by decide:0<=aZ),λbl hbl=>?_⟩;refine⟨_,rfl,_,_,rfl,rfl,⟨by decide,by decide⟩,_,_,rfl,rfl,(by decide:(0:Int)<5),?_⟩;obtain⟨N,hN,hN4⟩:∃N:Nat,N=c / 15 % 5/\N<=4:=⟨c / 15 % 5,rfl,by omega⟩
  have s0:=zy hbl (o:=.lst []);refine⟨(N:Int),by rw[hN];rfl,by omega,by omega,jL (lo:=0) (n:=(N:Int).toNat) (λi Z H15=>∃(v3 v4 v5 v6:Option V) (zs:ZB),Z=[some (.int c),some (.int b),some (.ref bl),v3,v4,v5,v6]/\zs.length<=i/\H15 bl=some (.lst (zs.map λz=>V.ref z.1))/\(∀z∈zs,H15 z.1=some (.lst (z.2.map V.int))/\z.1≠bl/\H z.1=none)/\(∀l∈zs.map (·.2),zay b l)/\(zs.map (·.2)).Nodup/\Same (aw [bl] H) (aw [bl] H15)) ⟨none,none,none,none,[],(by rw[hb];rfl),au _,(by rw[zq];rfl),(by simp),(by simp),(by simp),s0.aw [bl]⟩ ?_ ?_⟩
  ·rintro i Z H15 hi ⟨v3,v4,v5,v6,zs,rfl,hzl,hB,hZ,hG,nd,sm⟩;refine⟨_,rfl,_,rfl,_,_,rfl,(by show 3<=aZ;decide),λl1 hl1=>?_⟩;have m1:=zy hl1 (o:=.lst [V.int b,V.int (if (3:Int)<(b:Int) then (3:Int) else (b:Int)),V.int 2]);refine⟨_,rfl,_,rfl,c,i,by rw[cM];rfl,by omega,λx1 H1 hx1 s1=>?_⟩;obtain⟨wd,hw,hw2,hwb⟩:∃wd:Nat,atI [V.int b,V.int (if (3:Int)<(b:Int) then (3:Int) else (b:Int)),V.int 2] ((x1:Int) % 3)=some (.int wd)/\2<=wd/\wd<=b:=by
    have h3:x1 % 3<3:=iz _ (by decide);rw[show (x1:Int) % 3=((x1 % 3:Nat):Int) by omega]
    match x1 % 3,h3 with
    |0,_=>exact⟨b,rfl,by omega,by omega⟩
    |1,_=>
     by_cases z:3<b
     ·exact⟨3,by rw[if_pos (by omega)];rfl,by omega,by omega⟩
     ·exact⟨b,by rw[if_neg (by omega)];rfl,by omega,by omega⟩
    |2,_=>exact⟨2,rfl,by omega,by omega⟩
   refine⟨_,_,rfl,rfl,(by decide:(0:Int)<3),l1,_,_,V.int wd,rfl,rfl,SqL.of (s1 _ _ zq),hw,?_⟩;refine⟨_,rfl,_,rfl,_,_,rfl,rfl,c,10+i,by rw[cM];rfl,by omega,λx2 H2 hx2 s2=>?_⟩;refine⟨_,_,rfl,rfl,(by decide:(0:Int)<4),_,_,rfl,rfl,?_⟩;obtain⟨lg,hlg,lg1,lg4⟩:∃lg:Nat,lg=1+x2 % 4/\1<=lg/\lg<=4:=⟨1+x2 % 4,rfl,by omega,by omega⟩
   have m12:=m1.trans (s1.trans s2);refine⟨_,rfl,(lg:Int),by rw[hlg];rfl,by omega,by omega,jF (lo:=0) (n:=(lg:Int).toNat) (λj ys Hc=>Same H15 Hc/\∃ms:List Int,ys=ms.map V.int/\ms.length=j/\∀f∈ms,0<=f/\f<(b:Int)) ⟨m12,[],rfl,rfl,by simp⟩ ?_ ?_⟩
   ·rintro j ys Hc hj ⟨Sc,ms,rfl,hml,hmf⟩;refine⟨by rw[aa,hml];exact aA (show j<5 by omega) (by decide),?_⟩;unfold Vp;dsimp only;rw[if_pos rfl];refine⟨_,rfl,_,rfl,_,_,rfl,rfl,.inl ⟨by decide,by decide⟩,_,_,rfl,rfl,_,rfl,_,_,rfl,rfl,c,20+4*i+j,?_,by omega,λy2 H17 hy2 S17=>?_⟩
    ·show [V.int c,V.int (20+4*(0+(i:Int))+(0+(j:Int)))]=_;rw[show (20+4*(0+(i:Int))+(0+(j:Int)))=((20+4*i+j:Nat):Int) by omega]
    refine⟨_,rfl,_,_,rfl,rfl,(by omega:(0:Int)<(wd:Int)),Sc.trans S17,ms++[(y2:Int) % (wd:Int)],by simp,by simp[hml],λf hf=>?_⟩;rcases bf.mp hf with hf | hf
    ·exact hmf f hf
    ·have e:f=(y2:Int) % (wd:Int):=by simpa using hf
     have:=fL (y2:Int) (by omega:(0:Int)<(wd:Int));have:=gD (y2:Int) (by omega:(wd:Int)≠0);omega
   ·rintro ys Hc ⟨Sc,ms,rfl,hml,hmf⟩ p hp;have hBc:=Sc _ _ hB;have nbp:bl≠p:=zF hBc hp;have hZc:∀z∈zs,Hc z.1=some (.lst (z.2.map V.int)):=λz hz=>Sc _ _ (hZ z hz).1;refine⟨_,rfl,_,rfl,bl,_,(zs.map (·.2)).map xT,xT ms,rfl,SqL.of (zy hp _ _ hBc),TrsAt.lists (λz hz=>zy hp _ _ (hZc z hz)),TrAt.ints (a:=p) (SqL.of zq),ao (qe _) (by decide),_,rfl,?_⟩;have sm2:Same (aw [bl] H) (aw [bl] (upd Hc p (.lst (ms.map V.int)))):=sm.trans ((Sc.trans (zy hp)).aw _);rw[if_pos rfl,VG];by_cases hin:ms∈zs.map (·.2)
    ·rw[decide_eq_true hin];refine wN ?_;exact⟨_,_,_,_,zs,rfl,by omega,zy hp _ _ hBc,λz hz=>⟨zy hp _ _ (hZc z hz),(hZ z hz).2⟩,hG,nd,sm2⟩
    ·rw[decide_eq_false hin];refine qd ?_;refine⟨_,rfl,.inl ⟨rfl,_,SqL.of (zy hp _ _ hBc)⟩,_,rfl,bl,_,_,rfl,rfl,zy hp _ _ hBc,by rw[aa];exact bw (show zs.length<=4 by omega) (by decide),?_⟩;refine⟨_,_,_,_,zs++[(p,ms)],rfl,by rw[aB,aU];omega,by rw[zq];simp,λz hz=>?_,λl hl=>?_,?_,sm2.trans zjN⟩
     ·rcases bf.mp hz with hz | hz
      ·rw[zA (hZ z hz).2.1];exact⟨zy hp _ _ (hZc z hz),(hZ z hz).2⟩
      ·have e:z=(p,ms):=by simpa using hz
       subst e;exact⟨by rw[zA (cP nbp),zq],cP nbp,((zjw hbl sm).trans Sc).free hp⟩
     ·rw[aF]at hl;rcases bf.mp hl with hl | hl
      ·exact hG l hl
      ·have e:l=ms:=by simpa using hl
       subst e;exact⟨λz=>by rw[z]at hml;simp at hml;omega,by omega,hmf⟩
     ·rw[aF];refine fP.mpr ⟨nd,by simp,λx hx y hy=>?_⟩;have e:y=ms:=by simpa using hy
      rw[e];exact λz=>hin (z▸hx)
  ·rintro Z H15 ⟨v3,v4,v5,v6,zs,rfl,hzl,hB,hZ,hG,nd,sm⟩;refine⟨_,rfl,_,rfl,bl,zs,rfl,SqL.of hB,by omega,λz hz=>SqL.of (hZ z hz).1,nd,λp zs' hp pm pw=>⟨(by show 2<=aZ;decide),λr hr=>?_⟩⟩;have s1:=zy hp (o:=.lst (zs'.map λz=>V.ref z.1));have s2:=zy hr (o:=.tup [V.int b,V.ref p]);have hH:=zjw hbl sm;exact kk r b p zs' _ (hH.trans (s1.trans s2)) ⟨zq,s2 _ _ zq,λz hz=>s2 _ _ (s1 _ _ (hZ z (pm.mem_iff.mp hz)).1)⟩ ((hH.trans s1).free hr) (hH.free hp) (λz hz=>(hZ z (pm.mem_iff.mp hz)).2.2) ⟨b2,b16,by rw[aa,pm.length_eq];omega,λl hl=>by
    obtain⟨z,hz,rfl⟩:=bh.mp hl;exact hG _ (bh.mpr ⟨z,pm.mem_iff.mp hz,rfl⟩),by rw[dO];exact pw⟩
def uG:Sp:=λvs H Q _=>∃b n:Nat,vs=[.int b,.int n]/\2<=b/\b<=16/\n<2^100 /\
 ∀l H',H l=none->H' l=some (.lst ((yJ b n).map V.int))->Same H H'->Q (.ref l) H'
theorem Zf:zG ["base","n","found"] ["base","n"] (zp xg):={}
theorem Zb(D:Df K mg "_law_figures" xg Ae f fd):FnOk P w K mg base CX0 1 f fd Ae uG:=by
 refine D.fn.ok Zf (λvs H Q E h=>?_) (λcdv A outer s H vs Q E hr h=>?_)
 ·obtain⟨b,n,rfl,_⟩:=h;rfl
 ·obtain⟨b,n,rfl,b2,b16,hn,kk⟩:=h;have hlen:=uP b2 100 n hn;refine xu ?_;intro XX;let q1:Sq XX ((zj xg).drop 2):=⟨_,zm (zE (pv 2))⟩
  let q2:Sq XX ((sb (zj xg) 1 true).drop 1):=⟨_,zm (zU (i:=2) Zf.nd rfl (aW rfl) (zV ZZ (yR (zc (zV qy (pv 1) (pv 0)) zf)) (pv 2)))⟩
  let q3:Sq XX ((zj xg).drop 1):=⟨_,zg (JW bj (zP zjf (pv 1) (pv 0) (zT _))
    (zg (zU (i:=1) Zf.nd rfl (aW rfl) (zV VL (pv 1) (pv 0))) q2.p)) q1.p⟩
  refine⟨_,(zg (zU (i:=2) Zf.nd rfl (aW rfl) (yR (zc (zV qy (pv 1) (pv 0)) zf))) q3.p),?_⟩;refine⟨_,rfl,_,rfl,_,_,rfl,rfl,by omega,(by show 1<=aZ;decide),λl0 hl0=>?_⟩;refine zad (λZ H2=>∃(m:Nat) (l:aq) (fs:List Int),Z=[some (.int b),some (.int m),some (.ref l)]/\yJ b n=ahead b (m / b)++fs/\H l=none/\H2 l=some (.lst (fs.map V.int))/\Same H H2)
   (λZ _=>match Z with | [_,some (.int m),_]=>m.toNat | _=>0) ⟨n,l0,[((n % b:Nat):Int)],rfl,QL b2,hl0,by rw[zq];simp,zy hl0⟩ ?_ ?_
  ·rintro Z H2 ⟨m,l,fs,rfl,he,hl,hv,sm⟩;refine⟨_,rfl,_,rfl,_,_,rfl,rfl,_,rfl,?_⟩;refine JC (λhc=>?_) (λhc=>?_)
   ·have hc':b<=m:=by have:=of_decide_eq_true hc;omega
    have hm1:m / b<m:=gB (by omega) (by omega);have hm0:m / b≠0:=λz=>by
     have:=(Nat.div_eq_zero_iff (a:=m) (b:=b)).mp z;omega
    refine⟨_,rfl,_,rfl,_,_,rfl,rfl,⟨by omega,by omega⟩,_,rfl,_,rfl,_,_,rfl,rfl,by omega,(by show 1<=aZ;decide),λl1 hl1=>?_⟩;have s1:=zy hl1 (o:=.lst [V.int ((m:Int) / (b:Int) % (b:Int))]);have hfl:fs.length<=101:=by have:=congrArg c7 he;rw[aB]at this;omega
    refine⟨_,rfl,l1,l,_,_,rfl,rfl,zq,s1 _ _ hv,by rw[aa];exact ao (show 1+fs.length<=102 by omega) (by decide),λl2 hl2=>⟨⟨m / b,l2,((m / b % b:Nat):Int)::fs,?_,?_,sm.free (s1.free hl2),?_,sm.trans (s1.trans (zy hl2))⟩,?_⟩⟩
    ·rw[oX];rfl
    ·rw[he,ahead,if_neg hm0,QL b2,cQ];rfl
    ·rw[zq,bz,Int.natCast_emod,oX];rfl
    ·show ((m:Int) / (b:Int)).toNat<(m:Int).toNat;rw[show (m:Int) / (b:Int)=((m / b:Nat):Int) from (oX m b).symm];omega
   ·have hc':m<b:=by
     by_cases z:m<b
     ·exact z
     ·exact absurd (decide_eq_true (by omega:(b:Int)<=(m:Int))) hc
    rw[fc hc',ahead,if_pos rfl,fC]at he;refine⟨_,rfl,kk l H2 hl (by rw[he];exact hv) sm⟩
  ·intro Z H2 Q Q' hq;rintro⟨v0,e0,v1,e1,i,j,h1,h2,c,e3,q⟩;exact⟨v0,e0,v1,e1,i,j,h1,h2,c,e3,hq _ _ q⟩
end
section
variable {P:cg} {w:cT} {K:aN} {mg:cG->Option aG} {base:dR} {T0:aq} {Vb:Wd}
open Enc
theorem GR.lo(g:GR r b):2<=r.1/\r.1<=16:=by have:=g.g.b2;have:=g.g.b16;rw[g.e];omega
theorem Z9(h2:2<=b)(h16:b<=16)(h0:0<=n)(hn:n<2^100):Spg Vb uG [Is b,Is n] (Is (fi b n)):=λvs G H Q E s z q=>by
 obtain⟨x,y,rfl,h1,h3⟩:=zcL z;rw[zW.mp h1,zW.mp h3,<-cD h0,<-cD (show 0<=b by omega)];refine⟨_,_,rfl,by omega,by omega,by omega,λl H' hl e m=>?_⟩;obtain⟨g,m2⟩:=Gr.fresh s hl e m;exact q _ _ H' g (Ze.mpr ⟨l,rfl,zq⟩)
def zaU(Ts:List Ty)(T:Ty):Prop:=∃r b n,Ts=[Is r,Is n]/\T=Is (gi r n)/\GR r b/\0<=n/\n<2^100
theorem QH(g:GR r b)(h0:0<=n)(h1:n<2^100):Spg Vb (spg Vb zaU) [Is r,Is n] (Is (gi r n)):=spg.of ⟨r,b,n,rfl,rfl,g,h0,h1⟩
theorem Xz:zG ["rule","n","figures","one","at"] ["rule","n"] (zp ql):={}
theorem Ur(D:Df K mg "_law_good" ql Ab f fd)(yf:Df K mg "_law_figures" xg Ae f1 fd1)(T:Blt mg):FnOk P w K mg base CX0 2 f fd Ab (spg Vb zaU):=by
  have tG:FnOk P w K mg base CX0 1 f1 fd1 Ae uG:=Zb yf;refine D.pj Xz (by rintro _ _ ⟨r,b,n,rfl,_⟩;rfl) λcdv A outer s H E hr Ts T h=>?_;obtain⟨r,b,n,rfl,rfl,g,h0,h1⟩:=h;have HU:=Vv hr;obtain⟨b2,b16⟩:=g.lo;have hl:(fi r.1 n).length<=101:=by rw[fi,g.e];exact uP g.g.b2 100 _ (by omega)
  refine Je ?_;intro XX;let q1:Sq XX ((zj ql).drop 2):=⟨_,zm (zE vX)⟩
  let q2:Sq XX ((zj ql).drop 1):=⟨_,zg (wR bj rfl (jh K (zX (yP K) (pv 0) zu (λ_ _=>rfl))) (yV (i:=3) Xz.nd rfl (aW rfl))
    (zm (wR bj rfl (yM rfl T.n_range (zc (zV xO (zV Zq (zH (xG K) (by rfl) T.n_len PySem.boot_len (zc (pv 2) zf)) (zH (xG K) (by rfl) T.n_len PySem.boot_len (zc (pv 3) zf))) zu) zf)) (yV (i:=4) Xz.nd rfl (aW rfl))
     (zm (yx (zP (U5 K HU) (tX (V1 K) (pv 2) (tK (pv 4)) (tK (zV xO (pv 4) (zH (xG K) (by rfl) T.n_len PySem.boot_len (zc (pv 3) zf))))) (pv 3) (zT _))
      (zm (zE vX))
      zQ))))) q1.p⟩
  refine⟨_,(zg (zU (i:=2) Xz.nd rfl (aW rfl) (zK yf tG (hr.mono (by decide)) (zc (zX (yP K) (pv 0) zu (λ_ _=>rfl)) (zc (pv 1) zf)))) q2.p),?_⟩;refine Sg.set (.call (.cons (.op (.var rfl) .int WX) (.cons (.var rfl) .nil)) (Z9 b2 b16 h0 (by omega))) ?_;generalize hfs:fi r.1 n=fs at hl ⊢;have hgi:gi r n=lacks r.2 fs:=by rw[<-hfs];rfl
  refine Sg.fors (λi Γ=>(∀l∈r.2.take i,Zr l fs=false)/\∃T3 T4,Γ=[some (Is r),some (Is n),some (Is fs),T3,T4]) (.list (.op (.var rfl) .int Qz)) ⟨by simp,_,_,rfl⟩ ?_ ?_
  ·rintro i l hl2 Γ ⟨hno,T3,T4,rfl⟩;have hlm:=aJ hl2;have hne:=(g.g.st l hlm).ne;have hl4:=(g.g.st l hlm).len;refine Sg.for1 (λj Γ=>(∀k,k<j->(fs.drop k).take l.length≠l)/\∃T4,Γ=[some (Is r),some (Is n),some (Is fs),some (Is l),T4]) (.rng1 (.op (.op (.cb (.cons (.var rfl) .nil) qt) (.cb (.cons (.var rfl) .nil) qt) zi6) .int Yc) rfl (by omega)) ⟨λk hk=>by omega,_,rfl⟩ ?_ ?_
   ·rintro j a hj Γ ⟨hk,T4,rfl⟩;obtain⟨hj,rfl⟩:=Qy hj;rw[cM];refine Sg.iff (.val (.op (.sl (.var rfl) (.some (.var rfl)) (.some (.op (.var rfl) (.cb (.cons (.var rfl) .nil) qt) Yc)) (zfH _ _ _)) (.var rfl) Jg)) (λe=>Sg.ret (.eq .bl ?_)) λe=>Sg.nil ⟨λk hk'=>?_,_,rfl⟩
    ·have e:=of_decide_eq_true e;rw[hgi];have:lacks r.2 fs=false:=by
      unfold lacks;rw[sZ,cI];exact⟨l,hlm,(tR hne).mpr ⟨j,e⟩⟩
     rw[this]
    ·by_cases z:k<j
     ·exact hk k z
     ·have:k=j:=by omega
      subst this;exact of_decide_eq_false e
   ·rintro Γ ⟨hk,T4,rfl⟩;refine⟨λl' hl'=>?_,_,_,rfl⟩;rw[gK,hl2]at hl';rcases bf.mp hl' with h | h
    ·exact hno l' h
    ·have e:l'=l:=by simpa using h
     subst e;rw[Ju hne,cu];intro k hk2;rw[uQ]at hk;have:=hk k (cZ.mp hk2);simpa using this
  ·rintro Γ ⟨hno,T3,T4,rfl⟩;rw[cj]at hno;refine Sg.ret (.eq .bl ?_);have:lacks r.2 fs=true:=by
    unfold lacks;rw[cU,cu];intro l hl;rw[hno l hl];decide
   rw[hgi,this]
end
open PySem L2
theorem WW(m:Nat):rng 0 (m+1)=rng 0 m++[(m:Int)]:=by
 unfold rng;rw[cL,aF];simp
theorem zfr:rng 0 0=[]:=rfl
theorem zgi(p:Int->Bool){n:Nat}:∀{m:Nat},n<=m->((rng 0 m).filter p).filter (λx=>decide (x<(n:Int)))=(rng 0 n).filter p
 |0,h=>by
  have:n=0:=by omega
  subst this;rfl
 |m+1,h=>by
  by_cases e:n=m+1
  ·subst e;rw[rZ];intro x hx;have:=(uC.mp (bU.mp hx).1).2;exact decide_eq_true (by omega)
  ·rw[WW,bT,bT,zgi p (by omega:n<=m)];have:(List.filter p [(m:Int)]).filter (λx=>decide (x<(n:Int)))=[]:=by
    rw[fu];intro x hx;have e:x=m:=by simpa using (bU.mp hx).1
    rw[e];simp;omega
   rw[this,cR]
theorem zbL(p:Int->Bool):∀m:Nat,((rng 0 m).filter p).length=many (λk=>p (k:Int)) m
 |0=>rfl
 |m+1=>by
  rw[WW,bT,aB,zbL p m,many];cases h:p (m:Int)<;>simp[h]
theorem zgv{p:Int->Bool}{a:Int}{k:Nat}:∀{m:Nat},((rng 0 m).filter p)[k]?=some a->∃x:Nat,a=x/\x<m/\p a=true/\many (λk=>p (k:Int)) x=k
 |0,h=>by simp[zfr]at h
 |m+1,h=>by
  rw[WW,bT]at h;by_cases hk:k<((rng 0 m).filter p).length
  ·rw[cB hk]at h;obtain⟨x,e,h1,h2,h3⟩:=zgv h;exact⟨x,e,by omega,h2,h3⟩
  ·rw[bG (by omega)]at h;have h0:=(aO.mp h).1;cases hp:p (m:Int) with
   |false=>simp[hp]at h
   |true=>
    rw[lK hp,lB]at h h0;have e:k-((rng 0 m).filter p).length=0:=by simpa using h0
    rw[e]at h;cases h
    exact⟨m,rfl,by omega,hp,by rw[<-zbL];omega⟩
theorem zi8(h:((rng 0 m).filter p).getLast?=some a):∃x:Nat,a=x/\x<m/\p a=true/\many (λk=>p (k:Int)) x+1=many (λk=>p (k:Int)) m:=by
 rw[nU]at h;obtain⟨x,e,h1,h2,h3⟩:=zgv h;have h0:=(aO.mp h).1;rw[zbL]at h3 h0;exact⟨x,e,h1,h2,by omega⟩
theorem zkO{a:Int}{n m:Nat}(h:(((rng 0 m).filter p).filter λx=>decide (x>=(n:Int)))[0]?=some a):∃x:Nat,a=x/\n<=x/\x<m/\p a=true/\many (λk=>p (k:Int)) x=many (λk=>p (k:Int)) n:=by
 have hm:=aJ h;obtain⟨h1,h2⟩:=bU.mp hm;obtain⟨h3,h4⟩:=bU.mp h1;obtain⟨h5,h6⟩:=uC.mp h3;have h2:a>=(n:Int):=of_decide_eq_true h2;refine⟨a.toNat,by omega,by omega,by omega,h4,?_⟩;rw[show a.toNat=n+(a.toNat-n) by omega,VD];suffices z:∀k,k<a.toNat-n->p ((n+k:Nat):Int)=false by
  have z':=V2 (p:=λk=>p ((n+k:Nat):Int)) z;omega
 intro k hk;cases hp:p ((n+k:Nat):Int) with
 |false=>rfl
 |true=>
  exfalso;have e:(((rng 0 m).filter p).filter λx=>decide (x>=(n:Int))).head?=some a:=by rw[List.head?_eq_getElem?];exact h
  rw[xJ]at e;have hs:(rng 0 m).Pairwise (·<·):=by
   unfold rng;rw[dO];exact List.pairwise_lt_range.imp λ{a b} h=>by omega
  have hs2:=hs.filter (λx=>p x && decide (x>=(n:Int)));have hmem:((n+k:Nat):Int)∈(rng 0 m).filter (λx=>decide (x>=(n:Int)) && p x):=bU.mpr ⟨uC.mpr (by omega),by rw[hp];simp;omega⟩;cases hl:(rng 0 m).filter (λx=>decide (x>=(n:Int)) && p x) with
  |nil=>rw[hl]at hmem;cases hmem
  |cons y ys=>
   rw[hl]at e hmem;have hs3:=hs.filter (λx=>decide (x>=(n:Int)) && p x);rw[hl]at hs3;cases e
   rcases aP.mp hmem with z | z
   ·omega
   ·have:=(eU.mp hs3).1 _ z;omega
theorem zhq(p:Int->Bool):∀m:Nat,((rng 0 m).filter p).sum=((tot (λk=>p (k:Int)) (λk=>k) m:Nat):Int)
 |0=>rfl
 |m+1=>by
  rw[WW,bT,dU,zhq p m,tot];cases h:p (m:Int)<;>simp[h]
theorem zbY(p:Int->Bool)(f:Int->List Int)(h:List Int->Int)(w:Nat->Nat)(h0:h []=0)(ha:∀x y,h (x++y)=h x+h y)(hw:∀k:Nat,h (f (k:Int))=(w k:Int)):∀m:Nat,h (((rng 0 m).filter p).flatMap f)=((tot (λk=>p (k:Int)) w m:Nat):Int)
 |0=>by simp[zfr,h0,tot]
 |m+1=>by
  rw[WW,bT,mX,ha,zbY p f h w h0 ha hw m,tot];cases q:p (m:Int)<;>simp[q,h0,hw]
theorem zeY:∀l:List Int,(∀x∈l,0<=x)->l.sum=((wsum (λc=>c) 1 l:Nat):Int)
 |[],_=>rfl
 |c::l,h=>by
  have h0:=h c bI;rw[lq,zeY l λx hx=>h x (bx _ hx),wsum,Gv,lJ];omega
theorem zbU{d:Int}(hd:0<=d):∀l:List Int,(∀x∈l,0<=x)->l.count d=wsum (one d.toNat) 1 l
 |[],_=>rfl
 |c::l,h=>by
  have h0:=h c bI;rw[List.count_cons,zbU hd l λx hx=>h x (bx _ hx),wsum,Gv,lJ,mZ];congr 1;unfold one;by_cases e:c=d
  ·subst e;simp
  ·rw[if_neg (by simpa using e),if_neg (by omega)]
theorem zfK{α β:Type}{f:α->List β}{B:Nat}:∀{l:List α},(∀x∈l,(f x).length<=B)->(l.flatMap f).length<=l.length*B
 |[],_=>by simp
 |x::l,h=>by
  rw[Cg,aB,bB,fM];have h1:=h x bI;have h2:=zfK (l:=l) λy hy=>h y (bx _ hy);omega
theorem zia{α β:Type}{f:α->List β}{l:List α}{x:α}(h:l[i]?=some x):(l.take i).flatMap f++f x=(l.take (i+1)).flatMap f:=by
 rw[gK,h,mX];simp
theorem zeM(a:Int)(n m:Nat):rng a (n+m)=rng a n++rng (a+n) m:=by
 unfold rng;rw[List.range_add,aF,d8];congr 1;apply dq;intro x _;show a+((n+x:Nat):Int)=a+n+x;omega
theorem zgz{lo n N:Nat}(h:lo+n<=N)(hq:∀x:Int,0<=x->x<N->q x=decide ((lo:Int)<=x/\x<lo+n)):((rng 0 N).filter p).filter q=(rng lo n).filter p:=by
 obtain⟨k,rfl⟩:∃k,N=lo+n+k:=⟨N-(lo+n),by omega⟩
 rw[xJ,zeM,zeM,bT,bT];have h1:(rng 0 lo).filter (λa=>q a && p a)=[]:=fu.mpr λx hx=>by
  have:=uC.mp hx;rw[hq x (by omega) (by omega),decide_eq_false (by omega)];simp
 have h3:(rng (0+((lo+n:Nat):Int)) k).filter (λa=>q a && p a)=[]:=fu.mpr λx hx=>by
  have:=uC.mp hx;rw[hq x (by omega) (by omega),decide_eq_false (by omega)];simp
 rw[h1,h3,cR,fC,show (0:Int)+(lo:Int)=lo by omega];apply Ci;intro x hx;have:=uC.mp hx;rw[hq x (by omega) (by omega),decide_eq_true (by omega),Eu]
theorem zfe(h2:2<=b):(yJ b x).length=1↔x<b:=by
 by_cases h:x<b
 ·rw[uM h];simp[h]
 ·rw[YS h2 (by omega),aB,aU];have:=cF.mpr (zam (b:=b) (n:=x / b));omega
theorem ziM(h2:2<=b):(yJ b x).length=2↔b<=x/\x<b*b:=by
 by_cases h:x<b
 ·rw[uM h];simp;omega
 ·rw[YS h2 (by omega),aB,aU];have:=zfe (x:=x / b) h2;have:=fH (x:=x) (y:=b) (show 0<b by omega);omega
section
variable {P:cg} {w:cT} {K:aN} {mg:cG->Option aG} {base:dR} {T0:aq} {Vb:Wd}
open Enc
theorem zdj{n:Int}(wt:WT Vb T0)(g:GR r b)(h0:0<=n)(h:n<2^100):Spg Vb (ju T0) [Is r,Is n] (Is ((many (gd r.2 b) n.toNat:Nat):Int)):=λvs G H Q E s z q=>by
 obtain⟨x,y,rfl,h1,h2⟩:=zcL z;obtain⟨p,bl,zs,rfl,RA,e⟩:=(jd g).mp h1;rw[zW.mp h2,<-cD h0];refine⟨p,b,bl,zs,n.toNat,rfl,RA.same s.sub,by rw[e];exact g.g,by omega,wt.lt s.ok,λH' m l=>?_⟩;rw[e];exact q _ G H' (Gr.ofL wt s m l) (zW.mpr rfl)
theorem QT(g:GR r b)(m:Nat):many (λk=>gi r (k:Int)) m=many (gd r.2 b) m:=jG λk _=>by rw[zdF g];rfl
def gl(r:Ru)(m:Nat):List Int:=(rng 0 m).filter (gi r)
theorem zcH(r:Ru)(m:Nat):(gl r m).length<=m:=ao (bV _ _) (mY uQ)
theorem zky(r:Ru){n:Int}{m:Nat}(h0:0<=n)(h:n<=m):(gl r m).filter (λx=>decide (x<n))=gl r n.toNat:=by
 have:=zgi (gi r) (n:=n.toNat) (m:=m) (by omega);rwa[show ((n.toNat:Nat):Int)=n by omega]at this
theorem Uk(g:GR r b)(m:Nat):(gl r m).length=many (gd r.2 b) m:=by rw[<-QT g];exact zbL _ _
theorem zkI(g:GR r b){a:Int}(h:(gl r m)[k]?=some a):∃x:Nat,a=x/\x<m/\gd r.2 b x=true/\many (gd r.2 b) x=k:=by
 obtain⟨x,e,h1,h2,h3⟩:=zgv h;subst e;exact⟨x,rfl,h1,by rw[zdF g]at h2;exact h2,by rw[<-QT g];exact h3⟩
theorem zg9(g:GR r b)(h:(gl r m).getLast?=some a):∃x:Nat,a=x/\x<m/\gd r.2 b x=true/\many (gd r.2 b) x+1=many (gd r.2 b) m:=by
 obtain⟨x,e,h1,h2,h3⟩:=zi8 h;subst e;exact⟨x,rfl,h1,by rw[zdF g]at h2;exact h2,by rw[<-QT g,<-QT g];exact h3⟩
theorem zlM(g:GR r b){a:Int}(h0:0<=n)(h:((gl r m).filter (λx=>decide (x>=n)))[0]?=some a):∃x:Nat,a=x/\n<=x/\x<m/\gd r.2 b x=true/\many (gd r.2 b) x=many (gd r.2 b) n.toNat:=by
 rw[<-cD h0]at h;obtain⟨x,e,h1,h2,h3,h4⟩:=zkO h;subst e;exact⟨x,rfl,by omega,h2,by rw[zdF g]at h3;exact h3,by rw[<-QT g,<-QT g];exact h4⟩
theorem zdT{l:List Int}:(none::l.map some).getLast?=some l.getLast?:=by
 rw[List.getLast?_cons,List.getLast?_map];cases l.getLast?<;>rfl
theorem Zt(h:v=.int a):(Is (some a)).p G v:=by
 show At G (.int a) v;rw[At];exact h
def zk2(Ts:List Ty)(T:Ty):Prop:=∃(r:Ru) (b:Nat) (n:Int),Ts=[Is r,Is n,Is (gl r 700)]/\T=Is true/\GR r b/\0<=n/\n<=300
theorem zah{n:Int}(g:GR r b)(h0:0<=n)(h1:n<=300):Spg Vb (spg Vb zk2) [Is r,Is n,Is (gl r 700)] (Is true):=spg.of ⟨r,b,n,rfl,rfl,g,h0,h1⟩
theorem qF:zG ["rule","n","good","below","k","rest"] ["rule","n","good"] (zp yQ):={}
theorem JQ(D:Df K mg "_law_which_good" yQ Bi f fd)(uh:Df K mg "count_below" uZ Ab f1 fd1)(uI:FnOk P w K mg base CX0 9 f1 fd1 Ab (ju T0))(VR:Df K mg "good_by" Wj A0 f2 fd2)(QJ:FnOk P w K mg base CX0 9 f2 fd2 A0 (Ul T0))(Wh:Df K mg "place_of" Zm Ab f3 fd3)(VN:FnOk P w K mg base CX0 10 f3 fd3 Ab (W4 T0))(Yp:Df K mg "next_good" vN Ab f4 fd4)(Wm:FnOk P w K mg base CX0 9 f4 fd4 Ab (Wa T0))(YD:Df K mg "last_good" ut Ab f5 fd5)(Wo:FnOk P w K mg base CX0 9 f5 fd5 Ab (XM T0))(T:Blt mg)(wt:WT Vb T0):FnOk P w K mg base CX0 11 f fd Bi (spg Vb zk2):=by
  refine D.pj qF (by rintro _ _ ⟨r,b,n,rfl,_⟩;rfl) λcdv A outer s H E hr Ts TT h=>?_;obtain⟨r,b,n,rfl,rfl,g,h0,h1⟩:=h;have HU:=Vv hr;have hl:=zcH r 700;have lb:=zcH r n.toNat;have b2:=g.g.b2;refine Je ?_;intro XX;let q1:Sq XX ((zj yQ).drop 5):=⟨_,zm (zE (ul (U5 K HU) (zK YD Wo (hr.mono (by decide)) (zc (pv 0) (zc (pv 1) zf))) (zX (wJ K) (zV ZZ (yR (zc uF zf)) (pv 3)) (zcb Jw zu) (λ_ _=>rfl)) (zT _)))⟩
  let q2:Sq XX ((zj yQ).drop 4):=⟨_,zg (yx (PW.pt (zck (zP (Yk K HU) (pv 5) (yR zf) (zT _)) (zal (zP (Yk K HU) (zK Yp Wm (hr.mono (by decide)) (zc (pv 0) (zc (pv 1) zf))) (zX (wJ K) (pv 5) zu (λ_ _=>rfl)) (zT _)))))
    (zm (zE vX))
    zQ) q1.p⟩
  let q3:Sq XX ((zj yQ).drop 3):=⟨_,zg (wL (i:=5) (show CScope (zp yQ) _ "one" ["rule","n","good","below","k","rest"] ["n"] [1] from {}) rfl qF.nd rfl (aW rfl) (jh K (pv 2)) (λ_ _ _ _=>(uq (zP zjf (pv 0) (pv 1) (zT _)))) (λ_ _ _ _=>(pv 0))) q2.p⟩
  let q4:Sq XX ((zj yQ).drop 2):=⟨_,zg (wR bj rfl (zhR rfl T.n_range (zc zu (zc (zH (xG K) (by rfl) T.n_len PySem.boot_len (zc (pv 2) zf)) (zc (zV xO zu (zV VL (zH (xG K) (by rfl) T.n_len PySem.boot_len (zc (pv 2) zf)) zu)) zf)))) (yV (i:=4) qF.nd rfl (aW rfl))
    (zm (yx (PW.pt (Z6 (zP (Yk K HU) (zK VR QJ (hr.mono (by decide)) (zc (pv 0) (zc (pv 4) zf))) (zX (wJ K) (pv 2) (pv 4) (λ_ _=>rfl)) (zT _)) (qw (zP Va (zK Wh VN (hr.mono (by decide)) (zc (pv 0) (zc (zX (wJ K) (pv 2) (pv 4) (λ_ _=>rfl)) zf))) (pv 4) (zT _)))))
     (zm (zE vX))
     zQ))) q3.p⟩
  let q5:Sq XX ((zj yQ).drop 1):=⟨_,zg (yx (zP Va (zK uh uI (hr.mono (by decide)) (zc (pv 0) (zc (pv 1) zf))) (zH (xG K) (by rfl) T.n_len PySem.boot_len (zc (pv 3) zf)) (zT _))
    (zm (zE vX))
    zQ) q4.p⟩
  refine⟨_,(zg (wL (i:=3) (show CScope (zp yQ) _ "one" ["rule","n","good","below","k","rest"] ["n"] [1] from {}) rfl qF.nd rfl (aW rfl) (jh K (pv 2)) (λ_ _ _ _=>(uq (zP zbg (pv 0) (pv 1) (zT _)))) (λ_ _ _ _=>(pv 0))) q5.p),?_⟩;refine Sg.set (T:=Is (gl r n.toNat)) (.to (.comp (.list (.var rfl)) (λy hy=>(.val (.op (.var rfl) (.var rfl) zcA))) (λy hy h=>(.var rfl)) (by omega)) (by rw[dF,zky r h0 (by omega)])) ?_;refine Sg.cut (.val (.op (.call (.cons (.var rfl) (.cons (.var rfl) .nil)) (zdj wt g h0 (by omega))) (.cb (.cons (.var rfl) .nil) qt) UW)) (λe=>absurd e (by rw[Uk g];simp)) λ_=>?_;refine Sg.fors (λi Γ=>∃T4,Γ=[some (Is r),some (Is n),some (Is (gl r 700)),some (Is (gl r n.toNat)),T4,none]) (.rng3 .int (.cb (.cons (.var rfl) .nil) qt) (.op .int (.op (.cb (.cons (.var rfl) .nil) qt) .int (ziA ⟨by decide,by decide⟩)) Yc) (by omega) (by omega) (by omega)) ⟨_,rfl⟩ ?_ ?_
  ·rintro i k hk Γ ⟨T4,rfl⟩;rw[ak]at hk;obtain⟨m,h2,h3⟩:=aM.mp hk;have hm:=(aO.mp h2).1;rw[aX]at hm;rw[bO hm]at h2;cases h2
   have hb:=(za9 (a:=(0:Int)) (b:=((gl r 700).length:Int)) (c:=1+((gl r 700).length:Int) / 25) (by omega)).2 i (by omega) (by omega);rw[cM]at hb h3;have k0:0<=k:=by rw[<-h3];exact Ec (by omega) (by omega)
   obtain⟨a,ea⟩:∃a,(gl r 700)[k.toNat]?=some a:=⟨_,aj (by omega)⟩
   obtain⟨x,rfl,x1,x2,x3⟩:=zkI g ea;have hgb:Spg Vb (Ul T0) [Is r,Is k] (Is (some (x:Int))):=Jj wt g k0 (.inl ?_) λv hv G=>?_
   ·have hpo:Spg Vb (W4 T0) [Is r,Is (x:Int)] (Is k):=Jj wt g (by omega) ⟨by omega,x2⟩ λv hv G=>zW.mpr (by rw[hv];congr 1;show ((many (gd r.2 b) x:Nat):Int)=k;omega);exact Sg.cut1 (.or (.val (.op (.call (.cons (.var rfl) (.cons (.var rfl) .nil)) (hgb)) (Tg.so (.op (.var rfl) (.var rfl) (JG k0 ea))) Xw)) λh=>(.val (.op (.call (.cons (.var rfl) (.cons (.op (.var rfl) (.var rfl) (JG k0 ea)) .nil)) (hpo)) (.var rfl) UW))) (λe=>absurd e (by simp)) λ_=>⟨_,rfl⟩
   ·have:x+1<=b^60:=ao (show x+1<=2^60 by omega) (fW b2 60);have h5:=XC (gd r.2 b) (show x<b^60 by omega) x2;omega
   ·rcases hv with ⟨_,y,rfl,y1,y2,_⟩ | ⟨hv,_⟩
    ·rw[Qo (gd r.2 b) y1 x2 (by omega)];exact Zt rfl
    ·have:x+1<=b^60:=ao (show x+1<=2^60 by omega) (fW b2 60);have h5:=XC (gd r.2 b) (show x<b^60 by omega) x2;omega
  ·rintro Γ ⟨T4,rfl⟩;refine Sg.set (T:=Is ((gl r 700).filter λx=>decide (x>=n))) (.to (.comp (.list (.var rfl)) (λy hy=>(.val (.op (.var rfl) (.var rfl) zcA))) (λy hy h=>(.var rfl)) (by omega)) (by rw[dF])) ?_;refine Sg.cut (p:=_ && false) (.and (.val (.op (.var rfl) (.lst [] .nil) Xw)) λh=>?_) (λe=>absurd e (by simp)) λ_=>?_
   ·have hne:(gl r 700).filter (λx=>decide (x>=n))≠[]:=λz=>by rw[z]at h;simp at h
    obtain⟨a,er⟩:∃a,((gl r 700).filter λx=>decide (x>=n))[0]?=some a:=⟨_,aj (cF.mpr hne)⟩
    obtain⟨x,rfl,x1,x2,x3,x4⟩:=zlM g h0 er;have hng:Spg Vb (Wa T0) [Is r,Is n] (Is (some (x:Int))):=Jj wt g h0 (by omega) λv hv G=>?_
    ·exact .to (.val (.op (.call (.cons (.var rfl) (.cons (.var rfl) .nil)) (hng)) (Tg.so (.op (.var rfl) .int (JG (by decide) er))) Xw)) (by simp)
    ·rcases hv with ⟨_,hv⟩ | ⟨y,rfl,y0,y1,y2,_⟩
     ·have:=hv x (by omega);rw[x3]at this;cases this
     ·rw[Qo (gd r.2 b) y1 x3 (by omega)];exact Zt rfl
   ·have el:([none]++(gl r n.toNat).map some).getLast?=some (gl r n.toNat).getLast?:=zdT;have hlg:Spg Vb (XM T0) [Is r,Is n] (Is (gl r n.toNat).getLast?):=Jj wt g h0 (by omega) λv hv G=>?_
    ·exact Sg.ret (.to (.op (.call (.cons (.var rfl) (.cons (.var rfl) .nil)) (hlg)) (.op (.op (.lst [none] (.cons .non .nil)) (Tg.sos (.var rfl)) (za4 (by rw[aa];show 1+_<=100000;omega))) (.neg .int) (zjj el)) Jg) (by simp))
    ·cases e:(gl r n.toNat).getLast? with
     |none=>
      have e0:gl r n.toNat=[]:=nW.mp e;have e1:=Uk g n.toNat;rw[e0]at e1;rcases hv with ⟨rfl,_⟩ | ⟨y,rfl,_,_,hy⟩
      ·exact Vl.mpr rfl
      ·simp at e1;omega
     |some a=>
      obtain⟨x,rfl,x1,x2,x3⟩:=zg9 g e;rcases hv with ⟨rfl,hv⟩ | ⟨y,rfl,_,y1,y2⟩
      ·omega
      ·rw[Qo (gd r.2 b) y1 x2 (by omega)];exact Zt rfl
open Enc
theorem zma(h:Tis [S,T,U] G vs):∃x y z,vs=[x,y,z]/\S.p G x/\T.p G y/\U.p G z:=by
 cases h with
 |cons h r=>
  obtain⟨y,z,rfl,q⟩:=zcL r;exact⟨_,y,z,rfl,h,q⟩
theorem zgg(g:GR r b)(f:Nat->Nat)(m:Nat):tot (λk=>gi r (k:Int)) f m=tot (gd r.2 b) f m:=jJ (λk _=>by rw[zdF g];rfl) λ_ _=>rfl
theorem zgR(g:GR r b)(m:Nat):(gl r m).sum=((tot (gd r.2 b) (λk=>k) m:Nat):Int):=by rw[<-zgg g];exact zhq _ _
theorem zkA(g:GR r b)(k:Int):∀x∈fi r.1 k,0<=x:=λx hx=>by unfold fi at hx;rw[g.e]at hx;exact (zbR g.g.b2 _ x hx).1
theorem zkc(g:GR r b)(m:Nat):((gl r m).flatMap (fi r.1)).sum=((tot (gd r.2 b) (fw (λc=>c) 1 b) m:Nat):Int):=by
 rw[<-zgg g];refine zbY _ _ HS _ rfl (λx y=>dU) (λk=>?_) m;rw[zeY _ (zkA g _)];unfold fi fw;rw[g.e];rfl
theorem ziu(g:GR r b)(hc:0<=c)(m:Nat):((((gl r m).flatMap (fi r.1)).count c:Nat):Int)=((tot (gd r.2 b) (fw (one c.toNat) 1 b) m:Nat):Int):=by
 rw[<-zgg g];refine zbY _ _ (λl=>((l.count c:Nat):Int)) _ rfl (λx y=>by rw[List.count_append];omega) (λk=>?_) m;show (((fi r.1 k).count c:Nat):Int)=_;rw[zbU hc _ (zkA g _)];unfold fi fw;rw[g.e];rfl
theorem zd3(h:x∈gl r m):0<=x/\x<m:=by have:=uC.mp (bU.mp h).1;omega
theorem ziL(g:GR r b)(h:k<2^100):(fi r.1 k).length<=101:=by unfold fi;rw[g.e];exact uP g.g.b2 100 _ (by omega)
def zlq(Ts:List Ty)(T:Ty):Prop:=∃(r:Ru) (b:Nat) (n c:Int),Ts=[Is r,Is n,Is (gl r 700),Is c]/\T=Is true/\GR r b/\0<=n/\n<=300/\0<=c/\c<r.1
theorem zaN{n c:Int}(g:GR r b)(h0:0<=n)(h1:n<=300)(h2:0<=c)(h3:c<r.1):Spg Vb (spg Vb zlq) [Is r,Is n,Is (gl r 700),Is c] (Is true):=spg.of ⟨r,b,n,c,rfl,rfl,g,h0,h1,h2,h3⟩
theorem jf:zG ["rule","n","good","figure","below","figures","one"] ["rule","n","good","figure"] (zp xX):={}
theorem zat(D:Df K mg "_law_sums_good" xX Bj f fd)(yf:Df K mg "_law_figures" xg Ae f1 fd1)(Yq:Df K mg "sum_below" jy Ab f2 fd2)(WF:FnOk P w K mg base CX0 12 f2 fd2 Ab (X5 T0))(tO:Df K mg "figures_below" v7 Ab f3 fd3)(jn:FnOk P w K mg base CX0 12 f3 fd3 Ab (jK T0))(jR:Df K mg "often_below" wV A5 f4 fd4)(Z2:FnOk P w K mg base CX0 12 f4 fd4 A5 (ZS T0))(T:Blt mg)(U:zfm mg)(wt:WT Vb T0)(wr:Wr Vb):FnOk P w K mg base CX0 13 f fd Bj (spg Vb zlq):=by
  have tG:FnOk P w K mg base CX0 1 f1 fd1 Ae uG:=Zb yf;refine D.pj jf (by rintro _ _ ⟨r,b,n,c,rfl,_⟩;rfl) λcdv A outer s H E hr Ts TT h=>?_;obtain⟨r,b,n,c,rfl,rfl,g,h0,h1,c0,c1⟩:=h;have HU:=Vv hr;have hl:=zcH r 700;have lb:=zcH r n.toNat;obtain⟨b2,b16⟩:=g.lo;refine Je ?_;intro XX;let q1:Sq XX ((zj xX).drop 4):=⟨_,zm (zE (ul Qe (zK jR Z2 (hr.mono (by decide)) (zc (pv 0) (zc (pv 1) (zc (pv 3) zf)))) (Vx PySem.F.plainAttrs_list PySem.F.slot_list_count PySem.F.type_list_count (ziz K) (pv 5) (zc (pv 3) zf)) (zT _)))⟩
  let q2:Sq XX ((zj xX).drop 3):=⟨_,zg (yx (PW.pt (Z6 (zP Va (zK Yq WF (hr.mono (by decide)) (zc (pv 0) (zc (pv 1) zf))) (zH (zg5 K rfl) (by rfl) U.n_sum Ei (zc (pv 4) zf)) (zT _)) (qw (zP Va (zK tO jn (hr.mono (by decide)) (zc (pv 0) (zc (pv 1) zf))) (zH (zg5 K rfl) (by rfl) U.n_sum Ei (zc (pv 5) zf)) (zT _)))))
    (zm (zE vX))
    zQ) q1.p⟩
  let q3:Sq XX ((zj xX).drop 2):=⟨_,zg (wR bj rfl (jh K (pv 4)) (yV (i:=6) jf.nd rfl (aW rfl))
    (zm (yw (Vx PySem.F.plainAttrs_list PySem.F.slot_list_extend PySem.F.type_list_extend ziq (pv 5) (zc (zK yf tG (hr.mono (by decide)) (zc (zX (yP K) (pv 0) zu (λ_ _=>rfl)) (zc (pv 6) zf))) zf))))) q2.p⟩
  let q4:Sq XX ((zj xX).drop 1):=⟨_,zg (zU (i:=5) jf.nd rfl (aW rfl) (yR zf)) q3.p⟩
  refine⟨_,(zg (wL (i:=4) (show CScope (zp xX) _ "one" ["rule","n","good","figure","below","figures","one"] ["n"] [1] from {}) rfl jf.nd rfl (aW rfl) (jh K (pv 2)) (λ_ _ _ _=>(uq (zP zbg (pv 0) (pv 1) (zT _)))) (λ_ _ _ _=>(pv 0))) q4.p),?_⟩;refine Sg.set (T:=Is (gl r n.toNat)) (.to (.comp (.list (.var rfl)) (λy hy=>(.val (.op (.var rfl) (.var rfl) zcA))) (λy hy h=>(.var rfl)) (by omega)) (by rw[dF,zky r h0 (by omega)])) (Sg.acc (α:=Int) wr λa=>?_);refine Sm.fors (λi Γ l=>l=((gl r n.toNat).take i).flatMap (fi r.1)/\∃T6,Γ=[some (Is r),some (Is n),some (Is (gl r 700)),some (Is c),some (Is (gl r n.toNat)),some (W3 (.ref a)),T6]) (.list (.var rfl)) ⟨rfl,_,rfl⟩ ?_ ?_
  ·rintro i o ho Γ l ⟨rfl,T6,rfl⟩;obtain⟨o0,o1⟩:=zd3 (aJ ho);refine Sm.ext0 rfl (.call (.cons (.op (.var rfl) .int WX) (.cons (.var rfl) .nil)) (Z9 b2 b16 o0 (by omega))) ?_ (Sm.nil ⟨zia ho,_,rfl⟩);have q1:=ziL g (k:=o) (by omega);have q2:=zfK (f:=fi r.1) (B:=101) (l:=(gl r n.toNat).take i) λx hx=>ziL g (by have:=zd3 (mH hx);omega);have q3:((gl r n.toNat).take i).length<=300:=by rw[bM];omega
   omega
  ·rintro Γ l ⟨rfl,T6,rfl⟩;rw[cj];refine Sm.fin (x:=5) ?_ zbF rfl;have hsb:Spg Vb (X5 T0) [Is r,Is n] (Is (gl r n.toNat).sum):=Jj wt g h0 (by show n.toNat<2^700;omega) λv hv G=>zW.mpr (by rw[hv,zgR g]);have hfb:Spg Vb (jK T0) [Is r,Is n] (Is ((gl r n.toNat).flatMap (fi r.1)).sum):=Jj wt g h0 (by show n.toNat<2^700;omega) λv hv G=>zW.mpr (by rw[hv,zkc g]);have hob:Spg Vb (ZS T0) [Is r,Is n,Is c] (Is ((((gl r n.toNat).flatMap (fi r.1)).count c:Nat):Int)):=λvs G H Q E s z q=>by
    obtain⟨x,y,y',rfl,z1,z2,z3⟩:=zma z;obtain⟨p,bl,zs,rfl,RA,e⟩:=(jd g).mp z1;rw[zW.mp z2,zW.mp z3,<-cD h0,<-cD c0];refine⟨p,b,bl,zs,n.toNat,c.toNat,rfl,RA.same s.sub,by rw[e];exact g.g,by omega,by have:=g.e;omega,wt.lt s.ok,λH' m l=>?_⟩;rw[e];exact q _ G H' (Gr.ofL wt s m l) (zW.mpr (by rw[ziu g c0]))
   refine Sg.cut (.or (.val (.op (.call (.cons (.var rfl) (.cons (.var rfl) .nil)) (hsb)) (.cb (.cons (.var rfl) .nil) zgc) UW)) λh=>(.val (.op (.call (.cons (.var rfl) (.cons (.var rfl) .nil)) (hfb)) (.cb (.cons (.var rfl) .nil) zgc) UW))) (λe=>absurd e (by simp)) λ_=>?_;exact Sg.ret (.to (.op (.call (.cons (.var rfl) (.cons (.var rfl) (.cons (.var rfl) .nil))) (hob)) (zjX (.var rfl) (.cons (.var rfl) .nil)) zgI) (by simp))
open Enc
def gs(r:Ru)(lo n:Nat):List Int:=(rng lo n).filter (gi r)
theorem zmb(r:Ru)(lo n:Nat):gl r (lo+n)=gl r lo++gs r lo n:=by
 unfold gl gs;rw[zeM,bT,show (0:Int)+(lo:Int)=lo by omega]
theorem zcm(ls:ZA)(b m:Nat):low ls b m=many (gd ls b) (Qt b m):=by
 unfold low Qt;by_cases h:m=1
 ·rw[if_pos h,if_pos h];rfl
 ·rw[if_neg h,if_neg h]
theorem zlJ(g:GR r b)(hm:m=1\/m=2):∃n,Qt b m+n=b^m/\Qt b m+n<=700/\(gl r 700).filter (λx=>decide (((fi r.1 x).length:Int)=(m:Int)))=gs r (Qt b m) n:=by
 have b2:=g.g.b2;have b16:=g.g.b16;have e:=g.e;have hb:b*b<=256:=rE b16 b16;have hb2:b<=b*b:=lR b (by omega);rcases hm with rfl | rfl
 ·refine⟨b,by rw[ou];show 0+b=b;omega,by show 0+b<=700;omega,zgz (lo:=0) (n:=b) (by omega) λx h0 h1=>?_⟩;unfold fi;rw[e];have:=zfe (b:=b) (x:=x.toNat) b2;rw[decide_eq_decide];show ((yJ b x.toNat).length:Int)=((1:Nat):Int)↔_;omega
 ·refine⟨b*b-b,by show b^1+_=b^2;rw[ou,Nat.pow_two];omega,by show b^1+_<=_;rw[ou];omega,zgz (lo:=b^1) (n:=b*b-b) (by rw[ou];omega) λx h0 h1=>?_⟩;unfold fi;rw[e,ou];have:=ziM (b:=b) (x:=x.toNat) b2;rw[decide_eq_decide];show ((yJ b x.toNat).length:Int)=((2:Nat):Int)↔_;omega
def zlk(Ts:List Ty)(T:Ty):Prop:=∃r b,Ts=[Is r,Is (gl r 700)]/\T=Is true/\GR r b
theorem Q0(g:GR r b):Spg Vb (spg Vb zlk) [Is r,Is (gl r 700)] (Is true):=spg.of ⟨r,b,rfl,rfl,g⟩
theorem uU:zG ["rule","good","base","m","some"] ["rule","good"] (zp yN):={}
theorem Qu(D:Df K mg "_law_lengths_good" yN Bk f fd)(yf:Df K mg "_law_figures" xg Ae f1 fd1)(Zy:Df K mg "count_long" uV Af f2 fd2)(Xi:FnOk P w K mg base CX0 9 f2 fd2 Af (YQ T0))(Wg:Df K mg "sum_long" jt Af f3 fd3)(VM:FnOk P w K mg base CX0 12 f3 fd3 Af (Vh T0))(ZD:Df K mg "least_long" vK Af f4 fd4)(Xg:FnOk P w K mg base CX0 9 f4 fd4 Af (jz T0 WK zaP))(tU:Df K mg "greatest_long" xP Af f5 fd5)(ji:FnOk P w K mg base CX0 9 f5 fd5 Af (jz T0 WK Wf))(T:Blt mg)(U:zfm mg)(wt:WT Vb T0):FnOk P w K mg base CX0 13 f fd Bk (spg Vb zlk):=by
  have tG:FnOk P w K mg base CX0 1 f1 fd1 Ae uG:=Zb yf;refine D.pj uU (by rintro _ _ ⟨r,b,rfl,_⟩;rfl) λcdv A outer s H E hr Ts TT h=>?_;obtain⟨r,b,rfl,rfl,g⟩:=h;have HU:=Vv hr;have hl:=zcH r 700;obtain⟨b2,b16⟩:=g.lo;refine Je ?_;intro XX;let q1:Sq XX ((zj yN).drop 2):=⟨_,zm (zE vX)⟩
  let q2:Sq XX ((sb (zj yN) 1 true).drop 3):=⟨_,zm (yx (zP (Yk K HU) (zK tU ji (hr.mono (by decide)) (zc (pv 0) (zc (pv 3) zf))) (zX (wJ K) (zV ZZ (yR (zc uF zf)) (pv 4)) (zcb Jw zu) (λ_ _=>rfl)) (zT _))
     (zm (zE vX))
     zQ)⟩
  let q3:Sq XX ((sb (zj yN) 1 true).drop 2):=⟨_,zg (yx (zP (Yk K HU) (zK ZD Xg (hr.mono (by decide)) (zc (pv 0) (zc (pv 3) zf))) (zX (wJ K) (zV ZZ (pv 4) (yR (zc uF zf))) zu (λ_ _=>rfl)) (zT _))
     (zm (zE vX))
     zQ) q2.p⟩
  let q4:Sq XX ((sb (zj yN) 1 true).drop 1):=⟨_,zg (yx (PW.pt (Z6 (zP Va (zK Zy Xi (hr.mono (by decide)) (zc (pv 0) (zc (pv 3) zf))) (zH (xG K) (by rfl) T.n_len PySem.boot_len (zc (pv 4) zf)) (zT _)) (qw (zP Va (zK Wg VM (hr.mono (by decide)) (zc (pv 0) (zc (pv 3) zf))) (zH (zg5 K rfl) (by rfl) U.n_sum Ei (zc (pv 4) zf)) (zT _)))))
     (zm (zE vX))
     zQ) q3.p⟩
  let q5:Sq XX ((zj yN).drop 1):=⟨_,zg (wR bj rfl (zaV rfl T.n_range (zc zu (zc zu zf))) (yV (i:=3) uU.nd rfl (lE rfl))
    (zg (wL (i:=4) (show CScope (zp yN) _ "one" ["rule","good","base","m","some"] ["m","base"] [3,2] from {}) rfl uU.nd rfl (aW rfl) (jh K (pv 1)) (λ_ _ _ _=>(uq (zP Qe (zH (xG K) (by rfl) T.n_len PySem.boot_len (zc (zK yf tG (hr.mono (by decide)) (zc (pv 2) (zc (pv 0) zf))) zf)) (pv 1) (zT _)))) (λ_ _ _ _=>(pv 0))) q4.p)) q1.p⟩
  refine⟨_,(zg (zU (i:=2) uU.nd rfl (lE rfl) (zX (yP K) (pv 0) zu (λ_ _=>rfl))) q5.p),?_⟩;refine Sg.set (.op (.var rfl) .int WX) (Sg.fors (λi Γ=>∃T3 T4,Γ=[some (Is r),some (Is (gl r 700)),some (Is r.1),T3,T4]) (.rng2 .int .int rfl (by omega)) ⟨_,_,rfl⟩ ?_ fun Γ ⟨T3,T4,e⟩=>e▸Sg.ret .bl);rintro i m hm Γ ⟨T3,T4,rfl⟩;obtain⟨h1,rfl⟩:=Qy hm;have h1:i<2:=h1;rw[show (1:Int)+(i:Int)=((i+1:Nat):Int) by omega];obtain⟨n,n1,n2,n3⟩:=zlJ g (m:=i+1) (by omega);have hpre:WK r.2 b (((i+1:Nat):Int)).toNat:=by show 1<=i+1/\i+1<=60;omega
  have e700:=zmb r (Qt b (i+1)) n;have lgs:(gs r (Qt b (i+1)) n).length<=700:=by rw[<-n3];exact ao (bV _ _) hl
  refine Sg.set (T:=Is (gs r (Qt b (i+1)) n)) (.to (.comp (.list (.var rfl)) (λy hy=>(.val (.op (.cb (.cons (.call (.cons (.var rfl) (.cons (.var rfl) .nil)) (Z9 b2 b16 (zd3 hy).1 (by have:=(zd3 hy).2;omega))) .nil) qt) (.var rfl) zgI))) (λy hy h=>(.var rfl)) (by omega)) (by rw[dF,n3])) ?_;generalize hS:gs r (Qt b (i+1)) n=S at e700 lgs ⊢;have a1:=congrArg c7 e700;have a2:=congrArg HS e700;rw[aB,Uk g,Uk g,n1]at a1;rw[dU,zgR g,zgR g,n1]at a2;have hcl:Spg Vb (YQ T0) [Is r,Is ((i+1:Nat):Int)] (Is (S.length:Int)):=Jj wt g (by omega) hpre λv hv G=>zW.mpr (by
   rw[hv,zcm];show V.int (((many (gd r.2 b) (b^(i+1)):Nat):Int)-((many (gd r.2 b) (Qt b (i+1)):Nat):Int))=_;congr 1;omega)
  have hsl:Spg Vb (Vh T0) [Is r,Is ((i+1:Nat):Int)] (Is S.sum):=Jj wt g (by omega) hpre λv hv G=>zW.mpr (by
   rw[hv];show V.int (((tot (gd r.2 b) (λn=>n) (b^(i+1)):Nat):Int)-((tot (gd r.2 b) (λn=>n) (Qt b (i+1)):Nat):Int))=_;congr 1;omega)
  have hll:Spg Vb (jz T0 WK zaP) [Is r,Is ((i+1:Nat):Int)] (Is S.head?):=Jj wt g (by omega) hpre λv hv G=>by
   have hv:zaP r.2 b (i+1) v:=hv;unfold zaP at hv;rw[zcm]at hv;cases e:S with
   |nil=>
    rw[e]at a1;rcases hv with ⟨rfl,_⟩ | ⟨y,rfl,y1,y2,y3⟩
    ·exact Vl.mpr rfl
    ·have:=XC (gd r.2 b) y3 y1;simp at a1;omega
   |cons x S'=>
    rw[e]at a1 e700;have e2:(gl r (Qt b (i+1)+n))[(gl r (Qt b (i+1))).length]?=some x:=by rw[e700,bG (au _),eG];rfl
    obtain⟨x',rfl,x1,x2,x3⟩:=zkI g e2;rw[Uk g]at x3;rcases hv with ⟨rfl,hv⟩ | ⟨y,rfl,y1,y2,y3⟩
    ·rw[bB]at a1;omega
    ·rw[Qo (gd r.2 b) y1 x2 (by omega)];exact Zt rfl
  have hgl:Spg Vb (jz T0 WK Wf) [Is r,Is ((i+1:Nat):Int)] (Is S.getLast?):=Jj wt g (by omega) hpre λv hv G=>by
   have hv:Wf r.2 b (i+1) v:=hv;unfold Wf at hv;rw[zcm]at hv;cases e:S.getLast? with
   |none=>
    rw[nW.mp e]at a1;rcases hv with ⟨rfl,_⟩ | ⟨y,rfl,y1,y2,y3,y4⟩
    ·exact Vl.mpr rfl
    ·simp at a1;omega
   |some x=>
    have e2:(gl r (Qt b (i+1)+n)).getLast?=some x:=by rw[e700,List.getLast?_append,e];rfl
    obtain⟨x',rfl,x1,x2,x3⟩:=zg9 g e2;rw[n1]at x3;rcases hv with ⟨rfl,hv⟩ | ⟨y,rfl,y1,y2,y3,y4⟩
    ·cases S with
     |nil=>cases e
     |cons _ _=>rw[bB]at a1;omega
    ·rw[Qo (gd r.2 b) y1 x2 (by omega)];exact Zt rfl
  have e1:(S.map some++[none])[(0:Int).toNat]?=some S.head?:=by cases S<;>rfl
  refine Sg.cut (.or (.val (.op (.call (.cons (.var rfl) (.cons (.var rfl) .nil)) (hcl)) (.cb (.cons (.var rfl) .nil) qt) UW)) λh=>(.val (.op (.call (.cons (.var rfl) (.cons (.var rfl) .nil)) (hsl)) (.cb (.cons (.var rfl) .nil) zgc) UW))) (λe=>absurd e (by simp)) λ_=>?_;refine Sg.cut (.val (.op (.call (.cons (.var rfl) (.cons (.var rfl) .nil)) (hll)) (.op (.op (Tg.sos (.var rfl)) (.lst [none] (.cons .non .nil)) (za4 (by rw[aa];show _+1<=100000;omega))) .int (JG (by decide) e1)) Xw)) (λe=>absurd e (by simp)) λ_=>?_;exact Sg.cut1 (.val (.op (.call (.cons (.var rfl) (.cons (.var rfl) .nil)) (hgl)) (.op (.op (.lst [none] (.cons .non .nil)) (Tg.sos (.var rfl)) (za4 (by rw[aa];show 1+_<=100000;omega))) (.neg .int) (zjj zdT)) Xw)) (λe=>absurd e (by simp)) λ_=>⟨_,_,rfl⟩
open Enc
def stO(ls:ZA)(fs:List Int):Option (List Int):=if lacks ls fs=true then some (zY ls fs) else none
def zjQ(Ts:List Ty)(T:Ty):Prop:=∃r b fs,Ts=[Is r,Is fs]/\T=Is (stO r.2 fs)/\GR r b/\fs.length<=100
theorem XD(g:GR r b)(h:fs.length<=100):Spg Vb (spg Vb zjQ) [Is r,Is fs] (Is (stO r.2 fs)):=spg.of ⟨r,b,fs,rfl,rfl,g,h⟩
theorem j5:zG ["rule","figures","one","at","end"] ["rule","figures"] (zp vL):={}
theorem Jd(D:Df K mg "_law_stand" vL Ak f fd)(T:Blt mg):FnOk P w K mg base CX0 1 f fd Ak (spg Vb zjQ):=by
  refine D.pj j5 (by rintro _ _ ⟨r,b,fs,rfl,_⟩;rfl) λcdv A outer s H E hr Ts TT h=>?_;obtain⟨r,b,fs,rfl,rfl,g,hl⟩:=h;have HU:=Vv hr;have hl4:=g.g.len;refine Je ?_;intro XX;let q1:Sq XX ((zj vL).drop 2):=⟨_,zm (zE (yR zf))⟩
  let q2:Sq XX ((sb (zj vL) 1 true).drop 1):=⟨_,zm (yx (zP (Yk K HU) (wO (show CScope (zp vL) _ "one" ["rule","figures","one","at","end"] ["end"] [4] from {}) rfl (jh K (zX (yP K) (pv 0) zu (λ_ _=>rfl))) (λ_ _ _ _=>(uq (zP (U5 K HU) (tX (V1 K) (pv 0) YW (tK (zH (xG K) (by rfl) T.n_len PySem.boot_len (zc (pv 1) zf)))) (pv 1) (zT _)))) (λ_ _ _ _=>(pv 0))) (yR zf) (zT _))
     (zm (zE (pv 4)))
     zQ)⟩
  let q3:Sq XX ((zj vL).drop 1):=⟨_,zg (wR bj rfl (yM rfl T.n_range (zc (zH (xG K) (by rfl) T.n_len PySem.boot_len (zc (pv 1) zf)) zf)) (yV (i:=3) j5.nd rfl (aW rfl))
    (zg (zU (i:=4) j5.nd rfl (lE rfl) (tX (V1 K) (pv 1) (tK (pv 3)) YW)) q2.p)) q1.p⟩
  refine⟨_,(zg (wR bj rfl (jh K (zX (yP K) (pv 0) zu (λ_ _=>rfl))) (yV (i:=2) j5.nd rfl (aW rfl))
    (zm (wR bj rfl (yM rfl T.n_range (zc (zV xO (zV Zq (zH (xG K) (by rfl) T.n_len PySem.boot_len (zc (pv 1) zf)) (zH (xG K) (by rfl) T.n_len PySem.boot_len (zc (pv 2) zf))) zu) zf)) (yV (i:=3) j5.nd rfl (aW rfl))
     (zm (yx (zP (U5 K HU) (tX (V1 K) (pv 1) (tK (pv 3)) (tK (zV xO (pv 3) (zH (xG K) (by rfl) T.n_len PySem.boot_len (zc (pv 2) zf))))) (pv 2) (zT _))
      (zm (zE uF))
      zQ))))) q3.p),?_⟩
  refine Sg.fors (λi Γ=>(∀l∈r.2.take i,Zr l fs=false)/\∃T2 T3,Γ=[some (Is r),some (Is fs),T2,T3,none]) (.list (.op (.var rfl) .int Qz)) ⟨by simp,_,_,rfl⟩ ?_ ?_
  ·rintro i l hl2 Γ ⟨hno,T3,T4,rfl⟩;have hlm:=aJ hl2;have hne:=(g.g.st l hlm).ne;have hl4:=(g.g.st l hlm).len;refine Sg.for1 (λj Γ=>(∀k,k<j->(fs.drop k).take l.length≠l)/\∃T3,Γ=[some (Is r),some (Is fs),some (Is l),T3,none]) (.rng1 (.op (.op (.cb (.cons (.var rfl) .nil) qt) (.cb (.cons (.var rfl) .nil) qt) zi6) .int Yc) rfl (by omega)) ⟨λk hk=>by omega,_,rfl⟩ ?_ ?_
   ·rintro j a hj Γ ⟨hk,T3,rfl⟩;obtain⟨hj,rfl⟩:=Qy hj;rw[cM];refine Sg.cut1 (.val (.op (.sl (.var rfl) (.some (.var rfl)) (.some (.op (.var rfl) (.cb (.cons (.var rfl) .nil) qt) Yc)) (zfH _ _ _)) (.var rfl) Jg)) (λe=>Sg.ret ?_) λe=>⟨λk hk'=>?_,_,rfl⟩
    ·have e:=of_decide_eq_true e;refine (Tg.non (α:=List Int)).to ?_;unfold stO;have:lacks r.2 fs=false:=by
      unfold lacks;rw[sZ,cI];exact⟨l,hlm,(tR hne).mpr ⟨j,e⟩⟩
     rw[this];rfl
    ·by_cases z:k<j
     ·exact hk k z
     ·have:k=j:=by omega
      subst this;exact of_decide_eq_false e
   ·rintro Γ ⟨hk,T3,rfl⟩;refine⟨λl' hl'=>?_,_,_,rfl⟩;rw[gK,hl2]at hl';rcases bf.mp hl' with h | h
    ·exact hno l' h
    ·have e:l'=l:=by simpa using h
     subst e;rw[Ju hne,cu];intro k hk2;rw[uQ]at hk;have:=hk k (cZ.mp hk2);simpa using this
  ·rintro Γ ⟨hno,T3,T4,rfl⟩;rw[cj]at hno;have hlk:lacks r.2 fs=true:=by
    unfold lacks;rw[cU,cu];intro l hl;rw[hno l hl];decide
   have hst:stO r.2 fs=some (zY r.2 fs):=if_pos hlk;rw[hst];refine Sg.fors (λj Γ=>(∀k,k<j->Xq r.2 (fs.drop k)=false)/\∃T2 T3 T4,Γ=[some (Is r),some (Is fs),T2,T3,T4]) (.rng1 (.cb (.cons (.var rfl) .nil) qt) rfl (by omega)) ⟨λk hk=>by omega,_,_,_,rfl⟩ ?_ ?_
   ·rintro j a hj Γ ⟨hk,T2,T3,T4,rfl⟩;obtain⟨hj2,rfl⟩:=Qy hj;rw[cM];have hj':j<fs.length:=by omega
    refine Sg.set (.sl (.var rfl) (.some (.var rfl)) .none (zhY _ _)) (Sg.cut1 (p:=Xq r.2 (fs.drop j)) (.to (.val (.op (.comp (.list (.op (.var rfl) .int Qz)) (λy hy=>(.val (.op (.sl (.var rfl) .none (.some (.cb (.cons (.var rfl) .nil) qt)) (zjY _ _)) (.var rfl) Jg))) (λy hy h=>(.var rfl)) (by omega)) (.lst [] .nil) Xw)) ?_) (λe=>Sg.ret (Tg.so (.to (.var rfl) ?_))) λe=>⟨λk hk'=>?_,_,_,_,rfl⟩)
    ·rw[dF,bD];unfold Xq;rw[cI,cU,decide_eq_false_iff_not,fu];simp
    ·exact (zfx (by omega) hk e).symm
    ·by_cases z:k<j
     ·exact hk k z
     ·have:k=j:=by omega
      subst this;exact e
   ·rintro Γ ⟨hk,T2,T3,T4,rfl⟩;rw[uQ]at hk;exact Sg.ret (Tg.so (.to (Tg.lst ([]:List Int) .nil) (zbX λk h=>hk k (by omega)).symm))
def Ud:Sp:=λvs H Q _=>∃(a:aq) (ns:List Int),vs=[.ref a]/\H a=some (.lst (ns.map V.int))/\∀p,H p=none->Q (.ref p) (upd H p (.tup [.int ns.length,.ref a]))
theorem zdf(a:aq)(ns:List Int)(H:Hp)(Q:VK)(E:XK)(h:H a=some (.lst (ns.map V.int)))(q:∀p,H p=none->Q (.ref p) (upd H p (.tup [.int ns.length,.ref a]))):Ud [.ref a] H Q E:=⟨a,ns,rfl,h,q⟩
theorem zeH:zG ["row"] ["row"] (zp Xa):={}
theorem zd7(D:Df K mg "_law_long" Xa ["row"] f fd)(T:Blt mg):FnOk P w K mg base CX0 1 f fd ["row"] Ud:=by
 refine D.fn.ok zeH (λvs H Q E h=>?_) (λcdv A outer s H vs Q E hr h=>?_)
 ·obtain⟨a,ns,rfl,_⟩:=h;rfl
 ·obtain⟨a,ns,rfl,ha,kk⟩:=h;refine⟨_,(zm (zE (Zi (zc (zH (xG K) (by rfl) T.n_len PySem.boot_len (zc (pv 0) zf)) (zc (pv 0) zf))))),?_⟩;refine⟨_,rfl,a,_,rfl,.inl (SqL.of ha),_,rfl,(by show 2<=aZ;decide),λp hp=>?_⟩;rw[aa];exact kk p hp
end
theorem zgB(h:zfY ls x):lacks ls x=true/\zY ls x=x:=by
 rcases h with rfl | ⟨st,hst,k,h1,h2,rfl,h3⟩
 ·refine⟨?_,rfl⟩;unfold lacks;rw[cU,cu];intro st _ h;simp[Zr]at h
 ·refine⟨h3,zcR ?_⟩;unfold Xq;rw[cI];refine⟨st,hst,decide_eq_true ?_⟩;rw[bM,dH (by omega)]
section
variable {P:cg} {w:cT} {K:aN} {mg:cG->Option aG} {base:dR} {T0:aq} {Vb:Wd}
open Enc
theorem uL(h0:0<=k)(h1:k<=1000):Spg Vb (spg Vb zdH) [Is c,Is k] (Is (mixed c k)):=spg.of ⟨c,k,rfl,rfl,h0,h1⟩
theorem zje(h:StandV ls fs H H' v)(s:Vw Vb G H)(hs:∀c o,¬ Vb.may c->H c=some o->H' c=some o)(ok:Vb.ok H'):∃G',Gr Vb G H G' H'/\(Is (stO ls fs)).p G' v:=by
 unfold stO;rcases h with ⟨h,rfl⟩ | ⟨h,l,rfl,h1,h2⟩
 ·obtain⟨G',g,_,_⟩:=Gr.freshS (λ_=>False) s (λ_ z=>z.elim) hs ok;exact⟨G',g,by rw[if_neg (by rw[h];decide)];exact Vl.mpr rfl⟩
 ·obtain⟨G',g,_,q⟩:=Gr.freshS (λc=>c=l) s (λc z=>by rw[z];exact h1) hs ok;refine⟨G',g,?_⟩;rw[if_pos h];show (Is (zY ls fs)).p G' _;exact Ze.mpr ⟨l,rfl,by rw[q l rfl];exact h2⟩
theorem zb2(g:GR r b)(h:fs.length<=100)(hf:∀x∈fs,0<=x/\x<r.1):Spg Vb Zd [Is r,Is fs] (Is (stO r.2 fs)):=λvs G H Q E s z q=>by
 obtain⟨x,y,rfl,h1,h2⟩:=zcL z;obtain⟨p,bl,zs,rfl,RA,e⟩:=(jd g).mp h1;obtain⟨fa,rfl,h3⟩:=Ze.mp h2;refine⟨p,b,bl,zs,fa,fs,rfl,RA.same s.sub,by rw[e];exact g.g,s.sub _ _ h3,by omega,λx hx=>by rw[<-g.e];exact hf x hx,λv H' hv m=>?_⟩;rw[e]at hv;obtain⟨G',g',i⟩:=zje hv s (λc o _ e=>m c o e) (Vb.mo s.ok m);exact q _ G' H' g' i
theorem zfT(wt:WT Vb T0)(g:GR r b)(hl:lacks r.2 fs=true)(h0:0<=x)(h1:x<r.1):Spg Vb (XF T0) [Is r,Is (zY r.2 fs),Is x] (Is (stO r.2 (fs++[x]))):=λvs G H Q E s z q=>by
 obtain⟨u,y,y',rfl,z1,z2,z3⟩:=zma z;obtain⟨p,bl,zs,rfl,RA,e⟩:=(jd g).mp z1;obtain⟨sa,rfl,z4⟩:=Ze.mp z2;have ne:∀l∈r.2,l≠[]:=λl h=>(g.g.st l h).ne;rw[zW.mp z3];refine⟨p,b,bl,zs,sa,_,x,rfl,RA.same s.sub,by rw[e];exact g.g,s.sub _ _ z4,by rw[e];exact Yx ne hl,h0,by rw[<-g.e];exact h1,wt.lt s.ok,λv H' hv m l=>?_⟩;rw[e]at hv;have e2:stO r.2 (zY r.2 fs++[x])=stO r.2 (fs++[x]):=by unfold stO;rw[qH ne x hl,qx]
 obtain⟨G',g',i⟩:=zje hv s (λc o n e=>m c o (λz=>n (by rw[z];exact wt.ma)) e) (wt.go s.ok m l);exact q _ G' H' g' (by rw[<-e2];exact i)
theorem zeQ(wt:WT Vb T0)(g:GR r b):Spg Vb (Y0 T0) [Is r] (tyE (λws:ZA=>StandsL r.2 ws/\ws.length<=13) Is):=λvs G H Q E s z q=>by
 obtain⟨u,rfl,z1⟩:=zhN z;obtain⟨p,bl,zs,rfl,RA,e⟩:=(jd g).mp z1;refine⟨p,b,bl,zs,rfl,RA.same s.sub,by rw[e];exact g.g,wt.lt s.ok,λD ws H' d1 d2 d3 d4 d5 m l=>?_⟩;rw[e]at d4;obtain⟨G',g',_,k⟩:=Gr.freshS (λc=>c=D\/∃z∈ws,c=z.1) s (λc hc=>by
  rcases hc with rfl | ⟨z,hz,rfl⟩
  ·exact d1
  ·exact (d3 z hz).1) (λc o n e=>m c o (λz=>n (by rw[z];exact wt.ma)) e) (wt.go s.ok m l)
 exact q _ G' H' g' ⟨ws.map (·.2),⟨d4,by rw[aa];exact d5⟩,Yb.mpr ⟨D,ws,rfl,by rw[k D (.inl rfl)];exact d2,λz hz=>by rw[k z.1 (.inr ⟨z,hz,rfl⟩)];exact (d3 z hz).2.1,rfl⟩⟩
theorem zhf:stO ls fs=none\/(lacks ls fs=true/\stO ls fs=some (zY ls fs)):=by
 unfold stO;by_cases h:lacks ls fs=true
 ·exact .inr ⟨h,if_pos h⟩
 ·exact .inl (if_neg h)
def zkW(Ts:List Ty)(T:Ty):Prop:=∃(r:Ru) (b:Nat) (c:Int),Ts=[Is r,Is c]/\T=Is true/\GR r b
theorem JS{c:Int}(g:GR r b):Spg Vb (spg Vb zkW) [Is r,Is c] (Is true):=spg.of ⟨r,b,c,rfl,rfl,g⟩
theorem xH:zG ["rule","cell","stands","k","figures","j","due","ahead","stand"] ["rule","cell"] (zp ym):={}
theorem Q5(D:Df K mg "_law_stands_good" ym Bl f fd)(yz:Df K mg "_law_mixed" uO Aq f1 fd1)(vh:Df K mg "_law_stand" vL Ak f2 fd2)(YH:Df K mg "_law_long" Xa ["row"] f3 fd3)(Zw:Df K mg "all_stands" jU Al f4 fd4)(Xd:FnOk P w K mg base CX0 8 f4 fd4 Al (Y0 T0))(qT:Df K mg "stand_behind" uB Ak f5 fd5)(jY:FnOk P w K mg base CX0 8 f5 fd5 Ak Zd)(YG:Df K mg "step_from" qi Az f6 fd6)(WR:FnOk P w K mg base CX0 8 f6 fd6 Az (XF T0))(T:Blt mg)(wt:WT Vb T0)(wr:Wr Vb):FnOk P w K mg base CX0 10 f fd Bl (spg Vb zkW):=by
    have wk:FnOk P w K mg base CX0 1 f1 fd1 Aq (spg Vb zdH):=YK yz;have Xk:FnOk P w K mg base CX0 1 f2 fd2 Ak (spg Vb zjQ):=Jd vh T;have zf2:FnOk P w K mg base CX0 1 f3 fd3 ["row"] Ud:=zd7 YH T;refine D.pj xH (by rintro _ _ ⟨r,b,c,rfl,_⟩;rfl) λcdv A outer s H E hr Ts TT h=>?_;obtain⟨r,b,c,rfl,rfl,g⟩:=h;have HU:=Vv hr;obtain⟨b2,b16⟩:=g.lo;have ne:∀l∈r.2,l≠[]:=λl h=>(g.g.st l h).ne;refine Je ?_;intro XX;let q1:Sq XX ((zj ym).drop 4):=⟨_,zm (zE vX)⟩
    let q2:Sq XX ((zj ym).drop 3):=⟨_,zg (wR bj rfl (jh K (pv 2)) (yV (i:=8) xH.nd rfl (aW rfl))
        (zm (yx (zP (Yk K HU) (zK vh Xk (hr.mono (by decide)) (zc (pv 0) (zc (pv 8) zf))) (pv 8) (zT _))
          (zm (zE vX))
          zQ))) q1.p⟩
    let q3:Sq XX ((sb (sb (zj ym) 2 true) 1 true).drop 5):=⟨_,zm (yx (PW.pt (zck (zP zbP (pv 6) uF (zT _)) (zal (zP (Xb K HU) (pv 6) (pv 2) (by with_unfolding_all rfl)))))
            (zm (zE vX))
            zQ)⟩
    let q4:Sq XX ((sb (sb (zj ym) 2 true) 1 true).drop 4):=⟨_,zg (yx (PW.pt (zck (zP zbP (pv 7) uF (zT _)) (zal (zP (Yk K HU) (zK YG WR (hr.mono (by decide)) (zc (pv 0) (zc (pv 7) (zc (zX (wJ K) (pv 4) (zcb Jw zu) (λ_ _=>rfl)) zf)))) (pv 6) (zT _)))))
            (zm (zE vX))
            zQ) q3.p⟩
    let q5:Sq XX ((sb (sb (zj ym) 2 true) 1 true).drop 3):=⟨_,zg (zU (i:=7) xH.nd rfl (aW rfl) (zK vh Xk (hr.mono (by decide)) (zc (pv 0) (zc (tX (V1 K) (pv 4) YW (tK (zcb Jw zu))) zf)))) q4.p⟩
    let q6:Sq XX ((sb (sb (zj ym) 2 true) 1 true).drop 2):=⟨_,zg (yx (zP (Yk K HU) (zK qT jY (hr.mono (by decide)) (zc (pv 0) (zc (Yn (Wz K) (by rfl) T.n_list gW (zc (pv 4) zf)) zf))) (pv 6) (zT _))
            (zm (zE vX))
            zQ) q5.p⟩
    let q7:Sq XX ((sb (sb (zj ym) 2 true) 1 true).drop 1):=⟨_,zg (zU (i:=6) xH.nd rfl (aW rfl) (zK vh Xk (hr.mono (by decide)) (zc (pv 0) (zc (pv 4) zf)))) q6.p⟩
    let q8:Sq XX ((sb (zj ym) 2 true).drop 1):=⟨_,zm (wR bj rfl (yM rfl T.n_range (zc zu zf)) (yV (i:=5) xH.nd rfl (aW rfl))
          (zg (yw (Vx PySem.F.plainAttrs_list PySem.F.slot_list_append PySem.F.type_list_append qU (pv 4) (zc (zV qy (zK yz wk (hr.mono (by decide)) (zc (pv 1) (zc (zV xO (zV Zj zu (pv 3)) (pv 5)) zf))) (zX (wJ K) (yR (zc (zX (yP K) (pv 0) zu (λ_ _=>rfl)) (zc zu zf))) (zV qy (pv 3) zu) (λ_ _=>rfl))) zf))) q7.p))⟩
    let q9:Sq XX ((zj ym).drop 2):=⟨_,zg (wR bj rfl (yM rfl T.n_range (zc zu zf)) (yV (i:=3) xH.nd rfl (aW rfl))
        (zg (zU (i:=4) xH.nd rfl (aW rfl) (yR zf)) q8.p)) q2.p⟩
    let q10:Sq XX ((zj ym).drop 1):=⟨_,zg (yx (PW.pt (Z6 (zP (Xb K HU) (yR zf) (pv 2) (by with_unfolding_all rfl)) (qw (zP (Yk K HU) (pv 2) (zfp (pv 2) T.n_sorted YH zf2 zdf (hr.mono (by decide))) (zT _)))))
        (zm (zE vX))
        zQ) q9.p⟩
    refine⟨_,(zg (zU (i:=2) xH.nd rfl (aW rfl) (zK Zw Xd (hr.mono (by decide)) (zc (pv 0) zf))) q10.p),?_⟩;refine Sg.setE (.call (.cons (.var rfl) .nil) (zeQ wt g)) λws ⟨hS,h13⟩=>?_;refine Sg.cut (.or (.val (.op (.lst ([]:List Int) .nil) (.var rfl) zbH)) λh=>(.val (.op (.var rfl) (Tg.sortF (.var rfl) hS.nodup (by omega) λl' pm pw=>zdO pw hS.up λx=>pm.mem_iff) Xw))) (λe=>absurd e ?_) λ_=>?_
    · have:[]∈ws:=(hS.mem []).mpr (.inl rfl)
      simp[this]
    refine Sg.fors (λk Γ=>∃T3 T4 T5 T6 T7,Γ=[some (Is r),some (Is c),some (Is ws),T3,T4,T5,T6,T7,none]) (.rng1 .int rfl (by omega)) ⟨_,_,_,_,_,rfl⟩ ?_ ?_
    · rintro k kk hk Γ ⟨T3,T4,T5,T6,T7,rfl⟩
      obtain⟨hk2,rfl⟩:=Qy hk;rw[cM];obtain⟨v,ei,v0,v1⟩:∃v,[r.1,2][((k:Int) % 2).toNat]?=some v/\0<v/\v<=r.1:=by
        rcases (show ((k:Int) % 2).toNat=0\/((k:Int) % 2).toNat=1 by omega) with e | e<;>rw[e]
        · exact⟨_,rfl,by omega,by omega⟩
        · exact⟨_,rfl,by omega,by omega⟩
      refine Sg.acc (α:=Int) wr λa=>?_;refine Sm.for1 (λj Γ fs=>fs.length=j/\(∀x∈fs,0<=x/\x<r.1)/\∃T5 T6 T7,Γ=[some (Is r),some (Is c),some (Is ws),some (Is (k:Int)),some (W3 (.ref a)),T5,T6,T7,none]) (.rng1 .int rfl (by omega)) ⟨rfl,by simp,_,_,_,rfl⟩ ?_ fun Γ fs ⟨_,_,T5,T6,T7,e⟩=>⟨_,_,_,_,_,e⟩
      rintro j jj hj Γ fs ⟨hfl,hfs,T5,T6,T7,rfl⟩;obtain⟨hj2,rfl⟩:=Qy hj;rw[cM];have hj3:j<7:=hj2;refine Sm.app rfl (.op (.call (.cons (.var rfl) (.cons (.op (.op .int (.var rfl) (JF (.inl ⟨by decide,by decide⟩))) (.var rfl) Yc) .nil)) (uL (by omega) (by omega))) (.op (.lst [r.1,2] (.cons (.op (.var rfl) .int WX) (.cons .int .nil))) (.op (.var rfl) .int (Vm (by decide))) (JG (by omega) ei)) (Vm v0)) (by omega) ?_;have x0:=gD (mixed c (8*k+j)) (show v≠0 by omega);have x1:mixed c (8*k+j) % v<r.1:=Int.lt_of_lt_of_le (fL _ v0) v1;generalize mixed c (8*k+j) % v=x at x0 x1 ⊢;have hfl2:(fs++[x]).length=j+1:=by rw[aB,hfl];rfl
      have hfig:∀y∈fs++[x],0<=y/\y<r.1:=λy hy=>by
        rcases bf.mp hy with h | h
        · exact hfs y h
        · have e:y=x:=by simpa using h
          rw[e];exact⟨x0,x1⟩
      refine Sm.read (x:=4) (js:=[6,7]) (N1:=fun Γ=>Γ.length=9) ?_ zbF rfl (λ_ _=>trivial) (λ_ h=>h) ⟨hfl2,hfig,_,_,_,rfl⟩;refine Sg.set (.call (.cons (.var rfl) (.cons (.var rfl) .nil)) (XD g (by omega))) ?_;refine Sg.cut (.val (.op (.call (.cons (.var rfl) (.cons (.cb (.cons (.var rfl) .nil) zbO) .nil)) (zb2 g (by omega) hfig)) (.var rfl) Xw)) (λe=>absurd e (by simp)) λ_=>?_;refine Sg.set (.call (.cons (.var rfl) (.cons (.sl (.var rfl) .none (.some (.neg .int)) ((zhX _).trans List.dropLast_concat)) .nil)) (XD g (by omega))) ?_;dsimp only[q4];refine Sg.cut (p:=false) ?_ (λe=>nomatch e) λ_=>?_
      · rcases zhf (ls:=r.2) (fs:=fs) with e | ⟨hlk,e⟩<;>rw[e]
        · exact .to (.and (r:=false) (.val (.op (.var rfl) (Tg.non (α:=Int)) (zbG λ_ _=>zbV))) λh=>nomatch h) rfl
        · exact .to (.and (r:=false) (.val (.op (.var rfl) (Tg.non (α:=Int)) (zbG λ_ _=>zbV))) λh=>.to (.val (.op (.call (.cons (.var rfl) (.cons (.eq (.var rfl) rfl) (.cons (.op (.var rfl) (.neg .int) (zjj List.getLast?_concat)) .nil))) (zfT wt g hlk x0 x1)) (.var rfl) Xw)) (by simp)) rfl
      · dsimp only[q3]
        refine Sg.cut1 (p:=false) ?_ (λe=>nomatch e) λ_=>rfl;rcases zhf (ls:=r.2) (fs:=fs++[x]) with e | ⟨hlk,e⟩<;>rw[e]
        · exact .to (.and (r:=false) (.val (.op (.var rfl) (Tg.non (α:=Int)) (zbG λ_ _=>zbV))) λh=>nomatch h) rfl
        · have hm:zY r.2 (fs++[x])∈ws:=(hS.mem _).mpr (Yx ne hlk)
          exact .to (.and (r:=false) (.val (.op (.var rfl) (Tg.non (α:=Int)) (zbG λ_ _=>zbV))) λh=>.to (.val (.op (.eq (b:=zY r.2 (fs++[x])) (.var rfl) rfl) (.var rfl) zbH)) (by simp[hm])) rfl
    · rintro Γ ⟨T3,T4,T5,T6,T7,rfl⟩
      refine Sg.fors (λk Γ=>∃T8,Γ=[some (Is r),some (Is c),some (Is ws),T3,T4,T5,T6,T7,T8]) (.list (.var rfl)) ⟨_,rfl⟩ ?_ fun Γ ⟨T8,e⟩=>e▸Sg.ret .bl
      rintro k st hk Γ ⟨T8,rfl⟩;have hst:=(hS.mem _).mp (aJ hk);obtain⟨t1,t2⟩:=zgB hst;have hl3:=zcN (λl h=>(g.g.st l h).len) hst;exact Sg.cut1 (.val (.op (.call (.cons (.var rfl) (.cons (.var rfl) .nil)) (XD g (by omega))) (Tg.so (.var rfl)) Xw)) (λe=>absurd e (by simp[stO,t1,t2])) λ_=>⟨_,rfl⟩
open Enc
def ruL(cs:List CN):List Ru:=cs.map λc=>((c.1:Int),c.2)
def GoodC(cs:List CN):Prop:=∀c∈cs,GoodRule c.1 c.2
theorem zk1(h:GoodC cs)(hy:y∈ruL cs):GR y y.1.toNat:=by
 obtain⟨c,hc,rfl⟩:=bh.mp hy;exact⟨rfl,h c hc⟩
theorem zfG(h:GoodC cs):(Is (ruL cs)).p G v->∃l rs,v=.ref l/\RulesAt G l rs/\rs.map RL.con=cs:=by
 intro q;obtain⟨l,xs,rfl,h1,h2⟩:=tQ.mp q;have key:∀(cs:List CN) (xs:List V),GoodC cs->Ats G ((ruL cs).map en) xs->∃rs:List RL,xs=rs.map (λx=>V.ref x.r)/\(∀x∈rs,RuleAt G x.r x.b x.bl x.zs)/\rs.map RL.con=cs:=by
  intro cs
  induction cs with
  |nil=>intro xs _ h;rw[show (ruL []).map en=[] from rfl,Ats]at h;exact⟨[],h,by simp,rfl⟩
  |cons c cs ih=>
   intro xs hg h;rw[show (ruL (c::cs)).map en=en ((c.1:Int),c.2)::(ruL cs).map en from rfl,Ats]at h;obtain⟨y,ys,rfl,hy,h⟩:=h;obtain⟨rs,rfl,r1,r2⟩:=ih _ (λc hc=>hg c (bx _ hc)) h;obtain⟨p,bl,zs,rfl,RA,e⟩:=(jd (r:=((c.1:Int),c.2)) (b:=c.1) ⟨rfl,hg c bI⟩).mp hy;refine⟨⟨p,c.1,bl,zs⟩ :: rs,rfl,λx hx=>?_,by rw[bz,r2];congr 1;show (c.1,zs.map (·.2))=c;rw[e]⟩;rcases aP.mp hx with rfl | hx
   ·exact RA
   ·exact r1 x hx
 obtain⟨rs,rfl,r1,r2⟩:=key cs xs h h2;exact⟨l,rs,rfl,⟨h1,r1⟩,r2⟩
theorem ziH{rs:List RL}(h:GoodC cs)(h1:1<=cs.length)(h3:cs.length<=3)(e:rs.map RL.con=cs):GoodRs rs:=by
 subst e;rw[aa]at h1 h3;exact⟨λz=>by rw[z]at h1;simp at h1,h3,λx hx=>h _ (bh.mpr ⟨x,hx,rfl⟩)⟩
def kp(cs:List CN)(x:Int):Bool:=qY cs x.toNat
theorem zfg(cs:List CN)(n:Nat):zaq cs n=(rng 0 n).filter (kp cs):=by
 unfold zaq rng;rw[pM];congr 1
 ·funext k;omega
 ·apply Ci;intro k _;show _=qY cs ((0:Int)+(k:Int)).toNat;congr 1;omega
theorem zjr(cs:List CN)(n:Nat):((rng n 500).filter (kp cs)).head?=(nextK cs n).map λm:Nat=>(m:Int):=by
 unfold nextK rng;rw[List.head?_filter,List.find?_map,Option.map_map];have e:(kp cs ∘ λk:Nat=>(n:Int)+(k:Int))=λj=>qY cs (n+j):=by
  funext j;show qY cs ((n:Int)+(j:Int)).toNat=_;congr 1
 rw[e];cases (aD 500).find? λj=>qY cs (n+j) with
 |none=>rfl
 |some j=>show some ((n:Int)+(j:Int))=some ((n+j:Nat):Int);congr 1
theorem zjR:(Is (o.map λm:Nat=>(m:Int))).p G (zlo o):=by
 cases o with
 |none=>exact Vl.mpr rfl
 |some m=>exact Zt rfl
theorem zjg{i j:Bool}:Ob Vb rNe (Is i) (Is j) (Is (!decide (i=j))):=λx y G H Q s hx hy q=>by
 rw[jB.mp hx,jB.mp hy];refine⟨rfl,q _ G H (.refl s) (jB.mpr ?_)⟩;simp
def zln(Ts:List Ty)(T:Ty):Prop:=∃(cs:List CN) (n:Int),Ts=[Is (ruL cs),Is n]/\T=Is true/\GoodC cs/\1<=cs.length/\cs.length<=3/\0<=n/\n<=300
theorem Xj{n:Int}(h:GoodC cs)(h1:1<=cs.length)(h3:cs.length<=3)(h0:0<=n)(hn:n<=300):Spg Vb (spg Vb zln) [Is (ruL cs),Is n] (Is true):=spg.of ⟨cs,n,rfl,rfl,h,h1,h3,h0,hn⟩
theorem vp:zG ["rules","n","some","one","below","rest"] ["rules","n"] (zp yg):={}
theorem Qg(D:Df K mg "_law_together_good" yg Ac f fd)(vz:Df K mg "_law_good" ql Ab f1 fd1)(yf:Df K mg "_law_figures" xg Ae f2 fd2)(tW:Df K mg "count_keeping" qR Ac f3 fd3)(jq:FnOk P w K mg base CX0 11 f3 fd3 Ac jW)(uo:Df K mg "all_keeping" vM Ac f4 fd4)(uT:FnOk P w K mg base CX0 10 f4 fd4 Ac jk)(Yu:Df K mg "keeps_all" ZL Ac f5 fd5)(Wq:FnOk P w K mg base CX0 10 f5 fd5 Ac XS)(qW:Df K mg "next_keeping" vQ Ac f6 fd6)(j8:FnOk P w K mg base CX0 10 f6 fd6 Ac Zc)(T:Blt mg)(wr:Wr Vb):FnOk P w K mg base CX0 12 f fd Ac (spg Vb zln):=by
  have YF:FnOk P w K mg base CX0 2 f1 fd1 Ab (spg Vb zaU):=Ur vz yf T;refine D.pj vp (by rintro _ _ ⟨cs,n,rfl,_⟩;rfl) λcdv A outer s H E hr Ts TT h=>?_;obtain⟨cs,n,rfl,rfl,hcs,c1,c3,h0,hn⟩:=h;have HU:=Vv hr;have lrl:(ruL cs).length<=3:=by unfold ruL;rw[aa];exact c3
  refine Je ?_;intro XX;let q1:Sq XX ((zj yg).drop 6):=⟨_,zm (zE (ul (U5 K HU) (zK qW j8 (hr.mono (by decide)) (zc (pv 0) (zc (pv 1) zf))) (zX (wJ K) (zV ZZ (pv 5) (yR (zc uF zf))) zu (λ_ _=>rfl)) (zT _)))⟩
  let q2:Sq XX ((zj yg).drop 5):=⟨_,zg (wL (i:=5) (show CScope (zp yg) _ "one" ["rules","n","some","one","below","rest"] ["n"] [1] from {}) rfl vp.nd rfl (aW rfl) (jh K (pv 2)) (λ_ _ _ _=>(uq (zcC U7 zbg (pv 1) (pv 0) (zV xO (pv 1) zu)))) (λ_ _ _ _=>(pv 0))) q1.p⟩
  let q3:Sq XX ((zj yg).drop 4):=⟨_,zg (yx (zP Va (zK Yu Wq (hr.mono (by decide)) (zc (pv 0) (zc (pv 1) zf))) (ul (zhb K HU) (pv 1) (pv 2) (by with_unfolding_all rfl)) (zT _))
    (zm (zE vX))
    zQ) q2.p⟩
  let q4:Sq XX ((zj yg).drop 3):=⟨_,zg (yx (PW.pt (Z6 (zP Va (zK tW jq (hr.mono (by decide)) (zc (pv 0) (zc (pv 1) zf))) (zH (xG K) (by rfl) T.n_len PySem.boot_len (zc (pv 4) zf)) (zT _)) (qw (zP (Yk K HU) (zK uo uT (hr.mono (by decide)) (zc (pv 0) (zc (pv 1) zf))) (pv 4) (zT _)))))
    (zm (zE vX))
    zQ) q3.p⟩
  let q5:Sq XX ((zj yg).drop 2):=⟨_,zg (wL (i:=4) (show CScope (zp yg) _ "one" ["rules","n","some","one","below","rest"] ["n"] [1] from {}) rfl vp.nd rfl (aW rfl) (jh K (pv 2)) (λ_ _ _ _=>(uq (zP zbg (pv 0) (pv 1) (zT _)))) (λ_ _ _ _=>(pv 0))) q4.p⟩
  let q6:Sq XX ((zj yg).drop 1):=⟨_,zg (wR bj rfl (yM rfl T.n_range (zc (zV xO (pv 1) zu) zf)) (yV (i:=3) vp.nd rfl (lE rfl))
    (zm (yx (zP (U5 K HU) (wO (show CScope (zp yg) _ "rule" ["rules","n","some","one","below","rest"] ["one"] [3] from {}) rfl (jh K (pv 0)) (λ_ _ _ _=>(uq (wB (yX (zK vz YF (hr.mono (by decide)) (zc (pv 0) (zc (pv 1) zf))))))) (λ_ _ _ _=>(pv 0))) (yR zf) (zT _))
     (zm (yw (Vx PySem.F.plainAttrs_list PySem.F.slot_list_append PySem.F.type_list_append qU (pv 2) (zc (pv 3) zf))))
     zQ))) q5.p⟩
  refine⟨_,(zg (zU (i:=2) vp.nd rfl (aW rfl) (yR zf)) q6.p),?_⟩;obtain⟨m,rfl⟩:∃m:Nat,n=m:=⟨n.toNat,by omega⟩
  refine Sg.acc (α:=Int) wr λa=>?_;refine Sm.fors (λi Γ l=>l=(rng 0 i).filter (kp cs)/\∃T3,Γ=[some (Is (ruL cs)),some (Is (m:Int)),some (W3 (.ref a)),T3,none,none]) (.rng1 (.op (.var rfl) .int Yc) (n:=m+600) (by omega) (by omega)) ⟨rfl,_,rfl⟩ ?_ ?_
  ·rintro i x hx Γ l ⟨rfl,T3,rfl⟩;obtain⟨hi,rfl⟩:=Qy hx;rw[cM];have hlen:((rng 0 i).filter (kp cs)).length<=900:=ao (bV _ _) (by rw[uQ];omega);refine Sm.iff (p:=kp cs (i:Int)) (.to (.val (.op (.comp (.list (.var rfl)) (λy hy=>(.not (.valB (.call (.cons (.var rfl) (.cons (.var rfl) .nil)) (QH (zk1 hcs hy) (by omega) (by omega)))))) (λy hy h=>(.var rfl)) (by omega)) (.lst ([]:List Ru) .nil) Jg)) ?_) (λe=>Sm.app0 rfl (.var rfl) (by omega) (Sm.nil ⟨?_,_,rfl⟩)) λe=>Sm.nil ⟨?_,_,rfl⟩
   ·rw[dF,bD,decide_eq_true_iff,fu];unfold kp qY;rw[gf];have e:∀c:CN,gi ((c.1:Int),c.2) (i:Int)=lacks c.2 (yJ c.1 (i:Int).toNat):=λc=>rfl;constructor
    ·intro h c hc;have:=h _ (bh.mpr ⟨c,hc,rfl⟩);rw[e c]at this;simpa using this
    ·intro h a ha;obtain⟨c,hc,rfl⟩:=bh.mp ha;rw[e c,h c hc];decide
   ·rw[WW,bT,lK e];rfl
   ·rw[WW,bT,oW (by rw[e];decide),lB,cR]
  ·rintro Γ l ⟨rfl,T3,rfl⟩;rw[uQ];have eb:=zgi (kp cs) (n:=m) (m:=m+600) (by omega);have l1:((rng 0 (m+600)).filter (kp cs)).length<=900:=ao (bV _ _) (by rw[uQ];omega);have l2:((rng 0 m).filter (kp cs)).length<=300:=ao (bV _ _) (by rw[uQ];omega);have er:=zgz (p:=kp cs) (q:=λx:Int=>decide ((m:Int)<=x) && decide (x<(m:Int)+500)) (lo:=m) (n:=500) (N:=m+600) (by omega) λx _ _=>by rw[<-Bool.decide_and];rfl
   have lr:((rng m 500).filter (kp cs)).length<=500:=ao (bV _ _) (by rw[uQ];omega);refine Sm.fin (x:=2) ?_ zbF rfl;have HR:∀{sp:Sp} {T:Ty},(∀(l:aq) (rs:List RL) (G H:Hp) (Q:VK) (E:XK),RulesAt H l rs->GoodRs rs->rs.map RL.con=cs->Vw Vb G H->(∀v G' H',Gr Vb G H G' H'->T.p G' v->Q v H')->sp [.ref l,.int m] H Q E)->Spg Vb sp [Is (ruL cs),Is (m:Int)] T:=λh vs G H Q E s z q=>by
    obtain⟨x,y,rfl,z1,z2⟩:=zcL z;obtain⟨l,rs,rfl,R,e⟩:=zfG hcs z1;rw[zW.mp z2];exact h l rs G H Q E (R.same s.sub) (ziH hcs c1 c3 e) e s q
   have hck:Spg Vb jW [Is (ruL cs),Is (m:Int)] (Is ((((rng 0 m).filter (kp cs)).length:Nat):Int)):=HR λl rs G H Q E R g e s q=>⟨l,rs,m,rfl,R,g,by omega,λH' sm=>q _ G H' (Gr.of s sm) (zW.mpr (by rw[e,zfg]))⟩
   have hak:Spg Vb jk [Is (ruL cs),Is (m:Int)] (Is ((rng 0 m).filter (kp cs))):=HR λl rs G H Q E R g e s q=>⟨l,rs,m,rfl,R,g,by omega,λp H' hp h sm=>by
    obtain⟨g1,m1⟩:=Gr.fresh s hp h sm;exact q _ _ H' g1 (Ze.mpr ⟨p,rfl,by rw[zq,e,zfg]⟩)⟩
   have hka:Spg Vb XS [Is (ruL cs),Is (m:Int)] (Is (kp cs (m:Int))):=HR λl rs G H Q E R g e s q=>⟨l,rs,m,rfl,R,g,by omega,λH' sm=>q _ G H' (Gr.of s sm) (jB.mpr (by rw[e];rfl))⟩
   have hnk:Spg Vb Zc [Is (ruL cs),Is (m:Int)] (Is ((rng m 500).filter (kp cs)).head?):=HR λl rs G H Q E R g e s q=>⟨l,rs,m,rfl,R,g,by omega,λH' sm=>q _ G H' (Gr.of s sm) (by rw[e,zjr];exact zjR)⟩
   refine Sg.set (T:=Is ((rng 0 m).filter (kp cs))) (.to (.comp (.list (.var rfl)) (λy hy=>(.val (.op (.var rfl) (.var rfl) zcA))) (λy hy h=>(.var rfl)) (by omega)) (by rw[dF,eb])) ?_;refine Sg.cut (.or (.val (.op (.call (.cons (.var rfl) (.cons (.var rfl) .nil)) (hck)) (.cb (.cons (.var rfl) .nil) qt) UW)) λh=>(.val (.op (.call (.cons (.var rfl) (.cons (.var rfl) .nil)) (hak)) (.var rfl) Xw))) (λe=>absurd e (by simp)) λ_=>?_;refine Sg.cut (.val (.op (.call (.cons (.var rfl) (.cons (.var rfl) .nil)) (hka)) (.op (.var rfl) (.var rfl) ziB) zjg)) (λe=>absurd e ?_) λ_=>?_
   ·have:(m:Int)∈(rng 0 (m+600)).filter (kp cs)↔kp cs (m:Int)=true:=by rw[bU,uC];constructor<;>(intro h;first | exact h.2 | exact⟨by omega,h⟩)
    rw[show decide ((m:Int)∈(rng 0 (m+600)).filter (kp cs))=kp cs (m:Int) from by rw[bD,decide_eq_true_iff];exact this];simp
   ·refine Sg.set (T:=Is ((rng m 500).filter (kp cs))) (.to (.comp (.list (.var rfl)) (λy hy=>(.val (.chain (.var rfl) (.var rfl) (.op (.var rfl) .int Yc) zcA zcA))) (λy hy h=>(.var rfl)) (by omega)) (by rw[dF,er])) ?_;have e1:(((rng m 500).filter (kp cs)).map some++[none])[(0:Int).toNat]?=some ((rng m 500).filter (kp cs)).head?:=by cases (rng m 500).filter (kp cs)<;>rfl
    exact Sg.ret (.to (.op (.call (.cons (.var rfl) (.cons (.var rfl) .nil)) (hnk)) (.op (.op (Tg.sos (.var rfl)) (.lst [none] (.cons .non .nil)) (za4 (by rw[aa];show _+1<=100000;omega))) .int (JG (by decide) e1)) Jg) (by simp))
open Enc
def nin{α:Type}[DecidableEq α](l:List α)(x:α):Bool:=!decide (x∈l)
def evC(l1 l2:ZA):ZA:=l1++l2.filter (nin l1)
theorem zho:x∈evC l1 l2↔x∈zaB [(0,l1),(0,l2)]:=by
 unfold evC zaB;simp only[bf,bU,Cg,List.flatMap_nil,cR];by_cases h:x∈l1<;>simp[h,nin]
theorem zar{U V:ZA}(h:∀x,x∈U↔x∈V)(st:List Int):t8 U st=t8 V st:=by
 unfold t8;rw[bD,cI,cI];constructor<;>rintro⟨x,hx,q⟩
 ·exact⟨x,(h x).mp hx,q⟩
 ·exact⟨x,(h x).mpr hx,q⟩
theorem zly(h1:l1.Nodup)(h2:l2.Nodup):(evC l1 l2).Nodup :=
 fP.mpr ⟨h1,h2.filter _,λx hx y hy e=>by
  have:=(bU.mp hy).2;subst e;simp[hx,nin]at this⟩
theorem zfy(pm:l'.Perm (needed (evC l1 l2)))(pw:LPw l'):l'=Xv [(b,l1),(b,l2)]:=by
 refine JZ pw (zdS zaE) λx=>?_;rw[pm.mem_iff];unfold Xv needed;have hm:∀y,y∈evC l1 l2↔y∈uni (zaB [(b,l1),(b,l2)]):=λy=>by rw[zho,YX];rfl
 rw[bU,bU,hm,zar hm]
def zjx(Ts:List Ty)(T:Ty):Prop:=∃(b:Nat) (l1 l2:ZA),Ts=[Is ((b:Int),l1),Is ((b:Int),l2)]/\T=Is true/\GoodRule b l1/\GoodRule b l2
theorem zbm(g1:GoodRule b l1)(g2:GoodRule b l2):Spg Vb (spg Vb zjx) [Is ((b:Int),l1),Is ((b:Int),l2)] (Is true):=spg.of ⟨b,l1,l2,rfl,rfl,g1,g2⟩
theorem xj:zG ["rule","other","every","needed","one","others","within","due","told"] ["rule","other"] (zp yu):={}
theorem zaD{qA qB:aq}{f f1 f2:aq}{fd fd1 fd2:iY}(D:Df K mg "_law_one_good" yu Bm f fd)(vh:Df K mg "_law_stand" vL Ak f1 fd1)(Wc:Df K mg "one_rule" vG Ar f2 fd2)(V6:FnOk P w K mg base (CX1 P w) 9 f2 fd2 Ar (W7 qA qB))(qAa:zd4 K mg "TooMany" qB)(qAb:rC K (.ref qB) (.ref qB)=some true)(T:Blt mg)(wr:Wr Vb):FnOk P w K mg base CX0 10 f fd Bm (spg Vb zjx):=by
  have Xk:FnOk P w K mg base CX0 1 f1 fd1 Ak (spg Vb zjQ):=Jd vh T;refine D.pj xj (by rintro _ _ ⟨b,l1,l2,rfl,_⟩;rfl) λcdv A outer s H E hr Ts TT h=>?_;obtain⟨b,l1,l2,rfl,rfl,g1,g2⟩:=h;have HU:=Vv hr;have n1:=g1.len;have n2:=g2.len;have nf:(l2.filter (nin l1)).length<=4:=ao (bV _ _) n2;have ne8:(evC l1 l2).length<=8:=by unfold evC;rw[aB];omega
  have gst:∀x∈evC l1 l2,zay b x:=λx hx=>by
   rcases bf.mp hx with h | h
   ·exact g1.st x h
   ·exact g2.st x (bU.mp h).1
  refine Je ?_;intro XX;let q1:Sq XX ((zj yu).drop 7):=⟨_,zm (zE (ul (U5 K HU) (pv 8) (pv 7) (zT _)))⟩
  let q2:Sq XX ((zj yu).drop 6):=⟨_,zg (yx (zP zaj (zH (xG K) (by rfl) T.n_len PySem.boot_len (zc (pv 3) zf)) zu (zT _))
    (zm (zE (ul (U5 K HU) (pv 8) zeG (zT _))))
    zQ) q1.p⟩
  let q3:Sq XX ((zj yu).drop 5):=⟨_,zg (ziQ qAa rfl rfl (λ_ _ _ hS=>
    (zm (zU (i:=8) xj.nd rfl (aW rfl) (zli Wc V6 (hr.mono (by decide)) hS (zc (yR (zc (pv 0) (zc (pv 1) zf))) zf))))) (λ_=>
    (zm (zU (i:=8) xj.nd rfl (aW rfl) zeG)))) q2.p⟩
  let q4:Sq XX ((zj yu).drop 4):=⟨_,zg (zU (i:=8) xj.nd rfl (aW rfl) uF) q3.p⟩
  let q5:Sq XX ((zj yu).drop 3):=⟨_,zg (zU (i:=7) xj.nd rfl (aW rfl) (Zi (zc (zX (yP K) (pv 0) zu (λ_ _=>rfl)) (zc (zH (zac K HU) (by rfl) T.n_sorted lH (zc (pv 3) zf)) zf)))) q4.p⟩
  let q6:Sq XX ((sb (zj yu) 2 true).drop 2):=⟨_,zm (yx (zP (U5 K HU) (pv 6) (yR zf) (zT _))
     (zm (yw (Vx PySem.F.plainAttrs_list PySem.F.slot_list_append PySem.F.type_list_append qU (pv 3) (zc (pv 4) zf))))
     zQ)⟩
  let q7:Sq XX ((sb (zj yu) 2 true).drop 1):=⟨_,zg (wL (i:=6) (show CScope (zp yu) _ "two" ["rule","other","every","needed","one","others","within","due","told"] ["one","rule"] [4,0] from {}) rfl xj.nd rfl (aW rfl) (jh K (pv 5)) (λ_ _ _ _=>(uq (zP zes (zK vh Xk (hr.mono (by decide)) (zc (Zi (zc (zX (yP K) (pv 2) zu (λ_ _=>rfl)) (zc (yR (zc (pv 0) zf)) zf))) (zc (pv 1) zf))) uF (zT _)))) (λ_ _ _ _=>(pv 0))) q6.p⟩
  let q8:Sq XX ((zj yu).drop 2):=⟨_,zg (wR bj rfl (jh K (pv 2)) (yV (i:=4) xj.nd rfl (lE rfl))
    (zg (wL (i:=5) (show CScope (zp yu) _ "two" ["rule","other","every","needed","one","others","within","due","told"] ["one"] [4] from {}) rfl xj.nd rfl (aW rfl) (jh K (pv 2)) (λ_ _ _ _=>(uq (zP (Yk K HU) (pv 0) (pv 1) (zT _)))) (λ_ _ _ _=>(pv 0))) q7.p)) q5.p⟩
  let q9:Sq XX ((zj yu).drop 1):=⟨_,zg (zU (i:=3) xj.nd rfl (aW rfl) (yR zf)) q8.p⟩
  refine⟨_,(zg (zU (i:=2) xj.nd rfl (aW rfl) (zV ZZ (zX (yP K) (pv 0) zu (λ_ _=>rfl)) (wO (show CScope (zp yu) _ "one" ["rule","other","every","needed","one","others","within","due","told"] ["rule"] [0] from {}) rfl (jh K (zX (yP K) (pv 1) zu (λ_ _=>rfl))) (λ_ _ _ _=>(uq (zP (Xb K HU) (pv 0) (zX (yP K) (pv 1) zu (λ_ _=>rfl)) (by with_unfolding_all rfl)))) (λ_ _ _ _=>(pv 0))))) q9.p),?_⟩;refine Sg.set (T:=Is (evC l1 l2)) (.to (.op (.op (.var rfl) .int Qz) (.comp (.list (.op (.var rfl) .int Qz)) (λy hy=>(.val (.op (.var rfl) (.op (.var rfl) .int Qz) zbH))) (λy hy h=>(.var rfl)) (by omega)) (za4 (by rw[aa];exact ao (Ej n1 (ao (bV _ _) n2)) (by decide)))) (by rw[dF];rfl)) (Sg.acc (α:=List Int) wr λa=>?_);refine Sm.fors (λi Γ l=>l=((evC l1 l2).take i).filter (λst=>!t8 (evC l1 l2) st)/\∃T4 T5 T6,Γ=[some (Is ((b:Int),l1)),some (Is ((b:Int),l2)),some (Is (evC l1 l2)),some (W3 (.ref a)),T4,T5,T6,none,none]) (.list (.var rfl)) ⟨by simp,_,_,_,rfl⟩ ?_ ?_
  ·rintro i st hst Γ l ⟨rfl,T4,T5,T6,rfl⟩;have hm:=aJ hst;have hs4:=(gst st hm).len;have hl8:(((evC l1 l2).take i).filter (λst=>!t8 (evC l1 l2) st)).length<=8:=ao (bV _ _) (by rw[bM];omega);have lo8:((evC l1 l2).filter λy=>!decide (y=st)).length<=100000:=ao (bV _ _) (by omega);have gy:∀y∈(evC l1 l2).filter (λy=>!decide (y=st)),GR ((b:Int),[y]) b:=λy hy=>⟨rfl,g1.b2,g1.b16,by show 1<=4;decide,λl hl=>by
    have e:l=y:=by simpa using hl
    rw[e];exact gst y (bU.mp hy).1,oR _ _⟩
   refine Sm.set (T:=Is ((evC l1 l2).filter λy=>!decide (y=st))) (.to (.comp (.list (.var rfl)) (λy hy=>(.val (.op (.var rfl) (.var rfl) Xw))) (λy hy h=>(.var rfl)) (by omega)) (by rw[dF])) ?_;refine Sm.set (T:=Is (((evC l1 l2).filter λy=>!decide (y=st)).filter λy=>(stO [y] st).isNone)) (.to (.comp (.list (.var rfl)) (λy hy=>(.val (.op (.call (.cons (.tup (.op (.var rfl) .int WX) (.lst [y] (.cons (.var rfl) .nil))) (.cons (.var rfl) .nil)) (XD (r:=((b:Int),[y])) (gy y hy) (by omega))) (Tg.non (α:=Int)) (zk7 λ_ _=>zbV)))) (λy hy h=>(.var rfl)) lo8) (by rw[dF])) ?_;refine Sm.iff (p:=!t8 (evC l1 l2) st) (.to (.val (.op (.var rfl) (.lst ([]:ZA) .nil) Jg)) ?_) (λe=>Sm.app0 rfl (.var rfl) (by omega) (Sm.nil ⟨?_,_,_,_,rfl⟩)) λe=>Sm.nil ⟨?_,_,_,_,rfl⟩
   ·rw[bD,decide_eq_true_iff,fu,cU];unfold t8;rw[cu];have e:∀y:List Int,(stO [y] st).isNone=Zr y st:=λy=>by
     unfold stO lacks;cases h:Zr y st<;>simp[h]
    constructor
    ·intro h y hy;by_cases q:y=st
     ·simp[q]
     ·have:=h y (bU.mpr ⟨hy,by simp[q]⟩);rw[e y]at this;simp[q,this]
    ·intro h y hy;obtain⟨h1,h2⟩:=bU.mp hy;have h3:=h y h1;have q:y≠st:=by simpa using h2
     rw[e y];simpa[q] using h3
   ·rw[gK,hst,bT];simp[e]
   ·rw[gK,hst,bT];simp[e]
  ·rintro Γ l ⟨rfl,T4,T5,T6,rfl⟩;rw[cj];refine Sm.fin (x:=3) ?_ zbF rfl;have nd:(needed (evC l1 l2)).Nodup:=(zly (LPw.nodup g1.up) (LPw.nodup g2.up)).filter _;have hl3:(needed (evC l1 l2)).length<=60:=ao (bV _ _) (by omega);have hu:∀l':ZA,l'.Perm (needed (evC l1 l2))->l'.Pairwise (λx y=>HT.lexLt x y=true)->l'=Xv [(b,l1),(b,l2)]:=λl' pm pw=>zfy pm pw;have hm:∀y,y∈evC l1 l2↔y∈uni (zaB [(b,l1),(b,l2)]):=λy=>by rw[zho,YX];rfl
   have hle:(Xv [(b,l1),(b,l2)]).length=(needed (evC l1 l2)).length:=((nR (LPw.nodup (zdS zaE)) nd).mpr λx=>by
    unfold needed;rw[bU,bU,hm,zar hm]).length_eq
   have hcs:GoodC [(b,l1),(b,l2)]:=λc hc=>by
    rcases aP.mp hc with rfl | hc
    ·exact g1
    ·rw[cJ.mp hc];exact g2
   have hsb:zbi [(b,l1),(b,l2)]=true:=by simp[zbi,zhs]
   have hta:∀{Γ:Cxt},Γ[0]?=some (some (Is ((b:Int),l1)))->Γ[1]?=some (some (Is ((b:Int),l2)))->Ta Vb Γ (ZW (zhC (ZW (zby 0) (ZW (zby 1) Qh))) Qh) [Is (ruL [(b,l1),(b,l2)])]:=λe0 e1=>.cons (.lst (ruL [(b,l1),(b,l2)]) (.cons (.var e0) (.cons (.var e1) .nil)) (by show 2<=100000;decide)) .nil;show Sg Vb _ _ _ _ _
   change Sg Vb _ (HW _ 3 (some (Is (needed (evC l1 l2))))) _ _ _
   refine Sg.set (T:=Is ((b:Int),Xv [(b,l1),(b,l2)])) (.tup (.op (.var rfl) .int WX) (.cb (.cons (.var rfl) .nil) (zg2 nd hl3 hu))) (Sg.set (Tg.non (α:=Int)) ?_);have HR:∀(vs:List V) (G:Hp),Tis [Is (ruL [(b,l1),(b,l2)])] G vs->∃(l:aq) (rs:List RL),vs=[.ref l]/\RulesAt G l rs/\GoodRs rs/\rs.map RL.con=[(b,l1),(b,l2)]:=λvs G z=>by
    obtain⟨x,rfl,z1⟩:=zhN z;obtain⟨l,rs,rfl,R,e⟩:=zfG hcs z1;exact⟨l,rs,rfl,R,ziH hcs (by show 1<=2;decide) (by show 2<=3;decide) e,e⟩
   by_cases h4:(Xv [(b,l1),(b,l2)]).length<=4
   ·have hsp:Spg Vb (W7 qA qB) [Is (ruL [(b,l1),(b,l2)])] (Is ((b:Int),Xv [(b,l1),(b,l2)])):=λvs G H Q E s z q=>by
     obtain⟨l,rs,rfl,R,g,e⟩:=HR vs G z;refine⟨l,rs,rfl,R.same s.sub,g,λz=>(by rw[e,hsb]at z;cases z),λ_ z=>absurd h4 (by rw[e]at z;omega),λ_ _ r nl zs H' sm RA ez n1 n2 n3=>?_⟩;rw[e]at RA ez;obtain⟨G',g',_,k⟩:=Gr.freshS (λc=>c=r\/c=nl\/∃z∈zs,c=z.1) s (λc hc=>by
      rcases hc with rfl | rfl | ⟨z,hz,rfl⟩
      ·exact n1
      ·exact n2
      ·exact n3 z hz) (λc o _ e=>sm c o e) (Vb.mo s.ok sm)
     refine q _ G' H' g' (is_tup.mpr ⟨r,_,_,rfl,by rw[k r (.inl rfl)];exact RA.tu,zW.mpr rfl,Yb.mpr ⟨nl,zs,rfl,by rw[k nl (.inr (.inl rfl))];exact RA.li,λz hz=>by rw[k z.1 (.inr (.inr ⟨z,hz,rfl⟩))];exact RA.st z hz,ez⟩⟩)
    refine Sg.try1 (hta rfl rfl) hsp (Sg.cut (.val (.op (.cb (.cons (.var rfl) .nil) qt) .int zcA)) (λe=>absurd e (by simp;omega)) λ_=>Sg.ret (.to (.op (.var rfl) (.var rfl) Jg) (by simp)))
   ·refine Sg.tryX (hta rfl rfl) (λvs G H Q E s z q=>?_) qAb ?_
    ·obtain⟨l,rs,rfl,R,g,e⟩:=HR vs G z;exact⟨l,rs,rfl,R.same s.sub,g,λz=>(by rw[e,hsb]at z;cases z),λ_ _ H' sm=>q G H' (Gr.of s sm),λ_ z=>absurd z (by rw[e];exact h4)⟩
    ·exact Sg.set .str (Sg.cut (.val (.op (.cb (.cons (.var rfl) .nil) qt) .int zcA)) (λ_=>Sg.ret (.to (.op (.var rfl) .str Jg) (by simp))) λe=>absurd e (by simp;omega))
end
structure ClK (K:aN) (mg:cG->Option aG) (C:aq):Prop where
 cl:Cls K C
 nm:mg "Keeper"= some (.ref C)
 n_base:NoAttr K C "base"
 n_bad:NoAttr K C "bad"
 n_bound:NoAttr K C "bound"
 n_tails:NoAttr K C "tails"
def jX(b:Nat)(bl:aq)(bd:Nat)(tl:aq):List (cG×V):=yo "tails" (.ref tl) (yo "bound" (.int bd) (yo "bad" (.ref bl) (yo "base" (.int b) [])))
section
variable (b:Nat) (bl:aq) (bd:Nat) (tl:aq)
theorem zgX:(jX b bl bd tl).lookup ("tails" : cG)=some (.ref tl):=by unfold jX;rw[zO,if_pos rfl]
theorem zcr:(jX b bl bd tl).lookup ("bound" : cG)=some (.int bd):=by unfold jX;rw[zO,if_neg (by decide +kernel),zO,if_pos rfl]
theorem V5:(jX b bl bd tl).lookup ("bad" : cG)=some (.ref bl):=by unfold jX;rw[zO,if_neg (by decide +kernel),zO,if_neg (by decide +kernel),zO,if_pos rfl]
theorem VP:(jX b bl bd tl).lookup ("base" : cG)=some (.int b):=by unfold jX;rw[zO,if_neg (by decide +kernel),zO,if_neg (by decide +kernel),zO,if_neg (by decide +kernel),zO,if_pos rfl]
theorem XQ{m:cG}(h1:¬ m ="tails":=by decide +kernel)(h2:¬ m ="bound":=by decide +kernel)(h3:¬ m ="bad":=by decide +kernel)(h4:¬ m ="base":=by decide +kernel):(jX b bl bd tl).lookup m=none:=by
 unfold jX;rw[zO,if_neg h1,zO,if_neg h2,zO,if_neg h3,zO,if_neg h4];rfl
theorem zfs:(jX b bl bd tl).length<=4:=ao (uR _ _ _) (fZ (ao (uR _ _ _) (fZ (ao (uR _ _ _) (fZ (uR _ _ _))))))
theorem zbQ:jX b bl bd tl=[(("base" : cG),V.int (b:Int)),(("bad" : cG),V.ref bl),(("bound" : cG),V.int (bd:Int)),(("tails" : cG),V.ref tl)]:=by
 unfold jX;rw[yo,yo,if_neg (by decide +kernel),yo,yo,if_neg (by decide +kernel),yo,if_neg (by decide +kernel),yo,yo,if_neg (by decide +kernel),yo,if_neg (by decide +kernel),yo,if_neg (by decide +kernel),yo]
theorem ze2(bl2:aq):yo "bad" (.ref bl2) (jX b bl bd tl)=jX b bl2 bd tl:=by
 rw[zbQ,zbQ,yo,if_neg (by decide +kernel),yo,if_pos rfl]
theorem zdc(tl2:aq):yo "tails" (.ref tl2) (jX b bl bd tl)=jX b bl bd tl2:=by
 rw[zbQ,zbQ,yo,if_neg (by decide +kernel),yo,if_neg (by decide +kernel),yo,if_neg (by decide +kernel),yo,if_pos rfl]
end
structure KpAt (C CK:aq) (H:Hp) (k tl la:aq) (b bd:Nat) (bl:aq) (zs:ZB) (ws:ZA) (L:Nat):Prop where
 ob:∃dx,H k=some (.ins CK dx (jX b bl bd tl))
 li:H bl=some (.lst (zs.map λz=>V.ref z.1))
 st:∀z∈zs,H z.1=some (.lst (z.2.map V.int))
 ta:TailsAt C H tl la b (zs.map (·.2)) ws L
 gt:GoodT b (zs.map (·.2)) ws
 bla:bl≠la
 l:L<=1000
section
variable {C CK:aq} {H H':Hp} {k tl la:aq} {b bd:Nat} {bl:aq} {zs:ZB} {ws:ZA} {L L':Nat}
theorem KpAt.zla(A:KpAt C CK H k tl la b bd bl zs ws L)(hz:z∈zs):z.1≠la:=λe=>by
 obtain⟨lrs,h1,_,h3⟩:=A.ta.ly;have h:=A.st z hz;rw[e,h1]at h;have hne:=(A.gt.g.st z.2 (bh.mpr ⟨z,hz,rfl⟩)).ne;injection h with h
 injection h with h
 cases hz2:z.2 with
 |nil=>exact hne hz2
 |cons x y=>
  rw[hz2]at h;cases lrs with
  |nil=>cases h
  |cons x' y'=>injection h with h _;cases h
theorem KpAt.kla(A:KpAt C CK H k tl la b bd bl zs ws L):k≠la:=by
 obtain⟨dx,h⟩:=A.ob;obtain⟨lrs,h1,_⟩:=A.ta.ly;exact jg h h1 (λz=>nomatch z)
theorem KpAt.more(A:KpAt C CK H k tl la b bd bl zs ws L)(TA:TailsAt C H' tl la b (zs.map (·.2)) ws L')(m:Same (aw [la] H) (aw [la] H'))(hL:L'<=1000):KpAt C CK H' k tl la b bd bl zs ws L':=by
 have go:∀c o,c≠la->H c=some o->H' c=some o:=λc o hc e=>by
  have hc':c∉[la]:=by simpa using hc
  have:=m c o (by rw[yq hc'];exact e);rwa[yq hc']at this
 obtain⟨dx,h1⟩:=A.ob;exact⟨⟨dx,go _ _ A.kla h1⟩,go _ _ A.bla A.li,λz hz=>go _ _ (A.zla hz) (A.st z hz),TA,A.gt,A.bla,hL⟩
theorem KpAt.same(A:KpAt C CK H k tl la b bd bl zs ws L)(m:Same H H'):KpAt C CK H' k tl la b bd bl zs ws L:=A.more (A.ta.same m) (m.aw [la]) A.l
end
section
variable {P:cg} {w:cT} {K:aN} {mg:cG->Option aG} {base:dR} {T0 C CK:aq}
def Jv:Sp:=λvs H Q _=>∃r b bl zs,vs=[.ref r]/\RuleAt H r b bl zs/\zs.length<=100 /\
 ∀r' bl' zs' H',Same H H'->RuleAt H' r' b bl' zs'->zs'.map (·.2)=zs.map (·.2)->H bl'=none->H r'=none->(∀z∈zs',H z.1=none/\z.1≠bl')->Q (.ref r') H'
theorem zgj:zG ["rule"] ["rule"] (zp Wi):={}
theorem zf0(D:Df K mg "copy_of" Wi Al f fd)(T:Blt mg):FnOk P w K mg base CX0 1 f fd Al Jv:=by
 refine D.fn.ok zgj (λvs H Q E h=>?_) (λcdv A outer s H vs Q E hr h=>?_)
 ·obtain⟨r,b,bl,zs,rfl,_⟩:=h;rfl
 ·obtain⟨r,b,bl,zs,rfl,R,hl,kk⟩:=h;refine⟨_,(zm (zE (Zi (zc (zX (yP K) (pv 0) zu (λ_ _=>rfl)) (zc (wO (show CScope (zp Wi) _ "stretch" ["rule"] [] [] from {}) rfl (jh K (zX (yP K) (pv 0) zu (λ_ _=>rfl))) (λ_ _ _ _=>vU) (λ_ _ _ _=>(Yn (Wz K) (by rfl) T.n_list gW (zc (pv 0) zf)))) zf))))),?_⟩;refine⟨_,rfl,r,_,_,V.int b,rfl,rfl,SqT.of R.tu,rfl,?_⟩;refine⟨_,rfl,r,_,_,V.ref bl,rfl,rfl,SqT.of R.tu,rfl,bl,rfl,⟨_,SqL.of R.li⟩,vZ (K:=K) (a:=bl) (xs:=zs.map λz=>V.ref z.1) (λi ys H4=>Same H H4/\∃ws:ZB,ys=ws.map (λz=>V.ref z.1)/\ws.length=i/\ws.map (·.2)=(zs.take i).map (·.2)/\∀z∈ws,H z.1=none/\H4 z.1=some (.lst (z.2.map V.int))) ⟨Same.refl _,[],rfl,rfl,rfl,by simp⟩ (λi ys H4 _ ⟨e,_⟩=>SqL.of (e _ _ R.li)) ?_ ?_⟩
  ·rintro j x ys H4 hx ⟨s4,ws,rfl,hwl,hw2,hws⟩;rw[ak]at hx;obtain⟨z,hzj,e⟩:=aM.mp hx;subst e;have hzm:=aJ hzj;have hj:j<zs.length:=(aO.mp hzj).1;refine⟨by rw[aa,hwl];exact aA (show j<101 by omega) (by decide),?_⟩;unfold Vp;dsimp only;rw[if_pos rfl];refine⟨_,rfl,z.1,_,rfl,.inl (SqL.of (s4 _ _ (R.st z hzm))),λp hp=>⟨s4.trans (zy hp),ws++[(p,z.2)],by simp,by simp[hwl],?_,λy hy=>?_⟩⟩
   ·rw[aF,hw2,cO,hzj];simp
   ·rcases bf.mp hy with hy | hy
    ·exact⟨(hws y hy).1,zy hp _ _ (hws y hy).2⟩
    ·have e:y=(p,z.2):=by simpa using hy
     subst e;exact⟨s4.free hp,zq⟩
  ·rintro ys H4 ⟨s4,ws,rfl,hwl,hw2,hws⟩ bl' hbl';refine⟨(by show 2<=aZ;decide),λr' hr'=>?_⟩;have s5:=zy hbl' (o:=.lst (ws.map λz=>V.ref z.1));have s6:=zy hr' (o:=.tup [.int b,.ref bl']);refine kk r' bl' ws _ (s4.trans (s5.trans s6)) ⟨zq,s6 _ _ zq,λz hz=>s6 _ _ (s5 _ _ (hws z hz).2)⟩ ?_ (s4.free hbl') (s4.free (s5.free hr')) λz hz=>⟨(hws z hz).1,zF (hws z hz).2 hbl'⟩
   rw[hw2,aa,cj]
def Qn(T0 C CK:aq):Sp:=λvs H Q _=>∃(k tl la:aq) (b bd:Nat) (bl:aq) (zs:ZB) (ws:ZA) (L n:Nat),vs=[.ref k,.int n]/\KpAt C CK H k tl la b bd bl zs ws L/\n<2^900/\LT T0 H /\
 ∀L' H',KpAt C CK H' k tl la b bd bl zs ws L'->Same (aw [la] H) (aw [la] H')->LT T0 H'->Q (.int (many (gd (zs.map (·.2)) b) n:Nat)) H'
theorem zbo:zG ["self","n"] ["self","n"] (zp tZ):={}
theorem zjc(D:Mt K CK "Keeper.below" "below" tZ Av f fd)(yE:Mt K C "Tails.many_below" "many_below" yG Aj f1 fd1)(yK:FnOk P w K mg base CX0 4 f1 fd1 Aj (jZ C))(ye:Df K mg "figures_of" wG Ae f2 fd2)(yh:FnOk P w K mg base CX0 4 f2 fd2 Ae wD)(zB:ClT K mg C)(cKeeper:ClK K mg CK):FnOk P w K mg base CX0 5 f fd Av (Qn T0 C CK):=by
 refine D.fn.ok zbo (λvs H Q E h=>?_) (λcdv A outer s H vs Q E hr h=>?_)
 ·obtain⟨k,tl,la,b,bd,bl,zs,ws,L,n,rfl,_⟩:=h;rfl
 ·obtain⟨k,tl,la,b,bd,bl,zs,ws,L,n,rfl,KA,hn,hT,kk⟩:=h;have b2:=KA.gt.g.b2;have b16:=KA.gt.g.b16;obtain⟨dx,hk⟩:=KA.ob;obtain⟨dt,sa,htl⟩:=KA.ta.obj;obtain⟨lx,hla⟩:=KA.ta.la;refine⟨_,(zm (zE (xZ yE zB.cl yK (hr.mono (by decide)) (yZ K (pv 0)) (zc (zK ye yh (hr.mono (by decide)) (zc (yZ K (pv 0)) (zc (pv 1) zf))) zf)))),?_⟩;refine⟨_,rfl,k,CK,dx,_,_,rfl,hk,cKeeper.cl,cKeeper.n_tails,zgX _ _ _ _,tl,dt,_,rfl,htl,xM _ _ _ _,?_⟩;refine⟨_,rfl,k,CK,dx,_,_,rfl,hk,cKeeper.cl,cKeeper.n_base,VP _ _ _ _,_,rfl,b,n,rfl,b2,b16,hn,λfa H1 hfa hv s1=>?_⟩;have KA1:=KA.same s1;have fala:fa≠la:=λz=>by rw[z,hla]at hfa;cases hfa
  refine⟨tl,la,b,_,ws,L,fa,n,rfl,KA1.ta,KA.gt,KA.l,by rw[yq (by simpa using fala)];exact hv,hn,λL2 H2 hL2 TA2 m2 hL'=>?_⟩;exact kk L2 H2 (KA1.more TA2 m2 hL') ((s1.aw [la]).trans m2) ((hT.same s1).off (s1 _ _ hla) m2)
def Off(T k la:aq)(H H':Hp):Prop:=∀c o,c≠k->c≠la->c≠T->H c=some o->H' c=some o
def zbI(C CK:aq):Sp:=λvs H Q _=>∃k tl la b bd bl zs ws L,vs=[.ref k]/\KpAt C CK H k tl la b bd bl zs ws L /\
 ∀r bl' zs' H',Same H H'->RuleAt H' r b bl' zs'->zs'.map (·.2)=zs.map (·.2)->H bl'=none->H r=none->(∀z∈zs',H z.1=none/\z.1≠bl')->Q (.ref r) H'
theorem zc1:zG ["self"] ["self"] (zp j7):={}
theorem zkq(D:Mt K CK "Keeper.rule" "rule" j7 Ao f fd)(WD:Df K mg "copy_of" Wi Al f1 fd1)(V0:FnOk P w K mg base CX0 1 f1 fd1 Al Jv)(cKeeper:ClK K mg CK):FnOk P w K mg base CX0 2 f fd Ao (zbI C CK):=by
 refine D.fn.ok zc1 (λvs H Q E h=>?_) (λcdv A outer s H vs Q E hr h=>?_)
 ·obtain⟨k,tl,la,b,bd,bl,zs,ws,L,rfl,_⟩:=h;rfl
 ·obtain⟨k,tl,la,b,bd,bl,zs,ws,L,rfl,KA,kk⟩:=h;obtain⟨dx,hk⟩:=KA.ob;have h4:zs.length<=4:=by have:=KA.gt.g.len;rwa[aa]at this
  refine⟨_,(zm (zE (zK WD V0 (hr.mono (by decide)) (zc (Zi (zc (yZ K (pv 0)) (zc (yZ K (pv 0)) zf))) zf)))),?_⟩;refine⟨_,rfl,k,CK,dx,_,_,rfl,hk,cKeeper.cl,cKeeper.n_base,VP _ _ _ _,_,rfl,k,CK,dx,_,_,rfl,hk,cKeeper.cl,cKeeper.n_bad,V5 _ _ _ _,(by show 2<=aZ;decide),λt ht=>?_⟩;have s1:=zy ht (o:=.tup [.int b,.ref bl]);refine⟨t,b,bl,zs,rfl,⟨zq,s1 _ _ KA.li,λz hz=>s1 _ _ (KA.st z hz)⟩,by omega,λr bl' zs' H' s' R' e' n1 n2 n3=>?_⟩;exact kk r bl' zs' H' (s1.trans s') R' e' (s1.free n1) (s1.free n2) (λz hz=>⟨s1.free (n3 z hz).1,(n3 z hz).2⟩)
def QQ(T0 C CK:aq):Sp:=λvs H Q _=>∃(k dx r:aq) (b:Nat) (bl:aq) (zs:ZB) (bd:Nat),vs=[.ref k,.ref r,.int bd]/\H k=some (.ins CK dx [])/\RuleAt H r b bl zs/\GoodRule b (zs.map (·.2))/\LT T0 H /\
 ∀tl la bl2 zs2 ws L H',KpAt C CK H' k tl la b bd bl2 zs2 ws L->zs2.map (·.2)=zs.map (·.2)->(∀c o,c≠k->c≠T0->H c=some o->H' c=some o)->LT T0 H'->H la=none->Q .non H'
theorem Jo:zG ["self","rule","b"] ["self","rule","b"] (zp wu):={}
theorem zh8(D:Mt K CK "Keeper.__init__" "__init__" wu A3 f fd)(zJ:Df K mg "check_rule" yD Aa f1 fd1)(zL:FnOk P w K mg base CX0 7 f1 fd1 Aa yF)(xn:Df K mg "check_number" uz Aa f2 fd2)(xQ:FnOk P w K mg base CX0 3 f2 fd2 Aa qM)(WD:Df K mg "copy_of" Wi Al f3 fd3)(V0:FnOk P w K mg base CX0 1 f3 fd3 Al Jv)(wU:Mk K C f4)(wQ:Binds K fd4 ["self","rule"] [])(zZ:FnOk P w K mg base CX0 7 f4 fd4 Ai (qQ T0 C))(zB:ClT K mg C)(cKeeper:ClK K mg CK):FnOk P w K mg base CX0 9 f fd A3 (QQ T0 C CK):=by
 refine D.fn.ok Jo (λvs H Q E h=>?_) (λcdv A outer s H vs Q E hr h=>?_)
 ·obtain⟨k,dx,r,b,bl,zs,bd,rfl,_⟩:=h;rfl
 ·obtain⟨k,dx,r,b,bl,zs,bd,rfl,hk,R,g,hT,kk⟩:=h;have h4:zs.length<=4:=by have:=g.len;rwa[aa]at this
  refine xu ?_;intro XX;let q1:Sq XX ((zj wu).drop 5):=⟨_,zm (Yv (pv 0) (jc wU zZ (hr.mono (by decide)) rfl zB.nm wQ .nil Xf (zc (pv 1) zf)) rfl)⟩
  let q2:Sq XX ((zj wu).drop 4):=⟨_,zg (Yv (pv 0) (pv 2) rfl) q1.p⟩
  let q3:Sq XX ((zj wu).drop 3):=⟨_,zg (Yv (pv 0) (zX (yP K) (zK WD V0 (hr.mono (by decide)) (zc (pv 1) zf)) zu (λ_ _=>rfl)) rfl) q2.p⟩
  let q4:Sq XX ((zj wu).drop 2):=⟨_,zg (Yv (pv 0) (zX (yP K) (pv 1) zu (λ_ _=>rfl)) rfl) q3.p⟩
  let q5:Sq XX ((zj wu).drop 1):=⟨_,zg (yw (zK xn xQ (hr.mono (by decide)) (zc (pv 2) zf))) q4.p⟩
  refine⟨_,(zg (yw (zK zJ zL (hr.mono (by decide)) (zc (pv 1) zf))) q5.p),?_⟩;refine⟨_,rfl,r,b,bl,zs,rfl,R,g,λH1 m1=>?_⟩;refine⟨_,rfl,(bd:Int),rfl,by omega,?_⟩;have hk1:=m1 _ _ hk;have R1:=R.same m1;have T1:=hT.same m1;have rk:r≠k:=jg R1.tu hk1 (λz=>nomatch z);have lk:∀{c:aq} {xs:List V},H1 c=some (.lst xs)->c≠k:=λh=>jg h hk1 (λz=>nomatch z);refine⟨_,rfl,r,_,_,V.int b,rfl,rfl,SqT.of R1.tu,rfl,_,rfl,k,CK,dx,_,rfl,hk1,cKeeper.cl,cKeeper.n_base,(by show 0<1000;decide),?_⟩;have R2:RuleAt (upd H1 k (.ins CK dx (yo "base" (.int b) []))) r b bl zs:=⟨by rw[zA rk];exact R1.tu,by rw[zA (lk R1.li)];exact R1.li,λz hz=>by rw[zA (lk (R1.st z hz))];exact R1.st z hz⟩
  have T2:=T1.putI (o:=.ins CK dx (yo "base" (.int b) [])) hk1;have hk2:upd H1 k (.ins CK dx (yo "base" (.int b) [])) k=some (.ins CK dx (yo "base" (.int b) [])):=zq;have n2:∀c o,c≠k->H c=some o->upd H1 k (.ins CK dx (yo "base" (.int b) [])) c=some o:=λc o hc e=>by rw[zA hc];exact m1 c o e
  generalize upd H1 k (.ins CK dx (yo "base" (.int b) []))=H2 at R2 T2 hk2 n2;refine⟨_,rfl,r,b,bl,zs,rfl,R2,by omega,λr3 bl3 zs3 H3 s3 R3 e3 nb3 nr3 nz3=>?_⟩;have hk3:=s3 _ _ hk2;refine⟨r3,_,_,V.ref bl3,rfl,rfl,SqT.of R3.tu,rfl,_,rfl,k,CK,dx,_,rfl,hk3,cKeeper.cl,cKeeper.n_bad,(by show 1<1000;decide),?_⟩;refine⟨_,rfl,_,rfl,k,CK,dx,_,rfl,zq,cKeeper.cl,cKeeper.n_bound,(by show 2<1000;decide),?_⟩;rw[zg3];have lk3:∀{c:aq} {xs:List V},H3 c=some (.lst xs)->c≠k:=λh=>jg h hk3 (λz=>nomatch z);have R2':=R2.same s3;have R4:RuleAt (upd H3 k (.ins CK dx (yo "bound" (.int bd) (yo "bad" (.ref bl3) (yo "base" (.int b) []))))) r b bl zs:=⟨by rw[zA rk];exact R2'.tu,by rw[zA (lk3 R2'.li)];exact R2'.li,λz hz=>by rw[zA (lk3 (R2'.st z hz))];exact R2'.st z hz⟩
  have T4:=(T2.same s3).putI (o:=.ins CK dx (yo "bound" (.int bd) (yo "bad" (.ref bl3) (yo "base" (.int b) [])))) hk3;have hk4:upd H3 k (.ins CK dx (yo "bound" (.int bd) (yo "bad" (.ref bl3) (yo "base" (.int b) [])))) k=some (.ins CK dx (yo "bound" (.int bd) (yo "bad" (.ref bl3) (yo "base" (.int b) [])))):=zq;have n4:∀c o,c≠k->H3 c=some o->upd H3 k (.ins CK dx (yo "bound" (.int bd) (yo "bad" (.ref bl3) (yo "base" (.int b) [])))) c=some o:=λc o hc e=>by rw[zA hc];exact e
  have f4:∀c,upd H3 k (.ins CK dx (yo "bound" (.int bd) (yo "bad" (.ref bl3) (yo "base" (.int b) [])))) c=none->H c=none:=λc hc=>by
   have hck:c≠k:=λz=>by rw[z,zq]at hc;cases hc
   rw[zA hck]at hc;cases e:H c with
   |none=>rfl
   |some o=>rw[s3 _ _ (n2 c o hck e)]at hc;cases hc
  generalize upd H3 k (.ins CK dx (yo "bound" (.int bd) (yo "bad" (.ref bl3) (yo "base" (.int b) []))))=H4 at R4 T4 hk4 n4 f4;refine⟨_,rfl,?_⟩;refine Y8 R4 g T4 ?_;rintro tl H5 ⟨la,ws,TA5,G,m5,T5,hla⟩;obtain⟨dt,sa,htl⟩:=TA5.obj;have npT:k≠T0:=λz=>by
   rw[z]at hk4;rcases T4 with h | ⟨c,h,_⟩
   ·rw[h]at hk4;cases hk4
   ·rw[h]at hk4;cases hk4
  have hk5:=m5 _ _ npT hk4;have tlk:tl≠k:=λz=>by
   rw[z,hk5]at htl;injection htl with e
   injection e with _ _ e
   have:=uW b ws.length sa la;rw[<-e]at this;rw[zO,if_neg (by decide +kernel),zO,if_neg (by decide +kernel),zO,if_neg (by decide +kernel)]at this;cases this
  refine⟨_,rfl,k,CK,dx,_,rfl,hk5,cKeeper.cl,cKeeper.n_tails,(by show 3<1000;decide),?_⟩;have hbl4:=n4 _ _ (lk3 R3.li) R3.li;have hbl5:=m5 _ _ (T4.lst hbl4) hbl4;have lk5:∀{c:aq} {xs:List V},H5 c=some (.lst xs)->c≠k:=λh=>jg h hk5 (λz=>nomatch z);have hz5:∀z∈zs3,H5 z.1=some (.lst (z.2.map V.int)):=λz hz=>m5 _ _ (T4.lst (n4 _ _ (lk3 (R3.st z hz)) (R3.st z hz))) (n4 _ _ (lk3 (R3.st z hz)) (R3.st z hz));rw[<-e3]at G TA5;refine kk tl la bl3 zs3 ws 1 _ ⟨⟨dx,by rw[zq];rfl⟩,by rw[zA (lk5 hbl5)];exact hbl5,λz hz=>by rw[zA (lk5 (hz5 z hz))];exact hz5 z hz,TA5.updI hk5 tlk,G,zF hbl4 hla,by decide⟩ e3 (λc o hc hcT e=>?_) (T5.putI hk5) (f4 _ hla);rw[zA hc];exact m5 c o hcT (n4 c o hc (s3 c o (n2 c o hc e)))
theorem KpAt.ila(A:KpAt C CK H k tl la b bd bl zs ws L)(h:H c=some (.lst (ns.map V.int)))(hne:ns≠[]):c≠la:=λe=>by
 obtain⟨lrs,h1,_,h3⟩:=A.ta.ly;rw[e,h1]at h;injection h with h
 injection h with h
 cases hz2:ns with
 |nil=>exact hne hz2
 |cons x y=>
  rw[hz2]at h;cases lrs with
  |nil=>cases h
  |cons x' y'=>injection h with h _;cases h
theorem Off.trans(a:Off T k la H H1)(b:Off T k la1 H1 H2)(h:H la1=none\/la1=la):Off T k la H H2:=λc o h1 h2 h3 e=>b c o h1 (λz=>by
 rcases h with h | h
 ·rw[z,h]at e;cases e
 ·exact h2 (z.trans h)) h3 (a c o h1 h2 h3 e)
theorem Off.of(m:Same H H'):Off T k la H H':=λc o _ _ _ e=>m c o e
theorem Off.aw(m:Same (aw [la] H) (aw [la] H')):Off T k la H H':=λc o _ h _ e=>by
 have hc':c∉[la]:=by simpa using h
 have:=m c o (by rw[yq hc'];exact e);rwa[yq hc']at this
def Jl(T0 C CK:aq):Sp:=λvs H Q _=>∃k tl la b bd bl zs ws L bl2 zs2,vs=[.ref k,.ref bl2]/\KpAt C CK H k tl la b bd bl zs ws L/\bd<2^900/\LT T0 H/\H bl2=some (.lst (zs2.map λz=>V.ref z.1))/\(∀z∈zs2,H z.1=some (.lst (z.2.map V.int)))/\GoodRule b (zs2.map (·.2))/\bl2≠la /\
 ∀p tl2 la2 ws2 L2 H',H p=none->H' p=some (.tup [.int (many (gd (zs.map (·.2)) b) bd:Nat),.int (many (gd (zs2.map (·.2)) b) bd:Nat)])->KpAt C CK H' k tl2 la2 b bd bl2 zs2 ws2 L2->Off T0 k la H H'->LT T0 H'->H la2=none->(∃xs,H' la=some (.lst xs))->Q (.ref p) H'
theorem Vg:zG ["self","bad","before"] ["self","bad"] (zp wM):={}
theorem zgq(D:Mt K CK "Keeper.turn_to" "turn_to" wM A6 f fd)(MKeeper_below:Mt K CK "Keeper.below" "below" tZ Av f1 fd1)(GKeeper_below:FnOk P w K mg base CX0 5 f1 fd1 Av (Qn T0 C CK))(wU:Mk K C f4)(wQ:Binds K fd4 ["self","rule"] [])(zZ:FnOk P w K mg base CX0 7 f4 fd4 Ai (qQ T0 C))(zB:ClT K mg C)(cKeeper:ClK K mg CK):FnOk P w K mg base CX0 9 f fd A6 (Jl T0 C CK):=by
 refine D.fn.ok Vg (λvs H Q E h=>?_) (λcdv A outer s H vs Q E hr h=>?_)
 ·obtain⟨k,tl,la,b,bd,bl,zs,ws,L,bl2,zs2,rfl,_⟩:=h;rfl
 ·obtain⟨k,tl,la,b,bd,bl,zs,ws,L,bl2,zs2,rfl,KA,hbd,hT,hb2,hz2,g2,bla,kk⟩:=h;obtain⟨dx,hk⟩:=KA.ob;refine xu ?_;intro XX;let q1:Sq XX ((zj wM).drop 3):=⟨_,zm (zE (Zi (zc (pv 2) (zc (xZ MKeeper_below cKeeper.cl GKeeper_below (hr.mono (by decide)) (pv 0) (zc (yZ K (pv 0)) zf)) zf))))⟩
  let q2:Sq XX ((zj wM).drop 2):=⟨_,zg (Yv (pv 0) (jc wU zZ (hr.mono (by decide)) rfl zB.nm wQ .nil Xf (zc (Zi (zc (yZ K (pv 0)) (zc (pv 1) zf))) zf)) rfl) q1.p⟩
  let q3:Sq XX ((zj wM).drop 1):=⟨_,zg (Yv (pv 0) (pv 1) rfl) q2.p⟩
  refine⟨_,(zg (zU (i:=2) Vg.nd rfl (aW rfl) (xZ MKeeper_below cKeeper.cl GKeeper_below (hr.mono (by decide)) (pv 0) (zc (yZ K (pv 0)) zf))) q3.p),?_⟩;refine⟨_,rfl,k,dx,_,rfl,hk,XQ _ _ _ _,_,rfl,k,CK,dx,_,_,rfl,hk,cKeeper.cl,cKeeper.n_bound,zcr _ _ _ _,k,tl,la,b,bd,bl,zs,ws,L,bd,rfl,KA,hbd,hT,λL1 H1 KA1 m1 T1=>?_⟩;obtain⟨dx1,hk1⟩:=KA1.ob;have O1:Off T0 k la H H1:=Off.aw m1;have go1:∀c o,c≠la->H c=some o->H1 c=some o:=λc o hc e=>by
   have hc':c∉[la]:=by simpa using hc
   have:=m1 c o (by rw[yq hc'];exact e);rwa[yq hc']at this
  have hb1:=go1 _ _ bla hb2;have hz1:∀z∈zs2,H1 z.1=some (.lst (z.2.map V.int)):=λz hz=>go1 _ _ (KA.ila (hz2 z hz) (g2.st z.2 (bh.mpr ⟨z,hz,rfl⟩)).ne) (hz2 z hz);have f1:∀c,H1 c=none->H c=none:=λc hc=>by
   cases e:H c with
   |none=>rfl
   |some o=>
    by_cases z:c=la
    ·obtain⟨lx,hx⟩:=KA1.ta.la;rw[z,hx]at hc;cases hc
    ·rw[go1 c o z e]at hc;cases hc
  refine⟨_,rfl,_,rfl,k,CK,dx1,_,rfl,hk1,cKeeper.cl,cKeeper.n_bad,bw (zfs _ _ _ _) (by decide),?_⟩;rw[ze2];have lk1:∀{c:aq} {xs:List V},H1 c=some (.lst xs)->c≠k:=λh=>jg h hk1 (λz=>nomatch z);have hk2:upd H1 k (.ins CK dx1 (jX b bl2 bd tl)) k=some (.ins CK dx1 (jX b bl2 bd tl)):=zq;have T2:=T1.putI (o:=.ins CK dx1 (jX b bl2 bd tl)) hk1;have n2:∀c o,c≠k->H1 c=some o->upd H1 k (.ins CK dx1 (jX b bl2 bd tl)) c=some o:=λc o hc e=>by rw[zA hc];exact e
  have f2:∀c,upd H1 k (.ins CK dx1 (jX b bl2 bd tl)) c=none->H c=none:=λc hc=>by
   have hck:c≠k:=λz=>by rw[z,zq]at hc;cases hc
   rw[zA hck]at hc;exact f1 c hc
  generalize upd H1 k (.ins CK dx1 (jX b bl2 bd tl))=H2 at hk2 T2 n2 f2;refine⟨_,rfl,k,CK,dx1,_,_,rfl,hk2,cKeeper.cl,cKeeper.n_base,VP _ _ _ _,_,rfl,(by show 2<=aZ;decide),λt ht=>?_⟩;have s3:=zy ht (o:=.tup [.int b,.ref bl2]);have hb3:=s3 _ _ (n2 _ _ (lk1 hb1) hb1);have hz3:∀z∈zs2,upd H2 t (.tup [.int b,.ref bl2]) z.1=some (.lst (z.2.map V.int)):=λz hz=>s3 _ _ (n2 _ _ (lk1 (hz1 z hz)) (hz1 z hz));have T3:=T2.same s3;refine Y8 ⟨zq,hb3,hz3⟩ g2 T3 ?_;have hk3:=s3 _ _ hk2;generalize upd H2 t (.tup [.int b,.ref bl2])=H3 at s3 hb3 hz3 T3 hk3;rintro tl2 H4 ⟨la2,ws2,TA4,G,m4,T4,hla2⟩;obtain⟨dt,sa2,htl⟩:=TA4.obj;have npT:k≠T0:=λz=>by
   rw[z]at hk3;rcases T3 with h | ⟨c,h,_⟩
   ·rw[h]at hk3;cases hk3
   ·rw[h]at hk3;cases hk3
  have hk4:=m4 _ _ npT hk3;have tlk:tl2≠k:=λz=>by
   rw[z,hk4]at htl;injection htl with e
   injection e with _ _ e
   have:=uW b ws2.length sa2 la2;rw[<-e,XQ]at this;cases this
  have hb4:=m4 _ _ (T3.lst hb3) hb3;have hz4:∀z∈zs2,H4 z.1=some (.lst (z.2.map V.int)):=λz hz=>m4 _ _ (T3.lst (hz3 z hz)) (hz3 z hz);have lk4:∀{c:aq} {xs:List V},H4 c=some (.lst xs)->c≠k:=λh=>jg h hk4 (λz=>nomatch z);refine⟨_,rfl,k,CK,dx1,_,rfl,hk4,cKeeper.cl,cKeeper.n_tails,bw (zfs _ _ _ _) (by decide),?_⟩;rw[zdc];have KA5:KpAt C CK (upd H4 k (.ins CK dx1 (jX b bl2 bd tl2))) k tl2 la2 b bd bl2 zs2 ws2 1:=⟨⟨dx1,zq⟩,by rw[zA (lk4 hb4)];exact hb4,λz hz=>by rw[zA (lk4 (hz4 z hz))];exact hz4 z hz,TA4.updI hk4 tlk,G,zF hb3 hla2,by decide⟩
  have T5:=T4.putI (o:=.ins CK dx1 (jX b bl2 bd tl2)) hk4;have O5:Off T0 k la H (upd H4 k (.ins CK dx1 (jX b bl2 bd tl2))):=λc o h1 h2 h3 e=>by rw[zA h1];exact m4 c o h3 (s3 _ _ (n2 c o h1 (go1 c o h2 e)))
  have f5:∀c,upd H4 k (.ins CK dx1 (jX b bl2 bd tl2)) c=none->H3 c=none:=λc hc=>by
   have hck:c≠k:=λz=>by rw[z,zq]at hc;cases hc
   rw[zA hck]at hc;cases e:H3 c with
   |none=>rfl
   |some o=>
    by_cases z:c=T0
    ·rw[z]at hc;exact absurd rfl (T4.none hc)
    ·rw[m4 c o z e]at hc;cases hc
  have fr:∀c,H3 c=none->H c=none:=λc hc=>f2 c (s3.free hc);have LA5:∃xs,upd H4 k (.ins CK dx1 (jX b bl2 bd tl2)) la=some (.lst xs):=by
   obtain⟨lx,hx⟩:=KA1.ta.la;have h3:=s3 _ _ (n2 _ _ (lk1 hx) hx);exact⟨lx,by rw[zA (lk4 (m4 _ _ (T3.lst h3) h3))];exact m4 _ _ (T3.lst h3) h3⟩
  generalize upd H4 k (.ins CK dx1 (jX b bl2 bd tl2))=H5 at KA5 T5 O5 f5 LA5;obtain⟨dx5,hk5⟩:=KA5.ob;refine⟨_,rfl,_,rfl,k,dx5,_,rfl,hk5,XQ _ _ _ _,_,rfl,k,CK,dx5,_,_,rfl,hk5,cKeeper.cl,cKeeper.n_bound,zcr _ _ _ _,k,tl2,la2,b,bd,bl2,zs2,ws2,1,bd,rfl,KA5,hbd,T5,λL6 H6 KA6 m6 T6=>⟨(by show 2<=aZ;decide),λp hp=>?_⟩⟩;have s7:=zy hp (o:=.tup [.int (many (gd (zs.map (·.2)) b) bd:Nat),.int (many (gd (zs2.map (·.2)) b) bd:Nat)]);have O6:=(O5.trans (Off.aw (T:=T0) (k:=k) m6) (.inl (fr _ hla2)))
  obtain⟨lx6,hlx6⟩:=KA6.ta.la;have pla:p≠la2:=λz=>by rw[z,hlx6]at hp;cases hp
  have hp5:H5 p=none:=by
   cases e:H5 p with
   |none=>rfl
   |some o=>
    have:=Off.aw (T:=T0) (k:=k) m6;have hc':p∉[la2]:=by simpa using pla
    have:=m6 p o (by rw[yq hc'];exact e);rw[yq hc',hp]at this;cases this
  obtain⟨xl,hxl⟩:=LA5;have nla:la≠la2:=zF (s3 _ _ (n2 _ _ (lk1 (KA1.ta.la.choose_spec)) (KA1.ta.la.choose_spec))) hla2;exact kk p tl2 la2 ws2 L6 _ (fr _ (f5 _ hp5)) zq (KA6.same s7) (λc o h1 h2 h3 e=>s7 _ _ (O6 c o h1 h2 h3 e)) (T6.same s7) (fr _ hla2) ⟨xl,s7 _ _ (by
   have hc':la∉[la2]:=by simpa using nla
   have:=m6 la _ (by rw[yq hc'];exact hxl);rwa[yq hc']at this)⟩
def KQ(T0 C CK:aq)(H:Hp)(k la:aq)(b bd:Nat)(zs:ZB)(ok:ZA->Prop)(Q:VK):Prop :=
 ∀p tl2 la2 bl2 zs2 ws2 L2 H',H p=none->H' p=some (.tup [.int (many (gd (zs.map (·.2)) b) bd:Nat),.int (many (gd (zs2.map (·.2)) b) bd:Nat)])->KpAt C CK H' k tl2 la2 b bd bl2 zs2 ws2 L2->ok (zs2.map (·.2))->Off T0 k la H H'->LT T0 H'->H la2=none->(∃xs,H' la=some (.lst xs))->Q (.ref p) H'
def zeb(T0 C CK:aq):Sp:=λvs H Q _=>∃k tl la b bd bl zs ws L st ns,vs=[.ref k,.ref st]/\KpAt C CK H k tl la b bd bl zs ws L/\bd<2^900/\LT T0 H/\H st=some (.lst (ns.map V.int))/\zay b ns/\ns∉zs.map (·.2)/\zs.length<=3 /\
 KQ T0 C CK H k la b bd zs (λls2=>ls2.Perm (zs.map (·.2)++[ns])) Q
theorem GoodRule.nodup(g:GoodRule b ls):ls.Nodup:=g.up.imp λ{x y} h z=>by rw[z,HT.qp]at h;cases h
theorem zc4:zG ["self","stretch"] ["self","stretch"] (zp uX):={}
theorem zkd(D:Mt K CK "Keeper.come" "come" uX Am f fd)(MKeeper_turn_to:Mt K CK "Keeper.turn_to" "turn_to" wM A6 f1 fd1)(GKeeper_turn_to:FnOk P w K mg base CX0 9 f1 fd1 A6 (Jl T0 C CK))(uw:Df K mg "is_stretch" jQ Ad f2 fd2)(uH:FnOk P w K mg base CX0 4 f2 fd2 Ad Y6)(xV:mg "MOST_STRETCHES"= some (.int 4 t1))(cKeeper:ClK K mg CK)(T:Blt mg):FnOk P w K mg base CX0 10 f fd Am (zeb T0 C CK):=by
 refine D.fn.ok zc4 (λvs H Q E h=>?_) (λcdv A outer s H vs Q E hr h=>?_)
 ·obtain⟨k,tl,la,b,bd,bl,zs,ws,L,st,ns,rfl,_⟩:=h;rfl
 ·obtain⟨k,tl,la,b,bd,bl,zs,ws,L,st,ns,rfl,KA,hbd,hT,hst,gst,hnot,h3,kk⟩:=h;have HU:=Vv hr;have g:=KA.gt.g;obtain⟨dx,hk⟩:=KA.ob;refine xu ?_;intro XX;let q1:Sq XX ((zj uX).drop 2):=⟨_,zm (zE (xZ MKeeper_turn_to cKeeper.cl GKeeper_turn_to (hr.mono (by decide)) (pv 0) (zc (zH (zac K HU) (by rfl) T.n_sorted lH (zc (zV ZZ (yZ K (pv 0)) (yR (zc (Yn (Wz K) (by rfl) T.n_list gW (zc (pv 1) zf)) zf))) zf)) zf)))⟩
  let q2:Sq XX ((zj uX).drop 1):=⟨_,zg (yx (PW.pt (Z6 (wB (yX (zK uw uH (hr.mono (by decide)) (zc (yZ K (pv 0)) (zc (pv 1) zf))))) (qw (zP (zhb K HU) (pv 1) (yZ K (pv 0)) (by with_unfolding_all rfl)))))
    (zm uf)
    zQ) q1.p⟩
  refine⟨_,(zg (yx (zP Qe (zH (xG K) (by rfl) T.n_len PySem.boot_len (zc (yZ K (pv 0)) zf)) (Z0 (v:=.int 4) rfl xV ⟨_,rfl⟩) (zT _))
    (zm uf)
    zQ) q2.p),?_⟩
  refine⟨_,rfl,k,CK,dx,_,_,rfl,hk,cKeeper.cl,cKeeper.n_bad,V5 _ _ _ _,bl,_,rfl,.inl (SqL.of KA.li),rfl,_,rfl,?_⟩;rw[aa,decide_eq_false (λz=>by injection z with z;omega)];refine wN ?_;refine⟨_,rfl,k,CK,dx,_,_,rfl,hk,cKeeper.cl,cKeeper.n_base,VP _ _ _ _,_,rfl,b,st,ns,rfl,hst,gst,λH1 s1=>⟨_,rfl,wN ?_⟩⟩;have KA1:=KA.same s1;have hk1:=s1 _ _ hk;refine⟨_,rfl,_,rfl,k,CK,dx,_,_,rfl,hk1,cKeeper.cl,cKeeper.n_bad,V5 _ _ _ _,bl,_,(zs.map (·.2)).map xT,xT ns,rfl,SqL.of KA1.li,TrsAt.lists KA1.st,TrAt.ints (a:=st) (SqL.of (s1 _ _ hst)),ao (qe _) (by decide),_,rfl,?_⟩;rw[if_neg bu,VG,decide_eq_false hnot];refine wN ?_;refine⟨_,rfl,k,dx,_,rfl,hk1,XQ _ _ _ _,?_⟩;refine⟨_,rfl,k,CK,dx,_,_,rfl,hk1,cKeeper.cl,cKeeper.n_bad,V5 _ _ _ _,_,rfl,st,_,rfl,.inl (SqL.of (s1 _ _ hst)),λq hq=>⟨(by show 1<=aZ;decide),λl1 hl1=>?_⟩⟩;have s2:=s1.trans (zy hq (o:=.lst (ns.map V.int)));have s3:=s2.trans (zy hl1 (o:=.lst [.ref q]));have hq3:=zy hl1 (o:=.lst [.ref q]) _ _ (zq (H:=H1) (a:=q) (o:=.lst (ns.map V.int)));refine⟨bl,l1,_,_,rfl,rfl,s3 _ _ KA.li,zq,by rw[aa];exact ao (show zs.length+1<=5 by omega) (by decide),λl2 hl2=>?_⟩;have s4:=s3.trans (zy hl2 (o:=.lst (zs.map (λz=>V.ref z.1)++[.ref q])));have hq4:=zy hl2 (o:=.lst (zs.map (λz=>V.ref z.1)++[.ref q])) _ _ hq3;have nd:((zs++[(q,ns)]).map (·.2)).Nodup:=by
   rw[aF];refine fP.mpr ⟨g.nodup,by simp,λx hx y hy=>?_⟩;have e:y=ns:=by simpa using hy
   rw[e];exact λz=>hnot (z▸hx)
  have hst4:∀z∈zs++[(q,ns)],upd (upd (upd H1 q (.lst (ns.map V.int))) l1 (.lst [.ref q])) l2 (.lst (zs.map (λz=>V.ref z.1)++[.ref q])) z.1=some (.lst (z.2.map V.int)):=λz hz=>by
   rcases bf.mp hz with hz | hz
   ·exact s4 _ _ (KA.st z hz)
   ·have e:z=(q,ns):=by simpa using hz
    subst e;exact hq4
  refine⟨l2,zs++[(q,ns)],rfl,SqL.of (by rw[zq];simp),by rw[aB,aU];omega,λz hz=>SqL.of (hst4 z hz),nd,λbq zs' hbq pm pw=>?_⟩;have s5:=zy hbq (o:=.lst (zs'.map λz=>V.ref z.1));have s15:=s4.trans s5;have hmem:∀z,z∈zs'↔z∈zs++[(q,ns)]:=λz=>pm.mem_iff;have gm:GoodRule b (zs'.map (·.2)):=⟨g.b2,g.b16,by rw[aa,pm.length_eq,aB,aU];omega,λl hl=>by
   obtain⟨z,hz,rfl⟩:=bh.mp hl;rcases bf.mp ((hmem z).mp hz) with hz | hz
   ·exact g.st _ (bh.mpr ⟨z,hz,rfl⟩)
   ·have e:z=(q,ns):=by simpa using hz
    subst e;exact gst,by rw[dO];exact pw⟩
  have KA5:=KA.same s15;obtain⟨lx,hlx⟩:=KA.ta.la;have bqla:bq≠la:=λz=>by rw[z,s4 _ _ hlx]at hbq;cases hbq
  refine⟨k,tl,la,b,bd,bl,zs,ws,L,bq,zs',rfl,KA5,hbd,hT.same s15,zq,λz hz=>s5 _ _ (hst4 z ((hmem z).mp hz)),gm,bqla,λp tl2 la2 ws2 L2 H' hp hv KA2 O2 T2 hla2 hx2=>?_⟩;refine kk p tl2 la2 bq zs' ws2 L2 H' (s15.free hp) hv KA2 ?_ ((Off.of s15).trans O2 (.inr rfl)) T2 (s15.free hla2) hx2;have:=pm.map (·.2);rwa[aF]at this
def ziT(T0 C CK:aq):Sp:=λvs H Q _=>∃k tl la b bd bl zs ws L st ns,vs=[.ref k,.ref st]/\KpAt C CK H k tl la b bd bl zs ws L/\bd<2^900/\LT T0 H/\H st=some (.lst (ns.map V.int))/\ns∈zs.map (·.2) /\
 KQ T0 C CK H k la b bd zs (λls2=>ls2=(zs.map (·.2)).filter λl=>decide (l≠ns)) Q
theorem zek:zG ["self","stretch"] ["self","stretch"] (zp jE):={}
theorem zl8(D:Mt K CK "Keeper.go" "go" jE Am f fd)(MKeeper_turn_to:Mt K CK "Keeper.turn_to" "turn_to" wM A6 f1 fd1)(GKeeper_turn_to:FnOk P w K mg base CX0 9 f1 fd1 A6 (Jl T0 C CK))(uw:Df K mg "is_stretch" jQ Ad f2 fd2)(uH:FnOk P w K mg base CX0 4 f2 fd2 Ad Y6)(cKeeper:ClK K mg CK)(T:Blt mg):FnOk P w K mg base CX0 10 f fd Am (ziT T0 C CK):=by
 refine D.fn.ok zek (λvs H Q E h=>?_) (λcdv A outer s H vs Q E hr h=>?_)
 ·obtain⟨k,tl,la,b,bd,bl,zs,ws,L,st,ns,rfl,_⟩:=h;rfl
 ·obtain⟨k,tl,la,b,bd,bl,zs,ws,L,st,ns,rfl,KA,hbd,hT,hst,hin,kk⟩:=h;have HU:=Vv hr;have g:=KA.gt.g;have gst:=g.st ns hin;obtain⟨dx,hk⟩:=KA.ob;refine xu ?_;intro XX;let q1:Sq XX ((zj jE).drop 1):=⟨_,zm (zE (xZ MKeeper_turn_to cKeeper.cl GKeeper_turn_to (hr.mono (by decide)) (pv 0) (zc (wO (show CScope (zp jE) _ "each" ["self","stretch"] ["stretch"] [1] from {}) rfl (jh K (yZ K (pv 0))) (λ_ _ _ _=>(uq (zP (Yk K HU) (pv 0) (pv 1) (zT _)))) (λ_ _ _ _=>(pv 0))) zf)))⟩
  refine⟨_,(zg (yx (PW.pt (Z6 (wB (yX (zK uw uH (hr.mono (by decide)) (zc (yZ K (pv 0)) (zc (pv 1) zf))))) (qw (zP (Xb K HU) (pv 1) (yZ K (pv 0)) (by with_unfolding_all rfl)))))
    (zm uf)
    zQ) q1.p),?_⟩
  refine⟨_,rfl,k,CK,dx,_,_,rfl,hk,cKeeper.cl,cKeeper.n_base,VP _ _ _ _,_,rfl,b,st,ns,rfl,hst,gst,λH1 s1=>⟨_,rfl,wN ?_⟩⟩;have KA1:=KA.same s1;have hk1:=s1 _ _ hk;refine⟨_,rfl,_,rfl,k,CK,dx,_,_,rfl,hk1,cKeeper.cl,cKeeper.n_bad,V5 _ _ _ _,bl,_,(zs.map (·.2)).map xT,xT ns,rfl,SqL.of KA1.li,TrsAt.lists KA1.st,TrAt.ints (a:=st) (SqL.of (s1 _ _ hst)),ao (qe _) (by decide),_,rfl,?_⟩;rw[if_pos rfl,VG,decide_eq_true hin];refine wN ?_;refine⟨_,rfl,k,dx,_,rfl,hk1,XQ _ _ _ _,?_⟩;refine⟨_,rfl,k,CK,dx,_,_,rfl,hk1,cKeeper.cl,cKeeper.n_bad,V5 _ _ _ _,bl,rfl,⟨_,SqL.of KA1.li⟩,vZ (K:=K) (a:=bl) (xs:=zs.map λz=>V.ref z.1) (λi ys H4=>H4=H1/\ys=((zs.take i).filter λz=>decide (z.2≠ns)).map λz=>V.ref z.1) ⟨rfl,rfl⟩ (λi ys H4 _ ⟨e,_⟩=>by rw[e];exact SqL.of KA1.li) ?_ ?_⟩
  ·rintro j x ys H4 hx ⟨rfl,rfl⟩;rw[ak]at hx;obtain⟨z,hzj,e⟩:=aM.mp hx;subst e;have hzm:=aJ hzj;have h4:zs.length<=4:=by have:=g.len;rwa[aa]at this
   refine⟨by rw[aa];exact bw (ao (bV _ _) (ao (rF _ _) h4)) (by decide),?_⟩;refine⟨_,rfl,_,rfl,xT z.2,xT ns,TrAt.ints (a:=z.1) (SqL.of (KA1.st z hzm)),TrAt.ints (a:=st) (SqL.of (s1 _ _ hst)),(by rw[Yz];decide),_,rfl,?_⟩;rw[if_pos rfl,j0,cO,hzj];by_cases e:z.2=ns
   ·rw[decide_eq_true e];refine wN ⟨rfl,?_⟩;simp[bT,e]
   ·rw[decide_eq_false e];refine qd ⟨_,rfl,rfl,?_⟩;simp[bT,e]
  rintro ys H4 ⟨rfl,rfl⟩ bq hbq;rw[aa,cj];have s5:=zy hbq (o:=.lst ((zs.filter λz=>decide (z.2≠ns)).map λz=>V.ref z.1));have s15:=s1.trans s5;have ef:(zs.filter λz=>decide (z.2≠ns)).map (·.2)=(zs.map (·.2)).filter λl=>decide (l≠ns):=by
   rw[pM];rfl
  have gm:GoodRule b ((zs.filter λz=>decide (z.2≠ns)).map (·.2)):=by
   rw[ef];exact⟨g.b2,g.b16,ao (bV _ _) g.len,λl hl=>g.st l (bU.mp hl).1,g.up.sublist List.filter_sublist⟩
  obtain⟨lx,hlx⟩:=KA.ta.la;have bqla:bq≠la:=λz=>by rw[z,s1 _ _ hlx]at hbq;cases hbq
  refine⟨k,tl,la,b,bd,bl,zs,ws,L,bq,zs.filter λz=>decide (z.2≠ns),rfl,KA.same s15,hbd,hT.same s15,zq,λz hz=>s15 _ _ (KA.st z (bU.mp hz).1),gm,bqla,λp tl2 la2 ws2 L2 H' hp hv KA2 O2 T2 hla2 hx2=>?_⟩;exact kk p tl2 la2 bq _ ws2 L2 H' (s15.free hp) hv KA2 ef ((Off.of s15).trans O2 (.inr rfl)) T2 (s15.free hla2) hx2
open Enc
theorem LT.ins(h:LT T H)(e:H b=some (.ins CS dx fs)):b≠T:=λz=>by
 rw[z]at e;rcases h with h | ⟨c,h,_⟩
 ·rw[h]at e;cases e
 ·rw[h]at e;cases e
theorem TailsAt.sameL{T0 C tl la b:aq}(TA:TailsAt C H tl la b ls ws L)(hT:LT T0 H)(m:SameL T0 H H'):TailsAt C H' tl la b ls ws L:=by
 obtain⟨dx,sa',srs,h1,h2,h3,h4⟩:=TA.ob;obtain⟨lrs,g1,g2,g3⟩:=TA.ly;have go:∀c u,c≠T0->aw [la] H c=some u->aw [la] H' c=some u:=λc u hc e=>by
  have hcl:c∉[la]:=λhz=>by rw[Vk hz]at e;cases e
  rw[yq hcl]at e ⊢;exact m c u hc e
 exact⟨⟨dx,sa',srs,go _ _ (hT.ins (yj _ _ _ _ h1)) h1,go _ _ (hT.lst (yj _ _ _ _ h2)) h2,λz hz=>go _ _ (hT.lst (yj _ _ _ _ (h3 z hz))) (h3 z hz),h4⟩,⟨lrs,m _ _ (hT.lst g1) g1,λz hz=>go _ _ (hT.lst (yj _ _ _ _ (g2 z hz))) (g2 z hz),g3⟩,TA.l1⟩
def KpL(C CK:aq)(H:Hp)(k la:aq)(b bd:Nat)(ls:ZA):Prop:=∃tl bl zs ws L,KpAt C CK H k tl la b bd bl zs ws L/\zs.map (·.2)=ls
theorem KpL.sameL(h:KpL C CK H k la b bd ls)(hT:LT T0 H)(m:SameL T0 H H'):KpL C CK H' k la b bd ls:=by
 obtain⟨tl,bl,zs,ws,L,A,e⟩:=h;obtain⟨dx,h1⟩:=A.ob;exact⟨tl,bl,zs,ws,L,⟨⟨dx,m _ _ (hT.ins h1) h1⟩,m _ _ (hT.lst A.li) A.li,λz hz=>m _ _ (hT.lst (A.st z hz)) (A.st z hz),A.ta.sameL hT m,A.gt,A.bla,A.l⟩,e⟩
def Wk(T0 C CK k:aq)(b bd:Nat)(S:List aq)(ls:ZA):Wd where
 ok H:=LT T0 H/\k∈S/\(∀c∈S,H c≠none)/\∃la∈S,KpL C CK H k la b bd ls
 may c:=c=T0\/c∈S
 mo:=λ{H H'} ⟨h1,h2,h3,la,h4,h5⟩ s=>⟨h1.same s,h2,λc hc q=>h3 c hc (s.free q),la,h4,h5.sameL h1 (SameL.of s)⟩
 nm:=λ{H c} ⟨h1,h2,h3,h4⟩ m q=>by
  rcases m with rfl | m
  ·exact h1.none q rfl
  ·exact h3 c m q
theorem Wk.wt:WT (Wk T0 C CK k b bd S ls) T0:=⟨λh=>h.1,λ{H H'} ⟨h1,h2,h3,la,h4,h5⟩ m l=>⟨l,h2,λc hc q=>h3 c hc (by
  cases e:H c with
  |none=>rfl
  |some o=>rw[m c o (l.none q) e]at q;cases q),la,h4,h5.sameL h1 m⟩,.inl rfl⟩
structure Sr (T0:aq) (Vb:Wd) (G H G' H':Hp):Prop where
 sub:Same G' H'
 lt:LT T0 H'
 sm:Same G G'
 hid:∀c o,¬ Vb.may c->H c=some o->G c=none->H' c=some o/\G' c=none
 no:∀c,Vb.may c->G' c=none
structure Dd (Vb W':Wd) (G H G' H':Hp):Prop where
 v:Vw W' G' H'
 sm:Same G G'
 hid:∀c o,¬ Vb.may c->H c=some o->G c=none->H' c=some o/\G' c=none
 mn:∀c,Vb.may c->W'.may c
 nw:∀c,W'.may c->Vb.may c\/H c=none
section
variable {Vb W':Wd} {G H G1 H1 G2 H2:Hp}
theorem Dd.go(d:Dd Vb W' G H G1 H1)(g:Gr W' G1 H1 G2 H2):Dd Vb W' G H G2 H2:=⟨g.v,d.sm.trans g.sm,λc o m h1 h2=>by
 obtain⟨q1,q2⟩:=d.hid c o m h1 h2;exact g.hid c o (λz=>(d.nw c z).elim m λz=>by rw[h1]at z;cases z) q1 q2,d.mn,d.nw⟩
theorem Dd.pre(s:Vw Vb G H)(g:Gr Vb G H G1 H1)(d:Dd Vb W' G1 H1 G2 H2):Dd Vb W' G H G2 H2:=⟨d.v,g.sm.trans d.sm,λc o m h1 h2=>by
 obtain⟨q1,q2⟩:=g.hid c o m h1 h2;exact d.hid c o m q1 q2,d.mn,λc h=>by
  rcases d.nw c h with z | z
  ·exact .inl z
  ·cases e:H c with
   |none=>exact .inr rfl
   |some o=>
    by_cases m:Vb.may c
    ·exact .inl m
    ·rw[g.big s.sub m e]at z;cases z⟩
theorem Sr.of(g:Gr Vb G H G1 H1)(l:LT T0 H1):Sr T0 Vb G H G1 H1:=⟨g.v.sub,l,g.sm,g.hid,g.v.no⟩
theorem Sr.pre(d:Dd Vb W' G H G1 H1)(t:Sr T0 W' G1 H1 G2 H2):Sr T0 Vb G H G2 H2:=⟨t.sub,t.lt,d.sm.trans t.sm,λc o m h1 h2=>by
 obtain⟨q1,q2⟩:=d.hid c o m h1 h2;exact t.hid c o (λz=>(d.nw c z).elim m λz=>by rw[h1]at z;cases z) q1 q2,λc h=>t.no c (d.mn c h)⟩
theorem Dd.refl(g:Gr Vb G H G1 H1):Dd Vb Vb G H G1 H1:=⟨g.v,g.sm,g.hid,λ_ h=>h,λ_ h=>.inl h⟩
end
def Sk(T0:aq)(Vb:Wd)(Γ:Cxt)(ts:TS)(R:Ty):Prop:=∀D Z G H,Vw Vb G H->Fits Γ G Z->(∀v G' H',Sr T0 Vb G H G' H'->R.p G' v->D.rt v H')->ts D Z H
def TtD(Vb:Wd)(Γ:Cxt)(tt:TT)(W':aq->Wd)(b:Bool):Prop:=∀Z G H Q,Vw Vb G H->Fits Γ G Z->(∀a G' H',Dd Vb (W' a) G H G' H'->Q b H')->tt Z H Q
section
variable {Vb:Wd} {W':aq->Wd} {Γ:Cxt} {ta tb te:TE} {t u ts:TS} {tt tu:TT} {R S T:Ty} {r:R2}
theorem TtD.or1(l:TtD Vb Γ tt W' false)(q:∀a,Tt (W' a) Γ tu false):TtD Vb Γ (tOr tt tu) W' false:=λZ G H Q s f k=>l Z G H _ s f λa G1 H1 d=>wN (q a Z G1 H1 _ d.v (f.same d.sm) λG2 H2 g=>k a G2 H2 (d.go g))
theorem TtD.or2(l:Tt Vb Γ tt false)(q:TtD Vb Γ tu W' false):TtD Vb Γ (tOr tt tu) W' false:=λZ G H Q s f k=>l Z G H _ s f λG1 H1 g=>wN (q Z G1 H1 _ g.v (f.same g.sm) λa G2 H2 d=>k a G2 H2 (d.pre s g))
theorem TtD.val(h:∀Z G H Q,Vw Vb G H->Fits Γ G Z->(∀a v G' H',Dd Vb (W' a) G H G' H'->S.p G' v->Q v H')->ta Z H Q)(hb:∀a,Tg (W' a) Γ tb T)(o:∀a,Ob (W' a) r S T (Is p)):TtD Vb Γ (zg4 (tOp r ta tb)) W' p:=λZ G H Q s f k=>h Z G H _ s f λa v G1 H1 d z=>hb a Z G1 H1 _ d.v (f.same d.sm) λy G2 H2 g z2=>o a v y G2 H2 _ g.v (S.mo g.sm z) z2 λx G3 H3 g3 z3=>⟨p,jB.mp z3,k a G3 H3 ((d.go g).go g3)⟩
theorem Sk.cutD(c:TtD Vb Γ tt W' false)(k:∀a,Sk T0 (W' a) Γ u R):Sk T0 Vb Γ (Y9 (zfJ tt t Jh) u) R:=λD Z G H s f q=>c Z G H _ s f λa G1 H1 d=>wN (k a D Z G1 H1 d.v (f.same d.sm) λv G' H' t z=>q v G' H' (t.pre d) z)
theorem Sk.cut(c:Tt Vb Γ tt false)(k:Sk T0 Vb Γ u R):Sk T0 Vb Γ (Y9 (zfJ tt t Jh) u) R:=λD Z G H s f q=>c Z G H _ s f λG1 H1 g=>wN (k D Z G1 H1 g.v (f.same g.sm) λv G' H' t z=>q v G' H' (t.pre (.refl g)) z)
theorem Sk.iff(c:Tt Vb Γ tt p)(h1:p=true->Sk T0 Vb Γ (Y9 t u) R)(h2:p=false->Sk T0 Vb Γ u R):Sk T0 Vb Γ (Y9 (zfJ tt t Jh) u) R:=λD Z G H s f q=>c Z G H _ s f λG1 H1 g=>by
 cases p with
 |true=>exact qd (h1 rfl D Z G1 H1 g.v (f.same g.sm) λv G' H' t z=>q v G' H' (t.pre (.refl g)) z)
 |false=>exact wN (h2 rfl D Z G1 H1 g.v (f.same g.sm) λv G' H' t z=>q v G' H' (t.pre (.refl g)) z)
theorem Sk.set(h:Tg Vb Γ te T)(k:Sk T0 Vb (Γ.set x (some T)) u R):Sk T0 Vb Γ (Y9 (zaO te (j9 x)) u) R:=λD Z G H s f q=>h Z G H _ s f λv G1 H1 g z=>k D _ G1 H1 g.v ((f.same g.sm).set z) λv G' H' t z=>q v G' H' (t.pre (.refl g)) z
theorem Sk.ret(wt:WT Vb T0)(h:Tg Vb Γ te R):Sk T0 Vb Γ (zll te) R:=λD Z G H s f q=>h Z G H _ s f λv G1 H1 g z=>q v G1 H1 (.of g (wt.lt g.v.ok)) z
theorem Sk.assoc(k:Sk T0 Vb Γ (Y9 t (Y9 u ts)) R):Sk T0 Vb Γ (Y9 (Y9 t u) ts) R:=k
theorem Sk.sg(k:Sk T0 (W0 T0) Γ t R):Sg (W0 T0) J Γ t N R:=λD Z G H s f n q=>k D Z G H s f λv G' H' t z=>q v G' H' ⟨⟨t.sub,t.lt,t.no⟩,t.sm,t.hid⟩ z
end
section
variable {k:aq} {b bd:Nat} {S:List aq} {ls:ZA} {Γ:Cxt} {ta:TA} {x:Nat}
theorem KpL.obj(h:KpL C CK H k la b bd ls):∃dx bl tl,H k=some (.ins CK dx (jX b bl bd tl)):=by
 obtain⟨tl,bl,zs,ws,L,A,e⟩:=h;obtain⟨dx,h1⟩:=A.ob;exact⟨dx,bl,tl,h1⟩
theorem zha(hx:Γ[x]?=some (some (W3 (.ref k))))(ha:Ta (Wk T0 C CK k b bd S ls) Γ ta Ts)(hm:∀bl tl,(jX b bl bd tl).lookup m=none)(h:∀vs G H Q E,Vw (Wk T0 C CK k b bd S ls) G H->Tis Ts G vs->(∀v G' H',Gr (Wk T0 C CK k b bd S ls) G H G' H'->T.p G' v->Q v H')->sp (.ref k::vs) H Q E):Tg (Wk T0 C CK k b bd S ls) Γ (zbh CK m sp [] E0 (zby x) ta) T:=λZ G H Q s f q=>by
 obtain⟨v,e,z⟩:=f.2 x _ hx;have z:v=.ref k:=z;subst z;obtain⟨la,hla,A⟩:=s.ok.2.2.2;obtain⟨dx,bl,tl,h1⟩:=A.obj;refine⟨_,e,k,dx,_,rfl,h1,hm _ _,ha Z G H _ s f λvs G1 H1 g1 z1=>?_⟩;rw[cR];exact h vs G1 H1 _ _ g1.v z1 λv G2 H2 g2 z2=>q _ _ _ (g1.trans g2) z2
theorem zfb{n:Int}(hx:Γ[x]?=some (some (W3 (.ref k))))(ha:Ta (Wk T0 C CK k b bd S ls) Γ ta [Is n])(h0:0<=n)(hn:n<2^100):Tg (Wk T0 C CK k b bd S ls) Γ (zbh CK "below" (Qn T0 C CK) [] E0 (zby x) ta) (Is ((many (gd ls b) n.toNat:Nat):Int)):=
 zha hx ha (λ_ _=>XQ _ _ _ _) λvs G H Q E s z q=>by
  obtain⟨y,rfl,z1⟩:=zhN z;rw[zW.mp z1,<-cD h0];obtain⟨l0,hk,hS,la,hla,tl,bl,zs,ws,L,A,e⟩:=s.ok;refine⟨k,tl,la,b,bd,bl,zs,ws,L,n.toNat,rfl,A,by omega,l0,λL' H' A' m l=>?_⟩;have go:∀c o,c≠la->H c=some o->H' c=some o:=λc o hc e=>by
   have hc':c∉[la]:=by simpa using hc
   have:=m c o (by rw[yq hc'];exact e);rwa[yq hc']at this
  have nla:∀c o,G c=some o->c≠la:=λc o h z=>by rw[z,s.no la (.inr hla)]at h;cases h
  refine q _ G H' ⟨⟨λc o h=>go c o (nla c o h) (s.sub _ _ h),⟨l,hk,λc hc q=>?_,la,hla,tl,bl,zs,ws,L',A',e⟩,s.no⟩,Same.refl _,λc o m h1 h2=>⟨go c o (λz=>m (.inr (z▸hla))) h1,h2⟩⟩ (zW.mpr (by rw[e]));by_cases z:c=la
  ·obtain⟨xs,hx⟩:=A'.ta.la;rw[z,hx]at q;cases q
  ·cases e2:H c with
   |none=>exact hS c hc e2
   |some o=>rw[go c o z e2]at q;cases q
theorem zhw(hx:Γ[x]?=some (some (W3 (.ref k))))(g:GoodRule b ls):Tg (Wk T0 C CK k b bd S ls) Γ (zbh CK "rule" (zbI C CK) [] E0 (zby x) Qh) (Is ((b:Int),ls)):=
 zha hx .nil (λ_ _=>XQ _ _ _ _) λvs G H Q E s z q=>by
  cases z;obtain⟨l0,hk,hS,la,hla,tl,bl,zs,ws,L,A,e⟩:=s.ok
  refine⟨k,tl,la,b,bd,bl,zs,ws,L,rfl,A,λr bl' zs' H' sm R e' n1 n2 n3=>?_⟩;obtain⟨G',g',_,kp⟩:=Gr.freshS (λc=>c=r\/c=bl'\/∃z∈zs',c=z.1) s (λc hc=>by
   rcases hc with rfl | rfl | ⟨z,hz,rfl⟩
   ·exact n2
   ·exact n1
   ·exact (n3 z hz).1) (λc o _ e=>sm c o e) ((Wk T0 C CK k b bd S ls).mo s.ok sm)
  exact q _ G' H' g' (is_tup.mpr ⟨r,_,_,rfl,by rw[kp r (.inl rfl)];exact R.tu,zW.mpr rfl,Yb.mpr ⟨bl',zs',rfl,by rw[kp bl' (.inr (.inl rfl))];exact R.li,λz hz=>by rw[kp z.1 (.inr (.inr ⟨z,hz,rfl⟩))];exact R.st z hz,by rw[e',e]⟩⟩)
theorem zlV(s:Vw (Wk T0 C CK k b bd S ls) G H)(hla:la∈S)(hp:H p=none)(hv:H' p=some o)(A:KpL C CK H' k la2 b bd ls2)(off:Off T0 k la H H')(l:LT T0 H')(n2:H la2=none)(hx:∃xs,H' la=some (.lst xs))(np:p≠la2):Dd (Wk T0 C CK k b bd S ls) (Wk T0 C CK k b bd (la2::S) ls2) G H (upd G p o) H'/\Same G (upd G p o):=by
 have gp:G p=none:=s.sub.free hp;have hk:k∈S:=s.ok.2.1;have go:∀c o,¬ (Wk T0 C CK k b bd S ls).may c->H c=some o->H' c=some o:=λc o m e=>off c o (λz=>m (.inr (z▸hk))) (λz=>m (.inr (z▸hla))) (λz=>m (.inl z)) e;have nm:∀c o,G c=some o->¬ (Wk T0 C CK k b bd S ls).may c:=λc o h m=>by rw[s.no c m]at h;cases h
 have sm:Same G (upd G p o):=λc u q=>by rw[zA (zF q gp)];exact q
 refine⟨⟨⟨λc u q=>?_,⟨l,bx _ hk,λc hc q=>?_,la2,bI,A⟩,λc m=>?_⟩,sm,λc u m h1 h2=>⟨go c u m h1,by rw[zA (zF h1 hp)];exact h2⟩,λc m=>m.imp id (bx _),λc m=>?_⟩,sm⟩
 ·by_cases z:c=p
  ·subst z;rw[zq]at q;cases q;exact hv
  ·rw[zA z]at q;exact go c u (nm c u q) (s.sub _ _ q)
 ·rcases aP.mp hc with rfl | hc
  ·obtain⟨tl,bl,zs,ws,L,A,e⟩:=A;obtain⟨xs,h⟩:=A.ta.la;rw[h]at q;cases q
  ·by_cases z:c=k
   ·obtain⟨dx,bl,tl,h1⟩:=A.obj;rw[z,h1]at q;cases q
   ·by_cases z2:c=la
    ·obtain⟨xs,h⟩:=hx;rw[z2,h]at q;cases q
    ·cases e2:H c with
     |none=>exact s.ok.2.2.1 c hc e2
     |some o=>
      by_cases z3:c=T0
      ·exact l.none q z3
      ·rw[off c o z z2 z3 e2]at q;cases q
 ·have h:(Wk T0 C CK k b bd S ls).may c\/c=la2:=by
   rcases m with m | m
   ·exact .inl (.inl m)
   ·rcases aP.mp m with m | m
    ·exact .inr m
    ·exact .inl (.inr m)
  rcases h with h | rfl
  ·rw[zA (λz=>(Wk T0 C CK k b bd S ls).nm s.ok h (by rw[z];exact hp))];exact s.no c h
  ·rw[zA (cP np)];exact s.sub.free n2
 ·rcases m with m | m
  ·exact .inl (.inl m)
  ·rcases aP.mp m with rfl | m
   ·exact .inr n2
   ·exact .inl (.inr m)
theorem deed{ns:List Int}(hx:Γ[x]?=some (some (W3 (.ref k))))(ha:Ta (Wk T0 C CK k b bd S ls) Γ ta [Is ns])(hm:∀bl tl,(jX b bl bd tl).lookup m=none)(hok:∀l,ok l->LPw l->l=ls2)(h:∀tl la bl zs ws L st H Q E,KpAt C CK H k tl la b bd bl zs ws L->zs.map (·.2)=ls->LT T0 H->H st=some (.lst (ns.map V.int))->KQ T0 C CK H k la b bd zs ok Q->sp [.ref k,.ref st] H Q E)(Z:L2.St)(G H:Hp)(Q:VK)(s:Vw (Wk T0 C CK k b bd S ls) G H)(f:Fits Γ G Z)(q:∀a v G' H',Dd (Wk T0 C CK k b bd S ls) (Wk T0 C CK k b bd (a::S) ls2) G H G' H'->(Is (((many (gd ls b) bd:Nat):Int),((many (gd ls2 b) bd:Nat):Int))).p G' v->Q v H'):zbh CK m sp [] E0 (zby x) ta Z H Q:=by
 obtain⟨v,e,z⟩:=f.2 x _ hx;have z:v=.ref k:=z;subst z;obtain⟨la,hla,A⟩:=s.ok.2.2.2;obtain⟨dx,bl,tl,h1⟩:=A.obj;refine⟨_,e,k,dx,_,rfl,h1,hm _ _,ha Z G H _ s f λvs G1 H1 g1 z1=>?_⟩;rw[cR];obtain⟨y,rfl,z2⟩:=zhN z1;obtain⟨st,rfl,hst⟩:=Ze.mp z2;obtain⟨l0,hk,hS,la,hla,tl,bl,zs,ws,L,A,e⟩:=g1.v.ok;refine h tl la bl zs ws L st H1 _ _ A e l0 (g1.v.sub _ _ hst) λp tl2 la2 bl2 zs2 ws2 L2 H' hp hv KA2 hok2 off l n2 hx2=>?_;have e2:=hok _ hok2 KA2.gt.g.up;obtain⟨xs2,hx3⟩:=KA2.ta.la;obtain⟨d,m⟩:=zlV (o:=.tup [.int (many (gd (zs.map (·.2)) b) bd:Nat),.int (many (gd (zs2.map (·.2)) b) bd:Nat)]) g1.v hla hp hv ⟨tl2,bl2,zs2,ws2,L2,KA2,e2⟩ off l n2 hx2 (jg hv hx3 λz=>nomatch z);exact q la2 _ _ _ (d.pre s g1) (is_tup.mpr ⟨p,_,_,rfl,zq,zW.mpr (by rw[e]),zW.mpr (by rw[e2])⟩)
end
open Enc
def spgA(Rl:List Ty->Ty->Prop):Sp:=λvs H Q E=>∃Vb,spg Vb Rl vs H Q E
theorem spgA.fn(F:∀Vb,FnOk P w K mg base CX0 k f fd ps (spg Vb Rl)):FnOk P w K mg base CX0 k f fd ps (spgA Rl):=⟨λvs H Q E ⟨Vb,h⟩=>(F Vb).len vs H Q E h,λA outer s H args us vs Q E hr he hb hv ⟨Vb,h⟩=>(F Vb).run A outer s H args us vs Q E hr he hb hv h⟩
theorem Spg.all(h:Spg Vb (spg Vb Rl) Ts T):Spg Vb (spgA Rl) Ts T:=λvs G H Q E s z q=>⟨Vb,h vs G H Q E s z q⟩
theorem JV(g:GR r b)(h0:0<=n)(h1:n<2^100):Spg Vb (spgA zaU) [Is r,Is n] (Is (gi r n)):=Spg.all (QH g h0 h1)
theorem zdt(h0:0<=k)(h1:k<=1000):Spg Vb (spgA zdH) [Is c,Is k] (Is (mixed c k)):=Spg.all (uL h0 h1)
theorem TtD.to{tt:TT}(h:TtD Vb Γ tt W' p)(e:p=q):TtD Vb Γ tt W' q:=e▸h
theorem Sk.make{b:Nat}{n:Int}(ha:Ta (W0 T0) Γ ta [Is ((b:Int),l),Is n])(g:GoodRule b l)(h0:0<=n)(k:∀kk la,Sk T0 (Wk T0 C CK kk b n.toNat [kk,la] l) (Γ.set x (some (W3 (.ref kk)))) u R):Sk T0 (W0 T0) Γ (Y9 (zaO (zkF CK (QQ T0 C CK) [] E0 ta) (j9 x)) u) R:=λD Z G H s f q=>ha Z G H _ s f λvs G1 H1 g1 z1 kk dx nk ndx ne=>by
 obtain⟨y,y',rfl,z2,z3⟩:=zcL z1;obtain⟨p,bl,zs,rfl,RA,e⟩:=(jd (r:=((b:Int),l)) (b:=b) ⟨rfl,g⟩).mp z2;have e:zs.map (·.2)=l:=e;rw[zW.mp z3,<-cD h0];have m0:=zbJ (C:=CK) nk ndx;have lt1:LT T0 H1:=g1.v.ok;refine⟨kk,dx,p,b,bl,zs,n.toNat,rfl,zq,(RA.same g1.v.sub).same m0,by rw[e];exact g,lt1.same m0,λtl la bl2 zs2 ws L H' A e2 go lt n2=>⟨rfl,?_⟩⟩;have A':KpL C CK H' kk la b n.toNat l:=⟨tl,bl2,zs2,ws,L,A,e2.trans e⟩
 have gk:∀c o,c≠T0->H1 c=some o->H' c=some o:=λc o hc h=>go c o (zF h nk) hc (m0 _ _ h);have nla:H1 la=none:=m0.free n2;have d:Dd (W0 T0) (Wk T0 C CK kk b n.toNat [kk,la] l) G1 H1 G1 H':=⟨⟨λc o h=>gk c o (λz=>by rw[z,g1.v.no T0 rfl]at h;cases h) (g1.v.sub _ _ h),⟨lt,by simp,λc hc q=>?_,la,by simp,A'⟩,λc m=>?_⟩,Same.refl _,λc o m h1 h2=>⟨gk c o m h1,h2⟩,λc m=>.inl m,λc m=>?_⟩
 ·exact k kk la D _ G1 H' d.v ((f.same g1.sm).set rfl) λv G' H' t z=>q v G' H' (t.pre (d.pre s g1)) z
 ·rcases aP.mp hc with rfl | hc
  ·obtain⟨dx2,b2,t2,h⟩:=A'.obj;rw[h]at q;cases q
  ·rw[cJ.mp hc]at q;obtain⟨xs,h⟩:=A.ta.la;rw[h]at q;cases q
 ·rcases m with rfl | m
  ·exact g1.v.no _ rfl
  ·rcases aP.mp m with rfl | m
   ·exact g1.v.sub.free nk
   ·rw[cJ.mp m];exact g1.v.sub.free nla
 ·rcases m with m | m
  ·exact .inl m
  ·rcases aP.mp m with rfl | m
   ·exact .inr nk
   ·rw[cJ.mp m];exact .inr nla
def zlA(Ts:List Ty)(T:Ty):Prop:=∃(b:Nat) (l:ZA) (n c:Int),Ts=[Is ((b:Int),l),Is n,Is c]/\T=Is true/\GoodRule b l/\0<=n/\n<=300/\0<=c
theorem Jr{n c:Int}(g:GoodRule b l)(h0:0<=n)(h1:n<=300)(hc:0<=c):Spg (W0 T0) (spg (W0 T0) zlA) [Is ((b:Int),l),Is n,Is c] (Is true):=spg.of ⟨b,l,n,c,rfl,rfl,g,h0,h1,hc⟩
theorem w6:zG ["rule","n","cell","keeper","good","one","more","now"] ["rule","n","cell"] (zp yc):={}
set_option maxHeartbeats 0 in
theorem Q6(D:Df K mg "_law_keeper_good" yc Bn f fd)(yz:Df K mg "_law_mixed" uO Aq f1 fd1)(vz:Df K mg "_law_good" ql Ab f2 fd2)(yf:Df K mg "_law_figures" xg Ae f3 fd3)(KKeeper:Mk K CK f4)(BKeeper:Binds K fd4 ["self","rule","b"] [])(GKeeper_init:FnOk P w K mg base CX0 9 f4 fd4 A3 (QQ T0 C CK))(MKeeper_come:Mt K CK "Keeper.come" "come" uX Am f5 fd5)(GKeeper_come:FnOk P w K mg base CX0 10 f5 fd5 Am (zeb T0 C CK))(MKeeper_go:Mt K CK "Keeper.go" "go" jE Am f6 fd6)(GKeeper_go:FnOk P w K mg base CX0 10 f6 fd6 Am (ziT T0 C CK))(MKeeper_rule:Mt K CK "Keeper.rule" "rule" j7 Ao f7 fd7)(GKeeper_rule:FnOk P w K mg base CX0 2 f7 fd7 Ao (zbI C CK))(MKeeper_below:Mt K CK "Keeper.below" "below" tZ Av f8 fd8)(GKeeper_below:FnOk P w K mg base CX0 5 f8 fd8 Av (Qn T0 C CK))(cKeeper:ClK K mg CK)(T:Blt mg):FnOk P w K mg base CX0 12 f fd Bn (spg (W0 T0) zlA):=by
  refine D.pj w6 (by rintro _ _ ⟨b,l,n,c,rfl,_⟩;rfl) λcdv A outer s H E hr Ts TT h=>?_;obtain⟨b,l,n,c,rfl,rfl,g,h0,h1,hc⟩:=h;have HU:=Vv hr;have b2:=g.b2;have hl4:=g.len;have gr:GR ((b:Int),l) b:=⟨rfl,g⟩
  obtain⟨m,hm,m1,m4⟩:∃m:Nat,m=(1+c % 4).toNat/\1<=m/\m<=4:=⟨_,rfl,by omega,by omega⟩
  have wk:FnOk P w K mg base CX0 1 f1 fd1 Aq (spgA zdH):=spgA.fn λ_=>YK yz;have YF:FnOk P w K mg base CX0 2 f2 fd2 Ab (spgA zaU):=spgA.fn λ_=>Ur vz yf T;refine Je ?_;intro XX;let q1:Sq XX ((zj yc).drop 4):=⟨_,zm (zE (Ww (ul (U5 K HU) (zgN MKeeper_rule cKeeper.cl GKeeper_rule (hr.mono (by decide)) (pv 3)) (pv 0) (zT _)) (Xr (ul Qe (xZ MKeeper_below cKeeper.cl GKeeper_below (hr.mono (by decide)) (pv 3) (zc (pv 1) zf)) (pv 4) (zT _)))))⟩
  let q2:Sq XX ((sb (zj yc) 3 true).drop 4):=⟨_,zm (yx (PW.pt (Z6 (zP Va (xZ MKeeper_below cKeeper.cl GKeeper_below (hr.mono (by decide)) (pv 3) (zc (pv 1) zf)) (pv 7) (zT _)) (qw (zP (Yk K HU) (xZ MKeeper_go cKeeper.cl GKeeper_go (hr.mono (by decide)) (pv 3) (zc (Yn (Wz K) (by rfl) T.n_list gW (zc (pv 5) zf)) zf)) (Zi (zc (pv 7) (zc (pv 4) zf))) (zT _)))))
     (zm (zE vX))
     zQ)⟩
  let q3:Sq XX ((sb (zj yc) 3 true).drop 3):=⟨_,zg (yx (zP (Yk K HU) (zgN MKeeper_rule cKeeper.cl GKeeper_rule (hr.mono (by decide)) (pv 3)) (pv 6) (zT _))
     (zm (zE vX))
     zQ) q2.p⟩
  let q4:Sq XX ((sb (zj yc) 3 true).drop 2):=⟨_,zg (yx (PW.pt (Z6 (zP (Yk K HU) (xZ MKeeper_come cKeeper.cl GKeeper_come (hr.mono (by decide)) (pv 3) (zc (Yn (Wz K) (by rfl) T.n_list gW (zc (pv 5) zf)) zf)) (Zi (zc (pv 4) (zc (pv 7) zf))) (zT _)) (qw (zP zaj (pv 7) (pv 4) (zT _)))))
     (zm (zE vX))
     zQ) q3.p⟩
  let q5:Sq XX ((sb (zj yc) 3 true).drop 1):=⟨_,zg (zU (i:=7) w6.nd rfl (aW rfl) (zH (xG K) (by rfl) T.n_len PySem.boot_len (zc (wO (show CScope (zp yc) _ "k" ["rule","n","cell","keeper","good","one","more","now"] ["more"] [6] from {}) rfl (yM rfl T.n_range (zc (pv 1) zf)) (λ_ _ _ _=>(uq (yX (zK vz YF (hr.mono (by decide)) (zc (pv 1) (zc (pv 0) zf)))))) (λ_ _ _ _=>(pv 0))) zf))) q4.p⟩
  let q6:Sq XX ((zj yc).drop 3):=⟨_,zg (yx (PW.pt (zck (zP (Xb K HU) (pv 5) (zX (yP K) (pv 0) zu (λ_ _=>rfl)) (by with_unfolding_all rfl)) (zal (zP zbg (zH (xG K) (by rfl) T.n_len PySem.boot_len (zc (zX (yP K) (pv 0) zu (λ_ _=>rfl)) zf)) zu (zT _)))))
    (zg (zU (i:=6) w6.nd rfl (lE rfl) (Zi (zc (zX (yP K) (pv 0) zu (λ_ _=>rfl)) (zc (zH (zac K HU) (by rfl) T.n_sorted lH (zc (zV ZZ (zX (yP K) (pv 0) zu (λ_ _=>rfl)) (yR (zc (pv 5) zf))) zf)) zf)))) q5.p)
    zQ) q1.p⟩
  let q7:Sq XX ((zj yc).drop 2):=⟨_,zg (wL (i:=5) (show CScope (zp yc) _ "j" ["rule","n","cell","keeper","good","one","more","now"] ["cell","rule"] [2,0] from {}) rfl w6.nd rfl (aW rfl) (yM rfl T.n_range (zc (zV xO zu (zV qy (pv 2) zu)) zf)) (λ_ _ _ _=>vU) (λ_ _ _ _=>(zV qy (zK yz wk (hr.mono (by decide)) (zc (pv 1) (zc (pv 0) zf))) (zX (yP K) (pv 2) zu (λ_ _=>rfl))))) q6.p⟩
  let q8:Sq XX ((zj yc).drop 1):=⟨_,zg (zU (i:=4) w6.nd rfl (aW rfl) (zH (xG K) (by rfl) T.n_len PySem.boot_len (zc (wO (show CScope (zp yc) _ "one" ["rule","n","cell","keeper","good","one","more","now"] ["rule"] [0] from {}) rfl (yM rfl T.n_range (zc (pv 1) zf)) (λ_ _ _ _=>(uq (yX (zK vz YF (hr.mono (by decide)) (zc (pv 1) (zc (pv 0) zf)))))) (λ_ _ _ _=>(pv 0))) zf))) q7.p⟩
  refine⟨_,(zg (zU (i:=3) w6.nd rfl (aW rfl) (jc KKeeper GKeeper_init (hr.mono (by decide)) rfl cKeeper.nm BKeeper .nil Xf (zc (Zi (zc (zX (yP K) (pv 0) zu (λ_ _=>rfl)) (zc (wO (show CScope (zp yc) _ "one" ["rule","n","cell","keeper","good","one","more","now"] [] [] from {}) rfl (jh K (zX (yP K) (pv 0) zu (λ_ _=>rfl))) (λ_ _ _ _=>vU) (λ_ _ _ _=>(Yn (Wz K) (by rfl) T.n_list gW (zc (pv 0) zf)))) zf))) (zc (pv 1) zf)))) q8.p),?_⟩;have fin:∀{kk:aq} {S:List aq} {Γ:Cxt},Γ[0]?=some (some (Is ((b:Int),l)))->Γ[1]?=some (some (Is n))->Γ[3]?=some (some (W3 (.ref kk)))->Γ[4]?=some (some (Is ((many (gd l b) n.toNat:Nat):Int)))->Sk T0 (Wk T0 C CK kk b n.toNat S l) Γ q1.t (Is true):=λe0 e1 e3 e4=>Sk.ret Wk.wt (.to (.and (.op (zhw e3 g) (.var e0) Jg) λ_=>.op (zfb e3 (.cons (.var e1) .nil) h0 (by omega)) (.var e4) zgI) (by simp));refine Sk.sg (Sk.make (.cons (.to (.tup (.op (.var rfl) .int WX) (.comp1 (.list (.op (.var rfl) .int Qz)) (λy hy=>(.cb (.cons (.var rfl) .nil) zbO)) (by omega))) (by rw[dF])) (.cons (.var rfl) .nil)) g h0 λkk la=>?_);refine Sk.set (T:=Is ((many (gd l b) n.toNat:Nat):Int)) (.to (.cb (.cons (.comp (.rng1 (.var rfl) (n:=n.toNat) rfl (by omega)) (λy hy=>(.valB (.call (.cons (.var rfl) (.cons (.var rfl) .nil)) (JV gr (by have:=uC.mp hy;omega) (by have:=uC.mp hy;omega))))) (λy hy h=>(.var rfl)) (by rw[uQ];omega)) .nil) qt) (by rw[dF];exact congrArg Hx (Uk gr n.toNat))) ?_;refine Sk.set (.comp1 (.rng1 (.op .int (.op (.var rfl) .int (Vm (by decide))) Yc) (n:=m) hm.symm (by omega)) (λy hy=>(.op (.call (.cons (.var rfl) (.cons (.var rfl) .nil)) (zdt (uC.mp hy).1 (by have:=(uC.mp hy).2;omega))) (.op (.var rfl) .int WX) (Vm (by show (0:Int)<(b:Int);omega)))) (by rw[uQ];omega)) ?_;have gns:zay b ((rng 0 m).map λy=>mixed c y % (b:Int)):=⟨λz=>by have:=congrArg c7 z;rw[aa,uQ]at this;simp at this;omega,by rw[aa,uQ];exact m4,λx hx=>by
   obtain⟨y,_,rfl⟩:=bh.mp hx;exact⟨gD _ (by omega),fL _ (by omega)⟩⟩
  change Sk _ _ (HW _ 5 (some (Is ((rng 0 m).map λy=>mixed c y % (b:Int))))) _ _
  generalize (rng 0 m).map (λy=>mixed c y % (b:Int))=ns at gns ⊢;refine Sk.iff (.and (.val (.op (.var rfl) (.op (.var rfl) .int Qz) zbH)) λh=>(.val (.op (.cb (.cons (.op (.var rfl) .int Qz) .nil) qt) .int zcA))) (λhh=>?_) λ_=>fin rfl rfl rfl rfl;obtain⟨hn,hl3⟩:ns∉l/\l.length<4:=by
   rw[dJ]at hh;exact⟨by have:=hh.1;simpa using this,by have:=of_decide_eq_true hh.2;omega⟩
  have nd:(l++[ns]).Nodup:=fP.mpr ⟨LPw.nodup g.up,by simp,λx hx y hy e=>hn (by rw[cJ]at hy;rw[<-hy,<-e];exact hx)⟩;have hl5:(l++[ns]).length<=60:=by rw[aB,aU];omega
  have hu:∀l':ZA,l'.Perm (l++[ns])->l'.Pairwise (λx y=>HT.lexLt x y=true)->l'=uni (l++[ns]):=λl' pm pw=>ziD pw λx=>pm.mem_iff;have gu:GoodRule b (uni (l++[ns])):=⟨b2,g.b16,by
   rw[((nR (LPw.nodup zaE) nd).mpr λx=>YX).length_eq,aB,aU];omega,λx hx=>by
   rcases bf.mp (YX.mp hx) with h | h
   ·exact g.st x h
   ·rw[cJ.mp h];exact gns,zaE⟩
  have gr2:GR ((b:Int),uni (l++[ns])) b:=⟨rfl,gu⟩
  have hless:many (gd (uni (l++[ns])) b) n.toNat<=many (gd l b) n.toNat:=zdD (λx hx=>YX.mpr (bf.mpr (.inl hx))) b n.toNat;refine Sk.assoc (Sk.set (.tup (.op (.var rfl) .int WX) (.cb (.cons (.op (.op (.var rfl) .int Qz) (.lst [ns] (.cons (.var rfl) .nil)) (za4 (by show _+1<=100000;omega))) .nil) (zg2 nd hl5 hu))) (Sk.assoc (Sk.set (T:=Is ((many (gd (uni (l++[ns])) b) n.toNat:Nat):Int)) (.to (.cb (.cons (.comp (.rng1 (.var rfl) (n:=n.toNat) rfl (by omega)) (λy hy=>(.valB (.call (.cons (.var rfl) (.cons (.var rfl) .nil)) (JV gr2 (by have:=uC.mp hy;omega) (by have:=uC.mp hy;omega))))) (λy hy h=>(.var rfl)) (by rw[uQ];omega)) .nil) qt) (by rw[dF];exact congrArg Hx (Uk gr2 n.toNat))) (Sk.assoc (Sk.cutD (W':=λa=>Wk T0 C CK kk b n.toNat (a::[kk,la]) (uni (l++[ns]))) (.or1 (.to (.val (deed rfl (.cons (.cb (.cons (.var rfl) .nil) zbO) .nil) (λ_ _=>XQ _ _ _ _) (λl' pm pw=>hu l' pm pw) λtl la bl zs ws L st H Q E A e l0 hst kq=>⟨kk,tl,la,b,n.toNat,bl,zs,ws,L,st,ns,rfl,A,by omega,l0,hst,gns,by rw[e];exact hn,by have:=congrArg c7 e;rw[aa]at this;omega,by rw[e];exact kq⟩) (λa=>(.tup (.var rfl) (.var rfl))) (λa=>Xw)) (by simp)) λa=>.to (.val (.op (.var rfl) (.var rfl) zcA)) (by simp;omega)) λa1=>?_)))));refine Sk.assoc (Sk.cut (.to (.val (.op (zhw rfl gu) (.var rfl) Xw)) (by simp)) ?_);refine Sk.cutD (W':=λa=>Wk T0 C CK kk b n.toNat (a::a1::[kk,la]) l) (.or2 (.to (.val (.op (zfb rfl (.cons (.var rfl) .nil) h0 (by omega)) (.var rfl) UW)) (by simp)) (.to (.val (deed rfl (.cons (.cb (.cons (.var rfl) .nil) zbO) .nil) (λ_ _=>XQ _ _ _ _) (λl' e pw=>?_) λtl la bl zs ws L st H Q E A e l0 hst kq=>⟨kk,tl,la,b,n.toNat,bl,zs,ws,L,st,ns,rfl,A,by omega,l0,hst,by rw[e];exact YX.mpr (by simp),by rw[e];exact kq⟩) (λa=>(.tup (.var rfl) (.var rfl))) (λa=>Xw)) (by simp))) λa2=>fin rfl rfl rfl rfl;have e:l'=(uni (l++[ns])).filter λx=>decide (x≠ns):=e;refine JZ pw g.up λx=>?_;rw[e,bU,YX,bf,cJ];constructor
  ·rintro⟨h | h,q⟩
   ·exact h
   ·simp[h]at q
  ·intro h;exact⟨.inl h,by simp;rintro rfl;exact hn h⟩
end
section
variable {P:cg} {w:cT} {K:aN} {mg:cG->Option aG} {base:dR}
theorem ziR{b:Nat}{ns:List Int}(h:∀f∈ns,0<=f/\f<(b:Int)):(ns.all λi=>decide (0<=i/\i<(b:Int)))=true:=by
 rw[gf];intro x hx;exact decide_eq_true (h x hx)
theorem ziY(x:α)(xs:List α):atI (x::xs) 0=some x:=vo (xs:=x::xs) (j:=0) rfl
def VV:Sp:=λvs H Q _=>∃(b:Nat) (a:aq) (ns:List Int),vs=[.int b,.ref a]/\H a=some (.lst (ns.map V.int))/\zgQ b ns/\∀H',Same H H'->Q (.bl true) H'
theorem zaM:zG ["base","thing"] ["base","thing"] (zp qO):={}
theorem za1(D:Df K mg "writes_number" qO Ad f fd)(xU:Df K mg "are_figures" uv Ad f1 fd1)(wH:FnOk P w K mg base CX0 3 f1 fd1 Ad jl)(T:Blt mg):
  FnOk P w K mg base CX0 4 f fd Ad VV:=by
 refine D.fn.ok zaM (λvs H Q E h=>?_) (λcdv A outer s H vs Q E hr h=>?_)
 ·obtain⟨b,a,ns,rfl,_⟩:=h;rfl
 ·obtain⟨b,a,ns,rfl,ha,g,kk⟩:=h;refine xu ?_;intro XX;let q1:Sq XX ((zj qO).drop 1):=⟨_,zm (zE (zlS (ul Va (zX (wJ K) (pv 1) zu (λ_ _=>rfl)) zu (zT _)) (Xr (ul Qe (zH (xG K) (by rfl) T.n_len PySem.boot_len (zc (pv 1) zf)) zu (zT _)))))⟩
  refine⟨_,(zg (yx (PW.pt (Z6 (wB (yX (zK xU wH (hr.mono (by decide)) (zc (pv 0) (zc (pv 1) zf))))) (qw (zP Qe (zH (xG K) (by rfl) T.n_len PySem.boot_len (zc (pv 1) zf)) zu (zT _)))))
    (zm (zE vX))
    zQ) q1.p),?_⟩
  refine⟨_,rfl,_,rfl,b,a,ns,rfl,ha,ao g.len (by decide),λH1 s1=>?_⟩;rw[ziR g.fig];refine⟨_,rfl,wN ?_⟩;have ha1:=s1 _ _ ha;have hl:(ns.map V.int).length≠0:=by rw[aa];exact λz=>g.ne (fO z)
  refine⟨_,rfl,a,_,rfl,.inl (SqL.of ha1),rfl,_,rfl,?_⟩;rw[decide_eq_false (by intro z;injection z with z;omega)];refine wN ?_;obtain⟨f0,nr,rfl⟩:∃f0 nr,ns=f0::nr:=by
   cases ns with
   |nil=>exact absurd rfl g.ne
   |cons x y=>exact⟨x,y,rfl⟩
  refine⟨_,rfl,a,_,_,V.int f0,rfl,rfl,SqL.of ha1,ziY _ _,rfl,_,rfl,?_⟩;refine JC (λ_=>kk H1 s1) (λhz=>?_);refine⟨_,rfl,a,_,rfl,.inl (SqL.of ha1),rfl,?_⟩;have h1:nr=[]:=by
   have hz':f0=0:=by
    by_cases z:f0=0
    ·exact z
    ·exact absurd (by simp[z]) hz
   rcases g.first with q | q
   ·exact absurd (by rw[hz'];rfl) q
   ·exact fO (by simpa using q)
  subst h1;exact kk H1 s1
def Ue:Sp:=λvs H Q _=>∃(b:Nat) (a:aq) (ns:List Int),vs=[.int b,.ref a]/\2<=b/\b<=16/\H a=some (.lst (ns.map V.int))/\zgQ b ns/\∀H',Same H H'->Q (.int (zdu b ns)) H'
theorem X3:zG ["base","figures","n","figure"] ["base","figures"] (zp qm):={}
theorem zey(D:Df K mg "number_by" qm Bo f fd)(jr:Df K mg "check_base" Ye Aa f1 fd1)(ZC:FnOk P w K mg base CX0 3 f1 fd1 Aa Vr)(ZV:Df K mg "writes_number" qO Ad f2 fd2)(W2:FnOk P w K mg base CX0 4 f2 fd2 Ad VV)(T:Blt mg):FnOk P w K mg base CX0 5 f fd Bo Ue:=by
 refine D.fn.ok X3 (λvs H Q E h=>?_) (λcdv A outer s H vs Q E hr h=>?_)
 ·obtain⟨b,a,ns,rfl,_⟩:=h;rfl
 ·obtain⟨b,a,ns,rfl,h2,h16,ha,g,kk⟩:=h;refine xu ?_;intro XX;let q1:Sq XX ((zj qm).drop 4):=⟨_,zm (zE (pv 2))⟩
  let q2:Sq XX ((zj qm).drop 3):=⟨_,zg (wR bj rfl (jh K (pv 1)) (yV (i:=3) X3.nd rfl (aW rfl))
    (zm (zU (i:=2) X3.nd rfl (aW rfl) (zV xO (zV Zj (pv 2) (pv 0)) (pv 3))))) q1.p⟩
  let q3:Sq XX ((zj qm).drop 2):=⟨_,zg (zU (i:=2) X3.nd rfl (aW rfl) zu) q2.p⟩
  let q4:Sq XX ((zj qm).drop 1):=⟨_,zg (yx (wB (yX (zK ZV W2 (hr.mono (by decide)) (zc (pv 0) (zc (pv 1) zf)))))
    (zm uf)
    zQ) q3.p⟩
  refine⟨_,(zg (yw (zK jr ZC (hr.mono (by decide)) (zc (pv 0) zf))) q4.p),?_⟩;refine⟨_,rfl,(b:Int),rfl,by omega,by omega,?_⟩;refine⟨_,rfl,_,rfl,b,a,ns,rfl,ha,g,λH1 s1=>⟨_,rfl,wN ?_⟩⟩;have ha1:=s1 _ _ ha;refine⟨_,rfl,a,rfl,⟨_,SqL.of ha1⟩,J8 (K:=K) (a:=a) (xs:=ns.map V.int) (λi Z H2=>H2=H1/\∃v:Option V,Z=[some (.int b),some (.ref a),some (.int (zdu b (ns.take i))),v]) ⟨rfl,none,rfl⟩ (λi Z H2 _ ⟨e,_⟩=>by rw[e];exact SqL.of ha1) ?_ ?_⟩
  ·rintro i x Z H2 hx ⟨rfl,v,rfl⟩;obtain⟨z,hz,rfl⟩:∃z,ns[i]?=some z/\x=V.int z:=by
    rw[ak]at hx;obtain⟨z,h,e⟩:=aM.mp hx;exact⟨z,h,e.symm⟩
   refine⟨_,rfl,_,rfl,_,_,rfl,rfl,.inr ⟨by omega,by omega⟩,_,rfl,_,_,rfl,rfl,rfl,some (.int z),?_⟩;rw[cO,hz];show _=[some (V.int b),some (V.ref a),some (V.int (zdu b (ns.take i++[z]))),_]
   rw[zaH];rfl
  ·rintro Z H2 ⟨rfl,v,rfl⟩;refine⟨_,rfl,?_⟩;rw[aa,cj];exact kk _ s1
end
end Lw
namespace L2
open PySem PySem.Spec PyProof.Rows PySem.SeqAt
section
variable {X:Cx}
def zit(K:aN):List V->Hp->VK->Prop:=λxs H Q=>∃a ns,xs=[.ref a]/\SqL K H a (ns.map V.int)/\ns≠[]/\∀m,m∈ns->(∀x∈ns,x<=m)->Q (.int m) H
theorem zh2(hc:X.calm=true):Zu X (.builtin "max") (zit X.K):=by
 intro pins s Z H xs us Q I r h;obtain⟨a,ns,rfl,hq,hne,q⟩:=h;obtain⟨u,rfl,rx⟩:=vals1 r;cases rx
 obtain⟨its,rv,pl,hz⟩:=I.list hq;have hi:=intsAre_of rv;obtain⟨ys,hy⟩:=hi.allInts.items;have hn:ys.toList.map (·.1)=ns:=by
  have e:=hi.numsOf;have e2:=Es ys;rw[<-hy]at e2;rw[<-e,<-e2]
 have hsz:0<ys.size:=by
  have:=cF.mpr hne;rw[<-hn,aa,fU]at this;exact this
 refine max_intList (xs:=ys) (I.ok.hd hc) (by rw[<-hy];exact pl.isList) hsz λv h' tk hv hk=>?_;obtain⟨t,rfl⟩:=intItems_at hv;obtain⟨h1,h2⟩:=argBest_gt (numAt ys) (ys.size-1);refine⟨.int _,H,I.kept λb o e=>hk b o e,⟨t,rfl⟩,q _ ?_ λx hx=>?_⟩
 ·rw[numAt_eq,hn];exact getD_mem (by rw[<-hn,aa,fU];omega)
 ·rw[<-hn]at hx;obtain⟨j,hj,rfl⟩:=mem_getD hx;rw[aa,fU]at hj;rw[<-numAt_eq];exact h2 j (by omega)
theorem zkQ(K:aN)(hc:X.calm=true)(e:X.K=K:=by rfl):Zu X (.builtin "max") (zit K):=by subst e;exact zh2 hc
end
end L2
namespace Lw
open PySem L2 PyProof.Rows
section
variable {P:cg} {w:cT} {K:aN} {mg:cG->Option aG} {base:dR} {T0 C CK a:aq} {xs:List V}
open Enc
theorem LT.sq(h:LT T H)(m:SameL T H H')(q:SqL K H a xs):SqL K H' a xs:=by
 rcases q with (q | ⟨o,q⟩) | q
 ·exact .inl (.inl (m _ _ (h.lst q) q))
 ·refine .inl (.inr ⟨o,m _ _ (λz=>?_) q⟩);rw[z]at q;rcases h with h | ⟨c,h,_⟩
  ·rw[h]at q;cases q
  ·rw[h]at q;cases q
 ·exact .inr q
def W1(K:aN)(T0 a:aq)(xs:List V):Wd where
 ok H:=LT T0 H/\SqL K H a xs
 may:=(·=T0)
 mo:=λh s=>⟨h.1.same s,h.1.sq (SameL.of s) h.2⟩
 nm:=λh e=>(W0 T0).nm h.1 e
theorem Spg.w1(h:Spg (W0 T0) sp Ts T):Spg (W1 K T0 a xs) sp Ts T:=λvs G H Q E s z q=>h vs G H Q E ⟨s.sub,s.ok.1,s.no⟩ z λv G' H' g t=>q v G' H' ⟨⟨g.v.sub,⟨g.v.ok,s.ok.1.sq (λc o hc h=>g.big s.sub hc h) s.ok.2⟩,g.v.no⟩,g.sm,g.hid⟩ t
theorem zfC{ns:List Int}{k:Int}(hl:ns.length<=63)(h0:0<=k)(h1:k<=1000):Spg (W1 K T0 a (ns.map V.int)) (Uv K) [W3 (.ref a),Is k] (tyE (λ_:Int=>True) Is):=λvs G H Q E s z q=>by
 obtain⟨x,y,rfl,h2,h3⟩:=zcL z;have h2:x=.ref a:=h2;rw[h2,zW.mp h3,<-cD h0];exact⟨a,ns,k.toNat,rfl,s.ok.2,hl,by omega,λc=>q _ G H (.refl s) ⟨c,trivial,zW.mpr rfl⟩⟩
theorem zjW{ns:List Int}:Cb (W1 K T0 a (ns.map V.int)) (λxs H Q=>∃p ys,xs=[.ref p]/\(SqL K H p ys\/SqT K H p ys)/\Q (.int ys.length) H) [W3 (.ref a)] (Is (ns.length:Int)):=.one λx G H Q s z q=>by
 have z:x=.ref a:=z;exact⟨a,_,by rw[z],.inl s.ok.2,q _ G H (.refl s) (zW.mpr (by rw[aa]))⟩
section
variable {Vb:Wd}
theorem zjU:Cb Vb (λxs H Q=>∃i,xs=[.int i]/\Q (.int (if i<0 then -i else i)) H) [tyE (λ_:Int=>True) Is] (tyE (λ_:Nat=>True) λc=>Is (c:Int)):=.one λx G H Q s ⟨i,_,z⟩ q=>⟨i,by rw[zW.mp z],q _ G H (.refl s) ⟨i.natAbs,trivial,zW.mpr (by congr 1;omega)⟩⟩
def mxI(l:List Int):Int:=l.foldl max (l.headD 0)
theorem zk9(hm:m∈l)(h:∀x∈l,x<=m):mxI l=m:=by
 have f1:∀(r:List Int) (z:Int),z<=r.foldl max z/\∀x∈r,x<=r.foldl max z:=λr=>by
  induction r with
  |nil=>intro z;simp
  |cons x r ih=>
   intro z;obtain⟨h1,h2⟩:=ih (max z x);rw[pI];exact⟨by omega,λy hy=>by
    rcases aP.mp hy with rfl | hy
    ·omega
    ·exact h2 y hy⟩
 have f2:∀(r:List Int) (z:Int),z<=m->(∀x∈r,x<=m)->r.foldl max z<=m:=λr=>by
  induction r with
  |nil=>intro z hz _;exact hz
  |cons x r ih=>
   intro z hz hr;have:=hr x (by simp);exact ih _ (by omega) λy hy=>hr y (by simp[hy])
 have h1:=(f1 l (l.headD 0)).2 m hm;have h2:=f2 l (l.headD 0) (by cases l with | nil=>cases hm | cons x r=>exact h x (by simp)) h;unfold mxI;omega
theorem zkX(hx:x∈l):x<=mxI l:=by
 have f1:∀(r:List Int) (z:Int),z<=r.foldl max z/\∀x∈r,x<=r.foldl max z:=λr=>by
  induction r with
  |nil=>intro z;simp
  |cons x r ih=>
   intro z;obtain⟨h1,h2⟩:=ih (max z x);rw[pI];exact⟨by omega,λy hy=>by
    rcases aP.mp hy with rfl | hy
    ·omega
    ·exact h2 y hy⟩
 exact (f1 l (l.headD 0)).2 x hx
theorem zj2(ne:l≠[]):Cb Vb (zit K) [Is l] (Is (mxI l)):=.one λx G H Q s z q=>by
 obtain⟨p,rfl,e⟩:=Ze.mp z;exact⟨p,l,rfl,SqL.of (s.sub _ _ e),ne,λm hm h=>q _ G H (.refl s) (zW.mpr (by rw[zk9 hm h]))⟩
theorem za7{c:Int}(h:0<=c):Spg Vb UT [Is c] (tyE (λr:CN=>GoodRule r.1 r.2) λr=>Is ((r.1:Int),r.2)):=λvs G H Q E s z q=>by
 obtain⟨x,rfl,z1⟩:=zhN z;rw[zW.mp z1,<-cD h];refine⟨c.toNat,rfl,λr b bl zs H' sm RA n1 n2 n3 g=>?_⟩;obtain⟨G',gr,sg,hq⟩:=Gr.freshS (λa=>a=r\/a=bl\/∃z∈zs,z.1=a) s (λc h=>by rcases h with rfl | rfl | ⟨z,hz,rfl⟩<;>first | assumption | exact n3 z hz) (λc o _ h=>sm _ _ h) (Vb.mo s.ok sm);exact q _ G' H' gr ⟨(b,zs.map (·.2)),g,(jd (r:=((b:Int),zs.map (·.2))) (b:=b) ⟨rfl,g⟩).mpr ⟨r,bl,zs,rfl,⟨(hq r (.inl rfl)).trans RA.tu,(hq bl (.inr (.inl rfl))).trans RA.li,λz hz=>(hq _ (.inr (.inr ⟨z,hz,rfl⟩))).trans (RA.st z hz)⟩,rfl⟩⟩
theorem zd6(h2:2<=b)(h16:b<=16)(h0:0<=n)(hn:n<2^100):Spg Vb wD [Is b,Is n] (Is (fi b n)):=λvs G H Q E s z q=>by
 obtain⟨x,y,rfl,h1,h3⟩:=zcL z;rw[zW.mp h1,zW.mp h3,<-cD h0,<-cD (show 0<=b by omega)];refine⟨_,_,rfl,by omega,by omega,by omega,λl H' hl e m=>?_⟩;obtain⟨g,m2⟩:=Gr.fresh s hl e m;exact q _ _ H' g (Ze.mpr ⟨l,rfl,zq⟩)
theorem zeW(h2:2<=b)(h16:b<=16)(h0:0<=n)(hn:n<2^100):Spg Vb Ue [Is b,Is (fi b n)] (Is n):=λvs G H Q E s z q=>by
 obtain⟨x,y,rfl,h1,h3⟩:=zcL z;obtain⟨p,rfl,e⟩:=Ze.mp h3;rw[zW.mp h1,<-cD (show 0<=b by omega)];refine⟨_,p,_,rfl,by omega,by omega,s.sub _ _ e,zio (by omega) (by omega),λH' m=>?_⟩;exact q _ G H' (Gr.of s m) (zW.mpr (by rw[fi,zif (by omega)];congr 1;omega))
theorem zhI(g:GR r b)(h0:0<=n)(h1:n<2^100):Spg Vb WQ [Is r,Is n] (Is (gi r n)):=λvs G H Q E s z q=>by
 obtain⟨x,y,rfl,h2,h3⟩:=zcL z;obtain⟨p,bl,zs,rfl,RA,e⟩:=(jd g).mp h2;rw[zW.mp h3,<-cD h0];refine⟨p,b,bl,zs,n.toNat,rfl,RA.same s.sub,by rw[e];exact g.g,by omega,λH' m=>?_⟩;exact q _ G H' (Gr.of s m) (jB.mpr (by rw[e,zdF g];rfl))
end
def zcq(K:aN)(T:aq):Sp:=λvs H Q _=>∃(a:aq) (ns:List Int),vs=[.ref a]/\SqL K H a (ns.map V.int)/\ns.length<=63/\LT T H/\∀H',Q (.bl true) H'
theorem zeZ(h:zcq K T0 vs H Q E):∃(a:aq) (ns:List Int),ns.length<=63/\spg (W1 K T0 a (ns.map V.int)) (λTs T=>Ts=[W3 (.ref a)]/\T=Is true) vs H Q E:=by
 obtain⟨a,ns,rfl,hS,hlen,hT,kk⟩:=h;exact⟨a,ns,hlen,_,_,λ_=>none,⟨rfl,rfl⟩,⟨λ_ _ h=>(nomatch h),⟨hT,hS⟩,λ_ _=>rfl⟩,.cons rfl .nil,λv G' H' g z=>by rw[jB.mp z];exact kk H'⟩
theorem Vn:zG ["script","k","cell","rule","n","good","one","figures","other","same"] ["script"] (zp Zv):={}
set_option maxHeartbeats 0 in
theorem zlw(D:Df K mg "law" Zv Bc f fd)(Uz:Df K mg "_law_cell" Xc Bb f1 fd1)(T:Blt mg)(yz:Df K mg "_law_mixed" uO Aq f2 fd2)(Ws:Df K mg "_law_rule" vO ["cell"] f3 fd3)(yf:Df K mg "_law_figures" xg Ae f4 fd4)(vz:Df K mg "_law_good" ql Ab f5 fd5)(jO:Df K mg "_law_which_good" yQ Bi f6 fd6)(uh:Df K mg "count_below" uZ Ab f7 fd7)(uI:FnOk P w K mg base CX0 9 f7 fd7 Ab (ju T0))(VR:Df K mg "good_by" Wj A0 f8 fd8)(QJ:FnOk P w K mg base CX0 9 f8 fd8 A0 (Ul T0))(Wh:Df K mg "place_of" Zm Ab f9 fd9)(VN:FnOk P w K mg base CX0 10 f9 fd9 Ab (W4 T0))(Yp:Df K mg "next_good" vN Ab f10 fd10)(Wm:FnOk P w K mg base CX0 9 f10 fd10 Ab (Wa T0))(YD:Df K mg "last_good" ut Ab f11 fd11)(Wo:FnOk P w K mg base CX0 9 f11 fd11 Ab (XM T0))(Zg:Df K mg "_law_sums_good" xX Bj f12 fd12)(Yq:Df K mg "sum_below" jy Ab f13 fd13)(WF:FnOk P w K mg base CX0 12 f13 fd13 Ab (X5 T0))(tO:Df K mg "figures_below" v7 Ab f14 fd14)(jn:FnOk P w K mg base CX0 12 f14 fd14 Ab (jK T0))(jR:Df K mg "often_below" wV A5 f15 fd15)(Z2:FnOk P w K mg base CX0 12 f15 fd15 A5 (ZS T0))(U:zfm mg)(qG:Df K mg "_law_lengths_good" yN Bk f16 fd16)(Zy:Df K mg "count_long" uV Af f17 fd17)(Xi:FnOk P w K mg base CX0 9 f17 fd17 Af (YQ T0))(Wg:Df K mg "sum_long" jt Af f18 fd18)(VM:FnOk P w K mg base CX0 12 f18 fd18 Af (Vh T0))(ZD:Df K mg "least_long" vK Af f19 fd19)(Xg:FnOk P w K mg base CX0 9 f19 fd19 Af (jz T0 WK zaP))(tU:Df K mg "greatest_long" xP Af f20 fd20)(ji:FnOk P w K mg base CX0 9 f20 fd20 Af (jz T0 WK Wf))(vh:Df K mg "_law_stand" vL Ak f21 fd21)(YH:Df K mg "_law_long" Xa ["row"] f22 fd22)(qZ:Df K mg "_law_stands_good" ym Bl f23 fd23)(Zw:Df K mg "all_stands" jU Al f24 fd24)(Xd:FnOk P w K mg base CX0 8 f24 fd24 Al (Y0 T0))(qT:Df K mg "stand_behind" uB Ak f25 fd25)(jY:FnOk P w K mg base CX0 8 f25 fd25 Ak Zd)(YG:Df K mg "step_from" qi Az f26 fd26)(WR:FnOk P w K mg base CX0 8 f26 fd26 Az (XF T0))(ug:Df K mg "_law_together_good" yg Ac f27 fd27)(tW:Df K mg "count_keeping" qR Ac f28 fd28)(jq:FnOk P w K mg base CX0 11 f28 fd28 Ac jW)(uo:Df K mg "all_keeping" vM Ac f29 fd29)(uT:FnOk P w K mg base CX0 10 f29 fd29 Ac jk)(Yu:Df K mg "keeps_all" ZL Ac f30 fd30)(Wq:FnOk P w K mg base CX0 10 f30 fd30 Ac XS)(qW:Df K mg "next_keeping" vQ Ac f31 fd31)(j8:FnOk P w K mg base CX0 10 f31 fd31 Ac Zc)(ZP:Df K mg "_law_one_good" yu Bm f32 fd32)(Wc:Df K mg "one_rule" vG Ar f33 fd33)(V6:FnOk P w K mg base (CX1 P w) 9 f33 fd33 Ar (W7 qA qB))(qAa:zd4 K mg "TooMany" qB)(qAb:rC K (.ref qB) (.ref qB)=some true)(jb:Df K mg "_law_keeper_good" yc Bn f34 fd34)(KKeeper:Mk K CK f35)(BKeeper:Binds K fd35 ["self","rule","b"] [])(GKeeper_init:FnOk P w K mg base CX0 9 f35 fd35 A3 (QQ T0 C CK))(MKeeper_come:Mt K CK "Keeper.come" "come" uX Am f36 fd36)(GKeeper_come:FnOk P w K mg base CX0 10 f36 fd36 Am (zeb T0 C CK))(MKeeper_go:Mt K CK "Keeper.go" "go" jE Am f37 fd37)(GKeeper_go:FnOk P w K mg base CX0 10 f37 fd37 Am (ziT T0 C CK))(MKeeper_rule:Mt K CK "Keeper.rule" "rule" j7 Ao f38 fd38)(GKeeper_rule:FnOk P w K mg base CX0 2 f38 fd38 Ao (zbI C CK))(MKeeper_below:Mt K CK "Keeper.below" "below" tZ Av f39 fd39)(GKeeper_below:FnOk P w K mg base CX0 5 f39 fd39 Av (Qn T0 C CK))(cKeeper:ClK K mg CK)(ye:Df K mg "figures_of" wG Ae f40 fd40)(yh:FnOk P w K mg base CX0 4 f40 fd40 Ae wD)(Za:Df K mg "is_good" Yo Ab f41 fd41)(Yd:FnOk P w K mg base CX0 8 f41 fd41 Ab WQ)(Uq:Df K mg "number_by" qm Bo f42 fd42)(JH:FnOk P w K mg base CX0 5 f42 fd42 Bo Ue):FnOk P w K mg base CX0 14 f fd Bc (zcq K T0):=by
  have zgk:FnOk P w K mg base CX0 1 f1 fd1 Bb (Uv K):=zd2 Uz T;have wk:FnOk P w K mg base CX0 1 f2 fd2 Aq (spg (W0 T0) zdH):=YK (Vb:=W0 T0) yz;have zb4:FnOk P w K mg base CX0 2 f3 fd3 ["cell"] UT:=zem Ws yz T;have tG:FnOk P w K mg base CX0 1 f4 fd4 Ae uG:=Zb yf;have YF:FnOk P w K mg base CX0 2 f5 fd5 Ab (spg (W0 T0) zaU):=Ur vz yf T;have zaG:FnOk P w K mg base CX0 11 f6 fd6 Bi (spg (W0 T0) zk2):=JQ jO uh uI VR QJ Wh VN Yp Wm YD Wo T W0.wt;have zbt:FnOk P w K mg base CX0 13 f12 fd12 Bj (spg (W0 T0) zlq):=zat Zg yf Yq WF tO jn jR Z2 T U W0.wt W0.wr;have Js:FnOk P w K mg base CX0 13 f16 fd16 Bk (spg (W0 T0) zlk):=Qu qG yf Zy Xi Wg VM ZD Xg tU ji T U W0.wt;have zab:FnOk P w K mg base CX0 10 f23 fd23 Bl (spg (W0 T0) zkW):=Q5 qZ yz vh YH Zw Xd qT jY YG WR T W0.wt W0.wr;have Xx:FnOk P w K mg base CX0 12 f27 fd27 Ac (spg (W0 T0) zln):=Qg ug vz yf tW jq uo uT Yu Wq qW j8 T W0.wr;have zc2:FnOk P w K mg base CX0 10 f32 fd32 Bm (spg (W0 T0) zjx):=zaD ZP vh Wc V6 qAa qAb T W0.wr;have zae:FnOk P w K mg base CX0 12 f34 fd34 Bn (spg (W0 T0) zlA):=Q6 jb yz vz yf KKeeper BKeeper GKeeper_init MKeeper_come GKeeper_come MKeeper_go GKeeper_go MKeeper_rule GKeeper_rule MKeeper_below GKeeper_below cKeeper T;have F:∀(a:aq) (ns:List Int),ns.length<=63->FnOk P w K mg base CX0 14 f fd Bc (spg (W1 K T0 a (ns.map V.int)) λTs T=>Ts=[W3 (.ref a)]/\T=Is true):=λa ns hlen=>by
    refine D.pj Vn (by rintro _ _ ⟨rfl,_⟩;rfl) λcdv A outer s H E hr Ts TT h=>?_;obtain⟨rfl,rfl⟩:=h;have HU:=Vv hr;refine Je ?_;intro XX;let q1:Sq XX ((zj Zv).drop 1):=⟨_,zm (zE vX)⟩
    let q2:Sq XX ((sb (zj Zv) 0 true).drop 12):=⟨_,zm (yx (wB (yX (zK jb zae (hr.mono (by decide)) (zc (pv 3) (zc (pv 4) (zc (zK yz wk (hr.mono (by decide)) (zc (pv 2) (zc zu zf))) zf))))))
          (zm (zE vX))
          zQ)⟩
    let q3:Sq XX ((sb (zj Zv) 0 true).drop 11):=⟨_,zg (yx (PW.pt (Z6 (wB (yX (zK ug Xx (hr.mono (by decide)) (zc (yR (zc (pv 9) (zc (pv 3) zf))) (zc (pv 4) zf))))) (qw (wB (yX (zK ZP zc2 (hr.mono (by decide)) (zc (pv 3) (zc (pv 9) zf))))))))
          (zm (zE vX))
          zQ) q2.p⟩
    let q4:Sq XX ((sb (zj Zv) 0 true).drop 10):=⟨_,zg (yx (wB (yX (zK ug Xx (hr.mono (by decide)) (zc (yR (zc (pv 3) (zc (pv 8) zf))) (zc (pv 4) zf)))))
          (zm (zE vX))
          zQ) q3.p⟩
    let q5:Sq XX ((sb (zj Zv) 0 true).drop 9):=⟨_,zg (zU (i:=9) Vn.nd rfl (aW rfl) (Zi (zc (zX (yP K) (pv 3) zu (λ_ _=>rfl)) (zc (wO (show CScope (zp Zv) _ "one" ["script","k","cell","rule","n","good","one","figures","other","same"] ["rule"] [3] from {}) rfl (jh K (zX (yP K) (pv 8) zu (λ_ _=>rfl))) (λ_ _ _ _=>(uq (zP zbg (zH (zkQ K rfl) (by rfl) T.n_max boot_max (zc (pv 0) zf)) (zX (yP K) (pv 1) zu (λ_ _=>rfl)) (zT _)))) (λ_ _ _ _=>(pv 0))) zf)))) q4.p⟩
    let q6:Sq XX ((sb (zj Zv) 0 true).drop 8):=⟨_,zg (zU (i:=8) Vn.nd rfl (aW rfl) (zK Ws zb4 (hr.mono (by decide)) (zc (zK yz wk (hr.mono (by decide)) (zc (pv 2) (zc zu zf))) zf))) q5.p⟩
    let q7:Sq XX ((sb (zj Zv) 0 true).drop 7):=⟨_,zg (yx (PW.pt (Z6 (wB (yX (zK qG Js (hr.mono (by decide)) (zc (pv 3) (zc (pv 5) zf))))) (qw (wB (yX (zK qZ zab (hr.mono (by decide)) (zc (pv 3) (zc (zK yz wk (hr.mono (by decide)) (zc (pv 2) (zc zu zf))) zf))))))))
          (zm (zE vX))
          zQ) q6.p⟩
    let q8:Sq XX ((sb (zj Zv) 0 true).drop 6):=⟨_,zg (yx (wB (yX (zK Zg zbt (hr.mono (by decide)) (zc (pv 3) (zc (pv 4) (zc (pv 5) (zc (zV qy (zK yz wk (hr.mono (by decide)) (zc (pv 2) (zc zu zf))) (zX (yP K) (pv 3) zu (λ_ _=>rfl))) zf)))))))
          (zm (zE vX))
          zQ) q7.p⟩
    let q9:Sq XX ((sb (zj Zv) 0 true).drop 5):=⟨_,zg (yx (wB (yX (zK jO zaG (hr.mono (by decide)) (zc (pv 3) (zc (pv 4) (zc (pv 5) zf))))))
          (zm (zE vX))
          zQ) q8.p⟩
    let q10:Sq XX ((sb (sb (zj Zv) 0 true) 4 true).drop 2):=⟨_,zm (yx (zP Va (zK Za Yd (hr.mono (by decide)) (zc (pv 3) (zc (pv 6) zf))) (ul (zhb K HU) (pv 6) (pv 5) (by with_unfolding_all rfl)) (zT _))
            (zm (zE vX))
            zQ)⟩
    let q11:Sq XX ((sb (sb (zj Zv) 0 true) 4 true).drop 1):=⟨_,zg (yx (PW.pt (Z6 (zP (Yk K HU) (zK ye yh (hr.mono (by decide)) (zc (zX (yP K) (pv 3) zu (λ_ _=>rfl)) (zc (pv 6) zf))) (pv 7) (zT _)) (qw (zP Va (zK Uq JH (hr.mono (by decide)) (zc (zX (yP K) (pv 3) zu (λ_ _=>rfl)) (zc (pv 7) zf))) (pv 6) (zT _)))))
            (zm (zE vX))
            zQ) q10.p⟩
    let q12:Sq XX ((sb (zj Zv) 0 true).drop 4):=⟨_,zg (wR bj rfl (zaV rfl T.n_range (zc (pv 4) (zc (zV xO (pv 4) zu) zf))) (yV (i:=6) Vn.nd rfl (aW rfl))
          (zg (zU (i:=7) Vn.nd rfl (aW rfl) (zK yf tG (hr.mono (by decide)) (zc (zX (yP K) (pv 3) zu (λ_ _=>rfl)) (zc (pv 6) zf)))) q11.p)) q9.p⟩
    let q13:Sq XX ((sb (zj Zv) 0 true).drop 3):=⟨_,zg (wL (i:=5) (show CScope (zp Zv) _ "one" ["script","k","cell","rule","n","good","one","figures","other","same"] ["rule"] [3] from {}) rfl Vn.nd rfl (aW rfl) (yM rfl T.n_range (zc zu zf)) (λ_ _ _ _=>(uq (yX (zK vz YF (hr.mono (by decide)) (zc (pv 1) (zc (pv 0) zf)))))) (λ_ _ _ _=>(pv 0))) q12.p⟩
    let q14:Sq XX ((sb (zj Zv) 0 true).drop 2):=⟨_,zg (zU (i:=4) Vn.nd rfl (aW rfl) (zV qy (zK yz wk (hr.mono (by decide)) (zc (pv 2) (zc zu zf))) zu)) q13.p⟩
    let q15:Sq XX ((sb (zj Zv) 0 true).drop 1):=⟨_,zg (zU (i:=3) Vn.nd rfl (lE rfl) (zK Ws zb4 (hr.mono (by decide)) (zc (zK yz wk (hr.mono (by decide)) (zc (pv 2) (zc (pv 1) zf))) zf))) q14.p⟩
    refine⟨_,(zg (wR bj rfl (yM rfl T.n_range (zc (zH (zhK rfl) (by rfl) T.n_max boot_max (zc zu (zc (zH (zdR rfl) (by rfl) T.n_min boot_min (zc (zH (xG K) (by rfl) T.n_len PySem.boot_len (zc (pv 0) zf)) (zc zu zf))) zf))) zf)) (yV (i:=1) Vn.nd rfl (aW rfl))
        (zg (zU (i:=2) Vn.nd rfl (aW rfl) (zH zjA (by rfl) U.n_abs boot_abs (zc (zK Uz zgk (hr.mono (by decide)) (zc (pv 0) (zc (pv 1) zf))) zf))) q15.p)) q1.p),?_⟩
    refine Sg.fors (λi Γ=>∃T1 T2 T3 T4 T5 T6 T7 T8 T9,Γ=[some (W3 (.ref a)),T1,T2,T3,T4,T5,T6,T7,T8,T9]) (.rng1 (.cb (.cons .int (.cons (.cb (.cons (.cb (.cons (.var rfl) .nil) zjW) (.cons .int .nil)) zkP) .nil)) zlp) rfl (by omega)) ⟨_,_,_,_,_,_,_,_,_,rfl⟩ ?_ fun Γ ⟨_,_,_,_,_,_,_,_,_,e⟩=>Sg.ret .bl
    rintro i k hk Γ ⟨T1,T2,T3,T4,T5,T6,T7,T8,T9,rfl⟩;obtain⟨hk,rfl⟩:=Qy hk;refine Sg.setE (.cb (.cons (.call (.cons (.var rfl) (.cons (.var rfl) .nil)) (zfC hlen (by omega) (by omega))) .nil) zjU) λc _=>Sg.setE (.call (.cons (.call (.cons (.var rfl) (.cons (.var rfl) .nil)) (Spg.w1 (uL (by omega) (by omega)))) .nil) (za7 (zak _ _).1)) ?_;rintro⟨b,l⟩ g;have g:GoodRule b l:=g;have gr:GR ((b:Int),l) b:=⟨rfl,g⟩
    obtain⟨c2,c16⟩:=gr.lo;have c2:(2:Int)<=(b:Int):=c2;refine Sg.set (.op (.call (.cons (.var rfl) (.cons .int .nil)) (Spg.w1 (uL (by decide) (by decide)))) .int (Vm (by decide))) ?_;obtain⟨n,en,n0,n1⟩:∃n:Int,n=mixed c 61 % 301/\0<=n/\n<=300:=⟨_,rfl,by omega,by omega⟩
    rw[<-en];refine Sg.set (T:=Is (gl ((b:Int),l) 700)) (.to (.comp (.rng1 .int (n:=700) rfl (by decide)) (λy hy=>(.valB (.call (.cons (.var rfl) (.cons (.var rfl) .nil)) (Spg.w1 (QH gr (uC.mp hy).1 (by have:=(uC.mp hy).2;omega)))))) (λy hy h=>(.var rfl)) (by rw[uQ];decide)) (by rw[dF];rfl)) ?_;refine Sg.fors (λj Γ=>∃T6 T7 T8 T9,Γ=[some (W3 (.ref a)),some (Is ((0:Int)+(i:Int))),some (Is (c:Int)),some (Is ((b:Int),l)),some (Is n),some (Is (gl ((b:Int),l) 700)),T6,T7,T8,T9]) (.rng2 (.var rfl) (.op (.var rfl) .int Yc) (n:=9) (by omega) (by omega)) ⟨_,_,_,_,rfl⟩ ?_ ?_
    · rintro j x hx Γ ⟨T6,T7,T8,T9,rfl⟩
      obtain⟨x0,x9⟩:0<=x/\x<=309:=by have:=uC.mp (aJ hx);omega
      refine Sg.set (.call (.cons (.op (.var rfl) .int WX) (.cons (.var rfl) .nil)) (Z9 c2 c16 x0 (by omega))) (Sg.cut (.to (b:=false) (.or (.val (.op (.call (.cons (.op (.var rfl) .int WX) (.cons (.var rfl) .nil)) (zd6 c2 c16 x0 (by omega))) (.var rfl) Xw)) λh=>(.val (.op (.call (.cons (.op (.var rfl) .int WX) (.cons (.var rfl) .nil)) (zeW c2 c16 x0 (by omega))) (.var rfl) UW))) (by simp)) (λe=>nomatch e) λ_=>?_);refine Sg.cut1 (.to (b:=false) (.val (.op (.call (.cons (.var rfl) (.cons (.var rfl) .nil)) (zhI gr x0 (by omega))) (.op (.var rfl) (.var rfl) ziB) zjg)) ?_) (λe=>nomatch e) λ_=>⟨_,_,_,_,rfl⟩
      have e:decide (x∈gl ((b:Int),l) 700)=gi ((b:Int),l) x:=by
        unfold gl;rw[bD,decide_eq_true_iff,bU,uC];exact⟨λh=>h.2,λh=>⟨by omega,h⟩⟩
      rw[e];simp
    · rintro Γ ⟨T6,T7,T8,T9,rfl⟩
      refine Sg.cut (.to (b:=false) (.not (.valB (.call (.cons (.var rfl) (.cons (.var rfl) (.cons (.var rfl) .nil))) (Spg.w1 (zah gr n0 n1))))) rfl) (λe=>nomatch e) λ_=>?_;refine Sg.cut (.to (b:=false) (.not (.valB (.call (.cons (.var rfl) (.cons (.var rfl) (.cons (.var rfl) (.cons (.op (.call (.cons (.var rfl) (.cons .int .nil)) (Spg.w1 (uL (by decide) (by decide)))) (.op (.var rfl) .int WX) (Vm (by show (0:Int)<(b:Int);omega))) .nil)))) (Spg.w1 (zaN gr n0 n1 (gD _ (by omega)) (fL _ (by omega))))))) rfl) (λe=>nomatch e) λ_=>?_;refine Sg.cut (.to (b:=false) (.or (.not (.valB (.call (.cons (.var rfl) (.cons (.var rfl) .nil)) (Spg.w1 (Q0 gr))))) λh=>(.not (.valB (.call (.cons (.var rfl) (.cons (.call (.cons (.var rfl) (.cons .int .nil)) (Spg.w1 (uL (by decide) (by decide)))) .nil)) (Spg.w1 (JS gr)))))) rfl) (λe=>nomatch e) λ_=>?_;refine Sg.setE (.call (.cons (.call (.cons (.var rfl) (.cons .int .nil)) (Spg.w1 (uL (by decide) (by decide)))) .nil) (za7 (zak _ _).1)) ?_;rintro⟨b2,l2⟩ g2;have g2:GoodRule b2 l2:=g2;have ne2:∀y∈l2,y≠[]:=λy hy=>(g2.st y hy).ne;obtain⟨ls,els⟩:∃ls,ls=l2.filter λy=>decide (mxI y<(b:Int)):=⟨_,rfl⟩
      have gs:GoodRule b ls:=⟨g.b2,g.b16,by rw[els];exact ao (bV _ _) g2.len,λy hy=>by
        rw[els]at hy;obtain⟨h1,h2⟩:=bU.mp hy;have h2:=of_decide_eq_true h2;have st:=g2.st y h1;exact⟨st.ne,st.len,λf hf=>⟨(st.fig f hf).1,Int.lt_of_le_of_lt (zkX hf) h2⟩⟩,by rw[els];exact g2.up.filter _⟩
      refine Sg.set (T:=Is ((b:Int),ls)) (.to (.tup (.op (.var rfl) .int WX) (.comp (.list (.op (.var rfl) .int Qz)) (λy hy=>(.val (.op (.cb (.cons (.var rfl) .nil) (zj2 (ne2 y hy))) (.op (.var rfl) .int WX) zcA))) (λy hy h=>(.var rfl)) (by have:=g2.len;omega))) (by rw[dF,els])) ?_;have gc1:GoodC [(b,l),(b2,l2)]:=λc hc=>by
        rcases aP.mp hc with rfl | hc
        · exact g
        · rw[cJ.mp hc];exact g2
      have gc2:GoodC [(b,ls),(b,l)]:=λc hc=>by
        rcases aP.mp hc with rfl | hc
        · exact gs
        · rw[cJ.mp hc];exact g
      refine Sg.cut (.to (b:=false) (.not (.valB (.call (.cons (.lst [((b:Int),l),((b2:Int),l2)] (.cons (.var rfl) (.cons (.var rfl) .nil))) (.cons (.var rfl) .nil)) (Spg.w1 <| Xj gc1 (by simp) (by simp) n0 n1)))) rfl) (λe=>nomatch e) λ_=>?_;refine Sg.cut (.to (b:=false) (.or (.not (.valB (.call (.cons (.lst [((b:Int),ls),((b:Int),l)] (.cons (.var rfl) (.cons (.var rfl) .nil))) (.cons (.var rfl) .nil)) (Spg.w1 <| Xj gc2 (by simp) (by simp) n0 n1)))) λh=>(.not (.valB (.call (.cons (.var rfl) (.cons (.var rfl) .nil)) (Spg.w1 (zbm g gs)))))) rfl) (λe=>nomatch e) λ_=>?_;exact Sg.cut1 (.to (b:=false) (.not (.valB (.call (.cons (.var rfl) (.cons (.var rfl) (.cons (.call (.cons (.var rfl) (.cons .int .nil)) (Spg.w1 (uL (by decide) (by decide)))) .nil))) (Spg.w1 (Jr g n0 n1 (zak _ _).1))))) rfl) (λe=>nomatch e) λ_=>⟨_,_,_,_,_,_,_,_,_,rfl⟩
  exact⟨λvs H Q E h=>let ⟨a,ns,hl,h⟩:=zeZ h;(F a ns hl).len vs H Q E h,λA outer s H args us vs Q E hr he hb hv h=>let ⟨a,ns,hl,h⟩:=zeZ h;(F a ns hl).run A outer s H args us vs Q E hr he hb hv h⟩
end
open PySem L2
theorem fb1{P:List aG->Prop}(h:∀a,P [a]):∀us:List aG,us.length=1->P us
 |[_],_=>h _
theorem fb2{P:List aG->Prop}(h:∀a b,P [a,b]):∀us:List aG,us.length=2->P us
 |[_,_],_=>h _ _
theorem fb3{P:List aG->Prop}(h:∀a b c,P [a,b,c]):∀us:List aG,us.length=3->P us
 |[_,_,_],_=>h _ _ _
theorem fb4{P:List aG->Prop}(h:∀a b c d,P [a,b,c,d]):∀us:List aG,us.length=4->P us
 |[_,_,_,_],_=>h _ _ _ _
theorem fb5{P:List aG->Prop}(h:∀a b c d e,P [a,b,c,d,e]):∀us:List aG,us.length=5->P us
 |[_,_,_,_,_],_=>h _ _ _ _ _
theorem ex_{α:Sort u}{p:α->Prop}{a:α}(h:p a):∃x,p x:=⟨a,h⟩
def FL(K:aN)(n q:cG)(st:cz)(f:aq)(cd:aG)(od an:Option aq)(sl:Array (Option aG))(oc kV dc pm ct:aG):Prop:=K.lookup f=some ⟨oc,od,.func (oE n q (X6 st) (zj st) (zp st) .none kV dc pm an cd ct),sl⟩/\Bw K cd q=true/\nH K (.ref f)=true
def FB(n q:cG)(st:cz)(ps:List cG):Prop:=∀kV doc pm an cdv ct us,us.length=ps.length->p6 (oE n q (X6 st) (zj st) (zp st) .none kV doc pm an cdv ct) ⟨us,[]⟩=pure (ps.zip us)
def FD(K:aN)(cd:aG)(n:cG)(st:cz)(ps:List cG):Prop:=FB n n st ps/\∃f od an sl oc kV dc pm ct,lQ K bZ n=some (some (.ref f))/\FL K n n st f cd od an sl oc kV dc pm ct
def FM(K:aN)(C:aq)(n q:cG)(st:cz)(ps:List cG):Prop:=FB n q st ps/\∃f cd od an sl oc kV dc pm ct,iH K (.ref C) n=some (some (.ref f))/\GP K (.ref f)=true/\FL K n q st f cd od an sl oc kV dc pm ct
abbrev f3(n:cG)(s:cz)(ps:List cG):=(n,s,ps)
abbrev f4(n q:cG)(s:cz)(ps:List cG):=(n,q,s,ps)
def FDs(K:aN):List (cG×cz×List cG)->Prop
 |[]=>True
 | (n,s,ps)::r=>(∃cd,FD K cd n s ps)/\FDs K r
def FMs(K:aN)(C:aq):List (cG×cG×cz×List cG)->Prop
 |[]=>True
 | (n,q,s,ps)::r=>FM K C n q s ps/\FMs K C r
def NNs(K:aN):List cG->Prop
 |[]=>True
 |n::r=>lQ K bZ n=some none/\NNs K r
def NFs(K:aN)(C:aq):List cG->Prop
 |[]=>True
 |n::r=>iH K (.ref C) n=some none/\NFs K C r
def DFs(K:aN)(mg:cG->Option aG):List (cG×cz×List cG)->Prop
 |[]=>True
 | (n,s,ps)::r=>(∃f fd,Df K mg n s ps f fd)/\DFs K mg r
def MTs(K:aN)(C:aq):List (cG×cG×cz×List cG)->Prop
 |[]=>True
 | (n,q,s,ps)::r=>(∃f fd,Mt K C q n s ps f fd)/\MTs K C r
def CLs(K:aN)(C:aq)(n:cG):Prop:=lQ K bZ n=some (some (.ref C))/\Ez K C=true/\nH K (.ref C)=true/\o8 K C Ht=true/\pZ K C=true/\CZ K C=true/\iH K (.ref C) "__setattr__"= some (some (.builtin "object.__setattr__"))
section
variable {K:aN} {n q:cG} {C:aq} {h:dR} {mg:cG->Option aG}
theorem FD.df{st:cz}(x:FD K cd n st ps)(X:K.In h)(G:h.Ns bZ mg):∃f fd,Df K mg n st ps f fd/\fd.code=cd/\∀s us,us.length=ps.length->ph s fd ⟨us,[]⟩ (ps.zip us):=
 let ⟨b,_,_,_,_,_,_,_,_,_,a,l,e,k⟩:=x
 ⟨_,_,zl6 X G a l e k b,rfl,λ_ us h=>.of_eq (b _ _ _ _ _ _ us h)⟩
theorem FDs.df(X:K.In h)(G:h.Ns bZ mg):∀{l},FDs K l->DFs K mg l
 |[],_=>trivial
 |_::_,⟨⟨_,x⟩,y⟩=>⟨let ⟨f,fd,d,_⟩:=x.df X G;⟨f,fd,d⟩,FDs.df X G y⟩
theorem FMs.mt:∀{l},FMs K C l->MTs K C l
 |[],_=>trivial
 | (_,_,st,_)::_,⟨⟨b,_,_,_,_,_,_,_,_,_,_,a,i,l,e,k⟩,y⟩=>⟨⟨_,_,zel (st:=st) l e k,(zel (st:=st) l e k).binds b,a,i,k⟩,FMs.mt y⟩
end
structure CF (K:aN) (n:cG) (C:aq):Prop where
 g:lQ K bZ n=some (some (.ref C))
 m:nZ K C (.type "object")=some true
 t:FZ K (.ref C)=some (.type "type")
theorem CF.cls{K:aN}(x:CF K n D)(e:nZ K C (.ref D)=some b):rC K (.ref C) (.ref D)=some b:=by
 obtain⟨cd,h,_⟩:=Option.bind_eq_some_iff.mp x.m;show (if ((W.clsIn K D).isSome && FZ K (.ref D) == some (.type "type"))=true then W.subIn K (.ref C) (.ref D) else none)=_;rw[if_pos (by rw[h,x.t,sU,Eu];exact beq_self_eq_true _)];exact e
theorem CF.no{K:aN}(x:CF K n D)(s:nZ K C (.ref C)=some true)(e:nZ K C (.ref D)=some false):lO K (.ref C) (.ref D)=some false:=by
 unfold lO;rw[if_neg (λq=>by
  have h:aY C=aY D:=eq_of_beq q;injection h with h
  rw[<-h,s]at e;cases e)]
 exact x.cls e
set_option maxHeartbeats 0 in
theorem zlr{l:Fb}{K:aN}(X:K.In h)(G:h.Ns bZ mg)(hfa:mg "law"= some (.ref fa))(hcT:Eh K c0 T0=true)(hgT:bZ≠T0)(xs0:FDs K [f3 "is_whole" jD ["thing"],f3 "is_number" jo ["thing"],f3 "is_base" Vy ["thing"],f3 "is_figure" ZJ ["base","thing"],f3 "are_figures" uv ["base","thing"],f3 "writes_number" qO ["base","thing"],f3 "is_stretch" jQ ["base","thing"],f3 "is_rising" Xh ["stretches"],f3 "is_bad_list" qX ["base","thing"],f3 "is_rule" We ["thing"],f3 "check_base" Ye ["thing"],f3 "check_number" uz ["thing"],f3 "check_rule" yD ["thing"],f3 "copy_of" Wi ["rule"],f3 "stands_within" vm ["stretch","figures"],f3 "lacks_all" qj ["bad","figures"],f3 "figures_of" wG ["base","n"],f3 "number_by" qm ["base","figures"],f3 "is_good" Yo ["rule","n"],f3 "begins_one" Z8 ["bad","figures"],f3 "longest_stand" vg ["bad","figures"],f3 "is_stand" Ux ["rule","thing"],f3 "stand_behind" uB ["rule","figures"],f3 "all_stands" jU ["rule"]])(xs1:FDs K [f3 "step_from" qi ["rule","stand","figure"],f3 "place_behind" tV ["bad","stands","figures"],f3 "steps_from" ZX ["rule","stands","stand"],f3 "all_steps" Zz ["rule","stands"],f3 "count_below" uZ ["rule","n"],f3 "good_at" YC ["tails","k"],f3 "good_by" Wj ["rule","k"],f3 "place_of" Zm ["rule","n"],f3 "next_good" vN ["rule","n"],f3 "last_good" ut ["rule","n"],f3 "weights_by_left" wj ["weights","scale","size"],f3 "number_totals" qN ["rule","size"],f3 "sum_below" jy ["rule","n"],f3 "figures_below" v7 ["rule","n"],f3 "often_below" wV ["rule","n","figure"],f3 "check_length" uy ["thing"],f3 "count_shorter" ue ["tails","m"],f3 "count_long" uV ["rule","m"],f3 "least_long" vK ["rule","m"],f3 "greatest_long" xP ["rule","m"],f3 "sum_long" jt ["rule","m"],f3 "are_rules" ZG ["thing"],f3 "check_rules" tD ["thing"],f3 "check_bound" Y4 ["thing"]])(xs2:FDs K [f3 "is_good_by_each" wW ["rules","n"],f3 "keeps_all" ZL ["rules","n"],f3 "all_keeping" vM ["rules","n"],f3 "count_keeping" qR ["rules","n"],f3 "next_keeping" vQ ["rules","n"],f3 "unlike_stretches" vB ["rules"],f3 "is_needless" j6 ["stretches","stretch"],f3 "one_rule" vG ["rules"],f3 "_law_cell" Xc ["script","k"],f3 "_law_mixed" uO ["cell","k"],f3 "_law_rule" vO ["cell"],f3 "_law_figures" xg ["base","n"],f3 "_law_good" ql ["rule","n"],f3 "_law_which_good" yQ ["rule","n","good"],f3 "_law_sums_good" xX ["rule","n","good","figure"],f3 "_law_lengths_good" yN ["rule","good"],f3 "_law_stand" vL ["rule","figures"],f3 "_law_stands_good" ym ["rule","cell"],f3 "_law_long" Xa ["row"],f3 "_law_together_good" yg ["rules","n"],f3 "_law_one_good" yu ["rule","other"],f3 "_law_keeper_good" yc ["rule","n","cell"]])(xL:∃cd,FD K cd "law" Zv ["script"])(xl:FD K (.ref c0) "stands_of" xF ["bad"])(qAe:CF K "NoRules" qA)(qAf:CF K "TooMany" qB)(qAc:Dw K qA veT "ValueError.__new__"= true)(qAd:Dw K qB veT "ValueError.__new__"= true)(bTooMany:nZ K qB (.type "BaseException")=some true)(oTooMany:nZ K qB (.ref qB)=some true)(aC:CLs K C "Tails")(yC:FMs K C [f4 "__init__" "Tails.__init__" vI ["self","rule"],f4 "layer" "Tails.layer" vJ ["self","left"],f4 "many_by" "Tails.many_by" uc ["self","layer","place","stop"],f4 "many_under" "Tails.many_under" vC ["self","place","stop","left"],f4 "many_below" "Tails.many_below" yG ["self","figures"],f4 "many_within" "Tails.many_within" yH ["self","size"],f4 "figure_at" "Tails.figure_at" vY ["self","place","k","left"],f4 "number_at" "Tails.number_at" yr ["self","size","k"],f4 "are_endless" "Tails.are_endless" tL ["self"]])(nC:NFs K C ["base","outset","steps","layers"])(aCK:CLs K CK "Keeper")(yCK:FMs K CK [f4 "__init__" "Keeper.__init__" wu ["self","rule","b"],f4 "come" "Keeper.come" uX ["self","stretch"],f4 "go" "Keeper.go" jE ["self","stretch"],f4 "turn_to" "Keeper.turn_to" wM ["self","bad"],f4 "rule" "Keeper.rule" j7 ["self"],f4 "below" "Keeper.below" tZ ["self","n"]])(nCK:NFs K CK ["base","bad","bound","tails"])(aCS:CLs K CS "Totals")(yCS:FMs K CS [f4 "__init__" "Totals.__init__" vV ["self","rule","weights","scale","size"],f4 "longer_layer" "Totals.longer_layer" vq ["self","left"],f4 "weight_of" "Totals.weight_of" vA ["self","behind","figure","left"],f4 "total_under" "Totals.total_under" yI ["self","place","stop","left","ahead"],f4 "total_below" "Totals.total_below" yd ["self","figures"],f4 "total_within" "Totals.total_within" uD ["self","size"]])(nCS:NFs K CS ["tails","weights","layers"])(g0:lQ K bZ "LEAST_BASE"= some (some (.int 2 t0)))(g1:lQ K bZ "GREATEST_BASE"= some (some (.int 16 t1)))(g2:lQ K bZ "MOST_STRETCHES"= some (some (.int 4 t2)))(g3:lQ K bZ "LONGEST_STRETCH"= some (some (.int 4 t3)))(g4:lQ K bZ "MOST_FIGURES"= some (some (.int 60 t4)))(g5:lQ K bZ "MOST_RULES"= some (some (.int 3 t5)))(g6:lQ K bZ "GREATEST_BOUND"= some (some (.int 2000 t6)))(g7:lQ K bZ "REACH"= some (some (.int 500 t7)))(zs:NNs K ["isinstance","int","bool","list","tuple","reversed","len","max","min","range","all","any","sorted","enumerate","repr","sum","abs","zip","str"]): ∃fd:iY,(∀s v,ph s fd ⟨[v],[]⟩ [("script",v)])/\∀base:dR,K.In base->base.Ns bZ mg->base.BuiltinsAt mg T0->FnOk l.prog w K mg base CX0 14 fa fd Bc (zcq K T0):=by
 have M:∀{n v},lQ K bZ n=some (some v)->mg n=some v:=W.mg_of X G;have N:∀{n},lQ K bZ n=some none->mg n=none:=W.mg_none_of X G;obtain⟨z0,z1,z2,z3,z4,z5,z6,z7,z8,z9,z10,z11,z12,z13,z14,z15,z16,z17,z18,_⟩:=zs;have T:Blt mg:=⟨N z0,N z1,N z2,N z3,N z4,N z5,N z6,N z7,N z8,N z9,N z10,N z11,N z12,N z13,N z14⟩
 have U:zfm mg:=⟨N z15,N z16,N z17,N z18⟩
 have Ut:=M g0;have Xn:=M g1;have xV:=M g2;have Z7:=M g3;have tM:=M g4;have Ug:=M g5;have YB:=M g6;have zeL:=M g7;obtain⟨⟨_,_,ww⟩,⟨_,_,wK⟩,⟨_,_,WL⟩,⟨_,_,u9⟩,⟨_,_,xU⟩,⟨_,_,ZV⟩,⟨_,_,uw⟩,⟨_,_,Ua⟩,⟨_,_,Wb⟩,⟨_,_,Wu⟩,⟨_,_,jr⟩,⟨_,_,xn⟩,⟨_,_,zJ⟩,⟨_,_,WD⟩,⟨_,_,wA⟩,⟨_,_,vD⟩,⟨_,_,ye⟩,⟨_,_,Uq⟩,⟨_,_,Za⟩,⟨_,_,W5⟩,⟨_,_,wy⟩,⟨_,_,QS⟩,⟨_,_,qT⟩,⟨_,_,Zw⟩,_⟩:=xs0.df X G;obtain⟨⟨_,_,YG⟩,⟨_,_,YM⟩,⟨_,_,W9⟩,⟨_,_,Uj⟩,⟨_,_,uh⟩,⟨_,_,zao⟩,⟨_,_,VR⟩,⟨_,_,Wh⟩,⟨_,_,Yp⟩,⟨_,_,YD⟩,⟨_,_,jH⟩,⟨_,_,uA⟩,⟨_,_,Yq⟩,⟨_,_,tO⟩,⟨_,_,jR⟩,⟨_,_,xq⟩,⟨_,_,wC⟩,⟨_,_,Zy⟩,⟨_,_,ZD⟩,⟨_,_,tU⟩,⟨_,_,Wg⟩,⟨_,_,Uw⟩,⟨_,_,xY⟩,⟨_,_,XH⟩,_⟩:=xs1.df X G;obtain⟨⟨_,_,xm⟩,⟨_,_,Yu⟩,⟨_,_,uo⟩,⟨_,_,tW⟩,⟨_,_,qW⟩,⟨_,_,je⟩,⟨_,_,X4⟩,⟨_,_,Wc⟩,⟨_,_,Uz⟩,⟨_,_,yz⟩,⟨_,_,Ws⟩,⟨_,_,yf⟩,⟨_,_,vz⟩,⟨_,_,jO⟩,⟨_,_,Zg⟩,⟨_,_,qG⟩,⟨_,_,vh⟩,⟨_,_,qZ⟩,⟨_,_,YH⟩,⟨_,_,ug⟩,⟨_,_,ZP⟩,⟨_,_,jb⟩,_⟩:=xs2.df X G;obtain⟨_,_,tE,hc,_⟩:=xl.df X G;obtain⟨_,xL⟩:=xL;obtain⟨_,fd,Dlaw,_,bL⟩:=xL.df X G;cases hfa.symm.trans Dlaw.g
 obtain⟨aC,mkC,kcC,pgC,hdC,poC,saC⟩:=aC;obtain⟨⟨_,_,Xm⟩,⟨_,_,wI⟩,⟨_,_,xf⟩,⟨_,_,yW⟩,⟨_,_,yE⟩,⟨_,_,zM⟩,⟨_,_,jV⟩,⟨_,_,yp⟩,⟨_,_,qz⟩,_⟩:=yC.mt;have wU:Mk K C _:=let ⟨a,i,_⟩:=Xm.m;⟨mkC,a,i,kcC⟩;have wQ:=Xm.b;obtain⟨n0,n1,n2,n3,_⟩:=nC;have zB:ClT K mg C:=⟨⟨pgC,hdC,poC,saC⟩,M aC,n0,n1,n2,n3⟩
 obtain⟨aCK,mkCK,kcCK,pgCK,hdCK,poCK,saCK⟩:=aCK;obtain⟨⟨_,_,MKeeper___init__⟩,⟨_,_,MKeeper_come⟩,⟨_,_,MKeeper_go⟩,⟨_,_,MKeeper_turn_to⟩,⟨_,_,MKeeper_rule⟩,⟨_,_,MKeeper_below⟩,_⟩:=yCK.mt;have KKeeper:Mk K CK _:=let ⟨a,i,_⟩:=MKeeper___init__.m;⟨mkCK,a,i,kcCK⟩;have BKeeper:=MKeeper___init__.b;obtain⟨n0,n1,n2,n3,_⟩:=nCK;have cKeeper:ClK K mg CK:=⟨⟨pgCK,hdCK,poCK,saCK⟩,M aCK,n0,n1,n2,n3⟩
 obtain⟨aCS,mkCS,kcCS,pgCS,hdCS,poCS,saCS⟩:=aCS;obtain⟨⟨_,_,Ym⟩,⟨_,_,uK⟩,⟨_,_,wZ⟩,⟨_,_,wg⟩,⟨_,_,yO⟩,⟨_,_,vP⟩,_⟩:=yCS.mt;have Xy:Mk K CS _:=let ⟨a,i,_⟩:=Ym.m;⟨mkCS,a,i,kcCS⟩;have XR:=Ym.b;obtain⟨n0,n1,n2,_⟩:=nCS;have zR:ClS K mg CS:=⟨⟨pgCS,hdCS,poCS,saCS⟩,M aCS,n0,n1,n2⟩
 refine⟨fd,λs v=>bL s [v] rfl,λbase _ _ hBM=>?_⟩;have R:∀{k f fd ps sp},FnOk l.prog w K mg base CX0 k f fd ps sp->FnOk l.prog w K mg base CX0 k f fd ps sp:=id;have RX:∀{k f fd ps sp},FnOk l.prog w K mg base (CX1 l.prog w) k f fd ps sp->FnOk l.prog w K mg base (CX1 l.prog w) k f fd ps sp:=id;have qAg:zjo K mg "NoRules" qA:=⟨M qAe.g,qAc⟩
 have qAh:zjo K mg "TooMany" qB:=⟨M qAf.g,qAd⟩
 have qAa:zd4 K mg "TooMany" qB:=⟨M qAf.g,bTooMany⟩
 have qAb:=qAf.cls oTooMany;have VB:=R (zgp WL ww T Ut Xn);have ZC:=R (zc9 jr WL VB);have uY:=R (U3 wK ww T);have xQ:=R (zbn xn wK ww T);have yh:=R (zdk ye jr ZC xn xQ T);have qu:=R (zee u9 ww T);have wH:=R (zcT xU u9 qu T);have uH:=R (zdd uw xU wH Z7 T);have Ui:=R (zbS Wb uw uH Ua xV T);have V8:=R (zfZ Wu WL VB Wb Ui T);have zL:=R (zds zJ Wu V8);have ud:=R (zeB vD wA T);have Yd:=R (zgn Za zJ zL vD ud ye yh T);have wX:=R (za3 wy vD ud W5 T);have jY:=R (zbw qT zJ zL xU wH wy wX T);have qK:=R (zeT tE hc hcT hBM hgT vD ud T);have zaz:=R (zfI QS xU wH tE qK T);have Xd:=R (zdq Zw zJ zL tE qK);have WR:=R (zeh YG zJ zL QS zaz u9 qu wy wX T);have Vs:=R (zbp YM wy wX);have QB:=R (zdh W9 YM Vs T);have Jk:=R (zei Uj W9 QB T);have qI:=R (zcx wI xf zB T U);have xK:=R (zdr yW wI xf zB T U);have zN:=R (zb0 zM wI xf zB T U);have yK:=R (zda yE yW xK zB T);have Yr:=R (zdZ jV yW xK zB T);have yt:=R (zez yp yW xK jV Yr zB T);have zZ:=R (ziW Xm tE qK Uj Jk vD ud zB T);have Zo:=R (zcJ qz zM zN zB);have zcf:=R (zgl zao xn xQ zM zN yp yt qz Zo zB tM T);have uI:=R (zc5 uh zJ zL ye yh wU wQ zZ yE yK zB);have Wm:=R (zeo Yp zJ zL ye yh wU wQ zZ yE yK zM zN yp yt zB T);have Wo:=R (zd9 YD zJ zL ye yh wU wQ zZ yE yK yp yt zB T);have QJ:=R (zgP VR zJ zL zao zcf wU wQ zZ zB);have VN:=R (zft Wh zJ zL wK uY Za Yd uh uI);have xR:=R (zbB xq wK uY tM);have wY:=R (zaF wC zM zN zB);have Xi:=R (zdo Zy zJ zL xq xR wU wQ zZ zM zN wC wY zB);have Xg:=R (zdn ZD zJ zL xq xR wU wQ zZ zM zN wC wY yp yt zB);have ji:=R (zaZ tU zJ zL xq xR wU wQ zZ zM zN wC wY yp yt zB);have Yt:=R (JD jH T);have vW:=R (zen wZ zB zR);have vf:=R (zcg wg wI qI wZ vW zB zR T);have jw:=R (zbC uK wg vf zB zR T);have uJ:=R (zbA vP zB zR);have um:=R (zhH Ym wU wQ zZ jH Yt zM zN uK jw zB zR T);have tY:=R (za0 uA Xy XR um zR T);have VM:=R (ze4 Wg zJ zL xq xR uA tY vP uJ zR);have yU:=R (zc6 yO wg vf wZ vW zB zR T);have WF:=R (zeC Yq zJ zL ye yh uA tY yO yU zR T);have jn:=R (zav tO zJ zL ye yh Xy XR um yO yU zR T);have Z2:=R (zce jR zJ zL ye yh u9 qu Xy XR um yO yU zR T);have JP:=R (zeK Uw Wu V8 Ug T);have wF:=R (zb5 xY Uw JP);have xW:=R (Jz xm Za Yd T);have Wq:=R (zeJ Yu xY wF xm xW);have j8:=R (zbx qW xY wF xm xW xn xQ zeL T);have UL:=R (zcZ XH wK ww YB T);have uT:=R (zbZ uo xY wF XH UL xm xW T);have jq:=R (zax tW uo uT T);have V6:=RX (zfO Wc xY wF je X4 wA qAg qAh xV T);have V0:=R (zf0 WD T);have GKeeper_below:=R (zjc (T0:=T0) MKeeper_below yE yK ye yh zB cKeeper);have GKeeper_rule:=R (zkq (C:=C) MKeeper_rule WD V0 cKeeper);have GKeeper_init:=R (zh8 MKeeper___init__ zJ zL xn xQ WD V0 wU wQ zZ zB cKeeper);have GKeeper_turn_to:=R (zgq MKeeper_turn_to MKeeper_below GKeeper_below wU wQ zZ zB cKeeper);have GKeeper_come:=R (zkd MKeeper_come MKeeper_turn_to GKeeper_turn_to uw uH xV cKeeper T);have GKeeper_go:=R (zl8 MKeeper_go MKeeper_turn_to GKeeper_turn_to uw uH cKeeper T);have W2:=R (za1 ZV xU wH T);have JH:=R (zey Uq jr ZC ZV W2 T);exact zlw Dlaw Uz T yz Ws yf vz jO uh uI VR QJ Wh VN Yp Wm YD Wo Zg Yq WF tO jn jR Z2 U qG Zy Xi Wg VM ZD Xg tU ji vh YH qZ Zw Xd qT jY YG WR ug tW jq uo uT Yu Wq qW j8 ZP Wc V6 qAa qAb jb KKeeper BKeeper GKeeper_init MKeeper_come GKeeper_come MKeeper_go GKeeper_go MKeeper_rule GKeeper_rule MKeeper_below GKeeper_below cKeeper ye yh Za Yd Uq JH
theorem walk2{l:Fb}{K:Params->aN}(hn:l.most=some 63)(hdf:d.params.defaults=[])(hY:∀w h,YP w h->(K w.params).In h)(hYT:∀w h,YP w h->h.get? T0=some (W.tabObj #[]))(hKT:∀w:cT,(K w.params).lookup T0=none)(hcT:∀w:cT,Eh (K w.params) c T0=true)(F:∀w mg fa h,(K w.params).In h->h.Ns bZ mg->mg d.name=some (.ref fa) ->
   ∃fd:iY,(∀s u,ph s fd ⟨[u],[]⟩ [("script",u)])/\∀base:dR,(K w.params).In base->base.Ns bZ mg->base.BuiltinsAt mg T0->FnOk l.prog w (K w.params) mg base CX0 14 fa fd Bc (zcq (K w.params) T0)):
  W.WalkO q loose XP YP l.row.toRowW d [] (λf vs=>PySem.call f vs):=
 L2.zmf (n:=63) (k:=14) (x:="script") (sp:=λw=>zcq (K w.params) T0) hn (by decide) hdf ⟨rfl,by decide,by decide,rfl⟩ hY hYT hKT hcT F (λw H a ns hl hT hS=>⟨a,ns,rfl,hS,hl,.inl hT,λ_=>rfl⟩)
end Lw
namespace PySem.W.Fast
def tw3096871014574637010:=0
def tw13210783458978380111:=0
def tw426734321200120892:=0
def tw4758786203110030750:=0
def tw15710894733040565139:=0
def tw6977487896800670748:=0
def tw12441423252423237198:=0
def tw2519037649897090072:=0
def tw11596436211537008488:=0
def tw7076602940658726322:=0
def tw1146412280527251311:=0
def tw250008580021975928:=0
def tw8083683997525788440:=0
def tw4232277396443679871:=0
def tw13905732304915089569:=0
def tw1208452505730018757:=0
def tw6768310298283305429:=0
def tw6674302823582228396:=0
def tw2569839061660226019:=0
def tw4699290981454213347:=0
def tw15840009522536208228:=0
def tw415317546434712616:=0
def tw596149391199133408:=0
def tw4353760063912006566:=0
def tw2983542909465671295:=0
def tw7789550324853505745:=0
def tw10179162690505323382:=0
def tw13908199616205087562:=0
def tw14966538266497134314:=0
def tw1325532820645659246:=0
def tw2263281514722680093:=0
def tw11144075451768972612:=0
def tw17012615076763045385:=0
def tw16533273838735021730:=0
def tw12475969477907791352:=0
def tw16651738813442577751:=0
def tw12479228752742393912:=0
def tw15658724975133269505:=0
def tw13766421121838720251:=0
def tw15334965983599110193:=0
def tw19799417266241859:=0
def tw12384942793839711964:=0
def tw11161301308967665873:=0
def tw5589762918192286462:=0
def tw1436575586125256464:=0
def tw567850352726711927:=0
def tw5380946021863833355:=0
def tw11254301610908444124:=0
def tw37961718548025599:=0
def tw16682536670265108426:=0
def tw15589869967930714434:=0
def tw15745004383430270224:=0
def tw4394841076933191173:=0
def tw4158188904418494554:=0
def tw14257828325261988804:=0
def tw16559531537700938886:=0
def tw2607174020291355783:=0
def tw14133455371036410031:=0
def tw10143194947875930599:=0
def tw9115716315899496176:=0
def tw17592698411940674642:=0
def tw3092887003313684287:=0
def tw9801163653235218137:=0
def tw9698101640071490268:=0
def tw12139790880985786355:=0
def tw8690550720483184937:=0
def tw13761145182599821025:=0
def tw10302796228748710252:=0
def tw12944138047737001489:=0
def tw9554391242379065319:=0
def tw18228383305330638737:=0
def tw11650263196013986007:=0
def tw3022283409735000747:=0
def tw8055204833025422161:=0
def tw5195825726632991810:=0
def tw14712097884578896321:=0
def tw13883162237455666278:=0
def tw4373517714227420244:=0
def tw9216980956288703050:=0
def tw3182213236596766186:=0
def tw17740623672446130359:=0
def tw3620784369344818706:=0
def tw1849301836372577731:=0
def tw14010834331611174265:=0
def tw16235868121108403425:=0
def tw5266883497280210414:=0
def tw15245100630828133476:=0
def tw5272817969071630393:=0
def tw7311605412360299549:=0
def tw4021203547213384112:=0
def tw9560359861613515210:=0
def tw1710508909517389280:=0
def tw15285565773342008710:=0
def tw13421223753149828901:=0
def tw3243144926477032545:=0
def tw15000952131560682815:=0
def tw17878947760069955809:=0
def tw2089978214700301433:=0
def tw2164617384187507476:=0
def tw3794476927957789670:=0
def tw5427733643702266535:=0
def tw11493537351962711794:=0
def tw15508682184371798799:=0
def tw3297255800964157351:=0
def tw3401826251196334567:=0
def tw16594492617218364665:=0
def tw10179547327301278493:=0
def tw17592695092968310717:=0
def tw7355922914046190653:=0
def tw6143321987932162722:=0
def tw12034781452849323367:=0
def tw2208051649395630614:=0
def tw12672878015783418006:=0
def tw4819334813950638161:=0
def tw13048897810033687311:=0
def tw12362528359157080645:=0
def tw17970147681561620564:=0
def tw10491146137349007215:=0
def tw7516882736689655996:=0
def tw1270622541880093324:=0
def tw7524017368152375137:=0
def tw6270789365444758315:=0
def tw11039747058563472553:=0
def tw16813523527688179128:=0
def tw9119359677247080715:=0
def tw15034887607208598452:=0
def tw3416172852561523411:=0
def tw7158372785193803771:=0
def tw17279033166227869634:=0
def tw17061042040342208633:=0
def tw14175514291046166486:=0
def tw13353252303528642240:=0
def tw14270380737863382950:=0
def tw17606324815608263703:=0
def tw10586162184638731734:=0
def tw18183223765685145134:=0
def tw14583033317391341882:=0
def tw10821207951761689671:=0
def tw12602109672257736140:=0
def tw1424715730642196067:=0
def tw3921000822573522866:=0
def tw18047102743762177274:=0
def tw16982020020318004103:=0
def tw5470053014148899943:=0
def tw4866413114225691646:=0
def tw10165999607179340293:=0
def tw18434064657308538456:=0
def tw17956145514175416125:=0
def tw11489504196213374562:=0
def tw2966066776905316344:=0
def tw11428868017758736767:=0
def tw6809789904150008783:=0
def tw16530734571126965065:=0
def tw11429619126768535139:=0
def tw6840755146741653702:=0
def tw16712621168959624070:=0
def tw12224237478579103546:=0
def tw10829446972231543422:=0
def tw12702569240579296803:=0
def tw2196245031733436253:=0
def tw8841900529324882994:=0
def tw14493992081533782322:=0
def tw634773617754457328:=0
def tw15020889857716428061:=0
def tw4401771881978569816:=0
def tw479818403250904057:=0
def tw17769610226110996553:=0
def tw4632217993547211258:=0
def tw2040399724196873218:=0
def tw7125368306906688338:=0
def tw15923174215609293554:=0
def tw10947273447501414329:=0
def tw15379453875452343051:=0
def tw9628191450466768471:=0
def tw8776468068700470594:=0
def tw18215138698128954656:=0
def tw16910878985204964438:=0
def tw5474251343447937311:=0
def tw5018415649689332753:=0
def tw5307602449991188982:=0
def tw5985790288000422566:=0
def tw3407677459644570824:=0
def tw355976385879696007:=0
def tw4860300890231306469:=0
def tw14479488143732953733:=0
def tw18208330828362880045:=0
def tw16860250931311330105:=0
def tw16651977534617870666:=0
def tw18300299096320028228:=0
def tw2132026076680113126:=0
def tw17169397065561893087:=0
def tw3439739854445725330:=0
def tw11522750628918763643:=0
def tw11530973278357056242:=0
def tw6882758119609225231:=0
def tw2658013981872405608:=0
def tw6001001902849940089:=0
def tw14935689661918182718:=0
def tw13306219876004900212:=0
def tw17940248867548495020:=0
def tw4854214811683156501:=0
def tw8795378544098802286:=0
def tw7869836788733687409:=0
def tw11157778057667900050:=0
def tw9563579024119646448:=0
def tw9744080975719632661:=0
def tw11868261472310302402:=0
def tw5469025651416286326:=0
def tw13643263797684238245:=0
def tw531088220981016887:=0
def tw178886503781590482:=0
def tw13855567994507417939:=0
def tw2848046143274617886:=0
def tw12319610636005061046:=0
def tw12580118805737077876:=0
def tw18475817704872519:=0
def tw9549755560898568438:=0
def tw17872717852475415536:=0
def tw12074199653077766107:=0
def tw8683632187745216664:=0
def tw6469077129735979770:=0
def tw9572990670609885869:=0
def tw15525251108382779430:=0
def tw1106309732535988613:=0
def tw15926554331123440552:=0
def tw13088575401535987259:=0
def tw8280580197119238811:=0
def tw11392497002602971843:=0
def tw9098968664821382651:=0
def tw13005227848487260184:=0
def tw1448712203125525954:=0
def tw6485764417519461057:=0
def tw16782507471253372524:=0
def tw9149347705424635501:=0
def tw17497573400766184789:=0
def tw14901055874983598837:=0
def tw9196063208095473991:=0
def tw630351342788199463:=0
def tw4407654801919347334:=0
def tw13149424626184197239:=0
def tw4208039051033311239:=0
def tw9160108238664955207:=0
def tw12958717671053168262:=0
def tw2452005375348289800:=0
def tw8522295249843637565:=0
def tw13090671646722163424:=0
def tw8168682796946761845:=0
def tw8064525402807393438:=0
def tw6986956326480861711:=0
def tw4053654915871742324:=0
def tw13150206613097550958:=0
def tw12586150940523321408:=0
def tw16748967485081962022:=0
def tw10902827198635928971:=0
def tw13333017885391171416:=0
def tw4658963219424587078:=0
def tw3736889957824583549:=0
def tw16297353399987334945:=0
def tw15382998553315522887:=0
def tw1633503989246175948:=0
def tw13881311774208533629:=0
def tw6657578865274721345:=0
def tw3863976429328904867:=0
def tw6032448041105389046:=0
def tw13228424194829233349:=0
def tw5313285048773361349:=0
def tw18113260859615256897:=0
def tw1751839299218995278:=0
def tw14957648207884956152:=0
def tw11049273175941858861:=0
def tw3082108164336690909:=0
def tw14958304534441170996:=0
def tw5178348019762695844:=0
def tw14616599186602231385:=0
def tw16629211175357684112:=0
def tw18336536636892090201:=0
def tw11586639799949746664:=0
def tw16826529943260846395:=0
def tw7331734975986152941:=0
def tw17205005477447695477:=0
def tw1064348175496154892:=0
def tw2303164805452544767:=0
def tw12503952759441685767:=0
def tw2079928263955012839:=0
def tw12537650372385269479:=0
def tw3759558994701856715:=0
def tw17332676357510445920:=0
def tw4140016821692079245:=0
def tw15142411591049635810:=0
def tw472472309498103643:=0
def tw1224686927507082237:=0
def tw17978528504281503009:=0
def tw14472850516268399913:=0
def tw12313242899516479495:=0
def tw5057533084479266480:=0
def tw7267319555874451695:=0
def tw1495741358551562882:=0
def tw578845407076159908:=0
def tw1057368950910515428:=0
def tw479372171154640489:=0
def tw8713831215591519687:=0
def tw3633891008606096212:=0
def tw1364384354812024737:=0
def tw5644402506519874750:=0
def tw6543745396491722917:=0
def tw12568995863874910535:=0
def tw3572134085919848104:=0
def tw16428548549766014035:=0
def tw16563270011464461732:=0
def tw14944538778072534984:=0
def tw17465565314427904609:=0
def tw18060219212744050290:=0
def tw9455495560525319331:=0
def tw610045270335210429:=0
def tw14661040808079636842:=0
def tw3697362664143048743:=0
def tw3872438014991137310:=0
def tw7798309080372008358:=0
def tw1590427663529563493:=0
def tw15929871457114184443:=0
def tw6595922707744526816:=0
def tw1480967645749276689:=0
def tw770574135803250780:=0
def tw1889190200560608245:=0
def tw13442842410473148831:=0
def tw1212833787786274745:=0
def tw13537356773723575454:=0
def tw12641671568905508195:=0
def tw15840036204962150009:=0
def tw3802794990393802434:=0
def tw378263656289669347:=0
def tw6975561069622592652:=0
def tw567785034269367617:=0
def tw2002216706075001141:=0
def tw14330150770791489190:=0
def tw13580970767345989263:=0
def tw7657151943560656395:=0
def tw5236717101899225152:=0
def tw3835041808741935965:=0
def tw65147394248370871:=0
def tw14586704374883337820:=0
def tw7673360941948097087:=0
def tw9661222477688255602:=0
def tw12759921426493228585:=0
def tw14736140318319135227:=0
def tw9354541788504960861:=0
def tw7676516204082467361:=0
def tw1606442932087162637:=0
def tw17441960594783805679:=0
def tw5582204671015299675:=0
def tw5222357240546826945:=0
def tw10743537150907199976:=0
def tw18307150086471541048:=0
def tw8622554576756855762:=0
def tw16507562161466716286:=0
def tw15035657835076983845:=0
def tw13444567399202159926:=0
def tw5690682764091928304:=0
def tw3614489523384345478:=0
def tw4466185078296220575:=0
def tw1843887899348692457:=0
def tw13696986596247212982:=0
def tw10595241114880228609:=0
def tw7210713459894741501:=0
def tw15479413686199894860:=0
def tw17029272774809090691:=0
def tw18308766483919448603:=0
def tw4268815299654364280:=0
def tw1727530819328407214:=0
def tw16434000185394345083:=0
def tw13028947584939766413:=0
def tw1749893846902752258:=0
def tw8029606436270624424:=0
def tw5579297762815611153:=0
def tw17958931738451639428:=0
def tw4999681909606947758:=0
def tw7326889649643099546:=0
def tw6886263265678706024:=0
def tw6428133075732033594:=0
def tw4175527707139761168:=0
def tw8385113556242071148:=0
def tw17298290614708520266:=0
def tw5791866921418414145:=0
def tw8134732053134618513:=0
def tw15133951861301443468:=0
def tw12368297899505541112:=0
def tw5611692675353354437:=0
def tw4162365177780323505:=0
def tw17488528842881416133:=0
def tw6969028124312556345:=0
def tw10662356564968056071:=0
def tw2288049895319898186:=0
def tw4542983300932665137:=0
def tw5725300184675405724:=0
def tw14367954093550640929:=0
def tw9435403215824558900:=0
def tw11617229490803634545:=0
def tw8055445279186561767:=0
def tw8761527482699507681:=0
def tw2486505185254410651:=0
def tw4123275497578000352:=0
def tw12853019961064895063:=0
def tw16567478544785309691:=0
def tw11918358539465694915:=0
def tw1470944331887750262:=0
def tw12132099397966146345:=0
def tw13668387468474626171:=0
def tw3008785034674884713:=0
def tw14246951944631118221:=0
def tw17345129041886113203:=0
def tw1476361953443987021:=0
def tw16787940112198414908:=0
def tw7686640383993455672:=0
def tw10045499105301015904:=0
def tw8269262237816203549:=0
def tw16074246417485657490:=0
def tw16558380655054926032:=0
def tw14848203329529419925:=0
def tw4974714004173562797:=0
def tw11710235701979725533:=0
def tw9801106582618850647:=0
def tw6222168339598848945:=0
def tw1904650355530206654:=0
def tw14048066116685868438:=0
def tw14031817159580762660:=0
def tw16733131286892664189:=0
def tw9704962414412674280:=0
def tw16033973269906819805:=0
def tw10522811467594319188:=0
def tw2151160440458195165:=0
def tw13988597327956695877:=0
def tw5636348334556949502:=0
def tw18130634665442534439:=0
def tw14447800015201263263:=0
def tw17761410692267257868:=0
def tw7908208560711616292:=0
def tw2144393404081336745:=0
def tw11699837045008375781:=0
def tw4481271305106546348:=0
def tw17556251924013446691:=0
def tw6840357152088750833:=0
def tw10571274921491849226:=0
def tw1268107120760583678:=0
def tw61452424697611720:=0
def tw9868145041480608468:=0
def tw14113104545820270859:=0
def tw4990895929167894103:=0
def tw8463016205384129407:=0
def tw11666181870344623667:=0
def tw589668451696470094:=0
def tw13633405488309161209:=0
def tw8787312275300779539:=0
def tw7794387507543358515:=0
def tw2686925704807153715:=0
def tw17435872288296478637:=0
def tw4885230755511114774:=0
def tw16606355869517741659:=0
def tw1378692657431491459:=0
def tw451430829281951567:=0
def tw11088605033926714348:=0
def tw6582018408421536139:=0
def tw13887168597006867926:=0
def tw16952951197482464569:=0
def tw9249080549600208659:=0
def tw13358703100739847712:=0
def tw9223632496505841589:=0
def tw6963475953609354954:=0
def tw11646250855656754850:=0
def tw2681755463734705301:=0
def tw17182220431552373409:=0
def tw7002099041362338105:=0
def tw238464601394064405:=0
def tw8847175333173273572:=0
def tw1225633220377445353:=0
def tw2245251327615466976:=0
def tw9405109270545798633:=0
def tw6164904837991658389:=0
def tw770066817452921097:=0
def tw16915702925870677104:=0
def tw7402675694597325065:=0
def tw7659740151880935980:=0
def tw2412006157485004599:=0
def tw11584916984836130954:=0
def tw18021199591432039620:=0
def tw14397888856687597858:=0
def tw16120602395554655802:=0
def tw17746669570773492823:=0
def tw3818555010994023286:=0
def tw14522207413181763727:=0
def tw11126646806810173534:=0
def tw10068395967052951022:=0
def tw6056335358865258200:=0
def tw5328813500362760807:=0
def tw17629581480501402252:=0
def tw12419821501923902864:=0
def tw5167366644212014898:=0
def tw3844987441078073910:=0
def tw956883250756285858:=0
def tw15084248505992285696:=0
def tw14183040095616939408:=0
def tw15317527855571505829:=0
def tw8017092116054206012:=0
def tw7795155541633225592:=0
def tw2071330287451868523:=0
def tw6824569207059954769:=0
def tw140398889047552543:=0
def tw6994939118252321880:=0
def tw5942103003839412188:=0
def tw2498258975716403266:=0
def tw16752687774192003423:=0
def tw6733479742369394089:=0
def tw11271755718347015442:=0
def tw15725024961442640695:=0
def tw298093181269516358:=0
def tw6132890677030237778:=0
def tw10696711945920862577:=0
def tw10817847850329008862:=0
def tw3723290359159048771:=0
def tw11822377071988696417:=0
def tw10191418268843332160:=0
def tw998674388742107975:=0
def tw11190011604103889157:=0
def tw5500138120014804144:=0
def tw9623922423469116374:=0
def tw1784265489130806336:=0
def tw17636866085883572521:=0
def tw13549960463275151617:=0
def tw3836805566058794192:=0
def tw502630930868112407:=0
def tw10391780662974355715:=0
def tw12978776899571914096:=0
def tw16179875456276949646:=0
def tw12857272967277498080:=0
def tw7484964871855392837:=0
def tw2135961267392475682:=0
def tw565651449135817847:=0
def tw13494902470634780448:=0
def tw18060764078861367110:=0
def tw1813335162231828522:=0
def tw12221269029807855276:=0
def tw8903438164967391577:=0
def tw2621805893267515394:=0
def tw10190275457490062878:=0
def tw16299808023208323363:=0
def tw6575519836713934329:=0
def tw14222484226759433370:=0
def tw5682429078733804526:=0
def tw16313861693980727981:=0
def tw11965260496840404209:=0
def tw12228340931687141046:=0
def tw16446998771924221906:=0
def tw18365813073633694410:=0
def tw3917191125825816444:=0
def tw4436610389350413443:=0
def tw284176592944034418:=0
def tw30028245452288536:=0
def tw5331017851492416804:=0
def tw6367824260151806574:=0
def tw13026305717519781377:=0
def tw13031989707383613799:=0
def tw6205227060637449083:=0
def tw13246378761386958191:=0
def tw2137188438577922312:=0
def tw13079122408593993663:=0
def tw6996833944349521321:=0
def tw75475602720874218:=0
def tw8382343990459374651:=0
def tw16157550597684717404:=0
def tw354586923597721965:=0
def tw7684758207318087228:=0
def tw12497734792599958941:=0
def tw16787211659752053197:=0
def tw10769461572837436903:=0
def tw13194211048777860671:=0
def tw10827103434920588055:=0
def tw99921160889080879:=0
def tw10569094385162193390:=0
def tw5302351296035230520:=0
def tw14773065492680101626:=0
def tw824122712558014453:=0
def tw14288575477365138134:=0
def tw15813174722824157287:=0
def tw14782547896817395452:=0
def tw12411711502676595129:=0
def tw6801444129967306994:=0
def tw12014990727717388626:=0
def tw16574111390139475791:=0
def tw12469132251247890851:=0
def tw14431037107859931898:=0
def tw6343553822175599344:=0
def tw5412781065815012868:=0
def tw402169345746224390:=0
def tw5509863014157860664:=0
def tw9815845103007735916:=0
def tw882395802973931411:=0
def tw509780449411267556:=0
def tw12311350018524191726:=0
def tw9832292918798271972:=0
def tw14442599870471406973:=0
def tw15773876356572184896:=0
def tw6823924791215847645:=0
def tw323988133265073527:=0
def tw11703520663301652514:=0
def tw14861304101891017380:=0
def tw2257732141075828163:=0
def tw12122886681777629769:=0
def tw14637090686071476746:=0
def tw4548027107191306299:=0
def tw14928566508439252876:=0
def tw15461987658264610963:=0
def tw6107472855426928851:=0
def tw1281090489567618097:=0
def tw2741916770179058242:=0
def tw9261670236561311979:=0
def tw5082823284769000368:=0
def tw11175582601803262879:=0
def tw15588305305028630605:=0
def tw15280187538495206344:=0
def tw10009764919391026833:=0
def tw10031693472738717149:=0
def tw12144676001638770744:=0
def tw7570115173318538103:=0
def tw11656702552414031190:=0
def tw6384641790844883218:=0
def tw2748245008999108173:=0
def tw12808649420300059234:=0
def tw7507663217094980602:=0
def tw16996175719273214652:=0
def tw11548988056276152421:=0
def tw8899952655295110939:=0
def tw10528568975581334850:=0
def tw11368897182110179654:=0
def tw1161690146992740063:=0
def tw18038684098280651728:=0
def tw254913096567181127:=0
def tw13535711378512687862:=0
def tw17443390944762717019:=0
def tw9826039791745830952:=0
def tw1904917101947588122:=0
def tw14269072807265062789:=0
def tw12206824029065977183:=0
def tw7088765122249560976:=0
def tw4536618074396129809:=0
def tw13216872090762750136:=0
def tw9256082193595843070:=0
def tw11495525562817912644:=0
def tw8667592687942491896:=0
def tw14509017797286124459:=0
def tw13429691993395149796:=0
def tw1004007724537800367:=0
def tw7137901872236719076:=0
def tw13907208650535734759:=0
def tw17823127403452748548:=0
def tw10337058208742936492:=0
def tw10843871451323192297:=0
def tw1134681989359761497:=0
def tw10906483960469798452:=0
def tw15578899518197992582:=0
def tw14177583074223038750:=0
def tw18252542629267379510:=0
def tw17401465875355048318:=0
def tw16748920618507747813:=0
def tw12723647051192344113:=0
def tw9296727702187292738:=0
def tw8544317511890647794:=0
def tw5790690209971616626:=0
def tw16122394943152137484:=0
def tw12176904518877550485:=0
def tw7641730196914417339:=0
def tw14112679565928566119:=0
def tw16366452582700689646:=0
def tw11189723196090497033:=0
def tw8259353270526635726:=0
def tw2108702485886267248:=0
def tw255216558194610157:=0
def tw9670307056190249359:=0
def tw9104698894815056219:=0
def tw7124821926951137311:=0
def tw13426207418312487182:=0
def tw5510762989022556062:=0
def tw1136556769357408204:=0
def tw18136893633986850438:=0
def tw8843323962181817776:=0
def tw17617343372397965239:=0
def tw6492848061937089212:=0
def tw10585732557721498559:=0
def tw18104533647760324239:=0
def tw16017787520557552992:=0
def tw4571294168357536684:=0
def tw4509401975640676751:=0
def tw754023364966642182:=0
def tw16573693781580383744:=0
def tw16189890359856545585:=0
def tw17834961659857090451:=0
def tw3300221278715788435:=0
def tw7920766616547473099:=0
def tw15156783438749455369:=0
def tw700465188646242794:=0
def tw9325941171062550212:=0
def tw5426544297007533663:=0
def tw12087969140741316361:=0
def tw2490804372312208022:=0
def tw7152230225357295151:=0
def tw5768241852111767721:=0
def tw9525726081731535355:=0
def tw9330222211928622332:=0
def tw13033810507445661268:=0
def tw8552997040171037911:=0
def tw16470140116290838911:=0
def tw6782269063381258745:=0
def tw9624459558954470469:=0
def tw8535509193104109395:=0
def tw41315348490574415:=0
def tw14446165343561376044:=0
def tw14775274616525134654:=0
def tw8255053985503870350:=0
def tw17360872870353506577:=0
def tw7560829763179078698:=0
def tw12783217150708104580:=0
def tw14166464450490931619:=0
def tw3446439529545090514:=0
def tw13832516638990237599:=0
def tw11118647550004475913:=0
def tw9330209520148936693:=0
def tw17278581763217361123:=0
def tw11341038945337435792:=0
def tw7846364058913895741:=0
def tw16595976090153364230:=0
def tw11696357237085702293:=0
def tw12700229762968310688:=0
def tw12188328588656176788:=0
def tw10376643273614891442:=0
def tw6324904581421484532:=0
def tw8334395632762753466:=0
def tw7304520298675714732:=0
def tw6898766494371491271:=0
end PySem.W.Fast
open PySem PySem.W PyProof.Rows
set_option maxRecDepth 100000 in
set_option maxHeartbeats 0 in
theorem PySem.Challenge.cw_lackstretch_k45_whole_all_numbers_gone_t_holds : PySem.Challenge.rw_lackstretch_k45_whole_all_numbers_gone_t.Holds := by
 w_on;o_law;k_head;(case hw=>w_witness2)
 k_fill
 refine Lw.walk2 (l:=PySem.Challenge.rw_lackstretch_k45_whole_all_numbers_gone_t) (c:=274) (T0:=270) rfl rfl (λw h Y=>W.km_in_of Y) (λw h Y=>W.km_tabs_of Y 270 (by decide)) (λw=>by kernel_rfl) (λw=>by kernel_rfl) ?F
 case F =>
  intro w mg fa h KX G hmg
  apply Lw.zlr (c0:=274) (T0:=270) KX G hmg (by kernel_rfl) (by decide)
  repeat' first | exact lD | exact λ_ _ _ _ _ _=>Lw.fb1 λ_=>rfl | exact λ_ _ _ _ _ _=>Lw.fb2 λ_ _=>rfl | exact λ_ _ _ _ _ _=>Lw.fb3 λ_ _ _=>rfl | exact λ_ _ _ _ _ _=>Lw.fb4 λ_ _ _ _=>rfl | exact λ_ _ _ _ _ _=>Lw.fb5 λ_ _ _ _ _=>rfl | refine' Lw.ex_ ?_ | refine' ⟨?_,?_⟩ | k_is | k_exc | refine' ⟨?_,?_,?_⟩ | refine' ⟨?_,?_,?_,?_,?_,?_,?_⟩ | fail
