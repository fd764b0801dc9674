import PyProof.Rows.All
import Wide.All
import OpenK.AllK
import Wide.FinOn
import Lean
import PyProof.EqAt
import PyProof.EqKinds
import PyProof.TupleCall
import PyProof.NeKinds
import KE.KRevSl
import KE.KRevIter
import PyProof.ConsumeWalk
import PyProof.ReprRoads
import PyProof.CallFns
import KE.KSortAsk
import KE.KSortTup
import KE.KDictSum
import PyProof.Rows.SumAny
import PyProof.EnumStmt
import PyProof.EnumMake
import PyProof.Rows.EnumRows
import PyProof.Rows.FactsN_abs
import PyProof.ReprLen
import PyProof.ZipIter
import PyProof.Rows.ZipGen
import PyProof.StrCalls2
import PyProof.PureStr
import PyProof.CallStr
import PyProof.StrLoop
import PyProof.StrWalks
import PyProof.RulesTry
import PyProof.StrOps
import KE.KLam
import PyProof.LongRange
import PyProof.AttrMissSeq
import PyProof.Rows.SetFrom
import KE.KDictOf
import PyProof.DictWalks
import KE.KUnpack
import PySem.Challenge.RW_lackstretch_k32_a_keeper_by_drawn_deeds
set_option autoImplicit true
set_option Elab.async false
set_option linter.all false
set_option maxRecDepth 100000
open List renaming length_map->aa,getElem?_eq_getElem->aj,getElem?_map->ao,length_append->aF,map_append->aH,size_toArray->aJ,mem_of_getElem?->aL,getD_eq_getElem?_getD->aN,mem_map->aQ,getElem?_eq_some_iff->aV,mem_cons->aW,length_singleton->aX,mem_append->aZ,mem_append_right->bh,mem_singleton->bu,length_take->bA,map_cons->bC,length_cons->bF,mem_cons_self->bI,range->bJ,mem_cons_of_mem->bQ,length_drop->bR,take_length->bT,take_of_length_le->bV,replicate->bW,take_succ->bY,length_range->cg,getElem?_eq_none->cj,length->cB,map_map->cC,mem_range->cI,lookup_cons->cN,getElem?_append_right->cQ,drop_append_of_le_length->cR,length_pos_iff->cT,getElem?_append_left->cU,any_eq_true->cX,mem_append_left->cY,mem_filter->dm,drop_of_length_le->dH,append_nil->dJ,length_filter_le->dO,mem_filterMap->dW,range_succ->dY,not_mem_nil->eF,getElem?_range->eH,map_congr_left->eO,filter_append->fc,any_eq_false->fu,append_assoc->fC,map_nil->fG,getElem_mem->fJ,mem_of_mem_take->fO,pairwise_map->fQ,replicate_succ->fW,length_reverse->fX,drop_succ_cons->fY,drop_eq_getElem_cons->gB,pairwise_iff_getElem->gC,drop_zero->il,take_append_of_le_length->iw,range_succ_eq_map->iH,nodup_cons->iM,sum_append->iT,flatten_cons->kh,nodup_append->kj,ext_getElem?->km,any_cons->lO,idxOf_lt_length_iff->lU,lookup->mF,foldl_append->mY,take_append_drop->nG,getElem_inj->nO,all_eq_true->n8,filter_cons->oh,all_cons->ou,map_take->oF,getElem?_set_ne->oG,eq_nil_of_length_eq_zero->oJ,getElem?_of_mem->oK,of_mem_zip->oN,foldl_cons->oO,nil_append->oR,find?_cons->oV,filterMap_cons->oY,any_map->pA,getElem?_concat_length->pD,map_inj_right->pU,getElem_idxOf->p7,getElem?_inj->rF,map_drop->rQ,find?_range_eq_some->rR,cons_append->sr,any_toArray->sG,length_eq_zero_iff->sJ,mem_singleton_self->sO,getElem?_set_self->sU,length_nil->BL,filter_map->BR,filter_nil->BV,length_replicate->BX,mem_of_mem_drop->CV,map_id->CZ,length_take_le'->Dc,getElem_of_mem->Do,reverse_append->Dq,filter_sublist->Dr,foldl->DN,pairwise_cons->DY,getElem_range->Ea,map_singleton->Ef,Nodup->Eh,reverse_cons->Es,all_map->Eu,map_snd_zip->Fx,drop_length->FJ,length_set->Gd,take_left->Ho,drop_drop->Hq,nodup_nil->Ht,elem_iff->HF,sum_cons->HS,getD->MP
open PySem renaming wpAny_bind->ak,Addr->au,sizeLine->aA,Value->aD,wpAny_pure->aG,Shared->aP,Program->bx,model->bG,wpAny->bH,starEach->bM,World->bU,Str->bZ,mainGlobals->cz,PyData->cD,Stmt->cG,lookup_relabel_local->cL,compareOp->cO,wpAny_loadPart'->cW,wpAny_holding->dg,Heap->dj,Around->dB,wpAny_mono->dC,Expr->dN,wpAny_truthy_bool->dR,eval->dZ,cLine->d7,wpAny_Call_Name_kw->eZ,foldedSetIterable->fj,wpAny_newObj_type->fB,wpAny_typeNameOfWhole_keyiter->fM,wpAny_passesOwn->gD,sysModules->gM,backTo->gO,wpAny_typeNameOf_keyiter->gQ,tupleKind->gR,binaryOp->gW,NameKind->gZ,wpAny_callSpecial?_slot->ie,wpAny_call_entry->ig,bootBuiltins->iy,rawInt->iB,codeAny_mono->iG,behindInMarks->iU,Scope->iZ,codeAny->jL,Obj->kZ,call_meets->lq,wpAny_typeOf->lB,storedH->lD,attributeBase->lL,FuncData->lM,wpAny_execs_nil->lX,codeAny_builtin->lY,assignEach->mq,ReadAtMost->my,swapsWith->mC,keywordEach->mG,sliceBounds->mH,wpAny_pyIter_list->mQ,not_mem_of_deeper->mX,Pos->nj,wpAny_isOneOf_keyiter->nA,cellsFrom->nU,plainId_quiet->oA,wpAny_attempt->oE,holding->o8,getItem->ph,getMethod->pF,wpAny_newFunctionEnv_cells->pM,wpAny_fieldsOf->pR,tupleKind_room_in1->pY,slot_list_getitem->rB,wpAny_dictEntries->rD,wpAny_standAt->rG,wpAny_getItem_list_slice->rK,wpAny_comprehension_free->rM,wpAny_newList->rP,wpAny_eqBool_int->rT,backToKw->rW,noFill_tuple_add->rZ,builtinsNs->sS,wpAny_pyNext_range_end->sV,wpAny_pyIter_rangeiter->sW,BindsTo->sZ,wpAny_call->Bm,IsPart->Bo,typeLookup->Bp,wpAny_rule->Bu,letOwnedTupleGo->Bx,wpAny_specialOf->BJ,wpAny_dictEpoch->BP,wpAny_isTrue_Compare1->BW,wpAny_notOrdered_dict->Ca,wpAny_loadName_local->Cp,sizeLine_eq->Cq,wpAny_loadPart->Cu,bindArgs->Cv,subscripted->Cw,call_repr_slot->CJ,wpAny_pyIter_keyiter->CN,codeAny_call_builtin->CP,standAt->Dg,callerA->Dh,wpAny_loadName_cell->Dj,seq_tuple_add->Du,wpAny_pyIter_range->Dy,closureFor->DQ,getattributeRaised->Ec,wpAny_assign_Name->Ek,callWith->Em,concat_meets->Eo,wpAny_sequenceKey->Ep,seqIndex_neg->Er,wpAny_pyIter_enum->EY,KeyKind->Fd,wpAny_execs_cons->Fg,Arguments->Fl,wpAny_isInstance->Fo,tupleText_mem_le->Fp,wpAny_Dict_empty->Fq,wpAny_pyIter_zip->Fz,wpAny_field->FT,seqIndex_of->FW,wpAny_of_eq->FZ,pushCells_keeps->Gf,listText_mem_le->Gg,Keyword->Gn,Builtin->Gq,wpAny_Name->Gv,recursionLimit->Gy,bindL->Gz,bindC->GC,typeIs_int->GJ,newFunctionEnv->GK,wpAny_seqItems->GQ,callType_codes->GR,atKey->GZ,wpAny_newTuple->Hg,wpAny_setField->Hj,isInstance->Hl,GenState->Hr,intBits_le_64->Hy,call_list_seq->HD,storeName->HW,isTrue->Ih,assign->Ij,pyNext->Ik,pyIter->Il,Result->Io,ItemsOf->Iv,ReprEntriesK->Iw,interactive->Kr,IsRangeIter->Ks,richCompare->KH,wpAny_Slice->KJ,compEnvC->KR,wpAny_letGo->KZ,ReadsAll->K1,getAttr?->K7,Env->Li,entryOfKey->Lq,PlainAttrs->LC,typeOf->LK,excMatches->Mf,defaultsOf->Mh,setItem->Mi,getAttr->Ml,operate->Mp,cellOf->M4,Sem->Np
open Nat renaming le_refl->aq,le_trans->aB,lt_of_lt_of_le->aO,lt_of_le_of_lt->aR,ne_of_lt->bj,zero_le->bw,zero_add->bO,pow_le_pow_right->cM,sub_zero->cZ,zero_mul->c7,div_eq_of_lt->dM,lt_irrefl->eQ,ne_of_gt->eU,mul_comm->fD,lt_trans->fL,min_eq_left->fU,pow_zero->fZ,pow_succ'->gb,le_succ_of_le->gG,pow_pos->gH,sub_self->gJ,succ_le_succ->ir,le_succ->iu,le_of_lt->iz,le_of_eq->iD,add_assoc->iW,div_lt_iff_lt_mul->iY,lt_succ_of_lt->kJ,mul_le_mul_right->lz,succ_mul->lC,min_eq_right->lE,le_add_right->lF,mod_eq_of_lt->lG,pow_succ->lH,div_lt_self->lZ,div_add_mod->mj,mod_lt->mz,add_sub_cancel_left->mJ,lt_succ_self->nQ,min_le_right->nW,mul_one->oM,le_max_left->oU,mul_le_mul_left->o7,add_comm->pq,mod_mul_right_div_self->pW,add_mul_mod_self_right->pX,div_pos->rE,le_max_right->su,exists_eq_add_of_le->sI,div_div_eq_div_mul->Bs,le_mul_of_pos_left->Bt,add_zero->Bv,mod_mul_right_mod->Cg,le_div_iff_mul_le->Ci,add_mul_div_right->Cj,mul_le_mul->CT,mul_assoc->Dw,eq_zero_or_pos->Eb,pow_add->Ga,strongRecOn->Gj,add_le_add->Hm,min_self->Iu,log2_lt->KY,div_one->Lg
open PySem.Heap renaming get?_push_of_some->az,lt_size->aM,get?_push_size->bz,get?_update_other->dF,get?_push_ne->fP,size_update->ik,SameBut->mO,size_push->mR,get?_update_self->nu,get?_update_ne->o6,FlyingW->Kh
open PySem.W renaming Frag->aK,kitOne->cJ,findIn->gk,mroIn->gq,kia_one->gY,emptyDict->lg,instObj->nM,kindOf->nR,callWith_K->o9,looks_findIn->pI,keepIn->pJ,nsIn->pP,fnOf->rJ,cellsFrom_some->rY,plainGet->sX,methodCall_KW->By,hideAll_none->Cm,hasDictIn->Cr,kitCls->CQ,hideAll_get->Ds,plainGet_of->Dt,looks_mroIn->Dv,of_hideAll->Ej,codeIn->En,kas_ask->Ey,kla_obj->Fb,hideAll->Ff,plainOver->FQ,excIn->Gs,Looks->Gu,lookIn->Gx,codeHdIn->Hn,codeHdIn->Hu,same->Hw,takerIn->HX,makesIn->HY,kitMeta->Ib,OpenLaw->Ig,kas_rev->IV,kat_nil->Ka,typeIn->Kw,specialIn->Ky,kitx_list->Kz,kitx_dict->KC,kat_cons->K5,codeHd_of_K->K8,handedIn->Ls,isFn->Lx,pre_splitW->LQ,kla_fn->Mg,OpenLaw->Mq,subIn->Ms,kat_yes->Mu,clsIn->Mv,takesIn->MF,KasT->M5,kat_no->M8
open PySem.Value renaming ref->aU,none->eY,type->gK,int->lA,str->nH,bool->nJ,isInt_shape->rz,isInt->Ck,float->FN,isStrOf->Hx,bytes->Ko
open Option renaming map_eq_some_iff->aY,map_some->dw,toList_some->iK,isSome_iff_exists->rH,isSome_some->DR,isSome_map->Ew,getD_none->Fj,none->KN
open Bool renaming false_ne_true->bc,and_eq_true->cA,eq_iff_iff->cH,false_eq_true->dG,true_and->gf,not_eq_true'->kY,and_false->mU,false_and->pH,and_true->rN
open Or renaming inl->bf,inr->lK
open PyProof.Rows renaming boot_isinstance->bD,callWith_type1->cP,slot_tuple_getitem->di,seqObj->dI,IntsAre->gw,boot_list->gF,listUpdate_at->iV,AllBare->lW,boot_int->mZ,get?_update_seq->oW,envOfC->pL,size_push'->pQ,boot_tuple->pZ,seqEpoch_at->rC,subscriptTail_builtinR->Bq,boot_repr->Bw,boot_sorted->CW,boot_bool->Di,entry_tuple_getitem->Dk,args_tuple_getitem->Dz,Subscript_->DG,IsTup->Ed,listItems_at->Ez,boot_sum->Fe,callWith_builtin1->Fi,IsTup->FP,entry_list_sort->Gi,boot_range->Gw,slicePart_none->GD,slot_list_sort->Hi,tupleItemsOf_->Hz,plain_sorted->IW,entry_sorted->JC,tuples'->Kc,collect_list->Kg,boot_dict->Km,failedOf->K3,kind_sorted->K4,boot_all->K9,boot_any->Lb,boot_min->Le,boot_str->Lh,lt_int->Lj,isTrue_and->Lr,sortedHeap->Ma,Call_->Mj,keyLt'->M6,arrOf->M7,lt'->Ni
open PySem.PassesOwn renaming never->bK,leaving->Mw
open Option.some renaming inj->bN
open Ne renaming symm->cF
open PySem.PyData renaming depthAll->cV,showable->dX,depth->d9,shown->fH,weightAll->gh,showableAll->iI,leavesShort->iJ,shownAll->iR,depthKv->lu,weight->lQ,list->mK,showableKv->mW,leavesShortAll->nD,shownKv->CG,int->Hv,tuple->Iz
open PySem.Obj renaming mapSeq->dh,data_mapFields->DW
open False renaming elim->dz
open Int renaming toNat_natCast->dU,zero_add->eG,natCast_add->fV,le_refl->lw,le_trans->pC,lt_of_le_of_lt->p8,emod_lt_of_pos->Eg,emod_nonneg->Gk,natCast_mul->Gm
open PySem.F renaming slot_dict_keyiterator_next->eV,slot_list_getattribute->lR,args_dict_keyiterator_next_1->nZ,entry_dict_keyiterator_next->oH,args_list_append_2->Cz,entry_list_append->Dm,slot_list_append->DP,slot_dict_iter->Fy,slot_int_rmul->Ge
open PySem.NameKind renaming free->fK,cell->lN
open PySem.Builtin.Slice renaming slicePlaces->gA,sliceAdjust->rm,slicePartIndex->Gb,sliceApplied->GF
open PySem.Builtin.List renaming listTooLong->gP,listSameRef->rO,listExtendWith->Gp
open PySem.Builtin.Range renaming rangeSize->gU,small->Dp,rangeFitsLong->Gr
open True renaming intro->iC
open ForInStep renaming yield->iQ
open Array renaming length_toList->lJ,getElem?_eq_none->mV,getD->nY,getD_eq_getD_getElem?->pB,getElem?_eq_getElem->rn,getElem?_toList->BZ,forIn_toList->DX,toList_inj->Ft,toList_map->Fv,toList_zip->Fw,toList->Ii
open Sum renaming inl->lV,inr->De
open PySem.Builtin.Dict_items renaming ownsTuple->oX
open PySem.Heap.SameBut renaming update->oZ
open PySem.Calls renaming Name_function_global->pG,spliced_cons->pK,spliced_nil->rA,callWith_builtin->Br,evalArgs_plain->Cy
open PySem.Builtin.Tuple renaming tupleItemsOf->pO,tupleIsExact->Hs
open PySem.Around renaming under->sY
open PySem.ReadAtMost renaming cons->BK
open PySem.Builtin.Dict renaming showsAll->Cd
open PySem.Heap.IsSliceOf renaming new->DK
open PySem.AutoListH renaming list___mul___list_int_3->Ei
open PySem.Code renaming isFrame->El,isGuard->Im,frames->KD
open PySem.AutoSeq1 renaming list_extend_list_list_0->Et,sub_list_list->IK
open PySem.Heap.DictOf renaming new->Gh
open PySem.Walks renaming list->GP,range->Ku
open PySem.ReprIs renaming int->GX
open List.Perm renaming refl->Hh
open PyProof renaming noPylong_of_log2->HH,noPylong_small->Kf
open PySem.ReadsAll renaming cons->HJ
open List.Pairwise renaming imp_of_mem->HN,nil->Mr
open PySem.W.Looks renaming of_pure->HQ,here->Nh,tag->Nt,ld->Nu
open List.cons renaming inj->HR
open PyProof.Rows.IsTup renaming new->Ia
open PySem.Clear renaming nil->Ie
open PySem.MeetsSeq renaming list_pop_last->Ir
open PySem.W.KatTups renaming cons->Ke,nil->K6
open PySem.W.KF renaming slot_gs->Kl
open PySem.CmpOp renaming NotIn->Kq,In->M3
open PySem.IsRange renaming new->Kv
open PySem.SeqAt.EqAt renaming int_str->Ln,str_int->Lp,int_int->Lz
open PySem.SeqAt renaming EqAt->Ly
open PySem.W.WShape renaming has->LR
open PySem.Heap.Ns1 renaming of_empty->Mm
open PySem.DictEntry renaming refKey->My,key->M9,val->Nb
open PySem.Str renaming empty->Mz
open PySem.W.WData renaming int->MJ
open PySem.Heap.DictOfH renaming new->MN
open PySem.Heap.Ns renaming of_isNs->MT,new->Nq
open PySem.Value.ref renaming inj->Nf
open PySem.BindsTo renaming of_eq->Ng
open Eq renaming symm->Nj
open Sum.inl renaming inj->Nk
open Sum.inr renaming inj->Nm
open PySem.ItemsOf renaming nil->Nr
abbrev Aa:List PySem.Str:=["thing"]
abbrev Ab:List PySem.Str:=["base","thing"]
abbrev Ac:List PySem.Str:=["store"]
abbrev Ad:List PySem.Str:=["bad","figures"]
abbrev Ae:List PySem.Str:=["store","many"]
abbrev Af:List PySem.Str:=["rule"]
abbrev Ag:List PySem.Str:=["self"]
abbrev Ah:List PySem.Str:=["self","stretch"]
abbrev Ai:List PySem.Str:=["store","keeper","rule","held"]
abbrev Aj:List PySem.Str:=["self","place","stop","left"]
abbrev Ak:List PySem.Str:=["base","n"]
abbrev Al:List PySem.Str:=["self","n"]
abbrev Am:List PySem.Str:=["store","base","few"]
abbrev An:List PySem.Str:=["self","layer","place","stop"]
abbrev Ao:List PySem.Str:=["rule","n"]
abbrev Ap:List PySem.Str:=["self","size"]
abbrev Aq:List PySem.Str:=["store","base"]
abbrev Ar:List PySem.Str:=["self","left"]
abbrev As:List PySem.Str:=["self","rule"]
abbrev At:List PySem.Str:=["self","bad"]
abbrev Au:List PySem.Str:=["e","due"]
abbrev Av:List PySem.Str:=["bad","stand","figure"]
abbrev Aw:List PySem.Str:=["rule","most"]
abbrev Ax:List PySem.Str:=["stretches"]
abbrev Ay:List PySem.Str:=["script","k"]
abbrev Az:List PySem.Str:=["rule","stands","stand"]
abbrev A0:List PySem.Str:=["self","rule","b"]
abbrev A5:List PySem.Str:=["self","k"]
abbrev A6:List PySem.Str:=["stretch","figures"]
abbrev A8:List PySem.Str:=["bad","stands","figures"]
abbrev A9:List PySem.Str:=["rule","stands"]
abbrev Ba:List PySem.Str:=["self","figures"]
abbrev Bb:List PySem.Str:=["store","rule"]
abbrev Bc:List PySem.Str:=["rule","deed"]
abbrev Bd:List PySem.Str:=["keeper","deed","due"]
abbrev Be:List PySem.Str:=["self","place","k","left"]
abbrev Bf:List PySem.Str:=["self","size","k"]
abbrev Bg:List PySem.Str:=["tails","k"]
abbrev Bh:List PySem.Str:=["rule","steps","rows","stand","more","k"]
abbrev Bi:List PySem.Str:=["rule","k"]
abbrev Bj:List PySem.Str:=["keeper","rule","k"]
abbrev Bk:List PySem.Str:=["keeper","rule","b","deed"]
abbrev Bl:List PySem.Str:=["bad","found","stretch","size","stand"]
abbrev ZA:=List (List Int)
abbrev ZB:=List (PySem.Addr×List Int)
namespace L2
open PySem PySem.Spec PyProof.Rows
abbrev Key:=Sum Int bZ
def zaM:Key->aD->Bool
 |.inl k,v=>Ck k v
 |.inr x,v=>Hx x v
def zjS(w:bU):Key->Int
 |.inl k=>hashInt k
 |.inr x=>hashStr w x
theorem vB:∀{k:Key} {v:aD},zaM k v=true->(∃i t,k=lV i/\v=lA i t)\/(∃x t,k=De x/\v=nH x t)
 |.inl i,v,h=>by
  obtain⟨t,e⟩:=rz h;exact .inl ⟨i,t,rfl,e⟩
 |.inr x,v,h=>by
  obtain⟨t,e⟩:=Value.isStrOf_shape h;exact .inr ⟨x,t,rfl,e⟩
theorem ze9(i:Int)(t:Tok):zaM (.inl i) (.int i t)=true:=by simp[zaM,Ck]
theorem zfz(x:bZ)(t:Tok):zaM (.inr x) (.str x t)=true:=by simp[zaM,Hx]
theorem ziK(a b:Int):decide ((lV a:Key)=lV b)=(a == b):=by
 by_cases e:a=b
 ·subst e;simp
 ·have h:¬ (lV a:Key)=lV b:=λq=>e (Nk q);rw[decide_eq_false h];exact (beq_eq_false_iff_ne.mpr e).symm
theorem ziS(a b:bZ):decide ((De a:Key)=De b)=decide (a=b):=by
 by_cases e:a=b
 ·subst e;simp
 ·have h:¬ (De a:Key)=De b:=λq=>e (Nm q);rw[decide_eq_false h,decide_eq_false e]
theorem ziA(a:Int)(b:bZ):decide ((lV a:Key)=De b)=false:=decide_eq_false (λq=>nomatch q)
theorem ziT(a:bZ)(b:Int):decide ((De a:Key)=lV b)=false:=decide_eq_false (λq=>nomatch q)
def wU(prog:bx)(w:bU):PySem.KeyKind prog w Key where
 is:=zaM
 hash:=zjS w
 inj:=λv a b ha hb=>by
  rcases vB ha with ⟨i,t,rfl,rfl⟩ | ⟨x,t,rfl,rfl⟩
  ·rcases vB hb with ⟨j,u,rfl,e⟩ | ⟨y,u,rfl,e⟩
   ·injection e with e1 _;rw[e1]
   ·exact nomatch e
  ·rcases vB hb with ⟨j,u,rfl,e⟩ | ⟨y,u,rfl,e⟩
   ·exact nomatch e
   ·injection e with e1 _;rw[e1]
 byValue:=λk v h=>by
  rcases vB h with ⟨i,t,rfl,rfl⟩ | ⟨x,t,rfl,rfl⟩<;>rfl
 pyHash:=λhv h=>by
  rcases vB hv with ⟨i,t,rfl,rfl⟩ | ⟨x,t,rfl,rfl⟩
  ·exact wpAny_pyHash_int h
  ·exact wpAny_pyHash_str h
 eqBool:=λhu hv h=>by
  rcases vB hu with ⟨i,t,rfl,rfl⟩ | ⟨x,t,rfl,rfl⟩
  ·rcases vB hv with ⟨j,u,rfl,rfl⟩ | ⟨y,u,rfl,rfl⟩
   ·rw[ziK]at h;exact rT h
   ·rw[ziA]at h;exact Ln i t y u _ _ _ _ h
  ·rcases vB hv with ⟨j,u,rfl,rfl⟩ | ⟨y,u,rfl,rfl⟩
   ·rw[ziT]at h;exact Lp x t j u _ _ _ _ h
   ·rw[ziS]at h;exact wpAny_eqBool_str h
 «strs»:=λk x t v h=>by
  rcases vB h with ⟨i,u,rfl,e⟩ | ⟨y,u,rfl,e⟩
  ·exact nomatch e
  ·injection e with e1 _
   subst e1;cases v<;>rfl
theorem zcq(prog:bx)(w:bU)(i:Int)(t:Tok):(wU prog w).is (.inl i) (.int i t)=true:=ze9 i t
theorem zcj(prog:bx)(w:bU)(x:bZ)(t:Tok):(wU prog w).is (.inr x) (.str x t)=true:=zfz x t
inductive V where
 |non | bl (b:Bool) | int (i:Int) | str (x:bZ) | byt (b:Array UInt8) | flt (b:UInt64) | ref (a:au) | ty (n:String)
 deriving DecidableEq
def RelV:V->aD->Prop
 |.non,u=>u=eY
 |.bl b,u=>u=nJ b
 |.int i,u=>∃t,u=lA i t
 |.str x,u=>∃t,u=nH x t
 |.byt b,u=>∃t,u=Ko b t
 |.flt b,u=>∃t,u=FN b t
 |.ref a,u=>u=aU a
 |.ty n,u=>u=gK n
abbrev Vals:List V->List aD->Prop:=Paired RelV
theorem Vals.length(r:Vals xs us):xs.length=us.length:=Paired.length r
theorem Vals.get:∀{xs:List V} {us:List aD} {i:Nat} {x:V},Vals xs us->xs[i]?=some x->∃u,us[i]?=some u/\RelV x u
 |_,_,_,_,.nil,e=>by simp at e
 |_,_,0,_,.cons r _,e=>by simp at e;subst e;exact⟨_,rfl,r⟩
 |_,_,i+1,x,.cons _ t,e=>by
  obtain⟨u,h1,h2⟩:=Vals.get t (by simpa using e);exact⟨u,by simpa using h1,h2⟩
theorem Vals.set{x:V}{u:aD}(r:RelV x u):∀{xs:List V} {us:List aD} (i:Nat),Vals xs us->Vals (xs.set i x) (us.set i u)
 |_,_,_,.nil=>.nil
 |_,_,0,.cons _ t=>.cons r t
 |_,_,i+1,.cons q t=>.cons q (Vals.set r i t)
theorem Vals.append:∀{xs ys:List V} {us ws:List aD},Vals xs us->Vals ys ws->Vals (xs++ys) (us++ws)
 |_,_,_,_,.nil,s=>s
 |_,_,_,_,.cons r t,s=>.cons r (Vals.append t s)
theorem Vals.take:∀{xs:List V} {us:List aD} (n:Nat),Vals xs us->Vals (xs.take n) (us.take n)
 |_,_,0,_=>.nil
 |_,_,_+1,.nil=>.nil
 |_,_,n+1,.cons r t=>.cons r (Vals.take n t)
theorem Vals.drop:∀{xs:List V} {us:List aD} (n:Nat),Vals xs us->Vals (xs.drop n) (us.drop n)
 |_,_,0,r=>r
 |_,_,_+1,.nil=>.nil
 |_,_,n+1,.cons _ t=>Vals.drop n t
def RelO:Option V->Option aD->Prop
 |some v,some u=>RelV v u
 |none,none=>True
 |_,_=>False
def KV:List (κ×V)->List (κ×aD)->Prop:=Paired λp q=>p.1=q.1/\RelV p.2 q.2
def kV:Key->V
 |.inl i=>.int i
 |.inr x=>.str x
inductive An3 (a b c:Prop):Prop
 |mk (h0:a) (h1:b) (h2:c):An3 a b c
inductive An4 (a b c d:Prop):Prop
 |mk (h0:a) (h1:b) (h2:c) (h3:d):An4 a b c d
inductive An5 (a b c d e:Prop):Prop
 |mk (h0:a) (h1:b) (h2:c) (h3:d) (h4:e):An5 a b c d e
inductive An6 (a b c d e f:Prop):Prop
 |mk (h0:a) (h1:b) (h2:c) (h3:d) (h4:e) (h5:f):An6 a b c d e f
inductive An7 (a b c d e f g:Prop):Prop
 |mk (h0:a) (h1:b) (h2:c) (h3:d) (h4:e) (h5:f) (h6:g):An7 a b c d e f g
inductive An8 (a b c d e f g h:Prop):Prop
 |mk (h0:a) (h1:b) (h2:c) (h3:d) (h4:e) (h5:f) (h6:g) (h7:h):An8 a b c d e f g h
inductive An9 (a b c d e f g h i:Prop):Prop
 |mk (h0:a) (h1:b) (h2:c) (h3:d) (h4:e) (h5:f) (h6:g) (h7:h) (h8:i):An9 a b c d e f g h i
inductive Ex2 {α β:Type} (p:α->β->Prop):Prop
 |mk (a:α) (b:β) (h:p a b):Ex2 p
inductive Ex3 {α β γ:Type} (p:α->β->γ->Prop):Prop
 |mk (a:α) (b:β) (c:γ) (h:p a b c):Ex3 p
inductive Ex4 {α β γ δ:Type} (p:α->β->γ->δ->Prop):Prop
 |mk (a:α) (b:β) (c:γ) (d:δ) (h:p a b c d):Ex4 p
inductive Ex5 {α β γ δ ε:Type} (p:α->β->γ->δ->ε->Prop):Prop
 |mk (a:α) (b:β) (c:γ) (d:δ) (e:ε) (h:p a b c d e):Ex5 p
inductive Ex6 {α β γ δ ε ζ:Type} (p:α->β->γ->δ->ε->ζ->Prop):Prop
 |mk (a:α) (b:β) (c:γ) (d:δ) (e:ε) (f:ζ) (h:p a b c d e f):Ex6 p
inductive HO where
 |lst (xs:List V)
 |tup (xs:List V)
 |dK (kvs:List (Key×V)) | dT (kvs:List (List Key×V))
 |set (S:Int->Bool) (n:Nat)
 |ins (C dx:au) (fs:List (bZ×V))
 |own (x:au)
 |xd (fs:List (bZ×V))
 |met (f x:au)
 |rng (lo hi:Int)
 |frz (o:kZ) (u:HO)
 |tbl (ps:Array aD)
 |ext (φ:dj->Prop)
abbrev Hp:=au->Option HO
def upd(H:Hp)(a:au)(o:HO):Hp:=λb=>if b=a then some o else H b
theorem zj:upd H a o a=some o:=by unfold upd;rw[if_pos rfl]
theorem zy(h:b≠a):upd H a o b=H b:=by unfold upd;rw[if_neg h]
theorem zed:upd (upd H a o) a u=upd H a u:=by
 funext b;unfold upd;split<;>rfl
theorem qp{H:Hp}(h:H a=some o)(h':H b=some u)(d:o≠u):a≠b:=by
 intro e;subst e;rw[h]at h';exact d (bN h')
theorem zz{H:Hp}(h:H a=some o)(h':H b=none):a≠b:=by
 intro e;subst e;rw[h]at h';cases h'
section
variable (P:bx) (w:bU)
def ObjOk(H:Hp)(h:dj)(a:au):HO->Prop
 |.lst xs=>xs.length<=aA/\∃(its:List aD) (n:Nat),Vals xs its/\h.get? a=some { cls:=.type "list",data:=.seq its.toArray n }
 |.tup xs=>xs.length<=aA/\∃its:List aD,Vals xs its/\FP h a its.toArray
 |.dK kvs=>kvs.length<=aA/\(a == gM)=false/\∃vs,KV kvs vs/\h.DictOf (wU P w) a vs
 |.dT kvs=>kvs.length<=aA/\(a == gM)=false/\∃xs:List (List Key×au×aD),
   Paired (λ(p:List Key×V) (q:List Key×au×aD)=>p.1=q.1/\H q.2.1=some (.tup (p.1.map kV))/\RelV p.2 q.2.2) kvs xs /\
   ∃o es ep,h.get? a=some o/\o.ExactDict/\o.data=.dict es ep/\es.toList=xs.map (Lq (gR (wU P w)))/\(xs.map (·.1)).Nodup
 |.set S n=>h.SetOf (intKind P w) a S n
 |.ins C dx fs=>H dx=some (.own a)/\fs.length<=1000/\dx≠a/\h.get? a=some (nM C dx) /\
   ∃mA,h.Ns1 dx mA/\(∀f,RelO (fs.lookup f) (mA f))/\PySem.Within mA (fs.map (·.1))
 |.own _=>∃o,h.get? a=some o
 |.xd fs=>∃mA,h.Ns1 a mA/\∀f,RelO (fs.lookup f) (mA f)
 |.rng lo hi=>∃t u v,h.get? a=some { cls:=.type "range",data:=.fields #[.int lo t,.int hi u,.int 1 v] }
 |.frz o u=>h.get? a=some o/\ObjOk H h a u
 |.tbl ps=>h.get? a=some { cls:=.none,data:=.fields ps }
 |.met f x=>h.get? a=some (W.methodObj (.ref f) (.ref x))
 |.ext φ=>φ h/\(∃o,h.get? a=some o)/\∀h1 h2:dj,φ h1->(∀o,h1.get? a=some o->h2.get? a=some o)->φ h2
def HOk(H:Hp)(h:dj):Prop:=∀a o,H a=some o->ObjOk P w H h a o
end
section
variable {P:bx} {w:bU} {H H':Hp} {h h':dj} {a:au} {o:HO}
theorem ObjOk.lt(x:ObjOk P w H h a o):a<h.objs.size:=by
 cases o with
 |lst c=>obtain⟨_,_,_,_,e⟩:=x;exact aM e
 |tup c=>obtain⟨_,_,_,p⟩:=x;exact p.lt
 |dK b=>obtain⟨_,_,_,_,o,_,_,e,_⟩:=x;exact aM e
 |dT b=>obtain⟨_,_,_,_,o,_,_,e,_⟩:=x;exact aM e
 |set S n=>obtain⟨o,_,_,_,e,_⟩:=x;exact aM e
 |ins C dx d=>obtain⟨_,_,_,e,_⟩:=x;exact aM e
 |own y=>obtain⟨_,e⟩:=x;exact aM e
 |xd d=>obtain⟨_,⟨_,_,_,e,_⟩,_⟩:=x;exact aM e
 |rng lo hi=>obtain⟨_,_,_,e⟩:=x;exact aM e
 |frz ob u=>obtain⟨e,_⟩:=x;exact aM e
 |tbl ps=>exact aM (show h.get? a=some _ from x)
 |met f y=>exact aM (show h.get? a=some _ from x)
 |ext φ=>obtain⟨_,⟨_,e⟩,_⟩:=x;exact aM e
theorem Paired.mapP{α β:Type}{F G:α->β->Prop}:∀{l₁:List α} {l₂:List β},Paired F l₁ l₂->(∀a b,F a b->G a b)->Paired G l₁ l₂
 |_,_,.nil,_=>.nil
 |_,_,.cons r t,f=>.cons (f _ _ r) (Paired.mapP t f)
theorem ObjOk.stay(x:ObjOk P w H h a o)(k:∀b u,(b=a\/H b=some (.own a))->h.get? b=some u->h'.get? b=some u)(ho:∀b,H b=some (.own a)->H' b=some (.own a))(ht:∀b xs,H b=some (.tup xs)->H' b=some (.tup xs)):ObjOk P w H' h' a o:=by
 induction o with
 |lst xs=>obtain⟨z,l,n,r,e⟩:=x;exact⟨z,l,n,r,k _ _ (.inl rfl) e⟩
 |tup xs=>obtain⟨z,l,r,g,e,c⟩:=x;exact⟨z,l,r,g,k _ _ (.inl rfl) e,c⟩
 |dK m=>obtain⟨z,y,D,r,g,i,j,e,c⟩:=x;exact⟨z,y,D,r,g,i,j,k _ _ (.inl rfl) e,c⟩
 |dT m=>
  obtain⟨z,y,xs,r,g,i,j,e,c⟩:=x;exact⟨z,y,xs,Paired.mapP r λp q z=>⟨z.1,ht _ _ z.2.1,z.2.2⟩,g,i,j,k _ _ (.inl rfl) e,c⟩
 |set S n=>obtain⟨g,i,j,t,e,c⟩:=x;exact⟨g,i,j,t,k _ _ (.inl rfl) e,c⟩
 |ins C dx E=>
  obtain⟨d,z,F,e,s,⟨A,i,j,G,c⟩,r⟩:=x;exact⟨ho _ d,z,F,k _ _ (.inl rfl) e,s,⟨A,i,j,k _ _ (.inr d) G,c⟩,r⟩
 |own y=>obtain⟨g,e⟩:=x;exact⟨g,k _ _ (.inl rfl) e⟩
 |xd E=>obtain⟨s,⟨A,i,j,e,c⟩,r⟩:=x;exact⟨s,⟨A,i,j,k _ _ (.inl rfl) e,c⟩,r⟩
 |rng lo hi=>obtain⟨t,u,v,e⟩:=x;exact⟨t,u,v,k _ _ (.inl rfl) e⟩
 |frz g u I=>obtain⟨e,q⟩:=x;exact⟨k _ _ (.inl rfl) e,I q⟩
 |tbl ps=>
  have e:=x;exact k a _ (.inl rfl) e
 |met f y=>
  have e:=x;exact k a _ (.inl rfl) e
 |ext φ=>obtain⟨p,⟨o,e⟩,B⟩:=x;exact⟨B _ _ p λo q=>k _ _ (.inl rfl) q,⟨o,k _ _ (.inl rfl) e⟩,B⟩
theorem HOk.lt(x:HOk P w H h)(e:H a=some o):a<h.objs.size:=(x a o e).lt
theorem HOk.fresh(x:HOk P w H h)(e:h.objs.size<=a):H a=none:=by
 cases q:H a with
 |none=>rfl
 |some u=>exact absurd (aO (x.lt q) e) (eQ _)
theorem HOk.kept(x:HOk P w H h)(k:∀b u,h.get? b=some u->h'.get? b=some u):HOk P w H h':=λa o e=>
 (x a o e).stay (λb u _ q=>k b u q) (λ_ q=>q) λ_ _ q=>q
theorem HOk.laid(x:HOk P w H h)(k:∀b u,h.get? b=some u->h'.get? b=some u)(hp:h.objs.size<=a)(new:ObjOk P w (upd H a o) h' a o):HOk P w (upd H a o) h':=λb u e=>by
 have d:=x.fresh hp;by_cases f:b=a
 ·subst f;rw[zj]at e;cases e;exact new
 ·rw[zy f]at e;exact (x b u e).stay (λc v _ q=>k c v q) (λc q=>by rw[zy (zz q d)];exact q) λc xs q=>by rw[zy (zz q d)];exact q
end
def Rd(H:Hp)(a:au)(u:HO):Prop:=H a=some u\/∃o,H a=some (.frz o u)
theorem Rd.ok(r:Rd H a u)(x:HOk P w H h):ObjOk P w H h a u:=by
 rcases r with r | ⟨o,r⟩
 ·exact x a u r
 ·obtain⟨_,q⟩:=x a _ r;exact q
def Mut:Option HO->Prop
 |some (.lst _)=>True
 |some (.dK _)=>True
 |some (.dT _)=>True
 |some (.set _ _)=>True
 |some (.ins _ _ _)=>True
 |some (.ext _)=>True
 |_=>False
section
variable {P:bx} {w:bU} {H:Hp} {h h':dj} {x e:au} {o':HO}
theorem HOk.write(ok:HOk P w H h)(mu:Mut (H x))(he:e=x\/H e=some (.own x))(k:∀b u,b≠e->h.get? b=some u->h'.get? b=some u)(heo:∃u,h'.get? e=some u)(new:ObjOk P w (upd H x o') h' x o'):HOk P w (upd H x o') h':=λb u q=>by
 have d:∀c y,H c=some (.own y)->c≠x:=λc y r z=>by subst z;rw[r]at mu;exact mu
 have f:∀c g,H c=some (.tup g)->c≠x:=λc g r z=>by subst z;rw[r]at mu;exact mu
 by_cases i:b=x
 ·subst i;rw[zj]at q;cases q;exact new
 ·rw[zy i]at q;by_cases a:b=e
  ·have l:H b=some (.own x):=by
    rcases he with z | z
    ·exact absurd (a.trans z) i
    ·rw[a];exact z
   rw[q]at l;cases l
   obtain⟨v,m⟩:=heo;exact⟨v,by rw[a];exact m⟩
  ·refine (ok b u q).stay (λc v j r=>k c v ?_ r) (λc r=>by rw[zy (d c b r)];exact r) λc g r=>by rw[zy (f c g r)];exact r
   rcases j with rfl | j
   ·exact a
   ·rintro rfl;rcases he with z | z
    ·exact d c b j z
    ·rw[j]at z;cases z;exact i rfl
end
structure Un (fs ex:List au) (H H':Hp) (h h':dj):Prop where
 keep:∀b o,h.get? b=some o->H b=none->b∉fs->b∉ex->h'.get? b=some o
 slot:∀b o,h.get? b=some o->H b=none->b∈fs->b∉ex->∃sl,h'.get? b=some { o with slots:=sl }
 free:∀b o,h.get? b=some o->H b=none->b∉ex->H' b=none
 there:∀b o,h.get? b=some o->b∉ex->∃o',h'.get? b=some o'
 tups:∀b xs,H b=some (.tup xs)->H' b=some (.tup xs)
 frzs:∀b o u,H b=some (.frz o u)->H' b=some (.frz o u)
 tbls:∀b ps,H b=some (.tbl ps)->∃more,H' b=some (.tbl (ps++more))
section
variable {fs fs' ex ex':List au} {H H1 H2:Hp} {h h1 h2 h':dj} {a x e:au} {o:HO}
theorem Un.any(u:Un fs ex H H1 h h1)(q:h.get? b=some ob)(n:H b=none)(hx:b∉ex):∃sl,h1.get? b=some { ob with slots:=sl }:=by
 by_cases a:b∈fs
 ·exact u.slot b ob q n a hx
 ·exact⟨ob.slots,u.keep b ob q n a hx⟩
theorem Un.kept(k:∀b u,h.get? b=some u->h'.get? b=some u):Un fs ex H H h h' :=
 ⟨λb a q _ _ _=>k b a q,λb a q _ _ _=>⟨a.slots,k b a q⟩,λ_ _ _ n _=>n,λb a q _=>⟨a,k b a q⟩,λ_ _ q=>q,λ_ _ _ q=>q,λ_ ps q=>⟨#[],by rw[q];simp⟩⟩
theorem Un.refl:Un fs ex H H h h:=Un.kept λ_ _ q=>q
theorem Un.laid(k:∀b u,h.get? b=some u->h'.get? b=some u)(hp:h.objs.size<=a)(hn:H a=none):Un fs ex H (upd H a o) h h' where
 keep:=λb u q _ _ _=>k b u q
 slot:=λb u q _ _ _=>⟨u.slots,k b u q⟩
 free:=λb u q n _=>by rw[zy (bj (aO (aM q) hp))];exact n
 there:=λb u q _=>⟨u,k b u q⟩
 tups:=λb c q=>by rw[zy (zz q hn)];exact q
 frzs:=λb u c q=>by rw[zy (zz q hn)];exact q
 tbls:=λb ps q=>⟨#[],by rw[zy (zz q hn),q];simp⟩
theorem Un.write(mu:Mut (H x))(he:e=x\/H e=some (.own x))(k:∀b u,b≠e->h.get? b=some u->h'.get? b=some u)(heo:∃u,h'.get? e=some u):Un fs ex H (upd H x o) h h':=by
 have d:∀b,H b=none->b≠x:=λb n z=>by subst z;rw[n]at mu;exact mu
 have f:∀b,H b=none->b≠e:=λb n z=>by
  subst z;rcases he with r | r
  ·exact d b n r
  ·rw[n]at r;cases r
 have c:∀b u,H b=some u->¬ Mut (some u)->b≠x:=λb u q g z=>by subst z;rw[q]at mu;exact g mu
 refine⟨λb u q n _ _=>k b u (f b n) q,λb u q n _ _=>⟨u.slots,k b u (f b n) q⟩,λb u q n _=>by rw[zy (d b n)];exact n,λb u q _=>?_,
  λb i q=>by rw[zy (c b _ q λz=>z)];exact q,λb u i q=>by rw[zy (c b _ q λz=>z)];exact q,λb ps q=>⟨#[],by rw[zy (c b _ q λz=>z),q];simp⟩⟩
 by_cases a:b=e
 ·subst a;exact heo
 ·exact⟨u,k b u a q⟩
end
def trk(h:dj)(H:Hp):List au:=(bJ h.objs.size).filter λa=>(H a).isSome
def zaC(h:dj)(H:Hp):dj:=Ff h (trk h H)
theorem zfh(h:dj)(H:Hp):(zaC h H).objs.size=h.objs.size:=W.hideAll_size _ _
theorem zfV(e:h.get? b=some o)(n:H b=none):(zaC h H).get? b=some o :=
 Ds _ e λa=>by
  have q:=(dm.mp a).2;rw[n]at q;simp at q
theorem zhT(e:(zaC h H).get? b=some o):h.get? b=some o/\H b=none:=by
 have a:=Ej (trk h H) e;refine⟨a,?_⟩;cases q:H b with
 |none=>rfl
 |some x=>
  have c:b∈trk h H:=dm.mpr ⟨cI.mpr (aM a),by simp[q]⟩;have z:(zaC h H).get? b=none:=Cm (trk h H) c;rw[z]at e;cases e
def zhW(g h:dj)(L:au):List (au×kZ):=(bJ h.objs.size).filterMap λa=>if a=L\/(g.get? a).isSome=true then none else (h.get? a).map λo=>(a,o)
def rest(g h:dj)(L d:au):List (au×kZ):=(zhW g h L).filter λp=>decide (p.1≠d)
structure Mod (K:aK) (mg:bZ->Option aD) (base:dj):Prop where
 kin:K.In base
 glob:base.Ns cz mg
 blt:∃mb,base.Ns sS mb/\∀x:bZ,x ≠ "__name__"->mb x=iy x
 nolimit:base.NoLimit
structure Cx where
 prog:bx
 w:bU
 K:aK
 mg:bZ->Option aD
 base:dj
 A:dB
 N:List bZ
 s₀:aP
 H₀:Hp
 env:Li
 outer:List Li
 stack:List Li
 ex:List au
 fn:bZ->Bool
 calm:Bool
 pn:List (au×kZ)
 xe:aD->aP->Prop
def frs(l:List Li):List au:=l.filterMap (·.frame)
abbrev Cx.fs(X:Cx):List au:=frs X.outer
def Vis(sc:iZ)(x:bZ):Prop:=sc.names.lookup x=some .local\/sc.names.lookup x=some .cell\/sc.names.lookup x=some .free
def Loc(sc:iZ)(x:bZ):Prop:=sc.names.lookup x=some .local\/sc.names.lookup x=some .cell
def Look(env:Li)(h:dj)(m:bZ->Option aD)(x:bZ)(u:aD):Prop :=
 (env.kindOf x=some .local/\m x=some u)\/((env.kindOf x=some .cell\/env.kindOf x=some .free)/\∃c,env.cells.lookup x=some c/\h.IsCell c (some u))
structure Cx.Ok (X:Cx):Prop where
 mod:Mod X.K X.mg X.base
 kind:X.env.scope.kind=.function
 glob:X.env.globals=cz
 blt:X.env.builtins=sS
 above:X.s₀.heap.objs.size<=X.env.locals
 inj:∀x y c,X.env.cells.lookup x=some c->X.env.cells.lookup y=some c->x=y
 has:∀x,(X.env.kindOf x=some .cell\/X.env.kindOf x=some .free)->∃c,X.env.cells.lookup x=some c
 cab:∀x c,X.fn x=true->X.env.cells.lookup x=some c->X.s₀.heap.objs.size<=c
 hd:X.calm=true->X.A.handled=none
 frames:X.A.frames=some X.stack
 stk:X.stack=X.outer\/(X.stack=X.env::X.outer/\X.env.frame=some X.env.locals)
 exf:∀b∈X.ex,b≠X.env.locals/\∀x c,X.env.cells.lookup x=some c->c≠b
 bs:∀b o,X.base.get? b=some o->X.s₀.heap.get? b=some o/\X.H₀ b=none
 bsz:X.base.objs.size<=X.s₀.heap.objs.size
 noex:∀b o,X.base.get? b=some o->b∉X.ex
 exfs:∀b∈X.ex,b∉X.fs
 funs:X.s₀.heap.FunFrames X.base X.outer
 frf:∀b∈X.fs,X.H₀ b=none
structure Inv (X:Cx) (pins:List (au×kZ)) (Z:List (Option V)) (H:Hp) (s:aP):Prop where
 ok:X.Ok
 os:s.os=X.s₀.os
 bare:lW s.gens
 base:Un X.fs X.ex X.H₀ H X.s₀.heap s.heap
 loc:∃m,s.heap.Ns X.env.locals m/\∀(i:Nat) (x:bZ) (v:V),X.N[i]?=some x->Z[i]?=some (some v)->Vis X.env.scope x->∃u,RelV v u/\Look X.env s.heap m x u
 cell:∀x c,X.env.cells.lookup x=some c->∃v,s.heap.IsCell c v
 free:H X.env.locals=none
 freeC:∀x c,X.env.cells.lookup x=some c->H c=none
 pin:∀p∈X.pn++pins,s.heap.get? p.1=some p.2/\H p.1=none/\p.1≠X.env.locals/\p.1∉X.fs/\∀v,p.2.data≠.cell v
 hok:HOk X.prog X.w H s.heap
 len:Z.length=X.N.length
section
variable {X:Cx} {pins:List (au×kZ)} {Z:List (Option V)} {H H':Hp} {s:aP} {h':dj}
theorem Cx.Ok.nofr(ok:X.Ok)(e:X.base.get? b=some o):b∉X.fs:=λa=>by
 have:=(ok.funs.mem a).1;rw[e]at this;cases this
theorem Inv.bs(I:Inv X pins Z H s):∀b o,X.base.get? b=some o->s.heap.get? b=some o/\H b=none:=λb o e=>
 ⟨I.base.keep b o (I.ok.bs b o e).1 (I.ok.bs b o e).2 (I.ok.nofr e) (I.ok.noex b o e),I.base.free b o (I.ok.bs b o e).1 (I.ok.bs b o e).2 (I.ok.noex b o e)⟩
theorem Inv.bk(I:Inv X pins Z H s):∀b o,X.base.get? b=some o->s.heap.get? b=some o:=λb o e=>(I.bs b o e).1
theorem Inv.mod(I:Inv X pins Z H s):Mod X.K X.mg X.base:=I.ok.mod
theorem Inv.kIn(I:Inv X pins Z H s):X.K.In s.heap:=I.ok.mod.kin.keeps I.bk
theorem Inv.nolimit(I:Inv X pins Z H s):s.heap.NoLimit:=I.ok.mod.nolimit.keeps I.bk
theorem Inv.fr(I:Inv X pins Z H s):∃m,Fr X.base X.env.locals s.heap m :=
 let ⟨m,hn,_⟩:=I.loc
 ⟨m,hn,I.bk,aB I.ok.bsz I.ok.above⟩
theorem Inv.lt(I:Inv X pins Z H s):X.env.locals<s.heap.objs.size:=let ⟨_,hn,_⟩:=I.loc;hn.lt
theorem Inv.sz(I:Inv X pins Z H s):X.s₀.heap.objs.size<=s.heap.objs.size:=aB I.ok.above (iz I.lt)
theorem Inv.nofs(I:Inv X pins Z H s){a:au}(h:s.heap.objs.size<=a):a∉X.fs:=λb=>by
 obtain⟨_,o,c,_⟩:=I.ok.funs.mem b;exact absurd (aO (aM c) (aB I.sz h)) (eQ _)
theorem Inv.cne(I:Inv X pins Z H s):∀x c,X.env.cells.lookup x=some c->c≠X.env.locals:=λx c e z=>by
 obtain⟨v,o,d,f⟩:=I.cell x c e;obtain⟨m,⟨o',es,ep,a,b,_⟩,_⟩:=I.loc;rw[z,a]at d;cases d;rw[b]at f;cases f
theorem Inv.funs(I:Inv X pins Z H s):s.heap.FunFrames X.base X.outer:=by
 have all:∀l,(∀b∈frs l,b∈X.fs)->X.s₀.heap.FunFrames X.base l->s.heap.FunFrames X.base l:=by
  intro l
  induction l with
  |nil=>intro _ _;trivial
  |cons env r h=>
   intro g i;obtain⟨j,⟨L,o,c,k,m,n⟩,p⟩:=i;have d:=g L (by unfold frs;rw[oY,c];exact bI);obtain⟨sl,e⟩:=I.base.slot L o m (I.ok.frf L d) d λz=>I.ok.exfs L z d;exact⟨j,⟨L,_,c,k,e,n⟩,h (λb f=>g b (by unfold frs;rw[oY,c];exact bQ _ f)) p⟩
 exact all X.outer (λ_ f=>f) I.ok.funs
theorem Inv.stack(I:Inv X pins Z H s):s.heap.FunFrames X.base X.stack:=by
 rcases I.ok.stk with e | ⟨e,a⟩
 ·rw[e];exact I.funs
 ·rw[e];obtain⟨m,b,_⟩:=I.loc;refine .cons (by rw[I.ok.kind];decide) a b ?_ I.funs;exact Heap.get?_none_of_le (aB I.ok.bsz I.ok.above)
theorem Inv.stkSub(I:Inv X pins Z H s):∀b∈frs X.stack,b∈X.env.locals::X.fs:=λb a=>by
 rcases I.ok.stk with e | ⟨e,c⟩
 ·rw[e]at a;exact bQ _ a
 ·rw[e]at a;unfold frs at a;rw[oY,c]at a;exact a
theorem Inv.stkFree(I:Inv X pins Z H s):∀b∈frs X.stack,H b=none:=λb a=>by
 rcases aW.mp (I.stkSub b a) with e | a
 ·rw[e];exact I.free
 ·obtain⟨_,o,c,_⟩:=I.ok.funs.mem a;exact I.base.free b o c (I.ok.frf b a) λz=>I.ok.exfs b z a
theorem Inv.step{ch:List au}(I:Inv X pins Z H s)(hch:∀b∈ch,(b∈X.ex\/X.s₀.heap.objs.size<=b)/\b≠X.env.locals/\(∀x c,X.env.cells.lookup x=some c->c≠b)/\∀p∈X.pn++pins,p.1≠b)(keep:∀b o,b≠X.env.locals->b∉X.fs->b∉ch->s.heap.get? b=some o->H b=none->h'.get? b=some o)(slot:∀b o,b≠X.env.locals->b∈X.fs->b∉ch->s.heap.get? b=some o->H b=none->∃sl,h'.get? b=some { o with slots:=sl })(free:∀b o,b∉ch->s.heap.get? b=some o->H b=none->H' b=none)(there:∀b o,b∉ch->s.heap.get? b=some o->∃o',h'.get? b=some o')(tups:∀b xs,H b=some (.tup xs)->H' b=some (.tup xs))(frzs:∀b o u,H b=some (.frz o u)->H' b=some (.frz o u))(tbls:∀b ps,H b=some (.tbl ps)->∃more,H' b=some (.tbl (ps++more)))(ns:∀m,s.heap.Ns X.env.locals m->h'.Ns X.env.locals m)(hok:HOk X.prog X.w H' h')(hg:lW g'):
  Inv X pins Z H' { s with heap:=h',gens:=g',drawn:=d',toks:=t' }:=by
 have A:∀b o,X.s₀.heap.get? b=some o->b≠X.env.locals:=λb o e=>bj (aO (aM e) I.ok.above);have h:∀b o,X.s₀.heap.get? b=some o->b∉X.ex->b∉ch:=λb o e a t=>by
  rcases (hch b t).1 with z | z
  ·exact a z
  ·exact absurd (aO (aM e) z) (eQ _)
 have f:∀x c,X.env.cells.lookup x=some c->∀v,s.heap.IsCell c v->h'.IsCell c v:=λx c e v ⟨o,y,C⟩=>by
  have g:c∉ch:=λz=>(hch c z).2.2.1 x c e rfl;by_cases E:c∈X.fs
  ·obtain⟨sl,q⟩:=slot c o (I.cne x c e) E g y (I.freeC x c e);exact⟨_,q,C⟩
  ·exact⟨o,keep c o (I.cne x c e) E g y (I.freeC x c e),C⟩
 refine⟨I.ok,I.os,hg,⟨λb o e n t a=>?_,λb o e n t a=>?_,λb o e n a=>?_,λb o e a=>?_,λb xs e=>tups b xs (I.base.tups b xs e),λb o xs e=>frzs b o xs (I.base.frzs b o xs e),λb ps e=>?_⟩,?_,λx c e=>?_,?_,λx c e=>?_,λp F=>?_,hok,I.len⟩
 ·exact keep b o (A b o e) t (h b o e a) (I.base.keep b o e n t a) (I.base.free b o e n a)
 ·obtain⟨sl,j⟩:=I.base.slot b o e n t a;obtain⟨D,B⟩:=slot b _ (A b o e) t (h b o e a) j (I.base.free b o e n a);exact⟨D,B⟩
 ·obtain⟨o',j⟩:=I.base.there b o e a;exact free b o' (h b o e a) j (I.base.free b o e n a)
 ·obtain⟨o',j⟩:=I.base.there b o e a;exact there b o' (h b o e a) j
 ·obtain⟨K,j⟩:=I.base.tbls b ps e;obtain⟨L,B⟩:=tbls b _ j;exact⟨K++L,by rw[B,Array.append_assoc]⟩
 ·obtain⟨m,M,N⟩:=I.loc;refine⟨m,ns m M,λi x v j B O=>?_⟩;obtain⟨u,r,l⟩:=N i x v j B O;refine⟨u,r,?_⟩;rcases l with l | ⟨k,c,e,z⟩
  ·exact .inl l
  ·exact .inr ⟨k,c,e,f x c e _ z⟩
 ·obtain⟨v,z⟩:=I.cell x c e;exact⟨v,f x c e v z⟩
 ·obtain⟨m,⟨o,_,_,y,_⟩,_⟩:=I.loc;exact free _ o (λz=>(hch _ z).2.1 rfl) y I.free
 ·obtain⟨v,o,y,C⟩:=I.cell x c e;exact free c o (λz=>(hch c z).2.2.1 x c e rfl) y (I.freeC x c e)
 ·obtain⟨e,n,G,J,d⟩:=I.pin p F;have g:p.1∉ch:=λz=>(hch p.1 z).2.2.2 p F rfl;exact⟨keep p.1 p.2 G J g e n,free p.1 p.2 g e n,G,J,d⟩
theorem Inv.un(I:Inv X pins Z H s)(u:Un X.fs [] H H' s.heap h')(hok:HOk X.prog X.w H' h'):Inv X pins Z H' { s with heap:=h',toks:=t' }:=by
 obtain⟨m,⟨o,es,ep,g,r⟩,_⟩:=id I.loc;obtain⟨sl,h⟩:=u.any g I.free (by simp);exact I.step (ch:=[]) (λ_ z=>nomatch z) (λb o _ c _ e n=>u.keep b o e n c (by simp)) (λb o _ c _ e n=>u.slot b o e n c (by simp)) (λb o _ e n=>u.free b o e n (by simp)) (λb o _ e=>u.there b o e (by simp)) u.tups u.frzs u.tbls (λm' i=>by
  obtain⟨o',d,f,a,j⟩:=i;rw[g]at a;cases a
  exact⟨_,d,f,h,j⟩) hok I.bare
theorem Inv.call(I:Inv X pins Z H s)(u:Un (frs X.stack) ch H H' s.heap h')(hok:HOk X.prog X.w H' h')(hg:lW g')(hch:∀b∈ch,(b∈X.ex\/X.s₀.heap.objs.size<=b)/\b≠X.env.locals/\(∀x c,X.env.cells.lookup x=some c->c≠b)/\∀p∈X.pn++pins,p.1≠b):
  Inv X pins Z H' { s with heap:=h',gens:=g',drawn:=d',toks:=t' }:=by
 obtain⟨m,⟨o,es,ep,i,r⟩,_⟩:=id I.loc;obtain⟨sl,f⟩:=u.any i I.free λz=>(hch _ z).2.1 rfl;exact I.step hch (λb o f j a e n=>u.keep b o e n (λz=>(aW.mp (I.stkSub b z)).elim f j) a) (λb o _ _ a e n=>u.any e n a) (λb o a e n=>u.free b o e n a) (λb o a e=>u.there b o e a) u.tups u.frzs u.tbls (λm' k=>by
  obtain⟨o',g,h,d,l⟩:=k;rw[i]at d;cases d
  exact⟨_,g,h,f,l⟩) hok hg
theorem Inv.turned(I:Inv X pins Z H s)(k:∀b o,b≠it->s.heap.get? b=some o->h'.get? b=some o)(hn:H it=none)(hL:it≠X.env.locals)(h1:it∈X.ex\/X.s₀.heap.objs.size<=it)(h2:∀x c,X.env.cells.lookup x=some c->c≠it)(h3:∀p∈X.pn++pins,p.1≠it):Inv X pins Z H { s with heap:=h',toks:=t' }:=by
 have d:∀b u,H b=some u->b≠it:=λb u e z=>by rw[z,hn]at e;cases e
 refine I.step (ch:=[it]) (λb f=>?_) (λb o _ _ a e _=>k b o (λz=>a (by simp[z])) e) (λb o _ _ a e _=>⟨o.slots,k b o (λz=>a (by simp[z])) e⟩) (λ_ _ _ _ n=>n)
  (λb o a e=>⟨o,k b o (λz=>a (by simp[z])) e⟩) (λ_ _ e=>e) (λ_ _ _ e=>e) (λb ps e=>⟨#[],by rw[e];simp⟩) (λm g=>?_) (λb u e=>?_) I.bare
 ·have e:b=it:=by simpa using f
  subst e;exact⟨h1,hL,h2,h3⟩
 ·obtain⟨o,h,i,j,r⟩:=g;exact⟨o,h,i,k _ o (cF hL) j,r⟩
 ·refine (I.hok b u e).stay (λc v a q=>k c v ?_ q) (λ_ q=>q) λ_ _ q=>q;rcases a with z | z
  ·rw[z];exact d b u e
  ·exact d c _ z
theorem Inv.tok(I:Inv X pins Z H s)(t:Nat):Inv X pins Z H { s with toks:=t }:=I.un (h':=s.heap) (t':=t) Un.refl I.hok
theorem Inv.kept(I:Inv X pins Z H s)(k:∀b u,s.heap.get? b=some u->h'.get? b=some u):Inv X pins Z H { s with heap:=h',toks:=t' }:=I.un (Un.kept k) (I.hok.kept k)
theorem Inv.laid{a:au}(I:Inv X pins Z H s)(k:∀b u,s.heap.get? b=some u->h'.get? b=some u)(hp:s.heap.objs.size<=a)(new:ObjOk X.prog X.w (upd H a o) h' a o):
  Inv X pins Z (upd H a o) { s with heap:=h',toks:=t' }:=I.un (Un.laid k hp (I.hok.fresh hp)) (I.hok.laid k hp new)
theorem Inv.write(I:Inv X pins Z H s)(mu:Mut (H x))(he:e=x\/H e=some (.own x))(k:∀b u,b≠e->s.heap.get? b=some u->h'.get? b=some u)(heo:∃u,h'.get? e=some u)(new:ObjOk X.prog X.w (upd H x o) h' x o):Inv X pins Z (upd H x o) { s with heap:=h',toks:=t' }:=I.un (Un.write mu he k heo) (I.hok.write mu he k heo new)
theorem Inv.weak(I:Inv X pins Z H s)(hl:σ'.length=Z.length)(w:∀(i:Nat) v,σ'[i]?=some (some v)->Z[i]?=some (some v)):Inv X pins σ' H s :=
 ⟨I.ok,I.os,I.bare,I.base,let ⟨m,hn,hl'⟩:=I.loc;⟨m,hn,λi x v a b c=>hl' i x v a (w i v b) c⟩,I.cell,I.free,I.freeC,I.pin,I.hok,hl.trans I.len⟩
theorem Inv.pins_of(I:Inv X pins Z H s)(h:∀p∈pins',s.heap.get? p.1=some p.2/\H p.1=none/\p.1≠X.env.locals/\p.1∉X.fs/\∀v,p.2.data≠.cell v):Inv X pins' Z H s :=
 ⟨I.ok,I.os,I.bare,I.base,I.loc,I.cell,I.free,I.freeC,λp a=>(aZ.mp a).elim (λz=>I.pin p (cY _ z)) (h p),I.hok,I.len⟩
theorem Ju{N:List bZ}(hN:N.Nodup){i j:Nat}(a:N[i]?=some x)(b:N[j]?=some x):i=j:=by
 obtain⟨h1,c⟩:=aV.mp a;obtain⟨h2,d⟩:=aV.mp b;exact (nO hN).mp (c.trans d.symm)
theorem za6(I:Inv X pins Z H s)(hN:X.N.Nodup)(hi:X.N[i]?=some x)(hx:Loc X.env.scope x)(r:RelV v u)(h:∀s',Inv X pins (Z.set i (some v)) H s'->(∃a,mO a s.heap s'.heap/\(a=X.env.locals\/X.env.cells.lookup x=some a))->Q () s')(hf:X.fn x=true\/X.env.scope.names.lookup x=some .local:=by first | exact .inl rfl | exact .inr rfl | assumption):bH M A (HW X.env x u) Q E s:=by
 obtain⟨m,Y,hl⟩:=id I.loc;have O:(X.env.scope.kind == .class || (X.env.scope.kind == .module && X.env.locals != X.env.globals))=false:=by rw[I.ok.kind];rfl
 have hiσ:i<Z.length:=by rw[I.len];exact (aV.mp hi).1
 have F:=I.cne;have g:∀{a:au} {L:dj},(∃o,s.heap.get? a=some o/\H a=none)->mO a s.heap L->HOk X.prog X.w H L:=λ{a L} ha f b ob e=>by
  obtain⟨_,_,B⟩:=ha;refine (I.hok b ob e).stay (λc U t q=>(f.2 c ?_).trans q) (λ_ q=>q) λ_ _ q=>q;rintro rfl;rcases t with rfl | t
  ·rw[B]at e;cases e
  ·rw[B]at t;cases t
 rcases hx with D | D
 ·refine wpAny_storeName_local D Y (λL aa f=>?_) O;obtain⟨oL,_,_,ab,_⟩:=id Y;refine h _ ⟨I.ok,I.os,I.bare,⟨λb o e n G hx=>?_,λb o e n G hx=>?_,I.base.free,λb o e hx=>?_,I.base.tups,I.base.frzs,I.base.tbls⟩,⟨_,aa,λj y v' l C e3=>?_⟩,λy c e=>?_,I.free,I.freeC,λp hp=>?_,g ⟨oL,ab,I.free⟩ f,by simpa using I.len⟩ ⟨_,f,.inl rfl⟩
  ·exact (f.2 b (bj (aO (aM e) I.ok.above))).trans (I.base.keep b o e n G hx)
  ·obtain⟨sl,l⟩:=I.base.slot b o e n G hx;exact⟨sl,(f.2 b (bj (aO (aM e) I.ok.above))).trans l⟩
  ·obtain⟨o',l⟩:=I.base.there b o e hx;exact⟨o',(f.2 b (bj (aO (aM e) I.ok.above))).trans l⟩
  ·by_cases J:j=i
   ·subst J;rw[hi]at l;cases l
    rw[sU hiσ]at C;cases C
    exact⟨u,r,.inl ⟨D,by simp⟩⟩
   ·rw[oG (cF J)]at C;obtain⟨u',r',q⟩:=hl j y v' l C e3;refine⟨u',r',?_⟩;rcases q with ⟨k,e⟩ | ⟨k,c,e,z⟩
    ·refine .inl ⟨k,?_⟩;have:y≠x:=λe=>J (Ju hN l (e▸hi));simp[this,e]
    ·exact .inr ⟨k,c,e,z.sameBut f (F y c e)⟩
  ·obtain⟨U,z⟩:=I.cell y c e;exact⟨U,z.sameBut f (F y c e)⟩
  ·obtain⟨e,n,V,nf,d⟩:=I.pin p hp;exact⟨(f.2 p.1 V).trans e,n,V,nf,d⟩
 ·have K:X.fn x=true:=by
   rcases hf with z | z
   ·exact z
   ·rw[z]at D;cases D
  obtain⟨c,t⟩:=I.ok.has x (.inl D);obtain⟨U,z⟩:=I.cell x c t;refine wpAny_storeName_cell I.ok.kind D t z (λL P f=>?_);obtain⟨oc,R,S⟩:=id z;refine h { s with heap:=L } ⟨I.ok,I.os,I.bare,⟨λb o e n G hx=>?_,λb o e n G hx=>?_,I.base.free,λb o e hx=>?_,I.base.tups,I.base.frzs,I.base.tbls⟩,⟨m,Y.sameBut f (cF (F x c t)),λj y v' l C e3=>?_⟩,λy W e=>?_,I.free,I.freeC,λp hp=>?_,g ⟨oc,R,I.freeC x c t⟩ f,by simpa using I.len⟩ ⟨c,f,.inr t⟩
  ·exact (f.2 b (bj (aO (aM e) (I.ok.cab x c K t)))).trans (I.base.keep b o e n G hx)
  ·obtain⟨sl,l⟩:=I.base.slot b o e n G hx;exact⟨sl,(f.2 b (bj (aO (aM e) (I.ok.cab x c K t)))).trans l⟩
  ·obtain⟨o',l⟩:=I.base.there b o e hx;exact⟨o',(f.2 b (bj (aO (aM e) (I.ok.cab x c K t)))).trans l⟩
  ·by_cases J:j=i
   ·subst J;rw[hi]at l;cases l
    rw[sU hiσ]at C;cases C
    exact⟨u,r,.inr ⟨.inl D,c,t,P⟩⟩
   ·rw[oG (cF J)]at C;obtain⟨u',r',q⟩:=hl j y v' l C e3;refine⟨u',r',?_⟩;rcases q with q | ⟨k,W,e,z'⟩
    ·exact .inl q
    ·refine .inr ⟨k,W,e,z'.sameBut f ?_⟩;rintro rfl;exact J (Ju hN l (I.ok.inj _ _ _ e t▸hi))
  ·by_cases T:W=c
   ·subst T;exact⟨_,P⟩
   ·obtain⟨w2,z2⟩:=I.cell y W e;exact⟨w2,z2.sameBut f T⟩
  ·obtain⟨e,n,V,nf,d⟩:=I.pin p hp;refine⟨(f.2 p.1 ?_).trans e,n,V,nf,d⟩;intro q;rw[q,R]at e;have q':=bN e;exact d U (by rw[<-q'];exact S)
theorem VN(I:Inv X pins Z H s)(hN:X.N.Nodup)(hi:X.N[i]?=some x)(hx:Loc X.env.scope x)(r:RelV v u)(h:∀s',Inv X pins (Z.set i (some v)) H s'->Q () s')(hf:X.fn x=true\/X.env.scope.names.lookup x=some .local:=by first | exact .inl rfl | exact .inr rfl | assumption):bH M A (HW X.env x u) Q E s :=
 za6 I hN hi hx r (λs' a _=>h s' a) hf
theorem Inv.call'(I:Inv X pins Z H s)(ho:s'.os=s.os)(u:Un (frs X.stack) ch H H' s.heap s'.heap)(hok:HOk X.prog X.w H' s'.heap)(hg:lW s'.gens)(hch:∀b∈ch,(b∈X.ex\/X.s₀.heap.objs.size<=b)/\b≠X.env.locals/\(∀x c,X.env.cells.lookup x=some c->c≠b)/\∀p∈X.pn++pins,p.1≠b):Inv X pins Z H' s':=by
 obtain⟨h',g',d',t',o'⟩:=s';have e:=ho;subst e;exact I.call u hok hg hch
end
abbrev XK:=aD->Option au->Hp->Prop
abbrev St:=List (Option V)
abbrev VK:=V->Hp->Prop
abbrev TE:=St->Hp->VK->Prop
abbrev TT:=St->Hp->(Bool->Hp->Prop)->Prop
abbrev TA:=St->Hp->(List V->Hp->Prop)->Prop
structure Ends where
 nx:St->Hp->Prop
 rt:VK
 bk:St->Hp->Prop:=λ_ _=>False
 ct:St->Hp->Prop:=λ_ _=>False
abbrev TS:=Ends->St->Hp->Prop
def EP(X:Cx)(pins:List (au×kZ))(Z:St)(Q:VK)(u:aD)(s':aP):Prop:=∃v H',Inv X pins Z H' s'/\RelV v u/\Q v H'
def TP(X:Cx)(pins:List (au×kZ))(Z:St)(Q:Bool->Hp->Prop)(b:Bool)(s':aP):Prop:=∃H',Inv X pins Z H' s'/\Q b H'
def AP(X:Cx)(pins:List (au×kZ))(Z:St)(Q:List V->Hp->Prop)(us:List aD)(s':aP):Prop:=∃vs H',Inv X pins Z H' s'/\Vals vs us/\Q vs H'
def SP(X:Cx)(pins:List (au×kZ))(D:Ends)(f:Flow)(s':aP):Prop :=
 match f with
 |.next=>∃σ' H',Inv X pins σ' H' s'/\D.nx σ' H'
 |.brk=>∃σ' H',Inv X pins σ' H' s'/\D.bk σ' H'
 |.cont=>∃σ' H',Inv X pins σ' H' s'/\D.ct σ' H'
 |.ret u=>∃v σ' H',Inv X pins σ' H' s'/\RelV v u/\D.rt v H'
def PE(X:Cx)(e:dN)(t:TE):Prop :=
 ∀(pins:List (au×kZ)) (s:aP) (Z:St) (H:Hp) (Q:VK),Inv X pins Z H s->t Z H Q->bH (bG X.prog X.w) X.A (dZ e X.env) (EP X pins Z Q) X.xe s
def PT(X:Cx)(e:dN)(t:TT):Prop :=
 ∀(pins:List (au×kZ)) (s:aP) (Z:St) (H:Hp) (Q:Bool->Hp->Prop),Inv X pins Z H s->t Z H Q->bH (bG X.prog X.w) X.A (Ih e X.env (dZ e X.env)) (TP X pins Z Q) X.xe s
def PW(X:Cx)(e:dN)(t:TT):Prop :=
 ∀(whole:Np aD) (pins:List (au×kZ)) (s:aP) (Z:St) (H:Hp) (Q:Bool->Hp->Prop),Inv X pins Z H s->t Z H Q->bH (bG X.prog X.w) X.A (Ih e X.env whole) (TP X pins Z Q) X.xe s
theorem PW.pt(h:PW X e t):PT X e t:=h _
def PA(X:Cx)(es:List dN)(t:TA):Prop :=
 ∀(pos:nj) (pins:List (au×kZ)) (s:aP) (Z:St) (H:Hp) (Q:List V->Hp->Prop),Inv X pins Z H s->t Z H Q->bH (bG X.prog X.w) X.A (spliced (gO pos (bM es X.env))) (AP X pins Z Q) X.xe s
def PS(X:Cx)(st:cG)(t:TS):Prop :=
 ∀(pins:List (au×kZ)) (s:aP) (Z:St) (H:Hp) (D:Ends),Inv X pins Z H s->t D Z H->bH (bG X.prog X.w) X.A (exec st X.env) (SP X pins D) X.xe s
def PSs(X:Cx)(st:List cG)(t:TS):Prop :=
 ∀(pins:List (au×kZ)) (s:aP) (Z:St) (H:Hp) (D:Ends),Inv X pins Z H s->t D Z H->bH (bG X.prog X.w) X.A (execs st X.env) (SP X pins D) X.xe s
theorem thn(h:bH M A t Q E s)(hQ:∀a s,Q a s->Q' a s):bH M A t Q' E s:=dC h hQ λ_ _ x=>x
section
variable {X:Cx}
inductive zi0 (i:Nat) (Z:St) (H:Hp) (Q:VK):Prop
 |mk (v:V) (h:Z[i]?=some (some v)) (q:Q v H):zi0 i Z H Q
def zgK(i:Nat):TE:=λZ H Q=>zi0 i Z H Q
inductive BlI (x:V) (H:Hp) (Q:Bool->Hp->Prop):Prop
 |mk (c:Bool) (h:x=.bl c) (q:Q c H):BlI x H Q
def tC(v:V):TE:=λ_ H Q=>Q v H
theorem ziJ{pos:nj}(hN:X.N[i]?=some x)(hv:Vis X.env.scope x)(hd:(x == ("__debug__" : bZ))=false:=by decide)(hcd:(x == ("__classdict__" : bZ))=false:=by decide):PE X (.Name x pos) (zgK i):=by
 intro f s Z H Q I h;obtain⟨v,e,h⟩:=h;obtain⟨m,j,k⟩:=I.loc;obtain⟨u,r,l⟩:=k i x v hN e hv;have b:EP X f Z Q u s:=⟨v,H,I,r,h⟩
 rcases l with ⟨d,n⟩ | ⟨d,c,g,a⟩
 ·exact Gv (Cp I.ok.kind d j n b) hd
 ·rcases d with d | d
  ·exact Gv (Dj I.ok.kind d g a b) hd
  ·exact Gv (wpAny_loadName_free I.ok.kind d g a b hcd) hd
theorem zr{i j pos}:PE X (.Constant (.int i) j pos) (tC (.int i)):=λ_ _ _ H _ I h=>wpAny_Constant_int ⟨.int i,H,I.tok _,⟨_,rfl⟩,h⟩
theorem qM{b j pos}:PE X (.Constant (.bool b) j pos) (tC (.bl b)):=λ_ _ _ H _ I h=>Constant_bool ⟨.bl b,H,I,rfl,h⟩
theorem yQ{j pos}:PE X (.Constant .none j pos) (tC .non):=λ_ _ _ H _ I h=>Constant_none ⟨.non,H,I,rfl,h⟩
theorem jE{x j pos}:PE X (.Constant (.str x) j pos) (tC (.str x)):=λ_ _ _ H _ I h=>Calls.Constant_str ⟨.str x,H,I.tok _,⟨_,rfl⟩,h⟩
def Gl(X:Cx)(x:bZ):Prop:=X.env.kindOf x=some .globalImplicit
theorem Wb{Z:St}(I:Inv X pins Z H s)(hg:Gl X x)(hm:X.mg x=some u)(h:Q u s)(hd:(x == ("__debug__" : bZ))=false:=by decide):bH (bG X.prog X.w) X.A (dZ (.Name x pos) X.env) Q E s :=
 pG I.ok.kind hg (Calls.loadGlobal_global (by rw[I.ok.glob];exact I.mod.glob.keeps I.bk) hm h) hd
theorem Zd{E:aD->aP->Prop}{Z:St}{pos:nj}(I:Inv X pins Z H s)(hg:Gl X x)(hm:X.mg x=none)(hv:iy x=some u)(h:Q u s)(hn:x ≠ "__name__":=by decide)(hd:(x == ("__debug__" : bZ))=false:=by decide):bH (bG X.prog X.w) X.A (dZ (.Name x pos) X.env) Q E s:=by
 obtain⟨mb,a,b⟩:=I.mod.blt;exact pG I.ok.kind hg (Calls.loadGlobal_builtin (by rw[I.ok.glob];exact I.mod.glob.keeps I.bk) hm (by rw[I.ok.blt];exact a.keeps I.bk) ((b x hn).trans hv) h) hd
theorem wu(hg:Gl X x)(hm:X.mg x=some u)(r:RelV v u)(hd:(x == ("__debug__" : bZ))=false:=by decide):PE X (.Name x pos) (tC v):=
 λ_ _ _ H _ I h=>Wb I hg hm ⟨v,H,I,r,h⟩ hd
theorem xM{pos:nj}(hg:Gl X x)(hm:X.mg x=none)(hv:iy x=some u)(r:RelV v u)(hn:x ≠ "__name__":=by decide)(hd:(x == ("__debug__" : bZ))=false:=by decide):PE X (.Name x pos) (tC v):=
 λ_ _ _ H _ I h=>Zd I hg hm hv ⟨v,H,I,r,h⟩ hn hd
variable {a b:dN} {ta tb:TE} {pos:nj}
def PC(X:Cx)(op:CmpOp)(a b:dN)(t:TE):Prop :=
 ∀(pins:List (au×kZ)) (s:aP) (Z:St) (H:Hp) (Q:VK),Inv X pins Z H s->t Z H Q ->
  bH (bG X.prog X.w) X.A (dZ a X.env) (λv s₁=>bH (bG X.prog X.w) X.A (dZ b X.env) (λu s₂=>bH (bG X.prog X.w) X.A (cO op v u) (EP X pins Z Q) X.xe s₂) X.xe s₁) X.xe s
theorem zfY(b:dN)(h:op≠.In)(h2:op≠.NotIn):iU op b=false:=by
 have a:(op == M3)=false:=by cases op<;>first | rfl | exact absurd rfl h
 have c:(op == Kq)=false:=by cases op<;>first | rfl | exact absurd rfl h2
 cases b<;>simp[iU,a,c]
def tB(t:TE):TT:=λZ H Q=>t Z H λx H1=>BlI x H1 Q
theorem ziF(h:PC X op a b t)(h1:iU op b=false:=by first | exact zfY _ (by decide) (by decide) | rfl):PT X (.Compare a [op] [b] pos) (tB t):=by
 intro e s Z H Q I f;refine BW (thn (h e s Z H _ I f) λv s1 h1=>thn h1 λu s2 g=>thn g λc s3 ⟨x,i,j,k,l⟩=>?_) h1;obtain⟨d,rfl,q⟩:=l;cases k
 exact dR ⟨i,j,q⟩
theorem xx(h:PE X e t)(he:∀whole,Ih e X.env whole=(do let v <-whole;Dg e.pos;o8 [v] (truthy v)):=by intro _;rfl):PT X e (tB t):=by
 intro a s Z H Q I b;refine isTrue_plain (thn (h a s Z H _ I b) λv s1 ⟨x,c,f,g,i⟩=>?_) (he _);obtain⟨d,rfl,q⟩:=i;cases g
 exact dR ⟨c,f,q⟩
variable {tA tB':TT} {rest:List dN}
def zjR(t u:TT):TT:=λZ H Q=>t Z H λc H1=>if c=true then u Z H1 Q else Q false H1
def tOr(t u:TT):TT:=λZ H Q=>t Z H λc H1=>if c=true then Q true H1 else u Z H1 Q
def zjG(t:TT):TT:=λZ H Q=>t Z H λc H1=>Q (!c) H1
theorem QJ(ha:PT X a tA):PW X (.BoolOp .And [a] pos) tA:=by
 intro wh b s Z H Q I h;refine Lr (thn (ha b s Z H Q I h) λc s1 e=>?_);cases c with
 |true=>exact isTrue_and_nil e
 |false=>exact e
theorem Z6(ha:PT X a tA):PW X (.BoolOp .Or [a] pos) tA:=by
 intro wh b s Z H Q I h;refine isTrue_or (thn (ha b s Z H Q I h) λc s1 e=>?_);cases c with
 |false=>exact isTrue_or_nil e
 |true=>exact e
theorem zb7(ha:PT X a tA)(hb:PW X (.BoolOp .And (b::rest) pos) tB'):PW X (.BoolOp .And (a::b::rest) pos) (zjR tA tB'):=by
 intro i d s Z H Q I h;refine Lr (thn (ha d s Z H _ I h) λc j ⟨e,f,g⟩=>?_);cases c with
 |true=>exact hb i d j Z e Q f g
 |false=>exact⟨e,f,g⟩
theorem Ym(ha:PT X a tA)(hb:PW X (.BoolOp .Or (b::rest) pos) tB'):PW X (.BoolOp .Or (a::b::rest) pos) (tOr tA tB'):=by
 intro i d s Z H Q I h;refine isTrue_or (thn (ha d s Z H _ I h) λc j ⟨e,f,g⟩=>?_);cases c with
 |true=>exact⟨e,f,g⟩
 |false=>exact hb i d j Z e Q f g
theorem vK(ha:PT X a tA):PT X (.UnaryOp .Not a pos) (zjG tA):=by
 intro b s Z H Q I h;exact isTrue_not (ha b s Z H (λc d=>Q (!c) d) I h)
inductive NaI(tb:TE)(Z:St)(x:V)(H:Hp)(Q:VK):Prop
|mk(c:Bool)(h:x=.bl c)(q:if c=true then tb Z H Q else Q (.bl false) H):NaI tb Z x H Q
def zh4(ta tb:TE):TE:=λZ H Q=>ta Z H λx H1=>NaI tb Z x H1 Q
inductive NtI(x:V)(H:Hp)(Q:VK):Prop
|mk(c:Bool)(h:x=.bl c)(q:Q (.bl (!c)) H):NtI x H Q
def zjs(ta:TE):TE:=λZ H Q=>ta Z H λx H1=>NtI x H1 Q
theorem qH{op}(h:PE X a t):PE X (.BoolOp op [a] pos) t:=λb s Z H Q I c=>BoolOp_one (h b s Z H Q I c)
theorem uU(ha:PE X a ta)(hb:PE X (.BoolOp .And (b::rest) pos) tb):PE X (.BoolOp .And (a::b::rest) pos) (zh4 ta tb):=by
 intro d s Z H Q I h;refine BoolOp_and (thn (ha d s Z H _ I h) λv i ⟨x,f,g,j,e⟩=>?_);obtain⟨c,rfl,e⟩:=e;cases j
 refine dR ?_;cases c with
 |true=>exact hb d i Z f Q g e
 |false=>exact⟨.bl false,f,g,rfl,e⟩
theorem zbG(ha:PE X a ta):PE X (.UnaryOp .Not a pos) (zjs ta):=by
 intro b s Z H Q I h;refine UnaryOp_ (thn (ha b s Z H _ I h) λv s1 ⟨x,e,f,g,d⟩=>?_);obtain⟨c,rfl,d⟩:=d;cases g
 exact not_of (dR ⟨.bl (!c),e,f,rfl,d⟩)
def tIf(t:TT)(ta tb:TE):TE:=λZ H Q=>t Z H λc H1=>if c=true then ta Z H1 Q else tb Z H1 Q
theorem zhb(hc:PT X c tA)(ha:PE X a ta)(hb:PE X b tb):PE X (.IfExp c a b pos) (tIf tA ta tb):=by
 intro e s Z H Q I h;refine wpAny_IfExp (thn (hc e s Z H _ I h) λd f ⟨g,i,j⟩=>?_);cases d with
 |true=>exact ha e f Z g Q i j
 |false=>exact hb e f Z g Q i j
end
def SqL(K:aK)(H:Hp)(a:au)(xs:List V):Prop :=
 Rd H a (.lst xs) \/
  ∃o its n,K.lookup a=some o/\o.cls=.type "list"/\o.dict=none/\o.data=.seq its n/\its.size<=aA/\Vals xs its.toList
def SqT(K:aK)(H:Hp)(a:au)(xs:List V):Prop :=
 Rd H a (.tup xs) \/
  ∃o its n,K.lookup a=some o/\o.cls=.type "tuple"/\o.data=.seq its n/\its.size<=aA/\Vals xs its.toList
def zjP:aD->Option V
 |.none=>some .non
 |.bool b=>some (.bl b)
 |.int i _=>some (.int i)
 |.str x _=>some (.str x)
 |.bytes b _=>some (.byt b)
 |.float b _=>some (.flt b)
 |.ref a=>some (.ref a)
 |.type n=>some (.ty n)
 |_=>none
theorem RelV.abs(r:RelV x u):zjP u=some x:=by
 cases x with
 |non=>cases r;rfl
 |bl _=>cases r;rfl
 |int _=>obtain⟨t,rfl⟩:=r;rfl
 |str _=>obtain⟨t,rfl⟩:=r;rfl
 |byt _=>obtain⟨t,rfl⟩:=r;rfl
 |flt _=>obtain⟨t,rfl⟩:=r;rfl
 |ref _=>cases r;rfl
 |ty _=>cases r;rfl
theorem RelV.inj(r:RelV x u)(q:RelV y u):x=y:=bN (r.abs.symm.trans q.abs)
theorem Vals.inj:∀{xs ys:List V} {us:List aD},Vals xs us->Vals ys us->xs=ys
 |_,_,_,.nil,.nil=>rfl
 |_,_,_,.cons r t,.cons r' t'=>by rw[r.inj r',Vals.inj t t']
section
variable {X:Cx} {pins:List (au×kZ)} {Z:St} {H:Hp} {s:aP} {a:au} {xs ys:List V}
theorem SqL.of{K:aK}(h:H a=some (.lst xs)):SqL K H a xs:=.inl (.inl h)
theorem SqT.of{K:aK}(h:H a=some (.tup xs)):SqT K H a xs:=.inl (.inl h)
theorem Inv.list(I:Inv X pins Z H s)(h:SqL X.K H a xs):∃its:List aD,Vals xs its/\PlainL s.heap a its.toArray/\xs.length<=aA:=by
 rcases h with h | ⟨o,its,n,b,c,d,f,hz,r⟩
 ·obtain⟨z,its,n,r,e⟩:=h.ok I.hok;exact⟨its,r,⟨_,n,e,rfl,rfl,rfl⟩,z⟩
 ·refine⟨its.toList,r,⟨o,n,I.kIn a o b,c,d,by simpa using f⟩,?_⟩;have e:=r.length;simp only[lJ]at e;omega
theorem Inv.tuple(I:Inv X pins Z H s)(h:SqT X.K H a xs):∃its:List aD,Vals xs its/\FP s.heap a its.toArray/\xs.length<=aA:=by
 rcases h with h | ⟨o,its,n,b,c,d,hz,r⟩
 ·obtain⟨z,its,r,p⟩:=h.ok I.hok;exact⟨its,r,p,z⟩
 ·refine⟨its.toList,r,⟨o,I.kIn a o b,c,n,by simpa using d⟩,?_⟩;have e:=r.length;simp only[lJ]at e;omega
theorem Inv.list_inj(I:Inv X pins Z H s)(h:SqL X.K H a xs)(h':SqL X.K H a ys):xs=ys:=by
 obtain⟨c,r,⟨o,n,e,_,_,d⟩,_⟩:=I.list h;obtain⟨b,i,⟨o',n',f,_,_,g⟩,_⟩:=I.list h';rw[e]at f;cases f
 rw[d]at g;injection g with d1 _
 have:c=b:=by simpa using congrArg Ii d1
 subst this;exact r.inj i
theorem Inv.tuple_inj(I:Inv X pins Z H s)(h:SqT X.K H a xs)(h':SqT X.K H a ys):xs=ys:=by
 obtain⟨c,r,⟨o,e,_,n,d⟩,_⟩:=I.tuple h;obtain⟨b,i,⟨o',f,_,n',g⟩,_⟩:=I.tuple h';rw[e]at f;cases f
 rw[d]at g;injection g with d1 _
 have:c=b:=by simpa using congrArg Ii d1
 subst this;exact r.inj i
end
abbrev Cx.wish(X:Cx)(E:aD->aP->Prop):Cx:={ X with xe:=E }
abbrev Cx.nox(X:Cx):Cx:=X.wish λ_ _=>False
theorem Cx.Ok.wish{X:Cx}(ok:X.Ok)(E:aD->aP->Prop):(X.wish E).Ok :=
 ⟨ok.mod,ok.kind,ok.glob,ok.blt,ok.above,ok.inj,ok.has,ok.cab,ok.hd,ok.frames,ok.stk,ok.exf,ok.bs,ok.bsz,ok.noex,ok.exfs,ok.funs,ok.frf⟩
theorem Cx.Ok.unwish{X:Cx}(ok:(X.wish E).Ok):X.Ok :=
 ⟨ok.mod,ok.kind,ok.glob,ok.blt,ok.above,ok.inj,ok.has,ok.cab,ok.hd,ok.frames,ok.stk,ok.exf,ok.bs,ok.bsz,ok.noex,ok.exfs,ok.funs,ok.frf⟩
section
variable {X:Cx} {pins:List (au×kZ)} {Z:St} {H:Hp} {s:aP} {E:aD->aP->Prop}
theorem Inv.wish(I:Inv X pins Z H s)(E:aD->aP->Prop):Inv (X.wish E) pins Z H s:=⟨I.ok.wish E,I.os,I.bare,I.base,I.loc,I.cell,I.free,I.freeC,I.pin,I.hok,I.len⟩
theorem Inv.unwish(I:Inv (X.wish E) pins Z H s):Inv X pins Z H s:=⟨I.ok.unwish,I.os,I.bare,I.base,I.loc,I.cell,I.free,I.freeC,I.pin,I.hok,I.len⟩
theorem SP.unwish(h:SP (X.wish E) pins D f s'):SP X pins D f s':=by
 cases f with
 |next=>obtain⟨σ',a,I,q⟩:=h;exact⟨σ',a,I.unwish,q⟩
 |brk=>obtain⟨σ',a,I,q⟩:=h;exact⟨σ',a,I.unwish,q⟩
 |cont=>obtain⟨σ',a,I,q⟩:=h;exact⟨σ',a,I.unwish,q⟩
 |ret u=>obtain⟨v,σ',a,I,r,q⟩:=h;exact⟨v,σ',a,I.unwish,r,q⟩
theorem PSs.nox{st:List cG}(h:PSs X.nox st t):PSs X st t:=λa s Z H D I b=>
 dC (h a s Z H D (I.wish _) b) (λ_ _ q=>q.unwish) λ_ _ z=>dz z
end
section
variable {X:Cx} {st:cG} {rest:List cG} {t u:TS} {e:dN} {te:TE} {pos:nj}
def zjx:TS:=λD Z H=>D.nx Z H
def Qd(t u:TS):TS:=λD Z H=>t { D with nx:=u D } Z H
theorem zR:PSs X [] zjx:=λ_ _ Z H _ I h=>lX ⟨Z,H,I,h⟩
theorem zm(h1:PS X st t)(h2:PSs X rest u):PSs X (st::rest) (Qd t u):=by
 intro a s Z H D I h;refine Fg (thn (h1 a s Z H { D with nx:=u D } I h) λf b q=>?_);cases f with
 |next=>
  obtain⟨σ',c,d,q⟩:=q;exact h2 a b σ' c D d q
 |ret v=>exact q
 |brk=>exact q
 |cont=>exact q
theorem zu(h1:PS X st t):PSs X [st] t:=by
 intro a s Z H D I h;refine Fg (thn (h1 a s Z H D I h) λf s1 q=>?_);cases f with
 |next=>exact lX q
 |ret v=>exact q
 |brk=>exact q
 |cont=>exact q
theorem Inv.quiet{Z:St}(I:Inv X pins Z H s):Kr X.env=false:=by simp[Kr,I.ok.kind]
def zjt(te:TE):TS:=λD Z H=>te Z H λ_ H1=>D.nx Z H1
theorem wQ(he:PE X e te)(hs:mC e none pos.line X.env=pure false:=by rfl):PS X (.Expr e pos) (zjt te):=by
 intro a s Z H D I h;exact wpAny_Expr_any (thn (he a s Z H _ I h) λv s1 ⟨x,b,c,r1,d⟩=>⟨Z,b,c,d⟩) I.quiet hs
def zja(te:TE):TS:=λD Z H=>te Z H D.rt
theorem zG(he:PE X e te):PS X (.Return (some e) pos) (zja te):=by
 intro a s Z H D I h;exact wpAny_Return_some (thn (he a s Z H _ I h) λv s1 ⟨x,b,c,d,f⟩=>⟨x,Z,b,c,d,f⟩)
def zjQ(c:TT)(t u:TS):TS:=λD Z H=>c Z H λb H1=>if b=true then t D Z H1 else u D Z H1
theorem yw(hc:PT X c tc)(ha:PSs X a t)(hb:PSs X b u):PS X (.If c a b pos) (zjQ tc t u):=by
 intro e s Z H D I h;refine wpAny_If (thn (hc e s Z H _ I h) λd f ⟨g,i,j⟩=>?_);cases d with
 |true=>exact ha e f Z g D i j
 |false=>exact hb e f Z g D i j
def zif:TS:=λ_ _ _=>False
theorem zae:PS X st zif:=λ_ _ _ _ _ _ h=>h.elim
end
abbrev TG:=V->St->Hp->(St->Hp->Prop)->Prop
abbrev TGs:=List V->St->Hp->(St->Hp->Prop)->Prop
def PG(X:Cx)(target:dN)(t:TG):Prop :=
 ∀(pins:List (au×kZ)) (s:aP) (Z:St) (H:Hp) (v:V) (u:aD) (Q:St->Hp->Prop),Inv X pins Z H s->RelV v u->t v Z H Q ->
  bH (bG X.prog X.w) X.A (Ij target X.env u) (λ_ s'=>∃σ' H',Inv X pins σ' H' s'/\Q σ' H') X.xe s
def PGs(X:Cx)(ts:List dN)(t:TGs):Prop :=
 ∀(pins:List (au×kZ)) (s:aP) (Z:St) (H:Hp) (vs:List V) (us:List aD) (Q:St->Hp->Prop),Inv X pins Z H s->Vals vs us->t vs Z H Q ->
  bH (bG X.prog X.w) X.A (assignInOrder ((mq ts X.env).map (·.2)) us) (λ_ s'=>∃σ' H',Inv X pins σ' H' s'/\Q σ' H') X.xe s
abbrev zin:=V->V->V->Hp->(Hp->Prop)->Prop
def zjF(X:Cx)(t:zin):Prop :=
 ∀(pins:List (au×kZ)) (s:aP) (Z:St) (H:Hp) (o i v:V) (ov iv u:aD) (Q:Hp->Prop),Inv X pins Z H s->RelV o ov->RelV i iv->RelV v u->t o i v H Q ->
  bH (bG X.prog X.w) X.A (Mi ov iv u) (λ_ s'=>∃H',Inv X pins Z H' s'/\Q H') X.xe s
abbrev TIp:=V->V->Hp->VK->Prop
def PIp(X:Cx)(op:Operator)(t:TIp):Prop :=
 ∀(pins:List (au×kZ)) (s:aP) (Z:St) (H:Hp) (x y:V) (v u:aD) (Q:VK),Inv X pins Z H s->RelV x v->RelV y u->t x y H Q ->
  bH (bG X.prog X.w) X.A (inplaceOp op v u) (EP X pins Z Q) X.xe s
section
variable {X:Cx} {pos:nj}
def Xd(i:Nat):TG:=λv Z H Q=>Q (Z.set i (some v)) H
theorem zX(hN:X.N.Nodup)(hi:X.N[i]?=some x)(hx:Loc X.env.scope x)(hf:X.fn x=true\/X.env.scope.names.lookup x=some .local:=by first | exact .inl rfl | exact .inr rfl | assumption):PG X (.Name x pos) (Xd i):=by
 intro pins s Z H v u Q I r h;exact Ek (VN I hN hi hx r (λs' a=>⟨_,H,a,h⟩) hf)
def zj1:TGs:=λvs Z H Q=>vs=[]/\Q Z H
inductive GcI (t:TG) (u:TGs) (vs:List V) (Z:St) (H:Hp) (Q:St->Hp->Prop):Prop
 |mk (v:V) (r:List V) (h:vs=v::r) (q:t v Z H fun σ' H'=>u r σ' H' Q):GcI t u vs Z H Q
def zjv(t:TG)(u:TGs):TGs:=λvs Z H Q=>GcI t u vs Z H Q
theorem ZK:PGs X [] zj1:=by
 intro pins s Z H vs us Q I r h;obtain⟨e,h⟩:=h;subst e;cases r
 exact assignInOrder_nil ⟨Z,H,I,h⟩
theorem xW(h1:PG X e t)(h2:PGs X es u)(hs:(mq (e::es) X.env).map (·.2)=Ij e X.env::(mq es X.env).map (·.2):=by rfl):PGs X (e::es) (zjv t u):=by
 intro a s Z H vs us Q I r h;obtain⟨v,vr,b,h⟩:=h;subst b;cases r with
 |cons r c=>
  rw[hs];refine assignInOrder_cons (thn (h1 a s Z H _ _ _ I r h) λ_ d ⟨σ1,f,g,i⟩=>?_);exact h2 a d σ1 f _ _ Q g c i
inductive GtI (K:aK) (n:Nat) (t:TGs) (v:V) (Z:St) (H:Hp) (Q:St->Hp->Prop):Prop
 |mk (a:au) (xs:List V) (h1:v=.ref a) (h2:SqT K H a xs) (h3:xs.length=n) (q:t xs Z H Q):GtI K n t v Z H Q
def zi8(K:aK)(n:Nat)(t:TGs):TG:=λv Z H Q=>GtI K n t v Z H Q
theorem W8{k:Nat}(hc:X.calm=true)(h:PGs X es t)(hn:(mq es X.env).length=n:=by rfl)(hst:(mq es X.env).findIdx? (·.1)=none:=by rfl):PG X (.Tuple es k pos) (zi8 X.K n t):=by
 intro c s Z H v u Q I r d;obtain⟨a,g,i,j,l,d⟩:=d;subst i;cases r
 obtain⟨its,f,m,hz⟩:=I.tuple j;refine assign_Tuple_tuple (I.ok.hd hc) m (by simp[hn,<-l,f.length]) hst λh' p=>?_;have q:=I.kept (t':=s.toks) λb o e=>p b o (bj (aM e)) e;exact h c _ Z H g _ Q q (by simpa using f) d
def zj2(to ti:TE)(t:zin):TG:=λv Z H Q=>to Z H λo H1=>ti Z H1 λi H2=>t o i v H2 λH3=>Q Z H3
theorem zgY(ho:PE X o to)(hi:PE X i ti)(hs:zjF X t)(ha:∀v,Ij (.Subscript o i pos) X.env v=(do
   let ov <-o8 [v] (dZ o X.env);let iv <-o8 [v,ov] (dZ i X.env)
   Dg pos
   o8 [v,ov,iv] (Mi ov iv v)
   release [v,ov,iv] []):=by intro _;rfl):PG X (.Subscript o i pos) (zj2 to ti t):=by
 intro a s Z H v u Q I r h;refine ak (dg (thn (ho a s Z H _ I h) λov b ⟨x,c,d,e,f⟩=>?_));refine ak (dg (thn (hi a b Z c _ d f) λiv g ⟨y,j,k,l,m⟩=>?_));refine ak (rG (ak (dg (thn (hs a g Z j x y v ov iv u _ k e l r m) λ_ s3 ⟨n,p,q⟩=>?_))));exact wpAny_release ⟨Z,n,p,q⟩
def zat(te:TE)(g:TG):TS:=λD Z H=>te Z H λx H1=>g x Z H1 D.nx
theorem WY(he:PE X e te)(hg:PG X tg g)(hs:swapsWithSole [tg] e pos.line X.env=pure false:=by rfl)(hw:swappedStores [tg] e X.env=pure none:=by rfl)(h1:(mq [tg] X.env).map (·.2)=[Ij tg X.env]:=by rfl):PS X (.Assign [tg] e pos) (zat te g):=by
 intro a s Z H D I h;refine wpAny_Assign_stores (thn (he a s Z H _ I h) λv b ⟨x,c,d,f,i⟩=>?_) hs hw;rw[h1];exact thn (hg a b Z c x v _ d f i) λ_ s2 q=>q
theorem zE(hN:X.N.Nodup)(hi:X.N[i]?=some x)(hx:Loc X.env.scope x)(he:PE X e te)(hs:mC e (some (.Name x pos')) pos.line X.env=pure false:=by rfl)(hf:X.fn x=true\/X.env.scope.names.lookup x=some .local:=by first | exact .inl rfl | exact .inr rfl | assumption):
  PS X (.Assign [.Name x pos'] e pos) (zat te (Xd i)):=by
 intro a s Z H D I h;refine wpAny_Assign_Name (thn (he a s Z H _ I h) λv s1 ⟨y,b,c,d,f⟩=>?_) hs;exact VN c hN hi hx d (λs2 g=>⟨_,b,g,f⟩) hf
def zjX(i:Nat)(te:TE)(ti:TIp):TS:=λD Z H=>∃x,Z[i]?=some (some x)/\te Z H λy H1=>ti x y H1 λz H2=>D.nx (Z.set i (some z)) H2
theorem zdr(hN:X.N.Nodup)(hi:X.N[i]?=some x)(hx:Loc X.env.scope x)(he:PE X e te)(ho:PIp X op ti)(hf:X.fn x=true\/X.env.scope.names.lookup x=some .local:=by first | exact .inl rfl | exact .inr rfl | assumption):
  PS X (.AugAssign (.Name x pos') op e pos) (zjX i te ti):=by
 intro a s Z H D I h;obtain⟨v,j,h⟩:=h;obtain⟨m,n,o⟩:=I.loc;have f:Vis X.env.scope x:=by rcases hx with k | k;exact .inl k;exact .inr (.inl k)
 obtain⟨u,r,l⟩:=o i x v hi j f;refine wpAny_AugAssign_Name ?_;have g:bH (bG X.prog X.w) X.A (dZ e X.env) (λw s₂=>bH (bG X.prog X.w) X.A (inplaceOp op u w) (λr s₃=>bH (bG X.prog X.w) X.A (HW X.env x r) (λ_=>SP X a D .next) X.xe s₃) X.xe s₂) X.xe s:=by
  refine thn (he a s Z H _ I h) λw p ⟨y,q,t,B,C⟩=>?_;refine thn (ho a p Z q v y u w _ t r B C) λz s2 ⟨zv,E,F,G,J⟩=>?_;exact VN F hN hi hx G (λs3 K=>⟨_,E,K,J⟩) hf
 rcases l with ⟨b,L⟩ | ⟨b,c,M,d⟩
 ·exact Cp I.ok.kind b n L g
 ·rcases b with b | b
  ·exact Dj I.ok.kind b M d g
  ·rcases hx with k | k
   ·have:X.env.scope.names.lookup x=some .free:=b;rw[k]at this;cases this
   ·have:X.env.scope.names.lookup x=some .free:=b;rw[k]at this;cases this
def ipI(f:Int->Int->Int):TIp:=λx y H Q=>Ex2 λi j=>x=.int i/\y=.int j/\Q (.int (f i j)) H
theorem zf4:PIp X .Add (ipI λi j=>i+j):=by
 intro pins s Z H x y v u Q I a b h;obtain⟨i,j,c,d,q⟩:=h;subst c;subst d;obtain⟨t,rfl⟩:=a;obtain⟨t',rfl⟩:=b;exact iadd_int ⟨.int _,H,I.tok _,⟨_,rfl⟩,q⟩
theorem zie:PIp X .Sub (ipI λi j=>i-j):=by
 intro pins s Z H x y v u Q I a b h;obtain⟨i,j,c,d,q⟩:=h;subst c;subst d;obtain⟨t,rfl⟩:=a;obtain⟨t',rfl⟩:=b;exact isub_int ⟨.int _,H,I.tok _,⟨_,rfl⟩,q⟩
def zdV(c:TT)(tb:TS):TS:=λD Z H=>∃W:Nat->St->Hp->Prop,(∃m,W m Z H)/\∀m Z H,W m Z H ->
 c Z H λb H1=>if b=true then ∃N:St->Hp->Prop,(∀σ' H',N σ' H'->∃m',m'<m/\W m' σ' H')/\tb { D with nx:=N,ct:=N,bk:=D.nx } Z H1 else D.nx Z H1
theorem X6(hp:PassesOwn (bG X.prog X.w) X.A X.env X.xe)(hc:PT X c tc)(hb:PSs X body tb):PS X (.While c body [] pos) (zdV tc tb):=by
 intro a s Z H D I h;obtain⟨W,⟨x,y⟩,d⟩:=h;refine wpAny_While (codeAny_whileLoop (λn z=>∃σ' p,Inv X a σ' p z/\W n σ' p) ?_ x ⟨Z,H,I,y⟩);rintro n B ⟨σ1,q,C,E⟩;refine gD hp (thn (hc a B σ1 q _ C (d n σ1 q E)) λb F ⟨r,t,g⟩=>?_);cases b with
 |true=>
  obtain⟨N,u,g⟩:=g;refine gD hp (thn (hb a F σ1 r _ t g) λf s3 i=>?_);cases f with
  |next=>
   obtain⟨σ3,e,j,k⟩:=i;obtain⟨l,m,o⟩:=u σ3 e k;exact⟨l,m,σ3,e,j,o⟩
  |cont=>
   obtain⟨σ3,e,j,k⟩:=i;obtain⟨l,m,o⟩:=u σ3 e k;exact⟨l,m,σ3,e,j,o⟩
  |brk=>exact i
  |ret v=>exact i
 |false=>
  exact lX ⟨σ1,r,t,g⟩
end
structure It where
 go:Nat->Hp->Prop
 yld:Nat->Hp->V->Hp->Prop
 stop:Nat->Hp->Prop
def U5(X:Cx)(pins:List (au×kZ))(H:Hp)(b:au):Prop :=
 H b=none/\b≠X.env.locals/\b∉X.fs/\(b∈X.ex\/X.s₀.heap.objs.size<=b)/\(∀x c,X.env.cells.lookup x=some c->c≠b)/\∀p∈X.pn++pins,p.1≠b
theorem Inv.fpOk{Z:St}{b:au}(I:Inv X pins Z H s)(hb:s.heap.objs.size<=b)(hn:H' b=none):U5 X pins H' b:=by
 refine⟨hn,eU (aO I.lt hb),I.nofs hb,.inr (aB I.sz hb),λx c e z=>?_,λp a z=>?_⟩
 ·obtain⟨v,q⟩:=I.cell x c e;exact absurd (aO q.lt (by rw[z];exact hb)) (eQ _)
 ·exact absurd (aO (aM (I.pin p a).1) (by rw[z];exact hb)) (eQ _)
structure Turn (P:bx) (w:bU) (K:aK) (tg:dN) (J:It) (fp:List au) (it:au) (tn:Nat->dj->Prop):Prop where
 mem:it∈fp
 obj:∀i h,tn i h->∀b∈fp,∃o,h.get? b=some o/\∀v,o.data≠.cell v
 keep:∀i h h',tn i h->(∀b∈fp,∀o,h.get? b=some o->h'.get? b=some o)->tn i h'
 item:∀(X:Cx),X.prog=P->X.w=w->X.K=K->X.calm=true->∀(i:Nat) (pins:List (au×kZ)) (s:aP) (Z:St) (H:Hp) (E:aD->aP->Prop),Inv X pins Z H s->(∀b∈fp,U5 X pins H b)->tn i s.heap->J.go i H ->
  bH (bG P w) X.A (Ik (.ref it)) (λr s1=>∃u,r=some u /\
   bH (bG P w) X.A (Bx tg (.ref it) u) (λ_ s2=>∃x H',Inv X pins Z H' s2/\RelV x u/\J.yld i H x H'/\tn (i+1) s2.heap/\∀b∈fp,H' b=none) E s1) E s
 done:∀(X:Cx),X.prog=P->X.w=w->X.K=K->X.calm=true->∀(i:Nat) (pins:List (au×kZ)) (s:aP) (Z:St) (H:Hp) (E:aD->aP->Prop),Inv X pins Z H s->(∀b∈fp,U5 X pins H b)->tn i s.heap->J.stop i H ->
  bH (bG P w) X.A (Ik (.ref it)) (λr s1=>r=none/\Inv X pins Z H s1) E s
 self:∀(A:dB) (i:Nat) (s:aP) (Q:aD->aP->Prop) (E:aD->aP->Prop),tn i s.heap->Q (.ref it) s->bH (bG P w) A (Il (.ref it)) Q E s
abbrev TI:=St->Hp->(It->Hp->Prop)->Prop
def PIE(X:Cx)(pins:List (au×kZ))(Z:St)(tg:dN)(R:It->Hp->Prop)(itv:aD)(s2:aP):Prop :=
 ∃it fp tn J H',itv=.ref it/\Inv X pins Z H' s2/\Turn X.prog X.w X.K tg J fp it tn/\tn 0 s2.heap/\(∀b∈fp,U5 X pins H' b)/\R J H'
def PI(X:Cx)(tg iter:dN)(wi:TI):Prop :=
 ∀(pins:List (au×kZ)) (s:aP) (Z:St) (H:Hp) (R:It->Hp->Prop),Inv X pins Z H s->wi Z H R ->
  bH (bG X.prog X.w) X.A (dZ iter X.env) (λv s1=>bH (bG X.prog X.w) X.A (Il v) (PIE X pins Z tg R) X.xe s1) X.xe s
theorem zdd(ho:s.heap.get? it=some o)(hc:o.cls=.type n)(hd:o.data=.fields vs)(hn:["enumerate","zip","dict_itemiterator","dict_reverseitemiterator","odict_iterator","itertools.zip_longest","itertools.pairwise"].contains n=false)(hQ:Q () s):bH M A (Bx tg (.ref it) u) Q E s:=by
  cases tg<;>first
    |exact aG hQ
    | (cases u<;>first
        |exact aG hQ
        | (refine ak (wpAny_load ho ?_)
           rw[hc,hd];show bH M A (if (["enumerate","zip","dict_itemiterator","dict_reverseitemiterator","odict_iterator","itertools.zip_longest","itertools.pairwise"].contains n && vs[0]? == some (iB _))=true then _ else _) Q E s;rw[if_neg (by intro h;rw[hn,pH]at h;cases h)];exact aG hQ))
def Itl(K:aK)(a:au):It :=
 ⟨λi H=>∃xs x,SqL K H a xs/\xs[i]?=some x,λi H x H'=>H'=H/\∀xs,SqL K H a xs->xs[i]?=some x,λi H=>∃xs,SqL K H a xs/\xs.length<=i⟩
def Itt(K:aK)(a:au):It :=
 ⟨λi H=>∃xs x,SqT K H a xs/\xs[i]?=some x,λi H x H'=>H'=H/\∀xs,SqT K H a xs->xs[i]?=some x,λi H=>∃xs,SqT K H a xs/\xs.length<=i⟩
def Itr(lo:Int)(n:Nat):It:=⟨λi _=>i<n,λi H x H'=>H'=H/\x=.int (lo+i),λi _=>n<=i⟩
theorem zfb{P:bx}{w:bU}{K:aK}{tg:dN}(a it:au):Turn P w K tg (Itl K a) [it] it (λi h=>h.IsListIter it a i) where
 mem:=by simp
 obj:=λi h f b g=>by
  have e:b=it:=by simpa using g
  subst e;obtain⟨o,e,c,d⟩:=f;exact⟨o,e,λv z=>by rw[d]at z;cases z⟩
 keep:=λi h M f k=>f.at λo e=>k it (by simp) o e
 item:=by
  intro X q r t N i j s Z H E I m f y;subst q r t;obtain⟨O,x,n,A⟩:=y;obtain⟨B,C,p,Q⟩:=I.list n;obtain⟨u,R,S⟩:=C.get A;obtain⟨D,F,T,G,J,L⟩:=m it (by simp);refine wpAny_pyNext_list_item f p.isList (by simpa using R) λM l U=>?_;have V:=I.turned (t':=s.toks) (λb o g e=>(U.2 b g).trans e) D F G J L;obtain⟨o,e,c,d⟩:=id l;exact⟨u,rfl,zdd e c d (by decide) ⟨x,H,V,S,⟨rfl,λys W=>by rw[I.list_inj W n];exact A⟩,l,λb g=>(m b g).1⟩⟩
 done:=by
  intro X q r t N i j s Z H E I m f y;subst q r t;obtain⟨O,n,A⟩:=y;obtain⟨B,C,p,Q⟩:=I.list n;obtain⟨D,F,T,G,J,L⟩:=m it (by simp);have hl:=C.length;exact wpAny_pyNext_list_end (I.ok.hd N) f p.isList (by simp;omega) λM Y=>⟨rfl,I.turned (λb o g e=>Y b o g e) D F G J L⟩
 self:=λ_ _ _ _ _ f h=>wpAny_pyIter_listiter f h
theorem zdP{P:bx}{w:bU}{K:aK}{tg:dN}(a it:au):Turn P w K tg (Itt K a) [it] it (λi h=>h.IsTupleIter it a i) where
 mem:=by simp
 obj:=λi h f b g=>by
  have e:b=it:=by simpa using g
  subst e;obtain⟨o,e,c,d⟩:=f;exact⟨o,e,λv z=>by rw[d]at z;cases z⟩
 keep:=λi h M f k=>f.at λo e=>k it (by simp) o e
 item:=by
  intro X r t y N i l s Z H E I n f A;subst r t y;obtain⟨O,x,q,B⟩:=A;obtain⟨j,C,p,Q⟩:=I.tuple q;obtain⟨u,R,S⟩:=C.get B;obtain⟨D,F,T,G,J,L⟩:=n it (by simp);refine wpAny_pyNext_tuple_item f (show s.heap.IsTuple a j.toArray from p) (by simpa using R) λM m U=>?_;have V:=I.turned (t':=s.toks) (λb o g e=>(U.2 b g).trans e) D F G J L;obtain⟨o,e,c,d⟩:=id m;exact⟨u,rfl,zdd e c d (by decide) ⟨x,H,V,S,⟨rfl,λys W=>by rw[I.tuple_inj W q];exact B⟩,m,λb g=>(n b g).1⟩⟩
 done:=by
  intro X r t y N i l s Z H E I n f A;subst r t y;obtain⟨O,q,B⟩:=A;obtain⟨j,C,p,Q⟩:=I.tuple q;obtain⟨D,F,T,G,J,L⟩:=n it (by simp);have hl:=C.length;exact wpAny_pyNext_tuple_end (I.ok.hd N) f (show s.heap.IsTuple a j.toArray from p) (by simp;omega) λM Y=>⟨rfl,I.turned (λb o g e=>Y b o g e) D F G J L⟩
 self:=λ_ _ _ _ _ f h=>wpAny_pyIter_tupleiter f h
theorem zdN{P:bx}{w:bU}{K:W.Frag}{tg:dN}(it:au)(lo:Int)(n:Nat):Turn P w K tg (Itr lo n) [it] it (λi h=>Ks h it (lo+(i:Nat)*1) ((n:Int)-(i:Nat)) 1) where
 mem:=by simp
 obj:=λi h a b d=>by
  have e:b=it:=by simpa using d
  subst e;exact⟨_,a,λv z=>by
   have C:=z;cases C⟩
 keep:=λi h j a k=>k it (by simp) _ a
 item:=by
  intro X l m p q i c s Z H E I g a r;subst l m p;obtain⟨u,x,D,y,A,B⟩:=g it (by simp);have W:=Ku (prog:=X.prog) (w:=X.w) (I.ok.hd q) it lo 1 n;refine W.item i s _ _ r a λv j F G f J=>?_;obtain⟨t,rfl⟩:=G;have L:Inv X c Z H { s with heap:=j,toks:=F }:=I.turned (λb o d e=>J b o (by simpa using d) e) u x y A B;refine⟨_,rfl,zdd f rfl rfl (by decide) ⟨.int (lo+i),H,L,⟨t,?_⟩,⟨rfl,rfl⟩,f,λb d=>(g b d).1⟩⟩;rw[Int.mul_one]
 done:=by
  intro X l m p q i c s Z H E I g a r;subst l m p;obtain⟨u,x,D,y,A,B⟩:=g it (by simp);exact sV (I.ok.hd q) a (by have:n<=i:=r;omega) λj M=>⟨rfl,I.turned (λb o d e=>M b o d e) u x y A B⟩
 self:=λ_ _ _ _ _ a h=>sW a h
section
variable {X:Cx} {tg:dN}
inductive ItI (S:Hp->au->List V->Prop) (it:au->It) (x:V) (H:Hp) (R:It->Hp->Prop):Prop
 |mk (a:au) (h:x=.ref a) (s:∃xs,S H a xs) (r:R (it a) H):ItI S it x H R
def zib(K:aK)(tl:TE):TI:=λZ H R=>tl Z H λx H1=>ItI (SqL K) (Itl K) x H1 R
def zjJ(K:aK)(tl:TE):TI:=λZ H R=>tl Z H λx H1=>ItI (SqT K) (Itt K) x H1 R
theorem zho(hl:PE X l tl):PI X tg l (zib X.K tl):=by
 intro c s Z H R I h;refine thn (hl c s Z H _ I h) λv f ⟨x,g,d,i,j⟩=>?_;obtain⟨a,e,⟨xs,k⟩,q⟩:=j;subst e;cases i
 obtain⟨its,rv,p,hz⟩:=d.list k;refine mQ p.isList ?_;refine⟨f.heap.objs.size,[f.heap.objs.size],_,_,g,rfl,d.kept λb o e=>az _ e,zfb a _,⟨_,bz _ rfl,rfl,rfl⟩,λb m=>?_,q⟩;have e:b=f.heap.objs.size:=by simpa using m
 subst e;exact d.fpOk (aq _) (d.hok.fresh (aq _))
theorem ziq(hl:PE X l tl):PI X tg l (zjJ X.K tl):=by
 intro c s Z H R I h;refine thn (hl c s Z H _ I h) λv d ⟨x,i,f,j,k⟩=>?_;obtain⟨a,e,⟨xs,m⟩,q⟩:=k;subst e;cases j
 obtain⟨g,rv,p,hz⟩:=f.tuple m;refine wpAny_pyIter_tuple (show d.heap.IsTuple a g.toArray from p) ?_;refine⟨d.heap.objs.size,[d.heap.objs.size],_,_,i,rfl,f.kept λb o e=>az _ e,zdP a _,⟨_,bz _ rfl,rfl,rfl⟩,λb n=>?_,q⟩;have e:b=d.heap.objs.size:=by simpa using n
 subst e;exact f.fpOk (aq _) (f.hok.fresh (aq _))
theorem zcp{Z:St}{lo hi:Int}(I:Inv X pins Z H s)(h1:-(2^62)<=lo)(h2:lo<2^62)(h3:-(2^62)<=hi)(h4:hi<2^62)(q:R (Itr lo (hi-lo).toNat) H):bH (bG X.prog X.w) X.A (Il (.ref s.heap.objs.size)) (PIE X pins Z tg R) E { s with heap:=s.heap.push { cls:=.type "range",data:=.fields #[.int lo t,.int hi u,.int 1 v] },toks:=tk }:=by
 refine Dy (Kv ..) (small_one h1 h2 h3 h4) ?_;have a:Inv X pins Z H { s with heap:=s.heap.push { cls:=.type "range",data:=.fields #[.int lo t,.int hi u,.int 1 v] },toks:=tk }:=I.kept λb o e=>az _ e;refine⟨(s.heap.push { cls:=.type "range",data:=.fields #[.int lo t,.int hi u,.int 1 v] }).objs.size,[(s.heap.push { cls:=.type "range",data:=.fields #[.int lo t,.int hi u,.int 1 v] }).objs.size],_,_,H,rfl,
  a.kept λb o e=>az _ e,zdN _ lo (hi-lo).toNat,?_,λb c=>?_,q⟩
 ·have d:lo+((0:Nat))*1=lo:=by simp
  have f:(((hi-lo).toNat:Nat))-((0:Nat))=gU lo hi 1:=by rw[rangeSize_one];split<;>omega
  rw[d,f];exact bz _ rfl
 ·have e:b=(s.heap.push { cls:=.type "range",data:=.fields #[.int lo t,.int hi u,.int 1 v] }).objs.size:=by simpa using c
  subst e;exact a.fpOk (aq _) (a.hok.fresh (aq _))
def zjm(ta:TA):TI:=λZ H R=>ta Z H λvs H1=>∃j:Int,vs=[.int j]/\-(2^62)<=j/\j<2^62/\R (Itr 0 j.toNat) H1
inductive R2I(vs:List V)(H:Hp)(R:It->Hp->Prop):Prop
|mk(i j:Int)(h:vs=[.int i,.int j])(a:-(2^62)<=i/\i<2^62/\-(2^62)<=j/\j<2^62)(r:R (Itr i (j-i).toNat) H):R2I vs H R
def zjy(ta:TA):TI:=λZ H R=>ta Z H λvs H1=>R2I vs H1 R
theorem yL(hg:Gl X "range")(hm:X.mg "range"= none)(ha:PA X [a] ta)(hs:bM [a] X.env=[(false,dZ a X.env)]:=by rfl):PI X tg (.Call (.Name "range" p) [a] [] pos) (zjm ta):=by
 intro b s Z H R I h;refine Mj (Zd I hg hm Gw (cP (thn (ha pos b s Z H _ I h) λus s1 ⟨vs,H1,d,f,c⟩=>?_) hs rfl));obtain⟨j,e,c,g,q⟩:=c;subst e;cases f with
 |cons r i=>
  cases i;obtain⟨t,rfl⟩:=r
  exact call_range_1 (zcp d (by omega) (by omega) c g (by simpa using q))
theorem Wd{p pos:nj}(hg:Gl X "range")(hm:X.mg "range"= none)(ha:PA X [a,b] ta)(hs:bM [a,b] X.env=[(false,dZ a X.env),(false,dZ b X.env)]:=by rfl)(hs2:bM [b] X.env=[(false,dZ b X.env)]:=by rfl):
  PI X tg (.Call (.Name "range" p) [a,b] [] pos) (zjy ta):=by
 intro c s Z H R I h;refine Mj (Zd I hg hm Gw (cP (thn (ha pos c s Z H _ I h) λus s1 ⟨vs,H1,g,k,d⟩=>?_) (by rw[hs,hs2]) (by rw[hs2];rfl)));obtain⟨i,j,e,⟨d,l,m,n⟩,q⟩:=d;subst e;cases k with
 |cons r f=>
  cases f with
  |cons o f=>
   cases f;obtain⟨t,rfl⟩:=r
   obtain⟨t',rfl⟩:=o;exact call_range_2 (zcp g d l m n q)
def zjL(wi:TI)(g:TG)(tb:TS):TS:=λD Z H=>wi Z H λJ H1=>∃W:Nat->Nat->St->Hp->Prop,(∃m,W 0 m Z H1)/\∀i m Z H,W i m Z H ->
 (J.stop i H/\D.nx Z H)\/(J.go i H/\∃N:St->Hp->Prop,(∀σ' H',N σ' H'->∃m',m'<m/\W (i+1) m' σ' H')/\∀x H',J.yld i H x H'->g x Z H' fun σ2 H2=>tb { D with nx:=N,ct:=N,bk:=D.nx } σ2 H2)
def Ut(fp:List au)(h:dj):List (au×kZ):=fp.filterMap λb=>(h.get? b).map λo=>(b,o)
theorem Vm(hb:b∈fp)(e:h.get? b=some o):(b,o)∈Ut fp h:=dW.mpr ⟨b,hb,by rw[e];rfl⟩
theorem zfI(hp:p∈Ut fp h):p.1∈fp/\h.get? p.1=some p.2:=by
 obtain⟨b,a,e⟩:=dW.mp hp;cases q:h.get? b with
 |none=>rw[q]at e;cases e
 |some o=>
  rw[q]at e;have c:=bN e;subst c;exact⟨a,q⟩
theorem Inv.pinned{Z:St}(I:Inv X pins Z H s)(hf:∀b∈fp,U5 X pins H b)(ho:∀b∈fp,∃o,s.heap.get? b=some o/\∀v,o.data≠.cell v):Inv X (pins++Ut fp s.heap) Z H s :=
 I.pins_of λp f=>(aZ.mp f).elim (λz=>I.pin p (bh _ z)) λz=>by
  obtain⟨a,e⟩:=zfI z;obtain⟨g,h,i,_⟩:=hf p.1 a;obtain⟨o,c,d⟩:=ho p.1 a;rw[e]at c;cases c
  exact⟨e,g,h,i,d⟩
theorem Inv.unpinned{Z:St}(I:Inv X (pins++pl) Z H s):Inv X pins Z H s:=I.pins_of λp a=>I.pin p (bh _ (cY _ a))
theorem wj(hp:PassesOwn (bG X.prog X.w) X.A X.env X.xe)(hc:X.calm=true)(hi:PI X tg iter wi)(hg:PG X tg g)(hb:PSs X body tb)(hs:∀x,fj iter X.env x=pure x:=by intro _;rfl):PS X (.For tg iter body [] pos) (zjL wi g tb):=by
 intro a s Z H D I h;refine wpAny_For (thn (hi a s Z H _ I h) λv s1 h1=>thn h1 λitv s2 h2=>?_) hs;obtain⟨it,z,U,J,H2,e,I2,T,O,V,W,⟨m0,w0⟩,B⟩:=h2;subst e;have j:∀{q:Hp},(∀b∈z,q b=none)->∀b∈z,U5 X a q b:=λhn b hb=>⟨hn b hb,(V b hb).2⟩
 refine codeAny_forLoop_any (λn Y=>∃i σ' q,Inv X a σ' q Y/\U i Y.heap/\(∀b∈z,q b=none)/\W i n σ' q) ?_ m0 ⟨0,Z,H2,I2,O,λb hb=>(V b hb).1,w0⟩;rintro n s3 ⟨i,σ3,L,I3,C,E,w3⟩;rcases B i n σ3 L w3 with ⟨F,qn⟩ | ⟨go,N,hN,G⟩
 ·refine gD hp (thn (T.done X rfl rfl rfl hc i a s3 σ3 L X.xe I3 (j E) C F) λr s4 ⟨P,I4⟩=>?_);subst P;exact lX ⟨σ3,L,I4,qn⟩
 ·refine gD hp (thn (T.item X rfl rfl rfl hc i a s3 σ3 L X.xe I3 (j E) C go) λr s4 ⟨u,P,h4⟩=>?_);subst P;refine gD hp (thn h4 λ_ s5 ⟨x,H5,I5,r5,y5,y,Q⟩=>?_);have R:=I5.pinned (j Q) (T.obj _ _ y);refine gD hp (thn (hg _ s5 σ3 H5 x u _ R r5 (G x H5 y5)) λ_ s6 ⟨σ6,H6,I6,q6⟩=>?_);refine gD hp (thn (hb _ s6 σ6 H6 _ I6 q6) λf S t=>?_);have k:∀{σ7:St} {l:Hp},Inv X (a++Ut z s5.heap) σ7 l S->N σ7 l->∃m,m<n/\∃i σ' q,Inv X a σ' q S/\U i S.heap/\(∀b∈z,q b=none)/\W i m σ' q:=λ{σ7 l} p K=>by
   obtain⟨m',hm,w7⟩:=hN σ7 l K;refine⟨m',hm,i+1,σ7,l,p.unpinned,T.keep _ _ _ y λb hb o e=>(p.pin (b,o) (bh _ (bh _ (Vm hb e)))).1,λb hb=>?_,w7⟩;obtain⟨o,e,d⟩:=T.obj _ _ y b hb;exact (p.pin (b,o) (bh _ (bh _ (Vm hb e)))).2.1
  cases f with
  |next=>obtain⟨σ7,l,p,K⟩:=t;exact k p K
  |cont=>obtain⟨σ7,l,p,K⟩:=t;exact k p K
  |brk=>obtain⟨σ7,l,p,t⟩:=t;exact⟨σ7,l,p.unpinned,t⟩
  |ret v=>obtain⟨x7,σ7,l,p,r7,t⟩:=t;exact⟨x7,σ7,l,p.unpinned,r7,t⟩
end
theorem VG{K:W.Frag}{g:TG}{tb:TS}{D:Ends}(Pv:Nat->St->Hp->Prop)(h0:Pv 0 Z H)(hl:∀i Z H,i<=xs.length->Pv i Z H->SqL K H a xs)(hs:∀i x Z H,xs[i]?=some x->Pv i Z H->g x Z H fun σ2 H2=>tb { D with nx:=Pv (i+1),ct:=Pv (i+1),bk:=D.nx } σ2 H2)(hd:∀Z H,Pv xs.length Z H->D.nx Z H):
  ∃W:Nat->Nat->St->Hp->Prop,(∃m,W 0 m Z H)/\∀i m Z H,W i m Z H ->
   ((Itl K a).stop i H/\D.nx Z H)\/((Itl K a).go i H/\∃N:St->Hp->Prop,(∀σ' H',N σ' H'->∃m',m'<m/\W (i+1) m' σ' H')/\∀x H',(Itl K a).yld i H x H'->g x Z H' fun σ2 H2=>tb { D with nx:=N,ct:=N,bk:=D.nx } σ2 H2):=by
 refine⟨λi m Z H=>m=xs.length-i/\i<=xs.length/\Pv i Z H,⟨xs.length,by simp,bw _,h0⟩,?_⟩;rintro i m Z H ⟨rfl,c,p⟩;have q:=hl i Z H c p;by_cases b:i<xs.length
 ·refine .inr ⟨⟨xs,xs[i],q,by simp[b]⟩,Pv (i+1),fun σ' H' d=>⟨xs.length-(i+1),by omega,rfl,b,d⟩,λx H' y=>?_⟩;obtain⟨e,y⟩:=y;subst e;exact hs i x Z _ (y xs q) p
 ·have e:i=xs.length:=by omega
  subst e;exact .inl ⟨⟨xs,q,aq _⟩,hd Z H p⟩
theorem xj{lo:Int}{g:TG}{tb:TS}{D:Ends}(Pv:Nat->St->Hp->Prop)(h0:Pv 0 Z H)(hs:∀i Z H,i<n->Pv i Z H->g (.int (lo+i)) Z H fun σ2 H2=>tb { D with nx:=Pv (i+1),ct:=Pv (i+1),bk:=D.nx } σ2 H2)(hd:∀Z H,Pv n Z H->D.nx Z H):
  ∃W:Nat->Nat->St->Hp->Prop,(∃m,W 0 m Z H)/\∀i m Z H,W i m Z H ->
   ((Itr lo n).stop i H/\D.nx Z H)\/((Itr lo n).go i H/\∃N:St->Hp->Prop,(∀σ' H',N σ' H'->∃m',m'<m/\W (i+1) m' σ' H')/\∀x H',(Itr lo n).yld i H x H'->g x Z H' fun σ2 H2=>tb { D with nx:=N,ct:=N,bk:=D.nx } σ2 H2):=by
 refine⟨λi m Z H=>m=n-i/\i<=n/\Pv i Z H,⟨n,by simp,bw _,h0⟩,?_⟩;rintro i m Z H ⟨rfl,hi,p⟩;by_cases a:i<n
 ·refine .inr ⟨a,Pv (i+1),fun σ' H' b=>⟨n-(i+1),by omega,rfl,a,b⟩,λx H' y=>?_⟩;obtain⟨e,y⟩:=y;subst e y;exact hs i Z _ a p
 ·have e:i=n:=by omega
  subst e;exact .inl ⟨aq _,hd Z H p⟩
theorem VL(Pv:St->Hp->Prop)(μ:St->Hp->Nat)(h0:Pv Z H)(hs:∀Z H,Pv Z H->c Z H λb H1=>if b=true then tb { D with nx:=fun σ' H'=>Pv σ' H'/\μ σ' H'<μ Z H,ct:=fun σ' H'=>Pv σ' H'/\μ σ' H'<μ Z H,bk:=D.nx } Z H1 else D.nx Z H1)(mono:∀Z H Q Q',(∀b H1,Q b H1->Q' b H1)->c Z H Q->c Z H Q'):zdV c tb D Z H:=by
 refine⟨λm Z H=>m=μ Z H/\Pv Z H,⟨_,rfl,h0⟩,?_⟩;rintro m Z H ⟨rfl,p⟩;refine mono Z H _ _ (λb H1 q=>?_) (hs Z H p);cases b with
 |true=>exact⟨_,fun σ' H' ⟨a,l⟩=>⟨_,l,rfl,a⟩,q⟩
 |false=>exact q
abbrev R2:=V->V->Hp->VK->Prop
def OpR(X:Cx)(f:aD->aD->Np aD)(r:R2):Prop :=
 ∀(pins:List (au×kZ)) (s:aP) (Z:St) (H:Hp) (x y:V) (v u:aD) (Q:VK),Inv X pins Z H s->RelV x v->RelV y u->r x y H Q ->
  bH (bG X.prog X.w) X.A (f v u) (EP X pins Z Q) X.xe s
def UnR(X:Cx)(f:aD->Np aD)(r:V->Hp->VK->Prop):Prop :=
 ∀(pins:List (au×kZ)) (s:aP) (Z:St) (H:Hp) (x:V) (v:aD) (Q:VK),Inv X pins Z H s->RelV x v->r x H Q ->
  bH (bG X.prog X.w) X.A (f v) (EP X pins Z Q) X.xe s
def vZ(X:Cx)(f:aD)(r:List V->Hp->VK->Prop):Prop :=
 ∀(pins:List (au×kZ)) (s:aP) (Z:St) (H:Hp) (xs:List V) (us:List aD) (Q:VK),Inv X pins Z H s->Vals xs us->r xs H Q ->
  bH (bG X.prog X.w) X.A (call f us) (EP X pins Z Q) X.xe s
def tOp(r:R2)(ta tb:TE):TE:=λZ H Q=>ta Z H λx H1=>tb Z H1 λy H2=>r x y H2 Q
def tUn(r:V->Hp->VK->Prop)(ta:TE):TE:=λZ H Q=>ta Z H λx H1=>r x H1 Q
inductive RiC (C:Int->Int->Prop) (g:Int->Int->V) (x y:V) (H:Hp) (Q:VK):Prop
 |mk (i j:Int) (h1:x=.int i) (h2:y=.int j) (c:C i j) (q:Q (g i j) H):RiC C g x y H Q
def rI(C:Int->Int->Prop)(g:Int->Int->V):R2:=λx y H Q=>RiC C g x y H Q
inductive Ri0 (g:Int->Int->V) (x y:V) (H:Hp) (Q:VK):Prop
 |mk (i j:Int) (h1:x=.int i) (h2:y=.int j) (q:Q (g i j) H):Ri0 g x y H Q
def rI0(g:Int->Int->V):R2:=λx y H Q=>Ri0 g x y H Q
def rU(g:Int->V):V->Hp->VK->Prop:=λx H Q=>∃i,x=.int i/\Q (g i) H
section
variable {X:Cx} {a b c:dN} {ta tb tc:TE} {pos:nj}
theorem zim(ha:PE X a ta)(hb:PE X b tb){Z:St}{R:V->V->Hp->Prop}(I:Inv X pins Z H s)(h:ta Z H λx H1=>tb Z H1 λy H2=>R x y H2){f:aD->aD->Np aD}(hf:∀v u s2 x y H2,Inv X pins Z H2 s2->RelV x v->RelV y u->R x y H2->bH (bG X.prog X.w) X.A (f v u) Q X.xe s2):
  bH (bG X.prog X.w) X.A (dZ a X.env) (λv s₁=>bH (bG X.prog X.w) X.A (dZ b X.env) (λu s₂=>bH (bG X.prog X.w) X.A (f v u) Q X.xe s₂) X.xe s₁) X.xe s:=by
 refine thn (ha pins s Z H _ I h) λv c ⟨x,H1,d,e,g⟩=>?_;refine thn (hb pins c Z H1 _ d g) λu s2 ⟨y,H2,i,j,k⟩=>?_;exact hf v u s2 x y H2 i e j k
theorem zP(ho:OpR X (gW op) r)(ha:PE X a ta)(hb:PE X b tb):PE X (.BinOp a op b pos) (tOp r ta tb):=by
 intro c s Z H Q I h;exact wpAny_BinOp (zim ha hb I h λv u d x y e f g i q=>ho c d Z e x y v u Q f g i q)
theorem Qg(ho:UnR X (unaryOp op) r)(ha:PE X a ta):PE X (.UnaryOp op a pos) (tUn r ta):=by
 intro b s Z H Q I h;exact UnaryOp_ (thn (ha b s Z H _ I h) λv c ⟨x,d,e,f,g⟩=>ho b c Z d x v Q e f g)
theorem opI{g:Int->Int->Int}(rule:∀i j t u s Q E,C i j->Q (.int (g i j) s.toks) { s with toks:=s.toks+1 }->bH (bG X.prog X.w) X.A (f (.int i t) (.int j u)) Q E s):
  OpR X f (rI C λi j=>.int (g i j)):=by
 intro pins s Z H x y v u Q I a b h;obtain⟨i,j,rfl,rfl,c,q⟩:=h;obtain⟨t,rfl⟩:=a;obtain⟨d,rfl⟩:=b;exact rule i j t d s _ _ c ⟨.int (g i j),H,I.tok _,⟨_,rfl⟩,q⟩
theorem zi6{g:Int->Int->Int}(rule:∀i j t u s Q E,Q (.int (g i j) s.toks) { s with toks:=s.toks+1 }->bH (bG X.prog X.w) X.A (f (.int i t) (.int j u)) Q E s):
  OpR X f (rI0 λi j=>.int (g i j)):=by
 intro pins s Z H x y v u Q I a b h;obtain⟨i,j,rfl,rfl,q⟩:=h;obtain⟨t,rfl⟩:=a;obtain⟨c,rfl⟩:=b;exact rule i j t c s _ _ ⟨.int (g i j),H,I.tok _,⟨_,rfl⟩,q⟩
theorem zhg{g:Int->Int->Bool}(rule:∀i j t u s Q E,Q (.bool (g i j)) s->bH (bG X.prog X.w) X.A (f (.int i t) (.int j u)) Q E s):
  OpR X f (rI0 λi j=>.bl (g i j)):=by
 intro pins s Z H x y v u Q I a b h;obtain⟨i,j,rfl,rfl,q⟩:=h;obtain⟨t,rfl⟩:=a;obtain⟨c,rfl⟩:=b;exact rule i j t c s _ _ ⟨.bl (g i j),H,I,rfl,q⟩
def zit(i j:Int):Prop:=0<=j/\j<=1000000/\i.natAbs<2^64
def CMul(i j:Int):Prop:=(-(2^64)<i/\i<2^64)\/(-(2^64)<j/\j<2^64)
theorem CMul.ok(h:CMul i j):IntMulOk i j:=by
 rcases h with ⟨a,b⟩ | ⟨a,b⟩
 ·exact .of_left (Hy a b)
 ·exact .of_right (Hy a b)
theorem wL:OpR X (gW .Add) (rI0 λi j=>.int (i+j)):=zi6 λ_ _ _ _ _ _ _ q=>add_int q
theorem qG:OpR X (gW .Sub) (rI0 λi j=>.int (i-j)):=zi6 λ_ _ _ _ _ _ _ q=>sub_int q
theorem Zc:OpR X (gW .Mult) (rI CMul λi j=>.int (i*j)):=opI λ_ _ _ _ _ _ _ a q=>mul_int q a.ok
theorem Z3:OpR X (gW .Mod) (rI (λ_ j=>0<j) λi j=>.int (i % j)):=opI λi j _ _ _ _ _ hc q=>by
 exact mod_int' (by omega) (by rw[Int.fmod_eq_emod_of_nonneg i (by omega)];exact q)
theorem zg3:OpR X (gW .Pow) (rI zit λi j=>.int (i^j.toNat)):=opI λ_ _ _ _ _ _ _ a q=>pow_int_small a.1 a.2.1 a.2.2 q
theorem unI{g:Int->Int}(rule:∀i t s Q E,Q (.int (g i) s.toks) { s with toks:=s.toks+1 }->bH (bG X.prog X.w) X.A (f (.int i t)) Q E s):
  UnR X f (rU λi=>.int (g i)):=by
 intro pins s Z H x v Q I a h;obtain⟨i,rfl,q⟩:=h;obtain⟨t,rfl⟩:=a;exact rule i t s _ _ ⟨.int (g i),H,I.tok _,⟨_,rfl⟩,q⟩
theorem Xk:UnR X (unaryOp .USub) (rU λi=>.int (-i)):=unI λ_ _ _ _ _ q=>neg_int q
end
def zi2:V->V->Bool
 |.non,.non=>true | .non,.int _=>true | .int _,.non=>true | .non,.bl _=>true | .bl _,.non=>true | .non,.str _=>true | .str _,.non=>true
 |.int _,.int _=>true | .bl _,.bl _=>true | .str _,.str _=>true | .byt _,.byt _=>true
 |.int _,.str _=>true | .str _,.int _=>true | .bl _,.str _=>true | .str _,.bl _=>true
 |_,_=>false
def rEq:R2:=λx y H Q=>zi2 x y=true/\Q (.bl (decide (x=y))) H
def rNe:R2:=λx y H Q=>zi2 x y=true/\Q (.bl (!decide (x=y))) H
theorem zeE:decide (V.int i=V.int j)=(i == j):=by
 rw[cH];simp
theorem zgr:decide (V.bl i=V.bl j)=(i == j):=by
 rw[cH];simp
theorem zeI:decide (V.str i=V.str j)=(i == j):=by
 rw[cH];simp
theorem zes:decide (V.byt i=V.byt j)=(i.toList == j.toList):=by
 rw[cH];cases i
 cases j;simp
section
variable {X:Cx} {a b c:dN} {ta tb tc:TE} {pos:nj}
theorem yO{Z:St}(I:Inv X pins Z H s)(q:Q (.bl k) H)(e:k=k'):EP X pins Z Q (.bool k') s:=by
 subst e;exact⟨.bl k,H,I,rfl,q⟩
theorem XR:OpR X (cO .Eq) rEq:=by
 intro pins s Z H x y v u Q I g a h;obtain⟨f,q⟩:=h;cases x with
 |non=>
  cases g;cases y with
  |non=>cases a;exact PySem.EqNone.eq_none_none (yO I q (by simp))
  |bl j=>cases a;exact PySem.EqNone.eq_none_bool (yO I q (by simp))
  |int j=>obtain⟨e,rfl⟩:=a;exact PySem.EqNone.eq_none_int (yO I q (by simp))
  |str j=>obtain⟨e,rfl⟩:=a;exact PySem.EqNone.eq_none_str (yO I q (by simp))
  |_=>exact absurd (show false=true from f) bc
 |bl i=>
  cases g;cases y with
  |non=>cases a;exact PySem.EqNone.eq_bool_none (yO I q (by simp))
  |bl j=>cases a;exact eq_bool (yO I q zgr)
  |str j=>obtain⟨e,rfl⟩:=a;exact PySem.EqMixed.eq_bool_str (yO I q (by simp))
  |_=>exact absurd (show false=true from f) bc
 |int i=>
  obtain⟨t,rfl⟩:=g;cases y with
  |non=>cases a;exact PySem.EqNone.eq_int_none (yO I q (by simp))
  |int j=>obtain⟨e,rfl⟩:=a;exact eq_int (yO I q zeE)
  |str j=>obtain⟨e,rfl⟩:=a;exact PySem.EqMixed.eq_int_str (yO I q (by simp))
  |_=>exact absurd (show false=true from f) bc
 |str i=>
  obtain⟨t,rfl⟩:=g;cases y with
  |non=>cases a;exact PySem.EqNone.eq_str_none (yO I q (by simp))
  |bl j=>cases a;exact PySem.EqMixed.eq_str_bool (yO I q (by simp))
  |int j=>obtain⟨e,rfl⟩:=a;exact PySem.EqMixed.eq_str_int (yO I q (by simp))
  |str j=>obtain⟨e,rfl⟩:=a;exact eq_str (yO I q zeI)
  |_=>exact absurd (show false=true from f) bc
 |byt i=>
  obtain⟨t,rfl⟩:=g;cases y with
  |byt j=>obtain⟨e,rfl⟩:=a;exact W.eq_bytes (yO I q zes)
  |_=>exact absurd (show false=true from f) bc
 |_=>cases y<;>exact absurd (show false=true from f) bc
theorem zei:OpR X (cO .NotEq) rNe:=by
 intro pins s Z H x y v u Q I g a h;obtain⟨f,q⟩:=h;cases x with
 |non=>
  cases g;cases y with
  |non=>cases a;exact PySem.EqNone.ne_none_none (yO I q (by simp))
  |bl j=>cases a;exact PySem.EqNone.ne_none_bool (yO I q (by simp))
  |int j=>obtain⟨e,rfl⟩:=a;exact PySem.EqNone.ne_none_int (yO I q (by simp))
  |str j=>obtain⟨e,rfl⟩:=a;exact PySem.EqNone.ne_none_str (yO I q (by simp))
  |_=>exact absurd (show false=true from f) bc
 |bl i=>
  cases g;cases y with
  |non=>cases a;exact PySem.EqNone.ne_bool_none (yO I q (by simp))
  |bl j=>cases a;exact ne_bool (yO I q (congrArg not zgr))
  |str j=>obtain⟨e,rfl⟩:=a;exact PySem.EqMixed.ne_bool_str (yO I q (by simp))
  |_=>exact absurd (show false=true from f) bc
 |int i=>
  obtain⟨t,rfl⟩:=g;cases y with
  |non=>cases a;exact PySem.EqNone.ne_int_none (yO I q (by simp))
  |int j=>obtain⟨e,rfl⟩:=a;exact ne_int (yO I q (congrArg not zeE))
  |str j=>obtain⟨e,rfl⟩:=a;exact PySem.EqMixed.ne_int_str (yO I q (by simp))
  |_=>exact absurd (show false=true from f) bc
 |str i=>
  obtain⟨t,rfl⟩:=g;cases y with
  |non=>cases a;exact PySem.EqNone.ne_str_none (yO I q (by simp))
  |bl j=>cases a;exact PySem.EqMixed.ne_str_bool (yO I q (by simp))
  |int j=>obtain⟨e,rfl⟩:=a;exact PySem.EqMixed.ne_str_int (yO I q (by simp))
  |str j=>obtain⟨e,rfl⟩:=a;exact ne_str (yO I q (congrArg not zeI))
  |_=>exact absurd (show false=true from f) bc
 |byt i=>
  obtain⟨t,rfl⟩:=g;cases y with
  |byt j=>obtain⟨e,rfl⟩:=a;exact W.ne_bytes (yO I q (congrArg not zes))
  |_=>exact absurd (show false=true from f) bc
 |_=>cases y<;>exact absurd (show false=true from f) bc
theorem QQ:OpR X (cO .Lt) (rI0 λi j=>.bl (decide (i<j))):=zhg λ_ _ _ _ _ _ _ q=>lt_int q
theorem Qi:OpR X (cO .LtE) (rI0 λi j=>.bl (decide (i<=j))):=zhg λ_ _ _ _ _ _ _ q=>le_int q
theorem Us:OpR X (cO .Gt) (rI0 λi j=>.bl (decide (j<i))):=zhg λ_ _ _ _ _ _ _ q=>gt_int q
theorem zha:OpR X (cO .GtE) (rI0 λi j=>.bl (decide (j<=i))):=zhg λ_ _ _ _ _ _ _ q=>ge_int q
theorem Uu:OpR X (cO .Is) (λx y H Q=>y=.non/\Q (.bl (decide (x=.non))) H):=by
 intro pins s Z H x y v u Q I a b h;obtain⟨rfl,q⟩:=h;cases b
 refine is_none_gen (yO I q ?_);cases x<;>first
  | (cases a;rfl)
  | (obtain⟨t,rfl⟩:=a;rfl)
theorem jg:OpR X (cO .IsNot) (λx y H Q=>y=.non/\Q (.bl (!decide (x=.non))) H):=by
 intro pins s Z H x y v u Q I a b h;obtain⟨rfl,q⟩:=h;cases b
 refine isnot_none_gen (yO I q ?_);cases x<;>first
  | (cases a;rfl)
  | (obtain⟨t,rfl⟩:=a;rfl)
theorem zM(b:dN)(h:op≠.In:=by decide)(h2:op≠.NotIn:=by decide):iU op b=false:=by
 have a:(op == M3)=false:=by cases op<;>first | rfl | exact absurd rfl h
 have c:(op == Kq)=false:=by cases op<;>first | rfl | exact absurd rfl h2
 cases b<;>simp[iU,a,c]
theorem xK(ho:OpR X (cO op) r)(ha:PE X a ta)(hb:PE X b tb)(hm:iU op b=false):PE X (.Compare a [op] [b] pos) (tOp r ta tb):=by
 intro c s Z H Q I h;exact wpAny_Compare1 (zim ha hb I h λv u d x y e f g i q=>ho c d Z e x y v u Q f g i q) hm
def zh5(t:TE):TT:=λZ H Q=>t Z H λx H1=>BlI x H1 Q
theorem zK(ho:OpR X (cO op) r)(ha:PE X a ta)(hb:PE X b tb)(hm:iU op b=false):PT X (.Compare a [op] [b] pos) (zh5 (tOp r ta tb)):=by
 intro d s Z H Q I h;refine BW (thn (ha d s Z H _ I h) λv f ⟨x,g,i,j,l⟩=>thn (hb d f Z g _ i l) λu m ⟨y,n,o,p,q⟩=>
  thn (ho d m Z n x y v u _ o j p q) λc s3 ⟨z,t,w,A,k,e,B⟩=>?_) hm
 subst e;cases A
 exact dR ⟨t,w,B⟩
def zf5(r r':R2)(ta tb tc:TE):TE:=λZ H Q=>ta Z H λx H1=>tb Z H1 λy H2=>r x y H2 λz H3=>∃k,z=.bl k /\
 (if k=true then tc Z H3 λw' H4=>r' y w' H4 Q else Q (.bl false) H3)
theorem Jv(ho:OpR X (cO op) r)(ho':OpR X (cO op') r')(ha:PE X a ta)(hb:PE X b tb)(hc:PE X c tc)(hm:lastMarks [op,op'] [b,c]=false:=by with_unfolding_all rfl):PE X (.Compare a [op,op'] [b,c] pos) (zf5 r r' ta tb tc):=by
 intro f s Z H Q I h;refine Compare_chain (thn (ha f s Z H _ I h) λv m ⟨x,n,o,p,q⟩=>chain_link (thn (hb f m Z n _ o q) λu t ⟨y,w,A,g,B⟩=>
  thn (ho f t Z w x y v u _ A p g B) λd C ⟨z,i,j,D,k,e,l⟩=>?_)) hm
 subst e;cases D
 refine dR ?_;cases k with
 |false=>exact ite_ff ⟨.bl false,i,j,rfl,l⟩
 |true=>exact ite_tt (chain_last (thn (hc f C Z i _ j l) λE F ⟨G,J,K,L,M⟩=>ho' f F Z J y G u E Q K g L M))
theorem zcw(ho:OpR X (cO op) r)(ho':OpR X (cO op') r')(ha:PE X a ta)(hb:PE X b tb)(hc:PE X c tc)(hm:lastMarks [op,op'] [b,c]=false:=by with_unfolding_all rfl):PT X (.Compare a [op,op'] [b,c] pos) (zh5 (zf5 r r' ta tb tc)):=by
 intro f s Z H Q I h;refine isTrue_chain (thn (ha f s Z H _ I h) λv m ⟨x,n,o,p,q⟩=>test_link (thn (hb f m Z n _ o q) λu t ⟨y,w,A,g,B⟩=>
  thn (ho f t Z w x y v u _ A p g B) λd C ⟨z,i,j,D,k,e,l⟩=>?_)) hm
 subst e;cases D
 refine dR ?_;cases k with
 |false=>
  obtain⟨k',E,F⟩:=l;cases E
  exact ite_ff ⟨i,j,F⟩
 |true=>
  refine ite_tt (test_last (thn (hc f C Z i _ j l) λG J ⟨K,L,M,N,O⟩=>thn (ho' f J Z L y K u G _ M g N O) λd' s5 ⟨z2,P,R,S,k2,T,U⟩=>?_));subst T;cases S
  exact dR ⟨P,R,U⟩
theorem zbS:(aA:Nat)<2^63:=by rw[Cq];decide
theorem vals1(r:Vals [x] us):∃u,us=[u]/\RelV x u:=by
 cases r with
 |cons a b=>cases b;exact⟨_,rfl,a⟩
theorem vals2(r:Vals [x,y] us):∃u w',us=[u,w']/\RelV x u/\RelV y w':=by
 cases r with
 |cons a b=>
  cases b with
  |cons c d=>cases d;exact⟨_,_,rfl,a,c⟩
theorem zfB(hc:X.calm=true):vZ X (.builtin "max") (λxs H Q=>∃i j,xs=[.int i,.int j]/\Q (.int (if j>i then j else i)) H):=by
 intro pins s Z H xs us Q I r h;obtain⟨i,j,rfl,q⟩:=h;obtain⟨u,w',rfl,⟨t,rfl⟩,⟨t',rfl⟩⟩:=vals2 r;refine max_two_ints (I.ok.hd hc) λh' tk k=>⟨_,H,I.kept k,?_,q⟩
 by_cases a:j>i
 ·rw[if_pos a,if_pos a];exact⟨_,rfl⟩
 ·rw[if_neg a,if_neg a];exact⟨_,rfl⟩
theorem UT(hc:X.calm=true):vZ X (.builtin "min") (λxs H Q=>∃i j,xs=[.int i,.int j]/\Q (.int (if j<i then j else i)) H):=by
 intro pins s Z H xs us Q I r h;obtain⟨i,j,rfl,q⟩:=h;obtain⟨u,w',rfl,⟨t,rfl⟩,⟨t',rfl⟩⟩:=vals2 r;refine min_two_ints (I.ok.hd hc) λh' tk k=>⟨_,H,I.kept k,?_,q⟩
 by_cases a:j<i
 ·rw[if_pos a,if_pos a];exact⟨_,rfl⟩
 ·rw[if_neg a,if_neg a];exact⟨_,rfl⟩
theorem qP:vZ X (.type "int") (λxs H Q=>(∃i,xs=[.int i]/\Q (.int i) H)\/∃k,xs=[.bl k]/\Q (.int (if k then 1 else 0)) H):=by
 intro pins s Z H xs us Q I r h;rcases h with ⟨i,rfl,q⟩ | ⟨k,rfl,q⟩
 ·obtain⟨u,rfl,t,rfl⟩:=vals1 r;exact call_int_int ⟨.int i,H,I,⟨_,rfl⟩,q⟩
 ·obtain⟨u,rfl,a⟩:=vals1 r;cases a
  exact call_int_bool ⟨.int (if k then 1 else 0),H,I.tok _,⟨_,rfl⟩,q⟩
end
structure ObjM (h:dj) (x dx C:au) (mA:bZ->Option aD):Prop where
 obj:h.get? x=some (nM C dx)
 ns:h.Ns1 dx mA
 ne:dx≠x
theorem zeV{h:dj}(n:h.Ns1 dx mA):∃od,h.get? dx=some od/\∀name,Gx name od=some (mA name):=by
 obtain⟨o,c,ep,d,f,g,_,i⟩:=n;refine⟨o,d,λname=>?_⟩;have e:=i name;unfold nsFind findBy at e;rw[<-Array.find?_toList]at e;unfold Gx;rw[f];dsimp only;split
 ·rename_i y q
  rw[q]at e;exact congrArg some e
 ·rename_i q
  rw[q]at e;have a:c.toList.any (·.refKey)=false:=by
   rw[fu];intro y j;obtain⟨z,t,b⟩:=g y (Array.mem_toList_iff.mp j);simp[My,b]
  have k:¬ c.toList.any (·.refKey)=true:=by rw[a];exact bc
  rw[if_neg k];exact congrArg some e
theorem ObjM.look(I:ObjM h x dx C mA):∃od,W.InstAt h x (nM C dx) C (some od)/\∀name,Gx name od=some (mA name):=
 let ⟨od,ho,hl⟩:=zeV I.ns
 ⟨od,⟨I.obj,rfl,rfl,ho⟩,hl⟩
section
variable {prog:bx} {w:bU} {A:dB} {E:aD->aP->Prop} {s:aP} {K:aK} {x dx C f:au} {mA:bZ->Option aD} {name:bZ} {v:aD}
theorem zhA(X:K.In s.heap)(I:ObjM s.heap x dx C mA)(hg:sX K C name=true)(hh:Cr K C=true)(ha:gk K (.ref C) name=some none)(hv:mA name=some v)(hv':Ls v=true)(h:Q v { s with toks:=s.toks+1 }):
  bH (bG prog w) A (Ml (.ref x) name expr) Q E s:=by
 obtain⟨od,J,a⟩:=I.look;exact W.get_value X J (Dt hg).1 (W.findObj_own hh ha rfl (by rw[a,hv])) hv' h
theorem zg5(X:K.In s.heap)(I:ObjM s.heap x dx C mA)(hg:sX K C name=true)(hf:gk K (.ref C) name=some (some (.ref f)))(ht:Lx K (.ref f)=true)(hv:mA name=none)(h:Q (.ref f,[.ref x]) s):
  bH (bG prog w) A (pF (.ref x) name pl) Q E s:=by
 obtain⟨a,J,b⟩:=I.look;exact W.method_fn X J (Dt hg).1 (Dt hg).2 hf (beq_iff_eq.mp ht) (by show (Gx name a).map (·.isSome)=some false;rw[b,hv];rfl) h
theorem zh1(X:K.In s.heap)(I:ObjM s.heap x dx C mA)(hs:gk K (.ref C) "__setattr__"= some (some (.builtin "object.__setattr__")))(hp:FQ K C=true)(ht:HX K C name=some none)(hh:Cr K C=true)(hw:PySem.Within mA ns)(hsz:ns.length<=aA)(h:∀h',ObjM h' x dx C (λy=>if y=name then some v else mA y)->mO dx s.heap h'->Q () { s with heap:=h',toks:=s.toks+2 }):
  bH (bG prog w) A (setAttr (.ref x) name v) Q E s:=by
 obtain⟨od,J,hl⟩:=I.look;refine W.set_plain X J hs (W.osa_open X J hp ht λb=>?_);obtain⟨cd,i,d⟩:=W.any_some hh;have j:=I.obj;refine ak (aG (ak (ak (Cu j (ak (Nh (W.looks_clsIn X i) ?_))))));rw[d];refine aG (ak (aG (ak ?_)));refine wpAny_nsSet1 I.ns λh' a c=>?_;obtain⟨oD,esD,epD,e,f,g⟩:=a.count (PySem.Within.cons name v hw);refine ak (wpAny_lookBehind e (by rw[f];exact pastItsLine_dict (aB g (by rw[bF];omega))) ?_);exact aG (h _ ⟨(c.2 _ (cF I.ne)).trans I.obj,a,I.ne⟩ c)
theorem zgj(X:K.In s.heap)(hm:HY K C=true)(hi:gk K (.ref C) "__init__"= some (some (.ref f)))(hf:Kw K (.ref f)=some (.type "function"))(h:jL (bG prog w) (A.under (.builtin "type.__call__" ⟨.ref C::vs,kw⟩)) (.call (.ref f) ⟨.ref (s.heap.objs.size+1)::vs,kw⟩) (W.InitBack (s.heap.objs.size+1) R)
   { s with heap:=(s.heap.push lg).push (nM C s.heap.objs.size) }):
  jL (bG prog w) A (.call (.ref C) ⟨vs,kw⟩) R s:=by
 obtain⟨hh,g,d,t,os⟩:=s;exact W.make_core (W.makes_of X hm) (pI X hi) (λa=>W.bind_fn X a hf) (.inl rfl) h
end
def ym(f:bZ)(v:V):List (bZ×V)->List (bZ×V)
 |[]=>[(f,v)]
 | (g,x)::r=>if g=f then (g,v)::r else (g,x)::ym f v r
theorem zJ(f g:bZ)(v:V):∀fs:List (bZ×V),(ym f v fs).lookup g=if g=f then some v else fs.lookup g
 |[]=>by
  show mF g [(f,v)]=_;by_cases h:g=f
  ·have hb:(g == f)=true:=beq_iff_eq.mpr h;simp only[mF,hb,if_pos h]
  ·have hb:=beq_eq_false_iff_ne.mpr h;simp only[mF,hb,if_neg h]
 | (k,x)::r=>by
  have b:=zJ f g v r;rw[show ym f v ((k,x)::r)=(if k=f then (k,v)::r else (k,x)::ym f v r) from rfl];by_cases a:k=f
  ·rw[if_pos a];by_cases h:g=k
   ·have hb:=beq_iff_eq.mpr h;simp only[mF,hb,if_pos (h.trans a)]
   ·have hb:=beq_eq_false_iff_ne.mpr h;simp only[mF,hb,if_neg (λe:g=f=>h (e.trans a.symm))]
  ·rw[if_neg a];by_cases h:g=k
   ·have hb:=beq_iff_eq.mpr h;simp only[mF,hb,if_neg (λe:g=f=>a (h.symm.trans e))]
   ·have hb:=beq_eq_false_iff_ne.mpr h;simp only[mF,hb];exact b
theorem U6(f:bZ)(v:V):∀fs:List (bZ×V),f∈(ym f v fs).map (·.1)/\∀g,g∈fs.map (·.1)->g∈(ym f v fs).map (·.1)
 |[]=>⟨by simp[ym],λg h=>by simp at h⟩
 | (k,x)::r=>by
  obtain⟨i1,i2⟩:=U6 f v r;rw[show ym f v ((k,x)::r)=(if k=f then (k,v)::r else (k,x)::ym f v r) from rfl];by_cases a:k=f
  ·rw[if_pos a];subst a;exact⟨by simp,λg h=>by simpa using h⟩
  ·rw[if_neg a];refine⟨?_,λg h=>?_⟩
   ·rw[bC];exact bQ _ i1
   ·rw[bC]at h ⊢;rcases aW.mp h with e | e
    ·exact aW.mpr (.inl e)
    ·exact bQ _ (i2 g e)
theorem vp(f:bZ)(v:V):∀fs:List (bZ×V),(ym f v fs).length<=fs.length+1
 |[]=>by simp[ym]
 | (k,x)::r=>by
  have ih:=vp f v r;rw[show ym f v ((k,x)::r)=(if k=f then (k,v)::r else (k,x)::ym f v r) from rfl];by_cases a:k=f
  ·rw[if_pos a,bF,bF];omega
  ·rw[if_neg a,bF,bF];omega
theorem RelO.some_of(r:RelO (some v) o):∃u,o=some u/\RelV v u:=by
 cases o with
 |none=>exact (show False from r).elim
 |some u=>exact⟨u,rfl,r⟩
theorem RelO.none_of(r:RelO none o):o=none:=by
 cases o with
 |none=>rfl
 |some u=>exact (show False from r).elim
theorem zfG(r:RelV v u):Ls u=true:=by
 cases v with
 |non=>cases (show u=eY from r);rfl
 |bl b=>cases (show u=nJ b from r);rfl
 |int i=>obtain⟨t,e⟩:=(show ∃t,u=lA i t from r);cases e;rfl
 |str x=>obtain⟨t,e⟩:=(show ∃t,u=nH x t from r);cases e;rfl
 |byt b=>obtain⟨t,e⟩:=(show ∃t,u=Ko b t from r);cases e;rfl
 |flt b=>obtain⟨t,e⟩:=(show ∃t,u=FN b t from r);cases e;rfl
 |ref a=>cases (show u=aU a from r);rfl
 |ty n=>cases (show u=gK n from r);rfl
section
variable {P:bx} {w:bU} {H H':Hp} {h h':dj} {a C dx:au} {fs fs':List (bZ×V)}
theorem QL(hok:HOk P w H h)(e:H a=some (.ins C dx fs)):∃mA,ObjM h a dx C mA/\(∀f,RelO (fs.lookup f) (mA f))/\PySem.Within mA (fs.map (·.1))/\fs.length<=1000/\H dx=some (.own a):=by
 obtain⟨d,z,b,c,mA,n,r,q⟩:=(show ObjOk P w H h a (.ins C dx fs) from hok a _ e)
 exact⟨mA,⟨c,n,b⟩,r,q,z,d⟩
end
structure Cls (K:aK) (C:au):Prop where
 pg:sX K C Mz=true
 hd:Cr K C=true
 po:FQ K C=true
 sa:gk K (.ref C) "__setattr__"= some (some (.builtin "object.__setattr__"))
theorem Cls.get{K:aK}(c:Cls K C)(f:bZ):sX K C f=true:=c.pg
def NoAttr(K:aK)(C:au)(f:bZ):Prop:=gk K (.ref C) f=some none
theorem NoAttr.taker{K:aK}(n:NoAttr K C f):HX K C f=some none:=by
 unfold HX;rw[show gk K (.ref C) f=some none from n];rfl
structure Meth (K:aK) (C:au) (m:bZ) (f:au):Prop where
 at_:gk K (.ref C) m=some (some (.ref f))
 fn:Lx K (.ref f)=true
 kp:pJ K (.ref f)=true
section
variable {X:Cx} {pins:List (au×kZ)} {Z:St} {H:Hp} {s:aP} {a C dx:au} {fs:List (bZ×V)} {f:bZ} {v:V} {A:dB} {E:aD->aP->Prop}
theorem zdT(I:Inv X pins Z H s)(e:H a=some (.ins C dx fs))(c:Cls X.K C)(n:NoAttr X.K C f)(l:fs.lookup f=some v)(h:∀u s',Inv X pins Z H s'->RelV v u->Q u s'):bH (bG X.prog X.w) A (Ml (.ref a) f b) Q E s:=by
 obtain⟨mA,O,r,_,_,_⟩:=QL I.hok e;obtain⟨u,g,d⟩:=RelO.some_of (by rw[<-l];exact r f);exact zhA I.kIn O (c.get f) c.hd n g (zfG d) (h u _ (I.tok _) d)
theorem Vd(I:Inv X pins Z H s)(e:H a=some (.ins C dx fs))(c:Cls X.K C)(k:Meth X.K C m g)(l:fs.lookup m=none)(h:Q (.ref g,[.ref a]) s):bH (bG X.prog X.w) A (pF (.ref a) m pl) Q E s:=by
 obtain⟨mA,O,r,_,_,_⟩:=QL I.hok e;have b:=RelO.none_of (by rw[<-l];exact r m);exact zg5 I.kIn O (c.get m) k.at_ k.fn b h
theorem zdu(I:Inv X pins Z H s)(e:H a=some (.ins C dx fs))(c:Cls X.K C)(n:NoAttr X.K C f)(hl:fs.length<1000)(ry:RelV y u)(h:∀s',Inv X pins Z (upd H a (.ins C dx (ym f y fs))) s'->Q () s'):bH (bG X.prog X.w) A (setAttr (.ref a) f u) Q E s:=by
 obtain⟨i,O,r,j,_,k⟩:=QL I.hok e;have l:(fs.map (·.1)).length<=aA:=by rw[aa,Cq];omega
 refine zh1 I.kIn O c.sa c.po n.taker c.hd j l λm d p=>h _ ?_;have t:∃o,m.get? dx=some o:=let ⟨o,_,_,e',_⟩:=d.ns;⟨o,e'⟩;refine I.write (by rw[e];exact iC) (.inr k) (λb q v z=>(p.2 b v).trans z) t ?_;refine⟨by rw[zy O.ne];exact k,?_,O.ne,d.obj,_,d.ns,λg=>?_,λg x=>?_⟩
 ·have:=vp f y fs;omega
 ·show RelO ((ym f y fs).lookup g) (if g=f then some u else i g);rw[zJ];by_cases q:g=f
  ·rw[if_pos q,if_pos q];exact ry
  ·rw[if_neg q,if_neg q];exact r g
 ·by_cases q:g=f
  ·rw[q];exact (U6 f y fs).1
  ·refine (U6 f y fs).2 g (j g λz=>x ?_);show (if g=f then some u else i g)=none;rw[if_neg q];exact z
theorem Inv.made(I:Inv X pins Z H s):Inv X pins Z (upd (upd H s.heap.objs.size (.own (s.heap.objs.size+1))) (s.heap.objs.size+1) (.ins C s.heap.objs.size []))
  { s with heap:=(s.heap.push lg).push (nM C s.heap.objs.size) }:=by
 have a:(s.heap.push lg).get? s.heap.objs.size=some lg:=bz s.heap rfl;have d:((s.heap.push lg).push (nM C s.heap.objs.size)).get? (s.heap.objs.size+1)=some (nM C s.heap.objs.size):=by
  have:=bz (s.heap.push lg) (o:=nM C s.heap.objs.size) rfl;rwa[mR]at this
 have f:(s.heap.push lg).Ns s.heap.objs.size (λ_=>none):=⟨lg,#[],_,a,rfl,(λe g=>absurd g (by simp)),λ_=>rfl⟩
 have h:=I.laid (o:=.own (s.heap.objs.size+1)) (t':=s.toks) (λb u q=>az _ q) (aq _) ⟨_,a⟩;refine h.laid (λb u q=>az _ q) (iD (mR _ _)) ?_;have c:s.heap.objs.size≠s.heap.objs.size+1:=bj (nQ _);refine⟨by rw[zy c,zj],bw _,c,d,λ_=>none,(Mm f).at λo q=>az _ q,λ_=>iC,λy i=>absurd rfl i⟩
theorem zhZ(hb:lL e f env (dZ e env)=dZ e env)(h:bH (bG prog w) A (dZ e env) (λo s₁=>bH (bG prog w) A (Ml o f true) Q E s₁) E s):bH (bG prog w) A (dZ (.Attribute e f pos) env) Q E s :=
 Attribute_any_ h (by rw[arm_eval_Attribute,hb])
end
inductive FdI (K:aK) (f:bZ) (x:V) (H:Hp) (Q:VK):Prop
 |mk (a C dx:au) (fs:List (bZ×V)) (v:V) (h1:x=.ref a) (h2:H a=some (.ins C dx fs)) (h3:Cls K C) (h4:NoAttr K C f) (h5:fs.lookup f=some v) (q:Q v H):FdI K f x H Q
def zjo(K:aK)(ta:TE)(f:bZ):TE:=λZ H Q=>ta Z H λx H1=>FdI K f x H1 Q
def zjU(K:aK)(ta tv:TE)(f:bZ):TS:=λD Z H=>tv Z H λy H1=>ta Z H1 λx H2=>Ex4 λa C dx fs=>x=.ref a/\H2 a=some (.ins C dx fs)/\Cls K C/\NoAttr K C f/\fs.length<1000 /\
 D.nx Z (upd H2 a (.ins C dx (ym f y fs)))
section
variable {X:Cx} {o e value:dN} {f:bZ} {pos pos' tpos:nj} {ta tv:TE}
theorem ziY(he:PE X e ta)(hb:lL e f X.env (dZ e X.env)=dZ e X.env):PE X (.Attribute e f pos) (zjo X.K ta f):=by
 intro b s Z H Q I h;refine zhZ hb (thn (he b s Z H _ I h) λu s1 ⟨x,d,g,i,a,C,dx,fs,v,j,k,c,n,l,q⟩=>?_);subst j;obtain rfl:u=aU a:=i;exact zdT g k c n l λu' s2 m o=>⟨v,d,m,o,q⟩
theorem ZZ(ha:PE X o ta)(hv:PE X value tv)(hs:mC value (some (.Attribute o f pos')) pos.line X.env=pure false):PS X (.Assign [.Attribute o f pos'] value pos) (zjU X.K ta tv f):=by
 intro b s Z H D I h;refine plainObj_wpAny_Assign_Attribute (thn (hv b s Z H _ I h) λu d ⟨y,e,g,i,q⟩=>thn (ha b d Z e _ g q) λj s2 ⟨x,H2,k,m,a,C,dx,fs,p,r,c,n,l,t⟩=>?_) hs;subst p;obtain rfl:j=aU a:=m;exact zdu k r c n l i λs3 v=>⟨Z,_,v,t⟩
end
section
variable {X:Cx} {pins:List (au×kZ)} {Z:St} {H:Hp} {s:aP} {A:dB} {E:aD->aP->Prop} {Q:aD->aP->Prop} {c:aD} {b:Bool}
inductive V8 (K:aK) (H:Hp):V->aD->Prop where
 |non:V8 K H .non (.type "NoneType")
 |bl (x:Bool):V8 K H (.bl x) (.type "bool")
 |int (i:Int):V8 K H (.int i) (.type "int")
 |str (x:bZ):V8 K H (.str x) (.type "str")
 |flt (x:UInt64):V8 K H (.flt x) (.type "float")
 |lst {a:au} {xs:List V} (e:H a=some (.lst xs)):V8 K H (.ref a) (.type "list")
 |frz {a:au} {o:kZ} {xs:List V} (e:H a=some (.frz o (.lst xs))):V8 K H (.ref a) (.type "list")
 |tup {a:au} {xs:List V} (e:H a=some (.tup xs)):V8 K H (.ref a) (.type "tuple")
 |dK {a:au} {kvs:List (Key×V)} (e:H a=some (.dK kvs)):V8 K H (.ref a) (.type "dict")
 |dT {a:au} {kvs:List (List Key×V)} (e:H a=some (.dT kvs)):V8 K H (.ref a) (.type "dict")
 |ins {a C dx:au} {fs:List (bZ×V)} (e:H a=some (.ins C dx fs)) (cl:Cls K C) (ha:gk K (.ref C) "__class__"= some (some (.builtin "object.__class__")))
   (hn:Ky K (.builtin "object.__class__") "__get__"= some (some (.builtin "getset_descriptor.__get__"))) (htk:MF K (.builtin "object.__class__")=some true)
   (hm:gq K C (.type "object")=some true):V8 K H (.ref a) (.ref C)
theorem zfg(I:Inv X pins Z H s)(rx:RelV x u)(ty:V8 X.K H x t)(e:cJ X.K t c=some b)(h:∀tk,Q (.bool b) { s with toks:=tk }):
  bH (bG X.prog X.w) A (call (.builtin "isinstance") [u,c]) Q E s:=by
 cases ty with
 |non=>cases (show u=eY from rx);exact gY W.kitx_none I.kIn iC e (λz=>nomatch z) h
 |bl y=>cases (show u=nJ y from rx);exact gY W.kitx_bool I.kIn iC e (λz=>nomatch z) h
 |int i=>obtain⟨t,q⟩:=(show ∃t,u=lA i t from rx);cases q;exact gY W.kitx_int I.kIn iC e (λz=>nomatch z) h
 |str y=>obtain⟨t,q⟩:=(show ∃t,u=nH y t from rx);cases q;exact gY W.kitx_str I.kIn iC e (λz=>nomatch z) h
 |flt y=>obtain⟨t,q⟩:=(show ∃t,u=FN y t from rx);cases q;exact gY W.kitx_float I.kIn iC e (λz=>nomatch z) h
 |@lst a j d=>
  cases (show u=aU a from rx);obtain⟨_,_,n,_,f⟩:=(show ObjOk X.prog X.w H s.heap a (.lst j) from I.hok a _ d)
  exact gY Kz I.kIn ⟨_,f,rfl⟩ e (λz=>nomatch z) h
 |@frz a r j d=>
  cases (show u=aU a from rx);obtain⟨_,_,_,n,_,f⟩:=(show ObjOk X.prog X.w H s.heap a (.frz r (.lst j)) from I.hok a _ d)
  exact gY Kz I.kIn ⟨_,f,rfl⟩ e (λz=>nomatch z) h
 |@tup a j d=>
  cases (show u=aU a from rx);obtain⟨_,_,_,p⟩:=(show ObjOk X.prog X.w H s.heap a (.tup j) from I.hok a _ d)
  obtain⟨o,f,k,_⟩:=p;exact gY W.kitx_tuple I.kIn ⟨o,f,k⟩ e (λz=>nomatch z) h
 |@dK a g d=>
  cases (show u=aU a from rx);obtain⟨_,_,vs,_,p⟩:=(show ObjOk X.prog X.w H s.heap a (.dK g) from I.hok a _ d)
  obtain⟨o,v,B,f,k,_⟩:=p;exact gY KC I.kIn ⟨o,f,k.1⟩ e (λz=>nomatch z) h
 |@dT a g d=>
  cases (show u=aU a from rx);obtain⟨_,_,j,_,o,v,B,f,k,_⟩:=(show ObjOk X.prog X.w H s.heap a (.dT g) from I.hok a _ d)
  exact gY KC I.kIn ⟨o,f,k.1⟩ e (λz=>nomatch z) h
 |@ins a C dx fs d m D F l G=>
  cases (show u=aU a from rx);obtain⟨mA,O,_⟩:=QL I.hok d
  obtain⟨od,J,_⟩:=O.look;exact gY (W.kitx_own (m.get _) m.hd D F l G) I.kIn J e (λz=>nomatch z) h
end
structure Room (k:Nat) (A:dB):Prop where
 hd:A.handled=none
 dp:A.depth+k+5<Gy
 un:A.units+16*k+200<d7
 gd:A.guards=some []
theorem Room.mono(r:Room k A)(h:j<=k):Room j A:=⟨r.hd,by have:=r.dp;omega,by have:=r.un;omega,r.gd⟩
theorem Room.deeper(r:Room (k+1) A)(env:Li):Room k (A.deeper env):=
 ⟨r.hd,by have:=r.dp;show A.depth+1+k+5<_;omega,by have:=r.un;show A.units+3+16*k+200<_;omega,r.gd⟩
theorem Room.in1(r:Room (k+1) A):Room k A.in1 :=
 ⟨r.hd,by have:=r.dp;show A.depth+k+5<_;omega,by have:=r.un;show A.units+1+16*k+200<_;omega,r.gd⟩
theorem zd3{A:dB}:(A.under (.builtin "type.__call__" ⟨.ref C::us,kw⟩)).depth=A.depth+1:=by
 first | rfl | simp[sY,Code.weight,Code.isCreation,Im,Code.isCaller,KD,El,guardIds]
theorem zdk{A:dB}:(A.under (.builtin "type.__call__" ⟨.ref C::us,kw⟩)).units=A.units+1:=by
 first | rfl | simp[sY,Code.cUnits,KD,El]
theorem Room.make(r:Room (k+1) A)(C:au)(us:List aD)(kw:List (bZ×aD)):Room k (A.under (.builtin "type.__call__" ⟨.ref C::us,kw⟩)):=
 ⟨r.hd,by have:=r.dp;rw[zd3];omega,by have:=r.un;rw[zdk];omega,by first | exact r.gd | (simp[sY,Code.guards,Im,guardIds];exact r.gd)⟩
theorem Room.depth(r:Room k A):A.depth<Gy:=by have:=r.dp;omega
theorem Room.units(r:Room k A):A.units+64<d7:=by have:=r.un;omega
def UJ:TA:=λ_ H Q=>Q [] H
def Zx(ta:TE)(tr:TA):TA:=λZ H Q=>ta Z H λx H1=>tr Z H1 λxs H2=>Q (x::xs) H2
section
variable {X:Cx} {e:dN} {es:List dN} {te:TE} {t:TA} {pos:nj}
theorem zg:PA X [] UJ:=λ_ _ _ _ H Q I h=>rA ⟨[],H,I,.nil,h⟩
theorem zf(ha:PE X e te)(hr:PA X es t)(hs:bM (e::es) X.env=(false,dZ e X.env)::bM es X.env:=by rfl):PA X (e::es) (Zx te t):=by
 intro b a s Z H Q I h;rw[hs];refine pK (thn (ha a s Z H _ I h) λu c ⟨x,d,f,g,i⟩=>?_);exact thn (hr b a c Z d _ f i) λus s2 ⟨j,k,l,m,n⟩=>⟨x::j,k,l,.cons g m,n⟩
def zj0(t:TA):TE:=λZ H Q=>t Z H λxs H1=>xs.length<=aA/\∀p,H1 p=none->Q (.ref p) (upd H1 p (.tup xs))
def zeW(t:TA):TE:=λZ H Q=>t Z H λxs H1=>xs.length<=aA/\∀p,H1 p=none->Q (.ref p) (upd H1 p (.lst xs))
theorem wW{x1}(h:PA X es t):PE X (.Tuple es x1 pos) (zj0 t):=by
 intro a s Z H Q I f;refine wpAny_Tuple_spliced (thn (h pos a s Z H _ I f) λg c ⟨i,j,d,r,z,q⟩=>⟨by rw[<-r.length];exact z,?_⟩);have k:=d.hok.fresh (aq _);refine⟨.ref c.heap.objs.size,upd j c.heap.objs.size (.tup i),d.laid (λb u e=>az _ e) (aq _) ?_,rfl,q _ k⟩;exact⟨z,g,r,⟨_,bz _ rfl,rfl,_,rfl⟩⟩
theorem zY(h:PA X es t):PE X (.List es pos) (zeW t):=by
 intro a s Z H Q I f;refine wpAny_List_spliced (thn (h pos a s Z H _ I f) λg c ⟨i,j,d,r,z,q⟩=>⟨by rw[<-r.length];exact z,?_⟩);have k:=d.hok.fresh (aq _);refine⟨.ref c.heap.objs.size,upd j c.heap.objs.size (.lst i),d.laid (λb u e=>az _ e) (aq _) ?_,rfl,q _ k⟩;exact⟨z,g,0,r,bz _ rfl⟩
end
abbrev Sp:=List V->Hp->VK->XK->Prop
abbrev CXT:=List Li->Hp->aP->XK->aD->aP->Prop
structure Env0 (P:bx) (w:bU) (K:aK) (mg:bZ->Option aD) (base:dj) (A:dB) (outer:List Li) (s:aP) (H:Hp):Prop where
 frames:A.frames=some outer
 mod:Mod K mg base
 bs:∀b o,base.get? b=some o->s.heap.get? b=some o/\H b=none
 bsz:base.objs.size<=s.heap.objs.size
 funs:s.heap.FunFrames base outer
 frf:∀b∈frs outer,H b=none
 hok:HOk P w H s.heap
 bare:lW s.gens
def CE(outer:List Li)(P:bx)(w:bU)(H:Hp)(s:aP)(Q:VK)(u:aD)(s':aP):Prop :=
 ∃v H',s'.os=s.os/\lW s'.gens/\Un (frs outer) [] H H' s.heap s'.heap/\HOk P w H' s'.heap/\RelV v u/\Q v H'
def CR(CX:CXT)(outer:List Li)(P:bx)(w:bU)(H:Hp)(s:aP)(Q:VK)(E:XK)(r:Io)(s':aP):Prop :=
 match r with
 |.ok (.ret u)=>CE outer P w H s Q u s'
 |.ok _=>False
 |.error e=>CX outer H s E e s'
structure FnOk (P:bx) (w:bU) (K:aK) (mg:bZ->Option aD) (base:dj) (CX:CXT) (k:Nat) (f:au) (fd:lM) (ps:List bZ) (sp:Sp):Prop where
 len:∀vs H Q E,sp vs H Q E->vs.length=ps.length
 run:∀(A:dB) (outer:List Li) (s:aP) (H:Hp) (args:Args) (us:List aD) (vs:List V) (Q:VK) (E:XK),Room k A->Env0 P w K mg base A outer s H->sZ s fd args (ps.zip us)->Vals vs us->sp vs H Q E ->
  jL (bG P w) A (.call (.ref f) args) (CR CX outer P w H s Q E) s
theorem FnOk.imp{K:aK}(F:FnOk P w K mg base CX k f fd ps sp)(h:∀vs H Q E,sp' vs H Q E->sp vs H Q E):FnOk P w K mg base CX k f fd ps sp' :=
 ⟨λvs H Q E q=>F.len vs H Q E (h _ _ _ _ q),λA a s H b c vs Q E d e g i j=>F.run A a s H b c vs Q E d e g i (h _ _ _ _ j)⟩
theorem Env0.make{K:aK}(e:Env0 P w K mg base A outer s H)(C:au)(us:List aD)(kw:List (bZ×aD)):
  Env0 P w K mg base (A.under (.builtin "type.__call__" ⟨.ref C::us,kw⟩)) outer s H:=⟨by first | exact e.frames | (simpa[sY,Code.envs,El,pushEnvs] using e.frames),e.mod,e.bs,e.bsz,e.funs,e.frf,e.hok,e.bare⟩
theorem Env0.in1{K:aK}(e:Env0 P w K mg base A outer s H):
  Env0 P w K mg base A.in1 outer s H:=⟨e.frames,e.mod,e.bs,e.bsz,e.funs,e.frf,e.hok,e.bare⟩
section
variable {X:Cx} {pins:List (au×kZ)} {Z:St} {H:Hp} {s s':aP}
theorem Inv.env0(I:Inv X pins Z H s):Env0 X.prog X.w X.K X.mg X.base X.A X.stack s H :=
 ⟨I.ok.frames,I.ok.mod,I.bs,aB I.ok.bsz I.sz,I.stack,I.stkFree,I.hok,I.bare⟩
theorem Inv.after(I:Inv X pins Z H s)(h:CE X.stack X.prog X.w H s Q u s'):EP X pins Z Q u s':=by
 obtain⟨v,f,i,a,j,c,r,q⟩:=h;obtain⟨hh,g,d,t,e⟩:=s';obtain rfl:e=s.os:=i;exact⟨v,f,I.call j c a (λb z=>absurd z (by simp)),r,q⟩
end
def zer(sp:Sp)(dvs:List V)(E:XK)(t:TA):TE:=λZ H Q=>t Z H λvs H1=>sp (vs++dvs) H1 Q E
def zex(C:au)(m:bZ)(sp:Sp)(dvs:List V)(E:XK)(ta:TE)(t:TA):TE:=λZ H Q=>ta Z H λx H1=>Ex3 λa dx fs=>x=.ref a/\H1 a=some (.ins C dx fs)/\fs.lookup m=none /\
 t Z H1 λvs H2=>sp (x::(vs++dvs)) H2 Q E
def zi7(C:au)(sp:Sp)(dvs:List V)(E:XK)(t:TA):TE:=λZ H Q=>t Z H λvs H1=>∀x dx,H1 x=none->H1 dx=none->dx≠x ->
 sp (.ref x::(vs++dvs)) (upd (upd H1 dx (.own x)) x (.ins C dx [])) (λv H2=>v=.non/\Q (.ref x) H2) E
def Binds(K:aK)(fd:lM)(ps:List bZ)(ds:List aD):Prop :=
 ∀s us,K.In s.heap->(us++ds).length=ps.length->sZ s fd ⟨us,[]⟩ (ps.zip (us++ds))
theorem Binds.all{K:aK}(h:∀us:List aD,us.length=ps.length->Cv fd ⟨us,[]⟩=pure (ps.zip us)):Binds K fd ps []:=λs us _ a=>by
 rw[dJ]at a ⊢;exact .of_eq (h us a)
def Vr(CX:CXT)(X:Cx)(E:XK):Prop:=∀(pins:List (au×kZ)) (Z:St) (H:Hp) (s:aP) (e:aD) (s':aP),Inv X pins Z H s->CX X.stack H s E e s'->X.xe e s'
section
variable {X:Cx} {CX:CXT} {k:Nat} {f C:au} {fd:lM} {ps:List bZ} {sp:Sp} {dvs:List V} {ds:List aD} {E:XK} {x m:bZ} {p pos apos:nj} {e o:dN} {es:List dN} {ta:TE} {t:TA}
theorem zd2{Z:St}(F:FnOk X.prog X.w X.K X.mg X.base CX k f fd ps sp)(hr:Room k X.A)(hb:Binds X.K fd ps ds)(hd:Vals dvs ds)(hx:Vr CX X E)(I:Inv X pins Z H s)(r:Vals vs us)(h:sp (vs++dvs) H Q E):bH (bG X.prog X.w) X.A (call (.ref f) us) (EP X pins Z Q) X.xe s:=by
 have b:=r.append hd;have c:(us++ds).length=ps.length:=by rw[<-b.length];exact F.len _ _ _ _ h
 refine Bm (iG (F.run X.A X.stack s H ⟨us,[]⟩ (us++ds) (vs++dvs) Q E hr I.env0 (hb s us I.kIn c) b h) λr d a=>?_);cases r with
 |error e=>exact hx pins Z H s e d I a
 |ok g=>
  cases g with
  |ret u=>exact I.after a
  |next=>exact dz a
  |brk=>exact dz a
  |cont=>exact dz a
theorem zhR(F:FnOk X.prog X.w X.K X.mg X.base CX k f fd ps sp)(hr:Room k X.A)(hg:Gl X x)(hm:X.mg x=some (.ref f))(hk:pJ X.K (.ref f)=true)(hb:Binds X.K fd ps ds)(hd:Vals dvs ds)(hx:Vr CX X E)(ha:PA X (e::es) t)(hdb:(x == ("__debug__" : bZ))=false:=by decide)(he:bM (e::es) X.env=(false,dZ e X.env)::bM es X.env:=by rfl)(hpl:(gO pos (bM es X.env)).any (·.1)=false:=by rfl):
  PE X (.Call (.Name x p) (e::es) [] pos) (zer sp dvs E t):=by
 intro a s Z H Q I h;refine eZ (Wb I hg hm ?_ hdb);refine o9 I.ok.mod.kin hk (thn (ha pos a s Z H _ I h) λus s1 ⟨vs,H1,b,r,q⟩=>⟨b.kIn,?_⟩) he hpl;exact zd2 F hr hb hd hx b r q
theorem zhP{pl:Np Bool}(he:PE X o ta)(c:Cls X.K C)(hm:Meth X.K C m f)(F:FnOk X.prog X.w X.K X.mg X.base CX k f fd ps sp)(hr:Room k X.A)(hb:Binds X.K fd ps ds)(hd:Vals dvs ds)(hx:Vr CX X E)(ha:PA X (e::es) t)(hst:bM (e::es) X.env=(false,dZ e X.env)::bM es X.env:=by rfl)(hpl:(gO pos (bM es X.env)).any (·.1)=false:=by rfl)(ht:dZ (.Call (.Attribute o m apos) (e::es) [] pos) X.env=(do
   let ov <-dZ o X.env
   Dg apos.atName
   let (f,first) <-o8 [ov] (pF ov m pl)
   Em pos f first (gO pos (bM (e::es) X.env)) (rW pos (mG [] X.env))):=by rfl):
  PE X (.Call (.Attribute o m apos) (e::es) [] pos) (zex C m sp dvs E ta t):=by
 intro b s Z H Q I h;refine By (thn (he b s Z H _ I h) λu i ⟨x,j,d,n,a,dx,fs,p,v,l,q⟩=>?_) ht;subst p;obtain rfl:u=aU a:=n;refine Vd d v c hm l ?_;refine o9 I.ok.mod.kin hm.kp (thn (ha pos b i Z j _ d q) λus s2 ⟨vs,H2,g,r,y⟩=>⟨g.kIn,?_⟩) hst hpl;exact zd2 (vs:=.ref a::vs) F hr hb hd hx g (.cons rfl r) y
theorem zgM(he:PE X o ta)(c:Cls X.K C)(hm:Meth X.K C m f)(F:FnOk X.prog X.w X.K X.mg X.base CX k f fd ps sp)(hr:Room k X.A)(hb:Binds X.K fd ps ds)(hd:Vals dvs ds)(hx:Vr CX X E)(ht:dZ (.Call (.Attribute o m apos) [] [] pos) X.env=(do
   let ov <-dZ o X.env
   Dg apos.atName
   let (f,first) <-o8 [ov] (pF ov m pl)
   Em pos f first (gO pos (bM [] X.env)) (rW pos (mG [] X.env))):=by rfl):
  PE X (.Call (.Attribute o m apos) [] [] pos) (zex C m sp dvs E ta UJ):=by
 intro b s Z H Q I h;refine By (thn (he b s Z H _ I h) λu s1 ⟨x,H1,d,e,a,dx,fs,g,i,l,q⟩=>?_) ht;subst g;obtain rfl:u=aU a:=e;refine Vd d i c hm l ?_;exact W.callWith_K0 d.kIn hm.kp (zd2 (vs:=[.ref a]) F hr hb hd hx d (.cons rfl .nil) q)
structure Mk (K:aK) (C f:au):Prop where
 makes:HY K C=true
 init:gk K (.ref C) "__init__"= some (some (.ref f))
 fn:Lx K (.ref f)=true
 kp:pJ K (.ref C)=true
theorem zgd{Z:St}(M:Mk X.K C f)(F:FnOk X.prog X.w X.K X.mg X.base CX k f fd ps sp)(hr:Room (k+1) X.A)(hb:Binds X.K fd ps ds)(hd:Vals dvs ds)(hx:Vr CX X E)(I:Inv X pins Z H s)(r:Vals vs us)(h:∀x dx,H x=none->H dx=none->dx≠x->sp (.ref x::(vs++dvs)) (upd (upd H dx (.own x)) x (.ins C dx [])) (λv H2=>v=.non/\Q (.ref x) H2) E):
  bH (bG X.prog X.w) X.A (call (.ref C) us) (EP X pins Z Q) X.xe s:=by
 have c:=h (s.heap.objs.size+1) s.heap.objs.size (I.hok.fresh (iu _)) (I.hok.fresh (aq _)) (bj (nQ _));have b:=Inv.made (C:=C) I;have d:Vals (V.ref (s.heap.objs.size+1)::(vs++dvs)) (aU (s.heap.objs.size+1)::(us++ds)):=.cons rfl (r.append hd);have g:(aU (s.heap.objs.size+1)::us++ds).length=ps.length:=by
  have e:=d.length;rw[F.len _ _ _ _ c]at e;exact e.symm
 refine Bm (zgj I.kIn M.makes M.init (beq_iff_eq.mp M.fn) (iG (F.run _ X.stack _ _ ⟨aU (s.heap.objs.size+1)::us,[]⟩ (aU (s.heap.objs.size+1)::(us++ds)) _ _ E (hr.make C us [])
  (b.env0.make C us []) (hb _ (aU (s.heap.objs.size+1)::us) b.kIn g) d c) λr i a=>?_))
 cases r with
 |error e=>exact hx pins Z _ _ e i b a
 |ok j=>
  cases j with
  |ret u=>
   obtain⟨v,l,m,n,o,p⟩:=b.after a;subst o;exact⟨n,⟨V.ref (s.heap.objs.size+1),l,m,rfl,p⟩⟩
  |next=>exact dz a
  |brk=>exact dz a
  |cont=>exact dz a
theorem zbJ(M:Mk X.K C f)(F:FnOk X.prog X.w X.K X.mg X.base CX k f fd ps sp)(hr:Room (k+1) X.A)(hg:Gl X x)(hm:X.mg x=some (.ref C))(hb:Binds X.K fd ps ds)(hd:Vals dvs ds)(hx:Vr CX X E)(ha:PA X (e::es) t)(hdb:(x == ("__debug__" : bZ))=false:=by decide)(he:bM (e::es) X.env=(false,dZ e X.env)::bM es X.env:=by rfl)(hpl:(gO pos (bM es X.env)).any (·.1)=false:=by rfl):
  PE X (.Call (.Name x p) (e::es) [] pos) (zi7 C sp dvs E t):=by
 intro a s Z H Q I h;refine eZ (Wb I hg hm ?_ hdb);refine o9 I.ok.mod.kin M.kp (thn (ha pos a s Z H _ I h) λus s1 ⟨vs,H1,b,r,q⟩=>⟨b.kIn,?_⟩) he hpl;exact zgd M F hr hb hd hx b r q
end
section
variable {X:Cx} {CX:CXT} {k:Nat} {f C:au} {fd:lM} {ps ks:List bZ} {sp:Sp} {E:XK} {x m:bZ} {p pos apos kpos:nj} {e o:dN} {es:List dN} {kws:List Gn} {te ta:TE} {t tk:TA} {nm:Option bZ}
variable {g:List aD->List aD->List aD} {gV:List V->List V->List V}
end
structure zF (N P:List bZ) (sc:iZ):Prop where
 kind:sc.kind=.function:=by rfl
 co:sc.isCoroutine=false:=by rfl
 gen:sc.isGenerator=false:=by rfl
 nd:N.Nodup:=by decide +kernel
 pre:N.take P.length=P:=by rfl
 par:∀x∈P,sc.names.lookup x=some .local\/sc.names.lookup x=some .cell:=by decide +kernel
 nofree:∀y∈sc.names,y.2≠.free:=by decide +kernel
theorem za8{nR:bZ->Option gZ}{x:bZ}:∀{binds:List (bZ×aD)} {m:bZ->Option aD},(∀v,(x,v)∉binds)->Gz nR binds m x=m x
 |[],_,_=>rfl
 | (n,v)::r,m,h=>by
  unfold Gz;rw[za8 λw hw=>h w (bQ _ hw)];split
  ·have:x≠n:=by rintro rfl;exact h v bI
   simp[this]
  ·rfl
theorem za2{nR:bZ->Option gZ}{x:bZ}:∀{binds:List (bZ×aD)} {m:bZ->Option aD},(∀v,(x,v)∉binds)->GC nR binds m x=m x
 |[],_,_=>rfl
 | (n,v)::r,m,h=>by
  unfold GC;rw[za2 λw hw=>h w (bQ _ hw)];split
  ·rfl
  ·have:x≠n:=by rintro rfl;exact h v bI
   simp[this]
theorem zaT{nR:bZ->Option gZ}{x:bZ}{v:aD}:∀{P:List bZ} {vs:List aD} {i:Nat} {m:bZ->Option aD},P.Nodup->P[i]?=some x->vs[i]?=some v->nR x=some .local ->
  Gz nR (P.zip vs) m x=some v
 |[],_,_,_,_,h,_,_=>by simp at h
 |_::_,[],_,_,_,_,h,_=>by simp at h
 |p::P,w::vs,0,m,nd,h1,h2,hk=>by
  simp at h1 h2;subst h1;subst h2;show Gz nR ((p,w)::P.zip vs) m p=_;unfold Gz;rw[za8 λv hv=>(iM.mp nd).1 (oN hv).1,if_pos hk];simp
 |p::P,w::vs,i+1,m,nd,h1,h2,hk=>by
  show Gz nR ((p,w)::P.zip vs) m x=_;unfold Gz;exact zaT (i:=i) (iM.mp nd).2 (by simpa using h1) (by simpa using h2) hk
theorem zaF{nR:bZ->Option gZ}{x:bZ}{v:aD}:∀{P:List bZ} {vs:List aD} {i:Nat} {m:bZ->Option aD},P.Nodup->P[i]?=some x->vs[i]?=some v->nR x≠some .local ->
  GC nR (P.zip vs) m x=some v
 |[],_,_,_,_,h,_,_=>by simp at h
 |_::_,[],_,_,_,_,h,_=>by simp at h
 |p::P,w::vs,0,m,nd,h1,h2,hk=>by
  simp at h1 h2;subst h1;subst h2;show GC nR ((p,w)::P.zip vs) m p=_;unfold GC;rw[za2 λv hv=>(iM.mp nd).1 (oN hv).1,if_neg hk];simp
 |p::P,w::vs,i+1,m,nd,h1,h2,hk=>by
  show GC nR ((p,w)::P.zip vs) m x=_;unfold GC;exact zaF (i:=i) (iM.mp nd).2 (by simpa using h1) (by simpa using h2) hk
def start(N:List bZ)(vs:List V):St:=vs.map some++bW (N.length-vs.length) none
def Wr(CX:CXT)(P:bx)(w:bU)(K:aK)(mg:bZ->Option aD)(base:dj)(N:List bZ)(qual:bZ)(scope:iZ)(f:au)(cd:aD)(A:dB)(outer:List Li)(s:aP)(H:Hp)(E:XK):Cx where
 prog:=P
 w:=w
 K:=K
 mg:=mg
 base:=base
 A:=A.deeper (pL qual scope s.heap.objs.size f cd)
 N:=N
 s₀:=s
 H₀:=H
 env:=pL qual scope s.heap.objs.size f cd
 outer:=outer
 stack:=pL qual scope s.heap.objs.size f cd::outer
 ex:=[]
 calm:=true
 fn:=λ_=>true
 pn:=[]
 xe:=λe s'=>bH (bG P w) (A.deeper (pL qual scope s.heap.objs.size f cd)) (leaving (pL qual scope s.heap.objs.size f cd) e) (λ_ s''=>CX outer H s E e s'') (λe' s''=>CX outer H s E e' s'') s'
theorem zcS{sc:iZ}(h:sc.names.lookup x=some .cell):∃c,(nU n sc.names []).lookup x=some c:=by
 have q:=rY sc.names n [] (.inl h);exact rH.mp q
theorem zaP{K:aK}(S:zF N ps scope)(hd:A.handled=none)(e0:Env0 P w K mg base A outer s H)(hl:vs.length=ps.length)(r:Vals vs us)(x:InCallC s s.heap.objs.size (Gz (pL qual scope s.heap.objs.size f cd).kindOf (ps.zip us) λ_=>none) (nU (s.heap.objs.size+1) scope.names []) (GC (pL qual scope s.heap.objs.size f cd).kindOf (ps.zip us) λ_=>none) s1):
  Inv (Wr CX P w K mg base N qual scope f cd A outer s H E) [] (start N vs) H s1:=by
 have hpl:ps.length<=N.length:=by have:=congrArg cB S.pre;rw[bA]at this;omega
 obtain⟨n,tk,rfl,t⟩:=x.done;have g:∀b:au,b∉(Wr CX P w K mg base N qual scope f cd A outer s H E).ex:=λb z=>absurd (show b∈([]) from z) (by simp);refine⟨⟨e0.mod,S.kind,rfl,rfl,aq _,λy z c n d=>?_,λy j=>?_,λy c _ h=>?_,λ_=>hd,Around.frames_deeper e0.frames,.inr ⟨rfl,rfl⟩,λb z=>absurd z (g b),e0.bs,e0.bsz,λb _ _=>g b,λb z=>absurd z (g b),e0.funs,e0.frf⟩,
  rfl,e0.bare,Un.kept t,⟨_,x.toInCall.ns,λi y v n d h3=>?_⟩,λy c h=>⟨_,x.cell y c h⟩,e0.hok.fresh (aq _),λy c h=>?_,λp l=>absurd (show p∈([]) from l) (by simp),e0.hok.kept t,?_⟩
 ·exact name_of_addr x.apart (PySem.mem_of_lookup n) (PySem.mem_of_lookup d)
 ·have j:=j;rcases j with j | j
  ·exact zcS j
  ·exact absurd rfl (S.nofree _ (PySem.mem_of_lookup j))
 ·exact iz (x.above y c (PySem.mem_of_lookup h))
 ·have o:i<vs.length:=by
   unfold start at d;by_cases o:i<vs.length
   ·exact o
   ·rw[cQ (by simpa using o)]at d;rw[List.getElem?_replicate]at d;split at d<;>cases d
  have C:vs[i]?=some v:=by
   unfold start at d;rw[cU (by simpa using o),ao]at d;cases e:vs[i]? with
   |none=>rw[e]at d;cases d
   |some a=>rw[e]at d;cases d;rfl
  obtain⟨u,B,D⟩:=r.get C;have l:ps[i]?=some y:=by
   rw[<-S.pre,List.getElem?_take_of_lt (by omega)];exact n
  have m:ps.Nodup:=by rw[<-S.pre];exact S.nd.sublist (List.take_sublist _ _)
  refine⟨u,D,?_⟩;rcases S.par y (aL l) with k | k
  ·exact .inl ⟨k,zaT m l B k⟩
  ·obtain⟨c,e⟩:=zcS k;refine .inr ⟨.inl k,c,e,?_⟩;have q:=x.cell y c e;rw[zaF m l B (by show scope.names.lookup y≠_;rw[k];decide)]at q;exact q
 ·exact e0.hok.fresh (iz (x.above y c (PySem.mem_of_lookup h)))
 ·unfold start;show _=N.length;rw[aF,aa,BX];omega
theorem zgC{K:aK}{dV kV doc pm cdv ct oc:aD}(lk:K.lookup f=some ⟨oc,od,.func (rJ name qual params body scope dV kV doc pm an cdv ct),osl⟩)(hcd:En K cdv qual=true)(S:zF N ps scope)(len:∀vs H Q E,sp vs H Q E->vs.length=ps.length)(hbody:∀A outer s H vs Q E,Room k (A.deeper (pL qual scope s.heap.objs.size f cdv))->sp vs H Q E ->
   ∃t,PSs (Wr CX P w K mg base N qual scope f cdv A outer s H E) body t/\t { nx:=λ_ H'=>Q .non H',rt:=Q } (start N vs) H):
  FnOk P w K mg base CX (k+1) f (rJ name qual params body scope dV kV doc pm an cdv ct) ps sp:=by
 refine⟨len,λA outer s H args B vs Q E i d C r g=>?_⟩;have D:=len _ _ _ _ g;have p:=d.mod.kin.keeps λb o e=>(d.bs b o e).1;have j:=d.mod.nolimit.keeps λb o e=>(d.bs b o e).1;have a:∀y∈ps.zip B,scope.names.lookup y.1=some .local\/(scope.names.lookup y.1=some .cell/\((nU (s.heap.objs.size+1) scope.names []).lookup y.1).isSome=true):=λ⟨n,v⟩ F=>by
  rcases S.par n (oN F).1 with q | q
  ·exact .inl q
  ·exact .inr ⟨q,rY _ _ _ (.inl q)⟩
 refine codeAny_call_function i.depth (p _ _ lk) rfl S.co S.gen rfl (W.codeRec_of p hcd) (C _ _ _ _ ?_);refine pM S.kind a λenv G z x=>?_;subst G;refine⟨j.keeps x.toInCall.keep,codeAny_func ?_⟩;obtain⟨t,L,M⟩:=hbody A outer s H vs Q E (i.deeper _) g;have I:Inv (Wr CX P w K mg base N qual scope f cdv A outer s H E) [] (start N vs) H z:=zaP S i.hd d D r x;refine dC (L [] z (start N vs) H _ I M) (λO l c=>?_) λe l c=>c;have h:∀{σ':St} {H':Hp} {v:V} {u:aD},Inv (Wr CX P w K mg base N qual scope f cdv A outer s H E) [] σ' H' l->RelV v u->Q v H'->CE outer P w H s Q u l :=
  λ{σ' H' v u} J m q=>⟨v,H',J.os,J.bare,J.base,J.hok,m,q⟩
 cases O with
 |ret u=>
  obtain⟨v,σ',H',J,m,q⟩:=c;exact h J m q
 |next=>
  obtain⟨σ',H',J,q⟩:=c;exact h (v:=V.non) J rfl q
 |brk=>
  obtain⟨_,_,_,q⟩:=c;exact dz q
 |cont=>
  obtain⟨_,_,_,q⟩:=c;exact dz q
section
variable {X:Cx} {x:bZ} {p pos:nj} {e:dN} {es:List dN} {t:TA} {id T:String} {r:List V->Hp->VK->Prop}
def tCB(r:List V->Hp->VK->Prop)(t:TA):TE:=λZ H Q=>t Z H λvs H1=>r vs H1 Q
theorem zA(hc:vZ X (.builtin id) r)(hg:Gl X x)(hm:X.mg x=none)(hv:iy x=some (.builtin id))(ha:PA X (e::es) t)(hn:x ≠ "__name__":=by decide)(hdb:(x == ("__debug__" : bZ))=false:=by decide)(he:bM (e::es) X.env=(false,dZ e X.env)::bM es X.env:=by rfl)(hpl:(gO pos (bM es X.env)).any (·.1)=false:=by rfl):PE X (.Call (.Name x p) (e::es) [] pos) (tCB r t):=by
 intro a s Z H Q I h;refine eZ (Zd I hg hm hv ?_ hn hdb);exact Fi (thn (ha pos a s Z H _ I h) λb c ⟨d,f,g,i,j⟩=>hc a c Z f d b Q g i j) he hpl
theorem yU(hc:vZ X (.type T) r)(hg:Gl X x)(hm:X.mg x=none)(hv:iy x=some (.type T))(ha:PA X (e::es) t)(hn:x ≠ "__name__":=by decide)(hdb:(x == ("__debug__" : bZ))=false:=by decide)(he:bM (e::es) X.env=(false,dZ e X.env)::bM es X.env:=by rfl)(hpl:(gO pos (bM es X.env)).any (·.1)=false:=by rfl):PE X (.Call (.Name x p) (e::es) [] pos) (tCB r t):=by
 intro a s Z H Q I h;refine eZ (Zd I hg hm hv ?_ hn hdb);exact cP (thn (ha pos a s Z H _ I h) λb c ⟨d,f,g,i,j⟩=>hc a c Z f d b Q g i j) he hpl
end
end L2
namespace HT
open PySem PyProof.Rows
def lexLt:List Int->List Int->Bool
 |[],[]=>false
 |[],_::_=>true
 |_::_,[]=>false
 |x::xs,y::ys=>if x=y then lexLt xs ys else decide (x<y)
theorem qW(x y:Int)(xs ys:List Int):lexLt (x::xs) (y::ys)=if x=y then lexLt xs ys else decide (x<y):=rfl
theorem Wu:lexLt [] []=false:=rfl
theorem Jp(y:Int)(ys:List Int):lexLt [] (y::ys)=true:=rfl
theorem qL(x:Int)(xs:List Int):lexLt (x::xs) []=false:=rfl
theorem zgA(A:dB)(s:aP)(a:Int)(t:Tok)(c:Int)(u:Tok):∃e,Ly A s (.int a t) (.int c u) e/\(e=true↔a=c):=
 ⟨(a == c),Lz a t c u,by simp⟩
theorem zcR(A:dB)(s:aP)(a:Int)(t:Tok)(c:Int)(u:Tok)(prog:bx)(w:bU)(E:aD->aP->Prop)(Q:aD->aP->Prop)(h:Q (.bool (decide (a<c))) s):
  bH (bG prog w) A (KH .Lt (.int a t) (.int c u)) Q E s :=
 (Lj h)
section
open PySem.SeqAt
open PySem.AutoSeq1 (wpAny_loadPart')
open PySem.MeetsSeq PySem.MeetsSeq2 PySem.MeetsSeq3
end
section
variable {prog:bx} {w:bU} {A:dB} {E:aD->aP->Prop} {s:aP}
theorem zhL(ht:FP s.heap t vs.toArray)(hb:FP s.heap b ws.toArray)(hv:vs≠[])(h1:ws=[]->Q (.ref t) s)(h2:ws≠[]->Q (.ref s.heap.objs.size) { s with heap:=s.heap.push { cls:=.type "tuple",data:=.seq (vs++ws).toArray } })(hsz:vs.length+ws.length<=aA):bH (bG prog w) A (gW .Add (.ref t) (.ref b)) Q E s:=by
 obtain⟨⟨cls,j,data,k⟩,f,m,n,o⟩:=id ht;obtain⟨⟨cls2,c,data2,d⟩,a,h,l,i⟩:=id hb;subst m o h i;have e:vs.toArray++ws.toArray=(vs++ws).toArray:=by simp
 by_cases g:ws=[]
 ·exact Eo ⟨_,f,rfl⟩ ⟨_,a,rfl⟩ rZ Du PySem.F.slot_tuple_add PySem.F.entry_tuple_add (PySem.F.args_tuple_add_2 _ _)
   (tuple_addW1 t b vs.toArray ws.toArray n l j c k d (by simpa using hv) (by simp[g])) ⟨f,a,h1 g⟩
 ·refine Eo ⟨_,f,rfl⟩ ⟨_,a,rfl⟩ rZ Du PySem.F.slot_tuple_add PySem.F.entry_tuple_add (PySem.F.args_tuple_add_2 _ _)
   (tuple_addW2 t b vs.toArray ws.toArray n l j c k d (by simpa using hv) (by simpa using g) (by exact hsz)) ⟨f,a,?_⟩
  rw[e];exact h2 g
def sIx(n d:Nat):Option Int->Nat
 |none=>d
 |some v=>if v<0 then (v+(n:Int)).toNat else min v.toNat n
theorem Q7(n d:Nat):sIx n d none=d:=rfl
theorem Uh(n d k:Nat):sIx n d (some (k:Int))=min k n:=by
 show (if k<0 then (k+(n:Int)).toNat else min (k:Int).toNat n)=min k n;rw[if_neg (by omega),dU]
theorem ziG(n d:Nat)(hd:d<=n)(o:Option Int):sIx n d o<=n:=by
 cases o with
 |none=>exact hd
 |some v=>
  show (if v<0 then (v+n).toNat else min v.toNat n)<=n;by_cases a:v<0
  ·rw[if_pos a];omega
  ·rw[if_neg a];exact nW _ _
theorem zeQ(v:Int)(n d:Nat):(if v<0 then max (v+(n:Int)) 0 else min v (n:Int))=((sIx n d (some v):Nat):Int):=by
 show (if v<0 then max (v+n) 0 else min v n)=(((if v<0 then (v+(n:Int)).toNat else min v.toNat n):Nat))
 by_cases a:v<0
 ·simp only[if_pos a];omega
 ·simp only[if_neg a];omega
theorem zdj(lo hi:Option Int)(n:Nat):rm lo hi 1 (n:Int)=(((sIx n 0 lo:Nat):Int),((sIx n n hi:Nat):Int)):=by
 have h1:¬ (1<0):=by omega
 refine Prod.ext ?_ ?_
 ·cases lo with
  |none=>rfl
  |some v=>exact zeQ v n 0
 ·cases hi with
  |none=>rfl
  |some v=>exact zeQ v n n
theorem zdv(i j:Nat):gA (i:Int) (j:Int) 1=j-i:=by
 unfold gA;have h1:1>0:=by omega
 split<;>omega
theorem zaa(p:Bo v o)(h:Q o s):bH (bG prog w) A (Gb v) Q E s:=by
 cases p with
 |none=>exact GD h
 |int i t=>exact slicePart_int h
theorem Ye{lo hi:Option Int}{Q:Int×Int×Nat->aP->Prop}(hs:s.heap.IsSliceOf sl vl vu .none)(pl:Bo vl lo)(pu:Bo vu hi)(h:Q (((sIx n 0 lo:Nat):Int),1,sIx n n hi-sIx n 0 lo) s):bH (bG prog w) A (GF (.ref sl) (pure (n:Int))) Q E s:=by
 obtain⟨os,a,hcs,b⟩:=id hs;refine ak (ak (FT a b rfl (ak (FT a b rfl (ak (FT a b rfl (aG ?_)))))));refine ak (GD ?_);refine ak (zaa pl (ak (zaa pu (ak (aG ?_)))));show bH _ _ (match rm lo hi 1 n with | (lo,hi)=>pure (lo,(1:Int),gA lo hi 1)) _ _ s;rw[zdj lo hi n];show bH _ _ (pure (((sIx n 0 lo:Nat):Int),1,gA ((sIx n 0 lo:Nat)) ((sIx n n hi:Nat)) 1)) _ _ s;rw[zdv];exact aG h
theorem zgP(xs:Array aD)(i k:Nat):((bJ k).filterMap λ(m:Nat)=>xs[((i:Int)+(m:Int)*1).toNat]?).toArray=((xs.toList.drop i).take k).toArray:=by
 have e:(λ(m:Nat)=>xs[(i+(m:Int)*1).toNat]?)=λm=>xs[i+m]?:=by
  funext m;have:(i+(m:Int)*1).toNat=i+m:=by omega
  rw[this]
 rw[e];have:=pick_run xs i k;rw[List.filterMap_map]at this;have a:((λx=>xs[x]?) ∘ λx=>i+x)=λm=>xs[i+m]?:=rfl;rw[a]at this;rw[this]
theorem Vw{lo hi:Option Int}(ht:FP s.heap t items)(hs:s.heap.IsSliceOf sl vl vu .none)(pl:Bo vl lo)(pu:Bo vu hi)(hw:¬ (sIx items.size 0 lo=0/\sIx items.size items.size hi=items.size))(h:Q (.ref s.heap.objs.size) { s with heap:=s.heap.push { cls:=.type "tuple",data:=.seq ((items.toList.drop (sIx items.size 0 lo)).take (sIx items.size items.size hi-sIx items.size 0 lo)).toArray } })(hsz:items.size<=aA):bH (bG prog w) A (ph (.ref t) (.ref sl)) Q E s:=by
 have a:sizeOk (.seq ((items.toList.drop (sIx items.size 0 lo)).take (sIx items.size items.size hi-sIx items.size 0 lo)).toArray):=by
  show ((items.toList.drop (sIx items.size 0 lo)).take (sIx items.size items.size hi-sIx items.size 0 lo)).toArray.size<=aA;rw[aJ,bA,bR,lJ];omega
 obtain⟨f,b,c,hds⟩:=id hs;have d:s.TypeIs (.ref sl) "slice":=⟨f,b,c⟩
 unfold ph
 try with_reducible refine dg ?_
 first | refine ak (aG ?_) | skip
 refine ak (Ep ht.typeIs (by decide) ?_);refine ak (ie ht.typeIs di
  (ig di ht.typeIs Dk ?_ (Dz _ _)))
 show bH _ _ (pO (.ref t) >>= _) _ _ s;refine ak (Hz ht ?_);refine ak (lB d ?_);refine ak (Ye hs pl pu ?_);have e:¬ ((((sIx items.size 0 lo:Nat):Int) == 0 && (1:Int) == 1 && (sIx items.size items.size hi-sIx items.size 0 lo) == items.size)=true):=by
  intro q;rw[cA,cA]at q;have q1:=eq_of_beq q.1.1;have q2:=eq_of_beq q.2;exact hw ⟨by omega,by omega⟩
 show bH _ _ (if (((sIx items.size 0 lo:Nat):Int) == 0 && 1 == 1 && (sIx items.size items.size hi-sIx items.size 0 lo) == items.size)=true then _ else _) _ _ s;rw[if_neg e,zgP]
 first
  |exact ak (fB (aG ⟨_,rfl,aG h⟩) a)
  |exact ak (fB (ak (aG (aG ⟨_,rfl,aG h⟩))) a)
  |exact ak (ak (fB (aG (aG ⟨_,rfl,aG h⟩)) a))
  |exact ak (ak (fB (aG ⟨_,rfl,aG h⟩) a))
end
end HT
namespace L2
open PySem PySem.Spec PyProof.Rows
abbrev TO:=St->Hp->(Option Int->Hp->Prop)->Prop
def PO(X:Cx)(e:Option dN)(t:TO):Prop :=
 ∀(pins:List (au×kZ)) (s:aP) (Z:St) (H:Hp) (Q:Option Int->Hp->Prop),Inv X pins Z H s->t Z H Q ->
  bH (bG X.prog X.w) X.A (evalPart e X.env) (λu s'=>∃o H',Inv X pins Z H' s'/\Bo u o/\Q o H') X.xe s
def zbM:TO:=λ_ H Q=>Q none H
def zgk(t:TE):TO:=λZ H Q=>t Z H λx H1=>∃i,x=.int i/\Q (some i) H1
theorem intsAre_of:∀{us:List aD},Vals (ns.map V.int) us->gw us ns:=by
 induction ns with
 |nil=>intro us r;cases r;exact .nil
 |cons n ns a=>
  intro us r;cases r with
  |cons b c=>
   obtain⟨t,e⟩:=b;subst e;exact .cons n t (a c)
section
variable {X:Cx} {e:dN} {te:TE} {lo hi:Option dN} {tl th:TO} {pos p2:nj}
theorem uz:PO X none zbM:=by
 intro pins s Z H Q I h;rw[evalPart_none];exact aG ⟨none,H,I,.none,h⟩
theorem wR(h:PE X e te):PO X (some e) (zgk te):=by
 intro a s Z H Q I b;refine thn (h a s Z H _ I b) λu s1 ⟨x,c,d,f,g⟩=>?_;obtain⟨i,rfl,q⟩:=g;obtain⟨t,rfl⟩:=f;exact⟨some i,c,d,.int i t,q⟩
def SlR(X:Cx)(r:V->Option Int->Option Int->Hp->VK->Prop):Prop :=
 ∀(pins:List (au×kZ)) (s:aP) (Z:St) (H:Hp) (x:V) (v vl vu:aD) (lo hi:Option Int) (sl:au) (Q:VK),Inv X pins Z H s->RelV x v->s.heap.IsSliceOf sl vl vu .none->Bo vl lo->Bo vu hi->r x lo hi H Q ->
  ∃T id,Bp (.type T) "__getitem__"= pure (some (.builtin id))/\s.TypeIs v T/\bH (bG X.prog X.w) X.A (ph v (.ref sl)) (EP X pins Z Q) X.xe s
def tSl(r:V->Option Int->Option Int->Hp->VK->Prop)(te:TE)(tl th:TO):TE:=λZ H Q=>te Z H λx H1=>tl Z H1 λl H2=>th Z H2 λu H3=>r x l u H3 Q
theorem xZ(hr:SlR X r)(he:PE X e te)(hl:PO X lo tl)(hu:PO X hi th):PE X (.Subscript e (.Slice lo hi none p2) pos) (tSl r te tl th):=by
 intro a s Z H Q I h;refine DG (thn (he a s Z H _ I h) λv i ⟨x,j,k,m,n⟩=>?_);refine KJ (thn (hl a i Z j _ k n) λd o ⟨l,p,t,w,y⟩=>thn (hu a o Z p _ t y) λf c ⟨u,g,z,A,B⟩=>?_);refine aG ?_;have C:Inv X a Z g { c with heap:=c.heap.push { cls:=.type "slice",data:=.fields #[d,f,.none] } }:=z.kept λb ob q=>az _ q;obtain⟨T,id,D,E,F⟩:=hr a { c with heap:=c.heap.push { cls:=.type "slice",data:=.fields #[d,f,.none] } } Z g x v d f l u c.heap.objs.size Q C m (DK ..) w A B;exact tail_any E D F (by with_unfolding_all rfl)
def qi(xs:List V)(lo hi:Option Int):List V:=(xs.drop (HT.sIx xs.length 0 lo)).take (HT.sIx xs.length xs.length hi-HT.sIx xs.length 0 lo)
theorem Qh(xs:List V)(lo hi:Option Int):(qi xs lo hi).length<=xs.length:=by
 unfold qi;rw[bA,bR];omega
def zjH(K:aK):V->Option Int->Option Int->Hp->VK->Prop:=λx lo hi H Q=>Ex2 λa xs=>x=.ref a/\SqT K H a xs /\
 ¬ (HT.sIx xs.length 0 lo=0/\HT.sIx xs.length xs.length hi=xs.length)/\∀p,H p=none->Q (.ref p) (upd H p (.tup (qi xs lo hi)))
theorem ziI:SlR X (zjH X.K):=by
 intro pins s Z H x v vl vu e g sl Q I k l m n h;obtain⟨a,d,rfl,o,p,q⟩:=h;cases k
 obtain⟨f,r,i,j⟩:=I.tuple o;have c:f.toArray.size=d.length:=by rw[aJ];exact r.length.symm
 refine⟨"tuple",_,di.lookup,i.typeIs,?_⟩;refine HT.Vw i l m n (by rw[c];exact p) ?_ (by rw[c];exact j);rw[c];refine⟨.ref s.heap.objs.size,_,I.laid (λb ob q=>az _ q) (aq _) ?_,rfl,q _ (I.hok.fresh (aq _))⟩;exact⟨aB (Qh d e g) j,_,(r.drop (HT.sIx d.length 0 e)).take (HT.sIx d.length d.length g-HT.sIx d.length 0 e),Ia _ _⟩
def zjq(K:aK):R2:=λx y H Q=>Ex4 λa b xs ys=>x=.ref a/\y=.ref b/\SqT K H a xs/\SqT K H b ys/\xs≠[]/\xs.length+ys.length<=aA /\
 (ys=[]->Q (.ref a) H)/\(ys≠[]->∀p,H p=none->Q (.ref p) (upd H p (.tup (xs++ys))))
theorem Vals.nil_iff(r:Vals xs us):us=[]↔xs=[]:=by
 cases r with
 |nil=>simp
 |cons _ _=>simp
theorem zhl:OpR X (gW .Add) (zjq X.K):=by
 intro pins s Z H x y v u Q I f g h;obtain⟨a,b,xs,ys,rfl,rfl,i,j,k,e,l,m⟩:=h;cases f
 cases g;obtain⟨its,d,n,_⟩:=I.tuple i
 obtain⟨its2,c,o,_⟩:=I.tuple j;refine HT.zhL n o (λz=>k (d.nil_iff.mp z)) (λz=>⟨.ref a,H,I,rfl,l (c.nil_iff.mp z)⟩) (λz=>?_) (by rw[<-d.length,<-c.length];exact e);refine⟨.ref s.heap.objs.size,_,I.laid (λb ob q=>az _ q) (aq _) ?_,rfl,m (λw=>z (c.nil_iff.mpr w)) _ (I.hok.fresh (aq _))⟩;exact⟨by rw[aF];exact e,_,d.append c,Ia _ _⟩
end
def ixN(n:Nat)(i:Int):Option Nat:=if 0<=i then (if i<n then some i.toNat else none) else if -(n:Int)<=i then some (i+n).toNat else none
def atI{α:Type}(xs:List α)(i:Int):Option α:=(ixN xs.length i).bind λj=>xs[j]?
theorem zep(h:ixN n i=some j):seqIndex? i n=some j/\j<n/\-(n:Int)<=i/\i<n:=by
 unfold ixN at h;by_cases b:0<=i
 ·rw[if_pos b]at h;by_cases a:i<n
  ·rw[if_pos a]at h;have e:=bN h;exact⟨by rw[FW b a,e],by omega,by omega,a⟩
  ·rw[if_neg a]at h;cases h
 ·rw[if_neg b]at h;by_cases a:-n<=i
  ·rw[if_pos a]at h;have e:=bN h;exact⟨by rw[Er (by omega) a,e],by omega,a,by omega⟩
  ·rw[if_neg a]at h;cases h
theorem zeD(h:atI xs i=some v):∃j,seqIndex? i xs.length=some j/\xs[j]?=some v/\j<xs.length/\-(xs.length:Int)<=i/\i<xs.length:=by
 unfold atI at h;cases e:ixN xs.length i with
 |none=>rw[e]at h;cases h
 |some j=>
  rw[e]at h;obtain⟨a,b,c,d⟩:=zep e;exact⟨j,a,h,b,c,d⟩
theorem yZ{j:Nat}(h:xs[j]?=some v):atI xs (j:Int)=some v:=by
 have hj:=(aV.mp h).1;have e:ixN xs.length j=some j:=by
  unfold ixN;rw[if_pos (by omega),if_pos (by omega)];simp
 unfold atI;rw[e];exact h
theorem zg9(xs:List α)(v:α):atI (xs++[v]) (-1)=some v:=by
 have a:(xs++[v]).length=xs.length+1:=by simp
 have e:ixN (xs++[v]).length (-1)=some xs.length:=by
  unfold ixN;rw[a,if_neg (by decide),if_pos (by omega)];congr 1;omega
 unfold atI;rw[e];simp
def zeM(b:dN):Prop:=∀o i,Cw b false o i=Mp [o,i] (ph o i)
def IxR(X:Cx)(r:R2):Prop :=
 ∀(value slice:dN) (pins:List (au×kZ)) (s:aP) (Z:St) (H:Hp) (x y:V) (v u:aD) (Q:VK),Inv X pins Z H s->RelV x v->RelV y u->r x y H Q ->
  Cw slice false v u=Mp [v,u] (ph v u)->bH (bG X.prog X.w) X.A (subscriptTail value slice v u) (EP X pins Z Q) X.xe s
def MtR(X:Cx)(id:String)(r:V->List V->Hp->VK->Prop):Prop :=
 ∀(pins:List (au×kZ)) (s:aP) (Z:St) (H:Hp) (x:V) (xs:List V) (v:aD) (us:List aD) (Q:VK),Inv X pins Z H s->RelV x v->Vals xs us->r x xs H Q ->
  bH (bG X.prog X.w) X.A (call (.builtin id) (v::us)) (EP X pins Z Q) X.xe s
section
variable {X:Cx} {a b:dN} {ta tb:TE} {pos:nj}
theorem zQ(hr:IxR X r)(ha:PE X a ta)(hb:PE X b tb)(hs:zeM b):PE X (.Subscript a b pos) (tOp r ta tb):=by
 intro c s Z H Q I h;exact DG (zim ha hb I h λv u d x y e f g i q=>hr a b c d Z e x y v u Q f g i q (hs _ _))
inductive IxI (S:Hp->au->List V->Prop) (x y:V) (H:Hp) (Q:VK):Prop
 |mk (p:au) (xs:List V) (i:Int) (v:V) (h1:x=.ref p) (h2:y=.int i) (s:S H p xs) (a:atI xs i=some v) (q:Q v H):IxI S x y H Q
def ziz(K:aK):R2:=λx y H Q=>IxI (SqL K) x y H Q
def zjk(K:aK):R2:=λx y H Q=>IxI (SqT K) x y H Q
theorem zhp:IxR X (ziz X.K):=by
 intro value slice a s Z H x y v u Q I n o h k;obtain⟨p,xs,i,z,rfl,rfl,A,B,q⟩:=h;cases n
 obtain⟨t,rfl⟩:=o;obtain⟨d,r,e,hz⟩:=I.list A;obtain⟨j,c,C,h3,D,E⟩:=zeD B;obtain⟨w,l,f⟩:=r.get C;have F:=r.length;have hn:=zbS;have b:EP X a Z Q w s:=⟨z,H,I,f,q⟩
 by_cases m:0<=i
 ·have g:i.toNat=j:=by
   rw[FW m E]at c;exact bN c
  exact item_listR e.isList m (by omega) (by rw[g];simpa using l) b k
 ·have g:(i+d.toArray.size).toNat=j:=by
   rw[Er (by omega) D]at c;rw[aJ,<-F];exact bN c
  exact Bq e.isList.typeIs rB.lookup
   (wpAny_getItem_list_neg e.isList (by omega) (by rw[aJ]<;>omega) (by omega) (by rw[g];simpa using l) ⟨rfl,b⟩) k
theorem zil:IxR X (zjk X.K):=by
 intro value slice a s Z H x y v u Q I e f h g;obtain⟨p,xs,i,z,rfl,rfl,k,l,q⟩:=h;cases e
 obtain⟨t,rfl⟩:=f;obtain⟨its,r,d,hz⟩:=I.tuple k;obtain⟨j,m,n,h3,h4,h5⟩:=zeD l;obtain⟨w,o,b⟩:=r.get n;have A:=r.length;have hn:=zbS;have c:EP X a Z Q w s:=⟨z,H,I,b,q⟩
 exact Bq d.typeIs slot_tuple_getitem.lookup
  (getItem_tuple d (by omega) (by omega) (by rw[aJ,<-A];exact m) (by simpa using o) ⟨rfl,c⟩) g
theorem zdZ(its:List aD)(n j:Nat)(u:aD):dh (·.setIfInBounds j u) { cls:=.type "list",data:=.seq its.toArray n }={ cls:=.type "list",data:=.seq (its.set j u).toArray n }:=by
 simp[dh]
theorem Inv.lst{Z:St}(I:Inv X pins Z H s)(h:H p=some (.lst xs)):
  ∃its n,Vals xs its/\s.heap.get? p=some { cls:=.type "list",data:=.seq its.toArray n }/\xs.length<=aA:=by
 obtain⟨z,its,n,r,e⟩:=I.hok p _ h;exact⟨its,n,r,e,z⟩
theorem Inv.lstUpd{Z:St}{its its':List aD}(I:Inv X pins Z H s)(h:H p=some (.lst xs))(ho:s.heap.get? p=some { cls:=.type "list",data:=.seq its.toArray n })(hf:f { cls:=.type "list",data:=.seq its.toArray n }={ cls:=.type "list",data:=.seq its'.toArray n' })(r:Vals ys its')(hz:ys.length<=aA)(t:Nat):
  Inv X pins Z (upd H p (.lst ys)) { s with heap:=s.heap.update p f,toks:=t }:=by
 have e:(s.heap.update p f).get? p=some { cls:=.type "list",data:=.seq its'.toArray n' }:=by
  rw[nu f ho (by rw[hf]<;>rfl),hf]
 refine I.write (by rw[h];trivial) (.inl rfl) (λb u a q=>(dF _ _ (cF a)).trans q) ⟨_,e⟩ ?_;exact⟨hz,its',n',r,e⟩
def zjg:V->V->V->Hp->(Hp->Prop)->Prop:=λo i v H Q=>Ex4 λp xs k j=>o=.ref p/\i=.int k/\H p=some (.lst xs)/\ixN xs.length k=some j/\Q (upd H p (.lst (xs.set j v)))
theorem set_list:zjF X zjg:=by
 intro pins s Z H o i v ov iv u Q I x y z h;obtain⟨p,xs,k,j,rfl,rfl,f,A,q⟩:=h;cases x
 obtain⟨t,rfl⟩:=y;obtain⟨a,n,r,c,B⟩:=I.lst f;obtain⟨b,h2,g,l⟩:=zep A;have d:=r.length;have hn:=zbS;have m:=
  I.lstUpd f c (zdZ a n j u) (r.set z j) (by rw[Gd];exact B) s.toks
 by_cases w:0<=k
 ·have e:k.toNat=j:=by
   rw[FW w l]at b;exact bN b
  exact W.ki_setAt c w (by omega) (by rw[aJ,<-d];exact l) (by rw[e];exact⟨_,m,q⟩)
 ·have e:(k+a.toArray.size).toNat=j:=by
   rw[Er (by omega) g]at b;rw[aJ,<-d];exact bN b
  exact W.ki_setBack c (by omega) (by rw[aJ,<-d];exact g) (by omega) (by rw[e];exact⟨_,m,q⟩)
theorem zbL(lo hi:Option Int)(n:Nat):(mH lo hi none n).1=((HT.sIx n 0 lo:Nat):Int)/\(mH lo hi none n).2.1=((HT.sIx n n hi:Nat):Int)/\(mH lo hi none n).2.2=1:=by
 refine⟨?_,?_,rfl⟩
 ·cases lo with
  |none=>simp[mH,HT.sIx]
  |some i=>
   simp only[mH,HT.sIx,Fj,show 1>0 by decide,if_true];by_cases h:i<0
   ·simp only[h,if_true]<;>omega
   ·simp only[h,if_false]<;>omega
 ·cases hi with
  |none=>simp[mH,HT.sIx]
  |some i=>
   simp only[mH,HT.sIx,Fj,show 1>0 by decide,if_true];by_cases h:i<0
   ·simp only[h,if_true]<;>omega
   ·simp only[h,if_false]<;>omega
theorem zaA(its:List aD)(lo hi:Option Int):slicePick its.toArray lo hi none=((its.drop (HT.sIx its.length 0 lo)).take (HT.sIx its.length its.length hi-HT.sIx its.length 0 lo)).toArray:=by
 obtain⟨a,b,c⟩:=zbL lo hi its.toArray.size;unfold slicePick;rw[a,b,c];simp only[sliceRange_one,pick_run,aJ]<;>rfl
inductive SlI (K:aK) (x:V) (lo hi:Option Int) (H:Hp) (Q:VK):Prop
 |mk (a:au) (xs:List V) (h1:x=.ref a) (h2:SqL K H a xs) (q:∀p,H p=none->Q (.ref p) (upd H p (.lst (qi xs lo hi)))):SlI K x lo hi H Q
def zhf(K:aK):V->Option Int->Option Int->Hp->VK->Prop:=λx lo hi H Q=>SlI K x lo hi H Q
theorem zhV:SlR X (zhf X.K):=by
 intro pins s Z H x v vl vu e f sl Q I i j k l h;obtain⟨a,c,rfl,m,q⟩:=h;cases i
 obtain⟨its,r,g,n⟩:=I.list m;have d:=r.length;refine⟨"list",_,rB.lookup,g.isList.typeIs,?_⟩;refine rK g.isList j k l .none (by simp) ?_ (by rw[aJ]<;>omega);rw[zaA,<-d];refine⟨.ref s.heap.objs.size,_,I.laid (λb ob q=>az _ q) (aq _) ?_,rfl,q _ (I.hok.fresh (aq _))⟩;exact⟨aB (Qh c e f) n,_,0,(r.drop (HT.sIx c.length 0 e)).take (HT.sIx c.length c.length f-HT.sIx c.length 0 e),bz _ rfl⟩
theorem zbO:vZ X (.builtin "len") (λxs H Q=>∃p ys,xs=[.ref p]/\(SqL X.K H p ys\/SqT X.K H p ys)/\Q (.int ys.length) H):=by
 intro pins s Z H xs us Q I r h;obtain⟨p,ys,rfl,b,q⟩:=h;obtain⟨u,rfl,f⟩:=vals1 r;cases f
 have hn:=zbS;rcases b with b | b
 ·obtain⟨c,d,e,g⟩:=I.list b;have a:=d.length;exact Calls.call_len_list e.isList (by simp only[aJ]<;>omega) ⟨.int ys.length,H,I.tok _,⟨s.toks+1,by rw[aJ,a]⟩,q⟩
 ·obtain⟨c,d,e,g⟩:=I.tuple b;have a:=d.length;exact len_tuple e (by simp only[aJ]<;>omega) ⟨.int ys.length,H,I.tok _,⟨s.toks+1,by rw[aJ,a]⟩,q⟩
theorem zbD:vZ X (.type "list") (λxs H Q=>∃p ys,xs=[.ref p]/\(SqL X.K H p ys\/SqT X.K H p ys)/\∀l,H l=none->Q (.ref l) (upd H l (.lst ys))):=by
 intro g s Z H xs us Q I r h;obtain⟨p,ys,rfl,i,q⟩:=h;obtain⟨u,rfl,B⟩:=vals1 r;cases B
 have j:∀a,Vals ys a->ys.length<=aA->∀c d,(∀b A,s.heap.get? b=some A->c.get? b=some A) ->
   c.get? s.heap.objs.size=some { cls:=.type "list",dict:=none,data:=.seq a.toArray d,slots:=#[] }->EP X g Z Q (.ref s.heap.objs.size) { s with heap:=c }:=λa f k c d m e=>
  ⟨.ref s.heap.objs.size,_,I.laid m (aq _) (show ObjOk X.prog X.w _ c _ (.lst ys) from ⟨k,a,d,f,e⟩),rfl,q _ (I.hok.fresh (aq _))⟩
 rcases i with i | i
 ·obtain⟨a,f,v,k⟩:=I.list i;have t:=f.length;obtain⟨o,x,y,n,z⟩:=v.isList;exact HD p (.inl rfl) x y z (λc d m e=>j a f k c d m e) (by simp only[aJ]<;>omega)
 ·obtain⟨a,f,v,k⟩:=I.tuple i;have t:=f.length;obtain⟨o,x,y,n,z⟩:=v;exact HD p (.inr rfl) x y z (λc d m e=>j a f k c d m e) (by simp only[aJ]<;>omega)
theorem Z7:vZ X (.type "tuple") (λxs H Q=>∃p ys,xs=[.ref p]/\((SqL X.K H p ys/\∀l,H l=none->Q (.ref l) (upd H l (.tup ys)))\/(SqT X.K H p ys/\Q (.ref p) H))):=by
 intro pins s Z H xs us Q I r h;obtain⟨p,ys,rfl,h⟩:=h;obtain⟨u,rfl,j⟩:=vals1 r;cases j
 rcases h with ⟨c,q⟩ | ⟨c,q⟩
 ·obtain⟨a,d,f,g⟩:=I.list c;have hlen:=d.length;refine call_tuple_list f.isList (λk m=>?_) (by simp only[aJ]<;>omega);have i:=I.kept (t':=s.toks) m;have n:=
   i.laid (t':=s.toks) (λb o e=>az _ e) (aq _) (show ObjOk X.prog X.w _ _ _ (.tup ys) from ⟨g,a,d,Ia _ _⟩)
  exact⟨.ref k.objs.size,_,n,rfl,q _ (i.hok.fresh (aq _))⟩
 ·obtain⟨a,d,f,g⟩:=I.tuple c;exact call_tuple_same f ⟨.ref p,H,I,rfl,q⟩
def tyV(K:aK)(T:String)(x:V)(H:Hp):Prop:=match x with
 |.str _=>T ="str"
 |.int _=>T ="int"
 |.ref p=>(T ="list"/\∃xs,SqL K H p xs)\/(T ="tuple"/\∃o,K.lookup p=some o/\o.cls=.type "tuple"/\o.dict=none) \/
   (T ="dict"/\((∃kvs,H p=some (.dK kvs))\/∃kvs,H p=some (.dT kvs)))\/(T ="set"/\∃S n,H p=some (.set S n))
 |_=>False
theorem zf6{Z:St}(I:Inv X pins Z H s)(r:RelV x v)(ty:tyV X.K T x H):
  s.TypeIs v T/\∀a,v=.ref a->∃ob,s.heap.get? a=some ob/\ob.dict=none:=by
 cases x with
 |str z=>
  obtain⟨t,rfl⟩:=r;cases (show T ="str" from ty)
  exact⟨typeIs_str s z t,λ_ e=>nomatch e⟩
 |int i=>
  obtain⟨t,rfl⟩:=r;cases (show T ="int" from ty)
  exact⟨GJ s i t,λ_ e=>nomatch e⟩
 |ref p=>
  cases r;rcases ty with ⟨rfl,xs,m⟩ | ⟨rfl,o,b,q,h⟩ | ⟨rfl,b⟩ | ⟨rfl,S,n,b⟩
  ·obtain⟨its,_,l,_⟩:=I.list m;refine⟨l.isList.typeIs,λa e=>?_⟩;cases e
   obtain⟨o,n,e,c,h,_⟩:=l;exact⟨o,e,h⟩
  ·refine⟨⟨o,I.kIn p o b,q⟩,λa e=>?_⟩;cases e
   exact⟨o,I.kIn _ o b,h⟩
  ·have z:∃o,s.heap.get? p=some o/\o.ExactDict:=by
    rcases b with ⟨j,b⟩ | ⟨j,b⟩
    ·obtain⟨_,_,_,_,o,_,_,e,d,_⟩:=I.hok p _ b;exact⟨o,e,d⟩
    ·obtain⟨_,_,_,_,o,_,_,e,d,_⟩:=I.hok p _ b;exact⟨o,e,d⟩
   obtain⟨o,e,d⟩:=z;refine⟨⟨o,e,d.1⟩,λa k=>?_⟩;cases k
   exact⟨o,e,d.2.1⟩
  ·obtain⟨o,_,_,_,e,d,_⟩:=I.hok p _ b;refine⟨⟨o,e,d.1⟩,λa k=>?_⟩;cases k
   exact⟨o,e,d.2.1⟩
 |_=>exact dz ty
def zjW(K:aK)(T:String)(r:V->List V->Hp->VK->Prop)(to:TE):TE:=λZ H Q=>to Z H λx H1=>tyV K T x H1/\r x [] H1 Q
def tBM(K:aK)(T:String)(r:V->List V->Hp->VK->Prop)(to:TE)(t:TA):TE:=λZ H Q=>to Z H λx H1=>tyV K T x H1/\t Z H1 λxs H2=>r x xs H2 Q
variable {o e:dN} {es:List dN} {to:TE} {t:TA} {name:bZ} {apos cpos:nj} {T id:String} {r:V->List V->Hp->VK->Prop}
theorem ziW(pa:LC T)(slot:Slot T name id)(hty:LK (.builtin id)=pure (.type "method_descriptor"))(hm:MtR X id r)(ho:PE X o to)(hbase:lL o name X.env (dZ o X.env)=dZ o X.env:=by rfl)(hline:(apos.endLine == cpos.line)=true:=by rfl):PE X (.Call (.Attribute o name apos) [] [] cpos) (zjW X.K T r to):=by
 intro a s Z H Q I h;refine wpAny_Call_method0_late hbase hline (thn (ho a s Z H _ I h) λv d ⟨x,e,b,c,f,g⟩=>?_);obtain⟨i,j⟩:=zf6 b c f;exact⟨T,id,pa,slot,hty,i,j,Br rfl (PySem.evalArgs_none (hm a d Z e x [] v [] Q b c .nil g))⟩
theorem ZC(pa:LC T)(slot:Slot T name id)(hty:LK (.builtin id)=pure (.type "method_descriptor"))(hm:MtR X id r)(ho:PE X o to)(ha:PA X (e::es) t)(hbase:lL o name X.env (dZ o X.env)=dZ o X.env:=by rfl)(hfew:((gO cpos (bM (e::es) X.env)).all (λx=>!x.1) && (rW cpos (mG [] X.env)).all (λx=>x.1.isSome)
   && decide ((e::es).length+([]:List Gn).length+(if ([]:List Gn).isEmpty then 0 else 1)<30))=true:=by rfl)(hline:(apos.endLine == cpos.line)=true:=by rfl)(hs:bM (e::es) X.env=(false,dZ e X.env)::bM es X.env:=by rfl)(hplain:(gO cpos (bM es X.env)).any (·.1)=false:=by rfl):
  PE X (.Call (.Attribute o name apos) (e::es) [] cpos) (tBM X.K T r to t):=by
 intro a s Z H Q I h;refine wpAny_Call_method_late hbase hfew hline rfl (thn (ho a s Z H _ I h) λv f ⟨x,g,b,c,i,j⟩=>?_);obtain⟨k,l⟩:=zf6 b c i;refine⟨T,id,pa,slot,hty,k,l,?_⟩;have d:=ha cpos a f Z g _ b j;rw[hs]at d ⊢;refine Br (by show (false || (gO cpos (bM es X.env)).any (·.1))=false;rw[hplain]<;>rfl) (Cy ?_);exact thn d λm n ⟨p,q,u,w,y⟩=>hm a n Z q x p v m Q u c w y
end
def MtM(X:Cx)(id:String)(r:V->List V->Hp->VK->Prop):Prop :=
 ∀(pins:List (au×kZ)) (s:aP) (Z:St) (H:Hp) (x:V) (xs:List V) (v:aD) (us:List aD) (Q:VK),Inv X pins Z H s->RelV x v->Vals xs us->r x xs H Q ->
  bH (bG X.prog X.w) X.A (call (.builtin id) (v::us)) (EP X pins Z Q) X.xe s
theorem Vals.one:∀{x:V} {us:List aD},Vals [x] us->∃u,us=[u]/\RelV x u
 |_,_,.cons r .nil=>⟨_,rfl,r⟩
theorem Vals.zero:∀{us:List aD},Vals [] us->us=[]
 |_,.nil=>rfl
theorem Vals.dropLast(h:Vals xs us):Vals xs.dropLast us.dropLast:=by
 induction h with
 |nil=>exact .nil
 |cons r t a=>
  cases t with
  |nil=>exact .nil
  |cons q t'=>exact .cons r a
theorem Vals.eraseIdx:∀{xs:List V} {us:List aD} (i:Nat),Vals xs us->Vals (xs.eraseIdx i) (us.eraseIdx i)
 |_,_,_,.nil=>.nil
 |_,_,0,.cons _ t=>t
 |_,_,i+1,.cons r t=>.cons r (Vals.eraseIdx i t)
theorem Vals.reverse(h:Vals xs us):Vals xs.reverse us.reverse:=by
 induction h with
 |nil=>exact .nil
 |cons r t a=>rw[Es,Es];exact Vals.append a (.cons r .nil)
theorem Vals.rep{xs:List V}{us:List aD}(h:Vals xs us):∀k:Nat,Vals (bW k xs).flatten (bW k us).flatten
 |0=>.nil
 |k+1=>by
  rw[fW,fW,kh,kh];exact Vals.append h (Vals.rep h k)
theorem zdW{α:Type}(l:List α):l.eraseIdx (l.length-1)=l.dropLast:=by
 induction l with
 |nil=>rfl
 |cons a r c=>
  cases r with
  |nil=>rfl
  |cons b r=>
   have e:(a::b::r).length-1=((b::r).length-1)+1:=by
    have h1:(a::b::r).length=r.length+2:=rfl;have h2:(b::r).length=r.length+1:=rfl;omega
   rw[e,List.eraseIdx_cons_succ,c]
   all_goals rfl
theorem foldl_rep(its:List aD):∀(k:Nat) (acc:List aD),
  DN (λx1 x2=>x1++x2) acc.toArray (bW k its.toArray)=(acc++(bW k its).flatten).toArray
 |0,acc=>by simp
 |k+1,acc=>by
  have e:acc.toArray++its.toArray=(acc++its).toArray:=by simp
  have a:(acc++its)++(bW k its).flatten=acc++(bW (k+1) its).flatten:=by
   rw[fW,kh,fC]
  rw[<-a,<-foldl_rep its k (acc++its),<-e,fW,oO]
section
variable {X:Cx} {pins:List (au×kZ)} {Z:St} {H:Hp} {s:aP} {l b:au} {xs ys zs:List V}
theorem Inv.lset{its its':List aD}(I:Inv X pins Z H s)(hH:H l=some (.lst xs))(e:s.heap.get? l=some { cls:=.type "list",data:=.seq its.toArray n })(hf:f its.toArray=its'.toArray)(hv:Vals ys its')(hz:ys.length<=aA):
  Inv X pins Z (upd H l (.lst ys)) { s with heap:=s.heap.update l (dh f),toks:=t' }:=by
 have q:=PySem.IsL.update e f;rw[hf]at q;refine I.write (by rw[hH];exact trivial) (.inl rfl) (λb' u a b=>(dF s.heap (dh f) (cF a)).trans b) ⟨_,q⟩ ?_;exact⟨hz,its',_,hv,q⟩
theorem Inv.lnew(I:Inv X pins Z H s)(hv:Vals ys its)(hz:ys.length<=aA):
  Inv X pins Z (upd H s.heap.objs.size (.lst ys)) { s with heap:=s.heap.push { cls:=.type "list",data:=.seq its.toArray },toks:=t' } :=
 I.laid (λ_ _ q=>az _ q) (aq _) ⟨hz,its,0,hv,bz _ rfl⟩
theorem Inv.fresh(I:Inv X pins Z H s):H s.heap.objs.size=none:=I.hok.fresh (aq _)
theorem Inv.lstM(I:Inv X pins Z H s)(hH:H l=some (.lst xs)):xs.length<=aA/\∃its n,Vals xs its/\xs.length=its.length/\s.heap.get? l=some { cls:=.type "list",data:=.seq its.toArray n }:=by
 obtain⟨z,its,n,r,e⟩:=I.hok l _ hH;exact⟨z,its,n,r,r.length,e⟩
theorem zcV(h:n<=aA):gP n=false:=by
 unfold gP;exact decide_eq_false (by omega)
end
section
variable {X:Cx}
inductive ApI (x:V) (vs:List V) (H:Hp) (Q:VK):Prop
 |mk (l:au) (xs:List V) (y:V) (h1:x=.ref l) (h2:vs=[y]) (h3:H l=some (.lst xs)) (h4:xs.length<aA) (q:Q .non (upd H l (.lst (xs++[y])))):ApI x vs H Q
def zhM:V->List V->Hp->VK->Prop:=λx vs H Q=>ApI x vs H Q
theorem wX:MtM X "list.append" zhM:=by
 intro pins s Z H x vs v us Q I c d h;obtain⟨l,xs,y,rfl,rfl,b,hz,q⟩:=h;cases c
 obtain⟨u,rfl,f⟩:=d.one;obtain⟨z,a,n,r,hl,e⟩:=I.lstM b;refine lq DP ⟨_,e,rfl⟩ Dm (Cz _ _) (PySem.list_append l a.toArray n u (by rw[aJ];omega)) ⟨e,?_⟩;refine⟨.non,_,I.lset b e (by simp) (r.append (.cons f .nil)) ?_,rfl,q⟩;rw[aF,aX];omega
def zhF:V->List V->Hp->VK->Prop:=λx vs H Q=>Ex4 λl b xs zs=>x=.ref l/\vs=[.ref b]/\H l=some (.lst xs)/\H b=some (.lst zs)/\xs.length+zs.length<=aA/\Q .non (upd H l (.lst (xs++zs)))
theorem zfq:MtM X "list.extend" zhF:=by
 intro pins s Z H x vs v us Q I i j h;obtain⟨l,b,xs,zs,rfl,rfl,g,k,hz,q⟩:=h;cases i
 obtain⟨u,rfl,m⟩:=j.one;cases m
 obtain⟨z,c,n,r,hl,e⟩:=I.lstM g;obtain⟨z2,a,o,p,hl2,t⟩:=I.lstM k;have f:c.toArray.size+a.toArray.size<=aA:=by rw[aJ,aJ];omega
 have d:¬ (!c.toArray.isEmpty && gP (c.toArray.size+a.toArray.size))=true:=by
  rw[zcV f,mU];exact bc
 refine lq F.slot_list_extend ⟨_,e,rfl⟩ F.entry_list_extend (F.args_list_extend_2 _ _)
  (Et l c.toArray n b a.toArray o d (by omega) (by omega)) ⟨e,t,?_⟩
 refine⟨.non,_,I.lset g e (by simp) (r.append p) ?_,rfl,q⟩;rw[aF];omega
def zjY:V->List V->Hp->VK->Prop:=λx vs H Q=>Ex3 λl xs y=>x=.ref l/\vs=[]/\H l=some (.lst xs)/\xs[xs.length-1]?=some y/\Q y (upd H l (.lst xs.dropLast))
theorem ziX:MtM X "list.pop" zjY:=by
 intro pins s Z H x vs v us Q I f g h;obtain⟨l,xs,y,rfl,rfl,d,i,q⟩:=h;cases f
 have b:=g.zero;subst b;obtain⟨z,a,n,r,j,e⟩:=I.lstM d;obtain⟨u,k,m⟩:=r.get i;have c:a.toArray[a.toArray.size-1]?=some u:=by
  show a.toArray[a.length-1]?=some u;rw[<-BZ,<-j];exact k
 refine lq F.slot_list_pop ⟨_,e,rfl⟩ F.entry_list_pop (F.args_list_pop_1 _) (Ir l a.toArray n u c (by rw[aJ];omega)) ⟨e,?_⟩;refine⟨y,_,I.lset d e ?_ r.dropLast ?_,m,q⟩
 ·show a.toArray.eraseIdxIfInBounds (a.toArray.size-1)=a.dropLast.toArray;rw[aJ,List.eraseIdxIfInBounds_toArray,zdW]
 ·rw[List.length_dropLast];omega
inductive CaI (x y:V) (H:Hp) (Q:VK):Prop
 |mk (l b:au) (xs zs:List V) (h1:x=.ref l) (h2:y=.ref b) (h3:H l=some (.lst xs)) (h4:H b=some (.lst zs)) (h5:xs.length+zs.length<=aA) (q:∀p,H p=none->Q (.ref p) (upd H p (.lst (xs++zs)))):CaI x y H Q
def zi5:R2:=λx y H Q=>CaI x y H Q
theorem uB:OpR X (gW .Add) zi5:=by
 intro pins s Z H x y v u Q I d f h;obtain⟨l,b,xs,zs,rfl,rfl,g,i,hz,q⟩:=h;cases d
 cases f;obtain⟨z,c,n,r,hl,e⟩:=I.lstM g
 obtain⟨z2,a,n2,j,hl2,k⟩:=I.lstM i;refine PySem.P.add_list e k ?_ (by rw[aJ,aJ];omega);have m:c.toArray++a.toArray=(c++a).toArray:=by simp
 rw[m];exact⟨.ref _,_,I.lnew (r.append j) (by rw[aF];omega),rfl,q _ I.fresh⟩
def zi3:R2:=λx y H Q=>Ex3 λl k xs=>x=.ref l/\y=.int k/\H l=some (.lst xs)/\-(2^63)<=k/\k<2^63/\xs.length*k.toNat<=aA /\
 ∀p,H p=none->Q (.ref p) (upd H p (.lst (bW k.toNat xs).flatten))
theorem len_rep{α:Type}(xs:List α)(k:Nat):(bW k xs).flatten.length=k*xs.length:=by
 induction k with
 |zero=>simp
 |succ k a=>rw[fW,kh,aF,a,lC,pq]
theorem zgc:OpR X (gW .Mult) zi3:=by
 intro pins s Z H x y v u Q I w A h;obtain⟨l,k,xs,rfl,rfl,B,C,D,p,q⟩:=h;cases w
 obtain⟨t,rfl⟩:=A;obtain⟨z,b,n,r,E,e⟩:=I.lstM B;have d:b.toArray.size*k.toNat<=aA:=by rw[aJ,<-E];exact p
 have f:¬ b.toArray.size*k.toNat>(2^63-1) / 8:=by
  have:aA<=(2^63-1) / 8:=by decide
  omega
 have g:¬ (!Builtin.List.listFitsIndex k)=true:=by
  rw[fitsIndex_both C D];exact bc
 have c:¬ gP (b.toArray.size*k.toNat)=true:=by
  rw[zcV d];exact bc
 have i:DN (λj o=>j++o) #[] (bW (if b.toArray.isEmpty=true then 0 else k.toNat) b.toArray)=(bW k.toNat b).flatten.toArray:=by
  have G:∀m:Nat,DN (λj o=>j++o) #[] (bW m b.toArray)=(bW m b).flatten.toArray:=λm=>by
   have:=foldl_rep b m [];exact this
  rw[G];cases b with
  |nil=>simp
  |cons a r'=>rw[if_neg (by simp)]
 refine wpAny_binaryOp_repeat_ref (by decide) ⟨_,e,rfl⟩ (λJ=>GJ J k t) noFill_list_mul F.fills_int_mul Ge repeat_list F.slot_int_index.lookup
  (lq Ge (GJ s k t) F.entry_int_rmul (F.args_int_rmul_2 _ _) (int___rmul___int_list k t l b.toArray n)
   ⟨e,rfl,⟨_,e,rfl⟩,lq F.slot_list_mul ⟨_,e,rfl⟩ F.entry_list_mul (F.args_list_mul_2 _ _) (Ei l b.toArray n k t g f c) ⟨e,?_⟩⟩)
 rw[i];exact⟨.ref _,_,I.lnew (r.rep k.toNat) (by rw[len_rep,fD];exact p),rfl,q _ I.fresh⟩
end
section
variable {prog:bx} {w:bU} {A:dB} {E:aD->aP->Prop} {s:aP}
end
section
variable {X:Cx}
end
end L2
namespace Att
open PySem PySem.W PySem.Calls PyProof.Rows
theorem Qw:∀ns vs,WellAll P h vs (ns.map MJ)->gw vs ns:=by
 intro ns
 induction ns with
 |nil=>
  intro vs w;cases w
  exact .nil
 |cons n ns c=>
  intro vs w;cases w with
  |cons a b=>
   cases a;exact .cons _ _ (c _ b)
theorem zeT{l:Mq}(hn:l.most=some n)(hpre:l.row.toRowW.claim.pre args=true)(hwl:WellAll P h vals args):
  ∃a vs ns,vals=[aU a]/\args=[WData.list (ns.map MJ)]/\h.get? a=some { cls:=.type "list",data:=.seq vs.toArray }/\gw vs ns/\ns.length<=n:=by
 have f:=(LQ hpre).1;have i:l.pre.holds [] { args:=args }=true:=(LQ hpre).2;obtain⟨d,r,rfl,j,k⟩:=hasAllW_cons f;obtain rfl:=hasAllW_nil k;obtain⟨xs,rfl,m⟩:=hasW_list j;obtain⟨ns,rfl⟩:=items_int m;have b:ns.length<=n:=by
  have e:(WTm.not (.lt (.lit (.int n)) (.len (.arg 0)))).holds [] { args:=[.list (ns.map .int)] }=true:=by
   have e:=(holds_andW i).1;rw[hn]at e;exact e
  have g:=condW_of e (w_not (w_lt w_lit (w_len_list (w_arg rfl))));refine Nat.le_of_not_lt λq=>?_;have o:n<((ns.length:Nat)):=by omega
  first
   | (rw[decide_eq_true o]at g;exact absurd g (by decide))
   | (simp at g;omega)
 cases hwl with
 |cons p s=>
  cases s;cases p with
  |list t c=>exact⟨_,_,ns,rfl,rfl,t,Qw ns _ c,b⟩
theorem ze2(l:Mq)(args:List WData):l.row.toRowW.claim.post args (.bool true) args=true :=
 postW_of
  (show LR [] (.bool true) .bool=true by first | rfl | decide | simp[LR,WShape.arms,WShape.armsAll])
  (show (WTm.eq .res (.lit (.bool true))).value [] { args:=args,res:=some (.bool true),after:=args }=some (.bool (true == true)) from w_eq_bool (w_res rfl) w_lit) rfl
theorem zcI{l:Mq}(hn:l.most=some n)(hdf:d.params.defaults=[])(call:∀w s₀ s₁ mg mb fa o pm cd doc a vs ns,
   Ground q loose [] XP w s₀ mg mb s₁.heap->YP w s₁.heap ->
   s₁.heap.get? fa=some o->o.data=.func (docDef d.name d.params d.body d.scope pm cd doc)->s₁.heap.CodeRec cd d.name->mg d.name=some (.ref fa) ->
   s₁.heap.get? a=some { cls:=.type "list",data:=.seq vs.toArray }->gw vs ns->ns.length<=n->s₁.gens=#[] ->
   jL (bG l.prog w) Dh (.call (.ref fa) ⟨[.ref a],[]⟩) (λr s'=>r=.ok (.ret (.bool true))/\OldK s₁.heap s'.heap/\s'.os=s₁.os/\lW s'.gens) s₁):
  WalkO q loose XP YP l.row.toRowW d [] (λf vs=>PySem.call f vs):=by
 intro w s₀ s₁ mg mb G Y fa o pm cd doc g h ho hd hcd hD hmg hg args vals as hpre hlay hrd hwl hlo;obtain rfl:g=.none:=Dflts.none hD hdf;obtain rfl:h=.none:=Dflts.noKw hD;obtain⟨a,vs,ns,rfl,rfl,c,b,e⟩:=zeT hn hpre hwl;refine enter_call (iG (call w s₀ s₁ mg mb fa o pm cd doc a vs ns G Y ho (fd_plain hd) hcd hmg c b e hg) λr s' i=>?_);obtain⟨rfl,j,k,m⟩:=i;exact⟨.inl ⟨.bool true,.bool true,[],rfl,λ_=>rfl,.bool true,ze2 l _,λ_=>⟨Mr,λ_ p=>(nomatch p)⟩⟩,j,k,m⟩
section
variable {prog:bx} {w:bU} {A:dB} {E:aD->aP->Prop} {s:aP} {K:Frag}
end
end Att
namespace L2
open PySem PySem.Spec PyProof.Rows
theorem zbb:∀{vs:List aD} {ns:List Int},gw vs ns->Vals (ns.map V.int) vs
 |_,_,.nil=>.nil
 |_,_,.cons n t h=>.cons ⟨t,rfl⟩ (zbb h)
def inClass(s:cG)(j:Nat):cG:=match s with
 |.ClassDef _ _ _ body _ _ _ _ _ _ _=>body.getD j (.Pass ⟨0,0,0,0⟩)
 |_=>.Pass ⟨0,0,0,0⟩
def jV(s:cG):Fl:=match s with
 |.FunctionDef _ a _ _ _ _ _ _ _ _=>a
 |_=>{ posonlyargs:=[],args:=[],vararg:=none,kwonlyargs:=[],kw_defaults:=[],kwarg:=none,defaults:=[] }
def zq(s:cG):List cG:=match s with
 |.FunctionDef _ _ b _ _ _ _ _ _ _=>b
 |_=>[]
def zx(s:cG):iZ:=match s with
 |.FunctionDef _ _ _ _ _ _ sc _ _ _=>sc
 |_=>{ kind:=.function,names:=[],isGenerator:=false,isCoroutine:=false }
abbrev CX0:CXT:=λ_ _ _ _ _ _=>False
abbrev E0:XK:=λ_ _ _=>False
theorem zaQ:Vr CX0 X E0:=λ_ _ _ _ _ _ _ h=>h.elim
structure Fun (K:aK) (x qual:bZ) (st:cG) (f:au) (fd:lM):Prop where
 ex:∃(oc:aD) (od:Option au) (kV doc pm:aD) (an:Option au) (cdv ct:aD) (osl:Array (Option aD)),
  fd=rJ x qual (jV st) (zq st) (zx st) .none kV doc pm an cdv ct/\K.lookup f=some ⟨oc,od,.func fd,osl⟩/\En K cdv qual=true
 kp:pJ K (.ref f)=true
section
variable {P:bx} {w:bU} {K:aK} {mg:bZ->Option aD} {base:dj}
theorem Fun.ok{st:cG}(F:Fun K x qual st f fd)(S:zF N ps (zx st))(len:∀vs H Q E,sp vs H Q E->vs.length=ps.length)(hbody:∀cdv A outer s H vs Q E,Room k (A.deeper (pL qual (zx st) s.heap.objs.size f cdv))->sp vs H Q E ->
   ∃t,PSs (Wr CX0 P w K mg base N qual (zx st) f cdv A outer s H E).nox (zq st) t/\t { nx:=λ_ H'=>Q .non H',rt:=Q } (start N vs) H):FnOk P w K mg base CX0 (k+1) f fd ps sp:=by
 obtain⟨oc,od,kV,doc,pm,an,cdv,ct,osl,rfl,c,a⟩:=F.ex;refine zgC c a S len λA outer s H vs Q E d b=>?_;obtain⟨t,h,q⟩:=hbody cdv A outer s H vs Q E d b;exact⟨t,h.nox,q⟩
theorem Fun.binds{st:cG}(F:Fun K x qual st f fd)(h:∀kV doc pm an cdv ct us,us.length=ps.length->Cv (rJ x qual (jV st) (zq st) (zx st) .none kV doc pm an cdv ct) ⟨us,[]⟩=pure (ps.zip us)):Binds K fd ps []:=by
 obtain⟨oc,od,kV,doc,pm,an,cdv,ct,osl,rfl,lk,hcd⟩:=F.ex;exact .all (h kV doc pm an cdv ct)
theorem zbj{st:cG}{kV doc pm cdv ct:aD}(l:K.lookup f=some ⟨oc,od,.func (rJ x qual (jV st) (zq st) (zx st) .none kV doc pm an cdv ct),osl⟩)(c:En K cdv qual=true)(k:pJ K (.ref f)=true):Fun K x qual st f (rJ x qual (jV st) (zq st) (zx st) .none kV doc pm an cdv ct):=⟨⟨oc,od,kV,doc,pm,an,cdv,ct,osl,rfl,l,c⟩,k⟩
end
section
variable {X:Cx}
theorem pv(i:Nat){pos:nj}(hN:X.N[i]?=some x:=by rfl)(hv:Vis X.env.scope x:=by first | exact bf rfl | exact lK (bf rfl) | exact lK (lK rfl))(hd:(x == ("__debug__" : bZ))=false:=by decide)(hcd:(x == ("__classdict__" : bZ))=false:=by decide):PE X (.Name x pos) (zgK i):=ziJ hN hv hd hcd
end
theorem yG{A B:Prop}(h:B):if false=true then A else B:=by
 rw[if_neg bc];exact h
theorem yz{A B:Prop}(h:A):if true=true then A else B:=by
 rw[if_pos rfl];exact h
theorem zbz{c A B:Prop}[Decidable c](h1:c->A)(h2:¬ c->B):if c then A else B:=by
 by_cases h:c
 ·rw[if_pos h];exact h1 h
 ·rw[if_neg h];exact h2 h
def Same(H H':Hp):Prop:=∀b o,H b=some o->H' b=some o
theorem Same.refl(H:Hp):Same H H:=λ_ _ h=>h
theorem Same.trans(a:Same H H1)(b:Same H1 H2):Same H H2:=λc o h=>b c o (a c o h)
theorem Same.free(e:Same H H')(h:H' l=KN):H l=KN:=by
 cases q:H l with
 |none=>rfl
 |some o=>
  rw[e l o q]at h;cases h
theorem Same.seq{K:aK}(e:Same H H')(h:SqL K H a xs):SqL K H' a xs:=by
 rcases h with (h | ⟨o,h⟩) | h
 ·exact .inl (.inl (e _ _ h))
 ·exact .inl (.inr ⟨o,e _ _ h⟩)
 ·exact .inr h
def jC(cells:List (bZ×au)):List (bZ×gZ)->List (bZ×au)->List (bZ×au)
 |[],cs=>cs
 | (n,k)::r,cs=>jC cells r (if k=.free then (match cells.lookup n with | some c=>(n,c)::cs | none=>cs) else cs)
theorem Xa{env:Li}:∀(names:List (bZ×gZ)) (cs:List (bZ×au)),(∀x∈names,x.2=.free->∃c,env.cells.lookup x.1=some c) ->
  (forIn names cs λ(x:bZ×gZ) (r:List (bZ×au))=>if (x.2 == .free)=true then (do let c <-M4 env x.1;pure (iQ ((x.1,c)::r)):Np _) else pure (iQ r))=pure (jC env.cells names cs)
 |[],cs,_=>rfl
 | (n,k)::r,cs,h=>by
  have ih:=λa=>Xa r a λx f=>h x (bQ _ f);rw[List.forIn_cons];by_cases b:k=.free
  ·subst b;obtain⟨c,d⟩:=h (n,.free) bI rfl;have e:M4 env n=pure c:=by unfold M4;rw[d]
   simp only[beq_self_eq_true,if_true,e,pure_bind,jC,d];exact ih _
  ·have g:(k == fK)=false:=by simpa using b
   simp only[g,dG,if_false,pure_bind,jC,b];exact ih _
theorem WL(h:∀x∈scope.names,x.2=.free->∃c,env.cells.lookup x.1=some c):DQ scope env=pure (jC env.cells scope.names []):=by
  have e:=Xa scope.names [] h;unfold DQ
  first
    | (simp only[bind_pure];exact e)
    | (show (forIn scope.names [] _ >>= λr=>pure r)=_
       rfl)
theorem W0{cells:List (bZ×au)}{y:bZ}{c:au}:∀{names:List (bZ×gZ)} {cs:List (bZ×au)},(∀y c,cs.lookup y=some c->cells.lookup y=some c)->(jC cells names cs).lookup y=some c->cells.lookup y=some c
 |[],cs,h,e=>h y c e
 | (n,k)::r,cs,h,e=>by
  refine W0 (names:=r) ?_ e;intro y' c' e';by_cases hk:k=.free
  ·rw[if_pos hk]at e';cases q:cells.lookup n with
   |none=>rw[q]at e';exact h _ _ e'
   |some d=>
    rw[q]at e';simp only[cN]at e';cases hb:y' == n with
    |true=>
     rw[hb]at e';cases e'
     have:y'=n:=by simpa using hb
     rw[this];exact q
    |false=>rw[hb]at e';exact h _ _ e'
  ·rw[if_neg hk]at e';exact h _ _ e'
theorem J0{cells:List (bZ×au)}{y:bZ}:∀{names:List (bZ×gZ)} {cs:List (bZ×au)},((∃c,cs.lookup y=some c)\/((y,fK)∈names/\∃c,cells.lookup y=some c))->∃c,(jC cells names cs).lookup y=some c
 |[],cs,h=>by
  rcases h with h | ⟨h,_⟩
  ·exact h
  ·cases h
 | (n,k)::r,cs,h=>by
  refine J0 (names:=r) ?_;rcases h with ⟨c,h⟩ | ⟨h,c,hc⟩
  ·left;by_cases hk:k=.free
   ·rw[if_pos hk];cases q:cells.lookup n with
    |none=>exact⟨c,h⟩
    |some d=>
     simp only[cN];cases hb:y == n with
     |true=>exact⟨d,rfl⟩
     |false=>exact⟨c,h⟩
   ·rw[if_neg hk];exact⟨c,h⟩
  ·rcases aW.mp h with e | h
   ·cases e;left
    rw[if_pos rfl,hc];exact⟨c,by simp⟩
   ·exact .inr ⟨h,c,hc⟩
theorem qm{env:Li}:∀{names:List (bZ×gZ)} {x:bZ} {k:gZ},
  (names.map λ(n,k)=>if (k == fK && env.scope.kind == .function && env.kindOf n == some .cell) then (n,lN) else (n,k)).lookup x=some k->names.lookup x=some k\/(k=.cell/\names.lookup x=some .free)
 |[],_,_,h=>by simp at h
 | (n,k0)::r,x,k,h=>by
  have ih:=@qm env r x k;rw[bC]at h;by_cases a:(k0 == fK && env.scope.kind == .function && env.kindOf n == some .cell)=true
  ·simp only[a,if_true,cN]at h;have b:k0=.free:=by
    simp only[cA]at a;simpa using a.1.1
   cases hx:x == n with
   |true=>rw[hx]at h;cases h;right;simp[cN,hx,b]
   |false=>rw[hx]at h;simp only[cN,hx];exact ih h
  ·have c:(k0 == fK && env.scope.kind == .function && env.kindOf n == some .cell)=false:=by simpa using a
   simp only[c,dG,if_false,cN]at h;cases hx:x == n with
   |true=>rw[hx]at h;cases h;left;simp[cN,hx]
   |false=>rw[hx]at h;simp only[cN,hx];exact ih h
def cxG(X:Cx)(ow N:List bZ)(scope:iZ)(C:au)(s₀:aP)(H₀:Hp)(ex:List au):Cx:={ X with N:=N,s₀:=s₀,H₀:=H₀,env:=KR scope (ow.map (·,C+1)++jC X.env.cells scope.names []) C X.env,outer:=X.stack,ex:=ex,fn:=λy=>ow.elem y,pn:=[],xe:=λ_ _=>False }
def cxC(X:Cx)(N:List bZ)(scope:iZ)(C:au)(s₀:aP)(H₀:Hp)(ex:List au):Cx:=cxG X [] N scope C s₀ H₀ ex
def tU(js:List Nat)(Z:St):St:=js.map λj=>(Z[j]?).join
theorem zhd{i:Nat}(h:(tU js Z)[i]?=some (some v)):∃j,js[i]?=some j/\Z[j]?=some (some v):=by
 unfold tU at h;rw[ao]at h;cases e:js[i]? with
 |none=>rw[e]at h;cases h
 |some j=>
  rw[e]at h;have a:(Z[j]?).join=some v:=bN h;refine⟨j,rfl,?_⟩;cases q:Z[j]? with
  |none=>rw[q]at a;cases a
  |some z=>rw[q]at a;exact congrArg some a
structure CScope (sc:iZ) (scope:iZ) (x:bZ) (M:List bZ) (ys:List bZ) (js:List Nat):Prop where
 kind:scope.kind=.function:=by rfl
 cell:∀y∈scope.names,y.2≠.cell:=by decide +kernel
 loc:∀y∈scope.names,y.2=.local->scope.names.lookup y.1=some .local:=by decide +kernel
 var:scope.names.lookup x=some .local:=by rfl
 free:∀y∈scope.names,y.2=.free->sc.names.lookup y.1=some .cell\/sc.names.lookup y.1=some .free:=by decide +kernel
 caps:js.map (M[·]?)=ys.map some:=by rfl
 fr:∀y∈ys,scope.names.lookup y=some .free:=by decide +kernel
 nd:(x::ys).Nodup:=by decide +kernel
structure zco (sc:iZ) (scope:iZ) (xs ow:List bZ) (M:List bZ) (ys:List bZ) (js:List Nat):Prop where
 kind:scope.kind=.function
 cell:∀y∈scope.names,y.2=.cell->y.1∈ow
 loc:∀y∈scope.names,y.2=.local->scope.names.lookup y.1=some .local
 free:∀y∈scope.names,y.2=.free->sc.names.lookup y.1=some .cell\/sc.names.lookup y.1=some .free
 caps:js.map (M[·]?)=ys.map some
 fr:∀y∈ys,scope.names.lookup y=some .free
 nd:(xs++ys).Nodup
 one:∀y∈ow,∀z∈ow,y=z
 sub:∀y∈ow,y∈xs
 own:∀n acc,nU n scope.names acc=ow.map (·,n)++acc
 psh:∀h:dj,∀y∈ow,(pushCells h scope.names).get? h.objs.size=some { cls:=.type "cell",data:=.cell none }
theorem JT:∀{names:List (bZ×gZ)} {n:Nat} {acc:List (bZ×au)},(∀y∈names,y.2≠.cell)->nU n names acc=acc
 |[],_,_,_=>rfl
 | (_,k)::r,_,_,h=>by
  unfold nU;rw[if_neg (λe=>h _ bI (eq_of_beq e))];exact JT λy hy=>h y (bQ _ hy)
theorem Xi{C:au}{cl:List (bZ×au)}{y:bZ}:∀ow:List bZ,(ow.map (·,C)++cl).lookup y=if y∈ow then some C else cl.lookup y
 |[]=>rfl
 |x::r=>by
  rw[bC,sr,cN,Xi r];by_cases h:y=x
  ·subst h;simp
  ·rw[beq_eq_false_iff_ne.mpr h];simp[h]
def nones(xs:List bZ):St:=xs.map λ_=>none
theorem Wi:(nones xs).length=xs.length:=aa ..
theorem zaX(h:(nones xs++c)[i]?=some (some v)):∃k,i=xs.length+k/\c[k]?=some (some v):=by
 by_cases a:i<xs.length
 ·rw[cU (by rw[Wi];exact a)]at h;unfold nones at h;rw[ao,aj a]at h;cases h
 ·rw[cQ (by rw[Wi];omega),Wi]at h;exact⟨i-xs.length,by omega,h⟩
theorem zgW(S:zco sc scope xs ow N ys js)(hQ:∀h',h'.Ns s.heap.objs.size (λ_=>none)->(∀y∈ow,h'.get? (s.heap.objs.size+1)=some { cls:=.type "cell",data:=.cell none })->(∀b o,s.heap.get? b=some o->h'.get? b=some o) ->
   Q { scope,locals:=s.heap.objs.size,globals,cells:=ow.map (·,s.heap.objs.size+1)++cl,qual,func:=none,code:=outer.code,frame:=outer.frame,builtins:=outer.builtins } { s with heap:=h' }):
  bH M A (GK scope globals cl [] qual none .none (some outer)) Q E s:=by
 refine ak (wpAny_alloc (ak (wpAny_layCells _ (λname a cells=>by cases hkc:a == lN<;>simp[hkc]) _ _ _ _ ?_)));rw[S.own];refine ak (aG (aG ?_));have c:(s.heap.push { cls:=.type "dict",data:=.dict #[] }).objs.size=s.heap.objs.size+1:=mR ..;have q:=hQ _ ((Nq s.heap (.type "dict")).keeps λb o e=>Gf scope.names _ b o e) (λy d=>by rw[<-c];exact S.psh _ y d) λb o e=>Gf _ _ _ _ (az _ e);rw[<-c]at q;exact q
section
variable {X:Cx} {pins:List (au×kZ)} {Z:St} {H:Hp} {s:aP} {scope:iZ} {x:bZ} {xs ow ys:List bZ} {js:List Nat} {fp:List au} {h₁:dj} {tk:Nat} {C:au}
theorem ze1(I:Inv X pins Z H s)(S:zco X.env.scope scope xs ow X.N ys js)(hf:∀b∈fp,U5 X pins H b)(ho:∀b∈fp,∃o,s.heap.get? b=some o)(hC:s.heap.objs.size<=C)(hk:∀b o,s.heap.get? b=some o->h₁.get? b=some o)(hn:h₁.Ns C λ_=>none)(hcell:∀y∈ow,h₁.get? (C+1)=some { cls:=.type "cell",data:=.cell none }):
  Inv (cxG X ow (xs++ys) scope C s H fp) [] (nones xs++tU js Z) H { s with heap:=h₁,toks:=tk }:=by
 generalize A:jC X.env.cells scope.names []=w;have g:∀y c,w.lookup y=some c->X.env.cells.lookup y=some c:=λy c e=>W0 (λ_ _ z=>by simp at z) (A▸e);have Q:(cxG X ow (xs++ys) scope C s H fp).env=KR scope (ow.map (·,C+1)++w) C X.env:=by rw[<-A];rfl
 have F:∀y,y∉ow->scope.names.lookup y=some .free->∃c,(ow.map (·,C+1)++w).lookup y=some c/\w.lookup y=some c:=λy R e=>by
  have m:=PySem.mem_of_lookup e;obtain⟨c,h⟩:=J0 (.inr ⟨m,I.ok.has y (S.free _ m rfl)⟩);rw[Xi,if_neg R,<-A];exact⟨c,h,h⟩
 have f:∀y c,(cxG X ow (xs++ys) scope C s H fp).env.cells.lookup y=some c->(y∈ow/\c=C+1)\/(y∉ow/\w.lookup y=some c):=λy c e=>by
  rw[Q]at e;have e:(ow.map (·,C+1)++w).lookup y=some c:=e;rw[Xi]at e;split at e
  ·exact .inl ⟨‹_›,(bN e).symm⟩
  ·exact .inr ⟨‹_›,e⟩
 have G:∀y c,w.lookup y=some c->¬ C+1=c:=λy c e z=>by
  obtain⟨v,o,J,_⟩:=I.cell y c (g y c e);exact absurd (aM J) (z▸Nat.not_lt.mpr (gG hC))
 have lt:∀b∈fp,b<s.heap.objs.size:=λb t=>by obtain⟨o,e⟩:=ho b t;exact aM e
 have ok:(cxG X ow (xs++ys) scope C s H fp).Ok:=by
  refine⟨I.ok.mod,S.kind,I.ok.glob,I.ok.blt,hC,λy z c E J=>?inj,λy R=>?_,λy c z e=>?_,I.ok.hd,I.ok.frames,.inl rfl,λb t=>?_,I.bs,aB I.ok.bsz I.sz,λb o e t=>?_,λb t z=>?_,I.stack,I.stkFree⟩
  case inj=>
   rcases f y c E with ⟨O,h2⟩ | ⟨_,O⟩<;>rcases f z c J with ⟨P,h4⟩ | ⟨_,P⟩
   ·exact S.one _ O _ P
   ·exact absurd h2.symm (G z c P)
   ·exact absurd h4.symm (G y c O)
   ·exact I.ok.inj y z c (g _ _ O) (g _ _ P)
  ·have U:=R;rw[Q];show ∃c,(ow.map (·,C+1)++w).lookup y=some c;by_cases B:y∈ow
   ·exact⟨C+1,by rw[Xi,if_pos B]⟩
   have x:=λz=>(F y B z).imp λ_ h=>h.1;rcases U with e | e
   ·rcases qm e with z | ⟨_,z⟩
    ·exact absurd (S.cell _ (PySem.mem_of_lookup z) rfl) B
    ·exact x z
   ·rcases qm e with z | ⟨z,_⟩
    ·exact x z
    ·cases z
  ·rcases f y c e with ⟨_,h⟩ | ⟨h,_⟩
   ·rw[h];exact gG hC
   ·exact absurd (HF.mp z) h
  ·refine⟨bj (aO (lt b t) hC),λy c e=>?_⟩;rcases f y c e with ⟨_,h⟩ | ⟨_,h⟩
   ·rw[h];exact eU (aO (lt b t) (gG hC))
   ·exact (hf b t).2.2.2.2.1 y c (g y c h)
  ·rcases (hf b t).2.2.2.1 with z | z
   ·exact I.ok.noex b o e z
   ·exact absurd (aO (aM e) (aB I.ok.bsz z)) (eQ _)
  ·rcases aW.mp (I.stkSub b z) with e | e
   ·exact (hf b t).2.1 e
   ·exact (hf b t).2.2.1 e
 refine⟨ok,rfl,I.bare,Un.kept hk,⟨_,hn,λi y v E J e3=>?_⟩,λy c e=>?_,I.hok.fresh hC,λy c e=>(f y c e).elim (λh=>by rw[h.2];exact I.hok.fresh (gG hC)) (λh=>I.freeC y c (g y c h.2)),λp hp=>absurd (show p∈([]) from hp) (by simp),I.hok.kept hk,?_⟩
 ·obtain⟨k,rfl,V⟩:=zaX J;have K:ys[k]?=some y:=by
   have E:(xs++ys)[xs.length+k]?=some y:=E;rw[cQ (by omega),mJ]at E;exact E
  obtain⟨j,hj,hσ⟩:=zhd V;have hN:X.N[j]?=some y:=by
   have z:=congrArg (λl=>l[k]?) S.caps;simp only[ao,hj,K,dw]at z;exact bN z
  have L:=aL K;have D:=S.fr y L;have n:=S.free _ (PySem.mem_of_lookup D) rfl;obtain⟨m',hns,hl⟩:=I.loc;obtain⟨u,r,lk⟩:=hl j y v hN hσ (.inr n);refine⟨u,r,.inr ⟨?_,?_⟩⟩
  ·have W:=e3;rcases W with z | z
   ·rcases qm z with q | ⟨q,_⟩
    ·rw[D]at q;cases q
    ·cases q
   ·exact z
  ·obtain⟨c,hc,Y⟩:=F y (λz=>(kj.mp S.nd).2.2 y (S.sub y z) y L rfl) D;rw[Q];refine⟨c,hc,?_⟩;rcases lk with ⟨z,_⟩ | ⟨_,c',M,cell⟩
   ·rcases n with q | q<;>· rw[show X.env.scope.names.lookup y=some .local from z]at q;cases q
   ·rw[g y c Y]at M;cases M
    obtain⟨o,e,d⟩:=cell;exact⟨o,hk _ _ e,d⟩
 ·rcases f y c e with ⟨q,h⟩ | ⟨_,h⟩
  ·rw[h];exact⟨none,_,hcell y q,rfl⟩
  ·obtain⟨v,o,e',d⟩:=I.cell y c (g y c h);exact⟨v,o,hk _ _ e',d⟩
 ·have z:=congrArg cB S.caps;simp only[aa]at z;show (nones xs++tU js Z).length=(xs++ys).length;simp[tU,nones,z]
theorem CScope.gn(S:CScope sc scope x N ys js):zco sc scope [x] [] N ys js:=⟨S.kind,λy h e=>absurd e (S.cell y h),S.loc,S.free,S.caps,S.fr,S.nd,nofun,nofun,λ_ _=>JT S.cell,λ_=>nofun⟩
end
def PTs(X:Cx)(ifs:List dN)(t:TT):Prop :=
 ∀(pins:List (au×kZ)) (s:aP) (Z:St) (H:Hp) (Q:Bool->Hp->Prop),Inv X pins Z H s->t Z H Q ->
  bH (bG X.prog X.w) X.A (forIn ifs true λc r=>if r=true then do let ok <-Ih c X.env (dZ c X.env);pure (iQ ok) else pure (iQ r)) (TP X pins Z Q) X.xe s
def Zr:TT:=λ_ H Q=>Q true H
theorem xq:PTs X [] Zr:=λpins s Z H Q I h=>wpAny_tests_nil ⟨H,I,h⟩
theorem uA(h:PT X c t):PTs X [c] t:=λa s Z H Q I b=>wpAny_tests_one (h a s Z H Q I b)
def CompLoop(J:It)(js:List Nat)(tt:TT)(te:TE)(Z:St)(Q:VK)(H:Hp):Prop:=∃W:Nat->Nat->List V->Hp->Prop,(∃m,W 0 m [] H)/\∀i m ys H,W i m ys H ->
 (J.stop i H/\∀D,H D=none->Q (.ref D) (upd H D (.lst ys))) \/
 (J.go i H/\ys.length<aA/\∃N:List V->Hp->Prop,(∀ys' H',N ys' H'->∃m',m'<m/\W (i+1) m' ys' H')/\∀x H',J.yld i H x H'->tt (some x::tU js Z) H' λb H2=>if b=true then te (some x::tU js Z) H2 λv H3=>N (ys++[v]) H3 else N ys H2)
def zgi(wi:TI)(js:List Nat)(tt:TT)(te:TE):TE:=λZ H Q=>wi Z H λJ H1=>CompLoop J js tt te Z Q H1
theorem HOk.track(x:HOk P w H h)(hn:H a=none)(new:ObjOk P w (upd H a o) h a o):HOk P w (upd H a o) h:=λb u e=>by
 by_cases d:b=a
 ·subst d;rw[zj]at e;cases e;exact new
 ·rw[zy d]at e;exact (x b u e).stay (λ_ _ _ q=>q) (λc q=>by rw[zy (zz q hn)];exact q) λc xs q=>by rw[zy (zz q hn)];exact q
section
variable {prog:bx} {w:bU} {A:dB} {R:Io->aP->Prop} {s:aP}
theorem ze5(hN:N=notedBy (bG prog w) A env λe s'=>R (.error e) s')(I:Nat->aP->Prop)(turn:∀n s,I n s->bH (bG prog w) A (Ik it) (λr s₁=>match r with
   |none=>R (.ok .next) s₁
   |some v=>bH (bG prog w) A (Bx target it v) (λ_ s₅=>bH (bG prog w) A (Ij target env v) (λ_ s₂=>
     bH (bG prog w) A (forIn ifs true λc r=>if r=true then do let ok <-Ih c env (dZ c env);pure (iQ ok) else pure (iQ r)) (λok s₃=>if ok=true then bH (bG prog w) A (dZ elt env) (λx s₄=>bH (bG prog w) A (call (.builtin "list.append") [acc,x]) (λ_ s₅=>∃m,m<n/\I m s₅) N s₄) N s₃ else ∃m,m<n/\I m s₃) N s₂) N s₅) N s₁) N s)(n:Nat)(h:I n s):jL (bG prog w) A (.compLoop (.ListComp elt [⟨target,iter,ifs,0⟩] scope pos) 0 it acc env) R s:=by
 subst hN;refine codeAny_loop rfl I (λn s b=>?_) n h;refine wpAny_noted (ak (rG (ak (dC (turn n s b) (λr s₁ h₁=>?_) λ_ _ a=>a))));cases r with
 |none=>exact aG h₁
 |some v=>
  refine ak (dC h₁ (λ_ s₅ h₅=>ak (dC h₅ (λ_ s₂ h₂=>ak (dC h₂ (λok s₃ h₃=>?_) λ_ _ a=>a)) λ_ _ a=>a)) λ_ _ a=>a);cases ok with
  |false=>exact aG ⟨rfl,h₃⟩
  |true=>exact ak (ak (dC h₃ (λx s₄ h₄=>ak (dC h₄ (λ_ s₆ h₆=>aG (aG ⟨rfl,h₆⟩)) λ_ _ a=>a)) λ_ _ a=>a))
end
def qO(J:It)(xs:List bZ)(js:List Nat)(g:TG)(tt:TT)(te:TE)(Z:St)(Q:VK)(H:Hp):Prop:=∃W:Nat->Nat->List V->Hp->Prop,(∃m,W 0 m [] H)/\∀i m ys H,W i m ys H ->
 (J.stop i H/\∀D,H D=none->Q (.ref D) (upd H D (.lst ys))) \/
 (J.go i H/\ys.length<aA/\∃N:List V->Hp->Prop,(∀ys' H',N ys' H'->∃m',m'<m/\W (i+1) m' ys' H')/\∀x H',J.yld i H x H'->g x (nones xs++tU js Z) H' fun σ' H1=>(∃vs:St,vs.length=xs.length/\σ'=vs++tU js Z)/\tt σ' H1 λb H2=>if b=true then te σ' H2 λv H3=>N (ys++[v]) H3 else N ys H2)
def zgZ(wi:TI)(xs:List bZ)(js:List Nat)(g:TG)(tt:TT)(te:TE):TE:=λZ H Q=>wi Z H λJ H1=>qO J xs js g tt te Z Q H1
section
variable {X:Cx} {elt iter:dN} {ifs:List dN} {tg:dN} {xs ow:List bZ} {pos:nj} {g:TG} {scope:iZ} {ys:List bZ} {js:List Nat} {wi:TI} {tt:TT} {te:TE}
theorem Ql{Z:St}{R:aD->au->Io->aP->Prop}(S:zco X.env.scope scope xs ow X.N ys js)(hc:X.calm=true)(hg:∀C s₀ H₀ ex,PG (cxG X ow (xs++ys) scope C s₀ H₀ ex) tg g)(ht:∀C s₀ H₀ ex,PTs (cxG X ow (xs++ys) scope C s₀ H₀ ex) ifs tt)(he:∀C s₀ H₀ ex,PE (cxG X ow (xs++ys) scope C s₀ H₀ ex) elt te)(I:Inv X pins Z H s)(T:Turn X.prog X.w X.K tg J fp it tn)(st:tn 0 s.heap)(hf:∀b∈fp,U5 X pins H b)(hw:qO J xs js g tt te Z Q H)(hR:∀D C s' H' m',Inv X pins Z H' s'->Q (.ref D) H'->s.heap.objs.size<=C->H' C=none->s'.heap.Ns C m'->R (.ref D) C (.ok .next) s'):
  bH (bG X.prog X.w) X.A (newList []) (λacc s₃=>bH (bG X.prog X.w) X.A (GK scope X.env.globals (jC X.env.cells scope.names []) [] X.env.qual none .none (some X.env)) (λcenv s₄=>
   jL (bG X.prog X.w) X.A (.compStart (.ListComp elt [⟨tg,iter,ifs,0⟩] scope pos) 0 (.ref it) acc { cenv with scope:=relabel scope X.env }) (R acc cenv.locals) s₄) E s₃) E s:=by
 obtain⟨W,⟨m0,w0⟩,av⟩:=hw;refine fB (zgW S λh₁ M₁ aw₁ aj₁=>?_);generalize ak:s.heap.push { cls:=.type "list",dict:=none,data:=.seq ([]).toArray }=G at M₁ aw₁ aj₁ ⊢;generalize hD:s.heap.objs.size=D at *;generalize bx:G.objs.size=C at *;have hC:C=D+1:=by rw[<-bx,<-ak,mR,hD]
 have x:D<C:=by rw[hC];exact nQ D
 have am:=bj x;have an:∀b o,s.heap.get? b=some o->h₁.get? b=some o:=λb o e=>aj₁ b o (ak▸az _ e);have ax:h₁.get? D=some { cls:=.type "list",data:=.seq ([]).toArray 0 }:=by
  refine aj₁ D _ ?_;rw[<-ak,<-hD];exact bz _ rfl
 have af:=T.obj 0 _ st;have B:∀b∈fp,b<D:=λb f=>by obtain⟨o,e,_⟩:=af b f;exact hD▸aM e
 generalize l:cxG X ow (xs++ys) scope C s H fp=j;have I1:Inv j [] (nones xs++tU js Z) H { s with heap:=h₁,toks:=s.toks }:=by
  subst l;exact ze1 I S hf (λb f=>by obtain⟨o,e,_⟩:=af b f;exact⟨o,e⟩) (by omega) an M₁ aw₁
 have eP:j.prog=X.prog:=by subst l;rfl
 have eW:j.w=X.w:=by subst l;rfl
 have eK:j.K=X.K:=by subst l;rfl
 have eA:j.A=X.A:=by subst l;rfl
 have eC:j.calm=true:=by subst l;exact hc
 have eL:j.env.locals=C:=by subst l;rfl
 have eS:j.s₀=s:=by subst l;rfl
 have eN:j.N=xs++ys:=by subst l;rfl
 have eE:j.env=KR scope (ow.map (·,C+1)++jC X.env.cells scope.names []) C X.env:=by subst l;rfl
 have cb:j.xe=λ_ _=>False:=by subst l;rfl
 have eX:j.ex=fp:=by subst l;rfl
 have ba:j.pn=[]:=by subst l;rfl
 have bb:∀b,b∈j.fs->b∈frs X.stack:=λb z=>by subst l;exact z
 have ag:∀y c,j.env.cells.lookup y=some c->C<c\/X.env.cells.lookup y=some c:=λy c e=>by
  rw[eE]at e;have e:(ow.map (·,C+1)++jC X.env.cells scope.names []).lookup y=some c:=e;rw[Xi]at e;split at e
  ·exact .inl (Nat.lt_of_succ_le (iD (bN e)))
  ·exact .inr (W0 (λ_ _ z=>by simp at z) e)
 have ab:∀y c,j.env.cells.lookup y=some c->c≠D:=λy c e=>by
  rcases ag y c e with z | z
  ·exact eU (fL x z)
  ·obtain⟨v,o,e2,_⟩:=I.cell y c z;exact bj (hD▸aM e2)
 have bc:∀b,b∈j.fs->b<D:=λb z=>by
  rcases aW.mp (I.stkSub b (bb b z)) with e | e
  ·rw[e];exact hD▸I.lt
  ·exact Nat.lt_of_not_le λh=>I.nofs (hD▸h) e
 have O:∀p H',(∀b∈fp,H' b=none)->(∀q∈p,q.1=D)->∀b∈fp,U5 j p H' b:=λp H' hn hp b f=>by
  refine⟨hn b f,?_,λz=>?_,.inl (eX▸f),λy c e=>?_,λq hq=>?_⟩
  ·rw[eL];exact bj (fL (B b f) x)
  ·rcases aW.mp (I.stkSub b (bb b z)) with e | e
   ·exact (hf b f).2.1 e
   ·exact (hf b f).2.2.1 e
  ·rcases ag y c e with z | z
   ·exact eU (fL (fL (B b f) x) z)
   ·exact (hf b f).2.2.2.2.1 y c z
  ·rw[ba,oR]at hq;rw[hp q hq];exact eU (B b f)
 have ac:∀(d:List aD) k v,({ cls:=.type "list",data:=.seq d.toArray k }:kZ).data≠.cell v:=λd k v z=>by cases z
 have bd:∀{F:List V} {d:List aD} {k:Nat} {H':Hp} {s':aP},Inv j [] (nones xs++tU js Z) H' s'->s'.heap.get? D=some { cls:=.type "list",data:=.seq d.toArray k }->Vals F d->H' D=none->F.length<=aA ->
   (∀D,H' D=none->Q (.ref D) (upd H' D (.lst F)))->R (.ref D) C (.ok .next) s':=λ{F d k H' s'} I' hd hv hn hz q=>by
  have un:=I'.base;obtain⟨m',M,_⟩:=I'.loc;rw[eL]at M;have cc:H' C=none:=by have:=I'.free;rw[eL]at this;exact this
  have hH0:j.H₀=H:=by subst l;rfl
  have cd:Un (frs X.stack) fp H (upd H' D (.lst F)) s.heap s'.heap:=by
   have ne:∀b o,s.heap.get? b=some o->b≠D:=λb o e=>bj (hD▸aM e);have m:Un (frs X.stack) fp H H' s.heap s'.heap:=by subst l;exact un
   exact⟨m.keep,m.slot,λb o e n hx=>by rw[zy (ne b o e)];exact m.free b o e n hx,m.there,λb xs e=>by rw[zy (zz (m.tups b xs e) hn)];exact m.tups b xs e,
    λb o u e=>by rw[zy (zz (m.frzs b o u e) hn)];exact m.frzs b o u e,λb ps e=>by
     obtain⟨be,z⟩:=m.tbls b ps e;exact⟨be,by rw[zy (zz z hn)];exact z⟩⟩
  have ce:HOk X.prog X.w (upd H' D (.lst F)) s'.heap:=by
   have h0:=I'.hok;rw[eP,eW]at h0;exact h0.track hn ⟨hz,d,k,hv,hd⟩
  have I2:=I.call' (by have:=I'.os;rw[eS]at this;exact this) cd ce I'.bare λb f=>⟨(hf b f).2.2.2.1,(hf b f).2.1,(hf b f).2.2.2.2.1,(hf b f).2.2.2.2.2⟩
  exact hR D C s' _ m' I2 (q D hn) (by omega) (by rw[zy (cF am)];exact cc) M
 have P:jL (bG X.prog X.w) X.A (.compLoop (.ListComp elt [⟨tg,iter,ifs,0⟩] scope pos) 0 (.ref it) (.ref D) j.env) (R (.ref D) C) { s with heap:=h₁,toks:=s.toks }:=by
  refine ze5 rfl (λn s'=>∃i F d k H',Inv j [] (nones xs++tU js Z) H' s'/\tn i s'.heap/\(∀b∈fp,H' b=none)/\s'.heap.get? D=some { cls:=.type "list",data:=.seq d.toArray k }/\Vals F d/\H' D=none/\F.length<=aA/\W i n F H')
   ?_ m0 ⟨0,[],[],0,H,I1,T.keep _ _ _ st (λb f o e=>an b o e),λb f=>(hf b f).1,ax,.nil,I.hok.fresh (by omega),bw _,w0⟩
  rintro n s3 ⟨i,F,d,k,H3,I3,bf,bg,d3,v3,n3,z3,w3⟩;have ah:Inv j [(D,{ cls:=.type "list",data:=.seq d.toArray k })] (nones xs++tU js Z) H3 s3:=I3.pins_of λp hp=>by
   have e:p=(D,{ cls:=.type "list",data:=.seq d.toArray k }):=by simpa using hp
   subst e;exact⟨d3,n3,by rw[eL];exact am,λz=>eQ _ (bc D z),ac d k⟩
  have ap:∀q∈[(D,({ cls:=.type "list",data:=.seq d.toArray k }:kZ))],q.1=D:=λq hq=>by
   have e:q=(D,{ cls:=.type "list",data:=.seq d.toArray k }):=by simpa using hq
   rw[e]
  rcases av i n F H3 w3 with ⟨bi,qn⟩ | ⟨go,hzl,NN,bk,bl⟩
  ·refine thn (eA▸T.done j eP eW eK eC i _ s3 _ H3 _ ah (O _ _ bg ap) bf bi) λr s4 ⟨hr,I4⟩=>?_;subst hr;exact bd (I4.pins_of λp hp=>absurd hp (by simp)) (I4.pin (D,{ cls:=.type "list",data:=.seq d.toArray k }) (bh _ (by simp))).1 v3 n3 z3 qn
  ·refine thn (eA▸T.item j eP eW eK eC i _ s3 _ H3 _ ah (O _ _ bg ap) bf go) λr s4 ⟨u,hr,h4⟩=>?_;subst hr;refine thn h4 λ_ s4 ⟨v,H5,I5,r5,y5,ad,ch⟩=>?_;have ci:=I5.pinned (O _ _ ch ap) (T.obj _ _ ad);have ev:∀{α:Type} {t:Np α} {Q':α->aP->Prop} {E':aD->aP->Prop} {s':aP},bH (bG j.prog j.w) j.A t Q' j.xe s'->bH (bG X.prog X.w) X.A t Q' E' s':=λ{α t Q' E' s'} hh=>by
    rw[eP,eW,eA,cb]at hh;exact dC hh (λ_ _ q=>q) λ_ _ z=>z.elim
   have cl:=l▸hg C s H fp;refine ev (thn (cl _ s4 _ H5 v u _ ci r5 (bl v H5 y5)) λ_ s6 ⟨σ6,H6,I6,⟨cm,bm,e6⟩,q6⟩=>?_);subst e6;have ai:∀{σ':St} {L:Hp} {Y:aP},Inv j ([(D,{ cls:=.type "list",data:=.seq d.toArray k })]++Ut fp s4.heap) (cm++tU js Z) L Y->Inv j [] (nones xs++tU js Z) L Y:=λ{_ L Y} I7=>by
    refine (I7.pins_of λp hp=>absurd hp (by simp)).weak (by rw[aF,aF,bm,Wi]) λi v' e=>?_;obtain⟨k',rfl,e'⟩:=zaX e;rw[cQ (by omega),bm,mJ];exact e'
   have bn:∀{σ':St} {L:Hp} {Y:aP},Inv j ([(D,{ cls:=.type "list",data:=.seq d.toArray k })]++Ut fp s4.heap) σ' L Y->(∀b∈fp,L b=none)/\(∀b∈fp,∀o,s4.heap.get? b=some o->Y.heap.get? b=some o)/\Y.heap.get? D=some { cls:=.type "list",data:=.seq d.toArray k }/\L D=none:=λ{σ' L Y} I7=>by
    have g:∀b∈fp,∀o,s4.heap.get? b=some o->Y.heap.get? b=some o/\L b=none:=λb f o e=>by
     have z:=I7.pin (b,o) (bh _ (bh _ (Vm f e)));exact⟨z.1,z.2.1⟩
    refine⟨λb f=>?_,λb f o e=>(g b f o e).1,(I7.pin (D,{ cls:=.type "list",data:=.seq d.toArray k }) (bh _ (by simp))).1,(I7.pin (D,{ cls:=.type "list",data:=.seq d.toArray k }) (bh _ (by simp))).2.1⟩;obtain⟨o,e,_⟩:=T.obj _ _ ad b f;exact (g b f o e).2
   have cn:=l▸ht C s H fp;have co:=l▸he C s H fp;refine ev (thn (cn _ s6 _ H6 _ I6 q6) λb Y ⟨L,I7,q7⟩=>?_);cases b with
   |false=>
    obtain⟨m',hm,w7⟩:=bk _ _ q7;obtain⟨g1,g2,g3,g4⟩:=bn I7;exact⟨m',hm,i+1,F,d,k,L,ai (σ':=[]) I7,T.keep _ _ _ ad g2,g1,g3,v3,g4,z3,w7⟩
   |true=>
    refine ev (thn (co _ Y _ L _ I7 q7) λu8 s8 ⟨v8,H8,I8,r8,q8⟩=>?_);obtain⟨m',hm,w8⟩:=bk _ _ q8;obtain⟨g1,g2,g3,g4⟩:=bn I8;have hil:=v3.length;refine lq DP ⟨_,g3,rfl⟩ Dm (Cz _ _) (PySem.list_append D d.toArray k u8 (by rw[aJ];omega)) ⟨g3,?_⟩;have q:=PySem.IsL.update g3 (λa=>a.push u8);have ea:d.toArray.push u8=(d++[u8]).toArray:=by simp
    rw[ea]at q;have kk:∀b o,b≠D->s8.heap.get? b=some o->(s8.heap.update D (dh λa=>a.push u8)).get? b=some o:=λb o f e=>(dF _ _ (cF f)).trans e;have I9:Inv j [] (nones xs++tU js Z) H8 { s8 with heap:=s8.heap.update D (dh λa=>a.push u8),toks:=s8.toks }:=by
     refine (ai (σ':=[]) I8).turned kk g4 (by rw[eL];exact am) (.inr (by rw[eS];omega)) ab λp hp=>?_;rw[ba]at hp;exact absurd hp (by simp)
    refine⟨m',hm,i+1,F++[v8],d++[u8],_,H8,I9,T.keep _ _ _ ad (λb f o e=>kk b o (bj (B b f)) (g2 b f o e)),g1,q,v3.append (.cons r8 .nil),g4,?_,w8⟩;rw[aF,aX];omega
 rw[eE]at P;exact codeAny_compStart_list P (T.self _ 0 _ _ _ (T.keep _ _ _ st (λb f o e=>an b o e)) P)
theorem zcr{L:It->St->VK->Hp->Prop}(hL:∀J Z Q H,L J Z Q H->qO J xs js g tt te Z Q H)(S:zco X.env.scope scope xs ow X.N ys js)(hc:X.calm=true)(hi:PI X tg iter wi)(hg:∀C s₀ H₀ ex,PG (cxG X ow (xs++ys) scope C s₀ H₀ ex) tg g)(ht:∀C s₀ H₀ ex,PTs (cxG X ow (xs++ys) scope C s₀ H₀ ex) ifs tt)(he:∀C s₀ H₀ ex,PE (cxG X ow (xs++ys) scope C s₀ H₀ ex) elt te)(hs:∀x,fj iter X.env x=pure x:=by intro _;rfl):PE X (.ListComp elt [⟨tg,iter,ifs,0⟩] scope pos) (λZ H Q=>wi Z H λJ H1=>L J Z Q H1):=by
 intro a s Z H Q I h;refine rM rfl hs (WL λy k e=>I.ok.has _ (S.free y k e)) S.kind S.loc (thn (hi a s Z H _ I h) λv s1 l=>thn l λitv s2 m=>?_);obtain⟨it,fp,tn,J,H2,e,i,T,c,n,p⟩:=m;subst e;refine Ql S hc hg ht he i T c n (hL _ _ _ _ p) ?_;intro D C s' r t u q w j d;refine⟨t,d,λh' f=>⟨.ref D,r,?_,rfl,q⟩⟩;have e:=i.fpOk w j;exact u.turned (λb o z e=>(f.2 b z).trans e) j e.2.1 e.2.2.2.1 e.2.2.2.2.1 e.2.2.2.2.2
theorem Xn{L:It->St->VK->Hp->Prop}(hL:∀J Z Q H,L J Z Q H->qO J xs js g tt te Z Q H){py spos:nj}(S:zco X.env.scope scope xs ow X.N ys js)(hc:X.calm=true)(hN:X.N.Nodup)(hy:X.N[i]?=some y)(hl:Loc X.env.scope y)(hi:PI X tg iter wi)(hg:∀C s₀ H₀ ex,PG (cxG X ow (xs++ys) scope C s₀ H₀ ex) tg g)(ht:∀C s₀ H₀ ex,PTs (cxG X ow (xs++ys) scope C s₀ H₀ ex) ifs tt)(he:∀C s₀ H₀ ex,PE (cxG X ow (xs++ys) scope C s₀ H₀ ex) elt te)(hf:X.fn y=true\/X.env.scope.names.lookup y=some .local:=by first | exact .inl rfl | exact .inr rfl | assumption)(hsw:mC (.ListComp elt [⟨tg,iter,ifs,0⟩] scope pos) (some (.Name y py)) spos.line X.env=pure true:=by rfl)(hs:∀x,fj iter X.env x=pure x:=by intro _;rfl):PS X (.Assign [.Name y py] (.ListComp elt [⟨tg,iter,ifs,0⟩] scope pos) spos) (zat (λZ H Q=>wi Z H λJ H1=>L J Z Q H1) (Xd i)):=by
 intro c s Z H D I h;rw[exec_Assign_Name_used _ _ _ _ hsw];refine ak (rG (ak ?_));refine ak (dC (rM rfl hs (WL λy hy e=>I.ok.has _ (S.free y hy e)) S.kind S.loc
  (thn (hi c s Z H _ I h) λv s1 p=>thn p λitv s2 r=>?_)) (λ_ t u=>aG (aG u)) λ_ _ e=>e)
 obtain⟨it,fp,tn,J,H2,e,l,T,d,A,B⟩:=r;subst e;refine Ql S hc hg ht he l T d A (hL _ _ _ _ B) ?_;intro m C t E F G q K n f;have e:=l.fpOk K n;refine Ek (za6 G hN hy hl (show RelV (.ref m) (.ref m) from rfl) (λs2' M ⟨a,O,P⟩=>?_) hf);have j:C≠a:=by
  rcases P with z | z
  ·rw[z];exact e.2.1
  ·intro w;exact e.2.2.2.2.1 _ _ z w.symm
 refine⟨F,f.sameBut O j,λh' k=>⟨_,E,?_,q⟩⟩;exact M.turned (λb o R e=>(k.2 b R).trans e) n e.2.1 e.2.2.2.1 e.2.2.2.2.1 e.2.2.2.2.2
theorem CompLoop.t(h:CompLoop J js tt te Z Q H):qO J [x] js (Xd 0) tt te Z Q H:=by
 obtain⟨W,e,h⟩:=h;exact⟨W,e,λi m f H w=>(h i m f H w).imp id λ⟨a,b,N,c,d⟩=>⟨a,b,N,c,λx g y=>⟨⟨[some x],rfl,rfl⟩,d x g y⟩⟩⟩
variable {x:bZ} {px:nj}
theorem yD(S:CScope X.env.scope scope x X.N ys js)(hc:X.calm=true)(hi:PI X (.Name x px) iter wi)(ht:∀C s₀ H₀ ex,PTs (cxC X (x::ys) scope C s₀ H₀ ex) ifs tt)(he:∀C s₀ H₀ ex,PE (cxC X (x::ys) scope C s₀ H₀ ex) elt te)(hs:∀x,fj iter X.env x=pure x:=by intro _;rfl):PE X (.ListComp elt [⟨.Name x px,iter,ifs,0⟩] scope pos) (zgi wi js tt te):=
 zcr (λ_ _ _ _ h=>h.t) S.gn hc hi (λ_ _ _ _=>zX S.nd rfl (.inl (cL S.var)) (.inr (cL S.var))) ht he hs
theorem j0{py spos:nj}(S:CScope X.env.scope scope x X.N ys js)(hc:X.calm=true)(hN:X.N.Nodup)(hy:X.N[i]?=some y)(hl:Loc X.env.scope y)(hi:PI X (.Name x px) iter wi)(ht:∀C s₀ H₀ ex,PTs (cxC X (x::ys) scope C s₀ H₀ ex) ifs tt)(he:∀C s₀ H₀ ex,PE (cxC X (x::ys) scope C s₀ H₀ ex) elt te)(hf:X.fn y=true\/X.env.scope.names.lookup y=some .local:=by first | exact .inl rfl | exact .inr rfl | assumption)(hsw:mC (.ListComp elt [⟨.Name x px,iter,ifs,0⟩] scope pos) (some (.Name y py)) spos.line X.env=pure true:=by rfl)(hs:∀x,fj iter X.env x=pure x:=by intro _;rfl):PS X (.Assign [.Name y py] (.ListComp elt [⟨.Name x px,iter,ifs,0⟩] scope pos) spos) (zat (zgi wi js tt te) (Xd i)):=
 Xn (λ_ _ _ _ h=>h.t) S.gn hc hN hy hl hi (λ_ _ _ _=>zX S.nd rfl (.inl (cL S.var)) (.inr (cL S.var))) ht he hf hsw hs
end
theorem yK{K:aK}(Pv:Nat->List V->Hp->Prop)(h0:Pv 0 [] H)(hl:∀i ys H,i<=xs.length->Pv i ys H->SqL K H a xs)(hs:∀i x ys H,xs[i]?=some x->Pv i ys H->ys.length<aA/\tt (some x::tU js Z) H λb H2=>if b=true then te (some x::tU js Z) H2 λv H3=>Pv (i+1) (ys++[v]) H3 else Pv (i+1) ys H2)(hd:∀ys H,Pv xs.length ys H->∀D,H D=none->Q (.ref D) (upd H D (.lst ys))):
  CompLoop (Itl K a) js tt te Z Q H:=by
 refine⟨λi m ys H=>m=xs.length-i/\i<=xs.length/\Pv i ys H,⟨xs.length,by simp,bw _,h0⟩,?_⟩;rintro i m ys H ⟨rfl,h,p⟩;have q:=hl i ys H h p;by_cases c:i<xs.length
 ·have d:=aj c;obtain⟨j,f⟩:=hs i xs[i] ys H d p;refine .inr ⟨⟨xs,xs[i],q,d⟩,j,Pv (i+1),λys' k l=>⟨xs.length-(i+1),by omega,rfl,c,l⟩,λx k y=>?_⟩;obtain⟨e,y⟩:=y;subst e;have g:=y xs q;rw[d]at g;cases g
  exact f
 ·have e:i=xs.length:=by omega
  subst e;exact .inl ⟨⟨xs,q,aq _⟩,hd ys H p⟩
theorem tQ{lo:Int}(Pv:Nat->List V->Hp->Prop)(h0:Pv 0 [] H)(hs:∀i ys H,i<n->Pv i ys H->ys.length<aA/\tt (some (.int (lo+i))::tU js Z) H λb H2=>if b=true then te (some (.int (lo+i))::tU js Z) H2 λv H3=>Pv (i+1) (ys++[v]) H3 else Pv (i+1) ys H2)(hd:∀ys H,Pv n ys H->∀D,H D=none->Q (.ref D) (upd H D (.lst ys))):
  CompLoop (Itr lo n) js tt te Z Q H:=by
 refine⟨λi m ys H=>m=n-i/\i<=n/\Pv i ys H,⟨n,by simp,bw _,h0⟩,?_⟩;rintro i m ys H ⟨rfl,hi,p⟩;by_cases a:i<n
 ·obtain⟨d,c⟩:=hs i ys H a p;refine .inr ⟨a,d,Pv (i+1),λys' f g=>⟨n-(i+1),by omega,rfl,a,g⟩,λx f y=>?_⟩;obtain⟨e,y⟩:=y;subst e y;exact c
 ·have e:i=n:=by omega
  subst e;exact .inl ⟨aq _,hd ys H p⟩
open PySem PySem.Spec PyProof.Rows PySem.SeqAt
inductive Tr where
 |non | bl (b:Bool) | int (i:Int) | str (x:bZ) | lst (ts:List Tr) | tup (ts:List Tr)
mutual
def TrAt(K:aK)(H:Hp):Tr->V->Prop
 |.non,v=>v=.non
 |.bl b,v=>v=.bl b
 |.int i,v=>v=.int i
 |.str x,v=>v=.str x
 |.lst ts,v=>∃a xs,v=.ref a/\SqL K H a xs/\TrsAt K H ts xs
 |.tup ts,v=>∃a xs,v=.ref a/\SqT K H a xs/\TrsAt K H ts xs
def TrsAt(K:aK)(H:Hp):List Tr->List V->Prop
 |[],xs=>xs=[]
 |t::ts,xs=>∃y ys,xs=y::ys/\TrAt K H t y/\TrsAt K H ts ys
end
mutual
def teq:Tr->Tr->Bool
 |.non,.non=>true
 |.bl a,.bl b=>a == b
 |.bl a,.int b=>(if a then 1 else 0) == b
 |.int a,.bl b=>a == (if b then 1 else 0)
 |.int a,.int b=>a == b
 |.str a,.str b=>a == b
 |.lst a,.lst b=>jM a b
 |.tup a,.tup b=>jM a b
 |_,_=>false
def jM:List Tr->List Tr->Bool
 |[],[]=>true
 |t::ts,u::us=>teq t u && jM ts us
 |_,_=>false
end
mutual
def vP:Tr->Nat
 |.lst ts=>wA ts+1
 |.tup ts=>wA ts+1
 |_=>0
def wA:List Tr->Nat
 |[]=>0
 |t::ts=>max (vP t) (wA ts)
end
theorem Xl{t:Tr}:∀{ts:List Tr},t∈ts->vP t<=wA ts
 |u::ts,h=>by
  rw[wA];rcases aW.mp h with e | h
  ·rw[e];exact oU _ _
  ·exact aB (Xl h) (su _ _)
section
variable {K:aK} {H:Hp}
theorem TrsAt.length:∀{ts:List Tr} {xs:List V},TrsAt K H ts xs->ts.length=xs.length
 |[],xs,h=>by rw[TrsAt]at h;subst h;rfl
 |t::ts,xs,h=>by
  rw[TrsAt]at h;obtain⟨y,ys,rfl,_,h⟩:=h;rw[bF,bF,TrsAt.length h]
theorem TrsAt.get:∀{ts:List Tr} {xs:List V} {j:Nat} {t:Tr},TrsAt K H ts xs->ts[j]?=some t->∃x,xs[j]?=some x/\TrAt K H t x
 |[],xs,j,t,h,e=>by simp at e
 |u::ts,xs,0,t,h,e=>by
  rw[TrsAt]at h;obtain⟨y,ys,rfl,hy,h⟩:=h;simp at e;subst e;exact⟨y,rfl,hy⟩
 |u::ts,xs,j+1,t,h,e=>by
  obtain⟨y,ys,rfl,hy,h⟩:=h;obtain⟨x,a,b⟩:=TrsAt.get h (by simpa using e);exact⟨x,by simpa using a,b⟩
theorem TrsAt.mk:∀{ts:List Tr} {xs:List V},ts.length=xs.length->(∀(j:Nat) (t:Tr) (x:V),ts[j]?=some t->xs[j]?=some x->TrAt K H t x)->TrsAt K H ts xs
 |[],[],_,_=>by rw[TrsAt]
 |[],_::_,h,_=>by simp at h
 |_::_,[],h,_=>by simp at h
 |t::ts,x::xs,h,f=>by
  rw[TrsAt];exact⟨x,xs,rfl,f 0 t x rfl rfl,TrsAt.mk (by simpa using h) λj t x e1 e2=>f (j+1) t x (by simpa using e1) (by simpa using e2)⟩
theorem TrsAt.ints:∀{ns:List Int},TrsAt K H (ns.map Tr.int) (ns.map V.int)
 |[]=>by rw[fG,TrsAt];rfl
 |n::ns=>by rw[bC,TrsAt];exact⟨_,_,rfl,by rw[TrAt],TrsAt.ints⟩
def xr(ns:List Int):Tr:=.lst (ns.map Tr.int)
theorem TrAt.ints(h:SqL K H a (ns.map V.int)):TrAt K H (xr ns) (.ref a):=by
 unfold xr;rw[TrAt];exact⟨a,_,rfl,h,TrsAt.ints⟩
end
mutual
theorem um:∀t:Tr,teq t t=true
 |.non=>by rw[teq]
 |.bl b=>by rw[teq];simp
 |.int i=>by rw[teq];simp
 |.str x=>by rw[teq];simp
 |.lst ts=>by rw[teq];exact Ys ts
 |.tup ts=>by rw[teq];exact Ys ts
theorem Ys:∀ts:List Tr,jM ts ts=true
 |[]=>by rw[jM]
 |t::ts=>by rw[jM,um t,Ys ts];rfl
end
theorem JK{α:Type}[DecidableEq α]{f:α->Tr}(h:∀a b,teq (f a) (f b)=decide (a=b)):∀(xs ys:List α),jM (xs.map f) (ys.map f)=decide (xs=ys)
 |[],[]=>by simp[jM]
 |[],_::_=>by simp[jM]
 |_::_,[]=>by simp[jM]
 |x::xs,y::ys=>by
  rw[bC,bC,jM,h,JK h xs ys,cH];simp
theorem zew(a b:Int):teq (.int a) (.int b)=decide (a=b):=by rw[teq,cH];simp
theorem jw(a b:List Int):teq (xr a) (xr b)=decide (a=b):=by unfold xr;rw[teq];exact JK zew a b
theorem Vi:∀ns:List Int,wA (ns.map Tr.int)=0
 |[]=>by simp[wA]
 |n::ns=>by rw[bC,wA,Vi ns,vP]<;>simp
theorem qT(ns:List Int):vP (xr ns)=1:=by unfold xr;rw[vP,Vi]
theorem ZR:∀{ts us:List Tr},ts.length≠us.length->jM ts us=false
 |[],[],h=>absurd rfl h
 |[],_::_,_=>by simp[jM]
 |_::_,[],_=>by simp[jM]
 |t::ts,u::us,h=>by rw[jM,ZR (by simpa using h),mU]
def eAt(ts us:List Tr)(j:Nat):Bool:=match ts[j]?,us[j]? with
 |some t,some u=>teq t u
 |_,_=>true
theorem zbi:∀{ts us:List Tr},ts.length=us.length->(bJ ts.length).all (eAt ts us)=jM ts us
 |[],[],_=>by simp[jM]
 |[],_::_,h=>by simp at h
 |_::_,[],h=>by simp at h
 |t::ts,u::us,h=>by
  rw[bF,iH,ou,Eu,jM,<-zbi (ts:=ts) (us:=us) (by simpa using h)];rfl
section
variable {X:Cx} {pins:List (au×kZ)} {Z:St} {H:Hp} {s:aP}
theorem Jj(I:Inv X pins Z H s):∀(n:Nat) {t u:Tr} {v:V},vP t<=n->TrAt X.K H t v->TrAt X.K H u v->t=u:=by
 intro n
 induction n with
 |zero=>
  intro t u v i k c;cases t with
  |lst f=>rw[vP]at i;omega
  |tup f=>rw[vP]at i;omega
  |_=>(rw[TrAt]at k;subst k;cases u<;>(rw[TrAt]at c)<;>first | rfl | (obtain⟨_,_,z,_⟩:=c;cases z) | (cases c;rfl) | cases c)
 |succ n D=>
  intro t u v i k c;have d:∀{f h:List Tr} {p:List V},wA f<=n->TrsAt X.K H f p->TrsAt X.K H h p->f=h:=by
   intro f h p i o g;apply km;intro j;have l1:=o.length;have l2:=g.length;by_cases E:j<f.length
   ·obtain⟨t,e⟩:∃t,f[j]?=some t:=⟨_,aj E⟩
    obtain⟨u,B⟩:∃u,h[j]?=some u:=⟨_,aj (by omega)⟩
    obtain⟨x,F,G⟩:=o.get e;obtain⟨y,C,J⟩:=g.get B;rw[F]at C;cases C
    rw[e,B,D (aB (Xl (aL e)) i) G J]
   ·rw[cj (by omega),cj (by omega)]
  cases t with
  |lst f=>
   obtain⟨a,p,rfl,q,o⟩:=k;cases u with
   |lst h=>
    obtain⟨b,r,e,m,g⟩:=c;cases e
    rw[I.list_inj m q]at g;rw[d (by rw[vP]at i;omega) o g]
   |tup h=>
    obtain⟨b,r,e,m,g⟩:=c;cases e
    obtain⟨_,_,w,_⟩:=I.list q;obtain⟨_,_,A,_⟩:=I.tuple m;exact absurd rfl (ne_of_list_tuple w.isList A)
   |_=>rw[TrAt]at c;cases c
  |tup f=>
   obtain⟨a,p,rfl,q,o⟩:=k;cases u with
   |tup h=>
    obtain⟨b,r,e,m,g⟩:=c;cases e
    rw[I.tuple_inj m q]at g;rw[d (by rw[vP]at i;omega) o g]
   |lst h=>
    obtain⟨b,r,e,m,g⟩:=c;cases e
    obtain⟨_,_,w,_⟩:=I.list m;obtain⟨_,_,A,_⟩:=I.tuple q;exact absurd rfl (ne_of_list_tuple w.isList A)
   |_=>rw[TrAt]at c;cases c
  |_=>(rw[TrAt]at k;subst k;cases u<;>(rw[TrAt]at c)<;>first | rfl | (obtain⟨_,_,z,_⟩:=c;cases z) | (cases c;rfl) | cases c)
structure zjV (A:dB) (s:aP) (a b:aD) (r:Bool):Prop where
 rc:RcAt A s a b r
 ne:RcNeAt A s a b (!r)
 eq:EqAt A s a b r
theorem units_in1(A:dB):A.in1.units=A.units+1:=rfl
theorem QM(I:Inv X pins Z H s):∀(n:Nat) {t u:Tr} {v w:V} {a b:aD} {A:dB},vP t<=n->TrAt X.K H t v->TrAt X.K H u w->RelV v a->RelV w b->A.units+n<d7->zjV A s a b (teq t u):=by
 intro n
 induction n with
 |zero=>
  intro t u v w a b A hd ht f ra h hA;have d:A.units<d7:=by omega
  cases t with
  |lst o=>rw[vP]at hd;omega
  |tup o=>rw[vP]at hd;omega
  |non=>
   rw[TrAt]at ht;subst ht;cases ra
   cases u with
   |non=>rw[TrAt]at f;subst f;cases h;rw[teq];exact⟨.none_none,.none_none,.same _⟩
   |bl b=>rw[TrAt]at f;subst f;cases h;simp only[teq];exact⟨.none_bool _,.none_bool _,.none_bool _⟩
   |int b=>rw[TrAt]at f;subst f;obtain⟨_,rfl⟩:=h;simp only[teq];exact⟨.none_int _ _,.none_int _ _,.none_int _ _⟩
   |str b=>rw[TrAt]at f;subst f;obtain⟨_,rfl⟩:=h;simp only[teq];exact⟨.none_str _ _,.none_str _ _,.none_str _ _⟩
   |lst m=>rw[TrAt]at f;obtain⟨p,E,rfl,q,_⟩:=f;cases h;obtain⟨_,_,g,_⟩:=I.list q;simp only[teq];exact⟨.none_list g.isList d,.none_list g.isList d,.none_list g.isList d⟩
   |tup m=>rw[TrAt]at f;obtain⟨p,E,rfl,q,_⟩:=f;cases h;obtain⟨_,_,g,_⟩:=I.tuple q;simp only[teq];exact⟨.none_tuple g d,.none_tuple g d,.none_tuple g d⟩
  |bl c=>
   rw[TrAt]at ht;subst ht;cases ra
   cases u with
   |non=>rw[TrAt]at f;subst f;cases h;simp only[teq];exact⟨.bool_none _,.bool_none _,.bool_none _⟩
   |bl b=>rw[TrAt]at f;subst f;cases h;rw[teq];exact⟨.bool_bool _ _,.bool_bool _ _,.bool_bool _ _⟩
   |int b=>rw[TrAt]at f;subst f;obtain⟨_,rfl⟩:=h;rw[teq];exact⟨.bool_int _ _ _,.bool_int _ _ _,.bool_int _ _ _⟩
   |str b=>rw[TrAt]at f;subst f;obtain⟨_,rfl⟩:=h;simp only[teq];exact⟨.bool_str _ _ _,.bool_str _ _ _,.bool_str _ _ _⟩
   |lst m=>rw[TrAt]at f;obtain⟨p,E,rfl,q,_⟩:=f;cases h;obtain⟨_,_,g,_⟩:=I.list q;simp only[teq];exact⟨.bool_list _ g.isList d,.bool_list _ g.isList d,.bool_list _ g.isList d⟩
   |tup m=>rw[TrAt]at f;obtain⟨p,E,rfl,q,_⟩:=f;cases h;obtain⟨_,_,g,_⟩:=I.tuple q;simp only[teq];exact⟨.bool_tuple _ g d,.bool_tuple _ g d,.bool_tuple _ g d⟩
  |int c=>
   rw[TrAt]at ht;subst ht;obtain⟨_,rfl⟩:=ra;cases u with
   |non=>rw[TrAt]at f;subst f;cases h;simp only[teq];exact⟨.int_none _ _,.int_none _ _,.int_none _ _⟩
   |bl b=>rw[TrAt]at f;subst f;cases h;rw[teq];exact⟨.int_bool _ _ _,.int_bool _ _ _,.int_bool _ _ _⟩
   |int b=>rw[TrAt]at f;subst f;obtain⟨_,rfl⟩:=h;rw[teq];exact⟨.int_int _ _ _ _,.int_int _ _ _ _,.int_int _ _ _ _⟩
   |str b=>rw[TrAt]at f;subst f;obtain⟨_,rfl⟩:=h;simp only[teq];exact⟨.int_str _ _ _ _,.int_str _ _ _ _,.int_str _ _ _ _⟩
   |lst m=>rw[TrAt]at f;obtain⟨p,E,rfl,q,_⟩:=f;cases h;obtain⟨_,_,g,_⟩:=I.list q;simp only[teq];exact⟨.int_list _ _ g.isList d,.int_list _ _ g.isList d,.int_list _ _ g.isList d⟩
   |tup m=>rw[TrAt]at f;obtain⟨p,E,rfl,q,_⟩:=f;cases h;obtain⟨_,_,g,_⟩:=I.tuple q;simp only[teq];exact⟨.int_tuple _ _ g d,.int_tuple _ _ g d,.int_tuple _ _ g d⟩
  |str c=>
   rw[TrAt]at ht;subst ht;obtain⟨_,rfl⟩:=ra;cases u with
   |non=>rw[TrAt]at f;subst f;cases h;simp only[teq];exact⟨.str_none _ _,.str_none _ _,.str_none _ _⟩
   |bl b=>rw[TrAt]at f;subst f;cases h;simp only[teq];exact⟨.str_bool _ _ _,.str_bool _ _ _,.str_bool _ _ _⟩
   |int b=>rw[TrAt]at f;subst f;obtain⟨_,rfl⟩:=h;simp only[teq];exact⟨.str_int _ _ _ _,.str_int _ _ _ _,.str_int _ _ _ _⟩
   |str b=>rw[TrAt]at f;subst f;obtain⟨_,rfl⟩:=h;rw[teq];exact⟨.str_str _ _ _ _,.str_str _ _ _ _,.str_str _ _ _ _⟩
   |lst m=>rw[TrAt]at f;obtain⟨p,E,rfl,q,_⟩:=f;cases h;obtain⟨_,_,g,_⟩:=I.list q;simp only[teq];exact⟨.str_list _ _ g.isList d,.str_list _ _ g.isList d,.str_list _ _ g.isList d⟩
   |tup m=>rw[TrAt]at f;obtain⟨p,E,rfl,q,_⟩:=f;cases h;obtain⟨_,_,g,_⟩:=I.tuple q;simp only[teq];exact⟨.str_tuple _ _ g d,.str_tuple _ _ g d,.str_tuple _ _ g d⟩
 |succ n ih=>
  intro t u v w a b A hd ht f ra h hA;have d:A.units<d7:=by omega
  have items:∀{o m:List Tr} {xs E:List V} {l i:List aD},wA o<=n->TrsAt X.K H o xs->TrsAt X.K H m E->Vals xs l->Vals E i ->
    ∀j (h1:j<l.toArray.size) (h2:j<i.toArray.size),EqAt A.in1 s l.toArray[j] i.toArray[j] (eAt o m j):=by
   intro o m xs E l i hdn h1 h2 r1 r2 j hj1 hj2;have l1:=h1.length;have l2:=h2.length;have m1:=r1.length;have m2:=r2.length;rw[aJ]at hj1 hj2;obtain⟨t,e⟩:∃t,o[j]?=some t:=⟨_,aj (by omega)⟩
   obtain⟨u,e'⟩:∃u,m[j]?=some u:=⟨_,aj (by omega)⟩
   obtain⟨x,ex,hx⟩:=h1.get e;obtain⟨y,ey,hy⟩:=h2.get e';obtain⟨vx,fx,rx⟩:=r1.get ex;obtain⟨vy,fy,ry⟩:=r2.get ey;have g1:l.toArray[j]'(by simpa using hj1)=vx:=by
    have z:l[j]=vx:=bN ((aj hj1).symm.trans fx);simpa using z
   have g2:i.toArray[j]'(by simpa using hj2)=vy:=by
    have z:i[j]=vy:=bN ((aj hj2).symm.trans fy);simpa using z
   rw[g1,g2];have q:=(ih (A:=A.in1) (aB (Xl (aL e)) hdn) hx hy rx ry (by rw[units_in1];omega)).eq;unfold eAt;rw[e,e'];exact q
  by_cases hz:vP t<=n
  ·exact ih hz ht f ra h (by omega)
  cases t with
  |lst o=>
   rw[TrAt]at ht;obtain⟨p,xs,rfl,q,h1⟩:=ht;cases ra
   obtain⟨l,r1,g,_⟩:=I.list q;cases u with
   |non=>rw[TrAt]at f;subst f;cases h;simp only[teq];exact⟨.list_none g.isList d,.list_none g.isList d,.list_none g.isList d⟩
   |bl b=>rw[TrAt]at f;subst f;cases h;simp only[teq];exact⟨.list_bool _ g.isList d,.list_bool _ g.isList d,.list_bool _ g.isList d⟩
   |int b=>rw[TrAt]at f;subst f;obtain⟨_,rfl⟩:=h;simp only[teq];exact⟨.list_int _ _ g.isList d,.list_int _ _ g.isList d,.list_int _ _ g.isList d⟩
   |str b=>rw[TrAt]at f;subst f;obtain⟨_,rfl⟩:=h;simp only[teq];exact⟨.list_str _ _ g.isList d,.list_str _ _ g.isList d,.list_str _ _ g.isList d⟩
   |tup m=>rw[TrAt]at f;obtain⟨p',E,rfl,q',_⟩:=f;cases h;obtain⟨_,_,k,_⟩:=I.tuple q';simp only[teq];exact⟨.list_tuple g.isList k d,.list_tuple g.isList k d,.list_tuple g.isList k d⟩
   |lst m=>
    have hu0:=f;rw[TrAt]at f;obtain⟨p',E,rfl,q',h2⟩:=f;cases h
    obtain⟨i,r2,k,_⟩:=I.list q';have l1:=h1.length;have l2:=h2.length;have m1:=r1.length;have m2:=r2.length;have hdn:wA o<=n:=by rw[vP]at hd;omega
    have both:RcAt A s (.ref p) (.ref p') (jM o m)/\RcNeAt A s (.ref p) (.ref p') (!jM o m):=by
     by_cases F:o.length=m.length
     ·have hs:l.toArray.size=i.toArray.size:=by rw[aJ,aJ];omega
      have it:=items hdn h1 h2 r1 r2;have e1:(bJ l.toArray.size).all (eAt o m)=jM o m:=by
       rw[aJ,<-m1,<-l1];exact zbi F
      have a1:=RcAt.lists g.isList k.isList hs d it;have a2:=RcNeAt.lists g.isList k.isList hs d it;rw[e1]at a1 a2;exact⟨a1,a2⟩
     ·have hs:(l.toArray.size != i.toArray.size)=true:=by
       rw[aJ,aJ,bne_iff_ne];omega
      rw[ZR F];exact⟨.lists_lengths g.isList k.isList hs d,.lists_lengths g.isList k.isList hs d⟩
    rw[teq];refine⟨both.1,both.2,?_⟩;by_cases hpp:p=p'
    ·subst hpp;have e:Tr.lst o=Tr.lst m:=Jj I (n+1) hd (show TrAt X.K H (.lst o) (.ref p) by rw[TrAt];exact⟨p,xs,rfl,q,h1⟩) hu0;cases e
     rw[Ys];exact .same _
    ·exact .of_refs hpp both.1
  |tup o=>
   rw[TrAt]at ht;obtain⟨p,xs,rfl,q,h1⟩:=ht;cases ra
   obtain⟨l,r1,g,_⟩:=I.tuple q;cases u with
   |non=>rw[TrAt]at f;subst f;cases h;simp only[teq];exact⟨.tuple_none g d,.tuple_none g d,.tuple_none g d⟩
   |bl b=>rw[TrAt]at f;subst f;cases h;simp only[teq];exact⟨.tuple_bool _ g d,.tuple_bool _ g d,.tuple_bool _ g d⟩
   |int b=>rw[TrAt]at f;subst f;obtain⟨_,rfl⟩:=h;simp only[teq];exact⟨.tuple_int _ _ g d,.tuple_int _ _ g d,.tuple_int _ _ g d⟩
   |str b=>rw[TrAt]at f;subst f;obtain⟨_,rfl⟩:=h;simp only[teq];exact⟨.tuple_str _ _ g d,.tuple_str _ _ g d,.tuple_str _ _ g d⟩
   |lst m=>rw[TrAt]at f;obtain⟨p',E,rfl,q',_⟩:=f;cases h;obtain⟨_,_,k,_⟩:=I.list q';simp only[teq];exact⟨.tuple_list g k.isList d,.tuple_list g k.isList d,.tuple_list g k.isList d⟩
   |tup m=>
    have hu0:=f;rw[TrAt]at f;obtain⟨p',E,rfl,q',h2⟩:=f;cases h
    obtain⟨i,r2,k,_⟩:=I.tuple q';have l1:=h1.length;have l2:=h2.length;have m1:=r1.length;have m2:=r2.length;have hdn:wA o<=n:=by rw[vP]at hd;omega
    have e1:((bJ (min l.toArray.size i.toArray.size)).all (eAt o m) && l.toArray.size == i.toArray.size)=jM o m:=by
     rw[aJ,aJ,<-m1,<-l1,<-m2,<-l2];by_cases F:o.length=m.length
     ·rw[<-F,Iu,beq_self_eq_true,rN];exact zbi F
     ·rw[ZR F,beq_eq_false_iff_ne.mpr F,mU]
    have it:=items hdn h1 h2 r1 r2;have a1:=RcAt.tuples g k d it;have a2:=RcNeAt.tuples g k d it;rw[e1]at a1 a2;rw[teq];refine⟨a1,a2,?_⟩;by_cases hpp:p=p'
    ·subst hpp;have e:Tr.tup o=Tr.tup m:=Jj I (n+1) hd (show TrAt X.K H (.tup o) (.ref p) by rw[TrAt];exact⟨p,xs,rfl,q,h1⟩) hu0;cases e
     rw[Ys];exact .same _
    ·exact .of_refs hpp a1
  |non=>exact absurd (bw _) hz
  |bl b=>exact absurd (bw _) hz
  |int b=>exact absurd (bw _) hz
  |str b=>exact absurd (bw _) hz
end
section
variable {X:Cx}
inductive EqI (K:aK) (neg:Bool) (x y:V) (H:Hp) (Q:VK):Prop
 |mk (t u:Tr) (h1:TrAt K H t x) (h2:TrAt K H u y) (h3:vP t<=8) (q:Q (.bl (if neg then !teq t u else teq t u)) H):EqI K neg x y H Q
def zhu(K:aK)(neg:Bool):R2:=λx y H Q=>EqI K neg x y H Q
theorem ziB(hu:X.A.units+64<d7):OpR X (cO .Eq) (zhu X.K false):=by
 intro pins s Z H x y v u Q I a b h;obtain⟨t,t',c,d,e,q⟩:=h;exact (QM I 8 e c d a b (by omega)).rc _ _ _ _ ⟨.bl _,H,I,rfl,q⟩
theorem ziZ(hu:X.A.units+64<d7):OpR X (cO .NotEq) (zhu X.K true):=by
 intro pins s Z H x y v u Q I a b h;obtain⟨t,t',c,d,e,q⟩:=h;exact (QM I 8 e c d a b (by omega)).ne _ _ _ _ ⟨.bl _,H,I,rfl,q⟩
open Classical in
def zhJ(K:aK)(neg:Bool):R2:=λx y H Q=>Ex4 λp xs ts u=>y=.ref p/\SqL K H p xs/\TrsAt K H ts xs/\TrAt K H u x/\wA ts<=8/\Q (.bl (if neg then !(ts.any λt=>teq t u) else ts.any λt=>teq t u)) H
open Classical in
theorem zbq{pins:List (au×kZ)}{Z:St}{H:Hp}{s:aP}(I:Inv X pins Z H s){u:Tr}:∀{ts:List Tr} {xs:List V} {its:List aD},wA ts<=8->TrsAt X.K H ts xs->Vals xs its ->
  its.any (λy=>decide (∃t x,RelV x y/\TrAt X.K H t x/\teq t u=true))=ts.any λt=>teq t u
 |[],xs,its,_,h,r=>by rw[TrsAt]at h;subst h;cases r;rfl
 |t::ts,xs,its,hd,h,r=>by
  rw[TrsAt]at h;obtain⟨y,ys,rfl,hy,h⟩:=h;cases r with
  |cons r1 r2=>
   rw[wA]at hd;rw[lO,lO,zbq I (by omega) h r2];congr 1;rw[cH,decide_eq_true_iff];constructor
   ·rintro⟨t',x',r',h',e⟩;rw[r1.inj r']at hy;rw[Jj I 8 (by omega) hy h'];exact e
   ·intro e;exact⟨t,y,r1,hy,e⟩
open Classical in
theorem QK{pins:List (au×kZ)}{Z:St}{H:Hp}{s:aP}(I:Inv X pins Z H s)(hu:X.A.units+64<d7){u:Tr}{x:V}{v:aD}(hx:TrAt X.K H u x)(rx:RelV x v){ts:List Tr}{xs:List V}{its:List aD}(hd:wA ts<=8)(h:TrsAt X.K H ts xs)(r:Vals xs its):
  ∀y,y∈its.toArray->Ly X.A.in1 s y v (decide (∃t x,RelV x y/\TrAt X.K H t x/\teq t u=true)):=by
 intro y hy;have hy':y∈its:=by simpa using hy
 obtain⟨j,hj,e⟩:=Do hy';have l1:=h.length;have m1:=r.length;obtain⟨t,et⟩:∃t,ts[j]?=some t:=⟨_,aj (by omega)⟩
 obtain⟨z,ez,hz⟩:=h.get et;obtain⟨w,ew,rw'⟩:=r.get ez;have e':y=w:=by
  rw[aj hj]at ew;exact e.symm.trans (bN ew)
 subst e';have hd':vP t<=8:=aB (Xl (aL et)) hd;have q:=(QM I 8 (A:=X.A.in1) hd' hz hx rw' rx (by rw[units_in1];omega)).eq;have e2:decide (∃t x,RelV x y/\TrAt X.K H t x/\teq t u=true)=teq t u:=by
  rw[cH,decide_eq_true_iff];constructor
  ·rintro⟨t',x',r',h',e3⟩;rw[rw'.inj r']at hz;rw[Jj I 8 hd' hz h'];exact e3
  ·intro e3;exact⟨t,z,rw',hz,e3⟩
 rw[e2];exact q
open Classical in
theorem ziw(hu:X.A.units+64<d7):OpR X (cO .In) (zhJ X.K false):=by
 intro pins s Z H x y v u Q I rx ry h;obtain⟨p,xs,ts,t,rfl,hq,hts,ht,hd,q⟩:=h;cases ry
 obtain⟨its,r,pl,hz⟩:=I.list hq;refine SeqAt.in_listAt _ pl.isList (QK I hu ht rx hd hts r) ⟨.bl _,H,I,rfl,?_⟩;simp only[sG];rw[zbq I hd hts r];exact q
open Classical in
theorem zfa(hu:X.A.units+64<d7):OpR X (cO .NotIn) (zhJ X.K true):=by
 intro pins s Z H x y v u Q I rx ry h;obtain⟨p,xs,ts,t,rfl,hq,hts,ht,hd,q⟩:=h;cases ry
 obtain⟨its,r,pl,hz⟩:=I.list hq;refine SeqAt.notIn_listAt _ pl.isList (QK I hu ht rx hd hts r) ⟨.bl _,H,I,rfl,?_⟩;simp only[sG];rw[zbq I hd hts r];exact q
end
end L2
namespace L2
open PySem PySem.Spec PyProof.Rows
theorem X5{K:aK}(h1:Ib U=true)(h2:(fastBuiltinMro T).map (·.contains (gK U))=some b)(hb:T=U->b=true):cJ K (.type T) (.type U)=some b:=by
 unfold cJ;by_cases e:T=U
 ·subst e;rw[if_pos (by simp),hb rfl]
 ·rw[if_neg (by simpa using e)];show (if Ib U=true then Ms K (.type T) (.type U) else none)=some b;rw[if_pos h1];exact h2
section
variable {K:aK}
theorem zcN:cJ K (.type "int") (.type "int")=some true:=X5 (by decide +kernel) (by decide +kernel) (λ_=>rfl)
theorem VD:cJ K (.type "int") (.type "bool")=some false:=X5 (by decide +kernel) (by decide +kernel) (λe=>absurd e (by decide))
theorem Ws:cJ K (.type "list") (.type "list")=some true:=X5 (by decide +kernel) (by decide +kernel) (λ_=>rfl)
theorem Y9:cJ K (.type "tuple") (.type "tuple")=some true:=X5 (by decide +kernel) (by decide +kernel) (λ_=>rfl)
end
section
variable {X:Cx}
inductive IsI (K:aK) (xs:List V) (H:Hp) (Q:VK):Prop
 |mk (x:V) (T:String) (t:aD) (b:Bool) (h1:xs=[x,.ty T]) (h2:V8 K H x t) (h3:cJ K t (.type T)=some b) (q:Q (.bl b) H):IsI K xs H Q
def zi1(K:aK):List V->Hp->VK->Prop:=λxs H Q=>IsI K xs H Q
theorem zfW:vZ X (.builtin "isinstance") (zi1 X.K):=by
 intro pins s Z H xs us Q I r h;obtain⟨x,T,t,b,rfl,a,e,q⟩:=h;obtain⟨u,v,rfl,c,d⟩:=vals2 r;cases d
 exact zfg I c a e λf=>⟨.bl b,H,I.tok f,rfl,q⟩
def zjl(i j:Int):Prop:=0<j/\j<2^200
theorem Xh:OpR X (gW .FloorDiv) (rI zjl λi j=>.int (i / j)):=opI λi j _ _ _ _ _ a q=>by
 have h1:=a.1;have h2:=a.2;refine floordiv_int (by omega) (by rw[Int.fdiv_eq_ediv_of_nonneg i (by omega)];exact q) (.inl (HH ?_));have b:j.natAbs<2^200:=by omega
 have h4:=(KY (by omega)).mpr b;omega
theorem Qp{bs:List Bool}(r:Vals (bs.map V.bl) its):TruthOf P w A (λi v=>its.toArray[i]?=some v) (λi=>bs.getD i false):=by
 intro i v s Q E b c;have d:=r.length;rw[aa]at d;have e:its[i]?=some v:=by simpa using b
 have hi:=(aV.mp e).1;have f:(bs.map V.bl)[i]?=some (.bl (bs[i]'(by omega))):=by rw[ao,aj (by omega)];rfl
 obtain⟨u,a,g⟩:=r.get f;rw[e]at a;cases a
 cases g;have h:bs.getD i false=bs[i]:=by rw[aN,aj (by omega)];rfl
 exact dR (h▸c)
theorem zc2:∀bs:List Bool,(bJ bs.length).all (λi=>bs.getD i false)=bs.all id
 |[]=>rfl
 |b::bs=>by
  rw[bF,iH,ou,Eu,ou,<-zc2 bs];rfl
theorem zcG:∀bs:List Bool,(bJ bs.length).any (λi=>bs.getD i false)=bs.any id
 |[]=>rfl
 |b::bs=>by
  rw[bF,iH,lO,pA,lO,<-zcG bs];rfl
def zje(K:aK):List V->Hp->VK->Prop:=λxs H Q=>Ex2 λ(a:au) (bs:List Bool)=>xs=[.ref a]/\SqL K H a (bs.map V.bl)/\Q (.bl (bs.all id)) H
def zjb(K:aK):List V->Hp->VK->Prop:=λxs H Q=>Ex2 λ(a:au) (bs:List Bool)=>xs=[.ref a]/\SqL K H a (bs.map V.bl)/\Q (.bl (bs.any id)) H
theorem zfU(hc:X.calm=true):vZ X (.builtin "all") (zje X.K):=by
 intro c s Z H xs us Q I r h;obtain⟨a,bs,rfl,k,q⟩:=h;obtain⟨u,rfl,l⟩:=vals1 r;cases l
 obtain⟨d,i,f,hz⟩:=I.list k;have j:=i.length;rw[aa]at j;obtain⟨o,n,m,_⟩:=id f;have g:=bj (aM m);refine call_all_walk (mQ f.isList ?_);refine⟨_,_,_,_,_,_,_,rfl,GP (show X.A.in1.handled=none from I.ok.hd hc) s.heap.objs.size a g d.toArray,⟨⟨_,bz _ rfl,rfl,rfl⟩,f.isList.at λo e=>az _ e⟩,Qp i,λp t v=>?_⟩;have w:Inv X c Z H { s with heap:=p,toks:=t }:=I.kept λb o e=>v b o (by have:=aM e;simp;exact bj this) (az _ e);refine⟨.bl _,H,w,rfl,?_⟩;rw[aJ,<-j,zc2];exact q
theorem zfS(hc:X.calm=true):vZ X (.builtin "any") (zjb X.K):=by
 intro c s Z H xs us Q I r h;obtain⟨a,bs,rfl,k,q⟩:=h;obtain⟨u,rfl,l⟩:=vals1 r;cases l
 obtain⟨d,i,f,hz⟩:=I.list k;have j:=i.length;rw[aa]at j;obtain⟨o,n,m,_⟩:=id f;have g:=bj (aM m);refine call_any_walk (mQ f.isList ?_);refine⟨_,_,_,_,_,_,_,rfl,GP (show X.A.in1.handled=none from I.ok.hd hc) s.heap.objs.size a g d.toArray,⟨⟨_,bz _ rfl,rfl,rfl⟩,f.isList.at λo e=>az _ e⟩,Qp i,λp t v=>?_⟩;have w:Inv X c Z H { s with heap:=p,toks:=t }:=I.kept λb o e=>v b o (by have:=aM e;simp;exact bj this) (az _ e);refine⟨.bl _,H,w,rfl,?_⟩;rw[aJ,<-j,zcG];exact q
def zh3(K:aK)(te:TE):TE:=λZ H Q=>te Z H λx H1=>Ex2 λa xs=>x=.ref a/\SqL K H1 a xs/\∀p,H1 p=none->Q (.ref p) (upd H1 p (.lst xs.reverse))
theorem Qs(he:PE X e te):PE X (.Subscript e (.Slice none none (some (.UnaryOp .USub (.Constant (.int 1) j p1) p2)) p3) pos) (zh3 X.K te):=by
 intro c s Z H Q I h;refine DG (thn (he c s Z H _ I h) λv o ⟨x,i,p,w,z⟩=>?_);obtain⟨a,xs,rfl,k,q⟩:=z;cases w
 refine KJ ?_;refine aG (aG ?_);refine thn (Qg Xk (zr) c o Z i (λv f=>v=.int (-1)/\f=i) p ⟨1,rfl,rfl,rfl⟩) λu l ⟨y,f,m,A,B,C⟩=>?_;subst B C;obtain⟨t,rfl⟩:=A;obtain⟨its,r,ht,D⟩:=m.list k;have g:Inv X c Z f { l with heap:=l.heap.push { cls:=.type "slice",data:=.fields #[.none,.none,.int (-1) t] } }:=m.kept λb E q=>az _ q;obtain⟨its',n,d,hz'⟩:=g.list k;have hlen':=n.length;refine tail_any d.isList.typeIs rB.lookup ?_ (by with_unfolding_all rfl);refine rK d.isList (DK ..) .none .none (.int (-1) t) (by simp) ?_ (by rw[aJ]<;>omega);rw[W.krv_pick];refine⟨.ref _,_,g.laid (λb E q=>az _ q) (aq _) ?_,rfl,q _ (g.hok.fresh (aq _))⟩;exact⟨by rw[fX];exact D,_,0,n.reverse,bz _ rfl⟩
theorem zgR:Bp (.type "list_reverseiterator") "__len__"= pure none:=by rw[typeLookup_type,builtinLookup_eq_fast];kernel_rfl
theorem zhk:Bp (.type "list_reverseiterator") "__length_hint__"= pure (some (.builtin "list_reverseiterator.__length_hint__")):=by kernel_rfl
section
variable {prog:bx} {w:bU} {A:dB} {E:aD->aP->Prop} {s:aP}
theorem zdL(hh:A.handled=none)(hit:s.heap.IsRevIter I l ((items.size:Int)-1))(hL:s.heap.IsList l items)(S:au)(res:aD)(c₀:Nat)(hS:s.heap.get? S=some { cls:=.type "list",data:=.seq #[] c₀ })(hSl:S≠l)(hR:∀s' acc' c',Moved [S,I] (λa b=>b=a) s s'->s'.heap.get? S=some { cls:=.type "list",dict:=none,data:=.seq acc' c',slots:=#[] } ->
   Iv (λi v=>items[items.size-1-i]?=some v) acc' items.size->R (.ok (.ret res)) s')(hn:items.size<=aA):
  bH (bG prog w) A.in1 (Gp (.ref S) (.ref I) res)
   (λfin s'=>match fin with | .done f=>R (.ok f) s' | .again c'=>c'.quiet=true/\jL (bG prog w) A c' R s') (λe s'=>R (.error e) s') s:=by
 obtain⟨oi,d,g,hdi⟩:=id hit;obtain⟨ol,m,n,nl,hdl⟩:=id hL;have h:S≠I:=by
  rintro rfl;rw[hS]at d;cases d;exact absurd (show gK "list"= gK "list_reverseiterator" from g) (by decide)
 have o:l≠I:=by
  rintro rfl;rw[m]at d;cases d;rw[n]at g;exact absurd g (by decide)
 have p:S∉[I,l]:=λj=>by
  rcases aW.mp j with e | j
  ·exact h e
  ·exact hSl (bu.mp j)
 refine ak (lB hit.typeIs ?_);have t:rO (.ref S) (.ref I)=false:=by simp[rO,h]
 have u:(gK "list_reverseiterator"== gK "list")=false:=by decide
 have x:(gK "list_reverseiterator"== gK "tuple")=false:=by decide
 simp only[t,u,x,Bool.or_false,dG,if_false];refine ak (wpAny_pyIter_revIter hit ?_);refine ak (dg ?_);refine ak (BJ hit.typeIs zgR ?_);refine ak (BJ hit.typeIs zhk ?_);generalize q:("list_reverseiterator.__length_hint__" )=id0
 wp_delta
 subst q;refine ak (Fo (b:=true) hit.typeIs (by kernel_rfl) ?_);refine aG ?_;have W:=Walks.listRev (prog:=prog) (w:=w) (A:=A.in1) hh I l o items;refine aG ⟨oA F.plain_extend_loop _,codeAny_extend_loopS W.toS hn _ p _ items.size 0 _ _ _ rfl (bw _) ⟨bw _,by simpa using hit,hL⟩ hS (Nr _) λs' acc' c' j r k=>?_⟩;exact hR s' acc' c' j r k
theorem zfP(hh:A.handled=none)(hit:s.heap.IsRevIter I l ((items.size:Int)-1))(hL:s.heap.IsList l items)(S:au)(hS:s.heap.get? S=some { cls:=.type "list",data:=.seq #[] })(hSl:S≠l)(hSI:S≠I)(hR:∀s' acc' c',s'.gens=s.gens->s'.os=s.os->(∀b o,b≠S->b≠I->s.heap.get? b=some o->s'.heap.get? b=some o)->s'.heap.get? S=some { cls:=.type "list",dict:=none,data:=.seq acc' c',slots:=#[] } ->
   Iv (λi v=>items[items.size-1-i]?=some v) acc' items.size->R (.ok (.ret .none)) s')(hn:items.size<=aA):
  bH (bG prog w) A.in1 (Gq.«list.__init__» ⟨[.ref S,.ref I],[]⟩)
   (λfin s'=>match fin with | .done f=>R (.ok f) s' | .again c'=>c'.quiet=true/\jL (bG prog w) A c' R s') (λe s'=>R (.error e) s') s:=by
 refine ak ?_;refine ak (GQ hS rfl (aG ?_));refine ak (wpAny_updateSeq hS rfl ?_);have hS₂:=nu (dh (λ_=>(#[]))) hS rfl;have a:∀b o,b≠S->s.heap.get? b=some o->(s.heap.update S (dh (λ_=>(#[])))).get? b=some o :=
  λb o d e=>(dF _ _ (cF d)).trans e
 refine ak (KZ ?_);refine zdL (hn:=hn) hh (hit.at λo e=>a I o (cF hSI) e) (hL.at λo e=>a l o (cF hSl) e) S .none _ hS₂ hSl λs' acc' c' g h c=>?_;refine hR s' acc' c' g.gens g.os (λb o d j e=>g.heap b o (λz=>?_) (a b o d e)) h c;rcases aW.mp z with k | z
 ·exact d k
 ·exact j (bu.mp z)
theorem V2(hh:A.handled=none)(hit:s.heap.IsRevIter I l ((items.size:Int)-1))(hL:s.heap.IsList l items)(hQ:∀s' acc' c',s'.gens=s.gens->s'.os=s.os->(∀b o,b≠I->s.heap.get? b=some o->s'.heap.get? b=some o) ->
   s'.heap.get? s.heap.objs.size=some { cls:=.type "list",dict:=none,data:=.seq acc' c',slots:=#[] }->Iv (λi v=>items[items.size-1-i]?=some v) acc' items.size->Q (.ref s.heap.objs.size) s')(hn:items.size<=aA):
  bH (bG prog w) A (call (.type "list") [.ref I]) Q E s:=by
 refine GR (Q₁:=λa s₁=>a=.ref s.heap.objs.size/\s₁={ s with heap:=s.heap.push { cls:=.type "list",data:=.seq #[] } }) F.called_list (F.typeCall_list_1 _) F.entry_list_init
  (code_list_new _ ⟨rfl,rfl⟩) λa s₁ h₁=>?_
 obtain⟨rfl,rfl⟩:=h₁;have j:(s.heap.push { cls:=.type "list",data:=.seq #[] }).get? s.heap.objs.size=some { cls:=.type "list",data:=.seq #[] }:=bz _ rfl;obtain⟨oi,d,_⟩:=id hit;obtain⟨ol,f,_⟩:=id hL;refine⟨⟨_,j,rfl⟩,F.args_list_init_2 _ _,zfP (A:=A.in1) (hn:=hn) hh (hit.at λo e=>az _ e) (hL.at λo e=>az _ e) _ j (eU (aM f)) (eU (aM d)) λs' acc' c' k m n g c=>?_⟩;exact⟨rfl,hQ s' acc' c' k m (λb o p e=>n b o (bj (aM e)) p (az _ e)) g c⟩
end
theorem zfn{items acc:Array aD}(h:Iv (λi v=>items[items.size-1-i]?=some v) acc items.size):acc=items.toList.reverse.toArray:=by
 apply Array.ext_getElem?;intro i;by_cases a:i<items.size
 ·have e:acc[i]?=some (acc[i]'(by rw[h.1];exact a)):=rn _;have q:=h.2 i _ e;rw[e,<-q];simp[List.getElem?_reverse,a]
 ·rw[mV (by rw[h.1];omega),mV (by simp;omega)]
def zg7(K:aK)(te:TE):TE:=λZ H Q=>te Z H λx H1=>Ex2 λl ys=>x=.ref l/\SqL K H1 l ys/\∀q,H1 q=none->Q (.ref q) (upd H1 q (.lst ys.reverse))
theorem zd4{p1 p2 pos1 pos2:nj}(hc:X.calm=true)(hg1:Gl X "list")(hm1:X.mg "list"= none)(hg2:Gl X "reversed")(hm2:X.mg "reversed"= none)(he:PE X e te)(hs:bM [e] X.env=[(false,dZ e X.env)]:=by rfl)(hs2:bM [.Call (.Name "reversed" p2) [e] [] pos2] X.env=[(false,dZ (.Call (.Name "reversed" p2) [e] [] pos2) X.env)]:=by rfl):
  PE X (.Call (.Name "list" p1) [.Call (.Name "reversed" p2) [e] [] pos2] [] pos1) (zg7 X.K te):=by
 intro d s Z H Q I h;refine eZ (Zd I hg1 hm1 gF ?_);refine cP ?_ hs2 rfl;refine pK ?_;refine eZ (Zd I hg2 hm2 boot_reversed ?_);refine cP ?_ hs rfl;rw[hs];refine pK (thn (he d s Z H _ I h) λv g ⟨x,A,i,B,C⟩=>rA ?_);obtain⟨l,m,rfl,D,q⟩:=C;cases B
 obtain⟨a,r,t,u⟩:=i.list D;have w:=r.length;refine call_reversed_list t.isList (rA ?_);have hsz:a.toArray.size=m.length:=by rw[aJ,w]
 refine V2 (i.ok.hd hc) ⟨_,bz _ rfl,rfl,rfl⟩ (t.isList.at λo e=>az _ e) (λn acc c p E F y j=>?_) (by rw[aJ,<-w];exact u);have G:(g.heap.push (revObj l (a.toArray.size-1))).objs.size=g.heap.objs.size+1:=mR _ _;rw[show ({ g with heap:=g.heap.push (revObj l ((a.toArray.size:Int)-1)) }:aP).heap.objs.size=g.heap.objs.size+1 from G]at y ⊢;have f:∀b o,g.heap.get? b=some o->n.heap.get? b=some o:=λb o e=>F b o (bj (aM e)) (az _ e);have k:=i.laid (o:=.lst m.reverse) (t':=n.toks) f (iu _) ⟨by rw[fX];exact u,a.reverse,c,r.reverse,by rw[y,zfn j]⟩;have J:Inv X d Z (upd A (g.heap.objs.size+1) (.lst m.reverse)) n:=by
  refine i.call' (ch:=[]) (by rw[E]) ?_ k.hok (by rw[p];exact i.bare) λb z=>absurd z (by simp);exact Un.laid f (iu _) (i.hok.fresh (iu _))
 exact⟨.ref _,_,J,rfl,q _ (i.hok.fresh (iu _))⟩
end
section
variable {X:Cx} (K:aK)
theorem tZ(e:X.K=K:=by rfl):vZ X (.builtin "isinstance") (zi1 K):=by subst e;exact zfW
theorem vY(e:X.K=K:=by rfl):vZ X (.builtin "len") (λxs H Q=>∃p ys,xs=[.ref p]/\(SqL K H p ys\/SqT K H p ys)/\Q (.int ys.length) H):=by subst e;exact zbO
theorem yt(e:X.K=K:=by rfl):IxR X (ziz K):=by subst e;exact zhp
theorem wz(e:X.K=K:=by rfl):IxR X (zjk K):=by subst e;exact zil
theorem ZQ(e:X.K=K:=by rfl):SlR X (zhf K):=by subst e;exact zhV
theorem k_all(hc:X.calm=true)(e:X.K=K:=by rfl):vZ X (.builtin "all") (zje K):=by subst e;exact zfU hc
theorem zfO(hc:X.calm=true)(e:X.K=K:=by rfl):vZ X (.builtin "any") (zjb K):=by subst e;exact zfS hc
theorem Yl(e:X.K=K:=by rfl):vZ X (.type "list") (λxs H Q=>∃p ys,xs=[.ref p]/\(SqL K H p ys\/SqT K H p ys)/\∀l,H l=none->Q (.ref l) (upd H l (.lst ys))):=by subst e;exact zbD
theorem Wz(hu:X.A.units+64<d7)(e:X.K=K:=by rfl):OpR X (cO .Eq) (zhu K false):=by subst e;exact ziB hu
theorem WP(hu:X.A.units+64<d7)(e:X.K=K:=by rfl):OpR X (cO .NotEq) (zhu K true):=by subst e;exact ziZ hu
theorem zet(hu:X.A.units+64<d7)(e:X.K=K:=by rfl):OpR X (cO .In) (zhJ K false):=by subst e;exact ziw hu
theorem zcL(hu:X.A.units+64<d7)(e:X.K=K:=by rfl):OpR X (cO .NotIn) (zhJ K true):=by subst e;exact zfa hu
theorem qj(hl:PE X l tl)(e:X.K=K:=by rfl):PI X tg l (zib K tl):=by subst e;exact zho hl
end
structure Df (K:aK) (mg:bZ->Option aD) (x:bZ) (st:cG) (ps:List bZ) (f:au) (fd:lM):Prop where
 fn:Fun K x x st f fd
 b:Binds K fd ps []
 g:mg x=some (.ref f)
theorem zL{st:cG}{p pos:nj}(D:Df X.K X.mg x st ps f fd)(G:FnOk X.prog X.w X.K X.mg X.base CX0 k f fd ps sp)(hr:Room k X.A)(ha:PA X (e::es) t)(hg:Gl X x:=by rfl)(hdb:(x == ("__debug__" : bZ))=false:=by decide)(he:bM (e::es) X.env=(false,dZ e X.env)::bM es X.env:=by rfl)(hpl:(gO pos (bM es X.env)).any (·.1)=false:=by rfl):PE X (.Call (.Name x p) (e::es) [] pos) (zer sp [] E0 t):=
 zhR G hr hg D.g D.fn.kp D.b .nil zaQ ha hdb he hpl
theorem zjd{K:aK}{st:cG}{kV doc pm cdv ct:aD}(X:K.In h)(G:h.Ns cz mg)(a:pP K cz x=some (some (.ref f)))(l:K.lookup f=some ⟨oc,od,.func (rJ x x (jV st) (zq st) (zx st) .none kV doc pm an cdv ct),osl⟩)(c:En K cdv x=true)(k:pJ K (.ref f)=true)(hb:∀kV doc pm an cdv ct us,us.length=ps.length->Cv (rJ x x (jV st) (zq st) (zx st) .none kV doc pm an cdv ct) ⟨us,[]⟩=pure (ps.zip us)):
  Df K mg x st ps f (rJ x x (jV st) (zq st) (zx st) .none kV doc pm an cdv ct):=
 ⟨zbj l c k,(zbj l c k).binds hb,W.mg_of X G a⟩
structure Blt (mg:bZ->Option aD):Prop where
 n_isinstance:mg "isinstance"= none
 n_int:mg "int"= none
 n_bool:mg "bool"= none
 n_list:mg "list"= none
 n_tuple:mg "tuple"= none
 n_reversed:mg "reversed"= none
 n_len:mg "len"= none
 n_max:mg "max"= none
 n_min:mg "min"= none
 n_range:mg "range"= none
 n_all:mg "all"= none
 n_any:mg "any"= none
 n_sorted:mg "sorted"= none
 n_enumerate:mg "enumerate"= none
 n_repr:mg "repr"= none
theorem Yr(hr:Room k A):A.units+64<d7:=hr.units
def aw(fp:List au)(H:Hp):Hp:=λb=>if b∈fp then none else H b
theorem ju(h:b∈fp):aw fp H b=none:=by unfold aw;rw[if_pos h]
theorem yc(h:b∉fp):aw fp H b=H b:=by unfold aw;rw[if_neg h]
theorem yd(fp:List au)(H:Hp):Same (aw fp H) H:=λb o e=>by
 by_cases h:b∈fp
 ·rw[ju h]at e;cases e
 ·rw[yc h]at e;exact e
theorem Same.aw(h:Same H H')(fp:List au):Same (aw fp H) (aw fp H'):=λb o e=>by
 by_cases a:b∈fp
 ·rw[ju a]at e;cases e
 ·rw[yc a]at e ⊢;exact h b o e
theorem zp(h:H p=none):Same H (upd H p o):=λb u e=>by rw[zy (zz e h)];exact e
open PySem PyProof.Rows
def unD:List (cD×cD)->List (Int×Int)
 | (.int k,.int v)::r=>(k,v)::unD r
 |_=>[]
def dD(ps:List (Int×Int)):List (cD×cD):=ps.map λp=>(.int p.1,.int p.2)
def dV(ps:List (Int×Int)):List (Key×V):=ps.map λp=>(.inl p.1,.int p.2)
theorem zgq:∀{ps qs:List (Int×Int)},dV ps=dV qs->ps=qs
 |[],[],_=>rfl
 |[],_::_,h=>by cases h
 |_::_,[],h=>by cases h
 | (k,v)::r,(k',v')::r',h=>by
  have h':((lV k:Key),V.int v)::dV r=(lV k',V.int v')::dV r':=h;injection h' with h1 h2
  injection h1 with h3 h4
  injection h3 with h3
  injection h4 with h4
  rw[h3,h4,zgq h2]
mutual
def ThAt(H:Hp):cD->V->Prop
 |.none,v=>v=.non
 |.bool b,v=>v=.bl b
 |.int i,v=>v=.int i
 |.str x,v=>v=.str x
 |.list xs,v=>∃a ys,v=.ref a/\H a=some (.lst ys)/\ThsAt H xs ys
 |.tuple xs,v=>∃a ys,v=.ref a/\H a=some (.tup ys)/\ThsAt H xs ys
 |.dict kvs,v=>kvs=dD (unD kvs)/\∃a,v=.ref a/\H a=some (.dK (dV (unD kvs)))
def ThsAt(H:Hp):List cD->List V->Prop
 |[],ys=>ys=[]
 |d::ds,ys=>∃y zs,ys=y::zs/\ThAt H d y/\ThsAt H ds zs
end
mutual
theorem ThAt.same{H H':Hp}(m:Same H H'):∀{d:cD} {v:V},ThAt H d v->ThAt H' d v
 |.none,v,h=>by rw[ThAt]at h ⊢;exact h
 |.bool b,v,h=>by rw[ThAt]at h ⊢;exact h
 |.int i,v,h=>by rw[ThAt]at h ⊢;exact h
 |.str x,v,h=>by rw[ThAt]at h ⊢;exact h
 |.list xs,v,h=>by
  rw[ThAt]at h ⊢;obtain⟨a,ys,h1,h2,h3⟩:=h;exact⟨a,ys,h1,m _ _ h2,ThsAt.same m h3⟩
 |.tuple xs,v,h=>by
  rw[ThAt]at h ⊢;obtain⟨a,ys,h1,h2,h3⟩:=h;exact⟨a,ys,h1,m _ _ h2,ThsAt.same m h3⟩
 |.dict kvs,v,h=>by
  rw[ThAt]at h ⊢;obtain⟨h0,a,h1,h2⟩:=h;exact⟨h0,a,h1,m _ _ h2⟩
theorem ThsAt.same{H H':Hp}(m:Same H H'):∀{ds:List cD} {ys:List V},ThsAt H ds ys->ThsAt H' ds ys
 |[],ys,h=>by rw[ThsAt]at h ⊢;exact h
 |d::ds,ys,h=>by
  rw[ThsAt]at h ⊢;obtain⟨y,zs,h1,h2,h3⟩:=h;exact⟨y,zs,h1,ThAt.same m h2,ThsAt.same m h3⟩
end
theorem ThsAt.len{H:Hp}:∀{ds:List cD} {ys:List V},ThsAt H ds ys->ys.length=ds.length
 |[],ys,h=>by rw[ThsAt]at h;rw[h];rfl
 |d::ds,ys,h=>by
  rw[ThsAt]at h;obtain⟨y,zs,h1,h2,h3⟩:=h;rw[h1,bF,bF,ThsAt.len h3]
theorem ThsAt.get{H:Hp}:∀{ds:List cD} {ys:List V} {k:Nat} {v:V},ThsAt H ds ys->ys[k]?=some v->∃d,ds[k]?=some d/\ThAt H d v
 |[],ys,k,v,h,e=>by rw[ThsAt]at h;rw[h]at e;simp at e
 |d::ds,ys,k,v,h,e=>by
  rw[ThsAt]at h;obtain⟨y,zs,h1,h2,h3⟩:=h;rw[h1]at e;cases k with
  |zero=>
   have a:y=v:=by simpa using e
   exact⟨d,rfl,by rw[<-a];exact h2⟩
  |succ k=>exact ThsAt.get (k:=k) h3 (by simpa using e)
def tyT:cD->String
 |.none=>"NoneType" | .bool _=>"bool" | .int _=>"int" | .str _=>"str" | .list _=>"list" | .tuple _=>"tuple" | .dict _=>"dict"
theorem ThAt.ty{K:aK}(h:ThAt H d v):V8 K H v (.type (tyT d)):=by
 cases d with
 |none=>rw[ThAt]at h;rw[h];exact .non
 |bool b=>rw[ThAt]at h;rw[h];exact .bl b
 |int i=>rw[ThAt]at h;rw[h];exact .int i
 |str x=>rw[ThAt]at h;rw[h];exact .str x
 |list e=>rw[ThAt]at h;obtain⟨a,f,rfl,c,_⟩:=h;exact .lst c
 |tuple e=>rw[ThAt]at h;obtain⟨a,f,rfl,c,_⟩:=h;exact .tup c
 |dict kvs=>rw[ThAt]at h;obtain⟨_,a,rfl,c⟩:=h;exact .dK c
def isS(T t:String):Bool:=t == T || (t =="bool" && T =="int")
def isT(T:String)(d:cD):Bool:=isS T (tyT d)
section
variable {K:aK}
theorem zb6(hT:T ="int"\/T ="bool"\/T ="list"\/T ="tuple"\/T ="str")(ht:t ="NoneType"\/t ="bool"\/t ="int"\/t ="str"\/t ="list"\/t ="tuple"\/t ="dict"):cJ K (.type t) (.type T)=some (isS T t):=by
 rcases hT with rfl | rfl | rfl | rfl | rfl<;>rcases ht with rfl | rfl | rfl | rfl | rfl | rfl | rfl <;>
  first
  |exact X5 (by decide +kernel) (by decide +kernel) (λ_=>rfl)
  |exact X5 (by decide +kernel) (by decide +kernel) (λe=>absurd e (by decide))
theorem QG(d:cD):tyT d ="NoneType"\/tyT d ="bool"\/tyT d ="int"\/tyT d ="str"\/tyT d ="list"\/tyT d ="tuple"\/tyT d ="dict":=by
 cases d<;>simp[tyT]
theorem zeC(d:cD):cJ K (.type (tyT d)) (.type "int")=some (isT "int" d):=zb6 (by simp) (QG d)
theorem JL(d:cD):cJ K (.type (tyT d)) (.type "bool")=some (isT "bool" d):=zb6 (by simp) (QG d)
theorem Uj(d:cD):cJ K (.type (tyT d)) (.type "list")=some (isT "list" d):=zb6 (by simp) (QG d)
theorem kit_tuple(d:cD):cJ K (.type (tyT d)) (.type "tuple")=some (isT "tuple" d):=zb6 (by simp) (QG d)
end
end L2
namespace L2
open PySem PyProof.Rows
section
variable {P:bx} {w:bU} {H:Hp} {h:dj}
theorem zbp(ok:HOk P w H h)(e:H a=some (.lst ys)):∃its n,Vals ys its/\h.get? a=some { cls:=.type "list",data:=.seq its.toArray n }:=(ok a _ e).2
theorem zbe(ok:HOk P w H h)(e:H a=some (.tup ys)):∃its o n,Vals ys its/\h.get? a=some o/\o.cls=.type "tuple"/\o.data=.seq its.toArray n:=by
 obtain⟨_,its,r,o,b,c,n,d⟩:=ok a _ e;exact⟨its,o,n,r,b,c,d⟩
theorem Jg:∀{l:List DictEntry} {vs:List (Key×aD)} {ps:List (Int×Int)},Pairs (wU P w) l vs->KV (dV ps) vs ->
  K1 h (l.map (·.key)) ((dD ps).map (·.1)) []/\K1 h (l.map (·.val)) ((dD ps).map (·.2)) []
 |_,_,[],pr,r=>by
  cases r;cases pr
  exact⟨.nil,.nil⟩
 |_,_,(k,v)::ps,pr,r=>by
  have r':KV ((lV k,V.int v)::dV ps) _:=r;cases r' with
  |cons b c=>
   cases pr with
   |cons a d e=>
    obtain⟨f,g⟩:=Jg e c;obtain⟨i,t1,j⟩:=b;rw[<-i]at a;obtain⟨t,m⟩:=rz (show Ck k _=true from a);refine⟨?_,?_⟩
    ·refine HJ (as:=[]) ?_ f;show Reads h (M9 _) (.int k) [];rw[m];exact .int _ _
    ·refine HJ (as:=[]) ?_ g;show Reads h (Nb _) (.int v) [];rw[d,j];exact .int _ _
theorem Vq{as:List au}{d:Nat}:∀{l:List DictEntry} {vs:List (Key×aD)} {ps:List (Int×Int)},Pairs (wU P w) l vs->KV (dV ps) vs->mW (dD ps)=true ->
  Iw P w as h d l (CG (dD ps))
 |_,_,[],pr,r,_=>by
  cases r;cases pr
  show Iw P w as h d [] (CG []);rw[CG];exact .nil
 |_,_,(k,v)::ps,pr,r,hs=>by
  have r':KV ((lV k,V.int v)::dV ps) _:=r;have a:mW ((.int k,.int v)::dD ps)=true:=hs;rw[mW,dX,dX,cA,cA]at a;cases r' with
  |cons c e=>
   cases pr with
   |cons b f g=>
    obtain⟨i,j,m⟩:=c;rw[<-i]at b;obtain⟨t,n⟩:=rz (show Ck k _=true from b);refine .cons ?_ ?_ (Vq g e a.2)
    ·rw[n];exact .of_is (GX t (of_decide_eq_true a.1.1)) _ _ _
    ·rw[f,m];exact .of_is (GX j (of_decide_eq_true a.1.2)) _ _ _
theorem zcu:∀ps:List (Int×Int),lu (dD ps)=0
 |[]=>by show lu []=0;rw[lu]
 | (k,v)::ps=>by
  show lu ((.int k,.int v)::dD ps)=0;rw[lu,d9,d9,zcu ps];rfl
theorem zbF(ok:HOk P w H h)(e:H a=some (.dK (dV ps))):(a == gM)=false/\∃o es n vs,h.get? a=some o/\o.cls=.type "dict"/\o.data=.dict es n/\Pairs (wU P w) es.toList vs/\KV (dV ps) vs:=by
 obtain⟨_,b,vs,r,o,es,c,d,f,g,_,i,_⟩:=ok a _ e;exact⟨b,o,es,c,vs,d,f.1,g,i,r⟩
mutual
theorem XM(ok:HOk P w H h):∀{d:cD} {v:V} {u:aD},ThAt H d v->RelV v u->∃as,Reads h u d as
 |.none,v,u,t,r=>by
  rw[ThAt]at t;subst t;have e:u=eY:=r;subst e;exact⟨_,.none⟩
 |.bool b,v,u,t,r=>by
  rw[ThAt]at t;subst t;have e:u=nJ b:=r;subst e;exact⟨_,.bool b⟩
 |.int i,v,u,t,r=>by
  rw[ThAt]at t;subst t;obtain⟨k,rfl⟩:∃k,u=lA i k:=r;exact⟨_,.int i k⟩
 |.str x,v,u,t,r=>by
  rw[ThAt]at t;subst t;obtain⟨k,rfl⟩:∃k,u=nH x k:=r;exact⟨_,.str x k⟩
 |.list xs,v,u,t,r=>by
  rw[ThAt]at t;obtain⟨a,ys,rfl,ha,hx⟩:=t;have e:u=aU a:=r;subst e;obtain⟨its,n,rv,ho⟩:=zbp ok ha;obtain⟨as,q⟩:=U8 ok hx rv;exact⟨_,.list ho rfl rfl q⟩
 |.tuple xs,v,u,t,r=>by
  rw[ThAt]at t;obtain⟨a,ys,rfl,ha,hx⟩:=t;have e:u=aU a:=r;subst e;obtain⟨its,o,n,rv,h1,h2,h3⟩:=zbe ok ha;obtain⟨as,q⟩:=U8 ok hx rv;exact⟨_,.tuple h1 h2 h3 q⟩
 |.dict kvs,v,u,t,r=>by
  rw[ThAt]at t;obtain⟨hk,a,rfl,ha⟩:=t;generalize unD kvs=ps at hk ha;subst hk;have e:u=aU a:=r;subst e;obtain⟨_,o,es,n,vs,h1,h2,h3,h4,h5⟩:=zbF ok ha;obtain⟨q1,q2⟩:=Jg (h:=h) h4 h5;exact⟨_,.dict h1 h2 h3 q1 q2⟩
theorem U8(ok:HOk P w H h):∀{ds:List cD} {ys:List V} {us:List aD},ThsAt H ds ys->Vals ys us->∃as,K1 h us ds as
 |[],ys,us,t,r=>by
  rw[ThsAt]at t;subst t;cases r
  exact⟨_,.nil⟩
 |d::ds,ys,us,t,r=>by
  rw[ThsAt]at t;obtain⟨y,zs,rfl,h1,h2⟩:=t;cases r with
  |cons r1 r2=>
   obtain⟨as,q⟩:=XM ok h1 r1;obtain⟨bs,q2⟩:=U8 ok h2 r2;exact⟨_,.cons q q2⟩
end
mutual
theorem zgs(ok:HOk P w H h):∀{d:cD} {v:V} {u:aD},ThAt H d v->RelV v u->d.showable=true->d.shown.length<=aA->∃bs,my h d.depth bs/\ReprK P w bs h d.depth u d.shown
 |.none,v,u,t,r,_,_=>by
  rw[ThAt]at t;subst t;have e:u=eY:=r;subst e;exact⟨[],by simp[my],by rw[fH];exact .of_is ReprIs.none _ _ _⟩
 |.bool b,v,u,t,r,_,_=>by
  rw[ThAt]at t;subst t;have e:u=nJ b:=r;subst e;exact⟨[],by simp[my],by rw[fH];exact .of_is (ReprIs.bool b) _ _ _⟩
 |.int i,v,u,t,r,hs,_=>by
  rw[ThAt]at t;subst t;obtain⟨k,rfl⟩:∃k,u=lA i k:=r;rw[dX]at hs;exact⟨[],by simp[my],by rw[fH];exact .of_is (GX k (of_decide_eq_true hs)) _ _ _⟩
 |.str x,v,u,t,r,_,hz=>by
  rw[ThAt]at t;subst t;obtain⟨k,rfl⟩:∃k,u=nH x k:=r;rw[fH]at hz;exact⟨[],by simp[my],by rw[fH];exact .of_is (ReprIs.str x k hz) _ _ _⟩
 |.list xs,v,u,t,r,hs,hz=>by
  obtain⟨as,rd⟩:=XM ok t r;rw[ThAt]at t;obtain⟨a,ys,rfl,ha,hx⟩:=t;have e:u=aU a:=r;subst e;obtain⟨its,n,rv,ho⟩:=zbp ok ha;rw[dX]at hs;rw[fH]at hz;obtain⟨bs,hb,hk⟩:=Yn ok hx rv hs λs hsm=>aB (Gg hsm) hz;have dd:(mK xs).depth=cV xs+1:=by rw[d9]
  refine⟨a::bs,BK rd (by omega) hb,?_⟩;rw[dd,fH];cases its with
  |nil=>
   cases rv;cases xs with
   |nil=>rw[iR,listText_nil];exact ReprK.listEmpty ho rfl rfl
   |cons _ _=>rw[ThsAt]at hx;obtain⟨_,_,z,_⟩:=hx;cases z
  |cons x l=>exact ReprK.list ho rfl rfl (mX rd (by omega) hb) (by rw[hk.length_eq];simp) λi y q=>hk.item i y (by simpa using q)
 |.tuple xs,v,u,t,r,hs,hz=>by
  obtain⟨as,rd⟩:=XM ok t r;rw[ThAt]at t;obtain⟨a,ys,rfl,ha,hx⟩:=t;have e:u=aU a:=r;subst e;obtain⟨its,o,n,rv,h1,h2,h3⟩:=zbe ok ha;rw[dX]at hs;rw[fH]at hz;obtain⟨bs,hb,hk⟩:=Yn ok hx rv hs λs hsm=>aB (Fp hsm) hz;have dd:(Iz xs).depth=cV xs+1:=by rw[d9]
  refine⟨a::bs,BK rd (by omega) hb,?_⟩;rw[dd,fH];exact ReprK.tuple h1 h2 h3 (mX rd (by omega) hb) hk
 |.dict kvs,v,u,t,r,hs,hz=>by
  obtain⟨as,rd⟩:=XM ok t r;rw[ThAt]at t;obtain⟨hk,a,rfl,ha⟩:=t;generalize unD kvs=ps at hk ha;subst hk;have e:u=aU a:=r;subst e;obtain⟨sy,o,es,n,vs,h1,h2,h3,h4,h5⟩:=zbF ok ha;have dd:(PyData.dict (dD ps)).depth=0+1:=by rw[d9,zcu]
  rw[dX]at hs;refine⟨[a],BK (d:=.dict (dD ps)) (n:=0) rd (bw _) (by simp[my]),?_⟩;rw[dd,fH];exact ReprK.dict h1 h2 h3 sy (by simp) (Vq h4 h5 hs)
theorem Yn(ok:HOk P w H h):∀{ds:List cD} {ys:List V} {us:List aD},ThsAt H ds ys->Vals ys us->iI ds=true->(∀s∈iR ds,s.length<=aA)->∃bs,my h (cV ds) bs/\ReprAllK P w bs h (cV ds) us (iR ds)
 |[],ys,us,t,r,_,_=>by
  rw[ThsAt]at t;subst t;cases r
  exact⟨[],by simp[my],by rw[iR];exact .nil⟩
 |d::ds,ys,us,t,r,hs,hz=>by
  rw[ThsAt]at t;obtain⟨y,zs,rfl,h1,h2⟩:=t;rw[iI,cA]at hs;rw[iR]at hz;cases r with
  |cons r1 r2=>
   obtain⟨b1,q1,k1⟩:=zgs ok h1 r1 hs.1 (hz _ (.head _));obtain⟨b2,q2,k2⟩:=Yn ok h2 r2 hs.2 λs hsm=>hz s (.tail _ hsm);have dd:cV (d::ds)=max d.depth (cV ds):=by rw[cV]
   refine⟨b1++b2,(q1.mono (by omega)).append (q2.mono (by omega)),?_⟩;rw[iR];exact .cons ((k1.more λb hb=>cY _ hb).level_le (by omega)) (k2.more_le (λb hb=>bh _ hb) (by omega))
end
end
def ziV:List V->Hp->VK->Prop:=λxs H Q=>Ex2 λv d=>xs=[v]/\ThAt H d v/\d.showable=true/\d.shown.length<=aA/\d.depth<=40/\Q (.str d.shown) H
theorem Jz(hg:X.A.guards=some [])(hu:X.A.units+64<d7):vZ X (.builtin "repr") ziV:=by
 intro pins s Z H f us Q I r R;obtain⟨v,d,rfl,t,D,h,hd,q⟩:=R;obtain⟨u,rfl,g⟩:=vals1 r;obtain⟨as,M⟩:=XM I.hok t g;cases d with
 |none=>
  subst t;have e:=g;subst e;exact P.repr_of_none ⟨.str "None",H,I.tok _,⟨_,rfl⟩,q⟩
 |bool b=>
  subst t;have e:=g;subst e;exact P.repr_of_bool ⟨.str _,H,I.tok _,⟨_,rfl⟩,q⟩
 |int i=>
  subst t;obtain⟨k,rfl⟩:∃k,u=lA i k:=g;exact P.repr_of_int (of_decide_eq_true D) ⟨.str _,H,I.tok _,⟨_,rfl⟩,q⟩
 |str x=>
  subst t;obtain⟨k,rfl⟩:∃k,u=nH x k:=g;exact P.repr_of_str ⟨.str _,H,I.tok _,⟨_,rfl⟩,q⟩ h
 |list f=>
  obtain⟨a,S,rfl,m,p⟩:=t;have e:=g;subst e;obtain⟨w,n,E,G⟩:=zbp I.hok m;rw[fH]at h q;obtain⟨T,J,c⟩:=Yn I.hok p E D λs j=>aB (Gg j) h;have U:(mK f).depth=cV f+1:=by rw[d9]
  refine CJ (by omega) ⟨_,G,rfl⟩ PySem.F.slot_list_repr.toG ?_;cases w with
  |nil=>
   cases E;cases f with
   |nil=>
    exact call_list_repr_empty ⟨_,G,rfl⟩ G rfl ⟨_,_,rfl,.str "[]",H,I.tok _,⟨_,rfl⟩,q⟩
   |cons _ _=>rw[ThsAt]at p;obtain⟨_,_,z,_⟩:=p;cases z
  |cons x l=>
   exact call_list_reprK G rfl rfl (mX M (by omega) J) (by rw[c.length_eq];simp) (λi y q=>c.item i y (by simpa using q)) hg (λb _=>Ie b) (by show X.A.units+1+(cV f+1)<d7;omega) (λ_ _ e=>e) (λN u O c=>⟨_,_,rfl,.str _,H,I.kept c,⟨_,rfl⟩,q⟩) h
 |tuple f=>
  obtain⟨a,S,rfl,m,p⟩:=t;have e:=g;subst e;obtain⟨w,o,n,E,B,C,K⟩:=zbe I.hok m;obtain⟨T,J,c⟩:=Yn I.hok p E D λs j=>aB (Fp j) h;have U:(Iz f).depth=cV f+1:=by rw[d9]
  exact CJ (by omega) ⟨_,B,C⟩ PySem.F.slot_tuple_repr (call_tuple_reprK B C K (mX M (by omega) J) c hg (λb _=>Ie b) (by show X.A.units+1+(cV f+1)<d7;omega) (λ_ _ e=>e) (λN u O c=>⟨_,_,rfl,.str _,H,I.kept c,⟨_,rfl⟩,q⟩) h)
 |dict L=>
  obtain⟨c,a,rfl,m⟩:=t;generalize unD L=ps at c m;subst c;have e:=g;subst e;obtain⟨V,o,es,n,vs,B,C,K,W,Y⟩:=zbF I.hok m;exact CJ (by omega) ⟨_,B,C⟩ PySem.F.slot_dict_repr (call_dict_reprK (as:=[]) B C K V (by simp) (Vq W Y D) hg (λb _=>Ie b) (by show X.A.units+1+(0+1)<d7;omega) (λ_ _ e=>e) (λN u O c=>⟨_,_,rfl,.str _,H,I.kept c,⟨_,rfl⟩,q⟩) h)
end L2
namespace HT
open PySem PyProof.Rows
section
open PySem.SeqAt
open PySem.AutoSeq1 (wpAny_loadPart')
open PySem.MeetsSeq PySem.MeetsSeq2 PySem.MeetsSeq3 PySem.SeqRoads2
theorem zeK(h:gw vs ns)(hi:i<ns.length):∃t,vs[i]?=some (.int (ns[i]) t):=by
 induction h generalizing i with
 |nil=>simp at hi
 |cons a t h b=>
  cases i with
  |zero=>exact⟨t,rfl⟩
  |succ i=>
   obtain⟨c,e⟩:=b (by simpa using hi);exact⟨c,by simpa using e⟩
theorem zhG(l b:au)(items items2:Array aD)(n n2:Nat)(dd dd2:Option au)(sl sl2:Array (Option aD))(ns ms:List Int)(hi:gw items.toList ns)(hj:gw items2.toList ms)(k:Nat):
  ∀i:Nat,ns.length-i=k->i<=ns.length->i<=ms.length->Meets (Gq.«list.__eq__.loop» ⟨[.ref l,.ref b,iB i,iB 0],[]⟩)
   (λ_ R s=>s.heap.get? l=some { cls:=.type "list",dict:=dd,data:=.seq items n,slots:=sl }/\s.heap.get? b=some { cls:=.type "list",dict:=dd2,data:=.seq items2 n2,slots:=sl2 } /\
    R (.ok (.ret (.bool (lexLt (ns.drop i) (ms.drop i))))) s):=by
 have z1:items.size=ns.length:=by rw[<-hi.length];simp
 have z2:items2.size=ms.length:=by rw[<-hj.length];simp
 induction k with
 |zero=>
  intro i E F G a w A R s h;obtain⟨r,g,d,v,B⟩:=s;obtain⟨j,m,h⟩:=h;have hin:i=ns.length:=by omega
  wp_walk using cW j,cW m
  have c:items[((i:Nat):Int).toNat]?=none:=by simp;omega
  have H:ns.drop i=[]:=by simp;omega
  rw[H]at h;rw[c]
  wp_walk using cW j,cW m
  show R (.ok (.ret (.bool (decide (items.size<items2.size))))) _;have e:lexLt [] (ms.drop i)=decide (items.size<items2.size):=by
   cases q:ms.drop i with
   |nil=>
    rw[Wu];have:ms.length<=i:=by simpa using List.drop_eq_nil_iff.mp q
    exact (decide_eq_false (by omega)).symm
   |cons x y=>
    rw[Jp];have:i<ms.length:=by
     by_cases z:i<ms.length
     ·exact z
     ·rw[dH (by omega)]at q;cases q
    exact (decide_eq_true (by omega)).symm
  rw[<-e];exact h
 |succ k I=>
  intro i E F G a w A R s h;obtain⟨r,g,d,v,B⟩:=s;obtain⟨j,m,h⟩:=h;have p:i<ns.length:=by omega
  obtain⟨t,J⟩:=zeK hi p;have c:items[((i:Nat):Int).toNat]?=some (.int (ns[i]) t):=by simpa using J
  by_cases D:i<ms.length
  ·obtain⟨u,K⟩:=zeK hj D;have f:items2[((i:Nat):Int).toNat]?=some (.int (ms[i]) u):=by simpa using K
   wp_walk using cW j,cW m
   rw[gB p,gB D,qW]at h;have L:((i:Int)+1)=((i+1:Nat):Int):=by push_cast;rfl
   rw[c,f];obtain⟨e,M,o⟩:=zgA A.in1 ⟨r,g,d,v,B⟩ (ns[i]) t (ms[i]) u;refine ak (M a w _ _ ?_);cases e with
   |true=>
    rw[if_pos (o.mp rfl)]at h
    wp_walk
    rw[L];exact⟨oA plain_eq_loop _,lY entry_eq_loop (by
     rw[Around.under_plainId plain_eq_loop _];exact I (i+1) (by omega) (by omega) (by omega) a w A R _ ⟨j,m,h⟩)⟩
   |false=>
    rw[if_neg (λq=>absurd (o.mpr q) bc)]at h;have C:=zcR A.in1 ⟨r,g,d,v,B⟩ (ns[i]) t (ms[i]) u a w
    wp_walk using cW j,cW m
    rw[c,f]
    wp_walk using C
    simpa using h
  ·have f:items2[((i:Nat):Int).toNat]?=none:=by simp;omega
   wp_walk using cW j,cW m
   rw[gB p,dH (show ms.length<=i by omega),qL]at h;rw[c,f]
   wp_walk using cW j,cW m
   show R (.ok (.ret (.bool (decide (items.size<items2.size))))) _;rw[decide_eq_false (by omega)];exact h
theorem VV(l b:au)(items items2:Array aD)(n n2:Nat)(dd dd2:Option au)(sl sl2:Array (Option aD))(ns ms:List Int)(hi:gw items.toList ns)(hj:gw items2.toList ms):
  Meets (Gq.«list.__lt__» ⟨[.ref l,.ref b],[]⟩)
   (λ_ R s=>s.heap.get? l=some { cls:=.type "list",dict:=dd,data:=.seq items n,slots:=sl }/\s.heap.get? b=some { cls:=.type "list",dict:=dd2,data:=.seq items2 n2,slots:=sl2 } /\
    R (.ok (.ret (.bool (lexLt ns ms)))) s):=by
 intro a w A R s h;obtain⟨hp,g,d,tk,os⟩:=s;obtain⟨c,e,h⟩:=h;have f3:=IK
 wp_walk using cW c,cW e
 exact⟨oA plain_eq_loop _,lY entry_eq_loop (by
  exact zhG l b items items2 n n2 dd dd2 sl sl2 ns ms hi hj _ 0 rfl (bw _) (bw _) a w A R _ ⟨c,e,by simpa using h⟩)⟩
end
section
variable {prog:bx} {w:bU} {A:dB} {E:aD->aP->Prop} {s:aP}
theorem Qo(hl:s.heap.IsList l items)(hb:s.heap.IsList b items2)(hi:gw items.toList ns)(hj:gw items2.toList ms)(hu:A.units<d7)(h:Q (.bool (lexLt ns ms)) s):bH (bG prog w) A (KH .Lt (.ref l) (.ref b)) Q E s:=by
 obtain⟨⟨cls,i,data,j⟩,g,k,n,m⟩:=id hl;obtain⟨⟨cls2,c,data2,d⟩,a,e,o,f⟩:=id hb;subst k m e f;exact richCompare_meets_room ⟨_,g,rfl⟩ ⟨_,a,rfl⟩ PySem.F.slot_list_lt PySem.F.entry_list_lt (PySem.F.args_list_lt_2 _ _) (VV l b items items2 n o i c j d ns ms hi hj)
  ⟨g,a,show nJ (lexLt ns ms)≠Value.notImplemented/\Q (.bool (lexLt ns ms)) s from ⟨(λx=>nomatch x),h⟩⟩ hu
end
open PySem PyProof.Rows PySem.W
def kin{α:Type}(n:Nat):M5 α->Bool
 |.ret _=>true
 |.ask i j k=>decide (i<n) && decide (j<n) && kin n (k true) && kin n (k false)
def tab(b:Nat->Nat->Bool)(i j:Nat):Bool:=if i<j then b i j else if j<i then !b j i else false
theorem vm:∀a:List Int,lexLt a a=false
 |[]=>rfl
 |x::a=>by rw[qW,if_pos rfl,vm a]
theorem W2:∀a b:List Int,a≠b->lexLt b a=!lexLt a b
 |[],[],h=>absurd rfl h
 |[],_::_,_=>rfl
 |_::_,[],_=>rfl
 |x::a,y::b,h=>by
  rw[qW,qW];by_cases e:x=y
  ·subst e;rw[if_pos rfl,if_pos rfl];exact W2 a b λz=>h (by rw[z])
  ·rw[if_neg e,if_neg (cF e),cH];simp;omega
theorem jz:∀a b c:List Int,lexLt a b=true->lexLt b c=true->lexLt a c=true
 |[],[],_,h,_=>by rw[Wu]at h;cases h
 |[],_::_,[],_,h=>by rw[qL]at h;cases h
 |[],_::_,_::_,_,_=>rfl
 |_::_,[],_,h,_=>by rw[qL]at h;cases h
 |_::_,_::_,[],_,h=>by rw[qL]at h;cases h
 |x::a,y::b,z::c,h1,h2=>by
  rw[qW]at h1 h2 ⊢;by_cases e1:x=y
  ·subst e1;rw[if_pos rfl]at h1;by_cases e2:x=z
   ·subst e2;rw[if_pos rfl]at h2 ⊢;exact jz a b c h1 h2
   ·rw[if_neg e2]at h2 ⊢;exact h2
  ·rw[if_neg e1]at h1;have h1':=of_decide_eq_true h1;by_cases e2:y=z
   ·subst e2;rw[if_neg e1];exact h1
   ·rw[if_neg e2]at h2;have h2':=of_decide_eq_true h2;rw[if_neg (show x≠z by omega)];exact decide_eq_true (by omega)
end HT
namespace L2
open PySem PySem.Spec PyProof.Rows
section
variable {X:Cx}
def zjT(K:aK):R2:=λx y H Q=>Ex4 λa b ns ms=>x=.ref a/\y=.ref b/\SqL K H a (ns.map V.int)/\SqL K H b (ms.map V.int)/\Q (.bl (HT.lexLt ns ms)) H
theorem zjE(K:aK)(hu:X.A.units+64<d7)(e:X.K=K:=by rfl):OpR X (cO .Lt) (zjT K):=by
 subst e;intro pins s Z H x y v u Q I c d h;obtain⟨a,b,f,g,rfl,rfl,i,j,q⟩:=h;cases c
 cases d;obtain⟨its,k,l,_⟩:=I.list i
 obtain⟨its2,m,n,_⟩:=I.list j;exact HT.Qo l.isList n.isList (intsAre_of k) (intsAre_of m) (by omega) ⟨.bl (HT.lexLt f g),H,I,rfl,q⟩
end
end L2
namespace HT
open PySem PyProof.Rows PySem.W
def KW{α:Type}(c:Nat->Nat->Bool)(n:Nat):M5 α->(α->Prop)->Prop
 |.ret a,Q=>Q a
 |.ask i j k,Q=>i<n/\j<n/\KW c n (k (c i j)) Q
theorem KW.bind{α β:Type}{c:Nat->Nat->Bool}{n:Nat}{f:α->M5 β}{Q:β->Prop}:∀{t:M5 α},KW c n t (λa=>KW c n (f a) Q)->KW c n (t.bind f) Q
 |.ret _,h=>h
 |.ask _ _ k,h=>⟨h.1,h.2.1,KW.bind (t:=k _) h.2.2⟩
theorem KW.mono{α:Type}{c:Nat->Nat->Bool}{n:Nat}{Q Q':α->Prop}(hq:∀a,Q a->Q' a):∀{t:M5 α},KW c n t Q->KW c n t Q'
 |.ret a,h=>hq a h
 |.ask _ _ k,h=>⟨h.1,h.2.1,KW.mono hq (t:=k _) h.2.2⟩
theorem KW.wp{α:Type}{n:Nat}{c:Nat->Nat->Bool}{cmp:Nat->Nat->(Bool->aP->Prop)->aP->Prop}{s:aP}{Q:α->Prop}(hc:∀i j C,i<n->j<n->C (c i j) s->cmp i j C s):
  ∀t:M5 α,KW c n t Q->t.kasWp cmp (λa s'=>s'=s/\Q a) s
 |.ret _,h=>⟨rfl,h⟩
 |.ask i j k,h=>hc i j _ h.1 h.2.1 (KW.wp hc (k (c i j)) h.2.2)
structure Ord (c:Nat->Nat->Bool) (n:Nat):Prop where
 tr:∀i j k,i<n->j<n->k<n->c i j=true->c j k=true->c i k=true
 tot:∀i j,i<n->j<n->i≠j->c i j=false->c j i=true
 asy:∀i j,i<n->j<n->c i j=true->c j i=false
structure Pm (n:Nat) (p:Array Nat):Prop where
 sz:p.size=n
 pm:p.toList.Perm (bJ n)
theorem Pm.lt(h:Pm n p)(i:Nat)(hi:i<n):p.getD i 0<n:=by
 have a:=h.sz;have e:p.getD i 0=p[i]:=by simp[nY,a,hi]
 rw[e];exact cI.mp (h.pm.mem_iff.mp (by simp))
theorem Pm.ne(h:Pm n p)(hi:i<n)(hj:j<n)(hij:i≠j):p.getD i 0≠p.getD j 0:=by
 have a:=h.sz;have b:p.getD i 0=p.toList[i]'(by simp[a,hi]):=by simp[nY,a,hi]
 have c:p.getD j 0=p.toList[j]'(by simp[a,hj]):=by simp[nY,a,hj]
 rw[b,c];have d:=h.pm.nodup_iff.mpr List.nodup_range;intro z;exact hij ((nO d).mp z)
theorem Pm.of(h:Pm n p)(z:q.Perm p):Pm n q:=⟨by rw[z.size_eq];exact h.sz,(Array.perm_iff_toList_perm.mp z).trans h.pm⟩
def Up(c:Nat->Nat->Bool)(p:Array Nat)(m:Nat):Prop:=∀i j,i<j->j<m->c (p.getD i 0) (p.getD j 0)=true
def Dn(c:Nat->Nat->Bool)(p:Array Nat)(m:Nat):Prop:=∀i j,i<j->j<m->c (p.getD j 0) (p.getD i 0)=true
section
variable {c:Nat->Nat->Bool} {n:Nat}
theorem zdA(O:Ord c n){p:Array Nat}(hp:Pm n p):∀(f m:Nat),1<=m->m+f<=n->Up c p m->KW c n (kas_asc p f m) (λr=>m<=r/\r<=m+f/\Up c p r/\(r<m+f->c (p.getD r 0) (p.getD (r-1) 0)=true))
 |0,m,_,_,u=>⟨aq _,aq _,u,λz=>absurd z (eQ _)⟩
 |f+1,m,h1,h2,u=>by
  refine⟨hp.lt m (by omega),hp.lt (m-1) (by omega),?_⟩;cases e:c (p.getD m 0) (p.getD (m-1) 0) with
  |true=>exact⟨aq _,by omega,u,λ_=>e⟩
  |false=>
   have hs:c (p.getD (m-1) 0) (p.getD m 0)=true:=O.tot _ _ (hp.lt m (by omega)) (hp.lt (m-1) (by omega)) (hp.ne (by omega) (by omega) (by omega)) e;have d:Up c p (m+1):=λi j a hj=>by
    by_cases b:j<m
    ·exact u i j a b
    ·have g:j=m:=by omega
     subst g;by_cases k:i=j-1
     ·rw[k];exact hs
     ·exact O.tr _ _ _ (hp.lt i (by omega)) (hp.lt (j-1) (by omega)) (hp.lt j (by omega)) (u i (j-1) (by omega) (by omega)) hs
   refine KW.mono (λr h=>?_) (zdA O hp f (m+1) (by omega) (by omega) d);exact⟨by omega,by omega,h.2.2.1,λz=>h.2.2.2 (by omega)⟩
theorem zel(O:Ord c n){p:Array Nat}(hp:Pm n p):∀(f m:Nat),1<=m->m+f<=n->Dn c p m->KW c n (kas_desc f p m 0) (λr=>r.1=p/\r.2.2=0/\m<=r.2.1/\r.2.1<=m+f/\Dn c p r.2.1)
 |0,m,_,_,u=>⟨rfl,rfl,aq _,aq _,u⟩
 |f+1,m,h1,h2,u=>by
  refine⟨hp.lt m (by omega),hp.lt (m-1) (by omega),?_⟩;cases e:c (p.getD m 0) (p.getD (m-1) 0) with
  |true=>
   have u':Dn c p (m+1):=λi j a hj=>by
    by_cases b:j<m
    ·exact u i j a b
    ·have d:j=m:=by omega
     subst d;by_cases g:i=j-1
     ·rw[g];exact e
     ·exact O.tr _ _ _ (hp.lt j (by omega)) (hp.lt (j-1) (by omega)) (hp.lt i (by omega)) e (u i (j-1) (by omega) (by omega))
   refine KW.mono (λr h=>?_) (zel O hp f (m+1) (by omega) (by omega) u');exact⟨h.1,h.2.1,by omega,by omega,h.2.2.2.2⟩
  |false=>
   have k:=O.tot _ _ (hp.lt m (by omega)) (hp.lt (m-1) (by omega)) (hp.ne (by omega) (by omega) (by omega)) e;refine⟨hp.lt (m-1) (by omega),hp.lt m (by omega),?_⟩;rw[k];exact⟨rfl,rfl,aq _,(show m<=m+(f+1) by omega),u⟩
theorem rev_getD(hm:m<=p.size)(k:Nat):(IV p 0 m).getD k 0=if k<m then p.getD (m-1-k) 0 else p.getD k 0:=by
 have q:=getElem?_mirror_all (i:=0) hm k;have e:∀(a:Array Nat) j,a.getD j 0=(a[j]?).getD 0:=λa j=>by simp[pB]
 unfold IV;rw[e,q];by_cases h:k<m
 ·rw[if_pos ⟨bw _,h⟩,if_pos h,e,bO]
 ·rw[if_neg (by omega),if_neg h,e]
theorem zf7(O:Ord c n)(hp:Pm n p)(h1:1<=m)(h2:m<=n)(u:Dn c p m):KW c n (kas_tail3 m n p) (λr=>1<=r.1/\r.1<=n/\Pm n r.2/\Up c r.2 r.1):=by
 have b:Pm n (IV p 0 m):=hp.of (mirror_perm _ _ _ _);have a:m<=p.size:=by rw[hp.sz];exact h2
 have d:Up c (IV p 0 m) m:=λi j hij e=>by
  rw[rev_getD a,rev_getD a,if_pos (by omega),if_pos e];exact u _ _ (by omega) (by omega)
 refine KW.bind (KW.mono (λr h=>?_) (zdA O b (n-m) m h1 (by omega) d));exact⟨by omega,by omega,b,h.2.2.1⟩
theorem zgF(O:Ord c n)(hp:Pm n p)(h2:2<=n):KW c n (kas_count n p) (λr=>1<=r.1/\r.1<=n/\Pm n r.2/\Up c r.2 r.1):=by
 refine KW.bind (KW.mono (λr h=>?_) (zdA O hp (n-1) 1 (aq _) (by omega) (λi j a o=>by omega)));obtain⟨b,h3,u,s⟩:=h;by_cases e:r=n
 ·subst e;rw[if_pos (by simp)];exact⟨b,aq _,hp,u⟩
 ·rw[if_neg (by simpa using e)];by_cases f:r>1
  ·rw[if_pos f];refine⟨hp.lt 0 (by omega),hp.lt (r-1) (by omega),?_⟩;rw[u 0 (r-1) (by omega) (by omega)];exact⟨b,by omega,hp,u⟩
  ·rw[if_neg f];have t:r=1:=by omega
   subst t;have v:=s (by omega);have d:Dn c p 2:=λi j a o=>by
    have w:i=0:=by omega
    have x:j=1:=by omega
    subst w;subst x;exact v
   refine KW.bind (KW.mono (λr h=>?_) (zel O hp (n-2) 2 (by omega) (by omega) d));obtain⟨g,k,y,A,l⟩:=h;obtain⟨q,m,z⟩:=r;simp only at g k y A l;subst g;subst k;exact zf7 O hp (show 1<=m by omega) (show m<=n by omega) l
theorem JS(O:Ord c n){p:Array Nat}(hp:Pm n p){k:Nat}(hk:k<n)(u:Up c p k):∀(f l r:Nat),l<=r->r<=k->r-l<=f->(∀i,i<l->c (p.getD i 0) (p.getD k 0)=true)->(∀i,r<=i->i<k->c (p.getD k 0) (p.getD i 0)=true) ->
  KW c n (kas_place p k f l r) (λl=>l<=k/\(∀i,i<l->c (p.getD i 0) (p.getD k 0)=true)/\(∀i,l<=i->i<k->c (p.getD k 0) (p.getD i 0)=true))
 |0,l,r,h1,h2,h3,lo,hi=>⟨by omega,lo,λi a b=>hi i (by omega) b⟩
 |f+1,l,r,h1,h2,h3,lo,hi=>by
  unfold kas_place;by_cases hlr:l>=r
  ·rw[if_pos hlr];exact⟨by omega,lo,λi a b=>hi i (by omega) b⟩
  ·rw[if_neg hlr];have hm:(l+r) / 2<k:=by omega
   refine⟨hp.lt k hk,hp.lt _ (by omega),?_⟩;cases e:c (p.getD k 0) (p.getD ((l+r) / 2) 0) with
   |true=>
    refine JS O hp hk u f l ((l+r) / 2) (by omega) (by omega) (by omega) lo λi a b=>?_;by_cases d:i=(l+r) / 2
    ·rw[d];exact e
    ·exact O.tr _ _ _ (hp.lt k hk) (hp.lt _ (by omega)) (hp.lt i (by omega)) e (u _ _ (by omega) b)
   |false=>
    dsimp only;have g:=O.tot _ _ (hp.lt k hk) (hp.lt _ (by omega)) (hp.ne hk (by omega) (by omega)) e;refine JS O hp hk u f ((l+r) / 2+1) r (by omega) h2 (by omega) (λi a=>?_) hi;by_cases d:i=(l+r) / 2
    ·rw[d];exact g
    ·exact O.tr _ _ _ (hp.lt i (by omega)) (hp.lt _ (by omega)) (hp.lt k hk) (u _ _ (by omega) (by omega)) g
theorem zc3(hk:k<p.size)(hl:l<=k)(i:Nat):(bubble p k (k-l)).getD i 0=if i=l then p.getD k 0 else if l<i/\i<=k then p.getD (i-1) 0 else p.getD i 0:=by
 have q:=getElem?_bubble hk (k-l) (by omega) i;have e:∀(a:Array Nat) j,a.getD j 0=(a[j]?).getD 0:=λa j=>by simp[pB]
 rw[show k-(k-l)=l by omega]at q;rw[e,e p k,e p (i-1),e p i,q];split
 ·rfl
 ·split
  ·rfl
  ·rfl
theorem zfK(O:Ord c n):∀(f:Nat) {p:Array Nat} {k:Nat},Pm n p->1<=k->k+f=n->Up c p k->KW c n (kas_bin f p k) (λq=>Pm n q/\Up c q n)
 |0,p,k,hp,h1,h2,u=>by
  have:k=n:=by omega
  subst this;exact⟨hp,u⟩
 |f+1,p,k,hp,h1,h2,u=>by
  refine KW.bind (KW.mono (λl h=>?_) (JS O hp (show k<n by omega) u k 0 k (bw _) (aq _) (by omega) (λi s=>by omega) (λi a b=>by omega)));obtain⟨d,t,s⟩:=h;have e:k<p.size:=by rw[hp.sz];omega
  refine zfK O f (hp.of (bubble_perm _ _ _)) (by omega) (by omega) λi j hij hj=>?_;rw[zc3 e d,zc3 e d];by_cases g:i=l
  ·rw[if_pos g,if_neg (by omega),if_pos (by omega)];exact s _ (by omega) (by omega)
  ·rw[if_neg g];by_cases m:l<i/\i<=k
   ·rw[if_pos m,if_neg (by omega),if_pos (by omega)];exact u _ _ (by omega) (by omega)
   ·rw[if_neg m];by_cases o:j=l
    ·rw[if_pos o];exact t _ (by omega)
    ·rw[if_neg o];by_cases r:l<j/\j<=k
     ·rw[if_pos r];exact u _ _ (by omega) (by omega)
     ·rw[if_neg r];exact u _ _ (by omega) (by omega)
theorem zh9(O:Ord c n)(h2:2<=n):KW c n (kas_sort n) (λp=>Pm n p/\Up c p n):=by
 have e:Pm n (List.toArray (bJ n)):=⟨by simp,by simp⟩
 refine KW.bind (KW.mono (λr h=>?_) (zgF O e h2));obtain⟨a,h3,b,u⟩:=h;by_cases d:r.1<n
 ·rw[if_pos d,Nat.max_eq_left a];exact zfK O _ b a (by omega) u
 ·rw[if_neg d];have:r.1=n:=by omega
  rw[this]at u;exact⟨b,u⟩
end
section
variable {prog:bx} {w:bU} {A:dB} {E:aD->aP->Prop} {s:aP}
theorem ziU(hl:s.heap.IsList l items)(hb:s.heap.IsList b items2)(hi:gw items.toList ns)(hj:gw items2.toList ms)(hu:A.units+1<d7)(h:Q (lexLt ns ms) s):bH (bG prog w) A (M6 oneType' (.ref l) (.ref b)) Q E s:=by
 obtain⟨⟨cls,i,data,j⟩,a,k,n,m⟩:=id hl;obtain⟨⟨cls2,c,data2,d⟩,e,f,o,g⟩:=id hb;subst k m f g;refine ak (wpAny_cRoomFor (by omega) (ak (wpAny_callSpecialIfBound?_slot ⟨_,a,rfl⟩ PySem.F.slot_list_lt
  (lq PySem.F.slot_list_lt ⟨_,a,rfl⟩ PySem.F.entry_list_lt (PySem.F.args_list_lt_2 _ _) (VV l b items items2 n o i c j d ns ms hi hj) ⟨a,e,?_⟩))))
 exact dR h
theorem zaK{α:Type}(d:α)(zs:List α){p:List Nat}(h:p.Perm (bJ zs.length)):(p.map λi=>zs.getD i d).Perm zs:=by
 have e:(bJ zs.length).map (λi=>zs.getD i d)=zs:=by
  apply km;intro i;rw[ao];by_cases a:i<zs.length
  ·rw[eH a,dw,aN,aj a];rfl
  ·rw[cj (by simpa using a),cj (by omega)];rfl
 have q:=h.map λi=>zs.getD i d;rw[e]at q;exact q
end
end HT
namespace L2
open PySem PySem.Spec PyProof.Rows
section
variable {X:Cx}
theorem Qa:∀{zs:ZB} {its:List aD},Vals (zs.map λz=>V.ref z.1) its->its=zs.map λz=>aU z.1
 |[],its,h=>by cases h;rfl
 |z::zs,its,h=>by
  cases h with
  |cons r t=>rw[Qa t];cases r;rfl
theorem Wg:∀(zs:ZB),Vals (zs.map λz=>V.ref z.1) (zs.map λz=>aU z.1)
 |[]=>.nil
 |z::zs=>.cons rfl (Wg zs)
end
section
variable {κ:Type} [DecidableEq κ]
def xn(kvs:List (κ×V))(k:κ):Option V:=(kvs.find? λkv=>decide (kv.1=k)).map (·.2)
def putK(kvs:List (κ×V))(k:κ)(v:V):List (κ×V):=
 if (kvs.any λkv=>decide (kv.1=k))=true then kvs.map (λkv=>if kv.1=k then (kv.1,v) else kv) else kvs++[(k,v)]
theorem vQ{k:κ}(e:p.1=k):xn (p::r) k=some p.2:=by simp[xn,oV,e]
theorem vX{k:κ}(e:¬ p.1=k):xn (p::r) k=xn r k:=by simp[xn,oV,e]
theorem jZ(k:κ):∀kvs:List (κ×V),(kvs.any λkv=>decide (kv.1=k))=(xn kvs k).isSome
 |[]=>rfl
 |p::r=>by
  rw[lO];by_cases e:p.1=k
  ·simp only[vQ e,decide_eq_true e,Bool.true_or,DR]
  ·rw[vX e,decide_eq_false e,Bool.false_or];exact jZ k r
theorem zcD(k j:κ)(y:V):∀kvs:List (κ×V),xn (kvs.map λkv=>if kv.1=k then (kv.1,y) else kv) j=(xn kvs j).map λx=>if j=k then y else x
 |[]=>rfl
 |p::r=>by
  have ih:=zcD k j y r;rw[bC];by_cases h:p.1=k
  ·rw[if_pos h];by_cases e:p.1=j
   ·rw[vQ (p:=(p.1,y)) e,vQ e,dw,if_pos (e.symm.trans h)]
   ·rw[vX (p:=(p.1,y)) e,vX e,ih]
  ·rw[if_neg h];by_cases e:p.1=j
   ·rw[vQ e,vQ e,dw,if_neg (λz=>h (e.trans z))]
   ·rw[vX e,vX e,ih]
theorem zaV(k j:κ)(y:V):∀kvs:List (κ×V),xn kvs k=none->xn (kvs++[(k,y)]) j=if j=k then some y else xn kvs j
 |[],_=>by
  by_cases e:k=j
  ·rw[if_pos e.symm];exact vQ (p:=(k,y)) e
  ·rw[if_neg (λz=>e z.symm)];exact vX (p:=(k,y)) e
 |p::r,hn=>by
  rw[sr];have hk:¬ p.1=k:=λz=>by rw[vQ z]at hn;cases hn
  rw[vX hk]at hn;have a:=zaV k j y r hn;by_cases e:p.1=j
  ·rw[vQ e,vQ e,if_neg (λz=>hk (e.trans z))]
  ·rw[vX e,vX e,a]
theorem Vx(kvs:List (κ×V))(k j:κ)(y:V):xn (putK kvs k y) j=if j=k then some y else xn kvs j:=by
 unfold putK;by_cases a:(kvs.any λb=>decide (b.1=k))=true
 ·rw[if_pos a,zcD];rw[jZ]at a;by_cases e:j=k
  ·obtain⟨x,c⟩:=rH.mp a;rw[if_pos e,e,c,dw,if_pos rfl]
  ·rw[if_neg e];cases xn kvs j with
   |none=>rfl
   |some x=>rw[dw,if_neg e]
 ·rw[if_neg a];refine zaV k j y kvs ?_;rw[jZ]at a;cases q:xn kvs k with
  |none=>rfl
  |some x=>rw[q]at a;exact (a rfl).elim
theorem Xr(kvs:List (κ×V))(k:κ)(v:V):(putK kvs k v).length<=kvs.length+1:=by
 unfold putK;split
 ·rw[aa];omega
 ·rw[aF,bF,BL];omega
theorem XS{k:κ}(v:V)(h:xn kvs k=none):putK kvs k v=kvs++[(k,v)]:=by
 unfold putK;rw[jZ,h];exact if_neg (by decide)
theorem RelO.isSome_eq(r:RelO o u):o.isSome=u.isSome:=by
 cases o with
 |none=>cases u with
  |none=>rfl
  |some _=>exact (show False from r).elim
 |some _=>cases u with
  |none=>exact (show False from r).elim
  |some _=>rfl
theorem RelO.getD(r:RelO o u)(rd:RelV d d'):RelV (o.getD d) (u.getD d'):=by
 cases o with
 |none=>cases u with
  |none=>exact rd
  |some _=>exact (show False from r).elim
 |some _=>cases u with
  |none=>exact (show False from r).elim
  |some _=>exact r
theorem KV.keys{vs:List (κ×aD)}(r:KV kvs vs):kvs.map (·.1)=vs.map (·.1):=by
 unfold KV at r
 induction r with
 |nil=>rfl
 |cons h t a=>rw[bC,bC,a,h.1]
end
theorem zjD(r:RelV (kV k) u):(wU P w).is k u=true:=by
 cases k with
 |inl i=>obtain⟨t,e⟩:=(show ∃t,u=lA i t from r);subst e;exact zcq P w i t
 |inr x=>obtain⟨t,e⟩:=(show ∃t,u=nH x t from r);subst e;exact zcj P w x t
theorem zaW{P:bx}{w:bU}:∀{ks:List Key} {us:List aD},Vals (ks.map kV) us->ItemsAre (wU P w) ks us
 |[],_,r=>by rw[fG]at r;cases r;exact .nil
 |k::ks,_,r=>by
  rw[bC]at r;cases r with
  |cons h t=>exact .cons (zjD h) (zaW t)
abbrev KT(H:Hp):List (List Key×V)->List (List Key×au×aD)->Prop:=Paired λp q=>p.1=q.1/\H q.2.1=some (.tup (p.1.map kV))/\RelV p.2 q.2.2
theorem KT.val(r:KT H kvs xs)(k:List Key):RelO (xn kvs k) ((GZ xs k).map (·.2)):=by
 induction r with
 |nil=>exact iC
 |@cons p q ps a h t f=>
  obtain⟨d,_,g⟩:=h;by_cases e:p.1=k
  ·have c:=d.symm.trans e;have b:GZ (q::a) k=some q.2:=by simp[GZ,oV,c]
   rw[vQ e,b];exact g
  ·have c:¬ q.1=k:=λz=>e (d.trans z);have b:GZ (q::a) k=GZ a k:=by simp[GZ,oV,c]
   rw[vX e,b];exact f
theorem KT.repl(r:KT H kvs xs)(k:List Key)(ry:RelV y u):
  KT H (kvs.map λkv=>if kv.1=k then (kv.1,y) else kv) (xs.map (putAt k u)):=by
 induction r with
 |nil=>exact .nil
 |@cons p q ps qs h t c=>
  rw[bC,bC];refine .cons ?_ c;obtain⟨a,b,d⟩:=h;unfold putAt;by_cases e:p.1=k
  ·rw[if_pos e,if_pos (a.symm.trans e)];exact⟨a,b,ry⟩
  ·rw[if_neg e,if_neg (λz=>e (a.trans z))];exact⟨a,b,d⟩
theorem KT.put(r:KT H kvs xs)(k:List Key)(hb:H b=some (.tup (k.map kV)))(ry:RelV y u):
  KT H (putK kvs k y) (lD xs k b u):=by
 have e:(kvs.any λa=>decide (a.1=k))=(GZ xs k).isSome:=by
  rw[jZ,(r.val k).isSome_eq,Ew]
 unfold putK lD;rw[e];by_cases q:(GZ xs k).isSome=true
 ·rw[if_pos q,if_pos q];exact r.repl k ry
 ·rw[if_neg q,if_neg q];exact Paired.snoc r ⟨rfl,hb,ry⟩
theorem KT.keeps(r:KT H kvs xs)(ht:∀b ys,H b=some (.tup ys)->H' b=some (.tup ys)):KT H' kvs xs :=
 Paired.mapP r λ_ _ z=>⟨z.1,ht _ _ z.2.1,z.2.2⟩
section
variable {P:bx} {w:bU} {H:Hp} {h:dj} {a:au}
theorem Q4(ok:HOk P w H h)(e:H a=some (.tup (ks.map kV))):(gR (wU P w)).is h ks a:=by
 obtain⟨_,b,r,o,c,d,n,f⟩:=(show ObjOk P w H h a (.tup (ks.map kV)) from ok a _ e)
 exact⟨o,b.toArray,n,c,d,f,by simpa using zaW r⟩
end
def DGet(H:Hp)(a:au)(y:V)(r:Option V):Prop :=
 (∃kvs k,Rd H a (.dK kvs)/\y=kV k/\r=xn kvs k)\/∃kvs k b,Rd H a (.dT kvs)/\y=.ref b/\H b=some (.tup (k.map kV))/\r=xn kvs k
def DPut(H:Hp)(a:au)(y v:V)(H':Hp):Prop :=
 (∃kvs k,H a=some (.dK kvs)/\y=kV k/\kvs.length<aA/\H'=upd H a (.dK (putK kvs k v))) \/
 ∃kvs k b,H a=some (.dT kvs)/\y=.ref b/\H b=some (.tup (k.map kV))/\kvs.length<aA/\H'=upd H a (.dT (putK kvs k v))
theorem DGet.k{k:Key}(e:H a=some (.dK kvs)):DGet H a (kV k) (xn kvs k):=.inl ⟨kvs,k,.inl e,rfl,rfl⟩
theorem DPut.k{k:Key}(e:H a=some (.dK kvs))(hl:kvs.length<aA):DPut H a (kV k) v (upd H a (.dK (putK kvs k v))):=.inl ⟨kvs,k,e,rfl,hl,rfl⟩
section
variable {X:Cx} {pins:List (au×kZ)} {Z:St} {H:Hp} {s:aP} {a:au} {y v:V} {u r:aD} {o:Option V} {A:dB} {E:aD->aP->Prop}
theorem Inv.big(I:Inv X pins Z H s):gM<s.heap.objs.size:=by
 have h:=(I.mod.glob.keeps I.bk).lt;exact fL (by decide) h
theorem zhB(I:Inv X pins Z H s)(mu:Mut (H a))(hs:mO a s.heap h')(he:∃q,h'.get? a=some q)(new:ObjOk X.prog X.w (upd H a ob) h' a ob):
  Inv X pins Z (upd H a ob) { s with heap:=h',toks:=t' } :=
 I.write mu (.inl rfl) (λb q c z=>(hs.2 b c).trans z) he new
end
section
variable {X:Cx} {pins:List (au×kZ)} {Z:St} {H:Hp} {s:aP} {a:au} {kvs:List (Key×V)} {k:Key} {u:aD} {A:dB} {E:aD->aP->Prop}
end
def ziR(i:dN):Prop:=∀ov iv,Cw i false ov iv=Mp [ov,iv] (ph ov iv)
theorem zhC{T id:String}(hl:Bp (.type T) "__getitem__"= pure (some (.builtin id)))(hs:ziR slice)(h:bH (bG prog w) A (dZ value env) (λo s₁=>bH (bG prog w) A (dZ slice env) (λi s₂=>s₂.TypeIs o T/\bH (bG prog w) A (ph o i) Q E s₂) E s₁) E s):
  bH (bG prog w) A (dZ (.Subscript value slice pos) env) Q E s:=by
 refine DG (dC h (λo s₁ h₁=>dC h₁ (λi s₂ h₂=>?_) λ_ _ x=>x) λ_ _ x=>x);obtain⟨b,h₂⟩:=h₂;refine ak ?_;refine ak (BJ b hl ?_);have a:bH (bG prog w) A (Cw slice false o i) (λr s₃=>bH (bG prog w) A (letTemporaryGo value o r >>= λ_=>pure r) Q E s₃) E s₂:=by
  rw[hs o i];exact wpAny_operating (dC h₂ (λr s₃ h₃=>ak (wpAny_letTemporaryGo (aG h₃))) λ_ _ x=>x)
 first
  |exact aG (ak a)
  |exact ak (aG (ak a))
  |exact ak a
section
variable {X:Cx} {o i e value:dN} {pos pos' tpos:nj} {td ty tv:TE}
end
theorem zgX(h:dj)(hb:gM<h.objs.size):ObjOk P w H (h.push { cls:=.type "dict",data:=.dict #[] }) h.objs.size (.dK []):=
 ⟨bw _,beq_eq_false_iff_ne.mpr (cF (bj hb)),[],.nil,Gh h⟩
def zg2:TE:=λ_ H Q=>∀p,H p=none->Q (.ref p) (upd H p (.dK []))
section
variable {X:Cx} {pos:nj}
theorem zga:PE X (.Dict [] [] pos) zg2:=λpins s Z H Q I h=>
 Fq ⟨.ref s.heap.objs.size,_,I.laid (λ_ _ q=>az _ q) (aq _) (zgX s.heap I.big),rfl,h _ (I.hok.fresh (aq _))⟩
end
structure M1 (X:Cx) (o:dN) (m:bZ) (apos:nj) (e:dN) (cpos:nj):Prop where
 base:lL o m X.env (dZ o X.env)=dZ o X.env
 few:((gO cpos (bM [e] X.env)).all (λx=>!x.1) && (rW cpos (mG [] X.env)).all (λx=>x.1.isSome)
  && decide (([e]:List dN).length+([]:List Gn).length+(if ([]:List Gn).isEmpty then 0 else 1)<30))=true
 line:(apos.endLine == cpos.line)=true
 trees:gO cpos (bM [e] X.env)=[(false,dZ e X.env)]
section
variable {X:Cx} {pins:List (au×kZ)} {Z:St} {H:Hp} {s:aP} {a:au} {y d:V} {u r:aD} {o:Option V} {A:dB} {E:aD->aP->Prop}
end
section
variable {X:Cx} {o e f:dN} {apos cpos:nj} {td ty tx:TE}
end
section
variable {X:Cx} {pins:List (au×kZ)} {Z:St} {H:Hp} {s:aP} {a:au} {kvs:List (Key×V)} {A:dB} {E:aD->aP->Prop}
end
section
variable {X:Cx} {pins:List (au×kZ)} {Z:St} {H:Hp} {s:aP} {a:au} {y:V} {u:aD} {A:dB} {E:aD->aP->Prop}
end
section
variable {X:Cx}
end
section
variable {κ:Type} [DecidableEq κ]
theorem zfL{k:κ}(h:xn kvs k=none):¬ k∈kvs.map (·.1):=by
 intro m;obtain⟨p,a,e⟩:=aQ.mp m;have q:(kvs.any λb=>decide (b.1=k))=true:=cX.mpr ⟨p,a,decide_eq_true e⟩;rw[jZ,h]at q;exact absurd q (by simp)
theorem zeq{k:κ}(h:xn kvs k=some v):k∈kvs.map (·.1):=by
 have q:(kvs.any λa=>decide (a.1=k))=true:=by
  rw[jZ,h]
  all_goals rfl
 obtain⟨p,b,e⟩:=cX.mp q;exact aQ.mpr ⟨p,b,of_decide_eq_true e⟩
theorem zef:∀{l:List κ} {k:κ},l.Nodup->¬ k∈l->(l++[k]).Nodup
 |[],k,_,_=>by simp
 |a::r,k,h,hk=>by
  obtain⟨h1,h2⟩:=iM.mp h;refine iM.mpr ⟨λm=>?_,zef h2 λm=>hk (aW.mpr (lK m))⟩;rcases aZ.mp m with q | q
  ·exact h1 q
  ·exact hk (aW.mpr (bf (bu.mp q).symm))
theorem zhj{k:κ}(v:V)(hn:(kvs.map (·.1)).Nodup)(h:xn kvs k=none):((putK kvs k v).map (·.1)).Nodup:=by
 rw[XS v h,aH];exact zef hn (zfL h)
end
end L2
namespace HT
open PySem PyProof.Rows PySem.W
section
variable {prog:bx} {w:bU} {A:dB} {E:aD->aP->Prop} {s:aP}
theorem zd5(ho:s.heap.get? a=some (dI "list" vs.toArray n0))(h60:vs.length<=60)(O:Ord c vs.length)(hkind:∀G:dj,(∀b o,b≠a->s.heap.get? b=some o->G.get? b=some o)->2<=vs.length->∀Q:SortKind->aP->Prop,Q κ { s with heap:=G }->bH (bG prog w) A (keyKind' vs.toArray) Q E { s with heap:=G })(hcmp:∀G:dj,(∀b o,b≠a->s.heap.get? b=some o->G.get? b=some o)->∀i j (C:Bool->aP->Prop),i<vs.length->j<vs.length->C (c i j) { s with heap:=G }->Ey prog w A κ vs i j C { s with heap:=G })(h:∀p:List Nat,p.Perm (bJ vs.length)->p.Pairwise (λi j=>c i j=true)->P (.done (.ret .none)) { s with heap:=Ma s.heap a vs (p.map λi=>vs.getD i eY).toArray }):
  bH (bG prog w) A (Gq.«list.sort» ⟨[.ref a],[]⟩) P E s:=by
 rw[list_sort_plain];have d:vs.length<=aA:=aB h60 (by decide);have L:=aM ho;obtain⟨y,q⟩:∃y,(s.heap.update a (dh λ_=>#[])).get? a=some (dI "list" #[] y):=⟨_,oW ho (λ_=>#[])⟩
 refine ak (Ez ho rfl (ak (iV ho rfl (ak (rC q rfl (ak (Hg (ak (rP (dg ?_) (bw _))) (by exact d))))) (by exact d) (bw _))));generalize z:(((s.heap.update a (dh λ_=>(#[]))).push (dI "tuple" vs.toArray 0)).push (dI "list" #[] 0))=G;have f:G.get? a=some (dI "list" #[] y):=by
  rw[<-z,fP _ _ _ (by rw[pQ,ik];exact bj (kJ L)),fP _ _ _ (by rw[ik];exact bj L)];exact q
 have k:∀b o,b≠a->s.heap.get? b=some o->G.get? b=some o:=λb o T e=>by
  have r:=aM e;rw[<-z,fP _ _ _ (by rw[pQ,ik];exact bj (kJ r)),fP _ _ _ (by rw[ik];exact bj r),dF _ _ (cF T)];exact e
 dsimp only;have N:∀m:Array aD,G.update a (dh λ_=>m)=Ma s.heap a vs m:=λm=>by rw[<-z];rfl
 by_cases n:vs.toArray.size<2
 ·rw[if_pos n,if_pos n];refine ak (aG ?_);refine ak (aG ?_);rw[aJ]at n;have t:(M7 (SortSt.mk' general' (vs.toArray.zip vs.toArray) #[] 7 none)).map (·.2)=((bJ vs.length).map λi=>vs.getD i eY).toArray:=by
   apply Ft.mp;rw[Fv,Fw,Fx (by simp)];apply km;intro i;rw[ao];by_cases l:i<vs.length
   ·rw[eH l,dw,aN,aj l];rfl
   ·rw[cj (by simpa using l),cj (by simpa using l)];rfl
  rw[t];refine ak (rC f rfl (ak (iV f rfl ?_ (bw _) (by rw[aJ,aa,cg];exact gG d))));simp only[bne_self_eq_false,dG,if_false];rw[N];refine aG (h _ (Hh _) ?_);rw[gC];intro i j l x u;rw[cg]at x;omega
 ·rw[if_neg n,if_neg n];rw[aJ]at n;refine ak (hkind G k (by omega) _ ?_);have B:=
   KW.wp (λi j C l x U=>hcmp G k i j C l x U) _ (zh9 O (by omega))
  refine ak (dC (kat_run (Q:=λg D=>∃p:Array Nat,D={ s with heap:=G }/\M7 g=p.map (kas_item (vs.toArray.zip vs.toArray))/\K3 g=none/\Pm vs.length p/\Up c p vs.length)
   rfl (by omega) (by omega) (λp g D _ V W R=>⟨p,R.1,V,W,R.2⟩) B) ?_ λ_ _ e=>e)
  rintro⟨⟨⟩,g⟩ D ⟨p,rfl,F,H,v,I⟩;have J:p.toList.length=vs.length:=by rw[v.pm.length_eq,cg]
  have K:(p.toList.map λi=>vs.getD i eY).length=vs.length:=by rw[aa,J]
  rw[kat_snds rfl F];refine ak (rC f rfl (ak (iV f rfl ?_ (bw _) (by rw[aJ,K];exact gG d))));rw[H];simp only[bne_self_eq_false,dG,if_false];rw[N];refine aG (h _ v.pm ?_);rw[gC];intro i j l x u;have S:=I i j u (by omega);have X:p.getD i 0=p.toList[i]:=by
   have:i<p.size:=by omega
   simp[nY,this]
  have Y:p.getD j 0=p.toList[j]:=by
   have:j<p.size:=by omega
   simp[nY,this]
  rw[X,Y]at S;exact S
theorem zeJ{Pv:List aD->Prop}(h60:n<=60)(hcol:∀R:List aD->aP->Prop,(∀h' tk vs,(∀b o,s.heap.get? b=some o->h'.get? b=some o)->vs.length=n->Pv vs->R vs { s with heap:=h',toks:=tk })->bH (bG prog w) A.in1 (collect (.ref r)) R E s)(hord:∀vs,vs.length=n->Pv vs->∃c:Nat->Nat->Bool,Ord c n /\
   (∀G tk,(∀b o,s.heap.get? b=some o->G.get? b=some o)->2<=n->∀Q:SortKind->aP->Prop,Q κ { s with heap:=G,toks:=tk }->bH (bG prog w) A.in1.in1 (keyKind' vs.toArray) Q E { s with heap:=G,toks:=tk }) /\
   (∀G tk,(∀b o,s.heap.get? b=some o->G.get? b=some o)->∀i j (C:Bool->aP->Prop),i<n->j<n->C (c i j) { s with heap:=G,toks:=tk }->Ey prog w A.in1.in1 κ vs i j C { s with heap:=G,toks:=tk }) /\
   ∀(p:List Nat) (h' h'':dj) (tk e:Nat),p.Perm (bJ n)->p.Pairwise (λi j=>c i j=true)->(∀b o,s.heap.get? b=some o->h'.get? b=some o)->(∀b o,h'.get? b=some o->h''.get? b=some o)->h''.get? h'.objs.size=some (dI "list" (p.map λi=>vs.getD i eY).toArray e)->Q (.ref h'.objs.size) { s with heap:=h'',toks:=tk }):
  bH (bG prog w) A (call (.builtin "sorted") [.ref r]) Q E s:=by
 refine Calls.call_function_entry K4 IW JC (args_sorted1 _) ?_;refine ak (aG (ak (hcol _ λh' tk vs h t v=>?_)));obtain⟨c,O,a,f,k⟩:=hord vs t v;subst t;have l:vs.length<=aA:=aB h60 (by decide);refine ak (rP ?_ l);have d:(h'.push (dI "list" vs.toArray 0)).get? h'.objs.size=some (dI "list" vs.toArray 0):=bz _ rfl;have u:∀b o,s.heap.get? b=some o->b≠h'.objs.size:=λb o q=>bj (aM (h b o q));refine ak (dg (ig Hi ⟨_,d,rfl⟩ Gi (zd5 d h60 O (λG m x y z=>a G tk (λb o q=>m b o (u b o q) (az _ (h b o q))) x y z)
  (λG m i j C B D F=>f G tk (λb o q=>m b o (u b o q) (az _ (h b o q))) i j C B D F) λp H I=>⟨_,rfl,?_⟩) (args_list_sort _)))
 refine aG ⟨_,rfl,?_⟩;obtain⟨e,J⟩:=sortedHeap_at d;refine k p h' _ tk e H I h (λb o q=>?_) J;have g:=aM q;rw[sortedHeap_old (bj g) (by rw[pQ];exact kJ g)];exact az _ q
end
def RawD(h:dj)(d:au)(ks:List aD)(ep:Nat):Prop:=∃o es,h.get? d=some o/\o.ExactDict/\o.data=.dict es ep/\es.toList.map (·.key)=ks
theorem RawD.at(x:RawD h d ks ep)(e:∀o,h.get? d=some o->h'.get? d=some o):RawD h' d ks ep:=let ⟨o,es,ho,r⟩:=x;⟨o,es,e _ ho,r⟩
theorem RawD.lt(x:RawD h d ks ep):d<h.objs.size:=let ⟨_,_,ho,_⟩:=x;aM ho
theorem RawD.ty{s:aP}(x:RawD s.heap d ks ep):s.TypeIs (.ref d) "dict":=let ⟨o,_,ho,hc,_⟩:=x;⟨o,ho,hc.1⟩
section
variable {prog:bx} {w:bU} {A:dB} {E:aD->aP->Prop} {s:aP} {d it:au} {ks:List aD} {ep i:Nat}
theorem zeH(hd:(d == gM)=false)(hm:RawD s.heap d ks ep)(hQ:Q (.ref s.heap.objs.size) { s with heap:=s.heap.push { cls:=.type "dict_keyiterator",data:=.fields #[.ref d,.int 0 0,.int ks.length 0,.int ep 0] } }):
  bH (bG prog w) A (Il (.ref d)) Q E s:=by
 obtain⟨o,e,c,hc,a,f⟩:=id hm;refine wpAny_pyIter_slot hm.ty Fy (ig Fy hm.ty F.entry_dict_iter ?_ (F.args_dict_iter_1 _));refine ak (ak (Ca hm.ty ?_));refine aG ?_;show bH _ _ (Cd d >>= _) _ _ s;unfold Cd;rw[hd,if_neg bc];have b:e.size=ks.length:=by rw[<-f];simp
 refine ak (aG (ak (rD c a (ak (BP c a (ak (fB (aG ⟨_,rfl,"dict_keyiterator",_,⟨_,bz _ rfl,rfl⟩,eV.lookup,?_⟩))))))));simpa[iB,b] using hQ
theorem zej(hit:s.heap.IsKeyIter it d i ks.length ep)(hm:RawD s.heap d ks ep)(hx:ks[i]?=some v)(hQ:∀h',h'.IsKeyIter it d (i+1) ks.length ep->mO it s.heap h'->Q (some v) { s with heap:=h' }):bH (bG prog w) A (Ik (.ref it)) Q E s:=by
 obtain⟨o,j,m,b⟩:=id hit;obtain⟨od,k,c,hcd,e,l⟩:=id hm;have f:k.size=ks.length:=by rw[<-l];simp
 have g:i<k.size:=by rw[f];exact (aV.mp hx).1
 have h:k[i].key=v:=by
  rw[<-l,ao]at hx;simpa[g] using hx
 have hown:oX "dict_keyiterator"= false:=by decide
 refine ak (oE (ie hit.typeIs eV (ig eV hit.typeIs oH ?_ (nZ _))));refine ak (aG (ak (ak ?_)))
 first | refine ak (fM hit.typeIs (aG (ak (pR j b ?_)))) | refine ak (gQ hit.typeIs (aG (ak (pR j b ?_))))
 refine ak (aG (ak (rD c e ?_)));rw[if_neg (by rw[f];simp)];refine ak (aG (ak (BP c e ?_)));rw[if_neg (by simp)];refine aG ?_;simp only[show ¬ (i<0) from by omega,if_false,dU,rn g];refine ak ?_
 first | refine ak (fM hit.typeIs (aG (ak (nA hit.typeIs ?_)))) | refine ak (gQ hit.typeIs (aG (ak (nA hit.typeIs ?_))))
 show bH _ _ (setField (.ref it) 1 (iB (i+1)) >>= _) _ _ s;refine ak (Hj j b (by simp) ?_);have a:(s.heap.update it (Obj.mapFields (·.setIfInBounds 1 (iB (i+1))))).IsKeyIter it d (i+1) ks.length ep :=
  ⟨_,nu _ j (Obj.isFreed_of_fields (DW b _)),(Obj.cls_mapFields ..).trans m,by rw[DW b];simp[iB]⟩
 refine ak (dg (ak (nA a.typeIs ?_)));rw[h];exact aG (aG ⟨_,rfl,aG (hQ _ a (oZ ..))⟩)
theorem zg0(hh:A.handled=none)(hit:s.heap.IsKeyIter it d ks.length ks.length ep)(hm:RawD s.heap d ks ep)(hQ:∀h',Heap.ExtBut it s.heap h'->Q none { s with heap:=h' }):bH (bG prog w) A (Ik (.ref it)) Q E s:=by
 obtain⟨o,e,hc,f⟩:=id hit;obtain⟨od,h,a,hcd,b,i⟩:=id hm;have c:h.size=ks.length:=by rw[<-i];simp
 have g:=iD c;have hown:oX "dict_keyiterator"= false:=by decide
 refine ak (oE (ie hit.typeIs eV (ig eV hit.typeIs oH ?_ (nZ _))));refine ak (aG (ak (ak ?_)))
 first | refine ak (fM hit.typeIs (aG (ak (pR e f ?_)))) | refine ak (gQ hit.typeIs (aG (ak (pR e f ?_))))
 show bH _ _ (if (aU d == eY)=true then _ else _) _ _ s;refine ak (aG (ak (rD a b ?_)));rw[if_neg (by rw[c];simp)];refine ak (aG (ak (BP a b ?_)));rw[if_neg (by simp)];refine aG ?_;simp only[show ¬ (ks.length<0) from by omega,if_false,dU,mV g];refine ak ?_
 first | refine ak (fM hit.typeIs (aG ?_)) | refine ak (gQ hit.typeIs (aG ?_))
 show bH _ _ (setField (.ref it) 0 .none >>= _) _ _ s;refine ak (Hj e f (by simp) ?_);refine ak ?_;refine ak (fB (ak (FZ (by first | rfl | (simp only[firstArgMember];rfl)) (fB ?_ (by size_fits)))) (by size_fits));refine ak (wpAny_handled ?_);rw[show A.in1.handled=none from hh];refine ak (aG (wpAny_throw ?_));refine ak (Fo ⟨_,bz _ rfl,rfl⟩ isSubtype_stop ?_);exact aG (hQ _ (((oZ ..).extBut.push _).push _))
theorem zgz(hh:A.handled=none)(I d:au)(hne:d≠I)(ks:List aD)(ep:Nat):Walks prog w A I [I,d] [I] ks.length (λi v=>ks[i]?=some v) (λi h=>h.IsKeyIter I d i ks.length ep/\RawD h d ks ep) where
 sub:=λb c=>by simp at c;simp[c]
 frame:=λ_ _ _ a m=>⟨a.1.at λo e=>m I (by simp) o e,a.2.at λo e=>m d (by simp) o e⟩
 item:=λi s Q E n a f=>by
  refine zej a.1 a.2 (aj n) λk g j=>f _ k s.toks (aj n) ⟨g,a.2.at λo e=>j.extBut _ _ hne e⟩ λb o c e=>j.extBut b o (λh=>c (by simp[h])) e
 done:=λs Q E a f=>zg0 hh a.1 a.2 λk l=>f k s.toks λb o c e=>l b o (λh=>c (by simp[h])) e
 self:=λ_ _ _ _ a f=>CN a.1 f
theorem ziL(lo:(d == gM)=false):KdlSrc prog w "dict" d d ks.length (λi v=>ks[i]?=some v) (λh=>RawD h d ks ep) where
 type:=λ_ a=>a.ty
 there:=λ_ a=>⟨a.lt,a.lt⟩
 keep:=λ_ _ a c=>a.at λo e=>c d (.inl rfl) o e
 notList:=by decide
 notTuple:=by decide
 hint:=λ_ _ _ _ a b=>kdl_hint_dict a.ty b
 iter:=λ_ _ f a=>⟨_,_,(λ_ _ b=>zeH lo a b),zgz f _ d (bj a.lt) ks ep,⟨⟨_,bz _ rfl,rfl,rfl⟩,a.at λo e=>az _ e⟩⟩
end
end HT
namespace L2
open PySem PySem.Spec PyProof.Rows PySem.W
def kI(ns:List Int):List Key:=ns.map lV
theorem Yg(ns:List Int):(kI ns).map kV=ns.map V.int:=by unfold kI;rw[cC];rfl
theorem UL(e:kI a=kI b):a=b:=by
 unfold kI at e;exact pU (λx y h=>by cases h;rfl) |>.mp e
section
variable {X:Cx} {pins:List (au×kZ)} {Z:St} {H:Hp} {s:aP}
theorem zbl(I:Inv X pins Z H s)(h:H p=some (.tup (ns.map V.int))):∃its o m,gw its ns/\s.heap.get? p=some o/\o.cls=.type "tuple"/\o.data=.seq its.toArray m:=by
 obtain⟨_,its,r,o,e,a,m,b⟩:=I.hok p _ h;exact⟨its,o,m,by simpa using intsAre_of r,e,a,b⟩
end
theorem zcH{prog:bx}{w:bU}{A:dB}{Q:Bool->aP->Prop}{s:aP}{f:Bool}:∀{xs ys:List aD} {as bs:List Int} (i:Nat),gw xs as->gw ys bs->f=decide (as.length<bs.length)->Q (HT.lexLt as bs) s->KatLex prog w A true f Q (xs.zip ys) i s
 |[],_,_,_,i,.nil,.nil,hf,h=>by subst hf;exact Ka h
 |[],_,_,_,i,.nil,.cons m u hj,hf,h=>by subst hf;exact Ka h
 |_,[],_,_,i,.cons n t hi,.nil,hf,h=>by subst hf;exact Ka h
 |_,_,_,_,i,.cons n t (ns:=as) hi,.cons m u (ns:=bs) hj,hf,h=>by
  rw[List.zip_cons_cons];refine K5 (rT ?_);rw[HT.qW]at h;by_cases e:n=m
  ·rw[if_pos e]at h;rw[show (n == m)=true by simp[e]];exact Mu (zcH (i+1) hi hj (by rw[hf];simp) h)
  ·rw[if_neg e]at h;rw[show (n == m)=false by simp[e]];refine M8 ?_;by_cases hi0:i=0
   ·subst hi0;exact oneLt_int h
   ·rw[show (true && i == 0)=false by simp[hi0]];exact kat_one _ _ (HT.zcR A s n t m u prog w _ _ h)
section
variable {X:Cx} {pins:List (au×kZ)} {Z:St} {H:Hp} {s:aP}
theorem zhh(I:Inv X pins Z H s)(hp:H p=some (.tup (as.map V.int)))(hq:H q=some (.tup (bs.map V.int)))(h:Q (HT.lexLt as bs) s):
  bH (bG X.prog X.w) A (M6 (Kc true) (.ref p) (.ref q)) Q E s:=by
 obtain⟨its,o,m,c,e,_,d⟩:=zbl I hp;obtain⟨its',o',m',a,f,_,b⟩:=zbl I hq;refine kat_lt e d f b ?_;rw[aJ,aJ,c.length,a.length];exact zcH 0 (by simpa using c) (by simpa using a) rfl h
end
theorem zaO{X:Cx}{pins:List (au×kZ)}{Z:St}{H:Hp}{s:aP}(I:Inv X pins Z H s):∀zs:ZB,(∀z∈zs,H z.1=some (.tup (z.2.map V.int))/\z.2≠[])->∃fs:List aD,KatTups s.heap (zs.map λz=>aU z.1) fs/\fs.length=zs.length/\∀v∈fs,∃n t,v=lA n t
 |[],_=>⟨[],K6,rfl,λv hv=>by cases hv⟩
 |z::zs,h=>by
  obtain⟨fs,h1,h2,h3⟩:=zaO I zs λq c=>h q (.tail _ c);obtain⟨d,f⟩:=z;obtain⟨g,a⟩:=h (d,f) (.head _);obtain⟨its,o,m,b,e,i,j⟩:=zbl I g;cases b with
  |nil=>exact absurd rfl a
  |cons n t b=>
   refine⟨.int n t::fs,Ke e i j (by simp) h1,by simp[h2],λv hv=>?_⟩;rcases aW.mp hv with rfl | hv
   ·exact⟨n,t,rfl⟩
   ·exact h3 v hv
theorem zgo{ls:ZA}(nd:ls.Nodup):HT.Ord (λi j=>HT.lexLt (ls.getD i []) (ls.getD j [])) ls.length:=by
 have b:∀i,(h:i<ls.length)->ls.getD i []=ls[i]:=λi h=>by rw[aN,aj h];rfl
 refine⟨λi j k _ _ _ f g=>HT.jz _ _ _ f g,λi j c d a h=>?_,λi j c d h=>?_⟩
 ·have l:ls.getD i []≠ls.getD j []:=λz=>by
   rw[b i c,b j d]at z;exact a ((nO nd).mp z)
  have:=HT.W2 _ _ l;rw[h]at this;exact this
 ·cases e:HT.lexLt (ls.getD j []) (ls.getD i []) with
  |false=>rfl
  |true=>
   have:=HT.jz _ _ _ h e;rw[HT.vm]at this;cases this
theorem zcC{zs:ZB}{p:List Nat}(hp:p.Perm (bJ zs.length))(hw:p.Pairwise (λi j=>HT.lexLt ((zs.map (·.2)).getD i []) ((zs.map (·.2)).getD j [])=true)):
  ∃zs':ZB,zs'.Perm zs/\zs'.Pairwise (λx y=>HT.lexLt x.2 y.2=true)/\(p.map λi=>(zs.map λz=>aU z.1).getD i eY)=zs'.map λz=>aU z.1:=by
 have g:∀i∈p,(zs.map (·.2)).getD i []=(zs.getD i (0,[])).2/\(zs.map λz=>aU z.1).getD i eY=aU (zs.getD i (0,[])).1:=λi a=>by
  have b:=cI.mp (hp.mem_iff.mp a);constructor
  ·rw[aN,aN,ao,aj b];rfl
  ·rw[aN,aN,ao,aj b];rfl
 refine⟨p.map λi=>zs.getD i (0,[]),HT.zaK _ zs hp,?_,?_⟩
 ·rw[fQ];refine HN ?_ hw;intro i j a c h;rw[(g i a).1,(g j c).1]at h;exact h
 ·rw[cC];exact eO λi a=>(g i a).2
theorem zc8{H:Hp}:∀{kvs:List (List Key×V)} {xs:List (List Key×au×aD)} {ls:ZA},KT H kvs xs->kvs.map (·.1)=ls.map kI->∃zs:ZB,zs.map (·.2)=ls/\(xs.map λx=>aU x.2.1)=zs.map (λz=>aU z.1)/\(∀z∈zs,H z.1=some (.tup (z.2.map V.int)))/\xs.map (·.1)=ls.map kI
 |[],[],ls,.nil,e=>by
  cases ls with
  |nil=>exact⟨[],rfl,rfl,by simp,rfl⟩
  |cons _ _=>simp at e
 |p::kvs,q::xs,ls,.cons h t,e=>by
  cases ls with
  |nil=>simp at e
  |cons l ls=>
   rw[bC,bC]at e;injection e with e1 e2
   obtain⟨zs,h1,h2,h3,h4⟩:=zc8 t e2;refine⟨(q.2.1,l)::zs,by simp[h1],by simp[h2],λz a=>?_,?_⟩
   ·rcases aW.mp a with rfl | a
    ·have:=h.2.1;rw[e1,Yg]at this;exact this
    ·exact h3 z a
   ·rw[bC,bC,h4,<-h.1,e1]
section
variable {X:Cx}
end
open PySem PySem.Spec PyProof.Rows
def zfA(lo c:Int)(n:Nat):It:=⟨λi _=>i<n,λi H x H'=>H'=H/\x=.int (lo+i*c),λi _=>n<=i⟩
theorem zc5{P:bx}{w:bU}{K:W.Frag}{tg:dN}(it:au)(lo c:Int)(n:Nat):Turn P w K tg (zfA lo c n) [it] it (λi h=>Ks h it (lo+(i:Nat)*c) ((n:Int)-(i:Nat)) c) where
 mem:=by simp
 obj:=λi h a b f=>by
  have e:b=it:=by simpa using f
  subst e;exact⟨_,a,λv z=>by
   have D:=z;cases D⟩
 keep:=λi h l a k=>k it (by simp) _ a
 item:=by
  intro X m p q r i d s Z H E I j a u;subst m p q;obtain⟨x,y,F,A,B,C⟩:=j it (by simp);have W:=Ku (prog:=X.prog) (w:=X.w) (I.ok.hd r) it lo c n;refine W.item i s _ _ u a λv l G J g L=>?_;obtain⟨t,rfl⟩:=J;have M:Inv X d Z H { s with heap:=l,toks:=G }:=I.turned (λb o f e=>L b o (by simpa using f) e) x y A B C;exact⟨_,rfl,zdd g rfl rfl (by decide) ⟨.int (lo+i*c),H,M,⟨t,rfl⟩,⟨rfl,rfl⟩,g,λb f=>(j b f).1⟩⟩
 done:=by
  intro X m p q r i d s Z H E I j a u;subst m p q;obtain⟨x,y,F,A,B,C⟩:=j it (by simp);exact sV (I.ok.hd r) a (by have:n<=i:=u;omega) λl N=>⟨rfl,I.turned (λb o f e=>N b o f e) x y A B C⟩
 self:=λ_ _ _ _ _ a h=>sW a h
section
variable {X:Cx} {tg:dN}
theorem JD{lo c:Int}{g:TG}{tb:TS}{D:Ends}(Pv:Nat->St->Hp->Prop)(h0:Pv 0 Z H)(hs:∀i Z H,i<n->Pv i Z H->g (.int (lo+i*c)) Z H fun σ2 H2=>tb { D with nx:=Pv (i+1),ct:=Pv (i+1),bk:=D.nx } σ2 H2)(hd:∀Z H,Pv n Z H->D.nx Z H):
  ∃W:Nat->Nat->St->Hp->Prop,(∃m,W 0 m Z H)/\∀i m Z H,W i m Z H ->
   ((zfA lo c n).stop i H/\D.nx Z H)\/((zfA lo c n).go i H/\∃N:St->Hp->Prop,(∀σ' H',N σ' H'->∃m',m'<m/\W (i+1) m' σ' H')/\∀x H',(zfA lo c n).yld i H x H'->g x Z H' fun σ2 H2=>tb { D with nx:=N,ct:=N,bk:=D.nx } σ2 H2):=by
 refine⟨λi m Z H=>m=n-i/\i<=n/\Pv i Z H,⟨n,by simp,bw _,h0⟩,?_⟩;rintro i m Z H ⟨rfl,hi,p⟩;by_cases a:i<n
 ·refine .inr ⟨a,Pv (i+1),fun σ' H' b=>⟨n-(i+1),by omega,rfl,a,b⟩,λx H' y=>?_⟩;obtain⟨e,y⟩:=y;subst e y;exact hs i Z _ a p
 ·have e:i=n:=by omega
  subst e;exact .inl ⟨aq _,hd Z H p⟩
end
open PySem PySem.Spec PyProof.Rows PySem.SeqAt
section
variable {X:Cx}
inductive SuI(K:aK)(xs:List V)(H:Hp)(Q:VK):Prop
|mk(a:au)(ns:List Int)(h:xs=[.ref a])(s:SqL K H a (ns.map V.int))(q:Q (.int ns.sum) H):SuI K xs H Q
def zjC(K:aK):List V->Hp->VK->Prop:=λxs H Q=>SuI K xs H Q
theorem zgx(hc:X.calm=true):vZ X (.builtin "sum") (zjC X.K):=by
 intro pins s Z H xs us Q I r h;obtain⟨a,c,rfl,j,q⟩:=h;obtain⟨u,rfl,k⟩:=vals1 r;cases k
 obtain⟨its,l,m,hz⟩:=I.list j;have d:=intsAre_of l;obtain⟨f,g⟩:=d.allInts.items;have n:(f.toList.map (·.1)).sum=c.sum:=by
  have e:=d.numsOf;have i:=nums_intItems f;rw[<-g]at i;rw[<-e,<-i]
 refine sum_intListG (I.ok.hd hc) (by rw[<-g];exact m.isList) λh' tk p t=>?_;refine⟨.int c.sum,H,I.kept λb o e=>t b o e,?_,q⟩;refine⟨p,?_⟩;rw[preSum_eq,bV (by simp),n]
theorem zcW(K:aK)(hc:X.calm=true)(e:X.K=K:=by rfl):vZ X (.builtin "sum") (zjC K):=by subst e;exact zgx hc
def zem(K:aK):V->List V->Hp->VK->Prop:=λx vs H Q=>Ex6 λl xs y ts u j=>x=.ref l/\vs=[y]/\SqL K H l xs/\TrsAt K H ts xs/\TrAt K H u y/\wA ts<=8/\j<ts.length /\
 (∀t,ts[j]?=some t->teq t u=true)/\(∀m t,m<j->ts[m]?=some t->teq t u=false)/\Q (.int (j:Nat)) H
open Classical in
theorem zfr(hu:X.A.units+64<d7):MtM X "list.index" (zem X.K):=by
 intro pins s Z H x vs v us Q I rx rv h;obtain⟨l,xs,y,ts,u,j,rfl,rfl,hq,hts,ht,hd,hj,hit,hno,q⟩:=h;cases rx
 obtain⟨u0,rfl,ru⟩:=Vals.one rv;obtain⟨its,r,pl,hz⟩:=I.list hq;obtain⟨⟨cls,dd,data,sl⟩,ho,hc,n,hdat⟩:=id pl.isList;simp only at hc hdat;subst hc hdat;have l1:=hts.length;have m1:=r.length;have val:∀(m:Nat) (hm:m<its.length) (t:Tr),ts[m]?=some t->decide (∃t x,RelV x its[m]/\TrAt X.K H t x/\teq t u=true)=teq t u:=by
  intro m hm t et;obtain⟨z,ez,hz'⟩:=hts.get et;obtain⟨w,ew,rw'⟩:=r.get ez;have e':its[m]=w:=by
   rw[aj hm]at ew;exact bN ew
  rw[e',cH,decide_eq_true_iff];constructor
  ·rintro⟨t',x',r',h',e3⟩;rw[rw'.inj r']at hz';rw[Jj I 8 (aB (Xl (aL et)) hd) hz' h'];exact e3
  ·intro e3;exact⟨t,z,rw',hz',e3⟩
 have hjs:j<its.length:=by omega
 have hsl:(aA:Int)<2^63-1:=by decide
 refine lq PySem.F.slot_list_index ⟨_,ho,rfl⟩ PySem.F.entry_list_index (PySem.F.args_list_index_2 _ _)
  (list_indexAt l its.toArray n dd sl u0 (λy=>decide (∃t x,RelV x y/\TrAt X.K H t x/\teq t u=true)) j (by simpa using hjs) (by omega) ?_ ?_) ⟨ho,QK I hu ht ru hd hts r,?_⟩
 ·have q:=val j hjs _ (aj hj);rw[hit _ (aj hj)]at q;simpa using q
 ·intro m hm hlt;have hm':m<ts.length:=by omega
  have q:=val m (by omega) _ (aj hm');rw[hno m _ hlt (aj hm')]at q;simpa using q
 ·exact⟨.int (j:Nat),H,I.kept λb o e=>e,⟨_,rfl⟩,q⟩
theorem zfM(K:aK)(hu:X.A.units+64<d7)(e:X.K=K:=by rfl):MtM X "list.index" (zem K):=by subst e;exact zfr hu
end
structure CScopeT (sc:iZ) (scope:iZ) (xs:List bZ) (M:List bZ) (ys:List bZ) (js:List Nat):Prop where
 kind:scope.kind=.function:=by rfl
 cell:∀y∈scope.names,y.2≠.cell:=by decide +kernel
 loc:∀y∈scope.names,y.2=.local->scope.names.lookup y.1=some .local:=by decide +kernel
 var:∀x∈xs,scope.names.lookup x=some .local:=by decide +kernel
 free:∀y∈scope.names,y.2=.free->sc.names.lookup y.1=some .cell\/sc.names.lookup y.1=some .free:=by decide +kernel
 caps:js.map (M[·]?)=ys.map some:=by rfl
 fr:∀y∈ys,scope.names.lookup y=some .free:=by decide +kernel
 nd:(xs++ys).Nodup:=by decide +kernel
theorem CScope.nofree(kind:scope.kind=.function)(cell:∀y∈scope.names,y.2≠.cell)(loc:∀y∈scope.names,y.2=.local->scope.names.lookup y.1=some .local)(var:scope.names.lookup x=some .local)(free:∀y∈scope.names,y.2≠.free):CScope sc scope x M [] [] :=
 ⟨kind,cell,loc,var,λy a e=>absurd e (free y a),rfl,by simp,by simp⟩
section
variable {X:Cx} {elt iter:dN} {ifs:List dN} {tg:dN} {xs:List bZ} {pos:nj} {g:TG} {scope:iZ} {ys:List bZ} {js:List Nat} {wi:TI} {tt:TT} {te:TE}
theorem CScopeT.gn(S:CScopeT sc scope xs N ys js):zco sc scope xs [] N ys js:=⟨S.kind,λy h e=>absurd e (S.cell y h),S.loc,S.free,S.caps,S.fr,S.nd,nofun,nofun,λ_ _=>JT S.cell,λ_=>nofun⟩
theorem zgJ(S:CScopeT X.env.scope scope xs X.N ys js)(hc:X.calm=true)(hi:PI X tg iter wi)(hg:∀C s₀ H₀ ex,PG (cxC X (xs++ys) scope C s₀ H₀ ex) tg g)(ht:∀C s₀ H₀ ex,PTs (cxC X (xs++ys) scope C s₀ H₀ ex) ifs tt)(he:∀C s₀ H₀ ex,PE (cxC X (xs++ys) scope C s₀ H₀ ex) elt te)(hs:∀x,fj iter X.env x=pure x:=by intro _;rfl):PE X (.ListComp elt [⟨tg,iter,ifs,0⟩] scope pos) (zgZ wi xs js g tt te):=zcr (λ_ _ _ _ h=>h) S.gn hc hi hg ht he hs
theorem zcs{py spos:nj}(S:CScopeT X.env.scope scope xs X.N ys js)(hc:X.calm=true)(hN:X.N.Nodup)(hy:X.N[i]?=some y)(hl:Loc X.env.scope y)(hi:PI X tg iter wi)(hg:∀C s₀ H₀ ex,PG (cxC X (xs++ys) scope C s₀ H₀ ex) tg g)(ht:∀C s₀ H₀ ex,PTs (cxC X (xs++ys) scope C s₀ H₀ ex) ifs tt)(he:∀C s₀ H₀ ex,PE (cxC X (xs++ys) scope C s₀ H₀ ex) elt te)(hf:X.fn y=true\/X.env.scope.names.lookup y=some .local:=by first | exact .inl rfl | exact .inr rfl | assumption)(hsw:mC (.ListComp elt [⟨tg,iter,ifs,0⟩] scope pos) (some (.Name y py)) spos.line X.env=pure true:=by rfl)(hs:∀x,fj iter X.env x=pure x:=by intro _;rfl):PS X (.Assign [.Name y py] (.ListComp elt [⟨tg,iter,ifs,0⟩] scope pos) spos) (zat (zgZ wi xs js g tt te) (Xd i)):=Xn (λ_ _ _ _ h=>h) S.gn hc hN hy hl hi hg ht he hf hsw hs
end
theorem zds{K:aK}(Pv:Nat->List V->Hp->Prop)(h0:Pv 0 [] H)(hl:∀i ys H,i<=xs.length->Pv i ys H->SqL K H a xs)(hs:∀i x ys H,xs[i]?=some x->Pv i ys H->ys.length<aA/\g x (nones ns++tU js Z) H fun σ' H1=>(∃vs:St,vs.length=ns.length/\σ'=vs++tU js Z)/\tt σ' H1 λb H2=>if b=true then te σ' H2 λv H3=>Pv (i+1) (ys++[v]) H3 else Pv (i+1) ys H2)(hd:∀ys H,Pv xs.length ys H->∀D,H D=none->Q (.ref D) (upd H D (.lst ys))):
  qO (Itl K a) ns js g tt te Z Q H:=by
 refine⟨λi m ys H=>m=xs.length-i/\i<=xs.length/\Pv i ys H,⟨xs.length,by simp,bw _,h0⟩,?_⟩;rintro i m ys H ⟨rfl,j,p⟩;have q:=hl i ys H j p;by_cases c:i<xs.length
 ·have d:=aj c;obtain⟨k,f⟩:=hs i xs[i] ys H d p;refine .inr ⟨⟨xs,xs[i],q,d⟩,k,Pv (i+1),λys' l n=>⟨xs.length-(i+1),by omega,rfl,c,n⟩,λx l y=>?_⟩;obtain⟨e,y⟩:=y;subst e;have h:=y xs q;rw[d]at h;cases h
  exact f
 ·have e:i=xs.length:=by omega
  subst e;exact .inl ⟨⟨xs,q,aq _⟩,hd ys H p⟩
theorem zgm(K:aK){k:Nat}{pos:nj}(n:Nat)(hc:X.calm=true)(h:PGs X es t)(e:X.K=K:=by rfl)(hn:(mq es X.env).length=n:=by rfl)(hst:(mq es X.env).findIdx? (·.1)=none:=by rfl):PG X (.Tuple es k pos) (zi8 K n t):=by subst e;exact W8 hc h hn hst
theorem wV(K:aK){pos:nj}(he:PE X e ta)(hb:lL e f X.env (dZ e X.env)=dZ e X.env:=by rfl)(ek:X.K=K:=by rfl):PE X (.Attribute e f pos) (zjo K ta f):=by subst ek;exact ziY he hb
structure Mt (K:aK) (C:au) (q x:bZ) (st:cG) (ps:List bZ) (f:au) (fd:lM):Prop where
 fn:Fun K x q st f fd
 b:Binds K fd ps []
 m:Meth K C x f
theorem qD{st:cG}{apos pos:nj}{pl:Np Bool}(D:Mt X.K C q x st ps f fd)(c:Cls X.K C)(G:FnOk X.prog X.w X.K X.mg X.base CX0 k f fd ps sp)(hr:Room k X.A)(he:PE X o ta)(ha:PA X (e::es) t)(hst:bM (e::es) X.env=(false,dZ e X.env)::bM es X.env:=by rfl)(hpl:(gO pos (bM es X.env)).any (·.1)=false:=by rfl)(ht:dZ (.Call (.Attribute o x apos) (e::es) [] pos) X.env=(do
   let ov <-dZ o X.env
   Dg apos.atName
   let (f,first) <-o8 [ov] (pF ov x pl)
   Em pos f first (gO pos (bM (e::es) X.env)) (rW pos (mG [] X.env))):=by rfl):PE X (.Call (.Attribute o x apos) (e::es) [] pos) (zex C x sp [] E0 ta t):=
 zhP he c D.m G hr D.b .nil zaQ ha hst hpl ht
theorem zdI{st:cG}(D:Mt X.K C q x st ps f fd)(c:Cls X.K C)(G:FnOk X.prog X.w X.K X.mg X.base CX0 k f fd ps sp)(hr:Room k X.A)(he:PE X o ta)(ht:dZ (.Call (.Attribute o x apos) [] [] pos) X.env=(do
   let ov <-dZ o X.env
   Dg apos.atName
   let (f,first) <-o8 [ov] (pF ov x pl)
   Em pos f first (gO pos (bM [] X.env)) (rW pos (mG [] X.env))):=by rfl):PE X (.Call (.Attribute o x apos) [] [] pos) (zex C x sp [] E0 ta UJ):=
 zgM he c D.m G hr D.b .nil zaQ ht
structure Vk (mg:bZ->Option aD):Prop where
 n_sum:mg "sum"= none
 n_abs:mg "abs"= none
 n_zip:mg "zip"= none
 n_str:mg "str"= none
theorem zgI(h:-1<=a):gU a (-1) (-1)=a+1:=by
 unfold gU;rw[if_neg (by omega)];by_cases b:-1<a
 ·rw[if_pos b,show (a - -1-1)=a by omega,show (- -1)=1 from rfl,Int.ediv_one]
 ·rw[if_neg b];omega
theorem zhs(h:-1<=a)(h2:a<=1000):Dp a (-1) (-1)=true:=by
 unfold Dp;rw[zgI h];simp only[Gr,cA,Bool.or_eq_true,decide_eq_true_eq,beq_iff_eq]
 first
  |omega
  | (simp;omega)
def zjA(ta:TA):TI:=λZ H R=>ta Z H λvs H1=>∃i:Int,vs=[.int i,.int (-1),.int (-1)]/\-1<=i/\i<=1000/\R (zfA i (-1) (i+1).toNat) H1
section
variable {X:Cx} {tg:dN}
theorem zfD{Z:St}{lo:Int}(I:Inv X pins Z H s)(h1:-1<=lo)(h2:lo<=1000)(q:R (zfA lo (-1) (lo+1).toNat) H):bH (bG X.prog X.w) X.A (Il (.ref s.heap.objs.size)) (PIE X pins Z tg R) E { s with heap:=s.heap.push { cls:=.type "range",data:=.fields #[.int lo t,.int (-1) u,.int (-1) v] },toks:=tk }:=by
 refine Dy (Kv ..) (zhs h1 h2) ?_;have a:Inv X pins Z H { s with heap:=s.heap.push { cls:=.type "range",data:=.fields #[.int lo t,.int (-1) u,.int (-1) v] },toks:=tk }:=I.kept λb o e=>az _ e;refine⟨_,[(s.heap.push { cls:=.type "range",data:=.fields #[.int lo t,.int (-1) u,.int (-1) v] }).objs.size],_,_,H,rfl,
  a.kept λb o e=>az _ e,zc5 _ lo (-1) (lo+1).toNat,?_,λb c=>?_,q⟩
 ·have d:lo+((0:Nat))*(-1)=lo:=by simp
  have f:(((lo+1).toNat:Nat))-((0:Nat))=gU lo (-1) (-1):=by rw[zgI h1];omega
  rw[d,f];exact bz _ rfl
 ·have e:b=(s.heap.push { cls:=.type "range",data:=.fields #[.int lo t,.int (-1) u,.int (-1) v] }).objs.size:=by simpa using c
  subst e;exact a.fpOk (aq _) (a.hok.fresh (aq _))
theorem zaS{p pos:nj}(hg:Gl X "range")(hm:X.mg "range"= none)(ha:PA X [a,b,d] ta)(hs:bM [a,b,d] X.env=[(false,dZ a X.env),(false,dZ b X.env),(false,dZ d X.env)]:=by rfl)(hs2:bM [b,d] X.env=[(false,dZ b X.env),(false,dZ d X.env)]:=by rfl):
  PI X tg (.Call (.Name "range" p) [a,b,d] [] pos) (zjA ta):=by
 intro c s Z H R I h;refine Mj (Zd I hg hm Gw (cP (thn (ha pos c s Z H _ I h) λus s1 ⟨vs,H1,k,l,g⟩=>?_) (by rw[hs,hs2]) (by rw[hs2];rfl)));obtain⟨i,e,g,m,q⟩:=g;subst e;cases l with
 |cons r f=>
  cases f with
  |cons n f=>
   cases f with
   |cons j f=>
    cases f;obtain⟨t,rfl⟩:=r
    obtain⟨t',rfl⟩:=n;obtain⟨t'',rfl⟩:=j;exact call_range_3 (by omega) (zfD k g m q) (bf (Kf (by omega)))
end
theorem Inv.turned2{Z:St}{e it T:au}(I:Inv X pins Z H s)(k:∀b o,b≠e->b≠it->s.heap.get? b=some o->h'.get? b=some o)(fe:U5 X pins H e)(fi:U5 X pins H it)(hT:s.heap.objs.size<=T)(new:ObjOk X.prog X.w (upd H T o) h' T o):Inv X pins Z (upd H T o) { s with heap:=h',toks:=t' }:=by
 have j:=I.hok.fresh hT;have f:∀b u,H b=some u->b≠T:=λb u e z=>by rw[z,j]at e;cases e
 have h:∀b u,H b=some u->b≠e:=λb u q z=>by rw[z,fe.1]at q;cases q
 have i:∀b u,H b=some u->b≠it:=λb u q z=>by rw[z,fi.1]at q;cases q
 have g:∀b o,b∉[e,it]->s.heap.get? b=some o->h'.get? b=some o:=λb o d q=>k b o (λz=>d (by simp[z])) (λz=>d (by simp[z])) q;refine I.step (λb d=>?_) (λb o _ _ a q _=>g b o a q) (λb o _ _ a q _=>⟨o.slots,g b o a q⟩) (λb o a q n=>by rw[zy (bj (aO (aM q) hT))];exact n)
  (λb o a q=>⟨o,g b o a q⟩) (λb l q=>by rw[zy (f b _ q)];exact q) (λb o u q=>by rw[zy (f b _ q)];exact q) (λb ps q=>⟨#[],by rw[zy (f b _ q),q];simp⟩) (λm p=>?_) (λb u q=>?_) I.bare
 ·rcases aW.mp d with z | d
  ·subst z;exact⟨fe.2.2.2.1,fe.2.1,fe.2.2.2.2.1,fe.2.2.2.2.2⟩
  ·have z:b=it:=by simpa using d
   subst z;exact⟨fi.2.2.2.1,fi.2.1,fi.2.2.2.2.1,fi.2.2.2.2.2⟩
 ·obtain⟨o,t,x,y,r⟩:=p;exact⟨o,t,x,k _ o (cF fe.2.1) (cF fi.2.1) y,r⟩
 ·by_cases d:b=T
  ·subst d;rw[zj]at q;cases q
   exact new
  ·rw[zy d]at q;refine (I.hok b u q).stay (λc v a z=>k c v ?_ ?_ z) (λc z=>by rw[zy (f c _ z)];exact z) λc l z=>by rw[zy (f c _ z)];exact z
   ·rcases a with rfl | a
    ·exact h _ _ q
    ·exact h _ _ a
   ·rcases a with rfl | a
    ·exact i _ _ q
    ·exact i _ _ a
def Ite(K:aK)(a:au):It :=
 ⟨λi H=>∃xs x,SqL K H a xs/\xs[i]?=some x,λi H v H'=>∃T x,v=.ref T/\H T=none/\H'=upd H T (.tup [.int (i:Nat),x])/\∀xs,SqL K H a xs->xs[i]?=some x,λi H=>∃xs,SqL K H a xs/\xs.length<=i⟩
theorem zfs{P:bx}{w:bU}{K:aK}{elts:List dN}{k:Nat}{tp:nj}(a e it:au)(hei:e≠it):Turn P w K (.Tuple elts k tp) (Ite K a) [e,it] e (λi h=>(∃old,IsEnum h e it i old)/\h.IsListIter it a i) where
 mem:=by simp
 obj:=λi h j b f=>by
  obtain⟨⟨old,g⟩,o,l,c,d⟩:=j;rcases aW.mp f with z | f
  ·subst z;exact⟨_,g,λv z=>by
    have V:=z;cases V⟩
  ·have z:b=it:=by simpa using f
   subst z;exact⟨o,l,λv z=>by rw[d]at z;cases z⟩
 keep:=λi h T j k=>by
  obtain⟨⟨old,g⟩,l⟩:=j;exact⟨⟨old,k e (by simp) _ g⟩,l.at λo q=>k it (by simp) o q⟩
 item:=by
  intro X B C D U i m s Z H E I t j F;subst B C D;obtain⟨W,x,A,G⟩:=F;obtain⟨J,L,p,Y⟩:=I.list A;obtain⟨u,hu,ru⟩:=L.get G;obtain⟨⟨old,g⟩,l⟩:=j;refine wpAny_pyNext_enum_item g l p.isList (by simpa using hu) hei λT ho M hT hsz hk=>?_;refine⟨_,rfl,?_⟩;refine wpAny_letOwnedTupleGo_enum ho λN O r=>?_;have n:=aM g;have Q:=(r.2 _ (eU n)).trans hT;have fe:=t e (by simp);have fi:=t it (by simp);have I1:Inv X m Z (upd H s.heap.objs.size (.tup [.int i,x])) { s with heap:=N,toks:=s.toks+1 }:=by
   refine I.turned2 (λb o y R q=>(r.2 b y).trans (hk b o y R q)) fe fi (aq _) ⟨by show 2<=aA;decide,[.int i s.toks,u],.cons ⟨_,rfl⟩ (.cons ru .nil),_,Q,rfl,0,rfl⟩
  refine⟨.ref s.heap.objs.size,_,I1,rfl,⟨s.heap.objs.size,x,rfl,I.hok.fresh (aq _),rfl,λys hy=>by rw[I.list_inj hy A];exact G⟩,⟨⟨_,by simpa using O⟩,M.at λo q=>(r.2 it (cF hei)).trans q⟩,λb f=>?_⟩;have S:b<s.heap.objs.size:=by
   rcases aW.mp f with z | f
   ·rw[z];exact n
   ·have z:b=it:=by simpa using f
    obtain⟨o,q,_⟩:=l;rw[z];exact aM q
  rw[zy (bj S)];exact (t b f).1
 done:=by
  intro X B C D U i m s Z H E I t j F;subst B C D;obtain⟨W,A,G⟩:=F;obtain⟨J,L,p,Y⟩:=I.list A;obtain⟨⟨old,g⟩,l⟩:=j;obtain⟨f0,f1,f2,f3,f4,f5⟩:=t it (by simp);have hl:=L.length;exact wpAny_pyNext_enum_end (I.ok.hd U) g l p.isList (by simp;omega) λT eb=>⟨rfl,I.turned (λb o f q=>eb b o f q) f0 f1 f3 f4 f5⟩
 self:=λ_ _ _ _ _ j h=>by
  obtain⟨⟨old,g⟩,_⟩:=j;exact EY g h
section
variable {X:Cx}
def zjn(K:aK)(tl:TA):TI:=λZ H R=>tl Z H λvs H1=>∃a,vs=[.ref a]/\(∃xs,SqL K H1 a xs)/\R (Ite K a) H1
theorem zhI(K:aK){elts:List dN}{k:Nat}{tp:nj}{p pos:nj}(hg:Gl X "enumerate")(hm:X.mg "enumerate"= none)(ha:PA X [a] ta)(hs:bM [a] X.env=[(false,dZ a X.env)]:=by rfl)(ek:X.K=K:=by rfl):
  PI X (.Tuple elts k tp) (.Call (.Name "enumerate" p) [a] [] pos) (zjn K ta):=by
 subst ek;intro d s Z H R I h;refine Mj (Zd I hg hm boot_enumerate (cP (thn (ha pos d s Z H _ I h) λus c ⟨vs,m,g,n,t⟩=>?_) (by rw[hs];rfl) (by rfl)));obtain⟨l,e,⟨xs,u⟩,q⟩:=t;subst e;cases n with
 |cons r v=>
  cases v;cases r
  obtain⟨its,rv,w,hz⟩:=g.list u;refine call_enumerate_list w.isList λh' j x hsz y=>?_;refine EY j ?_;have A:=g.kept (t':=c.toks) λb o q=>y b o q;refine⟨c.heap.objs.size+1,[c.heap.objs.size+1,c.heap.objs.size],_,_,m,rfl,A,zfs l _ _ (Nat.succ_ne_self _),⟨⟨_,j⟩,x⟩,λb i=>?_,q⟩;have f:c.heap.objs.size<=b:=by
   rcases aW.mp i with z | i
   ·rw[z];exact iu _
   ·have z:b=c.heap.objs.size:=by simpa using i
    rw[z];exact aq _
  exact g.fpOk f (g.hok.fresh f)
theorem zf8{K:W.Frag}{g:TG}{tb:TS}{D:Ends}(Pv:Nat->St->Hp->Prop)(h0:Pv 0 Z H)(hl:∀i Z H,i<=xs.length->Pv i Z H->SqL K H a xs)(hs:∀i x Z H T,xs[i]?=some x->Pv i Z H->H T=none->g (.ref T) Z (upd H T (.tup [.int (i:Nat),x])) fun σ2 H2=>tb { D with nx:=Pv (i+1),ct:=Pv (i+1),bk:=D.nx } σ2 H2)(hd:∀Z H,Pv xs.length Z H->D.nx Z H):
  ∃W:Nat->Nat->St->Hp->Prop,(∃m,W 0 m Z H)/\∀i m Z H,W i m Z H ->
   ((Ite K a).stop i H/\D.nx Z H)\/((Ite K a).go i H/\∃N:St->Hp->Prop,(∀σ' H',N σ' H'->∃m',m'<m/\W (i+1) m' σ' H')/\∀x H',(Ite K a).yld i H x H'->g x Z H' fun σ2 H2=>tb { D with nx:=N,ct:=N,bk:=D.nx } σ2 H2):=by
 refine⟨λi m Z H=>m=xs.length-i/\i<=xs.length/\Pv i Z H,⟨xs.length,by simp,bw _,h0⟩,?_⟩;rintro i m Z H ⟨rfl,f,p⟩;have q:=hl i Z H f p;by_cases b:i<xs.length
 ·have c:=aj b;refine .inr ⟨⟨xs,xs[i],q,c⟩,Pv (i+1),fun σ' H' h=>⟨xs.length-(i+1),by omega,rfl,b,h⟩,λv H' y=>?_⟩;obtain⟨T,x,rfl,j,rfl,k⟩:=y;have d:=k xs q;rw[c]at d;cases d
  exact hs i xs[i] Z H T c p j
 ·have e:i=xs.length:=by omega
  subst e;exact .inl ⟨⟨xs,q,aq _⟩,hd Z H p⟩
def zii(K:aK):List V->Hp->VK->Prop:=λxs H Q=>Ex2 λ(a:au) (zs:ZB)=>xs=[.ref a]/\SqL K H a (zs.map λz=>V.ref z.1)/\zs.length<=60/\(∀z∈zs,SqL K H z.1 (z.2.map V.int))/\(zs.map (·.2)).Nodup /\
 ∀(p:au) (zs':ZB),H p=none->zs'.Perm zs->zs'.Pairwise (λx y=>HT.lexLt x.2 y.2=true)->Q (.ref p) (upd H p (.lst (zs'.map λz=>V.ref z.1)))
theorem zek(K:aK)(hu:X.A.units+64<d7)(e:X.K=K:=by rfl):vZ X (.builtin "sorted") (zii K):=by
 subst e;intro pins s Z H xs us Q I r h;obtain⟨a,d,rfl,ha,n,hz,nd,q⟩:=h;obtain⟨u,rfl,rx⟩:=vals1 r;cases rx
 obtain⟨c,r1,p1,_⟩:=I.list ha;have e1:=Qa r1;subst e1;have O:=zgo nd;rw[aa]at O;have t:(d.map λz=>aU z.1).length=d.length:=aa ..;have g:∀z∈d,∃c:List aD,s.heap.IsList z.1 c.toArray/\gw c z.2:=λz l=>by
  obtain⟨c,r2,p2,_⟩:=I.list (hz z l);exact⟨c,p2.isList,by simpa using intsAre_of r2⟩
 refine HT.zeJ (κ:=oneType') (Pv:=λP=>P=d.map λz=>aU z.1) n (λR hR=>?_) λP B E=>?_
 ·have F:(d.map λz=>aU z.1).length<=aA:=by rw[t];exact aB n (by decide)
  refine Kg p1.isList ?_ F;refine hR _ s.toks _ (λb o q=>?_) t rfl;have w:=aM q;rw[o6 _ _ _ _ (bj w),fP _ _ _ (bj w)];exact q
 ·subst E;have S:∀i,i<d.length->(d.map λz=>aU z.1).getD i eY=.ref (d.getD i (0,[])).1/\(d.map (·.2)).getD i []=(d.getD i (0,[])).2/\d.getD i (0,[])∈d:=λi x=>by
   have e:d.getD i (0,[])=d[i]:=by rw[aN,aj x];rfl
   rw[e];refine⟨?_,?_,fJ _⟩
   ·rw[aN,ao,aj x];rfl
   ·rw[aN,ao,aj x];rfl
  refine⟨_,O,λG J D hn2 Q' hq=>?_,λG J D i j C x hj U=>?_,λp h' h'' J e hp hw k1 k2 y=>?_⟩
  ·refine kas_kind (T:=.type "list") (by omega) (λv E=>?_) (by decide) (by decide) hq;obtain⟨z,l,rfl⟩:=aQ.mp E;obtain⟨c,B,_⟩:=g z l;obtain⟨o,e,L,_⟩:=B;intro A' Q' E' s' k q;exact lB ⟨o,k _ _ (D _ _ e),L⟩ q
  ·obtain⟨a1,a2,a3⟩:=S i x;obtain⟨b1,b2,b3⟩:=S j hj;obtain⟨c,B,hI⟩:=g _ a3;obtain⟨its2,M,N⟩:=g _ b3;unfold Ey;rw[a1,b1];refine HT.ziU (B.at λo e=>D _ o e) (M.at λo e=>D _ o e) (by simpa using hI) (by simpa using N) (by show X.A.units+1+1+1<d7;omega) ?_;rw[a2,b2]at U;exact U
  ·obtain⟨f,W,pw,hm⟩:=zcC hp hw;rw[hm]at y;have Y:=I.kept (t':=J) k1;have m:=Y.hok.fresh (aq _);have hl':=W.length_eq;exact⟨.ref h'.objs.size,_,Y.laid (o:=.lst (f.map λz=>V.ref z.1)) k2 (aq _) ⟨by rw[aa];exact aB (show f.length<=60 by omega) (by decide),_,e,Wg f,y⟩,rfl,q _ f m W pw⟩
end
def cxD(X:Cx)(x:bZ)(N:List bZ)(scope:iZ)(C:au)(s₀:aP)(H₀:Hp)(ex:List au):Cx:=cxG X [x] N scope C s₀ H₀ ex
structure CScopeD (sc:iZ) (scope:iZ) (x:bZ) (M:List bZ) (ys:List bZ) (js:List Nat):Prop where
 kind:scope.kind=.function
 cell:∀y∈scope.names,y.2=.cell->y.1=x
 loc:∀y∈scope.names,y.2=.local->scope.names.lookup y.1=some .local
 var:scope.names.lookup x=some .cell
 free:∀y∈scope.names,y.2=.free->sc.names.lookup y.1=some .cell\/sc.names.lookup y.1=some .free
 caps:js.map (M[·]?)=ys.map some
 fr:∀y∈ys,scope.names.lookup y=some .free
 nd:(x::ys).Nodup
 own:∀n acc,nU n scope.names acc=(x,n)::acc
 psh:∀h:dj,pushCells h scope.names=h.push { cls:=.type "cell",data:=.cell none }
theorem uV{env:Li}:∀{names:List (bZ×gZ)} {x:bZ},names.lookup x=some .cell ->
  (names.map λ(n,k)=>if (k == fK && env.scope.kind == .function && env.kindOf n == some .cell) then (n,lN) else (n,k)).lookup x=some .cell
 |[],_,h=>by simp at h
 | (n,k)::r,x,h=>by
  have ih:=@uV env r x;rw[bC];have e:∀b:Bool,(if b=true then (n,lN) else (n,k)).1=n:=λb=>by cases b<;>rfl
  generalize a:(k == fK && env.scope.kind == .function && env.kindOf n == some .cell)=b;simp only[a];rw[cN]at h;cases hx:x == n with
  |true=>
   rw[hx]at h;have c:=bN h;cases b<;>simp[cN,hx,c]
  |false=>
   rw[hx]at h;cases b<;>(simp only[if_true,dG,if_false,cN,hx];exact ih h)
section
variable {X:Cx} {elt iter:dN} {ifs:List dN} {x:bZ} {px pos:nj} {scope:iZ} {ys:List bZ} {js:List Nat} {wi:TI} {tt:TT} {te:TE}
theorem CScopeD.gn(S:CScopeD sc scope x N ys js):zco sc scope [x] [x] N ys js:=⟨S.kind,λy h e=>by rw[S.cell y h e];exact bI,S.loc,S.free,S.caps,S.fr,S.nd,λy a z b=>by rw[bu.mp a,bu.mp b],λ_ h=>h,S.own,λh _ _=>by rw[S.psh];exact bz _ rfl⟩
theorem zcf{py spos:nj}(S:CScopeD X.env.scope scope x X.N ys js)(hc:X.calm=true)(hN:X.N.Nodup)(hy:X.N[i]?=some y)(hl:Loc X.env.scope y)(hi:PI X (.Name x px) iter wi)(ht:∀C s₀ H₀ ex,PTs (cxD X x (x::ys) scope C s₀ H₀ ex) ifs tt)(he:∀C s₀ H₀ ex,PE (cxD X x (x::ys) scope C s₀ H₀ ex) elt te)(hf:X.fn y=true\/X.env.scope.names.lookup y=some .local:=by first | exact .inl rfl | exact .inr rfl | assumption)(hsw:mC (.ListComp elt [⟨.Name x px,iter,ifs,0⟩] scope pos) (some (.Name y py)) spos.line X.env=pure true:=by rfl)(hs:∀x,fj iter X.env x=pure x:=by intro _;rfl):PS X (.Assign [.Name y py] (.ListComp elt [⟨.Name x px,iter,ifs,0⟩] scope pos) spos) (zat (zgi wi js tt te) (Xd i)):=
 Xn (λ_ _ _ _ h=>h.t) S.gn hc hN hy hl hi (λ_ _ _ _=>zX S.nd rfl (.inr (uV S.var)) (.inl (HF.mpr bI))) ht he hf hsw hs
end
theorem jK{env:Li}:∀{names:List (bZ×gZ)} {x:bZ},names.lookup x=some .free ->
  (names.map λ(n,k)=>if (k == fK && env.scope.kind == .function && env.kindOf n == some .cell) then (n,lN) else (n,k)).lookup x=some .cell\/(names.map λ(n,k)=>if (k == fK && env.scope.kind == .function && env.kindOf n == some .cell) then (n,lN) else (n,k)).lookup x=some .free
 |[],_,h=>by simp at h
 | (n,k)::r,x,h=>by
  have ih:=@jK env r x;rw[bC];generalize a:(k == fK && env.scope.kind == .function && env.kindOf n == some .cell)=b;simp only[a];rw[cN]at h;cases hx:x == n with
  |true=>
   rw[hx]at h;have c:=bN h;cases b<;>simp[cN,hx,c]
  |false=>
   rw[hx]at h;cases b<;>(simp only[if_true,dG,if_false,cN,hx];exact ih h)
theorem CScope.re(S:CScope sc scope x M ys js):CScope (relabel sc env) scope x M ys js :=
 ⟨S.kind,S.cell,S.loc,S.var,λy a e=>(S.free y a e).elim (λz=>.inl (uV z)) λz=>jK z,S.caps,S.fr,S.nd⟩
def zjO(t:TS):TS:=λD Z H=>∃P:St->Hp->Prop,t { D with nx:=P } Z H/\∀σ' H',P σ' H'->D.nx σ' H'
theorem zgb{st:cG}(h:PS X st t):PS X st (zjO t):=by
 intro a s Z H D I b;obtain⟨P,c,d⟩:=b;refine thn (h a s Z H _ I c) λf s1 q=>?_;cases f with
 |next=>obtain⟨σ',e,g,q⟩:=q;exact⟨σ',e,g,d _ _ q⟩
 |ret v=>exact q
 |brk=>exact q
 |cont=>exact q
theorem zdH{j}(h:PA X es t):PA X (.Constant (.str x) j pos::es) (Zx (tC (.str x)) t):=zf jE h rfl
theorem zhE(hN:X.N.Nodup)(hi:X.N[i]?=some x)(hx:Loc X.env.scope x)(h:PA X es t)(hf:X.fn x=true\/X.env.scope.names.lookup x=some .local:=by first | exact .inl rfl | exact .inr rfl | assumption):
  PS X (.Assign [.Name x pos'] (.List es lp) pos) (zat (zeW t) (Xd i)):=zE hN hi hx (zY h) rfl hf
theorem zhm(xs:List V)(m:Nat):qi xs none (some (m:Int))=xs.take m:=by
 unfold qi;rw[HT.Uh,HT.Q7,il,cZ];by_cases h:m<=xs.length
 ·rw[fU h]
 ·rw[lE (by omega),bV (aq _),bV (by omega)]
def zgu(n:au->Prop)(h:dj)(e:au)(c:aD):Prop :=
 ∃oe oT vs ts a0 T,h.get? e=some oe/\oe.cls=c/\oe.data=.fields vs/\vs[0]?=some a0/\vs[1]?=some (.ref T)/\n T/\T≠e/\h.get? T=some oT/\oT.data=.fields ts/\ts[3]?=some .none
def CX1(P:bx)(w:bU):CXT:=λouter H s E e s'=>
 ∃ea c H',e=.ref ea/\s'.os=s.os/\lW s'.gens/\Un (frs outer) [] H H' s.heap s'.heap/\HOk P w H' s'.heap/\s.heap.get? ea=none/\H' ea=none /\
  zgu (λT=>s.heap.get? T=none/\H' T=none) s'.heap ea c/\E c none H'
def zh6(X:Cx)(Ex:St->XK):Prop:=∀(pins:List (au×kZ)) (Z:St) (H:Hp) (s:aP) (h':dj) (ea:au) (c:aD) (vs:List aD),Inv X pins Z H s->Heap.MadeExcOf s.heap h' ea c vs->Ex Z c none H->X.xe (.ref ea) { s with heap:=h' }
def zch(X:Cx)(Ex:St->XK):Prop:=∀(pins:List (au×kZ)) (Z:St) (H:Hp) (s:aP) (e:aD) (s':aP),Inv X pins Z H s->CX1 X.prog X.w X.stack H s (Ex Z) e s'->X.xe e s'
theorem FnOk.up{K:aK}(F:FnOk P w K mg base CX0 k f fd ps sp):FnOk P w K mg base CX k f fd ps sp :=
 ⟨F.len,λA a s H b c d Q E g h i j l=>iG (F.run A a s H b c d Q E g h i j l) λr s' q=>by
  cases r with
  |error e=>exact dz q
  |ok m=>cases m<;>exact q⟩
theorem ObjOk.thereO(x:ObjOk P w H h a o):∃u,h.get? a=some u:=by
 cases o with
 |lst c=>obtain⟨_,_,_,_,e⟩:=x;exact⟨_,e⟩
 |tup c=>obtain⟨_,_,_,o,e,_⟩:=x;exact⟨_,e⟩
 |dK b=>obtain⟨_,_,_,_,o,_,_,e,_⟩:=x;exact⟨_,e⟩
 |dT b=>obtain⟨_,_,_,_,o,_,_,e,_⟩:=x;exact⟨_,e⟩
 |set S n=>obtain⟨o,_,_,_,e,_⟩:=x;exact⟨_,e⟩
 |ins C dx d=>obtain⟨_,_,_,e,_⟩:=x;exact⟨_,e⟩
 |own y=>exact x
 |xd d=>obtain⟨_,⟨_,_,_,e,_⟩,_⟩:=x;exact⟨_,e⟩
 |rng lo hi=>obtain⟨_,_,_,e⟩:=x;exact⟨_,e⟩
 |frz ob u=>obtain⟨e,_⟩:=x;exact⟨_,e⟩
 |tbl ps=>exact⟨_,(show h.get? a=some _ from x)⟩
 |met f y=>exact⟨_,(show h.get? a=some _ from x)⟩
 |ext φ=>obtain⟨_,e,_⟩:=x;exact e
theorem HOk.off(x:HOk P w H h)(e:h.get? a=none):H a=none:=by
 cases q:H a with
 |none=>rfl
 |some o=>obtain⟨u,z⟩:=(x a o q).thereO;rw[e]at z;cases z
section
variable {X:Cx} {pins:List (au×kZ)} {Z:St} {H H':Hp} {s s':aP} {h' B:dj} {ea:au} {c a0:aD}
def JP(X:Cx)(H':Hp)(s s':aP)(B:dj):Prop:=∀b o,s'.heap.get? b=some o->((∃u,s.heap.get? b=some u)\/H' b≠none)->b∉frs X.stack->B.get? b=some o
theorem zcB(I:Inv X pins Z H s)(un:Un (frs X.stack) [] H H' s.heap s'.heap):∀b∈frs X.stack,H' b=none:=λb a=>by
 obtain⟨_,o,c,_⟩:=I.stack.mem a;exact un.free b o c (I.stkFree b a) (by simp)
theorem zdg(I:Inv X pins Z H s)(un:Un (frs X.stack) [] H H' s.heap s'.heap)(hok:HOk X.prog X.w H' s'.heap)(hB:JP X H' s s' B)(st:B.StaysIn h')(up:s'.heap.UpToSlots h'):
  Un (frs X.stack) [] H H' s.heap h'/\HOk X.prog X.w H' h':=by
 have k:=zcB I un;have h:∀b o,s.heap.get? b=some o->b∈frs X.stack->∃q,h'.get? b=some { o with slots:=q }:=λb o e c=>by
  obtain⟨_,o2,i,l⟩:=I.stack.mem c;rw[e]at i;cases i
  obtain⟨q,d⟩:=un.slot b o e (I.stkFree b c) c (by simp);obtain⟨m,p⟩:=up b _ d l;exact⟨m,p⟩
 refine⟨⟨λb o e n c _=>?_,λb o e _ c _=>h b o e c,λb o e n _=>un.free b o e n (by simp),λb o e _=>?_,un.tups,un.frzs,un.tbls⟩,λa o e=>?_⟩
 ·exact st b o (hB b o (un.keep b o e n c (by simp)) (.inl ⟨o,e⟩) c)
 ·by_cases c:b∈frs X.stack
  ·obtain⟨q,d⟩:=h b o e c;exact⟨_,d⟩
  ·obtain⟨f,d⟩:=un.there b o e (by simp);exact⟨f,st b f (hB b f d (.inl ⟨o,e⟩) c)⟩
 ·refine (hok a o e).stay (λb u r q=>?_) (λ_ q=>q) λ_ _ q=>q;have j:H' b≠none:=by
   rcases r with z | z
   ·rw[z,e];intro g;cases g
   ·rw[z];intro g;cases g
  exact st b u (hB b u q (.inr j) λc=>j (k b c))
theorem zjB(I:Inv X pins Z H s)(un:Un (frs X.stack) [] H H' s.heap s'.heap)(hok:HOk X.prog X.w H' s'.heap)(hB:JP X H' s s' B)(st:B.StaysIn h')(up:s'.heap.UpToSlots h')(t:h'.TracedW B ea c a0):
  zgu (λT=>s.heap.get? T=none/\H' T=none) h' ea c:=by
 obtain⟨l,m,T,n,p,r,⟨u,v⟩,e,x,a,f,i,b,y⟩:=t;have j:T∉frs X.stack:=λg=>by
  obtain⟨_,o,A,e⟩:=I.stack.mem g;obtain⟨q,d⟩:=un.slot T o A (I.stkFree T g) g (by simp);obtain⟨q2,k⟩:=up T _ d e;rw[i]at k;cases k
  exact e _ b
 refine⟨l,n,m,p,a0,T,r,u,e,v,x,⟨?_,?_⟩,f,i,b,y⟩
 ·cases q:s.heap.get? T with
  |none=>rfl
  |some o=>
   obtain⟨h,d⟩:=un.there T o q (by simp);have:=hB T h d (.inl ⟨o,q⟩) j;rw[a]at this;cases this
 ·cases q:H' T with
  |none=>rfl
  |some o=>
   obtain⟨h,d⟩:=(hok T o q).thereO;have:=hB T h d (.inr (by rw[q];intro z;cases z)) j;rw[a]at this;cases this
theorem zeO(I:Inv X pins Z H s)(hx:X.ex=[])(os:s'.os=s.os)(bare:lW s'.gens)(un:Un (frs X.stack) [] H H' s.heap s'.heap)(hok:HOk X.prog X.w H' s'.heap)(n0:s.heap.get? ea=none)(n1:H' ea=none)(hB:JP X H' s s' B)(st:B.StaysIn h')(t:h'.TracedW B ea c a0)(up:s'.heap.UpToSlots h')(hE:E c none H'):CX1 X.prog X.w X.outer X.H₀ X.s₀ E (.ref ea) { s' with heap:=h' }:=by
 obtain⟨h,d⟩:=zdg I un hok hB st up;have J:Inv X pins Z H' { s' with heap:=h' }:=I.call' os h d bare λb z=>absurd z (by simp);have a:∀b,s.heap.get? b=none->X.s₀.heap.get? b=none:=λb e=>by
  cases q:X.s₀.heap.get? b with
  |none=>rfl
  |some o=>
   obtain⟨o1,f⟩:=I.base.there b o q (by rw[hx];simp);rw[e]at f;cases f
 have g:=J.base;rw[hx]at g;obtain⟨i,j,k,l,m,T,n,p,u,v,x,⟨y,A⟩,r⟩:=zjB I un hok hB st up t;exact⟨ea,c,H',rfl,J.os,J.bare,g,d,a ea n0,n1,⟨i,j,k,l,m,T,n,p,u,v,x,⟨a T y,A⟩,r⟩,hE⟩
theorem zdl(n0:s.heap.get? ea=none)(n1:H' ea=none)(nT:∀T∈Ts,s.heap.get? T=none/\H' T=none):JP X H' s s' (Ff s'.heap (ea::(Ts++frs X.stack))):=λb o e f g=>by
 refine Ds _ e λd=>?_;have c:∀a,s.heap.get? a=none->H' a=none->b≠a:=λa h i z=>by
  subst z;rcases f with ⟨u,q⟩ | q
  ·rw[h]at q;cases q
  ·exact q i
 rcases aW.mp d with z | d
 ·exact c ea n0 n1 z
 ·rcases aZ.mp d with z | z
  ·exact c b (nT b z).1 (nT b z).2 rfl
  ·exact g z
theorem Jf(I:Inv X pins Z H s)(os:s'.os=s.os)(bare:lW s'.gens)(un:Un (frs X.stack) [] H H' s.heap s'.heap)(hok:HOk X.prog X.w H' s'.heap)(ha:∀b∈frs X.stack,b∈as):s'.heap.FunFrames (Ff s'.heap as) X.stack:=by
 have J:=I.call' os un hok bare λb z=>absurd z (by simp);exact W.funFrames_hide J.stack λenv a b c=>ha b (dW.mpr ⟨env,a,c⟩)
theorem zeF(I:Inv X pins Z H s)(os:s'.os=s.os)(bare:lW s'.gens)(un:Un (frs X.stack) [] H H' s.heap s'.heap)(hok:HOk X.prog X.w H' s'.heap)(n0:s.heap.get? ea=none)(n1:H' ea=none)(t:zgu (λT=>s.heap.get? T=none/\H' T=none) s'.heap ea c):∃B a0,JP X H' s s' B/\Kh B X.stack ea c a0 s'.heap:=by
 obtain⟨f,g,h,i,a0,T,j,k,l,m,n,⟨p,r⟩,a,u,d,v⟩:=t;refine⟨Ff s'.heap (ea::([T]++frs X.stack)),a0,zdl n0 n1 (λb e=>by rw[bu.mp e];exact⟨p,r⟩),λb o q=>Ej _ q,Cm _ (by simp),Jf I os bare un hok (by intro b e;simp[e]),?_⟩;exact⟨f,h,T,g,i,j,⟨k,m⟩,l,n,Cm _ (by simp),a,u,d,v⟩
end
theorem zfF{K:aK}:
  zch (Wr (CX1 P w) P w K mg base N qual scope f cd A outer s₀ H₀ E) λ_=>E:=by
 intro pins Z H s e s' I g;obtain⟨ea,c,H',rfl,h,a,i,b,j,k,t,l⟩:=g;obtain⟨B,a0,m,n⟩:=zeF I h a i b j k t;refine wpAny_leaves_onW I.ok.frames rfl n λh2 d o=>?_;exact zeO I rfl h a i b j k m d.1 d.2.2.2 o l
theorem VM{K:aK}:
  zh6 (Wr (CX1 P w) P w K mg base N qual scope f cd A outer s₀ H₀ E) λ_=>E:=by
 intro pins Z H s g ea c vs I a i;refine wpAny_leaves_madeW I.ok.frames rfl (λb o q=>Ej _ q)
  (Jf I rfl I.bare Un.refl I.hok λb d=>d) a λh2 t h _ _ j=>?_
 refine zeO I rfl rfl I.bare (Un.kept a.keeps) (I.hok.kept a.keeps) a.new (I.hok.off a.new) (λb o e d k=>?_) h.1 h.2.2.2 j i;refine Ds _ ?_ k;rcases d with ⟨u,q⟩ | q
 ·have z:=a.keeps b u q;rw[show g.get? b=some o from e]at z;cases z;exact q
 ·cases r:H b with
  |none=>exact absurd r q
  |some x=>
   obtain⟨u,q⟩:=(I.hok b x r).thereO;have z:=a.keeps b u q;rw[show g.get? b=some o from e]at z;cases z;exact q
abbrev veT:List aD:=[.type "ValueError",.type "Exception",.type "BaseException",.type "object"]
structure zdn (K:aK) (mg:bZ->Option aD) (x:bZ) (C:au):Prop where
 g:mg x=some (.ref C)
 ok:Gs K C veT "ValueError.__new__"= true
theorem zhY{K:aK}(X:K.In h)(q:Gs K C bmB newId=true):
  ∃bm bs N nm qn hd ab sn sub col dd k0 k1 k2 k3 k5 mN,
   h.get? C=some (excClassObj nm qn C N bs bm hd sn sub ab col dd k0 k1 k2 k3 k5 newId)/\h.Ns N mN/\mN "__init__"= none/\OwnTail h bmB bm:=by
 unfold Gs at q;split at q
 ·rename_i dd cd sl e
  split at q
  ·rename_i C2 bm k0 k1 k2 k3 n k5 hm hs
   rw[cA,cA,cA,cA,cA]at q;have d:=eq_of_beq q.1.1.1.1.1;have f:=eq_of_beq q.1.1.1.1.2;have g:cd.hasDel=false:=by simpa using q.1.1.1.2
   cases cd with
   |mk nm bs mro i qn hd sn sub ab col del=>
    cases sl with
    |mk l=>
     have a:=hs;have b:=hm;have c:=g;subst a b c d f;exact⟨bm,bs,i,nm,qn,hd,ab,sn,sub,col,dd,k0,k1,k2,k3,k5,_,X _ _ e,MT (W.isNs_of_in X q.1.2),W.nsMap_none_of_in X q.1.2 (eq_of_beq q.2),W.tail_of_in X q.1.1.2⟩
  ·cases q
 ·cases q
def ziy(c:aD)(Ex:St->XK)(t:TA):TS:=λ_ Z H=>t Z H λvs H1=>vs.length<=aA/\Ex Z c none H1
theorem Uk{np cpos pos:nj}(O:zdn X.K X.mg x C)(hx:zh6 X Ex)(hc:X.calm=true)(ha:PA X (e::es) t)(hg:Gl X x:=by rfl)(hdb:(x == ("__debug__" : bZ))=false:=by decide)(he:bM (e::es) X.env=(false,dZ e X.env)::bM es X.env:=by rfl)(hpl:(gO cpos (bM (e::es) X.env)).any (·.1)=false:=by rfl):PS X (.Raise (some (.Call (.Name x np) (e::es) [] cpos)) none pos) (ziy (.ref C) Ex t):=by
 intro a s Z H D I h;obtain⟨bm,bs,N,nm,f,i,ab,sn,sub,col,dd,k0,k1,k2,k3,k5,mN,j,k,d,T⟩:=zhY I.ok.mod.kin O.ok;refine wpAny_Raise_call_subT (nm:=nm) (q:=f) (N:=N) (bs:=bs) (hdct:=i) (sn:=sn) (sub:=sub) (ab:=ab) (col:=col) (dd:=dd) (k0:=k0) (k1:=k1) (k2:=k2) (k3:=k3) (k5:=k5)
  PySem.F.excBase_ValueError (T.hasType PySem.F.excBase_ValueError.hasBase) (I.ok.hd hc) hpl d (Wb I hg O.g ⟨rfl,?_⟩ hdb)
 have b:=ha cpos a s Z H _ I h;rw[he]at b ⊢;refine Cy (thn b λl m ⟨vs,n,c,r,o,q⟩=>?_);exact⟨rfl,by rw[<-r.length];exact o,c.bk _ _ j,k.keeps c.bk,T.keeps c.bk,λp u v=>hx a Z n m p u (.ref C) l c v q⟩
def ziv(sp:Sp)(Ex:St->XK)(t:TA):TE:=λZ H Q=>t Z H λvs H1=>sp vs H1 Q (Ex Z)
theorem zeP{Z:St}(F:FnOk X.prog X.w X.K X.mg X.base (CX1 X.prog X.w) k f fd ps sp)(hr:Room k X.A)(hb:Binds X.K fd ps [])(hx:zch X Ex)(I:Inv X pins Z H s)(r:Vals vs us)(h:sp vs H Q (Ex Z)):bH (bG X.prog X.w) X.A (call (.ref f) us) (EP X pins Z Q) X.xe s:=by
 have c:us.length=ps.length:=by rw[<-r.length];exact F.len _ _ _ _ h
 have a:=hb s us I.kIn (by rw[dJ];exact c);rw[dJ]at a;refine Bm (iG (F.run X.A X.stack s H ⟨us,[]⟩ us vs Q (Ex Z) hr I.env0 a r h) λr d b=>?_);cases r with
 |error e=>exact hx pins Z H s e d I b
 |ok g=>
  cases g with
  |ret u=>exact I.after b
  |next=>exact dz b
  |brk=>exact dz b
  |cont=>exact dz b
theorem ziO{st:cG}{p pos:nj}(D:Df X.K X.mg x st ps f fd)(G:FnOk X.prog X.w X.K X.mg X.base (CX1 X.prog X.w) k f fd ps sp)(hr:Room k X.A)(hx:zch X Ex)(ha:PA X (e::es) t)(hg:Gl X x:=by rfl)(hdb:(x == ("__debug__" : bZ))=false:=by decide)(he:bM (e::es) X.env=(false,dZ e X.env)::bM es X.env:=by rfl)(hpl:(gO pos (bM es X.env)).any (·.1)=false:=by rfl):PE X (.Call (.Name x p) (e::es) [] pos) (ziv sp Ex t):=by
 intro a s Z H Q I h;refine eZ (Wb I hg D.g ?_ hdb);refine o9 I.ok.mod.kin D.fn.kp (thn (ha pos a s Z H _ I h) λus s1 ⟨vs,H1,c,r,q⟩=>⟨c.kIn,?_⟩) he hpl;exact zeP G hr D.b hx c r q
theorem Fun.ok1{K:aK}{st:cG}(F:Fun K x qual st f fd)(S:zF N ps (zx st))(len:∀vs H Q E,sp vs H Q E->vs.length=ps.length)(hbody:∀cdv A outer s H vs Q E,Room k (A.deeper (pL qual (zx st) s.heap.objs.size f cdv))->sp vs H Q E ->
   ∃t,PSs (Wr (CX1 P w) P w K mg base N qual (zx st) f cdv A outer s H E) (zq st) t/\t { nx:=λ_ H'=>Q .non H',rt:=Q } (start N vs) H):FnOk P w K mg base (CX1 P w) (k+1) f fd ps sp:=by
 obtain⟨oc,od,kV,doc,pm,an,cdv,ct,osl,rfl,c,a⟩:=F.ex;exact zgC c a S len λA outer s H vs Q E d b=>hbody cdv A outer s H vs Q E d b
open PySem PySem.Spec PyProof.Rows Builtin Builtin.ObjectAttr Builtin.Getset_descriptor
structure zbQ (K:aK) (C:au):Prop where
 ga:gk K (.ref C) "__getattribute__"= some (some (.builtin "BaseException.__getattribute__"))
 hk:gk K (.ref C) "__getattr__"= some none
 at_:gk K (.ref C) "__class__"= some (some (.builtin "object.__class__"))
 sp:Ky K (.builtin "object.__class__") "__get__"= some (some (.builtin "getset_descriptor.__get__"))
 tk:MF K (.builtin "object.__class__")=some true
 mo:gq K C (.type "object")=some true
 mb:gq K C (.type "BaseException")=some true
def ExcAt(e C:au)(h:dj):Prop:=∃o,h.get? e=some o/\o.cls=.ref C
section
variable {prog:bx} {w:bU} {A:dB} {K:aK} {e C:au} {h:dj}
theorem ExcAt.ty(x:ExcAt e C h):Gu M h (LK (.ref e)) (.ref C):=by
 obtain⟨o,a,b⟩:=x;have L:Gu M h (LK (.ref e)) o.cls:=(Nu a).andThen .now;rw[b]at L;exact L
theorem zcd(X:K.In h)(F:zbQ K C):Gu M h (find (.ref e) (.ref C) "__class__") (.bind (.builtin "getset_descriptor.__get__") (.builtin "object.__class__")):=by
 have a:Gu M h (dataDescriptor? (some (.builtin "object.__class__")) (some (.builtin "getset_descriptor.__get__"))) (some (.builtin "getset_descriptor.__get__",.builtin "object.__class__")):=(W.looks_takesIn X F.tk).andThen .now;have b:Gu M h (getOf (some (.builtin "object.__class__"))) (some (.builtin "getset_descriptor.__get__")):=W.looks_specialIn X F.sp;exact (pI X F.at_).andThen (b.andThen (a.andThen (Nt .now)))
theorem zbm(X:K.In s.heap)(x:ExcAt e C s.heap)(F:zbQ K C)(q:R (.ok (.ret (.ref C))) s):jL (bG prog w) A (.call (.builtin "getset_descriptor.__get__") ⟨[.builtin "object.__class__",.ref e,tp],[]⟩) R s:=by
 cases s with
 |mk hp gn dr tk os=>
  have y0:=x.ty (M:=bG prog w);have y1:=Dv (M:=bG prog w) X F.mo;refine CP Kl.plain W.KF.entry_gs (Kl.check _ _ _ _ _ _ _ _ W.KF.type_class (W.KF.args_gs _ _ _) ?_);unfold «getset_descriptor.__get__» descrGet;refine ak (aG ?_);unfold descrGetter descrCheckInstance descrNameAndClass Hl;simp only[W.KF.owner_class]
  repeat lk
  refine⟨Code.quiet_builtin _ (by decide +kernel),lY W.KF.entry_class ?_⟩;unfold «object.__class__» shownTypeOf
  repeat lk
  exact q
theorem zis(X:K.In s.heap)(x:ExcAt e C s.heap)(F:zbQ K C)(q:R (.ok (.ret (.ref C))) s):jL (bG prog w) A (.call (.builtin "BaseException.__getattribute__") ⟨[.ref e,.str "__class__" t],[]⟩) R s:=by
 cases s with
 |mk a b c d f=>
  have g:=x.ty (M:=bG prog w);have h:=zcd (M:=bG prog w) (e:=e) X F;have i:=Dv (M:=bG prog w) X F.mb;refine CP PySem.F.attr_ValueError.ga.plain PySem.F.entry_bexc_ga ?_;have j:builtinKind "BaseException.__getattribute__"= some .slot:=by decide +kernel
  have k:splitId "BaseException.__getattribute__"= some ("BaseException","__getattribute__"):=by decide +kernel
  have z3:=PySem.F.args_bexc_ga (.ref e) (.str "__class__" t);simp only[checkBuiltinCall,j,k];refine ak ?_;unfold Hl;refine ak (g.at (i.at ?_))
  repeat (any_goals (first | assumption | wp_step))
  obtain⟨o,l,m⟩:=id x;refine Cu l (aG ?_);rw[m];refine ak (h.at ?_);dsimp only
  repeat (any_goals (first | assumption | with_reducible refine dg ?_ | wp_step))
  exact zbm (s:=⟨a,b,c,d,f⟩) X x F (aG q)
theorem zfx(X:K.In s.heap)(x:ExcAt e C s.heap)(F:zbQ K C)(q:Q (some (.ref C)) { s with toks:=s.toks+1 }):bH (bG prog w) A (K7 (.ref e) "__class__") Q E s:=by
 cases s with
 |mk hp gn dr tk os=>
  have a:=x.ty (M:=bG prog w);have b:=pI (M:=bG prog w) X F.ga;have c:=pI (M:=bG prog w) X F.hk;refine ak (wpAny_mkText (ak (oE (dg (ak (a.at (ak (b.at ?_))))))));refine ak ?_;refine c.at (ak (oE (dg ?_)));refine ak (FZ (PySem.F.attr_ValueError.ga.bind (.ref e)) ?_);exact Bm (zis X x F (aG (aG q)))
theorem zgS(F:zbQ K C):W.KitX K (.ref e) (.ref C) (ExcAt e C) where
 ty:=λ_ _ _ x=>x.ty
 it:=λ_ _ X _=>by
  have z:=F.mo;unfold gq Mv at z;split at z
  ·rename_i ho
   intro A1 Q1 E1 s1 k q;exact ak (Cu (k _ _ (X _ _ ho)) (aG q))
  ·cases z
 ne:=λh tp dd its n sl X a=>by
  have z:=F.mo;refine Bool.eq_false_iff.mpr λq=>?_;have c:=Nf (beq_iff_eq.mp q);subst c;unfold gq Mv at z;split at z
  ·rename_i ho
   have b:=X _ _ ho;rw[a]at b;cases b
  ·cases z
 ca:=λX x q=>zfx X x F q
def Xy(e C:au):HO:=.ext λh=>ExcAt e C h
def zh7(K:aK):List V->Hp->VK->Prop:=λxs H Q=>Ex5 λe C c cu b=>xs=[.ref e,c]/\RelV c cu/\(∀u,RelV c u->u=cu)/\H e=some (Xy e C)/\zbQ K C/\cJ K (.ref C) cu=some b/\Q (.bl b) H
theorem ze6:vZ X (.builtin "isinstance") (zh7 X.K):=by
 intro pins s Z H xs us Q I r h;obtain⟨e,C,c,cu,b,rfl,_,a,d,F,k,q⟩:=h;obtain⟨u,v,rfl,f,g⟩:=vals2 r;cases (show u=aU e from f)
 cases a v g;have o:=I.hok e _ d
 exact gY (zgS F) I.kIn o.1 k (λz=>nomatch z) λi=>⟨.bl b,H,I.tok i,rfl,q⟩
theorem ql(K:aK)(e:X.K=K:=by rfl):vZ X (.builtin "isinstance") (zh7 K):=by subst e;exact ze6
end
structure zbA (K:aK) (mg:bZ->Option aD) (y:bZ) (Ch:au):Prop where
 g:mg y=some (.ref Ch)
 mb:gq K Ch (.type "BaseException")=some true
theorem zfl{K:aK}(X:K.In s.heap)(x:ExcAt e C s.heap)(m:CQ K (.ref C) (.ref Ch)=some b)(hb:gq K Ch (.type "BaseException")=some true)(q:Q b s):bH (bG prog w) A (Mf (.ref e) (.ref Ch)) Q E s:=by
 cases s with
 |mk hp gn dr tk os=>
  obtain⟨y1,y2,y3⟩:=W.kit_cls (M:=bG prog w) X m;have y0:=x.ty (M:=bG prog w);have y4:=Dv (M:=bG prog w) X hb;have a:=tc_notTuple;unfold Mf Hl isExcClass
  repeat (first | with_reducible refine W.Looks.at (by assumption) ?_ | (with_reducible refine FZ a ?_) | with_reducible refine ak ?_ | wp_step)
  cases b
  ·exact aG (aG (aG q))
  ·exact aG (aG (aG q))
section
variable {X:Cx} {pins:List (au×kZ)} {Z:St} {H H':Hp} {s s':aP}
abbrev Cx.sui(X:Cx)(e:au):Cx:={ X with A:=X.A.mark (some (.ref e)),calm:=false,xe:=λ_ _=>False }
theorem Inv.toSui(I:Inv X pins Z H s)(e:au):Inv (X.sui e) pins Z H s :=
 ⟨⟨I.ok.mod,I.ok.kind,I.ok.glob,I.ok.blt,I.ok.above,I.ok.inj,I.ok.has,I.ok.cab,(λz=>nomatch z),I.ok.frames,I.ok.stk,I.ok.exf,I.ok.bs,I.ok.bsz,I.ok.noex,I.ok.exfs,I.ok.funs,I.ok.frf⟩,I.os,I.bare,I.base,I.loc,I.cell,I.free,I.freeC,I.pin,I.hok,I.len⟩
theorem Inv.ofSui(ok:X.Ok)(I:Inv (X.sui e) pins Z H s):Inv X pins Z H s:=⟨ok,I.os,I.bare,I.base,I.loc,I.cell,I.free,I.freeC,I.pin,I.hok,I.len⟩
abbrev Cx.body(X:Cx)(E:aD->aP->Prop)(pn:List (au×kZ)):Cx:={ X with xe:=E,pn:=pn }
theorem Inv.toBody(I:Inv X pins Z H s)(E:aD->aP->Prop):Inv (X.body E (X.pn++pins)) [] Z H s :=
 ⟨⟨I.ok.mod,I.ok.kind,I.ok.glob,I.ok.blt,I.ok.above,I.ok.inj,I.ok.has,I.ok.cab,I.ok.hd,I.ok.frames,I.ok.stk,I.ok.exf,I.ok.bs,I.ok.bsz,I.ok.noex,I.ok.exfs,I.ok.funs,I.ok.frf⟩,I.os,I.bare,I.base,I.loc,I.cell,I.free,I.freeC,λp a=>I.pin p (by rw[dJ]at a;exact a),I.hok,I.len⟩
theorem Inv.ofBody(ok:X.Ok)(I:Inv (X.body E (X.pn++pins)) pins' Z H s):Inv X pins Z H s:=⟨ok,I.os,I.bare,I.base,I.loc,I.cell,I.free,I.freeC,λp a=>I.pin p (cY _ a),I.hok,I.len⟩
theorem SP.ofBody(ok:X.Ok)(h:SP (X.body E (X.pn++pins)) [] D f s'):SP X pins D f s':=by
 cases f with
 |next=>obtain⟨σ',a,I,q⟩:=h;exact⟨σ',a,I.ofBody ok,q⟩
 |brk=>obtain⟨σ',a,I,q⟩:=h;exact⟨σ',a,I.ofBody ok,q⟩
 |cont=>obtain⟨σ',a,I,q⟩:=h;exact⟨σ',a,I.ofBody ok,q⟩
 |ret u=>obtain⟨v,σ',a,I,r,q⟩:=h;exact⟨v,σ',a,I.ofBody ok,r,q⟩
theorem zft(un:Un (frs X.stack) [] H H' s.heap h')(hok:HOk X.prog X.w H' h')(n0:s.heap.get? e=none)(n1:H' e=none)(x:ExcAt e C h'):
  Un (frs X.stack) [] H (upd H' e (Xy e C)) s.heap h'/\HOk X.prog X.w (upd H' e (Xy e C)) h':=by
 have i:∀b o,s.heap.get? b=some o->b≠e:=λb o q z=>by rw[z,n0]at q;cases q
 refine⟨⟨un.keep,un.slot,λb o q n j=>by rw[zy (i b o q)];exact un.free b o q n j,un.there,λb f q=>?_,λb o u q=>?_,λb k q=>?_⟩,λb o q=>?_⟩
 ·have z:=un.tups b f q;rw[zy (zz z n1)];exact z
 ·have z:=un.frzs b o u q;rw[zy (zz z n1)];exact z
 ·obtain⟨a,z⟩:=un.tbls b k q;exact⟨a,by rw[zy (zz z n1)];exact z⟩
 ·by_cases g:b=e
  ·subst g;rw[zj]at q;cases q
   obtain⟨o,d,h⟩:=id x;exact⟨x,⟨o,d⟩,λha hb' l m=>let ⟨o,d,h⟩:=l;⟨o,m o d,h⟩⟩
  ·rw[zy g]at q;exact (hok b o q).stay (λc u _ z=>z) (λc z=>by rw[zy (zz z n1)];exact z) λc f z=>by rw[zy (zz z n1)];exact z
theorem Inv.gone(I:Inv X pins Z H s)(hN:X.N.Nodup)(hi:X.N[i]?=some n)(hs:mO X.env.locals s.heap h')(hn:∀m,s.heap.Ns X.env.locals m->∃v,h'.Ns X.env.locals λx=>if x=n then v else m x):
  Inv X pins (Z.set i none) H { s with heap:=h',toks:=t }:=by
 have g:∀b o,X.s₀.heap.get? b=some o->b≠X.env.locals:=λb o e=>bj (aO (aM e) I.ok.above);have l:∀b u,H b=some u->b≠X.env.locals:=λb u e z=>by rw[z,I.free]at e;cases e
 obtain⟨m,D,E⟩:=id I.loc;obtain⟨v,F⟩:=hn m D;refine⟨I.ok,I.os,I.bare,⟨λb o e n h f=>(hs.2 b (g b o e)).trans (I.base.keep b o e n h f),λb o e n h f=>?_,I.base.free,λb o e f=>?_,I.base.tups,I.base.frzs,I.base.tbls⟩,⟨_,F,λj y w A a G=>?_⟩,λy c e=>?_,I.free,I.freeC,λp J=>?_,λb u e=>?_,by rw[Gd];exact I.len⟩
 ·obtain⟨K,q⟩:=I.base.slot b o e n h f;exact⟨K,(hs.2 b (g b o e)).trans q⟩
 ·obtain⟨L,q⟩:=I.base.there b o e f;exact⟨L,(hs.2 b (g b o e)).trans q⟩
 ·have B:j≠i:=λz=>by
   subst z;rw[List.getElem?_set]at a;split at a
   ·split at a<;>cases a
   ·exact absurd rfl (by assumption)
  rw[oG (cF B)]at a;obtain⟨u,r,q⟩:=E j y w A a G;refine⟨u,r,?_⟩;rcases q with ⟨k,z⟩ | ⟨k,c,z,M⟩
  ·refine .inl ⟨k,?_⟩;have O:y≠n:=λz=>B (Ju hN A (z▸hi));show (if y=n then v else m y)=some u;rw[if_neg O];exact z
  ·exact .inr ⟨k,c,z,M.sameBut hs (I.cne y c z)⟩
 ·obtain⟨w,z⟩:=I.cell y c e;exact⟨w,z.sameBut hs (I.cne y c e)⟩
 ·obtain⟨e,n,C,P,d⟩:=I.pin p J;exact⟨(hs.2 p.1 C).trans e,n,C,P,d⟩
 ·refine (I.hok b u e).stay (λc z Q q=>(hs.2 c ?_).trans q) (λ_ q=>q) λ_ _ q=>q;rcases Q with z | z
  ·rw[z];exact l b u e
  ·exact l c _ z
end
def zic(i:Nat)(D:Ends):Ends:={ nx:=λZ H=>D.nx (Z.set i none) H,rt:=D.rt,bk:=λZ H=>D.bk (Z.set i none) H,ct:=λZ H=>D.ct (Z.set i none) H }
def xAs(K:aK)(Ch:au)(i:Nat)(ts:TS)(D:Ends):St->XK:=λZ c _ H=>∃C,c=.ref C/\CQ K (.ref C) (.ref Ch)=some true/\∀e,H e=none->ts (zic i D) (Z.set i (some (.ref e))) (upd H e (Xy e C))
def zix(K:aK)(Ch:au)(i:Nat)(tb:(St->XK)->TS)(ts:TS):TS:=λD Z H=>tb (xAs K Ch i ts D) D Z H
section
variable {X:Cx} {y n:bZ} {Ch:au} {i:Nat} {body suite:List cG} {b₀:cG} {tb:(St->XK)->TS} {ts:TS} {np hpos pos:nj}
theorem zda(O:zbA X.K X.mg y Ch)(hstk:X.stack=X.env::X.outer)(hfr:X.env.frame=some X.env.locals)(nd:X.N.Nodup)(hi:X.N[i]?=some n)(hloc:X.env.scope.names.lookup n=some .local)(hb:∀E pn Ex,zch (X.body E pn) Ex->PSs (X.body E pn) body (tb Ex))(hs:∀e,PSs (X.sui e) (b₀::suite) ts)(hg:Gl X y:=by rfl)(hdb:(y == ("__debug__" : bZ))=false:=by decide):
  PS X (.Try body [.ExceptHandler (some (.Name y np)) (some n) (b₀::suite) hpos] [] [] pos) (zix X.K Ch i tb ts):=by
 intro a s Z H D I h;have x:=I.ok;refine wpAny_Try_except (dC (hb (λe s₁=>bH (bG X.prog X.w) X.A (noteFrame e X.env) (λ_ s₂=>bH (bG X.prog X.w) X.A (setFlight e none) (λ_ s₃=>bH (bG X.prog X.w) X.A (handleBy e X.env [.ExceptHandler (some (.Name y np)) (some n) (b₀::suite) hpos]) (SP X a D) X.xe s₃) X.xe s₂) X.xe s₁)
  (X.pn++a) (xAs X.K Ch i ts D) ?_ [] s Z H D (I.toBody _) h) (λf s1 q=>?_) λ_ _ z=>z)
 ·intro pins2 σ2 H2 s2 e s3 F hcx;have F:=F.ofBody x;obtain⟨o,c,H3,rfl,U,l,V,G,n0,W,t,C,rfl,hk,hq⟩:=hcx;obtain⟨B,a0,hB,fl⟩:=zeF F U l V G n0 W t;have Y:Kh B (X.env::X.outer) o (.ref C) a0 s3.heap:=by rw[<-hstk];exact fl
  refine wpAny_looks_onW (by rw[x.frames,hstk]) hfr Y λh4 P Q=>wpAny_landsW P λh5 L R=>?_;obtain⟨u5,k5⟩:=zdg F V G hB L.1 (Q.trans R);have J5:Inv X a σ2 H3 { s3 with heap:=h5 }:=F.call' U u5 k5 l λb z=>absurd z (by simp);have x5:=L.there;refine wpAny_handleBy_cons (codeAny_handlers_test (Wb (J5.toSui o) hg O.g ?_ hdb)) (by intro z;cases z);refine zfl J5.kIn x5 hk O.mb (codeAny_handlers_suite_as (lands_againW L λh6 S aa=>?_));obtain⟨u6,k6⟩:=zdg F V G hB S.1 ((Q.trans R).trans aa);obtain⟨u7,k7⟩:=zft u6 k6 n0 W S.there;have J7:Inv X a σ2 (upd H3 o (Xy o C)) { s3 with heap:=h6 }:=F.call' U u7 k7 l λb z=>absurd z (by simp);refine VN (X:=X.sui o) (v:=.ref o) (J7.toSui o) nd hi (.inl hloc) rfl (λs8 J8=>?_) (.inr hloc);refine dC (hs o a s8 _ _ (zic i D) J8 (hq o W)) (λf s9 q=>?_) λ_ _ z=>dz z;have p:∀{σ9:St} {M:Hp},Inv (X.sui o) a σ9 M s9->(∀d,Inv X a (σ9.set i none) M d->SP X a D f d)->bH (bG X.prog X.w) X.A (do bindName X.env n .none;unbindBehindTheSuite X.env n hpos) (λ_ d=>SP X a D f d) X.xe s9:=λ{σ9 M} J k=>by
   have J':=J.ofSui x;obtain⟨m,hm,_⟩:=id J'.loc;refine wpAny_nameGoes_keeps hloc hm (by rw[x.kind];rfl) λh10 v hn ab=>k _ (J'.gone nd hi ab λm2 ac=>?_);refine⟨v,?_⟩;have e:m2=m:=by
    obtain⟨o1,es1,ep1,a1,b1,c1,d1⟩:=hm;obtain⟨o2,es2,ep2,a2,b2,c2,d2⟩:=ac;rw[a1]at a2;cases a2
    rw[b1]at b2;cases b2
    funext z;rw[<-d1,<-d2]
   rw[e];exact hn
  cases f with
  |next=>obtain⟨σ9,M,J,q⟩:=q;exact p J λd j=>⟨_,_,j,q⟩
  |brk=>obtain⟨σ9,M,J,q⟩:=q;exact p J λd j=>⟨_,_,j,q⟩
  |cont=>obtain⟨σ9,M,J,q⟩:=q;exact p J λd j=>⟨_,_,j,q⟩
  |ret u=>obtain⟨v,σ9,M,J,r,q⟩:=q;exact p J λd j=>⟨v,_,_,j,r,q⟩
 ·cases f with
  |next=>exact lX (SP.ofBody x q)
  |ret u=>exact SP.ofBody x q
  |brk=>exact SP.ofBody x q
  |cont=>exact SP.ofBody x q
end
open PySem PyProof.Rows
@[irreducible] def PEI (X:Cx) (e:dN) (t:TE):Prop:=PE X e t
@[irreducible] def PAI (X:Cx) (es:List dN) (t:TA):Prop:=PA X es t
@[irreducible] def PSsI (X:Cx) (st:List cG) (t:TS):Prop:=PSs X st t
theorem PEI.o(h:PEI X e t):PE X e t:=by unfold PEI at h;exact h
theorem PAI.o(h:PAI X es t):PA X es t:=by unfold PAI at h;exact h
theorem PSsI.o(h:PSsI X l t):PSs X l t:=by unfold PSsI at h;exact h
theorem pei(h:PE X e t):PEI X e t:=by unfold PEI;exact h
theorem pai(h:PA X es t):PAI X es t:=by unfold PAI;exact h
theorem zjK(h:PSs X l t):PSsI X l t:=by unfold PSsI;exact h
theorem jT{i j pos}:PEI X (.Constant (.int i) j pos) (tC (.int i)):=pei zr
theorem YJ(h:PAI X es t):PEI X (.List es pos) (zeW t):=pei (zY h.o)
theorem ZS:PAI X [] UJ:=pai zg
theorem uL{j}(h:PAI X es t):PAI X (.Constant (.str x) j pos::es) (Zx (tC (.str x)) t):=pai (zdH h.o)
theorem yg(ha:PEI X e te)(hr:PAI X es t)(hs:bM (e::es) X.env=(false,dZ e X.env)::bM es X.env:=by rfl):PAI X (e::es) (Zx te t):=pai (zf ha.o hr.o hs)
theorem zfJ{st:cG}{rest:List cG}(h1:PS X st t)(h2:PSsI X rest u):PSs X (st::rest) (Qd t u):=zm h1 h2.o
theorem zgl{rest:List cG}(hN:X.N.Nodup)(hi:X.N[i]?=some x)(hx:Loc X.env.scope x)(h:PAI X es t)(hr:PSs X rest u)(hf:X.fn x=true\/X.env.scope.names.lookup x=some .local:=by first | exact .inl rfl | exact .inr rfl | assumption):
  PSsI X (.Assign [.Name x pos'] (.List es lp) pos::rest) (Qd (zat (zeW t) (Xd i)) u):=zjK (zm (zhE hN hi hx h.o hf) hr)
theorem zgH(hr:IxR X r)(ha:PEI X a ta)(hb:PE X b tb)(hs:zeM b):PE X (.Subscript a b pos) (tOp r ta tb):=zQ hr ha.o hb hs
theorem zd9{pos' pos:nj}(hN:X.N.Nodup)(hi:X.N[i]?=some x)(hx:Loc X.env.scope x)(he:PEI X e te)(hs:mC e (some (.Name x pos')) pos.line X.env=pure false:=by rfl)(hf:X.fn x=true\/X.env.scope.names.lookup x=some .local:=by first | exact .inl rfl | exact .inr rfl | assumption):
  PS X (.Assign [.Name x pos'] e pos) (zat te (Xd i)):=zE hN hi hx he.o hs hf
theorem ziC(ho:OpR X (gW op) r)(ha:PE X a ta)(hb:PEI X b tb):PE X (.BinOp a op b pos) (tOp r ta tb):=zP ho ha hb.o
structure Fit (k n:Nat) (d:cD):Prop where
 ls:d.leavesShort 40=true
 sh:d.showable=true
 dp:d.depth<=k
 wt:d.weight<=n
theorem Fit.shown(f:Fit k n d)(hn:n<=100000):d.shown.length<=aA:=by
 have h:=PyData.shown_le 40 (by decide) d f.ls;have:=f.wt;rw[Cq];omega
def Th(H:Hp)(k n:Nat)(v:V):Prop:=∃d,ThAt H d v/\Fit k n d
theorem Th.same(t:Th H k n v)(m:Same H H'):Th H' k n v:=let ⟨d,h,f⟩:=t;⟨d,h.same m,f⟩
theorem Th.le(t:Th H k n v)(hk:k<=k')(hn:n<=n'):Th H k' n' v:=let ⟨d,h,f⟩:=t;⟨d,h,f.ls,f.sh,aB f.dp hk,aB f.wt hn⟩
section
variable {H:Hp} {k n:Nat}
theorem Th.non:Th H k n .non:=⟨.none,by rw[ThAt],by rw[iJ],by rw[dX],by rw[d9];exact bw _,by exact bw _⟩
theorem Th.bl:Th H k n (.bl b):=⟨.bool b,by rw[ThAt],by rw[iJ],by rw[dX],by rw[d9];exact bw _,by exact bw _⟩
theorem log2_small(h:m<10^30):m.log2<100:=by
 by_cases z:m=0
 ·subst z;decide
 ·exact (KY z).mpr (fL h (by decide))
theorem Th.int(h:i.natAbs<10^30)(hn:100<=n):Th H k n (.int i):=by
 refine⟨.int i,by rw[ThAt],?_,?_,by rw[d9];exact bw _,?_⟩
 ·rw[iJ,fH];refine decide_eq_true ?_;have:=int_text_length_le10 (by decide) h;rw[PySem.ofString_length];omega
 ·rw[dX];exact decide_eq_true (fL (log2_small h) (by decide))
 ·rw[lQ];have:=log2_small h;split<;>omega
theorem Th.str(h:(x.cps.toList.all λc=>decide (c<16^8))=true)(hn:x.cps.size<=n):Th H k n (.str x):=⟨.str x,by rw[ThAt],by rw[iJ];exact h,by rw[dX],by rw[d9];exact bw _,by exact hn⟩
theorem Th.emp(h:H a=some (.dK []))(hk:1<=k):Th H k n (.ref a):=⟨.dict [],by exact⟨rfl,a,rfl,h⟩,by rw[iJ,PyData.leavesShortKv],by rw[dX,mW],by rw[d9,lu];exact hk,by exact bw _⟩
theorem Ths.of:∀{vs:List V},(∀v∈vs,Th H k n v)->∃ds,ThsAt H ds vs/\nD 40 ds=true/\iI ds=true/\cV ds<=k/\gh ds<=(n+1)*vs.length
 |[],_=>⟨[],by rw[ThsAt],by rw[nD],by rw[iI],by rw[cV];exact bw _,by rw[gh];exact bw _⟩
 |v::vs,h=>by
  obtain⟨d,h1,f⟩:=h v (.head _);obtain⟨ds,a,b,c,g4,g5⟩:=Ths.of λv e=>h v (.tail _ e);refine⟨d::ds,by exact⟨_,_,rfl,h1,a⟩,by rw[nD,f.ls,b];rfl,by rw[iI,f.sh,c];rfl,?_,?_⟩
  ·rw[cV];have:=f.dp;omega
  ·rw[gh,bF,Nat.mul_succ];have:=f.wt;omega
theorem Th.lst(h:H a=some (.lst vs))(t:∀v∈vs,Th H k n v)(hn:(n+1)*vs.length<=n'):Th H (k+1) n' (.ref a):=by
 obtain⟨b,c,d,e,g4,g5⟩:=Ths.of t;exact⟨.list b,by exact⟨a,vs,rfl,h,c⟩,by exact d,by exact e,by rw[d9];omega,by rw[lQ];omega⟩
theorem Th.tup(h:H a=some (.tup vs))(t:∀v∈vs,Th H k n v)(hn:(n+1)*vs.length<=n'):Th H (k+1) n' (.ref a):=by
 obtain⟨b,c,d,e,g4,g5⟩:=Ths.of t;exact⟨.tuple b,by exact⟨a,vs,rfl,h,c⟩,by exact d,by exact e,by rw[d9];omega,by rw[lQ];omega⟩
theorem Th.ints{ns:List Int}(h:H a=some (.lst (ns.map V.int)))(t:∀i∈ns,i.natAbs<10^30)(hn:101*ns.length<=n'):Th H (k+1) n' (.ref a):=
 Th.lst h (λv b=>by
  obtain⟨i,c,rfl⟩:=aQ.mp b;exact Th.int (t i c) (aq _)) (by rw[aa];exact hn)
end
structure Ty where
 p:Hp->V->Prop
 mo:∀{G G':Hp} {v:V},Same G G'->p G v->p G' v
structure View where
 v:Hp->Hp
 ok:Hp->Prop
 out:∀{H:Hp} {a:au} {o:HO},v H a=some o->H a=some o
 new:∀{H:Hp} {p:au} (o:HO),ok H->H p=none->ok (upd H p o)/\Same (v H) (v (upd H p o))/\v (upd H p o) p=some o
abbrev Cxt:=List (Option Ty)
def Fits(Γ:Cxt)(G:Hp)(Z:St):Prop:=Z.length=Γ.length/\∀(i:Nat) (T:Ty),Γ[i]?=some (some T)->∃v:V,Z[i]?=some (some v)/\T.p G v
theorem Fits.same(f:Fits Γ G Z)(s:Same G G'):Fits Γ G' Z:=⟨f.1,λi T h=>let ⟨v,e,q⟩:=f.2 i T h;⟨v,e,T.mo s q⟩⟩
theorem Fits.nil:Fits [] G []:=⟨rfl,λi T h=>by simp at h⟩
theorem Fits.cons(q:T.p G v)(f:Fits Γ G Z):Fits (some T::Γ) G (some v::Z):=by
 refine⟨by rw[bF,bF,f.1],λi a h=>?_⟩;cases i with
 |zero=>cases h;exact⟨v,rfl,q⟩
 |succ i=>exact f.2 i a h
theorem Fits.skip(f:Fits Γ G Z):Fits (none::Γ) G (v::Z):=by
 refine⟨by rw[bF,bF,f.1],λi a h=>?_⟩;cases i with
 |zero=>cases h
 |succ i=>exact f.2 i a h
def Tp(w:View)(Γ:Cxt)(te:TE)(T:Ty):Prop:=∀Z H Q,w.ok H->Fits Γ (w.v H) Z->(∀v H',w.ok H'->Same (w.v H) (w.v H')->T.p (w.v H') v->Q v H')->te Z H Q
def Yy(k n:Nat):Ty:=⟨λG v=>Th G k n v,λs h=>h.same s⟩
def tyI(lo hi:Int):Ty:=⟨λ_ v=>∃i,v=.int i/\lo<=i/\i<=hi,λ_ h=>h⟩
def ut(T:Ty)(lo hi:Nat):Ty:=⟨λG v=>∃a vs,v=.ref a/\G a=some (.lst vs)/\lo<=vs.length/\vs.length<=hi/\∀u∈vs,T.p G u,λs ⟨a,vs,h1,h2,h3,h4,h5⟩=>⟨a,vs,h1,s _ _ h2,h3,h4,λu hu=>T.mo s (h5 u hu)⟩⟩
abbrev tyL(k n lo hi:Nat):Ty:=ut (Yy k n) lo hi
def zbo(v:V):Ty:=⟨λ_ u=>u=v,λ_ h=>h⟩
def TpA(w:View)(Γ:Cxt)(ta:TA)(k n m:Nat):Prop:=∀Z H Q,w.ok H->Fits Γ (w.v H) Z->(∀vs H',w.ok H'->Same (w.v H) (w.v H')->vs.length=m->(∀u∈vs,Th (w.v H') k n u)->Q vs H')->ta Z H Q
def TpB(w:View)(Γ:Cxt)(ta:TA)(T:Ty)(m:Nat):Prop:=∀Z H Q,w.ok H->Fits Γ (w.v H) Z->(∀vs H',w.ok H'->Same (w.v H) (w.v H')->vs.length=m->(∀u∈vs,T.p (w.v H') u)->Q vs H')->ta Z H Q
def TpO(w:View)(Γ:Cxt)(to:TO):Prop:=∀Z H Q,w.ok H->Fits Γ (w.v H) Z->(∀o H',w.ok H'->Same (w.v H) (w.v H')->Q o H')->to Z H Q
section
variable {w:View} {Γ:Cxt} {te ta tb:TE} {K:aK} {k n m k' n' m' lo hi lo' hi':Nat} {i j i' j':Int}
theorem Tp.sub(h:Tp w Γ te T)(s:∀G v,T.p G v->T'.p G v):Tp w Γ te T':=λZ H Q o f q=>h Z H Q o f λv a b c t=>q v a b c (s _ _ t)
theorem Tp.var(h:Γ[x]?=some (some T)):Tp w Γ (zgK x) T:=λZ H Q o f q=>let ⟨v,e,t⟩:=f.2 x T h;⟨v,e,q v H o (Same.refl _) t⟩
theorem Tp.non:Tp w Γ (tC .non) (Yy 0 0):=λZ H Q o f q=>q _ H o (Same.refl _) Th.non
theorem Tp.bl:Tp w Γ (tC (.bl b)) (Yy 0 0):=λZ H Q o f q=>q _ H o (Same.refl _) Th.bl
theorem Tp.str(h:(x.cps.toList.all λc=>decide (c<16^8))=true)(hn:x.cps.size<=100):Tp w Γ (tC (.str x)) (Yy 0 100):=λZ H Q o f q=>q _ H o (Same.refl _) (Th.str h hn)
theorem Tp.int:Tp w Γ (tC (.int i)) (tyI i i):=λZ H Q o f q=>q _ H o (Same.refl _) ⟨i,rfl,lw _,lw _⟩
theorem Tp.wide(h:Tp w Γ te (tyI i j))(h1:i'<=i)(h2:j<=j'):Tp w Γ te (tyI i' j'):=h.sub λG v ⟨x,e,a,b⟩=>⟨x,e,pC h1 a,pC b h2⟩
theorem Tp.add(ha:Tp w Γ ta (tyI i j))(hb:Tp w Γ tb (tyI i' j')):Tp w Γ (tOp (rI0 λx y=>.int (x+y)) ta tb) (tyI (i+i') (j+j')):=λZ H Q o f q=>ha Z H _ o f λv b c a ⟨x,d,a1,b1⟩=>hb Z b _ c (f.same a) λu e g h ⟨y,k,a2,b2⟩=>⟨x,y,d,k,q _ e g (a.trans h) ⟨_,rfl,by omega,by omega⟩⟩
theorem Tp.neg(ha:Tp w Γ ta (tyI i j)):Tp w Γ (tUn (rU λx=>.int (-x)) ta) (tyI (-j) (-i)):=λZ H Q o f q=>ha Z H _ o f λv a b c ⟨x,d,a1,b1⟩=>⟨x,d,q _ a b c ⟨_,rfl,by omega,by omega⟩⟩
theorem Tp.pow(c:zit x y):Tp w Γ (tOp (rI zit λi j=>.int (i^j.toNat)) (tC (.int x)) (tC (.int y))) (tyI (x^y.toNat) (x^y.toNat)):=λZ H Q o f q=>⟨x,y,rfl,rfl,c,q _ H o (Same.refl _) ⟨_,rfl,lw _,lw _⟩⟩
theorem Tp.ofI(h:Tp w Γ te (tyI i j))(h1:-(10^29)<=i:=by decide)(h2:j<=10^29:=by decide):Tp w Γ te (Yy 0 100):=h.sub λG v ⟨x,e,a,b⟩=>by
 rw[e];exact Th.int (by omega) (aq _)
theorem Tp.ofL(h:Tp w Γ te (tyL k n lo hi)):Tp w Γ te (Yy (k+1) ((n+1)*hi)):=h.sub λG v ⟨a,vs,e,b,_,c,d⟩=>by
 rw[e];exact Th.lst b d (o7 _ c)
theorem Tp.le(h:Tp w Γ te (Yy k n))(hk:k<=k')(hn:n<=n'):Tp w Γ te (Yy k' n'):=h.sub λG v t=>t.le hk hn
theorem TpA.nil:TpA w Γ UJ 0 0 0:=λZ H Q o f q=>q [] H o (Same.refl _) rfl (by simp)
theorem TpA.cons(h:Tp w Γ te (Yy k n))(ht:TpA w Γ t k' n' m):TpA w Γ (Zx te t) (max k k') (max n n') (m+1):=λZ H Q o f q=>h Z H _ o f λv d e b g=>ht Z d _ e (f.same b) λi j l c p r=>q (v::i) j l (b.trans c) (by rw[bF,p]) λu a=>by
 rcases aW.mp a with rfl | a
 ·exact (g.same c).le (oU _ _) (oU _ _)
 ·exact (r u a).le (su _ _) (su _ _)
theorem YK(h:x<=10000):x<=aA:=aB h (by decide)
theorem Tp.lst(h:TpA w Γ t k n m)(hm:m<=10000:=by decide):Tp w Γ (zeW t) (tyL k n m m):=λZ H Q o f q=>h Z H _ o f λb H1 d e a g=>⟨YK (by rw[a];exact hm),λp i=>by
 obtain⟨j,c,l⟩:=w.new (.lst b) d i;exact q (.ref p) _ j (e.trans c) ⟨p,b,rfl,l,iD a.symm,iD a,λu r=>(g u r).same c⟩⟩
theorem Tp.emp:Tp w Γ zg2 (Yy 1 0):=λZ H Q o f q p a=>by
 obtain⟨b,c,d⟩:=w.new (.dK []) o a;exact q (.ref p) _ b c (Th.emp d (aq _))
theorem zhz{x:V}(h:x∈(bW c xs).flatten):x∈xs:=by
 obtain⟨l,b,a⟩:=List.mem_flatten.mp h;rw[(List.mem_replicate.mp b).2]at a;exact a
theorem Tp.rep{c c':Nat}(ha:Tp w Γ ta (tyL k n lo hi))(hb:Tp w Γ tb (tyI c c'))(hm:hi*c'<=10000:=by decide)(hc:c'<=10000:=by decide):Tp w Γ (tOp zi3 ta tb) (tyL k n (lo*c) (hi*c')):=λZ H Q o f q=>ha Z H _ o f λv j l b m=>hb Z j _ l (f.same b) λu H2 r d ⟨y,s,a2,b2⟩=>by
 obtain⟨a,e,t,z,A,g,B⟩:=(tyL k n lo hi).mo d m;have h:y.toNat<=c':=by omega
 have C:c<=y.toNat:=by omega
 refine⟨a,y,e,t,s,w.out z,by omega,by omega,YK (aB (CT g h) hm),λp D=>?_⟩;obtain⟨E,i,F⟩:=w.new (.lst (bW y.toNat e).flatten) r D;refine q (.ref p) _ E (b.trans (d.trans i)) ⟨p,_,rfl,F,by rw[len_rep,fD lo];exact CT C A,by rw[len_rep,fD hi];exact CT h g,λx G=>(B x (zhz G)).same i⟩
theorem TpO.none:TpO w Γ zbM:=λZ H Q o f q=>q _ H o (Same.refl _)
theorem TpO.some(h:Tp w Γ te (tyI i j)):TpO w Γ (zgk te):=λZ H Q o f q=>h Z H _ o f λv a b c ⟨x,e,_⟩=>⟨x,e,q _ a b c⟩
theorem zcU(vs:List V)(lo hi:Option Int):(∀v∈qi vs lo hi,v∈vs)/\(qi vs lo hi).length<=vs.length:=by
 unfold qi;refine⟨λv a=>CV (fO a),?_⟩;rw[bA,bR];omega
theorem Tp.sl(h:Tp w Γ te (ut T lo hi))(hl:TpO w Γ tl)(hu:TpO w Γ tu):Tp w Γ (tSl (zhf K) te tl tu) (ut T 0 hi):=λZ H Q o f q=>h Z H _ o f λv i j c k=>hl Z i _ j (f.same c) λx l m d=>hu Z l _ m ((f.same c).same d) λy H3 n e=>by
 obtain⟨a,b,r,s,l1,t,z⟩:=(ut T lo hi).mo (d.trans e) k;refine⟨a,b,r,SqL.of (w.out s),λp A=>?_⟩;obtain⟨B,g,C⟩:=w.new (.lst (qi b x y)) n A;exact q (.ref p) _ B (c.trans (d.trans (e.trans g))) ⟨p,_,rfl,C,bw _,aB (zcU b x y).2 t,λu hu=>T.mo g (z u ((zcU b x y).1 u hu))⟩
theorem Tp.rev(h:Tp w Γ te (ut T lo hi)):Tp w Γ (zh3 K te) (ut T lo hi):=λZ H Q o f q=>h Z H _ o f λv H1 d e ⟨a,b,g,i,j,k,l⟩=>⟨a,b,g,SqL.of (w.out i),λp m=>by
 obtain⟨n,c,r⟩:=w.new (.lst b.reverse) d m;exact q (.ref p) _ n (e.trans c) ⟨p,_,rfl,r,by rw[fX];exact j,by rw[fX];exact k,λu s=>T.mo c (l u (List.mem_reverse.mp s))⟩⟩
theorem Tp.ix(ha:Tp w Γ ta (ut T lo hi))(hb:Tp w Γ tb (tyI 0 j))(hj:j<lo:=by decide):Tp w Γ (tOp (ziz K) ta tb) T:=λZ H Q o f q=>ha Z H _ o f λv g h c i=>hb Z g _ h (f.same c) λu k l d ⟨y,m,a2,b2⟩=>by
 obtain⟨a,b,n,p,l1,m1,r⟩:=(ut T lo hi).mo d i;have e:y.toNat<b.length:=by omega
 refine⟨a,b,y,b[y.toNat],n,m,SqL.of (w.out p),?_,q _ k l (c.trans d) (r _ (fJ e))⟩;have:=yZ (aj e);rwa[show ((y.toNat:Nat))=y by omega]at this
theorem Tp.len(h:Tp w Γ te (ut T lo hi)):Tp w Γ (tCB (λxs H Q=>∃p ys,xs=[.ref p]/\(SqL K H p ys\/SqT K H p ys)/\Q (.int ys.length) H) (Zx te UJ)) (tyI lo hi):=λZ H Q o f q=>h Z H _ o f λv b c d ⟨a,e,g,i,l1,m1,r1⟩=>⟨a,e,by rw[g],.inl (SqL.of (w.out i)),q _ b c d ⟨_,rfl,by omega,by omega⟩⟩
theorem Tp.catT(ha:Tp w Γ ta (ut T lo hi))(hb:Tp w Γ tb (ut T lo' hi'))(hm:hi+hi'<=10000:=by first | decide | omega):Tp w Γ (tOp zi5 ta tb) (ut T (lo+lo') (hi+hi')):=λZ H Q o f q=>ha Z H _ o f λv j k e l=>hb Z j _ k (f.same e) λu H2 m g n=>by
 obtain⟨a,h,r,s,l1,t,y⟩:=(ut T lo hi).mo g l;obtain⟨b,i,z,A,l2,B,C⟩:=n;refine⟨a,b,h,i,r,z,w.out s,w.out A,YK (aB (Hm t B) hm),λp D=>?_⟩;obtain⟨E,d,F⟩:=w.new (.lst (h++i)) m D;refine q (.ref p) _ E (e.trans (g.trans d)) ⟨p,_,rfl,F,by rw[aF];omega,by rw[aF];omega,λx c=>?_⟩;rcases aZ.mp c with c | c
 ·exact T.mo d (y x c)
 ·exact T.mo d (C x c)
theorem TpB.nil:TpB w Γ UJ T 0:=λZ H Q o f q=>q [] H o (Same.refl _) rfl (by simp)
theorem TpB.cons(h:Tp w Γ te T)(ht:TpB w Γ t T m):TpB w Γ (Zx te t) T (m+1):=λZ H Q o f q=>h Z H _ o f λv d e b g=>ht Z d _ e (f.same b) λi j k c l n=>q (v::i) j k (b.trans c) (by rw[bF,l]) λu a=>by
 rcases aW.mp a with rfl | a
 ·exact T.mo c g
 ·exact n u a
theorem Tp.lstT(h:TpB w Γ t T m)(hm:m<=10000:=by decide):Tp w Γ (zeW t) (ut T m m):=λZ H Q o f q=>h Z H _ o f λb H1 d e a g=>⟨YK (by rw[a];exact hm),λp i=>by
 obtain⟨j,c,k⟩:=w.new (.lst b) d i;exact q (.ref p) _ j (e.trans c) ⟨p,b,rfl,k,iD a.symm,iD a,λu l=>T.mo c (g u l)⟩⟩
theorem Tp.wideL(h:Tp w Γ te (ut T lo hi))(s:∀G v,T.p G v->T'.p G v)(h1:lo'<=lo)(h2:hi<=hi'):Tp w Γ te (ut T' lo' hi'):=h.sub λG v ⟨a,b,e,g,l,m,r⟩=>⟨a,b,e,g,aB h1 l,aB m h2,λu c=>s G u (r u c)⟩
theorem Tp.ofLI(h:Tp w Γ te (ut (tyI i j) lo' hi'))(h1:-(10^29)<=i:=by decide)(h2:j<=10^29:=by decide):Tp w Γ te (tyL 0 100 lo' hi'):=h.wideL (λG v ⟨x,e,a,b⟩=>by rw[e];exact Th.int (by omega) (aq _)) (aq _) (aq _)
theorem Tp.tupOf(h:Tp w Γ te (tyL k n lo hi)):Tp w Γ (tCB (λxs H Q=>∃p ys,xs=[.ref p]/\((SqL K H p ys/\∀l,H l=none->Q (.ref l) (upd H l (.tup ys)))\/(SqT K H p ys/\Q (.ref p) H))) (Zx te UJ)) (Yy (k+1) ((n+1)*hi)):=λZ H Q o f q=>h Z H _ o f λv H1 d e ⟨a,b,g,i,l1,j,m⟩=>⟨a,b,by rw[g],.inl ⟨SqL.of (w.out i),λp r=>by
 obtain⟨s,c,t⟩:=w.new (.tup b) d r;exact q (.ref p) _ s (e.trans c) (Th.tup t (λu x=>(m u x).same c) (o7 _ j))⟩⟩
end
def TpS(w:View)(Γ:Cxt)(ts:TS)(Γ':Cxt)(T:Ty):Prop:=∀D Z H,w.ok H->Fits Γ (w.v H) Z->(∀σ' H',w.ok H'->Same (w.v H) (w.v H')->Fits Γ' (w.v H') σ'->D.nx σ' H')->(∀v H',w.ok H'->Same (w.v H) (w.v H')->T.p (w.v H') v->D.rt v H')->ts D Z H
section
variable {w:View} {Γ Γ1 Γ2:Cxt} {te:TE} {t u:TS} {T T1:Ty}
theorem TpS.seq(h1:TpS w Γ t Γ1 T)(h2:TpS w Γ1 u Γ2 T):TpS w Γ (Qd t u) Γ2 T:=λD Z H o f g d=>h1 _ Z H o f (fun σ1 h i e j=>h2 D σ1 h i j (fun σ2 a b c k=>g σ2 a b (e.trans c) k) (λv a b c l=>d v a b (e.trans c) l)) d
theorem TpS.ret(h:Tp w Γ te T):TpS w Γ (zja te) Γ2 T:=λD Z H o f qn a=>h Z H _ o f a
end
theorem Tp.asg2(h:Tp w Γ te T1)(o:w.ok H)(f:Fits Γ (w.v H) Z)(q:∀v H',w.ok H'->Same (w.v H) (w.v H')->T1.p (w.v H') v->u D (Z.set i (some v)) H'):Qd (zat te (Xd i)) u D Z H:=h Z H _ o f q
theorem Fits.any:∀{G:Hp} (Z:St),Fits (Z.map λ_=>none) G Z:=λ{G} Z=>⟨by rw[aa],λi T h=>by rw[ao]at h;cases e:Z[i]? with | none=>rw[e]at h;cases h | some x=>rw[e]at h;cases h⟩
def CSub:Cxt->Cxt->Prop
 |[],[]=>True
 |_::Γ,none::Γ'=>CSub Γ Γ'
 |some T::Γ,some T' :: Γ'=>(∀G v,T.p G v->T'.p G v)/\CSub Γ Γ'
 |_,_=>False
theorem CSub.fits:∀{Γ Γ':Cxt} {G:Hp} {Z:St},CSub Γ Γ'->Fits Γ G Z->Fits Γ' G Z
 |[],[],_,_,_,f=>f
 |[],_::_,_,_,h,_=>by simp[CSub]at h
 |_::_,[],_,_,h,_=>by simp[CSub]at h
 |a::Γ,none::Γ',G,[],h,f=>by have:=f.1;simp at this
 |a::Γ,none::Γ',G,v::Z,h,f=>Fits.skip (CSub.fits (by exact h) ⟨by simpa using f.1,λi T e=>f.2 (i+1) T e⟩)
 |none::Γ,some b :: Γ',G,Z,h,f=>by simp[CSub]at h
 |some T::Γ,some b :: Γ',G,[],h,f=>by have:=f.1;simp at this
 |some T::Γ,some b :: Γ',G,v::Z,h,f=>by
  obtain⟨u,e,q⟩:=f.2 0 T rfl;have e:v=some u:=by simpa using e
  subst e;exact Fits.cons (h.1 _ _ q) (CSub.fits h.2 ⟨by simpa using f.1,λi T e=>f.2 (i+1) T e⟩)
def idV:View:=⟨id,λ_=>True,λh=>h,λo _ h=>⟨trivial,zp h,zj⟩⟩
section
variable {w:View} {Γ:Cxt} {te ta tb:TE} {K:aK} {vs us:List V}
end
def tyQ(k n:Nat)(P:cD->Bool):Ty:=⟨λG v=>∃d,ThAt G d v/\Fit k n d/\P d=true,λs ⟨d,h,f,p⟩=>⟨d,h.same s,f,p⟩⟩
section
variable {w:View} {Γ:Cxt} {te ta tb:TE} {K:aK} {k n m k' n' m' lo hi:Nat} {i j:Int} {P P':cD->Bool}
theorem Th.q(t:Th G k n v)(h:∀d,ThAt G d v->P d=true):(tyQ k n P).p G v:=let ⟨d,a,f⟩:=t;⟨d,a,f,h d a⟩
end
mutual
theorem ThAt.uniq{H:Hp}:∀{d e:cD} {v:V},ThAt H d v->ThAt H e v->d=e
 |.none,e,v,h,g=>by rw[ThAt]at h;subst h;cases e<;>rw[ThAt]at g<;>first | (obtain⟨a,ys,z,_⟩:=g;cases z;done) | (obtain⟨_,a,z,_⟩:=g;cases z;done) | rfl | (cases g;done)
 |.bool b,e,v,h,g=>by rw[ThAt]at h;subst h;cases e<;>rw[ThAt]at g<;>first | (obtain⟨a,ys,z,_⟩:=g;cases z;done) | (obtain⟨_,a,z,_⟩:=g;cases z;done) | (cases g;rfl) | (cases g;done)
 |.int i,e,v,h,g=>by rw[ThAt]at h;subst h;cases e<;>rw[ThAt]at g<;>first | (obtain⟨a,ys,z,_⟩:=g;cases z;done) | (obtain⟨_,a,z,_⟩:=g;cases z;done) | (cases g;rfl) | (cases g;done)
 |.str x,e,v,h,g=>by rw[ThAt]at h;subst h;cases e<;>rw[ThAt]at g<;>first | (obtain⟨a,ys,z,_⟩:=g;cases z;done) | (obtain⟨_,a,z,_⟩:=g;cases z;done) | (cases g;rfl) | (cases g;done)
 |.list xs,e,v,h,g=>by
  rw[ThAt]at h;obtain⟨a,ys,rfl,h2,h3⟩:=h;cases e with
  |list xs'=>
   rw[ThAt]at g;obtain⟨b,zs,z,g2,g3⟩:=g;cases z
   rw[h2]at g2;cases g2
   rw[ThsAt.uniq h3 g3]
  |tuple xs'=>rw[ThAt]at g;obtain⟨b,zs,z,g2,g3⟩:=g;cases z;rw[h2]at g2;cases g2
  |dict kvs=>rw[ThAt]at g;obtain⟨_,b,z,g2⟩:=g;cases z;rw[h2]at g2;cases g2
  |none=>rw[ThAt]at g;cases g
  |bool _=>rw[ThAt]at g;cases g
  |int _=>rw[ThAt]at g;cases g
  |str _=>rw[ThAt]at g;cases g
 |.tuple xs,e,v,h,g=>by
  rw[ThAt]at h;obtain⟨a,ys,rfl,h2,h3⟩:=h;cases e with
  |tuple xs'=>
   rw[ThAt]at g;obtain⟨b,zs,z,g2,g3⟩:=g;cases z
   rw[h2]at g2;cases g2
   rw[ThsAt.uniq h3 g3]
  |list xs'=>rw[ThAt]at g;obtain⟨b,zs,z,g2,g3⟩:=g;cases z;rw[h2]at g2;cases g2
  |dict kvs=>rw[ThAt]at g;obtain⟨_,b,z,g2⟩:=g;cases z;rw[h2]at g2;cases g2
  |none=>rw[ThAt]at g;cases g
  |bool _=>rw[ThAt]at g;cases g
  |int _=>rw[ThAt]at g;cases g
  |str _=>rw[ThAt]at g;cases g
 |.dict kvs,e,v,h,g=>by
  rw[ThAt]at h;obtain⟨h0,a,rfl,h2⟩:=h;cases e with
  |dict kvs'=>
   rw[ThAt]at g;obtain⟨g0,b,z,g2⟩:=g;cases z
   rw[h2]at g2;have q:dV (unD kvs)=dV (unD kvs'):=by injection (bN g2)
   rw[h0,g0,zgq q]
  |list xs'=>rw[ThAt]at g;obtain⟨b,zs,z,g2,g3⟩:=g;cases z;rw[h2]at g2;cases g2
  |tuple xs'=>rw[ThAt]at g;obtain⟨b,zs,z,g2,g3⟩:=g;cases z;rw[h2]at g2;cases g2
  |none=>rw[ThAt]at g;cases g
  |bool _=>rw[ThAt]at g;cases g
  |int _=>rw[ThAt]at g;cases g
  |str _=>rw[ThAt]at g;cases g
theorem ThsAt.uniq{H:Hp}:∀{ds es:List cD} {ys:List V},ThsAt H ds ys->ThsAt H es ys->ds=es
 |[],es,ys,h,g=>by
  rw[ThsAt]at h;subst h;cases es with
  |nil=>rfl
  |cons e es=>rw[ThsAt]at g;obtain⟨y,zs,z,_⟩:=g;cases z
 |d::ds,es,ys,h,g=>by
  rw[ThsAt]at h;obtain⟨y,zs,rfl,h2,h3⟩:=h;cases es with
  |nil=>rw[ThsAt]at g;cases g
  |cons e es=>
   rw[ThsAt]at g;obtain⟨y',zs',z,g2,g3⟩:=g;cases z
   rw[ThAt.uniq h2 g2,ThsAt.uniq h3 g3]
end
theorem Th.fit(t:Th H k n v)(h:ThAt H d v):Fit k n d:=by
 obtain⟨e,g,f⟩:=t;rw[h.uniq g];exact f
theorem ThsAt.map{α:Type}{H:Hp}{f:α->cD}{g:α->V}:∀{xs:List α},(∀x∈xs,ThAt H (f x) (g x))->ThsAt H (xs.map f) (xs.map g)
 |[],_=>by rw[fG,fG,ThsAt]
 |x::xs,h=>by
  rw[bC,bC,ThsAt];exact⟨_,_,rfl,h x (.head _),ThsAt.map λy hy=>h y (.tail _ hy)⟩
theorem ThAt.ints{ns:List Int}(h:H a=some (.lst (ns.map V.int))):ThAt H (.list (ns.map .int)) (.ref a):=by
 exact⟨a,_,rfl,h,ThsAt.map λi _=>by rw[ThAt]⟩
end L2
namespace L2
open PySem PyProof.Rows
def shT:cD->Nat
 |.none=>0 | .bool _=>1 | .int _=>2 | .str _=>3 | .list _=>4 | .tuple _=>5 | .dict _=>6
def tyS(k n s:Nat):Ty:=⟨λG v=>∃d,ThAt G d v/\Fit k n d/\shT d=s,λs ⟨d,h,f,p⟩=>⟨d,h.same s,f,p⟩⟩
theorem ThsAt.mem(h:ThsAt H ds vs)(hv:v∈vs):∃d∈ds,ThAt H d v:=by
 obtain⟨j,a,rfl⟩:=List.mem_iff_getElem.mp hv;obtain⟨d,b,t⟩:=h.get (aj a);exact⟨d,aL b,t⟩
theorem ThsAt.back{H:Hp}:∀{ds:List cD} {vs:List V},ThsAt H ds vs->∀d∈ds,∃v∈vs,ThAt H d v
 |[],_,_,d,hd=>by cases hd
 |e::ds,vs,h,d,hd=>by
  rw[ThsAt]at h;obtain⟨y,zs,rfl,h1,h2⟩:=h;rcases aW.mp hd with rfl | hd
  ·exact⟨y,.head _,h1⟩
  ·obtain⟨v,a,t⟩:=ThsAt.back h2 d hd;exact⟨v,.tail _ a,t⟩
section
variable {w:View} {Γ:Cxt} {te ta tb:TE} {K:aK} {k n m k' n' m' lo hi lo' hi' s:Nat} {i j:Int} {P P':cD->Bool} {d e:cD}
theorem Th.sh(t:Th G k n v)(h:∀d,ThAt G d v->shT d=s):(tyS k n s).p G v:=let ⟨d,a,f⟩:=t;⟨d,a,f,h d a⟩
theorem Tp.leL(h:Tp w Γ te (tyL k n lo hi))(hk:k<=k':=by decide)(hn:n<=n':=by decide):Tp w Γ te (tyL k' n' lo hi):=h.wideL (λ_ _ t=>Th.le t hk hn) (aq _) (aq _)
theorem TpS.post(h:TpS w Γ t Γ1 TR)(c:CSub Γ1 Γ2):TpS w Γ t Γ2 TR:=λD Z H o f a b=>h D Z H o f (fun σ' d e g i=>a σ' d e g (c.fits i)) b
end
open PySem PySem.Spec PyProof.Rows
section
variable {w:View} {Γ:Cxt} {te ta tb:TE} {lo hi lo' hi':Nat} {i j i' j':Int} {K:aK}
theorem Tp.takeU{c:Nat}(h:Tp w Γ te (ut T lo hi)):Tp w Γ (tSl (zhf K) te zbM (zgk (tC (.int c)))) (ut T 0 c):=λZ H Q o f q=>h Z H _ o f λv H1 e g ⟨a,b,i,j,l1,m1,k⟩=>⟨c,rfl,by
 refine⟨a,b,i,SqL.of (w.out j),λp l=>?_⟩;rw[zhm];obtain⟨m,d,n⟩:=w.new (.lst (b.take c)) e l;exact q (.ref p) _ m (g.trans d) ⟨p,_,rfl,n,bw _,by rw[bA];omega,λu r=>T.mo d (k u (fO r))⟩⟩
end
section
variable {X:Cx} {pins:List (au×kZ)} {Z:St} {H:Hp} {s:aP} {h':dj} {T:au} {o:HO} {t':Nat} {fp:List au}
theorem Inv.turnedL(I:Inv X pins Z H s)(k:∀b o,b∉fp->s.heap.get? b=some o->h'.get? b=some o)(hf:∀b∈fp,U5 X pins H b):Inv X pins Z H { s with heap:=h',toks:=t' }:=by
 have f:∀b u,H b=some u->b∉fp:=λb u e d=>by rw[(hf b d).1]at e;cases e
 refine I.step (λb d=>⟨(hf b d).2.2.2.1,(hf b d).2.1,(hf b d).2.2.2.2.1,(hf b d).2.2.2.2.2⟩) (λb o _ _ a q _=>k b o a q) (λb o _ _ a q _=>⟨o.slots,k b o a q⟩) (λ_ _ _ _ n=>n)
  (λb o a q=>⟨o,k b o a q⟩) (λ_ _ q=>q) (λ_ _ _ q=>q) (λb ps q=>⟨#[],by rw[q];simp⟩) (λm g=>?_) (λb u q=>?_) I.bare
 ·obtain⟨o,h,i,j,r⟩:=g;exact⟨o,h,i,k _ o (λz=>(hf _ z).2.1 rfl) j,r⟩
 ·refine (I.hok b u q).stay (λc v a z=>k c v ?_ z) (λ_ z=>z) λ_ _ z=>z;rcases a with rfl | a
  ·exact f _ _ q
  ·exact f _ _ a
theorem Inv.turnedN(I:Inv X pins Z H s)(k:∀b o,b∉fp->s.heap.get? b=some o->h'.get? b=some o)(hf:∀b∈fp,U5 X pins H b)(hT:s.heap.objs.size<=T)(new:ObjOk X.prog X.w (upd H T o) h' T o):
  Inv X pins Z (upd H T o) { s with heap:=h',toks:=t' }:=by
 have h:=I.hok.fresh hT;have f:∀b u,H b=some u->b≠T:=λb u e z=>by rw[z,h]at e;cases e
 have g:∀b u,H b=some u->b∉fp:=λb u e d=>by rw[(hf b d).1]at e;cases e
 refine I.step (λb d=>⟨(hf b d).2.2.2.1,(hf b d).2.1,(hf b d).2.2.2.2.1,(hf b d).2.2.2.2.2⟩) (λb o _ _ a q _=>k b o a q) (λb o _ _ a q _=>⟨o.slots,k b o a q⟩) (λb o a q n=>by rw[zy (bj (aO (aM q) hT))];exact n)
  (λb o a q=>⟨o,k b o a q⟩) (λb i q=>by rw[zy (f b _ q)];exact q) (λb o u q=>by rw[zy (f b _ q)];exact q) (λb ps q=>⟨#[],by rw[zy (f b _ q),q];simp⟩) (λm j=>?_) (λb u q=>?_) I.bare
 ·obtain⟨o,l,p,t,r⟩:=j;exact⟨o,l,p,k _ o (λz=>(hf _ z).2.1 rfl) t,r⟩
 ·by_cases d:b=T
  ·subst d;rw[zj]at q;cases q
   exact new
  ·rw[zy d]at q;refine (I.hok b u q).stay (λc v a z=>k c v ?_ z) (λc z=>by rw[zy (f c _ z)];exact z) λc i z=>by rw[zy (f c _ z)];exact z
   rcases a with rfl | a
   ·exact g _ _ q
   ·exact g _ _ a
end
def Itz(K:aK)(a b:au):It :=
 ⟨λi H=>∃xs ys x y,SqL K H a xs/\SqL K H b ys/\xs[i]?=some x/\ys[i]?=some y,λi H v H'=>∃T x y,v=.ref T/\H T=none/\H'=upd H T (.tup [x,y])/\(∀xs,SqL K H a xs->xs[i]?=some x)/\∀ys,SqL K H b ys->ys[i]?=some y,
  λi H=>∃xs ys,SqL K H a xs/\SqL K H b ys/\(xs.length<=i\/ys.length<=i)⟩
theorem zgQ{P:bx}{w:bU}{K:aK}{elts:List dN}{k:Nat}{tp:nj}(a b z TI TO i1 i2:au)(D:ZipApart z TI TO i1 i2 a b):Turn P w K (.Tuple elts k tp) (Itz K a b) [z,TI,TO,i1,i2] z
  (λi h=>IsZip h z TI TO .none/\IsPair h TI (.ref i1) (.ref i2)/\(∃u v,IsPair h TO u v)/\h.IsListIter i1 a i/\h.IsListIter i2 b i) where
 mem:=by simp
 obj:=λi h j c d=>by
  obtain⟨r,l,⟨u,v,t⟩,⟨o4,f,c4,d4⟩,⟨o5,g,c5,d5⟩⟩:=j;simp only[aW,eF,or_false]at d;rcases d with rfl | rfl | rfl | rfl | rfl
  ·exact⟨_,r,λv q=>by have F:=q;cases F⟩
  ·exact⟨_,l,λv q=>by have F:=q;cases F⟩
  ·exact⟨_,t,λv q=>by have F:=q;cases F⟩
  ·exact⟨o4,f,λv q=>by rw[d4]at q;cases q⟩
  ·exact⟨o5,g,λv q=>by rw[d5]at q;cases q⟩
 keep:=λi h h' j G=>by
  obtain⟨r,l,⟨u,v,t⟩,f,g⟩:=j;exact⟨G z (by simp) _ r,G TI (by simp) _ l,⟨u,v,G TO (by simp) _ t⟩,f.at λo q=>G i1 (by simp) o q,g.at λo q=>G i2 (by simp) o q⟩
 item:=by
  intro X O Q R d i A s Z H E I M j S;subst O Q R;obtain⟨xs,ys,x,y,m,n,C,hy⟩:=S;obtain⟨T,U,p,_⟩:=I.list m;obtain⟨J,B,V,_⟩:=I.list n;obtain⟨u,hu,ru⟩:=U.get C;obtain⟨v,hv,W⟩:=B.get hy;obtain⟨r,l,⟨u0,v0,t⟩,f,g⟩:=j;refine wpAny_pyNext_zip_item D r l t f g p.isList V.isList (by simpa using hu) (by simpa using hv) λh' g1 g3 g4 g5 gT hsz N=>?_;refine⟨_,rfl,?_⟩;refine wpAny_letOwnedTupleGo_zip g1 λY aa e=>?_;have L:=aM r;have ab:=(e.2 _ (eU L)).trans gT;have I1:Inv X A Z (upd H s.heap.objs.size (.tup [x,y])) { s with heap:=Y,toks:=s.toks }:=by
   refine I.turnedN (λc o d q=>?_) M (aq _) ⟨by show 2<=aA;decide,[u,v],.cons ru (.cons W .nil),_,ab,rfl,0,rfl⟩;exact (e.2 c (λq=>d (by simp[q]))).trans (N c o (λq=>d (by simp[q])) (λq=>d (by simp[q])) (λq=>d (by simp[q])) (λq=>d (by simp[q])) q)
  have ac:=(e.2 _ D.TIz).trans (N _ _ D.TIz D.TITO D.TIi1 D.TIi2 l);refine⟨.ref s.heap.objs.size,_,I1,rfl,⟨s.heap.objs.size,x,y,rfl,I.hok.fresh (aq _),rfl,λzs hz=>by rw[I.list_inj hz m];exact C,λzs hz=>by rw[I.list_inj hz n];exact hy⟩,⟨aa,ac,⟨u,v,(e.2 _ D.TOz).trans g3⟩,g4.at λo q=>(e.2 _ D.i1z).trans q,g5.at λo q=>(e.2 _ D.i2z).trans q⟩,λc d=>?_⟩;have ae:c<s.heap.objs.size:=by
   simp only[aW,eF,or_false]at d;obtain⟨o4,f,_⟩:=f;obtain⟨o5,g,_⟩:=g;rcases d with rfl | rfl | rfl | rfl | rfl
   ·exact L
   ·exact aM l
   ·exact aM t
   ·exact aM f
   ·exact aM g
  rw[zy (bj ae)];exact (M c d).1
 done:=by
  intro X O Q R d i A s Z H E I M j S;subst O Q R;obtain⟨xs,ys,m,n,C⟩:=S;obtain⟨T,U,p,_⟩:=I.list m;obtain⟨J,B,V,_⟩:=I.list n;obtain⟨r,l,⟨u0,v0,t⟩,f,g⟩:=j;have l1:=U.length;have l2:=B.length;refine wpAny_pyNext_zip_end (I.ok.hd d) D r l t f g p.isList V.isList (by
   rcases C with C | C
   ·exact .inl (by simp;omega)
   ·exact .inr (by simp;omega)) λh' N=>⟨rfl,I.turnedL (λc o d q=>?_) M⟩
  exact N c o (λq=>d (by simp[q])) (λq=>d (by simp[q])) (λq=>d (by simp[q])) (λq=>d (by simp[q])) q
 self:=λ_ _ _ _ _ j h=>Fz j.1 h
section
variable {X:Cx}
theorem boot_zip:iy "zip"= some (.type "zip"):=by decide +kernel
def zjM(K:aK)(tl:TA):TI:=λZ H R=>tl Z H λvs H1=>Ex2 λa b=>vs=[.ref a,.ref b]/\(∃xs,SqL K H1 a xs)/\(∃ys,SqL K H1 b ys)/\R (Itz K a b) H1
theorem zik(K:aK){elts:List dN}{k:Nat}{tp:nj}{p pos:nj}(hg:Gl X "zip")(hm:X.mg "zip"= none)(ha:PA X [a,b] ta)(he:bM [a,b] X.env=(false,dZ a X.env)::bM [b] X.env:=by rfl)(hpl:(gO pos (bM [b] X.env)).any (·.1)=false:=by rfl)(ek:X.K=K:=by rfl):
  PI X (.Tuple elts k tp) (.Call (.Name "zip" p) [a,b] [] pos) (zjM K ta):=by
 subst ek;intro d s Z H R I h;refine Mj (Zd I hg hm boot_zip (cP (thn (ha pos d s Z H _ I h) λus c ⟨vs,w,f,j,x⟩=>?_) he hpl));obtain⟨n,r,e,⟨xs,l⟩,⟨ys,m⟩,q⟩:=x;subst e;obtain⟨u1,u2,rfl,j,y⟩:=vals2 j;cases j
 cases y;obtain⟨its,rv,t,_⟩:=f.list l
 obtain⟨its2,rv2,g,_⟩:=f.list m;have z:n<c.heap.objs.size:=by obtain⟨_,e,_⟩:=t.isList;exact aM e
 have A:r<c.heap.objs.size:=by obtain⟨_,e,_⟩:=g.isList;exact aM e
 refine call_zip_2 t.isList g.isList λh' u B C D E hsz F=>?_;refine Fz u ?_;have G:=f.kept (t':=c.toks) λb o q=>F b o q;refine⟨c.heap.objs.size+4,[c.heap.objs.size+4,c.heap.objs.size+2,c.heap.objs.size+3,c.heap.objs.size,c.heap.objs.size+1],_,_,w,rfl,G,zgQ n r _ _ _ _ _ (zipApart_new z A),⟨u,B,⟨_,_,C⟩,D,E⟩,λb v=>?_,q⟩;have i:c.heap.objs.size<=b:=by
  simp only[aW,eF,or_false]at v;rcases v with rfl | rfl | rfl | rfl | rfl<;>first | exact aq _ | exact lF _ _
 exact f.fpOk i (f.hok.fresh i)
theorem zfm{K:aK}(Pv:Nat->List V->Hp->Prop)(hlen:xs.length=ys.length)(h0:Pv 0 [] H)(hl:∀i zs H,i<=xs.length->Pv i zs H->SqL K H a xs/\SqL K H b ys)(hs:∀i x y zs H T,xs[i]?=some x->ys[i]?=some y->Pv i zs H->H T=none->g (.ref T) (nones ns++tU js Z) (upd H T (.tup [x,y])) fun σ' H1=>(∃vs:St,vs.length=ns.length/\σ'=vs++tU js Z)/\tt σ' H1 λc H2=>if c=true then te σ' H2 λv H3=>Pv (i+1) (zs++[v]) H3 else Pv (i+1) zs H2)(hz:∀i zs H,i<xs.length->Pv i zs H->zs.length<aA)(hd:∀zs H,Pv xs.length zs H->∀D,H D=none->Q (.ref D) (upd H D (.lst zs))):
  qO (Itz K a b) ns js g tt te Z Q H:=by
 refine⟨λi m zs H=>m=xs.length-i/\i<=xs.length/\Pv i zs H,⟨xs.length,by simp,bw _,h0⟩,?_⟩;rintro i m zs H ⟨rfl,o,p⟩;obtain⟨f,h⟩:=hl i zs H o p;by_cases d:i<xs.length
 ·have j:=aj d;have k:ys[i]?=some (ys[i]'(by omega)):=aj (by omega);refine .inr ⟨⟨xs,ys,_,_,f,h,j,k⟩,hz i zs H d p,Pv (i+1),λzs' q r=>⟨xs.length-(i+1),by omega,rfl,d,r⟩,λv q s=>?_⟩;obtain⟨T,x,y,rfl,t,rfl,u,w⟩:=s;have l:=u xs f;have n:=w ys h;rw[j]at l;rw[k]at n;cases l
  cases n;exact hs i _ _ zs H T j k p t
 ·have e:i=xs.length:=by omega
  subst e;exact .inl ⟨⟨xs,ys,f,h,.inl (aq _)⟩,hd zs H p⟩
end
section
variable {X:Cx} {tg:dN}
end
section
variable {X:Cx} {o e:dN} {es:List dN} {to:TE} {t:TA} {name:bZ} {apos cpos:nj} {T id:String} {r:V->List V->Hp->VK->Prop}
end
end L2
namespace Lw
def figs(b n:Nat):List Int:=if h:2<=b/\b<=n then figs b (n / b)++[((n % b:Nat):Int)] else [(n:Int)]
termination_by n
decreasing_by exact lZ (by omega) (by omega)
theorem uv(h:n<b):figs b n=[(n:Int)]:=by
 rw[figs,dif_neg (by omega)]
theorem YM(h2:2<=b)(h:b<=n):figs b n=figs b (n / b)++[((n % b:Nat):Int)]:=by
 rw[figs,dif_pos ⟨h2,h⟩]
def ahead(b r:Nat):List Int:=if r=0 then [] else figs b r
theorem Wm(h2:2<=b):figs b n=ahead b (n / b)++[((n % b:Nat):Int)]:=by
 unfold ahead;by_cases h:n<b
 ·rw[uv h,if_pos (dM h),lG h];rfl
 ·rw[YM h2 (by omega),if_neg];have:=rE (a:=n) (b:=b) (by omega) (by omega);omega
theorem Jr(h2:2<=b)(hr:0<r):ahead b r=ahead b (r / b)++[((r % b:Nat):Int)]:=by
 rw[<-Wm h2];unfold ahead;rw[if_neg (by omega)]
theorem Xv{b:Nat}(h2:2<=b):∀(m n:Nat),n<2^m->(figs b n).length<=m+1
 |0,n,h=>by rw[uv (by simp at h;omega)];simp
 |m+1,n,h=>by
  by_cases hn:n<b
  ·rw[uv hn];simp
  ·rw[YM h2 (by omega),aF,aX];have h3:n / b<=n / 2:=Nat.div_le_div_left h2 (by omega);have h4:n / 2<2^m:=by rw[lH]at h;omega
   have:=Xv h2 m (n / b) (by omega);omega
theorem zc4(h2:2<=b):∀n,∀f∈figs b n,0<=f/\f<b:=by
 intro n
 induction n using Gj with
 |_ n c=>
  intro f a;by_cases d:n<b
  ·rw[uv d]at a;have:f=n:=by simpa using a
   omega
  ·rw[YM h2 (by omega)]at a;rcases aZ.mp a with a | a
   ·exact c (n / b) (lZ (by omega) (by omega)) f a
   ·have e:f=((n % b:Nat)):=by simpa using a
    have:=mz n (show 0<b by omega);omega
theorem zb0:figs b n≠[]:=by
 rw[figs];split
 ·simp
 ·simp
def tops(b:Nat):Nat->Nat->List Int
 |0,n=>[((n / b^0:Nat):Int)]
 |k+1,n=>((n / b^(k+1):Nat):Int)::tops b k (n % b^(k+1))
theorem zbc{b:Nat}:∀(k n:Nat),tops b (k+1) n=tops b k (n / b)++[((n % b:Nat):Int)]
 |0,n=>by simp[tops]
 |k+1,n=>by
  rw[tops,zbc k (n % b^(k+2)),tops,sr];have e:b^(k+1+1)=b*b^(k+1):=by rw[lH,fD]
  have a:n % b^(k+1+1) / b=n / b % b^(k+1):=by rw[e,pW]
  have c:n % b^(k+1+1) % b=n % b:=by rw[e,Cg]
  have d:n / b^(k+1+1)=n / b / b^(k+1):=by rw[e,Bs]
  rw[a,c,d]
theorem Wh{b:Nat}(h2:2<=b):∀(k n:Nat),n<b^(k+1)->(k=0\/b^k<=n)->tops b k n=figs b n
 |0,n,h,_=>by
  rw[uv (by simpa using h)];simp[tops]
 |k+1,n,h,hk=>by
  have hge:b^(k+1)<=n:=by
   rcases hk with z | z
   ·omega
   ·exact z
  have a:=aB (by rw[lH];exact Bt b (gH (by omega))) hge;rw[zbc,YM h2 a];have c:n / b<b^(k+1):=by
   rw[iY (by omega),<-lH];exact h
  have d:b^k<=n / b:=by
   rw[Ci (by omega),<-lH];exact hge
  rw[Wh h2 k (n / b) c (.inr d)]
theorem zc6{b:Nat}:∀(k n:Nat),(tops b k n).length=k+1
 |0,n=>rfl
 |k+1,n=>by rw[tops,bF,zc6 k]
def zgV(b:Int)(ns:List Int):Int:=ns.foldl (λn f=>n*b+f) 0
theorem zfd(b f:Int)(ns:List Int):zgV b (ns++[f])=zgV b ns*b+f:=by
 unfold zgV;rw[mY];rfl
def Wo(st fs:List Int):Bool:=(bJ fs.length).any λk=>decide ((fs.drop k).take st.length=st)
theorem uX(h:st≠[]):Wo st fs=true↔∃k,(fs.drop k).take st.length=st:=by
 unfold Wo;simp only[cX,cI,decide_eq_true_eq];constructor
 ·rintro⟨k,_,e⟩;exact⟨k,e⟩
 ·rintro⟨k,e⟩;refine⟨k,?_,e⟩;have a:=congrArg cB e;rw[bA,bR]at a;have:0<st.length:=cT.mpr h;omega
theorem zd8(h:st≠[]):Wo st fs=(bJ ((fs.length:Int)-st.length+1).toNat).any λk=>decide ((fs.drop k).take st.length=st):=by
 rw[cH,uX h];simp only[cX,cI,decide_eq_true_eq];constructor
 ·rintro⟨k,e⟩;refine⟨k,?_,e⟩;have a:=congrArg cB e;rw[bA,bR]at a;have:0<st.length:=cT.mpr h;omega
 ·rintro⟨k,_,e⟩;exact⟨k,e⟩
def lacks(ls:ZA)(fs:List Int):Bool:=!ls.any λst=>Wo st fs
theorem ze7(h2:2<=b):∀n:Nat,0<n->(figs b n).head?≠some 0:=by
 intro n
 induction n using Gj with
 |_ n a=>
  intro c;by_cases h:n<b
  ·rw[uv h];simp;omega
  ·rw[YM h2 (by omega)];have q:=a (n / b) (lZ c (by omega)) (rE (by omega) (by omega));cases e:figs b (n / b) with
   |nil=>exact absurd e zb0
   |cons x y=>rw[e]at q;simpa using q
theorem zfo(h2:2<=b)(hn:0<n)(hf:f<b):figs b (n*b+f)=figs b n++[(f:Int)]:=by
 have a:b<=n*b+f:=aB (Bt b hn) (lF _ _);have c:(n*b+f) / b=n:=by rw[fD,Nat.mul_add_div (by omega),dM hf];rfl
 have d:(n*b+f) % b=f:=by rw[fD,Nat.mul_add_mod,lG hf]
 rw[YM h2 a,c,d]
theorem zfp{b:Nat}(h2:2<=b):∀k st,st.length=k->st≠[]->(∀f∈st,0<=f/\f<(b:Int))->(st.head?≠some 0\/st.length=1)->∃n:Nat,zgV b st=n/\figs b n=st/\(st.head?≠some 0->0<n):=by
 intro k
 induction k with
 |zero=>intro st e d;exact absurd (oJ e) d
 |succ k o=>
  intro st e d l p;obtain⟨a,x,rfl⟩:∃a x,st=a++[x]:=⟨st.dropLast,st.getLast d,(List.dropLast_concat_getLast d).symm⟩
  have q:=l x (by simp);obtain⟨g,rfl⟩:=Int.eq_ofNat_of_zero_le q.1;cases hi:a with
  |nil=>
   subst hi;refine⟨g,by simp[zgV],by rw[uv (by omega)];rfl,λh=>?_⟩;have:g≠0:=by simpa using h
   omega
  |cons y ys=>
   have i:a≠[]:=by rw[hi];simp
   have c:a.head?≠some 0:=by
    rcases p with h | h
    ·rw[hi]at h ⊢;simpa using h
    ·rw[hi]at h;simp at h
   obtain⟨m,r,s,t⟩:=o a (by simpa using e) i (λf j=>l f (by simp[j])) (.inl c);have j:=t c;rw[<-hi];refine⟨m*b+g,?_,?_,λ_=>?_⟩
   ·rw[zfd,r];push_cast;rfl
   ·rw[zfo h2 j (by omega),s]
   ·have:=Nat.le_mul_of_pos_right m (show 0<b by omega);omega
theorem zf0(h:st≠[])(q:Wo st fs=true):Wo st (fs++gs)=true:=by
 rw[uX h]at q ⊢;obtain⟨k,e⟩:=q;refine⟨k,?_⟩;have a:=congrArg cB e;rw[bA,bR]at a;have hp:=cT.mpr h;rw[cR (by omega),iw (by rw[bR];omega)];exact e
theorem jW(ne:∀l∈ls,l≠[])(h:lacks ls (fs++gs)=true):lacks ls fs=true:=by
 unfold lacks at *;rw[kY,fu]at h ⊢;intro l a q;exact h l a (zf0 (ne l a) q)
theorem zdw(h:st∈ls)(ne:st≠[])(pre:List Int):lacks ls (pre++st)=false:=by
 unfold lacks;rw[Bool.not_eq_false',cX];refine⟨st,h,(uX ne).mpr ⟨pre.length,?_⟩⟩;rw[List.drop_left,bV (aq _)]
def tG(ls:ZA)(fs:List Int):Bool:=ls.any λst=>decide (st.take fs.length=fs)
def zW(ls:ZA):List Int->List Int
 |[]=>[]
 |x::fs=>if tG ls (x::fs) then x::fs else zW ls fs
theorem YW{ls:ZA}:∀(i:Nat) (fs:List Int),i<=fs.length->(∀k,k<i->tG ls (fs.drop k)=false)->zW ls fs=zW ls (fs.drop i)
 |0,_,_,_=>rfl
 |i+1,[],h,_=>by simp at h
 |i+1,x::fs,h,q=>by
  have h0:=q 0 (by omega);rw[il]at h0;rw[zW,if_neg (by rw[h0];decide),fY];exact YW i fs (by simpa using h) λk hk=>by have:=q (k+1) (by omega);rwa[fY]at this
theorem zac(h:tG ls fs=true):zW ls fs=fs:=by
 cases fs with
 |nil=>rfl
 |cons x fs=>rw[zW,if_pos h]
theorem zgy(hi:i<=fs.length)(h:∀k,k<i->tG ls (fs.drop k)=false)(q:tG ls (fs.drop i)=true):zW ls fs=fs.drop i:=by
 rw[YW i fs hi h,zac q]
theorem zde(h:∀k,k<fs.length->tG ls (fs.drop k)=false):zW ls fs=[]:=by
 rw[YW fs.length fs (aq _) h,FJ];rfl
end Lw
namespace L2
open PySem PySem.Spec PyProof.Rows PySem.W
def zeb(c:au)(q:bZ):HO:=.ext λh=>h.CodeRec (.ref c) q
def zeA(P:au)(pos:nj)(q:bZ)(H:Hp)(c:au):Prop:=H P=some (.tbl #[iB pos.line,iB pos.col,.ref c])/\H c=some (zeb c q)
def U4(P:au)(pos:nj)(q:bZ)(H:Hp):Prop:=H P=some (.tbl #[])\/∃c,zeA P pos q H c
section
variable {P:bx} {w:bU} {K:Frag} {mg:bZ->Option aD} {base:dj} {N ps:List bZ} {k:Nat} {A:dB} {outer:List Li} {s:aP} {H:Hp} {us:List aD} {vs:List V} {Q:VK} {E:XK} {f:au} {o:kZ}
 {name qual:bZ} {params:Fl} {body:dN} {scope:iZ} {pm cdv ct:aD} {args:Args}
theorem zhx(ho:s.heap.get? f=some o)(hd:o.data=.func (Mg name qual params body scope [] pm cdv ct))(hcd:s.heap.CodeRec cdv qual)(S:zF N ps scope)(hr:Room (k+1) A)(e0:Env0 P w K mg base A outer s H)(hb:sZ s (Mg name qual params body scope [] pm cdv ct) args (ps.zip us))(hl:vs.length=ps.length)(r:Vals vs us)(hbody:∃t,PE (Wr CX0 P w K mg base N qual scope f cdv A outer s H E) body t/\t (start N vs) H Q):jL (bG P w) A (.call (.ref f) args) (CR CX0 outer P w H s Q E) s:=by
 have c:=e0.mod.nolimit.keeps λb o e=>(e0.bs b o e).1;have a:∀y∈ps.zip us,scope.names.lookup y.1=some .local\/(scope.names.lookup y.1=some .cell/\((nU (s.heap.objs.size+1) scope.names []).lookup y.1).isSome=true):=λ⟨n,v⟩ h=>by
  rcases S.par n (oN h).1 with q | q
  ·exact .inl q
  ·exact .inr ⟨q,rY _ _ _ (.inl q)⟩
 refine kla_callFunE hr.depth ho hd S.co S.gen rfl hcd (hb _ _ _ _ ?_);refine pM S.kind a λenv i g x=>?_;subst i;refine⟨c.keeps x.toInCall.keep,kla_codeExpr ?_⟩;obtain⟨t,j,l⟩:=hbody;have I:Inv (Wr CX0 P w K mg base N qual scope f cdv A outer s H E) [] (start N vs) H g:=zaP S hr.hd e0 hl r x;refine dC (j [] g (start N vs) H _ I l) (λu m d=>?_) λe m d=>d;obtain⟨v,p,J,z,q⟩:=d;exact⟨v,p,J.os,J.bare,J.base,J.hok,z,q⟩
end
section
variable {X:Cx} {pins:List (au×kZ)} {Z:St} {H:Hp} {s:aP} {params:Fl} {body:dN} {scope:iZ} {pos:nj} {c P:au} {Q:aD->aP->Prop}
theorem zgh(I:Inv X pins Z H s)(hdef:Mh params X.env=([],[]))(hcl:DQ scope X.env=pure [])(hcode:X.env.code=.ref c)(hK:Hn X.K c P=true)(hB:X.base.BuiltinsAt X.mg P)(hgP:cz≠P)(hT:U4 P pos (X.env.qual ++ "<lambda>") H)(h:∀f c' H' s' pm ct,Inv X pins Z H' s'->zeA P pos (X.env.qual ++ "<lambda>") H' c'->s'.heap.get? f=some (Fb "<lambda>" (X.env.qual ++ "<lambda>") params body scope [] pm c' ct)->H' f=none->s.heap.objs.size<=f ->
   (∀b u,b≠P->H b=some u->H' b=some u)->Q (.ref f) s'):
  bH (bG X.prog X.w) X.A (dZ (.Lambda params body scope pos) X.env) Q X.xe s:=by
 have C:=K8 I.kIn hK;have S:=I.mod.glob.keeps I.bk;have g:s.heap.BuiltinsAt X.mg P:=by
  obtain⟨Y,o,b1,b2,b3,b4,b5,b6,b7,b8⟩:=hB;exact⟨Y,o,b1,b2,b3,b4,I.bk _ _ b5,b6,b7,b8⟩
 refine kla_eval hdef ?_;rcases hT with i | ⟨c',i,L⟩
 ·have j:=I.hok P _ i;refine kla_makeFunction hcl I.ok.glob S hcode C j (show TriplesOk [] from trivial) rfl hgP g λc' ct M T hx l y B N=>?_;have p:=N;have D:P≠c':=λz=>by
   have:=aM j;rw[z]at this;exact absurd (aO this l) (eQ _)
  have O:=I.hok.fresh l;have m:∀b o,b≠P->s.heap.get? b=some o->(M.push (Fb "<lambda>" (X.env.qual ++ "<lambda>") params body scope [] ((X.mg "__name__").getD .none) c' ct)).get? b=some o:=λb o g e=>az _ (hx b o g e);have R:∀b,H b=none->b≠P:=λb n z=>by rw[z,i]at n;cases n
  have x:∀b u,b≠P->H b=some u->upd (upd H P (.tbl #[iB pos.line,iB pos.col,.ref c'])) c' (zeb c' (X.env.qual ++ "<lambda>")) b=some u:=λb u g e=>by
   rw[zy (λz=>by rw[z,O]at e;cases e),zy g];exact e
  have E:∀b,b≠P->b≠c'->H b=none->upd (upd H P (.tbl #[iB pos.line,iB pos.col,.ref c'])) c' (zeb c' (X.env.qual ++ "<lambda>")) b=none:=λb U V e=>by
   rw[zy V,zy U];exact e
  have J:Inv X pins Z (upd (upd H P (.tbl #[iB pos.line,iB pos.col,.ref c'])) c' (zeb c' (X.env.qual ++ "<lambda>"))) { s with heap:=M.push (Fb "<lambda>" (X.env.qual ++ "<lambda>") params body scope [] ((X.mg "__name__").getD .none) c' ct),toks:=T }:=by
   refine I.un ⟨λb o e n _ _=>m b o (R b n) e,λb o e n _ _=>⟨o.slots,m b o (R b n) e⟩,λb o e n _=>E b (R b n) (bj (aO (aM e) l)) n,λb o e _=>?_,λb xs e=>x b _ (λz=>by rw[z,i]at e;cases e) e,λb o u e=>x b _ (λz=>by rw[z,i]at e;cases e) e,λb ps e=>?_⟩ ?_
   ·by_cases g:b=P
    ·rw[g];exact⟨_,az _ p⟩
    ·exact⟨o,m b o g e⟩
   ·by_cases g:b=P
    ·rw[g]at e ⊢;rw[i]at e;cases e
     exact⟨#[iB pos.line,iB pos.col,.ref c'],by rw[zy D,zj];rfl⟩
    ·exact⟨#[],by rw[x b _ g e];simp⟩
   ·intro b u e;by_cases F:b=c'
    ·subst F;rw[zj]at e;cases e
     obtain⟨c2,W,vs,t,e1,e2,e3,e4⟩:=id B;cases e1
     have q:=az (Fb "<lambda>" (X.env.qual ++ "<lambda>") params body scope [] ((X.mg "__name__").getD .none) b ct) e2;refine⟨⟨b,W,vs,t,rfl,q,e3,e4⟩,⟨W,q⟩,λU V ⟨c3,o3,v3,t3,a1,a2,a3,a4⟩ k=>?_⟩;cases a1
     exact⟨b,o3,v3,t3,rfl,k _ a2,a3,a4⟩
    ·rw[zy F]at e;by_cases r:b=P
     ·rw[r]at e ⊢;rw[zj]at e;cases e
      exact az _ p
     ·rw[zy r]at e;refine (I.hok b u e).stay (λd v G q=>m d v ?_ q) (λd q=>?_) λd xs q=>?_
      ·rcases G with rfl | G
       ·exact r
       ·intro z;rw[z,i]at G;cases G
      ·exact x d _ (λz=>by rw[z,i]at q;cases q) q
      ·exact x d _ (λz=>by rw[z,i]at q;cases q) q
  have a:=iz (aR l y);refine h _ c' _ _ _ ct J ⟨by rw[zy D,zj],zj⟩ (bz _ rfl) ?_ a x;exact E _ (eU (aO (aM j) a)) (eU y) (I.hok.fresh a)
 ·have j:=I.hok P _ i;refine kla_makeFunctionHit hcl I.ok.glob S hcode C j (show TriplesOk [iB pos.line,iB pos.col,.ref c'] from trivial) (cv:=.ref c') ?_ g λct M T hk a=>?_
  ·have:=codeAmong_snoc (pos:=pos) (c:=.ref c') [] trivial rfl;exact this
  ·exact h _ c' H _ _ ct (I.kept λb u e=>az _ (hk b u e)) ⟨i,L⟩ (bz _ rfl) (I.hok.fresh a) a (λb u _ e=>e)
end
end L2
namespace HT
def uT(a b:List Int):Bool:=if a.length=b.length then lexLt a b else decide (a.length<b.length)
theorem zbC(a:List Int):uT a a=false:=by unfold uT;rw[if_pos rfl,vm]
theorem Qn(a b c:List Int)(h1:uT a b=true)(h2:uT b c=true):uT a c=true:=by
 unfold uT at *;by_cases e:a.length=b.length
 ·rw[if_pos e]at h1;by_cases d:b.length=c.length
  ·rw[if_pos d]at h2;rw[if_pos (e.trans d)];exact jz a b c h1 h2
  ·rw[if_neg d]at h2;rw[if_neg (by omega)];have:=of_decide_eq_true h2;exact decide_eq_true (by omega)
 ·rw[if_neg e]at h1;have h1':=of_decide_eq_true h1;by_cases d:b.length=c.length
  ·rw[if_neg (by omega)];exact decide_eq_true (by omega)
  ·rw[if_neg d]at h2;have:=of_decide_eq_true h2;rw[if_neg (by omega)];exact decide_eq_true (by omega)
theorem zdo(a b:List Int)(h:a≠b):uT b a=!uT a b:=by
 unfold uT;by_cases e:a.length=b.length
 ·rw[if_pos e,if_pos e.symm,W2 a b h]
 ·rw[if_neg e,if_neg (cF e),cH];simp;omega
theorem zjI{ls:ZA}(nd:ls.Nodup):Ord (λi j=>uT (ls.getD i []) (ls.getD j [])) ls.length:=by
 have b:∀i,(h:i<ls.length)->ls.getD i []=ls[i]:=λi h=>by rw[aN,aj h];rfl
 refine⟨λi j k _ _ _ f g=>Qn _ _ _ f g,λi j c d a h=>?_,λi j c d h=>?_⟩
 ·have l:ls.getD i []≠ls.getD j []:=λz=>by
   rw[b i c,b j d]at z;exact a ((nO nd).mp z)
  have:=zdo _ _ l;rw[h]at this;exact this
 ·cases e:uT (ls.getD j []) (ls.getD i []) with
  |false=>rfl
  |true=>
   have:=Qn _ _ _ h e;rw[zbC]at this;cases this
end HT
namespace L2
open PySem PySem.Spec PyProof.Rows PySem.W
section
variable {X:Cx} {pins:List (au×kZ)} {Z:St} {H:Hp} {s:aP}
theorem zdm(I:Inv X pins Z H s)(h:H p=some (.tup [.int n,.ref z])):∃t o m,s.heap.get? p=some o/\o.cls=.type "tuple"/\o.data=.seq #[.int n t,.ref z] m:=by
 obtain⟨_,its,r,o,e,a,m,b⟩:=I.hok p _ h;cases r with
 |cons c d=>
  cases d with
  |cons f g=>
   cases g;obtain⟨t,rfl⟩:=c
   cases f;exact⟨t,o,m,e,a,b⟩
theorem zid(I:Inv X pins Z H s)(hp:H p=some (.tup [.int as.length,.ref za]))(hq:H q=some (.tup [.int bs.length,.ref zb]))(ha:H za=some (.lst (as.map V.int)))(hb:H zb=some (.lst (bs.map V.int)))(hu:A.units+2<d7)(h:Q (HT.uT as bs) s):bH (bG X.prog X.w) A (M6 (Kc true) (.ref p) (.ref q)) Q E s:=by
 obtain⟨t,o,m,e,_,f⟩:=zdm I hp;obtain⟨t',o',m',g,_,b⟩:=zdm I hq;refine kat_lt e f g b ?_;refine K5 (rT ?_);unfold HT.uT at h;by_cases c:as.length=bs.length
 ·rw[if_pos c]at h;have d:(as.length == (bs.length:Int))=true:=by rw[c];simp
  rw[d];refine Mu (K5 ?_);refine (QM I 1 (by rw[qT];exact aq _) (TrAt.ints (SqL.of ha)) (TrAt.ints (SqL.of hb)) rfl rfl (by omega)).eq _ _ _ _ ?_;rw[jw];by_cases a:as=bs
  ·rw[decide_eq_true a];refine Mu (Ka ?_);rw[a,HT.vm]at h;exact h
  ·rw[decide_eq_false a];refine M8 (kat_one _ _ ?_);obtain⟨its,i,j,_⟩:=I.list (SqL.of ha);obtain⟨its2,k,l,_⟩:=I.list (SqL.of hb);exact HT.Qo j.isList l.isList (by simpa using intsAre_of i) (by simpa using intsAre_of k) (by omega) h
 ·rw[if_neg c]at h;have d:(as.length == (bs.length:Int))=false:=by simp;omega
  rw[d];refine M8 ?_;refine oneLt_int ?_;have:decide (as.length<(bs.length:Int))=decide (as.length<bs.length):=by
   simp
  rw[this];exact h
end
end L2
set_option maxHeartbeats 4000000
namespace L2
open PySem PySem.Spec PyProof.Rows PySem.W
section
variable {X:Cx} {pins:List (au×kZ)} {Z:St} {H:Hp} {s:aP}
structure zeR (X:Cx) (pins:List (au×kZ)) (n:Nat) (a:au):Prop where
 s0:X.s₀.heap.objs.size<=a
 lo:a≠X.env.locals
 ce:∀x c,X.env.cells.lookup x=some c->c≠a
 fs:a∉X.fs
 pn:∀p∈X.pn++pins,p.1≠a
 ge:n<=a
theorem Inv.late(I:Inv X pins Z H s){a:au}(h:s.heap.objs.size<=a):zeR X pins s.heap.objs.size a :=
 ⟨aB I.sz h,eU (aO I.lt h),λx c e z=>by
  obtain⟨v,o,b,_⟩:=I.cell x c e;rw[z]at b;exact absurd (aO (aM b) h) (eQ _),I.nofs h,λp d z=>by
  obtain⟨e,_⟩:=I.pin p d;rw[z]at e;exact absurd (aO (aM e) h) (eQ _),h⟩
theorem Inv.tell(I:Inv X pins Z H s)(L:zeR X pins m a)(hn:H a=none)(k:∀b o,b≠a->s.heap.get? b=some o->h'.get? b=some o)(hv:Vals xs its)(hz:xs.length<=aA)(ha:h'.get? a=some (dI "list" its.toArray n)):Inv X pins Z (upd H a (.lst xs)) { s with heap:=h',toks:=t' }:=by
 have f:∀b u,H b=some u->b≠a:=λb u e z=>by rw[z,hn]at e;cases e
 refine I.step (ch:=[a]) (λb g=>?_) (λb o _ _ d e _=>k b o (λz=>d (by simp[z])) e) (λb o _ _ d e _=>⟨o.slots,k b o (λz=>d (by simp[z])) e⟩) (λb o d e n=>by rw[zy (λz=>d (by simp[z]))];exact n)
  (λb o d e=>⟨o,k b o (λz=>d (by simp[z])) e⟩) (λb xs e=>by rw[zy (f b _ e)];exact e) (λb o u e=>by rw[zy (f b _ e)];exact e) (λb ps e=>⟨#[],by rw[zy (f b _ e),e];simp⟩) (λm h=>?_) (λb u e=>?_) I.bare
 ·have e:b=a:=by simpa using g
  subst e;exact⟨.inr L.s0,L.lo,L.ce,L.pn⟩
 ·obtain⟨o,i,j,l,r⟩:=h;exact⟨o,i,j,k _ o (cF L.lo) l,r⟩
 ·by_cases g:b=a
  ·subst g;rw[zj]at e;cases e
   exact⟨hz,its,n,hv,ha⟩
  ·rw[zy g]at e;refine (I.hok b u e).stay (λc v d q=>k c v ?_ q) (λc q=>by rw[zy (f c _ q)];exact q) λc xs q=>by rw[zy (f c _ q)];exact q
   rcases d with rfl | d
   ·exact g
   ·exact f c _ d
def zio(H:Hp)(zs:ZB)(pl:List au):Prop:=∀j z,zs[j]?=some z->j<pl.length->∃p,pl[j]?=some p/\H p=some (.tup [.int z.2.length,.ref z.1])
theorem kat_tups(I:Inv X pins Z H s):∀pl:List au,(∀p∈pl,∃(n:Int) (z:au),H p=some (.tup [.int n,.ref z]))->∃fs:List aD,KatTups s.heap (pl.map aU) fs/\fs.length=pl.length/\∀v∈fs,∃n t,v=lA n t
 |[],_=>⟨[],K6,rfl,λv hv=>by cases hv⟩
 |p::pl,h=>by
  obtain⟨fs,h1,h2,h3⟩:=kat_tups I pl λq a=>h q (.tail _ a);obtain⟨n,z,e⟩:=h p (.head _);obtain⟨t,o,m,b,c,d⟩:=zdm I e;refine⟨.int n t::fs,Ke b c d rfl h1,by simp[h2],λv hv=>?_⟩;rcases aW.mp hv with rfl | hv
  ·exact⟨n,t,rfl⟩
  ·exact h3 v hv
theorem zg6{zs:ZB}(I:Inv X ((f,fo)::(a,dI "list" #[] e1)::pins) Z H s)(La:zeR X pins n a)(Lk:zeR X ((f,fo)::(a,dI "list" #[] e1)::pins) n kS)(hkS:s.heap.get? kS=some (dI "list" #[] 0))(hkn:H kS=none)(hz:∀z∈zs,H z.1=some (.lst (z.2.map V.int)))(nd:(zs.map (·.2)).Nodup)(h60:zs.length<=60)(hu:A.units+2<d7)(turn:∀H' s' pins' z,Inv X pins' Z H' s'->(f,fo)∈pins'->Same H H'->z∈zs ->
   bH (bG X.prog X.w) A (call (.ref f) [.ref z.1]) (EP X pins' Z λv H2=>∃p,v=.ref p/\H' p=none/\H2=upd H' p (.tup [.int z.2.length,.ref z.1])) (λ_ _=>False) s')(done:∀(H':Hp) (s':aP) (zs':ZB),Inv X pins Z (upd H' a (.lst (zs'.map λz=>V.ref z.1))) s'->Same H H'->H' a=none->zs'.Perm zs->zs'.Pairwise (λx y=>HT.uT x.2 y.2=true)->P (.done (.ret .none)) s'):
  bH (bG X.prog X.w) A (ksk_rest a (.ref f) false (zs.map λz=>aU z.1).toArray e1 (.ref kS)) P E s:=by
 unfold ksk_rest;refine ak (Bu ?_)
 first
  |rw[List.forIn_toArray]
  | (rw[<-DX];simp only[List.toList_toArray])
  |rw[<-DX]
 refine ak (ksk_fold (λi s'=>∃(H':Hp) (c:List au) (e:Nat),Inv X ((f,fo)::(a,dI "list" #[] e1)::pins) Z H' s'/\s'.heap.get? kS=some (dI "list" (c.map aU).toArray e)/\H' kS=none/\c.length=i/\zio H' zs c/\Same H H') (zs.map λz=>aU z.1) 0 s
  ⟨H,[],0,I,hkS,hkn,rfl,λj z _ h=>by simp at h,Same.refl _⟩ ?step ?fin)
 case step=>
  rintro j x s' hx ⟨H',c,e,I',hk',hkn',g,k,sm⟩;rw[bO]at g ⊢;rw[ao]at hx;obtain⟨z,hzj,ez⟩:=aY.mp hx;subst ez;have hzm:=aL hzj;have hj:j<zs.length:=(aV.mp hzj).1;have I2:Inv X ((kS,dI "list" (c.map aU).toArray e)::(f,fo)::(a,dI "list" #[] e1)::pins) Z H' s':=I'.pins_of λp hp=>by
   rcases aW.mp hp with rfl | hp
   ·exact⟨hk',hkn',Lk.lo,Lk.fs,λv z=>by cases z⟩
   ·exact I'.pin p (bh _ hp)
  refine ak (oE (dC (turn H' s' _ z I2 (by simp) sm hzm) (λv d he=>?_) λ_ _ hF=>hF.elim));obtain⟨v',H2,I3,rv,p,rfl,hpf,rfl⟩:=he;cases rv
  have pk:=I3.pin (kS,dI "list" (c.map aU).toArray e) (bh _ (.head _));have I4:Inv X ((f,fo)::(a,dI "list" #[] e1)::pins) Z (upd H' p (.tup [.int z.2.length,.ref z.1])) d:=I3.pins_of λq hq=>I3.pin q (bh _ (.tail _ hq));obtain⟨c2,hc2⟩:∃c2,(d.heap.update kS (dh (·.push (.ref p)))).get? kS=some (dI "list" ((c.map aU).toArray.push (.ref p)) c2):=⟨_,oW pk.1 (·.push (.ref p))⟩
  have hsl:(c.map aU).toArray.size<=60:=by rw[aJ,aa];omega
  dsimp only;refine ak (iV pk.1 rfl ?_ (aB hsl (by decide)) (by rw[Array.size_push];exact aB (ir hsl) (by decide)));refine aG ⟨rfl,_,c++[p],c2,I4.turned (t':=d.toks) (λb o hb q=>?_) pk.2.1 Lk.lo (.inr Lk.s0) Lk.ce Lk.pn,?_,pk.2.1,by rw[aF,aX,g],λi y hy hi=>?_,sm.trans (zp hpf)⟩
  ·rw[dF _ _ (cF hb)];exact q
  ·rw[hc2];simp
  ·by_cases hlt:i<c.length
   ·obtain⟨p',e1',e2'⟩:=k i y hy hlt;exact⟨p',by rw[cU hlt];exact e1',by rw[zy (zz e2' hpf)];exact e2'⟩
   ·have ei:i=c.length:=by rw[aF,aX]at hi;omega
    have ej:i=j:=by omega
    rw[ej,hzj]at hy;cases hy
    exact⟨p,by rw[ei];simp,zj⟩
 case fin=>
  rintro s' ⟨H',c,e,I',hk',hkn',g,k,sm⟩;rw[bO,aa]at g
  try dsimp only
  refine ak (Ez hk' rfl ?_);have ga:=I'.pin (a,dI "list" #[] e1) (bh _ (.tail _ (.head _)));have Ip:Inv X pins Z H' s':=I'.pins_of λq hq=>I'.pin q (by
   rcases aZ.mp (bh X.pn hq) with h | h
   ·exact cY _ h
   ·exact bh _ (.tail _ (.tail _ h)))
  have nka:kS≠a:=λz=>Lk.pn (a,dI "list" #[] e1) (bh _ (.tail _ (.head _))) z.symm;have tail:∀(st:SortSt) (zs':ZB),(M7 st).map (·.2)=(zs'.map λz=>aU z.1).toArray->K3 st=none->zs'.Perm zs->zs'.Pairwise (λx y=>HT.uT x.2 y.2=true) ->
    bH (bG X.prog X.w) A (ksk_tail a false e1 (.ref kS) st) P E s':=by
   intro st zs' hout hfl pm pw;have hlen:zs'.length<=60:=by rw[pm.length_eq];exact h60
   have s1:=oZ s'.heap kS (dh λ_=>(#[]:Array aD));have na1:(s'.heap.update kS (dh λ_=>(#[]:Array aD))).get? a=some (dI "list" #[] e1):=(s1.2 a nka.symm).trans ga.1;obtain⟨c2,hc2⟩:∃c2,((s'.heap.update kS (dh λ_=>(#[]:Array aD))).update a (dh λ_=>(zs'.map λz=>aU z.1).toArray)).get? a=some (dI "list" (zs'.map λz=>aU z.1).toArray c2):=
    ⟨_,oW na1 λ_=>(zs'.map λz=>aU z.1).toArray⟩
   have I5:Inv X pins Z H' { s' with heap:=s'.heap.update kS (dh λ_=>(#[]:Array aD)),toks:=s'.toks }:=Ip.turned (λb o hb q=>by rw[dF _ _ (cF hb)];exact q) hkn' Lk.lo (.inr Lk.s0) Lk.ce (λq hq=>Lk.pn q (by
    rcases aZ.mp hq with h | h
    ·exact cY _ h
    ·exact bh _ (.tail _ (.tail _ h))))
   have I6:=I5.tell (t':=s'.toks) (h':=(s'.heap.update kS (dh λ_=>(#[]:Array aD))).update a (dh λ_=>(zs'.map λz=>aU z.1).toArray)) La ga.2.1 (λb o hb q=>by rw[dF _ _ (cF hb)];exact q) (Wg zs') (by rw[aa];exact aB hlen (by decide)) hc2;unfold ksk_tail
   try dsimp only
   refine ak (iV hk' rfl ?_ (by rw[aJ,aa,g];exact aB h60 (by decide)) (bw _));refine ak (KZ ?_);refine ak (rC na1 rfl ?_);simp only[dG,if_false];rw[hout];refine ak (iV na1 rfl ?_ (bw _) (by rw[aJ,aa];exact aB hlen (by decide)));rw[hfl];simp only[bne_self_eq_false,dG,if_false];exact aG (done H' _ zs' I6 sm ga.2.1 pm pw)
  unfold ksk_end
  try dsimp only
  simp only[dG,if_false];have hvl:(zs.map λz=>aU z.1).toArray.size=zs.length:=by rw[aJ,aa]
  by_cases h2:(zs.map λz=>aU z.1).toArray.size<2
  ·rw[if_pos h2,if_pos h2];refine ak (aG ?_);rw[StateT.run_pure];refine ak (aG ?_)
   try dsimp only
   refine tail _ zs ?_ rfl (Hh _) ?_
   ·show (((c.map aU).toArray.zip (zs.map λz=>aU z.1).toArray).map (·.2))=_;apply Ft.mp;rw[Fv,Fw,Fx (by simp[g])]
   ·rw[hvl]at h2
    match zs,h2 with
    |[],_=>exact .nil
    |[_],_=>exact List.pairwise_singleton _ _
  ·rw[if_neg h2,if_neg h2];rw[hvl]at h2;have hkl:(c.map aU).length=(zs.map λz=>aU z.1).length:=by rw[aa,aa,g]
   have hk2:∀j,j<zs.length->∃p,c[j]?=some p/\H' p=some (.tup [.int (zs.getD j (0,[])).2.length,.ref (zs.getD j (0,[])).1])/\zs.getD j (0,[])∈zs:=λj hj=>by
    have e:zs.getD j (0,[])=zs[j]:=by rw[aN,aj hj];rfl
    rw[e];obtain⟨p,e1,e2⟩:=k j zs[j] (aj hj) (by omega);exact⟨p,e1,e2,fJ hj⟩
   obtain⟨fs,ht,hfl,hfi⟩:=kat_tups I' c λp hp=>by
    obtain⟨j,hj,rfl⟩:=Do hp;obtain⟨p',e1,e2,_⟩:=hk2 j (by omega);rw[aj hj]at e1;cases e1
    exact⟨_,_,e2⟩
   refine ak (kat_kind (T:=.type "int") ht (by omega) (λv hv=>?_) (by decide) ?_)
   ·obtain⟨n,t,rfl⟩:=hfi v hv;exact HQ rfl
   have ls2:(zs.map (·.2)).length=zs.length:=aa ..;have ask:(kas_sort (zs.map λz=>aU z.1).length).kasWp (Ey X.prog X.w A (Kc true) (c.map aU)) (λp d=>d=s'/\(HT.Pm zs.length p/\HT.Up (λi j=>HT.uT ((zs.map (·.2)).getD i []) ((zs.map (·.2)).getD j [])) p zs.length)) s':=by
    rw[aa];have O:=HT.zjI nd;rw[ls2]at O;refine HT.KW.wp (n:=zs.length) (λi j C hi hj hC=>?_) _ (HT.zh9 O (by omega));obtain⟨p,e1,e2,e3⟩:=hk2 i hi;obtain⟨q,d1,d2,d3⟩:=hk2 j hj;have ei:(zs.map (·.2)).getD i []=(zs.getD i (0,[])).2:=by rw[aN,aN,ao,aj hi];rfl
    have ej:(zs.map (·.2)).getD j []=(zs.getD j (0,[])).2:=by rw[aN,aN,ao,aj hj];rfl
    have gi:(c.map aU).getD i eY=.ref p:=by rw[aN,ao,e1];rfl
    have gj:(c.map aU).getD j eY=.ref q:=by rw[aN,ao,d1];rfl
    unfold Ey;rw[gi,gj];refine zid I' e2 d2 (sm _ _ (hz _ e3)) (sm _ _ (hz _ d3)) hu ?_
    try dsimp only at hC
    rw[ei,ej]at hC;exact hC
   have eT:(gK "int" != gK "tuple")=true:=by decide
   rw[eT];refine ak (dC (kat_run (ks:=c.map aU) (vs:=zs.map λz=>aU z.1) (Q:=λst' d=>∃p:Array Nat,d=s'/\M7 st'=p.map (kas_item ((c.map aU).toArray.zip (zs.map λz=>aU z.1).toArray))/\K3 st'=none/\HT.Pm zs.length p/\HT.Up (λi j=>HT.uT ((zs.map (·.2)).getD i []) ((zs.map (·.2)).getD j [])) p zs.length)
    hkl (by rw[aa];omega) (by rw[aa];omega) (λp st' d _ a2 a3 a4=>⟨p,a4.1,a2,a3,a4.2⟩) ask) ?_ λ_ _ e=>e)
   rintro⟨⟨⟩,st'⟩ d ⟨p,rfl,har,hfl2,l,hup⟩
   try dsimp only
   have hout:=kat_snds hkl har;have hpl2:p.toList.length=zs.length:=by rw[l.pm.length_eq,cg]
   refine tail st' (p.toList.map λi=>zs.getD i (0,[])) ?_ hfl2 (HT.zaK _ zs l.pm) ?_
   ·rw[hout,cC];congr 1;refine eO λi hi=>?_;have hi':=cI.mp (l.pm.mem_iff.mp hi);show _=aU (zs.getD i (0,[])).1;rw[aN,aN,ao,aj hi'];rfl
   ·rw[fQ,gC];intro i j hi hj hij;have q1:=hup i j hij (by omega);have e1:p.getD i 0=p.toList[i]:=by
     have:i<p.size:=by rw[l.sz];omega
     simp[nY,this]
    have e2:p.getD j 0=p.toList[j]:=by
     have:j<p.size:=by rw[l.sz];omega
     simp[nY,this]
    rw[e1,e2]at q1;have m1:=cI.mp (l.pm.mem_iff.mp (fJ hi));have m2:=cI.mp (l.pm.mem_iff.mp (fJ hj));have ei:(zs.map (·.2)).getD p.toList[i] []=(zs.getD p.toList[i] (0,[])).2:=by rw[aN,aN,ao,aj m1];rfl
    have ej:(zs.map (·.2)).getD p.toList[j] []=(zs.getD p.toList[j] (0,[])).2:=by rw[aN,aN,ao,aj m2];rfl
    try dsimp only at q1
    rw[ei,ej]at q1;exact q1
theorem zcT{zs:ZB}(I:Inv X ((f,fo)::pins) Z H s)(hl:H l=some (.lst (zs.map λz=>V.ref z.1)))(hz:∀z∈zs,H z.1=some (.lst (z.2.map V.int)))(nd:(zs.map (·.2)).Nodup)(h60:zs.length<=60)(hu:X.A.in1.in1.units+2<d7)(turn:∀H' s' pins' z,Inv X pins' Z H' s'->(f,fo)∈pins'->Same H H'->z∈zs ->
   bH (bG X.prog X.w) X.A.in1.in1 (call (.ref f) [.ref z.1]) (EP X pins' Z λv H2=>∃p,v=.ref p/\H' p=none/\H2=upd H' p (.tup [.int z.2.length,.ref z.1])) (λ_ _=>False) s')(q:∀(D:au) (H':Hp) (zs':ZB),H D=none->Same H H'->H' D=none->zs'.Perm zs->zs'.Pairwise (λx y=>HT.uT x.2 y.2=true)->Q (.ref D) (upd H' D (.lst (zs'.map λz=>V.ref z.1)))):
  bH (bG X.prog X.w) X.A (call (.builtin "sorted") [.ref l] [(Str.ofString "key",.ref f)]) (EP X pins Z Q) X.xe s:=by
 obtain⟨its,r1,p1,_⟩:=I.list (SqL.of hl);have u:=Qa r1;subst u;have O:(zs.map λz=>aU z.1).length=zs.length:=aa ..;have k:(zs.map λz=>aU z.1).length<=aA:=by rw[O,Cq];omega
 refine call_function_entry_kw K4 IW JC (ksk_s1 _ _) ?_;refine ak (aG (ak (Kg p1.isList (ak (rP ?_ k)) k)));generalize W:(s.heap.push (dI "list" #[] 0)).update s.heap.objs.size (dh (·++(zs.map λz=>aU z.1).toArray))=B;have m:B.objs.size=s.heap.objs.size+1:=by rw[<-W,ik,pQ]
 have r:∀b o,s.heap.get? b=some o->(B.push (dI "list" (zs.map λz=>aU z.1).toArray 0)).get? b=some o:=λb o q=>by
  have j:=aM q;rw[fP _ _ _ (by rw[m];exact bj (kJ j)),<-W,o6 _ _ _ _ (bj j),fP _ _ _ (bj j)];exact q
 have i:(B.push (dI "list" (zs.map λz=>aU z.1).toArray 0)).get? (s.heap.objs.size+1)=some (dI "list" (zs.map λz=>aU z.1).toArray 0):=by
  rw[<-m];exact bz _ rfl
 have t:(B.push (dI "list" (zs.map λz=>aU z.1).toArray 0)).objs.size=s.heap.objs.size+2:=by rw[pQ,m]
 rw[m];refine ak (dg (wpAny_call_entry_kw Hi ⟨_,i,rfl⟩ Gi ?body (ksk_l1 _ _)))
 case body=>
  rw[ksk_t1];generalize hG:B.push (dI "list" (zs.map λz=>aU z.1).toArray 0)=G at r i t;generalize C:s.heap.objs.size+1=L at i;obtain⟨u,F⟩:∃u,(G.update L (dh λ_=>(#[]))).get? L=some (dI "list" #[] u):=⟨_,oW i λ_=>#[]⟩
  refine ak (Ez i rfl ?_);refine ak (iV i rfl ?_ (by exact k) (bw _));refine ak (rC F rfl ?_);refine ak (Hg ?_ (by exact k));refine ak (rP ?_ (bw _));refine dg ?_;generalize P:(G.update L (dh λ_=>(#[]))).push (dI "tuple" (zs.map λz=>aU z.1).toArray 0)=M;have J:M.objs.size=s.heap.objs.size+3:=by rw[<-P,pQ,ik,t]
  have R:(M.push (dI "list" #[] 0)).get? (s.heap.objs.size+3)=some (dI "list" #[] 0):=by rw[<-J];exact bz _ rfl
  have S:(M.push (dI "list" #[] 0)).get? L=some (dI "list" #[] u):=az _ (by rw[<-P];exact az _ F);have E:∀b o,s.heap.get? b=some o->(M.push (dI "list" #[] 0)).get? b=some o:=λb o q=>by
   have j:=aM q;refine az _ ?_;rw[<-P];refine az _ ?_;rw[o6 _ _ _ _ (by rw[<-C];exact bj (kJ j))];exact r b o q
  have d:=I.late (a:=L) (by rw[<-C];exact iu _);have e:=I.late (a:=s.heap.objs.size+3) (by omega);have T:Inv X ((f,fo)::pins) Z H { s with heap:=M.push (dI "list" #[] 0),toks:=s.toks }:=I.kept E;have K:H L=none:=I.hok.fresh (by rw[<-C];exact iu _);have I2:Inv X ((f,fo)::(L,dI "list" #[] u)::pins) Z H { s with heap:=M.push (dI "list" #[] 0),toks:=s.toks }:=T.pins_of λp n=>by
   rcases aW.mp n with rfl | n
   ·exact T.pin _ (bh _ (.head _))
   ·rcases aW.mp n with rfl | n
    ·exact⟨S,K,d.lo,d.fs,λv z=>by cases z⟩
    ·exact T.pin p (bh _ (.tail _ n))
  have La:zeR X pins s.heap.objs.size L:=⟨d.s0,d.lo,d.ce,d.fs,λp n=>d.pn p (by
   rcases aZ.mp n with h | h
   ·exact cY _ h
   ·exact bh _ (.tail _ h)),d.ge⟩
  have Lk:zeR X ((f,fo)::(L,dI "list" #[] u)::pins) s.heap.objs.size (s.heap.objs.size+3):=⟨e.s0,e.lo,e.ce,e.fs,λp n=>by
   rcases aZ.mp n with h | h
   ·exact e.pn p (cY _ h)
   ·rcases aW.mp h with rfl | h
    ·exact e.pn _ (bh _ (.head _))
    ·rcases aW.mp h with rfl | h
     ·show L≠_;omega
     ·exact e.pn p (bh _ (.tail _ h)),e.ge⟩
  rw[J];refine zg6 I2 La Lk R (I.hok.fresh (by omega)) hz nd h60 hu turn λH' s' zs' I' sm hn pm pw=>⟨_,rfl,?_⟩
  exact aG ⟨_,rfl,.ref L,_,I',rfl,q L H' zs' K sm hn pm pw⟩
end
section
variable {X:Cx} {Z:St} {H:Hp} {s:aP} {params:Fl} {body:dN} {scope:iZ} {pos lpos kpos p:nj} {c P:au} {y:bZ} {e:dN} {te:TE}
theorem zg4(I:Inv X pins Z H s)(hf:(f,Fb "<lambda>" q params body scope [] pm c' ct)∈pins)(hL:zeA P lpos q H c')(S:zF [y] [y] scope)(hr:Room (k+1) X.A.in1.in1)(hb:∀pm ct u,Cv (Mg "<lambda>" q params body scope [] pm (.ref c') ct) ⟨[u],[]⟩=pure [(y,u)])(rv:RelV v u)(hbody:∃t,PE (Wr CX0 X.prog X.w X.K X.mg X.base [y] q scope f (.ref c') X.A.in1.in1 X.stack s H E0) body t/\t (start [y] [v]) H Q):
  bH (bG X.prog X.w) X.A.in1.in1 (call (.ref f) [u]) (EP X pins Z Q) (λ_ _=>False) s:=by
 have c:=I.pin _ (bh X.pn hf);have b:=(I.hok c' _ hL.2).1;refine Bm (iG (zhx (us:=[u]) c.1 rfl b S hr I.env0.in1.in1 (Ng (hb pm ct u)) rfl (.cons rv .nil) hbody) λr s' a=>?_);cases r with
 |error e=>exact a
 |ok d=>
  cases d with
  |ret u=>exact I.after a
  |next=>exact dz a
  |brk=>exact dz a
  |cont=>exact dz a
def zgL(P:au)(lpos:nj)(q:bZ)(te:TE):TE:=λZ H Q=>te Z H λx H1=>∃(l:au) (zs:ZB),x=.ref l/\H1 l=some (.lst (zs.map λz=>V.ref z.1))/\(∀z∈zs,H1 z.1=some (.lst (z.2.map V.int)))/\(zs.map (·.2)).Nodup/\zs.length<=60/\U4 P lpos q H1 /\
 ∀(D:au) (zs':ZB) (H2:Hp),H1 D=none->H2 D=none->(∀b u,b≠P->H1 b=some u->H2 b=some u)->U4 P lpos q H2->zs'.Perm zs->zs'.Pairwise (λx y=>HT.uT x.2 y.2=true)->Q (.ref D) (upd H2 D (.lst (zs'.map λz=>V.ref z.1)))
theorem zd1(he:PE X e te)(hg:Gl X "sorted")(hm:X.mg "sorted"= none)(hr:Room (k+3) X.A)(hdef:Mh params X.env=([],[]))(hcl:DQ scope X.env=pure [])(hcode:X.env.code=.ref c)(hK:Hn X.K c P=true)(hB:X.base.BuiltinsAt X.mg P)(hgP:cz≠P)(S:zF [y] [y] scope)(hb:∀pm cd ct u,Cv (Mg "<lambda>" (X.env.qual ++ "<lambda>") params body scope [] pm cd ct) ⟨[u],[]⟩=pure [(y,u)])(hbody:∀(f c':au) (s:aP) (H:Hp) (z:au×List Int),H z.1=some (.lst (z.2.map V.int))->∃t,PE (Wr CX0 X.prog X.w X.K X.mg X.base [y] (X.env.qual ++ "<lambda>") scope f (.ref c') X.A.in1.in1 X.stack s H E0) body t /\
   t (start [y] [.ref z.1]) H λv H2=>∃p,v=.ref p/\H p=none/\H2=upd H p (.tup [.int z.2.length,.ref z.1]))(hs1:bM [e] X.env=[(false,dZ e X.env)]:=by rfl):
  PE X (.Call (.Name "sorted" p) [e] [⟨some "key",.Lambda params body scope lpos,kpos⟩] pos) (zgL P lpos (X.env.qual ++ "<lambda>") te):=by
 intro g s Z H Q I h;refine eZ (Zd I hg hm CW ?_ (by decide) (by decide));have ha:=zf he zg hs1;refine callWith_kw (thn (ha pos g s Z H (λJ i=>match J with
  |[x]=>∃l n,x=.ref l/\i l=some (.lst (n.map λz=>V.ref z.1))/\(∀z∈n,i z.1=some (.lst (z.2.map V.int)))/\(n.map (·.2)).Nodup/\n.length<=60/\U4 P lpos (X.env.qual ++ "<lambda>") i /\
   ∀D (a:ZB) H2,i D=none->H2 D=none->(∀b u,b≠P->i b=some u->H2 b=some u)->U4 P lpos (X.env.qual ++ "<lambda>") H2->a.Perm n->a.Pairwise (λx y=>HT.uT x.2 y.2=true)->Q (.ref D) (upd H2 D (.lst (a.map λz=>V.ref z.1)))
  |_=>False) I h) λus s1 ⟨J,i,W,r1,L⟩=>?_) (by rw[hs1];rfl) (by rw[hs1];rfl)
 match J,L with
 |[x],L=>
  obtain⟨l,n,rfl,Y,E,nd,M,hT,q⟩:=L;obtain⟨u,rfl,rx⟩:=vals1 r1;cases rx
  refine wpAny_evalAll_cons (ak (zgh W hdef hcl hcode hK hB hgP hT λf c' H2 s2 pm ct I2 o N O R r=>ak (rG (aG ?_))));refine wpAny_evalAll_nil ?_;have Lf:=W.late R;have I3:Inv X ((f,Fb "<lambda>" (X.env.qual ++ "<lambda>") params body scope [] pm c' ct)::g) Z H2 s2:=I2.pins_of λp T=>by
   rcases aW.mp T with rfl | T
   ·exact⟨N,O,Lf.lo,Lf.fs,λv z=>by cases z⟩
   ·exact I2.pin p (bh _ T)
  have j:∀b xs,i b=some (.lst xs)->b≠P:=λb xs e z=>by
   rw[z]at e;rcases hT with t | ⟨c2,t,_⟩
   ·rw[t]at e;cases e
   ·rw[t]at e;cases e
  have B:=(hr.in1).in1;refine zcT I3 (r _ _ (j _ _ Y) Y) (λz d=>r _ _ (j _ _ (E z d)) (E z d)) nd M (by have:=B.units;omega) (λF s' pins' z I' hf m d=>?_) λD F a G m hn pm pw=>?_
  ·have U:zeA P lpos (X.env.qual ++ "<lambda>") F c':=⟨m _ _ o.1,m _ _ o.2⟩
   exact zg4 (v:=.ref z.1) I' hf U S B (λpm ct u=>hb pm (.ref c') ct u) rfl (hbody f c' s' F z (m _ _ (r _ _ (j _ _ (E z d)) (E z d))))
  ·refine q D a F ?_ hn (λb u hb e=>m _ _ (r b u hb e)) (.inr ⟨c',m _ _ o.1,m _ _ o.2⟩) pm pw;cases e:i D with
   |none=>rfl
   |some u=>
    by_cases C:D=P
    ·rw[C,o.1]at G;cases G
    ·rw[r D u C e]at G;cases G
end
theorem zfw{K:Frag}(KX:K.In s₁.heap)(hns:s₁.heap.Ns cz mg)(hb:s₁.heap.Ns sS mb)(hbb:∀x:bZ,x ≠ "__name__"->mb x=iy x)(hlim:s₁.heap.NoLimit)(hg:s₁.gens=#[])(hBM:∃bm ob,mg "__builtins__"= some (.ref bm)/\bm≠sS/\s₁.heap.get? bm=some ob/\ob.cls=.type "module"/\ob.dict=some sS/\ob.data=.plain)(hT:s₁.heap.get? T=some (tabObj #[]))(hKT:K.lookup T=none)(hcT:Hn K c T=true)(ha:s₁.heap.get? a=some { cls:=.type "list",data:=.seq vs.toArray })(hi:gw vs ns)(hl:ns.length<=aA)(hr:Room k Dh)(F:∀base:dj,K.In base->base.Ns cz mg->base.BuiltinsAt mg T->FnOk P w K mg base CX k fa fd [x] sp)(hbind:∀s u,sZ s fd ⟨[u],[]⟩ [(x,u)])(hsp:∀H:Hp,H T=some (.tbl #[])->SqL K H a (ns.map V.int)->sp [.ref a] H (λv _=>v=.bl true) λ_ _ _=>False)(hCX:∀H e s',CX [] H s₁ (λ_ _ _=>False) e s'->False):
  jL (bG P w) Dh (.call (.ref fa) ⟨[.ref a],[]⟩) (λr s'=>r=.ok (.ret (.bool true))/\OldK s₁.heap s'.heap/\s'.os=s₁.os/\lW s'.gens) s₁:=by
 have Y:=zbb hi;have B:=hi.length;have C:=(K8 KX hcT).tab hT;have l:∀H:Hp,H T=some (.tbl #[])->SqL K H a (ns.map V.int)->HOk P w H s₁.heap->(∀b,H b≠none->b=a\/b=T)->(∀b,b≠T->H b=none\/∃o y,H b=some (.frz o (.lst y)))->(∀b,H b≠none->K.lookup b=none) ->
   jL (bG P w) Dh (.call (.ref fa) ⟨[.ref a],[]⟩) (λr s'=>r=.ok (.ret (.bool true))/\OldK s₁.heap s'.heap/\s'.os=s₁.os/\lW s'.gens) s₁:=by
  intro H D hS E hA hO hK;have f:∀{b:au} {o:kZ},s₁.heap.get? b=some o->H b=none->(zaC s₁.heap H).get? b=some o:=λe n=>zfV e n;have G:∀{b:au} {o:kZ},s₁.heap.get? b=some o->(∀y n,o.data≠.seq y n)->(∀S,o.data≠.fields S)->H b=none:=λ{b o} e d1 d2=>by
   cases q:H b with
   |none=>rfl
   |some u=>
    rcases hA b (by rw[q];simp) with e' | e'
    ·subst e';rw[ha]at e;cases e
     exact absurd rfl (d1 _ _)
    ·subst e';rw[hT]at e;cases e
     exact absurd rfl (d2 _)
  have j:∀{b:au} {m:bZ->Option aD},s₁.heap.Ns b m->(zaC s₁.heap H).Ns b m:=λ{b m} ⟨o,Z,ep,e,d,r⟩=>⟨o,Z,ep,f e (G e (λy n z=>by rw[d]at z;cases z) (λS z=>by rw[d]at z;cases z)),d,r⟩
  have I:K.In (zaC s₁.heap H):=λb o e=>f (KX b o e) (by
   cases q:H b with
   |none=>rfl
   |some u=>rw[hK b (by rw[q];simp)]at e;cases e)
  have hM:Mod K mg (zaC s₁.heap H):=⟨I,j hns,⟨mb,j hb,hbb⟩,let ⟨mc,h1,h2⟩:=hlim;⟨mc,j h1,h2⟩⟩
  have U:(zaC s₁.heap H).BuiltinsAt mg T:=by
   obtain⟨bm,ob,b1,b2,A,b4,b5,J⟩:=hBM;refine⟨bm,ob,b1,b2,λz=>?_,λz=>?_,f A (G A (λy n z=>by rw[J]at z;cases z) (λS z=>by rw[J]at z;cases z)),b4,b5,J⟩
   ·obtain⟨o,Z,ep,e,hd,_⟩:=hns;rw[z,e]at A;cases A
    rw[hd]at J;cases J
   ·rw[z,hT]at A;cases A;cases b4
  have e0:Env0 P w K mg (zaC s₁.heap H) Dh [] s₁ H:=⟨rfl,hM,λb o e=>zhT e,iD (zfh _ _),trivial,λb hb=>absurd (show b∈([]) from hb) (by simp),E,.of_eq hg⟩
  refine iG ((F _ I (j hns) U).run Dh [] s₁ H ⟨[.ref a],[]⟩ [.ref a] [.ref a] _ _ hr e0 (hbind s₁ (.ref a)) (.cons rfl .nil) (hsp H D hS)) λr s' h=>?_;cases r with
  |error e=>exact (hCX H e s' h).elim
  |ok fl=>
   cases fl with
   |next=>exact dz h
   |brk=>exact dz h
   |cont=>exact dz h
   |ret u=>
    obtain⟨v,H',os,L,W,p,r',q⟩:=h;have q':=q;subst q';obtain rfl:u=nJ true:=r';have M:∀b o,b≠T->s₁.heap.get? b=some o->s'.heap.get? b=some o:=λb o i e=>by
     cases q:H b with
     |none=>exact W.keep b o e q (by intro z;exact absurd (show b∈([]) from z) (by simp)) (by simp)
     |some u=>
      rcases hO b i with z | ⟨ob,y,z⟩
      ·rw[q]at z;cases z
      ·have N:=W.frzs b ob _ z;obtain⟨e1,_⟩:=E b _ z;obtain⟨e2,_⟩:=p b _ N;rw[e]at e1;cases e1
       exact e2
    obtain⟨O,hm⟩:=W.tbls T _ D;have Q:=p T _ hm;refine⟨rfl,⟨λb o e=>?_,λb o e=>?_⟩,os,L⟩
    ·by_cases i:b=T
     ·subst i;rw[hT]at e;cases e
      exact .inr (.inl ⟨C.isCodeTable,rfl,#[],O,rfl,Q⟩)
     ·exact .inl (M b o i e)
    ·by_cases i:b=T
     ·subst i;exact⟨_,Q⟩
     ·exact⟨o,M b o i e⟩
 have X:T≠a:=λz=>by rw[z,ha]at hT;cases hT
 cases hk:K.lookup a with
 |some o=>
  have e:=KX a o hk;rw[ha]at e;cases e
  refine l (λb=>if b=T then some (.tbl #[]) else none) (if_pos rfl) (.inr ⟨_,vs.toArray,_,hk,rfl,rfl,rfl,by rw[aJ,B];exact hl,by simpa using Y⟩) (λb u z=>?_) (λb z=>?_) (λb hb=>.inl (if_neg hb)) λb z=>?_
  ·by_cases hb:b=T
   ·have t:=(if_pos hb).symm.trans z;cases t
    subst hb;exact hT
   ·have t:=(if_neg hb).symm.trans z;cases t
  ·by_cases hb:b=T
   ·exact .inr hb
   ·exact absurd (if_neg hb) z
  ·by_cases hb:b=T
   ·rw[hb];exact hKT
   ·exact absurd (if_neg hb) z
 |none=>
  refine l (λb=>if b=a then some (.frz { cls:=.type "list",data:=.seq vs.toArray } (.lst (ns.map V.int))) else if b=T then some (.tbl #[]) else none) (by rw[if_neg X,if_pos rfl]) (.inl (.inr ⟨{ cls:=.type "list",data:=.seq vs.toArray },if_pos rfl⟩)) (λb u z=>?_) (λb z=>?_) (λb hb=>?_) λb z=>?_
  ·by_cases hb:b=a
   ·have t:=(if_pos hb).symm.trans z;cases t
    subst hb;exact⟨ha,by rw[aa];exact hl,vs,_,Y,ha⟩
   ·have t:=(if_neg hb).symm.trans z;by_cases g:b=T
    ·have N:=(if_pos g).symm.trans t;cases N
     subst g;exact hT
    ·have N:=(if_neg g).symm.trans t;cases N
  ·by_cases hb:b=a
   ·exact .inl hb
   ·by_cases g:b=T
    ·exact .inr g
    ·exact absurd (by rw[if_neg hb,if_neg g]) z
  ·by_cases R:b=a
   ·exact .inr ⟨_,_,if_pos R⟩
   ·exact .inl (by rw[if_neg R,if_neg hb])
  ·by_cases hb:b=a
   ·rw[hb];exact hk
   ·by_cases g:b=T
    ·rw[g];exact hKT
    ·exact absurd (by rw[if_neg hb,if_neg g]) z
theorem zi4{l:Ig}{K:Params->aK}{sp:bU->Sp}(hn:l.most=some n)(hn2:n<=aA)(hdf:d.params.defaults=[])(hr:Room k Dh)(hY:∀w h,YP w h->(K w.params).In h)(hYT:∀w h,YP w h->h.get? T=some (tabObj #[]))(hKT:∀w:bU,(K w.params).lookup T=none)(hcT:∀w:bU,Hn (K w.params) c T=true)(F:∀w mg fa h,(K w.params).In h->h.Ns cz mg->mg d.name=some (.ref fa) ->
   ∃fd:lM,(∀s u,sZ s fd ⟨[u],[]⟩ [(x,u)]) /\
    ∀base:dj,(K w.params).In base->base.Ns cz mg->base.BuiltinsAt mg T->FnOk l.prog w (K w.params) mg base CX0 k fa fd [x] (sp w))(hsp:∀(w:bU) (H:Hp) (a:au) (ns:List Int),ns.length<=n->H T=some (.tbl #[])->SqL (K w.params) H a (ns.map V.int)->sp w [.ref a] H (λv _=>v=.bl true) λ_ _ _=>False):
  W.WalkO q loose XP YP l.row.toRowW d [] (λf vs=>PySem.call f vs):=by
 refine Att.zcI hn hdf λw s₀ s₁ mg mb fa o pm cd doc a vs ns G Y ho hd hcd p m j i t=>?_;have r:=hY w _ Y;obtain⟨fd,y,z⟩:=F w mg fa _ r G.T.g p;exact zfw r G.T.g G.T.b G.T.builtins G.T.nolimit t G.T.bmain (hYT w _ Y) (hKT w) (hcT w) m j (aB i hn2) hr z y (λH A B=>hsp w H a ns i A B) λH e s' h=>h
end L2
namespace Lw
def YC(ls:ZA)(x:List Int):Prop:=x=[]\/∃st∈ls,∃k,1<=k/\k<st.length/\x=st.take k/\lacks ls x=true
structure StandsL (ls:ZA) (xs:ZA):Prop where
 mem:∀x,x∈xs↔YC ls x
 up:xs.Pairwise λx y=>HT.uT x y=true
theorem zcO(h:∀st∈ls,st.length<=4)(q:YC ls x):x.length<=3:=by
 rcases q with rfl | ⟨st,a,k,h1,h2,rfl,_⟩
 ·decide
 ·have:=h st a;rw[bA];omega
theorem zfu(h:tG ls (y++[x])=true):tG ls y=true:=by
 unfold tG at *;rw[cX]at h ⊢;obtain⟨b,a,q⟩:=h;refine⟨b,a,decide_eq_true ?_⟩;have q:=of_decide_eq_true q;have e:=congrArg (List.take y.length) q;rw[Ho,List.take_take,aF]at e;rw[fU (by omega)]at e;exact e
theorem Zk{ls:ZA}:∀fs:List Int,∃j,j<=fs.length/\zW ls fs=fs.drop j/\(∀k,k<j->tG ls (fs.drop k)=false)/\(j<fs.length->tG ls (fs.drop j)=true)
 |[]=>⟨0,aq _,rfl,λk hk=>by omega,λh=>by simp at h⟩
 |x::fs=>by
  by_cases h:tG ls (x::fs)=true
  ·exact⟨0,bw _,by rw[zW,if_pos h];rfl,λk hk=>by omega,λ_=>h⟩
  ·obtain⟨j,h1,h2,h3,h4⟩:=Zk fs;refine⟨j+1,by rw[bF];omega,by rw[zW,if_neg h,h2,fY],λk hk=>?_,λa=>by rw[fY];exact h4 (by rw[bF]at a;omega)⟩;cases k with
   |zero=>rw[il];simpa using h
   |succ k=>rw[fY];exact h3 k (by omega)
theorem tM(fs:List Int)(x:Int):zW ls (zW ls fs++[x])=zW ls (fs++[x]):=by
 obtain⟨j,a,b,c,_⟩:=Zk fs;rw[b,YW j (fs++[x]) (by rw[aF];omega) (λk d=>?_),cR a];rw[cR (by omega)];cases e:tG ls (fs.drop k++[x]) with
 |false=>rfl
 |true=>rw[<-c k d,zfu e]
theorem ze0(ne:st≠[])(h:Wo st (fs.drop j)=true):Wo st fs=true:=by
 rw[uX ne]at h ⊢;obtain⟨k,e⟩:=h;exact⟨j+k,by rw[<-Hq];exact e⟩
theorem QX(ne:∀l∈ls,l≠[])(j:Nat)(h:lacks ls fs=true):lacks ls (fs.drop j)=true:=by
 unfold lacks at *;rw[kY,fu]at h ⊢;intro b a q;exact h b a (ze0 (ne b a) q)
theorem tR(ne:∀l∈ls,l≠[])(x:Int)(h:lacks ls fs=true):lacks ls (zW ls fs++[x])=lacks ls (fs++[x]):=by
 obtain⟨j,f,g,i,_⟩:=Zk fs;rw[g,<-cR f];rw[cH];constructor
 ·intro q;unfold lacks at *;rw[kY,fu]at h q ⊢;intro b a d;rw[uX (ne b a)]at d;obtain⟨k,e⟩:=d;have hp:=cT.mpr (ne b a);have m:=congrArg cB e;rw[bA,bR,aF,aX]at m;by_cases hin:k+b.length<=fs.length
  ·refine h b a ((uX (ne b a)).mpr ⟨k,?_⟩);rw[cR (by omega),iw (by rw[bR];omega)]at e;exact e
  ·have hk:k+b.length=fs.length+1:=by omega
   rw[bV (by rw[bR,aF,aX];omega)]at e;by_cases hkj:j<=k
   ·refine q b a ((uX (ne b a)).mpr ⟨k-j,?_⟩);rw[Hq,show j+(k-j)=k by omega,e,bV (aq _)]
   ·have c:=i k (by omega);rw[cR (by omega)]at e;unfold tG at c;rw[fu]at c;refine c b a (decide_eq_true ?_);rw[<-e,Ho]
 ·intro q;exact QX ne j q
theorem j9(ne:∀l∈ls,l≠[])(h:lacks ls fs=true):YC ls (zW ls fs):=by
 obtain⟨j,h1,f,_,g⟩:=Zk fs;rw[f];by_cases i:j<fs.length
 ·have q:=g i;unfold tG at q;rw[cX]at q;obtain⟨c,b,q⟩:=q;have q:=of_decide_eq_true q;have hl:=congrArg cB q;have hlen:(fs.drop j).length=fs.length-j:=bR ..;have a:=QX ne j h;refine .inr ⟨c,b,(fs.drop j).length,by omega,?_,q.symm,a⟩;by_cases d:(fs.drop j).length<c.length
  ·exact d
  ·exfalso;have e:c.length<=(fs.drop j).length:=by omega
   rw[bV e]at q;unfold lacks at a;rw[kY,fu]at a;refine a c b ((uX (ne c b)).mpr ⟨0,?_⟩);rw[il,<-q,bV (aq _)]
 ·left;exact dH (by omega)
theorem StandsL.first(a:StandsL ls xs):∃r,xs=[]::r:=by
 have b:=(a.mem []).mpr (.inl rfl);cases xs with
 |nil=>cases b
 |cons x r=>
  rcases aW.mp b with e | e
  ·exact⟨r,by rw[e]⟩
  ·have:=(DY.mp a.up).1 [] e;unfold HT.uT at this;by_cases c:x.length=([]:List Int).length
   ·have:x=[]:=oJ c;exact⟨r,by rw[this]⟩
   ·rw[if_neg c]at this;have:=of_decide_eq_true this;simp at this
def cnt(ls:ZA)(b:Nat):Nat->List Int->Nat
 |0,_=>1
 |t+1,x=>((bJ b).map λ(c:Nat)=>if lacks ls (x++[(c:Int)])=true then cnt ls b t (zW ls (x++[(c:Int)])) else 0).sum
def Z2(b:Nat):Nat->Nat->List Int
 |0,_=>[]
 |t+1,r=>((r / b^t:Nat):Int)::Z2 b t (r % b^t)
def many(p:Nat->Bool):Nat->Nat
 |0=>0
 |n+1=>many p n+(if p n=true then 1 else 0)
theorem qX{p q:Nat->Bool}:∀{N:Nat},(∀n,n<N->p n=q n)->many p N=many q N
 |0,_=>rfl
 |N+1,h=>by rw[many,many,qX (N:=N) λn hn=>h n (by omega),h N (by omega)]
theorem Wl{p:Nat->Bool}:∀{N:Nat},(∀n,n<N->p n=false)->many p N=0
 |0,_=>rfl
 |N+1,h=>by rw[many,Wl (N:=N) λn hn=>h n (by omega),h N (by omega)];rfl
theorem Zj(p:Nat->Bool)(A:Nat):∀B:Nat,many p (A+B)=many p A+many (λn=>p (A+n)) B
 |0=>rfl
 |B+1=>by rw[<-iW,many,many,Zj p A B,iW]
theorem Jk(p:Nat->Bool)(B:Nat):∀A:Nat,many p (A*B)=((bJ A).map λc=>many (λr=>p (c*B+r)) B).sum
 |0=>by simp[many]
 |A+1=>by
  rw[lC,Zj,Jk p B A,dY,aH,iT];simp
theorem uq(p:Nat->Bool)(h:A<=B):many p A<=many p B:=by
 obtain⟨k,rfl⟩:=sI h;rw[Zj];omega
theorem QD(p:Nat->Bool)(h:A<B)(q:p A=true):many p A<many p B:=by
 have e:many p (A+1)=many p A+1:=by rw[many,if_pos q]
 have:=uq p (A:=A+1) h;omega
theorem zf1(p:Nat->Bool)(ha:p A=true)(hb:p B=true)(e:many p A=many p B):A=B:=by
 rcases Nat.lt_trichotomy A B with h | h | h
 ·have:=QD p h ha;omega
 ·exact h
 ·have:=QD p h hb;omega
theorem zcn{p:Nat->Bool}:∀{N:Nat},0<many p N->∃n,n<N/\p n=true
 |0,h=>by simp[many]at h
 |N+1,h=>by
  by_cases e:p N=true
  ·exact⟨N,by omega,e⟩
  ·rw[many,if_neg e]at h;obtain⟨n,hn,q⟩:=zcn (by omega);exact⟨n,by omega,q⟩
theorem V7(hr:r<b^t):Z2 b (t+1) (c*b^t+r)=(c:Int)::Z2 b t r:=by
 have a:0<b^t:=by omega
 rw[Z2,pq,Cj _ _ a,dM hr,bO,pX,lG hr]
theorem WR{f g:Nat->Nat}:∀{N:Nat},(∀c,c<N->f c=g c)->((bJ N).map f).sum=((bJ N).map g).sum:=by
 intro N h;congr 1;apply eO;intro c a;exact h c (cI.mp a)
theorem JF(ne:∀l∈ls,l≠[])(ih:∀x,lacks ls x=true->many (λr=>lacks ls (x++Z2 b t r)) (b^t)=cnt ls b t (zW ls x))(c:Nat):
  many (λr=>lacks ls (x++Z2 b (t+1) (c*b^t+r))) (b^t)=if lacks ls (x++[(c:Int)])=true then cnt ls b t (zW ls (x++[(c:Int)])) else 0:=by
 have a:many (λr=>lacks ls (x++Z2 b (t+1) (c*b^t+r))) (b^t)=many (λr=>lacks ls (x++[(c:Int)]++Z2 b t r)) (b^t):=by
  apply qX;intro r d;rw[V7 d,fC];rfl
 rw[a];by_cases h:lacks ls (x++[(c:Int)])=true
 ·rw[if_pos h,ih _ h]
 ·rw[if_neg h];apply Wl;intro r _;cases hc:lacks ls (x++[(c:Int)]++Z2 b t r) with
  |false=>rfl
  |true=>exact absurd (jW ne hc) h
theorem zbN{ls:ZA}(ne:∀l∈ls,l≠[]){b:Nat}:∀(t:Nat) (x:List Int),lacks ls x=true->many (λr=>lacks ls (x++Z2 b t r)) (b^t)=cnt ls b t (zW ls x)
 |0,x,h=>by
  rw[fZ,many,many,cnt,Z2,dJ,if_pos h]
 |t+1,x,h=>by
  rw[gb,Jk,cnt];apply WR;intro c _;rw[JF ne (zbN ne t),tR ne _ h,tM]
def gd(ls:ZA)(b n:Nat):Bool:=lacks ls (figs b n)
theorem JB{b:Nat}:∀(t n:Nat),Z2 b (t+1) n=tops b t n
 |0,n=>by simp[Z2,tops]
 |t+1,n=>by rw[Z2,JB t,tops]
theorem zfR(h2:2<=b)(h1:1<=c)(hc:c<b)(hr:r<b^t):figs b (c*b^t+r)=(c:Int)::Z2 b t r:=by
 rw[<-V7 hr,JB];refine (Wh h2 t _ ?_ (.inr ?_)).symm
 ·rw[gb];have:(c+1)*b^t<=b*b^t:=lz _ hc;rw[lC]at this;omega
 ·have:1*b^t<=c*b^t:=lz _ h1;omega
def xU(ls:ZA)(b:Nat):Nat->Nat
 |0=>if lacks ls [0]=true then 1 else 0
 |t+1=>((bJ b).map λ(c:Nat)=>if c=0 then xU ls b t else if lacks ls [(c:Int)]=true then cnt ls b t (zW ls [(c:Int)]) else 0).sum
theorem zaG(ne:∀l∈ls,l≠[])(h2:2<=b)(h1:1<=c)(hc:c<b):many (λr=>gd ls b (c*b^t+r)) (b^t)=if lacks ls [(c:Int)]=true then cnt ls b t (zW ls [(c:Int)]) else 0:=by
 have e:=JF (x:=[]) ne (b:=b) (zbN ne t) c;rw[oR]at e;rw[<-e];apply qX;intro r a;rw[gd,zfR h2 h1 hc a,oR,V7 a]
theorem xQ{ls:ZA}(ne:∀l∈ls,l≠[]){b:Nat}(h2:2<=b):∀t:Nat,xU ls b t=many (gd ls b) (b^t)
 |0=>by
  rw[fZ,many,many,xU,bO];unfold gd;rw[uv (show 0<b by omega)];rfl
 |t+1=>by
  rw[gb,Jk,xU];apply WR;intro c hc;by_cases h0:c=0
  ·subst h0;rw[if_pos rfl,xQ ne h2 t];apply qX;intro r _;rw[c7,bO]
  ·rw[if_neg h0,zaG ne h2 (by omega) hc]
theorem zen{ls:ZA}(ne:∀l∈ls,l≠[]):∀(g:List Int) {x y:List Int},lacks ls x=true->lacks ls y=true->zW ls x=zW ls y->lacks ls (x++g)=lacks ls (y++g)/\(lacks ls (x++g)=true->zW ls (x++g)=zW ls (y++g))
 |[],x,y,hx,hy,e=>by
  rw[dJ,dJ,hx,hy];exact⟨rfl,λ_=>e⟩
 |c::g,x,y,hx,hy,e=>by
  have e1:lacks ls (x++[c])=lacks ls (y++[c]):=by rw[<-tR ne c hx,<-tR ne c hy,e]
  have a:zW ls (x++[c])=zW ls (y++[c]):=by rw[<-tM x c,<-tM y c,e]
  have b:x++c::g=x++[c]++g:=by rw[fC];rfl
  have d:y++c::g=y++[c]++g:=by rw[fC];rfl
  rw[b,d];by_cases h:lacks ls (x++[c])=true
  ·exact zen ne g h (e1▸h) a
  ·have f:lacks ls (x++[c]++g)=false:=by
    cases hc:lacks ls (x++[c]++g) with
    |false=>rfl
    |true=>exact absurd (jW ne hc) h
   have i:lacks ls (y++[c]++g)=false:=by
    cases hc:lacks ls (y++[c]++g) with
    |false=>rfl
    |true=>exact absurd (e1▸jW ne hc) h
   rw[f,i];exact⟨rfl,λz=>by cases z⟩
theorem zdU{α:Type}[DecidableEq α]:∀(xs ws:List α),(∀x∈xs,x∈ws)->ws.length<xs.length->∃(i j:Nat) (x:α),i<j/\xs[i]?=some x/\xs[j]?=some x
 |[],ws,_,h=>by simp at h
 |x::xs,ws,hm,h=>by
  by_cases hx:x∈xs
  ·obtain⟨j,hj⟩:=oK hx;exact⟨0,j+1,x,by omega,rfl,by simpa using hj⟩
  ·have a:=hm x bI;obtain⟨i,j,z,hij,c,d⟩:=zdU xs (ws.erase x) (λy b=>(List.mem_erase_of_ne (λe:y=x=>hx (by rw[<-e];exact b))).mpr (hm y (bQ _ b))) (by
    rw[List.length_erase_of_mem a];rw[bF]at h;have:0<ws.length:=List.length_pos_of_mem a;omega)
   exact⟨i+1,j+1,z,by omega,by simpa using c,by simpa using d⟩
theorem Zm(ne:∀l∈ls,l≠[])(k:Nat)(h:lacks ls fs=true):lacks ls (fs.take k)=true:=by
 apply jW ne;rw[nG];exact h
theorem zjZ(ne:∀l∈ls,l≠[])(SL:StandsL ls ws)(hL:lacks ls fs=true)(hlen:ws.length<fs.length)(L:Nat):
  ∃gs:List Int,gs.length=L+1/\lacks ls gs=true/\gs.head?=fs.head?/\∀f∈gs,f∈fs:=by
 have p:∀x∈(bJ fs.length).map (λi=>zW ls (fs.take (i+1))),x∈ws:=by
  intro x p;obtain⟨i,_,rfl⟩:=aQ.mp p;exact (SL.mem _).mpr (j9 ne (Zm ne _ hL))
 obtain⟨i,j,z,hij,B,C⟩:=zdU _ ws p (by rw[aa,cg];exact hlen);rw[ao]at B C;obtain⟨i',F,G⟩:=aY.mp B;obtain⟨j',H,I⟩:=aY.mp C;obtain⟨c,d⟩:=aV.mp F;obtain⟨s,m⟩:=aV.mp H;rw[Ea]at d m;subst d m;rw[cg]at c s;let a:=(fs.drop (i+1)).take (j-i);have n:fs.take (i+1)++a=fs.take (j+1):=by
  have e:j+1=(i+1)+(j-i):=by omega
  rw[e];exact (List.take_add).symm
 have t:a.length=j-i:=by
  rw[bA,bR];omega
 have b:∀k:Nat,∃gs:List Int,lacks ls gs=true/\zW ls gs=zW ls (fs.take (i+1))/\gs.length=i+1+k*(j-i)/\gs.head?=fs.head?/\∀f∈gs,f∈fs:=by
  intro k
  induction k with
  |zero=>
   refine⟨fs.take (i+1),Zm ne _ hL,rfl,by rw[bA];omega,?_,λf o=>fO o⟩;cases fs with
   |nil=>simp at c
   |cons f r=>rfl
  |succ k J=>
   obtain⟨gs,u,D,v,w,y⟩:=J;have q:=zen ne a u (Zm ne (i+1) hL) D;rw[n]at q;have E:lacks ls (gs++a)=true:=by rw[q.1];exact Zm ne _ hL
   refine⟨gs++a,E,?_,?_,?_,?_⟩
   ·rw[q.2 E,I,<-G]
   ·rw[aF,v,t,lC];omega
   ·cases gs with
    |nil=>simp at v;omega
    |cons g r=>exact w
   ·intro f o;rcases aZ.mp o with h | h
    ·exact y f h
    ·exact CV (fO h)
 obtain⟨gs,u,D,v,w,y⟩:=b L;have hbig:L+1<=gs.length:=by
  have:L*1<=L*(j-i):=o7 _ (by omega);omega
 refine⟨gs.take (L+1),by rw[bA];omega,Zm ne _ u,?_,λf o=>y f (fO o)⟩;rw[<-w];cases gs with
 |nil=>rfl
 |cons g r=>rfl
theorem UV(h2:2<=b)(hn:n<b^(k+1))(h:k=0\/b^k<=n):(figs b n).length=k+1:=by
 rw[<-Wh h2 k n hn h,zc6]
theorem zb2(h2:2<=b)(n:Nat):∃k,n<b^(k+1)/\(k=0\/b^k<=n):=by
 have a:∀K:Nat,n<b^(K+1)->∃k,n<b^(k+1)/\(k=0\/b^k<=n):=by
  intro K
  induction K with
  |zero=>intro h;exact⟨0,h,.inl rfl⟩
  |succ K c=>
   intro h;by_cases q:n<b^(K+1)
   ·exact c q
   ·exact⟨K+1,h,.inr (by omega)⟩
 refine a n ?_;have:n<2^n:=Nat.lt_two_pow_self;have h3:=Nat.pow_le_pow_left h2 n;have h4:b^n<=b^(n+1):=cM (by omega) (iu n);omega
theorem XJ(h2:2<=b):(figs b n).length=k+1↔n<b^(k+1)/\(k=0\/b^k<=n):=by
 refine⟨λh=>?_,λh=>UV h2 h.1 h.2⟩;obtain⟨m,a,c⟩:=zb2 h2 n;have e:=UV h2 a c;obtain rfl:k=m:=by omega
 exact⟨a,c⟩
def Z9(ls:ZA)(b t:Nat):Option (List Int)->Nat->Nat
 |some x,c=>if lacks ls (x++[(c:Int)])=true then cnt ls b t (zW ls (x++[(c:Int)])) else 0
 |none,c=>if c=0 then xU ls b t else if lacks ls [(c:Int)]=true then cnt ls b t (zW ls [(c:Int)]) else 0
def under(ls:ZA)(b t:Nat)(o:Option (List Int))(s:Nat):Nat:=((bJ s).map (Z9 ls b t o)).sum
theorem zaI(ls:ZA)(b t:Nat)(x:List Int):under ls b t (some x) b=cnt ls b (t+1) x:=rfl
theorem zdR(ls:ZA)(b t:Nat):under ls b t none b=xU ls b (t+1):=rfl
theorem Vo(ls:ZA)(b t:Nat)(o:Option (List Int)):under ls b t o 0=0:=rfl
theorem Ze(ls:ZA)(b t:Nat)(o:Option (List Int))(s:Nat):under ls b t o (s+1)=under ls b t o s+Z9 ls b t o s:=by
 unfold under;rw[dY,aH,iT];simp
def Rep(ls:ZA)(b m:Nat)(o:Option (List Int)):Prop:=(m=0/\o=none)\/(1<=m/\gd ls b m=true/\o=some (zW ls (figs b m)))
theorem tV(h2:2<=b)(h1:1<=m)(hc:c<b):figs b (m*b+c)=figs b m++[(c:Int)]:=by
 have a:b<=m*b+c:=by
  have:1*b<=m*b:=lz b h1;omega
 rw[YM h2 a];have d:(m*b+c) / b=m:=by rw[pq,Cj _ _ (by omega),dM hc,bO]
 have e:(m*b+c) % b=c:=by rw[pq,pX,lG hc]
 rw[d,e]
theorem zc1(h2:2<=b)(h1:1<=m):1<=m*b+c:=by
 have:1*b<=m*b:=lz b h1;omega
theorem Wa{b m:Nat}(h2:2<=b)(h1:1<=m):∀(t r:Nat),r<b^t->figs b (m*b^t+r)=figs b m++Z2 b t r
 |0,r,hr=>by
  have:r=0:=by rw[fZ]at hr;omega
  subst this;rw[fZ,oM,Bv,Z2,dJ]
 |t+1,r,hr=>by
  have c:0<b^t:=gH (by omega);have d:r / b^t<b:=by
   rw[iY c];rw[gb,]at hr;exact hr
  have f:r % b^t<b^t:=mz _ c;have e:m*b^(t+1)+r=(m*b+r / b^t)*b^t+r % b^t:=by
   have h:=mj r (b^t);rw[gb,Nat.add_mul,Dw,iW,fD (r / b^t),h]
  have a:1<=m*b+r / b^t:=zc1 h2 h1;rw[e,Wa h2 a t _ f,tV h2 h1 d,Z2,fC];rfl
theorem zdy(ne:∀l∈ls,l≠[])(h2:2<=b)(R:Rep ls b m o)(t:Nat)(hc:c<b):Z9 ls b t o c=many (λr=>gd ls b ((m*b+c)*b^t+r)) (b^t):=by
 rcases R with ⟨rfl,rfl⟩ | ⟨a,g,rfl⟩
 ·rw[c7,bO];show (if c=0 then _ else _)=_;by_cases d:c=0
  ·subst d;rw[if_pos rfl,xQ ne h2];apply qX;intro r _;rw[c7,bO]
  ·rw[if_neg d,zaG ne h2 (by omega) hc]
 ·have e:=JF (x:=figs b m) ne (b:=b) (zbN ne t) c;show (if lacks ls (zW ls (figs b m)++[(c:Int)])=true then cnt ls b t (zW ls (zW ls (figs b m)++[(c:Int)])) else 0)=_;rw[tR ne _ g,tM,<-e];apply qX;intro r f;rw[gd,Wa h2 (zc1 h2 a) t r f,tV h2 a hc,V7 f,fC];rfl
theorem ue{ls:ZA}(ne:∀l∈ls,l≠[]){b m:Nat}{o:Option (List Int)}(h2:2<=b)(R:Rep ls b m o)(t:Nat):∀{s:Nat},s<=b->many (gd ls b) (m*b^(t+1))+under ls b t o s=many (gd ls b) ((m*b+s)*b^t)
 |0,_=>by rw[Vo,Bv,gb,show (m*b+0)*b^t=m*(b*b^t) by rw[Bv,Dw]]
 |s+1,hs=>by
  rw[Ze,<-iW,ue ne h2 R t (s:=s) (by omega),zdy ne h2 R t (show s<b by omega),<-iW,lC (m*b+s),Zj]
theorem Rep.step(ne:∀l∈ls,l≠[])(h2:2<=b)(R:Rep ls b m o)(hc:c<b):
  (o=none/\c=0/\Rep ls b (m*b+c) none)\/(¬ (o=none/\c=0)/\((lacks ls (o.getD []++[(c:Int)])=true/\Rep ls b (m*b+c) (some (zW ls (o.getD []++[(c:Int)]))))\/(lacks ls (o.getD []++[(c:Int)])=false/\1<=m*b+c/\gd ls b (m*b+c)=false))):=by
 rcases R with ⟨rfl,rfl⟩ | ⟨d,g,rfl⟩
 ·by_cases e:c=0
  ·left;exact⟨rfl,e,.inl ⟨by omega,rfl⟩⟩
  ·right;refine⟨λz=>e z.2,?_⟩;rw[c7,bO];show (lacks ls [c]=true/\_)\/(lacks ls [c]=false/\_)
   have a:gd ls b c=lacks ls [c]:=by unfold gd;rw[uv hc]
   cases hl:lacks ls [c] with
   |true=>left;exact⟨rfl,.inr ⟨by omega,by rw[a];exact hl,by rw[uv hc];rfl⟩⟩
   |false=>right;exact⟨rfl,by omega,by rw[a];exact hl⟩
 ·right;refine⟨λz=>(nomatch z.1),?_⟩;have f:1<=m*b+c:=zc1 h2 d;show (lacks ls (zW ls (figs b m)++[(c:Int)])=true/\Rep ls b (m*b+c) (some (zW ls (zW ls (figs b m)++[(c:Int)]))))\/(lacks ls (zW ls (figs b m)++[(c:Int)])=false/\_)
  rw[tR ne _ g,tM];have a:gd ls b (m*b+c)=lacks ls (figs b m++[(c:Int)]):=by unfold gd;rw[tV h2 d hc]
  cases hl:lacks ls (figs b m++[(c:Int)]) with
  |true=>left;exact⟨rfl,.inr ⟨f,by rw[a];exact hl,by rw[tV h2 d hc]⟩⟩
  |false=>right;exact⟨rfl,f,by rw[a];exact hl⟩
theorem zdf(ne:∀l∈ls,l≠[])(h2:2<=b)(h1:1<=m)(hg:gd ls b m=false)(t:Nat)(hr:r<=b^t):many (gd ls b) (m*b^t+r)=many (gd ls b) (m*b^t):=by
 rw[Zj,Wl (N:=r)]
 ·omega
 intro k hk;cases hc:gd ls b (m*b^t+k) with
 |false=>rfl
 |true=>
  unfold gd at hc hg;rw[Wa h2 h1 t k (by omega)]at hc;rw[jW ne hc]at hg;cases hg
theorem zcl{b:Nat}:∀{t n k:Nat},k<t->n<b^t->(Z2 b t n)[k]?=some (((n / b^(t-1-k)) % b:Nat):Int)
 |0,_,_,hk,_=>by omega
 |t+1,n,0,_,hn=>by
  have:n / b^t<b:=by
   rw[gb]at hn;rcases Eb (b^t) with h | h
   ·rw[h]at hn;omega
   ·rw[iY h];exact hn
  rw[Z2,List.getElem?_cons_zero,show t+1-1-0=t by omega,lG this]
 |t+1,n,k+1,hk,hn=>by
  have a:0<b:=by
   rcases Eb b with h | h
   ·subst h;omega
   ·exact h
  rw[Z2,List.getElem?_cons_succ,zcl (by omega) (mz _ (gH a))];have e:t+1-1-(k+1)=t-1-k:=by omega
  rw[e];generalize hj:t-1-k=j;obtain⟨q,c⟩:∃q,t=j+(q+1):=⟨t-j-1,by omega⟩
  rw[c,Ga,pW,gb,Cg]
theorem zcJ(h2:2<=b)(hN:(figs b n).length=N)(hk:k<N):(figs b n)[k]?=some (((n / b^(N-1-k)) % b:Nat):Int):=by
 obtain⟨K,rfl⟩:∃K,N=K+1:=⟨N-1,by omega⟩
 obtain⟨a,c⟩:=(XJ h2).mp hN;rw[<-Wh h2 K n a c,<-JB];exact zcl hk a
theorem jn(h2:2<=b)(hN:(figs b n).length=N):n<b^N:=by
 cases N with
 |zero=>exact absurd (sJ.mp hN) zb0
 |succ K=>exact ((XJ h2).mp hN).1
theorem zcz(hb:0<b):n / b^t=n / b^(t+1)*b+(n / b^t) % b:=by
 have h:=mj (n / b^t) b;rw[Bs,<-lH,fD]at h;exact h.symm
theorem ziD(ne:∀l∈ls,l≠[])(h2:2<=b)(h1:1<=h)(hr:r<b^t)(hg:gd ls b (h*b^t+r)=true):gd ls b h=true:=by
 unfold gd at *;rw[Wa h2 h1 t r hr]at hg;exact jW ne hg
theorem zfT(ne:∀l∈ls,l≠[])(SL:StandsL ls ws)(h2:2<=b)(hg:gd ls b n=true)(hn:0<n)(hlen:ws.length<(figs b n).length)(L:Nat):∃g,gd ls b g=true/\b^L<=g/\g<b^(L+1):=by
 obtain⟨d,c,i,j,k⟩:=zjZ ne SL hg hlen L;have o:=ze7 h2 n hn;have e:d≠[]:=λz=>by rw[z]at c;simp at c
 have a:d.head?≠some 0:=by rw[j];exact o
 obtain⟨m,_,h,p⟩:=zfp h2 (L+1) d c e (λf q=>zc4 h2 n f (k f q)) (.inl a);have r:(figs b m).length=L+1:=by rw[h];exact c
 obtain⟨s,t⟩:=(XJ h2).mp r;refine⟨m,by unfold gd;rw[h];exact i,?_,s⟩;rcases t with z | z
 ·subst z;exact p a
 ·exact z
end Lw
namespace L2
open Lw
open PySem PySem.Spec PyProof.Rows
section
variable {X:Cx} {tg:dN}
end
def ziM(C:au)(m:bZ)(sp:Sp)(Ex:St->XK)(ta:TE)(t:TA):TE:=λZ H Q=>ta Z H λx H1=>Ex3 λa dx fs=>x=.ref a/\H1 a=some (.ins C dx fs)/\fs.lookup m=none/\t Z H1 λvs H2=>sp (x::vs) H2 Q (Ex Z)
section
variable {X:Cx} {C:au} {q x:bZ} {st:cG} {ps:List bZ} {f:au} {fd:lM} {k:Nat} {sp:Sp} {Ex:St->XK} {o e:dN} {es:List dN} {ta:TE} {t:TA} {apos p pos:nj}
theorem zd6{pl:Np Bool}(D:Mt X.K C q x st ps f fd)(c:Cls X.K C)(G:FnOk X.prog X.w X.K X.mg X.base (CX1 X.prog X.w) k f fd ps sp)(hr:Room k X.A)(hx:zch X Ex)(he:PE X o ta)(ha:PA X (e::es) t)(hst:bM (e::es) X.env=(false,dZ e X.env)::bM es X.env:=by rfl)(hpl:(gO pos (bM es X.env)).any (·.1)=false:=by rfl)(ht:dZ (.Call (.Attribute o x apos) (e::es) [] pos) X.env=(do
   let ov <-dZ o X.env
   Dg apos.atName
   let (f,first) <-o8 [ov] (pF ov x pl)
   Em pos f first (gO pos (bM (e::es) X.env)) (rW pos (mG [] X.env))):=by rfl):PE X (.Call (.Attribute o x apos) (e::es) [] pos) (ziM C x sp Ex ta t):=by
 intro d s Z H Q I h;refine By (thn (he d s Z H _ I h) λu j ⟨y,n,g,p,a,dx,fs,v,B,l,z⟩=>?_) ht;subst v;obtain rfl:u=aU a:=p;refine Vd g B c D.m l ?_;refine o9 I.ok.mod.kin D.m.kp (thn (ha pos d j Z n _ g z) λus s2 ⟨vs,H2,i,r,E⟩=>⟨i.kIn,?_⟩) hst hpl;exact zeP (vs:=.ref a::vs) G hr D.b hx i (.cons rfl r) E
end
theorem FnOk.calm{K:aK}(F:FnOk P w K mg base (CX1 P w) k f fd ps sp):FnOk P w K mg base CX0 k f fd ps (λvs H Q _=>sp vs H Q λ_ _ _=>False):=
 ⟨λvs H Q E h=>F.len vs H Q _ h,λA a s H b c vs Q E d g i j l=>iG (F.run A a s H b c vs Q (λ_ _ _=>False) d g i j l) λr s' q=>by
  cases r with
  |error e=>obtain⟨_,_,_,_,_,_,_,_,_,_,_,m⟩:=q;exact m.elim
  |ok n=>cases n<;>exact q⟩
def zjp(K:aK):R2:=λx y H Q=>Ex4 λp xs ts u=>y=.ref p/\SqT K H p xs/\TrsAt K H ts xs/\TrAt K H u x/\wA ts<=8/\Q (.bl (ts.any λt=>teq t u)) H
section
variable {X:Cx} {K:aK}
open Classical in
theorem ziP(hu:X.A.units+64<d7):OpR X (cO .In) (zjp X.K):=by
 intro pins s Z H x y v u Q I rx ry h;obtain⟨p,xs,ts,t,rfl,hq,hts,ht,hd,q⟩:=h;cases ry
 obtain⟨its,r,pl,hz⟩:=I.tuple hq;refine SeqAt.in_tupleAt _ pl (QK I hu ht rx hd hts r) ⟨.bl _,H,I,rfl,?_⟩;simp only[sG];rw[zbq I hd hts r];exact q
theorem zjz(K:aK)(hu:X.A.units+64<d7)(e:X.K=K:=by rfl):OpR X (cO .In) (zjp K):=by subst e;exact ziP hu
end
end L2
namespace PySem
open Sem (wp)
theorem zbs:Bp (.type "list") "keys"= pure none:=am_miss_of_fast (by decide +kernel)
set_option maxHeartbeats 0 in
theorem Q3(hx:s.heap.get? a=some o)(hc:o.cls=.type "list")(hdat:o.data=.seq xs k)(hd:o.dict=none)(hA:A.handled=none)(h:∀h' tk,(∀b o,s.heap.get? b=some o->h'.get? b=some o)->Q none { s with heap:=h',toks:=tk }):
  bH (bG prog w) A (K7 (.ref a) "keys") Q E s:=by
 obtain⟨c,dct,dat,sl⟩:=o;simp only at hc hdat hd;subst hc hdat hd;obtain⟨hp,g,d,tk,os⟩:=s;have hT:∀i,(⟨hp,g,d,i,os⟩:aP).TypeIs (.ref a) "list":=λ_=>⟨_,hx,rfl⟩
 have f1:=sub_AttributeError;have f3:=lR.lookup;have f4:=lR.bind (.ref a);have f5:=am_list_getattr_none;unfold K7 getAttrBy? getAttrBy
 repeat (any_goals (first | assumption | exact hT _ | ((with_reducible show bH _ _ (call (Value.builtin "list.__getattribute__") _ _) _ _ _);refine lq lR (hT _) am_entry_list_getattribute (F.args_list_getattribute_2 _ _) (meets_getattribute_miss_list a xs k sl "keys" _ zbs (by decide +kernel) (by decide +kernel)) ⟨hx,hA,λh' i e hx'=>?_⟩) | wp_step))
 obtain⟨t',u',he⟩:=hx'.there;show bH _ _ (Ec _ _ _ _ _ _ _) _ _ _;unfold Ec
 repeat (any_goals (first | assumption | wp_step))
 exact h _ _ hx'.of.keeps
namespace F
theorem qI:entryFor table "dict.update.loop"= some Gq.«dict.update.loop»:=entryFor_of_tree (by kernel_rfl)
theorem ww:plainId "dict.update.loop"= true:=by decide +kernel
end F
section
variable {prog:bx} {w:bU} {A:dB} {R:Io->aP->Prop} {I:au} {fp wr:List au} {G:Array Hr->Array Hr->Prop} {n:Nat} {P:Nat->aD->Prop} {St:Nat->aP->Prop}
variable {K:Type} [DecidableEq K] {knd:Fd prog w K}
end
section
variable {prog:bx} {w:bU} {K:Type} [DecidableEq K] {knd:Fd prog w K} {A:dB} {E:aD->aP->Prop} {s:aP}
end
section
variable {prog:bx} {w:bU} {κ:Type} [DecidableEq κ] {knd:Fd prog w κ}
theorem IsTupleKey.get(x:IsTupleKey knd h k a)(e:∀o,h.get? a=some o->h'.get? a=some o):IsTupleKey knd h' k a:=by
 obtain⟨o,b,n,c,r⟩:=x;exact⟨o,b,n,e _ c,r⟩
end
def ud[DecidableEq K](xs more:List (K×au×aD)):List (K×au×aD):=more.foldl (λacc x=>lD acc x.1 x.2.1 x.2.2) xs
section
variable {K:Type} [DecidableEq K]
theorem zbu(xs more:List (K×au×aD))(x:K×au×aD):ud xs (more++[x])=lD (ud xs more) x.1 x.2.1 x.2.2:=by
 unfold ud;rw[mY];rfl
theorem zbk{x:K×au×aD}(h:x∈lD xs k a v):x.2.1=a\/∃y∈xs,y.2.1=x.2.1:=by
 unfold lD at h;split at h
 ·obtain⟨y,b,rfl⟩:=aQ.mp h;refine .inr ⟨y,b,?_⟩;unfold putAt;split<;>rfl
 ·rcases aZ.mp h with h | h
  ·exact .inr ⟨x,h,rfl⟩
  ·rw[bu.mp h];exact .inl rfl
theorem Um:∀{more xs:List (K×au×aD)} {x:K×au×aD},x∈ud xs more->(∃y∈more,y.2.1=x.2.1)\/∃y∈xs,y.2.1=x.2.1
 |[],xs,x,h=>.inr ⟨x,h,rfl⟩
 |m::more,xs,x,h=>by
  rcases Um (more:=more) (xs:=lD xs m.1 m.2.1 m.2.2) h with ⟨y,hy,e⟩ | ⟨y,hy,e⟩
  ·exact .inl ⟨y,bQ _ hy,e⟩
  ·rcases zbk hy with e2 | ⟨z,hz,e2⟩
   ·exact .inl ⟨m,bI,by rw[<-e2,e]⟩
   ·exact .inr ⟨z,hz,by rw[e2,e]⟩
theorem zcX(xs:List (K×au×aD))(k:K)(a:au)(v:aD):(lD xs k a v).length<=xs.length+1:=by
 unfold lD;split
 ·rw[aa];omega
 ·rw[aF];exact aq _
theorem Qj:∀(more xs:List (K×au×aD)),(ud xs more).length<=xs.length+more.length
 |[],xs=>aq _
 |m::more,xs=>by
  have h1:=Qj more (lD xs m.1 m.2.1 m.2.2);have h2:=zcX xs m.1 m.2.1 m.2.2;show (ud (lD xs m.1 m.2.1 m.2.2) more).length<=_;rw[bF];omega
end
def XQ{κ:Type}[DecidableEq κ](knd:Fd prog w κ)(h:dj)(n:Nat)(P:Nat->aD->Prop)(kvs:List (List κ×au×aD))(bad:List au):Prop :=
 (∀x∈kvs,x.2.1∉bad/\IsTupleKey knd h x.1 x.2.1)/\∀i v,i<n->P i v->∃T kv,kvs[i]?=some kv/\v=.ref T/\T∉bad/\Ed h T #[.ref kv.2.1,kv.2.2]
section
variable {prog:bx} {w:bU} {A:dB} {R:Io->aP->Prop} {I:au} {fp wr:List au} {G:Array Hr->Array Hr->Prop} {n:Nat} {P:Nat->aD->Prop} {St:Nat->aP->Prop}
variable {κ:Type} [DecidableEq κ] {knd:Fd prog w κ}
set_option maxHeartbeats 0 in
theorem Zq(hu:A.units+8<d7)(W:WalksS prog w A.in1 I fp wr G n P St)(D:au)(hDf:D∉fp)(kvs:List (List κ×au×aD))(hn:kvs.length=n)(hz:n<=aA):
  ∀k i s,n-i=k->i<=n->St i s->XQ knd s.heap n P kvs (D::wr) ->
   s.heap.DictOfH (gR knd) D (ud [] (kvs.take i)) ->
   (∀s',Moved (D::wr) G s s'->s'.heap.DictOfH (gR knd) D (ud [] kvs)->R (.ok (.ret .none)) s') ->
   jL (bG prog w) A (.builtin "dict.update.loop" ⟨[.ref D,.ref I,iB i,.none],[]⟩) R s:=by
 have S:D∉wr:=λh=>hDf (W.sub _ h);have a:∀b∈wr,b∈D::wr:=λb c=>bQ _ c;have d:∀{s s':aP} {i:Nat},XQ knd s.heap n P kvs (D::wr)->Moved wr G s s'->s.heap.DictOfH (gR knd) D (ud [] (kvs.take i))->s'.heap.DictOfH (gR knd) D (ud [] (kvs.take i)):=λf j E=>by
  obtain⟨o,es,ep,B,h2,h3,h4,h5,h6⟩:=E;refine⟨o,es,ep,j.heap D _ S B,h2,h3,h4,λx C=>?_,h6⟩;rcases Um C with ⟨y,U,e⟩ | ⟨y,U,_⟩
  ·have c:=(f.1 y (fO U)).1;exact IsTupleKey.get (h5 x C) λo q=>j.heap _ o (by rw[<-e];exact λz=>c (a _ z)) q
  ·exact nomatch U
 have g:∀{h V:dj},(∀b o,b∉D::wr->h.get? b=some o->V.get? b=some o)->XQ knd h n P kvs (D::wr)->XQ knd V n P kvs (D::wr):=λN f=>by
  refine⟨λx C=>⟨(f.1 x C).1,IsTupleKey.get (f.1 x C).2 λo q=>N _ o (f.1 x C).1 q⟩,λi v X hv=>?_⟩;obtain⟨T,O,Q,e2,Y,⟨o,B,r⟩⟩:=f.2 i v X hv;exact⟨T,O,Q,e2,Y,⟨o,N T o Y B,r⟩⟩
 intro k
 induction k with
 |zero=>
  intro i s N X l f E Z;have aa:i=n:=by omega
  subst aa;refine lY F.qI ?_;refine ak (W.done s _ _ l λs' j=>?_);refine ak (aG ?_);refine aG (Z s' (j.mono a) ?_);have:=d f j E;rwa[<-hn,bT]at this
 |succ k ih=>
  intro i s N X l f E Z;have p:i<n:=by omega
  refine lY F.qI ?_;refine ak (W.item i s _ _ p l λv s' ab H j=>?_);have t:=g (λb o c e=>j.heap b o (λz=>c (a b z)) e) f;obtain⟨T,O,Q,rfl,Y,⟨o,B,hc,m,hd⟩⟩:=t.2 i v p ab;have ac:=d f j E;have ad:=t.1 O (aL Q);show bH _ A.in1 (o8 [aU T] _ >>= _) _ _ s';refine ak (dg ?_);refine ak (wpAny_tryCatch ?_);refine ak (lB (show s'.TypeIs (.ref T) "tuple" from ⟨o,B,hc⟩) ?_);refine ak (GQ B hd ?_);refine aG ?_;refine dg ?_;have J:(ud [] (kvs.take i)).length<=aA:=by
   have:=Qj (kvs.take i) [];rw[bA,BL]at this;omega
  refine wpAny_dictSet_heap (show (gR knd).room _ from ?room) ad.2 ac (λV K u=>?_) J
  case room=>show Around.units _<d7;simp;omega
  have et:kvs.take (i+1)=kvs.take i++[O]:=by rw[bY,Q];rfl
  rw[<-zbu,<-et]at K;refine aG ⟨oA F.ww _,?_⟩;have hsz:(i+1)=((i+1:Nat):Int):=by omega
  refine ih (i+1) _ (by omega) p (W.frame _ s' _ _ H (lF _ _) λb c o e=>?_) (g (λb o c e=>?_) t) K λae L M=>?_
  ·rw[u.2 b (λh:b=D=>hDf (by rw[<-h];exact c))];exact e
  ·rw[u.2 b (λh:b=D=>c (by rw[h];exact bI))];exact e
  ·refine Z ae (Moved.trans W.gtrans ((j.mono a).then_heap (lF _ _) λb o c e=>?_) L) M;rw[u.2 b (λh:b=D=>c (by rw[h];exact bI))];exact e
end
section
variable {prog:bx} {w:bU} {κ:Type} [DecidableEq κ] {knd:Fd prog w κ} {A:dB} {E:aD->aP->Prop} {s:aP}
set_option maxHeartbeats 0 in
theorem Uv(hu:A.units+16<d7)(hh:A.handled=none)(ho:s.heap.get? l=some o)(hc:o.cls=.type "list")(hdat:o.data=.seq items k)(hd:o.dict=none)(hlen:kvs.length=items.size)(hz:items.size<=aA)(hK:∀x∈kvs,IsTupleKey knd s.heap x.1 x.2.1)(hP:∀(i:Nat) (v:aD),items[i]?=some v->∃T kv,kvs[i]?=some kv/\v=.ref T/\Ed s.heap T #[.ref kv.2.1,kv.2.2])(h:∀h' tk,h'.DictOfH (gR knd) s.heap.objs.size (ud [] kvs)->(∀b o,s.heap.get? b=some o->h'.get? b=some o)->Q (.ref s.heap.objs.size) { s with heap:=h',toks:=tk }):
  bH (bG prog w) A (call (.type "dict") [.ref l]) Q E s:=by
 refine GR (Q₁:=λg s₁=>g=.ref s.heap.objs.size/\s₁={ s with heap:=s.heap.push { cls:=.type "dict",data:=.dict #[] } }) F.kt_called_dict (F.kt_typeCall_dict_1 _) F.entry_dict_init (kt_code_dict_new _ ⟨rfl,rfl⟩) ?_;rintro g s₁ ⟨rfl,rfl⟩;have c:(s.heap.push { cls:=.type "dict",data:=.dict #[] }).DictOf knd s.heap.objs.size []:=Gh s.heap;have d:(s.heap.push { cls:=.type "dict",data:=.dict #[] }).DictOfH (gR knd) s.heap.objs.size []:=MN s.heap;have f:(s.heap.push { cls:=.type "dict",data:=.dict #[] }).get? l=some o:=az _ ho;refine⟨c.typeIs,F.args_dict_init_2 _ _,?_⟩;refine ak ?_;refine ak (Ca c.typeIs ?_);refine aG ?_;refine ak (lB (show Shared.TypeIs { s with heap:=s.heap.push { cls:=.type "dict",data:=.dict #[] } } (.ref l) "list" from ⟨o,f,hc⟩) ?_);refine ak ?_;refine Q3 f hc hdat hd ?_ λu tk1 y=>?_
 ·simp[hh]
 refine ak (Bu ?_);have j:=y _ _ f;have m:u.IsList l items:=⟨o,j,hc,k,hdat⟩
 refine ak (mQ m ?_);refine aG ⟨oA F.ww _,?_⟩;have B:=aM ho;have C:A.in1.in1.handled=none:=by simp[hh]
 have n:=bj (aM j);have D:=y _ _ (bz _ rfl);have G:=bj (aM D);have H:s.heap.objs.size∉[u.objs.size,l]:=by
  simp only[aW,eF,or_false,not_or];exact⟨G,eU B⟩
 have a:∀b o,s.heap.get? b=some o->u.get? b=some o:=λb o e=>y _ _ (az _ e);refine Zq (knd:=knd) ?hu0 ((GP C u.objs.size l n items).toS) s.heap.objs.size H kvs hlen hz (items.size-0) 0 _ (by omega) (bw _)
  ⟨⟨_,bz _ rfl,rfl,rfl⟩,(m.push _)⟩ ?hP0 ?hS0 ?hR
 case hP0=>
  refine⟨λx I=>?_,λi v hi R=>?_⟩
  ·have O:=hK x I;refine⟨?_,IsTupleKey.get O λo q=>az _ (a _ _ q)⟩;obtain⟨P,_,_,p,_⟩:=O;simp only[aW,eF,or_false,not_or];exact⟨bj (aM p),bj (aM (a _ _ p))⟩
  ·obtain⟨T,kv,S,U,⟨P,p,r⟩⟩:=hP i v R;have t:=a _ _ p;refine⟨T,kv,S,U,?_,⟨P,az _ t,r⟩⟩;simp only[aW,eF,or_false,not_or];exact⟨bj (aM p),bj (aM t)⟩
 case hS0=>
  obtain⟨V,W,X,J,Y,Z,h4,_,h6⟩:=d;exact⟨V,W,X,az _ (y _ _ J),Y,Z,h4,(λx I=>nomatch I),h6⟩
 case hu0=>simp;omega
 case hR=>
  intro s' z K;obtain⟨h',g',d',L,os'⟩:=s';have eg:=z.gens;have ed:=z.drawn;have eo:=z.os;subst eg;subst ed;subst eo;refine⟨rfl,h h' L K λb q e=>?_⟩;have M:=bj (aM e);have N:=bj (aM (a _ _ e));exact z.heap b q (by simp only[aW,eF,or_false,not_or];exact⟨M,N⟩) (az _ (a _ _ e))
end
end PySem
namespace HT
open PySem PySem.Spec PyProof.Rows
section
variable {prog:bx} {w:bU} {A:dB} {E:aD->aP->Prop} {s:aP}
theorem zh0{ws:List aD}(ht:FP s.heap t ([]:List aD).toArray)(hb:FP s.heap b ws.toArray)(h:Q (.ref b) s):bH (bG prog w) A (gW .Add (.ref t) (.ref b)) Q E s:=by
 obtain⟨⟨c1,d,x1,e⟩,a,f,g,i⟩:=id ht;obtain⟨⟨c2,j,x2,k⟩,c,l,m,n⟩:=id hb;subst f i l n;exact Eo ⟨_,a,rfl⟩ ⟨_,c,rfl⟩ rZ Du PySem.F.slot_tuple_add PySem.F.entry_tuple_add (PySem.F.args_tuple_add_2 _ _) (tuple_addW0 t b #[] ws.toArray g m d j e k rfl) ⟨a,c,h⟩
theorem zfj{lo hi:Option Int}(ht:FP s.heap t items)(hs:s.heap.IsSliceOf sl vl vu .none)(pl:Bo vl lo)(pu:Bo vu hi)(hw:sIx items.size 0 lo=0/\sIx items.size items.size hi=items.size)(h:Q (.ref t) s):bH (bG prog w) A (ph (.ref t) (.ref sl)) Q E s:=by
 obtain⟨f,a,b,hds⟩:=id hs;have g:s.TypeIs (.ref sl) "slice":=⟨f,a,b⟩
 unfold ph
 try with_reducible refine dg ?_
 first | refine ak (aG ?_) | skip
 refine ak (Ep ht.typeIs (by decide) ?_);refine ak (ie ht.typeIs di
  (ig di ht.typeIs Dk ?_ (Dz _ _)))
 show bH _ _ (pO (.ref t) >>= _) _ _ s;refine ak (Hz ht ?_);refine ak (lB g ?_);refine ak (Ye hs pl pu ?_);have c:(((sIx items.size 0 lo:Nat):Int) == 0 && (1:Int) == 1 && (sIx items.size items.size hi-sIx items.size 0 lo) == items.size)=true:=by
  rw[hw.1,hw.2];simp
 show bH _ _ (if (((sIx items.size 0 lo:Nat):Int) == 0 && 1 == 1 && (sIx items.size items.size hi-sIx items.size 0 lo) == items.size)=true then _ else _) _ _ s;rw[if_pos c];have d:∀{R:Bool->aP->Prop} {e:aD->aP->Prop},R true s->bH (bG prog w) A.in1 (Hs (.ref t)) R e s:=λ{R e} q=>by
  exact ak (lB ht.typeIs (aG (by exact q)))
 first
  |exact ak (d (by exact ak (Bu (aG ⟨_,rfl,aG h⟩))))
  |exact ak (ak (d (by exact ak (Bu (ak (aG (aG ⟨_,rfl,aG h⟩)))))))
  |exact ak (d (by exact ak (Bu (ak (aG (aG ⟨_,rfl,aG h⟩))))))
end
end HT
namespace L2
open PySem PySem.Spec PyProof.Rows
section
variable {X:Cx}
def zjc:R2:=λx y H Q=>Ex4 λa b xs ys=>x=.ref a/\y=.ref b/\H a=some (.tup xs)/\H b=some (.tup ys)/\xs.length+ys.length<=aA/\∀p H',Same H H'->H' p=some (.tup (xs++ys))->Q (.ref p) H'
theorem zhr:OpR X (gW .Add) zjc:=by
 intro c s Z H x y v u Q I k l h;obtain⟨a,b,i,m,rfl,rfl,d,f,n,q⟩:=h;cases k
 cases l;by_cases j:i=[]
 ·subst j;obtain⟨g,o,r,_⟩:=I.tuple (SqT.of d);obtain⟨its2,r2,t,_⟩:=I.tuple (SqT.of f);obtain rfl:g=[]:=o.nil_iff.mpr rfl;exact HT.zh0 r t ⟨.ref b,H,I,rfl,q b H (Same.refl _) f⟩
 ·refine zhl c s Z H (.ref a) (.ref b) (.ref a) (.ref b) Q I rfl rfl ⟨a,b,i,m,rfl,rfl,SqT.of d,SqT.of f,j,n,λe=>q a H (Same.refl _) (by rw[e,dJ];exact d),λ_ p w=>q p _ (zp w) zj⟩
theorem zhO(K:aK)(e:X.K=K:=by rfl):vZ X (.type "tuple") (λxs H Q=>∃p ys,xs=[.ref p]/\((SqL K H p ys/\∀l,H l=none->Q (.ref l) (upd H l (.tup ys)))\/(SqT K H p ys/\Q (.ref p) H))):=by subst e;exact Z7
def zjN:V->Option Int->Option Int->Hp->VK->Prop:=λx lo hi H Q=>Ex2 λa xs=>x=.ref a/\H a=some (.tup xs)/\∀p H',Same H H'->H' p=some (.tup (qi xs lo hi))->Q (.ref p) H'
theorem zeN:SlR X zjN:=by
 intro c s Z H x v t u i j w Q I k l m n h;obtain⟨a,b,rfl,f,q⟩:=h;by_cases e:HT.sIx b.length 0 i=0/\HT.sIx b.length b.length j=b.length
 ·cases k;obtain⟨g,r,o,hz⟩:=I.tuple (SqT.of f)
  have d:g.toArray.size=b.length:=by rw[aJ];exact r.length.symm
  refine⟨"tuple",_,di.lookup,o.typeIs,?_⟩;refine HT.zfj o l m n (by rw[d];exact e) ⟨.ref a,H,I,rfl,q a H (Same.refl _) ?_⟩;unfold qi;rw[e.1,e.2,il,cZ,bT];exact f
 ·exact ziI c s Z H (.ref a) v t u i j w Q I k l m n ⟨a,b,rfl,SqT.of f,e,λp y=>q p _ (zp y) zj⟩
end
abbrev NK:=List Key×List Key
section
variable {P:bx} {w:bU}
variable {A:dB} {E:aD->aP->Prop} {s:aP}
end
section
variable {P:bx} {w:bU} {H:Hp} {h:dj} {a b:au} {k:NK}
end
section
variable {X:Cx} {pins:List (au×kZ)} {Z:St} {H:Hp} {s:aP} {a b:au} {v:V} {u r:aD} {A:dB} {E:aD->aP->Prop} {kvs:List (NK×V)} {k:NK}
end
theorem vG(hr:Room k A):A.units+2<d7:=by have:=hr.units;omega
section
variable {X:Cx} {o i value:dN} {pos pos':nj} {td ty tv:TE}
end
def W4(P:bx)(w:bU)(a:au)(xs:List (List Key×au×aD))(ep:Nat):dj->Prop:=λh=>∃o es,h.get? a=some o/\o.ExactDict/\o.data=.dict es ep/\es.toList=xs.map (Lq (gR (wU P w)))/\(xs.map (·.1)).Nodup
def DE(P:bx)(w:bU)(H:Hp)(a:au)(kvs:List (List Key×V)):Prop:=∃xs ep,H a=some (.ext (W4 P w a xs ep))/\KT H kvs xs/\kvs.length<=aA/\(a == gM)=false
theorem DE.same(h:DE P w H a kvs)(s:Same H H'):DE P w H' a kvs:=let ⟨c,ep,h1,h2,h3⟩:=h;⟨c,ep,s _ _ h1,h2.keeps λb c e=>s _ _ e,h3⟩
theorem DE.stay(h:DE P w H a kvs)(e:H' a=H a)(s:∀b xs,H b=some (.tup xs)->H' b=some (.tup xs)):DE P w H' a kvs:=let ⟨xs,ep,h1,h2,h3⟩:=h;⟨xs,ep,by rw[e];exact h1,h2.keeps s,h3⟩
theorem DE.ne(h:DE P w H a kvs)(e:H b=some (.tup xs)):b≠a:=let ⟨_,_,h1,_⟩:=h;qp e h1 (λz=>nomatch z)
section
variable {P:bx} {w:bU} {H:Hp} {h:dj} {a b:au} {k:List Key}
theorem zeG(ok:HOk P w H h)(d:DE P w H a kvs):∃xs,KT H kvs xs/\h.DictOfH (gR (wU P w)) a xs:=by
 obtain⟨xs,c,e,r,_,_⟩:=d;obtain⟨⟨o,g,i,j,k,n,s⟩,_⟩:=(show ObjOk P w H h a (.ext (W4 P w a xs c)) from ok a _ e)
 refine⟨xs,r,o,g,c,i,j,k,n,?_,s⟩;have all:∀{l:List (List Key×V)} {m:List (List Key×au×aD)},KT H l m->∀x∈m,(gR (wU P w)).is h x.1 x.2.1:=λ{l m} q=>by
  induction q with
  |nil=>intro x b;exact nomatch b
  |@cons p q ps qs f t u=>
   intro x b;rcases aW.mp b with e | b
   ·subst e;exact Q4 ok (by rw[<-f.1];exact f.2.1)
   ·exact u x b
 exact all r
theorem zb5(p:W4 P w a xs ep h'):ObjOk P w H' h' a (.ext (W4 P w a xs ep)):=
 ⟨p,let ⟨o,_,e,_⟩:=p;⟨o,e⟩,λh1 h2 ⟨o,b,e,c⟩ k=>⟨o,b,k _ e,c⟩⟩
end
section
variable {X:Cx} {pins:List (au×kZ)} {Z:St} {H:Hp} {s:aP} {a b:au} {v:V} {u r:aD} {A:dB} {E:aD->aP->Prop} {kvs:List (List Key×V)} {k:List Key}
theorem ze8(hu:A.units+2<d7)(I:Inv X pins Z H s)(d:DE X.prog X.w H a kvs)(t:H b=some (.tup (k.map kV)))(l:xn kvs k=some v)(h:∀w' s',Inv X pins Z H s'->RelV v w'->Q w' s'):bH (bG X.prog X.w) A (ph (.ref a) (.ref b)) Q E s:=by
 obtain⟨xs,c,g⟩:=zeG I.hok d;obtain⟨w',i,e⟩:=RelO.some_of (by rw[<-l];exact c.val k);obtain⟨p,j,f⟩:=aY.mp i;refine wpAny_getItem_heap (pY (by omega)) (Q4 I.hok t) g j ?_;rw[f];exact h w' _ (I.tok _) e
theorem zhH(hu:A.units+2<d7)(I:Inv X pins Z H s)(d:DE X.prog X.w H a kvs)(t:H b=some (.tup (k.map kV)))(h:∀s',Inv X pins Z H s'->Q (.bool (!(xn kvs k).isSome)) s'):bH (bG X.prog X.w) A (cO .NotIn (.ref b) (.ref a)) Q E s:=by
 obtain⟨xs,c,e⟩:=zeG I.hok d;obtain⟨_,_,_,_,_,f⟩:=d;refine wpAny_notIn_heap (pY (by omega)) (Q4 I.hok t) f e ?_;have q:=(c.val k).isSome_eq;rw[Ew]at q;rw[<-q];exact h _ (I.tok _)
theorem zeZ(hu:A.units+2<d7)(I:Inv X pins Z H s)(d:DE X.prog X.w H a kvs)(t:H b=some (.tup (k.map kV)))(hl:kvs.length<aA)(rv:RelV v r)(h:∀s' H',DE X.prog X.w H' a (putK kvs k v)->(∀b,b≠a->H' b=H b)->Inv X pins Z H' s'->Q () s'):bH (bG X.prog X.w) A (Mi (.ref a) (.ref b) r) Q E s:=by
 obtain⟨xs,f,n⟩:=zeG I.hok d;have o:=λb i=>d.ne (b:=b) (xs:=i);obtain⟨i,ep0,e,_,z,p⟩:=d;have hz:xs.length<=aA:=by rw[<-Paired.length f];exact z
 refine wpAny_setItem_heap (pY (by omega)) (Q4 I.hok t) n λh' g u=>?_;obtain⟨q,x,j,l,y,B,C,_,D⟩:=g;have F:∀c,c≠a->upd H a (.ext (W4 X.prog X.w a (lD xs k b r) j)) c=H c:=λc G=>zy G;refine h _ _ ⟨lD xs k b r,j,zj,(f.put k t rv).keeps λc J m=>by rw[zy (o c J m)];exact m,by have:=Xr kvs k v;omega,p⟩ F (zhB I (by rw[e];exact iC) u ⟨q,l⟩ (zb5 ⟨q,x,l,y,B,C,D⟩))
theorem zf2(I:Inv X pins Z H s)(d:DE X.prog X.w H a kvs):s.TypeIs (.ref a) "dict":=let ⟨_,_,dd⟩:=zeG I.hok d;dd.typeIs
end
inductive EgI (P:bx) (w:bU) (x y:V) (H:Hp) (Q:VK):Prop
 |mk (a:au) (kvs:List (List Key×V)) (k:List Key) (b:au) (v:V) (h1:x=.ref a) (h2:DE P w H a kvs) (h3:y=.ref b) (h4:H b=some (.tup (k.map kV))) (h5:xn kvs k=some v) (q:Q v H):EgI P w x y H Q
def zh8(P:bx)(w:bU)(td ty:TE):TE:=λZ H Q=>td Z H λx H1=>ty Z H1 λy H2=>EgI P w x y H2 Q
def zhU(P:bx)(w:bU)(ty td:TE):TE:=λZ H Q=>ty Z H λy H1=>td Z H1 λx H2=>Ex4 λa kvs k b=>x=.ref a/\DE P w H2 a kvs/\y=.ref b/\H2 b=some (.tup (k.map kV))/\Q (.bl (!(xn kvs k).isSome)) H2
def zji(P:bx)(w:bU)(td ty tv:TE):TS:=λD Z H=>tv Z H λv H1=>td Z H1 λx H2=>ty Z H2 λy H3=>Ex4 λa kvs k b=>x=.ref a/\DE P w H3 a kvs/\y=.ref b/\H3 b=some (.tup (k.map kV))/\kvs.length<aA/\∀H4,DE P w H4 a (putK kvs k v)->(∀c,c≠a->H4 c=H3 c)->D.nx Z H4
def zju(P:bx)(w:bU):TE:=λ_ H Q=>∀p H',H p=none->DE P w H' p []->(∀c,c≠p->H' c=H c)->Q (.ref p) H'
section
variable {X:Cx} {o i value:dN} {pos pos':nj} {td ty tv:TE}
theorem zhi(hu:X.A.units+2<d7)(ho:PE X o td)(hi:PE X i ty)(hs:ziR i):PE X (.Subscript o i pos) (zh8 X.prog X.w td ty):=by
 intro c s Z H Q I h;refine zhC PySem.F.slot_dict_getitem.lookup hs (thn (ho c s Z H _ I h) λu g ⟨x,j,m,n,p⟩=>thn (hi c g Z j _ m p) λq s2 ⟨y,r,f,z,a,kvs,k,b,v,B,d,C,t,l,D⟩=>?_);subst B C;obtain rfl:u=aU a:=n;obtain rfl:q=aU b:=z;exact⟨zf2 f d,ze8 hu f d t l λw' s3 G e=>⟨v,r,G,e,D⟩⟩
theorem zfc(hu:X.A.units+2<d7)(hi:PE X i ty)(ho:PE X o td):PC X .NotIn i o (zhU X.prog X.w ty td):=by
 intro c s Z H Q I h;refine thn (hi c s Z H _ I h) λe f ⟨y,g,j,l,m⟩=>thn (ho c f Z g _ j m) λu s2 ⟨x,n,p,q,a,kvs,k,b,r,d,v,t,z⟩=>?_;subst r v;obtain rfl:u=aU a:=q;obtain rfl:e=aU b:=l;exact zhH hu p d t λs3 C=>⟨.bl _,n,C,rfl,z⟩
theorem zbE(hu:X.A.units+2<d7)(ho:PE X o td)(hi:PE X i ty)(hv:PE X value tv)(hs:mC value (some (.Subscript o i pos')) pos.line X.env=pure false):
  PS X (.Assign [.Subscript o i pos'] value pos) (zji X.prog X.w td ty tv):=by
 intro c s Z H D I h;refine wpAny_Assign_Subscript (thn (hv c s Z H _ I h) λr f ⟨v,g,j,l,m⟩=>thn (ho c f Z g _ j m) λu n ⟨x,p,q,z,B⟩=>thn (hi c n Z p _ q B) λC s3 ⟨y,H3,E,F,a,kvs,k,b,G,d,J,t,K,L⟩=>?_) hs;subst G J;obtain rfl:u=aU a:=z;obtain rfl:C=aU b:=F;exact zeZ hu E d t K l λs4 e N O P=>⟨Z,e,P,L e N O⟩
theorem zbW:PE X (.Dict [] [] pos) (zju X.prog X.w):=λpins s Z H Q I h=>by
 have a:W4 X.prog X.w s.heap.objs.size [] 0 (s.heap.push { cls:=.type "dict",data:=.dict #[] }):=⟨_,#[],bz _ rfl,⟨rfl,rfl,rfl⟩,rfl,rfl,Ht⟩
 have b:=I.hok.fresh (aq s.heap.objs.size);exact Fq ⟨.ref s.heap.objs.size,_,I.laid (λ_ _ q=>az _ q) (aq _) (zb5 a),rfl,h _ _ b ⟨[],0,zj,.nil,bw _,beq_eq_false_iff_ne.mpr (cF (bj I.big))⟩ λc d=>zy d⟩
end
theorem uG{pos:nj}(P:bx)(w:bU)(hu:X.A.units+2<d7)(ho:PE X o td)(hi:PE X i ty)(hs:ziR i)(e1:X.prog=P:=by rfl)(e2:X.w=w:=by rfl):PE X (.Subscript o i pos) (zh8 P w td ty):=by subst e1 e2;exact zhi hu ho hi hs
section
variable {X:Cx}
abbrev zgN(K:aK)(H:Hp):List au->List (List Key×V)->Prop:=Paired λt kv=>∃b,SqT K H t [.ref b,kv.2]/\H b=some (.tup (kv.1.map kV))
def Z8(kvs more:List (List Key×V)):List (List Key×V):=more.foldl (λacc kv=>putK acc kv.1 kv.2) kvs
theorem KT.merge{H:Hp}:∀{more:List (List Key×V)} {rs:List (List Key×au×aD)} {kvs:List (List Key×V)} {xs:List (List Key×au×aD)},KT H more rs->KT H kvs xs->KT H (Z8 kvs more) (ud xs rs)
 |_,_,_,_,.nil,r=>r
 |_,_,_,_,.cons (a:=p) (b:=q) h t,r=>by
  show KT H (Z8 (putK _ p.1 p.2) _) (ud (lD _ q.1 q.2.1 q.2.2) _);rw[<-h.1];exact KT.merge t (r.put p.1 h.2.1 h.2.2)
theorem Qt{pins:List (au×kZ)}{s:aP}{Z:St}{H:Hp}(I:Inv X pins Z H s):∀{ts:List au} {kvs:List (List Key×V)} {its:List aD},zgN X.K H ts kvs->Vals (ts.map V.ref) its ->
  ∃rs:List (List Key×au×aD),KT H kvs rs/\rs.length=its.length/\∀(i:Nat) (v:aD),its[i]?=some v->∃(T:au) (kv:List Key×au×aD),rs[i]?=some kv/\v=.ref T/\FP s.heap T #[.ref kv.2.1,kv.2.2]
 |_,_,_,.nil,r=>by
  rw[fG]at r;cases r
  exact⟨[],.nil,rfl,λi v e=>by cases e⟩
 |_,_,_,.cons (a:=t) (b:=kv) ⟨b,h,hb⟩ q,r=>by
  rw[bC]at r;cases r with
  |cons r1 r2=>
   obtain⟨rs,k1,k2,k3⟩:=Qt I q r2;obtain⟨its2,f,g,_⟩:=I.tuple h;obtain⟨u,d,e,j,c⟩:=vals2 f;subst e;cases r1
   obtain rfl:u=.ref b:=j;refine⟨(kv.1,b,d)::rs,.cons ⟨rfl,hb,c⟩ k1,by simp[k2],λi v e=>?_⟩;cases i with
   |zero=>cases e;exact⟨t,(kv.1,b,d),rfl,rfl,g⟩
   |succ i=>exact k3 i v e
def zgU(P:bx)(w:bU)(K:aK):List V->Hp->VK->Prop:=λxs H Q=>Ex3 λa ts kvs=>xs=[.ref a]/\SqL K H a (ts.map V.ref)/\zgN K H ts kvs/\∀p H',H p=none->DE P w H' p (Z8 [] kvs)->(∀c,c≠p->H' c=H c)->Q (.ref p) H'
theorem Wv:∀(more kvs:List (List Key×V)),(Z8 kvs more).length<=kvs.length+more.length
 |[],kvs=>aq _
 |m::more,kvs=>by
  have h1:=Wv more (putK kvs m.1 m.2);have h2:=Xr kvs m.1 m.2;show (Z8 (putK kvs m.1 m.2) more).length<=_;rw[bF];omega
theorem zdh(hc:X.calm=true)(hu:X.A.units+64<d7):vZ X (.type "dict") (zgU X.prog X.w X.K):=by
 intro pins s Z H xs us Q I r h;obtain⟨a,ts,f,rfl,j,G,q⟩:=h;obtain⟨u,rfl,J⟩:=vals1 r;cases J
 obtain⟨its,C,⟨o,n,e,c,d,y⟩,D⟩:=I.list j;obtain⟨rs,z,L,M⟩:=Qt I G C;have N:=C.length;rw[N]at D;have hk:=Paired.length z;have O:(Z8 [] f).length<=aA:=by
  have P:=Wv f [];rw[BL]at P;omega
 have all:∀{l:List (List Key×V)} {m:List (List Key×au×aD)},KT H l m->∀x∈m,IsTupleKey (wU X.prog X.w) s.heap x.1 x.2.1:=λ{l m} q=>by
  induction q with
  |nil=>intro x g;exact nomatch g
  |@cons p q ps qs j t R=>
   intro x g;rcases aW.mp g with e | g
   ·subst e;exact Q4 I.hok (by rw[<-j.1];exact j.2.1)
   ·exact R x g
 refine Uv (by omega) (I.ok.hd hc) e c y d (by simpa using L) (by simpa using D) (all z) (λi v S=>M i v (by simpa using S)) λh' tk T k=>?_;obtain⟨U,W,Y,B,h2,h3,h4,_,h5⟩:=T;have E:=I.hok.fresh (aq s.heap.objs.size);refine⟨.ref s.heap.objs.size,_,I.laid k (aq _) (zb5 ⟨U,W,B,h2,h3,h4,h5⟩),rfl,q _ _ E ⟨_,Y,zj,((z.merge .nil).keeps λc zs F=>by rw[zy (zz F E)];exact F),O,beq_eq_false_iff_ne.mpr (cF (bj I.big))⟩ λc hc=>zy hc⟩
theorem zhy(P:bx)(w:bU)(K:aK)(hc:X.calm=true)(hu:X.A.units+64<d7)(e1:X.prog=P:=by rfl)(e2:X.w=w:=by rfl)(e:X.K=K:=by rfl):vZ X (.type "dict") (zgU P w K):=by subst e e1 e2;exact zdh hc hu
end
def zfE(P:bx)(w:bU)(a:au)(xs:List (List Key×au×aD))(ep:Nat):It :=
 ⟨λi H=>H a=some (.ext (W4 P w a xs ep))/\i<xs.length,λi H v H'=>H'=H/\∃x,xs[i]?=some x/\v=.ref x.2.1,λi H=>H a=some (.ext (W4 P w a xs ep))/\xs.length=i⟩
theorem zbd(p:W4 P w a xs ep h):HT.RawD h a (xs.map λx=>aU x.2.1) ep:=by
 obtain⟨o,b,c,d,e,f,_⟩:=p;refine⟨o,b,c,d,e,?_⟩;rw[f,cC];apply eO;intro x _;rfl
theorem zfy{P:bx}{w:bU}{K:aK}{tg:dN}(a it:au)(xs:List (List Key×au×aD))(ep:Nat):Turn P w K tg (zfE P w a xs ep) [it] it (λi h=>h.IsKeyIter it a i xs.length ep) where
 mem:=by simp
 obj:=λi h g b j=>by
  have e:b=it:=by simpa using j
  subst e;obtain⟨o,e,c,d⟩:=g;exact⟨o,e,λv z=>by rw[d]at z;cases z⟩
 keep:=λi h M g k=>by
  obtain⟨o,e,r⟩:=g;exact⟨o,k it (by simp) o e,r⟩
 item:=by
  intro X p q t N i m s Z H E I n g u;subst p q t;obtain⟨y,A⟩:=u;have B:=zbd (I.hok a _ y).1;have O:=aj A;obtain⟨C,D,Q,F,G,J⟩:=n it (by simp);have f:(xs.map λx=>aU x.2.1).length=xs.length:=aa _;refine HT.zej (by rw[f];exact g) B (by rw[ao,O];rfl) λM l L=>?_;rw[f]at l;have R:=I.turned (t':=s.toks) (λb o j e=>(L.2 b j).trans e) C D F G J;obtain⟨o,e,c,d⟩:=id l;exact⟨_,rfl,zdd e c d (by decide) ⟨.ref xs[i].2.1,H,R,rfl,⟨rfl,xs[i],O,rfl⟩,l,λb j=>(n b j).1⟩⟩
 done:=by
  intro X p q t N i m s Z H E I n g u;subst p q t;obtain⟨y,A⟩:=u;subst A;have B:=zbd (I.hok a _ y).1;obtain⟨C,D,Q,F,G,J⟩:=n it (by simp);have f:(xs.map λx=>aU x.2.1).length=xs.length:=aa _;refine HT.zg0 (I.ok.hd N) (by rw[f];exact g) B λM L=>⟨rfl,I.turned (λb o j e=>L b o j e) C D F G J⟩
 self:=λ_ _ _ _ _ g h=>CN g h
def zjh(P:bx)(w:bU)(tl:TE):TI:=λZ H R=>tl Z H λx H1=>Ex3 λa xs ep=>x=.ref a/\H1 a=some (.ext (W4 P w a xs ep))/\(a == gM)=false/\R (zfE P w a xs ep) H1
theorem zce{tg:dN}(P:bx)(w:bU)(hl:PE X l tl)(e1:X.prog=P:=by rfl)(e2:X.w=w:=by rfl):PI X tg l (zjh P w tl):=by
 subst e1 e2;intro c s Z H R I h;refine thn (hl c s Z H _ I h) λv g ⟨x,j,f,k,m⟩=>?_;obtain⟨a,i,n,e,p,r,q⟩:=m;subst e;obtain rfl:v=.ref a:=k;have t:=zbd (f.hok a _ p).1;have d:(i.map λx=>aU x.2.1).length=i.length:=aa _;refine HT.zeH r t ?_;rw[d];refine⟨g.heap.objs.size,[g.heap.objs.size],_,_,j,rfl,f.kept λb o e=>az _ e,zfy a _ i n,⟨_,bz _ rfl,rfl,rfl⟩,λb u=>?_,q⟩;have e:b=g.heap.objs.size:=by simpa using u
 subst e;exact f.fpOk (aq _) (f.hok.fresh (aq _))
theorem kt_key{H:Hp}:∀{kvs:List (List Key×V)} {xs:List (List Key×au×aD)},KT H kvs xs->∀{i:Nat} {x:List Key×au×aD},xs[i]?=some x->∃kv,kvs[i]?=some kv/\H x.2.1=some (.tup (kv.1.map kV))
 |_,_,.nil,i,x,e=>by cases e
 |_,_,.cons (a:=p) (b:=q) h t,i,x,e=>by
  cases i with
  |zero=>cases e;exact⟨p,rfl,h.2.1⟩
  |succ i=>exact kt_key t e
theorem zgG{g:TG}{tb:TS}{D:Ends}(d:DE P w H a kvs)(Pv:Nat->St->Hp->Prop)(h0:Pv 0 Z H)(hl:∀i σ' H',i<=kvs.length->Pv i σ' H'->H' a=H a/\∀c zs,H c=some (.tup zs)->H' c=some (.tup zs))(hs:∀i kv p σ' H',kvs[i]?=some kv->H' p=some (.tup (kv.1.map kV))->Pv i σ' H'->g (.ref p) σ' H' fun σ2 H2=>tb { D with nx:=Pv (i+1),ct:=Pv (i+1),bk:=D.nx } σ2 H2)(hd:∀σ' H',Pv kvs.length σ' H'->D.nx σ' H'):
  Ex3 λa' xs ep=>V.ref a=.ref a'/\H a'=some (.ext (W4 P w a' xs ep))/\(a' == gM)=false/\∃W:Nat->Nat->St->Hp->Prop,(∃m,W 0 m Z H)/\∀i m Z H,W i m Z H ->
   ((zfE P w a' xs ep).stop i H/\D.nx Z H)\/((zfE P w a' xs ep).go i H/\∃N:St->Hp->Prop,(∀σ' H',N σ' H'->∃m',m'<m/\W (i+1) m' σ' H')/\∀x H',(zfE P w a' xs ep).yld i H x H'->g x Z H' fun σ2 H2=>tb { D with nx:=N,ct:=N,bk:=D.nx } σ2 H2):=by
 obtain⟨xs,ep,f,k,l,h⟩:=d;have b:=Paired.length k;refine⟨a,xs,ep,rfl,f,h,λi m Z H=>m=kvs.length-i/\i<=kvs.length/\Pv i Z H,⟨kvs.length,by simp,bw _,h0⟩,?_⟩;rintro i m σ' H' ⟨rfl,o,p⟩;obtain⟨n,q⟩:=hl i σ' H' o p;by_cases j:i<kvs.length
 ·refine .inr ⟨⟨by rw[n];exact f,by omega⟩,Pv (i+1),fun σ' H' r=>⟨kvs.length-(i+1),by omega,rfl,j,r⟩,λx H2 y=>?_⟩;obtain⟨e,z,l,rfl⟩:=y;subst e;obtain⟨kv,s,t⟩:=kt_key k l;exact hs i kv _ σ' _ s (q _ _ t) p
 ·have e:i=kvs.length:=by omega
  subst e;exact .inl ⟨⟨by rw[n];exact f,b.symm⟩,hd σ' H' p⟩
theorem zeS(d:DE P w H a kvs)(Pv:Nat->List V->Hp->Prop)(h0:Pv 0 [] H)(hl:∀i ys H',i<=kvs.length->Pv i ys H'->H' a=H a/\∀c zs,H c=some (.tup zs)->H' c=some (.tup zs))(hs:∀i kv p ys H',kvs[i]?=some kv->H' p=some (.tup (kv.1.map kV))->Pv i ys H'->ys.length<aA/\tt (some (.ref p)::tU js Z) H' λb H2=>if b=true then te (some (.ref p)::tU js Z) H2 λv H3=>Pv (i+1) (ys++[v]) H3 else Pv (i+1) ys H2)(hd:∀ys H',Pv kvs.length ys H'->∀D,H' D=none->Q (.ref D) (upd H' D (.lst ys))):
  Ex3 λa' xs ep=>V.ref a=.ref a'/\H a'=some (.ext (W4 P w a' xs ep))/\(a' == gM)=false/\CompLoop (zfE P w a' xs ep) js tt te Z Q H:=by
 obtain⟨xs,ep,h,n,f,j⟩:=d;have g:=Paired.length n;refine⟨a,xs,ep,rfl,h,j,λi m ys H=>m=kvs.length-i/\i<=kvs.length/\Pv i ys H,⟨kvs.length,by simp,bw _,h0⟩,?_⟩;rintro i m ys H' ⟨rfl,r,p⟩;obtain⟨o,s⟩:=hl i ys H' r p;by_cases k:i<kvs.length
 ·have q:xs[i]?=some (xs[i]'(by omega)):=aj (by omega);obtain⟨kv,t,u⟩:=kt_key n q;obtain⟨f,l⟩:=hs i kv _ ys H' t (s _ _ u) p;refine .inr ⟨⟨by rw[o];exact h,by omega⟩,f,Pv (i+1),λys' H' A=>⟨kvs.length-(i+1),by omega,rfl,k,A⟩,λx H2 y=>?_⟩;obtain⟨e,z,f,rfl⟩:=y;subst e;rw[q]at f;cases f
  exact l
 ·have e:i=kvs.length:=by omega
  subst e;exact .inl ⟨⟨by rw[o];exact h,g.symm⟩,hd ys H' p⟩
open PySem PySem.Spec PyProof.Rows PySem.W
section
variable {X:Cx}
def zhK(P:bx)(w:bU):List V->Hp->VK->Prop:=λxs H Q=>Ex3 λ(a:au) (kvs:List (List Key×V)) (ls:ZA)=>xs=[.ref a]/\DE P w H a kvs/\kvs.map (·.1)=ls.map kI/\ls.length<=60/\(∀l∈ls,l≠[]) /\
 ∀(p:au) (zs':ZB),H p=none->(zs'.map (·.2)).Perm ls->zs'.Pairwise (λx y=>HT.lexLt x.2 y.2=true)->(∀z∈zs',H z.1=some (.tup (z.2.map V.int)))->Q (.ref p) (upd H p (.lst (zs'.map λz=>V.ref z.1)))
theorem zgt(P:bx)(w:bU)(e1:X.prog=P:=by rfl)(e2:X.w=w:=by rfl)(hcalm:X.calm=true:=by rfl):vZ X (.builtin "sorted") (zhK P w):=by
 subst e1 e2;intro pins s Z H xs us Q I r h;obtain⟨a,kvs,ls,rfl,ha,J,h60,K,q⟩:=h;obtain⟨u,rfl,rx⟩:=vals1 r;cases rx
 obtain⟨xs,ep,e0,L,z,hd⟩:=ha;obtain⟨⟨o,es,h1,h2,h3,h4,h6⟩,_⟩:=(show ObjOk X.prog X.w H s.heap a (.ext (W4 X.prog X.w a xs ep)) from I.hok a _ e0)
 obtain⟨b,c,M,d,N⟩:=zc8 L J;have hzl:b.length=ls.length:=by rw[<-c,aa]
 have nd:(b.map (·.2)).Nodup:=by
  rw[c];rw[N]at h6;exact (fQ.mp h6).imp λO e=>O (by rw[e])
 have x:HT.RawD s.heap a (b.map λz=>aU z.1) ep:=⟨o,es,h1,h2,h3,by rw[h4,cC,<-M];rfl⟩
 have k:(b.map λz=>aU z.1).length=b.length:=aa ..;have hO:=zgo nd;rw[aa]at hO;have y:∀z∈b,H z.1=some (.tup (z.2.map V.int))/\z.2≠[]:=λz F=>⟨d z F,K _ (by rw[<-c];exact aQ.mpr ⟨z,F,rfl⟩)⟩
 refine HT.zeJ (n:=b.length) (κ:=Kc true) (Pv:=λvs=>vs=b.map λz=>aU z.1) (by omega) (λR hR=>?_) λvs hl S=>?_
 ·refine kdu_collect (HT.ziL hd) (I.ok.hd hcalm) x (by rw[k];exact aB (show b.length<=60 by omega) (by decide)) λU A l hk g=>?_;have B:l.toList.length=b.length:=by rw[lJ,g.1,k]
  refine hR U A l.toList hk B ?_;apply km;intro i;cases e:l.toList[i]? with
  |some v=>exact (g.2 i v (by rw[<-BZ];exact e)).symm
  |none=>rw[cj (by rw[k,<-B];exact List.getElem?_eq_none_iff.mp e)]
 ·subst S;have gr:∀i,i<b.length->(b.map λz=>aU z.1).getD i eY=.ref (b.getD i (0,[])).1/\(b.map (·.2)).getD i []=(b.getD i (0,[])).2/\b.getD i (0,[])∈b:=λi D=>by
   have e:b.getD i (0,[])=b[i]:=by rw[aN,aj D];rfl
   rw[e];refine⟨?_,?_,fJ _⟩
   ·rw[aN,ao,aj D];rfl
   ·rw[aN,ao,aj D];rfl
  refine⟨_,hO,λG A W hn2 Q' hq=>?_,λG A W i j C D hj hC=>?_,λp U h'' A e hp hw k1 k2 E=>?_⟩
  ·obtain⟨fs,ht,hfl,Y⟩:=zaO (I.kept W) b y;refine kat_kind (T:=.type "int") ht (by omega) (λv S=>?_) (by decide) (by exact hq);obtain⟨n,t,rfl⟩:=Y v S;exact HQ rfl
  ·obtain⟨a1,a2,a3⟩:=gr i D;obtain⟨b1,b2,b3⟩:=gr j hj;unfold Ey;rw[a1,b1];refine zhh (I.kept W) (d _ a3) (d _ b3) ?_;rw[a2,b2]at hC;exact hC
  ·obtain⟨f,pm,pw,hm⟩:=zcC hp hw;rw[hm]at E;have I1:=I.kept (t':=A) k1;have m:=I1.hok.fresh (aq _);have hl':=pm.length_eq;refine⟨.ref U.objs.size,_,I1.laid (o:=.lst (f.map λz=>V.ref z.1)) k2 (aq _) ⟨by rw[aa];exact aB (show f.length<=60 by omega) (by decide),_,e,Wg f,E⟩,rfl,q _ f m (by rw[<-c];exact pm.map _) pw λz F=>d z (pm.mem_iff.mp F)⟩
end
structure Sq (X:Cx) (l:List cG) where
 t:TS
 p:PSs X l t
def sbs:cG->Bool->List cG
 |.For _ _ b _ _,true=>b
 |.While _ b _ _,true=>b
 |.If _ b _ _,true=>b
 |.If _ _ b _,false=>b
 |_,_=>[]
def sb(l:List cG)(i:Nat)(k:Bool):List cG :=
 match l.drop i with
 |s::_=>sbs s k
 |[]=>[]
theorem yW(h:let Y:=X;∃t,PSs Y l t/\t D Z H):∃t,PSs X l t/\t D Z H:=h
theorem zau(h:H l=none)(e:upd H l o=G):Same H G/\G l=some o:=by
 subst e;exact⟨λb u q=>by rw[zy (zz q h)];exact q,zj⟩
end L2
namespace PySem.W.Fast
def tw3633347789971467077:=0
def tw5230631329849346031:=0
def tw8741858705474037076:=0
def tw4576541989454194844:=0
def tw8116493762661625055:=0
def tw16328605786306943113:=0
def tw16807056841810022950:=0
def tw13532783933764258338:=0
def tw17355909402426821298:=0
def tw5635516331356013160:=0
def tw9942033839353929509:=0
def tw6758535594196624674:=0
def tw8620660034568859330:=0
def tw17556015874642627563:=0
def tw8946826341570738643:=0
def tw6060193352292658614:=0
def tw9529668393823002329:=0
def tw12903057720788635097:=0
def tw6838089362564450990:=0
def tw15488251516480324074:=0
def tw9791066780832256885:=0
def tw17055978594430699291:=0
def tw10904637395000154880:=0
def tw5478652778199973668:=0
def tw15054182204718389326:=0
def tw2868633370574363667:=0
def tw547462455203247000:=0
def tw15005455983608992114:=0
def tw9571870718279501378:=0
def tw667760457372983821:=0
def tw17603138322997286641:=0
def tw1718607395647822651:=0
def tw13457122278202272528:=0
def tw848682284536592870:=0
def tw10663168988270385435:=0
def tw9225838319922143489:=0
def tw9124314590636443878:=0
def tw16450140463678358261:=0
def tw4947226990465851640:=0
def tw1088406582847132228:=0
def tw487765955403997274:=0
def tw784226500820572933:=0
def tw16682517072938284047:=0
def tw6226532218206839246:=0
def tw3318886806827076668:=0
def tw8311920483490176061:=0
def tw9698565564482288997:=0
def tw5751473548868689629:=0
def tw12673494145133830443:=0
def tw13289562949636454787:=0
def tw5122718218395683144:=0
def tw16855642102955112931:=0
def tw13934984876516187622:=0
def tw454412311949367667:=0
def tw2371432768024657707:=0
def tw6551576944652294635:=0
def tw2618272167102806363:=0
def tw1187509953164171227:=0
def tw5863307069492748129:=0
def tw1273808380941124600:=0
def tw16836483125758966987:=0
def tw10276001882765471324:=0
def tw9102994693977121950:=0
def tw18079419687595643392:=0
def tw4524439871217679021:=0
def tw13064438991576732384:=0
def tw5237551460938784776:=0
def tw3900532839112682795:=0
def tw3164462043782622628:=0
def tw11521341589018232185:=0
def tw15325083518516447015:=0
def tw9264573267452454842:=0
def tw113012058752847488:=0
def tw13896810654966259946:=0
def tw11772444965519562607:=0
def tw3629080192932482987:=0
def tw6369117883324193067:=0
def tw6065548455860185922:=0
def tw581033897926986909:=0
def tw17174542182739554717:=0
def tw1607154402463147269:=0
def tw8993613468938804957:=0
def tw11560335616825523335:=0
def tw8888275635471767448:=0
def tw10083611986697260893:=0
def tw8210266866034585292:=0
def tw8697229146623385676:=0
def tw10862291538048593157:=0
def tw5664124656190146982:=0
def tw17062835347115182238:=0
def tw17752716226111987493:=0
def tw17730212760404702214:=0
def tw9775597760841548502:=0
def tw13367025563842151083:=0
def tw6962513612012815073:=0
def tw908379975348289794:=0
def tw7441087382227860225:=0
def tw17158453499087485374:=0
def tw5266739026311008201:=0
def tw6554455974916030961:=0
def tw9198715300537518484:=0
def tw3484883594561330296:=0
def tw6128995202363861187:=0
def tw14930597277171400720:=0
def tw17590287611050157964:=0
def tw12578967024536159388:=0
def tw14786821855538867149:=0
def tw3898378641223421324:=0
def tw18173235543139239396:=0
def tw4815293336145962544:=0
def tw11153877833814606102:=0
def tw10625241670277171289:=0
def tw6891601106010298864:=0
def tw4596156632845605108:=0
def tw4381187515285899279:=0
def tw14093455434150638690:=0
def tw4987971861740400728:=0
def tw3767790295019446072:=0
def tw10213904597976313461:=0
def tw9483054186399035589:=0
def tw8274892576194367827:=0
def tw18159483358026020953:=0
def tw16078793369730224630:=0
def tw8782367522135505724:=0
def tw12586780890142700592:=0
def tw6937736457105005337:=0
def tw5902995112225746279:=0
def tw1024750821331858408:=0
def tw15620795894074290408:=0
def tw14818557508612290554:=0
def tw17374336720045920295:=0
def tw10240652322507435760:=0
def tw11764847862005862584:=0
def tw5365256583184037960:=0
def tw2520700796175389352:=0
def tw15894566411010831107:=0
def tw9215262067068253756:=0
def tw3618591632657306381:=0
def tw15427266532693746936:=0
def tw12145913179968092454:=0
def tw17307814489517171498:=0
def tw9987595514795208539:=0
def tw2779781701501188818:=0
def tw17378855434940697149:=0
def tw5463853822865162543:=0
def tw13423956283971433871:=0
def tw9409371805849810743:=0
def tw13825576026635246467:=0
def tw4623951481857544526:=0
def tw4346018380401809628:=0
def tw12839461521728066440:=0
def tw1103608733397970289:=0
def tw3779283296017801896:=0
def tw13589865979473117701:=0
def tw3422685647916548018:=0
def tw15303166897006893620:=0
def tw4311909355311205246:=0
def tw16700701103680812383:=0
def tw1772392380075301243:=0
def tw1763546180471508350:=0
def tw11499756333557296122:=0
def tw5722859421865378399:=0
def tw2887576384882447224:=0
def tw9560001049102632904:=0
def tw6991454305198046025:=0
def tw8889192119405205716:=0
def tw16811774979076068268:=0
def tw13099107500088715005:=0
def tw13457772874068897260:=0
def tw1585880956250722042:=0
def tw16049339629123460002:=0
def tw14298447912289306807:=0
def tw15919420980616360946:=0
def tw14497051360994343729:=0
def tw18216089658028021937:=0
def tw15894170955283927716:=0
def tw3921802147875893233:=0
def tw7585766570305642018:=0
def tw8815967062652016075:=0
def tw1821989398447578230:=0
def tw8024811301497149815:=0
def tw4951566662494304511:=0
def tw9865521173005561341:=0
def tw16803735718716584508:=0
def tw17575769152604561773:=0
def tw5299502070705370301:=0
def tw6416167798640640509:=0
def tw3203013488551182098:=0
def tw14932666138140648938:=0
def tw12432048197373897854:=0
def tw14370257403894500223:=0
def tw17436630402544796756:=0
def tw1936546816511511557:=0
def tw10764435577086895998:=0
def tw6270667973248790666:=0
def tw11106424480108427292:=0
def tw58535210360880037:=0
def tw13550510178407657726:=0
def tw3159169586857413249:=0
def tw17673112536601722210:=0
def tw874461500909069564:=0
def tw2389975941127505771:=0
def tw1758058690612508157:=0
def tw5671943642941599254:=0
def tw14404690832510876871:=0
def tw7533015947881439819:=0
def tw9796497853578957977:=0
def tw15020122731775754988:=0
def tw444945446135460303:=0
def tw875539828020150091:=0
def tw13883162620294088004:=0
def tw2794716750499215938:=0
def tw15334971353693174071:=0
def tw8172308078267108794:=0
def tw12246907292298634339:=0
def tw10912432671466430938:=0
def tw13007706050381855282:=0
def tw4327629901667603030:=0
def tw4193220385734443441:=0
def tw15780237023286717685:=0
def tw7236265865844567680:=0
def tw1399188542134647229:=0
def tw4013915570205441217:=0
def tw1206523751740654557:=0
def tw10626290009018341738:=0
def tw4188558056506942679:=0
def tw14249272172351881031:=0
def tw2806495243041615211:=0
def tw4818680553177204083:=0
def tw18403130722007045309:=0
def tw14359958309639014250:=0
def tw17206463603167378618:=0
def tw7593572891915604459:=0
def tw5833346410710970936:=0
def tw1037714767471598062:=0
def tw6813432142495709759:=0
def tw13178442241825046350:=0
def tw8775541531733699965:=0
def tw18426714307459160566:=0
def tw5552000383707734942:=0
def tw15867105934392826655:=0
def tw11947849627451096714:=0
def tw4079245892082904228:=0
def tw3320028873351413428:=0
def tw8213666843733603837:=0
def tw10628836265266761458:=0
def tw416713221994808814:=0
def tw2825449616793376171:=0
def tw9758130054408934184:=0
def tw10786341893809008281:=0
def tw8768203605772110929:=0
def tw5674205051741608800:=0
def tw8494885463911494300:=0
def tw10501597968131213487:=0
def tw12453174971341880561:=0
def tw15876665841177314538:=0
def tw6748944995834934107:=0
def tw6001923859661770619:=0
def tw6589468123806279773:=0
def tw3870228618129335910:=0
def tw3341948098600530431:=0
def tw14205058214406065749:=0
def tw16373125985101114115:=0
def tw1913719252103874393:=0
def tw16901172895867704648:=0
def tw9770240491863886712:=0
def tw2408288184051801302:=0
def tw868260071299167295:=0
def tw4307023857029792694:=0
def tw17225316041648929692:=0
def tw8918401473121289093:=0
def tw15063973469429192705:=0
def tw16517725232474346598:=0
def tw10359882100229037877:=0
def tw16424967232192049448:=0
def tw16837105894407769715:=0
def tw12420348496509664241:=0
def tw13855444506096526018:=0
def tw4788595566349352195:=0
def tw4135967227747490411:=0
def tw6813969495641389655:=0
def tw4200653730379361701:=0
def tw13187442586679213515:=0
def tw14769637139104171464:=0
def tw5003033288102715334:=0
def tw16308736264223059048:=0
def tw7327180814253782127:=0
def tw1937160289488149036:=0
def tw4170876786900489383:=0
def tw12429570004408623610:=0
def tw12141679153118481212:=0
def tw850841700988657749:=0
def tw14519253584103212460:=0
def tw2882608450506201867:=0
def tw17557829492352429383:=0
def tw8874518893357239190:=0
def tw16095786269073891897:=0
def tw11099350870471872977:=0
def tw17445049465564782530:=0
def tw3244616217949081969:=0
def tw16336457687878814423:=0
def tw7486961467859865784:=0
def tw3975018234847811314:=0
def tw11756655551322952795:=0
def tw2276066727709115726:=0
def tw6178122370139334185:=0
def tw14426518955276578702:=0
def tw6332314027579145552:=0
def tw1900133171890212144:=0
def tw4812370679844853594:=0
def tw7105265897438084352:=0
def tw5261232692632909387:=0
def tw2497445535280944086:=0
def tw12658114636447447106:=0
def tw16403736101336751823:=0
def tw3570446095725734707:=0
def tw16893834830979197827:=0
def tw7173541504615068093:=0
def tw8790365677335031808:=0
def tw6699580474810038123:=0
def tw7231773439301746186:=0
def tw10081608737121615422:=0
def tw17477864546148095704:=0
def tw9146073094165917739:=0
def tw10905762822468372049:=0
def tw8144973866373223146:=0
def tw5222782811711718435:=0
def tw14374806905131970317:=0
def tw3045555305283969521:=0
def tw17190100226583860857:=0
def tw13838094129640361580:=0
def tw1056996173100525464:=0
def tw16296287902512677811:=0
def tw12340814130902526569:=0
def tw1355180355235561879:=0
def tw12169405927437077126:=0
def tw15813428902437354626:=0
def tw13569193598251105130:=0
def tw5051754960485927975:=0
def tw12179746677236433544:=0
def tw1912674783944905565:=0
def tw13085760278791057631:=0
def tw17383943357528052237:=0
def tw10015058361036444091:=0
def tw1983544530317131700:=0
def tw8381465754045109580:=0
def tw15823233668688121138:=0
def tw12187125249040086382:=0
def tw5508224820994317726:=0
def tw9693423413122290663:=0
def tw10584085834340804943:=0
def tw15477562748288219380:=0
def tw12407213995228770589:=0
def tw886529559800097621:=0
def tw1042571804772984051:=0
def tw9900122884673632878:=0
def tw3014405161870305327:=0
def tw6068156587918739707:=0
def tw11756135504897092800:=0
def tw9776047219734026194:=0
def tw9237925412927263698:=0
def tw5557367968320056862:=0
def tw12156387733843006221:=0
def tw1962193324928254721:=0
def tw8332554843008579701:=0
def tw4869212808399289833:=0
def tw4503406990661720329:=0
def tw2033963964722279748:=0
def tw12948508128874756105:=0
def tw11537203284154164201:=0
def tw9584105516310149097:=0
def tw4707604877728167351:=0
def tw4483533600724644165:=0
def tw5529982981575102081:=0
def tw10631103104483214732:=0
def tw2945255489695849513:=0
def tw12061573107839139203:=0
def tw12794137927845861641:=0
def tw15702888057258160652:=0
def tw11618083323162631064:=0
def tw5355461935725892831:=0
def tw12147600024385295851:=0
def tw7138090796364250158:=0
def tw5330303764875010282:=0
def tw6670579009619298938:=0
def tw14936424871243915027:=0
def tw9327115521171623222:=0
def tw5858905059639885888:=0
def tw4011080067846376142:=0
def tw8100516643646868248:=0
def tw10755162311548582704:=0
def tw10806242103344345357:=0
def tw10295134196243901716:=0
def tw4157703880205888901:=0
def tw9841074608019066220:=0
def tw13223819938256151972:=0
def tw8239876945533858518:=0
def tw2592567667252725480:=0
def tw2351006222882360794:=0
def tw7878278288854677285:=0
def tw708919337487607370:=0
def tw1170091118099322351:=0
def tw1351273112611790387:=0
def tw10739109872401481350:=0
def tw18333692585119013916:=0
def tw2673987505900637757:=0
def tw1744593463588465934:=0
def tw2376399900764362434:=0
def tw3411562286593160481:=0
def tw14630468011513118619:=0
def tw2582388573517965781:=0
def tw869870014002604451:=0
def tw14664960890521705190:=0
def tw7736742237840232440:=0
def tw14092348071572928021:=0
def tw2505519865727175778:=0
def tw4860540255272976429:=0
def tw13715511186992236540:=0
def tw4176297198413038408:=0
def tw428235544846634107:=0
def tw11647707944076300397:=0
def tw2330653371263440838:=0
def tw10458157473461985940:=0
def tw1000764704967558905:=0
def tw5056738454576359595:=0
def tw14802885554194700938:=0
def tw10906129787313229583:=0
def tw17931041627881919162:=0
def tw10131718039166857578:=0
def tw18161470063308109494:=0
def tw7183390108416277862:=0
def tw13898624892470318791:=0
def tw9321290527766337336:=0
def tw4868855632412320266:=0
def tw4681125461586817914:=0
def tw4434602299580479364:=0
def tw9085947771641246186:=0
def tw14398116864138307151:=0
def tw16108023297003480088:=0
def tw14389207572108931437:=0
def tw12617490656808496892:=0
def tw9015503207276646243:=0
def tw16888363215978652856:=0
def tw7324612201587329748:=0
def tw15425806389243514011:=0
def tw9736583429080544793:=0
def tw1756748709291499843:=0
def tw2781463930475950327:=0
def tw12622040881549628496:=0
def tw18301610064973559991:=0
def tw5086109122872347387:=0
def tw13758856068755062956:=0
def tw12280800045037836495:=0
def tw1550853930095342024:=0
def tw4614706139558191339:=0
def tw11368464400601091968:=0
def tw10291971206940510918:=0
def tw497116615116292676:=0
def tw9551574935512325177:=0
def tw9072408499110625064:=0
def tw4637941788118093858:=0
def tw5698948684203524206:=0
def tw12297085613575789405:=0
def tw11473166306266389515:=0
def tw16598038590517643377:=0
def tw14025986092449895717:=0
def tw3873219131979829010:=0
def tw8229266306798315763:=0
def tw8939466063129258976:=0
def tw14124428378032187697:=0
def tw11109235114417218679:=0
def tw5771045785916977687:=0
def tw792718640872334133:=0
def tw2892066408073603789:=0
def tw11470288604356610781:=0
def tw12154768953578116069:=0
def tw6987483781009972098:=0
def tw13540573386559331312:=0
def tw16277386266413722205:=0
def tw1684560035960811007:=0
def tw14375067294203368707:=0
def tw12575040653540970056:=0
def tw8669189251909699909:=0
def tw9214106817461355417:=0
def tw112908173084839920:=0
def tw3018777546395635194:=0
def tw15011582015239556673:=0
def tw12957571523937873526:=0
def tw4975574889363801134:=0
def tw411109415522911140:=0
def tw15726925346423475758:=0
def tw12960828180000972231:=0
def tw4740497710443649494:=0
def tw12756212925981788554:=0
def tw16698198940766710759:=0
def tw5780186574052718265:=0
def tw5029815421307142765:=0
def tw1997994304034529816:=0
def tw7174401482258535150:=0
def tw3738663871718668371:=0
def tw1317508327435161280:=0
def tw17606955779913585969:=0
def tw17536291246128515030:=0
def tw16545690028467606921:=0
def tw17770852482999080763:=0
def tw4183142346968039928:=0
def tw6193853445630405050:=0
def tw10290296267001925272:=0
def tw10902694524034046871:=0
def tw17811114831343718866:=0
def tw5294763218639931099:=0
def tw3347390585187737831:=0
def tw9803901068958646381:=0
def tw1448051148392273373:=0
def tw4297948185144199692:=0
def tw6033851641694441879:=0
def tw14983706163144055937:=0
def tw13649660301571421272:=0
def tw16958977454240642566:=0
def tw9790350818000209617:=0
def tw7183989791188621564:=0
def tw12459183770330742421:=0
def tw6017007532837149693:=0
def tw12043674520138174444:=0
def tw13344250343587493192:=0
def tw11560666540420030481:=0
def tw8953854036288082802:=0
def tw12001357308819036880:=0
def tw1413076682549183119:=0
def tw844721863267763968:=0
def tw8948676737102282075:=0
def tw8740772665826880514:=0
def tw5707528769699870530:=0
def tw3457537904097601633:=0
def tw11355551439799923557:=0
def tw11531185164969112622:=0
def tw2346500851792208142:=0
def tw3813813505481797129:=0
def tw4380971821727342006:=0
def tw13994978111519628120:=0
def tw6845059211418381363:=0
def tw18136147626063021667:=0
def tw16536687896778638396:=0
def tw4125077633827532244:=0
def tw1731460979530326572:=0
def tw793589932002397044:=0
def tw17215776547886876782:=0
def tw12327128937832440:=0
def tw7136030205433432104:=0
def tw15712410508421952168:=0
def tw12468978481703430230:=0
def tw16823103353355366367:=0
def tw15436915388765806769:=0
def tw15574290894719606948:=0
def tw12217670077055583763:=0
def tw2505623268914876612:=0
def tw8718427966065167738:=0
def tw3060090748031872503:=0
def tw4438729440167638661:=0
def tw6058063975218159121:=0
def tw17616231327134373845:=0
def tw3434139360924411732:=0
def tw939993176726428438:=0
def tw17909730538208155196:=0
def tw3898700906018534330:=0
def tw9289385249676422662:=0
def tw4203285904332026730:=0
def tw4463655923706143158:=0
def tw4372069275000569532:=0
def tw8063443960601426949:=0
def tw1040994502190117435:=0
def tw3266194057216349321:=0
def tw4233070066562800009:=0
def tw15876835980490511297:=0
def tw15036246097429960936:=0
def tw3084562410139196181:=0
def tw3264956374059457100:=0
def tw4875020406217078245:=0
def tw7351029961140833267:=0
def tw3851179950216954865:=0
def tw13526050914755235142:=0
def tw9017138578898040542:=0
def tw14177326647984668277:=0
def tw14305048202250639951:=0
def tw4982524628043026761:=0
def tw1606546078095117381:=0
def tw16259940762502284342:=0
def tw10093098169128085556:=0
def tw4436263415235810395:=0
def tw15865985505142868612:=0
def tw9217026825791997472:=0
def tw2865681776398285721:=0
def tw6381112544324109927:=0
def tw6594571678695352264:=0
def tw3379595674395395603:=0
def tw13200942540284169716:=0
def tw14315087101946746329:=0
def tw236293003189897071:=0
def tw17185546774950883034:=0
def tw12011621722959056263:=0
def tw7065175840077572028:=0
def tw14023232666172481759:=0
def tw3232403817323607722:=0
def tw5497679881913861854:=0
def tw4590523190545962600:=0
def tw14419346691627740414:=0
def tw14267967367976059824:=0
def tw8099892181117733046:=0
end PySem.W.Fast
namespace Lw
open PySem L2 PyProof.Rows
def top(i:Nat):cG:=PySem.Challenge.pw_lackstretch_k32_a_keeper_by_drawn_deeds.main.body.getD i (.Pass ⟨0,0,0,0⟩)
abbrev tO:cG:=top 20
abbrev Zy:cG:=top 21
abbrev Yj:cG:=top 22
abbrev ZV:cG:=top 23
abbrev uW:cG:=top 24
abbrev uK:cG:=top 25
abbrev jq:cG:=top 26
abbrev ur:cG:=top 27
abbrev Yu:cG:=top 28
abbrev jN:cG:=top 29
abbrev vR:cG:=top 30
abbrev jR:cG:=top 31
abbrev jY:cG:=top 32
abbrev wY:cG:=top 33
abbrev uH:cG:=top 34
abbrev xJ:cG:=top 35
abbrev qz:cG:=top 37
abbrev wZ:cG:=top 38
abbrev yN:cG:=top 39
abbrev vV:cG:=top 42
abbrev qF:cG:=top 43
abbrev tW:cG:=top 44
abbrev xF:cG:=inClass (top 45) 0
abbrev wD:cG:=inClass (top 45) 1
abbrev xV:cG:=inClass (top 45) 2
abbrev xu:cG:=inClass (top 45) 3
abbrev yr:cG:=inClass (top 45) 4
abbrev xY:cG:=inClass (top 45) 5
abbrev xT:cG:=inClass (top 45) 6
abbrev yq:cG:=inClass (top 45) 7
abbrev vL:cG:=inClass (top 45) 8
abbrev qN:cG:=top 47
abbrev yM:cG:=inClass (top 49) 0
abbrev uo:cG:=inClass (top 49) 1
abbrev tX:cG:=inClass (top 49) 2
abbrev yV:cG:=inClass (top 49) 3
abbrev jl:cG:=inClass (top 49) 4
abbrev ji:cG:=inClass (top 49) 5
abbrev vU:cG:=inClass (top 49) 6
abbrev jA:cG:=top 51
abbrev uO:cG:=top 52
abbrev yj:cG:=top 53
abbrev xf:cG:=top 54
abbrev vJ:cG:=top 55
abbrev jt:cG:=top 56
abbrev jy:cG:=top 57
abbrev qe:cG:=top 58
abbrev yJ:cG:=top 59
abbrev ye:cG:=top 60
abbrev wN:cG:=top 61
abbrev zV:cG:=top 62
abbrev wC:cG:=top 63
abbrev wG:cG:=top 64
abbrev vH:cG:=top 65
abbrev qb:cG:=top 66
abbrev Zz:cG:=top 67
abbrev xR:cG:=top 68
abbrev vD:cG:=top 69
abbrev vf:cG:=top 70
abbrev zT:cG:=top 71
abbrev yx:cG:=top 72
abbrev yp:cG:=top 73
abbrev yf:cG:=top 74
abbrev zO:cG:=top 75
abbrev zeg:cG:=top 76
def JZ:cD->Bool
 |.int _=>true
 |_=>false
def YL:cD->Int
 |.int i=>i
 |_=>0
def Qm:cD->Bool
 |.int i=>decide (2<=i/\i<=16)
 |_=>false
def Uo(b:Int):cD->Bool
 |.int i=>decide (0<=i/\i<b)
 |_=>false
def Jh(b:Int):cD->Bool
 |.list xs=>xs.all (Uo b)
 |_=>false
def Wt:cD->List cD
 |.list xs=>xs
 |_=>[]
def xX(d:cD):List Int:=(Wt d).map YL
def zU(b:Int)(d:cD):Bool:=Jh b d && decide (1<=(Wt d).length/\(Wt d).length<=4)
def Wj(ls:ZA):Bool:=(bJ (ls.length-1)).all λk=>HT.lexLt (ls.getD k []) (ls.getD (k+1) [])
def zhc(b:Int):cD->Bool
 |.list xs=>decide (xs.length<=4) && (xs.all (zU b) && Wj (xs.map xX))
 |_=>false
def zec:cD->Bool
 |.tuple [d,l]=>Qm d && zhc (YL d) l
 |_=>false
theorem ze3(d:cD):JZ d=(isT "int" d && !isT "bool" d):=by cases d<;>rfl
theorem Jq(h:JZ d=true):d=.int (YL d):=by cases d<;>first | rfl | cases h
section
variable {P:bx} {w:bU} {K:aK} {mg:bZ->Option aD} {base:dj}
def ZD:Sp:=λvs H Q _=>Ex2 λv d=>An3 (vs=[v]) (ThAt H d v) (Q (.bl (JZ d)) H)
theorem zcv:zF ["thing"] ["thing"] (zx tO):={}
theorem XC(D:Df K mg "is_whole" tO Aa f fd)(T:Blt mg):FnOk P w K mg base CX0 1 f fd Aa ZD:=by
 refine D.fn.ok zcv (λb H Q E h=>?_) (λcdv A outer s H b Q E hr h=>?_)
 ·obtain⟨v,d,rfl,_⟩:=h;rfl
 ·obtain⟨v,d,rfl,a,q⟩:=h;refine⟨_,(zu (zG (uU (zA (tZ K) (by rfl) T.n_isinstance bD (zf (pv 0) (zf (xM (v:=.ty "int") rfl T.n_int mZ rfl) zg))) (qH (zbG (zA (tZ K) (by rfl) T.n_isinstance bD (zf (pv 0) (zf (xM (v:=.ty "bool") rfl T.n_bool Di rfl) zg)))))))),?_⟩;rw[ze3]at q;refine⟨_,rfl,_,_,_,_,rfl,a.ty,zeC d,_,rfl,?_⟩;cases h1:isT "int" d with
  |false=>rw[h1]at q;exact yG q
  |true=>
   rw[h1,gf]at q;exact yz ⟨_,rfl,_,_,_,_,rfl,a.ty,JL d,_,rfl,q⟩
def Vb:Sp:=λvs H Q _=>Ex2 λv d=>An3 (vs=[v]) (ThAt H d v) (Q (.bl (Qm d)) H)
theorem zdD:zF ["thing"] ["thing"] (zx Yj):={}
theorem zdQ(D:Df K mg "is_base" Yj Aa f fd)(xP:Df K mg "is_whole" tO Aa f1 fd1)(T:Blt mg)(Y5:mg "LEAST_BASE"= some (.int 2 t1))(jD:mg "GREATEST_BASE"= some (.int 16 t2)):
  FnOk P w K mg base CX0 2 f fd Aa Vb:=by
 have j:FnOk P w K mg base CX0 1 f1 fd1 Aa ZD:=XC xP T;refine D.fn.ok zdD (λk H Q E h=>?_) (λcdv A outer s H k Q E l h=>?_)
 ·obtain⟨v,d,rfl,_⟩:=h;rfl
 ·obtain⟨v,d,rfl,c,q⟩:=h;refine⟨_,(zu (zG (uU (zL xP j (l.mono (by decide)) (zf (pv 0) zg)) (qH (Jv Qi Qi (wu (v:=.int 2) rfl Y5 ⟨_,rfl⟩) (pv 0) (wu (v:=.int 16) rfl jD ⟨_,rfl⟩)))))),?_⟩;refine⟨_,rfl,v,d,rfl,c,_,rfl,?_⟩;cases g:JZ d with
  |false=>
   have:Qm d=false:=by cases d<;>first | rfl | cases g
   rw[this]at q;exact yG q
  |true=>
   have e:=Jq g;generalize YL d=i at e;subst e;subst c;refine yz ⟨_,rfl,_,_,rfl,rfl,_,rfl,?_⟩
   replace q:Q (.bl (decide (2<=i/\i<=16))) H:=q
   refine zbz (λb=>?_) (λb=>?_)
   ·have a:=of_decide_eq_true b;refine⟨_,_,rfl,rfl,?_⟩;rw[show decide (2<=i/\i<=16)=decide (i<=16) by simp[a]]at q;exact q
   ·have a:¬ 2<=i:=λz=>b (decide_eq_true z);rw[show decide (2<=i/\i<=16)=false by simp[a]]at q;exact q
def Uc:Sp:=λvs H Q _=>Ex3 λb v d=>An3 (vs=[.int b,v]) (ThAt H d v) (Q (.bl (Uo b d)) H)
theorem zb9:zF ["base","thing"] ["base","thing"] (zx ZV):={}
theorem zbf(D:Df K mg "is_figure" ZV Ab f fd)(xP:Df K mg "is_whole" tO Aa f1 fd1)(T:Blt mg):FnOk P w K mg base CX0 2 f fd Ab Uc:=by
 have k:FnOk P w K mg base CX0 1 f1 fd1 Aa ZD:=XC xP T;refine D.fn.ok zb9 (λl H Q E h=>?_) (λcdv A outer s H l Q E m h=>?_)
 ·obtain⟨b,v,d,rfl,_⟩:=h;rfl
 ·obtain⟨b,v,d,rfl,g,q⟩:=h;refine⟨_,(zu (zG (uU (zL xP k (m.mono (by decide)) (zf (pv 1) zg)) (qH (Jv Qi QQ zr (pv 1) (pv 0)))))),?_⟩;refine⟨_,rfl,v,d,rfl,g,_,rfl,?_⟩;cases j:JZ d with
  |false=>
   have:Uo b d=false:=by cases d<;>first | rfl | cases j
   rw[this]at q;exact yG q
  |true=>
   have e:=Jq j;generalize YL d=i at e;subst e;subst g;refine yz ⟨_,rfl,_,_,rfl,rfl,_,rfl,?_⟩
   replace q:Q (.bl (decide (0<=i/\i<b))) H:=q
   refine zbz (λc=>?_) (λc=>?_)
   ·have a:=of_decide_eq_true c;refine⟨_,rfl,_,_,rfl,rfl,?_⟩;rw[show decide (0<=i/\i<b)=decide (i<b) by simp[a]]at q;exact q
   ·have a:¬ 0<=i:=λz=>c (decide_eq_true z);rw[show decide (0<=i/\i<b)=false by simp[a]]at q;exact q
end
mutual
def jG:cD->Nat
 |.list xs=>max xs.length (X3 xs)
 |.tuple xs=>max xs.length (X3 xs)
 |_=>0
def X3:List cD->Nat
 |[]=>0
 |d::ds=>max (jG d) (X3 ds)
end
theorem za7{d:cD}:∀{ds:List cD},d∈ds->jG d<=X3 ds
 |e::ds,h=>by
  rw[X3];rcases aW.mp h with rfl | h
  ·omega
  ·have:=za7 h;omega
theorem zaZ{H:Hp}{b:Int}:∀{xs:List cD} {ys:List V},ThsAt H xs ys->xs.all (Uo b)=true->ys=(xs.map YL).map V.int
 |[],ys,h,_=>by rw[ThsAt]at h;rw[h];rfl
 |d::ds,ys,h,q=>by
  rw[ThsAt]at h;obtain⟨y,zs,h1,h2,h3⟩:=h;rw[ou,cA]at q;have e:d=.int (YL d):=by cases d<;>first | rfl | cases q.1
  rw[e,ThAt]at h2;rw[h1,h2,zaZ h3 q.2];rfl
theorem ThAt.figs(h:ThAt H d v)(q:Jh b d=true):∃a,v=.ref a/\H a=some (.lst ((xX d).map V.int)):=by
 cases d with
 |list xs=>
  obtain⟨a,ys,c,e,f⟩:=h;exact⟨a,c,by rw[e,zaZ f q];rfl⟩
 |_=>cases q
theorem QR(h:isT "list" d=true):∃xs,d=.list xs:=by
 cases d<;>first | exact⟨_,rfl⟩ | cases h
theorem zff(h:isT "tuple" d=true):∃xs,d=.tuple xs:=by
 cases d<;>first | exact⟨_,rfl⟩ | cases h
theorem U9{α:Type}{p:α->Bool}{l:List α}:(l.map p).all id=l.all p:=by rw[Eu];rfl
section
variable {P:bx} {w:bU} {K:aK} {mg:bZ->Option aD} {base:dj}
def XD:Sp:=λvs H Q _=>Ex3 λb v d=>An4 (vs=[.int b,v]) (ThAt H d v) (jG d<=100000) (∀H',Same H H'->Q (.bl (Jh b d)) H')
theorem Jo:zF ["base","thing"] ["base","thing"] (zx uW):={}
theorem JN(D:Df K mg "are_figures" uW Ab f fd)(Y4:Df K mg "is_figure" ZV Ab f1 fd1)(Vs:FnOk P w K mg base CX0 2 f1 fd1 Ab Uc)(T:Blt mg):
  FnOk P w K mg base CX0 3 f fd Ab XD:=by
 refine D.fn.ok Jo (λt H Q E h=>?_) (λcdv A outer s H t Q E u h=>?_)
 ·obtain⟨b,v,d,rfl,_⟩:=h;rfl
 ·obtain⟨b,v,d,rfl,c,y,m⟩:=h;refine⟨_,(zu (zG (uU (zA (tZ K) (by rfl) T.n_isinstance bD (zf (pv 1) (zf (xM (v:=.ty "list") rfl T.n_list gF rfl) zg))) (qH (zA (k_all K rfl) (by rfl) T.n_all K9 (zf (yD (show CScope (zx uW) _ "each" ["base","thing"] ["base"] [0] from {}) rfl (qj K (pv 1)) (λ_ _ _ _=>xq) (λ_ _ _ _=>(zL Y4 Vs (u.mono (by decide)) (zf (pv 1) (zf (pv 0) zg))))) zg)))))),?_⟩;refine⟨_,rfl,_,_,_,_,rfl,c.ty,Uj d,_,rfl,?_⟩;cases n:isT "list" d with
  |false=>
   have q:=m H (Same.refl _);rw[show Jh b d=false by cases d<;>first | rfl | cases n]at q;exact yG q
  |true=>
   obtain⟨o,rfl⟩:=QR n;obtain⟨a,ys,rfl,p,r⟩:=c;rw[jG]at y;let z:Nat->List V->L2.Hp->Prop:=λi g k=>g=((o.take i).map (Uo b)).map V.bl/\k=H;refine yz ⟨_,rfl,a,rfl,⟨_,SqL.of p⟩,yK z ⟨by simp,rfl⟩ (λi g k _ ⟨_,e⟩=>by rw[e];exact SqL.of p) ?_ ?_⟩
   ·rintro j x g k B ⟨rfl,rfl⟩;obtain⟨d,l,c⟩:=r.get B;refine⟨?_,?_⟩
    ·rw[aa,aa,bA];exact aR (show min j o.length<=100000 by omega) (by decide)
    unfold Zr;dsimp only;refine⟨_,rfl,_,rfl,b,x,d,rfl,c,?_,rfl⟩;rw[bY,l];simp
   ·rintro g k ⟨rfl,rfl⟩ C F;refine⟨C,_,rfl,SqL.of zj,?_⟩;rw[r.len,bT,U9];exact m _ (zp F)
def jh:Sp:=λvs H Q _=>Ex3 λb v d=>An4 (vs=[.int b,v]) (ThAt H d v) (jG d<=100000) (∀H',Same H H'->Q (.bl (zU b d)) H')
theorem zah:zF ["base","thing"] ["base","thing"] (zx uK):={}
theorem zak(D:Df K mg "is_stretch" uK Ab f fd)(jU:Df K mg "are_figures" uW Ab f1 fd1)(YT:FnOk P w K mg base CX0 3 f1 fd1 Ab XD)(qK:mg "LONGEST_STRETCH"= some (.int 4 t1))(T:Blt mg):
  FnOk P w K mg base CX0 4 f fd Ab jh:=by
 refine D.fn.ok zah (λi H Q E h=>?_) (λcdv A outer s H i Q E j h=>?_)
 ·obtain⟨b,v,d,rfl,_⟩:=h;rfl
 ·obtain⟨b,v,d,rfl,c,k,l⟩:=h;refine⟨_,(zu (zG (uU (zL jU YT (j.mono (by decide)) (zf (pv 0) (zf (pv 1) zg))) (qH (Jv Qi Qi zr (zA (vY K) (by rfl) T.n_len PySem.boot_len (zf (pv 1) zg)) (wu (v:=.int 4) rfl qK ⟨_,rfl⟩)))))),?_⟩;refine⟨_,rfl,_,rfl,b,v,d,rfl,c,k,λm e=>⟨_,rfl,?_⟩⟩;have q:=l m e;unfold zU at q;cases hf:Jh b d with
  |false=>rw[hf]at q;exact yG q
  |true=>
   rw[hf,gf]at q;obtain⟨a,rfl,o⟩:=ThAt.figs c hf;refine yz ⟨_,rfl,a,_,rfl,.inl (SqL.of (e _ _ o)),_,_,rfl,rfl,_,rfl,?_⟩;have p:(xX d).length=(Wt d).length:=aa _;rw[aa,p];generalize (Wt d).length=n at q;by_cases g:1<=n
   ·rw[decide_eq_true (show 1<=(n:Int) by omega)];refine yz ⟨_,_,rfl,rfl,?_⟩;rw[show decide (1<=n/\n<=4)=decide ((n:Int)<=4) from decide_eq_decide.mpr ⟨λz=>by omega,λz=>⟨g,by omega⟩⟩]at q;exact q
   ·rw[decide_eq_false (show ¬ 1<=(n:Int) by omega)];rw[decide_eq_false (show ¬ (1<=n/\n<=4) from λz=>g z.1)]at q;exact yG q
def V9:Sp:=λvs H Q _=>Ex2 λ(bl:au) (zs:ZB)=>An5 (vs=[.ref bl]) (H bl=some (.lst (zs.map λz=>V.ref z.1))) ((∀z∈zs,H z.1=some (.lst (z.2.map V.int)))) (zs.length<=4) (∀H',Same H H'->Q (.bl (Wj (zs.map (·.2)))) H')
theorem zbK:zF ["stretches"] ["stretches"] (zx jq):={}
theorem zbH(D:Df K mg "is_rising" jq Ax f fd)(T:Blt mg):FnOk P w K mg base CX0 1 f fd Ax V9:=by
 refine D.fn.ok zbK (λvs H Q E h=>?_) (λcdv A outer s H vs Q E hr h=>?_)
 ·obtain⟨bl,zs,rfl,_⟩:=h;rfl
 ·obtain⟨bl,zs,rfl,hb,hz,h4,kk⟩:=h;have HU:=Yr hr;refine⟨_,(zu (zG (zA (k_all K rfl) (by rfl) T.n_all K9 (zf (yD (show CScope (zx jq) _ "k" ["stretches"] ["stretches"] [0] from {}) rfl (yL rfl T.n_range (zf (zP qG (zA (vY K) (by rfl) T.n_len PySem.boot_len (zf (pv 0) zg)) zr) zg)) (λ_ _ _ _=>xq) (λ_ _ _ _=>(xK (zjE K HU) (zQ (yt K) (pv 1) (pv 0) (λ_ _=>rfl)) (zQ (yt K) (pv 1) (zP wL (pv 0) zr) (λ_ _=>rfl)) (zM _)))) zg)))),?_⟩;refine⟨_,rfl,bl,_,rfl,.inl (SqL.of hb),_,_,rfl,rfl,_,rfl,?_⟩;rw[aa];let J2:Nat->List V->L2.Hp->Prop:=λi ys H4=>ys=((bJ i).map λk=>HT.lexLt ((zs.map (·.2)).getD k []) ((zs.map (·.2)).getD (k+1) [])).map V.bl/\H4=H;refine⟨by omega,by omega,tQ J2 ⟨by simp,rfl⟩ ?_ ?_⟩
  ·rintro i ys H4 hi ⟨rfl,rfl⟩;refine⟨by rw[aa,aa,cg];exact aO (show i<5 by omega) (by decide),?_⟩;unfold Zr;dsimp only;have hi0:i<zs.length:=by omega
   have hi1:i+1<zs.length:=by omega
   have g0:atI (zs.map λz=>V.ref z.1) (0+i)=some (.ref (zs[i]).1):=by rw[eG];exact yZ (by rw[ao,aj hi0];rfl)
   have g1:atI (zs.map λz=>V.ref z.1) (0+i+1)=some (.ref (zs[i+1]).1):=by rw[eG];exact yZ (by rw[ao,aj hi1];rfl)
   refine⟨_,rfl,_,rfl,bl,_,_,_,rfl,rfl,SqL.of hb,g0,?_⟩;refine⟨_,rfl,_,rfl,_,_,rfl,rfl,bl,_,_,_,rfl,rfl,SqL.of hb,g1,?_⟩;refine⟨_,_,_,_,rfl,rfl,SqL.of (hz _ (fJ hi0)),SqL.of (hz _ (fJ hi1)),?_,rfl⟩;rw[dY];have e0:(zs.map (·.2)).getD i []=(zs[i]).2:=by simp[MP,ao,aj hi0]
   have e1:(zs.map (·.2)).getD (i+1) []=(zs[i+1]).2:=by simp[MP,ao,aj hi1]
   rw[aH,aH,Ef,Ef,e0,e1]
  ·rintro ys H4 ⟨rfl,rfl⟩ Dd hD;refine⟨Dd,_,rfl,SqL.of zj,?_⟩;rw[U9];have q:=kk _ (zp hD (o:=.lst (((bJ ((zs.length:Int)-1).toNat).map λk=>HT.lexLt ((zs.map (·.2)).getD k []) ((zs.map (·.2)).getD (k+1) [])).map V.bl)));unfold Wj at q;rw[aa,show zs.length-1=((zs.length:Int)-1).toNat by omega]at q;exact q
end
end Lw
namespace Lw
open PySem L2 PyProof.Rows
theorem Ua{H:Hp}{b:Int}:∀{xs:List cD} {ys:List V},ThsAt H xs ys->xs.all (zU b)=true->∃zs:ZB,ys=zs.map (λz=>V.ref z.1)/\zs.map (·.2)=xs.map xX/\∀z∈zs,H z.1=some (.lst (z.2.map V.int))
 |[],ys,h,_=>by rw[ThsAt]at h;exact⟨[],h,rfl,by simp⟩
 |d::ds,ys,h,q=>by
  rw[ThsAt]at h;obtain⟨y,us,h1,h2,h3⟩:=h;rw[ou,cA]at q;obtain⟨zs,e,f,g⟩:=Ua h3 q.2;have i:Jh b d=true:=by have:=q.1;unfold zU at this;rw[cA]at this;exact this.1
  obtain⟨a,j,k⟩:=ThAt.figs h2 i;refine⟨(a,xX d)::zs,by rw[h1,j,e];rfl,by rw[bC,bC,f],λz c=>?_⟩;rcases aW.mp c with rfl | c
  ·exact k
  ·exact g z c
section
variable {P:bx} {w:bU} {K:aK} {mg:bZ->Option aD} {base:dj}
def Xx:Sp:=λvs H Q _=>Ex3 λb v d=>An4 (vs=[.int b,v]) (ThAt H d v) (jG d<=100000) (∀H',Same H H'->Q (.bl (zhc b d)) H')
theorem Jy:zF ["base","thing"] ["base","thing"] (zx ur):={}
theorem JG(D:Df K mg "is_bad_list" ur Ab f fd)(wB:Df K mg "is_stretch" uK Ab f1 fd1)(vA:FnOk P w K mg base CX0 4 f1 fd1 Ab jh)(YX:Df K mg "is_rising" jq Ax f2 fd2)(wH:mg "MOST_STRETCHES"= some (.int 4 t1))(T:Blt mg):
  FnOk P w K mg base CX0 5 f fd Ab Xx:=by
 have B:FnOk P w K mg base CX0 1 f2 fd2 Ax V9:=zbH YX T;refine D.fn.ok Jy (λN H Q E h=>?_) (λcdv A outer s H N Q E F h=>?_)
 ·obtain⟨b,v,d,rfl,_⟩:=h;rfl
 ·obtain⟨b,v,d,rfl,m,O,G⟩:=h;refine yW ?_;intro R;let S:Sq R ((zq ur).drop 1):=⟨_,zu (zG (uU (zA (k_all K rfl) (by rfl) T.n_all K9 (zf (yD (show CScope (zx ur) _ "each" ["base","thing"] ["base"] [0] from {}) rfl (qj K (pv 1)) (λ_ _ _ _=>xq) (λ_ _ _ _=>(zL wB vA (F.mono (by decide)) (zf (pv 1) (zf (pv 0) zg))))) zg)) (qH (zL YX B (F.mono (by decide)) (zf (pv 1) zg)))))⟩
  refine⟨_,(zm (yw (PW.pt (Ym (vK (xx (zA (tZ K) (by rfl) T.n_isinstance bD (zf (pv 1) (zf (xM (v:=.ty "list") rfl T.n_list gF rfl) zg))))) (Z6 (zK Us (zA (vY K) (by rfl) T.n_len PySem.boot_len (zf (pv 1) zg)) (wu (v:=.int 4) rfl wH ⟨_,rfl⟩) (zM _)))))
    (zu (zG qM))
    zR) S.p),?_⟩
  refine⟨_,rfl,_,_,_,_,rfl,m.ty,Uj d,_,rfl,?_⟩;cases I:isT "list" d with
  |false=>
   have q:=G H (Same.refl _);rw[show zhc b d=false by cases d<;>first | rfl | cases I]at q;exact yz (yz q)
  |true=>
   obtain⟨g,rfl⟩:=QR I;obtain⟨a,U,rfl,n,r⟩:=m;rw[jG]at O;refine yG ⟨_,rfl,a,_,rfl,.inl (SqL.of n),_,_,rfl,rfl,_,rfl,?_⟩;rw[r.len];have c:∀J,Same H J->Q (.bl (decide (g.length<=4) && (g.all (zU b) && Wj (g.map xX)))) J:=G;by_cases L:g.length<=4
   case neg=>
    rw[decide_eq_true (show 4<(g.length:Int) by omega)];have q:=c H (Same.refl _);rw[decide_eq_false L,pH]at q;exact yz q
   rw[decide_eq_false (show ¬ 4<(g.length:Int) by omega)];rw[decide_eq_true L,gf]at c;let W:Nat->List V->L2.Hp->Prop:=λi t u=>t=((g.take i).map (zU b)).map V.bl/\Same H u;refine yG ⟨_,rfl,a,rfl,⟨_,SqL.of n⟩,yK W ⟨by simp,Same.refl _⟩ (λi t u _ ⟨_,e⟩=>SqL.of (e _ _ n)) ?_ ?_⟩
   ·rintro j x t u X ⟨rfl,y⟩;obtain⟨d,l,m⟩:=r.get X;refine⟨?_,?_⟩
    ·rw[aa,aa,bA];exact aR (show min j g.length<=4 by omega) (by decide)
    unfold Zr;dsimp only;have:=za7 (aL l);refine⟨_,rfl,_,rfl,b,x,d,rfl,m.same y,by omega,λH5 k=>⟨?_,y.trans k⟩⟩;rw[bY,l];simp
   ·rintro t u ⟨rfl,y⟩ Y Z;refine⟨Y,_,rfl,SqL.of zj,?_⟩;have k:=y.trans (zp Z (o:=.lst (((g.take U.length).map (zU b)).map V.bl)));rw[r.len,bT,U9]at *;refine⟨_,rfl,?_⟩;cases hst:g.all (zU b) with
    |false=>
     have q:=c _ k;rw[hst,pH]at q;exact yG q
    |true=>
     rw[hst,gf]at c;obtain⟨zs,e1,M,e3⟩:=Ua r hst;refine yz ⟨_,rfl,a,zs,rfl,by rw[<-e1];exact k _ _ n,λz hz=>k _ _ (e3 z hz),?_,λH6 m6=>?_⟩
     ·have:=congrArg cB M;rw[aa,aa]at this;omega
     ·rw[M];exact c H6 (k.trans m6)
def JM:Sp:=λvs H Q _=>Ex2 λv d=>An4 (vs=[v]) (ThAt H d v) (jG d<=100000) (∀H',Same H H'->Q (.bl (zec d)) H')
theorem zdp:zF ["thing"] ["thing"] (zx Yu):={}
theorem zd0(D:Df K mg "is_rule" Yu Aa f fd)(Zn:Df K mg "is_base" Yj Aa f1 fd1)(Yk:FnOk P w K mg base CX0 2 f1 fd1 Aa Vb)(jO:Df K mg "is_bad_list" ur Ab f2 fd2)(YF:FnOk P w K mg base CX0 5 f2 fd2 Ab Xx)(T:Blt mg):
  FnOk P w K mg base CX0 6 f fd Aa JM:=by
 refine D.fn.ok zdp (λr H Q E h=>?_) (λcdv A outer s H r Q E m h=>?_)
 ·obtain⟨v,d,rfl,_⟩:=h;rfl
 ·obtain⟨v,d,rfl,j,g,c⟩:=h;refine yW ?_;intro u;let x:Sq u ((zq Yu).drop 1):=⟨_,zu (zG (uU (zL Zn Yk (m.mono (by decide)) (zf (zQ (wz K) (pv 0) zr (λ_ _=>rfl)) zg)) (qH (zL jO YF (m.mono (by decide)) (zf (zQ (wz K) (pv 0) zr (λ_ _=>rfl)) (zf (zQ (wz K) (pv 0) zr (λ_ _=>rfl)) zg))))))⟩
  refine⟨_,(zm (yw (PW.pt (Ym (vK (xx (zA (tZ K) (by rfl) T.n_isinstance bD (zf (pv 0) (zf (xM (v:=.ty "tuple") rfl T.n_tuple pZ rfl) zg))))) (Z6 (zK zei (zA (vY K) (by rfl) T.n_len PySem.boot_len (zf (pv 0) zg)) zr (zM _)))))
    (zu (zG qM))
    zR) x.p),?_⟩
  refine⟨_,rfl,_,_,_,_,rfl,j.ty,kit_tuple d,_,rfl,?_⟩;cases n:isT "tuple" d with
  |false=>
   have q:=c H (Same.refl _);rw[show zec d=false by cases d<;>first | rfl | cases n]at q;exact yz (yz q)
  |true=>
   obtain⟨B,rfl⟩:=zff n;obtain⟨a,ys,rfl,l,b⟩:=j;rw[jG]at g;refine yG ⟨_,rfl,a,_,rfl,.inr (SqT.of l),rfl,_,rfl,?_⟩;rw[b.len]
   match B,b,g,c with
   |[],b,g,c=>exact yz (c H (Same.refl _))
   |[_],b,g,c=>exact yz (c H (Same.refl _))
   |_::_::_::t,b,g,c=>
    have q:=c H (Same.refl _);rename_i C d2 d3
    rw[show (!decide (V.int ((C::d2::d3::t).length)=V.int 2))=true by
     rfl]
    exact yz q
   |[d,e],b,g,c=>
    obtain⟨y,us,rfl,j,b⟩:=b;obtain⟨z,ws,rfl,F,b⟩:=b;subst b;rw[X3,X3,X3]at g;refine yG ?_;refine⟨_,rfl,a,_,_,y,rfl,rfl,SqT.of l,rfl,y,d,rfl,j,_,rfl,?_⟩;have i:∀o,Same H o->Q (.bl (Qm d && zhc (YL d) e)) o:=c;cases hb:Qm d with
    |false=>
     have q:=i H (Same.refl _);rw[hb,pH]at q;exact yG q
    |true=>
     rw[hb,gf]at i;have G:d=.int (YL d):=by cases d<;>first | rfl | cases hb
     have I:y=.int (YL d):=by rw[G,ThAt]at j;exact j
     subst I;exact yz ⟨_,rfl,a,_,_,V.int (YL d),rfl,rfl,SqT.of l,rfl,_,rfl,a,_,_,z,rfl,rfl,SqT.of l,rfl,YL d,z,e,rfl,F,by omega,i⟩
end
structure RuleAt (H:Hp) (r:au) (b:Nat) (bl:au) (zs:ZB):Prop where
 tu:H r=some (.tup [.int b,.ref bl])
 li:H bl=some (.lst (zs.map λz=>V.ref z.1))
 st:∀z∈zs,H z.1=some (.lst (z.2.map V.int))
theorem RuleAt.same(R:RuleAt H r b bl zs)(s:Same H H'):RuleAt H' r b bl zs:=⟨s _ _ R.tu,s _ _ R.li,λz a=>s _ _ (R.st z a)⟩
structure JH (b:Nat) (l:List Int):Prop where
 ne:l≠[]
 len:l.length<=4
 fig:∀f∈l,0<=f/\f<b
structure GoodRule (b:Nat) (ls:ZA):Prop where
 b2:2<=b
 b16:b<=16
 len:ls.length<=4
 st:∀l∈ls,JH b l
 up:ls.Pairwise λx y=>HT.lexLt x y=true
theorem Wk(xs:List V)(m:Nat):qi xs none (some (m:Int))=xs.take m:=by
 unfold qi;rw[HT.Uh,HT.Q7,il,cZ];by_cases h:m<=xs.length
 ·rw[fU h]
 ·rw[lE (by omega),bV (aq _),bV (by omega)]
theorem jb(xs:List V)(m:Nat):qi xs (some (m:Int)) none=xs.drop m:=by
 unfold qi;rw[HT.Uh,HT.Q7];by_cases h:m<=xs.length
 ·rw[fU h,bV (by rw[bR];omega)]
 ·rw[lE (by omega),dH (aq _),dH (by omega)];simp
theorem Wn{ls:ZA}:((ls.map xr).any λt=>teq t (xr x))=decide (x∈ls):=by
 rw[cH];simp only[cX,aQ,decide_eq_true_eq];constructor
 ·rintro⟨t,⟨l,a,rfl⟩,e⟩;rw[jw]at e;rw[<-of_decide_eq_true e];exact a
 ·intro h;exact⟨xr x,⟨x,h,rfl⟩,um _⟩
theorem vg:∀ls:ZA,wA (ls.map xr)<=1
 |[]=>by simp[wA]
 |l::ls=>by rw[bC,wA,qT];have:=vg ls;omega
theorem TrsAt.lists{K:aK}{H:Hp}:∀{zs:ZB},(∀z∈zs,H z.1=some (.lst (z.2.map V.int)))->TrsAt K H ((zs.map (·.2)).map xr) (zs.map λz=>V.ref z.1)
 |[],_=>by rw[fG,fG,TrsAt];rfl
 |z::zs,h=>by
  rw[bC,bC,TrsAt];exact⟨_,_,rfl,TrAt.ints (SqL.of (h z bI)),TrsAt.lists λz hz=>h z (bQ _ hz)⟩
section
variable {P:bx} {w:bU} {K:aK} {mg:bZ->Option aD} {base:dj}
theorem zck(xs:List V)(k m:Nat):qi xs (some (k:Int)) (some (m:Int))=(xs.drop k).take (m-k):=by
 unfold qi;rw[HT.Uh,HT.Uh];by_cases a:k<=xs.length
 ·rw[fU a];by_cases b:m<=xs.length
  ·rw[fU b]
  ·rw[lE (by omega),bV (by rw[bR];omega),bV (by rw[bR];omega)]
 ·rw[dH (show xs.length<=k by omega),lE (show xs.length<=k by omega),dH (aq _)];simp
def Yb:Sp:=λvs H Q _=>Ex4 λsa fa st fs=>An7 (vs=[.ref sa,.ref fa]) (H sa=some (.lst (st.map V.int))) (H fa=some (.lst (fs.map V.int))) (st≠[]) (st.length<=1000) (fs.length<=1000) (∀H',Same H H'->Q (.bl (Wo st fs)) H')
theorem Yt:zF ["stretch","figures","size"] ["stretch","figures"] (zx wY):={}
theorem UG(D:Df K mg "stands_within" wY A6 f fd)(T:Blt mg):FnOk P w K mg base CX0 1 f fd A6 Yb:=by
 refine D.fn.ok Yt (λvs H Q E h=>?_) (λcdv A outer s H vs Q E hr h=>?_)
 ·obtain⟨sa,fa,st,fs,rfl,_⟩:=h;rfl
 ·obtain⟨sa,fa,st,fs,rfl,hs,hf,ne,hl1,hl2,kk⟩:=h;have HU:=Yr hr;refine yW ?_;intro XX;let q1:Sq XX ((zq wY).drop 1):=⟨_,zu (zG (zA (zfO K rfl) (by rfl) T.n_any Lb (zf (yD (show CScope (zx wY) _ "k" ["stretch","figures","size"] ["stretch","figures","size"] [0,1,2] from {}) rfl (yL rfl T.n_range (zf (zP wL (zP qG (zA (vY K) (by rfl) T.n_len PySem.boot_len (zf (pv 1) zg)) (pv 2)) zr) zg)) (λ_ _ _ _=>xq) (λ_ _ _ _=>(xK (Wz K HU) (xZ (ZQ K) (pv 2) (wR (pv 0)) (wR (zP wL (pv 0) (pv 3)))) (pv 1) (zM _)))) zg)))⟩
  refine⟨_,(zm (zE (i:=2) Yt.nd rfl (lK rfl) (zA (vY K) (by rfl) T.n_len PySem.boot_len (zf (pv 0) zg))) q1.p),?_⟩;refine⟨_,rfl,sa,_,rfl,.inl (SqL.of hs),?_⟩;rw[aa];refine⟨_,rfl,fa,_,rfl,.inl (SqL.of hf),_,rfl,_,_,rfl,rfl,_,_,rfl,rfl,_,rfl,?_⟩;rw[aa];let J1:Nat->List V->L2.Hp->Prop:=λi ys H4=>ys=((bJ i).map λk=>decide ((fs.drop k).take st.length=st)).map V.bl/\Same H H4;refine⟨by omega,by omega,tQ J1 ⟨by simp,Same.refl _⟩ ?_ ?_⟩
  ·rintro i ys H4 hi ⟨rfl,s4⟩;refine⟨by rw[aa,aa,cg];exact aO (show i<2000 by omega) (by decide),?_⟩;unfold Zr;refine⟨_,rfl,_,rfl,_,rfl,_,rfl,_,rfl,_,_,rfl,rfl,_,rfl,fa,_,rfl,SqL.of (s4 _ _ hf),λp hp=>?_⟩;have e1:qi (fs.map V.int) (some (0+i)) (some (0+i+st.length))=((fs.drop i).take st.length).map V.int:=by
    have e:(0+i+st.length)=((i+st.length:Nat):Int):=by omega
    rw[e,eG,zck,oF,rQ,mJ]
   rw[e1];refine⟨_,rfl,xr ((fs.drop i).take st.length),xr st,TrAt.ints (SqL.of zj),TrAt.ints (SqL.of (zp hp _ _ (s4 _ _ hs))),(by rw[qT];decide),?_,s4.trans (zp hp)⟩;rw[dY,aH,aH];have e2:=jw ((fs.drop i).take st.length) st;show _=_++[V.bl (decide ((fs.drop i).take st.length=st))]
   rw[<-e2];rfl
  ·rintro ys H4 ⟨rfl,s4⟩ Dd hD;refine⟨Dd,_,rfl,SqL.of zj,?_⟩;have q:=kk _ (s4.trans (zp hD (o:=.lst (((bJ ((fs.length:Int)-st.length+1).toNat).map λk=>decide ((fs.drop k).take st.length=st)).map V.bl))));rw[zd8 ne]at q;rw[pA];exact q
def jQ:Sp:=λvs H Q _=>Ex4 λ(bl:au) (fa:au) (zs:ZB) (fs:List Int)=>An8 (vs=[.ref bl,.ref fa]) (H bl=some (.lst (zs.map λz=>V.ref z.1))) ((∀z∈zs,H z.1=some (.lst (z.2.map V.int)))) (H fa=some (.lst (fs.map V.int))) (zs.length<=100) (fs.length<=1000) ((∀z∈zs,z.2≠[]/\z.2.length<=1000)) (∀H',Same H H'->Q (.bl (lacks (zs.map (·.2)) fs)) H')
theorem zbv:zF ["bad","figures"] ["bad","figures"] (zx uH):={}
theorem zcb(D:Df K mg "lacks_all" uH Ad f fd)(qy:Df K mg "stands_within" wY A6 f1 fd1)(T:Blt mg):FnOk P w K mg base CX0 2 f fd Ad jQ:=by
 have y:FnOk P w K mg base CX0 1 f1 fd1 A6 Yb:=UG qy T;refine D.fn.ok zbv (λB H Q E h=>?_) (λcdv A outer s H B Q E C h=>?_)
 ·obtain⟨p,r,d,g,rfl,_⟩:=h;rfl
 ·obtain⟨p,r,d,g,rfl,t,F,G,m,n,u,I⟩:=h;refine⟨_,(zu (zG (zbG (zA (zfO K rfl) (by rfl) T.n_any Lb (zf (yD (show CScope (zx uH) _ "stretch" ["bad","figures"] ["figures"] [1] from {}) rfl (qj K (pv 0)) (λ_ _ _ _=>xq) (λ_ _ _ _=>(zL qy y (C.mono (by decide)) (zf (pv 0) (zf (pv 1) zg))))) zg))))),?_⟩;let J:Nat->List V->L2.Hp->Prop:=λi k l=>k=((d.take i).map λz=>Wo z.2 g).map V.bl/\Same H l;refine⟨_,rfl,p,rfl,⟨_,SqL.of t⟩,yK J ⟨by simp,Same.refl _⟩ (λi k l _ ⟨_,e⟩=>SqL.of (e _ _ t)) ?_ ?_⟩
  ·rintro j x k l v ⟨rfl,b⟩;rw[ao]at v;obtain⟨z,c,e⟩:=aY.mp v;subst e;have a:=aL c;refine⟨?_,?_⟩
   ·rw[aa,aa,bA];exact aR (aB (nW _ _) m) (by decide)
   unfold Zr;dsimp only;refine⟨_,rfl,_,rfl,z.1,r,z.2,g,rfl,b _ _ (F z a),b _ _ G,(u z a).1,(u z a).2,n,λH5 L=>⟨?_,b.trans L⟩⟩;rw[bY,c];simp
  ·rintro k l ⟨rfl,b⟩ M N;refine⟨M,_,rfl,SqL.of zj,_,rfl,?_⟩;have q:=I _ (b.trans (zp N (o:=.lst (((d.take (d.map λz=>V.ref z.1).length).map λz=>Wo z.2 g).map V.bl))));rw[aa,bT]at q ⊢;unfold lacks at q;rw[pA]at q ⊢;exact q
end
def Sto(H:Hp)(s:au):Prop:=∃g x k:Int,H s=some (.lst [.int g,.int x,.int k])
theorem Sto.ne(S:Sto H s)(h:H p=none):p≠s:=λz=>by
 obtain⟨g,x,k,e⟩:=S;rw[z,e]at h;cases h
structure Stq (s:au) (H H':Hp):Prop where
 st:Sto H' s
 sm:∀b o,b≠s->H b=some o->H' b=some o
theorem Stq.refl(S:Sto H s):Stq s H H:=⟨S,λ_ _ _ e=>e⟩
theorem Stq.trans(a:Stq s H H1)(b:Stq s H1 H2):Stq s H H2:=⟨b.st,λc o h e=>b.sm c o h (a.sm c o h e)⟩
theorem Stq.same(a:Stq s H H1)(m:Same H1 H2):Stq s H H2:=⟨by obtain⟨g,x,k,e⟩:=a.st;exact⟨g,x,k,m _ _ e⟩,λc o h e=>m c o (a.sm c o h e)⟩
theorem Stq.of(S:Sto H s)(m:Same H H'):Stq s H H':=(Stq.refl S).same m
theorem Stq.free(a:Stq s H H')(h:H' p=none):H p=none:=by
 cases e:H p with
 |none=>rfl
 |some o=>
  have:=a.sm p o (a.st.ne h) e;rw[h]at this;cases this
theorem Stq.new(a:Stq s H H')(h:H' p=none):Stq s H (upd H' p o):=a.same (zp h)
section
variable {P:bx} {w:bU} {K:aK} {mg:bZ->Option aD} {base:dj}
def V3(K:aK):Sp:=λvs H Q _=>Ex3 λ(a:au) (ns:List Int) (k:Nat)=>An5 (vs=[.ref a,.int k]) (SqL K H a (ns.map V.int)) (ns.length<=63) (k<=1000) (∀c:Int,Q (.int c) H)
theorem zbX:zF ["script","k"] ["script","k"] (zx jA):={}
theorem zbV(D:Df K mg "_law_cell" jA Ay f fd)(T:Blt mg):FnOk P w K mg base CX0 1 f fd Ay (V3 K):=by
 refine D.fn.ok zbX (λi H Q E h=>?_) (λcdv A outer s H i Q E hr h=>?_)
 ·obtain⟨a,c,k,rfl,_⟩:=h;rfl
 ·obtain⟨a,c,k,rfl,e,hlen,hk,g⟩:=h;refine yW ?_;intro j;let l:Sq j ((zq jA).drop 1):=⟨_,zu (zG (zP wL (zP wL (zP Zc (zP Zc zr (pv 1)) (pv 1)) (zP Zc zr (pv 1))) zr))⟩
  refine⟨_,(zm (yw (zK QQ (pv 1) (zA (vY K) (by rfl) T.n_len PySem.boot_len (zf (pv 0) zg)) (zM _))
    (zu (zG (zQ (yt K) (pv 0) (pv 1) (λ_ _=>rfl))))
    zR) l.p),?_⟩
  refine⟨_,rfl,_,rfl,a,_,rfl,.inl e,_,_,rfl,rfl,_,rfl,?_⟩;refine zbz (λd=>?_) (λ_=>?_)
  ·have b:k<c.length:=by
    have:=of_decide_eq_true d;rw[aa]at this;omega
   refine⟨_,rfl,_,rfl,a,_,_,.int (c[k]),rfl,rfl,e,?_,g _⟩;exact yZ (by rw[ao,aj b];rfl)
  ·refine⟨_,rfl,_,_,rfl,rfl,.inl ⟨by decide,by decide⟩,_,rfl,_,_,rfl,rfl,.inr ⟨by omega,by omega⟩,_,rfl,_,_,rfl,rfl,.inl ⟨by decide,by decide⟩,_,_,rfl,rfl,_,_,rfl,rfl,g _⟩
def WF:Sp:=λvs H Q _=>∃c:Int,vs=[.int c]/\∀s H',H s=none->Sto H' s->Same H H'->Q (.ref s) H'
theorem Z4:zF ["cell","great"] ["cell"] (zx uO):={}
theorem zap(D:Df K mg "_law_store" uO ["cell"] f fd)(T:Blt mg):FnOk P w K mg base CX0 1 f fd ["cell"] WF:=by
 refine D.fn.ok Z4 (λe H Q E h=>?_) (λcdv A outer s H e Q E hr h=>?_)
 ·obtain⟨c,rfl,_⟩:=h;rfl
 ·obtain⟨c,rfl,b⟩:=h;refine yW ?_;intro d;let g:Sq d ((zq uO).drop 2):=⟨_,zu (zG (zY (zf (pv 1) (zf (zP Z3 (pv 0) zr) (zf zr zg)))))⟩
  let j:Sq d ((zq uO).drop 1):=⟨_,zm (yw (zK zha (pv 0) (zP zg3 zr zr) (zM _))
    (zu (zE (i:=1) Z4.nd rfl (bf rfl) (pv 0)))
    zR) g.p⟩
  refine⟨_,(zm (zE (i:=1) Z4.nd rfl (bf rfl) zr) j.p),?_⟩;refine⟨_,rfl,_,_,rfl,rfl,⟨by decide,by decide,by decide⟩,_,_,rfl,rfl,_,rfl,?_⟩;generalize decide (10^(18:Int).toNat<=c)=bb;cases bb with
  |true=>
   refine yz ?_;refine⟨_,rfl,_,rfl,_,rfl,_,_,rfl,rfl,(by decide),(by decide:3<=aA),λl a=>?_⟩;exact b l _ a ⟨_,_,_,zj⟩ (zp a)
  |false=>
   refine yG ?_;refine⟨_,rfl,_,rfl,_,_,rfl,rfl,(by decide),(by decide:3<=aA),λl a=>?_⟩;exact b l _ a ⟨_,_,_,zj⟩ (zp a)
def xg:Sp:=λvs H Q _=>Ex2 λs m=>An5 (vs=[.ref s,.int m]) (Sto H s) (0<m) (m<2^200) (∀(r:Nat) (H':Hp),(r:Int)<m->Stq s H H'->Q (.int r) H')
theorem qx:zF ["store","many","told","one"] ["store","many"] (zx yj):={}
theorem w6(D:Df K mg "_law_take" yj Ae f fd)(T:Blt mg):FnOk P w K mg base CX0 1 f fd Ae xg:=by
 refine D.fn.ok qx (λB H Q E h=>?_) (λcdv A outer s H B Q E z h=>?_)
 ·obtain⟨s,m,rfl,_⟩:=h;rfl
 ·obtain⟨a,m,rfl,S,c,t,C⟩:=h;obtain⟨g,x,k,l⟩:=id S;refine yW ?_;intro d;let F:Sq d ((zq yj).drop 5):=⟨_,zu (zG (zP Z3 (zP Xh (pv 3) zr) (pv 1)))⟩
  let G:Sq d ((zq yj).drop 4):=⟨_,zm (zE (i:=3) qx.nd rfl (bf rfl) (zP Z3 (zP Zc (zP wL (pv 3) (zP Zc zr (zQ (yt K) (pv 0) zr (λ_ _=>rfl)))) zr) zr)) F.p⟩
  let I:Sq d ((zq yj).drop 3):=⟨_,zm (zE (i:=3) qx.nd rfl (bf rfl) (zP Z3 (zP Zc (pv 3) (pv 3)) zr)) G.p⟩
  let J:Sq d ((zq yj).drop 2):=⟨_,zm (zE (i:=3) qx.nd rfl (bf rfl) (zP Z3 (zP Zc (zP wL (zQ (yt K) (pv 0) zr (λ_ _=>rfl)) (zP Zc zr (zQ (yt K) (pv 0) zr (λ_ _=>rfl)))) zr) zr)) I.p⟩
  let L:Sq d ((zq yj).drop 1):=⟨_,zm (WY (zP wL (zQ (yt K) (pv 0) zr (λ_ _=>rfl)) zr) (zgY (pv 0) zr set_list)) J.p⟩
  let M:Sq d ((sb (zq yj) 0 true).drop 2):=⟨_,zu (zG (pv 2))⟩
  let N:Sq d ((sb (zq yj) 0 true).drop 1):=⟨_,zm (WY (zP Xh (zQ (yt K) (pv 0) zr (λ_ _=>rfl)) (pv 1)) (zgY (pv 0) zr set_list)) M.p⟩
  refine⟨_,(zm (yw (zK Us (zQ (yt K) (pv 0) zr (λ_ _=>rfl)) zr (zM _))
    (zm (zE (i:=2) qx.nd rfl (bf rfl) (zP Z3 (zQ (yt K) (pv 0) zr (λ_ _=>rfl)) (pv 1))) N.p)
    zR) L.p),?_⟩
  have n:∀(u:Hp) (y:Int) (g x k:Int),u=upd H a (.lst [.int g,.int x,.int k])->Q (.int (y % m)) u:=by
   intro u y g x k e;subst e;have h0:0<=y % m:=Gk _ (by omega);have h1:y % m<m:=Eg _ c;obtain⟨r,z⟩:∃r:Nat,y % m=(r:Int):=⟨(y % m).toNat,by omega⟩
   rw[z];exact C r _ (by omega) ⟨⟨_,_,_,zj⟩,λb o O e=>by rw[zy O];exact e⟩
  refine⟨_,rfl,a,_,_,_,rfl,rfl,SqL.of l,rfl,_,_,rfl,rfl,_,rfl,?_⟩;refine zbz (λ_=>?_) (λ_=>?_)
  ·refine⟨_,rfl,a,_,_,V.int g,rfl,rfl,SqL.of l,rfl,_,rfl,_,_,rfl,rfl,c,?_⟩;refine⟨_,rfl,a,_,_,V.int g,rfl,rfl,SqL.of l,rfl,_,rfl,_,_,rfl,rfl,⟨c,t⟩,_,rfl,a,_,_,0,rfl,rfl,l,rfl,?_⟩;refine⟨_,rfl,?_⟩;exact n _ g (g / m) x k rfl
  ·refine⟨_,rfl,a,_,_,V.int k,rfl,rfl,SqL.of l,rfl,_,_,rfl,rfl,_,rfl,a,_,_,2,rfl,rfl,l,rfl,?_⟩;have j:upd H a (.lst [V.int g,V.int x,V.int (k+1)]) a=some (.lst [V.int g,V.int x,V.int (k+1)]):=zj;refine⟨_,rfl,a,_,_,V.int x,rfl,rfl,SqL.of j,rfl,?_⟩;refine⟨_,rfl,a,_,_,V.int (k+1),rfl,rfl,SqL.of j,rfl,_,_,rfl,rfl,.inl ⟨by decide,by decide⟩,_,_,rfl,rfl,_,_,rfl,rfl,.inr ⟨by decide,by decide⟩,_,_,rfl,rfl,(by decide:(0:Int)<2147483647),?_⟩;generalize v:(x+7919*(k+1))*48271 % 2147483647=q;have n1b:0<=q/\q<2147483647:=by rw[<-v];exact⟨Gk _ (by decide),Eg _ (by decide)⟩
   refine⟨_,rfl,_,rfl,_,_,rfl,rfl,.inl ⟨by omega,by omega⟩,_,_,rfl,rfl,(by decide:(0:Int)<2147483629),?_⟩;generalize hn2:q*q % 2147483629=R;refine⟨_,rfl,_,rfl,a,_,_,V.int (k+1),rfl,rfl,SqL.of j,rfl,_,_,rfl,rfl,.inl ⟨by decide,by decide⟩,_,_,rfl,rfl,_,_,rfl,rfl,.inr ⟨by decide,by decide⟩,_,_,rfl,rfl,(by decide:(0:Int)<2147483587),?_⟩;generalize hn3:(R+40692*(k+1))*69621 % 2147483587=n3;refine⟨_,rfl,_,_,rfl,rfl,⟨by decide,by decide⟩,_,rfl,_,_,rfl,rfl,c,?_⟩;exact n _ _ _ _ _ rfl
def V6:Sp:=λvs H Q _=>∃s:au,An3 (vs=[.ref s]) (Sto H s) (∀(b:Nat) (H':Hp),2<=b->b<=16->Stq s H H'->Q (.int b) H')
theorem zbh:zF ["store"] ["store"] (zx jt):={}
set_option maxHeartbeats 0 in
theorem zb8(D:Df K mg "_law_base" jt Ac f fd)(zB:Df K mg "_law_take" yj Ae f1 fd1)(T:Blt mg):FnOk P w K mg base CX0 2 f fd Ac V6:=by
 have i:FnOk P w K mg base CX0 1 f1 fd1 Ae xg:=w6 zB T;refine D.fn.ok zbh (λp H Q E h=>?_) (λcdv A outer s H p Q E j h=>?_)
 ·obtain⟨s,rfl,_⟩:=h;rfl
 ·obtain⟨k,rfl,S,q⟩:=h;refine⟨_,(zu (zG (zQ (yt K) (zY (zf zr (zf zr (zf zr (zf zr (zf (zP wL zr (zL zB i (j.mono (by decide)) (zf (pv 0) (zf zr zg)))) zg)))))) (zL zB i (j.mono (by decide)) (zf (pv 0) (zf zr zg))) (λ_ _=>rfl)))),?_⟩;refine⟨_,rfl,?_⟩;refine⟨k,15,rfl,S,(by decide),(by decide),λd H1 hx1 l=>?_⟩;refine⟨2,d,rfl,rfl,?_⟩;refine⟨(by show 5<=aA;decide),λr a=>?_⟩;have t:=l.st.ne a;have m:=l.new a (o:=.lst [.int 2,.int 3,.int 10,.int 16,.int (2+(d:Int))]);refine⟨_,rfl,k,_,rfl,m.st,(by decide),(by decide),λe u hx2 n=>?_⟩;obtain⟨b,v,g,c⟩:∃b:Nat,atI [V.int 2,V.int 3,V.int 10,V.int 16,V.int (2+(d:Int))] (e:Int)=some (.int b)/\2<=b/\b<=16:=by
   have x:e<5:=by omega
   match e,x with
   |0,_=>exact⟨2,rfl,by omega,by omega⟩
   |1,_=>exact⟨3,rfl,by omega,by omega⟩
   |2,_=>exact⟨10,rfl,by omega,by omega⟩
   |3,_=>exact⟨16,rfl,by omega,by omega⟩
   |4,_=>exact⟨2+d,rfl,by omega,by omega⟩
  exact⟨r,_,_,_,rfl,rfl,SqL.of (n.sm _ _ t zj),v,q b u g c (m.trans n)⟩
def jJ:Sp:=λvs H Q _=>Ex3 λ(s:au) (b:Nat) (few:Nat)=>An6 (vs=[.ref s,.int b,.int few]) (Sto H s) (2<=few) (few<=b) (b<=16) (∀l ms H',Stq s H H'->H l=none->H' l=some (.lst (ms.map V.int))->JH b ms->Q (.ref l) H')
theorem Y7:zF ["store","base","few","many"] ["store","base","few"] (zx xf):={}
theorem Xb(D:Df K mg "_law_stretch" xf Am f fd)(zB:Df K mg "_law_take" yj Ae f1 fd1)(T:Blt mg):FnOk P w K mg base CX0 2 f fd Am jJ:=by
 have t:FnOk P w K mg base CX0 1 f1 fd1 Ae xg:=w6 zB T;refine D.fn.ok Y7 (λI H Q E h=>?_) (λcdv A outer s H I Q E u h=>?_)
 ·obtain⟨s,b,few,rfl,_⟩:=h;rfl
 ·obtain⟨r,b,few,rfl,S,hf2,hfb,hb16,J⟩:=h;refine yW ?_;intro L;let M:Sq L ((zq xf).drop 1):=⟨_,zu (zG (yD (show CScope (zx xf) _ "k" ["store","base","few","many"] ["store","few","base"] [0,2,1] from {}) rfl (yL rfl T.n_range (zf (pv 3) zg)) (λ_ _ _ _=>xq) (λ_ _ _ _=>(zL zB t (u.mono (by decide)) (zf (pv 1) (zf (zQ (yt K) (zY (zf (pv 2) (zf (pv 2) (zf (pv 3) zg)))) (zL zB t (u.mono (by decide)) (zf (pv 1) (zf zr zg))) (λ_ _=>rfl)) zg))))))⟩
  refine⟨_,(zm (zE (i:=3) Y7.nd rfl (bf rfl) (zP wL zr (zL zB t (u.mono (by decide)) (zf (pv 0) (zf zr zg))))) M.p),?_⟩;refine⟨_,rfl,r,_,rfl,S,(by decide),(by decide),λN H1 hx1 O=>⟨_,_,rfl,rfl,?_⟩⟩;let R:Nat->List V->L2.Hp->Prop:=λj v x=>Stq r H x/\∃d:List Int,v=d.map V.int/\d.length=j/\∀f∈d,0<=f/\f<b;refine⟨_,rfl,(1+N),rfl,by omega,by omega,tQ R ⟨O,[],rfl,rfl,by simp⟩ ?_ ?_⟩
  ·rintro j v x hj ⟨l,d,rfl,c,g⟩;refine⟨by rw[aa,c];exact aO (show j<5 by omega) (by decide),?_⟩;unfold Zr;dsimp only;refine⟨_,rfl,_,rfl,_,rfl,_,rfl,(by show 3<=aA;decide),λU n=>?_⟩;have W:=l.st.ne n;have C:=l.new n (o:=.lst [.int few,.int few,.int b]);refine⟨_,rfl,r,_,rfl,C.st,(by decide),(by decide),λy H4 hx2 B=>?_⟩;obtain⟨m,X,hm1,hm2⟩:∃m:Nat,atI [V.int few,V.int few,V.int b] y=some (.int m)/\2<=m/\m<=b:=by
    have Y:y<3:=by omega
    match y,Y with
    |0,_=>exact⟨few,rfl,by omega,by omega⟩
    |1,_=>exact⟨few,rfl,by omega,by omega⟩
    |2,_=>exact⟨b,rfl,by omega,by omega⟩
   refine⟨U,_,_,_,rfl,rfl,SqL.of (B.sm _ _ W zj),X,r,_,rfl,B.st,by omega,by omega,λF H5 hx3 Z=>⟨(C.trans B).trans Z,d++[(F:Int)],by simp,by simp[c],λf q=>?_⟩⟩;rcases aZ.mp q with q | q
   ·exact g f q
   ·have e:f=F:=by simpa using q
    omega
  ·rintro v x ⟨l,d,rfl,c,g⟩ p G;exact J p d _ (l.new G) (l.free G) zj ⟨λz=>by rw[z]at c;simp at c;omega,by omega,g⟩
theorem zfX(d:DE P w H a kvs)(St:Sto H s)(S:Stq s H H'):DE P w H' a kvs:=by
 obtain⟨f,h,c,i,j⟩:=d;obtain⟨g,x,k,e⟩:=St;exact⟨f,h,S.sm _ _ (qp c e nofun) c,i.keeps λb ys q=>S.sm _ _ (qp q e nofun) q,j⟩
structure zjw (H0 H:Hp) (bl:au) (b:Nat) (zs:ZB):Prop where
 li:H bl=some (.lst (zs.map λz=>V.ref z.1))
 st:∀z∈zs,H z.1=some (.lst (z.2.map V.int))
 nl:H0 bl=none
 ns:∀z∈zs,H0 z.1=none
 len:zs.length<=4
 good:∀z∈zs,JH b z.2
 up:(zs.map (·.2)).Pairwise λx y=>HT.lexLt x y=true
def Qf:Sp:=λvs H Q _=>Ex2 λ(s:au) (b:Nat)=>An5 (vs=[.ref s,.int b]) (Sto H s) (2<=b) (b<=16) (∀bl zs H',Stq s H H'->zjw H H' bl b zs->Q (.ref bl) H')
theorem jo:zF ["store","base","few","known","k","one"] ["store","base"] (zx vJ):={}
theorem zcA(D:Df K mg "_law_bad" vJ Aq f fd)(zB:Df K mg "_law_take" yj Ae f1 fd1)(yI:Df K mg "_law_stretch" xf Am f2 fd2)(T:Blt mg):FnOk P w K mg base CX0 3 f fd Aq Qf:=by
 have zN:FnOk P w K mg base CX0 1 f1 fd1 Ae xg:=w6 zB T;have Z0:FnOk P w K mg base CX0 2 f2 fd2 Am jJ:=Xb yI zB T;refine D.fn.ok jo (λvs H Q E h=>?_) (λcdv A outer s H vs Q E hr h=>?_)
 ·obtain⟨s,b,rfl,_⟩:=h;rfl
 ·obtain⟨sa,b,rfl,S,hb2,af,kk⟩:=h;refine yW ?_;intro XX;let q1:Sq XX ((zq vJ).drop 3):=⟨_,zu (zG (yD (show CScope (zx vJ) _ "one" ["store","base","few","known","k","one"] [] [] from {}) rfl (qj K (zA (zgt P w) (by rfl) T.n_sorted CW (zf (pv 3) zg))) (λ_ _ _ _=>xq) (λ_ _ _ _=>(yU (Yl K) (by rfl) T.n_list gF (zf (pv 0) zg)))))⟩
  let q2:Sq XX ((sb (zq vJ) 2 true).drop 1):=⟨_,zu (zbE (vG hr) (pv 3) (yU Z7 (by rfl) T.n_tuple pZ (zf (pv 5) zg)) qM rfl)⟩
  let q3:Sq XX ((zq vJ).drop 2):=⟨_,zm (wj bK rfl (yL rfl T.n_range (zf (zL zB zN (hr.mono (by decide)) (zf (pv 0) (zf zr zg))) zg)) (zX (i:=4) jo.nd rfl (bf rfl))
    (zm (zE (i:=5) jo.nd rfl (bf rfl) (zL yI Z0 (hr.mono (by decide)) (zf (pv 0) (zf (pv 1) (zf (pv 2) zg))))) q2.p)) q1.p⟩
  let q4:Sq XX ((zq vJ).drop 1):=⟨_,zm (zE (i:=3) jo.nd rfl (bf rfl) zbW) q3.p⟩
  refine⟨_,(zm (zE (i:=2) jo.nd rfl (bf rfl) (zA (UT rfl) (by rfl) T.n_min Le (zf (pv 1) (zf (zQ (yt K) (zY (zf zr (zf zr (zf (pv 1) zg)))) (zL zB zN (hr.mono (by decide)) (zf (pv 0) (zf zr zg))) (λ_ _=>rfl)) zg)))) q4.p),?_⟩;refine⟨_,rfl,_,rfl,(by show 3<=aA;decide),λl1 ag=>?_⟩;have n1:=S.ne ag;have S1:=(Stq.refl S).new ag (o:=.lst [.int 2,.int 3,.int b]);refine⟨_,rfl,sa,_,rfl,S1.st,(by decide),(by decide),λx1 H2 hx1 S2=>?_⟩;obtain⟨m,hm,hm2⟩:∃m:Nat,atI [V.int 2,V.int 3,V.int b] (x1:Int)=some (.int m)/\2<=m:=by
   have h3:x1<3:=by omega
   match x1,h3 with
   |0,_=>exact⟨2,rfl,by omega⟩
   |1,_=>exact⟨3,rfl,by omega⟩
   |2,_=>exact⟨b,rfl,by omega⟩
  refine⟨l1,_,_,_,rfl,rfl,SqL.of (S2.sm _ _ n1 zj),hm,_,_,rfl,?_⟩;obtain⟨few,ah,R,U⟩:∃few:Nat,(if (m:Int)<(b:Int) then (m:Int) else (b:Int))=(few:Int)/\2<=few/\few<=b:=by
   by_cases z:m<b
   ·exact⟨m,by rw[if_pos (by omega)],by omega,by omega⟩
   ·exact⟨b,by rw[if_neg (by omega)],by omega,by omega⟩
  rw[ah];have W:=S1.trans S2;intro kd H3 X d3 c3;have ay:=W.st.ne X;have ai:=W.free X;have S3:=W.same (H2:=H3) (λc u e=>by rw[c3 c (zz e X)];exact e);refine⟨_,rfl,sa,_,rfl,S3.st,(by decide),(by decide),λx2 H4 hx2 S4=>?_⟩;let J2:Nat->L2.St->L2.Hp->Prop:=λi Z H5=>Ex4 λ(v1:Option V) (v2:Option V) (d:List (List Key×V)) (C:ZA)=>An6 (Z=[some (.ref sa),some (.int b),some (.int few),some (.ref kd),v1,v2]) (Stq sa H H5) (DE P w H5 kd d) (d.map (·.1)=C.map kI) (C.length<=i) (∀l∈C,JH b l);refine⟨_,rfl,by omega,by omega,xj (lo:=0) (n:=(x2:Int).toNat) J2
   ⟨none,none,[],[],rfl,S3.trans S4,zfX d3 S3.st S4,rfl,aq _,by simp⟩ ?_ ?_⟩
  ·rintro i Z H5 hi ⟨v1,v2,d,C,rfl,S5,Y,t,bc,F⟩;refine⟨_,rfl,_,rfl,_,rfl,sa,b,few,rfl,S5.st,R,U,af,λl B H6 L hl0 bd be=>?_⟩;have bg:=zfX Y S5.st L;refine⟨_,rfl,_,rfl,l,_,rfl,.inl ⟨SqL.of bd,λtp al=>?_⟩⟩;have bh:=bg.same (zp al (o:=.tup (B.map V.int)));have hkl:d.length=C.length:=by have:=congrArg cB t;rwa[aa,aa]at this
   refine⟨kd,d,kI B,tp,rfl,bh,rfl,(by rw[Yg];exact zj),aR (show d.length<=4 by omega) (by decide),λH8 d8 c8=>?_⟩;have L:=(S5.trans L).new al (o:=.tup (B.map V.int));have S7:Stq sa H H8:=⟨by obtain⟨g,x,k,e⟩:=L.st;exact⟨g,x,k,by rw[c8 _ (cF ay)];exact e⟩,λc u hc e=>by rw[c8 c (zz e ai)];exact L.sm c u hc e⟩
   by_cases am:B∈C
   ·refine⟨_,_,putK d (kI B) (.bl true),C,rfl,S7,d8,?_,by omega,F⟩;unfold putK;rw[if_pos (by
     rw[cX];have:kI B∈d.map (·.1):=by rw[t];exact aQ.mpr ⟨B,am,rfl⟩
     obtain⟨M,h1,h2⟩:=aQ.mp this;exact⟨M,h1,decide_eq_true h2⟩),cC,<-t]
    refine eO λM _=>?_;show (if M.1=kI B then (M.1,V.bl true) else M).1=M.1;split<;>rfl
   ·refine⟨_,_,putK d (kI B) (.bl true),C++[B],rfl,S7,d8,?_,by rw[aF,aX];omega,λl hl=>?_⟩
    ·unfold putK;rw[if_neg (by
      rw[cX];rintro⟨M,h1,h2⟩;have h3:kI B∈d.map (·.1):=aQ.mpr ⟨M,h1,of_decide_eq_true h2⟩;rw[t]at h3;obtain⟨l,h4,h5⟩:=aQ.mp h3;exact am (UL h5▸h4)),aH,aH,t]
     rfl
    ·rcases aZ.mp hl with hl | hl
     ·exact F l hl
     ·have e:l=B:=by simpa using hl
      rw[e];exact be
  ·rintro Z H5 ⟨v1,v2,d,C,rfl,S5,Y,t,bc,F⟩;refine⟨_,rfl,kd,d,C,rfl,Y,t,by omega,λl hl=>(F l hl).ne,λp N hp pm pw hz=>?_⟩;have hzl:N.length=C.length:=by have:=pm.length_eq;rwa[aa]at this
   have L:=S5.new hp (o:=.lst (N.map λz=>V.ref z.1));let J3:Nat->List V->L2.Hp->Prop:=λi ys H7=>Same (upd H5 p (.lst (N.map λz=>V.ref z.1))) H7/\∃G:ZB,ys=G.map (λz=>V.ref z.1)/\G.map (·.2)=(N.take i).map (·.2)/\∀z∈G,H z.1=none/\H7 z.1=some (.lst (z.2.map V.int));refine⟨p,rfl,⟨_,SqL.of zj⟩,yK (K:=K) (a:=p) (xs:=N.map λz=>V.ref z.1) J3 ⟨Same.refl _,[],rfl,by simp,by simp⟩ (λi ys H7 _ ⟨O,_⟩=>SqL.of (O _ _ zj)) ?_ ?_⟩
   ·rintro j x ys H7 hx ⟨O,G,rfl,v,I⟩;rw[ao]at hx;obtain⟨z,ac,e⟩:=aY.mp hx;subst e;have bk:=aL ac;have hj:j<N.length:=(aV.mp ac).1;have bm:G.length<=j:=by have:=congrArg cB v;rw[aa,aa,bA]at this;omega
    refine⟨by rw[aa];exact aR (show G.length<=4 by omega) (by decide),?_⟩;unfold Zr;dsimp only;rw[if_pos rfl];refine⟨_,rfl,z.1,_,rfl,.inr (SqT.of (O _ _ (zp hp _ _ (hz z bk)))),λq hq=>⟨O.trans (zp hq),G++[(q,z.2)],by simp,?_,λy hy=>?_⟩⟩
    ·rw[aH,v,bY,ac];simp
    ·rcases aZ.mp hy with hy | hy
     ·exact⟨(I y hy).1,zp hq _ _ (I y hy).2⟩
     ·have e:y=(q,z.2):=by simpa using hy
      subst e;exact⟨L.free (O.free hq),zj⟩
   ·rintro ys H7 ⟨O,G,rfl,v,I⟩ bl ap;rw[aa,bT]at v;have bm:G.length=N.length:=by have:=congrArg cB v;rwa[aa,aa]at this
    have m8:=zp ap (o:=.lst (G.map λz=>V.ref z.1));refine kk bl G _ (L.same (O.trans m8)) ⟨zj,λz J=>m8 _ _ (I z J).2,L.free (O.free ap),λz J=>(I z J).1,by omega,λz J=>?_,?_⟩
    ·refine F _ ?_;have:z.2∈N.map (·.2):=by rw[<-v];exact aQ.mpr ⟨z,J,rfl⟩
     exact pm.mem_iff.mp this
    ·rw[v,fQ];exact pw
def WT:Sp:=λvs H Q _=>Ex4 λ(bl:au) (fa:au) (zs:ZB) (fs:List Int)=>An6 (vs=[.ref bl,.ref fa]) (H bl=some (.lst (zs.map λz=>V.ref z.1))) ((∀z∈zs,H z.1=some (.lst (z.2.map V.int)))) (H fa=some (.lst (fs.map V.int))) (zs.length<=100) (∀H',Same H H'->Q (.bl (tG (zs.map (·.2)) fs)) H')
theorem zaj:zF ["bad","figures"] ["bad","figures"] (zx qz):={}
theorem zax(D:Df K mg "begins_one" qz Ad f fd)(T:Blt mg):FnOk P w K mg base CX0 1 f fd Ad WT:=by
 refine D.fn.ok zaj (λB H Q E h=>?_) (λcdv A outer s H B Q E C h=>?_)
 ·obtain⟨n,r,d,a,rfl,_⟩:=h;rfl
 ·obtain⟨n,r,d,a,rfl,t,F,u,l,G⟩:=h;have I:=Yr C;refine⟨_,(zu (zG (zA (zfO K rfl) (by rfl) T.n_any Lb (zf (yD (show CScope (zx qz) _ "stretch" ["bad","figures"] ["figures"] [1] from {}) rfl (qj K (pv 0)) (λ_ _ _ _=>xq) (λ_ _ _ _=>(xK (Wz K I) (xZ (ZQ K) (pv 0) uz (wR (zA (vY K) (by rfl) T.n_len PySem.boot_len (zf (pv 1) zg)))) (pv 1) (zM _)))) zg)))),?_⟩;let J:Nat->List V->L2.Hp->Prop:=λi g k=>g=((d.take i).map λz=>decide (z.2.take a.length=a)).map V.bl/\Same H k;refine⟨_,rfl,n,rfl,⟨_,SqL.of t⟩,yK J ⟨by simp,Same.refl _⟩ (λi g k _ ⟨_,e⟩=>SqL.of (e _ _ t)) ?_ ?_⟩
  ·rintro j x g k v ⟨rfl,b⟩;rw[ao]at v;obtain⟨z,c,e⟩:=aY.mp v;subst e;have m:=aL c;refine⟨?_,?_⟩
   ·rw[aa,aa,bA];exact aR (aB (nW _ _) l) (by decide)
   unfold Zr;refine⟨_,rfl,_,rfl,r,_,rfl,.inl (SqL.of (b _ _ u)),_,rfl,z.1,_,rfl,SqL.of (b _ _ (F z m)),λp y=>?_⟩;rw[aa,Wk,<-oF];refine⟨_,rfl,xr (z.2.take a.length),xr a,TrAt.ints (SqL.of zj),TrAt.ints (SqL.of (zp y _ _ (b _ _ u))),(by rw[qT];decide),?_,b.trans (zp y)⟩;rw[bY,c];have L:=jw (z.2.take a.length) a;rw[L];simp
  ·rintro g k ⟨rfl,b⟩ M N;refine⟨M,_,rfl,SqL.of zj,?_⟩;have q:=G _ (b.trans (zp N (o:=.lst (((d.take (d.map λz=>V.ref z.1).length).map λz=>decide (z.2.take a.length=a)).map V.bl))));rw[aa,bT]at q ⊢;unfold tG at q;rw[pA]at q ⊢;exact q
def ziE(ls:ZA)(fs:List Int)(H H':Hp)(v:V):Prop:=(lacks ls fs=false/\v=.non)\/(lacks ls fs=true/\∃l,v=.ref l/\H l=none/\H' l=some (.lst ((zW ls fs).map V.int)))
def Yp:Sp:=λvs H Q _=>Ex4 λ(bl:au) (fa:au) (zs:ZB) (fs:List Int)=>An8 (vs=[.ref bl,.ref fa]) (H bl=some (.lst (zs.map λz=>V.ref z.1))) ((∀z∈zs,H z.1=some (.lst (z.2.map V.int)))) (H fa=some (.lst (fs.map V.int))) (zs.length<=100) (fs.length<=1000) ((∀z∈zs,z.2≠[]/\z.2.length<=1000)) (∀v H',ziE (zs.map (·.2)) fs H H' v->Same H H'->Q v H')
theorem Yd:zF ["bad","figures","start"] ["bad","figures"] (zx wZ):={}
theorem U0(D:Df K mg "longest_stand" wZ Ad f fd)(vC:Df K mg "lacks_all" uH Ad f1 fd1)(uh:FnOk P w K mg base CX0 2 f1 fd1 Ad jQ)(Zw:Df K mg "begins_one" qz Ad f2 fd2)(T:Blt mg):FnOk P w K mg base CX0 3 f fd Ad Yp:=by
 have u:FnOk P w K mg base CX0 1 f2 fd2 Ad WT:=zax Zw T;refine D.fn.ok Yd (λN H Q E h=>?_) (λcdv A outer s H N Q E G h=>?_)
 ·obtain⟨m,c,d,a,rfl,_⟩:=h;rfl
 ·obtain⟨m,c,d,a,rfl,I,J,n,g,v,O,x⟩:=h;refine yW ?_;intro L;let R:Sq L ((zq wZ).drop 2):=⟨_,zu (zG (zY zg))⟩
  let S:Sq L ((zq wZ).drop 1):=⟨_,zm (wj bK rfl (yL rfl T.n_range (zf (zA (vY K) (by rfl) T.n_len PySem.boot_len (zf (pv 1) zg)) zg)) (zX (i:=2) Yd.nd rfl (bf rfl))
    (zu (yw (xx (zL Zw u (G.mono (by decide)) (zf (pv 0) (zf (xZ (ZQ K) (pv 1) (wR (pv 2)) uz) zg))))
     (zu (zG (xZ (ZQ K) (pv 1) (wR (pv 2)) uz)))
     zR))) R.p⟩
  refine⟨_,(zm (yw (vK (xx (zL vC uh (G.mono (by decide)) (zf (pv 0) (zf (pv 1) zg)))))
    (zu (zG yQ))
    zR) S.p),?_⟩
  refine⟨_,rfl,_,rfl,m,c,d,a,rfl,I,J,n,g,v,O,λH1 y=>⟨_,rfl,?_⟩⟩;cases hL:lacks (d.map (·.2)) a with
  |false=>exact yz (x _ _ (.inl ⟨hL,rfl⟩) y)
  |true=>
   refine yG ?_;let U:Nat->L2.St->L2.Hp->Prop:=λi Z B=>∃C:Option V,An3 (Z=[some (.ref m),some (.ref c),C]) (Same H B) (∀k,k<i->tG (d.map (·.2)) (a.drop k)=false);refine⟨_,rfl,c,_,rfl,.inl (SqL.of (y _ _ n)),(((a.map V.int).length:Nat)),rfl,by omega,by rw[aa];omega,xj U ⟨none,rfl,y,λk M=>by omega⟩ ?_ ?_⟩
   ·rintro i Z B W ⟨C,rfl,j,b⟩;have hi':i<a.length:=by rw[aa]at W;omega
    refine⟨_,rfl,_,rfl,_,rfl,_,rfl,c,_,rfl,SqL.of (j _ _ n),λp X=>?_⟩;rw[eG,jb,<-rQ];have t:=j.trans (zp X (o:=.lst ((a.drop i).map V.int)));refine⟨m,p,d,a.drop i,rfl,t _ _ I,λz F=>t _ _ (J z F),zj,g,λH3 Y=>⟨_,rfl,?_⟩⟩;have r:=t.trans Y;cases hB:tG (d.map (·.2)) (a.drop i) with
    |true=>
     refine yz ⟨_,rfl,_,rfl,_,rfl,c,_,rfl,SqL.of (r _ _ n),λq l=>?_⟩;rw[jb,<-rQ];refine x _ _ (.inr ⟨hL,q,rfl,r.free l,?_⟩) (r.trans (zp l));rw[zj,zgy (by omega) b hB]
    |false=>
     refine yG ⟨_,rfl,r,λk M=>?_⟩;by_cases e:k<i
     ·exact b k e
     ·have:k=i:=by omega
      rw[this];exact hB
   ·rintro Z B ⟨C,rfl,j,b⟩;refine⟨(by decide),λq l=>x _ _ (.inr ⟨hL,q,rfl,j.free l,?_⟩) (j.trans (zp l))⟩;rw[zj,zde (λk M=>b k (by rw[aa];omega))];rfl
end
section
variable {P:bx} {w:bU} {K:aK} {mg:bZ->Option aD} {base:dj} {T0:au}
def lamP:nj:=⟨99,29,99,59⟩
def zia:iZ:=match (zq yN).getLast? with
 |some (.Return (some (.Call _ _ [⟨_,.Lambda _ _ sc _,_⟩] _)) _)=>sc
 |_=>zx yN
theorem ziH:zF ["each"] ["each"] zia:={}
theorem zg8(s:Same H H')(h:H p=none):Same H (upd H' p o):=λb u e=>by rw[zy (zz e h)];exact s b u e
def SameL(T:au)(H H':Hp):Prop:=∀b u,b≠T->H b=some u->H' b=some u
abbrev LT(T:au)(H:Hp):Prop:=U4 T lamP ((("stands_of" : bZ)++(".<locals>." : bZ))++("<lambda>" : bZ)) H
theorem SameL.of(s:Same H H'):SameL T H H':=λb u _ e=>s b u e
theorem LT.same(h:LT T H)(s:Same H H'):LT T H':=by
 rcases h with h | ⟨c,a,b⟩
 ·exact .inl (s _ _ h)
 ·exact .inr ⟨c,s _ _ a,s _ _ b⟩
theorem LT.lst(h:LT T H)(e:H b=some (.lst xs)):b≠T:=λz=>by
 rw[z]at e;rcases h with h | ⟨c,h,_⟩
 ·rw[h]at e;cases e
 ·rw[h]at e;cases e
theorem LT.tup(h:LT T H)(e:H b=some (.tup xs)):b≠T:=λz=>by
 rw[z]at e;rcases h with h | ⟨c,h,_⟩
 ·rw[h]at e;cases e
 ·rw[h]at e;cases e
theorem LT.none(h:LT T H)(e:H b=none):b≠T:=λz=>by
 rw[z]at e;rcases h with h | ⟨c,h,_⟩
 ·rw[h]at e;cases e
 ·rw[h]at e;cases e
def VH(T:au):Sp:=λvs H Q _=>Ex2 λ(bl:au) (zs:ZB)=>An7 (vs=[.ref bl]) (H bl=some (.lst (zs.map λz=>V.ref z.1))) ((∀z∈zs,H z.1=some (.lst (z.2.map V.int)))) (zs.length<=4) ((∀z∈zs,z.2≠[]/\z.2.length<=4)) (LT T H) (∀(D:au) (ws:ZB) (H':Hp),H D=none->H' D=some (.lst (ws.map λz=>V.ref z.1))->(∀z∈ws,H z.1=none/\H' z.1=some (.lst (z.2.map V.int))/\z.1≠D)->StandsL (zs.map (·.2)) (ws.map (·.2))->ws.length<=13->SameL T H H'->LT T H'->Q (.ref D) H')
theorem qw:zF ["bad","found","stretch","size","stand"] ["bad"] (zx yN):={}
theorem zb3(D:Df K mg "stands_of" yN ["bad"] f fd)(hc:fd.code=.ref c)(hcT:Hu K c T0=true)(hBM:base.BuiltinsAt mg T0)(hgT:cz≠T0)(vC:Df K mg "lacks_all" uH Ad f1 fd1)(uh:FnOk P w K mg base CX0 2 f1 fd1 Ad jQ)(T:Blt mg):
    FnOk P w K mg base CX0 6 f fd ["bad"] (VH T0):=by
  obtain⟨oc,od,kV,doc,pm,an,bp,ct,osl,rfl,lk,bq⟩:=D.fn.ex;obtain rfl:bp=.ref c:=hc;refine zgC lk bq qw (λvs H Q E h=>?_) (λA O s H vs Q E hr h=>?_)
  · obtain⟨bl,R,rfl,_⟩:=h;rfl
  · obtain⟨bl,R,rfl,hb,hz,S,ab,bb,kk⟩:=h
    have HU:=Yr hr;have G:∀(f' c':au) (s':aP) (H':Hp) (z:au×List Int),H' z.1=some (.lst (z.2.map V.int))->∃t,PE (Wr CX0 P w K mg base ["each"] ((("stands_of" : bZ)++(".<locals>." : bZ))++("<lambda>" : bZ)) zia f' (.ref c') (A.deeper (pL "stands_of" (zx yN) s.heap.objs.size f (.ref c))).in1.in1 (pL "stands_of" (zx yN) s.heap.objs.size f (.ref c)::O) s' H' E0)
        (match (zq yN).getLast? with
          |some (.Return (some (.Call _ _ [⟨_,.Lambda _ b _ _,_⟩] _)) _)=>b
          |_=>.Constant .none 0 ⟨0,0,0,0⟩) t /\
        t (start ["each"] [.ref z.1]) H' λv X=>∃p,v=.ref p/\H' p=none/\X=upd H' p (.tup [.int z.2.length,.ref z.1]):=by
      intro f' c' s' H' z d;refine⟨_,(wW (zf (zA (vY K) (by rfl) T.n_len PySem.boot_len (zf (pv 0) zg)) (zf (pv 0) zg))),?_⟩;refine⟨_,rfl,z.1,_,rfl,.inl (SqL.of d),_,rfl,(by show 2<=aA;decide),λp hp=>⟨p,rfl,hp,?_⟩⟩;rw[aa]
    refine Exists.elim (?key:∃t,PSs (Wr CX0 P w K mg base ["bad","found","stretch","size","stand"] "stands_of" (zx yN) f (.ref c) A O s H E).nox (zq yN) t/\t { nx:=λ_ H'=>Q .non H',rt:=Q } (start ["bad","found","stretch","size","stand"] [.ref bl]) H) λt h=>⟨t,h.1.nox,h.2⟩
    refine yW ?_;intro XX;let q1:Sq XX ((zq yN).drop 2):=⟨_,zu (zG (zd1 (k:=1) (pv 1) rfl T.n_sorted (hr.mono (by decide)) rfl rfl rfl hcT hBM hgT ziH (λ_ _ _ _=>rfl) G))⟩
    let q2:Sq XX ((sb (sb (zq yN) 1 true) 0 true).drop 1):=⟨_,zu (yw (PW.pt (zb7 (zK (zcL K HU) (pv 4) (pv 1) (by with_unfolding_all rfl)) (QJ (xx (zL vC uh (hr.mono (by decide)) (zf (pv 0) (zf (pv 4) zg)))))))
            (zu (wQ (ZC PySem.F.plainAttrs_list PySem.F.slot_list_append PySem.F.type_list_append wX (pv 1) (zf (pv 4) zg))))
            zR)⟩
    let q3:Sq XX ((zq yN).drop 1):=⟨_,zm (wj bK rfl (qj K (pv 0)) (zX (i:=2) qw.nd rfl (bf rfl))
        (zu (wj bK rfl (Wd rfl T.n_range (zf zr (zf (zA (vY K) (by rfl) T.n_len PySem.boot_len (zf (pv 2) zg)) zg))) (zX (i:=3) qw.nd rfl (bf rfl))
          (zm (zE (i:=4) qw.nd rfl (bf rfl) (xZ (ZQ K) (pv 2) uz (wR (pv 3)))) q2.p)))) q1.p⟩
    refine⟨_,(zm (zE (i:=1) qw.nd rfl (bf rfl) (zY (zf (zY zg) zg))) q3.p),?_⟩;have hls:∀st∈R.map (·.2),st≠[]/\st.length<=4:=λst h=>by obtain⟨z,hz,rfl⟩:=aQ.mp h;exact ab z hz
    refine⟨(by decide:0<=aA),λe0 ac=>⟨(by show 1<=aA;decide),λI U=>?_⟩⟩;have bc:H I=none:=(zp ac).free U;have bd:e0≠I:=λz=>by rw[<-z,zj]at U;cases U
    let aj:ZB->(List Int->Prop)->Hp->Prop:=λl M X=>X I=some (.lst (l.map λz=>V.ref z.1))/\(∀z∈l,H z.1=none/\X z.1=some (.lst (z.2.map V.int))/\z.1≠I)/\(l.map (·.2)).Nodup/\(∀x,x∈l.map (·.2)↔M x)/\Same H X;let M1:Nat->List Int->Prop:=λi x=>x=[]\/∃z∈R.take i,∃k,1<=k/\k<z.2.length/\x=z.2.take k/\lacks (R.map (·.2)) x=true;let J1:Nat->L2.St->L2.Hp->Prop:=λi Z X=>Ex4 λ(v2:Option V) (v3:Option V) (v4:Option V) (l:ZB)=>An3 (Z=[some (.ref bl),some (.ref I),v2,v3,v4]) (aj l (M1 i) X) (l.length<=1+3*i);refine⟨_,rfl,bl,rfl,⟨_,SqL.of ((zp ac).trans (zp U) _ _ hb)⟩,VG (K:=K) (a:=bl) (xs:=R.map λz=>V.ref z.1) J1
      ⟨none,none,none,[(e0,[])],rfl,⟨zj,λz d=>?_,by simp,λx=>?_,(zp ac).trans (zp U)⟩,by simp⟩ (λi Z X _ ⟨_,_,_,_,_,⟨_,_,_,_,e⟩,_⟩=>SqL.of (e _ _ hb)) ?_ ?_⟩
    · have e:z=(e0,[]):=by simpa using d
      subst e;exact⟨ac,by rw[zy bd,zj];rfl,bd⟩
    · constructor
      · intro hx
        exact .inl (by simpa using hx)
      · rintro (rfl | ⟨z,d,_⟩)
        · simp
        · simp at d
    · rintro i x Z X hx ⟨v2,v3,v4,l,rfl,⟨hF,Y,r,J,L⟩,B⟩
      rw[ao]at hx;obtain⟨z,ae,e⟩:=aY.mp hx;subst e;have av:=aL ae;have hi4:i<R.length:=(aV.mp ae).1;obtain⟨bx,hz4⟩:=ab z av;have hpos:0<z.2.length:=cT.mpr bx;refine⟨_,rfl,z.1,_,rfl,.inl (SqL.of (L _ _ (hz z av))),1,_,rfl,?_,?_⟩
      · rw[aa];omega
      rw[aa];let J2:Nat->L2.St->L2.Hp->Prop:=λj Z H3=>Ex3 λ(v3:Option V) (v4:Option V) (l:ZB)=>An3 (Z=[some (.ref bl),some (.ref I),some (.ref z.1),v3,v4]) (aj l (λx=>M1 i x\/∃k,1<=k/\k<=j/\x=z.2.take k/\lacks (R.map (·.2)) x=true) H3) (l.length<=1+3*i+j);refine xj (lo:=1) (n:=((z.2.length:Int)-1).toNat) J2
        ⟨_,_,l,rfl,⟨hF,Y,r,λx=>?_,L⟩,B⟩ ?_ ?_
      · rw[J]
        constructor
        · exact .inl
        · rintro (h | ⟨k,C,N,_⟩)
          · exact h
          · omega
      · rintro j Z H3 hj ⟨v3,v4,l,rfl,⟨hF,Y,r,J,L⟩,B⟩
        have hj':j+1<z.2.length:=by omega
        refine⟨_,rfl,_,rfl,_,rfl,z.1,_,rfl,SqL.of (L _ _ (hz z av)),λp hp=>?_⟩;rw[show (1:Int)+(j:Int)=((j+1:Nat):Int) by omega,Wk,<-oF];have af:=L.trans (zp hp (o:=.lst ((z.2.take (j+1)).map V.int)));have aw:(upd H3 p (.lst ((z.2.take (j+1)).map V.int))) I=some (.lst (l.map λz=>V.ref z.1)):=zp hp _ _ hF;have W:∀y∈l,H y.1=none/\(upd H3 p (.lst ((z.2.take (j+1)).map V.int))) y.1=some (.lst (y.2.map V.int))/\y.1≠I:=λy g=>⟨(Y y g).1,zp hp _ _ (Y y g).2.1,(Y y g).2.2⟩
        have be:p≠I:=λy=>by rw[y,hF]at hp;cases hp
        have bz:H p=none:=L.free hp;generalize hx:z.2.take (j+1)=x at *;have hxl:x.length<=4:=by rw[<-hx,bA];omega
        have am:(x∈l.map (·.2)\/lacks (R.map (·.2)) x=false)->∀y,y∈l.map (·.2)↔(M1 i y\/∃k,1<=k/\k<=j+1/\y=z.2.take k/\lacks (R.map (·.2)) y=true):=λca y=>by
          constructor
          · intro g
            rcases (J y).mp g with h | ⟨k,C,N,m⟩
            · exact .inl h
            · exact .inr ⟨k,C,by omega,m⟩
          · rintro (h | ⟨k,C,N,m,S⟩)
            · exact (J y).mpr (.inl h)
            · by_cases hk:k<=j
              · exact (J y).mpr (.inr ⟨k,C,hk,m,S⟩)
              · have:k=j+1:=by omega
                rw[this,hx]at m;rw[m]at S ⊢;rcases ca with h | h
                · exact h
                · rw[h]at S;cases S
        refine⟨_,rfl,_,rfl,I,_,(l.map (·.2)).map xr,xr x,rfl,SqL.of aw,TrsAt.lists (λy g=>(W y g).2.1),TrAt.ints (a:=p) (SqL.of zj),aB (vg _) (by decide),_,rfl,?_⟩;rw[if_pos rfl,Wn];by_cases ag:x∈l.map (·.2)
        · rw[decide_eq_true ag]
          refine yG ?_;exact yG ⟨_,_,l,rfl,⟨aw,W,r,am (.inl ag),af⟩,by omega⟩
        · rw[decide_eq_false ag]
          refine yz ?_;refine⟨_,rfl,_,rfl,bl,p,R,x,rfl,af _ _ hb,λy g=>af _ _ (hz y g),zj,by omega,by omega,λy g=>⟨(ab y g).1,aB (ab y g).2 (by decide)⟩,λH4 s4=>⟨_,rfl,?_⟩⟩;have bg:=af.trans s4;have ax:=s4 _ _ aw;have bh:∀y∈l,H y.1=none/\H4 y.1=some (.lst (y.2.map V.int))/\y.1≠I:=λy g=>⟨(W y g).1,s4 _ _ (W y g).2.1,(W y g).2.2⟩
          have cc:=s4 _ _ (zj (H:=H3) (a:=p) (o:=.lst (x.map V.int)));cases hLk:lacks (R.map (·.2)) x with
          |false=>exact yG ⟨_,_,l,rfl,⟨ax,bh,r,am (.inr hLk),bg⟩,by omega⟩
          |true=>
            refine yz ⟨_,rfl,.inl ⟨rfl,_,SqL.of ax⟩,_,rfl,I,_,_,rfl,rfl,ax,by rw[aa];exact aR (show l.length<=100 by omega) (by decide),?_⟩;refine⟨_,_,l++[(p,x)],rfl,⟨by rw[zj,aH];rfl,λy g=>?_,?_,λy=>?_,zg8 bg bc⟩,by rw[aF,aX];omega⟩
            · rcases aZ.mp g with g | g
              · obtain⟨a1,a2,a3⟩:=bh y g
                exact⟨a1,by rw[zy a3];exact a2,a3⟩
              · rw[bu.mp g]
                exact⟨bz,by rw[zy be];exact cc,be⟩
            · rw[aH]
              refine kj.mpr ⟨r,by simp,λa ha b ay=>?_⟩;have e:b=x:=by simpa using ay
              rw[e];exact λq=>ag (q▸ha)
            · rw[aH,aZ]
              constructor
              · rintro (h | h)
                · rcases (J y).mp h with h | ⟨k,C,N,m⟩
                  · exact .inl h
                  · exact .inr ⟨k,C,by omega,m⟩
                · have e:y=x:=by simpa using h
                  rw[e];exact .inr ⟨j+1,by omega,aq _,hx.symm,hLk⟩
              · rintro (h | ⟨k,C,N,m,S⟩)
                · exact .inl ((J y).mpr (.inl h))
                · by_cases hk:k<=j
                  · exact .inl ((J y).mpr (.inr ⟨k,C,hk,m,S⟩))
                  · have:k=j+1:=by omega
                    rw[this,hx]at m;exact .inr (by simp[m])
      · rintro Z H3 ⟨v3,v4,l,rfl,⟨hF,Y,r,J,L⟩,B⟩
        refine⟨_,_,_,l,rfl,⟨hF,Y,r,λx=>?_,L⟩,by omega⟩;rw[J];constructor
        · rintro ((h | ⟨y,g,h⟩) | ⟨k,C,N,m⟩)
          · exact .inl h
          · exact .inr ⟨y,by rw[bY];exact cY _ g,h⟩
          · exact .inr ⟨z,by rw[bY,ae];simp,k,C,by omega,m⟩
        · rintro (h | ⟨y,g,k,C,N,m⟩)
          · exact .inl (.inl h)
          · rw[bY,ae]at g
            rcases aZ.mp g with g | g
            · exact .inl (.inr ⟨y,g,k,C,N,m⟩)
            · have e:y=z:=by simpa using g
              rw[e]at N m;exact .inr ⟨k,C,by omega,m⟩
    · rintro Z X ⟨v2,v3,v4,l,rfl,⟨hF,Y,r,J,L⟩,B⟩
      rw[aa]at J B;refine⟨_,rfl,I,l,rfl,hF,λz d=>(Y z d).2.1,r,by omega,bb.same L,λD az H3 hD bj up lt pm pw=>?_⟩;have cf:=bb.same L;have cg:∀z∈az,z∈l:=λz d=>pm.mem_iff.mp d;refine kk D az _ (L.free hD) zj (λz d=>?_) ⟨λx=>?_,by rw[fQ];exact pw⟩ (by rw[pm.length_eq];omega) (λb u ay e=>?_) ?_
      · obtain⟨a1,a2,a3⟩:=Y z (cg z d)
        have n1:z.1≠D:=zz a2 hD;exact⟨a1,by rw[zy n1];exact up _ _ (cf.lst a2) a2,n1⟩
      · have e:x∈az.map (·.2)↔x∈l.map (·.2):=(pm.map (·.2)).mem_iff
        rw[e,J];show (x=[]\/_)↔(x=[]\/_);constructor
        · rintro (h | ⟨z,d,k,C,N,m,S⟩)
          · exact .inl h
          · rw[bT]at d
            exact .inr ⟨z.2,aQ.mpr ⟨z,d,rfl⟩,k,C,N,m,S⟩
        · rintro (h | ⟨st,bk,k,C,N,m,S⟩)
          · exact .inl h
          · obtain⟨z,d,rfl⟩:=aQ.mp bk
            exact .inr ⟨z,by rw[bT];exact d,k,C,N,m,S⟩
      · have q:=up b u ay (L _ _ e)
        rw[zy (zz q bj)];exact q
      · exact LT.same (show LT T0 H3 from lt) (zp bj)
def plc(ls ws:ZA)(fs:List Int):V:=if lacks ls fs=true then .int ((ws.idxOf (zW ls fs):Nat):Int) else .non
theorem Y8{x:List Int}:∀{xs:ZA} {m:Nat},m<xs.idxOf x->∀h:m<xs.length,xs[m]≠x
 |[],m,h,h'=>by simp at h'
 |y::ys,m,h,h'=>by
  rw[List.idxOf_cons]at h;by_cases e:y=x
  ·subst e;simp at h
  ·have e':(y == x)=false:=by simpa using e
   rw[e']at h;cases m with
   |zero=>simpa using e
   |succ m=>simpa using Y8 (by simpa using h) (by simpa using h')
def Y6:Sp:=λvs H Q _=>Ex6 λ(bl:au) (Dd:au) (fa:au) (zs:ZB) (ws:ZB) (fs:List Int)=>An9 (vs=[.ref bl,.ref Dd,.ref fa]) (H bl=some (.lst (zs.map λz=>V.ref z.1))) ((∀z∈zs,H z.1=some (.lst (z.2.map V.int)))) (H Dd=some (.lst (ws.map λz=>V.ref z.1))) ((∀z∈ws,H z.1=some (.lst (z.2.map V.int)))) (H fa=some (.lst (fs.map V.int))) (zs.length<=4) (ws.length<=13) (fs.length<=1000/\(∀z∈zs,z.2≠[]/\z.2.length<=4)/\(lacks (zs.map (·.2)) fs=true->zW (zs.map (·.2)) fs∈ws.map (·.2))/\∀H',Same H H'->Q (plc (zs.map (·.2)) (ws.map (·.2)) fs) H')
theorem Xc:zF ["bad","stands","figures","stand"] ["bad","stands","figures"] (zx vV):={}
theorem Qu(D:Df K mg "place_behind" vV A8 f fd)(qu:Df K mg "longest_stand" wZ Ad f1 fd1)(Zf:FnOk P w K mg base CX0 3 f1 fd1 Ad Yp):FnOk P w K mg base CX0 4 f fd A8 Y6:=by
 refine D.fn.ok Xc (λJ H Q E h=>?_) (λcdv A outer s H J Q E x h=>?_)
 ·obtain⟨y,B,C,j,r,k,rfl,_⟩:=h;rfl
 ·obtain⟨y,B,C,j,r,k,rfl,L,c,G,M,N,h4,h13,O,d,u,R⟩:=h;have S:=Yr x;refine yW ?_;intro I;let T:Sq I ((zq vV).drop 2):=⟨_,zu (zG (ZC PySem.F.plainAttrs_list PySem.F.slot_list_index PySem.F.type_list_index (zfM K S) (pv 1) (zf (pv 3) zg)))⟩
  let U:Sq I ((zq vV).drop 1):=⟨_,zm (yw (zK Uu (pv 3) yQ (zM _))
    (zu (zG yQ))
    zR) T.p⟩
  refine⟨_,(zm (zE (i:=3) Xc.nd rfl (bf rfl) (zL qu Zf (x.mono (by decide)) (zf (pv 0) (zf (pv 2) zg)))) U.p),?_⟩;refine⟨_,rfl,_,rfl,y,C,j,k,rfl,L,c,N,by omega,O,λz c=>⟨(d z c).1,aB (d z c).2 (by decide)⟩,λv V W n=>?_⟩;have q:=R V n;unfold plc at q;rcases W with ⟨o,rfl⟩ | ⟨o,l,rfl,hn,X⟩
  ·rw[o,if_neg (by decide)]at q;exact⟨_,rfl,rfl,_,rfl,yz q⟩
  ·rw[if_pos o]at q;have Y:=u o;have a:=lU.mpr Y;refine⟨_,rfl,rfl,_,rfl,yG ?_⟩;refine⟨_,rfl,.inl ⟨rfl,_,SqL.of (n _ _ G)⟩,_,rfl,B,_,_,(r.map (·.2)).map xr,xr (zW (j.map (·.2)) k),(r.map (·.2)).idxOf (zW (j.map (·.2)) k),rfl,rfl,SqL.of (n _ _ G),TrsAt.lists (λz c=>n _ _ (M z c)),TrAt.ints (SqL.of X),aB (vg _) (by decide),by rw[aa];exact a,?_,?_,q⟩
   ·intro t g;rw[ao,aj a,dw]at g;rw[<-bN g,p7 a,jw,decide_eq_true rfl]
   ·intro m t b g;rw[ao,aj (fL b a),dw]at g;rw[<-bN g,jw,decide_eq_false];intro e;have Z:=Y8 b (fL b a);exact Z e
def Qx(ls ws:ZA)(b:Nat)(x:List Int):List V:=(bJ b).map λ(c:Nat)=>plc ls ws (x++[(c:Int)])
def WN:Sp:=λvs H Q _=>Ex6 λ(r:au) (b:Nat) (bl:au) (zs:ZB) (Dd:au) (ws:ZB)=>Ex2 λsa xs=>An9 (vs=[.ref r,.ref Dd,.ref sa]) (RuleAt H r b bl zs) (GoodRule b (zs.map (·.2))) (H Dd=some (.lst (ws.map λz=>V.ref z.1))) ((∀z∈ws,H z.1=some (.lst (z.2.map V.int)))) (StandsL (zs.map (·.2)) (ws.map (·.2))) (ws.length<=13) (H sa=some (.lst (xs.map V.int))) (xs.length<=100/\∀p H',H p=none->Same H H'->H' p=some (.lst (Qx (zs.map (·.2)) (ws.map (·.2)) b xs))->Q (.ref p) H')
theorem zav:zF ["rule","stands","stand"] ["rule","stands","stand"] (zx qF):={}
theorem zay(D:Df K mg "steps_from" qF Az f fd)(jf:Df K mg "place_behind" vV A8 f1 fd1)(Z5:FnOk P w K mg base CX0 4 f1 fd1 A8 Y6)(T:Blt mg):FnOk P w K mg base CX0 5 f fd Az WN:=by
 refine D.fn.ok zav (λG H Q E h=>?_) (λcdv A outer s H G Q E I h=>?_)
 ·obtain⟨r,b,m,c,v,n,x,d,rfl,_⟩:=h;rfl
 ·obtain⟨r,b,m,c,v,n,x,d,rfl,R,g,J,L,M,q,N,y,O⟩:=h;have S:c.length<=4:=by have:=g.len;rwa[aa]at this
  have U:∀l∈c.map (·.2),l≠[]:=λl y=>(g.st l y).ne;refine⟨_,(zu (zG (yD (show CScope (zx qF) _ "figure" ["rule","stands","stand"] ["stands","rule","stand"] [1,0,2] from {}) rfl (yL rfl T.n_range (zf (zQ (wz K) (pv 0) zr (λ_ _=>rfl)) zg)) (λ_ _ _ _=>xq) (λ_ _ _ _=>(zL jf Z5 (I.mono (by decide)) (zf (zQ (wz K) (pv 2) zr (λ_ _=>rfl)) (zf (pv 1) (zf (zP uB (pv 3) (zY (zf (pv 0) zg))) zg)))))))),?_⟩;have b16:=g.b16;let W:Nat->List V->L2.Hp->Prop:=λi t u=>t=Qx (c.map (·.2)) (n.map (·.2)) i d/\Same H u;refine⟨_,rfl,r,_,_,V.int b,rfl,rfl,SqT.of R.tu,rfl,b,rfl,by omega,by omega,tQ W ⟨rfl,Same.refl _⟩ ?_ ?_⟩
  ·rintro i t u hi ⟨rfl,a⟩;have hi':i<b:=by omega
   refine⟨?_,?_⟩
   ·unfold Qx;rw[aa,cg];exact aO (show i<16 by omega) (by decide)
   unfold Zr;dsimp only;have X:=R.same a;have e:=a _ _ N;refine⟨_,rfl,r,_,_,V.ref m,rfl,rfl,SqT.of X.tu,rfl,_,rfl,_,rfl,_,rfl,(by show 1<=aA;decide),λY B=>?_⟩;have Z:=zz e B;refine⟨x,Y,_,_,rfl,rfl,by rw[zy Z];exact e,zj,by rw[aa];exact aB (show d.length+1<=101 by omega) (by decide),λp2 q2=>?_⟩;have j:=a.trans ((zp B).trans (zp q2 (o:=.lst (d.map V.int++[V.int (0+i)]))));have C:=R.same j;refine⟨m,v,p2,c,n,d++[0+(i:Int)],rfl,C.li,C.st,j _ _ J,λz k=>j _ _ (L z k),by rw[zj,aH];rfl,S,q,by rw[aF,aX];omega,λz k=>⟨(g.st _ (aQ.mpr ⟨z,k,rfl⟩)).ne,(g.st _ (aQ.mpr ⟨z,k,rfl⟩)).len⟩,λh=>(M.mem _).mpr (j9 U h),λH5 s5=>⟨?_,j.trans s5⟩⟩;unfold Qx;rw[dY,aH,eG];rfl
  ·rintro t u ⟨rfl,a⟩ p F;refine O p _ (a.free F) (a.trans (zp F)) ?_;rw[zj,dU]
def Q6(ls ws:ZA)(b:Nat):List (List V):=ws.map (Qx ls ws b)++[V.int (ws.length:Nat)::(Qx ls ws b []).drop 1]
def Ul:Sp:=λvs H Q _=>Ex6 λ(r:au) (b:Nat) (bl:au) (zs:ZB) (Dd:au) (ws:ZB)=>An8 (vs=[.ref r,.ref Dd]) (RuleAt H r b bl zs) (GoodRule b (zs.map (·.2))) (H Dd=some (.lst (ws.map λz=>V.ref z.1))) ((∀z∈ws,H z.1=some (.lst (z.2.map V.int)))) (StandsL (zs.map (·.2)) (ws.map (·.2))) (ws.length<=13) (∀(p:au) (rs:List (au×List V)) (H':Hp),H p=none->Same H H'->H' p=some (.lst (rs.map λz=>V.ref z.1))->(∀z∈rs,H z.1=none/\H' z.1=some (.lst z.2))->rs.map (·.2)=Q6 (zs.map (·.2)) (ws.map (·.2)) b->Q (.ref p) H')
theorem V4:zF ["rule","stands","steps"] ["rule","stands"] (zx tW):={}
theorem zb1(D:Df K mg "all_steps" tW A9 f fd)(Zv:Df K mg "steps_from" qF Az f1 fd1)(X8:FnOk P w K mg base CX0 5 f1 fd1 Az WN)(T:Blt mg):FnOk P w K mg base CX0 6 f fd A9 Ul:=by
 refine D.fn.ok V4 (λvs H Q E h=>?_) (λcdv A outer s H vs Q E hr h=>?_)
 ·obtain⟨r,b,bl,C,O,t,rfl,_⟩:=h;rfl
 ·obtain⟨r,b,bl,C,O,t,rfl,R,g,S,hw,Y,G,kk⟩:=h;have l3:∀z∈t,z.2.length<=3:=λz q=>zcO (λst h=>(g.st st h).len) ((Y.mem _).mp (aQ.mpr ⟨z,q,rfl⟩));obtain⟨w1,I⟩:=Y.first;refine yW ?_;intro XX;let Z:Sq XX ((zq tW).drop 1):=⟨_,zu (zG (zP uB (pv 2) (zY (zf (zP uB (zY (zf (zA (vY K) (by rfl) T.n_len PySem.boot_len (zf (pv 1) zg)) zg)) (xZ (ZQ K) (zQ (yt K) (pv 2) zr (λ_ _=>rfl)) (wR zr) uz)) zg))))⟩
  refine⟨_,(zm (j0 (i:=2) (show CScope (zx tW) _ "stand" ["rule","stands","steps"] ["rule","stands"] [0,1] from {}) rfl V4.nd rfl (bf rfl) (qj K (pv 1)) (λ_ _ _ _=>xq) (λ_ _ _ _=>(zL Zv X8 (hr.mono (by decide)) (zf (pv 1) (zf (pv 2) (zf (pv 0) zg)))))) Z.p),?_⟩;let J2:Nat->List V->L2.Hp->Prop:=λi U F=>∃u:List (au×List V),An4 (U=(u.map λz=>V.ref z.1)) ((∀z∈u,H z.1=none/\F z.1=some (.lst z.2))) (u.map (·.2)=(t.take i).map (λz=>Qx (C.map (·.2)) (t.map (·.2)) b z.2)) (Same H F);refine⟨_,rfl,O,rfl,⟨_,SqL.of S⟩,yK J2 ⟨[],rfl,λz q=>(by cases q),rfl,Same.refl _⟩ (λi U F _ ⟨_,_,_,_,e⟩=>SqL.of (e _ _ S)) ?_ ?_⟩
  ·rintro j x U F hx ⟨u,rfl,m,l,v⟩;rw[ao]at hx;obtain⟨z,J,e⟩:=aY.mp hx;subst e;have L:=aL J;refine⟨?_,?_⟩
   ·have e1:=congrArg cB l;rw[aa,aa,bA]at e1;rw[aa,e1];exact aR (aB (nW _ _) G) (by decide)
   unfold Zr;dsimp only;refine⟨_,rfl,_,rfl,_,rfl,r,b,bl,C,O,t,z.1,z.2,rfl,R.same v,g,v _ _ S,λz q=>v _ _ (hw z q),Y,G,v _ _ (hw z L),aB (l3 z L) (by decide),λp H5 W s5 hv=>?_⟩;refine⟨u++[(p,Qx (C.map (·.2)) (t.map (·.2)) b z.2)],by simp,λy hy=>?_,?_,v.trans s5⟩
   ·rcases aZ.mp hy with h | h
    ·exact⟨(m y h).1,s5 _ _ (m y h).2⟩
    ·rw[bu]at h;subst h;exact⟨v.free W,hv⟩
   ·rw[aH,l,bY,J];simp
  ·rintro U F ⟨u,rfl,m,l,v⟩ p W;have M:=congrArg cB l;rw[aa,bT]at l;rw[aa,aa,bA,aa,Iu]at M;obtain⟨n,c,rfl⟩:∃n c,t=n::c:=by
    cases t with
    |nil=>simp at I
    |cons a b=>exact⟨a,b,rfl⟩
   have ab:n.2=[]:=by
    exact (HR I).1
   obtain⟨d,k,rfl⟩:∃d k,u=d::k:=by
    cases u with
    |nil=>simp at M
    |cons a b=>exact⟨a,b,rfl⟩
   have N:d.2=Qx (C.map (·.2)) ((n::c).map (·.2)) b []:=by
    have e:=(HR l).1;rw[<-ab];exact e
   have X:=v.trans (zp W (o:=.lst ((d::k).map λz=>V.ref z.1)));have B:∀z∈d::k,upd F p (.lst ((d::k).map λz=>V.ref z.1)) z.1=some (.lst z.2):=λz q=>zp W _ _ (m z q).2;refine⟨_,rfl,_,rfl,O,_,rfl,.inl (SqL.of (X _ _ S)),(by show 1<=aA;decide),λp1 Z=>?_⟩;have u1:=zp Z (o:=.lst [V.int (((n::c).map λz=>V.ref z.1).length)]);refine⟨_,rfl,p,_,_,V.ref d.1,rfl,rfl,SqL.of (u1 _ _ zj),yZ rfl,_,rfl,d.1,_,rfl,SqL.of (u1 _ _ (B d bI)),λp2 q2=>?_⟩;have hb1:d.2.length<=16:=by
    rw[N];unfold Qx;rw[aa,cg];exact g.b16
   have u2:=u1.trans (zp q2 (o:=.lst (qi d.2 (some 1) none)));refine⟨p1,p2,_,_,rfl,rfl,zp q2 _ _ zj,zj,?_,λp3 q3=>?_⟩
   ·rw[show 1=((1:Nat):Int) from rfl,jb,bR,aX];exact aB (show 1+(d.2.length-1)<=100 by omega) (by decide)
   have ev:([V.int (((n::c).map λz=>V.ref z.1).length)]++qi d.2 (some 1) none)=V.int (((n::c).map (·.2)).length)::(Qx (C.map (·.2)) ((n::c).map (·.2)) b []).drop 1:=by
    rw[show 1=((1:Nat):Int) from rfl,jb,N,aa,aa];rfl
   have u3:=u2.trans (zp q3 (o:=.lst ([V.int (((n::c).map λz=>V.ref z.1).length)]++qi d.2 (some 1) none)));refine⟨(by show 1<=aA;decide),λp4 q4=>?_⟩;have u4:=u3.trans (zp q4 (o:=.lst [V.ref p3]));refine⟨p,p4,_,_,rfl,rfl,u4 _ _ zj,zj,?_,λp5 q5=>?_⟩
   ·rw[aa,aX];exact aB (show (d::k).length+1<=100 by omega) (by decide)
   have u5:=u4.trans (zp q5 (o:=.lst ((d::k).map (λz=>V.ref z.1)++[V.ref p3])));refine kk p5 (d::k++[(p3,[V.int (((n::c).map λz=>V.ref z.1).length)]++qi d.2 (some 1) none)]) _ (X.free (u4.free q5)) (X.trans u5) ?_ ?_ ?_
   ·rw[zj,aH];rfl
   ·intro z q;rcases aZ.mp q with h | h
    ·exact⟨(m z h).1,u5 _ _ (B z h)⟩
    ·rw[bu]at h;subst h;exact⟨X.free (u2.free q3),zp q5 _ _ (zp q4 _ _ zj)⟩
   ·rw[aH,l,ev];unfold Q6;rw[cC];rfl
end
structure ClT (K:aK) (mg:bZ->Option aD) (C:au):Prop where
 cl:Cls K C
 nm:mg "Tails"= some (.ref C)
 n_base:NoAttr K C "base"
 n_outset:NoAttr K C "outset"
 n_steps:NoAttr K C "steps"
 n_layers:NoAttr K C "layers"
def Xj(b n:Nat)(sa la:au):List (bZ×V):=ym "layers" (.ref la) (ym "steps" (.ref sa) (ym "outset" (.int n) (ym "base" (.int b) [])))
theorem zba(b n:Nat)(sa la:au):(Xj b n sa la).lookup ("base" : bZ)=some (.int b):=by
 unfold Xj;rw[zJ,if_neg (by decide +kernel),zJ,if_neg (by decide +kernel),zJ,if_neg (by decide +kernel),zJ,if_pos rfl]
theorem qd(b n:Nat)(sa la:au):(Xj b n sa la).lookup ("outset" : bZ)=some (.int n):=by
 unfold Xj;rw[zJ,if_neg (by decide +kernel),zJ,if_neg (by decide +kernel),zJ,if_pos rfl]
theorem wI(b n:Nat)(sa la:au):(Xj b n sa la).lookup ("steps" : bZ)=some (.ref sa):=by
 unfold Xj;rw[zJ,if_neg (by decide +kernel),zJ,if_pos rfl]
theorem ZF(b n:Nat)(sa la:au):(Xj b n sa la).lookup ("layers" : bZ)=some (.ref la):=by
 unfold Xj;rw[zJ,if_pos rfl]
theorem uw(b n:Nat)(sa la:au){m:bZ}(h1:¬ m ="layers":=by decide +kernel)(h2:¬ m ="steps":=by decide +kernel)(h3:¬ m ="outset":=by decide +kernel)(h4:¬ m ="base":=by decide +kernel):(Xj b n sa la).lookup m=none:=by
 unfold Xj;rw[zJ,if_neg h1,zJ,if_neg h2,zJ,if_neg h3,zJ,if_neg h4];rfl
def vW(ls ws:ZA)(b t:Nat):List Int:=(ws.map λx=>((cnt ls b t x:Nat):Int))++[((xU ls b t:Nat):Int)]
def stepV(ls ws:ZA):Option (List Int)->Nat->V
 |some x,c=>plc ls ws (x++[(c:Int)])
 |none,c=>if c=0 then .int (ws.length:Nat) else plc ls ws [(c:Int)]
theorem j7(ls ws:ZA)(c:Nat):stepV ls ws none c=if c=0 then .int (ws.length:Nat) else plc ls ws [(c:Int)]:=rfl
theorem zd7(ls:ZA)(b t:Nat)(x:List Int)(c:Nat):Z9 ls b t (some x) c=if lacks ls (x++[(c:Int)])=true then cnt ls b t (zW ls (x++[(c:Int)])) else 0:=rfl
theorem W9(ls:ZA)(b t:Nat)(c:Nat):Z9 ls b t none c=if c=0 then xU ls b t else if lacks ls [(c:Int)]=true then cnt ls b t (zW ls [(c:Int)]) else 0:=rfl
theorem Jx(hb:1<=b)(hi:i<=ws.length):(Q6 ls ws b)[i]?=some ((bJ b).map (stepV ls ws ws[i]?)):=by
 unfold Q6;by_cases h:i<ws.length
 ·rw[cU (by rw[aa];exact h),ao,aj h];rfl
 ·have e:i=ws.length:=by omega
  subst e;rw[cQ (by rw[aa];exact aq _),aa,gJ,cj (aq _)];congr 1;obtain⟨k,rfl⟩:∃k,b=k+1:=⟨b-1,by omega⟩
  unfold Qx;rw[iH,bC,bC,fY,il];rw[cC,cC];rfl
structure TailsAt (C:au) (H:Hp) (p la:au) (b:Nat) (ls ws:ZA) (L:Nat):Prop where
 ob:∃(dx sa:au) (srs:List (au×List V)),aw [la] H p=some (.ins C dx (Xj b ws.length sa la))/\aw [la] H sa=some (.lst (srs.map λz=>V.ref z.1))/\(∀z∈srs,aw [la] H z.1=some (.lst z.2))/\srs.map (·.2)=Q6 ls ws b
 ly:∃lrs:ZB,H la=some (.lst (lrs.map λz=>V.ref z.1))/\(∀z∈lrs,aw [la] H z.1=some (.lst (z.2.map V.int)))/\lrs.map (·.2)=(bJ L).map (vW ls ws b)
 l1:1<=L
structure GoodT (b:Nat) (ls ws:ZA):Prop where
 g:GoodRule b ls
 s:StandsL ls ws
 h13:ws.length<=13
theorem GoodT.ne(G:GoodT b ls ws):∀l∈ls,l≠[]:=λl a=>(G.g.st l a).ne
theorem TailsAt.same{C p la b:Nat}(A:TailsAt C H p la b ls ws L)(m:Same H H'):TailsAt C H' p la b ls ws L:=by
 obtain⟨f,g,c,h,i,j,k⟩:=A.ob;obtain⟨d,l,n,o⟩:=A.ly;have a:=m.aw [la];exact⟨⟨f,g,c,a _ _ h,a _ _ i,λz e=>a _ _ (j z e),k⟩,⟨d,m _ _ l,λz e=>a _ _ (n z e),o⟩,A.l1⟩
theorem zc7(G:GoodT b ls ws)(hi:i<=ws.length):
  (stepV ls ws ws[i]? c=.non/\Z9 ls b t ws[i]? c=0)\/∃j:Nat,stepV ls ws ws[i]? c=.int j/\j<=ws.length/\(vW ls ws b t)[j]?=some ((Z9 ls b t ws[i]? c:Nat):Int):=by
 have e:∀f:List Int,lacks ls f=true->∃j:Nat,plc ls ws f=.int j/\j<=ws.length/\(vW ls ws b t)[j]?=some ((cnt ls b t (zW ls f):Nat):Int):=by
  intro f h;have m:=(G.s.mem _).mpr (j9 G.ne h);have a:=lU.mpr m;refine⟨ws.idxOf (zW ls f),by unfold plc;rw[if_pos h],iz a,?_⟩;unfold vW;rw[cU (by rw[aa];exact a),ao,aj a,p7 a];rfl
 cases hw:ws[i]? with
 |some x=>
  show (plc ls ws (x++[(c:Int)])=.non/\(if lacks ls (x++[(c:Int)])=true then _ else 0)=0)\/_;by_cases h:lacks ls (x++[(c:Int)])=true
  ·right;obtain⟨j,g,k,l⟩:=e _ h;refine⟨j,g,k,?_⟩;rw[l,zd7,if_pos h]
  ·left;exact⟨by unfold plc;rw[if_neg h],by rw[if_neg h]⟩
 |none=>
  by_cases d:c=0
  ·right;refine⟨ws.length,by rw[j7,if_pos d],aq _,?_⟩;unfold vW;rw[W9,if_pos d,cQ (by rw[aa];exact aq _),aa,gJ];rfl
  ·by_cases h:lacks ls [c]=true
   ·right;obtain⟨j,g,k,l⟩:=e _ h;refine⟨j,by rw[j7,if_neg d];exact g,k,?_⟩;rw[l,W9,if_neg d,if_pos h]
   ·left;refine⟨?_,?_⟩
    ·rw[j7,if_neg d];unfold plc;rw[if_neg h]
    ·rw[W9,if_neg d,if_neg h]
theorem Jm(h:b∈fp):aw fp (upd H b o)=aw fp H:=by
 funext c;by_cases a:c∈fp
 ·rw[ju a,ju a]
 ·rw[yc a,yc a,zy (λz:c=b=>a (by rw[z];exact h))]
section
variable {P:bx} {w:bU} {K:aK} {mg:bZ->Option aD} {base:dj} {T0 C:au}
def Vp(C:au):Sp:=λvs H Q _=>Ex6 λp la b ls ws L=>Ex4 λ(t:Nat) (lay:au) (i:Nat) (s:Nat)=>An7 (vs=[.ref p,.ref lay,.int i,.int s]) (TailsAt C H p la b ls ws L) (GoodT b ls ws) (H lay=some (.lst ((vW ls ws b t).map V.int))) (i<=ws.length) (s<=b) (∀H',Same H H'->Q (.int (under ls b t ws[i]? s:Nat)) H')
theorem Uz:zF ["self","layer","place","stop"] ["self","layer","place","stop"] (zx xV):={}
theorem JR(D:Mt K C "Tails.many_by" "many_by" xV An f fd)(zH:ClT K mg C)(T:Blt mg)(U:Vk mg):FnOk P w K mg base CX0 1 f fd An (Vp C):=by
 refine D.fn.ok Uz (λY H Q E h=>?_) (λcdv A outer s H Y Q E hr h=>?_)
 ·obtain⟨p,Z,b,ls,a,L,t,n,i,s,rfl,_⟩:=h;rfl
 ·obtain⟨p,Z,b,ls,a,L,t,n,i,s,rfl,TA,G,r,R,hs,kk⟩:=h;obtain⟨dx,sa,srs,h1,h2,h3,h4⟩:=TA.ob;have b16:=G.g.b16;have b2:=G.g.b2;refine⟨_,(zu (zG (zA (zcW K rfl) (by rfl) U.n_sum Fe (zf (yD (show CScope (zx xV) _ "behind" ["self","layer","place","stop"] ["layer"] [1] from {}) rfl (qj K (xZ (ZQ K) (zQ (yt K) (wV K (pv 0)) (pv 2) (λ_ _=>rfl)) uz (wR (pv 3)))) (λ_ _ _ _=>(uA (zK jg (pv 0) yQ (zM _)))) (λ_ _ _ _=>(zQ (yt K) (pv 1) (pv 0) (λ_ _=>rfl)))) zg)))),?_⟩;have m:=Jx (ls:=ls) (b:=b) (by omega) R;rw[<-h4,ao]at m;obtain⟨z,S,ez⟩:=aY.mp m;have F:=aL S;have I:=yd _ _ _ _ (h3 z F);refine⟨_,rfl,p,C,dx,_,_,rfl,yd _ _ _ _ h1,zH.cl,zH.n_steps,wI _ _ _ _,_,rfl,sa,_,_,V.ref z.1,rfl,rfl,SqL.of (yd _ _ _ _ h2),yZ (by rw[ao,S];rfl),?_⟩;refine⟨_,rfl,_,rfl,z.1,_,rfl,SqL.of I,λq hq=>?_⟩;have J:=zp hq (o:=.lst (qi z.2 none (some s)));have u:qi z.2 none (some s)=(bJ s).map (stepV ls a a[i]?):=by
   rw[Wk,ez,<-oF,List.take_range,fU hs]
  rw[u]at J ⊢;let J1:Nat->List V->L2.Hp->Prop:=λk y B=>B=upd H q (.lst ((bJ s).map (stepV ls a a[i]?)))/\∃d:List Int,y=d.map V.int/\d.length<=k/\d.sum=((under ls b t a[i]? k:Nat))
  refine⟨q,rfl,⟨_,SqL.of zj⟩,yK J1 ⟨rfl,[],rfl,aq _,by simp[under]⟩ (λk y B _ ⟨e,_⟩=>by rw[e];exact SqL.of zj) ?_ ?_⟩
  ·rintro k x y B W ⟨rfl,d,rfl,M,l⟩;rw[ao]at W;obtain⟨c,N,e⟩:=aY.mp W;have hk:k<s:=by have:=(aV.mp N).1;rwa[cg]at this
   have ec:c=k:=by
    rw[eH hk]at N;exact (bN N).symm
   subst ec;subst e;refine⟨by rw[aa];exact aR (show d.length<=16 by omega) (by decide),?_⟩;have v:=Ze ls b t a[i]? c;rcases zc7 G R with ⟨O,X⟩ | ⟨j,O,X,e3⟩
   ·rw[O];refine⟨_,rfl,rfl,_,rfl,yG ⟨rfl,d,rfl,by omega,?_⟩⟩;rw[v,X,l];omega
   ·rw[O];refine⟨_,rfl,rfl,_,rfl,yz ?_⟩;refine⟨_,rfl,_,rfl,n,_,_,V.int ((Z9 ls b t a[i]? c:Nat)),rfl,rfl,SqL.of (J _ _ r),yZ (by rw[ao,e3];rfl),rfl,d++[((Z9 ls b t a[i]? c:Nat):Int)],by simp,by rw[aF,aX];omega,?_⟩;rw[iT,l,v];simp
  ·rintro y B ⟨rfl,d,rfl,M,l⟩ Dd hD;refine⟨Dd,d,rfl,SqL.of zj,?_⟩;rw[l,aa,cg];exact kk _ (J.trans (zp hD))
def NoRef(H:Hp)(a c:au):Prop:=∀xs,H a=some (.lst xs)->V.ref c∉xs
def NR(la:au)(H H':Hp):Prop:=∀c o,c≠la->H c=some o->NoRef H la c->NoRef H' la c
theorem NR.refl(la:au)(H:Hp):NR la H H:=λ_ _ _ _ h=>h
theorem zeB(m:Same (aw [la] H) (aw [la] H'))(hc:c≠la)(e:H c=some o):H' c=some o:=by
 have a:c∉[la]:=by simpa using hc
 have:=m c o (by rw[yc a];exact e);rwa[yc a]at this
theorem NR.trans(a:NR la H H1)(m:Same (aw [la] H) (aw [la] H1))(b:NR la H1 H2):NR la H H2:=λc o d e h=>b c o d (zeB m d e) (a c o d e h)
theorem NoRef.same(n:NoRef H a c)(h:H a=some o)(h':H' a=some o):NoRef H' a c:=λb d=>n b (by rw[h,<-h'];exact d)
theorem NR.same(a:NR la H H1)(h:H1 la=some o)(m:Same H1 H2):NR la H H2:=λc u b e n=>(a c u b e n).same h (m _ _ h)
def TQ(C:au)(H:Hp)(p la:au)(b:Nat)(ls ws:ZA)(L:Nat)(R:Nat->Hp->Prop):Prop:=∀L' H',L<=L'->TailsAt C H' p la b ls ws L'->Same (aw [la] H) (aw [la] H')->NR la H H'->R L' H'
def Q8(C:au):Sp:=λvs H Q _=>Ex5 λp la b ls ws=>Ex2 λ(L:Nat) (t:Nat)=>An6 (vs=[.ref p,.int t]) (TailsAt C H p la b ls ws L) (GoodT b ls ws) (L<=1000) (t<1000) (∀lay:au,TQ C H p la b ls ws L λL' H'=>L'<=max L (t+1)->aw [la] H' lay=some (.lst ((vW ls ws b t).map V.int))->Q (.ref lay) H')
theorem X7:zF ["self","left","shorter"] ["self","left"] (zx wD):={}
theorem zct:((bJ (ws.length+1)).map λi=>((under ls b t ws[i]? b:Nat):Int))=vW ls ws b (t+1):=by
 unfold vW;apply km;intro i;rw[ao];by_cases h:i<ws.length
 ·rw[eH (by omega),cU (by rw[aa];exact h),ao,dw,aj h];rfl
 ·by_cases a:i=ws.length
  ·subst a;rw[eH (by omega),cQ (by rw[aa];exact aq _),aa,gJ,dw,cj (aq _)];rfl
  ·rw[cj (by rw[cg];omega),cj (by rw[aF,aa,aX];omega)];rfl
theorem zdc(D:Mt K C "Tails.layer" "layer" wD Ar f fd)(yF:Mt K C "Tails.many_by" "many_by" xV An f1 fd1)(zH:ClT K mg C)(T:Blt mg)(U:Vk mg):FnOk P w K mg base CX0 2 f fd Ar (Q8 C):=by
 have Za:FnOk P w K mg base CX0 1 f1 fd1 An (Vp C):=JR yF zH T U;refine D.fn.ok X7 (λvs H Q E h=>?_) (λcdv A outer s H vs Q E hr h=>?_)
 ·obtain⟨p,r,b,x,u,L,t,rfl,_⟩:=h;rfl
 ·obtain⟨p,r,b,x,u,L,t,rfl,TA,G,hL,ht,kk⟩:=h;have h13:=G.h13;refine yW ?_;intro XX;let q1:Sq XX ((zq wD).drop 1):=⟨_,zu (zG (zQ (yt K) (wV K (pv 0)) (pv 1) (λ_ _=>rfl)))⟩
  let q2:Sq XX ((sb (zq wD) 0 true).drop 1):=⟨_,zu (wQ (ZC PySem.F.plainAttrs_list PySem.F.slot_list_append PySem.F.type_list_append wX (wV K (pv 0)) (zf (yD (show CScope (zx wD) _ "place" ["self","left","shorter"] ["shorter","self"] [2,0] from {}) rfl (yL rfl T.n_range (zf (zP wL (wV K (pv 0)) zr) zg)) (λ_ _ _ _=>xq) (λ_ _ _ _=>(qD yF zH.cl Za (hr.mono (by decide)) (pv 2) (zf (pv 1) (zf (pv 0) (zf (wV K (pv 2)) zg)))))) zg)))⟩
  refine⟨_,(zm (X6 bK (zK Qi (zA (vY K) (by rfl) T.n_len PySem.boot_len (zf (wV K (pv 0)) zg)) (pv 1) (zM _))
    (zm (zE (i:=2) X7.nd rfl (lK rfl) (zQ (yt K) (wV K (pv 0)) (Qg Xk zr) (λ_ _=>rfl))) q2.p)) q1.p),?_⟩
  let J2:L2.St->L2.Hp->Prop:=λZ B=>Ex2 λ(v:Option V) (m:Nat)=>An6 (Z=[some (.ref p),some (.int t),v]) (L<=m) (m<=max L (t+1)) (TailsAt C B p r b x u m) (Same (aw [r] H) (aw [r] B)) (NR r H B);refine VL J2
   (λZ B=>match B r with | some (.lst xs)=>t+1-xs.length | _=>0) ⟨none,L,rfl,aq _,oU _ _,TA,Same.refl _,NR.refl _ _⟩ ?_ ?_
  ·rintro Z B ⟨v,m,rfl,hLL,hLm,I,m2,nr2⟩;obtain⟨M,sa,srs,h1,h2,h3,h4⟩:=I.ob;obtain⟨d,O,g2,g3⟩:=I.ly;have hl:d.length=m:=by have:=congrArg cB g3;rwa[aa,aa,cg]at this
   have hp:=yd _ _ _ _ h1;have l1:=I.l1;refine⟨_,rfl,p,C,M,_,_,rfl,hp,zH.cl,zH.n_layers,ZF _ _ _ _,r,_,rfl,.inl (SqL.of O),_,rfl,_,_,rfl,rfl,_,rfl,?_⟩;rw[aa,hl];refine zbz (λhc=>?_) (λhc=>?_)
   ·have hc':m<=t:=by have:=of_decide_eq_true hc;omega
    have g:d[m-1]?=some d[m-1]:=aj (by omega);generalize hz:d[m-1]=z at g;have R:z∈d:=aL g;have S:z.2=vW x u b (m-1):=by
     have e:=congrArg (λl=>l[m-1]?) g3;simp only[ao,g,eH (show m-1<m by omega),dw]at e;exact bN e
    have elr:d=d.take (m-1)++[z]:=by
     have e:=(nG (m-1) d).symm;rw[gB (show m-1<d.length by omega),hz,dH (by omega)]at e;exact e
    have eat:atI (d.map λz=>V.ref z.1) (-1)=some (V.ref z.1):=by
     rw[elr,aH];exact zg9 _ _
    refine⟨_,rfl,p,C,M,_,_,rfl,hp,zH.cl,zH.n_layers,ZF _ _ _ _,_,rfl,r,_,_,V.ref z.1,rfl,rfl,SqL.of O,eat,?_⟩;refine⟨_,rfl,p,C,M,_,_,rfl,hp,zH.cl,zH.n_layers,ZF _ _ _ _,.inl ⟨rfl,_,SqL.of O⟩,?_⟩;let J3:Nat->List V->L2.Hp->Prop:=λi ys H4=>ys=(((bJ i).map λi=>((under x b (m-1) u[i]? b:Nat):Int))).map V.int/\Same B H4;refine⟨_,rfl,p,C,M,_,_,rfl,hp,zH.cl,zH.n_outset,qd _ _ _ _,_,_,rfl,rfl,((u.length:Int)+1),rfl,by omega,by omega,tQ (lo:=0) (n:=((u.length:Int)+1).toNat) J3 ⟨rfl,Same.refl _⟩ ?_ ?_⟩
    ·rintro i ys H4 hi ⟨rfl,N⟩;refine⟨by rw[aa,aa,cg];exact aO (show i<20 by omega) (by decide),?_⟩;unfold Zr;dsimp only;rw[if_pos rfl];have TA4:=I.same N;have hp4:=N _ _ hp;refine⟨_,rfl,p,M,_,rfl,hp4,uw _ _ _ _,_,rfl,_,rfl,_,rfl,p,C,M,_,_,rfl,hp4,zH.cl,zH.n_base,zba _ _ _ _,?_⟩;refine⟨p,r,b,x,u,m,m-1,z.1,i,b,by rw[eG];rfl,TA4,G,?_,by omega,aq _,λH5 m5=>⟨?_,N.trans m5⟩⟩
     ·rw[<-S];exact N _ _ (yd _ _ _ _ (g2 z R))
     ·rw[dY,aH,aH];rfl
    rintro ys H4 ⟨rfl,N⟩ q W;rw[show ((u.length:Int)+1).toNat=u.length+1 by omega,zct,show m-1+1=m by omega];have m5:=zp W (o:=.lst ((vW x u b m).map V.int));have gla:=m5 _ _ (N _ _ O);have nq:q≠r:=λe=>by rw[e,N _ _ O]at W;cases W
    refine⟨r,_,_,rfl,rfl,gla,by rw[aa,hl];exact aR (show m<=1000 by omega) (by decide),?_⟩;have J:Same (aw [r] B) (aw [r] (upd (upd H4 q (.lst ((vW x u b m).map V.int))) r (.lst (d.map (λz=>V.ref z.1)++[.ref q])))):=by
     rw[Jm (by simp)];exact (N.trans m5).aw [r]
    refine⟨⟨_,m+1,rfl,by omega,by omega,⟨⟨M,sa,srs,J _ _ h1,J _ _ h2,λy hy=>J _ _ (h3 y hy),h4⟩,⟨d++[(q,vW x u b m)],by rw[zj];simp,λy hy=>?_,?_⟩,by omega⟩,m2.trans J,nr2.trans m2 ?_⟩,?_⟩
    ·rcases aZ.mp hy with hy | hy
     ·exact J _ _ (g2 y hy)
     ·have e:y=(q,vW x u b m):=by simpa using hy
      subst e;rw[Jm (by simp),yc (by simp[nq]),zj]
    ·rw[aH,g3,dY,aH];rfl
    ·intro c o hc e n xs hx;rw[zj]at hx;injection hx with hx
     injection hx with hx
     rw[<-hx,aZ];rintro (h | h)
     ·exact n _ O h
     ·rw[bu]at h;injection h with h
      rw[<-h,N _ _ e]at W;cases W
    ·show (match (upd (upd H4 q (.lst ((vW x u b m).map V.int))) r (.lst (d.map (λz=>V.ref z.1)++[.ref q]))) r with | some (.lst xs)=>t+1-xs.length | _=>0)<(match B r with | some (.lst xs)=>t+1-xs.length | _=>0);rw[zj,O];show t+1-(d.map (λz=>V.ref z.1)++[V.ref q]).length<t+1-(d.map λz=>V.ref z.1).length;rw[aF,aa,aX];omega
   ·have hc':t<m:=by
     by_cases z:t<m
     ·exact z
     ·exact absurd (decide_eq_true (by omega:(m:Int)<=t)) hc
    have g:d[t]?=some d[t]:=aj (by omega);generalize hz:d[t]=z at g;have R:z∈d:=aL g;have S:z.2=vW x u b t:=by
     have e:=congrArg (λl=>l[t]?) g3;simp only[ao,g,eH hc',dw]at e;exact bN e
    refine⟨_,rfl,p,C,M,_,_,rfl,hp,zH.cl,zH.n_layers,ZF _ _ _ _,_,rfl,r,_,_,V.ref z.1,rfl,rfl,SqL.of O,yZ (by rw[ao,g];rfl),?_⟩;exact kk z.1 m B hLL I m2 nr2 hLm (by rw[<-S];exact g2 z R)
  ·intro Z B Q Q' W;rintro⟨v0,e0,a,C',M,fs,v,h1,h2,h3,h4,h5,p',ys,h6,h7,v1,e1,i,j,e3,e4,k,e5,q⟩;exact⟨v0,e0,a,C',M,fs,v,h1,h2,h3,h4,h5,p',ys,h6,h7,v1,e1,i,j,e3,e4,k,e5,W _ _ q⟩
def jm(C:au):Sp:=λvs H Q _=>Ex6 λp la b ls ws L=>Ex3 λ(i:Nat) (s:Nat) (t:Nat)=>vs=[.ref p,.int i,.int s,.int t]/\TailsAt C H p la b ls ws L/\GoodT b ls ws/\L<=1000/\t<1000/\i<=ws.length/\s<=b/\TQ C H p la b ls ws L λL' H'=>L'<=max L (t+1)->Q (.int (under ls b t ws[i]? s:Nat)) H'
theorem Wq:zF ["self","place","stop","left"] ["self","place","stop","left"] (zx xu):={}
theorem zao(D:Mt K C "Tails.many_under" "many_under" xu Aj f fd)(vq:Mt K C "Tails.layer" "layer" wD Ar f1 fd1)(yF:Mt K C "Tails.many_by" "many_by" xV An f2 fd2)(zH:ClT K mg C)(T:Blt mg)(U:Vk mg):FnOk P w K mg base CX0 3 f fd Aj (jm C):=by
 have x:FnOk P w K mg base CX0 1 f2 fd2 An (Vp C):=JR yF zH T U;have y:FnOk P w K mg base CX0 2 f1 fd1 Ar (Q8 C):=zdc vq yF zH T U;refine D.fn.ok Wq (λz H Q E h=>?_) (λcdv A outer s H z Q E o h=>?_)
 ·obtain⟨p,d,b,e,j,L,i,s,t,rfl,_⟩:=h;rfl
 ·obtain⟨p,d,b,e,j,L,i,s,t,rfl,q,G,B,F,I,J,M⟩:=h;obtain⟨r,sa,srs,N,h2,h3,h4⟩:=q.ob;have u:=yd _ _ _ _ N;refine⟨_,(zu (zG (qD yF zH.cl x (o.mono (by decide)) (pv 0) (zf (qD vq zH.cl y (o.mono (by decide)) (pv 0) (zf (pv 3) zg)) (zf (pv 1) (zf (pv 2) zg)))))),?_⟩;refine⟨_,rfl,p,r,_,rfl,u,uw _ _ _ _,?_⟩;refine⟨_,rfl,p,r,_,rfl,u,uw _ _ _ _,_,rfl,p,d,b,e,j,L,t,rfl,q,G,B,F,λk v H' l a O m R c=>?_⟩;exact⟨_,rfl,_,rfl,p,d,b,e,j,v,t,k,i,s,rfl,a,G,yd _ _ _ _ c,I,J,λS n=>M v S l (a.same n) (O.trans (n.aw [d])) (let ⟨_,g,_⟩:=a.ly;m.same g n) R⟩
end
theorem zaJ(G:GoodT b ls ws)(hi:i<=ws.length)(R:Rep ls b m ws[i]?)(hc:c<b):
  (∃j:Nat,stepV ls ws ws[i]? c=.int j/\j<=ws.length/\Rep ls b (m*b+c) ws[j]?)\/(stepV ls ws ws[i]? c=.non/\1<=m*b+c/\gd ls b (m*b+c)=false):=by
 have n:=G.g.b2;have k:∀h:¬ (ws[i]?=none/\c=0),stepV ls ws ws[i]? c=plc ls ws (ws[i]?.getD []++[(c:Int)]):=by
  intro h;cases hw:ws[i]? with
  |some x=>rfl
  |none=>
   rw[j7,if_neg (λz=>h ⟨hw,z⟩)];rfl
 rcases R.step G.ne n hc with ⟨d,e,f⟩ | ⟨l,⟨d,e⟩ | ⟨d,e,f⟩⟩
 ·left;refine⟨ws.length,by rw[d,j7,if_pos e],aq _,by rw[cj (aq _)];exact f⟩
 ·left;have o:=(G.s.mem _).mpr (j9 G.ne d);have a:=lU.mpr o;refine⟨ws.idxOf (zW ls (ws[i]?.getD []++[(c:Int)])),by rw[k l];unfold plc;rw[if_pos d],iz a,?_⟩;rw[aj a,p7 a];exact e
 ·right;exact⟨by rw[k l];unfold plc;rw[if_neg (by rw[d];exact bc)],e,f⟩
section
variable {P:bx} {w:bU} {K:aK} {mg:bZ->Option aD} {base:dj} {T0 C:au}
theorem zcY{p la b:Nat}(TA:TailsAt C H p la b ls ws L)(G:GoodT b ls ws)(hi:i<=ws.length)(hc:c<b):
  ∃(dx sa:au) (srs:List (au×List V)) (z:au×List V),H p=some (.ins C dx (Xj b ws.length sa la))/\H sa=some (.lst (srs.map λz=>V.ref z.1))/\atI (srs.map λz=>V.ref z.1) (i:Int)=some (V.ref z.1)/\H z.1=some (.lst z.2)/\atI z.2 (c:Int)=some (stepV ls ws ws[i]? c):=by
 obtain⟨dx,sa,srs,e,f,h,j⟩:=TA.ob;have a:=Jx (ls:=ls) (b:=b) (by have:=G.g.b2;omega) hi;rw[<-j,ao]at a;obtain⟨z,d,k⟩:=aY.mp a;refine⟨dx,sa,srs,z,yd _ _ _ _ e,yd _ _ _ _ f,yZ (by rw[ao,d];rfl),yd _ _ _ _ (h z (aL d)),yZ ?_⟩;rw[k,ao,eH hc];rfl
theorem TailsAt.obj{p la b:Nat}(TA:TailsAt C H p la b ls ws L):∃dx sa,H p=some (.ins C dx (Xj b ws.length sa la)):=by
 obtain⟨dx,sa,srs,a,_⟩:=TA.ob;exact⟨dx,sa,yd _ _ _ _ a⟩
def Wy(C:au):Sp:=λvs H Q _=>Ex6 λp la b ls ws L=>Ex2 λfa n=>vs=[.ref p,.ref fa]/\TailsAt C H p la b ls ws L/\GoodT b ls ws/\L<=1000/\aw [la] H fa=some (.lst ((figs b n).map V.int))/\n<2^900/\TQ C H p la b ls ws L λL' H'=>L'<=1000->Q (.int (many (gd ls b) n:Nat)) H'
theorem xm:zF ["self","figures","place","many","k"] ["self","figures"] (zx yr):={}
theorem zai(D:Mt K C "Tails.many_below" "many_below" yr Ba f fd)(yo:Mt K C "Tails.many_under" "many_under" xu Aj f1 fd1)(yu:FnOk P w K mg base CX0 3 f1 fd1 Aj (jm C))(zH:ClT K mg C)(T:Blt mg):FnOk P w K mg base CX0 4 f fd Ba (Wy C):=by
 refine D.fn.ok xm (λvs H Q E h=>?_) (λcdv A outer s H vs Q E hr h=>?_)
 ·obtain⟨p,O,b,a,l,L,S,n,rfl,_⟩:=h;rfl
 ·obtain⟨p,O,b,a,l,L,S,n,rfl,TA,G,hL,hf,hn,kk⟩:=h;have W:=G.g.b2;have X:=Xv W 900 n hn;obtain⟨ak,sa0,al⟩:=TA.obj;generalize hN:(figs b n).length=N at X;have Y:=jn W hN;refine yW ?_;intro XX;let q1:Sq XX ((zq yr).drop 3):=⟨_,zu (zG (pv 3))⟩
  let q2:Sq XX ((sb (zq yr) 2 true).drop 2):=⟨_,zu (yw (zK Uu (pv 2) yQ (zM _))
     (zu (zG (pv 3)))
     zR)⟩
  let q3:Sq XX ((sb (zq yr) 2 true).drop 1):=⟨_,zm (zE (i:=2) xm.nd rfl (bf rfl) (zQ (yt K) (zQ (yt K) (wV K (pv 0)) (pv 2) (λ_ _=>rfl)) (zQ (yt K) (pv 1) (pv 4) (λ_ _=>rfl)) (λ_ _=>rfl))) q2.p⟩
  let q4:Sq XX ((zq yr).drop 2):=⟨_,zm (wj bK rfl (yL rfl T.n_range (zf (zA (vY K) (by rfl) T.n_len PySem.boot_len (zf (pv 1) zg)) zg)) (zX (i:=4) xm.nd rfl (bf rfl))
    (zm (zdr (i:=3) xm.nd rfl (bf rfl) (qD yo zH.cl yu (hr.mono (by decide)) (pv 0) (zf (pv 2) (zf (zQ (yt K) (pv 1) (pv 4) (λ_ _=>rfl)) (zf (zP qG (zP qG (zA (vY K) (by rfl) T.n_len PySem.boot_len (zf (pv 1) zg)) (pv 4)) zr) zg)))) zf4) q3.p)) q1.p⟩
  let q5:Sq XX ((zq yr).drop 1):=⟨_,zm (zE (i:=3) xm.nd rfl (bf rfl) zr) q4.p⟩
  refine⟨_,(zm (zE (i:=2) xm.nd rfl (bf rfl) (wV K (pv 0))) q5.p),?_⟩;refine⟨_,rfl,p,C,ak,_,_,rfl,al,zH.cl,zH.n_outset,qd _ _ _ _,?_⟩;refine⟨_,rfl,S,_,rfl,.inl (SqL.of (yd _ _ _ _ hf)),?_⟩;rw[aa,hN];let J1:Nat->L2.St->L2.Hp->Prop:=λk Z U=>Ex3 λv4 (i:Nat) x=>An8 (Z=[some (.ref p),some (.ref S),some (.int i),some (.int (many (gd a b) (n / b^(N-k)*b^(N-k)))),v4]) (i<=l.length) (Rep a b (n / b^(N-k)) l[i]?) (L<=x) (x<=1000) (TailsAt C U p O b a l x) (Same (aw [O] H) (aw [O] U)) (NR O H U);refine⟨_,rfl,by omega,by omega,xj J1 ⟨none,l.length,L,?_,aq _,?_,aq _,hL,TA,Same.refl _,NR.refl _ _⟩ ?_ ?_⟩
  ·rw[cZ,dM Y,c7];rfl
  ·rw[cZ,dM Y,cj (aq _)];exact .inl ⟨rfl,rfl⟩
  ·rintro k Z U hk ⟨v4,i,x,rfl,hi,R,ac,y,d,m2,z⟩;have av:k<N:=by omega
   obtain⟨t,ht⟩:∃t,N-k=t+1:=⟨N-k-1,by omega⟩
   have et:N-1-k=t:=by omega
   have B:=zcJ W hN av;rw[et]at B;rw[ht]at R ⊢;have e:=zcz (b:=b) (n:=n) (t:=t) (by omega);have F:n / b^t % b<b:=mz _ (by omega);generalize hc:n / b^t % b=c at B e F;have ax:=m2 _ _ hf;have m:=yd _ _ _ _ ax;obtain⟨ay,sa2,az⟩:=d.obj;have ae:atI ((figs b n).map V.int) (0+k)=some (V.int c):=by rw[eG];exact yZ (by rw[ao,B];rfl)
   refine⟨_,rfl,_,rfl,p,ay,_,rfl,az,uw _ _ _ _,_,rfl,_,rfl,_,rfl,S,_,_,_,rfl,rfl,SqL.of m,ae,_,rfl,S,_,rfl,.inl (SqL.of m),_,rfl,_,_,rfl,rfl,_,_,rfl,rfl,?_⟩;refine⟨p,O,b,a,l,x,i,c,t,?_,d,G,y,by omega,hi,by omega,λL3 H3 hL3 I m3 bb hmx=>?_⟩
   ·rw[aa,hN];show [V.ref p,V.int i,V.int c,V.int (N-(0+k)-1)]=_;rw[show (N-(0+k)-1)=(t:Int) by omega]
   have o:L3<=1000:=by omega
   have J:=m2.trans m3;have u:=z.trans m2 bb;have bc:=yd _ _ _ _ (J _ _ hf);refine⟨_,_,rfl,rfl,?_⟩;have M:=ue G.ne W R t (s:=c) (by omega);rw[<-e]at M;obtain⟨bd,be,srs3,z3,q1,q2,q3,q4,q5⟩:=zcY I G hi F;refine⟨_,rfl,p,C,bd,_,_,rfl,q1,zH.cl,zH.n_steps,wI _ _ _ _,_,rfl,be,_,_,_,rfl,rfl,SqL.of q2,q3,_,rfl,_,rfl,S,_,_,_,rfl,rfl,SqL.of bc,ae,z3.1,_,_,_,rfl,rfl,SqL.of q4,q5,?_⟩;rcases zaJ G hi R F with ⟨j,e1,e2,e3⟩ | ⟨e1,e2,e3⟩
   ·rw[e1];refine⟨_,rfl,rfl,_,rfl,yG ⟨some (.int (0+k)),j,L3,?_,e2,?_,by omega,o,I,J,u⟩⟩
    ·rw[show N-(k+1)=t by omega,<-M];show [_,_,_,some (V.int ((many (gd a b) (n / b^(t+1)*b^(t+1)):Nat)+(under a b t l[i]? c:Nat))),_]=[_,_,_,some (V.int ((many (gd a b) (n / b^(t+1)*b^(t+1))+under a b t l[i]? c:Nat))),_]
     rw[fV]
    ·rw[show N-(k+1)=t by omega,e];exact e3
   ·rw[e1];refine⟨_,rfl,rfl,_,rfl,yz ⟨_,rfl,?_⟩⟩;have q:=kk L3 H3 (by omega) I J u o;rw[<-e]at e2 e3;have v:=zdf G.ne W e2 e3 t (r:=n % b^t) (iz (mz _ (gH (by omega))));rw[fD,mj,fD]at v;rw[v,<-M,fV]at q;exact q
  ·rintro Z U ⟨v4,i,x,rfl,hi,R,ac,y,d,m2,z⟩;refine⟨_,rfl,?_⟩;have q:=kk x U ac d m2 z y;rw[dU,gJ,fZ,Lg,oM];exact q
end
theorem LT.off(h:LT T H)(hla:H la=some (.lst xs))(m:Same (aw [la] H) (aw [la] H')):LT T H':=by
 have b:∀c o,c≠la->H c=some o->H' c=some o:=λc o g e=>by
  have a:c∉[la]:=by simpa using g
  have:=m c o (by rw[yc a];exact e);rwa[yc a]at this
 have f:=cF (h.lst hla);rcases h with h | ⟨c,i,d⟩
 ·exact .inl (b _ _ f h)
 ·refine .inr ⟨c,b _ _ f i,b _ _ (λz=>?_) d⟩;rw[z,hla]at d;cases d
theorem zcc{α:Type}{f:α->V}(h:∀a,f a=V.int 1):∀l:List α,(bW l.length [V.int 1]).flatten=l.map f
 |[]=>rfl
 |a::l=>by rw[bF,fW,kh,zcc h l,bC,h a];rfl
section
variable {P:bx} {w:bU} {K:aK} {mg:bZ->Option aD} {base:dj} {T0 C:au}
def Ug(T0 C:au):Sp:=λvs H Q _=>Ex6 λp dx r b bl zs=>An6 (vs=[.ref p,.ref r]) (H p=some (.ins C dx [])) (RuleAt H r b bl zs) (GoodRule b (zs.map (·.2))) (LT T0 H) (∀la ws H',TailsAt C H' p la b (zs.map (·.2)) ws 1->GoodT b (zs.map (·.2)) ws->(∀c o,c≠p->c≠T0->H c=some o->H' c=some o)->LT T0 H'->H la=none->(Ex2 λdx sa=>H' p=some (.ins C dx (Xj b ws.length sa la))/\H sa=none/\∀c o,H c=some o->NoRef H' la c/\NoRef H' sa c)->Q .non H')
theorem ZP:zF ["self","rule","stands"] ["self","rule"] (zx xF):={}
theorem zf3(D:Mt K C "Tails.__init__" "__init__" xF As f fd)(Yz:Df K mg "stands_of" yN ["bad"] f1 fd1)(Ve:FnOk P w K mg base CX0 6 f1 fd1 ["bad"] (VH T0))(Y0:Df K mg "all_steps" tW A9 f2 fd2)(Vf:FnOk P w K mg base CX0 6 f2 fd2 A9 Ul)(vC:Df K mg "lacks_all" uH Ad f3 fd3)(uh:FnOk P w K mg base CX0 2 f3 fd3 Ad jQ)(zH:ClT K mg C)(T:Blt mg):FnOk P w K mg base CX0 7 f fd As (Ug T0 C):=by
 refine D.fn.ok ZP (λvs H Q E h=>?_) (λcdv A outer s H vs Q E hr h=>?_)
 ·obtain⟨p,dx,r,b,bl,n,rfl,_⟩:=h;rfl
 ·obtain⟨p,dx,r,b,bl,n,rfl,hp,R,g,hT,kk⟩:=h;have h4:n.length<=4:=by have:=g.len;rwa[aa]at this
  have gz:∀z∈n,z.2≠[]/\z.2.length<=4:=λz j=>⟨(g.st _ (aQ.mpr ⟨z,j,rfl⟩)).ne,(g.st _ (aQ.mpr ⟨z,j,rfl⟩)).len⟩
  have q:p≠T0:=λz=>by
   rw[z]at hp;rcases hT with h | ⟨c,h,_⟩
   ·rw[h]at hp;cases hp
   ·rw[h]at hp;cases hp
  refine yW ?_;intro XX;let q1:Sq XX ((zq xF).drop 4):=⟨_,zu (ZZ (pv 0) (zY (zf (zP uB (zP zgc (zY (zf zr zg)) (zA (vY K) (by rfl) T.n_len PySem.boot_len (zf (pv 2) zg))) (zY (zf (zhb (xx (zL vC uh (hr.mono (by decide)) (zf (zQ (wz K) (pv 1) zr (λ_ _=>rfl)) (zf (zY (zf zr zg)) zg)))) zr zr) zg))) zg)) rfl)⟩
  let q2:Sq XX ((zq xF).drop 3):=⟨_,zm (ZZ (pv 0) (zL Y0 Vf (hr.mono (by decide)) (zf (pv 1) (zf (pv 2) zg))) rfl) q1.p⟩
  let q3:Sq XX ((zq xF).drop 2):=⟨_,zm (ZZ (pv 0) (zA (vY K) (by rfl) T.n_len PySem.boot_len (zf (pv 2) zg)) rfl) q2.p⟩
  let q4:Sq XX ((zq xF).drop 1):=⟨_,zm (ZZ (pv 0) (zQ (wz K) (pv 1) zr (λ_ _=>rfl)) rfl) q3.p⟩
  refine⟨_,(zm (zE (i:=2) ZP.nd rfl (bf rfl) (zL Yz Ve (hr.mono (by decide)) (zf (zQ (wz K) (pv 1) zr (λ_ _=>rfl)) zg))) q4.p),?_⟩;refine⟨_,rfl,r,_,_,V.ref bl,rfl,rfl,SqT.of R.tu,rfl,bl,n,rfl,R.li,R.st,h4,gz,hT,λDd a H1 hDn hD hws SL h13 mL hT1=>?_⟩;have R1:RuleAt H1 r b bl n:=⟨mL _ _ (hT.tup R.tu) R.tu,mL _ _ (hT.lst R.li) R.li,λz j=>mL _ _ (hT.lst (R.st z j)) (R.st z j)⟩
  have hp1:=mL _ _ q hp;have rp:r≠p:=qp R1.tu hp1 (λz=>nomatch z);have lp:∀{c:au} {xs:List V},H1 c=some (.lst xs)->c≠p:=λh=>qp h hp1 (λz=>nomatch z);refine⟨_,rfl,r,_,_,V.int b,rfl,rfl,SqT.of R1.tu,rfl,_,rfl,p,C,dx,_,rfl,hp1,zH.cl,zH.n_base,(by show 0<1000;decide),?_⟩;refine⟨_,rfl,Dd,_,rfl,.inl (SqL.of (by rw[zy (lp hD)];exact hD)),_,rfl,p,C,dx,_,rfl,zj,zH.cl,zH.n_outset,(by show 1<1000;decide),?_⟩;rw[zed,aa];generalize hH3:upd H1 p (.ins C dx (ym "outset" (.int (a.length:Nat)) (ym "base" (.int b) [])))=H3;have m3:∀c o,c≠p->H1 c=some o->H3 c=some o:=λc o hc e=>by rw[<-hH3,zy hc];exact e
  have hp3:H3 p=some (.ins C dx (ym "outset" (.int (a.length:Nat)) (ym "base" (.int b) []))):=by rw[<-hH3,zj]
  have R3:RuleAt H3 r b bl n:=⟨m3 _ _ rp R1.tu,m3 _ _ (lp R1.li) R1.li,λz j=>m3 _ _ (lp (R1.st z j)) (R1.st z j)⟩
  refine⟨_,rfl,_,rfl,r,b,bl,n,Dd,a,rfl,R3,g,m3 _ _ (lp hD) hD,λz j=>m3 _ _ (lp (hws z j).2.1) (hws z j).2.1,SL,h13,λsa srs H4 hsa m4 l hsrs hsr2=>?_⟩;have hp4:=m4 _ _ hp3;have len2:(ym "outset" (.int (a.length:Nat)) (ym "base" (.int b) [])).length<=2:=aB (vp _ _ _) (ir (vp _ _ _));refine⟨_,rfl,p,C,dx,_,rfl,hp4,zH.cl,zH.n_steps,by omega,?_⟩;generalize hH5:upd H4 p (.ins C dx (ym "steps" (.ref sa) (ym "outset" (.int (a.length:Nat)) (ym "base" (.int b) []))))=H5;have m5:∀c o,c≠p->H4 c=some o->H5 c=some o:=λc o hc e=>by rw[<-hH5,zy hc];exact e
  have hp5:H5 p=some (.ins C dx (ym "steps" (.ref sa) (ym "outset" (.int (a.length:Nat)) (ym "base" (.int b) [])))):=by rw[<-hH5,zj]
  have lp4:∀{c:au} {xs:List V},H4 c=some (.lst xs)->c≠p:=λh=>qp h hp4 (λz=>nomatch z);have R4:=R3.same m4;have R5:RuleAt H5 r b bl n:=⟨m5 _ _ (qp R4.tu hp4 (λz=>nomatch z)) R4.tu,m5 _ _ (lp4 R4.li) R4.li,λz j=>m5 _ _ (lp4 (R4.st z j)) (R4.st z j)⟩
  have hD5:H5 Dd=some (.lst (a.map λz=>V.ref z.1)):=m5 _ _ (lp4 (m4 _ _ (m3 _ _ (lp hD) hD))) (m4 _ _ (m3 _ _ (lp hD) hD));refine⟨(by show 1<=aA;decide),λq1 n1=>?_⟩;refine⟨_,rfl,Dd,_,rfl,.inl (SqL.of (zp n1 _ _ hD5)),?_⟩;rw[aa];refine⟨q1,_,_,rfl,rfl,zj,by omega,by omega,?_,λq2 n2=>?_⟩
  ·show 1*(a.length:Int).toNat<=aA;exact aB (show 1*(a.length:Int).toNat<=13 by omega) (by decide)
  have s1:=zp n1 (o:=.lst [V.int 1]);have s2:=s1.trans (zp n2 (o:=.lst (bW (a.length:Int).toNat [V.int 1]).flatten));have R6:=R5.same s2;refine⟨_,rfl,r,_,_,V.ref bl,rfl,rfl,SqT.of R6.tu,rfl,(by show 1<=aA;decide),λq3 n3=>?_⟩;have s3:=s2.trans (zp n3 (o:=.lst [V.int 0]));have R7:=R5.same s3;refine⟨bl,q3,n,[0],rfl,R7.li,R7.st,zj,by omega,by decide,λz j=>⟨(gz z j).1,aB (gz z j).2 (by decide)⟩,λH8 s8=>⟨_,rfl,?_⟩⟩;have s38:=s3.trans s8;have fin:∀x:Int,x=((xU (n.map (·.2)) b 0:Nat):Int)->∀q4,H8 q4=none->q2≠q4->∀m,upd H8 q4 (.lst [V.int x]) m=none->∀q6,upd (upd H8 q4 (.lst [V.int x])) m (.lst ((bW (a.length:Int).toNat [V.int 1]).flatten++[V.int x])) q6=none ->
    Q .non (upd (upd (upd (upd H8 q4 (.lst [V.int x])) m (.lst ((bW (a.length:Int).toNat [V.int 1]).flatten++[V.int x]))) q6 (.lst [V.ref m])) p (.ins C dx (ym "layers" (.ref q6) (ym "steps" (.ref sa) (ym "outset" (.int (a.length:Nat)) (ym "base" (.int b) [])))))):=by
   intro x k q4 n4 _ m n5 q6 n6;have t4:=zp n4 (o:=.lst [V.int x]);have t5:=zp n5 (o:=.lst ((bW (a.length:Int).toNat [V.int 1]).flatten++[V.int x]));have t6:=zp n6 (o:=.lst [V.ref m]);have t46:=t4.trans (t5.trans t6);have s56:=s38.trans t46;have hp9:=s56 _ _ hp5;have f3:∀c,H3 c=none->H c=none:=λc h3'=>by
    have h1':H1 c=none:=by
     rw[<-hH3]at h3';by_cases z:c=p
     ·subst z;rw[zj]at h3';cases h3'
     ·rwa[zy z]at h3'
    cases e:H c with
    |none=>rfl
    |some o=>
     by_cases z:c=T0
     ·subst z;exact absurd h1' (by
       rcases hT1 with h | ⟨d,h,_⟩
       ·rw[h];simp
       ·rw[h];simp)
     ·rw[mL c o z e]at h1';cases h1'
   have f5:∀c,H5 c=none->H c=none:=λc hc=>by
    have h5:H4 c=none:=by
     rw[<-hH5]at hc;by_cases z:c=p
     ·subst z;rw[zj]at hc;cases hc
     ·rwa[zy z]at hc
    exact f3 c (m4.free h5)
   have q6H5:H5 q6=none:=(s38.trans (t4.trans t5)).free n6;have q6p:q6≠p:=λz=>by rw[z,hp5]at q6H5;cases q6H5
   have np5:m≠q6:=λz=>by rw[<-z,zj]at n6;cases n6
   generalize hH9:upd (upd (upd H8 q4 (.lst [V.int x])) m (.lst ((bW (a.length:Int).toNat [V.int 1]).flatten++[V.int x]))) q6 (.lst [V.ref m])=H9 at t6 t46 s56 hp9;have hq6:H9 q6=some (.lst [V.ref m]):=by rw[<-hH9,zj]
   have hq5:H9 m=some (.lst ((bW (a.length:Int).toNat [V.int 1]).flatten++[V.int x])):=by rw[<-hH9,zy np5,zj]
   have q5p:m≠p:=qp hq5 hp9 (λz=>nomatch z);have off:∀c o,c≠p->H5 c=some o->aw [q6] (upd H9 p (.ins C dx (Xj b a.length sa q6))) c=some o:=λc o hc e=>by
    have hcq:c≠q6:=zz e q6H5;rw[yc (by simpa using hcq),zy hc];exact s56 c o e
   have sa4:H4 sa=some (.lst (srs.map λz=>V.ref z.1)):=l;have l1:∀{c:au} {xs:List V},H4 c=some (.lst xs)->H5 c=some (.lst xs)/\c≠p:=λh=>⟨m5 _ _ (lp4 h) h,lp4 h⟩
   refine kk q6 (a.map (·.2)) _ ⟨⟨dx,sa,srs,?_,off _ _ (l1 l).2 (l1 l).1,λz j=>off _ _ (l1 (hsrs z j).2).2 (l1 (hsrs z j).2).1,hsr2⟩,⟨[(m,vW (n.map (·.2)) (a.map (·.2)) b 0)],by rw[zy q6p];exact hq6,λz j=>?_,rfl⟩,aq _⟩ ⟨g,SL,by rw[aa];exact h13⟩ (λc o hc hcT e=>?_) ?_ (f5 _ q6H5) ⟨dx,sa,by rw[zj,aa];rfl,f3 _ hsa,λc o e=>⟨λxs k=>?_,λxs k=>?_⟩⟩
   ·rw[yc (by simpa using cF q6p),aa];exact zj
   ·have e:z=(m,vW (n.map (·.2)) (a.map (·.2)) b 0):=by simpa using j
    subst e;rw[yc (by simpa using np5),zy q5p,hq5];congr 2;unfold vW;rw[aH,k,dU,cC,cC];rw[zcc (λ_=>rfl) a];rfl
   ·rw[zy hc];have h1:=mL c o hcT e;exact s56 c o (m5 c o hc (m4 c o (m3 c o hc h1)))
   ·have a1:LT T0 H3:=by
     rcases hT1 with h | ⟨d,h1,h2⟩
     ·exact .inl (m3 _ _ (cF q) h)
     ·exact .inr ⟨d,m3 _ _ (cF q) h1,m3 _ _ (qp h2 hp1 (λz=>nomatch z)) h2⟩
    have a2:=a1.same m4;have a3:LT T0 H5:=by
     rcases a2 with h | ⟨d,h1,h2⟩
     ·exact .inl (m5 _ _ (cF q) h)
     ·exact .inr ⟨d,m5 _ _ (cF q) h1,m5 _ _ (qp h2 hp4 (λz=>nomatch z)) h2⟩
    have a4:=a3.same s56;rcases a4 with h | ⟨d,h1,h2⟩
    ·exact .inl (by rw[zy (cF q)];exact h)
    ·exact .inr ⟨d,by rw[zy (cF q)];exact h1,by rw[zy (qp h2 hp9 (λz=>nomatch z))];exact h2⟩
   ·rw[zy q6p,hq6]at k;injection k with k
    injection k with k
    rw[<-k,bu];intro z;injection z with z
    have q5n:H5 m=none:=(s38.trans t4).free n5;rw[z,f5 _ q5n]at e;cases e
   ·rw[zy (l1 l).2,s56 _ _ (l1 l).1]at k;injection k with k
    injection k with k
    rw[<-k];intro hm;obtain⟨z,j,ez⟩:=aQ.mp hm;injection ez with ez
    rw[<-ez,f3 _ (hsrs z j).1]at e;cases e
  have hq2:H8 q2=some (.lst (bW (a.length:Int).toNat [V.int 1]).flatten):=s8 _ _ (zp n3 _ _ zj);have lenr:(bW (a.length:Int).toNat [V.int 1]).flatten.length<=13:=by rw[dU,zcc (f:=λ_=>V.int 1) (λ_=>rfl) a,aa];exact h13
  have len3:(ym "steps" (.ref sa) (ym "outset" (.int (a.length:Nat)) (ym "base" (.int b) []))).length<=3:=aB (vp _ _ _) (ir len2);cases hlk:lacks (n.map (·.2)) [0]
  case' true=>
   refine yz ⟨(by show 1<=aA;decide),λq4 n4=>?_⟩;have k:(1:Int)=((xU (n.map (·.2)) b 0:Nat):Int):=by unfold xU;rw[hlk];rfl
  case' false=>
   refine yG ⟨(by show 1<=aA;decide),λq4 n4=>?_⟩;have k:(0:Int)=((xU (n.map (·.2)) b 0:Nat):Int):=by unfold xU;rw[hlk];rfl
  all_goals
   have nq:q2≠q4:=zz hq2 n4;refine⟨q2,q4,_,_,rfl,rfl,by rw[zy nq];exact hq2,zj,aB (Hm lenr (aq 1)) (by decide),λm n5=>⟨(by show 1<=aA;decide),λq6 n6=>?_⟩⟩;have hp8:=s38 _ _ hp5;exact⟨_,rfl,p,C,dx,_,rfl,(zp n4).trans ((zp n5).trans (zp n6)) _ _ hp8,zH.cl,zH.n_layers,by omega,fin _ k q4 n4 nq m n5 q6 n6⟩
def Xp(C:au):Sp:=λvs H Q _=>Ex6 λp la b ls ws L=>vs=[.ref p]/\TailsAt C H p la b ls ws L/\GoodT b ls ws/\L<=1000/\TQ C H p la b ls ws L λL' H'=>L'<=1000->Q (.bl (decide (xU ls b ws.length<xU ls b (ws.length+1)))) H'
end
theorem zeu(nx:H x=none)(ndx:H dx=none):Same H (upd (upd H dx (.own x)) x (.ins C dx [])):=λb o e=>by
 rw[zy (zz e nx),zy (zz e ndx)];exact e
theorem TailsAt.la{C p la b:Nat}(TA:TailsAt C H p la b ls ws L):∃xs,H la=some (.lst xs):=let ⟨_,h,_⟩:=TA.ly;⟨_,h⟩
section
variable {P:bx} {w:bU} {K:aK} {mg:bZ->Option aD} {base:dj} {T0 C:au}
def zjj(T0 C:au)(b:Nat)(ls:ZA)(H:Hp)(x:au)(H':Hp):Prop:=∃la ws,TailsAt C H' x la b ls ws 1/\GoodT b ls ws/\SameL T0 H H'/\LT T0 H'/\H la=none/\H x=none/\∃dx sa,H' x=some (.ins C dx (Xj b ws.length sa la))/\H sa=none/\∀c o,H c=some o->NoRef H' la c/\NoRef H' sa c
theorem zey(R:RuleAt H r b bl zs)(g:GoodRule b (zs.map (·.2)))(hT:LT T0 H){R':au->Hp->Prop}(k:∀x H',zjj T0 C b (zs.map (·.2)) H x H'->R' x H'):
  ∀x dx,H x=none->H dx=none->dx≠x->Ug T0 C (.ref x::([.ref r]++[])) (upd (upd H dx (.own x)) x (.ins C dx [])) (λv H2=>v=.non/\R' x H2) E0:=by
 intro x dx d f nex;have a:=zeu (C:=C) d f;refine⟨x,dx,r,b,bl,zs,rfl,zj,R.same a,g,hT.same a,λl m H' n G p h i ⟨j,q,s,t,u⟩=>⟨rfl,k x H' ⟨l,m,n,G,λc o w e=>p c o (zz e d) w (a c o e),h,a.free i,d,j,q,s,a.free t,λc o e=>u c o (a _ _ e)⟩⟩⟩
end
theorem zby:∀ds:List cD,ds.length<=gh ds
 |[]=>bw _
 |d::ds=>by rw[gh,bF];have:=zby ds;omega
mutual
theorem zdz:∀d:cD,jG d<=d.weight
 |.none=>by rw[jG.eq_def];exact bw _
 |.bool _=>by rw[jG.eq_def];exact bw _
 |.int _=>by rw[jG.eq_def];exact bw _
 |.str _=>by rw[jG.eq_def];exact bw _
 |.list xs=>by rw[jG,lQ];have:=zby xs;have:=zbB xs;omega
 |.tuple xs=>by rw[jG,lQ];have:=zby xs;have:=zbB xs;omega
 |.dict _=>by rw[jG.eq_def];exact bw _
theorem zbB:∀ds:List cD,X3 ds<=gh ds
 |[]=>by rw[X3];exact bw _
 |d::ds=>by rw[X3,gh];have:=zdz d;have:=zbB ds;omega
end
theorem zdq(g:GoodRule b ls):zec (.tuple [.int b,.list (ls.map λl=>.list (l.map .int))])=true:=by
 have f:Qm (.int b)=true:=decide_eq_true (by have:=g.b2;have:=g.b16;omega);have h:∀l∈ls,zU b (.list (l.map .int))=true:=λl a=>by
  have s:=g.st l a;have j:Jh b (.list (l.map .int))=true:=by
   show (l.map Hv).all (Uo b)=true;rw[n8];intro x c;obtain⟨i,d,rfl⟩:=aQ.mp c;exact decide_eq_true (s.fig i d)
  have m:(Wt (.list (l.map .int))).length=l.length:=aa ..;unfold zU;rw[j,m,gf];exact decide_eq_true ⟨cT.mpr s.ne,s.len⟩
 have d:(ls.map λl=>mK (l.map .int)).map xX=ls:=by
  rw[cC]
  conv=>rhs;rw[<-CZ ls]
  refine eO λl _=>?_;show (l.map Hv).map YL=l;rw[cC]
  conv=>rhs;rw[<-CZ l]
  rfl
 show (Qm (.int b) && zhc b (.list (ls.map λl=>.list (l.map .int))))=true;rw[f,gf];show (decide ((ls.map λl=>mK (l.map .int)).length<=4) && ((ls.map λl=>mK (l.map .int)).all (zU b) && Wj ((ls.map λl=>mK (l.map .int)).map xX)))=true;rw[d,aa,decide_eq_true g.len,gf,cA];refine⟨?_,?_⟩
 ·rw[n8];intro x c;obtain⟨l,a,rfl⟩:=aQ.mp c;exact h l a
 ·unfold Wj;rw[n8];intro k e;have e:=cI.mp e;rw[aN,aN,aj (show k<ls.length by omega),aj (show k+1<ls.length by omega)];exact gC.mp g.up k (k+1) (by omega) (by omega) (by omega)
theorem RuleAt.th(R:RuleAt H r b bl zs):ThAt H (.tuple [.int b,.list ((zs.map (·.2)).map λl=>.list (l.map .int))]) (.ref r):=by
 refine⟨r,_,rfl,R.tu,?_⟩;refine⟨_,_,rfl,by rw[ThAt],?_⟩;refine⟨_,_,rfl,?_,by rw[ThsAt]⟩;refine⟨bl,_,rfl,R.li,?_⟩;rw[cC];exact ThsAt.map λz a=>ThAt.ints (R.st z a)
theorem RuleAt.thing(R:RuleAt H r b bl zs)(g:GoodRule b (zs.map (·.2))):∃d,ThAt H d (.ref r)/\zec d=true/\Fit 3 5000 d:=by
 have h:=R.th;refine⟨_,h,zdq g,Th.fit ?_ h⟩;have f:=g.len;rw[aa]at f;have b16:=g.b16;have a:∀z∈zs,Th H 1 404 (.ref z.1):=λz a=>by
  have s:=g.st _ (aQ.mpr ⟨z,a,rfl⟩);refine Th.ints (R.st z a) (λi j=>by have:=s.fig i j;omega) (by have:=s.len;omega)
 have k:Th H 2 1620 (.ref bl):=Th.lst R.li (λv c=>by
  obtain⟨z,e,rfl⟩:=aQ.mp c;exact a z e) (by rw[aa];omega)
 refine Th.tup R.tu (λv c=>?_) (by show 1621*2<=5000;decide);simp only[aW,eF,or_false]at c;rcases c with rfl | rfl
 ·exact Th.int (by omega) (by decide)
 ·exact k
theorem zdM(h:zU b d=true):∃l:List Int,d=.list (l.map .int)/\l≠[]/\l.length<=4/\∀i∈l,0<=i/\i<b:=by
 unfold zU at h;rw[cA]at h;obtain⟨e,f⟩:=h;have f:=of_decide_eq_true f;cases d with
 |list a=>
  have e:a.all (Uo b)=true:=e;rw[n8]at e;have f:1<=a.length/\a.length<=4:=f;have g:∀x∈a,x=.int (YL x)/\0<=YL x/\YL x<b:=λx g=>by
   have q:=e x g;cases x with
   |int i=>exact⟨rfl,of_decide_eq_true q⟩
   |_=>cases q
  refine⟨a.map YL,?_,λz=>?_,by rw[aa];exact f.2,λi j=>?_⟩
  ·rw[cC]
   conv=>lhs;rw[<-CZ a]
   exact congrArg mK (eO λx c=>(g x c).1)
  ·have:a.length=0:=by rw[<-aa,z];rfl
   omega
  ·obtain⟨x,c,rfl⟩:=aQ.mp j;exact (g x c).2
 |_=>cases e
section
variable {P:bx} {w:bU} {K:aK} {mg:bZ->Option aD} {base:dj}
def Wx:Sp:=λvs H Q _=>Ex4 λr b bl zs=>An4 (vs=[.ref r]) (RuleAt H r b bl zs) (GoodRule b (zs.map (·.2))) (∀H',Same H H'->Q .non H')
theorem zaz:zF ["thing"] ["thing"] (zx jR):={}
theorem zaq(D:Df K mg "check_rule" jR Aa f fd)(V0:Df K mg "is_rule" Yu Aa f1 fd1)(JW:FnOk P w K mg base CX0 6 f1 fd1 Aa JM):FnOk P w K mg base CX0 7 f fd Aa Wx:=by
 refine D.fn.ok zaz (λc H Q E h=>?_) (λcdv A outer s H c Q E e h=>?_)
 ·obtain⟨r,b,i,j,rfl,_⟩:=h;rfl
 ·obtain⟨r,b,i,j,rfl,R,g,k⟩:=h;obtain⟨d,l,m,a⟩:=R.thing g;refine⟨_,(zu (yw (vK (xx (zL V0 JW (e.mono (by decide)) (zf (pv 0) zg))))
    (zu zae)
    zR)),?_⟩
  refine⟨_,rfl,.ref r,d,rfl,l,aB (zdz d) (aB a.wt (by decide)),λn o=>⟨_,rfl,?_⟩⟩;rw[m];exact yG (k n o)
def WM:Sp:=λvs H Q _=>∃i:Int,An4 (vs=[.int i]) (2<=i) (i<=16) (Q .non H)
theorem zaB:zF ["thing"] ["thing"] (zx jN):={}
theorem zan(D:Df K mg "check_base" jN Aa f fd)(Zn:Df K mg "is_base" Yj Aa f1 fd1)(Yk:FnOk P w K mg base CX0 2 f1 fd1 Aa Vb):FnOk P w K mg base CX0 3 f fd Aa WM:=by
 refine D.fn.ok zaB (λa H Q E h=>?_) (λcdv A outer s H a Q E b h=>?_)
 ·obtain⟨i,rfl,_⟩:=h;rfl
 ·obtain⟨i,rfl,c,d,q⟩:=h;refine⟨_,(zu (yw (vK (xx (zL Zn Yk (b.mono (by decide)) (zf (pv 0) zg))))
    (zu zae)
    zR)),?_⟩
  refine⟨_,rfl,_,.int i,rfl,by rw[ThAt],_,rfl,?_⟩;rw[show Qm (.int i)=true from decide_eq_true ⟨c,d⟩];exact yG q
def VB:Sp:=λvs H Q _=>∃i:Int,vs=[.int i]/\Q (.bl (decide (0<=i))) H
theorem zbU:zF ["thing"] ["thing"] (zx Zy):={}
theorem zbn(D:Df K mg "is_number" Zy Aa f fd)(xP:Df K mg "is_whole" tO Aa f1 fd1)(T:Blt mg):FnOk P w K mg base CX0 2 f fd Aa VB:=by
 have a:FnOk P w K mg base CX0 1 f1 fd1 Aa ZD:=XC xP T;refine D.fn.ok zbU (λb H Q E h=>?_) (λcdv A outer s H b Q E c h=>?_)
 ·obtain⟨i,rfl,_⟩:=h;rfl
 ·obtain⟨i,rfl,q⟩:=h;refine⟨_,(zu (zG (uU (zL xP a (c.mono (by decide)) (zf (pv 0) zg)) (qH (xK zha (pv 0) zr (zM _)))))),?_⟩;exact⟨_,rfl,_,.int i,rfl,by rw[ThAt],_,rfl,yz ⟨_,rfl,_,_,rfl,rfl,q⟩⟩
def uY:Sp:=λvs H Q _=>∃i:Int,An3 (vs=[.int i]) (0<=i) (Q .non H)
theorem Qv:zF ["thing"] ["thing"] (zx vR):={}
theorem QC(D:Df K mg "check_number" vR Aa f fd)(Yv:Df K mg "is_number" Zy Aa f2 fd2)(xP:Df K mg "is_whole" tO Aa f1 fd1)(T:Blt mg):FnOk P w K mg base CX0 3 f fd Aa uY:=by
 have a:FnOk P w K mg base CX0 2 f2 fd2 Aa VB:=zbn Yv xP T;refine D.fn.ok Qv (λb H Q E h=>?_) (λcdv A outer s H b Q E c h=>?_)
 ·obtain⟨i,rfl,_⟩:=h;rfl
 ·obtain⟨i,rfl,d,q⟩:=h;refine⟨_,(zu (yw (vK (xx (zL Yv a (c.mono (by decide)) (zf (pv 0) zg))))
    (zu zae)
    zR)),?_⟩
  refine⟨_,rfl,i,rfl,_,rfl,?_⟩;rw[decide_eq_true d];exact yG q
def WQ:Sp:=λvs H Q _=>Ex2 λ(b:Nat) (n:Nat)=>An5 (vs=[.int b,.int n]) (2<=b) (b<=16) (n<2^900) (∀l H',H l=none->H' l=some (.lst ((figs b n).map V.int))->Same H H'->Q (.ref l) H')
theorem jj:zF ["base","n","backwards","rest"] ["base","n"] (zx xJ):={}
theorem zam(D:Df K mg "figures_of" xJ Ak f fd)(ZL:Df K mg "check_base" jN Aa f1 fd1)(X4:FnOk P w K mg base CX0 3 f1 fd1 Aa WM)(yX:Df K mg "check_number" vR Aa f2 fd2)(xN:FnOk P w K mg base CX0 3 f2 fd2 Aa uY)(T:Blt mg):FnOk P w K mg base CX0 4 f fd Ak WQ:=by
 refine D.fn.ok jj (λI H Q E h=>?_) (λcdv A outer s H I Q E C h=>?_)
 ·obtain⟨b,n,rfl,_⟩:=h;rfl
 ·obtain⟨b,n,rfl,t,h16,J,k⟩:=h;refine yW ?_;intro c;let M:Sq c ((zq xJ).drop 5):=⟨_,zu (zG (zd4 rfl rfl T.n_list rfl T.n_reversed (pv 2)))⟩
  let N:Sq c ((sb (zq xJ) 4 true).drop 1):=⟨_,zu (zE (i:=3) jj.nd rfl (bf rfl) (zP Xh (pv 3) (pv 0)))⟩
  let O:Sq c ((zq xJ).drop 4):=⟨_,zm (X6 bK (zK Us (pv 3) zr (zM _))
    (zm (wQ (ZC PySem.F.plainAttrs_list PySem.F.slot_list_append PySem.F.type_list_append wX (pv 2) (zf (zP Z3 (pv 3) (pv 0)) zg))) N.p)) M.p⟩
  let R:Sq c ((zq xJ).drop 3):=⟨_,zm (zE (i:=3) jj.nd rfl (bf rfl) (zP Xh (pv 1) (pv 0))) O.p⟩
  let S:Sq c ((zq xJ).drop 2):=⟨_,zm (zE (i:=2) jj.nd rfl (bf rfl) (zY (zf (zP Z3 (pv 1) (pv 0)) zg))) R.p⟩
  let U:Sq c ((zq xJ).drop 1):=⟨_,zm (wQ (zL yX xN (C.mono (by decide)) (zf (pv 1) zg))) S.p⟩
  refine⟨_,(zm (wQ (zL ZL X4 (C.mono (by decide)) (zf (pv 0) zg))) U.p),?_⟩;refine⟨_,rfl,b,rfl,by omega,by omega,?_⟩;refine⟨_,rfl,n,rfl,by omega,?_⟩;refine⟨_,rfl,_,rfl,_,_,rfl,rfl,(by omega),(by decide:1<=aA),λl G=>?_⟩;refine⟨_,rfl,_,rfl,_,_,rfl,rfl,⟨by omega,by omega⟩,?_⟩;have hlen:=Xv t 900 n J;refine VL (λZ g=>∃(r:Nat) (L:List Int),Z=[some (.int b),some (.int n),some (.ref l),some (.int r)]/\g l=some (.lst (L.map V.int))/\Same H g/\figs b n=ahead b r++L.reverse)
   (λZ _=>match Z with | [_,_,_,some (.int r)]=>r.toNat | _=>0) ?_ ?_ ?_
  ·refine⟨n / b,[((n % b:Nat))],?_,?_,zp G,?_⟩
   ·rfl
   ·rw[zj];simp
   ·rw[Wm t];simp
  ·rintro Z g ⟨r,L,rfl,m,u,x⟩;refine⟨_,rfl,_,_,rfl,rfl,_,rfl,?_⟩;refine zbz (λy=>?_) (λy=>?_)
   ·have a:0<r:=by have:=of_decide_eq_true y;omega
    have B:L.length<=901:=by
     have:=congrArg cB x;rw[aF,fX]at this;omega
    refine⟨_,rfl,.inl ⟨rfl,_,SqL.of m⟩,_,rfl,_,rfl,_,_,rfl,rfl,(by omega),l,_,_,rfl,rfl,m,by rw[aa];exact aR B (by decide),?_⟩;refine⟨_,rfl,_,rfl,_,_,rfl,rfl,⟨by omega,by omega⟩,?_⟩;refine⟨⟨r / b,L++[((r % b:Nat):Int)],?_,?_,?_,?_⟩,?_⟩
    ·simp
    ·rw[zj];simp
    ·exact λW o e=>by rw[zy (zz e G)];exact u W o e
    ·rw[x,Jr t a,Dq];simp
    ·show (r / (b:Int)).toNat<(r:Int).toNat;have:r / b<r:=lZ a (by omega);omega
   ·have a:r=0:=by
     by_cases z:r=0
     ·exact z
     ·exact absurd (decide_eq_true (by omega)) y
    subst a;refine⟨_,rfl,l,_,rfl,SqL.of m,λq d=>?_⟩;have hlq:q≠l:=λz=>by rw[z,m]at d;cases d
    refine k q _ (u.free d) ?_ (u.trans (zp d));rw[zj,x];simp[ahead]
  ·intro Z g Q Q' d;rintro⟨v,e,i,j,X,Y,k,e3,q⟩;exact⟨v,e,i,j,X,Y,k,e3,d _ _ q⟩
end
end Lw
namespace Lw
open PySem L2 PyProof.Rows
theorem TailsAt.updI{C tl la b p CS dxp:Nat}(TA:TailsAt C H tl la b ls ws L)(h:H p=some (.ins CS dxp fs))(hne:tl≠p):TailsAt C (upd H p o) tl la b ls ws L:=by
 obtain⟨q,r,g,s,k,l,t⟩:=TA.ob;obtain⟨i,m,n,v⟩:=TA.ly;have d:∀{c:au} {xs:List V},H c=some (.lst xs)->c≠p:=λe z=>by rw[z,h]at e;cases e
 have f:∀c u,c≠p->aw [la] H c=some u->aw [la] (upd H p o) c=some u:=λc u w e=>by
  have j:c∉[la]:=λa=>by rw[ju a]at e;cases e
  rw[yc j]at e ⊢;rw[zy w];exact e
 exact⟨⟨q,r,g,f _ _ hne s,f _ _ (d (yd _ _ _ _ k)) k,λz a=>f _ _ (d (yd _ _ _ _ (l z a))) (l z a),t⟩,⟨i,by rw[zy (d m)];exact m,λz a=>f _ _ (d (yd _ _ _ _ (n z a))) (n z a),v⟩,TA.l1⟩
theorem LT.putI(h:LT T H)(e:H p=some (.ins CS dx fs)):LT T (upd H p o):=by
 have b:p≠T:=λz=>by
  rw[z]at e;rcases h with h | ⟨c,h,_⟩
  ·rw[h]at e;cases e
  ·rw[h]at e;cases e
 rcases h with h | ⟨c,f,a⟩
 ·exact .inl (by rw[zy (cF b)];exact h)
 ·exact .inr ⟨c,by rw[zy (cF b)];exact f,by rw[zy (λz=>by rw[z,e]at a;cases a)];exact a⟩
structure ClK (K:aK) (mg:bZ->Option aD) (C:au):Prop where
 cl:Cls K C
 nm:mg "Keeper"= some (.ref C)
 n_base:NoAttr K C "base"
 n_bad:NoAttr K C "bad"
 n_bound:NoAttr K C "bound"
 n_tails:NoAttr K C "tails"
def tH(b:Nat)(bl:au)(bd:Nat)(tl:au):List (bZ×V):=ym "tails" (.ref tl) (ym "bound" (.int bd) (ym "bad" (.ref bl) (ym "base" (.int b) [])))
section
variable (b:Nat) (bl:au) (bd:Nat) (tl:au)
theorem Jl:(tH b bl bd tl).lookup ("tails" : bZ)=some (.ref tl):=by unfold tH;rw[zJ,if_pos rfl]
theorem QW:(tH b bl bd tl).lookup ("bound" : bZ)=some (.int bd):=by unfold tH;rw[zJ,if_neg (by decide +kernel),zJ,if_pos rfl]
theorem Yi:(tH b bl bd tl).lookup ("bad" : bZ)=some (.ref bl):=by unfold tH;rw[zJ,if_neg (by decide +kernel),zJ,if_neg (by decide +kernel),zJ,if_pos rfl]
theorem Yc:(tH b bl bd tl).lookup ("base" : bZ)=some (.int b):=by unfold tH;rw[zJ,if_neg (by decide +kernel),zJ,if_neg (by decide +kernel),zJ,if_neg (by decide +kernel),zJ,if_pos rfl]
theorem uZ{m:bZ}(h1:¬ m ="tails":=by decide +kernel)(h2:¬ m ="bound":=by decide +kernel)(h3:¬ m ="bad":=by decide +kernel)(h4:¬ m ="base":=by decide +kernel):(tH b bl bd tl).lookup m=none:=by
 unfold tH;rw[zJ,if_neg h1,zJ,if_neg h2,zJ,if_neg h3,zJ,if_neg h4];rfl
theorem zc9:(tH b bl bd tl).length<=4:=aB (vp _ _ _) (ir (aB (vp _ _ _) (ir (aB (vp _ _ _) (ir (vp _ _ _))))))
theorem QH:tH b bl bd tl=[(("base" : bZ),V.int (b:Int)),(("bad" : bZ),V.ref bl),(("bound" : bZ),V.int (bd:Int)),(("tails" : bZ),V.ref tl)]:=by
 unfold tH;rw[ym,ym,if_neg (by decide +kernel),ym,ym,if_neg (by decide +kernel),ym,if_neg (by decide +kernel),ym,ym,if_neg (by decide +kernel),ym,if_neg (by decide +kernel),ym,if_neg (by decide +kernel),ym]
theorem zcK(bl2:au):ym "bad" (.ref bl2) (tH b bl bd tl)=tH b bl2 bd tl:=by
 rw[QH,QH,ym,if_neg (by decide +kernel),ym,if_pos rfl]
theorem zal(tl2:au):ym "tails" (.ref tl2) (tH b bl bd tl)=tH b bl bd tl2:=by
 rw[QH,QH,ym,if_neg (by decide +kernel),ym,if_neg (by decide +kernel),ym,if_neg (by decide +kernel),ym,if_pos rfl]
end
structure KpAt (C CK:au) (H:Hp) (k tl sa la:au) (b bd:Nat) (bl:au) (zs:ZB) (ws:ZA) (L:Nat):Prop where
 ob:∃dx,H k=some (.ins CK dx (tH b bl bd tl))
 li:H bl=some (.lst (zs.map λz=>V.ref z.1))
 st:∀z∈zs,H z.1=some (.lst (z.2.map V.int))
 ta:TailsAt C H tl la b (zs.map (·.2)) ws L
 sa:∃dx,H tl=some (.ins C dx (Xj b ws.length sa la))
 gt:GoodT b (zs.map (·.2)) ws
 bla:bl≠la
 l:L<=1000
section
variable {C CK:au} {H H':Hp} {k tl sa la:au} {b bd:Nat} {bl:au} {zs:ZB} {ws:ZA} {L L':Nat}
theorem KpAt.zla(A:KpAt C CK H k tl sa la b bd bl zs ws L)(hz:z∈zs):z.1≠la:=λe=>by
 obtain⟨a,d,_,h3⟩:=A.ta.ly;have h:=A.st z hz;rw[e,d]at h;have c:=(A.gt.g.st z.2 (aQ.mpr ⟨z,hz,rfl⟩)).ne;injection h with h
 injection h with h
 cases hz2:z.2 with
 |nil=>exact c hz2
 |cons x y=>
  rw[hz2]at h;cases a with
  |nil=>cases h
  |cons x' y'=>injection h with h _;cases h
theorem KpAt.kla(A:KpAt C CK H k tl sa la b bd bl zs ws L):k≠la:=by
 obtain⟨dx,h⟩:=A.ob;obtain⟨lrs,a,_⟩:=A.ta.ly;exact qp h a (λz=>nomatch z)
theorem KpAt.tla(A:KpAt C CK H k tl sa la b bd bl zs ws L):tl≠la:=by
 obtain⟨dx,h⟩:=A.sa;obtain⟨lrs,a,_⟩:=A.ta.ly;exact qp h a (λz=>nomatch z)
theorem KpAt.more(A:KpAt C CK H k tl sa la b bd bl zs ws L)(TA:TailsAt C H' tl la b (zs.map (·.2)) ws L')(m:Same (aw [la] H) (aw [la] H'))(hL:L'<=1000):KpAt C CK H' k tl sa la b bd bl zs ws L':=by
 have d:∀c o,c≠la->H c=some o->H' c=some o:=λc o g e=>by
  have a:c∉[la]:=by simpa using g
  have:=m c o (by rw[yc a];exact e);rwa[yc a]at this
 obtain⟨h,i⟩:=A.ob;obtain⟨j,l⟩:=A.sa;exact⟨⟨h,d _ _ A.kla i⟩,d _ _ A.bla A.li,λz f=>d _ _ (A.zla f) (A.st z f),TA,⟨j,d _ _ A.tla l⟩,A.gt,A.bla,hL⟩
theorem KpAt.same(A:KpAt C CK H k tl sa la b bd bl zs ws L)(m:Same H H'):KpAt C CK H' k tl sa la b bd bl zs ws L:=A.more (A.ta.same m) (m.aw [la]) A.l
end
theorem KpAt.las{k tl sa la:au}(A:KpAt C CK H k tl sa la b bd bl zs ws L):∃as:List au,H la=some (.lst (as.map V.ref)):=by
 obtain⟨a,c,_⟩:=A.ta.ly;exact⟨a.map (·.1),by rw[cC];exact c⟩
theorem KpAt.sas'{k tl sa la:au}(A:KpAt C CK H k tl sa la b bd bl zs ws L):∃xs,aw [la] H sa=some (.lst xs):=by
 obtain⟨dq,a,srs,d,c,_⟩:=A.ta.ob;obtain⟨dt,f⟩:=A.sa;have g:a=sa:=by
  have:=yd _ _ _ _ d;rw[f]at this;injection this with this
  injection this with _ _ this
  have e:=wI b ws.length a la;rw[<-this,wI]at e;injection e with e
  injection e with e
  exact e.symm
 rw[g]at c;exact⟨_,c⟩
theorem KpAt.sas{k tl sa la:au}(A:KpAt C CK H k tl sa la b bd bl zs ws L):∃xs,H sa=some (.lst xs):=let ⟨_,h⟩:=A.sas';⟨_,yd _ _ _ _ h⟩
theorem KpAt.sla{k tl sa la:au}(A:KpAt C CK H k tl sa la b bd bl zs ws L):sa≠la:=λe=>by
 obtain⟨xs,h⟩:=A.sas';rw[ju (by simp[e])]at h;cases h
structure ClrK (c:au) (H:Hp) (k tl sa la bl:au) (zs:ZB):Prop where
 nk:c≠k
 ntl:c≠tl
 nsa:c≠sa
 nla:c≠la
 nbl:c≠bl
 nz:∀z∈zs,c≠z.1
 rla:NoRef H la c
 rsa:NoRef H sa c
def KpS(H H':Hp)(k tl sa la bl:au)(zs:ZB):Prop:=∀c o,H c=some o->ClrK c H k tl sa la bl zs->ClrK c H' k tl sa la bl zs
theorem KpAt.kps{k tl sa la:au}(A:KpAt C CK H k tl sa la b bd bl zs ws L)(m:Same H H'):KpS H H' k tl sa la bl zs:=λc o e q=>by
 obtain⟨_,a⟩:=A.las;obtain⟨_,d⟩:=A.sas;exact⟨q.nk,q.ntl,q.nsa,q.nla,q.nbl,q.nz,q.rla.same a (m _ _ a),q.rsa.same d (m _ _ d)⟩
section
variable {P:bx} {w:bU} {K:aK} {mg:bZ->Option aD} {base:dj} {T0 C CK:au}
def Vu:Sp:=λvs H Q _=>Ex4 λr b bl zs=>An4 (vs=[.ref r]) (RuleAt H r b bl zs) (zs.length<=100) (∀r' bl' zs' H',Same H H'->RuleAt H' r' b bl' zs'->zs'.map (·.2)=zs.map (·.2)->H bl'=none->H r'=none->(∀z∈zs',H z.1=none/\z.1≠bl')->Q (.ref r') H')
theorem zdE:zF ["rule"] ["rule"] (zx jY):={}
theorem zdJ(D:Df K mg "copy_of" jY Af f fd)(T:Blt mg):FnOk P w K mg base CX0 1 f fd Af Vu:=by
 refine D.fn.ok zdE (λN H Q E h=>?_) (λcdv A outer s H N Q E hr h=>?_)
 ·obtain⟨r,b,C,L,rfl,_⟩:=h;rfl
 ·obtain⟨r,b,C,L,rfl,R,hl,O⟩:=h;refine⟨_,(zu (zG (wW (zf (zQ (wz K) (pv 0) zr (λ_ _=>rfl)) (zf (yD (show CScope (zx jY) _ "stretch" ["rule"] [] [] from {}) rfl (qj K (zQ (wz K) (pv 0) zr (λ_ _=>rfl))) (λ_ _ _ _=>xq) (λ_ _ _ _=>(yU (Yl K) (by rfl) T.n_list gF (zf (pv 0) zg)))) zg))))),?_⟩;refine⟨_,rfl,r,_,_,V.int b,rfl,rfl,SqT.of R.tu,rfl,?_⟩;let S:Nat->List V->L2.Hp->Prop:=λi v q=>Same H q/\∃d:ZB,v=d.map (λz=>V.ref z.1)/\d.length=i/\d.map (·.2)=(L.take i).map (·.2)/\∀z∈d,H z.1=none/\q z.1=some (.lst (z.2.map V.int));refine⟨_,rfl,r,_,_,V.ref C,rfl,rfl,SqT.of R.tu,rfl,C,rfl,⟨_,SqL.of R.li⟩,yK S ⟨Same.refl _,[],rfl,rfl,rfl,by simp⟩ (λi v q _ ⟨e,_⟩=>SqL.of (e _ _ R.li)) ?_ ?_⟩
  ·rintro j x v q M ⟨g,d,rfl,k,l,a⟩;rw[ao]at M;obtain⟨z,m,e⟩:=aY.mp M;subst e;have F:=aL m;have hj:=(aV.mp m).1;refine⟨by rw[aa,k];exact aO (show j<101 by omega) (by decide),?_⟩;unfold Zr;refine⟨_,rfl,z.1,_,rfl,.inl (SqL.of (g _ _ (R.st z F))),λp G=>⟨g.trans (zp G),d++[(p,z.2)],by simp,by simp[k],?_,λy n=>?_⟩⟩
   ·rw[aH,l,bY,m];simp
   ·rcases aZ.mp n with n | n
    ·exact⟨(a y n).1,zp G _ _ (a y n).2⟩
    ·have e:y=(p,z.2):=by simpa using n
     subst e;exact⟨g.free G,zj⟩
  ·rintro v q ⟨g,d,rfl,k,l,a⟩ t c;refine⟨(by show 2<=aA;decide),λU u=>?_⟩;have I:=zp c (o:=.lst (d.map λz=>V.ref z.1));have J:=zp u (o:=.tup [.int b,.ref t]);refine O U t d _ (g.trans (I.trans J)) ⟨zj,J _ _ zj,λz B=>J _ _ (I _ _ (a z B).2)⟩ ?_ (g.free c) (g.free (I.free u)) λz B=>⟨(a z B).1,zz (a z B).2 c⟩
   rw[l,aa,bT]
def YG:Sp:=λvs H Q _=>Ex4 λr b bl zs=>An4 (vs=[.ref r]) (RuleAt H r b bl zs) (zs.length<=100) (∀r' bl' zs' H',Same H H'->RuleAt H' r' b bl' zs'->zs'.map (·.2)=zs.map (·.2)->H bl'=none->H r'=none->(∀z∈zs',H z.1=none/\z.1≠bl')->Q (.ref r') H')
theorem zbP:zF ["rule"] ["rule"] (zx qe):={}
theorem Vy(D:Df K mg "_law_copy" qe Af f fd)(T:Blt mg):FnOk P w K mg base CX0 1 f fd Af YG:=by
 refine D.fn.ok zbP (λN H Q E h=>?_) (λcdv A outer s H N Q E hr h=>?_)
 ·obtain⟨r,b,C,L,rfl,_⟩:=h;rfl
 ·obtain⟨r,b,C,L,rfl,R,hl,O⟩:=h;refine⟨_,(zu (zG (wW (zf (zQ (wz K) (pv 0) zr (λ_ _=>rfl)) (zf (yD (show CScope (zx qe) _ "one" ["rule"] [] [] from {}) rfl (qj K (zQ (wz K) (pv 0) zr (λ_ _=>rfl))) (λ_ _ _ _=>xq) (λ_ _ _ _=>(yU (Yl K) (by rfl) T.n_list gF (zf (pv 0) zg)))) zg))))),?_⟩;refine⟨_,rfl,r,_,_,V.int b,rfl,rfl,SqT.of R.tu,rfl,?_⟩;let S:Nat->List V->L2.Hp->Prop:=λi v q=>Same H q/\∃d:ZB,v=d.map (λz=>V.ref z.1)/\d.length=i/\d.map (·.2)=(L.take i).map (·.2)/\∀z∈d,H z.1=none/\q z.1=some (.lst (z.2.map V.int));refine⟨_,rfl,r,_,_,V.ref C,rfl,rfl,SqT.of R.tu,rfl,C,rfl,⟨_,SqL.of R.li⟩,yK S ⟨Same.refl _,[],rfl,rfl,rfl,by simp⟩ (λi v q _ ⟨e,_⟩=>SqL.of (e _ _ R.li)) ?_ ?_⟩
  ·rintro j x v q M ⟨g,d,rfl,k,l,a⟩;rw[ao]at M;obtain⟨z,m,e⟩:=aY.mp M;subst e;have F:=aL m;have hj:=(aV.mp m).1;refine⟨by rw[aa,k];exact aO (show j<101 by omega) (by decide),?_⟩;unfold Zr;refine⟨_,rfl,z.1,_,rfl,.inl (SqL.of (g _ _ (R.st z F))),λp G=>⟨g.trans (zp G),d++[(p,z.2)],by simp,by simp[k],?_,λy n=>?_⟩⟩
   ·rw[aH,l,bY,m];simp
   ·rcases aZ.mp n with n | n
    ·exact⟨(a y n).1,zp G _ _ (a y n).2⟩
    ·have e:y=(p,z.2):=by simpa using n
     subst e;exact⟨g.free G,zj⟩
  ·rintro v q ⟨g,d,rfl,k,l,a⟩ t c;refine⟨(by show 2<=aA;decide),λU u=>?_⟩;have I:=zp c (o:=.lst (d.map λz=>V.ref z.1));have J:=zp u (o:=.tup [.int b,.ref t]);refine O U t d _ (g.trans (I.trans J)) ⟨zj,J _ _ zj,λz B=>J _ _ (I _ _ (a z B).2)⟩ ?_ (g.free c) (g.free (I.free u)) λz B=>⟨(a z B).1,zz (a z B).2 c⟩
   rw[l,aa,bT]
def Xu(T0 C CK:au):Sp:=λvs H Q _=>Ex6 λk tl sa la b bd=>Ex5 λ(bl:au) (zs:ZB) (ws:ZA) (L:Nat) (n:Nat)=>An5 (vs=[.ref k,.int n]) (KpAt C CK H k tl sa la b bd bl zs ws L) (n<2^900) (LT T0 H) (∀L' H',KpAt C CK H' k tl sa la b bd bl zs ws L'->Same (aw [la] H) (aw [la] H')->LT T0 H'->KpS H H' k tl sa la bl zs->Q (.int (many (gd (zs.map (·.2)) b) n:Nat)) H')
theorem Qz:zF ["self","n"] ["self","n"] (zx vU):={}
theorem zgO(D:Mt K CK "Keeper.below" "below" vU Al f fd)(uy:Mt K C "Tails.many_below" "many_below" yr Ba f1 fd1)(qt:FnOk P w K mg base CX0 4 f1 fd1 Ba (Wy C))(ZM:Df K mg "figures_of" xJ Ak f2 fd2)(Xw:FnOk P w K mg base CX0 4 f2 fd2 Ak WQ)(zH:ClT K mg C)(cKeeper:ClK K mg CK):FnOk P w K mg base CX0 5 f fd Al (Xu T0 C CK):=by
 refine D.fn.ok Qz (λT H Q E h=>?_) (λcdv A outer s H T Q E G h=>?_)
 ·obtain⟨k,u,U,r,b,V,W,X,I,L,n,rfl,_⟩:=h;rfl
 ·obtain⟨k,u,U,r,b,V,W,X,I,L,n,rfl,a,J,Y,Z⟩:=h;have b2:=a.gt.g.b2;have v:=a.gt.g.b16;obtain⟨M,N⟩:=a.ob;obtain⟨dt,x⟩:=a.sa;obtain⟨lx,j⟩:=a.ta.la;refine⟨_,(zu (zG (qD uy zH.cl qt (G.mono (by decide)) (wV K (pv 0)) (zf (zL ZM Xw (G.mono (by decide)) (zf (wV K (pv 0)) (zf (pv 1) zg))) zg)))),?_⟩;refine⟨_,rfl,k,CK,M,_,_,rfl,N,cKeeper.cl,cKeeper.n_tails,Jl _ _ _ _,u,dt,_,rfl,x,uw _ _ _ _,?_⟩;refine⟨_,rfl,k,CK,M,_,_,rfl,N,cKeeper.cl,cKeeper.n_base,Yc _ _ _ _,_,rfl,b,n,rfl,b2,v,J,λO H1 m hv i=>?_⟩;have d:=a.same i;have p:O≠r:=λz=>by rw[z,j]at m;cases m
  refine⟨u,r,b,_,I,L,O,n,rfl,d.ta,a.gt,a.l,by rw[yc (by simpa using p)];exact hv,J,λL2 H2 hL2 y t B F=>?_⟩;refine Z L2 H2 (d.more y t F) ((i.aw [r]).trans t) ((Y.same i).off (i _ _ j) t) λc o e q=>?_;have R:=a.kps i c o e q;obtain⟨_,S⟩:=d.sas;exact⟨q.nk,q.ntl,q.nsa,q.nla,q.nbl,q.nz,B c o q.nla (i _ _ e) R.rla,R.rsa.same S (zeB t d.sla S)⟩
def Off(T k la:au)(H H':Hp):Prop:=∀c o,c≠k->c≠la->c≠T->H c=some o->H' c=some o
def zbY(C CK:au):Sp:=λvs H Q _=>Ex6 λk tl sa la b bd=>Ex4 λbl zs ws L=>An3 (vs=[.ref k]) (KpAt C CK H k tl sa la b bd bl zs ws L) (∀r bl' zs' H',Same H H'->RuleAt H' r b bl' zs'->zs'.map (·.2)=zs.map (·.2)->H bl'=none->H r=none->(∀z∈zs',H z.1=none/\z.1≠bl')->Q (.ref r) H')
theorem J9:zF ["self"] ["self"] (zx jl):={}
theorem zh2(D:Mt K CK "Keeper.rule" "rule" jl Ag f fd)(Zh:Df K mg "copy_of" jY Af f1 fd1)(Yo:FnOk P w K mg base CX0 1 f1 fd1 Af Vu)(cKeeper:ClK K mg CK):FnOk P w K mg base CX0 2 f fd Ag (zbY C CK):=by
 refine D.fn.ok J9 (λq H Q E h=>?_) (λcdv A outer s H q Q E u h=>?_)
 ·obtain⟨k,v,x,y,b,B,e,i,F,L,rfl,_⟩:=h;rfl
 ·obtain⟨k,v,x,y,b,B,e,i,F,L,rfl,c,G⟩:=h;obtain⟨m,n⟩:=c.ob;have h4:i.length<=4:=by have:=c.gt.g.len;rwa[aa]at this
  refine⟨_,(zu (zG (zL Zh Yo (u.mono (by decide)) (zf (wW (zf (wV K (pv 0)) (zf (wV K (pv 0)) zg))) zg)))),?_⟩;refine⟨_,rfl,k,CK,m,_,_,rfl,n,cKeeper.cl,cKeeper.n_base,Yc _ _ _ _,_,rfl,k,CK,m,_,_,rfl,n,cKeeper.cl,cKeeper.n_bad,Yi _ _ _ _,(by show 2<=aA;decide),λt I=>?_⟩;have a:=zp I (o:=.tup [.int b,.ref e]);refine⟨t,b,e,i,rfl,⟨zj,a _ _ c.li,λz d=>a _ _ (c.st z d)⟩,by omega,λr j l J M N O R S p=>?_⟩;exact G r j l J (a.trans M) N O (a.free R) (a.free S) (λz d=>⟨a.free (p z d).1,(p z d).2⟩)
def U3(T0 C CK:au):Sp:=λvs H Q _=>Ex5 λk dx r b bl=>Ex2 λ(zs:ZB) (bd:Nat)=>An6 (vs=[.ref k,.ref r,.int bd]) (H k=some (.ins CK dx [])) (RuleAt H r b bl zs) (GoodRule b (zs.map (·.2))) (LT T0 H) (∀tl sa la bl2 zs2 ws L H',KpAt C CK H' k tl sa la b bd bl2 zs2 ws L->zs2.map (·.2)=zs.map (·.2)->(∀c o,c≠k->c≠T0->H c=some o->H' c=some o)->LT T0 H'->H la=none->H sa=none->H bl2=none->(∀c o,H c=some o->c≠k->ClrK c H' k tl sa la bl2 zs2)->Q .non H')
theorem Vt:zF ["self","rule","b"] ["self","rule","b"] (zx yM):={}
theorem zfH(D:Mt K CK "Keeper.__init__" "__init__" yM A0 f fd)(ZW:Df K mg "check_rule" jR Aa f1 fd1)(Xm:FnOk P w K mg base CX0 7 f1 fd1 Aa Wx)(yX:Df K mg "check_number" vR Aa f2 fd2)(xN:FnOk P w K mg base CX0 3 f2 fd2 Aa uY)(Zh:Df K mg "copy_of" jY Af f3 fd3)(Yo:FnOk P w K mg base CX0 1 f3 fd3 Af Vu)(UW:Mk K C f4)(Uy:Binds K fd4 ["self","rule"] [])(tY:FnOk P w K mg base CX0 7 f4 fd4 As (Ug T0 C))(zH:ClT K mg C)(cKeeper:ClK K mg CK):FnOk P w K mg base CX0 9 f fd A0 (U3 T0 C CK):=by
 refine D.fn.ok Vt (λvs H Q E h=>?_) (λcdv A outer s H vs Q E hr h=>?_)
 ·obtain⟨k,d,r,b,T,S,v,rfl,_⟩:=h;rfl
 ·obtain⟨k,d,r,b,T,S,v,rfl,hk,R,g,hT,kk⟩:=h;have h4:S.length<=4:=by have:=g.len;rwa[aa]at this
  refine yW ?_;intro U;let q1:Sq U ((zq yM).drop 5):=⟨_,zu (ZZ (pv 0) (zbJ UW tY (hr.mono (by decide)) rfl zH.nm Uy .nil zaQ (zf (pv 1) zg)) rfl)⟩
  let q2:Sq U ((zq yM).drop 4):=⟨_,zm (ZZ (pv 0) (pv 2) rfl) q1.p⟩
  let q3:Sq U ((zq yM).drop 3):=⟨_,zm (ZZ (pv 0) (zQ (wz K) (zL Zh Yo (hr.mono (by decide)) (zf (pv 1) zg)) zr (λ_ _=>rfl)) rfl) q2.p⟩
  let q4:Sq U ((zq yM).drop 2):=⟨_,zm (ZZ (pv 0) (zQ (wz K) (pv 1) zr (λ_ _=>rfl)) rfl) q3.p⟩
  let q5:Sq U ((zq yM).drop 1):=⟨_,zm (wQ (zL yX xN (hr.mono (by decide)) (zf (pv 2) zg))) q4.p⟩
  refine⟨_,(zm (wQ (zL ZW Xm (hr.mono (by decide)) (zf (pv 1) zg))) q5.p),?_⟩;refine⟨_,rfl,r,b,T,S,rfl,R,g,λW m1=>?_⟩;refine⟨_,rfl,v,rfl,by omega,?_⟩;have x:=m1 _ _ hk;have L:=R.same m1;have T1:=hT.same m1;have rk:=qp L.tu x (λz=>nomatch z);have lk:∀{c:au} {y:List V},W c=some (.lst y)->c≠k:=λh=>qp h x (λz=>nomatch z);refine⟨_,rfl,r,_,_,V.int b,rfl,rfl,SqT.of L.tu,rfl,_,rfl,k,CK,d,_,rfl,x,cKeeper.cl,cKeeper.n_base,(by decide),?_⟩;have R2:RuleAt (upd W k (.ins CK d (ym "base" (.int b) []))) r b T S:=⟨by rw[zy rk];exact L.tu,by rw[zy (lk L.li)];exact L.li,λz l=>by rw[zy (lk (L.st z l))];exact L.st z l⟩
  have T2:=T1.putI (o:=.ins CK d (ym "base" (.int b) [])) x;have X:upd W k (.ins CK d (ym "base" (.int b) [])) k=some (.ins CK d (ym "base" (.int b) [])):=zj;have Y:∀c o,c≠k->H c=some o->upd W k (.ins CK d (ym "base" (.int b) [])) c=some o:=λc o j e=>by rw[zy j];exact m1 c o e
  generalize upd W k (.ins CK d (ym "base" (.int b) []))=H2 at R2 T2 X Y;refine⟨_,rfl,r,b,T,S,rfl,R2,by omega,λr3 a Z M s3 F e3 ac nr3 ar=>?_⟩;have N:=s3 _ _ X;refine⟨r3,_,_,V.ref a,rfl,rfl,SqT.of F.tu,rfl,_,rfl,k,CK,d,_,rfl,N,cKeeper.cl,cKeeper.n_bad,(by show 1<1000;decide),?_⟩;refine⟨_,rfl,_,rfl,k,CK,d,_,rfl,zj,cKeeper.cl,cKeeper.n_bound,(by show 2<1000;decide),?_⟩;rw[zed];have m:∀{c:au} {y:List V},M c=some (.lst y)->c≠k:=λh=>qp h N (λz=>nomatch z);have n:=R2.same s3;have R4:RuleAt (upd M k (.ins CK d (ym "bound" (.int v) (ym "bad" (.ref a) (ym "base" (.int b) []))))) r b T S:=⟨by rw[zy rk];exact n.tu,by rw[zy (m n.li)];exact n.li,λz l=>by rw[zy (m (n.st z l))];exact n.st z l⟩
  have T4:=(T2.same s3).putI (o:=.ins CK d (ym "bound" (.int v) (ym "bad" (.ref a) (ym "base" (.int b) [])))) N;have i:upd M k (.ins CK d (ym "bound" (.int v) (ym "bad" (.ref a) (ym "base" (.int b) [])))) k=some (.ins CK d (ym "bound" (.int v) (ym "bad" (.ref a) (ym "base" (.int b) [])))):=zj;have n4:∀c o,c≠k->M c=some o->upd M k (.ins CK d (ym "bound" (.int v) (ym "bad" (.ref a) (ym "base" (.int b) [])))) c=some o:=λc o j e=>by rw[zy j];exact e
  have f4:∀c,upd M k (.ins CK d (ym "bound" (.int v) (ym "bad" (.ref a) (ym "base" (.int b) [])))) c=none->H c=none:=λc j=>by
   have af:c≠k:=λz=>by rw[z,zj]at j;cases j
   rw[zy af]at j;cases e:H c with
   |none=>rfl
   |some o=>rw[s3 _ _ (Y c o af e)]at j;cases j
  generalize upd M k (.ins CK d (ym "bound" (.int v) (ym "bad" (.ref a) (ym "base" (.int b) []))))=H4 at R4 T4 i n4 f4;refine⟨_,rfl,?_⟩;refine zey R4 g T4 ?_;rintro tl H5 ⟨la,ws,ag,G,m5,T5,q,ah,dt,sa,O,B,aw⟩;have ax:k≠T0:=λz=>by
   rw[z]at i;rcases T4 with h | ⟨c,h,_⟩
   ·rw[h]at i;cases i
   ·rw[h]at i;cases i
  have t:=m5 _ _ ax i;have ai:tl≠k:=λz=>by
   rw[z,t]at O;injection O with e
   injection e with _ _ e
   have:=wI b ws.length sa la;rw[<-e]at this;cases this
  refine⟨_,rfl,k,CK,d,_,rfl,t,cKeeper.cl,cKeeper.n_tails,(by show 3<1000;decide),?_⟩;have u:=n4 _ _ (m F.li) F.li;have I:=m5 _ _ (T4.lst u) u;have aj:∀{c:au} {y:List V},H5 c=some (.lst y)->c≠k:=λh=>qp h t (λz=>nomatch z);have ak:∀z∈Z,H5 z.1=some (.lst (z.2.map V.int)):=λz l=>m5 _ _ (T4.lst (n4 _ _ (m (F.st z l)) (F.st z l))) (n4 _ _ (m (F.st z l)) (F.st z l));rw[<-e3]at G ag;have J:H a=none:=by
   cases e:H a with
   |none=>rfl
   |some o=>
    rw[Y a o (m F.li) e]at ac;cases ac
  refine kk tl sa la a Z ws 1 _ ⟨⟨d,by rw[zj];rfl⟩,by rw[zy (aj I)];exact I,λz l=>by rw[zy (aj (ak z l))];exact ak z l,ag.updI t ai,⟨dt,by rw[zy ai];exact O⟩,G,zz u q,by decide⟩ e3 (λc o j ay e=>?_) (T5.putI t) (f4 _ q) (f4 _ B) J (λc o e j=>?_)
  ·rw[zy j];exact m5 c o ay (n4 c o j (s3 c o (Y c o j e)))
  ·obtain⟨o4,e4⟩:∃o4,H4 c=some o4:=by
    cases e':H4 c with
    |none=>rw[f4 c e']at e;cases e
    |some o4=>exact⟨o4,rfl⟩
   have az:=Y c o j e;have ba:la≠k:=λz=>by rw[z,i]at q;cases q
   have bb:sa≠k:=λz=>by rw[z,i]at B;cases B
   obtain⟨r1,r2⟩:=aw c o4 e4;exact⟨j,zz e4 ah,zz e4 B,zz e4 q,zz e J,λz l=>zz az (ar z l).1,λy hx=>r1 y (by rwa[zy ba]at hx),λy hx=>r2 y (by rwa[zy bb]at hx)⟩
theorem KpAt.ila{k tl sa la:au}(A:KpAt C CK H k tl sa la b bd bl zs ws L)(h:H c=some (.lst (ns.map V.int)))(hne:ns≠[]):c≠la:=λe=>by
 obtain⟨a,d,_,h3⟩:=A.ta.ly;rw[e,d]at h;injection h with h
 injection h with h
 cases hz2:ns with
 |nil=>exact hne hz2
 |cons x y=>
  rw[hz2]at h;cases a with
  |nil=>cases h
  |cons x' y'=>injection h with h _;cases h
theorem Off.trans(a:Off T k la H H1)(b:Off T k la1 H1 H2)(h:H la1=none\/la1=la):Off T k la H H2:=λc o d f g e=>b c o d (λz=>by
 rcases h with h | h
 ·rw[z,h]at e;cases e
 ·exact f (z.trans h)) g (a c o d f g e)
theorem Off.of(m:Same H H'):Off T k la H H':=λc o _ _ _ e=>m c o e
theorem Off.aw(m:Same (aw [la] H) (aw [la] H')):Off T k la H H':=λc o _ h _ e=>by
 have a:c∉[la]:=by simpa using h
 have:=m c o (by rw[yc a];exact e);rwa[yc a]at this
def WW(T0 C CK:au):Sp:=λvs H Q _=>Ex6 λk tl sa la b bd=>Ex6 λbl zs ws L bl2 zs2=>An9 (vs=[.ref k,.ref bl2]) (KpAt C CK H k tl sa la b bd bl zs ws L) (bd<2^900) (LT T0 H) (H bl2=some (.lst (zs2.map λz=>V.ref z.1))) ((∀z∈zs2,H z.1=some (.lst (z.2.map V.int)))) (GoodRule b (zs2.map (·.2))) (bl2≠la) (∀p tl2 sa2 la2 ws2 L2 H',H p=none->H' p=some (.tup [.int (many (gd (zs.map (·.2)) b) bd:Nat),.int (many (gd (zs2.map (·.2)) b) bd:Nat)])->KpAt C CK H' k tl2 sa2 la2 b bd bl2 zs2 ws2 L2->Off T0 k la H H'->LT T0 H'->H la2=none->H sa2=none->p≠la2->(∀c o,H c=some o->c≠k->c≠bl2->(∀z∈zs2,c≠z.1)->ClrK c H' k tl2 sa2 la2 bl2 zs2)->Q (.ref p) H')
theorem ZJ:zF ["self","bad","before"] ["self","bad"] (zx yV):={}
theorem zdi(D:Mt K CK "Keeper.turn_to" "turn_to" yV At f fd)(MKeeper_below:Mt K CK "Keeper.below" "below" vU Al f1 fd1)(GKeeper_below:FnOk P w K mg base CX0 5 f1 fd1 Al (Xu T0 C CK))(UW:Mk K C f4)(Uy:Binds K fd4 ["self","rule"] [])(tY:FnOk P w K mg base CX0 7 f4 fd4 As (Ug T0 C))(zH:ClT K mg C)(cKeeper:ClK K mg CK):FnOk P w K mg base CX0 9 f fd At (WW T0 C CK):=by
 refine D.fn.ok ZJ (λvs H Q E h=>?_) (λcdv A outer s H vs Q E hr h=>?_)
 ·obtain⟨k,O,sa,la,b,l,bl,zs,ws,L,a,n,rfl,_⟩:=h;rfl
 ·obtain⟨k,O,sa,la,b,l,bl,zs,ws,L,a,n,rfl,KA,ae,hT,bq,af,g2,br,kk⟩:=h;obtain⟨dx,hk⟩:=KA.ob;refine yW ?_;intro XX;let q1:Sq XX ((zq yV).drop 3):=⟨_,zu (zG (wW (zf (pv 2) (zf (qD MKeeper_below cKeeper.cl GKeeper_below (hr.mono (by decide)) (pv 0) (zf (wV K (pv 0)) zg)) zg))))⟩
  let q2:Sq XX ((zq yV).drop 2):=⟨_,zm (ZZ (pv 0) (zbJ UW tY (hr.mono (by decide)) rfl zH.nm Uy .nil zaQ (zf (wW (zf (wV K (pv 0)) (zf (pv 1) zg))) zg)) rfl) q1.p⟩
  let q3:Sq XX ((zq yV).drop 1):=⟨_,zm (ZZ (pv 0) (pv 1) rfl) q2.p⟩
  refine⟨_,(zm (zE (i:=2) ZJ.nd rfl (bf rfl) (qD MKeeper_below cKeeper.cl GKeeper_below (hr.mono (by decide)) (pv 0) (zf (wV K (pv 0)) zg))) q3.p),?_⟩;refine⟨_,rfl,k,dx,_,rfl,hk,uZ _ _ _ _,_,rfl,k,CK,dx,_,_,rfl,hk,cKeeper.cl,cKeeper.n_bound,QW _ _ _ _,k,O,sa,la,b,l,bl,zs,ws,L,l,rfl,KA,ae,hT,λL1 I ag m1 T1 _=>?_⟩;obtain⟨d,R⟩:=ag.ob;have J:∀c o,c≠la->H c=some o->I c=some o:=λc o g e=>by
   have y:c∉[la]:=by simpa using g
   have:=m1 c o (by rw[yc y];exact e);rwa[yc y]at this
  have ah:=J _ _ br bq;have ai:∀z∈n,I z.1=some (.lst (z.2.map V.int)):=λz u=>J _ _ (KA.ila (af z u) (g2.st z.2 (aQ.mpr ⟨z,u,rfl⟩)).ne) (af z u);have f1:∀c,I c=none->H c=none:=λc g=>by
   cases e:H c with
   |none=>rfl
   |some o=>
    by_cases z:c=la
    ·obtain⟨lx,hx⟩:=ag.ta.la;rw[z,hx]at g;cases g
    ·rw[J c o z e]at g;cases g
  refine⟨_,rfl,_,rfl,k,CK,d,_,rfl,R,cKeeper.cl,cKeeper.n_bad,aR (zc9 _ _ _ _) (by decide),?_⟩;rw[zcK];have ak:∀{c:au} {S:List V},I c=some (.lst S)->c≠k:=λh=>qp h R (λz=>nomatch z);have U:upd I k (.ins CK d (tH b a l O)) k=some (.ins CK d (tH b a l O)):=zj;have T2:=T1.putI (o:=.ins CK d (tH b a l O)) R;have n2:∀c o,c≠k->I c=some o->upd I k (.ins CK d (tH b a l O)) c=some o:=λc o g e=>by rw[zy g];exact e
  have f2:∀c,upd I k (.ins CK d (tH b a l O)) c=none->H c=none:=λc g=>by
   have W:c≠k:=λz=>by rw[z,zj]at g;cases g
   rw[zy W]at g;exact f1 c g
  generalize upd I k (.ins CK d (tH b a l O))=H2 at U T2 n2 f2;refine⟨_,rfl,k,CK,d,_,_,rfl,U,cKeeper.cl,cKeeper.n_base,Yc _ _ _ _,_,rfl,(by show 2<=aA;decide),λt ht=>?_⟩;have X:=zp ht (o:=.tup [.int b,.ref a]);have B:=X _ _ (n2 _ _ (ak ah) ah);have M:∀z∈n,upd H2 t (.tup [.int b,.ref a]) z.1=some (.lst (z.2.map V.int)):=λz u=>X _ _ (n2 _ _ (ak (ai z u)) (ai z u));have T3:=T2.same X;refine zey ⟨zj,B,M⟩ g2 T3 ?_;have q:=X _ _ U;generalize upd H2 t (.tup [.int b,.ref a])=H3 at X B M T3 q;rintro j Y ⟨r,N,bt,G,m4,T4,m,ao,dt,x,Z,v,bu⟩;have bv:k≠T0:=λz=>by
   rw[z]at q;rcases T3 with h | ⟨c,h,_⟩
   ·rw[h]at q;cases q
   ·rw[h]at q;cases q
  have F:=m4 _ _ bv q;have ap:j≠k:=λz=>by
   rw[z,F]at Z;injection Z with e
   injection e with _ _ e
   have:=wI b N.length x r;rw[<-e,uZ]at this;cases this
  have aq:=m4 _ _ (T3.lst B) B;have ar:∀z∈n,Y z.1=some (.lst (z.2.map V.int)):=λz u=>m4 _ _ (T3.lst (M z u)) (M z u);have as:∀{c:au} {S:List V},Y c=some (.lst S)->c≠k:=λh=>qp h F (λz=>nomatch z);refine⟨_,rfl,k,CK,d,_,rfl,F,cKeeper.cl,cKeeper.n_tails,aR (zc9 _ _ _ _) (by decide),?_⟩;rw[zal];have aa:KpAt C CK (upd Y k (.ins CK d (tH b a l j))) k j x r b l a n N 1:=⟨⟨d,zj⟩,by rw[zy (as aq)];exact aq,λz u=>by rw[zy (as (ar z u))];exact ar z u,bt.updI F ap,⟨dt,by rw[zy ap];exact Z⟩,G,zz B m,by decide⟩
  have T5:=T4.putI (o:=.ins CK d (tH b a l j)) F;have O5:Off T0 k la H (upd Y k (.ins CK d (tH b a l j))):=λc o h1 h2 h3 e=>by rw[zy h1];exact m4 c o h3 (X _ _ (n2 c o h1 (J c o h2 e)))
  have f5:∀c,upd Y k (.ins CK d (tH b a l j)) c=none->H3 c=none:=λc g=>by
   have W:c≠k:=λz=>by rw[z,zj]at g;cases g
   rw[zy W]at g;cases e:H3 c with
   |none=>rfl
   |some o=>
    by_cases z:c=T0
    ·rw[z]at g;exact absurd rfl (T4.none g)
    ·rw[m4 c o z e]at g;cases g
  have fr:∀c,H3 c=none->H c=none:=λc g=>f2 c (X.free g);have av:∀c o,H c=some o->c≠k->c≠a->(∀z∈n,c≠z.1)->ClrK c (upd Y k (.ins CK d (tH b a l j))) k j x r a n:=λc o e g hb u=>by
   obtain⟨o3,e3⟩:∃o3,H3 c=some o3:=by
    cases e':H3 c with
    |none=>rw[fr c e']at e;cases e
    |some o3=>exact⟨o3,rfl⟩
   have cb:r≠k:=λz=>by rw[z,q]at m;cases m
   have cc:x≠k:=λz=>by rw[z,q]at v;cases v
   obtain⟨r1,r2⟩:=bu c o3 e3;exact⟨g,zz e3 ao,zz e3 v,zz e3 m,hb,u,λS hx=>r1 S (by rwa[zy cb]at hx),λS hx=>r2 S (by rwa[zy cc]at hx)⟩
  generalize upd Y k (.ins CK d (tH b a l j))=H5 at aa T5 O5 f5 av;obtain⟨ay,az⟩:=aa.ob;refine⟨_,rfl,_,rfl,k,ay,_,rfl,az,uZ _ _ _ _,_,rfl,k,CK,ay,_,_,rfl,az,cKeeper.cl,cKeeper.n_bound,QW _ _ _ _,k,j,x,r,b,l,a,n,N,1,l,rfl,aa,ae,T5,λL6 H6 ab m6 T6 cd=>⟨(by show 2<=aA;decide),λp hp=>?_⟩⟩;have s7:=zp hp (o:=.tup [.int (many (gd (zs.map (·.2)) b) l),.int (many (gd (n.map (·.2)) b) l)]);have O6:=(O5.trans (Off.aw m6) (.inl (fr _ m)))
  obtain⟨lx6,ba⟩:=ab.ta.la;have bb:p≠r:=λz=>by rw[z,ba]at hp;cases hp
  have ce:H5 p=none:=by
   cases e:H5 p with
   |none=>rfl
   |some o=>
    have:=Off.aw (T:=T0) (k:=k) m6;have y:p∉[r]:=by simpa using bb
    have:=m6 p o (by rw[yc y];exact e);rw[yc y,hp]at this;cases this
  exact kk p j x r N L6 _ (fr _ (f5 _ ce)) zj (ab.same s7) (λc o h1 h2 h3 e=>s7 _ _ (O6 c o h1 h2 h3 e)) (T6.same s7) (fr _ m) (fr _ v) bb λc o e g hb u=>by
   obtain⟨o5,e5⟩:∃o5,H5 c=some o5:=by
    cases e':H5 c with
    |none=>rw[fr c (f5 c e')]at e;cases e
    |some o5=>exact⟨o5,rfl⟩
   have q6:=cd c o5 e5 (av c o e g hb u);have e6:=zeB m6 q6.nla e5;exact ab.kps s7 c _ e6 q6
def KQ(T0 C CK:au)(H:Hp)(k la:au)(b bd:Nat)(zs:ZB)(ok:ZA->Prop)(Q:VK):Prop :=
 ∀p tl2 sa2 la2 bl2 zs2 ws2 L2 H',H p=none->H' p=some (.tup [.int (many (gd (zs.map (·.2)) b) bd:Nat),.int (many (gd (zs2.map (·.2)) b) bd:Nat)])->KpAt C CK H' k tl2 sa2 la2 b bd bl2 zs2 ws2 L2->ok (zs2.map (·.2))->Off T0 k la H H'->LT T0 H'->H la2=none->H sa2=none->H bl2=none->p≠la2->(∀c o,H c=some o->c≠k->(∀z∈zs,c≠z.1)->ClrK c H' k tl2 sa2 la2 bl2 zs2)->Q (.ref p) H'
theorem GoodRule.nodup(g:GoodRule b ls):ls.Nodup:=g.up.imp λ{x y} h z=>by rw[z,HT.vm]at h;cases h
theorem zgp{b:Nat}(hd:ThAt H d v)(hs:zU b d=true):∃st,v=.ref st/\H st=some (.lst ((xX d).map V.int))/\JH b (xX d):=by
 obtain⟨l,rfl,c,f,g⟩:=zdM hs;obtain⟨a,rfl,e⟩:=ThAt.figs hd (by unfold zU at hs;rw[cA]at hs;exact hs.1);have h:xX (.list (l.map .int))=l:=by
  show (l.map Hv).map YL=l;rw[cC]
  conv=>rhs;rw[<-CZ l]
  rfl
 rw[h]at e ⊢;exact⟨a,rfl,e,c,f,g⟩
def zcg(T0 C CK xD xE:au):Sp:=λvs H Q E=>Ex6 λk tl sa la b bd=>Ex6 λbl zs ws L v d=>An9 (vs=[.ref k,v]) (KpAt C CK H k tl sa la b bd bl zs ws L) (bd<2^900) (LT T0 H) (ThAt H d v) (jG d<=100000) ((zs.length=4->E (.ref xE) none H)) ((zs.length≠4->zU b d=false\/xX d∈zs.map (·.2)->∀H',Same H H'->E (.ref xD) none H')) ((zs.length≠4->zU b d=true->xX d∉zs.map (·.2)->KQ T0 C CK H k la b bd zs (λls2=>ls2.Perm (zs.map (·.2)++[xX d])) Q))
theorem Jd:zF ["self","stretch"] ["self","stretch"] (zx uo):={}
theorem zgv(D:Mt K CK "Keeper.come" "come" uo Ah f fd)(MKeeper_turn_to:Mt K CK "Keeper.turn_to" "turn_to" yV At f1 fd1)(GKeeper_turn_to:FnOk P w K mg base CX0 9 f1 fd1 At (WW T0 C CK))(wB:Df K mg "is_stretch" uK Ab f2 fd2)(vA:FnOk P w K mg base CX0 4 f2 fd2 Ab jh)(wH:mg "MOST_STRETCHES"= some (.int 4 t1))(cKeeper:ClK K mg CK)(qEd:zdn K mg "NoStretch" xD)(qEe:zdn K mg "TooMany" xE)(T:Blt mg):FnOk P w K mg base (CX1 P w) 10 f fd Ah (zcg T0 C CK xD xE):=by
 refine D.fn.ok1 Jd (λvs H Q E h=>?_) (λcdv A outer s H vs Q E hr h=>?_)
 ·obtain⟨k,tl,sa,la,b,bd,O,m,ws,L,v,d,rfl,_⟩:=h;rfl
 ·obtain⟨k,tl,sa,la,b,bd,O,m,ws,L,v,d,rfl,G,ai,hT,hd,hs,kM,R,kG⟩:=h;have h4:m.length<=4:=by have:=G.gt.g.len;rwa[aa]at this
  have HU:=Yr hr;have g:=G.gt.g;obtain⟨S,hk⟩:=G.ob;refine yW ?_;intro XX;let q1:Sq XX ((zq uo).drop 2):=⟨_,zu (zG (qD MKeeper_turn_to cKeeper.cl GKeeper_turn_to (hr.mono (by decide)) (pv 0) (zf (zA (zek K HU) (by rfl) T.n_sorted CW (zf (zP uB (wV K (pv 0)) (zY (zf (yU (Yl K) (by rfl) T.n_list gF (zf (pv 1) zg)) zg))) zg)) zg)))⟩
  let q2:Sq XX ((zq uo).drop 1):=⟨_,zm (yw (PW.pt (Ym (vK (xx (zL wB vA (hr.mono (by decide)) (zf (wV K (pv 0)) (zf (pv 1) zg))))) (Z6 (zK (zet K HU) (pv 1) (wV K (pv 0)) (by with_unfolding_all rfl)))))
    (zu (Uk qEd VM rfl (zf jE zg)))
    zR) q1.p⟩
  refine⟨_,(zm (yw (zK XR (zA (vY K) (by rfl) T.n_len PySem.boot_len (zf (wV K (pv 0)) zg)) (wu (v:=.int 4) rfl wH ⟨_,rfl⟩) (zM _))
    (zu (Uk qEe VM rfl (zf jE zg)))
    zR) q2.p),?_⟩
  refine⟨_,rfl,k,CK,S,_,_,rfl,hk,cKeeper.cl,cKeeper.n_bad,Yi _ _ _ _,O,_,rfl,.inl (SqL.of G.li),rfl,_,rfl,?_⟩;rw[aa];by_cases r:m.length=4
  ·rw[decide_eq_true (by rw[r];rfl)];exact yz ⟨by show 1<=aA;decide,kM r⟩
  rw[decide_eq_false (λz=>r (by injection z with z;omega))];refine yG ?_;refine⟨_,rfl,k,CK,S,_,_,rfl,hk,cKeeper.cl,cKeeper.n_base,Yc _ _ _ _,_,rfl,b,v,d,rfl,hd,hs,λH1 I=>⟨_,rfl,?_⟩⟩;cases hstr:zU b d with
  |false=>exact yz ⟨by show 1<=aA;decide,R r (.inl hstr) H1 I⟩
  |true=>
  refine yG ?_;obtain⟨st,rfl,M,U⟩:=zgp hd hstr;have kk:=kG r hstr;have R:=λz=>R r (.inr z);have h3:m.length<=3:=by omega
  generalize xX d=t at M U kk R;have W:=G.same I;have N:=I _ _ hk;refine⟨_,rfl,_,rfl,k,CK,S,_,_,rfl,N,cKeeper.cl,cKeeper.n_bad,Yi _ _ _ _,O,_,(m.map (·.2)).map xr,xr t,rfl,SqL.of W.li,TrsAt.lists W.st,TrAt.ints (a:=st) (SqL.of (I _ _ M)),aB (vg _) (by decide),_,rfl,?_⟩;rw[if_neg bc,Wn];by_cases i:t∈m.map (·.2)
  ·rw[decide_eq_true i];exact yz ⟨by show 1<=aA;decide,R i H1 I⟩
  rw[decide_eq_false i];have kk:=kk i;refine yG ?_;refine⟨_,rfl,k,S,_,rfl,N,uZ _ _ _ _,?_⟩;refine⟨_,rfl,k,CK,S,_,_,rfl,N,cKeeper.cl,cKeeper.n_bad,Yi _ _ _ _,_,rfl,st,_,rfl,.inl (SqL.of (I _ _ M)),λq hq=>⟨(by show 1<=aA;decide),λl1 X=>?_⟩⟩;have s2:=I.trans (zp hq (o:=.lst (t.map V.int)));have s3:=s2.trans (zp X (o:=.lst [.ref q]));have ak:=zp X (o:=.lst [.ref q]) _ _ (zj (H:=H1) (a:=q) (o:=.lst (t.map V.int)));refine⟨O,l1,_,_,rfl,rfl,s3 _ _ G.li,zj,by rw[aa];exact aB (show m.length+1<=5 by omega) (by decide),λl2 Y=>?_⟩;have Z:=s3.trans (zp Y (o:=.lst (m.map (λz=>V.ref z.1)++[.ref q])));have al:=zp Y (o:=.lst (m.map (λz=>V.ref z.1)++[.ref q])) _ _ ak;have nd:((m++[(q,t)]).map (·.2)).Nodup:=by
   rw[aH];refine kj.mpr ⟨g.nodup,by simp,λx hx y hy=>?_⟩;have e:y=t:=by simpa using hy
   rw[e];exact λz=>i (z▸hx)
  have J:∀z∈m++[(q,t)],upd (upd (upd H1 q (.lst (t.map V.int))) l1 (.lst [.ref q])) l2 (.lst (m.map (λz=>V.ref z.1)++[.ref q])) z.1=some (.lst (z.2.map V.int)):=λz j=>by
   rcases aZ.mp j with j | j
   ·exact Z _ _ (G.st z j)
   ·have e:z=(q,t):=by simpa using j
    subst e;exact al
  refine⟨l2,m++[(q,t)],rfl,SqL.of (by rw[zj];simp),by rw[aF,aX];omega,λz j=>SqL.of (J z j),nd,λbq u B pm pw=>?_⟩;have s5:=zp B (o:=.lst (u.map λz=>V.ref z.1));have n:=Z.trans s5;have F:∀z,z∈u↔z∈m++[(q,t)]:=λz=>pm.mem_iff;have gm:GoodRule b (u.map (·.2)):=⟨g.b2,g.b16,by rw[aa,pm.length_eq,aF,aX];omega,λl hl=>by
   obtain⟨z,j,rfl⟩:=aQ.mp hl;rcases aZ.mp ((F z).mp j) with j | j
   ·exact g.st _ (aQ.mpr ⟨z,j,rfl⟩)
   ·have e:z=(q,t):=by simpa using j
    subst e;exact U,by rw[fQ];exact pw⟩
  have ao:=G.same n;obtain⟨lx,ap⟩:=G.ta.la;have ab:bq≠la:=λz=>by rw[z,Z _ _ ap]at B;cases B
  refine⟨k,tl,sa,la,b,bd,O,m,ws,L,bq,u,rfl,ao,ai,hT.same n,zj,λz j=>s5 _ _ (J z ((F z).mp j)),gm,ab,λp aq ar as au L2 H' hp hv av O2 T2 ac ad aw ax=>?_⟩;have ay:H q=none:=I.free hq;refine kk p aq ar as bq u au L2 H' (n.free hp) hv av ?_ ((Off.of n).trans O2 (.inr rfl)) T2 (n.free ac) (n.free ad) (Z.free B) aw λc o e hc j=>ax c o (n _ _ e) hc (zz e (Z.free B)) λz az=>by
   rcases aZ.mp ((F z).mp az) with h | h
   ·exact j z h
   ·have e':z=(q,t):=by simpa using h
    subst e';exact zz e ay
  have:=pm.map (·.2);rwa[aH]at this
def zfN(T0 C CK xD:au):Sp:=λvs H Q E=>Ex6 λk tl sa la b bd=>Ex6 λbl zs ws L v d=>An8 (vs=[.ref k,v]) (KpAt C CK H k tl sa la b bd bl zs ws L) (bd<2^900) (LT T0 H) (ThAt H d v) (jG d<=100000) ((zU b d=false\/xX d∉zs.map (·.2)->∀H',Same H H'->E (.ref xD) none H')) ((zU b d=true->xX d∈zs.map (·.2)->KQ T0 C CK H k la b bd zs (λls2=>ls2=(zs.map (·.2)).filter λl=>decide (l≠xX d)) Q))
theorem zbg:zF ["self","stretch"] ["self","stretch"] (zx tX):={}
theorem zih(D:Mt K CK "Keeper.go" "go" tX Ah f fd)(MKeeper_turn_to:Mt K CK "Keeper.turn_to" "turn_to" yV At f1 fd1)(GKeeper_turn_to:FnOk P w K mg base CX0 9 f1 fd1 At (WW T0 C CK))(wB:Df K mg "is_stretch" uK Ab f2 fd2)(vA:FnOk P w K mg base CX0 4 f2 fd2 Ab jh)(cKeeper:ClK K mg CK)(qEd:zdn K mg "NoStretch" xD)(T:Blt mg):FnOk P w K mg base (CX1 P w) 10 f fd Ah (zfN T0 C CK xD):=by
 refine D.fn.ok1 zbg (λvs H Q E h=>?_) (λcdv A outer s H vs Q E Y h=>?_)
 ·obtain⟨k,tl,sa,Z,b,bd,R,m,ws,L,v,d,rfl,_⟩:=h;rfl
 ·obtain⟨k,tl,sa,Z,b,bd,R,m,ws,L,v,d,rfl,G,ab,hT,hd,hs,I,kG⟩:=h;have HU:=Yr Y;have g:=G.gt.g;obtain⟨S,hk⟩:=G.ob;refine yW ?_;intro XX;let q1:Sq XX ((zq tX).drop 1):=⟨_,zu (zG (qD MKeeper_turn_to cKeeper.cl GKeeper_turn_to (Y.mono (by decide)) (pv 0) (zf (yD (show CScope (zx tX) _ "each" ["self","stretch"] ["stretch"] [1] from {}) rfl (qj K (wV K (pv 0))) (λ_ _ _ _=>(uA (zK (WP K HU) (pv 0) (pv 1) (zM _)))) (λ_ _ _ _=>(pv 0))) zg)))⟩
  refine⟨_,(zm (yw (PW.pt (Ym (vK (xx (zL wB vA (Y.mono (by decide)) (zf (wV K (pv 0)) (zf (pv 1) zg))))) (Z6 (zK (zcL K HU) (pv 1) (wV K (pv 0)) (by with_unfolding_all rfl)))))
    (zu (Uk qEd VM rfl (zf jE zg)))
    zR) q1.p),?_⟩
  refine⟨_,rfl,k,CK,S,_,_,rfl,hk,cKeeper.cl,cKeeper.n_base,Yc _ _ _ _,_,rfl,b,v,d,rfl,hd,hs,λH1 r=>⟨_,rfl,?_⟩⟩;cases hstr:zU b d with
  |false=>exact yz ⟨by decide,I (.inl hstr) H1 r⟩
  |true=>
  refine yG ?_;obtain⟨st,rfl,y,ad⟩:=zgp hd hstr;have U:=kG hstr;have I:=λz=>I (.inr z);generalize xX d=t at y ad U I;have n:=G.same r;have B:=r _ _ hk;refine⟨_,rfl,_,rfl,k,CK,S,_,_,rfl,B,cKeeper.cl,cKeeper.n_bad,Yi _ _ _ _,R,_,(m.map (·.2)).map xr,xr t,rfl,SqL.of n.li,TrsAt.lists n.st,TrAt.ints (SqL.of (r _ _ y)),aB (vg _) (by decide),_,rfl,?_⟩;rw[if_pos rfl,Wn];by_cases u:t∈m.map (·.2)
  case neg=>
   rw[decide_eq_false u];exact yz ⟨by decide,I u H1 r⟩
  rw[decide_eq_true u];have U:=U u;refine yG ?_;refine⟨_,rfl,k,S,_,rfl,B,uZ _ _ _ _,?_⟩;refine⟨_,rfl,k,CK,S,_,_,rfl,B,cKeeper.cl,cKeeper.n_bad,Yi _ _ _ _,R,rfl,⟨_,SqL.of n.li⟩,yK (λi W X=>X=H1/\W=((m.take i).filter λz=>decide (z.2≠t)).map λz=>V.ref z.1) ⟨rfl,rfl⟩ (λi W X _ ⟨e,_⟩=>by rw[e];exact SqL.of n.li) ?_ ?_⟩
  ·rintro j x W X hx ⟨rfl,rfl⟩;rw[ao]at hx;obtain⟨z,J,e⟩:=aY.mp hx;subst e;have F:=aL J;have h4:m.length<=4:=by have:=g.len;rwa[aa]at this
   refine⟨by rw[aa];exact aR (aB (dO _ _) (aB (Dc _ _) h4)) (by decide),?_⟩;refine⟨_,rfl,_,rfl,xr z.2,xr t,TrAt.ints (SqL.of (n.st z F)),TrAt.ints (SqL.of (r _ _ y)),(by rw[qT];decide),_,rfl,?_⟩;rw[if_pos rfl,jw,bY,J];by_cases e:z.2=t
   ·rw[decide_eq_true e];refine yG ⟨rfl,?_⟩;simp[fc,e]
   ·rw[decide_eq_false e];refine yz ⟨_,rfl,rfl,?_⟩;simp[fc,e]
  rintro W X ⟨rfl,rfl⟩ bq q;rw[aa,bT];have s5:=zp q (o:=.lst ((m.filter λz=>decide (z.2≠t)).map λz=>V.ref z.1));have a:=r.trans s5;have ef:(m.filter λz=>decide (z.2≠t)).map (·.2)=(m.map (·.2)).filter λl=>decide (l≠t):=by
   rw[BR];rfl
  have gm:GoodRule b ((m.filter λz=>decide (z.2≠t)).map (·.2)):=by
   rw[ef];exact⟨g.b2,g.b16,aB (dO _ _) g.len,λl hl=>g.st l (dm.mp hl).1,g.up.sublist Dr⟩
  obtain⟨lx,af⟩:=G.ta.la;have M:bq≠Z:=λz=>by rw[z,r _ _ af]at q;cases q
  refine⟨k,tl,sa,Z,b,bd,R,m,ws,L,bq,m.filter λz=>decide (z.2≠t),rfl,G.same a,ab,hT.same a,zj,λz hz=>a _ _ (G.st z (dm.mp hz).1),gm,M,λp ah ai aj ak L2 H' hp hv al O2 T2 N O am an=>?_⟩;exact U p ah ai aj bq _ ak L2 H' (a.free hp) hv al ef ((Off.of a).trans O2 (.inr rfl)) T2 (a.free N) (a.free O) (r.free q) am λc o e hc hz=>an c o (a _ _ e) hc (zz e (r.free q)) λz F=>hz z (dm.mp F).1
end
theorem Stq.aw(a:Stq s H H'):Same (aw [s] H) (aw [s] H'):=λb o e=>by
 have c:b∉[s]:=λc=>by rw[ju c]at e;cases e
 rw[yc c]at e ⊢;exact a.sm b o (λz=>c (by simp[z])) e
theorem Stq.lay(q:Stq s H H1)(m:Same H1 H2):Stq s H H2:=⟨by obtain⟨x,y,z,e⟩:=q.st;exact⟨x,y,z,m _ _ e⟩,λc o h e=>m _ _ (q.sm c o h e)⟩
theorem Stq.awM(q:Stq s H H')(M:List au):Same (L2.aw (s::M) H) (L2.aw (s::M) H'):=λc o e=>by
 have a:c∉s::M:=λz=>by rw[ju z]at e;cases e
 rw[yc a]at e ⊢;exact q.sm c o (λz=>a (by rw[z];exact bI)) e
theorem Stq.out(q:Stq s H H')(hM:∀m∈M,H m≠none)(h:H' p=none):p∉s::M:=λz=>by
 have a:=q.st.ne h;rcases aW.mp z with z | z
 ·exact a z
 ·cases e:H p with
  |none=>exact hM p z e
  |some o=>rw[q.sm p o a e]at h;cases h
def sVM(s:au)(M:List au)(H0:Hp):View:=⟨aw (s::M),λH=>Stq s H0 H/\∀m∈M,H0 m≠none,λh=>yd _ _ _ _ h,λ{H p} o ok hp=>⟨⟨ok.1.lay (zp hp),ok.2⟩,(zp hp).aw _,by rw[yc (ok.1.out ok.2 hp),zj]⟩⟩
section
variable {K:aK} {s:au} {M:List au} {H0:Hp} {Γ:Cxt} {te:TE} {lo hi:Int} {x:Nat}
theorem zeh(hd:Γ[x]?=some (some (zbo (.ref s))))(h:Tp (sVM s M H0) Γ te (tyI lo hi))(h1:1<=lo:=by first | decide | omega)(h2:hi<=1000:=by first | decide | omega):Tp (sVM s M H0) Γ (zer xg [] E0 (Zx (zgK x) (Zx te UJ))) (tyI 0 (hi-1)):=λZ H Q o f q=>by
 obtain⟨v,e,t⟩:=f.2 x _ hd;refine⟨v,e,h Z H _ o f λu H1 a b ⟨m,c,a1,d⟩=>⟨s,m,by rw[show v=V.ref s from t,c];rfl,a.1.st,by omega,p8 (pC d h2) (by decide +kernel),λr g hr S=>q _ g ⟨a.1.trans S,a.2⟩ (b.trans (S.awM M)) ⟨r,rfl,by omega,by omega⟩⟩⟩
end
abbrev tyF(b:Nat)(lo:Nat):Ty:=ut (tyI 0 (b-1)) lo 4
theorem tyF.ofL{b lo:Nat}{l:List Int}(h:G a=some (.lst (l.map V.int)))(h1:lo<=l.length)(h4:l.length<=4)(hf:∀i∈l,0<=i/\i<(b:Int)):(tyF b lo).p G (.ref a):=⟨a,_,rfl,h,by rw[aa];exact h1,by rw[aa];exact h4,λu d=>by
 obtain⟨i,c,rfl⟩:=aQ.mp d;exact⟨i,rfl,(hf i c).1,by have:=(hf i c).2;omega⟩⟩
theorem zhq(ls:ZA):teq (.lst (ls.map xr)) (.lst [])=decide (ls=[]):=by
 cases ls with
 |nil=>rfl
 |cons l ls=>simp[teq,jM]
section
variable {w:View} {Γ:Cxt} {te:TE} {K:aK} {x b lo:Nat}
theorem V1(b16:b<=16)(h:Tp w Γ te (tyF b lo)):Tp w Γ te (tyL 1 100 lo 4):=Tp.leL (Tp.ofLI h (by decide) (by omega))
end
def nw(H0 H:Hp):Hp:=λc=>match H0 c with | none=>H c | some _=>none
theorem Ja(h:nw H0 H c=some o):H0 c=none/\H c=some o:=by
 unfold nw at h;cases e:H0 c with
 |none=>rw[e]at h;exact⟨rfl,h⟩
 |some u=>rw[e]at h;cases h
theorem Jt(h:H0 c=none):nw H0 H c=H c:=by unfold nw;rw[h]
theorem Stq.nw(a:Stq s H H')(hs:H0 s≠none):Same (nw H0 H) (nw H0 H'):=λc o h=>by
 obtain⟨n,e⟩:=Ja h;rw[Jt n];exact a.sm c o (λz=>hs (by rw[<-z];exact n)) e
def nV(s:au)(H0:Hp):View:=⟨nw H0,λH=>Stq s H0 H/\H0 s≠none,λh=>(Ja h).2,λ{H p} o ok hp=>⟨⟨ok.1.lay (zp hp),ok.2⟩,(Stq.of ok.1.st (zp hp)).nw ok.2,by rw[Jt (ok.1.free hp),zj]⟩⟩
theorem Ur{lo hi:Int}(hd:Γ[x]?=some (some (zbo (.ref s))))(h:Tp (nV s H0) Γ te (tyI lo hi))(h1:1<=lo:=by first | decide | omega)(h2:hi<=1000:=by first | decide | omega):Tp (nV s H0) Γ (zer xg [] E0 (Zx (zgK x) (Zx te UJ))) (tyI 0 (hi-1)):=λZ H Q o f q=>by
 obtain⟨v,e,t⟩:=f.2 x _ hd;refine⟨v,e,h Z H _ o f λu H1 a b ⟨m,c,a1,d⟩=>⟨s,m,by rw[show v=V.ref s from t,c];rfl,a.1.st,by omega,p8 (pC d h2) (by decide +kernel),λr g hr S=>q _ g ⟨a.1.trans S,a.2⟩ (b.trans (S.nw a.2)) ⟨r,rfl,by omega,by omega⟩⟩⟩
section
variable {P:bx} {w:bU} {K:aK} {mg:bZ->Option aD} {base:dj}
def Ue:Sp:=λvs H Q _=>Ex5 λs r b bl zs=>An5 (vs=[.ref s,.ref r]) (Sto H s) (RuleAt (aw [s] H) r b bl zs) (GoodRule b (zs.map (·.2))) (∀(t:au) (door:Nat) (u:V) (d:cD) (H':Hp),Stq s H H'->nw H H' t=some (.tup [.int door,u])->door<=1->ThAt (nw H H') d u->Fit 3 2000 d->Q (.ref t) H')
theorem yP:zF ["store","rule","base","bad","way","stretch","one","some","at","odd","wrong"] ["store","rule"] (zx Zz):={}
set_option maxHeartbeats 0 in
theorem zca(D:Df K mg "_law_deed" Zz Bb f fd)(zB:Df K mg "_law_take" yj Ae f1 fd1)(yI:Df K mg "_law_stretch" xf Am f2 fd2)(T:Blt mg):FnOk P w K mg base CX0 3 f fd Bb Ue:=by
 have F:FnOk P w K mg base CX0 1 f1 fd1 Ae xg:=w6 zB T;have Z0:FnOk P w K mg base CX0 2 f2 fd2 Am jJ:=Xb yI zB T;refine D.fn.ok yP (λvs H Q E h=>?_) (λcdv A outer s H vs Q E q h=>?_)
 ·obtain⟨s,r,b,Y,M,rfl,_⟩:=h;rfl
 ·obtain⟨s,r,b,Y,M,rfl,St,R,g,kk⟩:=h;have u:H s≠none:=by obtain⟨x,y,z,e⟩:=St;rw[e];simp
  have hM:∀m∈([]:List au),H m≠none:=λm h=>nomatch h;have HU:=Yr q;have b2:=g.b2;have n:=g.b16;have h4:M.length<=4:=by have:=g.len;rwa[aa]at this
  refine⟨_,(zm (WY (pv 1) (W8 rfl (xW (zX (i:=2) yP.nd rfl (bf rfl)) (xW (zX (i:=3) yP.nd rfl (bf rfl)) ZK))))
   (zm (zE (i:=4) yP.nd rfl (bf rfl) (zL zB F (q.mono (by decide)) (zf (pv 0) (zf zr zg))))
   (zm (zE (i:=5) yP.nd rfl (bf rfl) (zL yI Z0 (q.mono (by decide)) (zf (pv 0) (zf (pv 2) (zf (zA (UT rfl) (by rfl) T.n_min Le (zf (pv 2) (zf (zP wL zr (zL zB F (q.mono (by decide)) (zf (pv 0) (zf zr zg)))) zg))) zg)))))
   (zm (zgb (yw (PW.pt (zb7 (zK (WP K HU) (pv 3) (zY zg) (zM _)) (QJ (zK (zjz K HU) (pv 4) (wW (zf zr (zf zr (zf zr (zf zr zg))))) (by with_unfolding_all rfl)))))
    (zm (zE (i:=6) yP.nd rfl (bf rfl) (zQ (yt K) (pv 3) (zL zB F (q.mono (by decide)) (zf (pv 0) (zf (zA (vY K) (by rfl) T.n_len PySem.boot_len (zf (pv 3) zg)) zg))) (λ_ _=>rfl)))
    (zm (zd9 (i:=7) yP.nd rfl (bf rfl) (YJ (yg (pei (pv 6)) (yg (pei (pv 6)) (yg (pei (Qs (pv 6))) (yg (pei (xZ (ZQ K) (pv 6) (wR zr) uz)) (yg (pei (xZ (ZQ K) (zP uB (pv 6) (zY (zf (zL zB F (q.mono (by decide)) (zf (pv 0) (zf (pv 2) zg))) zg))) uz (wR zr))) (yg (pei (pv 6)) ZS))))))))
    (zu (zE (i:=5) yP.nd rfl (bf rfl) (yU (Yl K) (by rfl) T.n_list gF (zf (zQ (yt K) (pv 7) (zL zB F (q.mono (by decide)) (zf (pv 0) (zf zr zg))) (λ_ _=>rfl)) zg))))))
    zR))
   (zm (zgb (yw (zK XR (pv 4) zr (zM _))
    (zm (zE (i:=8) yP.nd rfl (bf rfl) (zL zB F (q.mono (by decide)) (zf (pv 0) (zf (zA (vY K) (by rfl) T.n_len PySem.boot_len (zf (pv 5) zg)) zg))))
    (zm (zE (i:=9) yP.nd rfl (bf rfl) (zgH (yt K) (YJ (yg (pei (pv 2)) (yg (pei (Qg Xk zr)) (yg (pei qM) (yg (pei qM) (yg (pei yQ) (uL (yg (YJ (yg jT ZS)) (yg (pei (zP zg3 zr zr)) ZS))))))))) (zL zB F (q.mono (by decide)) (zf (pv 0) (zf zr zg))) (λ_ _=>rfl)))
    (zm (zd9 (i:=10) yP.nd rfl (bf rfl) (YJ (yg (pei (zP uB (zP uB (xZ (ZQ K) (pv 5) uz (wR (pv 8))) (zY (zf (pv 9) zg))) (xZ (ZQ K) (pv 5) (wR (zP wL (pv 8) zr)) uz))) (yg (YJ ZS) (yg (pei (zP zgc (zY (zf zr zg)) zr)) (yg (pei (yU Z7 (by rfl) T.n_tuple pZ (zf (pv 5) zg))) (yg (pei yQ) ZS)))))))
    (zu (zE (i:=5) yP.nd rfl (bf rfl) (zQ (yt K) (ziC uB (pv 10) (YJ (uL (yg jT (yg (pei zga) (yg (pei qM) (yg (pei (zY (zf (pv 5) zg))) ZS))))))) (zL zB F (q.mono (by decide)) (zf (pv 0) (zf zr zg))) (λ_ _=>rfl)))))))
    zR))
   (zu (zG (wW (zf (zgH (yt K) (YJ (yg jT (yg jT (yg jT (yg jT (yg jT (yg (pei (zL zB F (q.mono (by decide)) (zf (pv 0) (zf zr zg)))) (yg jT (yg jT ZS))))))))) (pv 4) (λ_ _=>rfl)) (zf (pv 5) zg)))))))))),?_⟩
  refine⟨_,rfl,r,_,rfl,SqT.of (yd _ _ _ _ R.tu),rfl,_,_,rfl,_,_,rfl,rfl,?_⟩;refine⟨_,rfl,s,8,rfl,St,by decide,by decide,λj H1 hway q1=>?_⟩;refine⟨_,rfl,_,rfl,_,rfl,_,rfl,s,2,rfl,q1.st,by decide,by decide,λx H2 hx q2=>⟨_,_,rfl,rfl,_,_,rfl,?_⟩⟩;obtain⟨B,ad,f1,f2⟩:∃B:Nat,(if (2+(x:Int))<(b:Int) then (2+(x:Int)) else (b:Int))=(B:Int)/\2<=B/\B<=b:=by
   by_cases z:2+x<b
   ·exact⟨2+x,by rw[if_pos (by omega)];omega,by omega,by omega⟩
   ·exact⟨b,by rw[if_neg (by omega)],by omega,by omega⟩
  rw[ad];refine⟨s,b,B,rfl,q2.st,f1,f2,n,λl ms H3 q3 hl bb U=>?_⟩;have ae:=(q1.trans q2).trans q3;have m3:=ae.awM [];have S3:=ae;have R3:=R.same m3;have bc:(tyF b 1).p (nw H H3) (.ref l):=tyF.ofL (by rw[Jt ((q1.trans q2).free hl)];exact bb) (cT.mpr U.ne) U.len U.fig;refine⟨λZ H'=>∃(k:V) (v6 v7 v8 v9 I:Option V),Z=[some (.ref s),some (.ref r),some (.int b),some (.ref Y),some (.int j),some k,v6,v7,v8,v9,I]/\Stq s H H'/\(tyF b (if j=5 then 1 else 0)).p (nw H H') k,?_,?_⟩
  ·refine⟨_,rfl,(by show 0<=aA;decide),λle W=>⟨.lst ((M.map (·.2)).map xr),.lst [],?_,?_,?_,_,rfl,?_⟩⟩
   ·rw[TrAt];exact⟨Y,_,rfl,SqL.of (zp W _ _ (yd _ _ _ _ R3.li)),TrsAt.lists λz hz=>zp W _ _ (yd _ _ _ _ (R3.st z hz))⟩
   ·rw[TrAt];exact⟨le,_,rfl,SqL.of zj,by rw[TrsAt]⟩
   ·have:=vg (M.map (·.2));simp only[vP];omega
   have k4:=zp W (o:=.lst []);have N:=S3.lay k4;have m4:=N.awM [];have X:=(tyF b 1).mo ((Stq.of S3.st k4).nw u) bc;have R4:=R.same m4;generalize upd H3 le (.lst [])=H4 at k4 m4 N X R4 ⊢;have ah:∀{G:Hp} {v:V},(tyF b 1).p G v->(tyF b (if j=5 then 1 else 0)).p G v:=λ⟨a,vs,e,h,l1,l2,r⟩=>⟨a,vs,e,h,by split<;>omega,l2,r⟩
   rw[zhq];by_cases C:M.map (·.2)=[]
   ·rw[decide_eq_true C];exact yG ⟨_,_,_,_,_,_,rfl,N,ah X⟩
   rw[decide_eq_false C];refine yz ?_;refine⟨_,rfl,(by show 4<=aA;decide),λtu bg=>⟨tu,_,[.int 1,.int 2,.int 3,.int 4],.int j,rfl,SqT.of zj,?_,by rw[TrAt],by simp[wA,vP],_,rfl,?_⟩⟩
   ·rw[TrsAt];refine⟨_,_,rfl,by rw[TrAt],?_⟩;rw[TrsAt];refine⟨_,_,rfl,by rw[TrAt],?_⟩;rw[TrsAt];refine⟨_,_,rfl,by rw[TrAt],?_⟩;rw[TrsAt];exact⟨_,_,rfl,by rw[TrAt],by rw[TrsAt]⟩
   have k5:=zp bg (o:=.tup [.int 1,.int 2,.int 3,.int 4]);have J:=N.lay k5;have m5:=J.awM [];have ai:=(tyF b 1).mo ((Stq.of N.st k5).nw u) X;have R5:=R.same m5;generalize upd H4 tu (.tup [.int 1,.int 2,.int 3,.int 4])=H5 at k5 m5 J ai R5 ⊢;cases hin:([Tr.int 1,.int 2,.int 3,.int 4].any λt=>teq t (.int j)) with
   |false=>exact yG ⟨_,_,_,_,_,_,rfl,J,ah ai⟩
   |true=>
    refine yz ?_;have w5:¬ j=5:=λz=>by rw[z]at hin;simp[teq]at hin
    rw[if_neg w5];have hz1:0<M.length:=cT.mpr (λz=>C (by rw[z];rfl));refine⟨_,rfl,_,rfl,_,rfl,Y,_,rfl,.inl (SqL.of (yd _ _ _ _ R5.li)),s,_,rfl,J.st,by rw[aa];omega,by rw[aa];exact p8 (show (M.length:Int)<=4 by omega) (by decide +kernel),λx6 H6 bk q6=>?_⟩;rw[aa]at bk;obtain⟨z,hz⟩:∃z,M[x6]?=some z:=⟨_,aj (by omega)⟩
    have ak:=aL hz;have gz:=g.st z.2 (aQ.mpr ⟨z,ak,rfl⟩);have O:=J.trans q6;have m6:=O.awM [];have R6:=R.same m6;refine⟨Y,_,_,.ref z.1,rfl,rfl,SqL.of (yd _ _ _ _ R6.li),yZ (by rw[ao,hz];rfl),?_⟩;have bn:(tyF b 1).p (aw [s] H6) (.ref z.1):=tyF.ofL (R6.st z ak) (cT.mpr gz.ne) gz.len gz.fig;refine Tp.asg2 (w:=sVM s [] H) (Γ:=[some (zbo (.ref s)),none,some (tyI b b),none,none,none,some (tyF b 1),none,none,none,none]) (T1:=ut (tyF b 0) 6 6) (Tp.lstT (TpB.cons (Tp.wideL (Tp.var rfl) (λ_ _ t=>t) (by decide) (by decide)) (TpB.cons (Tp.wideL (Tp.var rfl) (λ_ _ t=>t) (by decide) (by decide)) (TpB.cons (Tp.wideL (Tp.rev (Tp.var rfl)) (λ_ _ t=>t) (by decide) (by decide)) (TpB.cons (Tp.sl (Tp.var rfl) (TpO.some Tp.int) TpO.none) (TpB.cons (Tp.takeU (c:=4) (Tp.catT (Tp.var rfl) (Tp.lstT (TpB.cons (zeh rfl (Tp.var rfl)) TpB.nil)))) (TpB.cons (Tp.wideL (Tp.var rfl) (λ_ _ t=>t) (by decide) (by decide)) TpB.nil))))))) ⟨O,hM⟩ (Fits.cons rfl (Fits.skip (Fits.cons ⟨b,rfl,lw _,lw _⟩ (Fits.skip (Fits.skip (Fits.skip (Fits.cons bn (Fits.any _)))))))) λvs7 H7 S7 m7 t7=>?_;refine (Tp.ix (w:=sVM s [] H) (Γ:=[some (zbo (.ref s)),none,none,none,none,none,none,some (ut (tyF b 0) 6 6),none,none,none]) (T:=tyF b 0) (Tp.var rfl) (zeh rfl Tp.int) (by decide)) _ H7 _ S7 (Fits.cons rfl (Fits.skip (Fits.skip (Fits.skip (Fits.skip (Fits.skip (Fits.skip (Fits.cons t7 (Fits.any _))))))))) λv8 H8 S8 m8 t8=>?_;obtain⟨a8,am,rfl,g8,l1,l2,r8⟩:=t8;refine⟨a8,am,rfl,.inl (SqL.of (yd _ _ _ _ g8)),λp hp=>⟨_,_,_,_,_,_,rfl,S8.1.lay (zp hp),p,am,rfl,by rw[Jt (S8.1.free hp)];exact zj,l1,l2,r8⟩⟩
  ·rintro Z H4 ⟨k,v6,v7,v8,v9,I,rfl,N,t4⟩;refine⟨λZ H'=>∃(k:V) (v6 v7 v8 v9 I:Option V),Z=[some (.ref s),some (.ref r),some (.int b),some (.ref Y),some (.int j),some k,v6,v7,v8,v9,I]/\Stq s H H'/\(Yy 3 2000).p (nw H H') k,?_,?_⟩
   ·refine⟨_,rfl,rfl,_,rfl,?_⟩;by_cases L:j=5
    ·rw[decide_eq_true (by rw[L];rfl)];refine yz ?_;rw[if_pos L]at t4;have hb25:(b:Int)<=10^Int.toNat 25:=pC (show (b:Int)<=16 by omega) (by decide);refine Tp.asg2 (w:=nV s H) (Γ:=[some (zbo (.ref s)),none,none,none,none,some (tyF b 1),none,none,none,none,none]) (T1:=tyI 0 3) (Tp.wide (Ur rfl (Tp.len (Tp.var rfl))) (by decide) (by decide)) ⟨N,u⟩ (Fits.cons rfl (Fits.skip (Fits.skip (Fits.skip (Fits.skip (Fits.cons t4 (Fits.any _))))))) λva H5 J m5 t5=>?_;have bs:=(tyF b 1).mo m5 t4;refine Tp.asg2 (w:=nV s H) (Γ:=[some (zbo (.ref s)),none,some (tyI b b),none,none,none,none,none,none,none,none]) (T1:=Yy 1 200) (Tp.ix (Tp.lstT (TpB.cons (Tp.le (Tp.ofI (Tp.var rfl) (by omega) (by omega)) (by decide) (by decide)) (TpB.cons (Tp.le (Tp.ofI (Tp.neg Tp.int)) (by decide) (by decide)) (TpB.cons (Tp.le Tp.bl (by decide) (by decide)) (TpB.cons (Tp.le Tp.bl (by decide) (by decide)) (TpB.cons (Tp.le Tp.non (by decide) (by decide)) (TpB.cons (Tp.le (Tp.str (by decide +kernel) (by decide +kernel)) (by decide) (by decide)) (TpB.cons (Tp.le (Tp.ofL (Tp.lst (TpA.cons (Tp.ofI Tp.int) TpA.nil))) (by decide) (by decide)) (TpB.cons (Tp.le (Tp.ofI (Tp.pow ⟨by decide,by decide,by decide⟩)) (by decide) (by decide)) TpB.nil))))))))) (Ur rfl Tp.int) (by decide)) J (Fits.cons rfl (Fits.skip (Fits.cons ⟨b,rfl,lw _,lw _⟩ (Fits.any _)))) λvo H6 O m6 t6=>?_;have ap:=(tyF b 1).mo m6 bs;have bu:=(tyI 0 3).mo m6 t5;refine Tp.asg2 (w:=nV s H) (Γ:=[some (zbo (.ref s)),none,none,none,none,some (tyF b 1),none,none,some (tyI 0 3),some (Yy 1 200),none]) (T1:=ut (Yy 3 2000) 5 5) (Tp.lstT (TpB.cons (Tp.le (Tp.ofL (Tp.catT (Tp.catT (Tp.sl (Tp.leL (k':=1) (n':=200) (V1 n (Tp.var rfl))) TpO.none (TpO.some (Tp.var rfl))) (Tp.lstT (TpB.cons (Tp.var rfl) TpB.nil))) (Tp.sl (Tp.leL (k':=1) (n':=200) (V1 n (Tp.var rfl))) (TpO.some (Tp.add (Tp.var rfl) Tp.int)) TpO.none))) (by decide) (by decide)) (TpB.cons (Tp.le (Tp.ofL (Tp.lst TpA.nil)) (by decide) (by decide)) (TpB.cons (Tp.le (Tp.ofL (Tp.rep (c:=5) (c':=5) (Tp.lst (TpA.cons (Tp.ofI Tp.int) TpA.nil)) Tp.int)) (by decide) (by decide)) (TpB.cons (Tp.le (Tp.tupOf (V1 n (Tp.var rfl))) (by decide) (by decide)) (TpB.cons (Tp.le Tp.non (by decide) (by decide)) TpB.nil)))))) O (Fits.cons rfl (Fits.skip (Fits.skip (Fits.skip (Fits.skip (Fits.cons ap (Fits.skip (Fits.skip (Fits.cons bu (Fits.cons t6 (Fits.any _))))))))))) λvw H7 S7 m7 t7=>?_;have bv:=(tyF b 1).mo m7 ap;refine (Tp.ix (w:=nV s H) (Γ:=[some (zbo (.ref s)),none,none,none,none,some (tyF b 1),none,none,none,none,some (ut (Yy 3 2000) 5 5)]) (T:=Yy 3 2000) (Tp.catT (Tp.var rfl) (Tp.lstT (TpB.cons (Tp.le (Tp.str (by decide +kernel) (by decide +kernel)) (by decide) (by decide)) (TpB.cons (Tp.le (Tp.ofI Tp.int) (by decide) (by decide)) (TpB.cons (Tp.le Tp.emp (by decide) (by decide)) (TpB.cons (Tp.le Tp.bl (by decide) (by decide)) (TpB.cons (Tp.le (Tp.ofL (Tp.lst (TpA.cons (Tp.ofL (V1 n (Tp.var rfl))) TpA.nil))) (by decide) (by decide)) TpB.nil))))))) (Ur rfl Tp.int) (by decide)) _ H7 _ S7 (Fits.cons rfl (Fits.skip (Fits.skip (Fits.skip (Fits.skip (Fits.cons bv (Fits.skip (Fits.skip (Fits.skip (Fits.skip (Fits.cons t7 Fits.nil))))))))))) λv8 H8 S8 m8 t8=>?_;exact⟨_,_,_,_,_,_,rfl,S8.1,t8⟩
    ·rw[decide_eq_false (λz=>L (by injection z with z;omega))];refine yG ⟨_,_,_,_,_,_,rfl,N,?_⟩;rw[if_neg L]at t4;obtain⟨v9,e9,q9⟩:=(Tp.le (Tp.ofL (V1 n (Tp.var (w:=idV) (Γ:=[some (tyF b 0)]) (x:=0) rfl))) (by decide) (by decide)) [some k] _ (λv G=>(Yy 3 2000).p G v) trivial (Fits.cons t4 Fits.nil) λv G _ m t=>t;cases e9;exact q9
   ·rintro Z H5 ⟨S,u6,u7,u8,u9,u10,rfl,J,t5⟩;refine (Tp.ix (w:=nV s H) (Γ:=[some (zbo (.ref s)),none,none,none,some (tyI 0 7),none,none,none,none,none,none]) (T:=tyI 0 1) (Tp.lstT (TpB.cons (Tp.wide Tp.int (by decide) (by decide)) (TpB.cons (Tp.wide Tp.int (by decide) (by decide)) (TpB.cons (Tp.wide Tp.int (by decide) (by decide)) (TpB.cons (Tp.wide Tp.int (by decide) (by decide)) (TpB.cons (Tp.wide Tp.int (by decide) (by decide)) (TpB.cons (Tp.wide (Ur rfl Tp.int) (by decide) (by decide)) (TpB.cons (Tp.wide Tp.int (by decide) (by decide)) (TpB.cons (Tp.wide Tp.int (by decide) (by decide)) TpB.nil))))))))) (Tp.var rfl) (by decide)) _ H5 _ ⟨J,u⟩ (Fits.cons rfl (Fits.skip (Fits.skip (Fits.skip (Fits.cons ⟨j,rfl,by omega,by omega⟩ (Fits.any _)))))) λvd H6 O m6 t6=>?_;obtain⟨i,rfl,i0,i1⟩:=t6;refine⟨_,rfl,(by show 2<=aA;decide),λt ht=>?_⟩;have k7:=zp ht (o:=.tup [.int i,S]);have S7:=O.1.lay k7;obtain⟨d,td,fd⟩:=(Yy 3 2000).mo (Same.trans m6 ((Stq.of O.1.st k7).nw u)) t5;refine kk t i.toNat S d _ S7 ?_ (by omega) td fd;rw[Jt (O.1.free ht),show ((i.toNat:Nat):Int)=i by omega];exact zj
end
end Lw
namespace L2
open PySem PySem.Spec PyProof.Rows PySem.SeqAt
section
variable {X:Cx} {K:aK}
def zjr(K:aK):R2:=λx y H Q=>Ex3 λa b xs=>x=.ref a/\y=.ref b/\SqL K H a xs/\SqL K H b []/\Q (.bl xs.isEmpty) H
theorem zgT(hu:X.A.units+64<d7):OpR X (cO .Eq) (zjr X.K):=by
 intro pins s Z H x y v u Q I i k h;obtain⟨a,b,xs,rfl,rfl,l,m,q⟩:=h;cases i
 cases k;obtain⟨its,n,d,_⟩:=I.list l
 obtain⟨its2,o,f,_⟩:=I.list m;have g:X.A.units<d7:=by omega
 cases o;cases n with
 |nil=>
  have c:=RcAt.lists (e:=λ_=>true) d.isList f.isList rfl g (λj h=>absurd h (by simp));exact c _ _ _ _ ⟨.bl _,H,I,rfl,q⟩
 |cons r rs=>
  have c:=RcAt.lists_lengths d.isList f.isList (by rw[bne_iff_ne];simp) g;exact c _ _ _ _ ⟨.bl _,H,I,rfl,q⟩
theorem zhN(hu:X.A.units+64<d7)(e:X.K=K:=by rfl):OpR X (cO .Eq) (zjr K):=by subst e;exact zgT hu
end
end L2
namespace Lw
open PySem L2 PyProof.Rows
section
variable {P:bx} {w:bU} {K:aK} {mg:bZ->Option aD} {base:dj}
def Zb:Sp:=λvs H Q _=>Ex3 λ(b:Nat) (v:V) (d:cD)=>An4 (vs=[.int b,v]) (ThAt H d v) (jG d<=100000) (∀H',Same H H'->Q (.bl (zU b d)) H')
theorem W7:zF ["base","thing"] ["base","thing"] (zx xR):={}
theorem Vg(D:Df K mg "_law_is_stretch" xR Ab f fd)(T:Blt mg):FnOk P w K mg base CX0 1 f fd Ab Zb:=by
 refine D.fn.ok W7 (λV H Q E h=>?_) (λcdv A outer s H V Q E W h=>?_)
 ·obtain⟨b,v,d,rfl,_⟩:=h;rfl
 ·obtain⟨b,v,d,rfl,F,X,u⟩:=h;have Y:=Yr W;refine yW ?_;intro Z;let q1:Sq Z ((zq xR).drop 1):=⟨_,zu (zG (xK (zhN (K:=K) Y) (yD (show CScope (zx xR) _ "one" ["base","thing"] ["base"] [0] from {}) rfl (qj K (pv 1)) (λ_ _ _ _=>(uA (PW.pt (Ym (vK (xx (zA (tZ K) (by rfl) T.n_isinstance bD (zf (pv 0) (zf (xM (v:=.ty "int") rfl T.n_int mZ rfl) zg))))) (Ym (xx (zA (tZ K) (by rfl) T.n_isinstance bD (zf (pv 0) (zf (xM (v:=.ty "bool") rfl T.n_bool Di rfl) zg)))) (Z6 (vK (zcw Qi QQ zr (pv 0) (pv 1))))))))) (λ_ _ _ _=>(pv 0))) (zY zg) (zM _)))⟩
  refine⟨_,(zm (yw (PW.pt (Ym (vK (xx (zA (tZ K) (by rfl) T.n_isinstance bD (zf (pv 1) (zf (xM (v:=.ty "list") rfl T.n_list gF rfl) zg))))) (Z6 (vK (zcw QQ QQ zr (zA (vY K) (by rfl) T.n_len PySem.boot_len (zf (pv 1) zg)) zr)))))
    (zu (zG qM))
    zR) q1.p),?_⟩
  refine⟨_,rfl,_,_,_,_,rfl,F.ty,Uj d,_,rfl,?_⟩;cases M:isT "list" d with
  |false=>
   have q:=u H (Same.refl _);rw[show zU b d=false by cases d<;>first | rfl | cases M]at q;exact yz q
  |true=>
   obtain⟨xs,rfl⟩:=QR M;rw[ThAt]at F;obtain⟨a,l,rfl,G,I⟩:=F;rw[jG]at X;refine yG ?_;have hyl:=I.len;have N:¬ (1<=xs.length/\xs.length<=4)->zU b (.list xs)=false:=λz=>by
    unfold zU;rw[show decide (1<=(Wt (.list xs)).length/\(Wt (.list xs)).length<=4)=false from decide_eq_false z,mU]
   refine⟨_,rfl,a,_,rfl,.inl (SqL.of G),_,_,rfl,rfl,_,rfl,?_⟩;by_cases h0:0<l.length
   case neg=>
    rw[decide_eq_false (show ¬ (0:Int)<(l.length:Int) by omega)];have q:=u H (Same.refl _);rw[N (by omega)]at q;exact yG ⟨_,rfl,yz q⟩
   rw[decide_eq_true (show (0:Int)<(l.length:Int) by omega)];refine yz ⟨_,_,rfl,rfl,_,rfl,?_⟩;by_cases h5:l.length<5
   case neg=>
    rw[decide_eq_false (show ¬ (l.length:Int)<5 by omega)];have q:=u H (Same.refl _);rw[N (by omega)]at q;exact yz q
   rw[decide_eq_true (show (l.length:Int)<5 by omega)];refine yG ?_;refine⟨_,rfl,a,rfl,⟨_,SqL.of G⟩,yK (K:=K) (a:=a) (xs:=l) (λi g n=>g.isEmpty=(xs.take i).all (Uo b)/\g.length<=i/\n=H) ⟨rfl,aq _,rfl⟩ (λi g n _ ⟨_,_,e⟩=>by rw[e];exact SqL.of G) ?_ ?_⟩
   ·rintro j x g n O ⟨m,r,rfl⟩;obtain⟨e,J,y⟩:=I.get O;have L:=(aV.mp O).1;refine⟨aR r (fL L (fL h5 (by decide))),?_⟩;have R:(xs.take (j+1)).all (Uo b)=((xs.take j).all (Uo b) && Uo b e):=by rw[bY,J];simp
    have k:Uo b e=false->((g++[x]).isEmpty=(xs.take (j+1)).all (Uo b)/\(g++[x]).length<=j+1/\n=n):=λz=>⟨by rw[R,z,mU];simp,by rw[aF,aX];omega,rfl⟩
    refine⟨_,rfl,_,_,_,_,rfl,y.ty,zeC e,_,rfl,?_⟩;cases S:isT "int" e with
    |false=>exact yz (yz ⟨_,rfl,k (by cases e<;>first | rfl | cases S)⟩)
    |true=>
     refine yG ⟨_,rfl,_,_,_,_,rfl,y.ty,JL e,_,rfl,?_⟩;cases U:isT "bool" e with
     |true=>exact yz (yz ⟨_,rfl,k (by cases e<;>first | rfl | cases U)⟩)
     |false=>
      obtain⟨i,rfl⟩:∃i,e=.int i:=by cases e<;>first | exact⟨_,rfl⟩ | (cases U;done) | (cases S;done)
      rw[ThAt]at y;subst y;refine yG ⟨_,rfl,_,_,rfl,rfl,_,rfl,?_⟩;by_cases B:0<=i
      case neg=>
       rw[decide_eq_false B];exact yG ⟨_,rfl,yz ⟨_,rfl,k (decide_eq_false λz=>B z.1)⟩⟩
      rw[decide_eq_true B];refine yz ⟨_,rfl,_,_,rfl,rfl,_,rfl,?_⟩;by_cases C:i<(b:Int)
      ·rw[decide_eq_true C];exact yG ⟨by rw[R,m,show Uo b (.int i)=true from decide_eq_true ⟨B,C⟩,rN],by omega,rfl⟩
      ·rw[decide_eq_false C];exact yz ⟨_,rfl,k (decide_eq_false λz=>C z.2)⟩
   ·rintro g n ⟨m,r,rfl⟩ Dd hD;refine⟨(by show 0<=aA;decide),λp0 t=>⟨Dd,p0,g,rfl,rfl,SqL.of (zp t _ _ zj),SqL.of zj,?_⟩⟩;rw[m,I.len,bT];have q:=u _ ((zp hD (o:=.lst g)).trans (zp t (o:=.lst [])));unfold zU at q;rw[show decide (1<=(Wt (.list xs)).length/\(Wt (.list xs)).length<=4)=true from decide_eq_true ⟨by show 1<=xs.length;omega,by show xs.length<=4;omega⟩,rN]at q;exact q
end
theorem zi9{A B:Prop}(hc:c=false)(h:B):if c=true then A else B:=by rw[hc];exact yG h
theorem zjf{A B:Prop}(hc:c=true)(h:A):if c=true then A else B:=by rw[hc];exact yz h
theorem Q0(h:¬ i=j):decide (V.int i=V.int j)=false:=decide_eq_false (λz=>h (by injection z))
def Xf(b:Nat)(ls:ZA)(d:cD)(door:Nat):Option bZ :=
 if door=0 then (if ls.length=4 then some ("many" : bZ) else if zU b d=false\/xX d∈ls then some ("stretch" : bZ) else none)
 else if zU b d=false\/xX d∉ls then some ("stretch" : bZ) else none
section
variable {b:Nat} {ls:ZA} {d:cD}
theorem za0(h:ls.length=4):Xf b ls d 0=some ("many" : bZ):=by unfold Xf;rw[if_pos rfl,if_pos h]
theorem za4(h:ls.length≠4)(q:zU b d=false\/xX d∈ls):Xf b ls d 0=some ("stretch" : bZ):=by unfold Xf;rw[if_pos rfl,if_neg h,if_pos q]
theorem Je(h:ls.length≠4)(q:zU b d=true)(q2:xX d∉ls):Xf b ls d 0=none:=by unfold Xf;rw[if_pos rfl,if_neg h,if_neg (by rintro (z | z);rw[q]at z;cases z;exact q2 z)]
theorem zea(q:zU b d=false\/xX d∉ls):Xf b ls d 1=some ("stretch" : bZ):=by unfold Xf;rw[if_neg (by decide),if_pos q]
theorem zcy(q:zU b d=true)(q2:xX d∈ls):Xf b ls d 1=none:=by unfold Xf;rw[if_neg (by decide),if_neg (by rintro (z | z);rw[q]at z;cases z;exact z q2)]
end
def DueL(door:Nat)(ls:ZA)(ns:List Int)(ls2:ZA):Prop:=(door=0->ls2.Perm (ls++[ns]))/\(door=1->ls2=ls.filter λl=>decide (l≠ns))
section
variable {P:bx} {w:bU} {K:aK} {mg:bZ->Option aD} {base:dj}
def Qe:Sp:=λvs H Q _=>Ex6 λ(r:au) (t:au) (b:Nat) (bl:au) (zs:ZB) (door:Nat)=>Ex2 λu d=>An9 (vs=[.ref r,.ref t]) (RuleAt H r b bl zs) (GoodRule b (zs.map (·.2))) (H t=some (.tup [.int door,u])) (door<=1) (ThAt H d u) (jG d<=100000) ((∀x,Xf b (zs.map (·.2)) d door=some x->∀H',Same H H'->Q (.str x) H')) ((Xf b (zs.map (·.2)) d door=none->∀r2 bl2 zs2 H',Same H H'->RuleAt H' r2 b bl2 zs2->GoodRule b (zs2.map (·.2))->DueL door (zs.map (·.2)) (xX d) (zs2.map (·.2))->H r2=none->H bl2=none->(∀z∈zs2,z∈zs\/H z.1=none)->Q (.ref r2) H'))
theorem jr:zF ["rule","deed","base","bad","door","stretch"] ["rule","deed"] (zx vD):={}
set_option maxHeartbeats 0 in
theorem zcE(D:Df K mg "_law_due" vD Bc f fd)(uR:Df K mg "_law_is_stretch" xR Ab f1 fd1)(T:Blt mg):FnOk P w K mg base CX0 2 f fd Bc Qe:=by
 have U7:FnOk P w K mg base CX0 1 f1 fd1 Ab Zb:=Vg uR T;refine D.fn.ok jr (λvs H Q E h=>?_) (λcdv A outer s H vs Q E hr h=>?_)
 ·obtain⟨r,t,b,bl,k,door,u,d,rfl,_⟩:=h;rfl
 ·obtain⟨r,t,b,bl,k,door,u,d,rfl,R,g,ht,hdo,hd,hs,kR,kO⟩:=h;have HU:=Yr hr;have h4:k.length<=4:=by have:=g.len;rwa[aa]at this
  have hl:(k.map (·.2)).length=k.length:=aa _;have kM:door=0->k.length=4->∀L,Same H L->Q (.str "many") L:=λh0 C=>kR _ (by rw[h0];exact za0 (by omega));have W:¬ (door=0/\k.length=4)->(zU b d=false\/¬ (xX d∈k.map (·.2)↔door=1))->∀L,Same H L->Q (.str "stretch") L:=λhn q=>by
   refine kR _ ?_;rcases (show door=0\/door=1 by omega) with rfl | rfl
   ·refine za4 (λz=>hn ⟨rfl,by omega⟩) (q.imp id λz=>?_);by_cases hi:xX d∈k.map (·.2)
    ·exact hi
    ·exact absurd ⟨λy=>absurd y hi,λy=>absurd y (by decide)⟩ z
   ·exact zea (q.imp id λz hi=>z ⟨λ_=>rfl,λ_=>hi⟩)
  have kG:zU b d=true->(xX d∈k.map (·.2)↔door=1)->¬ (door=0/\k.length=4)->∀(X ac:au) (M:ZB) (L:Hp),Same H L->RuleAt L X b ac M->GoodRule b (M.map (·.2))->DueL door (k.map (·.2)) (xX d) (M.map (·.2))->H X=none->H ac=none->(∀z∈M,z∈k\/H z.1=none)->Q (.ref X) L:=λh1 h2 h3=>by
   refine kO ?_;rcases (show door=0\/door=1 by omega) with rfl | rfl
   ·exact Je (λz=>h3 ⟨rfl,by omega⟩) h1 λz=>absurd (h2.mp z) (by decide)
   ·exact zcy h1 (h2.mpr rfl)
  refine yW ?_;intro XX;let q1:Sq XX ((zq vD).drop 5):=⟨_,zu (zG (wW (zf (pv 2) (zf (yD (show CScope (zx vD) _ "one" ["rule","deed","base","bad","door","stretch"] ["stretch"] [5] from {}) rfl (qj K (pv 3)) (λ_ _ _ _=>(uA (zK (WP K HU) (pv 0) (pv 1) (zM _)))) (λ_ _ _ _=>(pv 0))) zg))))⟩
  let q2:Sq XX ((zq vD).drop 4):=⟨_,zm (yw (zK XR (pv 4) zr (zM _))
    (zu (zG (wW (zf (pv 2) (zf (zA (zek K HU) (by rfl) T.n_sorted CW (zf (zP uB (pv 3) (zY (zf (yU (Yl K) (by rfl) T.n_list gF (zf (pv 5) zg)) zg))) zg)) zg)))))
    zR) q1.p⟩
  let q3:Sq XX ((zq vD).drop 3):=⟨_,zm (yw (PW.pt (Ym (vK (xx (zL uR U7 (hr.mono (by decide)) (zf (pv 2) (zf (pv 5) zg))))) (Z6 (zK zei (xK (zet K HU) (pv 5) (pv 3) (by with_unfolding_all rfl)) (xK XR (pv 4) zr (zM _)) (zM _)))))
    (zu (zG jE))
    zR) q2.p⟩
  let q4:Sq XX ((zq vD).drop 2):=⟨_,zm (yw (PW.pt (zb7 (zK XR (pv 4) zr (zM _)) (QJ (zK XR (zA (vY K) (by rfl) T.n_len PySem.boot_len (zf (pv 3) zg)) zr (zM _)))))
    (zu (zG jE))
    zR) q3.p⟩
  let q5:Sq XX ((zq vD).drop 1):=⟨_,zm (WY (pv 1) (W8 rfl (xW (zX (i:=4) jr.nd rfl (bf rfl)) (xW (zX (i:=5) jr.nd rfl (lK rfl)) ZK)))) q4.p⟩
  refine⟨_,(zm (WY (pv 0) (W8 rfl (xW (zX (i:=2) jr.nd rfl (bf rfl)) (xW (zX (i:=3) jr.nd rfl (bf rfl)) ZK)))) q5.p),?_⟩;refine⟨_,rfl,r,_,rfl,SqT.of R.tu,rfl,_,_,rfl,_,_,rfl,rfl,?_⟩;refine⟨_,rfl,t,_,rfl,SqT.of ht,rfl,_,_,rfl,_,_,rfl,rfl,?_⟩;have W:=λ(z:¬ (door=0/\k.length=4)) q=>W z q;suffices ae:¬ (door=0/\k.length=4)->_ by
   refine⟨_,rfl,rfl,_,rfl,?_⟩;by_cases Y:door=0
   ·rw[decide_eq_true (by rw[Y];rfl)];refine yz ⟨_,rfl,bl,_,rfl,.inl (SqL.of R.li),rfl,_,rfl,?_⟩;rw[aa];by_cases C:k.length=4
    ·rw[decide_eq_true (by rw[C];rfl)];exact yz (kM Y C H (Same.refl _))
    ·rw[decide_eq_false (λz=>C (by injection z with z;omega))];exact yG (ae λz=>C z.2)
   ·rw[Q0 (by omega)];exact yG (ae λz=>Y z.1)
  intro N;refine⟨_,rfl,_,rfl,b,u,d,rfl,hd,hs,λH1 J=>⟨_,rfl,?_⟩⟩;cases hstr:zU b d with
  |false=>exact yz (W N (.inl hstr) H1 J)
  |true=>
  refine yG ?_;obtain⟨st,rfl,O,ag⟩:=zgp hd hstr;have W:=λz=>W N (.inr z);have kk:=λz=>kG hstr z N;generalize xX d=m at O ag kk W;have R1:=R.same J;refine⟨_,rfl,_,rfl,bl,_,(k.map (·.2)).map xr,xr m,rfl,SqL.of R1.li,TrsAt.lists R1.st,TrAt.ints (a:=st) (SqL.of (J _ _ O)),aB (vg _) (by decide),?_⟩;rw[if_neg bc,Wn];refine⟨_,rfl,rfl,rfl,_,rfl,?_⟩;have e1:decide (V.int (door:Int)=V.int 1)=decide (door=1):=decide_eq_decide.mpr ⟨λz=>by injection z with z;omega,λz=>by rw[z];rfl⟩;rw[e1];by_cases v:m∈k.map (·.2)↔door=1
  case neg=>
   rw[show (!decide (V.bl (decide (m∈k.map (·.2)))=V.bl (decide (door=1))))=true by
    rw[decide_eq_false (λz=>v (by injection z with z;exact decide_eq_decide.mp z))];rfl]
   exact yz (W v H1 J)
  rw[show (!decide (V.bl (decide (m∈k.map (·.2)))=V.bl (decide (door=1))))=false by
    rw[decide_eq_true (by rw[decide_eq_decide.mpr v])];rfl]
  refine yG ?_;have kk:=kk v;refine⟨_,rfl,rfl,_,rfl,?_⟩;rcases (show door=0\/door=1 by omega) with rfl | rfl
  ·refine zjf (decide_eq_true rfl) ?_;have aj:m∉k.map (·.2):=λz=>absurd (v.mp z) (by decide);have h3:k.length<=3:=by
    by_cases z:k.length=4
    ·exact absurd ⟨rfl,z⟩ N
    ·omega
   refine⟨_,rfl,_,rfl,_,rfl,st,_,rfl,.inl (SqL.of (J _ _ O)),λq hq=>⟨(by show 1<=aA;decide),λl1 ak=>?_⟩⟩;have s2:=J.trans (zp hq (o:=.lst (m.map V.int)));have s3:=s2.trans (zp ak (o:=.lst [.ref q]));have az:=zp ak (o:=.lst [.ref q]) _ _ (zj (H:=H1) (a:=q) (o:=.lst (m.map V.int)));refine⟨bl,l1,_,_,rfl,rfl,s3 _ _ R.li,zj,by rw[aa];exact aB (show k.length+1<=5 by omega) (by decide),λl2 al=>?_⟩;have s4:=s3.trans (zp al (o:=.lst (k.map (λz=>V.ref z.1)++[.ref q])));have bb:=zp al (o:=.lst (k.map (λz=>V.ref z.1)++[.ref q])) _ _ az;have nd:((k++[(q,m)]).map (·.2)).Nodup:=by
    rw[aH];refine kj.mpr ⟨g.nodup,by simp,λx hx y hy=>?_⟩;have e:y=m:=by simpa using hy
    rw[e];exact λz=>aj (z▸hx)
   have U:∀z∈k++[(q,m)],upd (upd (upd H1 q (.lst (m.map V.int))) l1 (.lst [.ref q])) l2 (.lst (k.map (λz=>V.ref z.1)++[.ref q])) z.1=some (.lst (z.2.map V.int)):=λz n=>by
    rcases aZ.mp n with n | n
    ·exact s4 _ _ (R.st z n)
    ·have e:z=(q,m):=by simpa using n
     subst e;exact bb
   refine⟨l2,k++[(q,m)],rfl,SqL.of (by rw[zj];simp),by rw[aF,aX];omega,λz n=>SqL.of (U z n),nd,λbq S F pm pw=>?_⟩;have s5:=zp F (o:=.lst (S.map λz=>V.ref z.1));have B:=s4.trans s5;have G:∀z,z∈S↔z∈k++[(q,m)]:=λz=>pm.mem_iff;have gm:GoodRule b (S.map (·.2)):=⟨g.b2,g.b16,by rw[aa,pm.length_eq,aF,aX];omega,λl hl=>by
    obtain⟨z,n,rfl⟩:=aQ.mp hl;rcases aZ.mp ((G z).mp n) with n | n
    ·exact g.st _ (aQ.mpr ⟨z,n,rfl⟩)
    ·have e:z=(q,m):=by simpa using n
     subst e;exact ag,by rw[fQ];exact pw⟩
   refine⟨(by show 2<=aA;decide),λX I=>?_⟩;have Z:=zp I (o:=.tup [.int b,.ref bq]);refine kk X bq S _ (B.trans Z) ⟨zj,Z _ _ zj,λz n=>Z _ _ (s5 _ _ (U z ((G z).mp n)))⟩ gm ⟨λ_=>?_,λz=>absurd z (by decide)⟩ (B.free I) (s4.free F) λz n=>?_
   ·have:=pm.map (·.2);rwa[aH]at this
   ·rcases aZ.mp ((G z).mp n) with h | h
    ·exact .inl h
    ·have e:z=(q,m):=by simpa using h
     subst e;exact .inr (J.free hq)
  ·refine zi9 (Q0 (by decide)) ?_;refine⟨_,rfl,_,rfl,bl,rfl,⟨_,SqL.of R1.li⟩,yK (K:=K) (a:=bl) (xs:=k.map λz=>V.ref z.1) (λi ys H4=>H4=H1/\ys=((k.take i).filter λz=>decide (z.2≠m)).map λz=>V.ref z.1) ⟨rfl,rfl⟩ (λi ys H4 _ ⟨e,_⟩=>by rw[e];exact SqL.of R1.li) ?_ ?_⟩
   ·rintro j x ys H4 hx ⟨rfl,rfl⟩;rw[ao]at hx;obtain⟨z,an,e⟩:=aY.mp hx;subst e;have bg:=aL an;refine⟨by rw[aa];exact aR (aB (dO _ _) (aB (Dc _ _) h4)) (by decide),?_⟩;refine⟨_,rfl,_,rfl,xr z.2,xr m,TrAt.ints (a:=z.1) (SqL.of (R1.st z bg)),TrAt.ints (a:=st) (SqL.of (J _ _ O)),(by rw[qT];decide),_,rfl,?_⟩;rw[if_pos rfl,jw,bY,an];by_cases e:z.2=m
    ·rw[decide_eq_true e];refine yG ⟨rfl,?_⟩;simp[fc,e]
    ·rw[decide_eq_false e];refine yz ⟨_,rfl,rfl,?_⟩;simp[fc,e]
   rintro ys H4 ⟨rfl,rfl⟩ bq F;rw[aa,bT];have s5:=zp F (o:=.lst ((k.filter λz=>decide (z.2≠m)).map λz=>V.ref z.1));have B:=J.trans s5;have ef:(k.filter λz=>decide (z.2≠m)).map (·.2)=(k.map (·.2)).filter λl=>decide (l≠m):=by
    rw[BR];rfl
   have gm:GoodRule b ((k.filter λz=>decide (z.2≠m)).map (·.2)):=by
    rw[ef];exact⟨g.b2,g.b16,aB (dO _ _) g.len,λl hl=>g.st l (dm.mp hl).1,g.up.sublist Dr⟩
   refine⟨(by show 2<=aA;decide),λX I=>?_⟩;have Z:=zp I (o:=.tup [.int b,.ref bq]);exact kk X bq _ _ (B.trans Z) ⟨zj,Z _ _ zj,λz n=>Z _ _ (B _ _ (R.st z (dm.mp n).1))⟩ gm ⟨λz=>absurd z (by decide),λ_=>ef⟩ (B.free I) (J.free F) λz n=>.inl (dm.mp n).1
end
structure zbT (mg:bZ->Option aD) (qA qB qE qS qV xA xB xC xD xE xI xS yA:au):Prop where
 qAb:mg "NoBase"= some (.ref qA)
 qAf:mg "NoNumber"= some (.ref qB)
 qAc:mg "NoFigures"= some (.ref qE)
 qAh:mg "NoRule"= some (.ref qS)
 qAj:mg "NoStand"= some (.ref qV)
 qAd:mg "NoGood"= some (.ref xA)
 qAa:mg "Endless"= some (.ref xB)
 qAi:mg "NoRules"= some (.ref xC)
 qBa:mg "NoStretch"= some (.ref xD)
 qBc:mg "TooMany"= some (.ref xE)
 qBb:mg "NoText"= some (.ref xI)
 qAe:mg "NoName"= some (.ref xS)
 qAg:mg "NoRow"= some (.ref yA)
structure Qq (K:aK) (C qA qB qE qS qV xA xB xC xD xE xI xS yA:au) (k:Nat):Prop where
 i:zbQ K C
 v:cJ K (.ref C) (.type "ValueError")=some true
 k0:cJ K (.ref C) (.ref qA)=some (decide (0=k))
 k1:cJ K (.ref C) (.ref qB)=some (decide (1=k))
 k2:cJ K (.ref C) (.ref qE)=some (decide (2=k))
 k3:cJ K (.ref C) (.ref qS)=some (decide (3=k))
 k4:cJ K (.ref C) (.ref qV)=some (decide (4=k))
 k5:cJ K (.ref C) (.ref xA)=some (decide (5=k))
 k6:cJ K (.ref C) (.ref xB)=some (decide (6=k))
 k7:cJ K (.ref C) (.ref xC)=some (decide (7=k))
 k8:cJ K (.ref C) (.ref xD)=some (decide (8=k))
 k9:cJ K (.ref C) (.ref xE)=some (decide (9=k))
 k10:cJ K (.ref C) (.ref xI)=some (decide (10=k))
 k11:cJ K (.ref C) (.ref xS)=some (decide (11=k))
 k12:cJ K (.ref C) (.ref yA)=some (decide (12=k))
def zaU:List bZ:=["base","number","figures","rule","stand","good","endless","rules","stretch","many","text","name","row"]
theorem Qy:iy "ValueError"= some (.type "ValueError"):=by decide +kernel
section
variable {P:bx} {w:bU} {K:aK} {mg:bZ->Option aD} {base:dj}
def YB(K:aK)(qA qB qE qS qV xA xB xC xD xE xI xS yA:au):Sp:=λvs H Q _=>Ex5 λe C k dk d=>An5 (vs=[.ref e,.str d]) (H e=some (Xy e C)) (Qq K C qA qB qE qS qV xA xB xC xD xE xI xS yA k) (zaU[k]?=some dk) (∀H',Same H H'->Q (.bl (decide (dk=d))) H')
theorem uf:zF ["e","due","kinds","words","found"] ["e","due"] (zx qb):={}
set_option maxHeartbeats 0 in
theorem V5(D:Df K mg "_law_kind" qb Au f fd)(XN:zbT mg qA qB qE qS qV xA xB xC xD xE xI xS yA)(qCe:mg "ValueError"= none)(T:Blt mg)(U:Vk mg):FnOk P w K mg base CX0 1 f fd Au (YB K qA qB qE qS qV xA xB xC xD xE xI xS yA):=by
 obtain⟨ab,ac,ad,ae,af,ag,ah,ai,aj,ak,al,am,an⟩:=XN;refine D.fn.ok uf (λvs H Q E h=>?_) (λcdv A outer s H vs Q E hr h=>?_)
 ·obtain⟨e,C,k,p,d,rfl,_⟩:=h;rfl
 ·obtain⟨e,C,k,p,d,rfl,hE,c,hd,kk⟩:=h;have g:=hE;have HU:=Yr hr;have hk:k<13:=(aV.mp hd).1;refine⟨_,(zm (zE (i:=2) uf.nd rfl (bf rfl) (zY (zf (zA (ql K) (by rfl) T.n_isinstance bD (zf (pv 0) (zf (wu (v:=.ref qA) rfl ab rfl) zg))) (zf (zA (ql K) (by rfl) T.n_isinstance bD (zf (pv 0) (zf (wu (v:=.ref qB) rfl ac rfl) zg))) (zf (zA (ql K) (by rfl) T.n_isinstance bD (zf (pv 0) (zf (wu (v:=.ref qE) rfl ad rfl) zg))) (zf (zA (ql K) (by rfl) T.n_isinstance bD (zf (pv 0) (zf (wu (v:=.ref qS) rfl ae rfl) zg))) zg))))))
   (zm (zE (i:=2) uf.nd rfl (bf rfl) (zP uB (pv 2) (zY (zf (zA (ql K) (by rfl) T.n_isinstance bD (zf (pv 0) (zf (wu (v:=.ref qV) rfl af rfl) zg))) (zf (zA (ql K) (by rfl) T.n_isinstance bD (zf (pv 0) (zf (wu (v:=.ref xA) rfl ag rfl) zg))) (zf (zA (ql K) (by rfl) T.n_isinstance bD (zf (pv 0) (zf (wu (v:=.ref xB) rfl ah rfl) zg))) (zf (zA (ql K) (by rfl) T.n_isinstance bD (zf (pv 0) (zf (wu (v:=.ref xC) rfl ai rfl) zg))) zg)))))))
   (zm (zE (i:=2) uf.nd rfl (bf rfl) (zP uB (pv 2) (zY (zf (zA (ql K) (by rfl) T.n_isinstance bD (zf (pv 0) (zf (wu (v:=.ref xD) rfl aj rfl) zg))) (zf (zA (ql K) (by rfl) T.n_isinstance bD (zf (pv 0) (zf (wu (v:=.ref xE) rfl ak rfl) zg))) (zf (zA (ql K) (by rfl) T.n_isinstance bD (zf (pv 0) (zf (wu (v:=.ref xI) rfl al rfl) zg))) zg))))))
   (zfJ (zE (i:=2) uf.nd rfl (bf rfl) (zP uB (pv 2) (zY (zf (zA (ql K) (by rfl) T.n_isinstance bD (zf (pv 0) (zf (wu (v:=.ref xS) rfl am rfl) zg))) (zf (zA (ql K) (by rfl) T.n_isinstance bD (zf (pv 0) (zf (wu (v:=.ref yA) rfl an rfl) zg))) zg)))))
   (zgl (i:=3) uf.nd rfl (bf rfl) (uL (uL (uL (uL (uL (uL (uL (uL (uL (uL (uL ZS)))))))))))
   (zm (zcs (i:=4) (show CScopeT (zx qb) _ ["word","kind"] ["e","due","kinds","words","found"] [] [] from {}) rfl uf.nd rfl (bf rfl) (zik K rfl U.n_zip (zf (zP uB (pv 3) (zY (zdH (zdH zg)))) (zf (pv 2) zg))) (λ_ _ _ _=>(zgm K 2 rfl (xW (zX (i:=0) (show Eh (α:=bZ) ["word","kind"] by decide) rfl (.inl (cL rfl)) (.inr (cL rfl))) (xW (zX (i:=1) (show Eh (α:=bZ) ["word","kind"] by decide) rfl (.inl (cL rfl)) (.inr (cL rfl))) ZK)))) (λ_ _ _ _=>(uA (xx (pv 1)))) (λ_ _ _ _=>(pv 0)))
   (zu (zG (uU (zA (ql K) (by rfl) T.n_isinstance bD (zf (pv 0) (zf (xM (v:=.ty "ValueError") rfl qCe Qy rfl) zg))) (qH (xK (Wz K HU) (pv 4) (zY (zf (pv 1) zg)) (zM _)))))))))))),?_⟩
  refine⟨_,rfl,e,C,_,_,_,rfl,rfl,(λ_ h=>h),g,c.i,c.k0,_,rfl,e,C,_,_,_,rfl,rfl,(λ_ h=>h),g,c.i,c.k1,_,rfl,e,C,_,_,_,rfl,rfl,(λ_ h=>h),g,c.i,c.k2,_,rfl,e,C,_,_,_,rfl,rfl,(λ_ h=>h),g,c.i,c.k3,(by show 4<=aA;decide),λl0 ap=>?_⟩;generalize t:upd _ l0 _=G0;obtain⟨m0,h0⟩:=zau ap t;have g:=m0 _ _ g;refine⟨_,rfl,_,rfl,e,C,_,_,_,rfl,rfl,(λ_ h=>h),g,c.i,c.k4,_,rfl,e,C,_,_,_,rfl,rfl,(λ_ h=>h),g,c.i,c.k5,_,rfl,e,C,_,_,_,rfl,rfl,(λ_ h=>h),g,c.i,c.k6,_,rfl,e,C,_,_,_,rfl,rfl,(λ_ h=>h),g,c.i,c.k7,(by show 4<=aA;decide),λa1 aq=>?_⟩;generalize u:upd _ a1 _=A1;obtain⟨n1,i1⟩:=zau aq u;refine⟨l0,a1,_,_,rfl,rfl,n1 _ _ h0,i1,(by show 4+4<=aA;decide),λl1 as=>?_⟩;generalize z:upd _ l1 _=G1;obtain⟨m1,h1⟩:=zau as z;have g:=m1 _ _ (n1 _ _ g);refine⟨_,rfl,_,rfl,e,C,_,_,_,rfl,rfl,(λ_ h=>h),g,c.i,c.k8,_,rfl,e,C,_,_,_,rfl,rfl,(λ_ h=>h),g,c.i,c.k9,_,rfl,e,C,_,_,_,rfl,rfl,(λ_ h=>h),g,c.i,c.k10,(by show 3<=aA;decide),λa2 au=>?_⟩;generalize B:upd _ a2 _=A2;obtain⟨n2,i2⟩:=zau au B;refine⟨l1,a2,_,_,rfl,rfl,n2 _ _ h1,i2,(by show 8+3<=aA;decide),λl2 aw=>?_⟩;generalize F:upd _ l2 _=G2;obtain⟨m2,h2⟩:=zau aw F;have g:=m2 _ _ (n2 _ _ g);refine⟨_,rfl,_,rfl,e,C,_,_,_,rfl,rfl,(λ_ h=>h),g,c.i,c.k11,_,rfl,e,C,_,_,_,rfl,rfl,(λ_ h=>h),g,c.i,c.k12,(by show 2<=aA;decide),λa3 ax=>?_⟩;generalize G:upd _ a3 _=A3;obtain⟨n3,i3⟩:=zau ax G;refine⟨l2,a3,_,_,rfl,rfl,n3 _ _ h2,i3,(by show 11+2<=aA;decide),λY ay=>?_⟩;generalize I:upd _ Y _=G3;obtain⟨m3,h3⟩:=zau ay I;have m3:=m0.trans (n1.trans (m1.trans (n2.trans (m2.trans (n3.trans m3)))));clear t u z B F G I;refine⟨(by show 11<=aA;decide),λwl ba=>?_⟩;generalize J:upd _ wl _=G4;obtain⟨m4,h4⟩:=zau ba J;refine⟨_,rfl,(by show 2<=aA;decide),λw2 bb=>?_⟩;generalize L:upd _ w2 _=G5;obtain⟨n5,h5⟩:=zau bb L;refine⟨wl,w2,_,_,rfl,rfl,n5 _ _ h4,h5,(by show 11+2<=aA;decide),λZ bc=>?_⟩;generalize M:upd _ Z _=G6;obtain⟨n6,h6⟩:=zau bc M;have n6:=m4.trans (n5.trans n6);have m6:=m3.trans n6;have N:G6 Y=some (.lst ((bJ 13).map λj=>V.bl (decide (j=k)))):=n6 _ _ h3;have l:G6 Z=some (.lst (zaU.map V.str)):=h6;clear J L M h3 h6;refine⟨_,rfl,Z,Y,rfl,⟨_,SqL.of l⟩,⟨_,SqL.of N⟩,zfm (K:=K) (a:=Z) (b:=Y) (xs:=zaU.map V.str) (ys:=(bJ 13).map λj=>V.bl (decide (j=k))) (λi O R=>O=(if k<i then [V.str p] else [])/\Same G6 R) rfl ⟨by rw[if_neg (by omega)],Same.refl _⟩ (λi O R _ ⟨_,r⟩=>⟨SqL.of (r _ _ l),SqL.of (r _ _ N)⟩) ?_ (λi O R _ ⟨e,_⟩=>by rw[e];split;exact (by decide:1<aA);exact (by decide:0<aA)) ?_⟩
  ·rintro i x y O R Tp hx hy ⟨rfl,r⟩ hT;rw[ao]at hx hy;obtain⟨wd,S,e1⟩:=aY.mp hx;obtain⟨j,hj,e2⟩:=aY.mp hy;have ej:j=i:=by
    have q:=aV.mp hj;obtain⟨_,q⟩:=q;rw[Ea]at q;exact q.symm
   subst e1 e2 ej;have m:=r.trans (zp hT (o:=.tup [V.str wd,V.bl (decide (j=k))]));refine⟨Tp,_,rfl,SqT.of zj,rfl,_,_,rfl,_,_,rfl,rfl,⟨[some (.str wd),some (.bl (decide (j=k)))],rfl,rfl⟩,?_⟩;refine⟨_,rfl,_,rfl,?_⟩;by_cases n:j=k
   ·rw[decide_eq_true n]at m ⊢;refine yz ⟨_,rfl,?_,m⟩;subst n;rw[hd]at S;cases S
    rw[if_neg (by omega),if_pos (by omega)];rfl
   ·rw[decide_eq_false n]at m ⊢;refine yG ⟨?_,m⟩;by_cases W:k<j
    ·rw[if_pos W,if_pos (by omega)]
    ·rw[if_neg W,if_neg (by omega)]
  rintro O R ⟨rfl,r⟩ fd be;rw[if_pos (show k<(zaU.map V.str).length from hk)];have m:=m6.trans (r.trans (zp be (o:=.lst [V.str p])));refine⟨_,rfl,e,C,_,_,_,rfl,rfl,(λ_ h=>h),m _ _ hE,c.i,c.v,_,rfl,yz ?_⟩;refine⟨_,rfl,_,rfl,(by show 1<=aA;decide),λdl X=>?_⟩;refine⟨.lst [.str p],.lst [.str d],?_,?_,(by simp[vP,wA]),?_⟩
  ·rw[TrAt];exact⟨fd,_,rfl,SqL.of (zp X _ _ zj),by rw[TrsAt];exact⟨_,_,rfl,by rw[TrAt],by rw[TrsAt]⟩⟩
  ·rw[TrAt];exact⟨dl,_,rfl,SqL.of zj,by rw[TrsAt];exact⟨_,_,rfl,by rw[TrAt],by rw[TrsAt]⟩⟩
  have et:teq (.lst [.str p]) (.lst [.str d])=decide (p=d):=by
   simp only[teq,jM,rN];rw[cH,beq_iff_eq,decide_eq_true_iff]
  have q:=kk _ (m.trans (zp X (o:=.lst [V.str d])));rw[<-et]at q;exact q
end
theorem ClrK.put(q:ClrK c H k tl sa la bl zs)(h1:la≠t)(h2:sa≠t):ClrK c (upd H t o) k tl sa la bl zs:=⟨q.nk,q.ntl,q.nsa,q.nla,q.nbl,q.nz,λa b=>q.rla a (by rwa[zy h1]at b),λa b=>q.rsa a (by rwa[zy h2]at b)⟩
theorem KQ.lay(h:KQ T0 C CK H k la b bd zs ok Q)(hk:∀l,ok' l->ok l)(m:∀(p:au) (x y:Nat) H',H p=none->H' p=some (.tup [.int x,.int y])->(∀c o,H' c=none->Q (.ref p) (upd H' c o))->Q' (.ref p) H'):KQ T0 C CK H k la b bd zs ok' Q':=λp a f g i j n L2 H' A B q D E F G I J r t=>m _ _ _ _ A B λc o v=>by
 have s:=zp v (o:=o);obtain⟨_,K⟩:=q.sas;obtain⟨_,L⟩:=q.las;exact h p a f g i j n L2 _ A (s _ _ B) (q.same s) (hk _ D) (λd u w z M e=>s _ _ (E d u w z M e)) (F.same s) G I J r λd u e w z=>(t d u e w z).put (zz L v) (zz K v)
section
variable {P:bx} {w:bU} {K:aK} {mg:bZ->Option aD} {base:dj} {T0 C CK:au}
theorem Qk:cJ K (.type "str") (.type "str")=some true:=X5 (by decide +kernel) (by decide +kernel) (λ_=>rfl)
theorem Z1:cJ K (.type "tuple") (.type "str")=some false:=X5 (by decide +kernel) (by decide +kernel) (λe=>absurd e (by decide))
def ZX(T0 C CK:au):Sp:=λvs H Q _=>Ex6 λk tl sa la b bd=>Ex6 λ(bl:au) (zs:ZB) (ws:ZA) (L:Nat) (t:au) (door:Nat)=>Ex3 λu d dv=>An9 (vs=[.ref k,.ref t,dv]) (KpAt C CK H k tl sa la b bd bl zs ws L) (bd<2^900) (LT T0 H) (H t=some (.tup [.int door,u])) (door<=1) (ThAt H d u) (jG d<=100000) ((∀x,Xf b (zs.map (·.2)) d door=some x->dv=.str x/\∀H',Same H H'->Q (.str x) H')/\(Xf b (zs.map (·.2)) d door=none->KQ T0 C CK H k la b bd zs (DueL door (zs.map (·.2)) (xX d)) Q))
theorem vI:zF ["keeper","deed","due","caught","found","e"] ["keeper","deed","due"] (zx vf):={}
set_option maxHeartbeats 0 in
theorem zar(D:Df K mg "_law_asked" vf Bd f fd)(MKeeper_come:Mt K CK "Keeper.come" "come" uo Ah f1 fd1)(GKeeper_comeX:FnOk P w K mg base (CX1 P w) 10 f1 fd1 Ah (zcg T0 C CK xD xE))(MKeeper_go:Mt K CK "Keeper.go" "go" tX Ah f2 fd2)(GKeeper_goX:FnOk P w K mg base (CX1 P w) 10 f2 fd2 Ah (zfN T0 C CK xD))(cKeeper:ClK K mg CK)(uE:Df K mg "_law_kind" qb Au f6 fd6)(XN:zbT mg qA qB qE qS qV xA xB xC xD xE xI xS yA)(qCe:mg "ValueError"= none)(qBd:zbA K mg "LackError" yB)(qBi:CQ K (.ref xD) (.ref yB)=some true)(qBj:CQ K (.ref xE) (.ref yB)=some true)(qBg:Qq K xD qA qB qE qS qV xA xB xC xD xE xI xS yA 8)(qBh:Qq K xE qA qB qE qS qV xA xB xC xD xE xI xS yA 9)(T:Blt mg)(U:Vk mg):FnOk P w K mg base CX0 11 f fd Bd (ZX T0 C CK):=by
 have Vh:FnOk P w K mg base CX0 1 f6 fd6 Au (YB K qA qB qE qS qV xA xB xC xD xE xI xS yA):=V5 uE XN qCe T U;refine D.fn.ok vI (λvs H Q E h=>?_) (λcdv A outer s H vs Q E W h=>?_)
 ·obtain⟨k,Y,Z,la,b,bd,bl,B,ws,L,t,a,u,d,dv,rfl,_⟩:=h;rfl
 ·obtain⟨k,Y,Z,la,b,bd,bl,B,ws,L,t,a,u,d,dv,rfl,KA,N,hT,ht,h1,hd,hs,kR,kO⟩:=h;have HU:=Yr W;obtain⟨dx,hk⟩:=KA.ob;have hl:(B.map (·.2)).length=B.length:=aa _;refine yW ?_;intro X;let q1:Sq X ((zq vf).drop 4):=⟨_,zu (zG (zQ (yt K) (zY (zf jE (zf (pv 2) zg))) (yU qP (by rfl) T.n_int mZ (zf (uU (zA (tZ K) (by rfl) T.n_isinstance bD (zf (pv 2) (zf (xM (v:=.ty "str") rfl U.n_str Lh rfl) zg))) (qH (zL uE Vh (W.mono (by decide)) (zf (pv 3) (zf (pv 2) zg))))) zg)) (λ_ _=>rfl)))⟩
  let F:Sq X ((zq vf).drop 3):=⟨_,zm (yw (zK Uu (pv 3) yQ (zM _))
    (zu (zG (zQ (yt K) (zY (zf (pv 4) (zf jE zg))) (yU qP (by rfl) T.n_int mZ (zf (zA (tZ K) (by rfl) T.n_isinstance bD (zf (pv 4) (zf (xM (v:=.ty "str") rfl U.n_str Lh rfl) zg))) zg)) (λ_ _=>rfl))))
    zR) q1.p⟩
  let q3:Sq X ((zq vf).drop 2):=⟨_,zm (zda (i:=5) qBd rfl rfl vI.nd rfl rfl (λ_ _ _ hS=>
    (zu (yw (zK XR (zQ (wz K) (pv 1) zr (λ_ _=>rfl)) zr (zM _))
     (zu (zE (i:=4) vI.nd rfl (bf rfl) (zd6 MKeeper_come cKeeper.cl GKeeper_comeX (W.mono (by decide)) hS (pv 0) (zf (zQ (wz K) (pv 1) zr (λ_ _=>rfl)) zg))))
     (zu (zE (i:=4) vI.nd rfl (bf rfl) (zd6 MKeeper_go cKeeper.cl GKeeper_goX (W.mono (by decide)) hS (pv 0) (zf (zQ (wz K) (pv 1) zr (λ_ _=>rfl)) zg))))))) (λ_=>
    (zu (zE (i:=3) vI.nd rfl (bf rfl) (pv 5))))) F.p⟩
  let q4:Sq X ((zq vf).drop 1):=⟨_,zm (zE (i:=4) vI.nd rfl (bf rfl) yQ) q3.p⟩
  refine⟨_,(zm (zE (i:=3) vI.nd rfl (bf rfl) yQ) q4.p),?_⟩;have eX:∀(x r:au) (j:Nat) (e:bZ) (n:Hp),Xf b (B.map (·.2)) d a=some e->Qq K r qA qB qE qS qV xA xB xC xD xE xI xS yA j->zaU[j]?=some e->Same H n->n x=none->∃(C:au) (j:Nat) (e:bZ),upd n x (Xy x r) x=some (Xy x C)/\Qq K C qA qB qE qS qV xA xB xC xD xE xI xS yA j/\zaU[j]?=some e/\Same H (upd n x (Xy x r))/\Xf b (B.map (·.2)) d a=some e:=λx r j e n q O R m G=>⟨r,j,e,zj,O,R,m.trans (zp G),q⟩
  have i0:∀{n:Hp},Same H n->SqT K n t [.int a,u]:=λm=>SqT.of (m _ _ ht);have i1:=i0 (Same.refl _);refine⟨_,rfl,t,_,_,_,rfl,rfl,i1,rfl,rfl,_,rfl,?_⟩;rcases (show a=0\/a=1 by omega) with rfl | rfl
  case' inl=>
   refine zjf (decide_eq_true rfl) ⟨_,rfl,k,dx,_,rfl,hk,uZ _ _ _ _,_,rfl,t,_,_,_,rfl,rfl,i1,rfl,k,Y,Z,la,b,bd,bl,B,ws,L,u,d,rfl,KA,N,hT,hd,hs,λq=>⟨_,rfl,qBj,λx G=>?m0⟩,λq F n m=>⟨_,rfl,qBi,λx G=>?s0⟩,λq F q3=>(kO (Je (by rw[hl];exact q) F q3)).lay (λl S=>⟨λ_=>S,λz=>absurd z (by decide)⟩) λp x y H' S hv V=>?k0⟩
  case' inr=>
   refine zi9 (Q0 (by decide)) ⟨_,rfl,k,dx,_,rfl,hk,uZ _ _ _ _,_,rfl,t,_,_,_,rfl,rfl,i1,rfl,k,Y,Z,la,b,bd,bl,B,ws,L,u,d,rfl,KA,N,hT,hd,hs,λq n m=>⟨_,rfl,qBi,λx G=>?s1⟩,λq F=>(kO (zcy q F)).lay (λl S=>⟨λz=>absurd z (by decide),λ_=>S⟩) λp x y H' S hv V=>?k1⟩
  case' m0=>
   obtain⟨r,j,e,J,O,R,M,hq⟩:=eX x _ 9 "many" H (za0 (by rw[hl];exact q)) qBh rfl (Same.refl _) G;generalize upd H x (Xy x xE)=H2 at J M
  case' s0=>
   obtain⟨r,j,e,J,O,R,M,hq⟩:=eX x _ 8 "stretch" n (za4 (by rw[hl];exact q) F) qBg rfl m G;generalize upd n x (Xy x xD)=H2 at J M
  case' s1=>
   obtain⟨r,j,e,J,O,R,M,hq⟩:=eX x _ 8 "stretch" n (zea q) qBg rfl m G;generalize upd n x (Xy x xD)=H2 at J M
  case k0=>
   refine⟨_,rfl,rfl,_,rfl,yz ?_⟩;refine⟨_,rfl,(by show 2<=aA;decide),λI g=>?_⟩;refine⟨_,rfl,_,_,_,_,rfl,.tup (zp g _ _ hv),Z1,.inr ⟨_,rfl,?_⟩⟩;exact⟨I,_,_,.ref p,rfl,rfl,SqL.of zj,rfl,V I _ g⟩
  case k1=>
   refine⟨_,rfl,rfl,_,rfl,yz ?_⟩;refine⟨_,rfl,(by show 2<=aA;decide),λI g=>?_⟩;refine⟨_,rfl,_,_,_,_,rfl,.tup (zp g _ _ hv),Z1,.inr ⟨_,rfl,?_⟩⟩;exact⟨I,_,_,.ref p,rfl,rfl,SqL.of zj,rfl,V I _ g⟩
  all_goals
   obtain⟨rfl,V⟩:=kR e hq;refine⟨_,rfl,_,rfl,rfl,_,rfl,yG ?_⟩;refine⟨_,rfl,(by show 2<=aA;decide),λI g=>?_⟩;have m3:=zp g (o:=.lst [.str "other",.str e]);refine⟨_,rfl,_,_,_,_,rfl,.str _,Qk,_,rfl,yz ?_⟩;refine⟨_,rfl,_,rfl,x,r,j,e,e,rfl,m3 _ _ J,O,R,λH3 m4=>.inr ⟨_,rfl,?_⟩⟩;rw[decide_eq_true rfl,if_pos rfl];exact⟨I,_,_,.str e,rfl,rfl,SqL.of (m4 _ _ zj),rfl,V _ ((M.trans m3).trans m4)⟩
end
def tot(p:Nat->Bool)(f:Nat->Nat):Nat->Nat
 |0=>0
 |n+1=>tot p f n+(if p n=true then f n else 0)
def tt(ls:ZA)(b:Nat)(w:Nat->Nat)(sc:Nat):Nat->List Int->Nat
 |0,_=>0
 |t+1,x=>((bJ b).map λ(c:Nat)=>if lacks ls (x++[(c:Int)])=true then sc^t*w c*cnt ls b t (zW ls (x++[(c:Int)]))+tt ls b w sc t (zW ls (x++[(c:Int)])) else 0).sum
theorem zhX(h:many p A<many p B):∃g,p g=true/\A<=g/\g<B:=by
 have a:A<=B:=by
  by_cases z:A<=B
  ·exact z
  ·have:=uq p (show B<=A by omega);omega
 obtain⟨k,rfl⟩:=sI a;rw[Zj]at h;obtain⟨n,hn,b⟩:=zcn (N:=k) (p:=λn=>p (A+n)) (by omega);exact⟨A+n,b,by omega,by omega⟩
def End(ls:ZA)(b:Nat):Prop:=∀L:Nat,∃g,gd ls b g=true/\b^L<=g/\g<b^(L+1)
theorem zfe(h2:2<=b)(h:b^k<=g):k<(figs b g).length:=by
 obtain⟨j,a,c⟩:=zb2 h2 g;rw[UV h2 a c];have:b^k<b^(j+1):=aR h a;exact (Nat.pow_lt_pow_iff_right (show 1<b by omega)).mp this
theorem ziu(ne:∀l∈ls,l≠[])(SL:StandsL ls ws)(h2:2<=b)(hg:gd ls b g=true)(h:b^k<=g)(hk:ws.length<=k):End ls b:=λL=>
 zfT ne SL h2 hg (aO (gH (by omega)) h) (aR hk (zfe h2 h)) L
theorem zir(h:End ls b)(k:Nat):many (gd ls b) (b^k)<many (gd ls b) (b^(k+1)):=by
 obtain⟨g,a,c,d⟩:=h k;exact aR (uq _ c) (QD _ d a)
theorem zfZ(ne:∀l∈ls,l≠[])(SL:StandsL ls ws)(h2:2<=b)(h:xU ls b ws.length<xU ls b (ws.length+1)):End ls b:=by
 rw[xQ ne h2,xQ ne h2]at h;obtain⟨g,a,c,_⟩:=zhX h;exact ziu ne SL h2 a c (aq _)
def aft(ls:ZA)(x:List Int)(f:Int):Option (List Int):=if lacks ls (x++[f])=true then some (zW ls (x++[f])) else none
def ends(fs:List Int):ZA:=(bJ (fs.length+1)).map fs.drop
theorem zfi(fs:List Int):((ends fs).filter (tG ls)++[[]]).head?=some (zW ls fs):=by
 obtain⟨j,h1,a,b,d⟩:=Zk fs;rw[List.head?_append,List.head?_filter];unfold ends;rw[List.find?_map];by_cases f:j<fs.length
 ·have:(bJ (fs.length+1)).find? (tG ls ∘ fs.drop)=some j:=by
   rw[rR];refine⟨d f,cI.mpr (by omega),λk g=>?_⟩;show (!tG ls (fs.drop k))=true;rw[b k g];rfl
  rw[this,a];rfl
 ·have h:j=fs.length:=by omega
  subst h;rw[FJ]at a;rw[a];cases e:(bJ (fs.length+1)).find? (tG ls ∘ fs.drop) with
  |none=>rfl
  |some i=>
   rw[rR]at e;obtain⟨l,c,_⟩:=e;have c:=cI.mp c;by_cases m:i<fs.length
   ·have:=b i m;rw[show tG ls (fs.drop i)=true from l]at this;cases this
   ·have:i=fs.length:=by omega
    rw[this];simp
theorem zhv(ne:∀l∈ls,l≠[])(f:Int)(h:lacks ls x=true):(∃e∈ends (x++[f]),e∈ls)↔lacks ls (x++[f])=false:=by
 constructor
 ·rintro⟨e,n,m⟩;obtain⟨i,_,rfl⟩:=aQ.mp n;have:=zdw m (ne _ m) ((x++[f]).take i);rwa[nG]at this
 ·intro g;obtain⟨a,b,o⟩:∃a∈ls,Wo a (x++[f])=true:=by
   unfold lacks at g;have g:(ls.any λa=>Wo a (x++[f]))=true:=by simpa using g
   exact cX.mp g
  obtain⟨k,c⟩:=(uX (ne a b)).mp o;have d:=congrArg cB c;rw[bA,bR,aF,aX]at d;have hpos:=cT.mpr (ne a b);by_cases hx:k+a.length<=x.length
  ·exfalso;have:Wo a x=true:=by
    rw[uX (ne a b)];refine⟨k,?_⟩;rw[cR (by omega),iw (by rw[bR];omega)]at c;exact c
   unfold lacks at h;have h:(ls.any λa=>Wo a x)=false:=by simpa using h
   rw[fu]at h;exact h a b this
  ·refine⟨(x++[f]).drop k,aQ.mpr ⟨k,cI.mpr (by rw[aF,aX];omega),rfl⟩,?_⟩;rw[bV (by rw[bR,aF,aX];omega)]at c;rw[c];exact b
def zbZ(ls:ZA)(x:List Int)(a n:Nat):List Nat:=((bJ n).map (a+·)).filter λc=>lacks ls (x++[(c:Int)])
def vO(ls:ZA)(b t:Nat)(x:List Int)(a n:Nat):Nat:=((zbZ ls x a n).map λ(c:Nat)=>cnt ls b t (zW ls (x++[(c:Int)]))).sum
theorem zci(ls:ZA)(x:List Int)(a n:Nat):zbZ ls x a (n+1)=zbZ ls x a n++(if lacks ls (x++[((a+n:Nat):Int)])=true then [a+n] else []):=by
 unfold zbZ;rw[dY,aH,fc];congr 1;rw[bC,fG,oh];split<;>rfl
theorem qR(ls:ZA)(b t:Nat)(x:List Int)(a n:Nat):vO ls b t x a (n+1)=vO ls b t x a n+Z9 ls b t (some x) (a+n):=by
 unfold vO;rw[zci,aH,iT];congr 1;show _=if lacks ls (x++[((a+n:Nat):Int)])=true then _ else 0;split<;>simp
theorem qg(ls:ZA)(b t:Nat)(x:List Int):∀n,vO ls b t x 0 n=under ls b t (some x) n
 |0=>rfl
 |n+1=>by rw[qR,qg,Ze,bO]
theorem uI(ls:ZA)(b t:Nat):∀n,xU ls b t+vO ls b t [] 1 n=under ls b t none (n+1)
 |0=>by
  rw[Ze,Vo];show xU ls b t+0=0+(if (0:Nat)=0 then xU ls b t else if lacks ls [((0:Nat):Int)]=true then cnt ls b t (zW ls [((0:Nat):Int)]) else 0)
  rw[if_pos rfl];omega
 |n+1=>by
  rw[qR,<-iW,uI,Ze ls b t none (n+1)];congr 1;show (if lacks ls ([]++[((1+n:Nat):Int)])=true then cnt ls b t (zW ls ([]++[((1+n:Nat):Int)])) else 0)=if n+1=0 then xU ls b t else if lacks ls [((n+1:Nat):Int)]=true then cnt ls b t (zW ls [((n+1:Nat):Int)]) else 0;rw[if_neg (by omega:¬ n+1=0),pq 1 n];rfl
def jx(ls:ZA)(b t:Nat):Nat:=vO ls b t [] 1 (b-1)
theorem tK(ls:ZA)(h2:2<=b)(t:Nat):xU ls b t+jx ls b t=xU ls b (t+1):=by
 unfold jx;rw[uI,show b-1+1=b by omega,zdR]
theorem QV(ls:ZA){b:Nat}(h2:2<=b):∀m,(if lacks ls [0]=true then 1 else 0)+((bJ m).map λt=>jx ls b t).sum=xU ls b m
 |0=>rfl
 |m+1=>by
  rw[dY,aH,iT,<-iW,QV ls h2 m,<-tK ls h2 m];simp
def PartN(ls:ZA)(b n L k:Nat)(o:Option (List Int))(tot:Nat):Prop :=
 (k=0/\o=some []/\tot=xU ls b (L-1))\/(1<=k/\gd ls b (n / b^(L-k))=true/\o=some (zW ls (figs b (n / b^(L-k))))/\tot=many (gd ls b) (n / b^(L-k)*b^(L-k)))\/(1<=k/\o=none/\tot=many (gd ls b) n)
theorem PartN.rep{tot:Nat}(h2:2<=b)(hn:0<n)(hL:(figs b n).length=L)(hk:k<L)(p:PartN ls b n L k (some x) tot):
  ∃o,Rep ls b (n / b^(L-k)) o/\((k=0/\x=[]/\o=none/\tot=xU ls b (L-1))\/(1<=k/\o=some x/\tot=many (gd ls b) (n / b^(L-k)*b^(L-k)))):=by
 rcases p with ⟨rfl,e,t⟩ | ⟨a,g,e,t⟩ | ⟨a,e,_⟩
 ·cases e;have:n / b^(L-0)=0:=dM (jn h2 hL)
  exact⟨none,.inl ⟨this,rfl⟩,.inl ⟨rfl,rfl,rfl,t⟩⟩
 ·cases e;refine⟨_,.inr ⟨?_,g,rfl⟩,.inr ⟨a,rfl,t⟩⟩
  have c:=(XJ (k:=L-1) h2).mp (by rw[hL];omega);have d:0<b^(L-k):=gH (by omega);have:b^(L-k)<=n:=by
   rcases c.2 with z | z
   ·omega
   ·exact aB (cM (by omega) (by omega)) z
  exact rE this d
 ·cases e
theorem PartN.next(ne:∀l∈ls,l≠[]){tot:Nat}(h2:2<=b)(hn:0<n)(hL:(figs b n).length=L)(hk:k<L)(p:PartN ls b n L k (some x) tot){c:Nat}(hc:(figs b n)[k]?=some (c:Int)):
  c<b/\(k=0->1<=c)/\PartN ls b n L (k+1) (aft ls x c) (tot+vO ls b (L-1-k) x (if k=0 then 1 else 0) (c-(if k=0 then 1 else 0))):=by
 have D:c=(n / b^(L-1-k)) % b:=by
  rw[zcJ h2 hL hk]at hc;have hc:((n / b^(L-1-k) % b:Nat))=(c:Int):=by simpa using hc
  omega
 have i:c<b:=by rw[D];exact mz _ (by omega)
 have E:L-k=L-1-k+1:=by omega
 have a:n / b^(L-1-k)=n / b^(L-k)*b+c:=by rw[E,D];exact zcz (by omega)
 obtain⟨o,R,j⟩:=p.rep h2 hn hL hk;have v:=ue ne h2 R (L-1-k) (s:=c) (by omega);rw[<-E,<-a]at v;have d:c≠0\/k≠0:=by
  by_cases m:k=0
  ·left;intro y;have I:=(XJ (k:=L-1) h2).mp (by rw[hL];omega);have z:n / b^(L-k)=0:=by rw[m];exact dM (jn h2 hL)
   rw[z,y,m]at a;have A:n<b^(L-1):=by
    have hp:0<b^(L-1):=gH (by omega);have:n / b^(L-1)=0:=by simpa using a
    rcases Nat.div_eq_zero_iff.mp this with q | q
    ·omega
    ·exact q
   rcases I.2 with q | q
   ·rw[q,fZ]at A;omega
   ·omega
  ·exact .inr m
 have B:1<=n / b^(L-1-k):=by
  rcases j with ⟨rfl,_,_,_⟩ | ⟨F,rfl,_⟩
  ·rw[a];rcases d with q | q
   ·omega
   ·exact absurd rfl q
  ·rcases R with ⟨_,z⟩ | ⟨z,_⟩
   ·cases z
   ·rw[a];exact zc1 h2 z
 refine⟨i,λz=>by rcases d with q | q;omega;exact absurd z q,?_⟩;have t:tot+vO ls b (L-1-k) x (if k=0 then 1 else 0) (c-(if k=0 then 1 else 0))=many (gd ls b) (n / b^(L-1-k)*b^(L-1-k)):=by
  rcases j with ⟨rfl,rfl,rfl,rfl⟩ | ⟨F,rfl,rfl⟩
  ·rw[if_pos rfl];have q:=uI ls b (L-1) (c-1);have hc1:1<=c:=by rcases d with q | q;omega;exact absurd rfl q
   rw[show c-1+1=c by omega]at q;have J:L-1-0=L-1:=cZ _;rw[J]at v ⊢;rw[q,<-v];have z:n / b^(L-0)=0:=dM (jn h2 hL);rw[z,c7];simp[many]
  ·rw[if_neg (by omega),cZ,qg,v]
 rw[t];have C:L-(k+1)=L-1-k:=by omega
 have u:(lacks ls (x++[(c:Int)])=true->gd ls b (n / b^(L-1-k))=true/\zW ls (x++[(c:Int)])=zW ls (figs b (n / b^(L-1-k))))/\(lacks ls (x++[(c:Int)])=false->gd ls b (n / b^(L-1-k))=false):=by
  rcases j with ⟨rfl,rfl,rfl,_⟩ | ⟨F,rfl,_⟩
  ·have z:n / b^(L-0)=0:=dM (jn h2 hL);rw[z,c7,bO]at a;rw[a];unfold gd;rw[uv i];exact⟨λh=>⟨h,rfl⟩,λh=>h⟩
  ·rcases R with ⟨_,z⟩ | ⟨K,G,M⟩
   ·cases z
   ·cases M;rw[a]
    unfold gd at G ⊢;rw[tV h2 K i,<-tR ne c G,tM];exact⟨λh=>⟨h,rfl⟩,λh=>h⟩
 unfold aft;cases hl:lacks ls (x++[(c:Int)]) with
 |true=>
  obtain⟨g,e⟩:=u.1 hl;rw[if_pos rfl];exact .inr (.inl ⟨by omega,by rw[C];exact g,by rw[C,e],by rw[C]⟩)
 |false=>
  have g:=u.2 hl;refine .inr (.inr ⟨by omega,rfl,?_⟩);have H:=zdf ne h2 B g (L-1-k) (r:=n % b^(L-1-k)) (iz (mz _ (gH (by omega))));have N:n / b^(L-1-k)*b^(L-1-k)+n % b^(L-1-k)=n:=by rw[fD];exact mj n _
  rw[N]at H;exact H.symm
theorem PartN.done{tot:Nat}(hL:1<=L)(p:PartN ls b n L L o tot):tot=many (gd ls b) n:=by
 rcases p with ⟨z,_⟩ | ⟨_,_,_,t⟩ | ⟨_,_,t⟩
 ·omega
 ·rw[t,gJ,fZ,Lg,oM]
 ·exact t
def NthN(ls:ZA)(b K L k:Nat)(x:List Int)(m rem:Nat):Prop :=
 (k=0/\x=[]/\m=0/\rem+xU ls b (L-1)=K/\rem<jx ls b (L-1)) \/
 (1<=k/\1<=m/\gd ls b m=true/\x=zW ls (figs b m)/\rem+many (gd ls b) (m*b^(L-k))=K/\rem<cnt ls b (L-k) x)
theorem NthN.total{b K L k:Nat}(h2:2<=b)(hk:k<L)(p:NthN ls b K L k x m rem):rem<vO ls b (L-1-k) x (if k=0 then 1 else 0) (b-(if k=0 then 1 else 0)):=by
 rcases p with ⟨rfl,rfl,_,_,h⟩ | ⟨h1,_,_,_,_,h⟩
 ·rw[if_pos rfl];exact h
 ·rw[if_neg (by omega),cZ,qg,zaI,show L-1-k+1=L-k by omega];exact h
theorem NthN.next(ne:∀l∈ls,l≠[]){b K L k:Nat}(h2:2<=b)(hk:k<L)(p:NthN ls b K L k x m rem)(hc1:(if k=0 then 1 else 0)<=c)(hcb:c<b)(hl:lacks ls (x++[(c:Int)])=true)(hlo:vO ls b (L-1-k) x (if k=0 then 1 else 0) (c-(if k=0 then 1 else 0))<=rem)(hhi:rem-vO ls b (L-1-k) x (if k=0 then 1 else 0) (c-(if k=0 then 1 else 0))<cnt ls b (L-1-k) (zW ls (x++[(c:Int)]))):
  NthN ls b K L (k+1) (zW ls (x++[(c:Int)])) (m*b+c) (rem-vO ls b (L-1-k) x (if k=0 then 1 else 0) (c-(if k=0 then 1 else 0))):=by
 have h:L-(k+1)=L-1-k:=by omega
 rcases p with ⟨rfl,rfl,rfl,i,_⟩ | ⟨h1,d,g,rfl,i,_⟩
 ·rw[if_pos rfl]at *;have q:=uI ls b (L-1) (c-1);rw[show c-1+1=c by omega]at q;have e:=ue ne h2 (.inl ⟨rfl,rfl⟩) (L-1) (s:=c) (by omega);rw[c7,c7,bO]at e;simp only[cZ]at hlo hhi ⊢;have a:L-(0+1)=L-1:=by omega
  have hz:many (gd ls b) 0=0:=rfl;refine .inr ⟨by omega,by omega,?_,?_,?_,?_⟩
  ·unfold gd;rw[c7,bO,uv hcb];exact hl
  ·rw[c7,bO,uv hcb];rfl
  ·rw[a,c7,bO];omega
  ·rw[a];exact hhi
 ·rw[if_neg (by omega)]at *;rw[cZ]at *;rw[qg]at *;have e:=ue ne h2 (.inr ⟨d,g,rfl⟩) (L-1-k) (s:=c) (by omega);rw[show L-1-k+1=L-k by omega]at e;have f:lacks ls (figs b m++[(c:Int)])=true:=by rw[<-tR ne c g];exact hl
  refine .inr ⟨by omega,zc1 h2 d,?_,?_,?_,?_⟩
  ·unfold gd;rw[tV h2 d hcb];exact f
  ·rw[tV h2 d hcb,tM]
  ·rw[h];omega
  ·rw[h];exact hhi
theorem NthN.done{b K L:Nat}(hL:1<=L)(p:NthN ls b K L L x m rem):gd ls b m=true/\many (gd ls b) m=K:=by
 rcases p with ⟨z,_⟩ | ⟨_,_,g,_,c,a⟩
 ·omega
 ·rw[gJ,fZ,oM]at c;rw[gJ]at a;have:rem<1:=a;exact⟨g,by omega⟩
theorem ze4(ne:∀l∈ls,l≠[])(h2:2<=b)(h:jx ls b t=0):∀M,many (gd ls b) M<=xU ls b t:=by
 have m:=tK ls h2 t;rw[h,Bv,xQ ne h2,xQ ne h2]at m;rw[xQ ne h2];have o:∀g,b^t<=g->1<=g->gd ls b g=false:=λg hg a=>by
  cases q:gd ls b g with
  |false=>rfl
  |true=>
   exfalso;obtain⟨k,r,j⟩:=zb2 h2 g;have hkt:t<=k:=by
    by_cases z:t<=k
    ·exact z
    ·have:b^(k+1)<=b^t:=cM (by omega) (by omega);omega
   have d:0<b^(k-t):=gH (by omega);have e:=mj g (b^(k-t));have c:=ziD ne h2 (by
    have:b^(k-t)<=g:=by
     rcases j with z | z
     ·subst z;have:t=0:=by omega
      subst this;simpa using a
     ·exact aB (cM (by omega) (by omega)) z
    exact rE this d) (mz _ d) (by rw[fD,e];exact q)
   have f:b^t<=g / b^(k-t):=by
    rw[Ci d,<-Ga,show t+(k-t)=k by omega];rcases j with z | z
    ·subst z;have:t=0:=by omega
     subst this;simpa using a
    ·exact z
   have i:g / b^(k-t)<b^(t+1):=by
    rw[iY d,<-Ga,show t+1+(k-t)=k+1 by omega];exact r
   have h1:=uq (gd ls b) f;have h3:=QD (gd ls b) i c;omega
 intro M;by_cases s:M<=b^t
 ·exact uq _ s
 ·have hpos:1<=b^t:=gH (by omega);have:=Zj (gd ls b) (b^t) (M-b^t);rw[show b^t+(M-b^t)=M by omega,Wl (p:=λn=>gd ls b (b^t+n)) λn _=>o _ (by omega) (by omega)]at this;omega
section
variable {P:bx} {w:bU} {K:aK} {mg:bZ->Option aD} {base:dj} {C:au}
def j8(C:au):Sp:=λvs H Q _=>Ex5 λp la b ls ws=>Ex2 λ(L:Nat) (t:Nat)=>vs=[.ref p,.int t]/\TailsAt C H p la b ls ws L/\GoodT b ls ws/\L<=1000/\t<1000/\TQ C H p la b ls ws L λL' H'=>L'<=max L (t+1)->Q (.int (xU ls b t:Nat)) H'
theorem Xg:zF ["self","size"] ["self","size"] (zx xY):={}
theorem zad(D:Mt K C "Tails.many_within" "many_within" xY Ap f fd)(vq:Mt K C "Tails.layer" "layer" wD Ar f1 fd1)(yF:Mt K C "Tails.many_by" "many_by" xV An f2 fd2)(zH:ClT K mg C)(T:Blt mg)(U:Vk mg):FnOk P w K mg base CX0 3 f fd Ap (j8 C):=by
 have o:FnOk P w K mg base CX0 2 f1 fd1 Ar (Q8 C):=zdc vq yF zH T U;refine D.fn.ok Xg (λq H Q E h=>?_) (λcdv A outer s H q Q E r h=>?_)
 ·obtain⟨p,l,b,d,m,L,t,rfl,_⟩:=h;rfl
 ·obtain⟨p,l,b,d,m,L,t,rfl,n,G,u,v,x⟩:=h;obtain⟨y,sa,srs,z,h2,h3,h4⟩:=n.ob;have B:=yd _ _ _ _ z;refine⟨_,(zu (zG (zQ (yt K) (qD vq zH.cl o (r.mono (by decide)) (pv 0) (zf (pv 1) zg)) (wV K (pv 0)) (λ_ _=>rfl)))),?_⟩;refine⟨_,rfl,p,y,_,rfl,B,uw _ _ _ _,_,rfl,p,l,b,d,m,L,t,rfl,n,G,u,v,λe F I g a J i M c=>?_⟩;obtain⟨j,sa',srs',k,h2',h3',h4'⟩:=a.ob;refine⟨_,rfl,p,C,j,_,_,rfl,yd _ _ _ _ k,zH.cl,zH.n_outset,qd _ _ _ _,e,_,_,V.int ((xU d b t:Nat)),rfl,rfl,SqL.of (yd _ _ _ _ c),yZ ?_,x F I g a J i M⟩;unfold vW;rw[aH,cQ (by rw[aa,aa];exact aq _),aa,aa,gJ];rfl
def VJ(C:au):Sp:=λvs H Q _=>Ex6 λp la b ls ws L=>Ex3 λ(i:Nat) (k:Nat) (t:Nat)=>An8 (vs=[.ref p,.int i,.int k,.int t]) (TailsAt C H p la b ls ws L) (GoodT b ls ws) (L<=1000) (t<1000) (i<=ws.length) (k<under ls b t ws[i]? b) (∀c:Nat,c<b->under ls b t ws[i]? c<=k->k<under ls b t ws[i]? (c+1)->TQ C H p la b ls ws L λL' H'=>L'<=1000->Q (.int c) H')
theorem tE:zF ["self","place","k","left","figure"] ["self","place","k","left"] (zx xT):={}
theorem zbR(D:Mt K C "Tails.figure_at" "figure_at" xT Be f fd)(yo:Mt K C "Tails.many_under" "many_under" xu Aj f1 fd1)(yu:FnOk P w K mg base CX0 3 f1 fd1 Aj (jm C))(zH:ClT K mg C)(T:Blt mg):FnOk P w K mg base CX0 4 f fd Be (VJ C):=by
 refine D.fn.ok tE (λW H Q E h=>?_) (λcdv A outer s H W Q E X h=>?_)
 ·obtain⟨p,m,b,e,j,L,i,k,t,rfl,_⟩:=h;rfl
 ·obtain⟨p,m,b,e,j,L,i,k,t,rfl,Y,G,hL,ht,hi,hk,kk⟩:=h;refine yW ?_;intro S;let q1:Sq S ((zq xT).drop 2):=⟨_,zu (zG (pv 4))⟩
  let q2:Sq S ((zq xT).drop 1):=⟨_,zm (X6 bK (zK Qi (qD yo zH.cl yu (X.mono (by decide)) (pv 0) (zf (pv 1) (zf (zP wL (pv 4) zr) (zf (pv 3) zg)))) (pv 2) (zM _))
    (zu (zdr (i:=4) tE.nd rfl (bf rfl) zr zf4))) q1.p⟩
  refine⟨_,(zm (zE (i:=4) tE.nd rfl (bf rfl) zr) q2.p),?_⟩;let J1:L2.St->L2.Hp->Prop:=λZ n=>Ex2 λ(c:Nat) l=>An8 (Z=[some (.ref p),some (.int i),some (.int k),some (.int t),some (.int c)]) (c<b) (under e b t j[i]? c<=k) (L<=l) (l<=1000) (TailsAt C n p m b e j l) (Same (aw [m] H) (aw [m] n)) (NR m H n);refine VL J1
   (λZ _=>match Z with | [_,_,_,_,some (.int c)]=>b-c.toNat | _=>0) ⟨0,L,rfl,by have:=G.g.b2;omega,by exact bw _,aq _,hL,Y,Same.refl _,NR.refl _ _⟩ ?_ ?_
  ·rintro Z n ⟨c,l,rfl,hc,hu,hLL,B,o,y,r⟩;obtain⟨F,sa2,I⟩:=o.obj;refine⟨_,rfl,p,F,_,rfl,I,uw _ _ _ _,_,rfl,_,rfl,_,_,rfl,rfl,_,rfl,p,m,b,e,j,l,i,c+1,t,rfl,o,G,B,ht,hi,by omega,λU J hL3 u V v hmx=>?_⟩;refine⟨_,rfl,_,_,rfl,rfl,_,rfl,?_⟩;refine zbz (λx=>?_) (λx=>?_)
   ·have d:under e b t j[i]? (c+1)<=k:=by have:=of_decide_eq_true x;omega
    have M:c+1<b:=by
     by_cases z:c+1<b
     ·exact z
     ·rw[show c+1=b by omega]at d;omega
    refine⟨_,rfl,_,_,rfl,rfl,⟨c+1,U,rfl,M,d,by omega,by omega,u,y.trans V,r.trans y v⟩,?_⟩;show b-((c:Int)+1).toNat<b-(c:Int).toNat;omega
   ·have d:k<under e b t j[i]? (c+1):=by
     by_cases z:k<under e b t j[i]? (c+1)
     ·exact z
     ·exact absurd (decide_eq_true (by omega)) x
    exact⟨_,rfl,kk c hc hu d U J (by omega) u (y.trans V) (r.trans y v) (by omega)⟩
  ·intro Z n Q Q' hq;rintro⟨v0,e0,a,dx,fs,x,h2,h3,v1,e1,v4,e4,i4,j4,e5,e6,v3,e3,p',N,b',O,R,l,i',s',t',g1,g2,g3,g4,g5,g6,g7,g8⟩;exact⟨v0,e0,a,dx,fs,x,h2,h3,v1,e1,v4,e4,i4,j4,e5,e6,v3,e3,p',N,b',O,R,l,i',s',t',g1,g2,g3,g4,g5,g6,g7,λL2 J a1 a2 a3 a4 a5=>by
    obtain⟨v2,e2,i2,j2,e7,e8,k2,e9,q⟩:=g8 L2 J a1 a2 a3 a4 a5;exact⟨v2,e2,i2,j2,e7,e8,k2,e9,hq _ _ q⟩⟩
def Vz(C:au):Sp:=λvs H Q _=>Ex6 λp la b ls ws L=>Ex2 λ(sz:Nat) (k:Nat)=>An7 (vs=[.ref p,.int sz,.int k]) (TailsAt C H p la b ls ws L) (GoodT b ls ws) (L<=1000) (sz<1000) (k<many (gd ls b) (b^sz)) (∀n:Nat,gd ls b n=true->many (gd ls b) n=k->n<b^sz->TQ C H p la b ls ws L λL' H'=>L'<=1000->Q (.int n) H')
theorem yH:zF ["self","size","k","place","n","left","figure"] ["self","size","k"] (zx yq):={}
theorem zbx(D:Mt K C "Tails.number_at" "number_at" yq Bf f fd)(yo:Mt K C "Tails.many_under" "many_under" xu Aj f1 fd1)(yu:FnOk P w K mg base CX0 3 f1 fd1 Aj (jm C))(uQ:Mt K C "Tails.figure_at" "figure_at" xT Be f2 fd2)(qZ:FnOk P w K mg base CX0 4 f2 fd2 Be (VJ C))(zH:ClT K mg C)(T:Blt mg):FnOk P w K mg base CX0 5 f fd Bf (Vz C):=by
 refine D.fn.ok yH (λvs H Q E h=>?_) (λcdv A outer s H vs Q E hr h=>?_)
 ·obtain⟨p,v,b,d,q,L,l,k,rfl,_⟩:=h;rfl
 ·obtain⟨p,v,b,d,q,L,l,k,rfl,TA,G,hL,hsz,hk,kk⟩:=h;have b2:=G.g.b2;have b16:=G.g.b16;obtain⟨ai,sa0,aj⟩:=TA.obj;refine yW ?_;intro J;let q1:Sq J ((zq yq).drop 3):=⟨_,zu (zG (pv 4))⟩
  let q2:Sq J ((sb (zq yq) 2 true).drop 3):=⟨_,zu (zE (i:=4) yH.nd rfl (bf rfl) (zP wL (zP Zc (pv 4) (wV K (pv 0))) (pv 6)))⟩
  let q3:Sq J ((sb (zq yq) 2 true).drop 2):=⟨_,zm (zE (i:=3) yH.nd rfl (bf rfl) (zQ (yt K) (zQ (yt K) (wV K (pv 0)) (pv 3) (λ_ _=>rfl)) (pv 6) (λ_ _=>rfl))) q2.p⟩
  let q4:Sq J ((sb (zq yq) 2 true).drop 1):=⟨_,zm (zdr (i:=2) yH.nd rfl (bf rfl) (qD yo zH.cl yu (hr.mono (by decide)) (pv 0) (zf (pv 3) (zf (pv 6) (zf (pv 5) zg)))) zie) q3.p⟩
  let q5:Sq J ((zq yq).drop 2):=⟨_,zm (wj bK rfl (zaS rfl T.n_range (zf (zP qG (pv 1) zr) (zf (Qg Xk zr) (zf (Qg Xk zr) zg)))) (zX (i:=5) yH.nd rfl (bf rfl))
    (zm (zE (i:=6) yH.nd rfl (bf rfl) (qD uQ zH.cl qZ (hr.mono (by decide)) (pv 0) (zf (pv 3) (zf (pv 2) (zf (pv 5) zg))))) q4.p)) q1.p⟩
  let q6:Sq J ((zq yq).drop 1):=⟨_,zm (zE (i:=4) yH.nd rfl (bf rfl) zr) q5.p⟩
  refine⟨_,(zm (zE (i:=3) yH.nd rfl (bf rfl) (wV K (pv 0))) q6.p),?_⟩;refine⟨_,rfl,p,C,ai,_,_,rfl,aj,zH.cl,zH.n_outset,qd _ _ _ _,?_⟩;refine⟨_,rfl,_,_,rfl,rfl,_,rfl,_,rfl,((l:Int)-1),rfl,by omega,by omega,?_⟩;rw[show ((l:Int)-1+1).toNat=l by omega];refine JD (lo:=(l:Int)-1) (c:=-1) (n:=l) (λj Z M=>∃(v5 v6:Option V) (i m x:Nat),Z=[some (.ref p),some (.int l),some (.int ((k:Int)-(many (gd d b) (m*b^(l-j)):Nat))),some (.int i),some (.int m),v5,v6]/\i<=q.length/\Rep d b m q[i]?/\many (gd d b) (m*b^(l-j))<=k/\k<many (gd d b) ((m+1)*b^(l-j))/\L<=x/\x<=1000/\TailsAt C M p v b d q x/\Same (aw [v] H) (aw [v] M)/\NR v H M) ⟨none,none,q.length,0,L,?_,aq _,?_,?_,?_,aq _,hL,TA,Same.refl _,NR.refl _ _⟩ ?_ ?_
  ·rw[c7];show [_,_,some (V.int k),_,_,_,_]=[_,_,some (V.int ((k:Int)-((0:Nat):Int))),_,_,_,_]
   rw[Int.natCast_zero,Int.sub_zero]
  ·rw[cj (aq _)];exact .inl ⟨rfl,rfl⟩
  ·rw[c7];exact bw _
  ·rw[cZ,bO,Nat.one_mul];exact hk
  ·rintro j Z M hj ⟨v5,v6,i,m,x,rfl,O,R,y,B,S,F,u,m2,I⟩;obtain⟨t,ht⟩:∃t,l-j=t+1:=⟨l-j-1,by omega⟩
   rw[ht]at y B ⊢;have U:((l:Int)-1+(j:Int)*(-1))=(t:Int):=by omega
   rw[U];have eb:=ue G.ne b2 R t (s:=b) (aq _);have ar:(m*b+b)*b^t=(m+1)*b^(t+1):=by rw[gb,<-Dw,lC]
   rw[ar]at eb;obtain⟨N,hk'⟩:∃N,k=many (gd d b) (m*b^(t+1))+N:=⟨k-many (gd d b) (m*b^(t+1)),by omega⟩
   have ek:((k:Int)-(many (gd d b) (m*b^(t+1)):Nat))=(N:Int):=by omega
   rw[ek];obtain⟨as,sa2,au⟩:=u.obj;refine⟨_,rfl,p,as,_,rfl,au,uw _ _ _ _,_,rfl,_,rfl,_,rfl,p,v,b,d,q,x,i,N,t,rfl,u,G,F,by omega,O,by omega,λc hc hu1 hu2 L3 H3 hL3 W m3 av X=>?_⟩;obtain⟨ax,sa3,ay⟩:=W.obj;refine⟨_,rfl,_,rfl,p,ax,_,rfl,ay,uw _ _ _ _,_,rfl,_,rfl,_,rfl,p,v,b,d,q,L3,i,c,t,rfl,W,G,X,by omega,O,by omega,λL4 H4 hL4 Y m4 az hmx=>⟨_,_,rfl,rfl,?_⟩⟩;have ba:=m2.trans (m3.trans m4);have aa:=I.trans m2 (av.trans m3 az);obtain⟨ab,bb,srs4,z4,q1,q2,q3,q4,q5⟩:=zcY Y G O hc;refine⟨_,rfl,p,C,ab,_,_,rfl,q1,zH.cl,zH.n_steps,wI _ _ _ _,_,rfl,bb,_,_,_,rfl,rfl,SqL.of q2,q3,_,rfl,z4.1,_,_,_,rfl,rfl,SqL.of q4,q5,?_⟩;refine⟨_,rfl,_,rfl,p,C,ab,_,_,rfl,q1,zH.cl,zH.n_base,zba _ _ _ _,_,_,rfl,rfl,.inr ⟨by omega,by omega⟩,_,rfl,_,_,rfl,rfl,?_⟩;have e1:=ue G.ne b2 R t (s:=c) (by omega);have e2:=ue G.ne b2 R t (s:=c+1) (by omega);have ac:many (gd d b) ((m*b+c)*b^t)<=k:=by omega
   have ad:k<many (gd d b) ((m*b+c+1)*b^t):=by
    rw[show m*b+c+1=m*b+(c+1) by omega];omega
   rcases zaJ G O R hc with ⟨j',f1,f2,f3⟩ | ⟨f1,f2,f3⟩
   ·rw[f1];refine⟨some (.int t),some (.int c),j',m*b+c,L4,?_,f2,f3,?_,?_,by omega,by omega,Y,ba,aa⟩
    ·rw[show l-(j+1)=t by omega];show [_,_,some (V.int ((N:Int)-(under d b t q[i]? c:Nat))),some (V.int (j':Nat)),some (V.int ((m:Int)*b+c)),_,_]=[_,_,some (V.int ((k:Int)-(many (gd d b) ((m*b+c)*b^t):Nat))),some (V.int (j':Nat)),some (V.int ((m*b+c:Nat):Int)),_,_]
     rw[show ((N:Int)-(under d b t q[i]? c:Nat))=((k:Int)-(many (gd d b) ((m*b+c)*b^t):Nat)) by omega,fV,Gm]
    ·rw[show l-(j+1)=t by omega];exact ac
    ·rw[show l-(j+1)=t by omega];exact ad
   ·exfalso;have ae:=zdf G.ne b2 f2 f3 t (r:=b^t) (aq _);rw[<-lC]at ae;have:(m*b+c).succ=m*b+c+1:=rfl;rw[this]at ae;omega
  ·rintro Z M ⟨v5,v6,i,m,x,rfl,O,R,y,B,S,F,u,m2,I⟩;rw[gJ,fZ,oM]at y B;have hg:gd d b m=true:=by
    cases e:gd d b m with
    |true=>rfl
    |false=>
     have:many (gd d b) (m+1)=many (gd d b) m:=by rw[many,e];rfl
     omega
   have em:many (gd d b) m=k:=by
    have:many (gd d b) (m+1)=many (gd d b) m+1:=by rw[many,if_pos hg]
    omega
   refine⟨_,rfl,kk m hg em ?_ x M S u m2 I F⟩;by_cases z:m<b^l
   ·exact z
   ·have:=uq (gd d b) (show b^l<=m by omega);omega
end
section
variable {P:bx} {w:bU} {K:aK} {mg:bZ->Option aD} {base:dj} {T0 C CK:au}
theorem Xo:zF ["self"] ["self"] (zx vL):={}
theorem JX(D:Mt K C "Tails.are_endless" "are_endless" vL Ag f fd)(yE:Mt K C "Tails.many_within" "many_within" xY Ap f1 fd1)(yR:FnOk P w K mg base CX0 3 f1 fd1 Ap (j8 C))(zH:ClT K mg C):FnOk P w K mg base CX0 4 f fd Ag (Xp C):=by
 refine D.fn.ok Xo (λu H Q E h=>?_) (λcdv A outer s H u Q E m h=>?_)
 ·obtain⟨p,i,b,c,a,L,rfl,_⟩:=h;rfl
 ·obtain⟨p,i,b,c,a,L,rfl,n,G,v,x⟩:=h;have h13:=G.h13;obtain⟨o,sa,r⟩:=n.obj;refine⟨_,(zu (zG (xK Us (qD yE zH.cl yR (m.mono (by decide)) (pv 0) (zf (zP wL (wV K (pv 0)) zr) zg)) (qD yE zH.cl yR (m.mono (by decide)) (pv 0) (zf (wV K (pv 0)) zg)) (zM _)))),?_⟩;refine⟨_,rfl,p,o,_,rfl,r,uw _ _ _ _,_,rfl,p,C,o,_,_,rfl,r,zH.cl,zH.n_outset,qd _ _ _ _,_,_,rfl,rfl,p,i,b,c,a,L,a.length+1,by rfl,n,G,v,by omega,λL2 H2 hL2 d t j hmx=>?_⟩;obtain⟨e,sa2,g⟩:=d.obj;refine⟨_,rfl,p,e,_,rfl,g,uw _ _ _ _,_,rfl,p,C,e,_,_,rfl,g,zH.cl,zH.n_outset,qd _ _ _ _,p,i,b,c,a,L2,a.length,rfl,d,G,by omega,by omega,λy z hL3 k B l hmx3=>⟨_,_,rfl,rfl,?_⟩⟩;have q:=x y z (by omega) k (t.trans B) (j.trans t l) (by omega);rw[show decide (xU c b a.length<xU c b (a.length+1))=decide (((xU c b a.length:Nat))<((xU c b (a.length+1):Nat):Int)) by rw[cH];simp]at q;exact q
def zdt(ls:ZA)(b k:Nat)(v:V):Prop:=(k<many (gd ls b) (b^60)/\∃g:Nat,v=.int g/\gd ls b g=true/\many (gd ls b) g=k/\g<b^60)\/(many (gd ls b) (b^60)<=k/\v=.non)
theorem zf9(G:GoodT b ls ws)(h:xU ls b ws.length<xU ls b (ws.length+1)):0<jx ls b 59:=by
 have e:=zir (zfZ G.ne G.s G.g.b2 h) 59;have q:=tK ls G.g.b2 59;rw[xQ G.ne G.g.b2,xQ G.ne G.g.b2]at q;omega
theorem zhD(G:GoodT b ls ws)(h:¬ xU ls b ws.length<xU ls b (ws.length+1)):jx ls b 59=0:=by
 have a:=G.g.b2;have h13:=G.h13;have e:=tK ls a ws.length;have n:=ze4 G.ne a (t:=ws.length) (by omega) (b^(59+1));have q:=tK ls a 59;have m:=uq (gd ls b) (show b^ws.length<=b^59 from cM (by omega) (by omega));rw[<-xQ G.ne a,<-xQ G.ne a]at m;rw[<-xQ G.ne a]at n;omega
def JV(C xE:au):Sp:=λvs H Q E=>Ex5 λp la b ls ws=>Ex2 λ(L:Nat) (k:Nat)=>An6 (vs=[.ref p,.int k]) (TailsAt C H p la b ls ws L) (GoodT b ls ws) (L<=1000) ((∀v,zdt ls b k v->(k<many (gd ls b) (b^60)\/jx ls b 59=0)->TQ C H p la b ls ws L λL' H'=>L'<=1000->Q v H')) ((many (gd ls b) (b^60)<=k->0<jx ls b 59->TQ C H p la b ls ws L λL' H'=>L'<=1000->E (.ref xE) none H'))
theorem Q5:zF ["tails","k","size"] ["tails","k"] (zx qN):={}
theorem zdG(D:Df K mg "good_at" qN Bg f fd)(yX:Df K mg "check_number" vR Aa f1 fd1)(xN:FnOk P w K mg base CX0 3 f1 fd1 Aa uY)(yE:Mt K C "Tails.many_within" "many_within" xY Ap f2 fd2)(yR:FnOk P w K mg base CX0 3 f2 fd2 Ap (j8 C))(uM:Mt K C "Tails.number_at" "number_at" yq Bf f3 fd3)(qY:FnOk P w K mg base CX0 5 f3 fd3 Bf (Vz C))(ug:Mt K C "Tails.are_endless" "are_endless" vL Ag f4 fd4)(tL:FnOk P w K mg base CX0 4 f4 fd4 Ag (Xp C))(zH:ClT K mg C)(Zo:mg "MOST_FIGURES"= some (.int 60 t1))(qEe:zdn K mg "TooMany" xE)(T:Blt mg):FnOk P w K mg base (CX1 P w) 6 f fd Bg (JV C xE):=by
 refine D.fn.ok1 Q5 (λvs H Q E h=>?_) (λcdv A outer s H vs Q E S h=>?_)
 ·obtain⟨p,r,b,c,u,L,k,rfl,_⟩:=h;rfl
 ·obtain⟨p,r,b,c,u,L,k,rfl,TA,G,hL,kk,kE⟩:=h;have b2:=G.g.b2;refine yW ?_;intro U;let q1:Sq U ((zq qN).drop 3):=⟨_,zu (zG yQ)⟩
  let q2:Sq U ((zq qN).drop 2):=⟨_,zm (yw (xx (zdI ug zH.cl tL (S.mono (by decide)) (pv 0)))
    (zu (Uk qEe VM rfl (zf jE zg)))
    zR) q1.p⟩
  let q3:Sq U ((zq qN).drop 1):=⟨_,zm (wj Mw rfl (yL rfl T.n_range (zf (zP wL (wu (v:=.int 60) rfl Zo ⟨_,rfl⟩) zr) zg)) (zX (i:=2) Q5.nd rfl (bf rfl))
    (zu (yw (zK Us (qD yE zH.cl yR (S.mono (by decide)) (pv 0) (zf (pv 2) zg)) (pv 1) (zM _))
     (zu (zG (qD uM zH.cl qY (S.mono (by decide)) (pv 0) (zf (pv 2) (zf (pv 1) zg)))))
     zR))) q2.p⟩
  refine⟨_,(zm (wQ (zL yX xN (S.mono (by decide)) (zf (pv 1) zg))) q3.p),?_⟩;refine⟨_,rfl,k,rfl,by omega,?_⟩;let J2:Nat->L2.St->L2.Hp->Prop:=λi Z M=>Ex2 λV x=>An7 (Z=[some (.ref p),some (.int k),V]) ((∀j,j<i->many (gd c b) (b^j)<=k)) (L<=x) (x<=1000) (TailsAt C M p r b c u x) (Same (aw [r] H) (aw [r] M)) (NR r H M);refine⟨_,_,rfl,rfl,61,rfl,by decide,by decide,xj J2 ⟨none,L,rfl,λj hj=>by omega,aq _,hL,TA,Same.refl _,NR.refl _ _⟩ ?_ ?_⟩
  ·rintro i Z M hi ⟨V,x,rfl,y,W,B,d,q,e⟩;obtain⟨F,X,I⟩:=d.obj;refine⟨_,rfl,p,F,_,rfl,I,uw _ _ _ _,_,rfl,p,r,b,c,u,x,i,by rw[eG];rfl,d,G,B,by omega,λN Y aa a J l hmx=>?_⟩;rw[xQ G.ne b2];refine⟨_,rfl,_,_,rfl,rfl,_,rfl,?_⟩;refine zbz (λh1=>?_) (λh1=>?_)
   ·have m:k<many (gd c b) (b^i):=by have:=of_decide_eq_true h1;omega
    obtain⟨ac,sa3,ad⟩:=a.obj;refine⟨_,rfl,p,ac,_,rfl,ad,uw _ _ _ _,_,rfl,_,rfl,p,r,b,c,u,N,i,k,by rw[eG];rfl,a,G,by omega,by omega,m,λn hg hm ae L4 H4 hL4 af m4 ag O=>?_⟩;have o:b^i<=b^60:=cM (by omega) (by omega);exact kk (.int n) (.inl ⟨aO m (uq _ o),n,rfl,hg,hm,aO ae o⟩) (.inl (aO m (uq _ o))) L4 H4 (by omega) af (q.trans (J.trans m4)) (e.trans q (l.trans J ag)) O
   ·have m:many (gd c b) (b^i)<=k:=by
     by_cases z:many (gd c b) (b^i)<=k
     ·exact z
     ·exact absurd (decide_eq_true (by omega)) h1
    refine⟨_,N,rfl,λj hj=>?_,by omega,by omega,a,q.trans J,e.trans q l⟩;by_cases ah:j<i
    ·exact y j ah
    ·rw[show j=i by omega];exact m
  ·rintro Z M ⟨V,x,rfl,y,W,B,d,q,e⟩;have R:=y 60 (by decide);obtain⟨F,X,I⟩:=d.obj;refine⟨_,rfl,p,F,_,rfl,I,uw _ _ _ _,p,r,b,c,u,x,rfl,d,G,B,λN Y aa a J l t=>⟨_,rfl,?_⟩⟩;cases he:decide (xU c b u.length<xU c b (u.length+1)) with
   |true=>
    refine yz ⟨by decide,kE R (zf9 G (of_decide_eq_true he)) N Y (by omega) a (q.trans J) (e.trans q l) t⟩
   |false=>exact yG (kk .non (.inr ⟨R,rfl⟩) (.inr (zhD G (of_decide_eq_false he))) N Y (by omega) a (q.trans J) (e.trans q l) t)
def zbI(T0 C CK xE:au):Sp:=λvs H Q E=>Ex6 λk tl sa la b bd=>Ex5 λ(bl:au) (zs:ZB) (ws:ZA) (L:Nat) (n:Nat)=>An5 (vs=[.ref k,.int n]) (KpAt C CK H k tl sa la b bd bl zs ws L) (LT T0 H) ((∀v,zdt (zs.map (·.2)) b n v->(n<many (gd (zs.map (·.2)) b) (b^60)\/jx (zs.map (·.2)) b 59=0)->∀L' H',KpAt C CK H' k tl sa la b bd bl zs ws L'->Same (aw [la] H) (aw [la] H')->LT T0 H'->KpS H H' k tl sa la bl zs->Q v H')) ((many (gd (zs.map (·.2)) b) (b^60)<=n->0<jx (zs.map (·.2)) b 59->∀L' H',KpAt C CK H' k tl sa la b bd bl zs ws L'->Same (aw [la] H) (aw [la] H')->LT T0 H'->KpS H H' k tl sa la bl zs->E (.ref xE) none H'))
theorem Jw:zF ["self","k"] ["self","k"] (zx ji):={}
theorem zfQ(D:Mt K CK "Keeper.good" "good" ji A5 f fd)(VP:Df K mg "good_at" qN Bg f1 fd1)(Jb:FnOk P w K mg base (CX1 P w) 6 f1 fd1 Bg (JV C xE))(cKeeper:ClK K mg CK):FnOk P w K mg base (CX1 P w) 7 f fd A5 (zbI T0 C CK xE):=by
 refine D.fn.ok1 Jw (λJ H Q E h=>?_) (λcdv A outer s H J Q E M h=>?_)
 ·obtain⟨k,t,x,p,b,N,y,z,B,L,n,rfl,_⟩:=h;rfl
 ·obtain⟨k,t,x,p,b,N,y,z,B,L,n,rfl,g,F,O,R⟩:=h;obtain⟨S,T⟩:=g.ob;obtain⟨xs,r⟩:=g.ta.la;obtain⟨_,G⟩:=g.sas;have I:∀{i:Hp},Same (aw [p] H) (aw [p] i)->NR p H i->KpS H i k t x p y z:=λa d c o e q=>⟨q.nk,q.ntl,q.nsa,q.nla,q.nbl,q.nz,d c o q.nla e q.rla,q.rsa.same G (zeB a g.sla G)⟩
  refine⟨_,(zu (zG (ziO VP Jb (M.mono (by decide)) zfF (zf (wV K (pv 0)) (zf (pv 1) zg))))),?_⟩;refine⟨_,rfl,k,CK,S,_,_,rfl,T,cKeeper.cl,cKeeper.n_tails,Jl _ _ _ _,_,rfl,t,p,b,_,B,L,n,rfl,g.ta,g.gt,g.l,λv U V L2 i u j a d m=>?_,λW X L2 i u j a d m=>?_⟩
  ·exact O v U V L2 i (g.more j a m) a (F.off r a) (I a d)
  ·exact R W X L2 i (g.more j a m) a (F.off r a) (I a d)
end
theorem LT.stq(h:LT T H)(S:Sto H s)(m:∀c o,c≠s->H c=some o->H' c=some o):LT T H':=by
 obtain⟨g,x,k,e⟩:=S;have b:=cF (h.lst e);rcases h with h | ⟨c,d,a⟩
 ·exact .inl (m _ _ b h)
 ·refine .inr ⟨c,m _ _ b d,m _ _ (λz=>?_) a⟩;rw[z,e]at a;cases a
theorem LT.ins(h:LT T H)(e:H b=some (.ins CS dx fs)):b≠T:=λz=>by
 rw[z]at e;rcases h with h | ⟨c,h,_⟩
 ·rw[h]at e;cases e
 ·rw[h]at e;cases e
def MadeK(T0 C CK:au)(b bd:Nat)(ls:ZA)(H:Hp)(k:au)(H':Hp):Prop:=∃tl sa la bl zs ws L,KpAt C CK H' k tl sa la b bd bl zs ws L/\zs.map (·.2)=ls/\SameL T0 H H'/\LT T0 H'/\H k=none/\H la=none/\H sa=none/\H bl=none/\∀c o,H c=some o->ClrK c H' k tl sa la bl zs
theorem ziQ(R:RuleAt H r b bl zs)(g:GoodRule b (zs.map (·.2)))(hT:LT T0 H){R':au->Hp->Prop}(k:∀x H',MadeK T0 C CK b bd (zs.map (·.2)) H x H'->R' x H'):
  ∀x dx,H x=none->H dx=none->dx≠x->U3 T0 C CK (.ref x::([.ref r,.int bd]++[])) (upd (upd H dx (.own x)) x (.ins CK dx [])) (λv H2=>v=.non/\R' x H2) E0:=by
 intro x dx d f nex;have a:=zeu (C:=CK) d f;refine⟨x,dx,r,b,bl,zs,bd,rfl,zj,R.same a,g,hT.same a,λp q s h i t L H' u e w j l m n y=>⟨rfl,k x H' ⟨p,q,s,h,i,t,L,u,e,λc o z e=>w c o (zz e d) z (a c o e),j,d,a.free l,a.free m,a.free n,λc o e=>y c o (a _ _ e) (zz e d)⟩⟩⟩
section
variable {T0 C CK:au} {Hb H H':Hp} {M:List au} {s k:au} {b bd:Nat} {ls:ZA}
theorem Sto.same(S:Sto H s)(m:Same H H'):Sto H' s:=by obtain⟨x,y,z,e⟩:=S;exact⟨x,y,z,m _ _ e⟩
theorem Sto.some(S:Sto H s):H s≠none:=by obtain⟨x,y,z,e⟩:=S;rw[e];simp
theorem zhQ(lt:LT T0 H):H T0≠none:=λz=>lt.none z rfl
theorem KpAt.fresh{tl sa la bl c:au}(A:KpAt C CK H k tl sa la b bd bl zs ws L)(h:H c=none):ClrK c H k tl sa la bl zs:=by
 obtain⟨dx,l⟩:=A.ob;obtain⟨dt,j⟩:=A.sa;obtain⟨xs1,m⟩:=A.las;obtain⟨xs2,n⟩:=A.sas;obtain⟨dx',d,srs,o,p,q,t4⟩:=A.ta.ob;obtain⟨lrs,r,s,g3⟩:=A.ta.ly;have i:sa=d:=by
  have:=yd _ _ _ _ o;rw[j]at this;injection this with this
  injection this with _ _ this
  have e:=wI b ws.length d la;rw[<-this,wI]at e;injection e with e
  injection e
 subst i;refine⟨cF (zz l h),cF (zz j h),cF (zz n h),cF (zz m h),cF (zz A.li h),λz f=>cF (zz (A.st z f) h),λt a g=>?_,λt a g=>?_⟩
 ·rw[r]at a;injection a with a
  injection a with a
  rw[<-a]at g;obtain⟨z,f,e⟩:=aQ.mp g;injection e with e
  have:=yd _ _ _ _ (s z f);rw[e,h]at this;cases this
 ·rw[yd _ _ _ _ p]at a;injection a with a
  injection a with a
  rw[<-a]at g;obtain⟨z,f,e⟩:=aQ.mp g;injection e with e
  have:=yd _ _ _ _ (q z f);rw[e,h]at this;cases this
theorem KpAt.clrM{tl sa la bl:au}(A:KpAt C CK H k tl sa la b bd bl zs ws L)(q:∀c∈M,ClrK c H k tl sa la bl zs)(m:∀c o,c∉M->H c=some o->H' c=some o):KpAt C CK H' k tl sa la b bd bl zs ws L/\∀c,ClrK c H k tl sa la bl zs->ClrK c H' k tl sa la bl zs:=by
 obtain⟨G,I⟩:=A.ob;obtain⟨J,w⟩:=A.sa;obtain⟨xs1,x⟩:=A.las;obtain⟨xs2,B⟩:=A.sas;obtain⟨j,d,n,D,E,K,N⟩:=A.ta.ob;obtain⟨p,F,O,P⟩:=A.ta.ly;have s:sa=d:=by
  have:=yd _ _ _ _ D;rw[w]at this;injection this with this
  injection this with _ _ this
  have e:=wI b ws.length d la;rw[<-this,wI]at e;injection e with e
  injection e
 subst s;have i:∀c u,c∉M->aw [la] H c=some u->aw [la] H' c=some u:=λc u Q e=>by
  have t:c∉[la]:=λa=>by rw[ju a]at e;cases e
  rw[yc t]at e ⊢;exact m c u Q e
 have R:k∉M:=λz=>(q _ z).nk rfl;have f:tl∉M:=λz=>(q _ z).ntl rfl;have g:sa∉M:=λz=>(q _ z).nsa rfl;have h:la∉M:=λz=>(q _ z).nla rfl;have v:bl∉M:=λz=>(q _ z).nbl rfl;refine⟨⟨⟨G,m _ _ R I⟩,m _ _ v A.li,λz a=>m _ _ (λy=>(q _ y).nz z a rfl) (A.st z a),⟨⟨j,sa,n,i _ _ f D,i _ _ g E,λz a=>i _ _ (λe=>?_) (K z a),N⟩,⟨p,m _ _ h F,λz a=>i _ _ (λe=>?_) (O z a),P⟩,A.ta.l1⟩,⟨J,m _ _ f w⟩,A.gt,A.bla,A.l⟩,λc r=>⟨r.nk,r.ntl,r.nsa,r.nla,r.nbl,r.nz,r.rla.same x (m _ _ h x),r.rsa.same B (m _ _ g B)⟩⟩
 ·exact (q _ e).rsa _ (yd _ _ _ _ E) (aQ.mpr ⟨z,a,rfl⟩)
 ·exact (q _ e).rla _ F (aQ.mpr ⟨z,a,rfl⟩)
theorem LT.poke(h:LT T H)(e:H c=some (.lst xs))(m:∀d o,d≠c->H d=some o->H' d=some o):LT T H':=by
 have b:=cF (h.lst e);rcases h with h | ⟨d,f,a⟩
 ·exact .inl (m _ _ b h)
 ·refine .inr ⟨d,m _ _ b f,m _ _ (λz=>?_) a⟩;rw[z,e]at a;cases a
def grow(Hb H H':Hp):Hp:=λc=>match H c with | none=>H' c | some _=>Hb c
theorem uD(h:H c=none):grow Hb H H' c=H' c:=by unfold grow;rw[h]
theorem zeo:Same (nw H H') (grow Hb H H'):=λc o h=>by rw[uD (Ja h).1];exact (Ja h).2
def KS(T0 C CK:au)(Hb H:Hp)(s k:au)(b bd:Nat)(ls:ZA):Prop:=∃tl sa la bl zs ws L,KpAt C CK H k tl sa la b bd bl zs ws L/\zs.map (·.2)=ls/\LT T0 H/\Sto H s/\ClrK s H k tl sa la bl zs/\∀c o,Hb c=some o->H c=some o/\c≠T0/\c≠s/\ClrK c H k tl sa la bl zs
theorem KS.lt(D:KS T0 C CK Hb H s k b bd ls):LT T0 H:=let ⟨_,_,_,_,_,_,_,_,_,h,_⟩:=D;h
theorem KS.st(D:KS T0 C CK Hb H s k b bd ls):Sto H s:=let ⟨_,_,_,_,_,_,_,_,_,_,h,_⟩:=D;h
theorem KS.base(D:KS T0 C CK Hb H s k b bd ls):Same Hb H:=let ⟨_,_,_,_,_,_,_,_,_,_,_,_,h⟩:=D;λc o e=>(h c o e).1
theorem KS.ns(D:KS T0 C CK Hb H s k b bd ls)(h:Hb c=some o):c≠s:=let ⟨_,_,_,_,_,_,_,_,_,_,_,_,g⟩:=D;(g c o h).2.2.1
theorem KS.old(D:KS T0 C CK Hb H s k b bd ls):Same Hb (grow Hb H H'):=λc o h=>by unfold grow;rw[D.base _ _ h];exact h
theorem KS.good_rule(D:KS T0 C CK Hb H s k b bd ls):GoodRule b ls:=by
 obtain⟨tl,sa,la,bl,zs,ws,L,A,rfl,_⟩:=D;exact A.gt.g
theorem KS.ob(D:KS T0 C CK Hb H s k b bd ls):∃dx bl tl,H k=some (.ins CK dx (tH b bl bd tl)):=by
 obtain⟨tl,sa,la,bl,zs,ws,L,A,_⟩:=D;obtain⟨dx,h⟩:=A.ob;exact⟨dx,bl,tl,h⟩
theorem KS.go(D:KS T0 C CK Hb H s k b bd ls)(m:Stq s H H'):KS T0 C CK (grow Hb H H') H' s k b bd ls:=by
 obtain⟨j,l,n,p,r,t,L,A,e,f,g,q,v⟩:=D;obtain⟨w,d⟩:=A.clrM (λc a=>by rw[bu.mp a];exact q) λc o a h=>m.sm c o (by simpa using a) h;refine⟨j,l,n,p,r,t,L,w,e,f.stq g m.sm,m.st,d _ q,λc o h=>?_⟩;cases a:H c with
 |none=>
  rw[uD a]at h;exact⟨h,λz=>zhQ f (by rw[<-z];exact a),λz=>g.some (by rw[<-z];exact a),d _ (A.fresh a)⟩
 |some u=>
  unfold grow at h;rw[a]at h;obtain⟨x,y,i,B⟩:=v c o h;exact⟨m.sm c o i x,y,i,d _ B⟩
theorem KS.weak(D:KS T0 C CK Hb H s k b bd ls)(m:Same Hb' Hb):KS T0 C CK Hb' H s k b bd ls:=by
 obtain⟨a,d,f,g,i,j,L,A,e,l,n,q,p⟩:=D;exact⟨a,d,f,g,i,j,L,A,e,l,n,q,λc o h=>p c o (m _ _ h)⟩
theorem KS.stq(D:KS T0 C CK Hb H s k b bd ls)(m:Stq s H H'):KS T0 C CK Hb H' s k b bd ls:=(D.go m).weak D.old
theorem KS.same(D:KS T0 C CK Hb H s k b bd ls)(m:Same H H'):KS T0 C CK Hb H' s k b bd ls:=D.stq (Stq.of D.st m)
theorem KS.new(D:KS T0 C CK Hb H s k b bd ls)(h:H c=none)(o:HO):KS T0 C CK (upd Hb c o) (upd H c o) s k b bd ls/\Same Hb (upd Hb c o):=
 ⟨(D.go (Stq.of D.st (zp h))).weak λd u e=>by
  by_cases z:d=c
  ·rw[z,zj]at e;rw[z,uD h,zj,e]
  ·rw[zy z]at e;exact D.old _ _ e,zp (D.base.free h)⟩
theorem KS.poke(D:KS T0 C CK Hb H s k b bd ls)(h:Hb c=some (.lst xs))(o:HO):KS T0 C CK (upd Hb c o) (upd H c o) s k b bd ls:=by
 obtain⟨l,m,n,p,r,t,L,A,e,v,w,q,g⟩:=D;obtain⟨B,E,i,j⟩:=g c _ h;obtain⟨F,f⟩:=A.clrM (λd a=>by rw[bu.mp a];exact j) (H':=upd H c o) λd u a h=>by rw[zy (by simpa using a)];exact h
 obtain⟨x,y,z,G⟩:=w;refine⟨l,m,n,p,r,t,L,F,e,v.poke B λd u a h=>by rw[zy a];exact h,⟨x,y,z,by rw[zy (cF i)];exact G⟩,f _ q,λd u a=>?_⟩;by_cases z:d=c
 ·rw[z,zj]at a;rw[z,zj];exact⟨a,E,i,f _ j⟩
 ·rw[zy z]at a ⊢;obtain⟨I,J,K,M⟩:=g d u a;exact⟨I,J,K,f _ M⟩
theorem MadeK.ks(Mk:MadeK T0 C CK b bd ls H k H')(St:Sto H s)(lt:LT T0 H):KS T0 C CK (aw [T0,s] H) H' s k b bd ls:=by
 obtain⟨g,i,j,l,n,p,L,A,e,m,q,hk,hla,hsa,hbl,f⟩:=Mk;obtain⟨x,y,z,d⟩:=St;refine⟨g,i,j,l,n,p,L,A,e,q,⟨x,y,z,m _ _ (lt.lst d) d⟩,f _ _ d,λc o h=>?_⟩;have a:c∉[T0,s]:=λz=>by rw[ju z]at h;cases h
 rw[yc a]at h;simp at a;exact⟨m _ _ a.1 h,a.1,a.2,f c o h⟩
theorem KS.kept(A2:KpAt C CK H' k tl2 sa2 la2 b bd bl2 zs2 ws2 L2)(Ni:LT T0 H')(O:Off T0 k la H H')(St:Sto H s)(ns:s≠T0)(q:ClrK s H k tl sa la bl zs)(kp:∀c o,Hb c=some o->H c=some o/\c≠T0/\c≠s/\ClrK c H k tl sa la bl zs)(cl:∀c o,H c=some o->ClrK c H k tl sa la bl zs->ClrK c H' k tl2 sa2 la2 bl2 zs2):KS T0 C CK Hb H' s k b bd (zs2.map (·.2)):=by
 obtain⟨x,y,z,a⟩:=St;exact⟨tl2,sa2,la2,bl2,zs2,ws2,L2,A2,rfl,Ni,⟨x,y,z,O _ _ q.nk q.nla ns a⟩,cl _ _ a q,λc o h=>let ⟨h1,h2,h3,h4⟩:=kp c o h;⟨O c o h4.nk h4.nla h2 h1,h2,h3,cl c o h1 h4⟩⟩
theorem KS.below(D:KS T0 C CK Hb H s k b bd ls)(hn:n<2^900){Q:VK}(h:∀H',KS T0 C CK Hb H' s k b bd ls->Q (.int (many (gd ls b) n:Nat)) H'):Xu T0 C CK [.ref k,.int n] H Q E:=by
 obtain⟨d,f,g,i,j,l,L,A,rfl,a,c,q,o⟩:=D;exact⟨k,d,f,g,b,bd,i,j,l,L,n,rfl,A,hn,a,λL' H' p m r t=>h H' (KS.kept p r (Off.aw m) c (λz=>by obtain⟨_,_,_,e⟩:=c;exact a.lst e z) q o t)⟩
theorem KS.good(D:KS T0 C CK Hb H s k b bd ls)(h1:∀v H',zdt ls b n v->(n<many (gd ls b) (b^60)\/jx ls b 59=0)->KS T0 C CK Hb H' s k b bd ls->Q v H')(h2:many (gd ls b) (b^60)<=n->0<jx ls b 59->∀H',KS T0 C CK Hb H' s k b bd ls->E (.ref xE) none H'):zbI T0 C CK xE [.ref k,.int n] H Q E:=by
 obtain⟨j,l,o,p,r,t,L,A,rfl,g,a,q,h⟩:=D;have i:s≠T0:=λz=>by obtain⟨_,_,_,e⟩:=a;exact g.lst e z
 exact⟨k,j,l,o,b,bd,p,r,t,L,n,rfl,A,g,λv u w x H' c m d f=>h1 v H' u w (KS.kept c d (Off.aw m) a i q h f),λy B x H' c m d f=>h2 y B H' (KS.kept c d (Off.aw m) a i q h f)⟩
theorem KS.rule(D:KS T0 C CK Hb H s k b bd ls)(h:∀r bl zs Hb' H',RuleAt Hb' r b bl zs->zs.map (·.2)=ls->H bl=none->H r=none->(∀z∈zs,H z.1=none/\z.1≠bl)->KS T0 C CK Hb' H' s k b bd ls->Same Hb Hb'->Q (.ref r) H'):zbY C CK [.ref k] H Q E:=by
 have f:=D;obtain⟨l,n,o,bl,zs,p,L,A,rfl,lt,t,q,kp⟩:=D;exact⟨k,l,n,o,b,bd,bl,zs,p,L,rfl,A,λr c d H' m R e g i j=>h r c d _ H' ⟨by rw[uD i];exact R.tu,by rw[uD g];exact R.li,λz a=>by rw[uD (j z a).1];exact R.st z a⟩ e g i j (f.go (Stq.of t m)) f.old⟩
theorem KS.asked(D:KS T0 C CK Hb H s k b bd ls)(hbd:bd<2^900){door:Nat}(ht:Hb t=some (.tup [.int door,u]))(h1:door<=1)(hd:ThAt Hb d u)(hs:jG d<=100000)(kR:∀x,Xf b ls d door=some x->dv=.str x/\∀H',Same H H'->Q (.str x) H')(kO:Xf b ls d door=none->∀p l2 H',DueL door ls (xX d) l2->KS T0 C CK Hb H' s k b bd l2->H' p=some (.tup [.int (many (gd ls b) bd:Nat),.int (many (gd l2 b) bd:Nat)])->Q (.ref p) H'):ZX T0 C CK [.ref k,.ref t,dv] H Q E:=by
 have f:=D.base;obtain⟨i,j,l,m,n,v,L,A,rfl,g,h,q,w⟩:=D;have y:s≠T0:=λz=>by obtain⟨_,_,_,e⟩:=h;exact g.lst e z
 exact⟨k,i,j,l,b,bd,m,n,v,L,t,door,u,d,dv,rfl,A,hbd,g,f _ _ ht,h1,hd.same f,hs,kR,λB p tl2 sa2 la2 bl2 zs2 ws2 L2 H' hp F G I O a hla2 hsa2 hbl2 pla J=>kO B p _ H' I (KS.kept G a O h y q w λc o e r=>J c o e r.nk λz K=>r.nz z K) F⟩
end
theorem zdx(h:YC ls x):lacks ls x=true/\zW ls x=x:=by
 rcases h with rfl | ⟨b,a,k,h1,h2,rfl,c⟩
 ·refine⟨?_,rfl⟩;unfold lacks;rw[kY,fu];intro b _ h;simp[Wo]at h
 ·refine⟨c,zac ?_⟩;unfold tG;rw[cX];refine⟨b,a,decide_eq_true ?_⟩;rw[bA,fU (by omega)]
def zge(ls F:ZA)(x:List Int):ZA:=if x∈F then F else if lacks ls x=true then F++[x] else F
def WK(ls:ZA)(st:List Int):Nat->ZA->ZA
 |0,F=>F
 |j+1,F=>zge ls (WK ls st j F) (st.take (j+1))
def zfv(ls xs:ZA):ZA:=xs.foldl (λF st=>WK ls st (st.length-1) F) [[]]
theorem zgf:y∈zge ls F x↔y∈F\/(y=x/\lacks ls y=true):=by
 unfold zge;by_cases h:x∈F
 ·rw[if_pos h];exact⟨.inl,λz=>z.elim id λz=>by rw[z.1];exact h⟩
 ·rw[if_neg h];by_cases a:lacks ls x=true
  ·rw[if_pos a,aZ,bu];exact⟨λz=>z.imp id λz=>⟨z,by rw[z];exact a⟩,λz=>z.imp id λz=>z.1⟩
  ·rw[if_neg a];exact⟨.inl,λz=>z.elim id λz=>absurd (by rw[<-z.1];exact z.2) a⟩
theorem zaN{ls F:ZA}{st y:List Int}:∀{j:Nat},y∈WK ls st j F↔y∈F\/∃k,1<=k/\k<=j/\y=st.take k/\lacks ls y=true
 |0=>⟨.inl,λz=>z.elim id λ⟨k,h1,h2,_⟩=>by omega⟩
 |j+1=>by
  rw[WK,zgf,zaN];constructor
  ·rintro ((h | ⟨k,h1,h2,h3⟩) | ⟨h1,h2⟩)
   ·exact .inl h
   ·exact .inr ⟨k,h1,by omega,h3⟩
   ·exact .inr ⟨j+1,by omega,by omega,h1,h2⟩
  ·rintro (h | ⟨k,h1,h2,h3,h4⟩)
   ·exact .inl (.inl h)
   ·by_cases hk:k<=j
    ·exact .inl (.inr ⟨k,h1,hk,h3,h4⟩)
    ·exact .inr ⟨by rw[h3];congr 1;omega,h4⟩
theorem zaY{ls:ZA}{y:List Int}:∀{xs F:ZA},y∈xs.foldl (λF st=>WK ls st (st.length-1) F) F↔y∈F\/∃st∈xs,∃k,1<=k/\k<st.length/\y=st.take k/\lacks ls y=true
 |[],F=>by simp
 |st::xs,F=>by
  rw[oO,zaY,zaN];constructor
  ·rintro ((h | ⟨k,h1,h2,h3⟩) | ⟨s,hs,h⟩)
   ·exact .inl h
   ·exact .inr ⟨st,by simp,k,h1,by omega,h3⟩
   ·exact .inr ⟨s,by simp[hs],h⟩
  ·rintro (h | ⟨s,hs,k,h1,h2,h3⟩)
   ·exact .inl (.inl h)
   ·rcases aW.mp hs with rfl | hs
    ·exact .inl (.inr ⟨k,h1,by omega,h3⟩)
    ·exact .inr ⟨s,hs,k,h1,h2,h3⟩
theorem zgE:y∈zfv ls ls↔YC ls y:=by
 unfold zfv YC;rw[zaY,bu]
theorem zgB(ls F:ZA)(x:List Int):(zge ls F x).length<=F.length+1:=by
 unfold zge;split
 ·omega
 ·split
  ·rw[aF,aX];omega
  ·omega
theorem za9(ls:ZA)(st:List Int)(F:ZA):∀j,(WK ls st j F).length<=F.length+j
 |0=>aq _
 |j+1=>by rw[WK];have:=zgB ls (WK ls st j F) (st.take (j+1));have:=za9 ls st F j;omega
theorem za5{ls:ZA}:∀{xs F:ZA},(∀st∈xs,st.length<=4)->(xs.foldl (λF st=>WK ls st (st.length-1) F) F).length<=F.length+3*xs.length
 |[],F,_=>by simp
 |st::xs,F,h=>by
  rw[oO,bF];have:=za5 (ls:=ls) (F:=WK ls st (st.length-1) F) λs a=>h s (bQ _ a);have:=za9 ls st F (st.length-1);have:=h st bI;omega
theorem zgw(h4:ls.length<=4)(h:∀st∈ls,st.length<=4):(zfv ls ls).length<=13:=by
 have:=za5 (ls:=ls) (F:=[[]]) h;unfold zfv;rw[aX]at this;omega
def kI(x:List Int):List Key:=x.map lV
theorem Yg(x:List Int):(kI x).map kV=x.map V.int:=by unfold kI;rw[cC];rfl
theorem UL(h:kI x=kI y):x=y:=by
 unfold kI at h;exact (pU (λa b e=>by injection e)).mp h
def AftV(H:Hp):Option (List Int)->V->Prop
 |none,v=>v=.non
 |some y,v=>∃c,v=.ref c/\H c=some (.tup (y.map V.int))
theorem AftV.same(h:AftV H o v)(s:∀b xs,H b=some (.tup xs)->H' b=some (.tup xs)):AftV H' o v:=by
 cases o with
 |none=>exact h
 |some y=>obtain⟨c,e,q⟩:=h;exact⟨c,e,s _ _ q⟩
def kA(x:List Int)(f:Nat):NK:=(kI x,[.inl (f:Int),.inl 0])
def kW(x:List Int)(t:Nat):NK:=(kI x,[.inl (t:Int)])
def Ent(ls:ZA)(b:Nat)(H:Hp)(k:NK)(v:V):Prop :=
 (∃x f,YC ls x/\f<b/\k=kA x f/\AftV H (aft ls x f) v)\/∃x t,YC ls x/\1<=t/\t<=1000/\k=kW x t/\v=.int (cnt ls b t x:Nat)
structure Tab (ls:ZA) (b:Nat) (H:Hp) (kvs:List (NK×V)):Prop where
 nd:(kvs.map (·.1)).Nodup
 ok:∀p∈kvs,Ent ls b H p.1 p.2
section
variable {ls:ZA} {b:Nat} {H H':Hp} {kvs:List (NK×V)}
theorem zaf{k:NK}{v:V}:∀{kvs:List (NK×V)},xn kvs k=some v->(k,v)∈kvs
 |[],h=>by cases h
 |p::kvs,h=>by
  by_cases e:p.1=k
  ·rw[vQ e]at h;cases h
   exact aW.mpr (.inl (by rw[<-e]))
  ·rw[vX e]at h;exact bQ _ (zaf h)
theorem Tab.way(t:Tab ls b H kvs)(h:xn kvs (kW x n)=some v):v=.int (cnt ls b n x:Nat):=by
 rcases t.ok _ (zaf h) with ⟨y,g,_,_,e,q⟩ | ⟨y,m,_,_,_,e,q⟩
 ·exfalso;simp[kA,kW]at e
 ·unfold kW at e;injection e with c a
  injection a with a e3
  injection a with a
  have c:=UL c;have a:n=m:=by omega
  subst c a;exact q
end
def ux(x:List Int):Tr:=.tup (x.map Tr.int)
theorem TrAt.tupI{K:aK}(h:H a=some (.tup (x.map V.int))):TrAt K H (ux x) (.ref a):=by
 unfold ux;rw[TrAt];exact⟨a,_,rfl,SqT.of h,TrsAt.ints⟩
theorem zcM(a b:List Int):teq (ux a) (ux b)=decide (a=b):=by unfold ux;rw[teq];exact JK zew a b
theorem zaH(x:List Int):vP (ux x)=1:=by unfold ux;rw[vP,Vi]
theorem Zg:∀ls:ZA,wA (ls.map ux)<=1
 |[]=>by rw[fG,wA];omega
 |x::ls=>by rw[bC,wA,zaH];have:=Zg ls;omega
theorem TrsAt.tups{K:aK}{H:Hp}:∀{zs:ZB},(∀z∈zs,H z.1=some (.tup (z.2.map V.int)))->TrsAt K H ((zs.map (·.2)).map ux) (zs.map λz=>V.ref z.1)
 |[],_=>by rw[fG,fG,fG,TrsAt]
 |z::zs,h=>by
  rw[bC,bC,bC,TrsAt];exact⟨_,_,rfl,TrAt.tupI (h z bI),TrsAt.tups λy hy=>h y (bQ _ hy)⟩
theorem zhe{ls:ZA}:((ls.map ux).any λt=>teq t (ux x))=decide (x∈ls):=by
 induction ls with
 |nil=>simp
 |cons y ls a=>
  rw[bC,lO,a,zcM,<-Bool.decide_or];refine decide_eq_decide.mpr ?_;rw[aW];exact⟨λz=>z.imp Nj id,λz=>z.imp Nj id⟩
theorem Qc(ts:List Tr):teq (.lst ts) (.lst [])=ts.isEmpty:=by
 cases ts with
 |nil=>rfl
 |cons t ts=>rw[teq,ZR (by simp)];rfl
theorem zfk(x:List Int)(i:Nat):qi (x.map V.int) (some (i:Int)) none=(x.drop i).map V.int:=by rw[jb,<-rQ]
theorem zeY(x:List Int)(i:Nat):qi (x.map V.int) none (some (i:Int))=(x.take i).map V.int:=by rw[Wk,<-oF]
theorem qJ{A B:Prop}(hc:c=false)(h:B):if c=true then A else B:=by rw[hc];exact yG h
theorem Yq{A B:Prop}(hc:c=true)(h:A):if c=true then A else B:=by rw[hc];exact yz h
structure TupsAt (H:Hp) (tl:au) (ts:ZB):Prop where
 li:H tl=some (.lst (ts.map λt=>V.ref t.1))
 st:∀t∈ts,H t.1=some (.tup (t.2.map V.int))
theorem TupsAt.same(R:TupsAt H tl ts)(s:Same H H'):TupsAt H' tl ts:=⟨s _ _ R.li,λt h=>s _ _ (R.st t h)⟩
section
variable {P:bx} {w:bU} {K:aK} {mg:bZ->Option aD} {base:dj}
def Ww:Sp:=λvs H Q _=>Ex6 λ(tl:au) (ts:ZB) (sa:au) (x:List Int) (f:Nat) (b:Nat)=>An6 (vs=[.ref tl,.ref sa,.int f]) (TupsAt H tl ts) (H sa=some (.tup (x.map V.int))) (GoodRule b (ts.map (·.2))) (YC (ts.map (·.2)) x) (∀v H',Same H H'->AftV H' (aft (ts.map (·.2)) x f) v->Q v H')
theorem jk:zF ["bad","stand","figure","whole","ends","good"] ["bad","stand","figure"] (zx yJ):={}
set_option maxHeartbeats 0 in
theorem zas(D:Df K mg "_law_after" yJ Av f fd)(T:Blt mg):FnOk P w K mg base CX0 1 f fd Av Ww:=by
 refine D.fn.ok jk (λvs H Q E h=>?_) (λcdv A outer s H vs Q E hr h=>?_)
 ·obtain⟨tl,d,sa,x,f,b,rfl,_⟩:=h;rfl
 ·obtain⟨tl,d,sa,x,f,b,rfl,R,bd,g,hx,kk⟩:=h;have HU:=Yr hr;have h4:d.length<=4:=by have:=g.len;rwa[aa]at this
  have af:∀N∈d.map (·.2),N.length<=4:=λN h=>(g.st N h).len;have ne:∀N∈d.map (·.2),N≠[]:=λN h=>(g.st N h).ne;have hx3:=zcO af hx;have be:lacks (d.map (·.2)) x=true:=(zdx hx).1;refine yW ?_;intro XX;let q1:Sq XX ((zq yJ).drop 4):=⟨_,zu (zG (zQ (yt K) (zP uB (pv 5) (zY (zf (wW zg) zg))) zr (λ_ _=>rfl)))⟩
  let q2:Sq XX ((zq yJ).drop 3):=⟨_,zm (zcf (i:=5) (show CScopeD (zx yJ) _ "end" ["bad","stand","figure","whole","ends","good"] ["bad"] [0] from ⟨rfl,by decide +kernel,by decide +kernel,rfl,by decide +kernel,rfl,by decide +kernel,by decide +kernel,λ_ _=>rfl,λ_=>rfl⟩) rfl jk.nd rfl (bf rfl) (qj K (pv 4)) (λ_ _ _ _=>(uA (zK (WP K HU) (yD (CScope.re (show CScope _ _ "one" ["end","bad"] ["end"] [0] from {})) rfl (qj K (pv 1)) (λ_ _ _ _=>(uA (zK (Wz K HU) (xZ zeN (pv 0) uz (wR (zA (vY K) (by rfl) T.n_len PySem.boot_len (zf (pv 1) zg)))) (pv 1) (zM _)))) (λ_ _ _ _=>(pv 0))) (zY zg) (zM _)))) (λ_ _ _ _=>(pv 0))) q1.p⟩
  let q3:Sq XX ((zq yJ).drop 2):=⟨_,zm (yw (zK (WP K HU) (yD (show CScope (zx yJ) _ "end" ["bad","stand","figure","whole","ends","good"] ["bad"] [0] from {}) rfl (qj K (pv 4)) (λ_ _ _ _=>(uA (zK (zet K HU) (pv 0) (pv 1) (by with_unfolding_all rfl)))) (λ_ _ _ _=>(pv 0))) (zY zg) (zM _))
    (zu (zG yQ))
    zR) q2.p⟩
  let q4:Sq XX ((zq yJ).drop 1):=⟨_,zm (j0 (i:=4) (show CScope (zx yJ) _ "at" ["bad","stand","figure","whole","ends","good"] ["whole"] [3] from {}) rfl jk.nd rfl (bf rfl) (yL rfl T.n_range (zf (zP wL (zA (vY K) (by rfl) T.n_len PySem.boot_len (zf (pv 3) zg)) zr) zg)) (λ_ _ _ _=>xq) (λ_ _ _ _=>(xZ zeN (pv 1) (wR (pv 0)) uz))) q3.p⟩
  refine⟨_,(zm (zE (i:=3) jk.nd rfl (lK rfl) (zP zhr (pv 1) (wW (zf (pv 2) zg)))) q4.p),?_⟩;refine⟨_,rfl,_,rfl,(by show 1<=aA;decide),λp1 bg=>?_⟩;have m1:=zp bg (o:=.tup [.int f]);refine⟨sa,p1,_,_,rfl,rfl,m1 _ _ bd,zj,by rw[aa];exact aB (show x.length+1<=100 by omega) (by decide),λwa H1 s1 h1=>?_⟩;rw[show x.map V.int++[V.int f]=(x++[(f:Int)]).map V.int by rw[aH];rfl]at h1;have bh:=m1.trans s1;have m:((x++[(f:Int)]).map V.int).length=x.length+1:=by simp
  refine⟨_,rfl,wa,_,rfl,.inr (SqT.of h1),_,_,rfl,rfl,_,rfl,by rw[m];omega,by rw[m];omega,tQ (lo:=0) (n:=((((x++[(f:Int)]).map V.int).length:Nat)+(1:Int)).toNat) (λi r B=>∃k:ZB,r=k.map (λt=>V.ref t.1)/\k.map (·.2)=(bJ i).map (x++[(f:Int)]).drop/\(∀t∈k,B t.1=some (.tup (t.2.map V.int)))/\Same H1 B) ⟨[],rfl,rfl,by simp,Same.refl _⟩ ?_ ?_⟩
  ·rintro i r B O ⟨k,rfl,J,he,C⟩;refine⟨by have:=congrArg cB J;rw[aa,aa,cg]at this;rw[aa,this];exact aR (show i<=10 by rw[m]at O;omega) (by decide),?_⟩;unfold Zr;dsimp only;rw[if_pos rfl];refine⟨_,rfl,_,rfl,_,rfl,wa,_,rfl,C _ _ h1,λp3 H3 s3 h3=>?_⟩;rw[eG,zfk]at h3;refine⟨k++[(p3,(x++[(f:Int)]).drop i)],by simp,by rw[aH,J,dY,aH];rfl,λt M=>?_,C.trans s3⟩;rcases aZ.mp M with h | h
   ·exact s3 _ _ (he t h)
   ·rw[bu.mp h];exact h3
  rintro r H2 ⟨k,rfl,J,he,s2⟩ S bj;rw[show ((((x++[(f:Int)]).map V.int).length:Nat)+(1:Int)).toNat=(x++[(f:Int)]).length+1 by rw[m,aF,aX];omega]at J;have J:k.map (·.2)=ends (x++[(f:Int)]):=J;have U:k.length<=10:=by
   have:=congrArg cB J;unfold ends at this;rw[aa,aa,cg,aF,aX]at this;omega
  have m3:=zp bj (o:=.lst (k.map λt=>V.ref t.1));have W:=(bh.trans s2).trans m3;have E3:TupsAt (upd H2 S (.lst (k.map λt=>V.ref t.1))) S k:=⟨zj,λt h=>m3 _ _ (he t h)⟩
  generalize upd H2 S (.lst (k.map λt=>V.ref t.1))=H3 at W E3;have R3:=R.same W;refine⟨_,rfl,S,rfl,⟨_,SqL.of E3.li⟩,yK (K:=K) (a:=S) (xs:=k.map λt=>V.ref t.1) (λi r B=>r=((k.take i).filter λt=>decide (t.2∈d.map (·.2))).map (λt=>V.ref t.1)/\Same H3 B) ⟨by simp,Same.refl _⟩ (λi r B _ ⟨_,e⟩=>SqL.of (e _ _ E3.li)) ?_ ?_⟩
  ·rintro i v r B O ⟨rfl,C⟩;rw[ao]at O;obtain⟨t,F,e⟩:=aY.mp O;subst e;have X:=aL F;have Y:=R3.same C;refine⟨by rw[aa];exact aR (aB (dO _ _) (by rw[bA];exact show min i k.length<=10 by omega)) (by decide),?_⟩;refine⟨_,rfl,_,rfl,tl,_,(d.map (·.2)).map ux,ux t.2,rfl,SqL.of Y.li,TrsAt.tups Y.st,TrAt.tupI (C _ _ (E3.st t X)),aB (Zg _) (by decide),_,rfl,?_⟩;rw[if_neg bc,zhe,bY,F,iK,fc,oh,BV];by_cases hq:t.2∈d.map (·.2)
   ·rw[decide_eq_true hq];exact yz ⟨_,rfl,by rw[if_pos rfl,aH];rfl,C⟩
   ·rw[decide_eq_false hq];exact yG ⟨by rw[if_neg bc,dJ],C⟩
  rintro r H4 ⟨rfl,s4⟩ D9 ah;rw[aa,bT];refine⟨(by decide:0<=aA),λp0 G=>?_⟩;generalize y:(k.filter λt=>decide (t.2∈d.map (·.2)))=l at ah G;have ma:=zp ah (o:=.lst (l.map λz=>V.ref z.1));have mb:=zp G (o:=.lst []);have Z:=s4.trans (ma.trans mb);refine⟨.lst ((l.map (·.2)).map ux),.lst [],?_,?_,(by rw[vP];have:=Zg (l.map (·.2));omega),_,rfl,?_⟩
  ·rw[TrAt];exact⟨D9,_,rfl,SqL.of (mb _ _ zj),TrsAt.tups λz hz=>Z _ _ (E3.st z (by rw[<-y]at hz;exact (dm.mp hz).1))⟩
  ·rw[TrAt];exact⟨p0,_,rfl,SqL.of zj,by rw[TrsAt]⟩
  show if (!teq (.lst ((l.map (·.2)).map ux)) (.lst []))=true then _ else _;rw[Qc];have hk:(!((l.map (·.2)).map ux).isEmpty)=!lacks (d.map (·.2)) (x++[(f:Int)]):=by
   have q:=zhv ne (f:Int) be;cases hL:lacks (d.map (·.2)) (x++[(f:Int)]) with
   |false=>
    obtain⟨e,h1,h2⟩:=q.mpr hL;rw[<-J]at h1;obtain⟨t,M,rfl⟩:=aQ.mp h1;have:t∈l:=by rw[<-y];exact dm.mpr ⟨M,decide_eq_true h2⟩
    cases l with
    |nil=>cases this
    |cons _ _=>rfl
   |true=>
    cases l with
    |nil=>rfl
    |cons t ks'=>
     exfalso;have M:t∈k.filter λt=>decide (t.2∈d.map (·.2)):=by rw[y];exact bI
     have M:=dm.mp M;have:=q.mp ⟨t.2,by rw[<-J];exact aQ.mpr ⟨t,M.1,rfl⟩,of_decide_eq_true M.2⟩;rw[hL]at this;cases this
  rw[hk];have L:=W.trans Z;have E4:=E3.same Z;generalize upd (upd H4 D9 (.lst (l.map λz=>V.ref z.1))) p0 (.lst [])=Ha at L E4;have R4:=R.same L;cases hL:lacks (d.map (·.2)) (x++[(f:Int)]) with
  |false=>
   refine yz (kk _ _ L ?_);unfold aft;rw[if_neg (by rw[hL];exact bc)];rfl
  |true=>
  refine yG ?_;refine⟨_,rfl,S,rfl,⟨_,SqL.of E4.li⟩,yK (K:=K) (a:=S) (xs:=k.map λt=>V.ref t.1) (λi r B=>r=((k.take i).filter λt=>tG (d.map (·.2)) t.2).map (λt=>V.ref t.1)/\Same Ha B) ⟨by simp,Same.refl _⟩ (λi r B _ ⟨_,e⟩=>SqL.of (e _ _ E4.li)) ?_ ?_⟩
  ·rintro i v r B O ⟨rfl,C⟩;rw[ao]at O;obtain⟨t,F,e⟩:=aY.mp O;subst e;have X:=aL F;have Y:=R4.same C;refine⟨by rw[aa];exact aR (aB (dO _ _) (by rw[bA];exact show min i k.length<=10 by omega)) (by decide),?_⟩;refine⟨_,rfl,tl,rfl,⟨_,SqL.of Y.li⟩,yK (K:=K) (a:=tl) (xs:=d.map λt=>V.ref t.1) (λj us Hd=>us=((d.take j).filter λz=>decide (z.2.take t.2.length=t.2)).map (λz=>V.ref z.1)/\Same B Hd) ⟨by simp,Same.refl _⟩ (λj us Hd _ ⟨_,e⟩=>SqL.of (e _ _ Y.li)) ?_ ?_⟩
   ·rintro j u us Hd hj ⟨rfl,sd⟩;rw[ao]at hj;obtain⟨z,ak,e⟩:=aY.mp hj;subst e;have bk:=aL ak;refine⟨by rw[aa];exact aR (aB (dO _ _) (by rw[bA];exact show min j d.length<=10 by omega)) (by decide),?_⟩;have al:=sd _ _ (C _ _ (E4.st t X));refine⟨_,rfl,_,rfl,t.1,_,rfl,.inr (SqT.of al),_,rfl,z.1,_,rfl,sd _ _ (Y.st z bk),λp4 H5 s5 h5=>?_⟩;rw[aa,zeY]at h5;refine⟨_,rfl,ux (z.2.take t.2.length),ux t.2,TrAt.tupI h5,TrAt.tupI (s5 _ _ al),(by rw[zaH];decide),_,rfl,?_⟩;show if teq (ux (z.2.take t.2.length)) (ux t.2)=true then _ else _;rw[zcM,bY,ak,iK,fc,oh,BV];by_cases hq:z.2.take t.2.length=t.2
    ·rw[decide_eq_true hq];exact yz ⟨_,rfl,by rw[if_pos rfl,aH];rfl,sd.trans s5⟩
    ·rw[decide_eq_false hq];exact yG ⟨by rw[if_neg bc,dJ],sd.trans s5⟩
   ·rintro us Hd ⟨rfl,sd⟩ D4 an;rw[aa,bT];refine⟨(by decide:0<=aA),λp0 G=>?_⟩;generalize y:(d.filter λz=>decide (z.2.take t.2.length=t.2))=l at an G;have m4:=zp an (o:=.lst (l.map λz=>V.ref z.1));have m5:=zp G (o:=.lst []);have sE:=sd.trans (m4.trans m5);refine⟨.lst ((l.map (·.2)).map ux),.lst [],?_,?_,(by rw[vP];have:=Zg (l.map (·.2));omega),_,rfl,?_⟩
    ·rw[TrAt];exact⟨D4,_,rfl,SqL.of (m5 _ _ zj),TrsAt.tups λz hz=>sE _ _ (Y.st z (by rw[<-y]at hz;exact (dm.mp hz).1))⟩
    ·rw[TrAt];exact⟨p0,_,rfl,SqL.of zj,by rw[TrsAt]⟩
    show if (!teq (.lst ((l.map (·.2)).map ux)) (.lst []))=true then _ else _;have hb:tG (d.map (·.2)) t.2=!((l.map (·.2)).map ux).isEmpty:=by
     unfold tG;rw[pA,<-y,cH];simp[cX,List.isEmpty_iff]
    rw[Qc,<-hb,bY,F,iK,fc,oh,BV];cases tG (d.map (·.2)) t.2 with
    |true=>exact yz ⟨_,rfl,by rw[if_pos rfl,aH];rfl,C.trans sE⟩
    |false=>exact yG ⟨by rw[if_neg bc,dJ],C.trans sE⟩
  rintro r H5 ⟨rfl,s5⟩ gl ap;rw[aa,bT];generalize I:(k.filter λt=>tG (d.map (·.2)) t.2)=gs at ap;have hgl10:gs.length<=10:=by rw[<-I];exact aB (dO _ _) U
  have m5:=zp ap (o:=.lst (gs.map λt=>V.ref t.1));refine⟨_,rfl,(by decide:0<=aA),λe0 bm=>?_⟩;have m6:=zp bm (o:=.tup []);refine⟨(by show 1<=aA;decide),λp5 bn=>?_⟩;have m7:=zp bn (o:=.lst [.ref e0]);refine⟨gl,p5,_,_,rfl,rfl,m7 _ _ (m6 _ _ zj),zj,by rw[aa];exact aB (show gs.length+1<=100 by omega) (by decide),λp6 bp=>?_⟩;have m8:=zp bp (o:=.lst (gs.map (λt=>V.ref t.1)++[.ref e0]));have ar:=s5.trans (m5.trans (m6.trans (m7.trans m8)));have hh:=zfi (ls:=d.map (·.2)) (x++[(f:Int)]);rw[<-show (gs++[((e0,[]):au×List Int)]).map (·.2)=(ends (x++[(f:Int)])).filter (tG (d.map (·.2)))++[[]] by rw[aH,<-J,BR,<-I];rfl,List.head?_map,List.head?_eq_getElem?]at hh;obtain⟨c,as,bq⟩:=aY.mp hh;refine⟨p6,_,_,.ref c.1,rfl,rfl,SqL.of zj,yZ (j:=0) (by rw[show gs.map (λt=>V.ref t.1)++[V.ref e0]=(gs++[((e0,[]):au×List Int)]).map λt=>V.ref t.1 by rw[aH];rfl,ao,as];rfl),kk _ _ (L.trans ar) ?_⟩;unfold aft;rw[if_pos hL];refine⟨c.1,rfl,?_⟩;rw[<-bq];rcases aZ.mp (aL as) with h | h
  ·exact ar _ _ (E4.st c (by rw[<-I]at h;exact (dm.mp h).1))
  ·rw[bu.mp h];exact m8 _ _ (m7 _ _ zj)
end
theorem QS(ne:∀l∈ls,l≠[])(h:aft ls x c=some y):lacks ls (x++[c])=true/\y=zW ls (x++[c])/\YC ls y:=by
 unfold aft at h;by_cases a:lacks ls (x++[c])=true
 ·rw[if_pos a]at h;cases h
  exact⟨a,rfl,j9 ne a⟩
 ·rw[if_neg a]at h;cases h
theorem zdb{κ:Type}[DecidableEq κ]{k:κ}{v:V}:∀{kvs:List (κ×V)},xn kvs k=some v->(k,v)∈kvs
 |[],h=>by cases h
 |p::r,h=>by
  by_cases e:p.1=k
  ·rw[vQ e]at h;cases h
   rw[<-e];exact bI
  ·rw[vX e]at h;exact bQ _ (zdb h)
theorem zht(W:Nat->L2.St->Hp->Prop)(m:Nat)(h0:W m Z H)(hs:∀m Z H,W m Z H->c Z H λb H1=>if b=true then tb { D with nx:=fun σ' H'=>∃m',m'<m/\W m' σ' H',ct:=fun σ' H'=>∃m',m'<m/\W m' σ' H',bk:=D.nx } Z H1 else D.nx Z H1)(mono:∀Z H Q Q',(∀b H1,Q b H1->Q' b H1)->c Z H Q->c Z H Q'):zdV c tb D Z H:=by
 refine⟨W,⟨m,h0⟩,λm Z H a=>mono Z H _ _ (λb H1 q=>?_) (hs m Z H a)⟩;cases b with
 |true=>exact yz ⟨_,λ_ _ h=>h,by simpa using q⟩
 |false=>exact yG (by simpa using q)
theorem zaE{α:Type}(f:α->Nat):∀l:List α,(l.map λr=>((f r:Nat):Int)).sum=(((l.map f).sum:Nat):Int)
 |[]=>rfl
 |a::l=>by rw[bC,HS,bC,HS,zaE f l,fV]
theorem zaR:∀(more kvs:List (List Key×V)),((kvs++more).map (·.1)).Nodup->Z8 kvs more=kvs++more
 |[],kvs,_=>by simp[Z8]
 |m::more,kvs,h=>by
  have hn:xn kvs m.1=none:=by
   cases e:xn kvs m.1 with
   |none=>rfl
   |some v=>
    exfalso;have a:=zeq e;rw[aH,bC]at h;exact (kj.mp h).2.2 m.1 a m.1 bI rfl
  show Z8 (putK kvs m.1 m.2) more=_;rw[XS _ hn,zaR more _ (by rw[fC];exact h),fC];rfl
theorem QT{κ:Type}[DecidableEq κ]{k:κ}:∀{kvs:List (κ×V)},k∈kvs.map (·.1)->∃v,xn kvs k=some v/\(k,v)∈kvs
 |[],h=>nomatch h
 |p::r,h=>by
  by_cases e:p.1=k
  ·exact⟨p.2,vQ e,by rw[<-e];exact bI⟩
  ·rw[bC,aW]at h;obtain⟨v,h1,h2⟩:=QT (h.resolve_left λz=>e z.symm);exact⟨v,by rw[vX e];exact h1,bQ _ h2⟩
def Vv(ls:ZA)(x:List Int)(a n:Nat):ZA:=(bJ n).filterMap λi=>aft ls x ((a+i:Nat):Int)
theorem za1(ls:ZA)(x:List Int)(a n:Nat):Vv ls x a (n+1)=Vv ls x a n++(aft ls x ((a+n:Nat):Int)).toList:=by
 unfold Vv;rw[dY,List.filterMap_append];congr 1
theorem zhw(ne:∀l∈ls,l≠[])(h:y∈Vv ls x a n):YC ls y:=by
 obtain⟨c,_,e⟩:=dW.mp h;exact (QS ne e).2.2
theorem Xq(ls:ZA)(x:List Int)(a n:Nat):(Vv ls x a n).length<=n:=aB (List.length_filterMap_le ..) (by rw[cg];exact aq _)
theorem zcF(ls:ZA)(b t:Nat)(x:List Int)(a:Nat):∀n,((Vv ls x a n).map (cnt ls b t)).sum=vO ls b t x a n
 |0=>rfl
 |n+1=>by
  rw[za1,aH,iT,zcF ls b t x a n,qR];congr 1;unfold aft Z9;by_cases h:lacks ls (x++[((a+n:Nat):Int)])=true
  ·rw[if_pos h];dsimp only;rw[if_pos h];simp
  ·rw[if_neg h];dsimp only;rw[if_neg h];simp
def AftL(H:Hp)(ls:ZA)(x:List Int)(a:Nat)(us:List V):Prop:=∀i v,us[i]?=some v->AftV H (aft ls x ((a+i:Nat):Int)) v
theorem AftL.same(h:AftL H ls x a us)(s:∀b xs,H b=some (.tup xs)->H' b=some (.tup xs)):AftL H' ls x a us:=λi v e=>(h i v e).same s
theorem XH{K:aK}{tt:TT}(hl:H la=some (.lst us))(A:AftL H ls x a us)(hn:us.length<=100)(ht:∀v (R:Bool->Hp->Prop),R (!decide (v=V.non)) H->tt (some v::tU js Z) H R)(F:au×List Int->V)(he:∀e:au×List Int,e.2∈Vv ls x a us.length->H e.1=some (.tup (e.2.map V.int))->∀R:V->Hp->Prop,R (F e) H->te (some (.ref e.1)::tU js Z) H R)(hd:∀es:ZB,(∀e∈es,H e.1=some (.tup (e.2.map V.int)))->es.map (·.2)=Vv ls x a us.length->∀D,H D=none->Q (.ref D) (upd H D (.lst (es.map F)))):CompLoop (Itl K la) js tt te Z Q H:=by
 let n:Nat->List V->L2.Hp->Prop:=λi c d=>∃es:ZB,An4 (c=es.map F) ((∀e∈es,H e.1=some (.tup (e.2.map V.int)))) (es.map (·.2)=Vv ls x a i) (d=H);refine yK n ⟨[],rfl,(λe h=>nomatch h),rfl,rfl⟩ (λi c d _ ⟨_,_,_,_,e⟩=>by rw[e];exact SqL.of hl) ?_ ?_
 ·rintro i v c d l ⟨es,rfl,f,b,rfl⟩;have k:=(aV.mp l).1;refine⟨by have:=congrArg cB b;have h3:=Xq ls x a i;rw[aa]at this ⊢;exact aR (show es.length<=100 by omega) (by decide),ht v _ ?_⟩;have g:=A i v l;have j:=za1 ls x a i;cases ha:aft ls x ((a+i:Nat)) with
  |none=>
   rw[ha]at g j;obtain rfl:v=.non:=g;exact qJ (by rfl) ⟨es,rfl,f,by rw[b,j];simp,rfl⟩
  |some y=>
   rw[ha]at g j;obtain⟨p,rfl,m⟩:=g;refine Yq (by rfl) (he (p,y) ?_ m _ ⟨es++[(p,y)],by simp,λe h=>?_,by rw[aH,b,j];rfl,rfl⟩)
   ·exact dW.mpr ⟨i,cI.mpr k,ha⟩
   ·rcases aZ.mp h with h | h
    ·exact f e h
    ·rw[bu.mp h];exact m
 ·rintro c d ⟨es,rfl,f,b,rfl⟩ D o;exact hd es f b D o
theorem QF{es:ZB}(h:es.map (·.2)=Vv ls x a n):(es.map λe=>((cnt ls b t e.2:Nat):Int)).sum=((vO ls b t x a n:Nat):Int):=by
 rw[zaE (λe:au×List Int=>cnt ls b t e.2),<-zcF,<-h,cC];rfl
theorem zhS[DecidableEq κ](nd:(kvs.map (·.1)).Nodup){kv:κ×V}{j:Nat}(h:kvs[j]?=some kv):xn kvs kv.1=some kv.2:=by
 obtain⟨v,b,c⟩:=QT (aQ.mpr ⟨kv,aL h,rfl⟩);obtain⟨i,a⟩:=oK c;have d:(kvs.map (·.1))[i]?=some kv.1:=by rw[ao,a];rfl
 have e:(kvs.map (·.1))[j]?=some kv.1:=by rw[ao,h];rfl
 have:=(rF (by rw[aa];exact (aV.mp a).1) nd).mp (d.trans e.symm);rw[this,h]at a;rw[show kv.2=v from congrArg Prod.snd (bN a)];exact b
structure StepAt (H:Hp) (ls:ZA) (n:Nat) (x:List Int) (la:au) (us:List V):Prop where
 li:H la=some (.lst us)
 ln:us.length=n
 ok:AftL H ls x 0 us
theorem StepAt.keep(h:StepAt H ls n x la us)(hl:H' la=H la)(ht:∀c zs,H c=some (.tup zs)->H' c=some (.tup zs)):StepAt H' ls n x la us:=⟨by rw[hl];exact h.li,h.ln,h.ok.same ht⟩
structure StepsD (P:bx) (w:bU) (H:Hp) (fo:au) (ls:ZA) (b:Nat) (kvs:List (List Key×V)):Prop where
 d:DE P w H fo kvs
 nd:(kvs.map (·.1)).Nodup
 ok:∀kv∈kvs,∃x la us,kv.1=kI x/\YC ls x/\kv.2=.ref la/\StepAt H ls b x la us
section
variable {P:bx} {w:bU} {H H':Hp} {fo:au} {ls:ZA} {b:Nat} {kvs:List (List Key×V)}
theorem StepsD.get(s:StepsD P w H fo ls b kvs)(h:xn kvs (kI x)=some v):∃la us,v=.ref la/\YC ls x/\StepAt H ls b x la us:=by
 obtain⟨y,la,us,a,c,d,e⟩:=s.ok _ (zdb h);obtain rfl:=UL a;exact⟨la,us,d,c,e⟩
theorem StepsD.len(s:StepsD P w H fo ls b kvs)(h4:ls.length<=4)(h:∀st∈ls,st.length<=4):kvs.length<=13:=by
 have a:=zgw h4 h;by_cases d:kvs.length<=((zfv ls ls).map kI).length
 ·rw[aa]at d;omega
 ·exfalso;obtain⟨i,j,x,hij,e,c⟩:=zdU (kvs.map (·.1)) ((zfv ls ls).map kI) (λk a=>by
   obtain⟨p,g,rfl⟩:=aQ.mp a;obtain⟨x,la,us,l,m,_⟩:=s.ok p g;exact aQ.mpr ⟨x,zgE.mpr m,l.symm⟩) (by rw[aa (f:=λx:List Key×V=>x.1)];omega)
  have hj:=(aV.mp c).1;have:=(rF (by omega) s.nd).mp (e.trans c.symm);omega
theorem StepsD.keep(s:StepsD P w H fo ls b kvs)(hf:H' fo=H fo)(hl:∀kv∈kvs,∀la,kv.2=.ref la->H' la=H la)(ht:∀c zs,H c=some (.tup zs)->H' c=some (.tup zs)):StepsD P w H' fo ls b kvs :=
 ⟨s.d.stay hf ht,s.nd,λkv a=>let ⟨x,la,us,h1,h2,h3,h4⟩:=s.ok kv a;⟨x,la,us,h1,h2,h3,h4.keep (hl kv a la h3) ht⟩⟩
theorem StepsD.lst(s:StepsD P w H fo ls b kvs)(hk:kv∈kvs)(e:kv.2=.ref la):∃us,H la=some (.lst us):=by
 obtain⟨x,la',us,_,_,a,c⟩:=s.ok kv hk;rw[e]at a;cases a
 exact⟨us,c.li⟩
theorem StepsD.same(s:StepsD P w H fo ls b kvs)(m:Same H H'):StepsD P w H' fo ls b kvs:=by
 have d:=s.d;obtain⟨_,_,e,_⟩:=d;exact s.keep (by rw[e];exact m _ _ e) (λkv a la e=>by
  obtain⟨us,h⟩:=s.lst a e;rw[h];exact m _ _ h) λc zs h=>m _ _ h
theorem StepsD.ne(s:StepsD P w H fo ls b kvs)(h:H c=some u)(hu:∀φ,u≠.ext φ):c≠fo:=λz=>by
 have d:=s.d;obtain⟨_,_,e,_⟩:=d;rw[z,e]at h;cases h
 exact hu _ rfl
theorem StepsD.put(s:StepsD P w H fo ls b kvs)(hn:xn kvs (kI x)=none)(hd:DE P w H' fo (putK kvs (kI x) (.ref la)))(ho:∀c,c≠fo->H' c=H c)(hx:YC ls x)(hs:StepAt H ls b x la us):StepsD P w H' fo ls b (putK kvs (kI x) (.ref la)):=by
 have g:∀c d,H c=some (.tup d)->H' c=some (.tup d):=λc d h=>by rw[ho c (s.ne h λ_ z=>nomatch z)];exact h
 refine⟨hd,zhj _ s.nd hn,λj a=>?_⟩;rw[XS _ hn]at a;rcases aZ.mp a with a | a
 ·obtain⟨y,e,f,k,l,m,i⟩:=s.ok j a;exact⟨y,e,f,k,l,m,i.keep (ho _ (s.ne i.li λ_ z=>nomatch z)) g⟩
 ·rw[bu.mp a];exact⟨x,la,us,rfl,hx,rfl,hs.keep (ho _ (s.ne hs.li λ_ z=>nomatch z)) g⟩
end
def RowD(P:bx)(w:bU)(H:Hp)(a:au)(ls:ZA)(b t:Nat)(M:List Int->Prop):Prop:=∃kr,DE P w H a kr/\∀x,M x->xn kr (kI x)=some (.int ((cnt ls b t x:Nat):Int))
section
variable {P:bx} {w:bU} {H H':Hp} {a ra:au} {rs:List au} {ls:ZA} {b t:Nat} {M:List Int->Prop}
theorem RowD.keep(h:RowD P w H a ls b t M)(ha:H' a=H a)(ht:∀c zs,H c=some (.tup zs)->H' c=some (.tup zs)):RowD P w H' a ls b t M:=let ⟨kr,d,k⟩:=h;⟨kr,d.stay ha ht,k⟩
theorem RowD.ext(h:RowD P w H a ls b t M):∃φ,H a=some (.ext φ):=let ⟨_,⟨_,_,e,_⟩,_⟩:=h;⟨_,e⟩
theorem RowD.same(h:RowD P w H a ls b t M)(m:Same H H'):RowD P w H' a ls b t M:=by
 obtain⟨φ,e⟩:=h.ext;exact h.keep (by rw[e];exact m _ _ e) λc zs q=>m _ _ q
structure RowsD (P:bx) (w:bU) (H:Hp) (ra:au) (rs:List au) (ls:ZA) (b:Nat) (M:List Int->Prop):Prop where
 li:H ra=some (.lst (rs.map V.ref))
 ok:∀(t:Nat) (a:au),rs[t]?=some a->RowD P w H a ls b t M
theorem RowsD.same(h:RowsD P w H ra rs ls b M)(m:Same H H'):RowsD P w H' ra rs ls b M:=⟨m _ _ h.li,λt a e=>(h.ok t a e).same m⟩
end
def ClosedM(ls:ZA)(b:Nat)(M:List Int->Prop):Prop:=M []/\∀x,M x->∀y∈Vv ls x 0 b,M y
section
variable {P:bx} {w:bU} {K:aK} {mg:bZ->Option aD} {base:dj}
structure WaysAt (P:bx) (w:bU) (H:Hp) (fo ra:au) (ls:ZA) (b m:Nat) (kvs:List (List Key×V)) (rs:List au) (M:List Int->Prop):Prop where
 s:StepsD P w H fo ls b kvs
 r:RowsD P w H ra rs ls b M
 l:rs.length=m+1
 c:ClosedM ls b M
 e:∀x,M x↔xn kvs (kI x)≠none
def Yw(P:bx)(w:bU):Sp:=λvs H Q _=>Ex5 λ(r:au) (b:Nat) (bl:au) (zs:ZB) (m:Nat)=>An5 (vs=[.ref r,.int m]) (RuleAt H r b bl zs) (GoodRule b (zs.map (·.2))) (m<=101) (∀wa fo ra kvs rs M H',H' wa=some (.tup [.ref fo,.ref ra])->Same H H'->WaysAt P w H' fo ra (zs.map (·.2)) b m kvs rs M->Q (.ref wa) H')
theorem xH:zF ["rule","most","base","bad","steps","left","stand","rows","more","row"] ["rule","most"] (zx ye):={}
set_option maxHeartbeats 0 in
theorem VR(D:Df K mg "_law_ways" ye Aw f fd)(vh:Df K mg "_law_after" yJ Av f1 fd1)(n_dict:mg "dict"= none)(T:Blt mg)(U:Vk mg):FnOk P w K mg base CX0 2 f fd Aw (Yw P w):=by
 have zcm:FnOk P w K mg base CX0 1 f1 fd1 Av Ww:=zas vh T;refine D.fn.ok xH (λvs H Q E h=>?_) (λcdv A outer s H vs Q E hr h=>?_)
 ·obtain⟨r,b,bl,zs,m,rfl,_⟩:=h;rfl
 ·obtain⟨r,b,bl,zs,m,rfl,R,g,hm,kk⟩:=h;have HU:=Yr hr;have b2:=g.b2;have b16:=g.b16;have h4:(zs.map (·.2)).length<=4:=g.len;have hz4:zs.length<=4:=by have:=h4;rwa[aa]at this
  have hst4:∀st∈zs.map (·.2),st.length<=4:=λst h=>(g.st st h).len;have ne:∀st∈zs.map (·.2),st≠[]:=λst h=>(g.st st h).ne;refine yW ?_;intro XX;let q1:Sq XX ((zq ye).drop 7):=⟨_,zu (zG (wW (zf (pv 4) (zf (pv 7) zg))))⟩
  let q2:Sq XX ((sb (zq ye) 6 true).drop 2):=⟨_,zu (wQ (ZC PySem.F.plainAttrs_list PySem.F.slot_list_append PySem.F.type_list_append wX (pv 7) (zf (pv 9) zg)))⟩
  let q3:Sq XX ((sb (zq ye) 6 true).drop 1):=⟨_,zm (wj bK rfl (zce P w (pv 4)) (zX (i:=6) xH.nd rfl (lK rfl))
     (zu (zbE (vG hr) (pv 9) (pv 6) (zA (zcW K rfl) (by rfl) U.n_sum Fe (zf (yD (show CScope (zx ye) _ "one" ["rule","most","base","bad","steps","left","stand","rows","more","row"] ["rows"] [7] from {}) rfl (qj K (uG P w (vG hr) (pv 4) (pv 6) (λ_ _=>rfl))) (λ_ _ _ _=>(uA (zK jg (pv 0) yQ (zM _)))) (λ_ _ _ _=>(uG P w (vG hr) (zQ (yt K) (pv 1) (Qg Xk zr) (λ_ _=>rfl)) (pv 0) (λ_ _=>rfl)))) zg)) rfl))) q2.p⟩
  let q4:Sq XX ((zq ye).drop 6):=⟨_,zm (wj bK rfl (yL rfl T.n_range (zf (pv 1) zg)) (zX (i:=8) xH.nd rfl (bf rfl))
    (zm (zE (i:=9) xH.nd rfl (bf rfl) zbW) q3.p)) q1.p⟩
  let q5:Sq XX ((zq ye).drop 5):=⟨_,zm (zE (i:=7) xH.nd rfl (lK rfl) (zY (zf (yU (zhy P w K rfl hr.units) (by rfl) n_dict Km (zf (yD (show CScope (zx ye) _ "stand" ["rule","most","base","bad","steps","left","stand","rows","more","row"] [] [] from {}) rfl (zce P w (pv 4)) (λ_ _ _ _=>xq) (λ_ _ _ _=>(wW (zf (pv 0) (zf zr zg))))) zg)) zg))) q4.p⟩
  let q6:Sq XX ((sb (sb (zq ye) 4 true) 1 true).drop 1):=⟨_,zu (wQ (ZC PySem.F.plainAttrs_list PySem.F.slot_list_extend PySem.F.type_list_extend zfq (pv 5) (zf (yD (show CScope (zx ye) _ "one" ["rule","most","base","bad","steps","left","stand","rows","more","row"] [] [] from {}) rfl (qj K (uG P w (vG hr) (pv 4) (pv 6) (λ_ _=>rfl))) (λ_ _ _ _=>(uA (zK jg (pv 0) yQ (zM _)))) (λ_ _ _ _=>(pv 0))) zg)))⟩
  let q7:Sq XX ((sb (zq ye) 4 true).drop 1):=⟨_,zu (yw (ziF (zfc (vG hr) (pv 6) (pv 4)) (by with_unfolding_all rfl))
     (zm (zbE (vG hr) (pv 4) (pv 6) (yD (show CScope (zx ye) _ "figure" ["rule","most","base","bad","steps","left","stand","rows","more","row"] ["bad","stand"] [3,6] from {}) rfl (yL rfl T.n_range (zf (pv 2) zg)) (λ_ _ _ _=>xq) (λ_ _ _ _=>(zL vh zcm (hr.mono (by decide)) (zf (pv 1) (zf (pv 2) (zf (pv 0) zg)))))) rfl) q6.p)
     zR)⟩
  let q8:Sq XX ((zq ye).drop 4):=⟨_,zm (X6 bK (zK (WP K HU) (pv 5) (zY zg) (zM _))
    (zm (zE (i:=6) xH.nd rfl (lK rfl) (ziW PySem.F.plainAttrs_list PySem.F.slot_list_pop PySem.F.type_list_pop ziX (pv 5))) q7.p)) q5.p⟩
  let q9:Sq XX ((zq ye).drop 3):=⟨_,zm (zE (i:=5) xH.nd rfl (bf rfl) (zY (zf (wW zg) zg))) q8.p⟩
  let q10:Sq XX ((zq ye).drop 2):=⟨_,zm (zE (i:=4) xH.nd rfl (bf rfl) zbW) q9.p⟩
  let q11:Sq XX ((zq ye).drop 1):=⟨_,zm (zE (i:=3) xH.nd rfl (lK rfl) (yD (show CScope (zx ye) _ "one" ["rule","most","base","bad","steps","left","stand","rows","more","row"] [] [] from {}) rfl (qj K (zQ (wz K) (pv 0) zr (λ_ _=>rfl))) (λ_ _ _ _=>xq) (λ_ _ _ _=>(yU (zhO K) (by rfl) T.n_tuple pZ (zf (pv 0) zg))))) q10.p⟩
  refine⟨_,(zm (zE (i:=2) xH.nd rfl (bf rfl) (zQ (wz K) (pv 0) zr (λ_ _=>rfl))) q11.p),?_⟩;refine⟨_,rfl,r,_,_,V.int b,rfl,rfl,SqT.of R.tu,rfl,?_⟩;let J2:Nat->List V->L2.Hp->Prop:=λi ys Hc=>∃ts:ZB,An4 (ys=ts.map (λt=>V.ref t.1)) (ts.map (·.2)=(zs.take i).map (·.2)) ((∀t∈ts,Hc t.1=some (.tup (t.2.map V.int)))) (Same H Hc);refine⟨_,rfl,r,_,_,V.ref bl,rfl,rfl,SqT.of R.tu,rfl,bl,rfl,⟨_,SqL.of R.li⟩,yK (K:=K) (a:=bl) (xs:=zs.map λz=>V.ref z.1) J2 ⟨[],rfl,by simp,by simp,Same.refl _⟩ (λi ys Hc _ ⟨_,_,_,_,e⟩=>SqL.of (e _ _ R.li)) ?_ ?_⟩
  ·rintro i x ys Hc hx ⟨ts,rfl,e2,ht,sc⟩;rw[ao]at hx;obtain⟨z,hzj,e⟩:=aY.mp hx;subst e;have hzm:=aL hzj;refine⟨by have:=congrArg cB e2;rw[aa,aa,bA]at this;rw[aa];exact aR (show ts.length<=4 by omega) (by decide),?_⟩;unfold Zr;dsimp only;rw[if_pos rfl];refine⟨_,rfl,z.1,_,rfl,.inl ⟨SqL.of (sc _ _ (R.st z hzm)),λp hp=>?_⟩⟩;have m:=zp hp (o:=.tup (z.2.map V.int));refine⟨ts++[(p,z.2)],by simp,by rw[aH,e2,bY,hzj,aH];rfl,λt ht'=>?_,sc.trans m⟩;rcases aZ.mp ht' with h | h
   ·exact m _ _ (ht t h)
   ·rw[bu.mp h];exact zj
  rintro ys Hc ⟨ts,rfl,e2,ht,sc⟩ tl htl;have mt:=zp htl (o:=.lst (ts.map λt=>V.ref t.1));rw[aa,bT]at e2;have B:TupsAt (upd Hc tl (.lst (ts.map λt=>V.ref t.1))) tl ts:=⟨zj,λt h=>mt _ _ (ht t h)⟩
  have sB:=sc.trans mt;rw[<-e2]at g h4 hst4 ne kk;generalize upd Hc tl (.lst (ts.map λt=>V.ref t.1))=HB at B sB;refine λfo H1 hfo d1 c1=>?_;have s1:Same HB H1:=λc u e=>by rw[c1 c (zz e hfo)];exact e
  refine⟨(by decide:0<=aA),λe0 he0=>⟨(by show 1<=aA;decide),λwa hwa=>?_⟩⟩;have m2:=zp he0 (o:=.tup []);have m3:=zp hwa (o:=.lst [.ref e0]);have hwa0:HB wa=none:=s1.free (m2.free hwa);have S2:StepsD P w (upd (upd H1 e0 (.tup [])) wa (.lst [.ref e0])) fo (ts.map (·.2)) b []:=⟨(d1.same m2).same m3,Ht,λkv hk=>nomatch hk⟩
  have s2:=(s1.trans m2).trans m3;have hw2:(upd (upd H1 e0 (.tup [])) wa (.lst [.ref e0])) wa=some (.lst (([(e0,([]:List Int))]:ZB).map λz=>V.ref z.1)):=zj;have he2:(upd (upd H1 e0 (.tup [])) wa (.lst [.ref e0])) e0=some (.tup (([]:List Int).map V.int)):=m3 _ _ zj;generalize upd (upd H1 e0 (.tup [])) wa (.lst [.ref e0])=H2 at S2 s2 hw2 he2;refine zht (λm' Z Hc=>∃(k:List (List Key×V)) (ws:ZB) (v6:Option V),Z=[some (.ref r),some (.int m),some (.int b),some (.ref tl),some (.ref fo),some (.ref wa),v6,none,none,none]/\StepsD P w Hc fo (ts.map (·.2)) b k/\(∀kv∈k,kv.2≠.ref wa)/\Hc wa=some (.lst (ws.map λz=>V.ref z.1))/\(∀z∈ws,Hc z.1=some (.tup (z.2.map V.int))/\YC (ts.map (·.2)) z.2)/\(∀x,xn k (kI x)≠none->∀y∈Vv (ts.map (·.2)) x 0 b,xn k (kI y)≠none\/y∈ws.map (·.2))/\(xn k (kI [])≠none\/[]∈ws.map (·.2))/\Same HB Hc/\ws.length<=1+16*k.length/\m'=(13-k.length)*17+ws.length) _ ⟨[],[(e0,[])],none,rfl,S2,(λkv hk=>nomatch hk),hw2,(λz hz=>by rw[bu.mp hz];exact⟨he2,.inl rfl⟩),(λx h=>absurd rfl h),.inr (by simp),s2,by simp,rfl⟩ ?_ ?_
  ·rintro m' Z Hc ⟨k,ws,v6,rfl,S,hkw,hwl,hws,hcl,hrt,sc,hwn,rfl⟩;have hk13:=S.len h4 hst4;refine⟨_,rfl,(by decide:0<=aA),λp0 hp0=>?_⟩;have mp:=zp hp0 (o:=.lst []);refine⟨.lst ((ws.map (·.2)).map ux),.lst [],?_,?_,(by rw[vP];have:=Zg (ws.map (·.2));omega),_,rfl,?_⟩
   ·rw[TrAt];exact⟨wa,_,rfl,SqL.of (mp _ _ hwl),TrsAt.tups λz hz=>mp _ _ (hws z hz).1⟩
   ·rw[TrAt];exact⟨p0,_,rfl,SqL.of zj,by rw[TrsAt]⟩
   rw[if_pos rfl,Qc];have Sp:=S.same mp;have hwp:=mp _ _ hwl;have scp:=sc.trans mp;have hwsp:∀z∈ws,(upd Hc p0 (.lst [])) z.1=some (.tup (z.2.map V.int))/\YC (ts.map (·.2)) z.2:=λz hz=>⟨mp _ _ (hws z hz).1,(hws z hz).2⟩
   generalize upd Hc p0 (.lst [])=Hp at Sp hwp scp hwsp;rcases (show ws=[]\/∃(ws':ZB) (z:au×List Int),ws=ws'++[z] by
    rcases List.eq_nil_or_concat ws with h | ⟨a,b,h⟩
    ·exact .inl h
    ·exact .inr ⟨a,b,by rw[h,List.concat_eq_append]⟩) with rfl | ⟨ws',z,rfl⟩
   ·refine yG ?_;have hcl:∀x,xn k (kI x)≠none->∀y∈Vv (ts.map (·.2)) x 0 b,xn k (kI y)≠none:=λx hx y hy=>(hcl x hx y hy).resolve_right (by simp);have hrt:=hrt.resolve_right (by simp);have s1:=sB.trans scp;obtain⟨M,eM⟩:∃M:List Int->Prop,M=λx=>xn k (kI x)≠none:=⟨_,rfl⟩
    have CM:ClosedM (ts.map (·.2)) b M:=by rw[eM];exact⟨hrt,hcl⟩
    have hin:∀{x},M x->kI x∈k.map (·.1):=λ{x} hx=>by
     rw[eM]at hx;cases e:xn k (kI x) with
     |none=>exact absurd e hx
     |some v=>exact zeq e
    refine⟨_,rfl,zeS Sp.d (λi ys Hc=>∃(qs:List au) (ks:List (List Key×V)),ys=qs.map V.ref/\Paired (λt (kv:List Key×V)=>∃b,Hc t=some (.tup [.ref b,kv.2])/\Hc b=some (.tup (kv.1.map kV))) qs ks/\ks.map (·.1)=(k.map (·.1)).take i/\(∀kv∈ks,kv.2=.int 1)/\Same Hp Hc) ⟨[],[],rfl,.nil,rfl,(λkv h=>nomatch h),Same.refl _⟩ (λi ys Hc _ ⟨_,_,_,_,_,_,e⟩=>?_) ?_ ?_⟩
    ·have d:=Sp.d;obtain⟨_,_,e1,_⟩:=d;exact⟨by rw[e1];exact e _ _ e1,λc us q=>e _ _ q⟩
    ·rintro i kv p ys Hc hkv hp ⟨qs,ks,rfl,hpt,ek,hks,sc⟩;have hlen:qs.length=ks.length:=Paired.length hpt;have hkl:ks.length<=13:=by have:=congrArg cB ek;rw[aa,bA,aa]at this;omega
     refine⟨by rw[aa,hlen];exact aR (show ks.length<=100 by omega) (by decide),?_⟩;unfold Zr;dsimp only;rw[if_pos rfl];refine⟨_,rfl,(by show 2<=aA;decide),λt2 ht2=>?_⟩;have m2:=zp ht2 (o:=.tup [.ref p,.int 1]);refine⟨qs++[t2],ks++[(kv.1,.int 1)],by rw[aH];rfl,Paired.snoc (Paired.mapP hpt λt kv ⟨b,q1,q2⟩=>⟨b,m2 _ _ q1,m2 _ _ q2⟩) ⟨p,zj,m2 _ _ hp⟩,?_,λkv' h=>?_,sc.trans m2⟩
     ·rw[aH,ek,bY,ao,hkv];rfl
     ·rcases aZ.mp h with h | h
      ·exact hks kv' h
      ·rw[bu.mp h]
    rintro ys Hc ⟨qs,ks,rfl,hpt,ek,hks,sc⟩ D0 hD0;have mD:=zp hD0 (o:=.lst (qs.map V.ref));have sD:=sc.trans mD;rw[<-aa (f:=λx:List Key×V=>x.1),bT]at ek;have eK:Z8 [] ks=ks:=by rw[zaR ks [] (by rw[oR,ek];exact Sp.nd)];rfl
    refine⟨D0,qs,ks,rfl,SqL.of zj,Paired.mapP hpt λt kv ⟨b,q1,q2⟩=>⟨b,SqT.of (mD _ _ q1),mD _ _ q2⟩,λr0 H3 hr0 d3 c3=>?_⟩;rw[eK]at d3;have m3:Same (upd Hc D0 (.lst (qs.map V.ref))) H3:=λc u e=>by rw[c3 c (zz e hr0)];exact e
    have s13:=sD.trans m3;have Row3:RowD P w H3 r0 (ts.map (·.2)) b 0 M:=⟨ks,d3,λx hx=>by
     obtain⟨v,e1,e2⟩:=QT (show kI x∈ks.map (·.1) by rw[ek];exact hin hx);rw[e1,show v=.int 1 from hks _ e2];rfl⟩
    refine⟨(by show 1<=aA;decide),λra hra=>?_⟩;have m4:=zp hra (o:=.lst [.ref r0]);have s14:=s13.trans m4;have hra0:H ra=none:=(s1.trans s13).free hra;have hkr:∀kv∈k,kv.2≠.ref ra:=λkv hk e=>by
     obtain⟨us,h⟩:=Sp.lst hk e;have:=s13 _ _ h;rw[hra]at this;cases this
    have Rows4:RowsD P w (upd H3 ra (.lst [.ref r0])) ra [r0] (ts.map (·.2)) b M:=⟨zj,λt a e=>by
     cases t with
     |zero=>cases e;exact Row3.same m4
     |succ t=>cases e⟩
    have S4:=Sp.same s14;have s04:=s1.trans s14;generalize upd H3 ra (.lst [.ref r0])=H4 at Rows4 S4 s04;refine⟨_,rfl,_,rfl,by omega,by omega,?_⟩;rw[dU];let J3:Nat->L2.St->L2.Hp->Prop:=λi Z Hc=>Ex4 λ(rs:List au) (v6:Option V) (v8:Option V) (v9:Option V)=>An5 (Z=[some (.ref r),some (.int m),some (.int b),some (.ref tl),some (.ref fo),some (.ref wa),v6,some (.ref ra),v8,v9]) (rs.length=i+1) (RowsD P w Hc ra rs (ts.map (·.2)) b M) (StepsD P w Hc fo (ts.map (·.2)) b k) (Same H Hc);refine xj (lo:=0) (n:=m) J3 ⟨[r0],v6,none,none,rfl,rfl,Rows4,S4,s04⟩ ?_ ?_
    ·rintro i Z Hc hi ⟨rs,v6,v8,v9,rfl,hrl,Rw,S,sc⟩;refine λrw0 H5 hrw d5 c5=>?_;have m5:Same Hc H5:=λc u e=>by rw[c5 c (zz e hrw)];exact e
     have S5:=S.same m5;have Rw5:=Rw.same m5;obtain⟨lr,hlr2⟩:∃lr,rs[i]?=some lr:=⟨_,aj (by omega)⟩
     have hlast:atI (rs.map V.ref) (-1)=some (.ref lr):=by
      unfold atI;rw[aa,hrl];unfold ixN;rw[if_neg (by omega),if_pos (by omega)];show (rs.map V.ref)[(-1+((i+1:Nat):Int)).toNat]?=_;rw[show (-1+((i+1:Nat):Int)).toNat=i by omega,ao,hlr2];rfl
     have hne:∀{c:au} {u:HO},Hc c=some u->c≠rw0:=λe z=>by rw[z,hrw]at e;cases e
     have hrwfo:fo≠rw0:=by
      have d:=S.d;obtain⟨_,_,e2,_⟩:=d;exact hne e2
     have nlst:∀{c:au} {us:List V},H5 c=some (.lst us)->c≠rw0:=λ{c us} h z=>by
      obtain⟨_,_,e,_⟩:=d5;rw[z,e]at h;cases h
     have Sd:∀{Hd:L2.Hp},(∀c u,c≠rw0->H5 c=some u->Hd c=some u)->StepsD P w Hd fo (ts.map (·.2)) b k:=λ{Hd} sd=>by
      have d:=S5.d;obtain⟨_,_,e1,_⟩:=d;exact S5.keep (by rw[e1];exact sd _ _ hrwfo e1) (λkv hk la e=>by
       obtain⟨us,h⟩:=S5.lst hk e;rw[h];exact sd _ _ (nlst h) h) λc us q=>sd _ _ (d5.ne q) q
     have Ld:∀{Hd:L2.Hp},(∀c u,c≠rw0->H5 c=some u->Hd c=some u)->∀t a,rs[t]?=some a->RowD P w Hd a (ts.map (·.2)) b t M:=λ{Hd} sd t a e=>by
      have L5:=Rw5.ok t a e;obtain⟨φ,e1⟩:=L5.ext;obtain⟨φ',e2⟩:=(Rw.ok t a e).ext;exact L5.keep (by rw[e1];exact sd _ _ (hne e2) e1) λc us q=>sd _ _ (d5.ne q) q
     refine⟨_,rfl,zgG S5.d (λj Z Hd=>∃(kr:List (List Key×V)) (v6:Option V),Z=[some (.ref r),some (.int m),some (.int b),some (.ref tl),some (.ref fo),some (.ref wa),v6,some (.ref ra),some (.int (0+(i:Int))),some (.ref rw0)]/\DE P w Hd rw0 kr/\kr.length<=j/\(∀kv∈k.take j,∀x,kv.1=kI x->xn kr (kI x)=some (.int ((cnt (ts.map (·.2)) b (i+1) x:Nat):Int)))/\(∀c u,c≠rw0->H5 c=some u->Hd c=some u)) ⟨[],v6,rfl,d5,bw _,(λkv h=>by simp at h),λc u _ e=>e⟩ (λj Z Hd _ ⟨_,_,_,_,_,_,e⟩=>?_) ?_ ?_⟩
     ·have d:=S5.d;obtain⟨_,_,e1,_⟩:=d;exact⟨by rw[e1];exact e _ _ hrwfo e1,λc us q=>e _ _ (d5.ne q) q⟩
     ·rintro j kv p Z Hd hkv hp ⟨kr,v6,rfl,dd,hkrl,hkr',sd⟩;have hj:j<k.length:=(aV.mp hkv).1;have Sd:=Sd sd;obtain⟨x,la,us,ex,hx,ela,Std⟩:=Sd.ok kv (aL hkv);have hv:=zhS S5.nd hkv;rw[ex,ela]at hv;rw[ex]at hp;have Mx:M x:=by rw[eM];show xn k (kI x)≠none;rw[hv];simp
      have hrd:Hd ra=some (.lst (rs.map V.ref)):=sd _ _ (nlst Rw5.li) Rw5.li;obtain⟨kr2,d2,k2⟩:=Ld sd i lr hlr2;refine⟨_,rfl,_,rfl,fo,k,kI x,p,.ref la,rfl,Sd.d,rfl,hp,hv,la,rfl,⟨_,SqL.of Std.li⟩,XH Std.li Std.ok (by rw[Std.ln];omega) (λv R r=>⟨_,rfl,rfl,_,rfl,r⟩) (λe=>.int ((cnt (ts.map (·.2)) b i e.2:Nat):Int)) (λe he hp R r=>?_) λes _ hes D1 hD1=>?_⟩
      ·rw[Std.ln]at he;exact⟨_,rfl,_,rfl,ra,_,_,.ref lr,rfl,rfl,SqL.of hrd,hlast,_,rfl,lr,kr2,kI e.2,e.1,_,rfl,d2,rfl,by rw[Yg];exact hp,k2 _ (CM.2 x Mx _ he),r⟩
      rw[Std.ln]at hes;rw[show (es.map λe=>V.int ((cnt (ts.map (·.2)) b i e.2:Nat):Int))=(es.map λe=>((cnt (ts.map (·.2)) b i e.2:Nat):Int)).map V.int by rw[cC];rfl];have n1:=zp hD1 (o:=.lst ((es.map λe=>((cnt (ts.map (·.2)) b i e.2:Nat):Int)).map V.int));refine⟨D1,_,rfl,SqL.of zj,?_⟩;rw[QF hes,qg,zaI];generalize upd Hd D1 (.lst ((es.map λe=>((cnt (ts.map (·.2)) b i e.2:Nat):Int)).map V.int))=He at n1;refine⟨_,rfl,_,rfl,rw0,kr,kI x,p,rfl,dd.same n1,rfl,n1 _ _ hp,aR (show kr.length<=100 by omega) (by decide),λHk dk ck=>?_⟩;refine⟨_,_,rfl,dk,by have:=Xr kr (kI x) (.int ((cnt (ts.map (·.2)) b (i+1) x:Nat):Int));omega,λkv' hkv' x' ex'=>?_,λc u hc e=>by rw[ck c hc];exact n1 _ _ (sd c u hc e)⟩;rw[Vx];by_cases hxx:kI x'=kI x
      ·obtain rfl:=UL hxx;rw[if_pos rfl]
      ·rw[if_neg hxx];rw[bY,hkv]at hkv';rcases aZ.mp hkv' with h | h
       ·exact hkr' kv' h x' ex'
       ·have h:kv'=kv:=by simpa using h
        rw[h]at ex';exact absurd (ex'.symm.trans ex) hxx
     ·rintro Z Hd ⟨kr,v6,rfl,dd,hkrl,hkr',sd⟩;have hrd:Hd ra=some (.lst (rs.map V.ref)):=sd _ _ (nlst Rw5.li) Rw5.li;refine⟨_,rfl,.inl ⟨rfl,_,SqL.of hrd⟩,_,rfl,ra,_,_,rfl,rfl,hrd,by rw[aa];exact aR (show rs.length<=200 by omega) (by decide),?_⟩;have ktr:∀c us,Hd c=some (.tup us)->(upd Hd ra (.lst (rs.map V.ref++[.ref rw0]))) c=some (.tup us):=λc us q=>by rw[zy (λz=>by rw[z,hrd]at q;cases q)];exact q
      have ker:∀{c:au} {φ},Hd c=some (.ext φ)->(upd Hd ra (.lst (rs.map V.ref++[.ref rw0]))) c=Hd c:=λ{c φ} q=>zy λz=>by rw[z,hrd]at q;cases q
      have s6:Same H (upd Hd ra (.lst (rs.map V.ref++[.ref rw0]))):=λc u e=>by
       rw[zy (zz e hra0)];exact sd c u (hne (sc _ _ e)) (m5 _ _ (sc _ _ e))
      have Row6:∀t a,(rs++[rw0])[t]?=some a->RowD P w (upd Hd ra (.lst (rs.map V.ref++[.ref rw0]))) a (ts.map (·.2)) b t M:=λt a e=>by
       by_cases ht:t<rs.length
       ·rw[cU ht]at e;have L:=Ld sd t a e;obtain⟨φ2,e3⟩:=L.ext;exact L.keep (ker e3) ktr
       ·have hl:=(aV.mp e).1;rw[aF,aX]at hl;have et:t=rs.length:=by omega
        subst et;rw[pD]at e;cases e
        have d:=dd;obtain⟨_,_,e3,_⟩:=d;refine⟨kr,dd.stay (ker e3) ktr,λx hx=>?_⟩;obtain⟨kv,hkv,ekv⟩:=aQ.mp (hin hx);rw[hrl];exact hkr' kv (by rw[bT];exact hkv) x ekv
      have S6:StepsD P w (upd Hd ra (.lst (rs.map V.ref++[.ref rw0]))) fo (ts.map (·.2)) b k:=by
       have S:=Sd sd;have d:=S.d;obtain⟨_,_,e1,_⟩:=d;exact S.keep (ker e1) (λkv hk la e=>zy λz=>hkr kv hk (by rw[e,z])) ktr
      have hr6:(upd Hd ra (.lst (rs.map V.ref++[.ref rw0]))) ra=some (.lst ((rs++[rw0]).map V.ref)):=by rw[zj,aH];rfl
      exact⟨rs++[rw0],_,_,_,rfl,by rw[aF,hrl];rfl,⟨hr6,Row6⟩,S6,s6⟩
    ·rintro Z Hc ⟨rs,v6,v8,v9,rfl,hrl,Rw,S,sc⟩;refine⟨_,rfl,_,rfl,(by show 2<=aA;decide),λwt hwt=>?_⟩;have mw:=zp hwt (o:=.tup [.ref fo,.ref ra]);exact kk wt fo ra k rs M _ zj (sc.trans mw) ⟨S.same mw,Rw.same mw,hrl,CM,λx=>by rw[eM]⟩
   ·have hzst:=(hwsp z (by simp)).2;have hz1:=(hwsp z (by simp)).1;have hfowa:fo≠wa:=λe=>Sp.ne hwp (λ_ z=>nomatch z) e.symm;refine Yq (by simp) ?_;refine⟨_,rfl,.inl ⟨rfl,_,SqL.of hwp⟩,wa,_,.ref z.1,rfl,rfl,hwp,by simp,?_⟩;rw[show ((ws'++[z]).map λz=>V.ref z.1).dropLast=ws'.map λz=>V.ref z.1 by simp];have kt:∀c us,Hp c=some (.tup us)->(upd Hp wa (.lst (ws'.map λz=>V.ref z.1))) c=some (.tup us):=λc us h=>by
     rw[zy (λq=>by rw[q,hwp]at h;cases h)];exact h
    have S3:StepsD P w (upd Hp wa (.lst (ws'.map λz=>V.ref z.1))) fo (ts.map (·.2)) b k:=Sp.keep (zy hfowa) (λkv hk la e=>zy λq=>hkw kv hk (by rw[e,q])) kt;have sc3:Same HB (upd Hp wa (.lst (ws'.map λz=>V.ref z.1))):=λc u e=>by rw[zy (zz e hwa0)];exact scp _ _ e
    have hw3:(upd Hp wa (.lst (ws'.map λz=>V.ref z.1))) wa=some (.lst (ws'.map λz=>V.ref z.1)):=zj;have hws3:∀y∈ws',(upd Hp wa (.lst (ws'.map λz=>V.ref z.1))) y.1=some (.tup (y.2.map V.int))/\YC (ts.map (·.2)) y.2:=λy hy=>⟨kt _ _ (hwsp y (by simp[hy])).1,(hwsp y (by simp[hy])).2⟩
    have hz3:=kt _ _ hz1;generalize upd Hp wa (.lst (ws'.map λz=>V.ref z.1))=H3 at S3 sc3 hw3 hws3 hz3;rw[aF,aX]at hwn;refine⟨_,rfl,_,rfl,fo,k,kI z.2,z.1,rfl,S3.d,rfl,by rw[Yg];exact hz3,_,rfl,?_⟩;cases hv:xn k (kI z.2) with
    |some v=>
     have hin:∀{y:List Int},y∈(ws'++[z]).map (·.2)->xn k (kI y)≠none\/y∈ws'.map (·.2):=λ{y} h=>by
      rw[aH,aZ]at h;rcases h with h | h
      ·exact .inr h
      ·rw[bu.mp h,hv];exact .inl (by simp)
     exact yG ⟨_,by rw[aF,aX];omega,k,ws',_,rfl,S3,hkw,hw3,hws3,λx hx y hy=>(hcl x hx y hy).elim .inl hin,hrt.elim .inl hin,sc3,by omega,rfl⟩
    |none=>
     refine yz ?_;have B3:=B.same sc3;refine⟨_,rfl,_,rfl,by omega,by omega,?_⟩;rw[dU];let J4:Nat->List V->L2.Hp->Prop:=λi us Hd=>An3 (us.length=i) (AftL Hd (ts.map (·.2)) z.2 0 us) (Same H3 Hd);refine tQ (lo:=0) (n:=b) J4 ⟨rfl,(λi v e=>nomatch e),Same.refl _⟩ ?_ ?_
     ·rintro i us Hd hi ⟨hul,ul,sd⟩;refine⟨by rw[hul];exact aR (show i<=100 by omega) (by decide),?_⟩;unfold Zr;dsimp only;rw[if_pos rfl];refine⟨_,rfl,_,rfl,_,rfl,tl,ts,z.1,z.2,i,b,by rw[eG];rfl,B3.same sd,sd _ _ hz3,g,hzst,λv He se av=>⟨by rw[aF,hul];rfl,λj u e=>?_,sd.trans se⟩⟩;have ul':=ul.same λc us e=>se _ _ e;by_cases hj:j<us.length
      ·rw[cU hj]at e;exact ul' j u e
      ·have hl:=(aV.mp e).1;rw[aF,aX]at hl;obtain rfl:j=us.length:=by omega
       rw[pD]at e;cases e
       rw[hul,bO];exact av
     rintro us H4 ⟨hul,ul,s34⟩ la hla;have m4:=zp hla (o:=.lst us);have s37:=s34.trans m4;have St7:StepAt (upd H4 la (.lst us)) (ts.map (·.2)) b z.2 la us:=⟨zj,hul,ul.same λc us e=>m4 _ _ e⟩
     have hlawa:la≠wa:=λe=>by have:=s34 _ _ hw3;rw[<-e,hla]at this;cases this
     generalize upd H4 la (.lst us)=H7 at s37 St7;have S7:=S3.same s37;have hz7:=s37 _ _ hz3;refine⟨_,rfl,_,rfl,fo,k,kI z.2,z.1,rfl,S7.d,rfl,by rw[Yg];exact hz7,aR (show k.length<=100 by omega) (by decide),λH8 d8 c8=>?_⟩;have S8:=S7.put hv d8 c8 hzst St7;have k8:∀{c:au} {u:HO},H7 c=some u->(∀φ,u≠.ext φ)->H8 c=some u:=λ{c u} h hu=>by rw[c8 c (S7.ne h hu)];exact h
     have hw8:=k8 (s37 _ _ hw3) (λ_ z=>nomatch z);have hz8:=k8 hz7 (λ_ z=>nomatch z);have hws8:∀y∈ws',H8 y.1=some (.tup (y.2.map V.int))/\YC (ts.map (·.2)) y.2:=λy hy=>⟨k8 (s37 _ _ (hws3 y hy).1) (λ_ z=>nomatch z),(hws3 y hy).2⟩
     have sc8:Same HB H8:=λc u e=>by rw[c8 c (zz e hfo)];exact s37 _ _ (sc3 _ _ e)
     have St8:StepAt H8 (ts.map (·.2)) b z.2 la us:=St7.keep (c8 _ (S7.ne St7.li λ_ z=>nomatch z)) λc zs h=>k8 h λ_ z=>nomatch z;have vz:xn (putK k (kI z.2) (.ref la)) (kI z.2)=some (.ref la):=by rw[Vx,if_pos rfl]
     have hkw8:∀kv∈putK k (kI z.2) (.ref la),kv.2≠.ref wa:=λkv hk=>by
      rw[XS _ hv]at hk;rcases aZ.mp hk with hk | hk
      ·exact hkw kv hk
      ·rw[bu.mp hk];exact λe=>hlawa (by injection e)
     have hl8:(putK k (kI z.2) (.ref la)).length=k.length+1:=by rw[XS _ hv,aF];rfl
     have h813:=S8.len h4 hst4;refine⟨_,rfl,.inl ⟨rfl,_,SqL.of hw8⟩,_,rfl,_,rfl,fo,_,kI z.2,z.1,.ref la,rfl,S8.d,rfl,by rw[Yg];exact hz8,vz,la,rfl,⟨_,SqL.of St8.li⟩,XH St8.li St8.ok (by rw[hul];omega) (λv R r=>⟨_,rfl,rfl,_,rfl,r⟩) (λe=>.ref e.1) (λe _ _ R r=>⟨_,rfl,r⟩) λes hes1 hes2 ex hex=>?_⟩;rw[hul]at hes2;have hesl:es.length<=b:=by have:=congrArg cB hes2;rw[aa]at this;rw[this];exact Xq _ _ _ _
     have me:=zp hex (o:=.lst (es.map λe=>V.ref e.1));refine⟨wa,ex,_,_,rfl,rfl,me _ _ hw8,zj,?_,?_⟩
     ·rw[aa,aa];exact aB (show ws'.length+es.length<=10000 by omega) (by decide)
     have hwa9:=me _ _ hw8;have S9:=S8.same me;have sc9:=sc8.trans me;have hws9:∀y∈ws'++es,(upd H8 ex (.lst (es.map λe=>V.ref e.1))) y.1=some (.tup (y.2.map V.int))/\YC (ts.map (·.2)) y.2:=λy hy=>by
      rcases aZ.mp hy with h | h
      ·exact⟨me _ _ (hws8 y h).1,(hws8 y h).2⟩
      ·exact⟨me _ _ (hes1 y h),zhw ne (by rw[<-hes2];exact aQ.mpr ⟨y,h,rfl⟩)⟩
     generalize upd H8 ex (.lst (es.map λe=>V.ref e.1))=H9 at hwa9 S9 sc9 hws9;rw[show (ws'.map λz=>V.ref z.1)++(es.map λe=>V.ref e.1)=(ws'++es).map λz=>V.ref z.1 by rw[aH]];have kt9:∀c us,H9 c=some (.tup us)->(upd H9 wa (.lst ((ws'++es).map λz=>V.ref z.1))) c=some (.tup us):=λc us h=>by
      rw[zy (λq=>by rw[q,hwa9]at h;cases h)];exact h
     have hin:∀{y:List Int},y∈(ws'++[z]).map (·.2)->xn (putK k (kI z.2) (.ref la)) (kI y)≠none\/y∈(ws'++es).map (·.2):=λ{y} h=>by
      rw[aH,aZ]at h;rcases h with h | h
      ·exact .inr (by rw[aH];exact cY _ h)
      ·rw[bu.mp h,vz];exact .inl (by simp)
     have hup:∀{y:List Int},xn k (kI y)≠none->xn (putK k (kI z.2) (.ref la)) (kI y)≠none:=λ{y} h=>by
      rw[Vx];split
      ·simp
      ·exact h
     refine⟨_,?_,putK k (kI z.2) (.ref la),ws'++es,_,rfl,S9.keep (zy hfowa) (λkv hk la e=>zy λq=>hkw8 kv hk (by rw[e,q])) kt9,hkw8,zj,(λy hy=>⟨kt9 _ _ (hws9 y hy).1,(hws9 y hy).2⟩),λx hx y hy=>?_,hrt.elim (λh=>.inl (hup h)) hin,(λc u e=>by rw[zy (zz e hwa0)];exact sc9 _ _ e),by rw[hl8,aF];omega,rfl⟩
     ·rw[hl8,aF,aF,aX];omega
     ·rw[Vx]at hx;by_cases hxz:kI x=kI z.2
      ·obtain rfl:=UL hxz;rw[<-hes2]at hy;exact .inr (by rw[aH];exact bh _ hy)
      ·rw[if_neg hxz]at hx;exact (hcl x hx y hy).elim (λh=>.inl (hup h)) hin
  ·intro Z H2 Q Q' hq;rintro⟨v,e,sz,h⟩;refine⟨v,e,sz,λp hp=>?_⟩;obtain⟨t1,t2,a1,a2,dep,c1,ec,q⟩:=h p hp;exact⟨t1,t2,a1,a2,dep,c1,ec,hq _ _ q⟩
def Xe:Sp:=λvs H Q _=>Ex2 λ(b:Nat) (n:Nat)=>An5 (vs=[.int b,.int n]) (2<=b) (b<=16) (n<2^900) (∀l H',H l=none->H' l=some (.lst ((figs b n).map V.int))->Same H H'->Q (.ref l) H')
theorem jH:zF ["base","n","found"] ["base","n"] (zx wN):={}
theorem QB(D:Df K mg "_law_figures" wN Ak f fd)(T:Blt mg):FnOk P w K mg base CX0 1 f fd Ak Xe:=by
 refine D.fn.ok jH (λI H Q E h=>?_) (λcdv A outer s H I Q E hr h=>?_)
 ·obtain⟨b,n,rfl,_⟩:=h;rfl
 ·obtain⟨b,n,rfl,g,h16,J,k⟩:=h;refine yW ?_;intro m;let M:Sq m ((zq wN).drop 2):=⟨_,zu (zG (Qs (pv 2)))⟩
  let N:Sq m ((sb (zq wN) 1 true).drop 1):=⟨_,zu (wQ (ZC PySem.F.plainAttrs_list PySem.F.slot_list_append PySem.F.type_list_append wX (pv 2) (zf (zP Z3 (pv 1) (pv 0)) zg)))⟩
  let O:Sq m ((zq wN).drop 1):=⟨_,zm (X6 bK (zK zha (pv 1) (pv 0) (zM _))
    (zm (zE (i:=1) jH.nd rfl (bf rfl) (zP Xh (pv 1) (pv 0))) N.p)) M.p⟩
  refine⟨_,(zm (zE (i:=2) jH.nd rfl (bf rfl) (zY (zf (zP Z3 (pv 1) (pv 0)) zg))) O.p),?_⟩;refine⟨_,rfl,_,rfl,_,_,rfl,rfl,(by omega:(0:Int)<b),(by decide:1<=aA),λl G=>?_⟩;have hlen:=Xv g 900 n J;let R:L2.St->L2.Hp->Prop:=λZ c=>Ex2 λ(r:Nat) (L:List Int)=>An4 (Z=[some (.int b),some (.int r),some (.ref l)]) (c l=some (.lst (L.map V.int))) (Same H c) (figs b n=ahead b (r / b)++L.reverse);refine VL R
   (λZ _=>match Z with | [_,some (.int r),_]=>r.toNat | _=>0) ?_ ?_ ?_
  ·refine⟨n,[((n % b:Nat):Int)],rfl,?_,zp G,?_⟩
   ·rw[zj];simp
   ·rw[Wm g];simp
  ·rintro Z c ⟨r,L,rfl,t,u,x⟩;refine⟨_,rfl,_,rfl,_,_,rfl,rfl,_,rfl,?_⟩;refine zbz (λy=>?_) (λy=>?_)
   ·have a:b<=r:=by have:=of_decide_eq_true y;omega
    have B:0<r / b:=rE a (by omega);have C:L.length<=901:=by
     have:=congrArg cB x;rw[aF,fX]at this;omega
    refine⟨_,rfl,_,rfl,_,_,rfl,rfl,⟨by omega,by omega⟩,?_⟩;refine⟨_,rfl,.inl ⟨rfl,_,SqL.of t⟩,_,rfl,_,rfl,_,_,rfl,rfl,(by omega:(0:Int)<b),l,_,_,rfl,rfl,t,by rw[aa];exact aR C (by decide),?_⟩;refine⟨⟨r / b,L++[((r / b % b:Nat):Int)],?_,?_,?_,?_⟩,?_⟩
    ·simp
    ·rw[zj];simp
    ·exact λS o e=>by rw[zy (zz e G)];exact u S o e
    ·rw[x,Jr g B,Dq];simp
    ·show ((r:Int) / (b:Int)).toNat<(r:Int).toNat;have:r / b<r:=lZ (by omega) (by omega);omega
   ·have a:r<b:=by
     by_cases z:r<b
     ·exact z
     ·exact absurd (decide_eq_true (by omega:(b:Int)<=r)) y
    refine⟨_,rfl,l,_,rfl,SqL.of t,λq d=>?_⟩;refine k q _ (u.free d) ?_ (u.trans (zp d));rw[zj,x,dM a];simp[ahead]
  ·intro Z c Q Q' d;rintro⟨v,e,U,W,i,j,X,Y,k,e5,q⟩;exact⟨v,e,U,W,i,j,X,Y,k,e5,d _ _ q⟩
end
theorem zhn(ls:ZA)(h2:2<=b)(n:Nat):vO ls b 0 [] 0 (n+1)=xU ls b 0+vO ls b 0 [] 1 n:=by
 rw[qg,uI];unfold under;congr 1;refine eO λc _=>?_;by_cases a:c=0
 ·subst a;rfl
 ·show _=if c=0 then _ else _;rw[if_neg a];rfl
theorem zab(h:a+n<=b)(hy:y∈Vv ls x a n):y∈Vv ls x 0 b:=by
 obtain⟨c,d,e⟩:=dW.mp hy;exact dW.mpr ⟨a+c,cI.mpr (by have:=cI.mp d;omega),by rw[bO];exact e⟩
theorem AftL.cut(h:AftL H ls x 0 us)(a m:Nat):AftL H ls x a ((us.drop a).take m):=λi v e=>by
 rw[List.getElem?_take,List.getElem?_drop]at e;split at e
 ·have:=h _ v e;rwa[bO]at this
 ·cases e
theorem Js{K:aK}{es:ZB}{F:List Int->Nat}(hl:H la=some (.lst (es.map λe=>V.ref e.1)))(h1:es.length<=100)(he:∀e∈es,∀R:V->Hp->Prop,R (.int ((F e.2:Nat):Int)) H->te (some (.ref e.1)::tU js Z) H R)(hd:∀D,H D=none->Q (.ref D) (upd H D (.lst ((es.map λe=>((F e.2:Nat):Int)).map V.int)))):CompLoop (Itl K la) js Zr te Z Q H:=by
 let f:Nat->List V->L2.Hp->Prop:=λi b c=>b=((es.take i).map λe=>((F e.2:Nat):Int)).map V.int/\c=H;refine yK f ⟨rfl,rfl⟩ (λi b c _ ⟨_,e⟩=>by rw[e];exact SqL.of hl) ?_ ?_
 ·rintro i v b c d ⟨rfl,rfl⟩;rw[ao]at d;obtain⟨e,a,rfl⟩:=aY.mp d;refine⟨by rw[aa,aa,bA];exact aR (show min i es.length<=100 by omega) (by decide),?_⟩;unfold Zr
  try dsimp only
  refine he e (aL a) _ ⟨?_,rfl⟩;rw[bY,a,iK,aH,aH];rfl
 ·rintro b c ⟨rfl,rfl⟩ D g;rw[aa,bT];exact hd D g
theorem and_int{k L:Nat}(hf:∀R:VK,R (.int k) H->f Z H R)(hg:∀R:VK,R (.int L) H->g Z H R)(h:Q (.int ((if k=0/\1<L then 1 else 0:Nat):Int)) H):tCB (λxs H Q=>(∃i,xs=[V.int i]/\Q (V.int i) H)\/∃k,xs=[V.bl k]/\Q (V.int (if k=true then 1 else 0)) H) (Zx (zh4 (tOp rEq f (tC (.int 0))) (tOp (rI0 λi j=>V.bl (decide (j<i))) g (tC (.int 1)))) UJ) Z H Q:=by
 refine hf _ ⟨rfl,_,rfl,?_⟩;by_cases a:k=0
 ·subst a;refine Yq (decide_eq_true rfl) (hg _ ⟨_,_,rfl,rfl,.inr ⟨_,rfl,?_⟩⟩);by_cases z:1<L
  ·rw[if_pos ⟨rfl,z⟩]at h;rw[if_pos (decide_eq_true (by omega))];exact h
  ·rw[if_neg (λq=>z q.2)]at h;rw[if_neg (by rw[decide_eq_false (by omega)];exact bc)];exact h
 ·refine qJ (decide_eq_false (λz=>by injection z with z;omega)) (.inr ⟨_,rfl,?_⟩);rw[if_neg (λq=>a q.1)]at h;exact h
section
variable {P:bx} {w:bU} {K:aK} {mg:bZ->Option aD} {base:dj}
def jd(P:bx)(w:bU):Sp:=λvs H Q _=>Ex5 λ(r:au) (b:Nat) (bl:au) (zs:ZB) (n:Nat)=>An5 (vs=[.ref r,.int n]) (RuleAt H r b bl zs) (GoodRule b (zs.map (·.2))) (n<2^100) (∀H',Same H H'->Q (.int (many (gd (zs.map (·.2)) b) n:Nat)) H')
theorem yh:zF ["rule","n","base","figures","size","steps","rows","total","many","some","stand","at","figure"] ["rule","n"] (zx zV):={}
set_option maxHeartbeats 0 in
theorem zaw(D:Df K mg "_law_below" zV Ao f fd)(je:Df K mg "_law_figures" wN Ak f1 fd1)(uC:Df K mg "_law_ways" ye Aw f2 fd2)(vh:Df K mg "_law_after" yJ Av f3 fd3)(n_dict:mg "dict"= none)(T:Blt mg)(U:Vk mg):FnOk P w K mg base CX0 3 f fd Ao (jd P w):=by
 have zag:FnOk P w K mg base CX0 1 f1 fd1 Ak Xe:=QB je T;have WX:FnOk P w K mg base CX0 2 f2 fd2 Aw (Yw P w):=VR uC vh n_dict T U;refine D.fn.ok yh (λvs H Q E h=>?_) (λcdv A outer s H vs Q E hr h=>?_)
 ·obtain⟨r,b,bl,j,n,rfl,_⟩:=h;rfl
 ·obtain⟨r,b,bl,j,n,rfl,R,g,hn,kk⟩:=h;have b2:=g.b2;have b16:=g.b16;have hst4:∀st∈j.map (·.2),st.length<=4:=λst h=>(g.st st h).len;have ne:∀st∈j.map (·.2),st≠[]:=λst h=>(g.st st h).ne;refine yW ?_;intro J;let q1:Sq J ((zq zV).drop 8):=⟨_,zu (zG (pv 7))⟩
  let q2:Sq J ((sb (sb (zq zV) 7 true) 0 true).drop 2):=⟨_,zu (zE (i:=10) yh.nd rfl (bf rfl) (zQ (yt K) (uG P w (vG hr) (pv 5) (pv 10) (λ_ _=>rfl)) (pv 12) (λ_ _=>rfl)))⟩
  let q3:Sq J ((sb (sb (zq zV) 7 true) 0 true).drop 1):=⟨_,zm (zE (i:=7) yh.nd rfl (bf rfl) (zP wL (pv 7) (zA (zcW K rfl) (by rfl) U.n_sum Fe (zf (yD (show CScope (zx zV) _ "one" ["rule","n","base","figures","size","steps","rows","total","many","some","stand","at","figure"] ["rows","at","size"] [6,11,4] from {}) rfl (qj K (pv 9)) (λ_ _ _ _=>xq) (λ_ _ _ _=>(uG P w (vG hr) (zQ (yt K) (pv 1) (zP qG (zP qG (pv 3) zr) (pv 2)) (λ_ _=>rfl)) (pv 0) (λ_ _=>rfl)))) zg)))) q2.p⟩
  let q4:Sq J ((zq zV).drop 7):=⟨_,zm (wj bK rfl (zhI K rfl T.n_enumerate (zf (pv 3) zg)) (W8 rfl (xW (zX (i:=11) yh.nd rfl (lK rfl)) (xW (zX (i:=12) yh.nd rfl (bf rfl)) ZK)))
    (zu (yw (zK jg (pv 10) yQ (zM _))
     (zm (j0 (i:=9) (show CScope (zx zV) _ "one" ["rule","n","base","figures","size","steps","rows","total","many","some","stand","at","figure"] [] [] from {}) rfl yh.nd rfl (bf rfl) (qj K (xZ (ZQ K) (uG P w (vG hr) (pv 5) (pv 10) (λ_ _=>rfl)) (wR (yU qP (by rfl) T.n_int mZ (zf (uU (xK XR (pv 11) zr (zM _)) (qH (xK Us (pv 4) zr (zM _)))) zg))) (wR (pv 12)))) (λ_ _ _ _=>(uA (zK jg (pv 0) yQ (zM _)))) (λ_ _ _ _=>(pv 0))) q3.p)
     zR))) q1.p⟩
  let q5:Sq J ((zq zV).drop 6):=⟨_,zm (zE (i:=10) yh.nd rfl (bf rfl) (wW zg)) q4.p⟩
  let q6:Sq J ((sb (zq zV) 5 true).drop 1):=⟨_,zu (zE (i:=7) yh.nd rfl (bf rfl) (zP wL (pv 7) (zA (zcW K rfl) (by rfl) U.n_sum Fe (zf (yD (show CScope (zx zV) _ "one" ["rule","n","base","figures","size","steps","rows","total","many","some","stand","at","figure"] ["rows","many"] [6,8] from {}) rfl (qj K (pv 9)) (λ_ _ _ _=>xq) (λ_ _ _ _=>(uG P w (vG hr) (zQ (yt K) (pv 1) (zP qG (pv 2) zr) (λ_ _=>rfl)) (pv 0) (λ_ _=>rfl)))) zg))))⟩
  let q7:Sq J ((zq zV).drop 5):=⟨_,zm (wj bK rfl (Wd rfl T.n_range (zf zr (zf (pv 4) zg))) (zX (i:=8) yh.nd rfl (lK rfl))
    (zm (j0 (i:=9) (show CScope (zx zV) _ "one" ["rule","n","base","figures","size","steps","rows","total","many","some","stand","at","figure"] [] [] from {}) rfl yh.nd rfl (bf rfl) (qj K (xZ (ZQ K) (uG P w (vG hr) (pv 5) (wW zg) (λ_ _=>rfl)) (wR (yU qP (by rfl) T.n_int mZ (zf (xK Us (pv 8) zr (zM _)) zg))) uz)) (λ_ _ _ _=>(uA (zK jg (pv 0) yQ (zM _)))) (λ_ _ _ _=>(pv 0))) q6.p)) q5.p⟩
  let q8:Sq J ((zq zV).drop 4):=⟨_,zm (zE (i:=7) yh.nd rfl (bf rfl) zr) q7.p⟩
  let q9:Sq J ((zq zV).drop 3):=⟨_,zm (WY (zL uC WX (hr.mono (by decide)) (zf (pv 0) (zf (pv 4) zg))) (W8 rfl (xW (zX (i:=5) yh.nd rfl (bf rfl)) (xW (zX (i:=6) yh.nd rfl (lK rfl)) ZK)))) q8.p⟩
  let q10:Sq J ((zq zV).drop 2):=⟨_,zm (zE (i:=4) yh.nd rfl (lK rfl) (zA (vY K) (by rfl) T.n_len PySem.boot_len (zf (pv 3) zg))) q9.p⟩
  let q11:Sq J ((zq zV).drop 1):=⟨_,zm (zE (i:=3) yh.nd rfl (bf rfl) (zL je zag (hr.mono (by decide)) (zf (pv 2) (zf (pv 1) zg)))) q10.p⟩
  refine⟨_,(zm (zE (i:=2) yh.nd rfl (bf rfl) (zQ (wz K) (pv 0) zr (λ_ _=>rfl))) q11.p),?_⟩;refine⟨_,rfl,r,_,_,V.int b,rfl,rfl,SqT.of R.tu,rfl,?_⟩;refine⟨_,rfl,_,rfl,b,n,rfl,b2,b16,aO hn (cM (by decide) (by decide)),λl H1 hl hL s1=>?_⟩;obtain⟨L,eL⟩:∃L,(figs b n).length=L:=⟨_,rfl⟩
  have hL100:L<=101:=by rw[<-eL];exact Xv b2 100 n hn
  have hL1:1<=L:=by rw[<-eL];exact cT.mpr zb0
  refine⟨_,rfl,l,_,rfl,.inl (SqL.of hL),?_⟩;rw[aa,eL];refine⟨_,rfl,_,rfl,r,b,bl,j,L,rfl,R.same s1,g,hL100,λwt fo ra N rs M H2 hwt s2 W=>?_⟩;refine⟨wt,_,rfl,SqT.of hwt,rfl,_,_,rfl,_,_,rfl,rfl,?_⟩;have hL2:=s2 _ _ hL;have s02:=s1.trans s2;refine⟨_,rfl,1,_,rfl,by omega,?_⟩;rw[show ((L:Int)-1).toNat=L-1 by omega];have vM:∀{x},M x->∃v,xn N (kI x)=some v:=λ{x} hx=>by
   cases e:xn N (kI x) with
   |none=>exact absurd e ((W.e x).mp hx)
   |some v=>exact⟨v,rfl⟩
  let J2:Nat->L2.St->L2.Hp->Prop:=λi Z B=>Ex2 λ(v8:Option V) (v9:Option V)=>Z=[some (.ref r),some (.int n),some (.int b),some (.ref l),some (.int L),some (.ref fo),some (.ref ra),some (.int ((if i=0 then 0 else xU (j.map (·.2)) b i:Nat):Int)),v8,v9,none,none,none]/\Same H2 B;refine xj (lo:=1) (n:=L-1) J2 ⟨none,none,rfl,Same.refl _⟩ ?_ ?_
  ·rintro i Z B hi ⟨v8,v9,rfl,sc⟩;obtain⟨v,hv⟩:=vM W.c.1;refine⟨_,rfl,(by decide:0<=aA),λe0 he0=>?_⟩;have m1:=zp he0 (o:=.tup []);have sc1:=sc.trans m1;obtain⟨la,u,rfl,_,I⟩:=(W.s.same sc1).get hv;refine⟨fo,N,kI [],e0,.ref la,rfl,(W.s.same sc1).d,rfl,zj,hv,?_⟩;obtain⟨a,ha,hab⟩:∃a:Nat,(if decide ((1:Int)<1+(i:Int))=true then (1:Int) else 0)=(a:Int)/\a=if i=0 then 0 else 1:=⟨_,by by_cases z:i=0<;>simp[z]<;>omega,rfl⟩
   refine⟨_,rfl,_,_,rfl,rfl,.inr ⟨_,rfl,_,rfl,?_⟩⟩
   try dsimp only
   rw[ha];refine⟨la,u,rfl,SqL.of I.li,λp hp=>?_⟩;rw[jb,show u.drop a=(u.drop a).take (b-a) by rw[bV (by rw[bR,I.ln];exact aq _)]];have m2:=zp hp (o:=.lst ((u.drop a).take (b-a)));have A2:=(I.ok.cut a (b-a)).same λc u e=>m2 _ _ e;have O:((u.drop a).take (b-a)).length=b-a:=by rw[bA,bR,I.ln];omega
   refine⟨p,rfl,⟨_,SqL.of zj⟩,XH zj A2 (by rw[O];omega) (λv R r=>⟨_,rfl,rfl,_,rfl,r⟩) (λe=>.ref e.1) (λe _ _ R r=>⟨_,rfl,r⟩) λes S m D1 hD1=>?_⟩;rw[O]at m;have hab':a+(b-a)<=b:=by rw[hab];split<;>omega
   have m3:=zp hD1 (o:=.lst (es.map λe=>V.ref e.1));have hes:es.length<=100:=by have:=congrArg cB m;have h3:=Xq (j.map (·.2)) [] a (b-a);rw[aa]at this;omega
   have sc3:=(sc1.trans m2).trans m3;have W3:=W.r.same sc3;obtain⟨X,Y⟩:∃X,rs[i]?=some X:=⟨_,aj (by have:=W.l;omega)⟩
   obtain⟨kr,dr,kr2⟩:=W3.ok i X Y;refine⟨_,rfl,_,rfl,D1,rfl,⟨_,SqL.of zj⟩,Js (F:=cnt (j.map (·.2)) b i) zj hes (λe he R r=>?_) λD2 hD2=>?_⟩
   ·exact⟨_,rfl,_,rfl,_,_,rfl,rfl,ra,_,_,.ref X,rfl,rfl,SqL.of W3.li,by rw[show (1:Int)+(i:Int)-1=(i:Int) by omega];exact yZ (by rw[ao,Y];rfl),_,rfl,X,kr,kI e.2,e.1,_,rfl,dr,rfl,by rw[Yg];exact m3 _ _ (S e he),kr2 _ (W.c.2 _ W.c.1 _ (zab hab' (by rw[<-m];exact aQ.mpr ⟨e,he,rfl⟩))),r⟩
   refine⟨D2,_,rfl,SqL.of zj,_,_,rfl,rfl,some (.int (1+(i:Int))),some (.ref D1),?_,sc3.trans (zp hD2)⟩
   try dsimp only
   rw[QF m,<-fV,show (if i=0 then 0 else xU (j.map (·.2)) b i)+vO (j.map (·.2)) b i [] a (b-a)=if i+1=0 then 0 else xU (j.map (·.2)) b (i+1) by
    rw[if_neg (show ¬ i+1=0 by omega),<-tK _ b2,hab];by_cases z:i=0
    ·subst z;have hs:=zhn (j.map (·.2)) b2 (b-1);rw[show b-1+1=b by omega]at hs;rw[if_pos rfl,if_pos rfl,bO,cZ,hs];rfl
    ·rw[if_neg z,if_neg z];rfl]
   rfl
  ·rintro Z B ⟨v8,v9,rfl,sc⟩;refine⟨(by decide:0<=aA),λe1 S=>?_⟩;have m5:=zp S (o:=.tup []);have ab:=sc.trans m5;have he15:(upd B e1 (.tup [])) e1=some (.tup (([]:List Int).map V.int)):=zj;generalize upd B e1 (.tup [])=H5 at ab he15;have hL5:=ab _ _ hL2;have W5:=W.s.same ab;have R5:=W.r.same ab;let J3:Nat->L2.St->L2.Hp->Prop:=λk Z B=>Ex5 λ(sv:V) (t:Nat) (o:Option (List Int)) (v8:Option V) (v9:Option V)=>Ex2 λ(v11:Option V) (v12:Option V)=>An5 (Z=[some (.ref r),some (.int n),some (.int b),some (.ref l),some (.int L),some (.ref fo),some (.ref ra),some (.int (t:Int)),v8,v9,some sv,v11,v12]) (((k=0/\o=some []/\t=if L=1 then 0 else xU (j.map (·.2)) b (L-1))\/1<=k/\(n=0/\t=0\/0<n/\PartN (j.map (·.2)) b n L k o t))) (AftV B o sv) ((∀x,o=some x->M x)) (Same H5 B);refine⟨_,rfl,l,rfl,⟨_,SqL.of hL5⟩,zf8 (K:=K) (a:=l) (xs:=(figs b n).map V.int) J3
    ⟨.ref e1,_,some [],_,_,none,none,by rw[show (if L-1=0 then 0 else xU (j.map (·.2)) b (L-1))=if L=1 then 0 else xU (j.map (·.2)) b (L-1) by by_cases z:L=1<;>simp[z]<;>omega];rfl,.inl ⟨rfl,rfl,rfl⟩,⟨e1,rfl,he15⟩,λx e=>by cases e;exact W.c.1,Same.refl _⟩ (λk Z B _ ⟨_,_,_,_,_,_,_,_,_,_,_,s⟩=>SqL.of (s _ _ hL5)) ?_ ?_⟩
   ·rintro k z Z B tq hkz ⟨sv,t,o,v8,v9,v11,v12,rfl,pN,av,ist,sc⟩ htq;rw[ao]at hkz;obtain⟨ci,C,e⟩:=aY.mp hkz;subst e;have hkL:k<L:=by rw[<-eL];exact (aV.mp C).1
    obtain⟨c,rfl,hcb⟩:∃c:Nat,ci=(c:Int)/\c<b:=by
     have:=zc4 b2 n ci (aL C);exact⟨ci.toNat,by omega,by omega⟩
    have m6:=zp htq (o:=.tup [.int (k:Nat),.int c]);have s56:=sc.trans m6;refine⟨tq,_,rfl,SqT.of zj,rfl,_,_,rfl,_,_,rfl,rfl,?_⟩;have av6:=av.same λb xs e=>m6 _ _ e;generalize upd B tq (.tup [.int (k:Nat),.int c])=H6 at s56 av6;cases o with
    |none=>
     obtain rfl:sv=.non:=av6;refine⟨_,rfl,rfl,_,rfl,qJ (by rw[decide_eq_true rfl];rfl) ⟨_,t,none,_,_,_,_,rfl,.inr ⟨by omega,?_⟩,rfl,(λx e=>by cases e),s56⟩⟩;rcases pN with ⟨_,z,_⟩ | ⟨_,z | ⟨h,p⟩⟩
     ·cases z
     ·exact .inl z
     ·refine .inr ⟨h,?_⟩;rcases p with ⟨_,z,_⟩ | ⟨_,_,z,_⟩ | ⟨_,_,h3⟩
      ·cases z
      ·cases z
      ·exact .inr (.inr ⟨by omega,rfl,h3⟩)
    |some x=>
    obtain⟨sa,rfl,hsa⟩:=av6;have hx:=ist x rfl;obtain⟨v,hv⟩:=vM hx;have W6:=W5.same s56;obtain⟨la,u,rfl,_,I⟩:=W6.get hv;refine⟨_,rfl,rfl,_,rfl,Yq (by rw[decide_eq_false (λz=>by cases z)];rfl) ?_⟩;refine⟨_,rfl,_,rfl,fo,N,kI x,sa,.ref la,rfl,W6.d,rfl,by rw[Yg];exact hsa,hv,?_⟩;refine and_int (k:=k) (L:=L) (λR r=>⟨_,rfl,r⟩) (λR r=>⟨_,rfl,r⟩) ⟨_,rfl,_,rfl,_,rfl,la,u,rfl,SqL.of I.li,λp hp=>?_⟩;obtain⟨a,ha⟩:∃a:Nat,a=if k=0/\1<L then 1 else 0:=⟨_,rfl⟩
    rw[<-ha];rw[zck];have m7:=zp hp (o:=.lst ((u.drop a).take (c-a)));have A7:=(I.ok.cut a (c-a)).same λc u e=>m7 _ _ e;have O:((u.drop a).take (c-a)).length=c-a:=by rw[bA,bR,I.ln];omega
    refine⟨p,rfl,⟨_,SqL.of zj⟩,XH zj A7 (by rw[O];omega) (λv R r=>⟨_,rfl,rfl,_,rfl,r⟩) (λe=>.ref e.1) (λe _ _ R r=>⟨_,rfl,r⟩) λes S m D1 hD1=>?_⟩;rw[O]at m;have m8:=zp hD1 (o:=.lst (es.map λe=>V.ref e.1));have hes:es.length<=100:=by have:=congrArg cB m;have h3:=Xq (j.map (·.2)) x a (c-a);rw[aa]at this;omega
    have R8:=R5.same (s56.trans (m7.trans m8));obtain⟨X,Y⟩:∃X,rs[L-1-k]?=some X:=⟨_,aj (by have:=W.l;omega)⟩
    obtain⟨kr,dr,kr2⟩:=R8.ok _ X Y;have ha1:a<=1:=by rw[ha];split<;>omega
    refine⟨_,rfl,_,rfl,D1,rfl,⟨_,SqL.of zj⟩,Js (F:=cnt (j.map (·.2)) b (L-1-k)) zj hes (λe he R r=>?_) λD2 hD2=>?_⟩
    ·exact⟨_,rfl,_,rfl,_,_,rfl,rfl,_,rfl,_,_,rfl,rfl,ra,_,_,.ref X,rfl,rfl,SqL.of R8.li,by rw[show (L:Int)-1-(k:Int)=((L-1-k:Nat):Int) by omega];exact yZ (by rw[ao,Y];rfl),_,rfl,X,kr,kI e.2,e.1,_,rfl,dr,rfl,by rw[Yg];exact m8 _ _ (S e he),kr2 _ (W.c.2 _ hx _ (zab (a:=a) (n:=c-a) (by omega) (by rw[<-m];exact aQ.mpr ⟨e,he,rfl⟩))),r⟩
    have m9:=zp hD2 (o:=.lst ((es.map λe=>((cnt (j.map (·.2)) b (L-1-k) e.2:Nat):Int)).map V.int));have G:=(m7.trans m8).trans m9;refine⟨D2,_,rfl,SqL.of zj,_,_,rfl,rfl,?_⟩
    try dsimp only
    rw[QF m,<-fV];generalize upd (upd (upd H6 p (.lst ((u.drop a).take (c-a)))) D1 (.lst (es.map λe=>V.ref e.1))) D2 (.lst ((es.map λe=>((cnt (j.map (·.2)) b (L-1-k) e.2:Nat):Int)).map V.int))=H9 at G;have St9:StepAt H9 (j.map (·.2)) b x la u:=I.keep (by rw[I.li];exact G _ _ I.li) λc j h=>G _ _ h;obtain⟨v',hv'⟩:∃v',u[c]?=some v':=⟨_,aj (by rw[I.ln];exact hcb)⟩
    have av9:=St9.ok c v' hv';rw[bO]at av9;refine⟨_,rfl,_,rfl,fo,N,kI x,sa,.ref la,rfl,(W6.same G).d,rfl,by rw[Yg];exact G _ _ hsa,hv,_,rfl,la,_,_,v',rfl,rfl,SqL.of St9.li,yZ hv',?_⟩;refine⟨v',_,aft (j.map (·.2)) x c,_,_,_,_,rfl,.inr ⟨by omega,?_⟩,av9,(λy hy=>W.c.2 _ hx _ (dW.mpr ⟨c,cI.mpr hcb,by rw[bO];exact hy⟩)),s56.trans G⟩;have f0:figs b 0=[0]:=by rw[Wm b2];simp[ahead]
    by_cases hn0:n=0
    ·subst hn0;rw[f0]at C eL;obtain rfl:1=L:=eL;obtain rfl:k=0:=by omega
     obtain rfl:c=0:=by simp at C;omega
     refine .inl ⟨rfl,?_⟩;rcases pN with ⟨_,_,h⟩ | ⟨h,_⟩
     ·rw[h,if_pos rfl,show 0-a=0 from Nat.zero_sub a];rfl
     ·omega
    ·refine .inr ⟨by omega,?_⟩;rcases pN with ⟨rfl,ex,ht⟩ | ⟨hk,⟨z,_⟩ | ⟨h0,p⟩⟩
     ·cases ex;obtain⟨_,hc1,q⟩:=PartN.next ne b2 (show 0<n by omega) eL hkL (.inl ⟨rfl,rfl,rfl⟩) C
      rw[if_pos rfl,cZ]at q;have hc1:=hc1 rfl;rw[ht,ha,cZ];by_cases z:L=1
      ·have hs:=zhn (j.map (·.2)) b2 (c-1);rw[show c-1+1=c by omega]at hs;rw[if_pos z,if_neg (by omega),cZ,bO,show L-1=0 by omega,hs,bO];rwa[show L-1=0 by omega]at q
      ·rw[if_neg z,if_pos ⟨rfl,by omega⟩];exact q
     ·exact absurd z hn0
     ·obtain⟨_,_,q⟩:=p.next ne b2 h0 eL hkL C;rw[if_neg (show ¬ k=0 by omega)]at q;rw[ha,if_neg (by omega)];exact q
   ·rintro Z B ⟨sv,t,o,v8,v9,v11,v12,rfl,pN,av,ist,sc⟩;have q:=kk B ((s02.trans ab).trans sc);rw[aa,eL]at pN;rw[<-show t=many (gd (j.map (·.2)) b) n by
     rcases pN with ⟨z,_⟩ | ⟨_,⟨z,z2⟩ | ⟨_,p⟩⟩
     ·omega
     ·rw[z,z2];rfl
     ·exact p.done hL1]at q
    exact⟨_,rfl,q⟩
def j5:Sp:=λvs H Q _=>∃s:au,An3 (vs=[.ref s]) (Sto H s) (∀(n:Nat) (H':Hp),n<2^100->Stq s H H'->Q (.int n) H')
theorem qC:zF ["store","found","k"] ["store"] (zx vH):={}
theorem XF(D:Df K mg "_law_number" vH Ac f fd)(zB:Df K mg "_law_take" yj Ae f1 fd1)(T:Blt mg):FnOk P w K mg base CX0 2 f fd Ac j5:=by
 have j:FnOk P w K mg base CX0 1 f1 fd1 Ae xg:=w6 zB T;refine D.fn.ok qC (λv H Q E h=>?_) (λcdv A outer s H v Q E k h=>?_)
 ·obtain⟨s,rfl,_⟩:=h;rfl
 ·obtain⟨a,rfl,S,x⟩:=h;refine yW ?_;intro t;let y:Sq t ((zq vH).drop 2):=⟨_,zu (zG (pv 1))⟩
  let z:Sq t ((zq vH).drop 1):=⟨_,zm (wj bK rfl (yL rfl T.n_range (zf (zP wL zr (zL zB j (k.mono (by decide)) (zf (pv 0) (zf (zQ (yt K) (zY (zf zr (zf zr (zf zr (zf zr zg))))) (zL zB j (k.mono (by decide)) (zf (pv 0) (zf zr zg))) (λ_ _=>rfl)) zg)))) zg)) (zX (i:=2) qC.nd rfl (bf rfl))
    (zu (zE (i:=1) qC.nd rfl (bf rfl) (zP wL (zP Zc (pv 1) zr) (zL zB j (k.mono (by decide)) (zf (pv 0) (zf zr zg))))))) y.p⟩
  refine⟨_,(zm (zE (i:=1) qC.nd rfl (bf rfl) zr) z.p),?_⟩;refine⟨_,rfl,?_⟩;refine⟨(by show 4<=aA;decide),λB b=>?_⟩;have C:=S.ne b;have u:=(Stq.refl S).new b (o:=.lst [.int 2,.int 4,.int 9,.int 26]);refine⟨_,rfl,a,_,rfl,u.st,(by decide),(by decide),λl H2 hx1 q=>?_⟩;obtain⟨m,F,hm1,hm2⟩:∃m:Nat,atI [V.int 2,V.int 4,V.int 9,V.int 26] (l:Int)=some (.int m)/\2<=m/\m<=26:=by
   have G:l<4:=by omega
   match l,G with
   |0,_=>exact⟨2,rfl,by omega,by omega⟩
   |1,_=>exact⟨4,rfl,by omega,by omega⟩
   |2,_=>exact⟨9,rfl,by omega,by omega⟩
   |3,_=>exact⟨26,rfl,by omega,by omega⟩
  refine⟨B,_,_,_,rfl,rfl,SqL.of (q.sm _ _ C zj),F,?_⟩;refine⟨a,_,rfl,q.st,by omega,by omega,λc H3 hx2 I=>?_⟩;refine⟨1,c,rfl,rfl,?_⟩;let J:Nat->L2.St->L2.Hp->Prop:=λi Z d=>Ex2 λ(r:Option V) (n:Nat)=>An3 (Z=[some (.ref a),some (.int n),r]) (n<10^i) (Stq a H d);refine⟨(1+(c:Int)),rfl,by omega,by omega,xj (lo:=0) (n:=(1+(c:Int)).toNat) J ⟨none,0,rfl,by decide,(u.trans q).trans I⟩ ?_ ?_⟩
  ·rintro i Z d hi ⟨r,n,rfl,L,e⟩;refine⟨_,rfl,_,_,rfl,rfl,.inr ⟨by decide,by decide⟩,_,rfl,a,_,rfl,e.st,(by decide),(by decide),λg H5 hx3 M=>⟨_,_,rfl,rfl,some (.int (0+(i:Int))),n*10+g,?_,?_,e.trans M⟩⟩
   ·show [some (V.ref a),some (V.int ((n:Int)*10+g)),some (V.int (0+(i:Int)))]=_;rw[show ((n:Int)*10+g)=((n*10+g:Nat):Int) by omega]
   ·rw[lH];omega
  ·rintro Z d ⟨r,n,rfl,L,e⟩;refine⟨_,rfl,x n d ?_ e⟩;have h1:(10:Nat)^(1+(c:Int)).toNat<=10^26:=cM (by decide) (by omega);have h2:(10:Nat)^26<2^100:=by decide
   omega
def WD(b:Nat)(ls:ZA):Tr:=.tup [.int b,.lst (ls.map xr)]
theorem Ux(b:Nat)(ls:ZA):vP (WD b ls)<=8:=by
 unfold WD;rw[vP,wA,wA,wA,vP,vP]
 ·have:=vg ls;omega
 all_goals (intros;rename_i z;cases z)
theorem TrAt.rule(R:RuleAt H r b bl zs):TrAt K H (WD b (zs.map (·.2))) (.ref r):=by
 refine⟨r,_,rfl,SqT.of R.tu,?_⟩;refine⟨_,_,rfl,by rw[TrAt],?_⟩;refine⟨_,_,rfl,?_,by rw[TrsAt]⟩;exact⟨bl,_,rfl,SqL.of R.li,TrsAt.lists R.st⟩
end
theorem awS:Same (aw A H) H:=λc o h=>yd _ _ _ _ h
theorem YS(h:Q [] H):UJ Z H Q:=h
section
variable {P:bx} {w:bU} {K:aK} {mg:bZ->Option aD} {base:dj} {T0 C CK:au}
def PairAt(G:Hp)(b:Nat)(p:au):Prop:=∃r1 bl1 r2 bl2 zs1 zs2,G p=some (.tup [.ref r1,.ref r2])/\RuleAt G r1 b bl1 zs1/\RuleAt G r2 b bl2 zs2/\zs1.map (·.2)=zs2.map (·.2)
theorem PairAt.same(h:PairAt G b p)(m:Same G G'):PairAt G' b p:=let ⟨r1,bl1,r2,bl2,zs1,zs2,h0,h1,h2,e⟩:=h;⟨r1,bl1,r2,bl2,zs1,zs2,m _ _ h0,h1.same m,h2.same m,e⟩
structure HeldAt (Hb:Hp) (hl:au) (b:Nat) (ps:List au):Prop where
 li:Hb hl=some (.lst (ps.map V.ref))
 pr:∀p∈ps,PairAt (aw [hl] Hb) b p
theorem HeldAt.same(h:HeldAt Hb hl b ps)(m:Same Hb Hb'):HeldAt Hb' hl b ps:=⟨m _ _ h.li,λp a=>(h.pr p a).same (m.aw _)⟩
theorem zcZ{x y:List Int}(h:x.map V.int=y.map V.int):x=y:=(pU λ_ _ e=>by injection e).mp h
theorem RuleAt.inj(R:RuleAt H r b bl zs)(nd:(zs.map (·.2)).Nodup){i j:Nat}(hi:zs[i]?=some x)(hj:zs[j]?=some y)(e:x.1=y.1):i=j:=by
 have a:=R.st x (aL hi);have c:=R.st y (aL hj);rw[e,c]at a;injection a with a
 injection a with a
 have d:=zcZ a;exact (rF (by rw[aa];exact (aV.mp hi).1) nd).mp (by rw[ao,ao,hi,hj];exact congrArg some d.symm)
theorem RuleAt.off{H Hb:Hp}(R:RuleAt Hb r b bl zs)(h:H hl=some o)(nr:H r=none)(nb:H bl=none)(nz:∀z∈zs,H z.1=none):RuleAt (aw [hl] Hb) r b bl zs:=by
 have a:∀{c u},Hb c=some u->H c=none->aw [hl] Hb c=some u:=λf d=>by rw[yc (λz=>by rw[bu.mp z,h]at d;cases d)];exact f
 exact⟨a R.tu nr,a R.li nb,λz e=>a (R.st z e) (nz z e)⟩
def wK(T0 C CK:au):Sp:=λvs H Q _=>Ex6 λs k r hl Hb b=>Ex4 λbd bl zs ps=>An6 (vs=[.ref s,.ref k,.ref r,.ref hl]) (KS T0 C CK Hb H s k b bd (zs.map (·.2))) (RuleAt (aw [hl] Hb) r b bl zs) (HeldAt Hb hl b ps) (ps.length<=1000) (∀ps' Hb' H',KS T0 C CK Hb' H' s k b bd (zs.map (·.2))->Same (aw [hl] Hb) (aw [hl] Hb')->HeldAt Hb' hl b ps'->ps'.length<=ps.length+1->Q (.bl true) H')
theorem uc:zF ["store","keeper","rule","held","found","one","again"] ["store","keeper","rule","held"] (zx zT):={}
set_option maxHeartbeats 0 in
theorem Vl(D:Df K mg "_law_rule_right" zT Ai f fd)(MKeeper_rule:Mt K CK "Keeper.rule" "rule" jl Ag f1 fd1)(GKeeper_rule:FnOk P w K mg base CX0 2 f1 fd1 Ag (zbY C CK))(cKeeper:ClK K mg CK)(zB:Df K mg "_law_take" yj Ae f2 fd2)(uF:Df K mg "_law_copy" qe Af f3 fd3)(T:Blt mg)(U:Vk mg):FnOk P w K mg base CX0 3 f fd Ai (wK T0 C CK):=by
 have zN:FnOk P w K mg base CX0 1 f2 fd2 Ae xg:=w6 zB T;have Va:FnOk P w K mg base CX0 1 f3 fd3 Af YG:=Vy uF T;refine D.fn.ok uc (λvs H Q E h=>?_) (λcdv A outer s H vs Q E hr h=>?_)
 ·obtain⟨s,k,r,n,Hb,b,bd,bl,zs,ps,rfl,_⟩:=h;rfl
 ·obtain⟨s,k,r,n,Hb,b,bd,bl,zs,ps,rfl,D,R,Hd,cf,kk⟩:=h;have HU:=Yr hr;have g:=D.good_rule;have h4:zs.length<=4:=by have:=g.len;rwa[aa]at this
  obtain⟨dx,kbl,ktl,hk⟩:=D.ob;refine yW ?_;intro S;let q1:Sq S ((zq zT).drop 8):=⟨_,zu (zG (xK (Wz K HU) (pv 6) (pv 2) (zM _)))⟩
  let q2:Sq S ((zq zT).drop 7):=⟨_,zm (wQ (ZC PySem.F.plainAttrs_list PySem.F.slot_list_append PySem.F.type_list_append wX (pv 3) (zf (wW (zf (pv 6) (zf (zL uF Va (hr.mono (by decide)) (zf (pv 2) zg)) zg))) zg))) q1.p⟩
  let q3:Sq S ((zq zT).drop 6):=⟨_,zm (zE (i:=6) uc.nd rfl (bf rfl) (zdI MKeeper_rule cKeeper.cl GKeeper_rule (hr.mono (by decide)) (pv 1))) q2.p⟩
  let q4:Sq S ((zq zT).drop 5):=⟨_,zm (yw (zK XR (zL zB zN (hr.mono (by decide)) (zf (pv 0) (zf zr zg))) zr (zM _))
    (zu (zG qM))
    zR) q3.p⟩
  let q5:Sq S ((zq zT).drop 4):=⟨_,zm (wQ (ZC PySem.F.plainAttrs_list PySem.F.slot_list_append PySem.F.type_list_append wX (zQ (wz K) (pv 4) zr (λ_ _=>rfl)) (zf (zY zg) zg))) q4.p⟩
  let q6:Sq S ((zq zT).drop 3):=⟨_,zm (yw (zK (WP K HU) (zQ (wz K) (pv 4) zr (λ_ _=>rfl)) (yD (show CScope (zx zT) _ "one" ["store","keeper","rule","held","found","one","again"] [] [] from {}) rfl (qj K (zQ (wz K) (pv 2) zr (λ_ _=>rfl))) (λ_ _ _ _=>xq) (λ_ _ _ _=>(zP uB (pv 0) (zY (zf zr zg))))) (zM _))
    (zu (zG qM))
    zR) q5.p⟩
  let q7:Sq S ((sb (zq zT) 2 true).drop 1):=⟨_,zu (wQ (ZC PySem.F.plainAttrs_list PySem.F.slot_list_append PySem.F.type_list_append wX (pv 5) (zf zr zg)))⟩
  let q8:Sq S ((zq zT).drop 2):=⟨_,zm (wj bK rfl (qj K (zQ (wz K) (pv 4) zr (λ_ _=>rfl))) (zX (i:=5) uc.nd rfl (bf rfl))
    (zm (yw (vK (xx (zA (tZ K) (by rfl) T.n_isinstance bD (zf (pv 5) (zf (xM (v:=.ty "list") rfl T.n_list gF rfl) zg)))))
     (zu (zG qM))
     zR) q7.p)) q6.p⟩
  let q9:Sq S ((zq zT).drop 1):=⟨_,zm (yw (PW.pt (Ym (vK (xx (zA (tZ K) (by rfl) T.n_isinstance bD (zf (pv 4) (zf (xM (v:=.ty "tuple") rfl T.n_tuple pZ rfl) zg))))) (Ym (zK (WP K HU) (pv 4) (pv 2) (zM _)) (Z6 (vK (xx (zA (tZ K) (by rfl) T.n_isinstance bD (zf (zQ (wz K) (pv 4) zr (λ_ _=>rfl)) (zf (xM (v:=.ty "list") rfl T.n_list gF rfl) zg)))))))))
    (zu (zG qM))
    zR) q8.p⟩
  refine⟨_,(zm (zE (i:=4) uc.nd rfl (bf rfl) (zdI MKeeper_rule cKeeper.cl GKeeper_rule (hr.mono (by decide)) (pv 1))) q9.p),?_⟩;refine⟨_,rfl,k,dx,_,rfl,hk,uZ _ _ _ _,YS ?_⟩;refine D.rule λf j d ba H2 t e2 nb nr nz D2 mb=>?_;have Rr:=R.same (mb.aw [n]);have cj:d.length<=4:=by have:=g.len;rwa[<-e2,aa]at this
  refine⟨_,rfl,_,_,_,_,rfl,.tup (D2.base _ _ t.tu),Y9,_,rfl,?_⟩;refine qJ rfl ⟨_,rfl,_,rfl,WD b (d.map (·.2)),WD b (zs.map (·.2)),TrAt.rule (t.same D2.base),TrAt.rule ((Rr.same awS).same D2.base),Ux _ _,_,rfl,?_⟩;rw[if_pos rfl,e2,um];refine yG ⟨_,rfl,f,_,_,V.ref j,rfl,rfl,SqT.of (D2.base _ _ t.tu),rfl,_,_,_,_,rfl,.lst (D2.base _ _ t.li),Ws,_,rfl,qJ rfl ?_⟩;have ck:(d.map (·.2)).Nodup:=by rw[e2];exact g.nodup
  let J1:Nat->L2.St->L2.Hp->Prop:=λe Z G=>Ex2 λ(l:Hp) (v5:Option V)=>An4 (Z=[some (.ref s),some (.ref k),some (.ref r),some (.ref n),some (.ref f),v5,none]) (KS T0 C CK l G s k b bd (zs.map (·.2))) ((∀(i:Nat) z,d[i]?=some z->l z.1=some (.lst ((if i<e then z.2++[0] else z.2).map V.int)))) (∀c o,c∉d.map (·.1)->ba c=some o->l c=some o);refine⟨_,rfl,f,_,_,V.ref j,rfl,rfl,SqT.of (D2.base _ _ t.tu),rfl,j,rfl,⟨_,SqL.of (D2.base _ _ t.li)⟩,VG (K:=K) (a:=j) (xs:=d.map λz=>V.ref z.1) J1 ⟨ba,_,rfl,D2,λi z u=>t.st z (aL u),λc o _ h=>h⟩ ?_ ?_ ?_⟩
  ·rintro e Z G _ ⟨l,_,_,B,_,up⟩;exact SqL.of (B.base _ _ (up _ _ (λz=>by obtain⟨y,I,e⟩:=aQ.mp z;exact (nz y I).2 e) t.li))
  ·rintro e v Z G he ⟨l,v5,rfl,B,W,up⟩;rw[ao]at he;obtain⟨z,X,rfl⟩:=aY.mp he;have L:=aL X;have M:=W e z X;rw[if_neg (eQ e)]at M;refine⟨_,rfl,_,_,_,_,rfl,.lst (B.base _ _ M),Ws,_,rfl,qJ rfl ?_⟩;refine⟨_,rfl,.inl ⟨rfl,_,SqL.of (B.base _ _ M)⟩,z.1,_,_,rfl,rfl,B.base _ _ M,?_,?_⟩
   ·rw[aa];exact aR (show z.2.length<=4 from (g.st z.2 (by rw[<-e2];exact aQ.mpr ⟨z,L,rfl⟩)).len) (by decide)
   ·refine⟨upd l z.1 (.lst (z.2.map V.int++[.int 0])),_,rfl,B.poke M _,λi y I=>?_,λc o hc h=>by rw[zy (λq=>hc (by rw[q];exact aQ.mpr ⟨z,L,rfl⟩))];exact up c o hc h⟩;by_cases q:i=e
    ·subst q;rw[X]at I;cases I
     rw[zj,if_pos (nQ _),aH];rfl
    ·rw[zy (λz'=>q (t.inj ck I X z')),W i y I];have e1:i<e+1↔i<e:=by omega
     simp only[e1]
  ·rintro Z G ⟨l,v5,rfl,B,W,up⟩;show Qd _ _ _ _ _;have bg:Same Hb l:=λc o h=>up c o (λz=>by obtain⟨y,I,e⟩:=aQ.mp z;have:=(nz y I).1;rw[e,D.base _ _ h]at this;cases this) (mb _ _ h);have cn:j∉d.map (·.1):=λz=>by obtain⟨y,I,e⟩:=aQ.mp z;exact (nz y I).2 e
   have Y:=up _ _ cn t.li;have hf:=up _ _ (λz=>by obtain⟨y,I,e⟩:=aQ.mp z;have:=t.st y I;rw[e,t.tu]at this;cases this) t.tu;have co:∀z∈d,l z.1=some (.lst ((z.2++[0]).map V.int)):=λz u=>by
    obtain⟨i,hi⟩:=oK u;have h:=W i z hi;rwa[if_pos (by rw[aa];exact (aV.mp hi).1)]at h
   have R3:=R.same (bg.aw [n]);have ab:=(R3.same awS).same B.base;let J2:Nat->List V->L2.Hp->Prop:=λi ys Hc=>∃J:ZB,An4 (ys=J.map (λe=>V.ref e.1)) (J.map (·.2)=(zs.take i).map (λz=>z.2++[0])) ((∀e∈J,Hc e.1=some (.lst (e.2.map V.int)))) (Same G Hc);refine⟨_,rfl,f,_,_,V.ref j,rfl,rfl,SqT.of (B.base _ _ hf),rfl,_,rfl,r,_,_,V.ref bl,rfl,rfl,SqT.of ab.tu,rfl,bl,rfl,⟨_,SqL.of ab.li⟩,yK (K:=K) (a:=bl) (xs:=zs.map λz=>V.ref z.1) J2 ⟨[],rfl,rfl,(λ_ h=>nomatch h),Same.refl _⟩ (λi ys Hc _ ⟨_,_,_,_,m⟩=>SqL.of (m _ _ ab.li)) ?_ ?_⟩
   ·rintro i v ys Hc hi ⟨J,rfl,ee,he,sc⟩;rw[ao]at hi;obtain⟨z,bj,rfl⟩:=aY.mp hi;have L:=aL bj;have n:J.length<=4:=by have:=congrArg cB ee;rw[aa,aa,bA]at this;omega
    refine⟨by rw[aa];exact aR n (by decide),?_⟩;unfold Zr;dsimp only;rw[if_pos rfl];refine⟨_,rfl,(by show 1<=aA;decide),λp hp=>?_⟩;have s1:=zp hp (o:=.lst [.int 0]);refine⟨z.1,p,_,_,rfl,rfl,s1 _ _ (sc _ _ (ab.st z L)),zj,by rw[aa];exact aB (Nat.add_le_add_right (show z.2.length<=4 from (g.st z.2 (aQ.mpr ⟨z,L,rfl⟩)).len) 1) (by decide),λq hq=>?_⟩;have s2:=s1.trans (zp hq (o:=.lst (z.2.map V.int++[.int 0])));refine⟨J++[(q,z.2++[0])],by simp,by rw[aH,ee,bY,bj];simp,λe h=>?_,sc.trans s2⟩;rcases aZ.mp h with h | h
    ·exact s2 _ _ (he e h)
    ·rw[bu.mp h,aH];exact zj
   rintro ys Hc ⟨J,rfl,ee,he,sc⟩ Dd hD;rw[aa,bT]at ee;have s3:=sc.trans (zp hD (o:=.lst (J.map λe=>V.ref e.1)));refine⟨.lst (((d.map λz=>(z.1,z.2++[0])).map (·.2)).map xr),.lst ((J.map (·.2)).map xr),?_,?_,?_,_,rfl,?_⟩
   ·rw[TrAt];refine⟨j,_,rfl,SqL.of (s3 _ _ (B.base _ _ Y)),?_⟩;have:=TrsAt.lists (K:=K) (H:=upd Hc Dd (.lst (J.map λe=>V.ref e.1))) (zs:=d.map λz=>(z.1,z.2++[0])) λe h=>by
     obtain⟨z,u,rfl⟩:=aQ.mp h;exact s3 _ _ (B.base _ _ (co z u))
    rwa[cC (f:=λz:au×List Int=>(z.1,z.2++[0])) (g:=λz:au×List Int=>V.ref z.1)]at this
   ·rw[TrAt];exact⟨Dd,_,rfl,SqL.of zj,TrsAt.lists λe h=>zp hD _ _ (he e h)⟩
   ·simp only[vP];have:=vg ((d.map λz=>(z.1,z.2++[0])).map (·.2));omega
   have e3:(d.map λz=>(z.1,z.2++[0])).map (·.2)=J.map (·.2):=by
    rw[ee,cC];show d.map ((·++[0]) ∘ (·.2))=zs.map ((·++[0]) ∘ (·.2));rw[<-cC,e2,cC]
   rw[if_pos rfl,e3,um];refine yG ?_;have D4:=B.same s3;generalize upd Hc Dd (.lst (J.map λe=>V.ref e.1))=H4 at D4;show Qd _ _ _ _ _;refine⟨_,rfl,f,_,_,V.ref j,rfl,rfl,SqT.of (D4.base _ _ hf),rfl,.inl ⟨rfl,_,SqL.of (D4.base _ _ Y)⟩,(by show 0<=aA;decide),λp hp=>?_⟩;obtain⟨D5,m5⟩:=D4.new hp (.lst []);refine⟨j,_,_,rfl,rfl,D5.base _ _ (m5 _ _ Y),by rw[aa];exact aR cj (by decide),?_⟩;have D6:=D5.poke (m5 _ _ Y) (.lst ((d.map λz=>V.ref z.1)++[.ref p]));have m6:Same Hb (upd (upd l p (.lst [])) j (.lst ((d.map λz=>V.ref z.1)++[.ref p]))):=λc o h=>by rw[zy (λz=>by rw[<-z,D.base _ _ h]at nb;cases nb)];exact m5 _ _ (bg _ _ h)
   generalize upd (upd l p (.lst [])) j (.lst ((d.map λz=>V.ref z.1)++[.ref p]))=Hb6 at D6 m6;generalize upd (upd H4 p (.lst [])) j (.lst ((d.map λz=>V.ref z.1)++[.ref p]))=H6 at D6;refine⟨_,rfl,s,2,rfl,D6.st,by decide,by decide,λx H7 hx q7=>⟨rfl,_,rfl,?_⟩⟩;have D7:=D6.stq q7;by_cases bm:x=0
   ·exact Yq (decide_eq_true (by rw[bm];rfl)) (kk ps _ H7 D7 (m6.aw _) (Hd.same m6) (by omega))
   refine qJ (decide_eq_false (λz=>bm (by injection z with z;omega))) ?_;obtain⟨cu,kbl7,ktl7,cv⟩:=D7.ob;refine⟨_,rfl,k,cu,_,rfl,cv,uZ _ _ _ _,YS ?_⟩;refine D7.rule λr8 cw bn ac H8 R8 e8 cy cz da D8 m8=>?_;have am:=m6.trans m8;have ad:=am _ _ Hd.li;have bo:=R8.off (D7.base _ _ (m6 _ _ Hd.li)) cz cy λz u=>(da z u).1;have db:=R.same (am.aw [n]);refine⟨_,rfl,.inl ⟨rfl,_,SqL.of (D8.base _ _ ad)⟩,_,rfl,_,rfl,r,b,bl,zs,rfl,(db.same awS).same D8.base,by omega,λr9 dc dd H9 m9 R9 e9 bp bq br=>⟨(by show 2<=aA;decide),λtp an=>?_⟩⟩;have ae:=zp an (o:=.tup [.ref r8,.ref r9]);have bs:=m9.trans ae;have af:=D8.go (Stq.of D8.st bs);have N:Same ac (grow ac H8 (upd H9 tp (.tup [.ref r8,.ref r9]))):=D8.old;have O:=N _ _ ad;have bt:PairAt (aw [n] (grow ac H8 (upd H9 tp (.tup [.ref r8,.ref r9])))) b tp:=by
    refine⟨r8,cw,r9,dc,bn,dd,?_,bo.same (N.aw _),RuleAt.off ⟨?_,?_,λz u=>?_⟩ (D8.base _ _ ad) bq bp λz u=>(br z u).1,by rw[e8,e9]⟩
    ·rw[yc (λz=>by have:=m9 _ _ (D8.base _ _ ad);rw[<-bu.mp z,an]at this;cases this),uD (m9.free an)];exact zj
    ·rw[uD bq];exact ae _ _ R9.tu
    ·rw[uD bp];exact ae _ _ R9.li
    ·rw[uD (br z u).1];exact ae _ _ (R9.st z u)
   generalize grow ac H8 (upd H9 tp (.tup [.ref r8,.ref r9]))=ai at af N O bt;generalize upd H9 tp (.tup [.ref r8,.ref r9])=H10 at af;refine⟨n,_,_,rfl,rfl,af.base _ _ O,by rw[aa];exact aR cf (by decide),?_⟩;have ap:=af.poke O (.lst (ps.map V.ref++[.ref tp]));have pk:Same (aw [n] ai) (aw [n] (upd ai n (.lst (ps.map V.ref++[.ref tp])))):=λc o h=>by
    have hc:c∉[n]:=λz=>by rw[ju z]at h;cases h
    rw[yc hc]at h ⊢;rw[zy (λz=>hc (by rw[z];exact sO _))];exact h
   have mm:=(am.trans N).aw [n] |>.trans pk;have di:=R.same mm;have bv:=(bo.same (N.aw _)).same pk;refine⟨_,rfl,_,rfl,WD b (bn.map (·.2)),WD b (zs.map (·.2)),TrAt.rule ((bv.same awS).same ap.base),TrAt.rule ((di.same awS).same ap.base),Ux _ _,?_⟩;rw[if_neg bc,e8,um];refine kk (ps++[tp]) _ _ ap mm ⟨by rw[zj,aH];rfl,λq hq=>?_⟩ (by rw[aF];exact aq _);rcases aZ.mp hq with h | h
   ·exact (Hd.pr q h).same mm
   ·rw[bu.mp h];exact bt.same pk
end
theorem ClosedM.step(c:ClosedM ls b M)(hx:M x)(hf:f<b)(e:aft ls x f=some y):M y:=c.2 x hx y (dW.mpr ⟨f,cI.mpr hf,by rw[bO];exact e⟩)
theorem zcP(ls:ZA)(b t:Nat)(x:List Int)(a n:Nat):∀m,vO ls b t x a n<=vO ls b t x a (n+m)
 |0=>aq _
 |m+1=>by rw[show n+(m+1)=n+m+1 from rfl,qR];exact aB (zcP ls b t x a n m) (lF _ _)
theorem za3:Z9 ls b t (some x) c=match aft ls x c with | some y=>cnt ls b t y | none=>0:=by
 unfold aft;show (if lacks ls (x++[(c:Int)])=true then _ else _)=_;by_cases h:lacks ls (x++[(c:Int)])=true
 ·rw[if_pos h,if_pos h]
 ·rw[if_neg h,if_neg h]
theorem AftV.cases(h:AftV H o v):(o=none/\v=.non)\/∃y c,o=some y/\v=.ref c/\H c=some (.tup (y.map V.int)):=by
 cases o with
 |none=>exact .inl ⟨rfl,h⟩
 |some y=>obtain⟨c,e,h⟩:=h;exact .inr ⟨y,c,rfl,e,h⟩
section
variable {P:bx} {w:bU} {K:aK} {mg:bZ->Option aD} {base:dj}
theorem WaysAt.at(W:WaysAt P w H fo ra ls b m kvs rs M)(hx:M x):∃la us,xn kvs (kI x)=some (.ref la)/\StepAt H ls b x la us:=by
 cases e:xn kvs (kI x) with
 |none=>exact absurd e ((W.e x).mp hx)
 |some v=>
  obtain⟨la,us,rfl,_,h⟩:=W.s.get e;exact⟨la,us,rfl,h⟩
theorem WaysAt.same(W:WaysAt P w H fo ra ls b m kvs rs M)(s:Same H H'):WaysAt P w H' fo ra ls b m kvs rs M:=⟨W.s.same s,W.r.same s,W.l,W.c,W.e⟩
def Ud(P:bx)(w:bU):Sp:=λvs H Q _=>Ex6 λr fo ra sa b bl=>Ex6 λ(zs:ZB) (x:List Int) (more:Nat) (k:Nat) (kvs:List (List Key×V)) (rs:List au)=>Ex4 λM Kp i m=>An9 (vs=[.ref r,.ref fo,.ref ra,.ref sa,.int more,.int k]) (RuleAt H r b bl zs) (GoodRule b (zs.map (·.2))) (WaysAt P w H fo ra (zs.map (·.2)) b 60 kvs rs M) (more<60) (H sa=some (.tup (x.map V.int))) (M x) ((more=0\/1<=i/\NthN (zs.map (·.2)) b Kp (i+more) i x m k)) (∀(fa:au) (fs:List Nat) (H':Hp),Same H H'->H' fa=some (.lst (fs.map λ(f:Nat)=>V.int f))->fs.length=more->(more=0\/gd (zs.map (·.2)) b (fs.foldl (λm f=>m*b+f) m)=true/\many (gd (zs.map (·.2)) b) (fs.foldl (λm f=>m*b+f) m)=Kp)->Q (.ref fa) H')
theorem wk:zF ["rule","steps","rows","stand","more","k","found","left","chosen","figure","one"] ["rule","steps","rows","stand","more","k"] (zx wC):={}
set_option maxHeartbeats 0 in
theorem zbr(D:Df K mg "_law_rest" wC Bh f fd)(T:Blt mg):FnOk P w K mg base CX0 1 f fd Bh (Ud P w):=by
  refine D.fn.ok wk (λvs H Q E h=>?_) (λcdv A outer s H vs Q E hr h=>?_)
  · obtain⟨r,fo,ra,sa,b,bl,zs,x,u,k,kvs,rs,M,Kp,i,m,rfl,_⟩:=h;rfl
  · obtain⟨r,fo,ra,sa,b,bl,zs,x,u,k,kvs,rs,M,Kp,i,m,rfl,R,g,W,hm,hsa,hx,hN,kk⟩:=h
    have HU:=Yr hr;have b2:=g.b2;have b16:=g.b16;have ne:∀st∈zs.map (·.2),st≠[]:=λst h=>(g.st st h).ne;generalize hls:zs.map (·.2)=J at *;refine yW ?_;intro XX;let q1:Sq XX ((zq wC).drop 2):=⟨_,zu (zG (pv 6))⟩
    let q2:Sq XX ((sb (zq wC) 1 true).drop 3):=⟨_,zu (zE (i:=3) wk.nd rfl (bf rfl) (zQ (yt K) (uG P w (vG hr) (pv 1) (pv 3) (λ_ _=>rfl)) (pv 8) (λ_ _=>rfl)))⟩
    let q3:Sq XX ((sb (zq wC) 1 true).drop 2):=⟨_,zm (wQ (ZC PySem.F.plainAttrs_list PySem.F.slot_list_append PySem.F.type_list_append wX (pv 6) (zf (pv 8) zg))) q2.p⟩
    let q4:Sq XX ((sb (sb (zq wC) 1 true) 1 true).drop 1):=⟨_,zu (yw (PW.pt (zb7 (zK Uu (pv 8) yQ (zM _)) (QJ (zK jg (pv 10) yQ (zM _)))))
            (zu (yw (zK QQ (pv 5) (uG P w (vG hr) (zQ (yt K) (pv 2) (pv 7) (λ_ _=>rfl)) (pv 10) (λ_ _=>rfl)) (zM _))
              (zu (zE (i:=8) wk.nd rfl (bf rfl) (pv 9)))
              (zu (zE (i:=5) wk.nd rfl (bf rfl) (zP qG (pv 5) (uG P w (vG hr) (zQ (yt K) (pv 2) (pv 7) (λ_ _=>rfl)) (pv 10) (λ_ _=>rfl)))))))
            zR)⟩
    let q5:Sq XX ((sb (zq wC) 1 true).drop 1):=⟨_,zm (wj bK rfl (yL rfl T.n_range (zf (zQ (wz K) (pv 0) zr (λ_ _=>rfl)) zg)) (zX (i:=9) wk.nd rfl (bf rfl))
          (zm (zE (i:=10) wk.nd rfl (bf rfl) (zQ (yt K) (uG P w (vG hr) (pv 1) (pv 3) (λ_ _=>rfl)) (pv 9) (λ_ _=>rfl))) q4.p)) q3.p⟩
    let q6:Sq XX ((zq wC).drop 1):=⟨_,zm (wj bK rfl (zaS rfl T.n_range (zf (zP qG (pv 4) zr) (zf (Qg Xk zr) (zf (Qg Xk zr) zg)))) (zX (i:=7) wk.nd rfl (bf rfl))
        (zm (zE (i:=8) wk.nd rfl (bf rfl) yQ) q5.p)) q1.p⟩
    refine⟨_,(zm (zE (i:=6) wk.nd rfl (bf rfl) (zY zg)) q6.p),?_⟩;refine⟨(by show 0<=aA;decide),λfa hfa=>?_⟩;have m1:=zp hfa (o:=.lst []);have hf1:upd H fa (.lst []) fa=some (.lst (([]:List Nat).map λ(f:Nat)=>V.int f)):=zj;generalize upd H fa (.lst [])=H1 at m1 hf1;refine⟨_,rfl,_,_,rfl,rfl,_,rfl,_,rfl,((u:Int)-1),rfl,by omega,by omega,?_⟩;rw[show ((u:Int)-1+1).toNat=u by omega];refine JD (lo:=(u:Int)-1) (c:=-1) (n:=u) (λj Z Hc=>∃(v7 v8 v9 v10:Option V) (m' G:Nat) (L:au) (x':List Int) (fs:List Nat),Z=[some (.ref r),some (.ref fo),some (.ref ra),some (.ref L),some (.int u),some (.int G),some (.ref fa),v7,v8,v9,v10]/\fs.length=j/\(u=0\/1<=i/\NthN J b Kp (i+u) (i+j) x' m' G)/\m'=fs.foldl (λm f=>m*b+f) m/\M x'/\Hc L=some (.tup (x'.map V.int))/\Hc fa=some (.lst (fs.map λ(f:Nat)=>V.int f))/\Same H Hc)
      ⟨none,none,none,none,m,k,sa,x,[],rfl,rfl,hN,rfl,hx,m1 _ _ hsa,hf1,m1⟩ ?_ ?_
    · rintro j Z Hc hj ⟨v7,v8,v9,v10,m',G,L,x',fs,rfl,hfs,hN',hm',hx',hsa',I,sc⟩
      obtain⟨hi,pN⟩:1<=i/\NthN J b Kp (i+u) (i+j) x' m' G:=hN'.elim (λz=>by omega) id;obtain⟨t,ht⟩:∃t,u=j+1+t:=⟨u-(j+1),by omega⟩
      rw[show ((u:Int)-1+(j:Int)*(-1))=(t:Int) by omega];obtain⟨la,us,hla,St⟩:=W.at hx';have pT:=pN.total b2 (by omega);rw[show i+u-1-(i+j)=t by omega,if_neg (show ¬ i+j=0 by omega),cZ]at pT;have Wc:=W.same sc;refine⟨_,rfl,r,_,_,V.int b,rfl,rfl,SqT.of (sc _ _ R.tu),rfl,(b:Int),rfl,by omega,by omega,?_⟩;rw[dU];let J1:Nat->L2.St->L2.Hp->Prop:=λc Z Hd=>Ex4 λ(v8:Option V) (v9:Option V) (v10:Option V) (a:Nat)=>An3 (Z=[some (.ref r),some (.ref fo),some (.ref ra),some (.ref L),some (.int u),some (.int a),some (.ref fa),some (.int t),v8,v9,v10]) (Hd=Hc) ((v8=some .non/\a+vO J b t x' 0 c=G\/∃c':Nat,v8=some (.int c')/\c'<c/\a+vO J b t x' 0 c'=G/\∃y,aft J x' c'=some y/\a<cnt J b t y));refine xj (lo:=0) (n:=b) J1 ⟨_,v9,v10,G,rfl,rfl,.inl ⟨rfl,rfl⟩⟩ ?_ ?_
      · rintro c Z Hd hc ⟨w8,w9,w10,a,rfl,rfl,hor⟩
        obtain⟨v,hv⟩:∃v,us[c]?=some v:=⟨_,aj (by rw[St.ln];exact hc)⟩
        have av:=St.ok c v hv;rw[bO]at av;refine⟨_,rfl,_,rfl,fo,kvs,kI x',L,.ref la,rfl,Wc.s.d,rfl,by rw[Yg];exact hsa',hla,_,rfl,la,us,_,v,rfl,rfl,SqL.of (sc _ _ St.li),by rw[eG];exact yZ hv,?_⟩;have hS:=qR J b t x' 0 c;rw[bO,za3]at hS;rcases hor with ⟨rfl,hs⟩ | ⟨c',rfl,hc',hs,y,ey,hlt⟩
        · refine⟨_,rfl,rfl,_,rfl,Yq (decide_eq_true rfl) ⟨_,rfl,rfl,_,rfl,?_⟩⟩
          rcases av.cases with ⟨e,rfl⟩ | ⟨y,q,e,rfl,hq⟩
          · rw[e]at hS
            exact qJ (by rw[decide_eq_true rfl];rfl) ⟨_,_,_,a,rfl,rfl,.inl ⟨rfl,by rw[hS];exact hs⟩⟩
          · rw[e]at hS
            dsimp only at hS;refine Yq (by rw[decide_eq_false (λz=>nomatch z)];rfl) ?_;obtain⟨lr,hlr⟩:∃lr,rs[t]?=some lr:=⟨_,aj (by have:=W.l;omega)⟩
            obtain⟨kr,dr,kr2⟩:=Wc.r.ok t lr hlr;have hy:=W.c.step hx' hc e;have atr:atI (rs.map V.ref) (t:Int)=some (.ref lr):=yZ (by rw[ao,hlr];rfl);refine⟨_,rfl,_,rfl,_,rfl,ra,_,_,.ref lr,rfl,rfl,SqL.of Wc.r.li,atr,_,rfl,lr,kr,kI y,q,_,rfl,dr,rfl,by rw[Yg];exact sc _ _ hq,kr2 y hy,_,_,rfl,rfl,_,rfl,?_⟩;by_cases hlt:a<cnt J b t y
            · rw[decide_eq_true (show (a:Int)<((cnt J b t y:Nat):Int) by omega)]
              exact yz ⟨_,rfl,_,_,_,a,rfl,rfl,.inr ⟨c,by rw[eG],by omega,hs,y,e,hlt⟩⟩
            · rw[decide_eq_false (show ¬ (a:Int)<((cnt J b t y:Nat):Int) by omega)]
              refine yG ⟨_,rfl,_,rfl,_,rfl,ra,_,_,.ref lr,rfl,rfl,SqL.of Wc.r.li,atr,_,rfl,lr,kr,kI y,q,_,rfl,dr,rfl,by rw[Yg];exact sc _ _ hq,kr2 y hy,_,_,rfl,rfl,some .non,some (.int (0+(c:Int))),some (.ref q),a-cnt J b t y,?_,rfl,.inl ⟨rfl,by rw[hS];omega⟩⟩
              try dsimp only
              rw[show (a:Int)-((cnt J b t y:Nat):Int)=((a-cnt J b t y:Nat):Int) by omega];rfl
        · refine⟨_,rfl,rfl,_,rfl,qJ (decide_eq_false (λz=>nomatch z)) (yG ⟨_,_,_,a,rfl,rfl,.inr ⟨c',rfl,by omega,hs,y,ey,hlt⟩⟩)⟩
      · rintro Z Hd ⟨w8,w9,w10,a,rfl,rfl,hor⟩
        rcases hor with ⟨rfl,hs⟩ | ⟨c,rfl,hc,hs,y,ey,hlt⟩
        · omega
        have hl:lacks J (x'++[(c:Int)])=true/\y=zW J (x'++[(c:Int)]):=let q:=QS ne ey;⟨q.1,q.2.1⟩;have pN':=pN.next (c:=c) ne b2 (by omega) (by rw[if_neg (by omega)];exact bw _) hc hl.1;rw[if_neg (show ¬ i+j=0 by omega),cZ,show i+u-1-(i+j)=t by omega,<-hl.2]at pN';rw[show G-vO J b t x' 0 c=a by omega]at pN';have pN':=pN' (by omega) hlt;have hy:=W.c.step hx' hc ey;obtain⟨v,hv⟩:∃v,us[c]?=some v:=⟨_,aj (by rw[St.ln];exact hc)⟩
        have av:=St.ok c v hv;rw[bO,ey]at av;obtain⟨q,rfl,hq⟩:=av;refine⟨_,rfl,.inl ⟨rfl,_,SqL.of I⟩,_,rfl,fa,_,_,rfl,rfl,I,by rw[aa];exact aR (show fs.length<=60 by omega) (by decide),?_⟩;have s5:Same H (upd Hd fa (.lst (fs.map (λ(f:Nat)=>V.int f)++[.int c]))):=λd o h=>by rw[zy (zz h hfa)];exact sc d o h
        have hu5:∀{d us},Hd d=some (.tup us)->(upd Hd fa (.lst (fs.map (λ(f:Nat)=>V.int f)++[.int c]))) d=some (.tup us):=λh=>by rw[zy (λz=>by rw[z,I]at h;cases h)];exact h
        have hf5:(upd Hd fa (.lst (fs.map (λ(f:Nat)=>V.int f)++[.int c]))) fa=some (.lst ((fs++[c]).map λ(f:Nat)=>V.int f)):=by rw[zj,aH];rfl
        have hs5:=hu5 hsa';generalize upd Hd fa (.lst (fs.map (λ(f:Nat)=>V.int f)++[.int c]))=H5 at s5 hf5 hs5;exact⟨_,rfl,_,rfl,fo,kvs,kI x',L,.ref la,rfl,(W.same s5).s.d,rfl,by rw[Yg];exact hs5,hla,_,rfl,la,us,_,.ref q,rfl,rfl,SqL.of (s5 _ _ St.li),yZ hv,_,_,_,_,m'*b+c,a,q,y,fs++[c],rfl,by rw[aF,hfs];rfl,.inr ⟨hi,pN'⟩,by rw[mY,<-hm'];rfl,hy,s5 _ _ hq,hf5,s5⟩
    · rintro Z Hc ⟨v7,v8,v9,v10,m',G,L,x',fs,rfl,hfs,hN',hm',hx',hsa',I,sc⟩
      refine⟨_,rfl,kk fa fs Hc sc I hfs ?_⟩;rcases hN' with h | ⟨h,pN⟩
      · exact .inl h
      · exact .inr (by rw[<-hm'];exact pN.done (by omega))
theorem zij(ls:ZA)(h2:2<=b)(i:Nat):(if i=0 then 0 else xU ls b i)+vO ls b i [] (if i=0 then 0 else 1) (b-if i=0 then 0 else 1)=xU ls b (i+1):=by
 rw[<-tK _ h2];by_cases z:i=0
 ·subst z;have a:=zhn ls h2 (b-1);rw[show b-1+1=b by omega]at a;rw[if_pos rfl,if_pos rfl,bO,cZ,a];rfl
 ·rw[if_neg z,if_neg z];rfl
theorem zfC(ne:∀l∈ls,l≠[])(h2:2<=b)(hc:c<=b):vO ls b 0 [] 0 c=many (gd ls b) c:=by
 cases c with
 |zero=>rfl
 |succ n=>
  rw[zhn ls h2,uI];have q:=ue ne h2 (.inl ⟨rfl,rfl⟩) 0 hc;rw[c7,c7,bO,fZ,oM]at q;have hz:many (gd ls b) 0=0:=rfl;omega
def ByR(ls:ZA)(b k:Nat)(v:V):Prop:=(∃g:Nat,v=.int g/\gd ls b g=true/\many (gd ls b) g=k/\k<many (gd ls b) (b^60))\/(many (gd ls b) (b^60)<=k/\v=if 0<jx ls b 59 then .str "many" else .non)
def QZ(P:bx)(w:bU):Sp:=λvs H Q _=>Ex5 λ(r:au) (b:Nat) (bl:au) (zs:ZB) (k:Nat)=>An4 (vs=[.ref r,.int k]) (RuleAt H r b bl zs) (GoodRule b (zs.map (·.2))) (∀v H',Same H H'->ByR (zs.map (·.2)) b k v->Q v H')
theorem wO:zF ["rule","k","steps","rows","many","first","one","number","figure","some"] ["rule","k"] (zx wG):={}
set_option maxHeartbeats 0 in
theorem zdF(D:Df K mg "_law_by" wG Bi f fd)(uC:Df K mg "_law_ways" ye Aw f1 fd1)(vh:Df K mg "_law_after" yJ Av f2 fd2)(YQ:Df K mg "_law_rest" wC Bh f3 fd3)(n_dict:mg "dict"= none)(T:Blt mg)(U:Vk mg):FnOk P w K mg base CX0 3 f fd Bi (QZ P w):=by
  have WX:FnOk P w K mg base CX0 2 f1 fd1 Aw (Yw P w):=VR uC vh n_dict T U;have zdK:FnOk P w K mg base CX0 1 f3 fd3 Bh (Ud P w):=zbr YQ T;refine D.fn.ok wO (λvs H Q E h=>?_) (λcdv A outer s H vs Q E hr h=>?_)
  · obtain⟨r,b,bl,zs,k,rfl,_⟩:=h;rfl
  · obtain⟨r,b,bl,zs,K0,rfl,R,g,kk⟩:=h
    have b2:=g.b2;have b16:=g.b16;have ne:∀st∈zs.map (·.2),st≠[]:=λst h=>(g.st st h).ne;refine yW ?_;intro XX;let q1:Sq XX ((zq wG).drop 3):=⟨_,zu (zG (zQ (yt K) (zY (zf yQ (zf jE zg))) (yU qP (by rfl) T.n_int mZ (zf (xK Us (zA (zcW K rfl) (by rfl) U.n_sum Fe (zf (yD (show CScope (zx wG) _ "one" ["rule","k","steps","rows","many","first","one","number","figure","some"] ["rows"] [3] from {}) rfl (qj K (pv 9)) (λ_ _ _ _=>xq) (λ_ _ _ _=>(uG P w (vG hr) (zQ (yt K) (pv 1) zr (λ_ _=>rfl)) (pv 0) (λ_ _=>rfl)))) zg)) zr (zM _)) zg)) (λ_ _=>rfl)))⟩
    let q2:Sq XX ((zq wG).drop 2):=⟨_,zm (j0 (i:=9) (show CScope (zx wG) _ "one" ["rule","k","steps","rows","many","first","one","number","figure","some"] [] [] from {}) rfl wO.nd rfl (bf rfl) (qj K (xZ (ZQ K) (uG P w (vG hr) (pv 2) (wW zg) (λ_ _=>rfl)) (wR zr) uz)) (λ_ _ _ _=>(uA (zK jg (pv 0) yQ (zM _)))) (λ_ _ _ _=>(pv 0))) q1.p⟩
    let q3:Sq XX ((sb (sb (sb (zq wG) 1 true) 0 true) 1 true).drop 1):=⟨_,zu (zE (i:=1) wO.nd rfl (bf rfl) (zP qG (pv 1) (uG P w (vG hr) (zQ (yt K) (pv 3) (zP qG (pv 4) zr) (λ_ _=>rfl)) (pv 6) (λ_ _=>rfl))))⟩
    let q4:Sq XX ((sb (sb (sb (sb (zq wG) 1 true) 0 true) 1 true) 0 true).drop 2):=⟨_,zu (zG (pv 7))⟩
    let q5:Sq XX ((sb (sb (sb (sb (zq wG) 1 true) 0 true) 1 true) 0 true).drop 1):=⟨_,zm (wj bK rfl (qj K (zP uB (zY (zf (pv 5) zg)) (zL YQ zdK (hr.mono (by decide)) (zf (pv 0) (zf (pv 2) (zf (pv 3) (zf (pv 6) (zf (zP qG (pv 4) zr) (zf (pv 1) zg))))))))) (zX (i:=8) wO.nd rfl (bf rfl))
                (zu (zE (i:=7) wO.nd rfl (bf rfl) (zP wL (zP Zc (pv 7) (zQ (wz K) (pv 0) zr (λ_ _=>rfl))) (pv 8))))) q4.p⟩
    let q6:Sq XX ((sb (sb (zq wG) 1 true) 0 true).drop 1):=⟨_,zu (yw (zK jg (pv 6) yQ (zM _))
            (zm (yw (zK QQ (pv 1) (uG P w (vG hr) (zQ (yt K) (pv 3) (zP qG (pv 4) zr) (λ_ _=>rfl)) (pv 6) (λ_ _=>rfl)) (zM _))
              (zm (zE (i:=7) wO.nd rfl (bf rfl) zr) q5.p)
              zR) q3.p)
            zR)⟩
    let q7:Sq XX ((zq wG).drop 1):=⟨_,zm (wj bK rfl (Wd rfl T.n_range (zf zr (zf zr zg))) (zX (i:=4) wO.nd rfl (bf rfl))
        (zu (wj bK rfl (Wd rfl T.n_range (zf (yU qP (by rfl) T.n_int mZ (zf (xK Us (pv 4) zr (zM _)) zg)) (zf (zQ (wz K) (pv 0) zr (λ_ _=>rfl)) zg))) (zX (i:=5) wO.nd rfl (bf rfl))
          (zm (zE (i:=6) wO.nd rfl (bf rfl) (zQ (yt K) (uG P w (vG hr) (pv 2) (wW zg) (λ_ _=>rfl)) (pv 5) (λ_ _=>rfl))) q6.p)))) q2.p⟩
    refine⟨_,(zm (WY (zL uC WX (hr.mono (by decide)) (zf (pv 0) (zf zr zg))) (W8 rfl (xW (zX (i:=2) wO.nd rfl (bf rfl)) (xW (zX (i:=3) wO.nd rfl (lK rfl)) ZK)))) q7.p),?_⟩;refine⟨_,rfl,r,b,bl,zs,60,rfl,R,g,by decide,λwt fo ra kvs rs M H2 hwt s2 W=>?_⟩;refine⟨wt,_,rfl,SqT.of hwt,rfl,_,_,rfl,_,_,rfl,rfl,?_⟩;have R2:=R.same s2;generalize hls:zs.map (·.2)=ls at *;have cm:=λt=>xQ ne b2 (ls:=ls) (t:=t);obtain⟨la,us,hla,St⟩:=W.at W.c.1;let J2:Nat->L2.St->L2.Hp->Prop:=λi Z Hc=>Ex5 λ(k:Nat) (v4:Option V) (v5:Option V) (v6:Option V) (v7:Option V)=>Ex2 λ(v8:Option V) (v9:Option V)=>An3 (Z=[some (.ref r),some (.int k),some (.ref fo),some (.ref ra),v4,v5,v6,v7,v8,v9]) (k+(if i=0 then 0 else xU ls b i)=K0) (Same H2 Hc);refine⟨1,61,rfl,by decide,xj (lo:=1) (n:=60) J2 ⟨K0,_,_,_,_,_,_,rfl,rfl,Same.refl _⟩ ?_ ?_⟩
    · rintro i Z Hc hi ⟨k,v4,v5,v6,v7,v8,v9,rfl,hk,sc⟩
      have hab:(if i=0 then 0 else 1)<=1:=by split<;>omega
      have hpre:=zij ls b2 i;obtain⟨a,ha⟩:∃a:Nat,a=if i=0 then 0 else 1:=⟨_,rfl⟩
      have ha':(if decide ((1:Int)<1+(i:Int))=true then (1:Int) else 0)=(a:Int):=by rw[ha];by_cases z:i=0<;>simp[z]<;>omega
      rw[<-ha]at hab hpre;refine⟨_,rfl,_,_,rfl,rfl,.inr ⟨_,rfl,?_⟩⟩;rw[ha'];refine⟨_,rfl,r,_,_,V.int b,rfl,rfl,SqT.of (sc _ _ R2.tu),rfl,a,b,rfl,by omega,?_⟩;rw[show ((b:Int)-(a:Int)).toNat=b-a by omega];let J3:Nat->L2.St->L2.Hp->Prop:=λf Z Hd=>Ex6 λ(k2:Nat) (v5:Option V) (v6:Option V) (v7:Option V) (v8:Option V) (v9:Option V)=>An3 (Z=[some (.ref r),some (.int k2),some (.ref fo),some (.ref ra),some (.int (1+(i:Int))),v5,v6,v7,v8,v9]) (k2+vO ls b i [] a f=k) (Same H2 Hd);refine xj (lo:=a) (n:=b-a) J3 ⟨k,_,_,_,_,_,rfl,rfl,sc⟩ ?_ ?_
      · rintro f Z Hd hf ⟨k2,v5,v6,v7,v8,v9,rfl,hk2,sd⟩
        obtain⟨c,hc⟩:∃c,c=a+f:=⟨_,rfl⟩
        have hcb:c<b:=by omega
        have hS:=qR ls b i [] a f;rw[<-hc,za3]at hS;obtain⟨v,hv⟩:∃v,us[c]?=some v:=⟨_,aj (by rw[St.ln];exact hcb)⟩
        have av:=St.ok c v hv;rw[bO]at av;refine⟨_,rfl,(by decide:0<=aA),λe0 he0=>?_⟩;have sd:=sd.trans (zp he0 (o:=.tup []));have he:upd Hd e0 (.tup []) e0=some (.tup (([]:List Int).map V.int)):=zj;generalize upd Hd e0 (.tup [])=He at sd he;have We:=W.same sd;refine⟨fo,kvs,kI [],e0,.ref la,rfl,We.s.d,rfl,by rw[Yg];exact he,hla,_,rfl,la,us,_,v,rfl,rfl,SqL.of (sd _ _ St.li),by rw[<-fV,<-hc];exact yZ hv,?_⟩;rcases av.cases with ⟨e,rfl⟩ | ⟨y,q,e,rfl,hq⟩
        · rw[e]at hS
          exact⟨_,rfl,rfl,_,rfl,qJ (by rw[decide_eq_true rfl];rfl) ⟨k2,_,_,_,_,_,rfl,by rw[hS];exact hk2,sd⟩⟩
        · rw[e]at hS
          dsimp only at hS;refine⟨_,rfl,rfl,_,rfl,Yq (by rw[decide_eq_false (λz=>nomatch z)];rfl) ?_⟩;obtain⟨lr,hlr⟩:∃lr,rs[i]?=some lr:=⟨_,aj (by have:=W.l;omega)⟩
          obtain⟨kr,dr,kr2⟩:=We.r.ok i lr hlr;have hy:=W.c.step W.c.1 hcb e;have atr:atI (rs.map V.ref) (1+(i:Int)-1)=some (.ref lr):=by rw[show (1:Int)+(i:Int)-1=(i:Int) by omega];exact yZ (by rw[ao,hlr];rfl)
          refine⟨_,rfl,_,rfl,_,rfl,_,_,rfl,rfl,ra,_,_,.ref lr,rfl,rfl,SqL.of We.r.li,atr,_,rfl,lr,kr,kI y,q,_,rfl,dr,rfl,by rw[Yg];exact sd _ _ hq,kr2 y hy,_,_,rfl,rfl,_,rfl,?_⟩;by_cases hlt:k2<cnt ls b i y
          case neg=>
            rw[decide_eq_false (show ¬ (k2:Int)<((cnt ls b i y:Nat):Int) by omega)];refine yG ⟨_,rfl,_,rfl,_,rfl,_,_,rfl,rfl,ra,_,_,.ref lr,rfl,rfl,SqL.of We.r.li,atr,_,rfl,lr,kr,kI y,q,_,rfl,dr,rfl,by rw[Yg];exact sd _ _ hq,kr2 y hy,_,_,rfl,rfl,k2-cnt ls b i y,some (.int ((a:Int)+(f:Int))),some (.ref q),v7,v8,v9,?_,by rw[hS];omega,sd⟩
            try dsimp only
            rw[show (k2:Int)-((cnt ls b i y:Nat):Int)=((k2-cnt ls b i y:Nat):Int) by omega];rfl
          rw[decide_eq_true (show (k2:Int)<((cnt ls b i y:Nat):Int) by omega)];have htot:=zcP ls b i [] a (f+1) (b-a-(f+1));rw[show f+1+(b-a-(f+1))=b-a by omega,hS]at htot;have hK:K0<many (gd ls b) (b^60):=by
            have h1:=uq (gd ls b) (show b^(i+1)<=b^60 from cM (by omega) (by omega));rw[<-cm]at h1;omega
          have hl:=QS ne e;refine yz ?_;refine⟨_,rfl,(by show 1<=aA;decide),λl1 hl1=>?_⟩;have s3:=zp hl1 (o:=.lst [.int ((a:Int)+(f:Int))]);have hl13:upd He l1 (.lst [.int ((a:Int)+(f:Int))]) l1=some (.lst [.int ((a:Int)+(f:Int))]):=zj;generalize upd He l1 (.lst [.int ((a:Int)+(f:Int))])=H3 at s3 hl13;have s03:=sd.trans s3;refine⟨_,rfl,_,rfl,_,rfl,_,rfl,_,rfl,_,_,rfl,rfl,_,rfl,?_⟩;refine⟨r,fo,ra,q,b,bl,zs,y,i,k2,kvs,rs,M,K0,1,c,by (try dsimp only);rw[show (1:Int)+(i:Int)-1=(i:Int) by omega];rfl,R2.same s03,by rw[hls];exact g,by rw[hls];exact W.same s03,by omega,s03 _ _ hq,hy,?_,λfa fs H4 s4 hfa hfl hres=>?_⟩
          · by_cases z:i=0
            · exact .inl z
            · rw[if_neg z]at ha hk
              subst ha;refine .inr ⟨by omega,?_⟩;have p0:NthN ls b K0 (1+i) 0 [] 0 k:=.inl ⟨rfl,rfl,rfl,by rw[show 1+i-1=i by omega];exact hk,by rw[show 1+i-1=i by omega];show k<vO ls b i [] 1 (b-1);omega⟩;have p1:=p0.next (c:=c) ne b2 (by omega) (by rw[if_pos rfl];omega) hcb hl.1;rw[if_pos rfl,show 1+i-1-0=i by omega,show c-1=f by omega,show k-vO ls b i [] 1 f=k2 by omega,<-hl.2.1,c7]at p1;rw[hls];have p2:=p1 (by omega) hlt;rwa[bO,bO]at p2
          · rw[hls]at hres
            refine⟨l1,fa,_,_,rfl,rfl,s4 _ _ hl13,hfa,by rw[aa,hfl];exact aB (show 1+i<=61 by omega) (by decide),λl2 hl2=>?_⟩;rw[show [V.int ((a:Int)+(f:Int))]++fs.map (λ(f:Nat)=>V.int f)=(c::fs).map λ(f:Nat)=>V.int f by rw[hc];simp];have s5:=s4.trans (zp hl2 (o:=.lst ((c::fs).map λ(f:Nat)=>V.int f)));have h25:upd H4 l2 (.lst ((c::fs).map λ(f:Nat)=>V.int f)) l2=some (.lst ((c::fs).map λ(f:Nat)=>V.int f)):=zj;generalize upd H4 l2 (.lst ((c::fs).map λ(f:Nat)=>V.int f))=H5 at s5 h25;have s05:=s03.trans s5;let J4:Nat->L2.St->L2.Hp->Prop:=λj Z Hf=>Ex2 λ(v8:Option V) (v9:Option V)=>Z=[some (.ref r),some (.int k2),some (.ref fo),some (.ref ra),some (.int (1+(i:Int))),some (.int ((a:Int)+(f:Int))),some (.ref q),some (.int ((((c::fs).take j).foldl (λm f=>m*b+f) 0:Nat):Int)),v8,v9]/\Hf=H5;refine⟨l2,rfl,⟨_,SqL.of h25⟩,VG (K:=K) (a:=l2) (xs:=(c::fs).map λ(f:Nat)=>V.int f) J4 ⟨_,_,rfl,rfl⟩ (λj Z Hf _ ⟨_,_,_,e⟩=>by rw[e];exact SqL.of h25) ?_ ?_⟩
            · rintro j u Z Hf hj ⟨w8,w9,rfl,rfl⟩
              rw[ao]at hj;obtain⟨z,hzj,rfl⟩:=aY.mp hj;refine⟨_,rfl,_,rfl,r,_,_,V.int b,rfl,rfl,SqT.of (s05 _ _ R2.tu),rfl,_,_,rfl,rfl,.inr ⟨by omega,by omega⟩,_,rfl,_,_,rfl,rfl,some (.int z),w9,?_,rfl⟩;rw[bY,hzj,iK,mY];dsimp only[DN];rw[fV,Gm];rfl
            · rintro Z Hf ⟨w8,w9,rfl,rfl⟩
              refine⟨_,rfl,kk _ _ (s2.trans s05) (.inl ⟨fs.foldl (λm f=>m*b+f) c,?_,?_⟩)⟩
              · rw[aa,bT,oO,c7,bO]
              · rcases hres with z | ⟨h1,h2⟩
                · rw[z]at hfl hk hk2 hlt
                  obtain rfl:=sJ.mp hfl;rw[if_pos z]at ha;rw[if_pos rfl]at hk;subst ha;obtain rfl:c=f:=by omega
                  rw[zfC ne b2 (by omega)]at hk2;have:k2<1:=hlt;refine⟨?_,by show many (gd ls b) c=K0;omega,hK⟩;show lacks ls (figs b c)=true;rw[uv hcb];exact hl.1
                · exact⟨h1,h2,hK⟩
      · rintro Z Hd ⟨k2,v5,v6,v7,v8,v9,rfl,hk2,sd⟩
        exact⟨k2,_,_,_,_,_,_,rfl,by rw[if_neg (by omega)];omega,sd⟩
    · rintro Z Hc ⟨k,v4,v5,v6,v7,v8,v9,rfl,hk,sc⟩
      show Qd _ _ _ _ _;rw[if_neg (by decide)]at hk;refine⟨_,rfl,(by decide:0<=aA),λe0 he0=>?_⟩;have s3:=sc.trans (zp he0 (o:=.tup []));have he:upd Hc e0 (.tup []) e0=some (.tup (([]:List Int).map V.int)):=zj;generalize upd Hc e0 (.tup [])=H3 at s3 he;refine⟨fo,kvs,kI [],e0,.ref la,rfl,(W.same s3).s.d,rfl,by rw[Yg];exact he,hla,_,rfl,la,us,rfl,SqL.of (s3 _ _ St.li),λp hp=>?_⟩;have hu:us.drop 1=(us.drop 1).take (b-1):=by rw[bV (by rw[bR,St.ln];exact aq _)]
      rw[show qi us (some 1) none=us.drop 1 from jb us 1,hu];have s4:=s3.trans (zp hp (o:=.lst ((us.drop 1).take (b-1))));have A4:=(St.ok.cut 1 (b-1)).same λc us e=>s4 _ _ e;have hul:((us.drop 1).take (b-1)).length=b-1:=by rw[bA,bR,St.ln];omega
      refine⟨p,rfl,⟨_,SqL.of zj⟩,XH zj A4 (by rw[hul];omega) (λv R r=>⟨_,rfl,rfl,_,rfl,r⟩) (λe=>.ref e.1) (λe _ _ R r=>⟨_,rfl,r⟩) λes he1 he2 D1 hD1=>?_⟩;rw[hul]at he2;have s5:=s4.trans (zp hD1 (o:=.lst (es.map λe=>V.ref e.1)));have he1:=λe h=>zp hD1 (o:=.lst (es.map λe=>V.ref e.1)) _ _ (he1 e h);have hD5:upd (upd H3 p (.lst ((us.drop 1).take (b-1)))) D1 (.lst (es.map λe=>V.ref e.1)) D1=some (.lst (es.map λe=>V.ref e.1)):=zj;generalize upd (upd H3 p (.lst ((us.drop 1).take (b-1)))) D1 (.lst (es.map λe=>V.ref e.1))=H5 at s5 hD5 he1;have hes:es.length<=100:=by have:=congrArg cB he2;have h3:=Xq ls [] 1 (b-1);rw[aa]at this;omega
      refine⟨(by show 2<=aA;decide),λl hl=>?_⟩;have s6:=zp hl (o:=.lst [.non,.str ("many" : bZ)]);have hl6:upd H5 l (.lst [.non,.str ("many" : bZ)]) l=some (.lst [.non,.str ("many" : bZ)]):=zj;generalize upd H5 l (.lst [.non,.str ("many" : bZ)])=H6 at s6 hl6;have W6:=W.same (s5.trans s6);obtain⟨lr,hlr⟩:∃lr,rs[59]?=some lr:=⟨_,aj (by have:=W.l;omega)⟩
      obtain⟨kr,dr,kr2⟩:=W6.r.ok _ lr hlr;refine⟨_,rfl,D1,rfl,⟨_,SqL.of (s6 _ _ hD5)⟩,Js (F:=cnt ls b 59) (s6 _ _ hD5) hes (λe he R r=>?_) λD2 hD2=>?_⟩
      · exact⟨_,rfl,ra,_,_,.ref lr,rfl,rfl,SqL.of W6.r.li,yZ (j:=59) (by rw[ao,hlr];rfl),_,rfl,lr,kr,kI e.2,e.1,_,rfl,dr,rfl,by rw[Yg];exact s6 _ _ (he1 e he),kr2 _ (W.c.2 _ W.c.1 _ (zab (a:=1) (n:=b-1) (by omega) (by rw[<-he2];exact aQ.mpr ⟨e,he,rfl⟩))),r⟩
      have s7:=zp hD2 (o:=.lst ((es.map λe=>((cnt ls b 59 e.2:Nat):Int)).map V.int));refine⟨D2,_,rfl,SqL.of zj,_,_,rfl,rfl,.inr ⟨_,rfl,l,_,_,_,rfl,rfl,SqL.of (s7 _ _ hl6),?_,kk _ _ (s2.trans (s5.trans (s6.trans s7))) (.inr ⟨by rw[<-cm];omega,rfl⟩)⟩⟩;rw[QF he2];show atI _ (if decide ((0:Int)<((jx ls b 59:Nat):Int))=true then (1:Int) else 0)=_;by_cases z:0<jx ls b 59
      · rw[if_pos z,if_pos (decide_eq_true (by omega))];rfl
      · rw[if_neg z,if_neg (λq=>z (by have:=of_decide_eq_true q;omega))];rfl
end
section
variable {P:bx} {w:bU} {K:aK} {mg:bZ->Option aD} {base:dj} {T0 C CK:au}
def Zi(T0 C CK:au):Sp:=λvs H Q _=>Ex6 λs k r Hb b bd=>Ex3 λ(bl:au) (zs:ZB) (n:Nat)=>An4 (vs=[.ref k,.ref r,.int n]) (KS T0 C CK Hb H s k b bd (zs.map (·.2))) (RuleAt Hb r b bl zs) (∀H':Hp,KS T0 C CK Hb H' s k b bd (zs.map (·.2))->Q (.bl true) H')
theorem yS:zF ["keeper","rule","k","due","found","caught","e"] ["keeper","rule","k"] (zx yx):={}
set_option maxHeartbeats 0 in
theorem Vc(D:Df K mg "_law_good_right" yx Bj f fd)(MKeeper_good:Mt K CK "Keeper.good" "good" ji A5 f1 fd1)(GKeeper_goodX:FnOk P w K mg base (CX1 P w) 7 f1 fd1 A5 (zbI T0 C CK xE))(cKeeper:ClK K mg CK)(Uq:Df K mg "_law_by" wG Bi f2 fd2)(JQ:FnOk P w K mg base CX0 3 f2 fd2 Bi (QZ P w))(uE:Df K mg "_law_kind" qb Au f6 fd6)(XN:zbT mg qA qB qE qS qV xA xB xC xD xE xI xS yA)(qCe:mg "ValueError"= none)(qBd:zbA K mg "LackError" yB)(qBj:CQ K (.ref xE) (.ref yB)=some true)(qBh:Qq K xE qA qB qE qS qV xA xB xC xD xE xI xS yA 9)(T:Blt mg)(U:Vk mg):FnOk P w K mg base CX0 8 f fd Bj (Zi T0 C CK):=by
 have Vh:FnOk P w K mg base CX0 1 f6 fd6 Au (YB K qA qB qE qS qV xA xB xC xD xE xI xS yA):=V5 uE XN qCe T U;refine D.fn.ok yS (λvs H Q E h=>?_) (λcdv A outer s H vs Q E hr h=>?_)
 ·obtain⟨s,k,r,Hb,b,bd,bl,zs,n,rfl,_⟩:=h;rfl
 ·obtain⟨s,k,r,Hb,b,bd,bl,zs,n,rfl,D,R,kk⟩:=h;have HU:=Yr hr;refine yW ?_;intro XX;let q1:Sq XX ((zq yx).drop 5):=⟨_,zu (zG (uU (xK Uu (pv 5) yQ (zM _)) (uU (xK (Wz K HU) (pv 4) (pv 3) (zM _)) (qH (zbG (zA (tZ K) (by rfl) T.n_isinstance bD (zf (pv 4) (zf (xM (v:=.ty "bool") rfl T.n_bool Di rfl) zg))))))))⟩
  let q2:Sq XX ((zq yx).drop 4):=⟨_,zm (yw (zK (Wz K HU) (pv 3) jE (zM _))
    (zu (zG (uU (xK jg (pv 5) yQ (zM _)) (qH (zL uE Vh (hr.mono (by decide)) (zf (pv 5) (zf jE zg)))))))
    zR) q1.p⟩
  let q3:Sq XX ((zq yx).drop 3):=⟨_,zm (zda (i:=6) qBd rfl rfl yS.nd rfl rfl (λ_ _ _ hS=>
    (zu (zE (i:=4) yS.nd rfl (bf rfl) (zd6 MKeeper_good cKeeper.cl GKeeper_goodX (hr.mono (by decide)) hS (pv 0) (zf (pv 2) zg))))) (λ_=>
    (zu (zE (i:=5) yS.nd rfl (bf rfl) (pv 6))))) q2.p⟩
  let q4:Sq XX ((zq yx).drop 2):=⟨_,zm (zE (i:=5) yS.nd rfl (bf rfl) yQ) q3.p⟩
  let q5:Sq XX ((zq yx).drop 1):=⟨_,zm (zE (i:=4) yS.nd rfl (bf rfl) yQ) q4.p⟩
  refine⟨_,(zm (zE (i:=3) yS.nd rfl (bf rfl) (zL Uq JQ (hr.mono (by decide)) (zf (pv 1) (zf (pv 2) zg)))) q5.p),?_⟩;refine⟨_,rfl,_,rfl,r,b,bl,zs,n,rfl,R.same D.base,D.good_rule,λdv H1 m1 hdv=>?_⟩;have D1:=D.same m1;obtain⟨dx,kbl,ktl,hk⟩:=D1.ob;refine⟨_,rfl,k,dx,_,rfl,hk,uZ _ _ _ _,_,rfl,?_⟩;refine YS (D1.good (λv H2 hv hp D2=>?_) (λhz h59 H2 D2=>⟨_,rfl,qBj,λx hx=>?_⟩))
  ·obtain⟨d,t,td,tt,ev,e1,e2,e3⟩:∃(d:cD) (t:Tr),ThAt H2 d v/\TrAt K H2 t v/\v=dv/\teq t (.str "many")=false/\isT "bool" d=false/\vP t<=8:=by
    rcases hv with ⟨h1,g,rfl,hg,hm,_⟩ | ⟨h1,rfl⟩
    ·rcases hdv with ⟨g2,rfl,hg2,hm2,_⟩ | ⟨h2,_⟩
     ·exact⟨.int g,.int g,by rw[ThAt],by rw[TrAt],by rw[zf1 _ hg hg2 (hm.trans hm2.symm)],rfl,rfl,by simp[vP]⟩
     ·omega
    ·have h59:jx (zs.map (·.2)) b 59=0:=hp.elim (λz=>by omega) id;rcases hdv with ⟨g2,rfl,hg2,hm2,h2⟩ | ⟨h2,rfl⟩
     ·omega
     ·exact⟨.none,.non,by rw[ThAt],by rw[TrAt],by rw[if_neg (by omega)],rfl,rfl,by simp[vP]⟩
   subst ev;refine⟨_,rfl,t,.str "many",tt,by rw[TrAt],e3,_,rfl,?_⟩;rw[if_neg bc,e1];refine yG ⟨_,rfl,rfl,_,rfl,Yq (decide_eq_true rfl) ⟨_,rfl,_,rfl,t,t,tt,tt,e3,_,rfl,?_⟩⟩;rw[if_neg bc,um];refine yz ⟨_,rfl,_,_,_,_,rfl,td.ty,JL d,_,rfl,?_⟩;rw[e2];exact kk H2 D2
  ·have h0:dv=.str ("many" : bZ):=by
    rcases hdv with ⟨g2,rfl,hg2,hm2,h2⟩ | ⟨h2,rfl⟩
    ·omega
    ·rw[if_pos h59]
   subst h0;have D3:=D2.same (zp hx (o:=Xy x xE));have hx3:upd H2 x (Xy x xE) x=some (Xy x xE):=zj;generalize upd H2 x (Xy x xE)=H3 at D3 hx3;refine⟨_,rfl,_,rfl,.str "many",.str "many",by rw[TrAt],by rw[TrAt],by simp[vP],_,rfl,?_⟩;rw[if_neg bc,um];refine yz ⟨_,rfl,rfl,_,rfl,Yq (by rw[decide_eq_false (λz=>nomatch z)];rfl) ⟨_,rfl,x,xE,9,"many","many",rfl,hx3,qBh,rfl,λH4 m4=>?_⟩⟩;rw[decide_eq_true rfl];exact kk H4 (D3.same m4)
theorem wM:zF ["store","keeper","rule","held","way","k","n","found"] ["store","keeper","rule","held"] (zx yp):={}
set_option maxHeartbeats 0 in
theorem Vj(D:Df K mg "_law_told_right" yp Ai f fd)(MKeeper_below:Mt K CK "Keeper.below" "below" vU Al f1 fd1)(GKeeper_below:FnOk P w K mg base CX0 5 f1 fd1 Al (Xu T0 C CK))(cKeeper:ClK K mg CK)(zB:Df K mg "_law_take" yj Ae f2 fd2)(wg:Df K mg "_law_number" vH Ac f3 fd3)(xG:Df K mg "_law_rule_right" zT Ai f4 fd4)(wF:FnOk P w K mg base CX0 3 f4 fd4 Ai (wK T0 C CK))(uP:Df K mg "_law_good_right" yx Bj f5 fd5)(qQ:FnOk P w K mg base CX0 8 f5 fd5 Bj (Zi T0 C CK))(xO:Df K mg "_law_below" zV Ao f6 fd6)(wy:FnOk P w K mg base CX0 3 f6 fd6 Ao (jd P w))(T:Blt mg)(U:Vk mg):FnOk P w K mg base CX0 9 f fd Ai (wK T0 C CK):=by
 have F:FnOk P w K mg base CX0 1 f2 fd2 Ae xg:=w6 zB T;have jP:FnOk P w K mg base CX0 2 f3 fd3 Ac j5:=XF wg zB T;refine D.fn.ok wM (λvs H Q E h=>?_) (λcdv A outer s H vs Q E a h=>?_)
 ·obtain⟨s,k,r,m,q,b,G,I,t,S,rfl,_⟩:=h;rfl
 ·obtain⟨s,k,r,m,q,b,G,I,t,S,rfl,D,R,Hd,W,kk⟩:=h;have HU:=Yr a;have R0:=R.same awS;refine yW ?_;intro c;let X:Sq c ((zq yp).drop 5):=⟨_,zu (zG (uU (zA (tZ K) (by rfl) T.n_isinstance bD (zf (pv 7) (zf (xM (v:=.ty "int") rfl T.n_int mZ rfl) zg))) (uU (zbG (zA (tZ K) (by rfl) T.n_isinstance bD (zf (pv 7) (zf (xM (v:=.ty "bool") rfl T.n_bool Di rfl) zg)))) (qH (xK (Wz K HU) (pv 7) (zL xO wy (a.mono (by decide)) (zf (pv 2) (zf (pv 6) zg))) (zM _))))))⟩
  let d:Sq c ((zq yp).drop 4):=⟨_,zm (zE (i:=7) wM.nd rfl (bf rfl) (qD MKeeper_below cKeeper.cl GKeeper_below (a.mono (by decide)) (pv 1) (zf (pv 6) zg))) X.p⟩
  let J:Sq c ((zq yp).drop 3):=⟨_,zm (zE (i:=6) wM.nd rfl (bf rfl) (zL wg jP (a.mono (by decide)) (zf (pv 0) zg))) d.p⟩
  let Y:Sq c ((sb (zq yp) 2 true).drop 1):=⟨_,zu (zG (zL uP qQ (a.mono (by decide)) (zf (pv 1) (zf (pv 2) (zf (pv 5) zg)))))⟩
  let q5:Sq c ((zq yp).drop 2):=⟨_,zm (yw (zK XR (pv 4) zr (zM _))
    (zm (zE (i:=5) wM.nd rfl (bf rfl) (zQ (yt K) (zY (zf (zL zB F (a.mono (by decide)) (zf (pv 0) (zf zr zg))) (zf (zL zB F (a.mono (by decide)) (zf (pv 0) (zf zr zg))) (zf (zL wg jP (a.mono (by decide)) (zf (pv 0) zg)) zg)))) (zL zB F (a.mono (by decide)) (zf (pv 0) (zf zr zg))) (λ_ _=>rfl))) Y.p)
    zR) J.p⟩
  let L:Sq c ((zq yp).drop 1):=⟨_,zm (yw (zK XR (pv 4) zr (zM _))
    (zu (zG (zL xG wF (a.mono (by decide)) (zf (pv 0) (zf (pv 1) (zf (pv 2) (zf (pv 3) zg)))))))
    zR) q5.p⟩
  refine⟨_,(zm (zE (i:=4) wM.nd rfl (bf rfl) (zL zB F (a.mono (by decide)) (zf (pv 0) (zf zr zg)))) L.p),?_⟩;refine⟨_,rfl,s,_,rfl,D.st,by decide,by decide,λu H1 hway X=>?_⟩;have x:=D.stq X;refine⟨_,rfl,rfl,_,rfl,?_⟩;by_cases w0:u=0
  ·exact Yq (decide_eq_true (by rw[w0];rfl)) ⟨_,rfl,_,rfl,_,rfl,_,rfl,s,k,r,m,q,b,G,I,t,S,rfl,x,R,Hd,W,kk⟩
  refine qJ (decide_eq_false (λz=>w0 (by injection z with z;omega))) ⟨_,rfl,rfl,_,rfl,?_⟩;have y:∀M,KS T0 C CK q M s k b G (t.map (·.2))->Q (.bl true) M:=λM D'=>kk S q M D' (Same.refl _) Hd (by omega);by_cases w1:u=1
  ·refine Yq (decide_eq_true (by rw[w1];rfl)) ?_;refine⟨_,rfl,s,_,rfl,x.st,by decide,by decide,λe H2 hx1 d=>⟨_,rfl,s,_,rfl,d.st,by decide,by decide,λg H3 hx2 J=>⟨_,rfl,s,rfl,J.st,λj N hx3 Y=>⟨(by show 3<=aA;decide),λl m=>?_⟩⟩⟩⟩;have D4:=((x.stq d).stq J).stq Y;have Z:=D4.same (zp m (o:=.lst [.int e,.int g,.int j]));have nl:=D4.st.ne m;have B:upd N l (.lst [.int e,.int g,.int j]) l=some (.lst [.int e,.int g,.int j]):=zj;generalize upd N l (.lst [.int e,.int g,.int j])=H5 at Z B;refine⟨_,rfl,s,_,rfl,Z.st,by decide,by decide,λi H6 hi L=>?_⟩;have D6:=Z.stq L;obtain⟨n,O⟩:∃n:Nat,atI [V.int e,V.int g,V.int j] (i:Int)=some (.int n):=by
    have h3:i<3:=by omega
    match i,h3 with
    |0,_=>exact⟨e,rfl⟩
    |1,_=>exact⟨g,rfl⟩
    |2,_=>exact⟨j,rfl⟩
   exact⟨l,_,_,_,rfl,rfl,SqL.of (L.sm _ _ nl B),O,_,rfl,_,rfl,_,rfl,s,k,r,q,b,G,I,t,n,rfl,D6,R0,y⟩
  refine qJ (decide_eq_false (λz=>w1 (by injection z with z;omega))) ?_;refine⟨_,rfl,s,rfl,x.st,λn H2 O d=>?_⟩;have D2:=x.stq d;obtain⟨dx,kbl,ktl,hk⟩:=D2.ob;refine⟨_,rfl,k,dx,_,rfl,hk,uZ _ _ _ _,_,rfl,YS ?_⟩;refine D2.below (aO O (cM (by decide) (by decide))) λH3 D3=>?_;refine⟨_,rfl,_,_,_,_,rfl,.int _,zcN,_,rfl,yz ⟨_,rfl,_,_,_,_,rfl,.int _,VD,_,rfl,_,rfl,Yq rfl ⟨_,rfl,_,rfl,_,rfl,r,b,I,t,n,rfl,R0.same D3.base,D3.good_rule,O,λN m4=>?_⟩⟩⟩;refine⟨.int _,.int _,by rw[TrAt],by rw[TrAt],by simp[vP],?_⟩;rw[if_neg bc,um];exact y N (D3.same m4)
end
theorem zgn{K:aK}{tt:TT}(Pv:Nat->List V->Hp->Prop)(h0:Pv 0 [] H)(hl:∀i ys H,i<=xs.length->Pv i ys H->SqT K H a xs)(hs:∀i x ys H,xs[i]?=some x->Pv i ys H->ys.length<aA/\tt (some x::tU js Z) H λb H2=>if b=true then te (some x::tU js Z) H2 λv H3=>Pv (i+1) (ys++[v]) H3 else Pv (i+1) ys H2)(hd:∀ys H,Pv xs.length ys H->∀D,H D=none->Q (.ref D) (upd H D (.lst ys))):
  CompLoop (Itt K a) js tt te Z Q H:=by
 refine⟨λi m ys H=>m=xs.length-i/\i<=xs.length/\Pv i ys H,⟨xs.length,by simp,bw _,h0⟩,?_⟩;rintro i m ys H ⟨rfl,h,p⟩;have q:=hl i ys H h p;by_cases c:i<xs.length
 ·have d:xs[i]?=some xs[i]:=aj c;obtain⟨j,f⟩:=hs i xs[i] ys H d p;refine .inr ⟨⟨xs,xs[i],q,d⟩,j,Pv (i+1),λys' k l=>⟨xs.length-(i+1),by omega,rfl,c,l⟩,λx k y=>?_⟩;obtain⟨e,y⟩:=y;subst e;have g:=y xs q;rw[d]at g;cases g
  exact f
 ·have e:i=xs.length:=by omega
  subst e;exact .inl ⟨⟨xs,q,aq _⟩,hd ys H p⟩
def zaD(x y:Nat):Tr:=.tup [.int x,.int y]
theorem TrAt.pair{K:aK}(h:H p=some (.tup [.int x,.int y])):TrAt K H (zaD x y) (.ref p):=by
 unfold zaD;rw[TrAt];exact⟨p,_,rfl,SqT.of h,by rw[TrsAt];exact⟨_,_,rfl,by rw[TrAt],by rw[TrsAt];exact⟨_,_,rfl,by rw[TrAt],by rw[TrsAt]⟩⟩⟩
theorem zeX(x y:Nat):vP (zaD x y)<=8:=by simp[zaD,vP,wA]
theorem zeL:∀{l1 l2:ZA},l1.Pairwise (λx y=>HT.lexLt x y=true)->l2.Pairwise (λx y=>HT.lexLt x y=true)->(∀x,x∈l1↔x∈l2)->l1=l2
 |[],[],_,_,_=>rfl
 |[],y::l2,_,_,h=>absurd ((h y).mpr bI) eF
 |x::l1,[],_,_,h=>absurd ((h x).mp bI) eF
 |x::l1,y::l2,p1,p2,h=>by
  rw[DY]at p1 p2;have e:x=y:=by
   rcases aW.mp ((h x).mp bI) with e | e
   ·exact e
   ·rcases aW.mp ((h y).mpr bI) with b | b
    ·exact b.symm
    ·have c:=p2.1 x e;have d:=p1.1 y b;have:=HT.jz _ _ _ c d;rw[HT.vm]at this;cases this
  subst e;rw[zeL p1.2 p2.2 λz=>?_];constructor
  ·intro a;rcases aW.mp ((h z).mp (bQ _ a)) with e | e
   ·have:=p1.1 z a;rw[e,HT.vm]at this;cases this
   ·exact e
  ·intro a;rcases aW.mp ((h z).mpr (bQ _ a)) with e | e
   ·have:=p2.1 z a;rw[e,HT.vm]at this;cases this
   ·exact e
theorem DueL.uniq(h:door<=1)(a:DueL door ls ns l1)(b':DueL door ls ns l2)(g1:GoodRule b l1)(g2:GoodRule b l2):l1=l2:=by
 rcases (show door=0\/door=1 by omega) with e | e
 ·exact zeL g1.up g2.up λx=>((a.1 e).trans (b'.1 e).symm).mem_iff
 ·rw[a.2 e,b'.2 e]
section
variable {P:bx} {w:bU} {K:aK} {mg:bZ->Option aD} {base:dj} {T0 C CK:au}
def j6(T0 C CK:au):Sp:=λvs H Q _=>Ex6 λs k r t A Hb=>Ex5 λ(b:Nat) (bd:Nat) (bl:au) (zs:ZB) (door:Nat)=>Ex2 λu d=>An9 (vs=[.ref k,.ref r,.int bd,.ref t]) (KS T0 C CK Hb H s k b bd (zs.map (·.2))) (bd<2^100) (RuleAt (aw A Hb) r b bl zs) ((∀a∈A,Hb a≠none)) (Hb t=some (.tup [.int door,u])) (door<=1) (ThAt Hb d u) (Fit 3 2000 d/\∀r' bl' zs' Hb' H',KS T0 C CK Hb' H' s k b bd (zs'.map (·.2))->Same Hb Hb'->RuleAt (aw A Hb') r' b bl' zs'->Q (.ref r') H')
theorem wJ:zF ["keeper","rule","b","deed","kept","due","found","counts"] ["keeper","rule","b","deed"] (zx yf):={}
set_option maxHeartbeats 0 in
theorem Vn(D:Df K mg "_law_deed_right" yf Bk f fd)(Wf:Df K mg "_law_due" vD Bc f1 fd1)(Uw:FnOk P w K mg base CX0 2 f1 fd1 Bc Qe)(Zt:Df K mg "_law_asked" vf Bd f2 fd2)(Xz:FnOk P w K mg base CX0 11 f2 fd2 Bd (ZX T0 C CK))(xO:Df K mg "_law_below" zV Ao f3 fd3)(wy:FnOk P w K mg base CX0 3 f3 fd3 Ao (jd P w))(T:Blt mg)(U:Vk mg):FnOk P w K mg base CX0 12 f fd Bk (j6 T0 C CK):=by
 refine D.fn.ok wJ (λvs H Q E h=>?_) (λcdv A outer s H vs Q E S h=>?_)
 ·obtain⟨s,k,r,t,A,G,b,bd,bl,zs,J,u,d,rfl,_⟩:=h;rfl
 ·obtain⟨s,k,r,t,A,G,b,bd,bl,zs,J,u,d,rfl,D,W,R,hA,ht,h1,hd,fd,kk⟩:=h;have HU:=Yr S;have L:bd<2^900:=aO W (cM (by decide) (by decide));have R0:=R.same awS;have g:=D.good_rule;have hs:jG d<=100000:=aB (zdz d) (aB fd.wt (by decide));obtain⟨X,ar,Y⟩:Th G 4 5000 (.ref t):=Th.tup ht (λv hv=>by
   rcases aW.mp hv with rfl | hv
   ·exact Th.int (by omega) (by decide)
   ·rw[bu.mp hv];exact⟨d,hd,fd⟩) (n:=2000) (by show 2001*2<=5000;decide)
  have Z:∀{H':Hp},Same G H'->ThAt H' X (.ref t)/\X.showable=true/\X.shown.length<=aA/\X.depth<=40:=λm=>⟨ar.same m,Y.sh,Y.shown (by decide),aB Y.dp (by decide)⟩
  refine yW ?_;intro M;let q1:Sq M ((zq yf).drop 7):=⟨_,zu (zG (pv 5))⟩
  let q2:Sq M ((zq yf).drop 6):=⟨_,zm (yw (PW.pt (Ym (vK (xx (zA (tZ K) (by rfl) T.n_isinstance bD (zf (pv 6) (zf (xM (v:=.ty "tuple") rfl T.n_tuple pZ rfl) zg))))) (Ym (zK (WP K HU) (pv 6) (pv 7) (zM _)) (Z6 (zK (zet K HU) qM (yD (show CScope (zx yf) _ "one" ["keeper","rule","b","deed","kept","due","found","counts"] [] [] from {}) rfl (ziq (pv 6)) (λ_ _ _ _=>xq) (λ_ _ _ _=>(zA (tZ K) (by rfl) T.n_isinstance bD (zf (pv 0) (zf (xM (v:=.ty "bool") rfl T.n_bool Di rfl) zg))))) (by with_unfolding_all rfl))))))
    (zu (zG yQ))
    zR) q1.p⟩
  let q3:Sq M ((zq yf).drop 5):=⟨_,zm (zE (i:=7) wJ.nd rfl (bf rfl) (wW (zf (zL xO wy (S.mono (by decide)) (zf (pv 1) (zf (pv 2) zg))) (zf (zL xO wy (S.mono (by decide)) (zf (pv 5) (zf (pv 2) zg))) zg)))) q2.p⟩
  let q4:Sq M ((zq yf).drop 4):=⟨_,zm (yw (xx (zA (tZ K) (by rfl) T.n_isinstance bD (zf (pv 5) (zf (xM (v:=.ty "str") rfl U.n_str Lh rfl) zg))))
    (zu (zG (zQ (yt K) (zY (zf yQ (zf (pv 1) zg))) (yU qP (by rfl) T.n_int mZ (zf (xK (Wz K HU) (pv 6) (pv 5) (zM _)) zg)) (λ_ _=>rfl))))
    zR) q3.p⟩
  let q5:Sq M ((zq yf).drop 3):=⟨_,zm (yw (zK zei (zA (Jz S.gd HU) (by rfl) T.n_repr Bw (zf (pv 3) zg)) (pv 4) (zM _))
    (zu (zG yQ))
    zR) q4.p⟩
  let q6:Sq M ((zq yf).drop 2):=⟨_,zm (zE (i:=6) wJ.nd rfl (bf rfl) (zL Zt Xz (S.mono (by decide)) (zf (pv 0) (zf (pv 3) (zf (pv 5) zg))))) q5.p⟩
  let q7:Sq M ((zq yf).drop 1):=⟨_,zm (zE (i:=5) wJ.nd rfl (bf rfl) (zL Wf Uw (S.mono (by decide)) (zf (pv 1) (zf (pv 3) zg)))) q6.p⟩
  refine⟨_,(zm (zE (i:=4) wJ.nd rfl (bf rfl) (zA (Jz S.gd HU) (by rfl) T.n_repr Bw (zf (pv 3) zg))) q7.p),?_⟩;obtain⟨p1,p2,p3,p4⟩:=Z D.base;refine⟨_,rfl,.ref t,X,rfl,p1,p2,p3,p4,?_⟩;refine⟨_,rfl,_,rfl,r,t,b,bl,zs,J,u,d,rfl,R0.same D.base,g,D.base _ _ ht,h1,hd.same D.base,hs,λx N H1 m1=>?_,λN r2 aa q H1 m1 R2 g2 du n1 n2 n3=>?_⟩
  ·have D1:=D.same m1;refine⟨_,rfl,_,rfl,_,rfl,YS (D1.asked L ht h1 hd hs (λy F=>?_) (λF=>by rw[N]at F;cases F))⟩;rw[N]at F;injection F with F
   subst F;refine⟨rfl,λH2 m2=>?_⟩;have O:=D1.same m2;obtain⟨p1,p2,p3,p4⟩:=Z O.base;refine⟨_,rfl,.ref t,X,rfl,p1,p2,p3,p4,?_⟩;refine⟨_,rfl,rfl,_,rfl,qJ (by rw[decide_eq_true rfl];rfl) ⟨_,rfl,_,_,_,_,rfl,.str _,Qk,_,rfl,yz ⟨_,rfl,(by show 2<=aA;decide),λl hl=>?_⟩⟩⟩;have s3:=zp hl (o:=.lst [.non,.ref r]);refine⟨_,rfl,_,rfl,.str x,.str x,by rw[TrAt],by rw[TrAt],by simp[vP],?_⟩;rw[if_neg bc,um];exact .inr ⟨_,rfl,l,_,_,.ref r,rfl,rfl,SqL.of zj,rfl,kk r bl zs G _ (O.same s3) (Same.refl _) R⟩
  ·have D1:=D.go (Stq.of D.st m1);have j:Same G (grow G H H1):=D.old;have I:RuleAt (aw A (grow G H H1)) r2 b aa q:=by
    have go:∀{c u},H1 c=some u->H c=none->aw A (grow G H H1) c=some u:=λ{c u} h1 h2=>by
     rw[yc (λz=>hA c z (D.base.free h2)),uD h2];exact h1
    exact⟨go R2.tu n1,go R2.li n2,λz hz=>(n3 z hz).elim (λh=>(j.aw A) _ _ (R.st z h)) (go (R2.st z hz))⟩
   generalize grow G H H1=az at D1 j I;refine⟨_,rfl,_,rfl,_,rfl,YS (D1.asked L (j _ _ ht) h1 (hd.same j) hs (λy F=>by rw[N]at F;cases F) (λ_ p l3 H2 ba O hp=>?_))⟩;obtain rfl:q.map (·.2)=l3:=du.uniq h1 ba g2 O.good_rule;obtain⟨p1,p2,p3,p4⟩:=Z (j.trans O.base);refine⟨_,rfl,.ref t,X,rfl,p1,p2,p3,p4,?_⟩;refine⟨_,rfl,rfl,_,rfl,qJ (by rw[decide_eq_true rfl];rfl) ⟨_,rfl,_,_,_,_,rfl,.tup (O.base _ _ (awS _ _ I.tu)),Z1,_,rfl,yG ?_⟩⟩;have mD:=j.trans O.base;refine⟨_,rfl,_,rfl,r,b,bl,zs,bd,rfl,R0.same mD,g,W,λH3 m3=>?_⟩;have D3:=O.same m3;refine⟨_,rfl,_,rfl,r2,b,aa,q,bd,rfl,(I.same awS).same D3.base,g2,W,λH4 m4=>⟨(by show 2<=aA;decide),λtt bb=>?_⟩⟩;have D4:=D3.same m4;have m5:=zp bb (o:=.tup [.int (many (gd (zs.map (·.2)) b) bd:Nat),.int (many (gd (q.map (·.2)) b) bd:Nat)]);have D5:=D4.same m5;have B:=m5 _ _ (m4 _ _ (m3 _ _ hp));refine⟨_,rfl,_,_,_,_,rfl,.tup B,Y9,_,rfl,qJ rfl ⟨_,rfl,_,rfl,zaD _ _,zaD _ _,TrAt.pair B,TrAt.pair zj,zeX _ _,_,rfl,?_⟩⟩;rw[if_pos rfl,um];refine yG ?_;generalize upd H4 tt _=H5 at D5 B;let J1:Nat->List V->L2.Hp->Prop:=λi ys Hc=>An3 (i<=2) (ys=bW i (.bl false)) (Hc=H5);refine⟨_,rfl,p,rfl,⟨_,SqT.of B⟩,zgn (K:=M.K) (a:=p) J1 ⟨by omega,rfl,rfl⟩ (λi ys Hc _ ⟨_,_,e⟩=>by rw[e];exact SqT.of B) ?_ ?_⟩
   ·rintro i x ys Hc hi ⟨hi2,rfl,rfl⟩;have be:i<2:=(aV.mp hi).1;obtain⟨n,rfl⟩:∃n:Int,x=.int n:=by
     have N:=aL hi;rcases aW.mp N with rfl | N
     ·exact⟨_,rfl⟩
     ·exact⟨_,bu.mp N⟩
    refine⟨by rw[BX];exact aO be (by decide),?_⟩;unfold Zr;dsimp only;rw[if_pos rfl];exact⟨_,rfl,_,_,_,_,rfl,.int _,VD,by omega,by rw[List.replicate_succ'],rfl⟩
   ·rintro ys Hc ⟨_,rfl,rfl⟩ Dl bg;refine⟨Dl,_,[.bl false,.bl false],.bl true,rfl,SqL.of zj,?_,by rw[TrAt],by simp[wA,vP],_,rfl,?_⟩
    ·rw[TrsAt];exact⟨_,_,rfl,by rw[TrAt],by rw[TrsAt];exact⟨_,_,rfl,by rw[TrAt],by rw[TrsAt];rfl⟩⟩
    refine qJ rfl ⟨_,rfl,kk r2 aa q az _ (D5.same (zp bg)) j I⟩
end
section
variable {P:bx} {w:bU} {K:aK} {mg:bZ->Option aD} {base:dj}
def Ui:Sp:=λvs H Q _=>∃s:au,An3 (vs=[.ref s]) (Sto H s) (∀r b bl zs H',Stq s H H'->RuleAt (aw [s] H') r b bl zs->GoodRule b (zs.map (·.2))->Q (.ref r) H')
theorem VF:zF ["store","base"] ["store"] (zx jy):={}
theorem zb4(D:Df K mg "_law_rule" jy Ac f fd)(zB:Df K mg "_law_take" yj Ae f1 fd1)(yI:Df K mg "_law_stretch" xf Am f2 fd2)(qU:Df K mg "_law_base" jt Ac f3 fd3)(jX:Df K mg "_law_bad" vJ Aq f4 fd4)(T:Blt mg):FnOk P w K mg base CX0 4 f fd Ac Ui:=by
 have g:FnOk P w K mg base CX0 2 f3 fd3 Ac V6:=zb8 qU zB T;have j:FnOk P w K mg base CX0 3 f4 fd4 Aq Qf:=zcA jX zB yI T;refine D.fn.ok VF (λu H Q E h=>?_) (λcdv A outer s H u Q E a h=>?_)
 ·obtain⟨s,rfl,_⟩:=h;rfl
 ·obtain⟨d,rfl,S,v⟩:=h;refine yW ?_;intro x;let y:Sq x ((zq jy).drop 1):=⟨_,zu (zG (wW (zf (pv 1) (zf (zL jX j (a.mono (by decide)) (zf (pv 0) (zf (pv 1) zg))) zg))))⟩
  refine⟨_,(zm (zE (i:=1) VF.nd rfl (bf rfl) (zL qU g (a.mono (by decide)) (zf (pv 0) zg))) y.p),?_⟩;refine⟨_,rfl,d,rfl,S,λb C n c k=>?_⟩;refine⟨_,rfl,_,rfl,_,rfl,d,b,rfl,k.st,n,c,λq F H2 t B=>⟨(by show 2<=aA;decide),λr a=>?_⟩⟩;have m:=zp a (o:=.tup [.int b,.ref q]);have o:∀p,C p=none->p∉[d]:=λp G z=>k.st.ne G (by simpa using z);have I:r∉[d]:=λz=>t.st.ne a (by simpa using z);exact v r b q F _ ((k.trans t).same m) ⟨by rw[yc I];exact zj,by rw[yc (o _ B.nl)];exact m _ _ B.li,λz e=>by rw[yc (o _ (B.ns z e))];exact m _ _ (B.st z e)⟩ ⟨n,c,by rw[aa];exact B.len,λl J=>by
   obtain⟨z,e,rfl⟩:=aQ.mp J;exact B.good z e,B.up⟩
end
theorem zgg(h:aw [s] H c=some o)(n:c≠T):aw [T,s] H c=some o:=by
 have a:c∉[s]:=λz=>by rw[ju z]at h;cases h
 rw[yc a]at h;simp at a;rw[yc (by simp[n,a])];exact h
theorem RuleAt.vw(R:RuleAt (aw [s] H) r b bl zs)(lt:LT T H):RuleAt (aw [T,s] H) r b bl zs :=
 ⟨zgg R.tu (lt.tup (yd _ _ _ _ R.tu)),zgg R.li (lt.lst (yd _ _ _ _ R.li)),λz a=>zgg (R.st z a) (lt.lst (yd _ _ _ _ (R.st z a)))⟩
theorem zez(m:∀c o,c∉A->Hb c=some o->Hb' c=some o):Same (aw (hl::A) Hb) (aw [hl] Hb'):=λc o e=>by
 have hc:c∉hl::A:=λz=>by rw[ju z]at e;cases e
 rw[yc hc]at e;simp only[aW,not_or]at hc;rw[yc (by simpa using hc.1)];exact m c o hc.2 e
def Ji:cD->V->List au
 |.list _,.ref a=>[a]
 |_,_=>[]
theorem zaL(h:ThAt H d u)(ha:a∈Ji d u):H a≠none:=by
 cases d<;>try cases ha
 obtain⟨c,ys,rfl,e,_⟩:=h;rw[bu.mp ha,e];simp
theorem zee{H:Hp}:∀{ds:List cD} {ys:List V},ThsAt H ds ys->ys.length=ds.length
 |[],ys,h=>by rw[ThsAt]at h;rw[h];rfl
 |d::ds,ys,h=>by
  rw[ThsAt]at h;obtain⟨y,zs,rfl,_,h⟩:=h;rw[bF,bF,zee h]
section
variable {T0 C CK:au} {Hb H:Hp} {s k:au} {b bd:Nat} {ls:ZA}
theorem KS.seen(D:KS T0 C CK Hb H s k b bd ls)(R:RuleAt Hb r b bl zs):RuleAt (aw [s] H) r b bl zs:=R.same λc o h=>by
 rw[yc (by simpa using D.ns h)];exact D.base _ _ h
end
section
variable {P:bx} {w:bU} {K:aK} {mg:bZ->Option aD} {base:dj} {T0 C CK:au}
def Zu(T0:au):Sp:=λvs H Q _=>∃s:au,An4 (vs=[.ref s]) (Sto H s) (LT T0 H) (∀H':Hp,Same (aw [T0,s] H) H'->LT T0 H'->Q (.bl true) H')
theorem zZ:zF ["store","rule","b","handed","keeper","held","one","turn","deed","again","question"] ["store"] (zx zO):={}
set_option maxHeartbeats 0 in
theorem Ub(D:Df K mg "_law_run_right" zO Ac f fd)(zB:Df K mg "_law_take" yj Ae f1 fd1)(yI:Df K mg "_law_stretch" xf Am f2 fd2)(qU:Df K mg "_law_base" jt Ac f3 fd3)(jX:Df K mg "_law_bad" vJ Aq f4 fd4)(YH:Df K mg "_law_rule" jy Ac f5 fd5)(uF:Df K mg "_law_copy" qe Af f6 fd6)(wg:Df K mg "_law_number" vH Ac f7 fd7)(Yx:Df K mg "_law_deed" Zz Bb f8 fd8)(uN:Df K mg "_law_deed_right" yf Bk f9 fd9)(jc:FnOk P w K mg base CX0 12 f9 fd9 Bk (j6 T0 C CK))(vN:Df K mg "_law_told_right" yp Ai f10 fd10)(uJ:FnOk P w K mg base CX0 9 f10 fd10 Ai (wK T0 C CK))(xG:Df K mg "_law_rule_right" zT Ai f11 fd11)(wF:FnOk P w K mg base CX0 3 f11 fd11 Ai (wK T0 C CK))(KKeeper:Mk K CK f12)(BKeeper:Binds K fd12 ["self","rule","b"] [])(GKeeper_init:FnOk P w K mg base CX0 9 f12 fd12 A0 (U3 T0 C CK))(cKeeper:ClK K mg CK)(MKeeper_below:Mt K CK "Keeper.below" "below" vU Al f13 fd13)(GKeeper_below:FnOk P w K mg base CX0 5 f13 fd13 Al (Xu T0 C CK))(xO:Df K mg "_law_below" zV Ao f14 fd14)(wy:FnOk P w K mg base CX0 3 f14 fd14 Ao (jd P w))(T:Blt mg)(U:Vk mg):FnOk P w K mg base CX0 13 f fd Ac (Zu T0):=by
  have zN:FnOk P w K mg base CX0 1 f1 fd1 Ae xg:=w6 zB T;have zdX:FnOk P w K mg base CX0 4 f5 fd5 Ac Ui:=zb4 YH zB yI qU jX T;have Va:FnOk P w K mg base CX0 1 f6 fd6 Af YG:=Vy uF T;have jP:FnOk P w K mg base CX0 2 f7 fd7 Ac j5:=XF wg zB T;have zdB:FnOk P w K mg base CX0 3 f8 fd8 Bb Ue:=zca Yx zB yI T;refine D.fn.ok zZ (λvs H Q E h=>?_) (λcdv A outer s H vs Q E hr h=>?_)
  · obtain⟨s,rfl,_⟩:=h;rfl
  · obtain⟨s,rfl,St,lt,kk⟩:=h
    have HU:=Yr hr;refine yW ?_;intro XX;let q1:Sq XX ((zq zO).drop 10):=⟨_,zu (zG (xK (Wz K HU) (zgJ (show CScopeT (zx zO) _ ["told","due"] ["store","rule","b","handed","keeper","held","one","turn","deed","again","question"] [] [] from {}) rfl (qj K (pv 5)) (λ_ _ _ _=>(zgm K 2 rfl (xW (zX (i:=0) (show Eh (α:=bZ) ["told","due"] by decide) rfl (.inl (cL rfl)) (.inr (cL rfl))) (xW (zX (i:=1) (show Eh (α:=bZ) ["told","due"] by decide) rfl (.inl (cL rfl)) (.inr (cL rfl))) ZK)))) (λ_ _ _ _=>(uA (zK (WP K HU) (pv 0) (pv 1) (zM _)))) (λ_ _ _ _=>zr)) (zY zg) (zM _)))⟩
    let q2:Sq XX ((zq zO).drop 9):=⟨_,zm (yw (PW.pt (Ym (vK (xx (zL xG wF (hr.mono (by decide)) (zf (pv 0) (zf (pv 4) (zf (pv 1) (zf (pv 5) zg))))))) (Z6 (zK zei (qD MKeeper_below cKeeper.cl GKeeper_below (hr.mono (by decide)) (pv 4) (zf (pv 2) zg)) (zL xO wy (hr.mono (by decide)) (zf (pv 1) (zf (pv 2) zg))) (zM _)))))
        (zu (zG qM))
        zR) q1.p⟩
    let q3:Sq XX ((zq zO).drop 8):=⟨_,zm (wj bK rfl (yL rfl T.n_range (zf zr zg)) (zX (i:=10) zZ.nd rfl (bf rfl))
        (zu (yw (vK (xx (zL vN uJ (hr.mono (by decide)) (zf (pv 0) (zf (pv 4) (zf (pv 1) (zf (pv 5) zg)))))))
          (zu (zG qM))
          zR))) q2.p⟩
    let q4:Sq XX ((sb (zq zO) 7 true).drop 3):=⟨_,zu (wj bK rfl (yL rfl T.n_range (zf (zL zB zN (hr.mono (by decide)) (zf (pv 0) (zf zr zg))) zg)) (zX (i:=10) zZ.nd rfl (bf rfl))
          (zu (yw (vK (xx (zL vN uJ (hr.mono (by decide)) (zf (pv 0) (zf (pv 4) (zf (pv 1) (zf (pv 5) zg)))))))
            (zu (zG qM))
            zR)))⟩
    let q5:Sq XX ((sb (zq zO) 7 true).drop 2):=⟨_,zm (yw (xx (zA (tZ K) (by rfl) T.n_isinstance bD (zf (zQ (wz K) (pv 8) zr (λ_ _=>rfl)) (zf (xM (v:=.ty "list") rfl T.n_list gF rfl) zg))))
          (zu (wQ (ZC PySem.F.plainAttrs_list PySem.F.slot_list_append PySem.F.type_list_append wX (zQ (wz K) (pv 8) zr (λ_ _=>rfl)) (zf zr zg))))
          zR) q4.p⟩
    let q6:Sq XX ((sb (sb (zq zO) 7 true) 1 true).drop 1):=⟨_,zu (yw (zK Uu (pv 1) yQ (zM _))
            (zu (zG qM))
            zR)⟩
    let q7:Sq XX ((sb (zq zO) 7 true).drop 1):=⟨_,zm (wj bK rfl (yL rfl T.n_range (zf (zQ (yt K) (zY (zf zr (zf zr (zf zr (zf zr zg))))) (zL zB zN (hr.mono (by decide)) (zf (pv 0) (zf zr zg))) (λ_ _=>rfl)) zg)) (zX (i:=9) zZ.nd rfl (bf rfl))
          (zm (zE (i:=1) zZ.nd rfl (bf rfl) (zL uN jc (hr.mono (by decide)) (zf (pv 4) (zf (pv 1) (zf (pv 2) (zf (pv 8) zg)))))) q6.p)) q5.p⟩
    let q8:Sq XX ((zq zO).drop 7):=⟨_,zm (wj bK rfl (yL rfl T.n_range (zf (zL zB zN (hr.mono (by decide)) (zf (pv 0) (zf zr zg))) zg)) (zX (i:=7) zZ.nd rfl (bf rfl))
        (zm (zE (i:=8) zZ.nd rfl (bf rfl) (zL Yx zdB (hr.mono (by decide)) (zf (pv 0) (zf (pv 1) zg)))) q7.p)) q3.p⟩
    let q9:Sq XX ((zq zO).drop 6):=⟨_,zm (wQ (ZC PySem.F.plainAttrs_list PySem.F.slot_list_append PySem.F.type_list_append wX (zQ (wz K) (pv 3) zr (λ_ _=>rfl)) (zf (zY zg) zg))) q8.p⟩
    let q10:Sq XX ((zq zO).drop 5):=⟨_,zm (wj bK rfl (qj K (zQ (wz K) (pv 3) zr (λ_ _=>rfl))) (zX (i:=6) zZ.nd rfl (bf rfl))
        (zu (wQ (ZC PySem.F.plainAttrs_list PySem.F.slot_list_append PySem.F.type_list_append wX (pv 6) (zf zr zg))))) q9.p⟩
    let q11:Sq XX ((zq zO).drop 4):=⟨_,zm (zE (i:=5) zZ.nd rfl (bf rfl) (zY zg)) q10.p⟩
    let q12:Sq XX ((zq zO).drop 3):=⟨_,zm (zE (i:=4) zZ.nd rfl (bf rfl) (zbJ KKeeper GKeeper_init (hr.mono (by decide)) rfl cKeeper.nm BKeeper .nil zaQ (zf (pv 3) (zf (pv 2) zg)))) q11.p⟩
    let q13:Sq XX ((zq zO).drop 2):=⟨_,zm (zE (i:=3) zZ.nd rfl (bf rfl) (zL uF Va (hr.mono (by decide)) (zf (pv 1) zg))) q12.p⟩
    let q14:Sq XX ((zq zO).drop 1):=⟨_,zm (zE (i:=2) zZ.nd rfl (bf rfl) (zL wg jP (hr.mono (by decide)) (zf (pv 0) zg))) q13.p⟩
    refine⟨_,(zm (zE (i:=1) zZ.nd rfl (bf rfl) (zL YH zdX (hr.mono (by decide)) (zf (pv 0) zg))) q14.p),?_⟩;refine⟨_,rfl,s,rfl,St,λr0 b bl0 zs0 H1 q1 R1 g=>?_⟩;refine⟨_,rfl,s,rfl,q1.st,λbd H2 hbd q2=>?_⟩;have R2:=R1.same q2.aw;have q12:=q1.trans q2;have lt2:=lt.stq St q12.sm;have h4:zs0.length<=4:=by have:=g.len;rwa[aa]at this
    refine⟨_,rfl,r0,b,bl0,zs0,rfl,R2.same awS,by omega,λrh blh zsh H3 m3 Rh eh nb nr nz=>?_⟩;have lt3:=lt2.same m3;have St3:=q2.st.same m3;refine⟨_,rfl,_,rfl,ziQ (bd:=bd) Rh (by rw[eh];exact g) lt3 ?_⟩;rintro k H4 MK;have D4:=MK.ks St3 lt3;rw[eh]at D4;have R3:=(R2.same (m3.aw [s])).vw lt3;obtain⟨HB,eB⟩:∃HB,HB=aw [T0,s] H3:=⟨_,rfl⟩
    have mB:Same (aw [T0,s] H) HB:=λc o h=>by
      have hc:c∉[T0,s]:=λz=>by rw[ju z]at h;cases h
      rw[yc hc]at h;rw[eB,yc hc];simp at hc;exact m3 _ _ (q12.sm c o hc.2 h)
    have Rh3:RuleAt HB rh b blh zsh:=by
      have go:∀{c o},H3 c=some o->c≠T0->H2 c=none->HB c=some o:=λ{c o} h n1 n2=>by
        rw[eB,yc (by simp[n1];exact λz=>q2.st.some (by rw[<-z];exact n2))];exact h
      exact⟨go Rh.tu (lt3.tup Rh.tu) nr,go Rh.li (lt3.lst Rh.li) nb,λz hz=>go (Rh.st z hz) (lt3.lst (Rh.st z hz)) (nz z hz).1⟩
    rw[<-eB]at D4 R3;obtain⟨B,eBB⟩:∃B,B=aw (blh::zsh.map (·.1)) HB:=⟨_,rfl⟩
    have old:∀{c o},H2 c=some o->c∉blh::zsh.map (·.1):=λ{c o} h z=>by
      rcases aW.mp z with rfl | z
      · rw[nb]at h;cases h
      · obtain⟨y,hy,rfl⟩:=aQ.mp z
        rw[(nz y hy).1]at h;cases h
    have mB:Same (aw [T0,s] H) B:=λc o h=>by
      rw[eBB,yc (old (q12.sm c o (λz=>by rw[ju (by simp[z])]at h;cases h) (awS _ _ h)))];exact mB _ _ h
    have Rb:RuleAt B r0 b bl0 zs0:=by
      have go:∀{c o},aw [s] H2 c=some o->HB c=some o->B c=some o:=λh1 h2=>by rw[eBB,yc (old (awS _ _ h1))];exact h2
      exact⟨go R2.tu R3.tu,go R2.li R3.li,λz hz=>go (R2.st z hz) (R3.st z hz)⟩
    have bB:∀{c o},B c=some o->HB c=some o/\c∉blh::zsh.map (·.1):=λ{c o} h=>by
      rw[eBB]at h;have hc:c∉blh::zsh.map (·.1):=λz=>by rw[ju z]at h;cases h
      rw[yc hc]at h;exact⟨h,hc⟩
    clear eBB old eB;refine⟨(by show 0<=aA;decide),λhl hhl=>?_⟩;obtain⟨D5,m5⟩:=D4.new hhl (.lst []);have hB:∀{c o},HB c=some o->c≠hl:=λh=>zz (D4.base _ _ h) hhl;have hl5:upd HB hl (.lst []) hl=some (.lst []):=zj;generalize upd HB hl (.lst [])=Hb5 at D5 m5 hl5;generalize upd H4 hl (.lst [])=H5 at D5;have h4h:∀z∈zsh,z.2.length<=4:=λz hz=>(g.st z.2 (by rw[<-eh];exact aQ.mpr ⟨z,hz,rfl⟩)).len;have hzl:zsh.length<=4:=by have:=g.len;rwa[<-eh,aa]at this
    have nbz:blh∉zsh.map (·.1):=λz=>by obtain⟨y,hy,e⟩:=aQ.mp z;exact (nz y hy).2 e
    let J1:Nat->L2.St->L2.Hp->Prop:=λe Z G=>Ex2 λ(Hb':Hp) (v6:Option V)=>An4 (Z=[some (.ref s),some (.ref r0),some (.int bd),some (.ref rh),some (.ref k),some (.ref hl),v6,none,none,none,none]) (KS T0 C CK Hb' G s k b bd (zs0.map (·.2))) ((∀z∈zsh,∃xs,Hb' z.1=some (.lst xs)/\xs.length<=4+e)) (∀c o,c∉zsh.map (·.1)->Hb5 c=some o->Hb' c=some o);refine⟨_,rfl,rh,_,_,V.ref blh,rfl,rfl,SqT.of (D5.base _ _ (m5 _ _ Rh3.tu)),rfl,blh,rfl,⟨_,SqL.of (D5.base _ _ (m5 _ _ Rh3.li))⟩,VG (K:=K) (a:=blh) (xs:=zsh.map λz=>V.ref z.1) J1 ⟨Hb5,_,rfl,D5,λz hz=>⟨_,m5 _ _ (Rh3.st z hz),by rw[aa];exact h4h z hz⟩,λc o _ h=>h⟩ ?_ ?_ ?_⟩
    · rintro e Z G _ ⟨Hb',_,_,D',_,up⟩
      exact SqL.of (D'.base _ _ (up _ _ nbz (m5 _ _ Rh3.li)))
    · rintro e v Z G he ⟨Hb',v6,rfl,D',hz',up⟩
      rw[ao]at he;obtain⟨z,hze,rfl⟩:=aY.mp he;have hzm:=aL hze;have hel:=(aV.mp hze).1;obtain⟨xs,hxs,hxl⟩:=hz' z hzm;refine⟨_,rfl,.inl ⟨rfl,_,SqL.of (D'.base _ _ hxs)⟩,z.1,_,_,rfl,rfl,D'.base _ _ hxs,aR (show xs.length<=100 by omega) (by decide),?_⟩;refine⟨upd Hb' z.1 (.lst (xs++[.int 1])),_,rfl,D'.poke hxs _,λy hy=>?_,λc o hc h=>by rw[zy (λq=>hc (by rw[q];exact aQ.mpr ⟨z,hzm,rfl⟩))];exact up c o hc h⟩;by_cases q:y.1=z.1
      · exact⟨_,by rw[q,zj],by rw[aF,aX];omega⟩
      · obtain⟨us,h1,h2⟩:=hz' y hy
        exact⟨us,by rw[zy q];exact h1,by omega⟩
    rintro Z G ⟨Hb',v6,rfl,D',hz',up⟩;show Qd _ _ _ _ _;have hbl:=up _ _ nbz (m5 _ _ Rh3.li);have hrh:=up _ _ (λz=>by obtain⟨y,hy,e⟩:=aQ.mp z;have:=Rh3.st y hy;rw[e,Rh3.tu]at this;cases this) (m5 _ _ Rh3.tu);refine⟨_,rfl,rh,_,_,V.ref blh,rfl,rfl,SqT.of (D'.base _ _ hrh),rfl,.inl ⟨rfl,_,SqL.of (D'.base _ _ hbl)⟩,(by show 0<=aA;decide),λp hp=>?_⟩;obtain⟨D6,m6⟩:=D'.new hp (.lst []);refine⟨blh,_,_,rfl,rfl,D6.base _ _ (m6 _ _ hbl),by rw[aa];exact aR hzl (by decide),?_⟩;have D7:=D6.poke (m6 _ _ hbl) (.lst ((zsh.map λz=>V.ref z.1)++[.ref p]));have hlz:hl∉zsh.map (·.1):=λz=>by obtain⟨y,hy,e⟩:=aQ.mp z;exact hB (Rh3.st y hy) e
    have hl7:upd (upd Hb' p (.lst [])) blh (.lst ((zsh.map λz=>V.ref z.1)++[.ref p])) hl=some (.lst []):=by rw[zy (cF (hB Rh3.li))];exact m6 _ _ (up _ _ hlz hl5)
    have m7:Same B (aw [hl] (upd (upd Hb' p (.lst [])) blh (.lst ((zsh.map λz=>V.ref z.1)++[.ref p])))):=λc o h=>by
      obtain⟨h1,h2⟩:=bB h;simp only[aW,not_or]at h2;rw[yc (by simpa using hB h1),zy h2.1];exact m6 _ _ (up c o h2.2 (m5 _ _ h1))
    generalize upd (upd Hb' p (.lst [])) blh (.lst ((zsh.map λz=>V.ref z.1)++[.ref p]))=Hb7 at D7 hl7 m7;generalize upd (upd G p (.lst [])) blh (.lst ((zsh.map λz=>V.ref z.1)++[.ref p]))=H7 at D7;have Hd7:HeldAt Hb7 hl b []:=⟨hl7,λ_ h=>nomatch h⟩
    have R7:=Rb.same m7;clear Rb hl7 hbl hrh up hz' D' D6 D5 D4 m5 m6 hB hlz bB;show Qd _ _ _ _ _;refine⟨_,rfl,s,_,rfl,D7.st,by decide,by decide,λN H8 hN q8=>?_⟩;have D8:=D7.stq q8;have st:∀{Hb':Hp} {A:List au},Same (aw [hl] Hb7) (aw A Hb')->Same B (aw A Hb'):=λm=>m7.trans m;let J2:Nat->L2.St->L2.Hp->Prop:=λi Z G=>Ex6 λ(Hb:Hp) (r:au) (bl:au) (zs:ZB) (ps:List au) (v7:Option V)=>Ex3 λ(v8:Option V) (v9:Option V) (v10:Option V)=>An6 (Z=[some (.ref s),some (.ref r),some (.int bd),some (.ref rh),some (.ref k),some (.ref hl),v6,v7,v8,v9,v10]) (KS T0 C CK Hb G s k b bd (zs.map (·.2))) (Same B (aw [hl] Hb)) (RuleAt (aw [hl] Hb) r b bl zs) (HeldAt Hb hl b ps) (ps.length<=2*i);refine⟨(N:Int),rfl,by omega,by omega,xj (lo:=0) (n:=(N:Int).toNat) J2 ⟨Hb7,r0,bl0,zs0,[],_,_,_,_,rfl,D8,m7,R7,Hd7,by simp⟩ ?_ ?_⟩
    · rintro i Z G hi ⟨Hb,r,bl,zs,ps,v7,v8,v9,v10,rfl,D,m,R,Hd,hps⟩
      refine⟨_,rfl,_,rfl,s,r,b,bl,zs,rfl,D.st,D.seen (R.same awS),D.good_rule,λt door u d G1 q1 ht h1 hd fd=>?_⟩;have D1:=D.go q1;have o1:Same Hb (grow Hb G G1):=D.old;have ht1:=zeo (Hb:=Hb) _ _ ht;have hd1:=hd.same (zeo (Hb:=Hb));have na:∀a∈Ji d u,G a=none:=λa ha=>by
        cases e:nw G G1 a with
        |none=>exact absurd e (zaL hd ha)
        |some o=>exact (Ja e).1
      have ha1:∀a∈Ji d u,grow Hb G G1 a≠none:=λa ha=>zaL hd1 ha;have o2:Same (aw [hl] Hb) (aw (hl::Ji d u) (grow Hb G G1)):=λc o h=>by
        have hc:c∉[hl]:=λz=>by rw[ju z]at h;cases h
        rw[yc hc]at h;rw[yc (by
          simp at hc ⊢;exact⟨hc,λz=>by have:=na c z;rw[D.base _ _ h]at this;cases this⟩)]
        exact o1 _ _ h
      have nhl:hl∉Ji d u:=λz=>by have:=na hl z;rw[D.base _ _ Hd.li]at this;cases this
      have Hd1:=Hd.same o1;have P1:∀p∈ps,PairAt (aw (hl::Ji d u) (grow Hb G G1)) b p:=λp hp=>(Hd.pr p hp).same o2;have R1:=R.same o2;have m1:=m.trans o2;generalize grow Hb G G1=Hb1 at D1 o1 ht1 hd1 ha1 Hd1 P1 R1 m1;obtain⟨ua,eu⟩:∃ua,ua=Ji d u:=⟨_,rfl⟩
      rw[<-eu]at ha1 nhl P1 R1 m1;clear o2 na o1 m R Hd D hd ht;refine⟨(by show 4<=aA;decide),λl4 hl4=>?_⟩;have D2:=D1.same (zp hl4 (o:=.lst [.int 1,.int 1,.int 1,.int 2]));have nl:=D1.st.ne hl4;have h42:upd G1 l4 (.lst [.int 1,.int 1,.int 1,.int 2]) l4=some (.lst [.int 1,.int 1,.int 1,.int 2]):=zj;generalize upd G1 l4 (.lst [.int 1,.int 1,.int 1,.int 2])=G2 at D2 h42;refine⟨_,rfl,s,_,rfl,D2.st,by decide,by decide,λx G3 hx q3=>?_⟩;have D3:=D2.stq q3;obtain⟨n,hn,hn1,hn2⟩:∃n:Nat,atI [V.int 1,V.int 1,V.int 1,V.int 2] (x:Int)=some (.int n)/\1<=n/\n<=2:=by
        have h4:x<4:=by omega
        match x,h4 with
        |0,_=>exact⟨1,rfl,by omega,by omega⟩
        |1,_=>exact⟨1,rfl,by omega,by omega⟩
        |2,_=>exact⟨1,rfl,by omega,by omega⟩
        |3,_=>exact⟨2,rfl,by omega,by omega⟩
      let J3:Nat->L2.St->L2.Hp->Prop:=λj Z G=>Ex5 λ(Hb:Hp) (r:au) (bl:au) (zs:ZB) (v9:Option V)=>An4 (Z=[some (.ref s),some (.ref r),some (.int bd),some (.ref rh),some (.ref k),some (.ref hl),v6,some (.int (0+(i:Int))),some (.ref t),v9,v10]) (KS T0 C CK Hb G s k b bd (zs.map (·.2))) (Same Hb1 Hb) (RuleAt (aw (hl::ua) Hb) r b bl zs);refine⟨l4,_,_,_,rfl,rfl,SqL.of (q3.sm _ _ nl h42),hn,(n:Int),rfl,by omega,by omega,xj (lo:=0) (n:=(n:Int).toNat) J3 ⟨Hb1,r,bl,zs,_,rfl,D3,Same.refl _,R1⟩ ?_ ?_⟩
      · rintro j Z G4 hj ⟨Hb2,r2,bl2,zs2,v9,rfl,D4,o4,R4⟩
        refine⟨_,rfl,_,rfl,_,rfl,_,rfl,s,k,r2,t,hl::ua,Hb2,b,bd,bl2,zs2,door,u,d,rfl,D4,hbd,R4,λa ha=>?_,o4 _ _ ht1,h1,hd1.same o4,fd,λr5 bl5 zs5 Hb5 G5 D5 o5 R5=>⟨_,rfl,rfl,_,rfl,qJ (decide_eq_false (λz=>nomatch z)) ⟨Hb5,r5,bl5,zs5,_,rfl,D5,o4.trans o5,R5⟩⟩⟩;have go:∀{c:au},Hb1 c≠none->Hb2 c≠none:=λ{c} h=>by
          cases e:Hb1 c with
          |none=>exact absurd e h
          |some o=>rw[o4 _ _ e];simp
        rcases aW.mp ha with rfl | ha
        · exact go (by rw[Hd1.li];simp)
        · exact go (ha1 a ha)
      rintro Z G4 ⟨Hb2,r2,bl2,zs2,v9,rfl,D4,o4,R4⟩;show Qd _ _ _ _ _;have ht4:=o4 _ _ ht1;have hd4:=hd1.same o4;have P4:∀p∈ps,PairAt (aw (hl::ua) Hb2) b p:=λp hp=>(P1 p hp).same (o4.aw _);have m4:=m1.trans (o4.aw (hl::ua));have hl4:=o4 _ _ Hd1.li;refine⟨_,rfl,t,_,_,u,rfl,rfl,SqT.of (D4.base _ _ ht4),rfl,_,_,_,_,rfl,(hd4.same D4.base).ty,Uj d,_,rfl,?_⟩;cases hb:isT "list" d
      case' false=>
        refine yG ?_;have lm:Same (aw (hl::ua) Hb2) (aw [hl] Hb2):=zez λc o _ h=>h
      case' true=>
        obtain⟨xs,rfl⟩:∃xs,d=.list xs:=by cases d<;>first | exact⟨_,rfl⟩ | (cases hb;done)
        rw[ThAt]at hd4;obtain⟨a,ys,rfl,ha,hys⟩:=hd4;have hlen:ys.length<=2000:=by
          rw[zee hys];have:=fd.wt;rw[lQ]at this;exact aB (zby xs) this
        refine yz ⟨_,rfl,t,_,_,.ref a,rfl,rfl,SqT.of (D4.base _ _ ht4),rfl,.inl ⟨rfl,_,SqL.of (D4.base _ _ ha)⟩,a,_,_,rfl,rfl,D4.base _ _ ha,aR hlen (by decide),?_⟩;have eu:ua=[a]:=eu;have lm:Same (aw (hl::ua) Hb2) (aw [hl] (upd Hb2 a (.lst (ys++[.int 0])))):=zez λc o hc h=>by rw[zy (by rw[eu]at hc;simpa using hc)];exact h
        have hl4:upd Hb2 a (.lst (ys++[.int 0])) hl=some (.lst (ps.map V.ref)):=by rw[zy (λz=>nhl (by rw[eu,z];exact sO _))];exact hl4
        have D4:=D4.poke ha (.lst (ys++[.int 0]));generalize upd Hb2 a (.lst (ys++[.int 0]))=Hb2 at D4 hl4 lm;generalize upd G4 a (.lst (ys++[.int 0]))=G4 at D4
      all_goals
        have R5:=R4.same lm;have m5:=m4.trans lm;have Hd5:HeldAt Hb2 hl b ps:=⟨hl4,λp hp=>(P4 p hp).same lm⟩
        refine⟨_,rfl,s,_,rfl,D4.st,by decide,by decide,λy G6 hy q6=>?_⟩;let J4:Nat->L2.St->L2.Hp->Prop:=λj Z G=>Ex4 λ(Hb:Hp) (ps':List au) (v9:Option V) (v10:Option V)=>An6 (Z=[some (.ref s),some (.ref r2),some (.int bd),some (.ref rh),some (.ref k),some (.ref hl),v6,some (.int (0+(i:Int))),some (.ref t),v9,v10]) (KS T0 C CK Hb G s k b bd (zs2.map (·.2))) (Same B (aw [hl] Hb)) (RuleAt (aw [hl] Hb) r2 b bl2 zs2) (HeldAt Hb hl b ps') (ps'.length<=ps.length+j);refine⟨(y:Int),rfl,by omega,by omega,xj (lo:=0) (n:=(y:Int).toNat) J4 ⟨Hb2,ps,_,_,rfl,D4.stq q6,m5,R5,Hd5,by omega⟩ ?_ ?_⟩
        · rintro j Z G hj ⟨Hb,ps',v9,v10,rfl,D6,m6,R6,Hd6,hl6⟩
          exact⟨_,rfl,_,rfl,_,rfl,_,rfl,s,k,r2,hl,Hb,b,bd,bl2,zs2,ps',rfl,D6,R6,Hd6,by omega,λps7 Hb7 G7 D7 m7 Hd7 hl7=>⟨_,rfl,yG ⟨Hb7,ps7,_,_,rfl,D7,m6.trans m7,R6.same m7,Hd7,by omega⟩⟩⟩
        · rintro Z G ⟨Hb,ps',v9,v10,rfl,D6,m6,R6,Hd6,hl6⟩
          exact⟨Hb,r2,bl2,zs2,ps',_,_,_,_,rfl,D6,m6,R6,Hd6,by omega⟩
    · rintro Z G ⟨Hb,r,bl,zs,ps,v7,v8,v9,v10,rfl,D,m,R,Hd,hps⟩
      show Qd _ _ _ _ _;let J5:Nat->L2.St->L2.Hp->Prop:=λj Z G=>Ex3 λ(Hb:Hp) (ps':List au) (v10:Option V)=>An6 (Z=[some (.ref s),some (.ref r),some (.int bd),some (.ref rh),some (.ref k),some (.ref hl),v6,v7,v8,v9,v10]) (KS T0 C CK Hb G s k b bd (zs.map (·.2))) (Same B (aw [hl] Hb)) (RuleAt (aw [hl] Hb) r b bl zs) (HeldAt Hb hl b ps') (ps'.length<=ps.length+j);refine⟨2,rfl,by decide,by decide,xj (lo:=0) (n:=(2:Int).toNat) J5 ⟨Hb,ps,_,rfl,D,m,R,Hd,by omega⟩ ?_ ?_⟩
      · rintro j Z G hj ⟨Hb,ps',v10,rfl,D6,m6,R6,Hd6,hl6⟩
        exact⟨_,rfl,_,rfl,_,rfl,_,rfl,s,k,r,hl,Hb,b,bd,bl,zs,ps',rfl,D6,R6,Hd6,by omega,λps7 Hb7 G7 D7 m7 Hd7 hl7=>⟨_,rfl,yG ⟨Hb7,ps7,_,rfl,D7,m6.trans m7,R6.same m7,Hd7,by omega⟩⟩⟩
      rintro Z G ⟨Hb,ps',v10,rfl,D6,m6,R6,Hd6,hl6⟩;show Qd _ _ _ _ _;refine⟨_,rfl,_,rfl,_,rfl,_,rfl,s,k,r,hl,Hb,b,bd,bl,zs,ps',rfl,D6,R6,Hd6,by omega,λps7 Hb7 G7 D7 m7 Hd7 hl7=>⟨_,rfl,qJ rfl ?_⟩⟩;obtain⟨dx,kbl,ktl,hk⟩:=D7.ob;have R7:=R6.same m7;refine⟨_,rfl,k,dx,_,rfl,hk,uZ _ _ _ _,_,rfl,YS ?_⟩;refine D7.below (aO hbd (cM (by decide) (by decide))) λG8 D8=>?_;refine⟨_,rfl,_,rfl,r,b,bl,zs,bd,rfl,(R7.same awS).same D8.base,D8.good_rule,hbd,λG9 m9=>?_⟩;have D9:=D8.same m9;refine⟨rfl,_,rfl,qJ (by rw[decide_eq_true rfl];rfl) ?_⟩;have H9l:=D9.base _ _ Hd7.li;let J6:Nat->List V->L2.Hp->Prop:=λi ys Hc=>ys=[]/\Hc=G9;refine⟨_,rfl,hl,rfl,⟨_,SqL.of H9l⟩,zds (K:=K) (a:=hl) (xs:=ps7.map V.ref) J6 ⟨rfl,rfl⟩ (λi ys Hc _ ⟨_,e⟩=>by rw[e];exact SqL.of H9l) ?_ ?_⟩
      · rintro i v ys Hc hi ⟨rfl,rfl⟩
        rw[ao]at hi;obtain⟨p,hp,rfl⟩:=aY.mp hi;obtain⟨r1,bl1,r2,bl2,zs1,zs2,h0,Ra,Rb,e⟩:=Hd7.pr p (aL hp);refine⟨(by decide:0<aA),p,_,rfl,SqT.of (D9.base _ _ (awS _ _ h0)),rfl,_,_,rfl,_,_,rfl,rfl,⟨[some (.ref r1),some (.ref r2)],rfl,rfl⟩,?_⟩;refine⟨_,rfl,_,rfl,WD b (zs1.map (·.2)),WD b (zs2.map (·.2)),TrAt.rule ((Ra.same awS).same D9.base),TrAt.rule ((Rb.same awS).same D9.base),Ux _ _,_,rfl,?_⟩;rw[if_pos rfl,e,um];exact yG ⟨rfl,rfl⟩
      · rintro ys Hc ⟨rfl,rfl⟩ Dd hD
        have m10:=zp hD (o:=.lst []);refine⟨(by show 0<=aA;decide),λp0 hp0=>?_⟩;have m11:=zp hp0 (o:=.lst []);have D11:=(D9.same m10).same m11;refine⟨.lst [],.lst [],?_,?_,by simp[vP,wA],?_⟩
        · rw[TrAt];exact⟨Dd,_,rfl,SqL.of (m11 _ _ zj),by rw[TrsAt]⟩
        · rw[TrAt];exact⟨p0,_,rfl,SqL.of zj,by rw[TrsAt]⟩
        rw[if_neg bc,um];exact kk _ (λc o h=>D11.base _ _ (awS _ _ (m6.trans m7 _ _ (mB _ _ h)))) D11.lt
end
theorem LT.sq{K:aK}(h:LT T H)(m:SameL T H H')(q:SqL K H a xs):SqL K H' a xs:=by
 rcases q with (q | ⟨o,q⟩) | q
 ·exact .inl (.inl (m _ _ (h.lst q) q))
 ·refine .inl (.inr ⟨o,m _ _ (λz=>?_) q⟩);rw[z]at q;rcases h with h | ⟨c,h,_⟩
  ·rw[h]at q;cases q
  ·rw[h]at q;cases q
 ·exact .inr q
section
variable {P:bx} {w:bU} {K:aK} {mg:bZ->Option aD} {base:dj} {T0:au}
def zbw(K:aK)(T:au):Sp:=λvs H Q _=>Ex2 λ(a:au) (ns:List Int)=>An5 (vs=[.ref a]) (SqL K H a (ns.map V.int)) (ns.length<=63) (LT T H) (∀H',Q (.bl true) H')
theorem zgD:zF ["script","at"] ["script"] (zx zeg):={}
theorem zig(D:Df K mg "law" zeg ["script"] f fd)(YZ:Df K mg "_law_cell" jA Ay f1 fd1)(ZG:Df K mg "_law_store" uO ["cell"] f2 fd2)(tD:Df K mg "_law_run_right" zO Ac f3 fd3)(jF:FnOk P w K mg base CX0 13 f3 fd3 Ac (Zu T0))(T:Blt mg):FnOk P w K mg base CX0 14 f fd ["script"] (zbw K T0):=by
 have j:FnOk P w K mg base CX0 1 f1 fd1 Ay (V3 K):=zbV YZ T;have k:FnOk P w K mg base CX0 1 f2 fd2 ["cell"] WF:=zap ZG T;refine D.fn.ok zgD (λy H Q E h=>?_) (λcdv A outer s H y Q E l h=>?_)
 ·obtain⟨a,b,rfl,_⟩:=h;rfl
 ·obtain⟨a,b,rfl,q,d,r,z⟩:=h;refine yW ?_;intro B;let C:Sq B ((zq zeg).drop 1):=⟨_,zu (zG qM)⟩
  refine⟨_,(zm (wj bK rfl (yL rfl T.n_range (zf (zA (UT rfl) (by rfl) T.n_min Le (zf (zA (zfB rfl) (by rfl) T.n_max boot_max (zf (zA (vY K) (by rfl) T.n_len PySem.boot_len (zf (pv 0) zg)) (zf zr zg))) (zf zr zg))) zg)) (zX (i:=1) zgD.nd rfl (bf rfl))
    (zu (yw (vK (xx (zL tD jF (l.mono (by decide)) (zf (zL ZG k (l.mono (by decide)) (zf (zL YZ j (l.mono (by decide)) (zf (pv 0) (zf (pv 1) zg))) zg)) zg))))
     (zu (zG qM))
     zR))) C.p),?_⟩
  refine⟨_,rfl,a,_,rfl,.inl q,_,_,rfl,_,_,rfl,?_⟩;generalize F:(if 6<(if 3>((b.map V.int).length:Int) then 3 else ((b.map V.int).length:Int)) then 6 else (if 3>((b.map V.int).length:Int) then 3 else ((b.map V.int).length:Int)))=M;have hM1:0<=M/\M<=6:=by
   rw[<-F];split<;>split<;>omega
  let G:Nat->L2.St->L2.Hp->Prop:=λi Z g=>∃m:Option V,An3 (Z=[some (.ref a),m]) (SameL T0 H g) (LT T0 g);refine⟨M,rfl,by omega,by omega,xj G ⟨_,rfl,SameL.of (Same.refl _),r⟩ ?_ ?_⟩
  ·rintro i Z g hi ⟨m,rfl,t,I⟩;refine⟨_,rfl,_,rfl,a,b,i,by rw[eG];rfl,r.sq t q,d,by omega,λc=>⟨c,rfl,λs H3 J n u=>⟨s,rfl,n,I.same u,λH4 L N=>⟨_,rfl,yG ⟨_,rfl,λc o v e=>?_,N⟩⟩⟩⟩⟩;have x:=t c o v e;have O:=u _ _ x;exact L _ _ (by rw[yc (by simp[v];exact zz x J)];exact O)
  ·rintro Z g ⟨m,rfl,_,_⟩;exact z g
end
open PySem L2
theorem fb1{P:List aD->Prop}(h:∀a,P [a]):∀us:List aD,us.length=1->P us
 |[_],_=>h _
theorem fb2{P:List aD->Prop}(h:∀a b,P [a,b]):∀us:List aD,us.length=2->P us
 |[_,_],_=>h _ _
theorem fb3{P:List aD->Prop}(h:∀a b c,P [a,b,c]):∀us:List aD,us.length=3->P us
 |[_,_,_],_=>h _ _ _
theorem fb4{P:List aD->Prop}(h:∀a b c d,P [a,b,c,d]):∀us:List aD,us.length=4->P us
 |[_,_,_,_],_=>h _ _ _ _
theorem fb6{P:List aD->Prop}(h:∀a b c d e f,P [a,b,c,d,e,f]):∀us:List aD,us.length=6->P us
 |[_,_,_,_,_,_],_=>h _ _ _ _ _ _
theorem ex_{α:Sort u}{p:α->Prop}{a:α}(h:p a):∃x,p x:=⟨a,h⟩
def FL(K:aK)(n q:bZ)(st:cG)(f:au)(cd:aD)(od an:Option au)(sl:Array (Option aD))(oc kV dc pm ct:aD):Prop:=K.lookup f=some ⟨oc,od,.func (rJ n q (jV st) (zq st) (zx st) .none kV dc pm an cd ct),sl⟩/\En K cd q=true/\pJ K (.ref f)=true
def FB(n q:bZ)(st:cG)(ps:List bZ):Prop:=∀kV doc pm an cdv ct us,us.length=ps.length->Cv (rJ n q (jV st) (zq st) (zx st) .none kV doc pm an cdv ct) ⟨us,[]⟩=pure (ps.zip us)
def FD(K:aK)(cd:aD)(n:bZ)(st:cG)(ps:List bZ):Prop:=FB n n st ps/\∃f od an sl oc kV dc pm ct,pP K cz n=some (some (.ref f))/\FL K n n st f cd od an sl oc kV dc pm ct
def FM(K:aK)(C:au)(n q:bZ)(st:cG)(ps:List bZ):Prop:=FB n q st ps/\∃f cd od an sl oc kV dc pm ct,gk K (.ref C) n=some (some (.ref f))/\Lx K (.ref f)=true/\FL K n q st f cd od an sl oc kV dc pm ct
abbrev f3(n:bZ)(s:cG)(ps:List bZ):=(n,s,ps)
abbrev f4(n q:bZ)(s:cG)(ps:List bZ):=(n,q,s,ps)
def FDs(K:aK):List (bZ×cG×List bZ)->Prop
 |[]=>True
 | (n,s,ps)::r=>(∃cd,FD K cd n s ps)/\FDs K r
def FMs(K:aK)(C:au):List (bZ×bZ×cG×List bZ)->Prop
 |[]=>True
 | (n,q,s,ps)::r=>FM K C n q s ps/\FMs K C r
def NNs(K:aK):List bZ->Prop
 |[]=>True
 |n::r=>pP K cz n=some none/\NNs K r
def NFs(K:aK)(C:au):List bZ->Prop
 |[]=>True
 |n::r=>gk K (.ref C) n=some none/\NFs K C r
def MRs(K:aK)(C:au):Nat->List au->Prop
 |_,[]=>True
 |0,D::r=>gq K C (.ref D)=some true/\MRs K C 99 r
 |n+1,D::r=>gq K C (.ref D)=some false/\MRs K C n r
def DFs(K:aK)(mg:bZ->Option aD):List (bZ×cG×List bZ)->Prop
 |[]=>True
 | (n,s,ps)::r=>(∃f fd,Df K mg n s ps f fd)/\DFs K mg r
def MTs(K:aK)(C:au):List (bZ×bZ×cG×List bZ)->Prop
 |[]=>True
 | (n,q,s,ps)::r=>(∃f fd,Mt K C q n s ps f fd)/\MTs K C r
def CLs(K:aK)(C:au)(n:bZ):Prop:=pP K cz n=some (some (.ref C))/\HY K C=true/\pJ K (.ref C)=true/\sX K C Mz=true/\Cr K C=true/\FQ K C=true/\gk K (.ref C) "__setattr__"= some (some (.builtin "object.__setattr__"))
section
variable {K:aK} {n q:bZ} {C:au} {h:dj} {mg:bZ->Option aD}
theorem FD.df{st:cG}(x:FD K cd n st ps)(X:K.In h)(G:h.Ns cz mg):∃f fd,Df K mg n st ps f fd/\fd.code=cd/\∀s us,us.length=ps.length->sZ s fd ⟨us,[]⟩ (ps.zip us):=
 let ⟨b,_,_,_,_,_,_,_,_,_,a,l,e,k⟩:=x
 ⟨_,_,zjd X G a l e k b,rfl,λ_ us h=>.of_eq (b _ _ _ _ _ _ us h)⟩
theorem FDs.df(X:K.In h)(G:h.Ns cz mg):∀{l},FDs K l->DFs K mg l
 |[],_=>trivial
 |_::_,⟨⟨_,x⟩,y⟩=>⟨let ⟨f,fd,d,_⟩:=x.df X G;⟨f,fd,d⟩,FDs.df X G y⟩
theorem FMs.mt:∀{l},FMs K C l->MTs K C l
 |[],_=>trivial
 | (_,_,st,_)::_,⟨⟨b,_,_,_,_,_,_,_,_,_,_,a,i,l,e,k⟩,y⟩=>⟨⟨_,_,zbj (st:=st) l e k,(zbj (st:=st) l e k).binds b,a,i,k⟩,FMs.mt y⟩
end
structure CF (K:aK) (n:bZ) (C:au):Prop where
 g:pP K cz n=some (some (.ref C))
 m:gq K C (.type "object")=some true
 t:Kw K (.ref C)=some (.type "type")
theorem CF.cls{K:aK}(x:CF K n D)(e:gq K C (.ref D)=some b):CQ K (.ref C) (.ref D)=some b:=by
 obtain⟨cd,h,_⟩:=Option.bind_eq_some_iff.mp x.m;show (if ((Mv K D).isSome && Kw K (.ref D) == some (.type "type"))=true then Ms K (.ref C) (.ref D) else none)=_;rw[if_pos (by rw[h,x.t,DR,gf];exact beq_self_eq_true _)];exact e
theorem CF.no{K:aK}(x:CF K n D)(s:gq K C (.ref C)=some true)(e:gq K C (.ref D)=some false):cJ K (.ref C) (.ref D)=some false:=by
 unfold cJ;rw[if_neg (λq=>by
  have h:=eq_of_beq q;injection h with h
  rw[<-h,s]at e;cases e)]
 exact x.cls e
theorem zc0{K:aK}:cJ K (.ref C) (.ref C)=some true:=by
 unfold cJ;rw[if_pos (beq_self_eq_true _)]
theorem zg1{K:aK}(e:gq K C (.type "ValueError")=some true):cJ K (.ref C) (.type "ValueError")=some true:=by
 unfold cJ;split
 ·rfl
 ·show (if Ib "ValueError"= true then Ms K (.ref C) (.type "ValueError") else none)=_;rw[if_pos (by decide +kernel)];exact e
set_option maxHeartbeats 0 in
theorem ziN{l:Ig}{K:aK}(X:K.In h)(G:h.Ns cz mg)(hfa:mg "law"= some (.ref fa))(hcT:Hu K c0 T0=true)(hgT:cz≠T0)(xs0:FDs K [f3 "is_whole" tO ["thing"],f3 "is_number" Zy ["thing"],f3 "is_base" Yj ["thing"],f3 "is_figure" ZV ["base","thing"],f3 "are_figures" uW ["base","thing"],f3 "is_stretch" uK ["base","thing"],f3 "is_rising" jq ["stretches"],f3 "is_bad_list" ur ["base","thing"],f3 "is_rule" Yu ["thing"],f3 "check_base" jN ["thing"],f3 "check_number" vR ["thing"],f3 "check_rule" jR ["thing"],f3 "copy_of" jY ["rule"],f3 "stands_within" wY ["stretch","figures"],f3 "lacks_all" uH ["bad","figures"],f3 "figures_of" xJ ["base","n"],f3 "begins_one" qz ["bad","figures"],f3 "longest_stand" wZ ["bad","figures"],f3 "place_behind" vV ["bad","stands","figures"],f3 "steps_from" qF ["rule","stands","stand"],f3 "all_steps" tW ["rule","stands"],f3 "good_at" qN ["tails","k"],f3 "_law_cell" jA ["script","k"],f3 "_law_store" uO ["cell"]])(xs1:FDs K [f3 "_law_take" yj ["store","many"],f3 "_law_stretch" xf ["store","base","few"],f3 "_law_bad" vJ ["store","base"],f3 "_law_base" jt ["store"],f3 "_law_rule" jy ["store"],f3 "_law_copy" qe ["rule"],f3 "_law_after" yJ ["bad","stand","figure"],f3 "_law_ways" ye ["rule","most"],f3 "_law_figures" wN ["base","n"],f3 "_law_below" zV ["rule","n"],f3 "_law_rest" wC ["rule","steps","rows","stand","more","k"],f3 "_law_by" wG ["rule","k"],f3 "_law_number" vH ["store"],f3 "_law_kind" qb ["e","due"],f3 "_law_deed" Zz ["store","rule"],f3 "_law_is_stretch" xR ["base","thing"],f3 "_law_due" vD ["rule","deed"],f3 "_law_asked" vf ["keeper","deed","due"],f3 "_law_rule_right" zT ["store","keeper","rule","held"],f3 "_law_good_right" yx ["keeper","rule","k"],f3 "_law_told_right" yp ["store","keeper","rule","held"],f3 "_law_deed_right" yf ["keeper","rule","b","deed"],f3 "_law_run_right" zO ["store"]])(xL:∃cd,FD K cd "law" zeg ["script"])(xl:FD K (.ref c0) "stands_of" yN ["bad"])(qCj:CF K "NoBase" qA)(qDd:CF K "NoNumber" qB)(qDa:CF K "NoFigures" qE)(qDf:CF K "NoRule" qS)(qDh:CF K "NoStand" qV)(qDb:CF K "NoGood" xA)(qCh:CF K "Endless" xB)(qDg:CF K "NoRules" xC)(qDi:CF K "NoStretch" xD)(qEa:CF K "TooMany" xE)(qDj:CF K "NoText" xI)(qDc:CF K "NoName" xS)(qDe:CF K "NoRow" yA)(qCi:CF K "LackError" yB)(mLE:gq K yB (.type "BaseException")=some true)(qCf:Gs K xD veT "ValueError.__new__"= true)(qCa:gq K xD (.ref yB)=some true)(qBe:zbQ K xD)(qEb:gq K xD (.type "ValueError")=some true)(qCc:MRs K xD 8 [qA,qB,qE,qS,qV,xA,xB,xC,xD,xE,xI,xS,yA])(qCg:Gs K xE veT "ValueError.__new__"= true)(qCb:gq K xE (.ref yB)=some true)(qBf:zbQ K xE)(qEc:gq K xE (.type "ValueError")=some true)(qCd:MRs K xE 9 [qA,qB,qE,qS,qV,xA,xB,xC,xD,xE,xI,xS,yA])(aC:CLs K C "Tails")(yC:FMs K C [f4 "__init__" "Tails.__init__" xF ["self","rule"],f4 "layer" "Tails.layer" wD ["self","left"],f4 "many_by" "Tails.many_by" xV ["self","layer","place","stop"],f4 "many_under" "Tails.many_under" xu ["self","place","stop","left"],f4 "many_below" "Tails.many_below" yr ["self","figures"],f4 "many_within" "Tails.many_within" xY ["self","size"],f4 "figure_at" "Tails.figure_at" xT ["self","place","k","left"],f4 "number_at" "Tails.number_at" yq ["self","size","k"],f4 "are_endless" "Tails.are_endless" vL ["self"]])(nC:NFs K C ["base","outset","steps","layers"])(aCK:CLs K CK "Keeper")(yCK:FMs K CK [f4 "__init__" "Keeper.__init__" yM ["self","rule","b"],f4 "come" "Keeper.come" uo ["self","stretch"],f4 "go" "Keeper.go" tX ["self","stretch"],f4 "turn_to" "Keeper.turn_to" yV ["self","bad"],f4 "rule" "Keeper.rule" jl ["self"],f4 "good" "Keeper.good" ji ["self","k"],f4 "below" "Keeper.below" vU ["self","n"]])(nCK:NFs K CK ["base","bad","bound","tails"])(g0:pP K cz "LEAST_BASE"= some (some (.int 2 t0)))(g1:pP K cz "GREATEST_BASE"= some (some (.int 16 t1)))(g2:pP K cz "MOST_STRETCHES"= some (some (.int 4 t2)))(g3:pP K cz "LONGEST_STRETCH"= some (some (.int 4 t3)))(g4:pP K cz "MOST_FIGURES"= some (some (.int 60 t4)))(zs:NNs K ["isinstance","int","bool","list","tuple","reversed","len","max","min","range","all","any","sorted","enumerate","repr","sum","abs","zip","str","dict","ValueError"]): ∃fd:lM,(∀s v,sZ s fd ⟨[v],[]⟩ [("script",v)])/\∀base:dj,K.In base->base.Ns cz mg->base.BuiltinsAt mg T0->FnOk l.prog w K mg base CX0 14 fa fd ["script"] (zbw K T0):=by
 have M:∀{n v},pP K cz n=some (some v)->mg n=some v:=W.mg_of X G;have N:∀{n},pP K cz n=some none->mg n=none:=W.mg_none_of X G;obtain⟨z0,z1,z2,z3,z4,z5,z6,z7,z8,z9,ar,as,au,av,aw,ax,ay,az,ba,bb,bc,_⟩:=zs;have T:Blt mg:=⟨N z0,N z1,N z2,N z3,N z4,N z5,N z6,N z7,N z8,N z9,N ar,N as,N au,N av,N aw⟩
 have U:Vk mg:=⟨N ax,N ay,N az,N ba⟩
 have Y5:=M g0;have jD:=M g1;have wH:=M g2;have qK:=M g3;have Zo:=M g4;have E:=N bb;have V:=N bc;obtain⟨⟨_,_,xP⟩,⟨_,_,Yv⟩,⟨_,_,Zn⟩,⟨_,_,Y4⟩,⟨_,_,jU⟩,⟨_,_,wB⟩,⟨_,_,YX⟩,⟨_,_,jO⟩,⟨_,_,V0⟩,⟨_,_,ZL⟩,⟨_,_,yX⟩,⟨_,_,ZW⟩,⟨_,_,Zh⟩,⟨_,_,qy⟩,⟨_,_,vC⟩,⟨_,_,ZM⟩,⟨_,_,Zw⟩,⟨_,_,qu⟩,⟨_,_,jf⟩,⟨_,_,Zv⟩,⟨_,_,Y0⟩,⟨_,_,VP⟩,⟨_,_,YZ⟩,⟨_,_,ZG⟩,_⟩:=xs0.df X G;obtain⟨⟨_,_,zB⟩,⟨_,_,yI⟩,⟨_,_,jX⟩,⟨_,_,qU⟩,⟨_,_,YH⟩,⟨_,_,uF⟩,⟨_,_,vh⟩,⟨_,_,uC⟩,⟨_,_,je⟩,⟨_,_,xO⟩,⟨_,_,YQ⟩,⟨_,_,Uq⟩,⟨_,_,wg⟩,⟨_,_,uE⟩,⟨_,_,Yx⟩,⟨_,_,uR⟩,⟨_,_,Wf⟩,⟨_,_,Zt⟩,⟨_,_,xG⟩,⟨_,_,uP⟩,⟨_,_,vN⟩,⟨_,_,uN⟩,⟨_,_,tD⟩,_⟩:=xs1.df X G;obtain⟨_,_,Yz,hc,_⟩:=xl.df X G;obtain⟨_,xL⟩:=xL;obtain⟨_,fd,O,_,bL⟩:=xL.df X G;cases hfa.symm.trans O.g
 obtain⟨aC,bi,bj,bk,bl,bm,bn⟩:=aC;obtain⟨⟨_,_,jB⟩,⟨_,_,vq⟩,⟨_,_,yF⟩,⟨_,_,yo⟩,⟨_,_,uy⟩,⟨_,_,yE⟩,⟨_,_,uQ⟩,⟨_,_,uM⟩,⟨_,_,ug⟩,_⟩:=yC.mt;have UW:Mk K C _:=let ⟨a,i,_⟩:=jB.m;⟨bi,a,i,bj⟩;have Uy:=jB.b;obtain⟨n0,n1,n2,n3,_⟩:=nC;have I:ClT K mg C:=⟨⟨bk,bl,bm,bn⟩,M aC,n0,n1,n2,n3⟩
 obtain⟨aCK,Y,Z,aa,ab,ac,ad⟩:=aCK;obtain⟨⟨_,_,d⟩,⟨_,_,r⟩,⟨_,_,x⟩,⟨_,_,o⟩,⟨_,_,t⟩,⟨_,_,u⟩,⟨_,_,j⟩,_⟩:=yCK.mt;have J:Mk K CK _:=let ⟨a,i,_⟩:=d.m;⟨Y,a,i,Z⟩;have L:=d.b;obtain⟨n0,n1,n2,n3,_⟩:=nCK;have c:ClK K mg CK:=⟨⟨aa,ab,ac,ad⟩,M aCK,n0,n1,n2,n3⟩
 refine⟨fd,λs v=>bL s [v] rfl,λbase _ _ bu=>?_⟩;have R:∀{k f fd ps sp},FnOk l.prog w K mg base CX0 k f fd ps sp->FnOk l.prog w K mg base CX0 k f fd ps sp:=id;have RX:∀{k f fd ps sp},FnOk l.prog w K mg base (CX1 l.prog w) k f fd ps sp->FnOk l.prog w K mg base (CX1 l.prog w) k f fd ps sp:=id;have XN:zbT mg _ _ _ _ _ _ _ _ _ _ _ _ _:=⟨M qCj.g,M qDd.g,M qDa.g,M qDf.g,M qDh.g,M qDb.g,M qCh.g,M qDg.g,M qDi.g,M qEa.g,M qDj.g,M qDc.g,M qDe.g⟩
 have ag:zbA K mg "LackError" yB:=⟨M qCi.g,mLE⟩
 have ah:zdn K mg "NoStretch" xD:=⟨M qDi.g,qCf⟩
 have bv:=qCi.cls qCa;obtain⟨m0,m1,m2,m3,m4,m5,m6,m7,F,H,P,Q,S,_⟩:=qCc;have cg:Qq K xD _ _ _ _ _ _ _ _ _ _ _ _ _ 8:=⟨qBe,zg1 qEb,qCj.no F m0,qDd.no F m1,qDa.no F m2,qDf.no F m3,qDh.no F m4,qDb.no F m5,qCh.no F m6,qDg.no F m7,zc0,qEa.no F H,qDj.no F P,qDc.no F Q,qDe.no F S⟩
 have ai:zdn K mg "TooMany" xE:=⟨M qEa.g,qCg⟩
 have aj:=qCi.cls qCb;obtain⟨m0,m1,m2,m3,m4,m5,m6,m7,F,H,P,Q,S,_⟩:=qCd;have ak:Qq K xE _ _ _ _ _ _ _ _ _ _ _ _ _ 9:=⟨qBf,zg1 qEc,qCj.no H m0,qDd.no H m1,qDa.no H m2,qDf.no H m3,qDh.no H m4,qDb.no H m5,qCh.no H m6,qDg.no H m7,qDi.no H F,zc0,qDj.no H P,qDc.no H Q,qDe.no H S⟩
 have Yk:=R (zdQ Zn xP T Y5 jD);have Vs:=R (zbf Y4 xP T);have YT:=R (JN jU Y4 Vs T);have vA:=R (zak wB jU YT qK T);have YF:=R (JG jO wB vA YX wH T);have JW:=R (zd0 V0 Zn Yk jO YF T);have uh:=R (zcb vC qy T);have Zf:=R (U0 qu vC uh Zw T);have Ve:=R (zb3 Yz hc hcT bu hgT vC uh T);have Z5:=R (Qu jf qu Zf);have X8:=R (zay Zv jf Z5 T);have Vf:=R (zb1 Y0 Zv X8 T);have yu:=R (zao yo vq yF I T U);have qt:=R (zai uy yo yu I T);have tY:=R (zf3 jB Yz Ve Y0 Vf vC uh I T);have Xm:=R (zaq ZW V0 JW);have X4:=R (zan ZL Zn Yk);have xN:=R (QC yX Yv xP T);have Xw:=R (zam ZM ZL X4 yX xN T);have Yo:=R (zdJ Zh T);have p:=R (zgO (T0:=T0) j uy qt ZM Xw I c);have A:=R (zh2 (C:=C) t Zh Yo c);have B:=R (zfH d ZW Xm yX xN Zh Yo UW Uy tY I c);have q:=R (zdi o j p UW Uy tY I c);have y:=RX (zgv r o q wB vA wH c ah ai T);have D:=RX (zih x o q wB vA c ah T);have Uw:=R (zcE Wf uR T);have Xz:=R (zar Zt r y x D c uE XN V ag bv aj cg ak T U);have yR:=R (zad yE vq yF I T U);have qZ:=R (zbR uQ yo yu I T);have qY:=R (zbx uM yo yu uQ qZ I T);have tL:=R (JX ug yE yR I);have Jb:=RX (zdG VP yX xN yE yR uM qY ug tL I Zo ai T);have z:=RX (zfQ (T0:=T0) u VP Jb c);have wy:=R (zaw xO je uC vh E T U);have wF:=R (Vl (T0:=T0) xG t A c zB uF T U);have JQ:=R (zdF Uq uC vh YQ E T U);have qQ:=R (Vc uP u z c Uq JQ uE XN V ag aj ak T U);have uJ:=R (Vj vN j p c zB wg xG wF uP qQ xO wy T U);have jc:=R (Vn uN Wf Uw Zt Xz xO wy T U);have jF:=R (Ub tD zB yI qU jX YH uF wg Yx uN jc vN uJ xG wF J L B c j p xO wy T U);exact zig O YZ ZG tD jF T
theorem walk2{l:Ig}{K:Params->aK}(hn:l.most=some 63)(hdf:d.params.defaults=[])(hY:∀w h,YP w h->(K w.params).In h)(hYT:∀w h,YP w h->h.get? T0=some (W.tabObj #[]))(hKT:∀w:bU,(K w.params).lookup T0=none)(hcT:∀w:bU,Hu (K w.params) c T0=true)(F:∀w mg fa h,(K w.params).In h->h.Ns cz mg->mg d.name=some (.ref fa) ->
   ∃fd:lM,(∀s u,sZ s fd ⟨[u],[]⟩ [("script",u)])/\∀base:dj,(K w.params).In base->base.Ns cz mg->base.BuiltinsAt mg T0->FnOk l.prog w (K w.params) mg base CX0 14 fa fd ["script"] (zbw (K w.params) T0)):
  W.WalkO q loose XP YP l.row.toRowW d [] (λf vs=>PySem.call f vs):=
 L2.zi4 (n:=63) (k:=14) (x:="script") (sp:=λw=>zbw (K w.params) T0) hn (by decide) hdf ⟨rfl,by decide,by decide,rfl⟩ hY hYT hKT hcT F (λw H a ns hl hT hS=>⟨a,ns,rfl,hS,hl,.inl hT,λ_=>rfl⟩)
end Lw
open PySem PySem.W PyProof.Rows
set_option maxRecDepth 100000 in
set_option maxHeartbeats 0 in
theorem PySem.Challenge.cw_lackstretch_k32_a_keeper_by_drawn_deeds_holds : PySem.Challenge.rw_lackstretch_k32_a_keeper_by_drawn_deeds.Holds := by
 w_on;o_law;k_head;(case hw=>w_witness2)
 k_fill
 refine Lw.walk2 (l:=PySem.Challenge.rw_lackstretch_k32_a_keeper_by_drawn_deeds) (c:=301) (T0:=297) rfl rfl (λw h Y=>W.km_in_of Y) (λw h Y=>W.km_tabs_of Y 297 (by decide)) (λw=>by kernel_rfl) (λw=>by kernel_rfl) ?F
 case F =>
  intro w mg fa h KX G hmg
  apply Lw.ziN (c0:=301) (T0:=297) KX G hmg (by kernel_rfl) (by decide)
  repeat' first | exact iC | exact λ_ _ _ _ _ _=>Lw.fb1 λ_=>rfl | exact λ_ _ _ _ _ _=>Lw.fb2 λ_ _=>rfl | exact λ_ _ _ _ _ _=>Lw.fb3 λ_ _ _=>rfl | exact λ_ _ _ _ _ _=>Lw.fb4 λ_ _ _ _=>rfl | exact λ_ _ _ _ _ _=>Lw.fb6 λ_ _ _ _ _ _=>rfl | refine' Lw.ex_ ?_ | refine' ⟨?_,?_⟩ | k_is | k_exc | refine' ⟨?_,?_,?_⟩ | refine' ⟨?_,?_,?_,?_,?_,?_,?_⟩ | fail
