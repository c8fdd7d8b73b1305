import PyProof.Rows.All
import Wide.All
import OpenK.AllK
import Wide.FinOn
import Lean
import PyProof.EqAt
import PyProof.EqKinds
import PyProof.TupleCall
import PySem.Challenge.RW_recut_k41_laid_over
set_option Elab.async false
set_option linter.all false
set_option maxRecDepth 100000
set_option maxHeartbeats 4000000
noncomputable section
open Array renaming append_assoc->vE,append_empty->qU,foldl_toList->GQ,forIn_toList->qV,getD->lN,getD_eq_getD_getElem?->dW,getElem?_eq_getElem->bD,getElem?_eq_none->rO,getElem?_eq_some_iff->jK,getElem?_setIfInBounds_ne->sO,getElem?_setIfInBounds_self_of_lt->pD,getElem?_toList->jU,getElem_of_mem->BN,length_toList->cN,mem_of_getElem?->BA,mem_toList_iff->iG,replicate->AL,size_map->BO,toList->IF,toList_append->uB,toList_extract->BQ,toList_filterMap->zB,toList_push->wK
open Array.Perm renaming mem_iff->GP,refl->qN
open Bool renaming and_eq_true->gS,and_false->vF,and_true->qJ,beq_eq_decide_eq->BB,eq_iff_iff->qO,false_and->vG,false_eq_true->aO,false_ne_true->cC,not_false->nF,not_true->fU,or_eq_true->tV,or_false->xG
open Classical renaming byContradiction->cI
open False renaming elim->mV
open ForInStep renaming yield->OJ
open Function renaming comp->FK,comp_def->IP
open Int renaming add_zero->zF,dvd_coe_gcd->OL,dvd_mul_right->IQ,dvd_refl->pS,dvd_trans->mW,ediv_mul_cancel->nD,eq_of_mul_eq_mul_left->eU,eq_of_mul_eq_mul_right->pE,fdiv_eq_ediv_of_nonneg->cT,gcd->bR,gcd_dvd_left->lK,gcd_dvd_right->jL,gcd_ediv_gcd_ediv_gcd->qF,gcd_pos_of_ne_zero_left->jI,le_of_dvd->FL,le_of_lt->cR,le_refl->wN,le_trans->zG,lt_asymm->pT,lt_irrefl->mX,lt_or_eq_of_le->jX,lt_or_gt_of_ne->GR,lt_or_le->zH,lt_trichotomy->iS,mul_assoc->mY,mul_comm->iY,mul_dvd_mul->AM,mul_ediv_cancel'->jD,mul_ediv_cancel_left->gN,mul_eq_zero->iK,mul_lt_mul_left->EZ,mul_ne_zero->oF,mul_neg_of_neg_of_pos->iP,mul_neg_of_pos_of_neg->fR,mul_nonneg->eV,mul_nonneg_of_nonpos_of_nonpos->lP,mul_nonpos_of_nonneg_of_nonpos->eO,mul_nonpos_of_nonpos_of_nonneg->dQ,mul_one->wO,mul_pos->aS,mul_zero->mK,natAbs_dvd->vM,natAbs_dvd_natAbs->oQ,natAbs_mul->iH,natAbs_of_nonneg->tS,natCast_nonneg->vN,ne_of_gt->rQ,ne_of_lt->zJ,neg_eq_zero->OM,neg_lt_neg_iff->GS,neg_pos_of_neg->GT,not_le->fA,not_lt->jY,ofNat_natAbs_of_nonpos->vO,pos_of_mul_pos_left->iE,sub_pos_of_lt->IR,toNat_natCast->oW,toNat_of_nonneg->FA,zero_mul->rR
open List renaming Nodup->jZ,all_cons->FN,all_eq_true->kA,any_eq_false->IT,any_eq_true->pU,append_assoc->eQ,append_inj_left'->mB,append_inj_right'->gX,append_nil->eJ,append_of_mem->nX,concat_eq_append->BC,cons_append->aW,dropLast->UK,dropLast_concat->kJ,drop_eq_getElem_cons->fH,drop_eq_nil_of_le->rT,drop_length->LQ,drop_sublist->IU,drop_zero->QP,eq_nil_or_concat->fI,ext_getElem->yA,ext_getElem?->wQ,filterMap_cons->eS,filter_append->jA,filter_congr->wR,filter_cons->pV,filter_filter->vP,filter_flatMap->FC,filter_map->qP,find?_cons->oG,find?_eq_none->GU,flatMap_append->FE,flatMap_cons->IV,flatMap_def->LR,flatMap_map->LU,foldl_cons->qQ,forIn_cons->oH,forIn_nil->vQ,getD_eq_getElem?_getD->eI,getElem?_append_left->dH,getElem?_append_right->dR,getElem?_cons_succ->aI,getElem?_cons_zero->aE,getElem?_drop->GV,getElem?_eq_getElem->aG,getElem?_eq_none->jV,getElem?_eq_some_iff->bG,getElem?_map->bK,getElem?_range->uC,getElem?_replicate->jE,getElem?_set_ne->iJ,getElem?_set_self->gY,getElem?_take->GW,getElem?_zip_eq_some->mH,getElem_drop->IW,getElem_mem->nG,getElem_of_mem->eT,length->fM,length_append->dA,length_cons->bH,length_drop->nH,length_dropLast->BX,length_eq_zero_iff->yB,length_erase_of_mem->xI,length_filter_le->iT,length_map->bV,length_nil->eK,length_pos_iff->lD,length_pos_of_mem->zK,length_range->IX,length_replicate->mC,length_reverse->uD,length_singleton->sT,length_take->gT,length_zip->ON,lookup_cons->kB,map->vR,map_append->dI,map_congr_left->nE,map_cons->aQ,map_eq_append_iff->rV,map_eq_cons_iff->kK,map_eq_nil_iff->FF,map_id->pF,map_map->cM,map_nil->cB,map_reverse->LV,map_take->kG,mem_append->cJ,mem_append_left->cU,mem_append_right->aV,mem_cons->aN,mem_cons_of_mem->aT,mem_cons_self->cF,mem_erase_of_ne->BY,mem_filter->kX,mem_filterMap->kC,mem_flatMap->LW,mem_map->bJ,mem_map_of_mem->cO,mem_of_find?_eq_some->wG,mem_of_getElem?->eW,mem_of_mem_drop->BZ,mem_of_mem_take->kL,mem_or_eq_of_mem_set->wH,mem_range->gK,mem_replicate->GX,mem_reverse->pW,mem_singleton->dM,nil_append->bC,nodup_append->wS,nodup_cons->fJ,nodup_range->LX,not_mem_nil->gH,of_mem_zip->tW,pairwise_append->jF,pairwise_cons->bZ,pairwise_iff_getElem->jS,pairwise_map->kO,pairwise_reverse->oR,pairwise_singleton->yC,perm_append_comm->BE,range->dX,range_succ->OO,range_succ_eq_map->zL,replicate->eY,replicate_zero->FG,reverse_cons->wT,set_cons_succ->aX,set_cons_zero->aR,singleton_append->BG,size_toArray->aY,sum_cons->FO,take_append_drop->gC,take_length->sX,take_of_length_le->nY,take_sublist->IY,take_succ->nJ,take_succ_cons->uE,take_zero->CB,toArray->lH,zip->yD,zipIdx_cons->LY,zipIdx_nil->OP,zipWith->mL,zipWith_cons_cons->rW,zip_append->AN,zip_cons_cons->nZ
open List.Pairwise renaming map->wP,nil->oZ,of_map->BV,sublist->lZ
open List.Perm renaming refl->BW,swap->QO
open List.Sublist renaming refl->IS
open List.cons renaming inj->xH,injEq->fY
open Nat renaming add_mod->NN,add_mod_right->IZ,eq_zero_of_zero_dvd->yE,eq_zero_or_pos->vS,gcd_comm->zM,gcd_zero_right->GY,le_mul_of_pos_left->zN,le_mul_of_pos_right->kP,le_of_dvd->tM,le_of_eq->zO,le_of_lt->lI,le_of_lt_succ->jM,le_of_succ_le->JA,le_refl->bO,le_trans->fK,lt_irrefl->hE,lt_of_le_of_lt->vT,lt_of_lt_of_le->bQ,lt_or_eq_of_le->vU,lt_succ_of_lt->gU,lt_succ_self->nK,lt_trans->rX,min_eq_left->AO,mod_eq_of_lt->hU,mod_lt->kD,mul_le_mul_right->CC,ne_of_gt->dZ,ne_of_lt->bE,not_lt_zero->oI,pow_mul->NO,strongRecOn->OQ,sub_le_sub_right->CD,sub_zero->zP,succ_le_succ->LZ,succ_ne_self->nM,zero_add->uN,zero_le->fV
open Nat.Coprime renaming dvd_of_dvd_mul_left->sR
open Nat.succ renaming inj->JB
open Option renaming bind_some->MA,getD_none->MB,getD_some->pX,map_eq_some_iff->rY,map_some->oJ,none->CF
open Option.some renaming inj->dU,injEq->pA
open Or renaming inl->cY,inr->cV
open Prod renaming ext->lQ
open Prod.mk renaming injEq->fF
open PyProof.Rows renaming assignInOrder_cons->vV,assignInOrder_nil->JJ,callWith_builtin1->sY,callWith_type1->gQ,get?_update_seq->OV,getItem_tuple->UV,listUpdate_at->UZ,slicePart_none->TY,slot_tuple_getitem->sS,subscriptTail_builtinR->sM
open PyProof.Rows.IsTup renaming new->LO
open PyProof.Rows.KeyOrd renaming kle_antisymm->FB,kle_of_klt->oX,kle_refl->kW,kle_trans->sW
open PySem renaming Around->dD,FuncData->lO,Keyword->oY,Program->bU,Shared->aF,Value->aB,World->dJ,builtinLookup_eq_fast->mD,callType_codes->QY,call_list_seq->UN,call_meets->zV,codeAny_builtin->gI,codeAny_call_builtin->CJ,codeAny_mono->uP,codeAny_of_tree->OU,code_list_new->UR,concat_meets->JL,evalPart_none->UU,intBits_le_iff->SA,intItems_at->CT,isSubtype_stop->SB,isSubtype_type->SC,list_append->JE,mem_of_lookup->lE,noFill_tuple_add->MZ,plainId_quiet->gW,seqIndex_of->OI,seq_tuple_add->VJ,sizeLine_eq->jQ,sub_zip->Af,typeLookup_type->qT,wpAny_Call_Name_kw->gP,wpAny_Constant_int->wE,wpAny_Name->IC,wpAny_askSetting->qD,wpAny_assign_Name->LJ,wpAny_attempt->xV,wpAny_bind->aA,wpAny_bindName->UE,wpAny_call->ID,wpAny_callSpecial?_slot->iF,wpAny_call_entry->iO,wpAny_comprehension_free->xW,wpAny_eqIsQuiet_tuple->BM,wpAny_execs_cons->NL,wpAny_execs_nil->tZ,wpAny_field->gE,wpAny_fieldsOf->UF,wpAny_forIn_list->tJ,wpAny_handled->VN,wpAny_holding->fG,wpAny_isInstance->tK,wpAny_letGo->jR,wpAny_loadName_local->EF,wpAny_loadPart'->uA,wpAny_mono->jC,wpAny_newFunctionEnv->EG,wpAny_newList->VO,wpAny_newObj_type->fP,wpAny_newTuple->EH,wpAny_of_eq->nU,wpAny_onRaise->xX,wpAny_passesOwn->mJ,wpAny_pure->aJ,wpAny_pyIter_list->jO,wpAny_pyIter_slot->LK,wpAny_pyIter_tuple->lW,wpAny_rule->wF,wpAny_runValue->UG,wpAny_seqItems->fD,wpAny_setEntries_of->uL,wpAny_setField->EI,wpAny_setField_rec->kE,wpAny_setState_of->jP,wpAny_specialOf->oN,wpAny_standAt->xY,wpAny_storeSet_of->LL,wpAny_truthy_bool->mS,wpAny_tryCatch->lX,wpAny_typeOf->sN,wpAny_updateSeq->gJ,wpAny_updateSeq_pair->tU
open PySem.Around renaming under_plainId->fE
open PySem.Builtin renaming divisionGoesByPylong->oE
open PySem.Builtin.Builtins renaming bindParams->lG
open PySem.Builtin.Int renaming intBits->EY
open PySem.Builtin.List renaming listExtendWith->fT,listItems->nV,listLengthHint->jH,listSameRef->iU,listTooLong->mT,listUpdate->rE
open PySem.Builtin.Slice renaming sliceAdjust->qE,sliceApplied->vH,slicePlaces->mG
open PySem.Builtin.SmallTypes renaming nextOf->dG,ownedTupleHandOut->qG,ownedTupleIsFree->eG
open PySem.Builtin.Tuple renaming tupleExact->mU
open PySem.Calls renaming Name_function_global->vI,callWith_builtin->zC,spliced_cons->qW,spliced_nil->rP
open PySem.F renaming args_tuple_add_2->xJ,entry_extend_loop->wI,entry_tuple_add->yF,plainAttrs_list->kQ,plain_extend_loop->iQ,plain_set_new->BH,slot_list_append->xK,slot_tuple_add->zQ,type_list_append->xL
open PySem.Heap renaming ExtBut->NM,IsList->BU,IsTuple->zE,SameBut->nW,get?_push_of_some->aK,get?_push_size->bF,get?_update_other->cD,get?_update_self->dL,lt_size->aP,size_push->gA
open PySem.Heap.SameBut renaming update->hV
open PySem.IsL renaming update->MC
open PySem.NameKind renaming cell->tL,free->iV
open PySem.Obj renaming data_mapFields->HA,mapSeq->cX,putSet->pG
open PySem.PassesOwn renaming never->dF
open PySem.SeqAt renaming EqAt->HC,RcAt->zU
open PySem.SeqAt.EqAt renaming int_int->HF,of_refs->HG,same->AR
open PySem.SetFound renaming there->QS
open PySem.SetTable renaming grown->QT
open PySem.SetTable.below renaming go->QU
open PySem.SetTable.layClean renaming free->jJ
open PySem.SetTable.probe renaming go->Db
open PySem.Shared renaming TypeIs->FP,heap->mN
open PySem.Str renaming ofString->gL
open PySem.Value renaming bool->HH,int->VU,isInt->NP,none->gO,ref->gD,str->VW,type->iR
open PySem.W renaming CodeHd->QQ,Frag->aH,cellsFrom_some->zR,codeIn->nN,envX->zT,findIn->QR,fnOf->mM,instObj->AQ,kas_asc->wX,kas_bin->ZF,kas_count->tG,kas_desc->lV,kas_descPart->pZ,kas_place->yM,kas_rev->ET,kas_sort->CV,kas_tail3->uY,keepIn->nO,kia_one->gZ,kitOne->lR,kitx_dict->JD,kitx_list->wU,kla_obj->tX,lookIn->CG,methodObj->wV,mg_of->UL,nsIn->jN,plainGet->ME,tabIn->fQ,tabObj->rZ
open PySem.Walks renaming list->HI
open PySem.pickOrder renaming go->KP
open Rat renaming intCast_add->OR,intCast_inj->OS,intCast_mul->qR
open Sum renaming inl->uO,inr->EK
open True renaming intro->sZ
set_option compiler.extract_closed false
local macro_rules | `(tactic| walk_at "vis")=>`(tactic| first | exact cY rfl | exact cV (cY rfl) | exact cV (cV rfl) | exact cV rfl)
local macro_rules | `(tactic| walk_at "loc")=>`(tactic| first | exact .inl rfl | exact .inr rfl | assumption)
namespace L2
open PySem PySem.Spec PyProof.Rows
abbrev ii:=Sum Int Str
def Wf:ii->aB->Bool
 | .inl k,v=>NP k v
 | .inr x,v=>Value.isStrOf x v
def L8 (w:dJ):ii->Int
 | .inl k=>hashInt k
 | .inr x=>hashStr w x
theorem mP:∀{k:ii} {v:aB},Wf k v=true->(∃i t,k=uO i/\v=VU i t)\/(∃x t,k=EK x/\v=VW x t)
 | .inl i,v,h=>by
  obtain⟨t,e⟩:=Value.isInt_shape (k:=i) (v:=v) h;exact .inl ⟨i,t,rfl,e⟩
 | .inr x,v,h=>by
  obtain⟨t,e⟩:=Value.isStrOf_shape (x:=x) (v:=v) h;exact .inr ⟨x,t,rfl,e⟩
def Xw (a b:Int):decide ((uO a:ii)=uO b)=(a == b):=by
 by_cases e:a=b
 ·subst e;simp
 ·have h:¬(uO a:ii)=uO b:=λq=>e (Sum.inl.inj q);rw[decide_eq_false h];exact (beq_eq_false_iff_ne.mpr e).symm
def Xz (a b:Str):decide ((EK a:ii)=EK b)=decide (a=b):=by
 by_cases e:a=b
 ·subst e;simp
 ·have h:¬(EK a:ii)=EK b:=λq=>e (Sum.inr.inj q);rw[decide_eq_false h,decide_eq_false e]
def Xx (a:Int) (b:Str):decide ((uO a:ii)=EK b)=false:=decide_eq_false (λq=>nomatch q)
def Xy (a:Str) (b:Int):decide ((EK a:ii)=uO b)=false:=decide_eq_false (λq=>nomatch q)
def Jc (prog:bU) (w:dJ):PySem.KeyKind prog w ii where
 is:=Wf
 hash:=L8 w
 inj:=λv a b ha hb=>by
  rcases mP ha with ⟨i,t,rfl,rfl⟩ | ⟨x,t,rfl,rfl⟩
  ·rcases mP hb with ⟨j,u,rfl,e⟩ | ⟨y,u,rfl,e⟩
   ·injection e with e1 _;rw[e1]
   ·exact nomatch e
  ·rcases mP hb with ⟨j,u,rfl,e⟩ | ⟨y,u,rfl,e⟩
   ·exact nomatch e
   ·injection e with e1 _;rw[e1]
 byValue:=λk v h=>by
  rcases mP h with ⟨i,t,rfl,rfl⟩ | ⟨x,t,rfl,rfl⟩ <;> rfl
 pyHash:=λhv h=>by
  rcases mP hv with ⟨i,t,rfl,rfl⟩ | ⟨x,t,rfl,rfl⟩
  ·exact wpAny_pyHash_int h
  ·exact wpAny_pyHash_str h
 eqBool:=λhu hv h=>by
  rcases mP hu with ⟨i,t,rfl,rfl⟩ | ⟨x,t,rfl,rfl⟩
  ·rcases mP hv with ⟨j,u,rfl,rfl⟩ | ⟨y,u,rfl,rfl⟩
   ·rw[Xw] at h;exact wpAny_eqBool_int h
   ·rw[Xx] at h;exact SeqAt.EqAt.int_str i t y u _ _ _ _ h
  ·rcases mP hv with ⟨j,u,rfl,rfl⟩ | ⟨y,u,rfl,rfl⟩
   ·rw[Xy] at h;exact SeqAt.EqAt.str_int x t j u _ _ _ _ h
   ·rw[Xz] at h;exact wpAny_eqBool_str h
 «strs»:=λk x t v h=>by
  rcases mP h with ⟨i,u,rfl,e⟩ | ⟨y,u,rfl,e⟩
  ·exact nomatch e
  ·injection e with e1 _;subst e1;cases v <;> rfl
inductive V where
 | non | bl (b:Bool) | int (i:Int) | str (x:Str) | byt (b:Array UInt8) | flt (b:UInt64) | ref (a:Addr) | ty (n:String)
 deriving DecidableEq
def RelV:V->aB->Prop
 | .non,u=>u=gO
 | .bl b,u=>u=HH b
 | .int i,u=>∃t,u=VU i t
 | .str x,u=>∃t,u=VW x t
 | .byt b,u=>∃t,u=Value.bytes b t
 | .flt b,u=>∃t,u=Value.float b t
 | .ref a,u=>u=gD a
 | .ty n,u=>u=iR n
abbrev ao:List V->List aB->Prop:=Paired RelV
def ao.length (r:ao xs us):xs.length=us.length:=Paired.length r
theorem ao.get:∀{xs:List V} {us:List aB} {i:Nat} {x:V},ao xs us->xs[i]? = some x->∃u,us[i]? = some u/\RelV x u
 | _,_,_,_,.nil,e=>by simp at e
 | _,_,0,_,.cons r _,e=>by simp at e;subst e;exact⟨_,rfl,r⟩
 | _,_,i+1,x,.cons _ t,e=>by
  obtain⟨u,h1,h2⟩:=ao.get (i:=i) (x:=x) t (by simpa using e);exact⟨u,by simpa using h1,h2⟩
theorem ao.set (r:RelV x u):∀{xs:List V} {us:List aB} (i:Nat),ao xs us->ao (xs.set i x) (us.set i u)
 | _,_,_,.nil=>.nil
 | _,_,0,.cons _ t=>.cons r t
 | _,_,i+1,.cons q t=>.cons q (ao.set r i t)
theorem ao.append:∀{xs ys:List V} {us ws:List aB},ao xs us->ao ys ws->ao (xs++ys) (us++ws)
 | _,_,_,_,.nil,s=>s
 | _,_,_,_,.cons r t,s=>.cons r (ao.append t s)
theorem ao.take:∀{xs:List V} {us:List aB} (n:Nat),ao xs us->ao (xs.take n) (us.take n)
 | _,_,0,_=>.nil
 | _,_,_+1,.nil=>.nil
 | _,_,n+1,.cons r t=>.cons r (ao.take n t)
theorem ao.drop:∀{xs:List V} {us:List aB} (n:Nat),ao xs us->ao (xs.drop n) (us.drop n)
 | _,_,0,r=>r
 | _,_,_+1,.nil=>.nil
 | _,_,n+1,.cons _ t=>ao.drop n t
def Nm:Option V->Option aB->Prop
 | some v,some u=>RelV v u
 | none,none=>True
 | _,_=>False
def KV {a:Type}:List (a × V)->List (a × aB)->Prop:=Paired λ(p:a × V) (q:a × aB)=>p.1=q.1/\RelV p.2 q.2
def kV:ii->V
 | .inl i=>.int i
 | .inr x=>.str x
inductive HO where
  | lst (xs:List V)
  | tup (xs:List V)
  | dK (cg:List (ii × V)) | dT (cg:List (List ii × V))
  | set (S:Int->Bool) (n:Nat)
  | ins (C dx:Addr) (fs:List (Str × V))
  | own (x:Addr)
  | xd (fs:List (Str × V))
  | met (f x:Addr)
  | rng (lo hi:Int)
  | frz (o:Obj) (u:HO)
  | tbl (ps:Array aB)
  | ext (φ:Heap->Prop)
abbrev Hp:=Addr->Option HO
def bj (H:Hp) (a:Addr) (o:HO):Hp:=λb=>if b=a then some o else H b
def fS:bj H a o a=some o:=by unfold bj;rw[if_pos rfl]
def cW (h:b≠a):bj H a o b=H b:=by unfold bj;rw[if_neg h]
def dY {H:Hp} {a b:Addr} {o:HO} (h:H a=some o) (h':H b=none):a≠b:=by
 intro e;subst e;rw[h] at h';cases h'
section
variable (P:bU) (w:dJ)
def ci (H:Hp) (h:Heap) (a:Addr):HO->Prop
 | .lst xs=>xs.length<=sizeLine/\∃(its:List aB) (n:Nat),ao xs its/\h.get? a=some { cls:=.type "list",data:=.seq its.toArray n }
 | .tup xs=>xs.length<=sizeLine/\∃its:List aB,ao xs its/\IsTup h a its.toArray
 | .dK cg=>cg.length<=sizeLine/\(a == sysModules)=false/\∃vs,KV cg vs/\h.DictOf (Jc P w) a vs
 | .dT cg=>cg.length<=sizeLine/\(a == sysModules)=false/\∃xs:List (List ii × Addr × aB),
   Paired (λ(p:List ii × V) (q:List ii × Addr × aB)=>p.1=q.1/\H q.2.1=some (.tup (p.1.map kV))/\RelV p.2 q.2.2) cg xs /\
   ∃o es ep,h.get? a=some o/\o.ExactDict/\o.data = .dict es ep/\es.toList=xs.map (entryOfKey (tupleKind (Jc P w)))/\(xs.map (·.1)).Nodup
 | .set S n=>h.SetOf (intKind P w) a S n
 | .ins C dx fs=>H dx=some (.own a)/\fs.length<=1000/\dx≠a/\h.get? a=some (AQ C dx) /\
   ∃mA,h.Ns1 dx mA/\(∀f,Nm (fs.lookup f) (mA f))/\PySem.Within mA (fs.map (·.1))
 | .own _=>∃o,h.get? a=some o
 | .xd fs=>∃mA,h.Ns1 a mA/\∀f,Nm (fs.lookup f) (mA f)
 | .rng lo hi=>∃t u v,h.get? a=some { cls:=.type "range",data:=.fields #[.int lo t,.int hi u,.int 1 v] }
 | .frz o u=>h.get? a=some o/\ci H h a u
 | .tbl ps=>h.get? a=some { cls:=.none,data:=.fields ps }
 | .met f x=>h.get? a=some (wV (.ref f) (.ref x))
 | .ext b=>b h/\(∃o,h.get? a=some o)/\∀h1 h2:Heap,b h1->(∀o,h1.get? a=some o->h2.get? a=some o)->b h2
def jp (H:Hp) (h:Heap):Prop:=∀a o,H a=some o->ci P w H h a o
end
section
variable {a:Addr}
theorem ci.lt (x:ci P w H h a o):a<h.objs.size:=by
 cases o with
 | lst xs=>obtain⟨_,_,_,_,e⟩:=x;exact aP e
 | tup xs=>obtain⟨_,_,_,p⟩:=x;exact p.lt
 | dK cg=>obtain⟨_,_,_,_,o,_,_,e,_⟩:=x;exact aP e
 | dT cg=>obtain⟨_,_,_,_,o,_,_,e,_⟩:=x;exact aP e
 | set S n=>obtain⟨o,_,_,_,e,_⟩:=x;exact aP e
 | ins C dx fs=>obtain⟨_,_,_,e,_⟩:=x;exact aP e
 | own y=>obtain⟨_,e⟩:=x;exact aP e
 | xd fs=>obtain⟨_,⟨_,_,_,e,_⟩,_⟩:=x;exact aP e
 | rng lo hi=>obtain⟨_,_,_,e⟩:=x;exact aP e
 | frz ob u=>obtain⟨e,_⟩:=x;exact aP e
 | tbl ps=>exact aP (show h.get? a=some _ from x)
 | met f y=>exact aP (show h.get? a=some _ from x)
 | ext b=>obtain⟨_,⟨_,e⟩,_⟩:=x;exact aP e
theorem Paired.mapP {α β:Type} {F G:α->β->Prop}:∀{l₁:List α} {l₂:List β},Paired F l₁ l₂->(∀a b,F a b->G a b)->Paired G l₁ l₂
 | _,_,.nil,_=>.nil
 | _,_,.cons r t,f=>.cons (f _ _ r) (Paired.mapP t f)
theorem ci.stay (x:ci P w H h a o) (k:∀b u,(b=a\/H b=some (.own a))->h.get? b=some u->h'.get? b=some u)
  (ho:∀b,H b=some (.own a)->H' b=some (.own a)) (ht:∀b xs,H b=some (.tup xs)->H' b=some (.tup xs)):ci P w H' h' a o:=by
 induction o with
 | lst xs=>obtain⟨z,its,n,r,e⟩:=x;exact⟨z,its,n,r,k _ _ (.inl rfl) e⟩
 | tup xs=>obtain⟨z,its,r,ob,e,c⟩:=x;exact⟨z,its,r,ob,k _ _ (.inl rfl) e,c⟩
 | dK cg=>obtain⟨z,y,vs,r,ob,es,ep,e,c⟩:=x;exact⟨z,y,vs,r,ob,es,ep,k _ _ (.inl rfl) e,c⟩
 | dT cg =>
  obtain⟨z,y,xs,r,ob,es,ep,e,c⟩:=x;exact⟨z,y,xs,Paired.mapP r λp q z=>⟨z.1,ht _ _ z.2.1,z.2.2⟩,ob,es,ep,k _ _ (.inl rfl) e,c⟩
 | set S n=>obtain⟨ob,es,ep,t,e,c⟩:=x;exact⟨ob,es,ep,t,k _ _ (.inl rfl) e,c⟩
 | ins C dx fs =>
  obtain⟨d,z,ne,e,mA,⟨od,es,ep,e2,c⟩,r⟩:=x;exact⟨ho _ d,z,ne,k _ _ (.inl rfl) e,mA,⟨od,es,ep,k _ _ (.inr d) e2,c⟩,r⟩
 | own y=>obtain⟨ob,e⟩:=x;exact⟨ob,k _ _ (.inl rfl) e⟩
 | xd fs=>obtain⟨mA,⟨od,es,ep,e,c⟩,r⟩:=x;exact⟨mA,⟨od,es,ep,k _ _ (.inl rfl) e,c⟩,r⟩
 | rng lo hi=>obtain⟨t,u,v,e⟩:=x;exact⟨t,u,v,k _ _ (.inl rfl) e⟩
 | frz ob u ih=>obtain⟨e,q⟩:=x;exact⟨k _ _ (.inl rfl) e,ih q⟩
 | tbl ps =>
  have e:h.get? a=some { cls:=.none,data:=.fields ps }:=x;show h'.get? a=some { cls:=.none,data:=.fields ps };exact k a _ (.inl rfl) e
 | met f y =>
  have e:h.get? a=some (wV (.ref f) (.ref y)):=x;show h'.get? a=some (wV (.ref f) (.ref y));exact k a _ (.inl rfl) e
 | ext g=>obtain⟨p,⟨o,e⟩,st⟩:=x;exact⟨st _ _ p λo q=>k _ _ (.inl rfl) q,⟨o,k _ _ (.inl rfl) e⟩,st⟩
theorem jp.lt (x:jp P w H h) (e:H a=some o):a<h.objs.size:=(x a o e).lt
theorem jp.fresh (x:jp P w H h) (e:h.objs.size<=a):H a=none:=by
 cases q:H a with
 | none=>rfl
 | some u=>exact absurd (bQ (x.lt q) e) (hE _)
theorem jp.kept (x:jp P w H h) (k:∀b u,h.get? b=some u->h'.get? b=some u):jp P w H h':=λa o e =>
 (x a o e).stay (λb u _ q=>k b u q) (λ_ q=>q) λ_ _ q=>q
theorem jp.laid (x:jp P w H h) (k:∀b u,h.get? b=some u->h'.get? b=some u) (hp:h.objs.size<=a) (new:ci P w (bj H a o) h' a o):jp P w (bj H a o) h':=λb u e=>by
 have hn:=x.fresh hp;by_cases hb:b=a
 ·subst hb;rw[fS] at e;cases e;exact new
 ·rw[cW hb] at e;exact (x b u e).stay (λc v _ q=>k c v q) (λc q=>by rw[cW (dY q hn)];exact q) λc xs q=>by rw[cW (dY q hn)];exact q
end
def Rd (H:Hp) (a:Addr) (u:HO):Prop:=H a=some u\/∃o,H a=some (.frz o u)
def Rd.ok (r:Rd H a u) (x:jp P w H h):ci P w H h a u:=by
 rcases r with r | ⟨o,r⟩
 ·exact x a u r
 ·obtain⟨_,q⟩:=x a _ r;exact q
def I_:Option HO->Prop
 | some (.lst _)=>True
 | some (.dK _)=>True
 | some (.dT _)=>True
 | some (.set _ _)=>True
 | some (.ins _ _ _)=>True
 | some (.ext _)=>True
 | _=>False
section
def jp.write (ok:jp P w H h) (mu:I_ (H x)) (he:e=x\/H e=some (.own x)) (k:∀b u,b≠e->h.get? b=some u->h'.get? b=some u) (xk:∃u,h'.get? e=some u)
  (new:ci P w (bj H x o') h' x o'):jp P w (bj H x o') h':=λb u q=>by
 have z8:∀c y,H c=some (.own y)->c≠x:=λc y r z=>by subst z;rw[r] at mu;exact mu
 have oj:∀c xs,H c=some (.tup xs)->c≠x:=λc xs r z=>by subst z;rw[r] at mu;exact mu
 by_cases hb:b=x
 ·subst hb;rw[fS] at q;cases q;exact new
 ·rw[cW hb] at q;by_cases vq:b=e
  ·have q':H b=some (.own x):=by
    rcases he with z | z
    ·exact absurd (vq.trans z) hb
    ·rw[vq];exact z
   rw[q] at q';cases q';obtain⟨v,hv⟩:=xk;exact⟨v,by rw[vq];exact hv⟩
  ·refine (ok b u q).stay (λc v hc r=>k c v ?_ r) (λc r=>by rw[cW (z8 c b r)];exact r) λc xs r=>by rw[cW (oj c xs r)];exact r
   rcases hc with rfl | hc
   ·exact vq
   ·rintro rfl;rcases he with z | z
    ·exact z8 c b hc z
    ·rw[hc] at z;cases z;exact hb rfl
end
structure Un (fs ex:List Addr) (H H':Hp) (h h':Heap):Prop where
 keep:∀b o,h.get? b=some o->H b=none->b ∉ fs->b ∉ ex->h'.get? b=some o
 slot:∀b o,h.get? b=some o->H b=none->b∈fs->b ∉ ex->∃sl,h'.get? b=some { o with slots:=sl }
 free:∀b o,h.get? b=some o->H b=none->b ∉ ex->H' b=none
 there:∀b o,h.get? b=some o->b ∉ ex->∃o',h'.get? b=some o'
 tups:∀b xs,H b=some (.tup xs)->H' b=some (.tup xs)
 frzs:∀b o u,H b=some (.frz o u)->H' b=some (.frz o u)
 tbls:∀b ps,H b=some (.tbl ps)->∃more,H' b=some (.tbl (ps++more))
section
variable {fs fs' ex ex':List Addr}
theorem Un.any (u:Un fs ex H H1 h h1) (q:h.get? b=some ob) (n:H b=none) (hx:b ∉ ex):∃sl,h1.get? b=some { ob with slots:=sl }:=by
 by_cases hb:b∈fs
 ·exact u.slot b ob q n hb hx
 ·exact⟨ob.slots,u.keep b ob q n hb hx⟩
theorem Un.kept (k:∀b u,h.get? b=some u->h'.get? b=some u):Un fs ex H H h h' :=
 ⟨λb ob q _ _ _=>k b ob q,λb ob q _ _ _=>⟨ob.slots,k b ob q⟩,λ_ _ _ n _=>n,λb ob q _=>⟨ob,k b ob q⟩,λ_ _ q=>q,λ_ _ _ q=>q,λ_ ps q=>⟨#[],by rw[q];simp⟩⟩
theorem Un.refl:Un fs ex H H h h:=Un.kept λ_ _ q=>q
theorem Un.laid (k:∀b u,h.get? b=some u->h'.get? b=some u) (hp:h.objs.size<=a) (hn:H a=none):Un fs ex H (bj H a o) h h' where
 keep:=λb u q _ _ _=>k b u q
 slot:=λb u q _ _ _=>⟨u.slots,k b u q⟩
 free:=λb u q n _=>by rw[cW (bE (bQ (aP q) hp))];exact n
 there:=λb u q _=>⟨u,k b u q⟩
 tups:=λb xs q=>by rw[cW (dY q hn)];exact q
 frzs:=λb u xs q=>by rw[cW (dY q hn)];exact q
 tbls:=λb ps q=>⟨#[],by rw[cW (dY q hn),q];simp⟩
theorem Un.write (mu:I_ (H x)) (he:e=x\/H e=some (.own x)) (k:∀b u,b≠e->h.get? b=some u->h'.get? b=some u) (xk:∃u,h'.get? e=some u):Un fs ex H (bj H x o) h h':=by
 have hx:∀b,H b=none->b≠x:=λb n z=>by subst z;rw[n] at mu;exact mu
 have hb:∀b,H b=none->b≠e:=λb n z=>by
  subst z;rcases he with r | r
  ·exact hx b n r
  ·rw[n] at r;cases r
 have hm:∀b u,H b=some u->¬I_ (some u)->b≠x:=λb u q nm z=>by subst z;rw[q] at mu;exact nm mu
 refine⟨λb u q n _ _=>k b u (hb b n) q,λb u q n _ _=>⟨u.slots,k b u (hb b n) q⟩,λb u q n _=>by rw[cW (hx b n)];exact n,λb u q _=>?_,
  λb xs q=>by rw[cW (hm b _ q λz=>z)];exact q,λb u xs q=>by rw[cW (hm b _ q λz=>z)];exact q,λb ps q=>⟨#[],by rw[cW (hm b _ q λz=>z),q];simp⟩⟩
 by_cases vq:b=e
 ·subst vq;exact xk
 ·exact⟨u,k b u vq q⟩
end
def V8 (h:Heap) (H:Hp):List Addr:=(dX h.objs.size).filter λa=>(H a).isSome
def UW (h:Heap) (H:Hp):Heap:=PySem.W.hideAll h (V8 h H)
def Ld (h:Heap) (H:Hp):(UW h H).objs.size=h.objs.size:=PySem.W.hideAll_size _ _
def Pc (e:h.get? b=some o) (n:H b=none):(UW h H).get? b=some o :=
 PySem.W.hideAll_get _ e λhm=>by
  have q:(H b).isSome=true:=(kX.mp hm).2;rw[n] at q;simp at q
theorem Tn (e:(UW h H).get? b=some o):h.get? b=some o/\H b=none:=by
 have e':h.get? b=some o:=PySem.W.of_hideAll (V8 h H) e;refine⟨e',?_⟩;cases q:H b with
 | none=>rfl
 | some x =>
  have hm:b∈V8 h H:=kX.mpr ⟨gK.mpr (aP e'),by simp[q]⟩;have z:(UW h H).get? b=none:=PySem.W.hideAll_none (V8 h H) hm;rw[z] at e;cases e
def JG (g h:Heap) (L:Addr):List (Addr × Obj):=(dX h.objs.size).filterMap λa=>if a=L\/(g.get? a).isSome=true then none else (h.get? a).map λo=>(a,o)
def DD (h1:a≠L) (h2:g.get? a=none) (h3:h.get? a=some o):(a,o)∈JG g h L :=
 kC.mpr ⟨a,gK.mpr (aP h3),by simp[h1,h2,h3]⟩
def SR (hp:p∈JG g h L):p.1≠L/\g.get? p.1=none/\h.get? p.1=some p.2:=by
 obtain⟨b,_,e⟩:=kC.mp hp;split at e
 ·cases e
 ·rename_i hn;cases q:h.get? b with
  | none=>rw[q] at e;simp at e
  | some u =>
   rw[q] at e;simp only[oJ,pA] at e;subst e;refine⟨λz=>hn (.inl z),?_,q⟩;show g.get? b=none;cases r:g.get? b with
   | none=>rfl
   | some v=>exact (hn (.inr (by simp[r]))).elim
def rest (g h:Heap) (L d:Addr):List (Addr × Obj):=(JG g h L).filter λp=>decide (p.1≠d)
def Ps:News g L h (JG g h L):=λp hp=>let ⟨a,b,c⟩:=SR hp;⟨c,a,b⟩
structure Mod (K:aH) (mg:Str->Option aB) (base:Heap):Prop where
 kin:K.In base
 glob:base.Ns mainGlobals mg
 blt:∃mb,base.Ns builtinsNs mb/\∀x:Str,x≠"__name__"->mb x=bootBuiltins x
 nolimit:base.NoLimit
structure Cx where
 prog:bU
 w:dJ
 K:aH
 mg:Str->Option aB
 base:Heap
 A:dD
 N:List Str
 s₀:aF
 H₀:Hp
 env:Env
 outer:List Env
 stack:List Env
 ex:List Addr
 fn:Str->Bool
 calm:Bool
 pn:List (Addr × Obj)
 xe:aB->aF->Prop
def p8 (l:List Env):List Addr:=l.filterMap (·.frame)
abbrev Cx.fs (X:Cx):List Addr:=p8 X.outer
def nI (sc:Scope) (x:Str):Prop:=sc.names.lookup x=some .local\/sc.names.lookup x=some .cell\/sc.names.lookup x=some .free
def Loc (sc:Scope) (x:Str):Prop:=sc.names.lookup x=some .local\/sc.names.lookup x=some .cell
def Look (env:Env) (h:Heap) (m:Str->Option aB) (x:Str) (u:aB):Prop :=
 (env.kindOf x=some .local/\m x=some u)\/((env.kindOf x=some .cell\/env.kindOf x=some .free)/\∃c,env.cells.lookup x=some c/\h.IsCell c (some u))
structure Cx.Ok (X:Cx):Prop where
 mod:Mod X.K X.mg X.base
 kind:X.env.scope.kind = .function
 glob:X.env.globals=mainGlobals
 blt:X.env.builtins=builtinsNs
 above:X.s₀.heap.objs.size<=X.env.locals
 inj:∀x y c,X.env.cells.lookup x=some c->X.env.cells.lookup y=some c->x=y
 has:∀x,(X.env.kindOf x=some .cell\/X.env.kindOf x=some .free)->∃c,X.env.cells.lookup x=some c
 cab:∀x c,X.fn x=true->X.env.cells.lookup x=some c->X.s₀.heap.objs.size<=c
 hd:X.calm=true->X.A.handled=none
 frames:X.A.frames=some X.stack
 stk:X.stack=X.outer\/(X.stack=X.env::X.outer/\X.env.frame=some X.env.locals)
 exf:∀b∈X.ex,b≠X.env.locals/\∀x c,X.env.cells.lookup x=some c->c≠b
 bs:∀b o,X.base.get? b=some o->X.s₀.heap.get? b=some o/\X.H₀ b=none
 bsz:X.base.objs.size<=X.s₀.heap.objs.size
 noex:∀b o,X.base.get? b=some o->b ∉ X.ex
 exfs:∀b∈X.ex,b ∉ X.fs
 funs:X.s₀.heap.FunFrames X.base X.outer
 frf:∀b∈X.fs,X.H₀ b=none
structure Inv (X:Cx) (pins:List (Addr × Obj)) (σ:List (Option V)) (H:Hp) (s:aF):Prop where
 ok:X.Ok
 os:s.os=X.s₀.os
 bare:AllBare s.gens
 base:Un X.fs X.ex X.H₀ H X.s₀.heap s.heap
 loc:∃m,s.heap.Ns X.env.locals m/\∀(i:Nat) (x:Str) (v:V),X.N[i]? = some x->σ[i]? = some (some v)->nI X.env.scope x->∃u,RelV v u/\Look X.env s.heap m x u
 cell:∀x c,X.env.cells.lookup x=some c->∃v,s.heap.IsCell c v
 free:H X.env.locals=none
 freeC:∀x c,X.env.cells.lookup x=some c->H c=none
 pin:∀p∈X.pn++pins,s.heap.get? p.1=some p.2/\H p.1=none/\p.1≠X.env.locals/\p.1 ∉ X.fs/\∀v,p.2.data≠.cell v
 hok:jp X.prog X.w H s.heap
 len:σ.length=X.N.length
section
variable {X:Cx} {pins:List (Addr × Obj)} {σ:List (Option V)} {H H':Hp} {s:aF} {h':Heap}
theorem Cx.Ok.nofr (ok:X.Ok) {b:Addr} {o:Obj} (e:X.base.get? b=some o):b ∉ X.fs:=λhb=>by
 have:=(ok.funs.mem hb).1;rw[e] at this;cases this
theorem Inv.bs (I:Inv X pins σ H s):∀b o,X.base.get? b=some o->s.heap.get? b=some o/\H b=none:=λb o e =>
 ⟨I.base.keep b o (I.ok.bs b o e).1 (I.ok.bs b o e).2 (I.ok.nofr e) (I.ok.noex b o e),I.base.free b o (I.ok.bs b o e).1 (I.ok.bs b o e).2 (I.ok.noex b o e)⟩
theorem Inv.bk (I:Inv X pins σ H s):∀b o,X.base.get? b=some o->s.heap.get? b=some o:=λb o e=>(I.bs b o e).1
theorem Inv.mod (I:Inv X pins σ H s):Mod X.K X.mg X.base:=I.ok.mod
theorem Inv.kIn (I:Inv X pins σ H s):X.K.In s.heap:=I.ok.mod.kin.keeps I.bk
theorem Inv.lt (I:Inv X pins σ H s):X.env.locals<s.heap.objs.size:=let ⟨_,hn,_⟩:=I.loc;hn.lt
theorem Inv.sz (I:Inv X pins σ H s):X.s₀.heap.objs.size<=s.heap.objs.size:=fK I.ok.above (lI I.lt)
theorem Inv.nofs (I:Inv X pins σ H s) {a:Addr} (h:s.heap.objs.size<=a):a ∉ X.fs:=λhb=>by
 obtain⟨_,o,ho,_⟩:=I.ok.funs.mem hb;exact absurd (bQ (aP ho) (fK I.sz h)) (hE _)
theorem Inv.cne (I:Inv X pins σ H s):∀x c,X.env.cells.lookup x=some c->c≠X.env.locals:=λx c e z=>by
 obtain⟨v,o,ho,hd⟩:=I.cell x c e;obtain⟨m,⟨o',es,ep,v8,tq,_⟩,_⟩:=I.loc;rw[z,v8] at ho;cases ho;rw[tq] at hd;cases hd
theorem Inv.funs (I:Inv X pins σ H s):s.heap.FunFrames X.base X.outer:=by
 have all:∀(l:List Env),(∀b∈p8 l,b∈X.fs)->X.s₀.heap.FunFrames X.base l->s.heap.FunFrames X.base l:=by
  intro l
  induction l with
  | nil=>intro _ _;trivial
  | cons env r ih =>
   intro hs hl;obtain⟨hk,⟨L,o,hf,hn,ho,hd⟩,hr⟩:=hl;have hL:L∈X.fs:=hs L (by unfold p8;rw[eS,hf];exact cF);obtain⟨sl,e⟩:=I.base.slot L o ho (I.ok.frf L hL) hL λz=>I.ok.exfs L z hL;exact⟨hk,⟨L,_,hf,hn,e,hd⟩,ih (λb hb=>hs b (by unfold p8;rw[eS,hf];exact aT _ hb)) hr⟩
 exact all X.outer (λ_ hb=>hb) I.ok.funs
theorem Inv.stack (I:Inv X pins σ H s):s.heap.FunFrames X.base X.stack:=by
 rcases I.ok.stk with e | ⟨e,hf⟩
 ·rw[e];exact I.funs
 ·rw[e];obtain⟨m,hn,_⟩:=I.loc;refine .cons (by rw[I.ok.kind];decide) hf hn ?_ I.funs;exact Heap.get?_none_of_le (fK I.ok.bsz I.ok.above)
theorem Inv.stkSub (I:Inv X pins σ H s):∀b∈p8 X.stack,b∈X.env.locals::X.fs:=λb hb=>by
 rcases I.ok.stk with e | ⟨e,hf⟩
 ·rw[e] at hb;exact aT _ hb
 ·rw[e] at hb;unfold p8 at hb;rw[eS,hf] at hb;exact hb
theorem Inv.stkFree (I:Inv X pins σ H s):∀b∈p8 X.stack,H b=none:=λb hb=>by
 rcases aN.mp (I.stkSub b hb) with e | hb
 ·rw[e];exact I.free
 ·obtain⟨_,o,ho,_⟩:=I.ok.funs.mem hb;exact I.base.free b o ho (I.ok.frf b hb) λz=>I.ok.exfs b z hb
theorem Inv.step {g':Array GenState} {t':Nat} {d':Drawn} {ch:List Addr} (I:Inv X pins σ H s)
  (r8:∀b∈ch,(b∈X.ex\/X.s₀.heap.objs.size<=b)/\b≠X.env.locals/\(∀x c,X.env.cells.lookup x=some c->c≠b)/\∀p∈X.pn++pins,p.1≠b)
  (keep:∀b o,b≠X.env.locals->b ∉ X.fs->b ∉ ch->s.heap.get? b=some o->H b=none->h'.get? b=some o)
  (slot:∀b o,b≠X.env.locals->b∈X.fs->b ∉ ch->s.heap.get? b=some o->H b=none->∃sl,h'.get? b=some { o with slots:=sl }) (free:∀b o,b ∉ ch->s.heap.get? b=some o->H b=none->H' b=none)
  (there:∀b o,b ∉ ch->s.heap.get? b=some o->∃o',h'.get? b=some o')
  (tups:∀b xs,H b=some (.tup xs)->H' b=some (.tup xs)) (frzs:∀b o u,H b=some (.frz o u)->H' b=some (.frz o u)) (tbls:∀b ps,H b=some (.tbl ps)->∃more,H' b=some (.tbl (ps++more)))
  (ns:∀m,s.heap.Ns X.env.locals m->h'.Ns X.env.locals m) (hok:jp X.prog X.w H' h') (hg:AllBare g') :
  Inv X pins σ H' { s with heap:=h',gens:=g',drawn:=d',toks:=t' }:=by
 have neL:∀b o,X.s₀.heap.get? b=some o->b≠X.env.locals:=λb o e=>bE (bQ (aP e) I.ok.above);have V3:∀b o,X.s₀.heap.get? b=some o->b ∉ X.ex->b ∉ ch:=λb o e hx hb=>by
  rcases (r8 b hb).1 with z | z
  ·exact hx z
  ·exact absurd (bQ (aP e) z) (hE _)
 have cellK:∀x c,X.env.cells.lookup x=some c->∀v,s.heap.IsCell c v->h'.IsCell c v:=λx c e v ⟨o,ho,hd⟩=>by
  have z6:c ∉ ch:=λz=>(r8 c z).2.2.1 x c e rfl;by_cases hc:c∈X.fs
  ·obtain⟨sl,q⟩:=slot c o (I.cne x c e) hc z6 ho (I.freeC x c e);exact⟨_,q,hd⟩
  ·exact⟨o,keep c o (I.cne x c e) hc z6 ho (I.freeC x c e),hd⟩
 refine⟨I.ok,I.os,hg,⟨λb o e n hb hx=>?_,λb o e n hb hx=>?_,λb o e n hx=>?_,λb o e hx=>?_,λb xs e=>tups b xs (I.base.tups b xs e),λb o xs e=>frzs b o xs (I.base.frzs b o xs e),λb ps e=>?_⟩,?_,λx c e=>?_,?_,λx c e=>?_,λp hp=>?_,hok,I.len⟩
 ·exact keep b o (neL b o e) hb (V3 b o e hx) (I.base.keep b o e n hb hx) (I.base.free b o e n hx)
 ·obtain⟨sl,e1⟩:=I.base.slot b o e n hb hx;obtain⟨sl',e2⟩:=slot b _ (neL b o e) hb (V3 b o e hx) e1 (I.base.free b o e n hx);exact⟨sl',e2⟩
 ·obtain⟨o',e1⟩:=I.base.there b o e hx;exact free b o' (V3 b o e hx) e1 (I.base.free b o e n hx)
 ·obtain⟨o',e1⟩:=I.base.there b o e hx;exact there b o' (V3 b o e hx) e1
 ·obtain⟨m1,e1⟩:=I.base.tbls b ps e;obtain⟨m2,e2⟩:=tbls b _ e1;exact⟨m1++m2,by rw[e2,vE]⟩
 ·obtain⟨m,hn,hl⟩:=I.loc;refine⟨m,ns m hn,λi x v e1 e2 e3=>?_⟩;obtain⟨u,r,l⟩:=hl i x v e1 e2 e3;refine⟨u,r,?_⟩;rcases l with l | ⟨k,c,e,z⟩
  ·exact .inl l
  ·exact .inr ⟨k,c,e,cellK x c e _ z⟩
 ·obtain⟨v,z⟩:=I.cell x c e;exact⟨v,cellK x c e v z⟩
 ·obtain⟨m,⟨o,_,_,ho,_⟩,_⟩:=I.loc;exact free _ o (λz=>(r8 _ z).2.1 rfl) ho I.free
 ·obtain⟨v,o,ho,hd⟩:=I.cell x c e;exact free c o (λz=>(r8 c z).2.2.1 x c e rfl) ho (I.freeC x c e)
 ·obtain⟨e,n,ne,nf,d⟩:=I.pin p hp;have z6:p.1 ∉ ch:=λz=>(r8 p.1 z).2.2.2 p hp rfl;exact⟨keep p.1 p.2 ne nf z6 e n,free p.1 p.2 z6 e n,ne,nf,d⟩
theorem Inv.un (I:Inv X pins σ H s) (u:Un X.fs [] H H' s.heap h') (hok:jp X.prog X.w H' h'):Inv X pins σ H' { s with heap:=h',toks:=t' }:=by
 obtain⟨m,⟨o,es,ep,ho,r⟩,_⟩:=id I.loc;obtain⟨sl,hL⟩:=u.any ho I.free (by simp);exact I.step (g':=s.gens) (d':=s.drawn) (ch:=[]) (λ_ z=>nomatch z) (λb o _ hb _ e n=>u.keep b o e n hb (by simp)) (λb o _ hb _ e n=>u.slot b o e n hb (by simp)) (λb o _ e n=>u.free b o e n (by simp)) (λb o _ e=>u.there b o e (by simp)) u.tups u.frzs u.tbls (λm' hm=>by
  obtain⟨o',qp,ym,v8,r'⟩:=hm;rw[ho] at v8;cases v8;exact⟨_,qp,ym,hL,r'⟩) hok I.bare
theorem Inv.call (I:Inv X pins σ H s) (u:Un (p8 X.stack) ch H H' s.heap h') (hok:jp X.prog X.w H' h') (hg:AllBare g')
  (r8:∀b∈ch,(b∈X.ex\/X.s₀.heap.objs.size<=b)/\b≠X.env.locals/\(∀x c,X.env.cells.lookup x=some c->c≠b)/\∀p∈X.pn++pins,p.1≠b) :
  Inv X pins σ H' { s with heap:=h',gens:=g',drawn:=d',toks:=t' }:=by
 obtain⟨m,⟨o,es,ep,ho,r⟩,_⟩:=id I.loc;obtain⟨sl,hL⟩:=u.any ho I.free λz=>(r8 _ z).2.1 rfl;exact I.step (ch:=ch) r8 (λb o hL hb hc e n=>u.keep b o e n (λz=>(aN.mp (I.stkSub b z)).elim hL hb) hc) (λb o _ _ hc e n=>u.any e n hc) (λb o hc e n=>u.free b o e n hc) (λb o hc e=>u.there b o e hc) u.tups u.frzs u.tbls (λm' hm=>by
  obtain⟨o',qp,ym,v8,r'⟩:=hm;rw[ho] at v8;cases v8;exact⟨_,qp,ym,hL,r'⟩) hok hg
theorem Inv.turned (I:Inv X pins σ H s) (k:∀b o,b≠it->s.heap.get? b=some o->h'.get? b=some o) (hn:H it=none) (hL:it≠X.env.locals)
  (h1:it∈X.ex\/X.s₀.heap.objs.size<=it) (h2:∀x c,X.env.cells.lookup x=some c->c≠it) (h3:∀p∈X.pn++pins,p.1≠it):Inv X pins σ H { s with heap:=h',toks:=t' }:=by
 have nit:∀b u,H b=some u->b≠it:=λb u e z=>by rw[z,hn] at e;cases e
 refine I.step (g':=s.gens) (d':=s.drawn) (ch:=[it]) (λb hb=>?_) (λb o _ _ hc e _=>k b o (λz=>hc (by simp[z])) e) (λb o _ _ hc e _=>⟨o.slots,k b o (λz=>hc (by simp[z])) e⟩) (λ_ _ _ _ n=>n)
  (λb o hc e=>⟨o,k b o (λz=>hc (by simp[z])) e⟩) (λ_ _ e=>e) (λ_ _ _ e=>e) (λb ps e=>⟨#[],by rw[e];simp⟩) (λm hm=>?_) (λb u e=>?_) I.bare
 ·have e:b=it:=by simpa using hb
  subst e;exact⟨h1,hL,h2,h3⟩
 ·obtain⟨o,es,ep,ho,r⟩:=hm;exact⟨o,es,ep,k _ o (Ne.symm hL) ho,r⟩
 ·refine (I.hok b u e).stay (λc v hc q=>k c v ?_ q) (λ_ q=>q) λ_ _ q=>q;rcases hc with z | z
  ·rw[z];exact nit b u e
  ·exact nit c _ z
theorem Inv.tok (I:Inv X pins σ H s) (t:Nat):Inv X pins σ H { s with toks:=t }:=I.un (h':=s.heap) (t':=t) Un.refl I.hok
theorem Inv.kept (I:Inv X pins σ H s) (k:∀b u,s.heap.get? b=some u->h'.get? b=some u):Inv X pins σ H { s with heap:=h',toks:=t' }:=I.un (Un.kept k) (I.hok.kept k)
theorem Inv.laid {a:Addr} (I:Inv X pins σ H s) (k:∀b u,s.heap.get? b=some u->h'.get? b=some u) (hp:s.heap.objs.size<=a) (new:ci X.prog X.w (bj H a o) h' a o) :
  Inv X pins σ (bj H a o) { s with heap:=h',toks:=t' }:=I.un (Un.laid k hp (I.hok.fresh hp)) (I.hok.laid k hp new)
theorem Inv.write (I:Inv X pins σ H s) (mu:I_ (H x)) (he:e=x\/H e=some (.own x)) (k:∀b u,b≠e->s.heap.get? b=some u->h'.get? b=some u) (xk:∃u,h'.get? e=some u)
  (new:ci X.prog X.w (bj H x o) h' x o):Inv X pins σ (bj H x o) { s with heap:=h',toks:=t' }:=I.un (Un.write mu he k xk) (I.hok.write mu he k xk new)
theorem Inv.pins_of (I:Inv X pins σ H s) (h:∀p∈z_,s.heap.get? p.1=some p.2/\H p.1=none/\p.1≠X.env.locals/\p.1 ∉ X.fs/\∀v,p.2.data≠.cell v):Inv X z_ σ H s :=
 ⟨I.ok,I.os,I.bare,I.base,I.loc,I.cell,I.free,I.freeC,λp hp=>(cJ.mp hp).elim (λz=>I.pin p (cU _ z)) (h p),I.hok,I.len⟩
theorem Cq {N:List Str} (hN:N.Nodup) {i j:Nat} {x:Str} (a:N[i]? = some x) (b:N[j]? = some x):i=j:=by
 obtain⟨h1,e1⟩:=bG.mp a;obtain⟨h2,e2⟩:=bG.mp b;exact (List.getElem_inj hN).mp (e1.trans e2.symm)
theorem XQ (I:Inv X pins σ H s) (hN:X.N.Nodup) (hi:X.N[i]? = some x) (hx:Loc X.env.scope x) (r:RelV v u)
  (h:∀s',Inv X pins (σ.set i (some v)) H s'->(∃a,nW a s.heap s'.heap/\(a=X.env.locals\/X.env.cells.lookup x=some a))->Q () s') (hf:X.fn x=true\/X.env.scope.names.lookup x=some .local:=by walk_at "loc"):wpAny M A (storeName X.env x u) Q E s:=by
 obtain⟨m,hn,hl⟩:=id I.loc;have Z4:(X.env.scope.kind == .class || (X.env.scope.kind == .module && X.env.locals != X.env.globals))=false:=by rw[I.ok.kind];rfl
 have hiσ:i<σ.length:=by rw[I.len];exact (bG.mp hi).1
 have cne:=I.cne;have tracked:∀{a:Addr} {h':Heap},(∃o,s.heap.get? a=some o/\H a=none)->nW a s.heap h'->jp X.prog X.w H h':=λ{a h'} ha hs b ob e=>by
  obtain⟨_,_,o0⟩:=ha;refine (I.hok b ob e).stay (λc w' hc q=>(hs.2 c ?_).trans q) (λ_ q=>q) λ_ _ q=>q;rintro rfl;rcases hc with rfl | hc
  ·rw[o0] at e;cases e
  ·rw[o0] at hc;cases hc
 rcases hx with hk | hk
 ·refine wpAny_storeName_local hk hn (λh' ky hs=>?_) Z4;obtain⟨oL,_,_,hoL,_⟩:=id hn;refine h _ ⟨I.ok,I.os,I.bare,⟨λb o e n hb hx=>?_,λb o e n hb hx=>?_,I.base.free,λb o e hx=>?_,I.base.tups,I.base.frzs,I.base.tbls⟩,⟨_,ky,λj y v' e1 e2 e3=>?_⟩,λy c e=>?_,I.free,I.freeC,λp hp=>?_,tracked ⟨oL,hoL,I.free⟩ hs,by simpa using I.len⟩ ⟨_,hs,.inl rfl⟩
  ·exact (hs.2 b (bE (bQ (aP e) I.ok.above))).trans (I.base.keep b o e n hb hx)
  ·obtain⟨sl,e1⟩:=I.base.slot b o e n hb hx;exact⟨sl,(hs.2 b (bE (bQ (aP e) I.ok.above))).trans e1⟩
  ·obtain⟨o',e1⟩:=I.base.there b o e hx;exact⟨o',(hs.2 b (bE (bQ (aP e) I.ok.above))).trans e1⟩
  ·by_cases hj:j=i
   ·subst hj;rw[hi] at e1;cases e1;rw[gY hiσ] at e2;cases e2;exact⟨u,r,.inl ⟨hk,by simp⟩⟩
   ·rw[iJ (Ne.symm hj)] at e2;obtain⟨u',r',q⟩:=hl j y v' e1 e2 e3;refine⟨u',r',?_⟩;rcases q with ⟨k,e⟩ | ⟨k,c,e,z⟩
    ·refine .inl ⟨k,?_⟩;have:y≠x:=λe=>hj (Cq hN e1 (e ▸ hi));simp[this,e]
    ·exact .inr ⟨k,c,e,z.sameBut hs (cne y c e)⟩
  ·obtain⟨w',z⟩:=I.cell y c e;exact⟨w',z.sameBut hs (cne y c e)⟩
  ·obtain⟨e,n,ne,nf,d⟩:=I.pin p hp;exact⟨(hs.2 p.1 ne).trans e,n,ne,nf,d⟩
 ·have Z9:X.fn x=true:=by
   rcases hf with z | z
   ·exact z
   ·rw[z] at hk;cases hk
  obtain⟨c,hc⟩:=I.ok.has x (.inl hk);obtain⟨w',z⟩:=I.cell x c hc;refine wpAny_storeName_cell I.ok.kind hk hc z (λh' m7 hs=>?_);obtain⟨oc,r_,hocd⟩:=id z;refine h { s with heap:=h' } ⟨I.ok,I.os,I.bare,⟨λb o e n hb hx=>?_,λb o e n hb hx=>?_,I.base.free,λb o e hx=>?_,I.base.tups,I.base.frzs,I.base.tbls⟩,⟨m,hn.sameBut hs (Ne.symm (cne x c hc)),λj y v' e1 e2 e3=>?_⟩,λy c' e=>?_,I.free,I.freeC,λp hp=>?_,tracked ⟨oc,r_,I.freeC x c hc⟩ hs,by simpa using I.len⟩ ⟨c,hs,.inr hc⟩
  ·exact (hs.2 b (bE (bQ (aP e) (I.ok.cab x c Z9 hc)))).trans (I.base.keep b o e n hb hx)
  ·obtain⟨sl,e1⟩:=I.base.slot b o e n hb hx;exact⟨sl,(hs.2 b (bE (bQ (aP e) (I.ok.cab x c Z9 hc)))).trans e1⟩
  ·obtain⟨o',e1⟩:=I.base.there b o e hx;exact⟨o',(hs.2 b (bE (bQ (aP e) (I.ok.cab x c Z9 hc)))).trans e1⟩
  ·by_cases hj:j=i
   ·subst hj;rw[hi] at e1;cases e1;rw[gY hiσ] at e2;cases e2;exact⟨u,r,.inr ⟨.inl hk,c,hc,m7⟩⟩
   ·rw[iJ (Ne.symm hj)] at e2;obtain⟨u',r',q⟩:=hl j y v' e1 e2 e3;refine⟨u',r',?_⟩;rcases q with q | ⟨k,c',e,z'⟩
    ·exact .inl q
    ·refine .inr ⟨k,c',e,z'.sameBut hs ?_⟩;rintro rfl;exact hj (Cq hN e1 (I.ok.inj _ _ _ e hc ▸ hi))
  ·by_cases y6:c'=c
   ·subst y6;exact⟨_,m7⟩
   ·obtain⟨w2,z2⟩:=I.cell y c' e;exact⟨w2,z2.sameBut hs y6⟩
  ·obtain⟨e,n,ne,nf,d⟩:=I.pin p hp;refine⟨(hs.2 p.1 ?_).trans e,n,ne,nf,d⟩;intro q;rw[q,r_] at e;have q':oc=p.2:=dU e;exact d w' (by rw[<-q'];exact hocd)
theorem LI (I:Inv X pins σ H s) (hN:X.N.Nodup) (hi:X.N[i]? = some x) (hx:Loc X.env.scope x) (r:RelV v u)
  (h:∀s',Inv X pins (σ.set i (some v)) H s'->Q () s') (hf:X.fn x=true\/X.env.scope.names.lookup x=some .local:=by walk_at "loc"):wpAny M A (storeName X.env x u) Q E s :=
 XQ I hN hi hx r (λs' I' _=>h s' I') hf
theorem Inv.call' (I:Inv X pins σ H s) (ho:s'.os=s.os) (u:Un (p8 X.stack) ch H H' s.heap s'.heap) (hok:jp X.prog X.w H' s'.heap) (hg:AllBare s'.gens)
  (r8:∀b∈ch,(b∈X.ex\/X.s₀.heap.objs.size<=b)/\b≠X.env.locals/\(∀x c,X.env.cells.lookup x=some c->c≠b)/\∀p∈X.pn++pins,p.1≠b):Inv X pins σ H' s':=by
 obtain⟨h',g',d',t',o'⟩:=s';have e:o'=s.os:=ho;subst e;exact I.call (g':=g') (t':=t') (d':=d') u hok hg r8
end
abbrev XK:=aB->Option Addr->Hp->Prop
abbrev St:=List (Option V)
abbrev VK:=V->Hp->Prop
abbrev TE:=St->Hp->VK->Prop
abbrev TT:=St->Hp->(Bool->Hp->Prop)->Prop
abbrev TA:=St->Hp->(List V->Hp->Prop)->Prop
structure o8 where
 nx:St->Hp->Prop
 rt:VK
 bk:St->Hp->Prop:=λ_ _=>False
 ct:St->Hp->Prop:=λ_ _=>False
abbrev TS:=o8->St->Hp->Prop
def EP (X:Cx) (pins:List (Addr × Obj)) (Z:St) (Q:VK) (u:aB) (s':aF):Prop:=∃v H',Inv X pins Z H' s'/\RelV v u/\Q v H'
def TP (X:Cx) (pins:List (Addr × Obj)) (Z:St) (Q:Bool->Hp->Prop) (b:Bool) (s':aF):Prop:=∃H',Inv X pins Z H' s'/\Q b H'
def AP (X:Cx) (pins:List (Addr × Obj)) (Z:St) (Q:List V->Hp->Prop) (us:List aB) (s':aF):Prop:=∃vs H',Inv X pins Z H' s'/\ao vs us/\Q vs H'
def SP (X:Cx) (pins:List (Addr × Obj)) (D:o8) (f:Flow) (s':aF):Prop :=
 match f with
 | .next=>∃Z' H',Inv X pins Z' H' s'/\D.nx Z' H'
 | .brk=>∃Z' H',Inv X pins Z' H' s'/\D.bk Z' H'
 | .cont=>∃Z' H',Inv X pins Z' H' s'/\D.ct Z' H'
 | .ret u=>∃v Z' H',Inv X pins Z' H' s'/\RelV v u/\D.rt v H'
def PE (X:Cx) (e:Expr) (t:TE):Prop :=
 ∀(pins:List (Addr × Obj)) (s:aF) (Z:St) (H:Hp) (Q:VK),Inv X pins Z H s->t Z H Q->wpAny (model X.prog X.w) X.A (eval e X.env) (EP X pins Z Q) X.xe s
def PT (X:Cx) (e:Expr) (t:TT):Prop :=
 ∀(pins:List (Addr × Obj)) (s:aF) (Z:St) (H:Hp) (Q:Bool->Hp->Prop),Inv X pins Z H s->t Z H Q->wpAny (model X.prog X.w) X.A (isTrue e X.env (eval e X.env)) (TP X pins Z Q) X.xe s
def PW (X:Cx) (e:Expr) (t:TT):Prop :=
 ∀(whole:Sem aB) (pins:List (Addr × Obj)) (s:aF) (Z:St) (H:Hp) (Q:Bool->Hp->Prop),Inv X pins Z H s->t Z H Q->wpAny (model X.prog X.w) X.A (isTrue e X.env whole) (TP X pins Z Q) X.xe s
def PW.pt (h:PW X e t):PT X e t:=h _
def PA (X:Cx) (es:List Expr) (t:TA):Prop :=
 ∀(pos:Pos) (pins:List (Addr × Obj)) (s:aF) (Z:St) (H:Hp) (Q:List V->Hp->Prop),Inv X pins Z H s->t Z H Q->wpAny (model X.prog X.w) X.A (spliced (backTo pos (starEach es X.env))) (AP X pins Z Q) X.xe s
def PS (X:Cx) (st:Stmt) (t:TS):Prop :=
 ∀(pins:List (Addr × Obj)) (s:aF) (Z:St) (H:Hp) (D:o8),Inv X pins Z H s->t D Z H->wpAny (model X.prog X.w) X.A (exec st X.env) (SP X pins D) X.xe s
def ly (X:Cx) (st:List Stmt) (t:TS):Prop :=
 ∀(pins:List (Addr × Obj)) (s:aF) (Z:St) (H:Hp) (D:o8),Inv X pins Z H s->t D Z H->wpAny (model X.prog X.w) X.A (execs st X.env) (SP X pins D) X.xe s
def c5 {α:Type} {t:Sem α} {Q Q':α->aF->Prop} {s:aF} (h:wpAny M A t Q E s) (hQ:∀a s,Q a s->Q' a s):wpAny M A t Q' E s:=jC h hQ λ_ _ x=>x
section
variable {X:Cx}
def J6 (i:Nat):TE:=λZ H Q=>∃v,Z[i]? = some (some v)/\Q v H
def tC (v:V):TE:=λ_ H Q=>Q v H
theorem Yu {i:Nat} {x:Str} {pos:Pos} (hN:X.N[i]? = some x) (hv:nI X.env.scope x) (hd:(x == ("__debug__":Str))=false:=by decide) (fj:(x == ("__classdict__":Str))=false:=by decide):PE X (.Name x pos) (J6 i):=by
 intro pins s Z H Q I h;obtain⟨v,e,h⟩:=h;obtain⟨m,hn,hl⟩:=I.loc;obtain⟨u,r,l⟩:=hl i x v hN e hv;have fin:EP X pins Z Q u s:=⟨v,H,I,r,h⟩;rcases l with ⟨hk,hm⟩ | ⟨hk,c,hc,gu⟩
 ·exact IC (EF I.ok.kind hk hn hm fin) hd
 ·rcases hk with hk | hk
  ·exact IC (wpAny_loadName_cell I.ok.kind hk hc gu fin) hd
  ·exact IC (wpAny_loadName_free I.ok.kind hk hc gu fin fj) hd
theorem Yp {i j pos}:PE X (.Constant (.int i) j pos) (tC (.int i)):=λ_ _ _ H _ I h=>wE ⟨.int i,H,I.tok _,⟨_,rfl⟩,h⟩
theorem D8 {b j pos}:PE X (.Constant (.bool b) j pos) (tC (.bl b)):=λ_ _ _ H _ I h=>Constant_bool ⟨.bl b,H,I,rfl,h⟩
theorem Yq {j pos}:PE X (.Constant .none j pos) (tC .non):=λ_ _ _ H _ I h=>Constant_none ⟨.non,H,I,rfl,h⟩
def Gl (X:Cx) (x:Str):Prop:=X.env.kindOf x=some .globalImplicit
theorem Tc {s:aF} {Z:St} (I:Inv X pins Z H s) (hg:Gl X x) (hm:X.mg x=some u) (h:Q u s)
  (hd:(x == ("__debug__":Str))=false:=by decide):wpAny (model X.prog X.w) X.A (eval (.Name x pos) X.env) Q E s :=
 vI I.ok.kind hg (Calls.loadGlobal_global (by rw[I.ok.glob];exact I.mod.glob.keeps I.bk) hm h) hd
theorem tY {E:aB->aF->Prop} {pins:List (Addr × Obj)} {s:aF} {Z:St} {H:Hp} {x:Str} {u:aB} {pos:Pos} {Q:aB->aF->Prop} (I:Inv X pins Z H s) (hg:Gl X x) (hm:X.mg x=none) (hv:bootBuiltins x=some u) (h:Q u s)
  (hn:x≠"__name__":=by decide) (hd:(x == ("__debug__":Str))=false:=by decide):wpAny (model X.prog X.w) X.A (eval (.Name x pos) X.env) Q E s:=by
 obtain⟨mb,h1,h2⟩:=I.mod.blt;exact vI I.ok.kind hg (Calls.loadGlobal_builtin (by rw[I.ok.glob];exact I.mod.glob.keeps I.bk) hm (by rw[I.ok.blt];exact h1.keeps I.bk) ((h2 x hn).trans hv) h) hd
theorem Tv {x:Str} {v:V} {u:aB} {pos:Pos} (hg:Gl X x) (hm:X.mg x=none) (hv:bootBuiltins x=some u) (r:RelV v u) (hn:x≠"__name__":=by decide) (hd:(x == ("__debug__":Str))=false:=by decide):PE X (.Name x pos) (tC v) :=
 λ_ _ _ H _ I h=>tY I hg hm hv ⟨v,H,I,r,h⟩ hn hd
variable {ta tb:TE}
def tB (t:TE):TT:=λZ H Q=>t Z H λx H1=>∃c,x = .bl c/\Q c H1
theorem Zc (h:PE X e t) (he:∀whole,isTrue e X.env whole=(do let v <-whole;standAt e.pos;holding [v] (truthy v)):=by intro _;rfl):PT X e (tB t):=by
 intro pins s Z H Q I hw;refine isTrue_plain (c5 (h pins s Z H _ I hw) λv s1 ⟨x,H1,I1,r1,q1⟩=>?_) (he _);obtain⟨d,rfl,q⟩:=q1;cases r1;exact mS ⟨H1,I1,q⟩
variable {rest:List Expr}
def P7 (t u:TT):TT:=λZ H Q=>t Z H λc H1=>if c=true then u Z H1 Q else Q false H1
def tOr (t u:TT):TT:=λZ H Q=>t Z H λc H1=>if c=true then Q true H1 else u Z H1 Q
def Q4 (t:TT):TT:=λZ H Q=>t Z H λc H1=>Q (!c) H1
theorem Um (ha:PT X a tA):PW X (.BoolOp .And [a] pos) tA:=by
 intro wh pins s Z H Q I h;refine isTrue_and (c5 (ha pins s Z H Q I h) λc s1 e=>?_);cases c with
 | true=>exact isTrue_and_nil e
 | false=>exact e
theorem Zg (ha:PT X a tA):PW X (.BoolOp .Or [a] pos) tA:=by
 intro wh pins s Z H Q I h;refine isTrue_or (c5 (ha pins s Z H Q I h) λc s1 e=>?_);cases c with
 | false=>exact isTrue_or_nil e
 | true=>exact e
theorem Zf (ha:PT X a tA) (hb:PW X (.BoolOp .And (b::rest) pos) tB'):PW X (.BoolOp .And (a::b::rest) pos) (P7 tA tB'):=by
 intro wh pins s Z H Q I h;refine isTrue_and (c5 (ha pins s Z H _ I h) λc s1 ⟨H1,I1,q1⟩=>?_);cases c with
 | true=>exact hb wh pins s1 Z H1 Q I1 q1
 | false=>exact⟨H1,I1,q1⟩
theorem E7 (ha:PT X a tA) (hb:PW X (.BoolOp .Or (b::rest) pos) tB'):PW X (.BoolOp .Or (a::b::rest) pos) (tOr tA tB'):=by
 intro wh pins s Z H Q I h;refine isTrue_or (c5 (ha pins s Z H _ I h) λc s1 ⟨H1,I1,q1⟩=>?_);cases c with
 | true=>exact⟨H1,I1,q1⟩
 | false=>exact hb wh pins s1 Z H1 Q I1 q1
theorem Zb (ha:PT X a tA):PT X (.UnaryOp .Not a pos) (Q4 tA):=by
 intro pins s Z H Q I h;exact isTrue_not (ha pins s Z H (λc H1=>Q (!c) H1) I h)
def G5 (ta tb:TE):TE:=λZ H Q=>ta Z H λx H1=>∃c,x = .bl c/\if c=true then tb Z H1 Q else Q (.bl false) H1
def H9 (ta:TE):TE:=λZ H Q=>ta Z H λx H1=>∃c,x = .bl c/\Q (.bl (!c)) H1
theorem Ys {op} (h:PE X a t):PE X (.BoolOp op [a] pos) t:=λpins s Z H Q I hw=>BoolOp_one (h pins s Z H Q I hw)
theorem Yn (ha:PE X a ta) (hb:PE X (.BoolOp .And (b::rest) pos) tb):PE X (.BoolOp .And (a::b::rest) pos) (G5 ta tb):=by
 intro pins s Z H Q I h;refine BoolOp_and (c5 (ha pins s Z H _ I h) λv s1 ⟨x,H1,I1,r1,q1⟩=>?_);obtain⟨c,rfl,q1⟩:=q1;cases r1;refine mS ?_;cases c with
 | true=>exact hb pins s1 Z H1 Q I1 q1
 | false=>exact⟨.bl false,H1,I1,rfl,q1⟩
theorem Yr (ha:PE X a ta):PE X (.UnaryOp .Not a pos) (H9 ta):=by
 intro pins s Z H Q I h;refine UnaryOp_ (c5 (ha pins s Z H _ I h) λv s1 ⟨x,H1,I1,r1,q1⟩=>?_);obtain⟨c,rfl,q1⟩:=q1;cases r1;exact not_of (mS ⟨.bl (!c),H1,I1,rfl,q1⟩)
end
def ij (K:aH) (H:Hp) (a:Addr) (xs:List V):Prop :=
 Rd H a (.lst xs) \/
  ∃(o:Obj) (its:Array aB) (n:Nat),K.lookup a=some o/\o.cls = .type "list"/\o.dict=none/\o.data = .seq its n/\its.size<=sizeLine/\ao xs its.toList
def fh (K:aH) (H:Hp) (a:Addr) (xs:List V):Prop :=
 Rd H a (.tup xs) \/
  ∃(o:Obj) (its:Array aB) (n:Nat),K.lookup a=some o/\o.cls = .type "tuple"/\o.data = .seq its n/\its.size<=sizeLine/\ao xs its.toList
def K7:aB->Option V
 | .none=>some .non
 | .bool b=>some (.bl b)
 | .int i _=>some (.int i)
 | .str x _=>some (.str x)
 | .bytes b _=>some (.byt b)
 | .float b _=>some (.flt b)
 | .ref a=>some (.ref a)
 | .type n=>some (.ty n)
 | _=>none
theorem RelV.abs (r:RelV x u):K7 u=some x:=by
 cases x with
 | non=>cases r;rfl
 | bl _=>cases r;rfl
 | int _=>obtain⟨t,rfl⟩:=r;rfl
 | str _=>obtain⟨t,rfl⟩:=r;rfl
 | byt _=>obtain⟨t,rfl⟩:=r;rfl
 | flt _=>obtain⟨t,rfl⟩:=r;rfl
 | ref _=>cases r;rfl
 | ty _=>cases r;rfl
def RelV.inj (r:RelV x u) (q:RelV y u):x=y:=dU (r.abs.symm.trans q.abs)
theorem ao.inj:∀{xs ys:List V} {us:List aB},ao xs us->ao ys us->xs=ys
 | _,_,_,.nil,.nil=>rfl
 | _,_,_,.cons r t,.cons r' t'=>by rw[r.inj r',ao.inj t t']
section
variable {σ:St} {H:Hp} {s:aF} {a:Addr} {xs ys:List V}
theorem ij.of {K:aH} (h:H a=some (.lst xs)):ij K H a xs:=.inl (.inl h)
theorem fh.of {K:aH} (h:H a=some (.tup xs)):fh K H a xs:=.inl (.inl h)
theorem Inv.list (I:Inv X pins σ H s) (h:ij X.K H a xs):∃its:List aB,ao xs its/\PlainL s.heap a its.toArray/\xs.length<=sizeLine:=by
 rcases h with h | ⟨o,its,n,hk,hc,hd,hs,hz,r⟩
 ·obtain⟨z,its,n,r,e⟩:=h.ok I.hok;exact⟨its,r,⟨_,n,e,rfl,rfl,rfl⟩,z⟩
 ·refine⟨its.toList,r,⟨o,n,I.kIn a o hk,hc,hd,by simpa using hs⟩,?_⟩;have e:=r.length;simp only[cN] at e;lia
theorem Inv.tuple (I:Inv X pins σ H s) (h:fh X.K H a xs):∃its:List aB,ao xs its/\IsTup s.heap a its.toArray/\xs.length<=sizeLine:=by
 rcases h with h | ⟨o,its,n,hk,hc,hs,hz,r⟩
 ·obtain⟨z,its,r,p⟩:=h.ok I.hok;exact⟨its,r,p,z⟩
 ·refine⟨its.toList,r,⟨o,I.kIn a o hk,hc,n,by simpa using hs⟩,?_⟩;have e:=r.length;simp only[cN] at e;lia
theorem Inv.list_inj (I:Inv X pins σ H s) (h:ij X.K H a xs) (h':ij X.K H a ys):xs=ys:=by
 obtain⟨its,r,⟨o,n,e,_,_,d⟩,_⟩:=I.list h;obtain⟨its',r',⟨o',n',e',_,_,d'⟩,_⟩:=I.list h';rw[e] at e';cases e';rw[d] at d';injection d' with d1 _;have:its=its':=by simpa using congrArg IF d1
 subst this;exact r.inj r'
theorem Inv.tuple_inj (I:Inv X pins σ H s) (h:fh X.K H a xs) (h':fh X.K H a ys):xs=ys:=by
 obtain⟨its,r,⟨o,e,_,n,d⟩,_⟩:=I.tuple h;obtain⟨its',r',⟨o',e',_,n',d'⟩,_⟩:=I.tuple h';rw[e] at e';cases e';rw[d] at d';injection d' with d1 _;have:its=its':=by simpa using congrArg IF d1
 subst this;exact r.inj r'
end
abbrev Cx.wish (X:Cx) (E:aB->aF->Prop):Cx:={ X with xe:=E }
abbrev Cx.nox (X:Cx):Cx:=X.wish λ_ _=>False
def Cx.Ok.wish {X:Cx} (ok:X.Ok) (E:aB->aF->Prop):(X.wish E).Ok :=
 ⟨ok.mod,ok.kind,ok.glob,ok.blt,ok.above,ok.inj,ok.has,ok.cab,ok.hd,ok.frames,ok.stk,ok.exf,ok.bs,ok.bsz,ok.noex,ok.exfs,ok.funs,ok.frf⟩
def Cx.Ok.unwish {X:Cx} {E:aB->aF->Prop} (ok:(X.wish E).Ok):X.Ok :=
 ⟨ok.mod,ok.kind,ok.glob,ok.blt,ok.above,ok.inj,ok.has,ok.cab,ok.hd,ok.frames,ok.stk,ok.exf,ok.bs,ok.bsz,ok.noex,ok.exfs,ok.funs,ok.frf⟩
section
variable {X:Cx} {σ:St} {s:aF}
theorem Inv.wish (I:Inv X pins σ H s) (E:aB->aF->Prop):Inv (X.wish E) pins σ H s:=⟨I.ok.wish E,I.os,I.bare,I.base,I.loc,I.cell,I.free,I.freeC,I.pin,I.hok,I.len⟩
theorem Inv.unwish (I:Inv (X.wish E) pins σ H s):Inv X pins σ H s:=⟨I.ok.unwish,I.os,I.bare,I.base,I.loc,I.cell,I.free,I.freeC,I.pin,I.hok,I.len⟩
theorem SP.unwish {D:o8} (h:SP (X.wish E) pins D f s'):SP X pins D f s':=by
 cases f with
 | next=>obtain⟨Z',H',I,q⟩:=h;exact⟨Z',H',I.unwish,q⟩
 | brk=>obtain⟨Z',H',I,q⟩:=h;exact⟨Z',H',I.unwish,q⟩
 | cont=>obtain⟨Z',H',I,q⟩:=h;exact⟨Z',H',I.unwish,q⟩
 | ret u=>obtain⟨v,Z',H',I,r,q⟩:=h;exact⟨v,Z',H',I.unwish,r,q⟩
theorem ly.nox {st:List Stmt} {t:TS} (h:ly X.nox st t):ly X st t:=λpins s σ H D I hw =>
 jC (h pins s σ H D (I.wish _) hw) (λ_ _ q=>q.unwish) λ_ _ z=>mV z
end
section
variable {X:Cx} {st:Stmt} {rest:List Stmt} {t u:TS} {te:TE}
def H8:TS:=λD Z H=>D.nx Z H
def Q7 (t u:TS):TS:=λD Z H=>t { D with nx:=u D } Z H
theorem Uf:ly X [] H8:=λ_ _ Z H _ I h=>tZ ⟨Z,H,I,h⟩
theorem Qp (h1:PS X st t) (h2:ly X rest u):ly X (st::rest) (Q7 t u):=by
 intro pins s Z H D I h;refine NL (c5 (h1 pins s Z H { D with nx:=u D } I h) λf s1 q=>?_);cases f with
 | next =>
  obtain⟨Z',H',I',q⟩:=q;exact h2 pins s1 Z' H' D I' q
 | ret v=>exact q
 | brk=>exact q
 | cont=>exact q
theorem Ug (h1:PS X st t):ly X [st] t:=by
 intro pins s Z H D I h;refine NL (c5 (h1 pins s Z H D I h) λf s1 q=>?_);cases f with
 | next=>exact tZ q
 | ret v=>exact q
 | brk=>exact q
 | cont=>exact q
theorem Inv.quiet {Z:St} {s:aF} (I:Inv X pins Z H s):interactive X.env=false:=by simp[interactive,I.ok.kind]
def G9 (te:TE):TS:=λD Z H=>te Z H λ_ H1=>D.nx Z H1
theorem PV (he:PE X e te) (hs:swapsWith e none pos.line X.env=pure false:=by rfl):PS X (.Expr e pos) (G9 te):=by
 intro pins s Z H D I h;exact wpAny_Expr_any (c5 (he pins s Z H _ I h) λv s1 ⟨x,H1,I1,r1,q1⟩=>⟨Z,H1,I1,q1⟩) I.quiet hs
def Q6 (te:TE):TS:=λD Z H=>te Z H D.rt
theorem Za (he:PE X e te):PS X (.Return (some e) pos) (Q6 te):=by
 intro pins s Z H D I h;exact wpAny_Return_some (c5 (he pins s Z H _ I h) λv s1 ⟨x,H1,I1,r1,q1⟩=>⟨x,Z,H1,I1,r1,q1⟩)
def Q0 (c:TT) (t u:TS):TS:=λD Z H=>c Z H λb H1=>if b=true then t D Z H1 else u D Z H1
theorem E3 (hc:PT X c tc) (ha:ly X a t) (hb:ly X b u):PS X (.If c a b pos) (Q0 tc t u):=by
 intro pins s Z H D I h;refine wpAny_If (c5 (hc pins s Z H _ I h) λd s1 ⟨H1,I1,q1⟩=>?_);cases d with
 | true=>exact ha pins s1 Z H1 D I1 q1
 | false=>exact hb pins s1 Z H1 D I1 q1
def Zr:TS:=λ_ _ _=>False
theorem Qn:PS X st Zr:=λ_ _ _ _ _ _ h=>h.elim
end
abbrev TG:=V->St->Hp->(St->Hp->Prop)->Prop
abbrev ud:=List V->St->Hp->(St->Hp->Prop)->Prop
def PG (X:Cx) (target:Expr) (t:TG):Prop :=
 ∀(pins:List (Addr × Obj)) (s:aF) (Z:St) (H:Hp) (v:V) (u:aB) (Q:St->Hp->Prop),Inv X pins Z H s->RelV v u->t v Z H Q ->
  wpAny (model X.prog X.w) X.A (assign target X.env u) (λ_ s'=>∃Z' H',Inv X pins Z' H' s'/\Q Z' H') X.xe s
def rl (X:Cx) (ts:List Expr) (t:ud):Prop :=
 ∀(pins:List (Addr × Obj)) (s:aF) (Z:St) (H:Hp) (vs:List V) (us:List aB) (Q:St->Hp->Prop),Inv X pins Z H s->ao vs us->t vs Z H Q ->
  wpAny (model X.prog X.w) X.A (assignInOrder ((assignEach ts X.env).map (·.2)) us) (λ_ s'=>∃Z' H',Inv X pins Z' H' s'/\Q Z' H') X.xe s
abbrev Ws:=V->V->V->Hp->(Hp->Prop)->Prop
def A0 (X:Cx) (t:Ws):Prop :=
 ∀(pins:List (Addr × Obj)) (s:aF) (Z:St) (H:Hp) (o i v:V) (ov iv u:aB) (Q:Hp->Prop),Inv X pins Z H s->RelV o ov->RelV i iv->RelV v u->t o i v H Q ->
  wpAny (model X.prog X.w) X.A (setItem ov iv u) (λ_ s'=>∃H',Inv X pins Z H' s'/\Q H') X.xe s
section
variable {X:Cx} {pos:Pos}
def Wc (i:Nat):TG:=λv Z H Q=>Q (Z.set i (some v)) H
theorem Ty (hN:X.N.Nodup) (hi:X.N[i]? = some x) (hx:Loc X.env.scope x) (hf:X.fn x=true\/X.env.scope.names.lookup x=some .local:=by walk_at "loc"):PG X (.Name x pos) (Wc i):=by
 intro pins s Z H v u Q I r h;exact LJ (LI I hN hi hx r (λs' I'=>⟨_,H,I',h⟩) hf)
def L4:ud:=λvs Z H Q=>vs=[]/\Q Z H
def B6 (t:TG) (u:ud):ud:=λvs Z H Q=>∃v r,vs=v::r/\t v Z H λZ' H'=>u r Z' H' Q
theorem Tz:rl X [] L4:=by
 intro pins s Z H vs us Q I r h;obtain⟨e,h⟩:=h;subst e;cases r;exact JJ ⟨Z,H,I,h⟩
theorem Qj (h1:PG X e t) (h2:rl X es u)
  (hs:(assignEach (e::es) X.env).map (·.2)=assign e X.env::(assignEach es X.env).map (·.2):=by rfl):rl X (e::es) (B6 t u):=by
 intro pins s Z H vs us Q I r h;obtain⟨v,vr,e1,h⟩:=h;subst e1;cases r with
 | cons r rr =>
  rw[hs];refine vV (c5 (h1 pins s Z H _ _ _ I r h) λ_ s1 ⟨Z1,H1,I1,q1⟩=>?_);exact h2 pins s1 Z1 H1 _ _ Q I1 rr q1
def L6 (K:aH) (n:Nat) (t:ud):TG:=λv Z H Q=>∃a xs,v = .ref a/\fh K H a xs/\xs.length=n/\t xs Z H Q
theorem Yw {es:List Expr} {k:Nat} {t:ud} {n:Nat} (hc:X.calm=true) (h:rl X es t)
  (hn:(assignEach es X.env).length=n:=by rfl) (oh:(assignEach es X.env).findIdx? (·.1)=none:=by rfl):PG X (.Tuple es k pos) (L6 X.K n t):=by
 intro pins s Z H v u Q I r hw;obtain⟨a,xs,e1,hq,hl,hw⟩:=hw;subst e1;cases r;obtain⟨its,rv,ht,hz⟩:=I.tuple hq;refine assign_Tuple_tuple (I.ok.hd hc) ht (by simp[hn,<-hl,rv.length]) oh λh' hx=>?_;have I1:Inv X pins Z H { s with heap:=h' }:=I.kept (t':=s.toks) λb o e=>hx b o (bE (aP e)) e;exact h pins _ Z H xs _ Q I1 (by simpa using rv) hw
def L5 (to ti:TE) (t:Ws):TG:=λv Z H Q=>to Z H λo H1=>ti Z H1 λi H2=>t o i v H2 λH3=>Q Z H3
theorem Yv (ho:PE X o to) (hi:PE X i ti) (hs:A0 X t)
  (ha:∀v,assign (.Subscript o i pos) X.env v=(do
   let ov <-holding [v] (eval o X.env);let iv <-holding [v,ov] (eval i X.env)
   standAt pos
   holding [v,ov,iv] (setItem ov iv v)
   release [v,ov,iv] []):=by intro _;rfl):PG X (.Subscript o i pos) (L5 to ti t):=by
 intro pins s Z H v u Q I r h;rw[ha];refine aA (fG (c5 (ho pins s Z H _ I h) λov s1 ⟨x,H1,I1,r1,q1⟩=>?_));refine aA (fG (c5 (hi pins s1 Z H1 _ I1 q1) λiv s2 ⟨y,H2,I2,r2,q2⟩=>?_));refine aA (xY (aA (fG (c5 (hs pins s2 Z H2 x y v ov iv u _ I2 r1 r2 r q2) λ_ s3 ⟨H3,I3,q3⟩=>?_))));exact wpAny_release ⟨Z,H3,I3,q3⟩
def G6 (te:TE) (g:TG):TS:=λD Z H=>te Z H λx H1=>g x Z H1 D.nx
theorem Qm {tg e:Expr} {te:TE} {g:TG} (he:PE X e te) (hg:PG X tg g) (hs:swapsWithSole [tg] e pos.line X.env=pure false:=by rfl) (hw:swappedStores [tg] e X.env=pure none:=by rfl)
  (h1:(assignEach [tg] X.env).map (·.2)=[assign tg X.env]:=by rfl):PS X (.Assign [tg] e pos) (G6 te g):=by
 intro pins s Z H D I h;refine wpAny_Assign_stores (c5 (he pins s Z H _ I h) λv s1 ⟨x,H1,I1,r1,q1⟩=>?_) hs hw;rw[h1];exact c5 (hg pins s1 Z H1 x v _ I1 r1 q1) λ_ s2 q=>q
theorem Gu {i:Nat} {x:Str} {e:Expr} {te:TE} {pos':Pos} (hN:X.N.Nodup) (hi:X.N[i]? = some x) (hx:Loc X.env.scope x) (he:PE X e te) (hs:swapsWith e (some (.Name x pos')) pos.line X.env=pure false:=by rfl) (hf:X.fn x=true\/X.env.scope.names.lookup x=some .local:=by walk_at "loc") :
  PS X (.Assign [.Name x pos'] e pos) (G6 te (Wc i)):=by
 intro pins s Z H D I h;refine wpAny_Assign_Name (c5 (he pins s Z H _ I h) λv s1 ⟨y,H1,I1,r1,q1⟩=>?_) hs;exact LI I1 hN hi hx r1 (λs2 I2=>⟨_,H1,I2,q1⟩) hf
def Q5 (i j:Nat) (ta:TA):TS:=λD Z H=>ta Z H λvs H1=>∃v w,vs=[v,w]/\D.nx ((Z.set i (some v)).set j (some w)) H1
theorem Yz {px py pt:Pos} {kt k2 wo} (hc:X.calm=true) (hN:X.N.Nodup) (hi:X.N[i]? = some x) (hj:X.N[j]? = some y) (m8:i≠j)
  (hx:X.env.scope.names.lookup x=some .local) (hy:X.env.scope.names.lookup y=some .local) (ha:PA X [a,b] ta)
  (hw:swappedStores [.Tuple [.Name x px,.Name y py] kt pt] (.Tuple [a,b] k2 wo) X.env=pure (some [x,y]))
  (hs:swapsWithSole [.Tuple [.Name x px,.Name y py] kt pt] (.Tuple [a,b] k2 wo) pos.line X.env=pure false:=by rfl) :
  PS X (.Assign [.Tuple [.Name x px,.Name y py] kt pt] (.Tuple [a,b] k2 wo) pos) (Q5 i j ta):=by
 intro pins s Z H D I h;rw[exec_Assign_arm];refine aA (xY ?_);rw[hs];refine aA (aJ ?_);rw[if_neg (by decide)];refine aA (Tuple_ (c5 (ha _ pins s Z H _ I h) λus s1 ⟨vs,H1,I1,r1,q1⟩=>?_));obtain⟨v,w,e1,q1⟩:=q1;subst e1;obtain⟨u1,u2,rfl,rv,km⟩:∃u1 u2,us=[u1,u2]/\RelV v u1/\RelV w u2:=by
  cases r1 with
  | cons p q =>
   cases q with
   | cons p' q' =>
    cases q';exact⟨_,_,rfl,p,p'⟩
 refine fP ?_ (by show 2<=sizeLine;decide);have I2:Inv X pins Z H1 { s1 with heap:=s1.heap.push { cls:=.type "tuple",data:=.seq [u1,u2].toArray } }:=I1.kept (t':=s1.toks) λb o e=>aK _ e;rw[hw];refine aA (aJ ?_);show wpAny (model X.prog X.w) X.A (do rule "assign.swapped-stores";let items <-unpackItems (.ref s1.heap.objs.size) 2 none;assignInOrder [λv=>bindName X.env y v,λv=>bindName X.env x v] items.reverse;pure Flow.next) _ _ _;refine aA (wF (aA (unpackItems_tuple (items:=#[u1,u2]) (I.ok.hd hc) (LO s1.heap _) λh' me=>?_)));have I3:=I2.kept (h':=h') (t':=s1.toks) λb o e=>me b o (bE (aP e)) e;show wpAny _ _ (assignInOrder [λv=>bindName X.env y v,λv=>bindName X.env x v] [u2,u1] >>= λ_=>pure Flow.next) _ _ _;refine aA (vV (UE (LI I3 hN hj (.inl hy) km (λs2 I4=>?_) (.inr hy))));refine vV (UE (LI I4 hN hi (.inl hx) rv (λs3 I5=>JJ (aJ ?_)) (.inr hx)));rw[List.set_comm _ _ (Ne.symm m8)] at I5;exact⟨_,H1,I5,q1⟩
end
section
def Zs (c:TT) (tb:TS):TS:=λD Z H=>∃W:Nat->St->Hp->Prop,(∃m,W m Z H)/\∀m Z H,W m Z H ->
 c Z H λb H1=>if b=true then ∃N:St->Hp->Prop,(∀Z' H',N Z' H'->∃m',m'<m/\W m' Z' H')/\tb { D with nx:=N,ct:=N,bk:=D.nx } Z H1 else D.nx Z H1
theorem Qo (hp:PassesOwn (model X.prog X.w) X.A X.env X.xe) (hc:PT X c tc) (hb:ly X body tb):PS X (.While c body [] pos) (Zs tc tb):=by
 intro pins s Z H D I h;obtain⟨W,⟨m0,w0⟩,turn⟩:=h;refine wpAny_While (codeAny_whileLoop (λn s'=>∃Z' H',Inv X pins Z' H' s'/\W n Z' H') ?_ m0 ⟨Z,H,I,w0⟩);rintro n s1 ⟨Z1,H1,I1,w1⟩;refine mJ hp (c5 (hc pins s1 Z1 H1 _ I1 (turn n Z1 H1 w1)) λb s2 ⟨H2,I2,q2⟩=>?_);cases b with
 | true =>
  obtain⟨N,hN,q2⟩:=q2;rw[if_pos rfl];refine mJ hp (c5 (hb pins s2 Z1 H2 _ I2 q2) λf s3 q3=>?_);cases f with
  | next =>
   obtain⟨Z3,H3,I3,n3⟩:=q3;obtain⟨m',hm,w3⟩:=hN Z3 H3 n3;exact⟨m',hm,Z3,H3,I3,w3⟩
  | cont =>
   obtain⟨Z3,H3,I3,n3⟩:=q3;obtain⟨m',hm,w3⟩:=hN Z3 H3 n3;exact⟨m',hm,Z3,H3,I3,w3⟩
  | brk=>exact q3
  | ret v=>exact q3
 | false =>
  rw[if_neg cC];exact tZ ⟨Z1,H2,I2,q2⟩
end
structure It where
 go:Nat->Hp->Prop
 yld:Nat->Hp->V->Hp->Prop
 stop:Nat->Hp->Prop
def UJ (X:Cx) (pins:List (Addr × Obj)) (H:Hp) (b:Addr):Prop :=
 H b=none/\b≠X.env.locals/\b ∉ X.fs/\(b∈X.ex\/X.s₀.heap.objs.size<=b)/\(∀x c,X.env.cells.lookup x=some c->c≠b)/\∀p∈X.pn++pins,p.1≠b
def Inv.fpOk {Z:St} {s:aF} {b:Addr} (I:Inv X pins Z H s) (hb:s.heap.objs.size<=b) (hn:H' b=none):UJ X pins H' b:=by
 refine⟨hn,dZ (bQ I.lt hb),I.nofs hb,.inr (fK I.sz hb),λx c e z=>?_,λp hp z=>?_⟩
 ·obtain⟨v,q⟩:=I.cell x c e;exact absurd (bQ q.lt (by rw[z];exact hb)) (hE _)
 ·exact absurd (bQ (aP (I.pin p hp).1) (by rw[z];exact hb)) (hE _)
structure qj (P:bU) (w:dJ) (K:aH) (tg:Expr) (J:It) (fp:List Addr) (it:Addr) (tn:Nat->Heap->Prop):Prop where
 mem:it∈fp
 obj:∀i h,tn i h->∀b∈fp,∃o,h.get? b=some o/\∀v,o.data≠.cell v
 keep:∀i h h',tn i h->(∀b∈fp,∀o,h.get? b=some o->h'.get? b=some o)->tn i h'
 item:∀(X:Cx),X.prog=P->X.w=w->X.K=K->X.calm=true->∀(i:Nat) (pins:List (Addr × Obj)) (s:aF) (σ:St) (H:Hp) (E:aB->aF->Prop),Inv X pins σ H s->(∀b∈fp,UJ X pins H b)->tn i s.heap->J.go i H ->
  wpAny (model P w) X.A (pyNext (.ref it)) (λr s1=>∃u,r=some u /\
   wpAny (model P w) X.A (letOwnedTupleGo tg (.ref it) u) (λ_ s2=>∃x H',Inv X pins σ H' s2/\RelV x u/\J.yld i H x H'/\tn (i+1) s2.heap/\∀b∈fp,H' b=none) E s1) E s
 done:∀(X:Cx),X.prog=P->X.w=w->X.K=K->X.calm=true->∀(i:Nat) (pins:List (Addr × Obj)) (s:aF) (σ:St) (H:Hp) (E:aB->aF->Prop),Inv X pins σ H s->(∀b∈fp,UJ X pins H b)->tn i s.heap->J.stop i H ->
  wpAny (model P w) X.A (pyNext (.ref it)) (λr s1=>r=none/\Inv X pins σ H s1) E s
 self:∀(A:dD) (i:Nat) (s:aF) (Q:aB->aF->Prop) (E:aB->aF->Prop),tn i s.heap->Q (.ref it) s->wpAny (model P w) A (pyIter (.ref it)) Q E s
abbrev TI:=St->Hp->(It->Hp->Prop)->Prop
def PIE (X:Cx) (pins:List (Addr × Obj)) (Z:St) (tg:Expr) (R:It->Hp->Prop) (V0:aB) (s2:aF):Prop :=
 ∃(it:Addr) (fp:List Addr) (tn:Nat->Heap->Prop) (J:It) (H':Hp),V0 = .ref it/\Inv X pins Z H' s2/\qj X.prog X.w X.K tg J fp it tn/\tn 0 s2.heap/\(∀b∈fp,UJ X pins H' b)/\R J H'
def PI (X:Cx) (tg iter:Expr) (wi:TI):Prop :=
 ∀(pins:List (Addr × Obj)) (s:aF) (Z:St) (H:Hp) (R:It->Hp->Prop),Inv X pins Z H s->wi Z H R ->
  wpAny (model X.prog X.w) X.A (eval iter X.env) (λv s1=>wpAny (model X.prog X.w) X.A (pyIter v) (PIE X pins Z tg R) X.xe s1) X.xe s
def Oy {s:aF} (ho:s.heap.get? it=some o) (hc:o.cls = .type n) (hd:o.data = .fields vs)
  (hn:["enumerate","zip","dict_itemiterator","dict_reverseitemiterator","odict_iterator","itertools.zip_longest","itertools.pairwise"].contains n=false) (hQ:Q () s):wpAny M A (letOwnedTupleGo tg (.ref it) u) Q E s:=by
 unfold letOwnedTupleGo;cases tg <;> first
  | exact aJ hQ
  | (cases u <;> first
    | exact aJ hQ
    | (refine aA (wpAny_load ho ?_);rw[hc,hd];show wpAny M A (if (["enumerate","zip","dict_itemiterator","dict_reverseitemiterator","odict_iterator","itertools.zip_longest","itertools.pairwise"].contains n && vs[0]? == some (rawInt _))=true then _ else _) Q E s;rw[if_neg (by intro h;rw[hn,vG] at h;cases h)];exact aJ hQ))
def x_ (K:aH) (a:Addr):It :=
 ⟨λi H=>∃xs x,ij K H a xs/\xs[i]? = some x,λi H x H'=>H'=H/\∀xs,ij K H a xs->xs[i]? = some x,λi H=>∃xs,ij K H a xs/\xs.length<=i⟩
def Itt (K:aH) (a:Addr):It :=
 ⟨λi H=>∃xs x,fh K H a xs/\xs[i]? = some x,λi H x H'=>H'=H/\∀xs,fh K H a xs->xs[i]? = some x,λi H=>∃xs,fh K H a xs/\xs.length<=i⟩
def H_ (lo:Int) (n:Nat):It:=⟨λi _=>i<n,λi H x H'=>H'=H/\x = .int (lo+i),λi _=>n<=i⟩
def Mx {P:bU} {w:dJ} {K:aH} {tg:Expr} (a it:Addr):qj P w K tg (x_ K a) [it] it (λi h=>h.IsListIter it a i) where
 mem:=by simp
 obj:=λi h st b hb=>by
  have e:b=it:=by simpa using hb
  subst e;obtain⟨o,e,c,d⟩:=st;exact⟨o,e,λv z=>by rw[d] at z;cases z⟩
 keep:=λi h h' st k=>st.at λo e=>k it (by simp) o e
 item:=by
  intro X hP hw hK hc i pins s Z H E I hf st hg;subst hP hw hK;obtain⟨xs,x,hq,hx⟩:=hg;obtain⟨its,rv,p,hz⟩:=I.list hq;obtain⟨u,hu,ru⟩:=rv.get hx;obtain⟨f0,f1,f2,f3,f4,f5⟩:=hf it (by simp);refine wpAny_pyNext_list_item st p.isList (x:=u) (by simpa using hu) λh' fb sb=>?_;have I1:Inv X pins Z H { s with heap:=h' }:=I.turned (t':=s.toks) (λb o hb e=>(sb.2 b hb).trans e) f0 f1 f3 f4 f5;obtain⟨o,e,c,d⟩:=id fb;exact⟨u,rfl,Oy (s:={ s with heap:=h' }) e c d (by decide) ⟨x,H,I1,ru,⟨rfl,λys hy=>by rw[I.list_inj hy hq];exact hx⟩,fb,λb hb=>(hf b hb).1⟩⟩
 done:=by
  intro X hP hw hK hc i pins s Z H E I hf st hg;subst hP hw hK;obtain⟨xs,hq,hx⟩:=hg;obtain⟨its,rv,p,hz⟩:=I.list hq;obtain⟨f0,f1,f2,f3,f4,f5⟩:=hf it (by simp);have hl:=rv.length;exact wpAny_pyNext_list_end (I.ok.hd hc) st p.isList (by simp;lia) λh' eb=>⟨rfl,I.turned (t':=s.toks) (λb o hb e=>eb b o hb e) f0 f1 f3 f4 f5⟩
 self:=λ_ _ _ _ _ st h=>wpAny_pyIter_listiter st h
def Hl {P:bU} {w:dJ} {K:aH} {tg:Expr} (a it:Addr):qj P w K tg (Itt K a) [it] it (λi h=>h.IsTupleIter it a i) where
 mem:=by simp
 obj:=λi h st b hb=>by
  have e:b=it:=by simpa using hb
  subst e;obtain⟨o,e,c,d⟩:=st;exact⟨o,e,λv z=>by rw[d] at z;cases z⟩
 keep:=λi h h' st k=>st.at λo e=>k it (by simp) o e
 item:=by
  intro X hP hw hK hc i pins s Z H E I hf st hg;subst hP hw hK;obtain⟨xs,x,hq,hx⟩:=hg;obtain⟨its,rv,p,hz⟩:=I.tuple hq;obtain⟨u,hu,ru⟩:=rv.get hx;obtain⟨f0,f1,f2,f3,f4,f5⟩:=hf it (by simp);refine wpAny_pyNext_tuple_item st (show s.heap.IsTuple a its.toArray from p) (x:=u) (by simpa using hu) λh' fb sb=>?_;have I1:Inv X pins Z H { s with heap:=h' }:=I.turned (t':=s.toks) (λb o hb e=>(sb.2 b hb).trans e) f0 f1 f3 f4 f5;obtain⟨o,e,c,d⟩:=id fb;exact⟨u,rfl,Oy (s:={ s with heap:=h' }) e c d (by decide) ⟨x,H,I1,ru,⟨rfl,λys hy=>by rw[I.tuple_inj hy hq];exact hx⟩,fb,λb hb=>(hf b hb).1⟩⟩
 done:=by
  intro X hP hw hK hc i pins s Z H E I hf st hg;subst hP hw hK;obtain⟨xs,hq,hx⟩:=hg;obtain⟨its,rv,p,hz⟩:=I.tuple hq;obtain⟨f0,f1,f2,f3,f4,f5⟩:=hf it (by simp);have hl:=rv.length;exact wpAny_pyNext_tuple_end (I.ok.hd hc) st (show s.heap.IsTuple a its.toArray from p) (by simp;lia) λh' eb=>⟨rfl,I.turned (t':=s.toks) (λb o hb e=>eb b o hb e) f0 f1 f3 f4 f5⟩
 self:=λ_ _ _ _ _ st h=>wpAny_pyIter_tupleiter st h
def Hk {P:bU} {w:dJ} {K:aH} {tg:Expr} (it:Addr) (lo:Int) (n:Nat):qj P w K tg (H_ lo n) [it] it (λi h=>IsRangeIter h it (lo+(i:Nat)*1) ((n:Int)-(i:Nat)) 1) where
 mem:=by simp
 obj:=λi h st b hb=>by
  have e:b=it:=by simpa using hb
  subst e;exact⟨_,st,λv z=>by
   have z':Data.fields _=Data.cell v:=z;cases z'⟩
 keep:=λi h h' st k=>k it (by simp) _ st
 item:=by
  intro X hP hw hK hc i pins s Z H E I hf st hg;subst hP hw hK;obtain⟨f0,f1,f2,f3,f4,f5⟩:=hf it (by simp);have W:=Walks.range (prog:=X.prog) (w:=X.w) (I.ok.hd hc) it lo 1 n;refine W.item i s _ _ hg st λv h' tk hv fb kk=>?_;obtain⟨t,rfl⟩:=hv;have I1:Inv X pins Z H { s with heap:=h',toks:=tk }:=I.turned (λb o hb e=>kk b o (by simpa using hb) e) f0 f1 f3 f4 f5;refine⟨_,rfl,Oy (s:={ s with heap:=h',toks:=tk }) (n:="range_iterator") fb rfl rfl (by decide) ⟨.int (lo+i),H,I1,⟨t,?_⟩,⟨rfl,rfl⟩,fb,λb hb=>(hf b hb).1⟩⟩;rw[wO]
 done:=by
  intro X hP hw hK hc i pins s Z H E I hf st hg;subst hP hw hK;obtain⟨f0,f1,f2,f3,f4,f5⟩:=hf it (by simp);exact wpAny_pyNext_range_end (I.ok.hd hc) st (by have:n<=i:=hg;lia) λh' eb=>⟨rfl,I.turned (t':=s.toks) (λb o hb e=>eb b o hb e) f0 f1 f3 f4 f5⟩
 self:=λ_ _ _ _ _ st h=>wpAny_pyIter_rangeiter st h
section
def B7 (K:aH) (tl:TE):TI:=λZ H R=>tl Z H λx H1=>∃a,x = .ref a/\(∃xs,ij K H1 a xs)/\R (x_ K a) H1
def L7 (K:aH) (tl:TE):TI:=λZ H R=>tl Z H λx H1=>∃a,x = .ref a/\(∃xs,fh K H1 a xs)/\R (Itt K a) H1
def Jl (hl:PE X l tl):PI X tg l (B7 X.K tl):=by
 intro pins s Z H R I h;refine c5 (hl pins s Z H _ I h) λv s1 ⟨x,H1,I1,r1,q1⟩=>?_;obtain⟨a,e,⟨xs,hq⟩,q⟩:=q1;subst e;cases r1;obtain⟨its,rv,p,hz⟩:=I1.list hq;refine jO p.isList ?_;refine⟨s1.heap.objs.size,[s1.heap.objs.size],_,_,H1,rfl,I1.kept (t':=s1.toks) λb o e=>aK _ e,Mx a _,⟨_,bF _ rfl,rfl,rfl⟩,λb hb=>?_,q⟩;have e:b=s1.heap.objs.size:=by simpa using hb
 subst e;exact I1.fpOk (bO _) (I1.hok.fresh (bO _))
def Yx (hl:PE X l tl):PI X tg l (L7 X.K tl):=by
 intro pins s Z H R I h;refine c5 (hl pins s Z H _ I h) λv s1 ⟨x,H1,I1,r1,q1⟩=>?_;obtain⟨a,e,⟨xs,hq⟩,q⟩:=q1;subst e;cases r1;obtain⟨its,rv,p,hz⟩:=I1.tuple hq;refine lW (show s1.heap.IsTuple a its.toArray from p) ?_;refine⟨s1.heap.objs.size,[s1.heap.objs.size],_,_,H1,rfl,I1.kept (t':=s1.toks) λb o e=>aK _ e,Hl a _,⟨_,bF _ rfl,rfl,rfl⟩,λb hb=>?_,q⟩;have e:b=s1.heap.objs.size:=by simpa using hb
 subst e;exact I1.fpOk (bO _) (I1.hok.fresh (bO _))
def Qz {Z:St} {s:aF} {lo hi:Int} (I:Inv X pins Z H s) (h1:-(2 ^ 62)<=lo) (h2:lo<2 ^ 62) (h3:-(2 ^ 62)<=hi) (h4:hi<2 ^ 62)
  (q:R (H_ lo (hi-lo).toNat) H):wpAny (model X.prog X.w) X.A (pyIter (.ref s.heap.objs.size)) (PIE X pins Z tg R) E { s with heap:=s.heap.push { cls:=.type "range",data:=.fields #[.int lo t,.int hi u,.int 1 v] },toks:=tk }:=by
 refine wpAny_pyIter_range (IsRange.new ..) (small_one h1 h2 h3 h4) ?_;have I1:Inv X pins Z H { s with heap:=s.heap.push { cls:=.type "range",data:=.fields #[.int lo t,.int hi u,.int 1 v] },toks:=tk }:=I.kept λb o e=>aK _ e;refine⟨(s.heap.push { cls:=.type "range",data:=.fields #[.int lo t,.int hi u,.int 1 v] }).objs.size,[(s.heap.push { cls:=.type "range",data:=.fields #[.int lo t,.int hi u,.int 1 v] }).objs.size],_,_,H,rfl,
  I1.kept (t':=tk) λb o e=>aK _ e,Hk _ lo (hi-lo).toNat,?_,λb hb=>?_,q⟩
 ·have e1:lo+((0:Nat):Int)*1=lo:=by simp
  have e2:(((hi-lo).toNat:Nat):Int)-((0:Nat):Int)=Builtin.Range.rangeSize lo hi 1:=by rw[rangeSize_one];split <;> lia
  show IsRangeIter _ _ (lo+((0:Nat):Int)*1) ((((hi-lo).toNat:Nat):Int)-((0:Nat):Int)) 1;rw[e1,e2];exact bF _ rfl
 ·have e:b=(s.heap.push { cls:=.type "range",data:=.fields #[.int lo t,.int hi u,.int 1 v] }).objs.size:=by simpa using hb
  subst e;exact I1.fpOk (bO _) (I1.hok.fresh (bO _))
def B8 (ta:TA):TI:=λZ H R=>ta Z H λvs H1=>∃j:Int,vs=[.int j]/\-(2 ^ 62)<=j/\j<2 ^ 62/\R (H_ 0 j.toNat) H1
theorem Mb (hg:Gl X "range") (hm:X.mg "range" = none) (ha:PA X [a] ta) (hs:starEach [a] X.env=[(false,eval a X.env)]:=by rfl):PI X tg (.Call (.Name "range" p) [a] [] pos) (B8 ta):=by
 intro pins s Z H R I h;refine Call_ (tY I hg hm boot_range (gQ (c5 (ha pos pins s Z H _ I h) λus s1 ⟨vs,H1,I1,r1,q1⟩=>?_) hs rfl));obtain⟨j,e,q1,q2,q⟩:=q1;subst e;cases r1 with
 | cons r rr =>
  cases rr;obtain⟨t,rfl⟩:=r;exact call_range_1 (Qz I1 (by lia) (by lia) q1 q2 (by simpa using q))
def P9 (wi:TI) (g:TG) (tb:TS):TS:=λD Z H=>wi Z H λJ H1=>∃W:Nat->Nat->St->Hp->Prop,(∃m,W 0 m Z H1)/\∀i m Z H,W i m Z H ->
 (J.stop i H/\D.nx Z H)\/(J.go i H/\∃N:St->Hp->Prop,(∀Z' H',N Z' H'->∃m',m'<m/\W (i+1) m' Z' H')/\∀x H',J.yld i H x H'->g x Z H' λZ2 H2=>tb { D with nx:=N,ct:=N,bk:=D.nx } Z2 H2)
def ZT (fp:List Addr) (h:Heap):List (Addr × Obj):=fp.filterMap λb=>(h.get? b).map λo=>(b,o)
def tH (hb:b∈fp) (e:h.get? b=some o):(b,o)∈ZT fp h:=kC.mpr ⟨b,hb,by rw[e];rfl⟩
theorem Lr (hp:p∈ZT fp h):p.1∈fp/\h.get? p.1=some p.2:=by
 obtain⟨b,hb,e⟩:=kC.mp hp;cases q:h.get? b with
 | none=>rw[q] at e;cases e
 | some o =>
  rw[q] at e;have e':(b,o)=p:=dU e;subst e';exact⟨hb,q⟩
def Inv.pinned {Z:St} {s:aF} (I:Inv X pins Z H s) (hf:∀b∈fp,UJ X pins H b) (ho:∀b∈fp,∃o,s.heap.get? b=some o/\∀v,o.data≠.cell v):Inv X (pins++ZT fp s.heap) Z H s :=
 I.pins_of λp hp=>(cJ.mp hp).elim (λz=>I.pin p (aV _ z)) λz=>by
  obtain⟨hb,e⟩:=Lr z;obtain⟨f0,f1,f2,_⟩:=hf p.1 hb;obtain⟨o,e',d⟩:=ho p.1 hb;rw[e] at e';cases e';exact⟨e,f0,f1,f2,d⟩
def Inv.unpinned {Z:St} {s:aF} (I:Inv X (pins++pl) Z H s):Inv X pins Z H s:=I.pins_of λp hp=>I.pin p (aV _ (cU _ hp))
def Yy (hp:PassesOwn (model X.prog X.w) X.A X.env X.xe) (hc:X.calm=true) (hi:PI X tg iter wi) (hg:PG X tg g) (hb:ly X body tb)
  (hs:∀x,foldedSetIterable iter X.env x=pure x:=by intro _;rfl):PS X (.For tg iter body [] pos) (P9 wi g tb):=by
 intro pins s Z H D I h;refine wpAny_For (c5 (hi pins s Z H _ I h) λv s1 h1=>c5 h1 λV0 s2 h2=>?_) hs;obtain⟨it,fp,tn,J,H2,e,I2,T,st2,f2,W,⟨m0,w0⟩,turn⟩:=h2;subst e;have wv:∀{H':Hp},(∀b∈fp,H' b=none)->∀b∈fp,UJ X pins H' b:=λhn b hb=>⟨hn b hb,(f2 b hb).2⟩;refine codeAny_forLoop_any (λn s'=>∃i Z' H',Inv X pins Z' H' s'/\tn i s'.heap/\(∀b∈fp,H' b=none)/\W i n Z' H') ?_ m0 ⟨0,Z,H2,I2,st2,λb hb=>(f2 b hb).1,w0⟩;rintro n s3 ⟨i,Z3,H3,I3,st3,fr3,w3⟩;rcases turn i n Z3 H3 w3 with ⟨stop,qn⟩ | ⟨go,N,hN,step⟩
 ·refine mJ hp (c5 (T.done X rfl rfl rfl hc i pins s3 Z3 H3 X.xe I3 (wv fr3) st3 stop) λr s4 ⟨hr,I4⟩=>?_);subst hr;exact tZ ⟨Z3,H3,I4,qn⟩
 ·refine mJ hp (c5 (T.item X rfl rfl rfl hc i pins s3 Z3 H3 X.xe I3 (wv fr3) st3 go) λr s4 ⟨u,hr,h4⟩=>?_);subst hr;refine mJ hp (c5 h4 λ_ s5 ⟨x,H5,I5,r5,y5,t7,Y4⟩=>?_);have W6:=I5.pinned (wv Y4) (T.obj _ _ t7);refine mJ hp (c5 (hg _ s5 Z3 H5 x u _ W6 r5 (step x H5 y5)) λ_ s6 ⟨Z6,H6,I6,q6⟩=>?_);refine mJ hp (c5 (hb _ s6 Z6 H6 _ I6 q6) λf s7 q7=>?_);have again:∀{Z7:St} {H7:Hp},Inv X (pins++ZT fp s5.heap) Z7 H7 s7->N Z7 H7->∃m,m<n/\∃i Z' H',Inv X pins Z' H' s7/\tn i s7.heap/\(∀b∈fp,H' b=none)/\W i m Z' H':=λ{Z7 H7} I7 n7=>by
   obtain⟨m',hm,w7⟩:=hN Z7 H7 n7;refine⟨m',hm,i+1,Z7,H7,I7.unpinned,T.keep _ _ _ t7 λb hb o e=>(I7.pin (b,o) (aV _ (aV _ (tH hb e)))).1,λb hb=>?_,w7⟩;obtain⟨o,e,d⟩:=T.obj _ _ t7 b hb;exact (I7.pin (b,o) (aV _ (aV _ (tH hb e)))).2.1
  cases f with
  | next=>obtain⟨Z7,H7,I7,n7⟩:=q7;exact again I7 n7
  | cont=>obtain⟨Z7,H7,I7,n7⟩:=q7;exact again I7 n7
  | brk=>obtain⟨Z7,H7,I7,q7⟩:=q7;exact⟨Z7,H7,I7.unpinned,q7⟩
  | ret v=>obtain⟨x7,Z7,H7,I7,r7,q7⟩:=q7;exact⟨x7,Z7,H7,I7.unpinned,r7,q7⟩
end
def Bv {K:aH} {a:Addr} {xs:List V} {g:TG} {tb:TS} {D:o8} {Z:St} {H:Hp} (Pv:Nat->St->Hp->Prop) (h0:Pv 0 Z H) (hl:∀i Z H,i<=xs.length->Pv i Z H->ij K H a xs)
  (hs:∀i x Z H,xs[i]? = some x->Pv i Z H->g x Z H λZ2 H2=>tb { D with nx:=Pv (i+1),ct:=Pv (i+1),bk:=D.nx } Z2 H2) (hd:∀Z H,Pv xs.length Z H->D.nx Z H) :
  ∃W:Nat->Nat->St->Hp->Prop,(∃m,W 0 m Z H)/\∀i m Z H,W i m Z H ->
   ((x_ K a).stop i H/\D.nx Z H)\/((x_ K a).go i H/\∃N:St->Hp->Prop,(∀Z' H',N Z' H'->∃m',m'<m/\W (i+1) m' Z' H')/\∀x H',(x_ K a).yld i H x H'->g x Z H' λZ2 H2=>tb { D with nx:=N,ct:=N,bk:=D.nx } Z2 H2):=by
 refine⟨λi m Z H=>m=xs.length-i/\i<=xs.length/\Pv i Z H,⟨xs.length,by simp,fV _,h0⟩,?_⟩;rintro i m Z H ⟨rfl,hi,p⟩;have q:=hl i Z H hi p;by_cases dw:i<xs.length
 ·refine .inr ⟨⟨xs,xs[i],q,by simp[dw]⟩,Pv (i+1),λZ' H' p'=>⟨xs.length-(i+1),by lia,rfl,dw,p'⟩,λx H' y=>?_⟩;obtain⟨e,y⟩:=y;subst e;exact hs i x Z _ (y xs q) p
 ·have e:i=xs.length:=by lia
  subst e;exact .inl ⟨⟨xs,q,bO _⟩,hd Z H p⟩
abbrev R2:=V->V->Hp->VK->Prop
def jw (X:Cx) (f:aB->aB->Sem aB) (r:R2):Prop :=
 ∀(pins:List (Addr × Obj)) (s:aF) (Z:St) (H:Hp) (x y:V) (v u:aB) (Q:VK),Inv X pins Z H s->RelV x v->RelV y u->r x y H Q ->
  wpAny (model X.prog X.w) X.A (f v u) (EP X pins Z Q) X.xe s
def L_ (X:Cx) (f:aB->Sem aB) (r:V->Hp->VK->Prop):Prop :=
 ∀(pins:List (Addr × Obj)) (s:aF) (Z:St) (H:Hp) (x:V) (v:aB) (Q:VK),Inv X pins Z H s->RelV x v->r x H Q ->
  wpAny (model X.prog X.w) X.A (f v) (EP X pins Z Q) X.xe s
def wM (X:Cx) (f:aB) (r:List V->Hp->VK->Prop):Prop :=
 ∀(pins:List (Addr × Obj)) (s:aF) (Z:St) (H:Hp) (xs:List V) (us:List aB) (Q:VK),Inv X pins Z H s->ao xs us->r xs H Q ->
  wpAny (model X.prog X.w) X.A (call f us) (EP X pins Z Q) X.xe s
def EE (r:R2) (ta tb:TE):TE:=λZ H Q=>ta Z H λx H1=>tb Z H1 λy H2=>r x y H2 Q
def tUn (r:V->Hp->VK->Prop) (ta:TE):TE:=λZ H Q=>ta Z H λx H1=>r x H1 Q
def rI (C:Int->Int->Prop) (g:Int->Int->V):R2:=λx y H Q=>∃i j,x = .int i/\y = .int j/\C i j/\Q (g i j) H
def xu (g:Int->Int->V):R2:=λx y H Q=>∃i j,x = .int i/\y = .int j/\Q (g i j) H
def rU (g:Int->V):V->Hp->VK->Prop:=λx H Q=>∃i,x = .int i/\Q (g i) H
section
variable {X:Cx} {a b c:Expr} {ta tb tc:TE}
theorem Wx (ha:PE X a ta) (hb:PE X b tb) {pins:List (Addr × Obj)} {s:aF} {Z:St} {H:Hp} {R:V->V->Hp->Prop} (I:Inv X pins Z H s)
  (h:ta Z H λx H1=>tb Z H1 λy H2=>R x y H2) {Q:aB->aF->Prop} {f:aB->aB->Sem aB}
  (hf:∀v u s2 x y H2,Inv X pins Z H2 s2->RelV x v->RelV y u->R x y H2->wpAny (model X.prog X.w) X.A (f v u) Q X.xe s2) :
  wpAny (model X.prog X.w) X.A (eval a X.env) (λv s₁=>wpAny (model X.prog X.w) X.A (eval b X.env) (λu s₂=>wpAny (model X.prog X.w) X.A (f v u) Q X.xe s₂) X.xe s₁) X.xe s:=by
 refine c5 (ha pins s Z H _ I h) λv s1 ⟨x,H1,I1,r1,q1⟩=>?_;refine c5 (hb pins s1 Z H1 _ I1 q1) λu s2 ⟨y,H2,I2,r2,q2⟩=>?_;exact hf v u s2 x y H2 I2 r1 r2 q2
theorem D9 (ho:jw X (binaryOp op) r) (ha:PE X a ta) (hb:PE X b tb):PE X (.BinOp a op b pos) (EE r ta tb):=by
 intro pins s Z H Q I h;exact wpAny_BinOp (Wx ha hb I h λv u s2 x y H2 I2 rx ry q=>ho pins s2 Z H2 x y v u Q I2 rx ry q)
theorem E1 (ho:L_ X (unaryOp op) r) (ha:PE X a ta):PE X (.UnaryOp op a pos) (tUn r ta):=by
 intro pins s Z H Q I h;exact UnaryOp_ (c5 (ha pins s Z H _ I h) λv s1 ⟨x,H1,I1,r1,q1⟩=>ho pins s1 Z H1 x v Q I1 r1 q1)
theorem xt {f:aB->aB->Sem aB} {C:Int->Int->Prop} {g:Int->Int->Int}
  (rule:∀(i j:Int) (t u:Tok) (s:aF) (Q:aB->aF->Prop) (E:aB->aF->Prop),C i j->Q (.int (g i j) s.toks) { s with toks:=s.toks+1 }->wpAny (model X.prog X.w) X.A (f (.int i t) (.int j u)) Q E s) :
  jw X f (rI C λi j=>.int (g i j)):=by
 intro pins s Z H x y v u Q I rx ry h;obtain⟨i,j,rfl,rfl,hc,q⟩:=h;obtain⟨t,rfl⟩:=rx;obtain⟨t',rfl⟩:=ry;exact rule i j t t' s _ _ hc ⟨.int (g i j),H,I.tok _,⟨_,rfl⟩,q⟩
theorem Tq {f:aB->aB->Sem aB} {g:Int->Int->Bool}
  (rule:∀(i j:Int) (t u:Tok) (s:aF) (Q:aB->aF->Prop) (E:aB->aF->Prop),Q (.bool (g i j)) s->wpAny (model X.prog X.w) X.A (f (.int i t) (.int j u)) Q E s) :
  jw X f (xu λi j=>.bl (g i j)):=by
 intro pins s Z H x y v u Q I rx ry h;obtain⟨i,j,rfl,rfl,q⟩:=h;obtain⟨t,rfl⟩:=rx;obtain⟨t',rfl⟩:=ry;exact rule i j t t' s _ _ ⟨.bl (g i j),H,I,rfl,q⟩
theorem unI {f:aB->Sem aB} {g:Int->Int}
  (rule:∀(i:Int) (t:Tok) (s:aF) (Q:aB->aF->Prop) (E:aB->aF->Prop),Q (.int (g i) s.toks) { s with toks:=s.toks+1 }->wpAny (model X.prog X.w) X.A (f (.int i t)) Q E s) :
  L_ X f (rU λi=>.int (g i)):=by
 intro pins s Z H x v Q I rx h;obtain⟨i,rfl,q⟩:=h;obtain⟨t,rfl⟩:=rx;exact rule i t s _ _ ⟨.int (g i),H,I.tok _,⟨_,rfl⟩,q⟩
theorem Zt:L_ X (unaryOp .USub) (rU λi=>.int (-i)):=unI λ_ _ _ _ _ q=>neg_int q
end
def G3:V->V->Bool
 | .non,.non=>true | .non,.int _=>true | .int _,.non=>true | .non,.bl _=>true | .bl _,.non=>true | .non,.str _=>true | .str _,.non=>true
 | .int _,.int _=>true | .bl _,.bl _=>true | .str _,.str _=>true | .byt _,.byt _=>true
 | .int _,.str _=>true | .str _,.int _=>true | .bl _,.str _=>true | .str _,.bl _=>true
 | _,_=>false
def rEq:R2:=λx y H Q=>G3 x y=true/\Q (.bl (decide (x=y))) H
def rNe:R2:=λx y H Q=>G3 x y=true/\Q (.bl (!decide (x=y))) H
def Io:decide (V.int i=V.int j)=(i == j):=by
 rw[qO];simp
def On:decide (V.bl i=V.bl j)=(i == j):=by
 rw[qO];simp
def Ip:decide (V.str i=V.str j)=(i == j):=by
 rw[qO];simp
def Im:decide (V.byt i=V.byt j)=(i.toList == j.toList):=by
 rw[qO];cases i;cases j;simp
section
def iW {Z:St} {s:aF} (I:Inv X pins Z H s) (q:Q (.bl k) H) (e:k=k'):EP X pins Z Q (.bool k') s:=by
 subst e;exact⟨.bl k,H,I,rfl,q⟩
theorem Wk:jw X (compareOp .Eq) rEq:=by
 intro pins s Z H x y v u Q I rx ry h;obtain⟨hs,q⟩:=h;cases x with
 | non =>
  cases rx;cases y with
  | non=>cases ry;exact PySem.EqNone.eq_none_none (iW I q (by simp))
  | bl j=>cases ry;exact PySem.EqNone.eq_none_bool (iW I q (by simp))
  | int j=>obtain⟨t',rfl⟩:=ry;exact PySem.EqNone.eq_none_int (iW I q (by simp))
  | str j=>obtain⟨t',rfl⟩:=ry;exact PySem.EqNone.eq_none_str (iW I q (by simp))
  | _=>exact absurd (show false=true from hs) cC
 | bl i =>
  cases rx;cases y with
  | non=>cases ry;exact PySem.EqNone.eq_bool_none (iW I q (by simp))
  | bl j=>cases ry;exact eq_bool (iW I q On)
  | str j=>obtain⟨t',rfl⟩:=ry;exact PySem.EqMixed.eq_bool_str (iW I q (by simp))
  | _=>exact absurd (show false=true from hs) cC
 | int i =>
  obtain⟨t,rfl⟩:=rx;cases y with
  | non=>cases ry;exact PySem.EqNone.eq_int_none (iW I q (by simp))
  | int j=>obtain⟨t',rfl⟩:=ry;exact eq_int (iW I q Io)
  | str j=>obtain⟨t',rfl⟩:=ry;exact PySem.EqMixed.eq_int_str (iW I q (by simp))
  | _=>exact absurd (show false=true from hs) cC
 | str i =>
  obtain⟨t,rfl⟩:=rx;cases y with
  | non=>cases ry;exact PySem.EqNone.eq_str_none (iW I q (by simp))
  | bl j=>cases ry;exact PySem.EqMixed.eq_str_bool (iW I q (by simp))
  | int j=>obtain⟨t',rfl⟩:=ry;exact PySem.EqMixed.eq_str_int (iW I q (by simp))
  | str j=>obtain⟨t',rfl⟩:=ry;exact eq_str (iW I q Ip)
  | _=>exact absurd (show false=true from hs) cC
 | byt i =>
  obtain⟨t,rfl⟩:=rx;cases y with
  | byt j=>obtain⟨t',rfl⟩:=ry;exact PySem.W.eq_bytes (iW I q Im)
  | _=>exact absurd (show false=true from hs) cC
 | _=>cases y <;> exact absurd (show false=true from hs) cC
theorem Wp:jw X (compareOp .NotEq) rNe:=by
 intro pins s Z H x y v u Q I rx ry h;obtain⟨hs,q⟩:=h;cases x with
 | non =>
  cases rx;cases y with
  | non=>cases ry;exact PySem.EqNone.ne_none_none (iW I q (by simp))
  | bl j=>cases ry;exact PySem.EqNone.ne_none_bool (iW I q (by simp))
  | int j=>obtain⟨t',rfl⟩:=ry;exact PySem.EqNone.ne_none_int (iW I q (by simp))
  | str j=>obtain⟨t',rfl⟩:=ry;exact PySem.EqNone.ne_none_str (iW I q (by simp))
  | _=>exact absurd (show false=true from hs) cC
 | bl i =>
  cases rx;cases y with
  | non=>cases ry;exact PySem.EqNone.ne_bool_none (iW I q (by simp))
  | bl j=>cases ry;exact ne_bool (iW I q (congrArg not On))
  | str j=>obtain⟨t',rfl⟩:=ry;exact PySem.EqMixed.ne_bool_str (iW I q (by simp))
  | _=>exact absurd (show false=true from hs) cC
 | int i =>
  obtain⟨t,rfl⟩:=rx;cases y with
  | non=>cases ry;exact PySem.EqNone.ne_int_none (iW I q (by simp))
  | int j=>obtain⟨t',rfl⟩:=ry;exact ne_int (iW I q (congrArg not Io))
  | str j=>obtain⟨t',rfl⟩:=ry;exact PySem.EqMixed.ne_int_str (iW I q (by simp))
  | _=>exact absurd (show false=true from hs) cC
 | str i =>
  obtain⟨t,rfl⟩:=rx;cases y with
  | non=>cases ry;exact PySem.EqNone.ne_str_none (iW I q (by simp))
  | bl j=>cases ry;exact PySem.EqMixed.ne_str_bool (iW I q (by simp))
  | int j=>obtain⟨t',rfl⟩:=ry;exact PySem.EqMixed.ne_str_int (iW I q (by simp))
  | str j=>obtain⟨t',rfl⟩:=ry;exact ne_str (iW I q (congrArg not Ip))
  | _=>exact absurd (show false=true from hs) cC
 | byt i =>
  obtain⟨t,rfl⟩:=rx;cases y with
  | byt j=>obtain⟨t',rfl⟩:=ry;exact PySem.W.ne_bytes (iW I q (congrArg not Im))
  | _=>exact absurd (show false=true from hs) cC
 | _=>cases y <;> exact absurd (show false=true from hs) cC
def Wo:jw X (compareOp .Lt) (xu λi j=>.bl (decide (i<j))):=Tq λ_ _ _ _ _ _ _ q=>lt_int q
def Wn:jw X (compareOp .LtE) (xu λi j=>.bl (decide (i<=j))):=Tq λ_ _ _ _ _ _ _ q=>le_int q
def Wm:jw X (compareOp .Gt) (xu λi j=>.bl (decide (j<i))):=Tq λ_ _ _ _ _ _ _ q=>gt_int q
def Wl:jw X (compareOp .GtE) (xu λi j=>.bl (decide (j<=i))):=Tq λ_ _ _ _ _ _ _ q=>ge_int q
def Yl:jw X (compareOp .Is) (λx y H Q=>y = .non/\Q (.bl (decide (x = .non))) H):=by
 intro pins s Z H x y v u Q I rx ry h;obtain⟨rfl,q⟩:=h;cases ry;refine is_none_gen (iW I q ?_);cases x <;> first
  | (cases rx;rfl)
  | (obtain⟨t,rfl⟩:=rx;rfl)
def Tu:jw X (compareOp .IsNot) (λx y H Q=>y = .non/\Q (.bl (!decide (x = .non))) H):=by
 intro pins s Z H x y v u Q I rx ry h;obtain⟨rfl,q⟩:=h;cases ry;refine isnot_none_gen (iW I q ?_);cases x <;> first
  | (cases rx;rfl)
  | (obtain⟨t,rfl⟩:=rx;rfl)
def Pw (b:Expr) (h:op≠.In:=by decide) (h2:op≠.NotIn:=by decide):behindInMarks op b=false:=by
 have e1:(op == CmpOp.In)=false:=by cases op <;> first | rfl | exact absurd rfl h
 have e2:(op == CmpOp.NotIn)=false:=by cases op <;> first | rfl | exact absurd rfl h2
 cases b <;> simp[behindInMarks,e1,e2]
def Tx (ho:jw X (compareOp op) r) (ha:PE X a ta) (hb:PE X b tb) (hm:behindInMarks op b=false):PE X (.Compare a [op] [b] pos) (EE r ta tb):=by
 intro pins s Z H Q I h;exact wpAny_Compare1 (Wx ha hb I h λv u s2 x y H2 I2 rx ry q=>ho pins s2 Z H2 x y v u Q I2 rx ry q) hm
def J5 (t:TE):TT:=λZ H Q=>t Z H λx H'=>∃k,x = .bl k/\Q k H'
def Uh (ho:jw X (compareOp op) r) (ha:PE X a ta) (hb:PE X b tb) (hm:behindInMarks op b=false):PT X (.Compare a [op] [b] pos) (J5 (EE r ta tb)):=by
 intro pins s Z H Q I h;refine wpAny_isTrue_Compare1 (c5 (ha pins s Z H _ I h) λv s1 ⟨x,H1,I1,r1,q1⟩=>c5 (hb pins s1 Z H1 _ I1 q1) λu s2 ⟨y,H2,I2,r2,q2⟩ =>
  c5 (ho pins s2 Z H2 x y v u _ I2 r1 r2 q2) λc s3 ⟨z,H3,I3,r3,k,e,q3⟩=>?_) hm
 subst e;cases r3;exact mS ⟨H3,I3,q3⟩
def SJ:(sizeLine:Nat)<2 ^ 63:=by rw[jQ];decide
theorem vals1 (r:ao [x] us):∃u,us=[u]/\RelV x u:=by
 cases r with
 | cons r1 r2=>cases r2;exact⟨_,rfl,r1⟩
theorem vals2 (r:ao [x,y] us):∃u w',us=[u,w']/\RelV x u/\RelV y w':=by
 cases r with
 | cons r1 r2 =>
  cases r2 with
  | cons r3 r4=>cases r4;exact⟨_,_,rfl,r1,r3⟩
def Nu:wM X (.builtin "abs") (λxs H Q=>∃i,xs=[.int i]/\Q (.int (if i<0 then -i else i)) H):=by
 intro pins s Z H xs us Q I r h;obtain⟨i,rfl,q⟩:=h;obtain⟨u,rfl,t,rfl⟩:=vals1 r;exact call_abs_int λu tk=>⟨.int (if i<0 then -i else i),H,I.tok _,⟨_,rfl⟩,q⟩
def Kn (hc:X.calm=true):wM X (.builtin "max") (λxs H Q=>∃i j,xs=[.int i,.int j]/\Q (.int (if j > i then j else i)) H):=by
 intro pins s Z H xs us Q I r h;obtain⟨i,j,rfl,q⟩:=h;obtain⟨u,w',rfl,⟨t,rfl⟩,⟨t',rfl⟩⟩:=vals2 r;refine max_two_ints (I.ok.hd hc) λh' tk k=>⟨_,H,I.kept k,?_,q⟩;by_cases hj:j > i
 ·rw[if_pos hj,if_pos hj];exact⟨_,rfl⟩
 ·rw[if_neg hj,if_neg hj];exact⟨_,rfl⟩
def Kp (hc:X.calm=true):wM X (.builtin "min") (λxs H Q=>∃i j,xs=[.int i,.int j]/\Q (.int (if j<i then j else i)) H):=by
 intro pins s Z H xs us Q I r h;obtain⟨i,j,rfl,q⟩:=h;obtain⟨u,w',rfl,⟨t,rfl⟩,⟨t',rfl⟩⟩:=vals2 r;refine min_two_ints (I.ok.hd hc) λh' tk k=>⟨_,H,I.kept k,?_,q⟩;by_cases hj:j<i
 ·rw[if_pos hj,if_pos hj];exact⟨_,rfl⟩
 ·rw[if_neg hj,if_neg hj];exact⟨_,rfl⟩
def WE:wM X (.type "int") (λxs H Q=>(∃i,xs=[.int i]/\Q (.int i) H)\/∃k,xs=[.bl k]/\Q (.int (if k then 1 else 0)) H):=by
 intro pins s Z H xs us Q I r h;rcases h with ⟨i,rfl,q⟩ | ⟨k,rfl,q⟩
 ·obtain⟨u,rfl,t,rfl⟩:=vals1 r;exact call_int_int ⟨.int i,H,I,⟨_,rfl⟩,q⟩
 ·obtain⟨u,rfl,r1⟩:=vals1 r;cases r1;exact call_int_bool ⟨.int (if k then 1 else 0),H,I.tok _,⟨_,rfl⟩,q⟩
end
structure vd (h:Heap) (x dx C:Addr) (mA:Str->Option aB):Prop where
 obj:h.get? x=some (AQ C dx)
 ns:h.Ns1 dx mA
 ne:dx≠x
def Ll {h:Heap} {dx:Addr} {mA:Str->Option aB} (n:h.Ns1 dx mA):∃od,h.get? dx=some od/\∀name,CG name od=some (mA name):=by
 obtain⟨o,es,ep,ho,hd,hk,_,hm⟩:=n;refine⟨o,ho,λname=>?_⟩;have e:=hm name;unfold nsFind findBy at e;rw[<-Array.find?_toList] at e;unfold CG;rw[hd];dsimp only;split
 ·rename_i y q;rw[q] at e;exact congrArg some e
 ·rename_i q;rw[q] at e;have a:es.toList.any (·.refKey)=false:=by
   rw[IT];intro y hy;obtain⟨z,t,hkey⟩:=hk y (iG.mp hy);simp[DictEntry.refKey,hkey]
  have a':¬es.toList.any (·.refKey)=true:=by rw[a];exact cC
  rw[if_neg a'];exact congrArg some e
def vd.look (I:vd h x dx C mA):∃od,PySem.W.InstAt h x (AQ C dx) C (some od)/\∀name,CG name od=some (mA name) :=
 let ⟨od,ho,hl⟩:=Ll I.ns
 ⟨od,⟨I.obj,rfl,rfl,ho⟩,hl⟩
section
variable {fs fs':List (Str × V)}
theorem Sy (hok:jp P w H h) (e:H a=some (.ins C dx fs)):∃mA,vd h a dx C mA/\(∀f,Nm (fs.lookup f) (mA f))/\PySem.Within mA (fs.map (·.1))/\fs.length<=1000/\H dx=some (.own a):=by
 obtain⟨d,z,ne,ob,mA,n,r,q⟩:=(show ci P w H h a (.ins C dx fs) from hok a _ e);exact⟨mA,⟨ob,n,ne⟩,r,q,z,d⟩
end
structure W3 (K:aH) (C:Addr):Prop where
 pg:ME K C Str.empty=true
 hd:PySem.W.hasDictIn K C=true
 po:PySem.W.plainOver K C=true
 sa:QR K (.ref C) "__setattr__" = some (some (.builtin "object.__setattr__"))
def W3.get {K:aH} {C:Addr} (c:W3 K C) (f:Str):ME K C f=true:=c.pg
section
variable {σ:St} {H:Hp} {s:aF}
inductive ji (K:aH) (H:Hp):V->aB->Prop where
 | non:ji K H .non (.type "NoneType")
 | bl (x:Bool):ji K H (.bl x) (.type "bool")
 | int (i:Int):ji K H (.int i) (.type "int")
 | str (x:Str):ji K H (.str x) (.type "str")
 | flt (x:UInt64):ji K H (.flt x) (.type "float")
 | lst {a:Addr} {xs:List V} (e:H a=some (.lst xs)):ji K H (.ref a) (.type "list")
 | frz {a:Addr} {o:Obj} {xs:List V} (e:H a=some (.frz o (.lst xs))):ji K H (.ref a) (.type "list")
 | tup {a:Addr} {xs:List V} (e:H a=some (.tup xs)):ji K H (.ref a) (.type "tuple")
 | dK {a:Addr} {cg:List (ii × V)} (e:H a=some (.dK cg)):ji K H (.ref a) (.type "dict")
 | dT {a:Addr} {cg:List (List ii × V)} (e:H a=some (.dT cg)):ji K H (.ref a) (.type "dict")
 | ins {a C dx:Addr} {fs:List (Str × V)} (e:H a=some (.ins C dx fs)) (cl:W3 K C) (ha:QR K (.ref C) "__class__" = some (some (.builtin "object.__class__")))
   (hn:PySem.W.specialIn K (.builtin "object.__class__") "__get__" = some (some (.builtin "getset_descriptor.__get__"))) (htk:PySem.W.takesIn K (.builtin "object.__class__")=some true)
   (hm:PySem.W.mroIn K C (.type "object")=some true):ji K H (.ref a) (.ref C)
theorem Lg (I:Inv X pins σ H s) (rx:RelV x u) (ty:ji X.K H x t) (e:lR X.K t c=some b) (h:∀tk,Q (.bool b) { s with toks:=tk }) :
  wpAny (model X.prog X.w) A (call (.builtin "isinstance") [u,c]) Q E s:=by
 cases ty with
 | non=>cases (show u=gO from rx);exact gZ PySem.W.kitx_none I.kIn sZ e (λz=>nomatch z) h
 | bl y=>cases (show u=HH y from rx);exact gZ PySem.W.kitx_bool I.kIn sZ e (λz=>nomatch z) h
 | int i=>obtain⟨t,q⟩:=(show ∃t,u=VU i t from rx);cases q;exact gZ PySem.W.kitx_int I.kIn sZ e (λz=>nomatch z) h
 | str y=>obtain⟨t,q⟩:=(show ∃t,u=VW y t from rx);cases q;exact gZ PySem.W.kitx_str I.kIn sZ e (λz=>nomatch z) h
 | flt y=>obtain⟨t,q⟩:=(show ∃t,u=Value.float y t from rx);cases q;exact gZ PySem.W.kitx_float I.kIn sZ e (λz=>nomatch z) h
 | @lst a xs ea =>
  cases (show u=gD a from rx);obtain⟨_,_,n,_,h1⟩:=(show ci X.prog X.w H s.heap a (.lst xs) from I.hok a _ ea);exact gZ wU I.kIn ⟨_,h1,rfl⟩ e (λz=>nomatch z) h
 | @frz a ob xs ea =>
  cases (show u=gD a from rx);obtain⟨_,_,_,n,_,h1⟩:=(show ci X.prog X.w H s.heap a (.frz ob (.lst xs)) from I.hok a _ ea);exact gZ wU I.kIn ⟨_,h1,rfl⟩ e (λz=>nomatch z) h
 | @tup a xs ea =>
  cases (show u=gD a from rx);obtain⟨_,_,_,p⟩:=(show ci X.prog X.w H s.heap a (.tup xs) from I.hok a _ ea);obtain⟨o,h1,h2,_⟩:=p;exact gZ PySem.W.kitx_tuple I.kIn ⟨o,h1,h2⟩ e (λz=>nomatch z) h
 | @dK a cg ea =>
  cases (show u=gD a from rx);obtain⟨_,_,vs,_,p⟩:=(show ci X.prog X.w H s.heap a (.dK cg) from I.hok a _ ea);obtain⟨o,es,ep,h1,h2,_⟩:=p;exact gZ JD I.kIn ⟨o,h1,h2.1⟩ e (λz=>nomatch z) h
 | @dT a cg ea =>
  cases (show u=gD a from rx);obtain⟨_,_,xs,_,o,es,ep,h1,h2,_⟩:=(show ci X.prog X.w H s.heap a (.dT cg) from I.hok a _ ea);exact gZ JD I.kIn ⟨o,h1,h2.1⟩ e (λz=>nomatch z) h
 | @ins a C dx fs ea cl ha hn htk hm =>
  cases (show u=gD a from rx);obtain⟨mA,O,_⟩:=Sy I.hok ea;obtain⟨od,J,_⟩:=O.look;exact gZ (PySem.W.kitx_own (cl.get _) cl.hd ha hn htk hm) I.kIn J e (λz=>nomatch z) h
end
structure cj (k:Nat) (A:dD):Prop where
 hd:A.handled=none
 dp:A.depth+3*k+5<recursionLimit
 un:A.units+16*k+200<cLine
def cj.mono (r:cj k A) (h:j<=k:=by decide):cj j A:=⟨r.hd,by have:=r.dp;lia,by have:=r.un;lia⟩
def cj.deeper (r:cj (k+1) A) (env:Env):cj k (A.deeper env) :=
 ⟨r.hd,by have:=r.dp;show A.depth+1+3*k+5<_;lia,by have:=r.un;show A.units+3+16*k+200<_;lia⟩
def cj.in1 (r:cj (k+1) A):cj k A.in1 :=
 ⟨r.hd,by have:=r.dp;show A.depth+3*k+5<_;lia,by have:=r.un;show A.units+1+16*k+200<_;lia⟩
def cj.depth (r:cj k A):A.depth<recursionLimit:=by have:=r.dp;lia
def cj.units (r:cj k A):A.units+64<cLine:=by have:=r.un;lia
def Q3:TA:=λ_ H Q=>Q [] H
def G8 (ta:TE) (tr:TA):TA:=λZ H Q=>ta Z H λx H1=>tr Z H1 λxs H2=>Q (x::xs) H2
section
variable {t:TA}
theorem HW:PA X [] Q3:=λ_ _ _ _ H Q I h=>rP ⟨[],H,I,.nil,h⟩
theorem wZ (ha:PE X e te) (hr:PA X es t) (hs:starEach (e::es) X.env=(false,eval e X.env)::starEach es X.env:=by rfl):PA X (e::es) (G8 te t):=by
 intro pos pins s Z H Q I h;rw[hs];show wpAny _ _ (spliced ((false,eval e X.env)::backTo pos (starEach es X.env))) _ _ s;refine qW (c5 (ha pins s Z H _ I h) λu s1 ⟨x,H1,I1,r1,q1⟩=>?_);exact c5 (hr pos pins s1 Z H1 _ I1 q1) λus s2 ⟨xs,H2,I2,r2,q2⟩=>⟨x::xs,H2,I2,.cons r1 r2,q2⟩
def Q8 (t:TA):TE:=λZ H Q=>t Z H λxs H1=>xs.length<=sizeLine/\∀p,H1 p=none->Q (.ref p) (bj H1 p (.tup xs))
def Q2 (t:TA):TE:=λZ H Q=>t Z H λxs H1=>xs.length<=sizeLine/\∀p,H1 p=none->Q (.ref p) (bj H1 p (.lst xs))
theorem Yt {x1} (h:PA X es t):PE X (.Tuple es x1 pos) (Q8 t):=by
 intro pins s Z H Q I hq;refine wpAny_Tuple_spliced (c5 (h pos pins s Z H _ I hq) λus s1 ⟨xs,H1,I1,r,z,q⟩=>⟨by rw[<-r.length];exact z,?_⟩);have hf:H1 s1.heap.objs.size=none:=I1.hok.fresh (bO _);refine⟨.ref s1.heap.objs.size,bj H1 s1.heap.objs.size (.tup xs),I1.laid (t':=s1.toks) (λb u e=>aK _ e) (bO _) ?_,rfl,q _ hf⟩;exact⟨z,us,r,⟨_,bF _ rfl,rfl,_,rfl⟩⟩
theorem ZS (h:PA X es t):PE X (.List es pos) (Q2 t):=by
 intro pins s Z H Q I hq;refine wpAny_List_spliced (c5 (h pos pins s Z H _ I hq) λus s1 ⟨xs,H1,I1,r,z,q⟩=>⟨by rw[<-r.length];exact z,?_⟩);have hf:H1 s1.heap.objs.size=none:=I1.hok.fresh (bO _);refine⟨.ref s1.heap.objs.size,bj H1 s1.heap.objs.size (.lst xs),I1.laid (t':=s1.toks) (λb u e=>aK _ e) (bO _) ?_,rfl,q _ hf⟩;exact⟨z,us,0,r,bF _ rfl⟩
end
abbrev Sp:=List V->Hp->VK->XK->Prop
abbrev t9:=List Env->Hp->aF->XK->aB->aF->Prop
structure si (P:bU) (w:dJ) (K:aH) (mg:Str->Option aB) (base:Heap) (A:dD) (outer:List Env) (s:aF) (H:Hp):Prop where
 frames:A.frames=some outer
 mod:Mod K mg base
 bs:∀b o,base.get? b=some o->s.heap.get? b=some o/\H b=none
 bsz:base.objs.size<=s.heap.objs.size
 funs:s.heap.FunFrames base outer
 frf:∀b∈p8 outer,H b=none
 hok:jp P w H s.heap
 bare:AllBare s.gens
def CE (outer:List Env) (P:bU) (w:dJ) (H:Hp) (s:aF) (Q:VK) (u:aB) (s':aF):Prop :=
 ∃v H',s'.os=s.os/\AllBare s'.gens/\Un (p8 outer) [] H H' s.heap s'.heap/\jp P w H' s'.heap/\RelV v u/\Q v H'
def CR (CX:t9) (outer:List Env) (P:bU) (w:dJ) (H:Hp) (s:aF) (Q:VK) (E:XK) (r:Result) (s':aF):Prop :=
 match r with
 | .ok (.ret u)=>CE outer P w H s Q u s'
 | .ok _=>False
 | .error e=>CX outer H s E e s'
structure iw (P:bU) (w:dJ) (K:aH) (mg:Str->Option aB) (base:Heap) (CX:t9) (k:Nat) (f:Addr) (fd:lO) (ps:List Str) (sp:Sp):Prop where
 len:∀vs H Q E,sp vs H Q E->vs.length=ps.length
 run:∀(A:dD) (outer:List Env) (s:aF) (H:Hp) (args:Args) (us:List aB) (vs:List V) (Q:VK) (E:XK),cj k A->si P w K mg base A outer s H->BindsTo s fd args (ps.zip us)->ao vs us->sp vs H Q E ->
  codeAny (model P w) A (.call (.ref f) args) (CR CX outer P w H s Q E) s
section
variable {σ:St} {s s':aF}
theorem Inv.env0 (I:Inv X pins σ H s):si X.prog X.w X.K X.mg X.base X.A X.stack s H :=
 ⟨I.ok.frames,I.ok.mod,I.bs,fK I.ok.bsz I.sz,I.stack,I.stkFree,I.hok,I.bare⟩
theorem Inv.after (I:Inv X pins σ H s) (h:CE X.stack X.prog X.w H s Q u s'):EP X pins σ Q u s':=by
 obtain⟨v,H',os,bare,un,hok,r,q⟩:=h;obtain⟨hh,g,d,t,os'⟩:=s';obtain rfl:os'=s.os:=os;exact⟨v,H',I.call (h':=hh) (g':=g) (d':=d) (t':=t) (ch:=[]) un hok bare (λb z=>absurd z (by simp)),r,q⟩
end
def G7 (sp:Sp) (ue:List V) (E:XK) (t:TA):TE:=λZ H Q=>t Z H λvs H1=>sp (vs++ue) H1 Q E
def Binds (K:aH) (fd:lO) (ps:List Str) (ds:List aB):Prop :=
 ∀(s:aF) (us:List aB),K.In s.heap->(us++ds).length=ps.length->BindsTo s fd ⟨us,[]⟩ (ps.zip (us++ds))
def Binds.all {K:aH} {fd:lO} {ps:List Str} (h:∀us:List aB,us.length=ps.length->bindArgs fd ⟨us,[]⟩=pure (ps.zip us)):Binds K fd ps []:=λs us _ hl=>by
 rw[eJ] at hl ⊢;exact .of_eq (h us hl)
def Ey (CX:t9) (X:Cx) (E:XK):Prop:=∀(pins:List (Addr × Obj)) (Z:St) (H:Hp) (s:aF) (e:aB) (s':aF),Inv X pins Z H s->CX X.stack H s E e s'->X.xe e s'
section
variable {X:Cx} {CX:t9} {k:Nat} {f C:Addr} {fd:lO} {ps:List Str} {sp:Sp} {ue:List V} {ds:List aB} {E:XK} {x m:Str} {p pos apos:Pos} {e o:Expr} {es:List Expr} {t:TA}
theorem Zl {Z:St} {s:aF} (F:iw X.prog X.w X.K X.mg X.base CX k f fd ps sp) (hr:cj k X.A) (hb:Binds X.K fd ps ds) (hd:ao ue ds) (hx:Ey CX X E)
  (I:Inv X pins Z H s) (r:ao vs us) (h:sp (vs++ue) H Q E):wpAny (model X.prog X.w) X.A (call (.ref f) us) (EP X pins Z Q) X.xe s:=by
 have r2:ao (vs++ue) (us++ds):=r.append hd;have hl:(us++ds).length=ps.length:=by rw[<-r2.length];exact F.len _ _ _ _ h
 refine ID (uP (F.run X.A X.stack s H ⟨us,[]⟩ (us++ds) (vs++ue) Q E hr I.env0 (hb s us I.kIn hl) r2 h) λr s' hq=>?_);cases r with
 | error e=>exact hx pins Z H s e s' I hq
 | ok fl =>
  cases fl with
  | ret u=>exact I.after hq
  | next=>exact mV hq
  | brk=>exact mV hq
  | cont=>exact mV hq
theorem Tw (F:iw X.prog X.w X.K X.mg X.base CX k f fd ps sp) (hr:cj k X.A) (hg:Gl X x) (hm:X.mg x=some (.ref f)) (hk:nO X.K (.ref f)=true) (hb:Binds X.K fd ps ds) (hd:ao ue ds) (hx:Ey CX X E)
  (ha:PA X (e::es) t) (oa:(x == ("__debug__":Str))=false:=by decide) (he:starEach (e::es) X.env=(false,eval e X.env)::starEach es X.env:=by rfl) (j2:(backTo pos (starEach es X.env)).any (·.1)=false:=by rfl) :
  PE X (.Call (.Name x p) (e::es) [] pos) (G7 sp ue E t):=by
 intro pins s Z H Q I h;refine gP (Tc I hg hm ?_ oa);refine PySem.W.callWith_K (h₀:=X.base) I.ok.mod.kin hk (c5 (ha pos pins s Z H _ I h) λus s1 ⟨vs,H1,I1,r,q⟩=>⟨I1.kIn,?_⟩) he j2;exact Zl F hr hb hd hx I1 r q
end
structure e9 (N P:List Str) (sc:Scope):Prop where
 kind:sc.kind = .function
 co:sc.isCoroutine=false
 gen:sc.isGenerator=false
 nd:N.Nodup
 pre:N.take P.length=P
 par:∀x∈P,sc.names.lookup x=some .local\/sc.names.lookup x=some .cell
 nofree:∀y∈sc.names,y.2≠.free
theorem WA {kindOf:Str->Option NameKind} {x:Str}:∀{binds:List (Str × aB)} {m:Str->Option aB},(∀v,(x,v) ∉ binds)->bindL kindOf binds m x=m x
 | [],_,_=>rfl
 | (n,v)::r,m,h=>by
  unfold bindL;rw[WA λw hw=>h w (aT _ hw)];split
  ·have:x≠n:=(by rintro rfl;exact h v cF);simp[this]
  ·rfl
theorem VY {kindOf:Str->Option NameKind} {x:Str}:∀{binds:List (Str × aB)} {m:Str->Option aB},(∀v,(x,v) ∉ binds)->bindC kindOf binds m x=m x
 | [],_,_=>rfl
 | (n,v)::r,m,h=>by
  unfold bindC;rw[VY λw hw=>h w (aT _ hw)];split
  ·rfl
  ·have:x≠n:=(by rintro rfl;exact h v cF);simp[this]
theorem VZ {kindOf:Str->Option NameKind} {x:Str} {v:aB}:∀{P:List Str} {vs:List aB} {i:Nat} {m:Str->Option aB},P.Nodup->P[i]? = some x->vs[i]? = some v->kindOf x=some .local ->
  bindL kindOf (P.zip vs) m x=some v
 | [],_,_,_,_,h,_,_=>by simp at h
 | _::_,[],_,_,_,_,h,_=>by simp at h
 | p::P,w::vs,0,m,nd,h1,h2,hk=>by
  simp at h1 h2;subst h1;subst h2;show bindL kindOf ((p,w)::P.zip vs) m p=_;unfold bindL;rw[WA λv hv=>(fJ.mp nd).1 (tW hv).1,if_pos hk];simp
 | p::P,w::vs,i+1,m,nd,h1,h2,hk=>by
  show bindL kindOf ((p,w)::P.zip vs) m x=_;unfold bindL;exact VZ (i:=i) (fJ.mp nd).2 (by simpa using h1) (by simpa using h2) hk
theorem VX {kindOf:Str->Option NameKind} {x:Str} {v:aB}:∀{P:List Str} {vs:List aB} {i:Nat} {m:Str->Option aB},P.Nodup->P[i]? = some x->vs[i]? = some v->kindOf x≠some .local ->
  bindC kindOf (P.zip vs) m x=some v
 | [],_,_,_,_,h,_,_=>by simp at h
 | _::_,[],_,_,_,_,h,_=>by simp at h
 | p::P,w::vs,0,m,nd,h1,h2,hk=>by
  simp at h1 h2;subst h1;subst h2;show bindC kindOf ((p,w)::P.zip vs) m p=_;unfold bindC;rw[VY λv hv=>(fJ.mp nd).1 (tW hv).1,if_neg hk];simp
 | p::P,w::vs,i+1,m,nd,h1,h2,hk=>by
  show bindC kindOf ((p,w)::P.zip vs) m x=_;unfold bindC;exact VX (i:=i) (fJ.mp nd).2 (by simpa using h1) (by simpa using h2) hk
def start (N:List Str) (vs:List V):St:=vs.map some++eY (N.length-vs.length) none
def JM (CX:t9) (P:bU) (w:dJ) (K:aH) (mg:Str->Option aB) (base:Heap) (N:List Str) (qual:Str) (scope:Scope) (f:Addr) (cd:aB) (A:dD) (outer:List Env) (s:aF) (H:Hp) (E:XK):Cx where
 prog:=P
 w:=w
 K:=K
 mg:=mg
 base:=base
 A:=A.deeper (envOfC qual scope s.heap.objs.size f cd)
 N:=N
 s₀:=s
 H₀:=H
 env:=envOfC qual scope s.heap.objs.size f cd
 outer:=outer
 stack:=envOfC qual scope s.heap.objs.size f cd::outer
 ex:=[]
 calm:=true
 fn:=λ_=>true
 pn:=[]
 xe:=λe s'=>wpAny (model P w) (A.deeper (envOfC qual scope s.heap.objs.size f cd)) (leaving (envOfC qual scope s.heap.objs.size f cd) e) (λ_ s''=>CX outer H s E e s'') (λe' s''=>CX outer H s E e' s'') s'
def Av {sc:Scope} {n:Nat} {x:Str} (h:sc.names.lookup x=some .cell):∃c,(cellsFrom n sc.names []).lookup x=some c:=by
 have q:=zR sc.names n [] (.inl h);exact Option.isSome_iff_exists.mp q
def Lf {CX:t9} {P:bU} {w:dJ} {K:aH} {mg:Str->Option aB} {base:Heap} {N ps:List Str} {qual:Str} {scope:Scope} {f:Addr} {cd:aB} {A:dD} {outer:List Env} {s s1:aF} {H:Hp} {E:XK} {us:List aB} {vs:List V}
  (S:e9 N ps scope) (hd:A.handled=none) (e0:si P w K mg base A outer s H) (hl:vs.length=ps.length) (r:ao vs us)
  (x:InCallC s s.heap.objs.size (bindL (envOfC qual scope s.heap.objs.size f cd).kindOf (ps.zip us) λ_=>none) (cellsFrom (s.heap.objs.size+1) scope.names []) (bindC (envOfC qual scope s.heap.objs.size f cd).kindOf (ps.zip us) λ_=>none) s1) :
  Inv (JM CX P w K mg base N qual scope f cd A outer s H E) [] (start N vs) H s1:=by
 have j2:ps.length<=N.length:=by have:=congrArg fM S.pre;rw[gT] at this;lia
 obtain⟨h1,tk,rfl,hk⟩:=x.done;have wj:∀b:Addr,b ∉ (JM CX P w K mg base N qual scope f cd A outer s H E).ex:=λb z=>absurd (show b∈([]:List Addr) from z) (by simp);refine⟨⟨e0.mod,S.kind,rfl,rfl,bO _,λy z c h1 h2=>?_,λy hy=>?_,λy c _ h=>?_,λ_=>hd,Around.frames_deeper e0.frames,.inr ⟨rfl,rfl⟩,λb z=>absurd z (wj b),e0.bs,e0.bsz,λb _ _=>wj b,λb z=>absurd z (wj b),e0.funs,e0.frf⟩,
  rfl,e0.bare,Un.kept hk,⟨_,x.toInCall.ns,λi y v h1 h2 h3=>?_⟩,λy c h=>⟨_,x.cell y c h⟩,e0.hok.fresh (bO _),λy c h=>?_,λp hp=>absurd (show p∈([]:List (Addr × Obj)) from hp) (by simp),e0.hok.kept hk,?_⟩
 ·exact name_of_addr x.apart (lE h1) (lE h2)
 ·have hy:scope.names.lookup y=some .cell\/scope.names.lookup y=some .free:=hy;rcases hy with hy | hy
  ·exact Av hy
  ·exact absurd rfl (S.nofree _ (lE hy))
 ·exact lI (x.above y c (lE h))
 ·have hi:i<vs.length:=by
   unfold start at h2;by_cases hi:i<vs.length
   ·exact hi
   ·rw[dR (by simpa using hi)] at h2;rw[jE] at h2;split at h2 <;> cases h2
  have ha:vs[i]? = some v:=by
   unfold start at h2;rw[dH (by simpa using hi),bK] at h2;cases e:vs[i]? with
   | none=>rw[e] at h2;cases h2
   | some a=>rw[e] at h2;cases h2;rfl
  obtain⟨u,hu,rv⟩:=r.get ha;have hp:ps[i]? = some y:=by
   rw[<-S.pre,List.getElem?_take_of_lt (by lia)];exact h1
  have ndP:ps.Nodup:=by rw[<-S.pre];exact S.nd.sublist (IY _ _)
  refine⟨u,rv,?_⟩;rcases S.par y (eW hp) with k | k
  ·exact .inl ⟨k,VZ ndP hp hu k⟩
  ·obtain⟨c,e⟩:=Av (n:=s.heap.objs.size+1) k;refine .inr ⟨.inl k,c,e,?_⟩;have q:=x.cell y c e;rw[VX ndP hp hu (by show scope.names.lookup y≠_;rw[k];decide)] at q;exact q
 ·exact e0.hok.fresh (lI (x.above y c (lE h)))
 ·unfold start;show _=N.length;rw[dA,bV,mC];lia
theorem Wa {CX:t9} {P:bU} {w:dJ} {K:aH} {mg:Str->Option aB} {base:Heap} {k:Nat} {f:Addr} {name qual:Str} {params:Arguments} {body:List Stmt} {scope:Scope} {dV kV doc pm dm ct oc:aB} {an od:Option Addr}
  {om:Array (Option aB)} {N ps:List Str} {sp:Sp} (lk:K.lookup f=some ⟨oc,od,.func (mM name qual params body scope dV kV doc pm an dm ct),om⟩) (fj:nN K dm qual=true) (S:e9 N ps scope)
  (len:∀vs H Q E,sp vs H Q E->vs.length=ps.length)
  (fe:∀(A:dD) (outer:List Env) (s:aF) (H:Hp) (vs:List V) (Q:VK) (E:XK),cj k (A.deeper (envOfC qual scope s.heap.objs.size f dm))->sp vs H Q E ->
   ∃t,ly (JM CX P w K mg base N qual scope f dm A outer s H E) body t/\t { nx:=λ_ H'=>Q .non H',rt:=Q } (start N vs) H) :
  iw P w K mg base CX (k+1) f (mM name qual params body scope dV kV doc pm an dm ct) ps sp:=by
 refine⟨len,λA outer s H args us vs Q E hr e0 hb r U6=>?_⟩;have hl:=len _ _ _ _ U6;have KX:K.In s.heap:=e0.mod.kin.keeps λb o e=>(e0.bs b o e).1;have lim:s.heap.NoLimit:=e0.mod.nolimit.keeps λb o e=>(e0.bs b o e).1;have hkind:∀y∈ps.zip us,scope.names.lookup y.1=some .local\/(scope.names.lookup y.1=some .cell/\((cellsFrom (s.heap.objs.size+1) scope.names []).lookup y.1).isSome=true):=λ⟨n,v⟩ hy=>by
  rcases S.par n (tW hy).1 with q | q
  ·exact .inl q
  ·exact .inr ⟨q,zR _ _ _ (.inl q)⟩
 refine codeAny_call_function hr.depth (KX _ _ lk) rfl S.co S.gen rfl (PySem.W.codeRec_of KX fj) (hb _ _ _ _ ?_);refine wpAny_newFunctionEnv_cells S.kind hkind λenv he s1 x=>?_;subst he;refine⟨lim.keeps x.toInCall.keep,codeAny_func ?_⟩;obtain⟨t,ht,hq⟩:=fe A outer s H vs Q E (hr.deeper _) U6;have I:Inv (JM CX P w K mg base N qual scope f dm A outer s H E) [] (start N vs) H s1:=Lf S hr.hd e0 hl r x;refine jC (ht [] s1 (start N vs) H _ I hq) (λfl s' hs=>?_) λe s' hs=>hs;have fin:∀{Z':St} {H':Hp} {v:V} {u:aB},Inv (JM CX P w K mg base N qual scope f dm A outer s H E) [] Z' H' s'->RelV v u->Q v H'->CE outer P w H s Q u s' :=
  λ{Z' H' v u} J rv q=>⟨v,H',J.os,J.bare,J.base,J.hok,rv,q⟩
 cases fl with
 | ret u =>
  obtain⟨v,Z',H',J,rv,q⟩:=hs;exact fin J rv q
 | next =>
  obtain⟨Z',H',J,q⟩:=hs;exact fin (v:=V.non) (u:=gO) J rfl q
 | brk =>
  obtain⟨_,_,_,q⟩:=hs;exact mV q
 | cont =>
  obtain⟨_,_,_,q⟩:=hs;exact mV q
section
variable {X:Cx} {x:Str} {p pos:Pos} {e:Expr} {es:List Expr} {t:TA} {id T:String} {r:List V->Hp->VK->Prop}
def tCB (r:List V->Hp->VK->Prop) (t:TA):TE:=λZ H Q=>t Z H λvs H1=>r vs H1 Q
theorem yP (hc:wM X (.builtin id) r) (hg:Gl X x) (hm:X.mg x=none) (hv:bootBuiltins x=some (.builtin id)) (ha:PA X (e::es) t) (hn:x≠"__name__":=by decide) (oa:(x == ("__debug__":Str))=false:=by decide)
  (he:starEach (e::es) X.env=(false,eval e X.env)::starEach es X.env:=by rfl) (j2:(backTo pos (starEach es X.env)).any (·.1)=false:=by rfl):PE X (.Call (.Name x p) (e::es) [] pos) (tCB r t):=by
 intro pins s Z H Q I h;refine gP (tY I hg hm hv ?_ hn oa);exact sY (c5 (ha pos pins s Z H _ I h) λus s1 ⟨vs,H1,I1,r1,q1⟩=>hc pins s1 Z H1 vs us Q I1 r1 q1) he j2
theorem NC (hc:wM X (.type T) r) (hg:Gl X x) (hm:X.mg x=none) (hv:bootBuiltins x=some (.type T)) (ha:PA X (e::es) t) (hn:x≠"__name__":=by decide) (oa:(x == ("__debug__":Str))=false:=by decide)
  (he:starEach (e::es) X.env=(false,eval e X.env)::starEach es X.env:=by rfl) (j2:(backTo pos (starEach es X.env)).any (·.1)=false:=by rfl):PE X (.Call (.Name x p) (e::es) [] pos) (tCB r t):=by
 intro pins s Z H Q I h;refine gP (tY I hg hm hv ?_ hn oa);exact gQ (c5 (ha pos pins s Z H _ I h) λus s1 ⟨vs,H1,I1,r1,q1⟩=>hc pins s1 Z H1 vs us Q I1 r1 q1) he j2
end
end L2
namespace HT
open PySem PyProof.Rows
def lexLt:List Int->List Int->Bool
 | [],[]=>false
 | [],_::_=>true
 | _::_,[]=>false
 | x::xs,y::ys=>if x=y then lexLt xs ys else decide (x<y)
def lexLt_cons (x y:Int) (xs ys:List Int):lexLt (x::xs) (y::ys)=if x=y then lexLt xs ys else decide (x<y):=rfl
def UY:lexLt [] []=false:=rfl
def SI (y:Int) (ys:List Int):lexLt [] (y::ys)=true:=rfl
def SH (x:Int) (xs:List Int):lexLt (x::xs) []=false:=rfl
def Ov (A:dD) (s:aF) (a:Int) (t:Tok) (c:Int) (u:Tok):∃e,HC A s (.int a t) (.int c u) e/\(e=true↔a=c) :=
 ⟨(a == c),HF a t c u,by simp⟩
def Ra (A:dD) (s:aF) (a:Int) (t:Tok) (c:Int) (u:Tok) (prog:bU) (w:dJ) (E:aB->aF->Prop) (Q:aB->aF->Prop) (h:Q (.bool (decide (a<c))) s) :
  wpAny (model prog w) A (richCompare .Lt (.int a t) (.int c u)) Q E s :=
 (PyProof.Rows.lt_int h:wpAny (model prog w) A (compareOp .Lt (.int a t) (.int c u)) Q E s)
section
open PySem.SeqAt
open PySem.AutoSeq1 (wpAny_loadPart')
open PySem.MeetsSeq PySem.MeetsSeq2 PySem.MeetsSeq3
def VM (l b:Addr) (items c9:Array aB) (n n2:Nat) (dd xc:Option Addr) (sl u6:Array (Option aB)) (ns ms:List Int) (hi:IntsAre items.toList ns) (hj:IntsAre c9.toList ms) :
  Meets (Builtin.«tuple.__lt__» ⟨[.ref l,.ref b],[]⟩)
   (λ_ R s=>s.heap.get? l=some { cls:=.type "tuple",dict:=dd,data:=.seq items n,slots:=sl }/\s.heap.get? b=some { cls:=.type "tuple",dict:=xc,data:=.seq c9 n2,slots:=u6 } /\
    R (.ok (.ret (.bool (lexLt ns ms)))) s) :=
 .of_wp λprog w A R s h=>by
  obtain⟨hp,g,d,tk,os⟩:=s;obtain⟨hl,hb,h⟩:=h;have f2:=AutoSeq1.sub_tuple_tuple;have z1:items.size=ns.length:=by rw[<-hi.length];simp
  have z2:c9.size=ms.length:=by rw[<-hj.length];simp
  wp_walk using uA hl,uA hb,tJ _ (λrest b s'=>b.1=none/\s'=⟨hp,g,d,tk,os⟩/\∃(vs ws:List aB) (ns' xq:List Int),rest=vs.zip ws /\
   IntsAre vs ns'/\IntsAre ws xq/\ns'.length+c9.size=xq.length+items.size/\R (.ok (.ret (.bool (lexLt ns' xq)))) ⟨hp,g,d,tk,os⟩) _
  case turn =>
   rintro⟨y,x⟩ rest b s' ⟨yw,rfl,vs,ws,ns',xq,hz,hvi,U7,hlen,hR⟩;cases hvi with
   | nil=>rw[List.zip_nil_left] at hz;cases hz
   | cons a t hvi' =>
    cases U7 with
    | nil=>rw[List.zip_nil_right] at hz;cases hz
    | cons c u hwi' =>
     rw[nZ] at hz;injection hz with hyx zi;injection hyx with hy hx;subst hy hx;rw[lexLt_cons] at hR;simp only[bH] at hlen;obtain⟨e,he,y_⟩:=Ov A.in1 ⟨hp,g,d,tk,os⟩ a t c u;refine aA (he prog w _ _ ?_);cases e with
     | true =>
      rw[if_pos (y_.mp rfl)] at hR
      wp_walk
      exact⟨rfl,rfl,_,_,_,_,zi,hvi',hwi',by lia,hR⟩
     | false =>
      rw[if_neg (λq=>absurd (y_.mpr q) cC)] at hR;have hri:=Ra A.in1 ⟨hp,g,d,tk,os⟩ a t c u prog w
      wp_walk using hri
      exact⟨_,rfl,by simpa using hR⟩
  case fin =>
   rintro⟨b1,b2⟩ s' ⟨yw,rfl,vs,ws,ns',xq,hz,hvi,U7,hlen,hR⟩;simp only at yw;subst yw;have hv:lexLt ns' xq=decide (items.size<c9.size):=by
    cases hvi with
    | nil =>
     cases U7 with
     | nil =>
      simp only[eK] at hlen;rw[UY];exact (decide_eq_false (by lia)).symm
     | cons c u hw =>
      simp only[eK,bH] at hlen;rw[SI];exact (decide_eq_true (by lia)).symm
    | cons a t hv =>
     cases U7 with
     | nil =>
      simp only[eK,bH] at hlen;rw[SH];exact (decide_eq_false (by lia)).symm
     | cons c u hw =>
      rw[nZ] at hz;cases hz
   rw[hv] at hR
   wp_walk
   exact⟨_,rfl,by simpa [Builtin.Tuple.tupleCompareSizes] using hR⟩
  case h =>
   exact⟨rfl,rfl,items.toList,c9.toList,ns,ms,rfl,hi,hj,by lia,h⟩
end
section
variable {prog:bU} {w:dJ} {A:dD} {E:aB->aF->Prop} {s:aF}
theorem lt_tupInts {ns ms:List Int} (hl:IsTup s.heap l items) (hb:IsTup s.heap b c9) (hi:IntsAre items.toList ns) (hj:IntsAre c9.toList ms)
  (hu:A.units<cLine) (h:Q (.bool (lexLt ns ms)) s):wpAny (model prog w) A (compareOp .Lt (.ref l) (.ref b)) Q E s:=by
 obtain⟨⟨cls,dd,data,sl⟩,ho,hc,n,hd⟩:=id hl;obtain⟨⟨X5,xc,data2,u6⟩,pi,uo,n2,hd2⟩:=id hb;simp only at hc hd uo hd2;subst hc hd uo hd2;exact richCompare_meets_room (op:=.Lt) ⟨_,ho,rfl⟩ ⟨_,pi,rfl⟩ PySem.F.slot_tuple_lt PySem.F.entry_tuple_lt (PySem.F.args_tuple_lt_2 _ _) (VM l b items c9 n n2 dd xc sl u6 ns ms hi hj)
  ⟨ho,pi,show HH (lexLt ns ms)≠Value.notImplemented/\Q (.bool (lexLt ns ms)) s from ⟨(λx=>nomatch x),h⟩⟩ hu
theorem cat_tup (ht:IsTup s.heap t vs.toArray) (hb:IsTup s.heap b ws.toArray) (hv:vs≠[])
  (h1:ws=[]->Q (.ref t) s) (h2:ws≠[]->Q (.ref s.heap.objs.size) { s with heap:=s.heap.push { cls:=.type "tuple",data:=.seq (vs++ws).toArray } })
  (j3:vs.length+ws.length<=sizeLine):wpAny (model prog w) A (binaryOp .Add (.ref t) (.ref b)) Q E s:=by
 obtain⟨⟨cls,dd,data,sl⟩,ho,hc,n,hd⟩:=id ht;obtain⟨⟨X5,xc,data2,u6⟩,pi,uo,n2,hd2⟩:=id hb;simp only at hc hd uo hd2;subst hc hd uo hd2;have e:vs.toArray++ws.toArray=(vs++ws).toArray:=by simp
 by_cases hw:ws=[]
 ·exact JL ⟨_,ho,rfl⟩ ⟨_,pi,rfl⟩ MZ VJ zQ yF (xJ _ _)
   (tuple_addW1 t b vs.toArray ws.toArray n n2 dd xc sl u6 (by simpa using hv) (by simp[hw])) ⟨ho,pi,h1 hw⟩
 ·refine JL ⟨_,ho,rfl⟩ ⟨_,pi,rfl⟩ MZ VJ zQ yF (xJ _ _)
   (tuple_addW2 t b vs.toArray ws.toArray n n2 dd xc sl u6 (by simpa using hv) (by simpa using hw) (by rw[aY,aY];exact j3)) ⟨ho,pi,?_⟩
  rw[e];exact h2 hw
def sIx (n d:Nat):Option Int->Nat
 | none=>d
 | some v=>if v<0 then (v+(n:Int)).toNat else min v.toNat n
theorem sIx_none (n d:Nat):sIx n d none=d:=rfl
theorem sIx_nat (n d k:Nat):sIx n d (some (k:Int))=min k n:=by
 show (if (k:Int)<0 then ((k:Int)+(n:Int)).toNat else min (k:Int).toNat n)=min k n;rw[if_neg (by lia),oW]
theorem Zm (n d:Nat) (hd:d<=n) (o:Option Int):sIx n d o<=n:=by
 cases o with
 | none=>exact hd
 | some v =>
  show (if v<0 then (v+(n:Int)).toNat else min v.toNat n)<=n;by_cases hv:v<0
  ·rw[if_pos hv];lia
  ·rw[if_neg hv];exact Nat.min_le_right _ _
theorem Ie (v:Int) (n d:Nat):(if v<0 then max (v+(n:Int)) 0 else min v (n:Int))=((sIx n d (some v):Nat):Int):=by
 show (if v<0 then max (v+(n:Int)) 0 else min v (n:Int))=(((if v<0 then (v+(n:Int)).toNat else min v.toNat n):Nat):Int);by_cases hv:v<0
 ·simp only[if_pos hv];lia
 ·simp only[if_neg hv];lia
theorem Fb (lo hi:Option Int) (n:Nat):qE lo hi 1 (n:Int)=(((sIx n 0 lo:Nat):Int),((sIx n n hi:Nat):Int)):=by
 have h1:¬((1:Int)<0):=by lia
 unfold qE;simp only[h1,if_false];refine lQ ?_ ?_
 ·cases lo with
  | none=>rfl
  | some v=>exact Ie v n 0
 ·cases hi with
  | none=>rfl
  | some v=>exact Ie v n n
theorem Gs (i j:Nat):mG (i:Int) (j:Int) 1=j-i:=by
 unfold mG;have h1:(1:Int) > 0:=by lia
 simp only[h1,if_true,Int.ediv_one];split <;> lia
theorem TX (p:IsPart v o) (h:Q o s):wpAny (model prog w) A (Builtin.Slice.slicePartIndex v) Q E s:=by
 cases p with
 | none=>exact TY h
 | int i t=>exact slicePart_int h
theorem NI {sl:Addr} {vl vu:aB} {lo hi:Option Int} {n:Nat} {Q:Int × Int × Nat->aF->Prop} (hs:s.heap.IsSliceOf sl vl vu .none) (pl:IsPart vl lo) (pu:IsPart vu hi)
  (h:Q (((sIx n 0 lo:Nat):Int),1,sIx n n hi-sIx n 0 lo) s):wpAny (model prog w) A (vH (.ref sl) (pure (n:Int))) Q E s:=by
 obtain⟨os,v_,hcs,xj⟩:=id hs;unfold vH Builtin.Slice.sliceFields;refine aA (aA (gE v_ xj (x:=vl) rfl (aA (gE v_ xj (x:=vu) rfl (aA (gE v_ xj (x:=.none) rfl (aJ ?_)))))));refine aA (TY ?_);show wpAny _ _ (if ((1:Int) == 0)=true then _ else _) _ _ s;rw[if_neg (by decide)];refine aA (TX pl (aA (TX pu (aA (aJ ?_)))));show wpAny _ _ (match qE lo hi 1 (n:Int) with | (lo,hi)=>pure (lo,(1:Int),mG lo hi 1)) _ _ s;rw[Fb lo hi n];show wpAny _ _ (pure (((sIx n 0 lo:Nat):Int),(1:Int),mG ((sIx n 0 lo:Nat):Int) ((sIx n n hi:Nat):Int) 1)) _ _ s;rw[Gs];exact aJ h
theorem Qk (xs:Array aB) (i k:Nat):((dX k).filterMap λ(m:Nat)=>xs[((i:Int)+(m:Int)*1).toNat]?).toArray=((xs.toList.drop i).take k).toArray:=by
 have e:(λ(m:Nat)=>xs[((i:Int)+(m:Int)*1).toNat]?)=λm=>xs[i+m]?:=by
  funext m;have:((i:Int)+(m:Int)*1).toNat=i+m:=by lia
  rw[this]
 rw[e];have:=pick_run xs i k;rw[List.filterMap_map] at this;have e2:((λx=>xs[x]?) ∘ λx=>i+x)=λm=>xs[i+m]?:=rfl;rw[e2] at this;rw[this]
theorem getItem_tuple_cut {lo hi:Option Int} (ht:IsTup s.heap t items) (hs:s.heap.IsSliceOf sl vl vu .none) (pl:IsPart vl lo) (pu:IsPart vu hi)
  (hw:¬(sIx items.size 0 lo=0/\sIx items.size items.size hi=items.size))
  (h:Q (.ref s.heap.objs.size) { s with heap:=s.heap.push { cls:=.type "tuple",data:=.seq ((items.toList.drop (sIx items.size 0 lo)).take (sIx items.size items.size hi-sIx items.size 0 lo)).toArray } })
  (j3:items.size<=sizeLine):wpAny (model prog w) A (getItem (.ref t) (.ref sl)) Q E s:=by
 have o3:sizeOk (.seq ((items.toList.drop (sIx items.size 0 lo)).take (sIx items.size items.size hi-sIx items.size 0 lo)).toArray):=by
  show ((items.toList.drop (sIx items.size 0 lo)).take (sIx items.size items.size hi-sIx items.size 0 lo)).toArray.size<=sizeLine;rw[aY,gT,nH,cN];lia
 have hj:sIx items.size items.size hi<=items.size:=Zm _ _ (bO _) hi;obtain⟨os,v_,hcs,xj⟩:=id hs;have hTs:s.TypeIs (.ref sl) "slice":=⟨os,v_,hcs⟩;unfold getItem
 try with_reducible refine fG ?_
 first | refine aA (aJ ?_) | skip
 refine aA (wpAny_sequenceKey ht.typeIs (by decide) ?_);refine aA (iF (name:=gL "__getitem__") ht.typeIs sS
  (iO sS ht.typeIs entry_tuple_getitem ?_ (args_tuple_getitem _ _)))
 show wpAny _ _ (Builtin.Tuple.tupleItemsOf (.ref t) >>= _) _ _ s;refine aA (tupleItemsOf_ ht ?_);refine aA (sN hTs ?_);rw[if_pos (by decide)];refine aA (NI hs pl pu ?_);have zf:¬((((sIx items.size 0 lo:Nat):Int) == 0 && (1:Int) == 1 && (sIx items.size items.size hi-sIx items.size 0 lo) == items.size)=true):=by
  intro q;rw[gS,gS] at q;have q1:((sIx items.size 0 lo:Nat):Int)=0:=eq_of_beq q.1.1;have q2:sIx items.size items.size hi-sIx items.size 0 lo=items.size:=eq_of_beq q.2;exact hw ⟨by lia,by lia⟩
 show wpAny _ _ (if (((sIx items.size 0 lo:Nat):Int) == 0 && (1:Int) == 1 && (sIx items.size items.size hi-sIx items.size 0 lo) == items.size)=true then _ else _) _ _ s;rw[if_neg zf,Qk]
 first
  | exact aA (m:=mU _) (fP (aJ ⟨_,rfl,aJ h⟩) o3)
  | exact aA (m:=mU _) (fP (aA (aJ (aJ ⟨_,rfl,aJ h⟩))) o3)
  | exact aA (aA (m:=mU _) (fP (aJ (aJ ⟨_,rfl,aJ h⟩)) o3))
  | exact aA (aA (m:=mU _) (fP (aJ ⟨_,rfl,aJ h⟩) o3))
end
end HT
namespace L2
open PySem PySem.Spec PyProof.Rows
abbrev TO:=St->Hp->(Option Int->Hp->Prop)->Prop
def PO (X:Cx) (e:Option Expr) (t:TO):Prop :=
 ∀(pins:List (Addr × Obj)) (s:aF) (Z:St) (H:Hp) (Q:Option Int->Hp->Prop),Inv X pins Z H s->t Z H Q ->
  wpAny (model X.prog X.w) X.A (evalPart e X.env) (λu s'=>∃o H',Inv X pins Z H' s'/\IsPart u o/\Q o H') X.xe s
def Vd:TO:=λ_ H Q=>Q none H
def I0 (t:TE):TO:=λZ H Q=>t Z H λx H1=>∃i,x = .int i/\Q (some i) H1
theorem intsAre_of {ns:List Int}:∀{us:List aB},ao (ns.map V.int) us->IntsAre us ns:=by
 induction ns with
 | nil=>intro us r;rw[cB] at r;cases r;exact .nil
 | cons n ns ih =>
  intro us r;rw[aQ] at r;cases r with
  | cons r1 r2 =>
   obtain⟨t,e⟩:=r1;subst e;exact .cons n t (ih r2)
section
variable {X:Cx} {te:TE} {lo hi:Option Expr} {tl th:TO}
theorem Uc:PO X none Vd:=by
 intro pins s Z H Q I h;rw[UU];exact aJ ⟨none,H,I,.none,h⟩
theorem Ud (h:PE X e te):PO X (some e) (I0 te):=by
 intro pins s Z H Q I hw;rw[evalPart_some];refine c5 (h pins s Z H _ I hw) λu s1 ⟨x,H1,I1,r1,q1⟩=>?_;obtain⟨i,rfl,q⟩:=q1;obtain⟨t,rfl⟩:=r1;exact⟨some i,H1,I1,.int i t,q⟩
def vg (X:Cx) (r:V->Option Int->Option Int->Hp->VK->Prop):Prop :=
 ∀(pins:List (Addr × Obj)) (s:aF) (Z:St) (H:Hp) (x:V) (v vl vu:aB) (lo hi:Option Int) (sl:Addr) (Q:VK),Inv X pins Z H s->RelV x v->s.heap.IsSliceOf sl vl vu .none->IsPart vl lo->IsPart vu hi->r x lo hi H Q ->
  ∃T id,typeLookup (.type T) "__getitem__" = pure (some (.builtin id))/\s.TypeIs v T/\wpAny (model X.prog X.w) X.A (getItem v (.ref sl)) (EP X pins Z Q) X.xe s
theorem vg.or (h:vg X r) (h':vg X r'):vg X (λx lo hi H Q=>r x lo hi H Q\/r' x lo hi H Q):=by
 intro pins s Z H x v vl vu lo hi sl Q I rx hs pl pu q;rcases q with q | q
 ·exact h pins s Z H x v vl vu lo hi sl Q I rx hs pl pu q
 ·exact h' pins s Z H x v vl vu lo hi sl Q I rx hs pl pu q
def tSl (r:V->Option Int->Option Int->Hp->VK->Prop) (te:TE) (tl th:TO):TE:=λZ H Q=>te Z H λx H1=>tl Z H1 λl H2=>th Z H2 λu H3=>r x l u H3 Q
theorem Cw (hr:vg X r) (he:PE X e te) (hl:PO X lo tl) (hu:PO X hi th):PE X (.Subscript e (.Slice lo hi none p2) pos) (tSl r te tl th):=by
 intro pins s Z H Q I h;refine Subscript_ (c5 (he pins s Z H _ I h) λv s1 ⟨x,H1,I1,r1,q1⟩=>?_);refine wpAny_Slice (c5 (hl pins s1 Z H1 _ I1 q1) λvl s2 ⟨l,H2,I2,pl,q2⟩=>c5 (hu pins s2 Z H2 _ I2 q2) λvu s3 ⟨u,H3,I3,pu,q3⟩=>?_);rw[UU];refine aJ ?_;have I4:Inv X pins Z H3 { s3 with heap:=s3.heap.push { cls:=.type "slice",data:=.fields #[vl,vu,.none] } }:=I3.kept (t':=s3.toks) λb ob q=>aK _ q;obtain⟨T,id,hT,ht,hg⟩:=hr pins { s3 with heap:=s3.heap.push { cls:=.type "slice",data:=.fields #[vl,vu,.none] } } Z H3 x v vl vu l u s3.heap.objs.size Q I4 r1 (Heap.IsSliceOf.new ..) pl pu q3;show wpAny (model X.prog X.w) X.A (subscriptTail e (.Slice lo hi none p2) v (.ref s3.heap.objs.size)) (EP X pins Z Q) X.xe { s3 with heap:=s3.heap.push { cls:=.type "slice",data:=.fields #[vl,vu,.none] } };exact tail_any (ops:=[.ref s3.heap.objs.size,v]) ht hT hg (by with_unfolding_all rfl)
def US (xs:List V) (lo hi:Option Int):List V:=(xs.drop (HT.sIx xs.length 0 lo)).take (HT.sIx xs.length xs.length hi-HT.sIx xs.length 0 lo)
theorem NQ (xs:List V) (lo hi:Option Int):(US xs lo hi).length<=xs.length:=by
 unfold US;rw[gT,nH];lia
def O3 (K:aH):V->Option Int->Option Int->Hp->VK->Prop:=λx lo hi H Q=>∃a xs,x = .ref a/\fh K H a xs /\
 ¬(HT.sIx xs.length 0 lo=0/\HT.sIx xs.length xs.length hi=xs.length)/\∀p,H p=none->Q (.ref p) (bj H p (.tup (US xs lo hi)))
theorem Zn:vg X (O3 X.K):=by
 intro pins s Z H x v vl vu lo hi sl Q I rx hs pl pu h;obtain⟨a,xs,rfl,hx,hw,q⟩:=h;cases rx;obtain⟨its,r,ht,hz⟩:=I.tuple hx;have hlen:its.toArray.size=xs.length:=by rw[aY];exact r.length.symm
 refine⟨"tuple",_,PyProof.Rows.slot_tuple_getitem.lookup,ht.typeIs,?_⟩;refine HT.getItem_tuple_cut ht hs pl pu (by rw[hlen];exact hw) ?_ (by rw[hlen];exact hz);rw[hlen];refine⟨.ref s.heap.objs.size,_,I.laid (t':=s.toks) (o:=.tup (US xs lo hi)) (λb ob q=>aK _ q) (bO _) ?_,rfl,q _ (I.hok.fresh (bO _))⟩;exact⟨fK (NQ xs lo hi) hz,_,(r.drop (HT.sIx xs.length 0 lo)).take (HT.sIx xs.length xs.length hi-HT.sIx xs.length 0 lo),LO _ _⟩
def N6 (K:aH):R2:=λx y H Q=>∃a b ns ms,x = .ref a/\y = .ref b/\fh K H a (ns.map V.int)/\fh K H b (ms.map V.int)/\Q (.bl (HT.lexLt ns ms)) H
theorem Ym (hu:X.A.units<cLine):jw X (compareOp .Lt) (N6 X.K):=by
 intro pins s Z H x y v u Q I rx ry h;obtain⟨a,b,ns,ms,rfl,rfl,ha,hb,q⟩:=h;cases rx;cases ry;obtain⟨its,r1,p1,_⟩:=I.tuple ha;obtain⟨gg,r2,p2,_⟩:=I.tuple hb;have i1:IntsAre its.toArray.toList ns:=intsAre_of r1;have i2:IntsAre gg.toArray.toList ms:=intsAre_of r2;exact HT.lt_tupInts p1 p2 i1 i2 hu ⟨.bl (HT.lexLt ns ms),H,I,rfl,q⟩
def F0 (K:aH):R2:=λx y H Q=>∃a b xs ys,x = .ref a/\y = .ref b/\fh K H a xs/\fh K H b ys/\xs≠[]/\xs.length+ys.length<=sizeLine /\
 (ys=[]->Q (.ref a) H)/\(ys≠[]->∀p,H p=none->Q (.ref p) (bj H p (.tup (xs++ys))))
theorem ao.nil_iff (r:ao xs us):us=[]↔xs=[]:=by
 cases r with
 | nil=>simp
 | cons _ _=>simp
theorem Tt:jw X (binaryOp .Add) (F0 X.K):=by
 intro pins s Z H x y v u Q I rx ry h;obtain⟨a,b,xs,ys,rfl,rfl,ha,hb,hx,hz,q1,q2⟩:=h;cases rx;cases ry;obtain⟨its,r1,p1,_⟩:=I.tuple ha;obtain⟨gg,r2,p2,_⟩:=I.tuple hb;refine HT.cat_tup p1 p2 (λz=>hx (r1.nil_iff.mp z)) (λz=>⟨.ref a,H,I,rfl,q1 (r2.nil_iff.mp z)⟩) (λz=>?_) (by rw[<-r1.length,<-r2.length];exact hz);refine⟨.ref s.heap.objs.size,_,I.laid (t':=s.toks) (o:=.tup (xs++ys)) (λb ob q=>aK _ q) (bO _) ?_,rfl,q2 (λw=>z (r2.nil_iff.mpr w)) _ (I.hok.fresh (bO _))⟩;exact⟨by rw[dA];exact hz,_,r1.append r2,LO _ _⟩
end
def m9 (n:Nat) (i:Int):Option Nat:=if 0<=i then (if i<n then some i.toNat else none) else if -(n:Int)<=i then some (i+n).toNat else none
def jm {α:Type} (xs:List α) (i:Int):Option α:=(m9 xs.length i).bind λj=>xs[j]?
def Iz (h:m9 n i=some j):seqIndex? i n=some j/\j<n/\-(n:Int)<=i/\i<n:=by
 unfold m9 at h;by_cases h0:0<=i
 ·rw[if_pos h0] at h;by_cases h1:i<n
  ·rw[if_pos h1] at h;have e:i.toNat=j:=dU h;exact⟨by rw[OI h0 h1,e],by lia,by lia,h1⟩
  ·rw[if_neg h1] at h;cases h
 ·rw[if_neg h0] at h;by_cases h1:-(n:Int)<=i
  ·rw[if_pos h1] at h;have e:(i+n).toNat=j:=dU h;exact⟨by rw[seqIndex_neg (by lia) h1,e],by lia,h1,by lia⟩
  ·rw[if_neg h1] at h;cases h
theorem YE {α:Type} {xs:List α} {v:α} (h:jm xs i=some v):∃j,seqIndex? i xs.length=some j/\xs[j]? = some v/\j<xs.length/\-(xs.length:Int)<=i/\i<xs.length:=by
 unfold jm at h;cases e:m9 xs.length i with
 | none=>rw[e] at h;cases h
 | some j =>
  rw[e] at h;obtain⟨h1,h2,h3,h4⟩:=Iz e;exact⟨j,h1,h,h2,h3,h4⟩
def EL {α:Type} {xs:List α} {j:Nat} {v:α} (h:xs[j]? = some v):jm xs (j:Int)=some v:=by
 have hj:j<xs.length:=(bG.mp h).1;have e:m9 xs.length (j:Int)=some j:=by
  unfold m9;rw[if_pos (by lia),if_pos (by lia)];simp
 unfold jm;rw[e];exact h
def JC (b:Expr):Prop:=∀o i,subscripted b false o i=operate [o,i] (getItem o i)
def vc (X:Cx) (r:R2):Prop :=
 ∀(value slice:Expr) (pins:List (Addr × Obj)) (s:aF) (Z:St) (H:Hp) (x y:V) (v u:aB) (Q:VK),Inv X pins Z H s->RelV x v->RelV y u->r x y H Q ->
  subscripted slice false v u=operate [v,u] (getItem v u)->wpAny (model X.prog X.w) X.A (subscriptTail value slice v u) (EP X pins Z Q) X.xe s
def W9 (X:Cx) (id:String) (r:V->List V->Hp->VK->Prop):Prop :=
 ∀(pins:List (Addr × Obj)) (s:aF) (Z:St) (H:Hp) (x:V) (xs:List V) (v:aB) (us:List aB) (Q:VK),Inv X pins Z H s->RelV x v->ao xs us->r x xs H Q ->
  wpAny (model X.prog X.w) X.A (call (.builtin id) (v::us)) (EP X pins Z Q) X.xe s
section
variable {X:Cx} {a b:Expr}
theorem vc.or (h:vc X r) (h':vc X r'):vc X (λx y H Q=>r x y H Q\/r' x y H Q):=by
 intro value slice pins s Z H x y v u Q I rx ry q hs;rcases q with q | q
 ·exact h value slice pins s Z H x y v u Q I rx ry q hs
 ·exact h' value slice pins s Z H x y v u Q I rx ry q hs
theorem Qh (hr:vc X r) (ha:PE X a ta) (hb:PE X b tb) (hs:JC b):PE X (.Subscript a b pos) (EE r ta tb):=by
 intro pins s Z H Q I h;exact Subscript_ (Wx ha hb I h λv u s2 x y H2 I2 rx ry q=>hr a b pins s2 Z H2 x y v u Q I2 rx ry q (hs _ _))
def M9 (K:aH):R2:=λx y H Q=>∃p xs i v,x = .ref p/\y = .int i/\ij K H p xs/\jm xs i=some v/\Q v H
def N0 (K:aH):R2:=λx y H Q=>∃p xs i v,x = .ref p/\y = .int i/\fh K H p xs/\jm xs i=some v/\Q v H
theorem ZE:vc X (M9 X.K):=by
 intro value slice pins s Z H x y v u Q I rx ry h hs;obtain⟨p,xs,i,z,rfl,rfl,hq,he,q⟩:=h;cases rx;obtain⟨t,rfl⟩:=ry;obtain⟨its,r,pl,hz⟩:=I.list hq;obtain⟨j,h1,h2,h3,h4,h5⟩:=YE he;obtain⟨w,ew,km⟩:=r.get h2;have hl:=r.length;have hn:=SJ;have fin:EP X pins Z Q w s:=⟨z,H,I,km,q⟩;by_cases h0:0<=i
 ·have hj:i.toNat=j:=by
   rw[OI h0 h5] at h1;exact dU h1
  exact item_listR pl.isList h0 (by lia) (by rw[hj];simpa using ew) fin hs
 ·have hj:(i+(its.toArray.size:Int)).toNat=j:=by
   rw[seqIndex_neg (by lia) h4] at h1;rw[aY,<-hl];exact dU h1
  exact sM (x:=w) pl.isList.typeIs slot_list_getitem.lookup
   (wpAny_getItem_list_neg (Q:=λr s'=>r=w/\EP X pins Z Q r s') pl.isList (by lia) (by rw[aY] <;> lia) (by lia) (by rw[hj];simpa using ew) ⟨rfl,fin⟩) hs
theorem Xu:vc X (N0 X.K):=by
 intro value slice pins s Z H x y v u Q I rx ry h hs;obtain⟨p,xs,i,z,rfl,rfl,hq,he,q⟩:=h;cases rx;obtain⟨t,rfl⟩:=ry;obtain⟨its,r,pl,hz⟩:=I.tuple hq;obtain⟨j,h1,h2,h3,h4,h5⟩:=YE he;obtain⟨w,ew,km⟩:=r.get h2;have hl:=r.length;have hn:=SJ;have fin:EP X pins Z Q w s:=⟨z,H,I,km,q⟩;exact sM (x:=w) pl.typeIs slot_tuple_getitem.lookup
  (UV (j:=j) (Q:=λr s'=>r=w/\EP X pins Z Q r s') pl (by lia) (by lia) (by rw[aY,<-hl];exact h1) (by simpa using ew) ⟨rfl,fin⟩) hs
theorem Gf (its:List aB) (n j:Nat) (u:aB):cX (·.setIfInBounds j u) { cls:=.type "list",data:=.seq its.toArray n } = { cls:=.type "list",data:=.seq (its.set j u).toArray n }:=by
 simp[cX]
theorem Inv.lst {Z:St} {s:aF} (I:Inv X pins Z H s) (h:H p=some (.lst xs)) :
  ∃(its:List aB) (n:Nat),ao xs its/\s.heap.get? p=some { cls:=.type "list",data:=.seq its.toArray n }/\xs.length<=sizeLine:=by
 obtain⟨z,its,n,r,e⟩:=I.hok p _ h;exact⟨its,n,r,e,z⟩
theorem Inv.lstUpd {pins:List (Addr × Obj)} {Z:St} {H:Hp} {s:aF} {p:Addr} {xs ys:List V} {its its':List aB} {n n':Nat} {f:Obj->Obj} (I:Inv X pins Z H s) (h:H p=some (.lst xs))
  (ho:s.heap.get? p=some { cls:=.type "list",data:=.seq its.toArray n }) (hf:f { cls:=.type "list",data:=.seq its.toArray n } = { cls:=.type "list",data:=.seq its'.toArray n' }) (r:ao ys its') (hz:ys.length<=sizeLine) (t:Nat) :
  Inv X pins Z (bj H p (.lst ys)) { s with heap:=s.heap.update p f,toks:=t }:=by
 have e:(s.heap.update p f).get? p=some { cls:=.type "list",data:=.seq its'.toArray n' }:=by
  rw[dL f ho (by rw[hf] <;> rfl),hf]
 refine I.write (x:=p) (e:=p) (by rw[h];trivial) (.inl rfl) (λb u hb q=>(cD _ _ (Ne.symm hb)).trans q) ⟨_,e⟩ ?_;exact⟨hz,its',n',r,e⟩
def F5:V->V->V->Hp->(Hp->Prop)->Prop:=λo i v H Q=>∃p xs k j,o = .ref p/\i = .int k/\H p=some (.lst xs)/\m9 xs.length k=some j/\Q (bj H p (.lst (xs.set j v)))
theorem Ri:A0 X F5:=by
 intro pins s Z H o i v ov iv u Q I ro ri rv h;obtain⟨p,xs,k,j,rfl,rfl,hp,hj,q⟩:=h;cases ro;obtain⟨t,rfl⟩:=ri;obtain⟨its,n,r,ho,hz⟩:=I.lst hp;obtain⟨h1,h2,h3,h4⟩:=Iz hj;have hl:=r.length;have hn:=SJ;have I':Inv X pins Z (bj H p (.lst (xs.set j v))) { s with heap:=s.heap.update p (cX (·.setIfInBounds j u)) } :=
  I.lstUpd hp ho (Gf its n j u) (r.set rv j) (by rw[List.length_set];exact hz) s.toks
 by_cases h0:0<=k
 ·have hk:k.toNat=j:=by
   rw[OI h0 h4] at h1;exact dU h1
  exact PySem.W.ki_setAt ho h0 (by lia) (by rw[aY,<-hl];exact h4) (by rw[hk];exact⟨_,I',q⟩)
 ·have hk:(k+(its.toArray.size:Int)).toNat=j:=by
   rw[seqIndex_neg (by lia) h3] at h1;rw[aY,<-hl];exact dU h1
  exact PySem.W.ki_setBack ho (by lia) (by rw[aY,<-hl];exact h3) (by lia) (by rw[hk];exact⟨_,I',q⟩)
theorem Ac (lo hi:Option Int) (n:Nat):(sliceBounds lo hi none n).1=((HT.sIx n 0 lo:Nat):Int)/\(sliceBounds lo hi none n).2.1=((HT.sIx n n hi:Nat):Int)/\(sliceBounds lo hi none n).2.2=1:=by
 refine⟨?_,?_,rfl⟩
 ·cases lo with
  | none=>simp[sliceBounds,HT.sIx]
  | some i =>
   simp only[sliceBounds,HT.sIx,MB,show (1:Int) > 0 by decide,if_true];by_cases h:i<0
   ·simp only[h,if_true] <;> lia
   ·simp only[h,if_false] <;> lia
 ·cases hi with
  | none=>simp[sliceBounds,HT.sIx]
  | some i =>
   simp only[sliceBounds,HT.sIx,MB,show (1:Int) > 0 by decide,if_true];by_cases h:i<0
   ·simp only[h,if_true] <;> lia
   ·simp only[h,if_false] <;> lia
theorem VL (its:List aB) (lo hi:Option Int):slicePick its.toArray lo hi none=((its.drop (HT.sIx its.length 0 lo)).take (HT.sIx its.length its.length hi-HT.sIx its.length 0 lo)).toArray:=by
 obtain⟨h1,h2,h3⟩:=Ac lo hi its.toArray.size;unfold slicePick;rw[h1,h2,h3];simp only[sliceRange_one,pick_run,aY] <;> rfl
def O0 (K:aH):V->Option Int->Option Int->Hp->VK->Prop:=λx lo hi H Q=>∃a xs,x = .ref a/\ij K H a xs/\∀p,H p=none->Q (.ref p) (bj H p (.lst (US xs lo hi)))
theorem Ka:vg X (O0 X.K):=by
 intro pins s Z H x v vl vu lo hi sl Q I rx hs pl pu h;obtain⟨a,xs,rfl,hx,q⟩:=h;cases rx;obtain⟨its,r,ht,hz⟩:=I.list hx;have hlen:=r.length;refine⟨"list",_,slot_list_getitem.lookup,ht.isList.typeIs,?_⟩;refine wpAny_getItem_list_slice ht.isList hs pl pu .none (by simp) ?_ (by rw[aY] <;> lia);rw[VL,<-hlen];refine⟨.ref s.heap.objs.size,_,I.laid (t':=s.toks) (o:=.lst (US xs lo hi)) (λb ob q=>aK _ q) (bO _) ?_,rfl,q _ (I.hok.fresh (bO _))⟩;exact⟨fK (NQ xs lo hi) hz,_,0,(r.drop (HT.sIx xs.length 0 lo)).take (HT.sIx xs.length xs.length hi-HT.sIx xs.length 0 lo),bF _ rfl⟩
theorem YI:wM X (.builtin "len") (λxs H Q=>∃p ys,xs=[.ref p]/\(ij X.K H p ys\/fh X.K H p ys)/\Q (.int ys.length) H):=by
 intro pins s Z H xs us Q I r h;obtain⟨p,ys,rfl,hq,q⟩:=h;obtain⟨u,rfl,rx⟩:=vals1 r;cases rx;have hn:=SJ;rcases hq with hq | hq
 ·obtain⟨its,r',pl,hz⟩:=I.list hq;have hlen:=r'.length;exact Calls.call_len_list pl.isList (by simp only[aY] <;> lia) ⟨.int ys.length,H,I.tok _,⟨s.toks+1,by rw[aY,hlen]⟩,q⟩
 ·obtain⟨its,r',pl,hz⟩:=I.tuple hq;have hlen:=r'.length;exact len_tuple pl (by simp only[aY] <;> lia) ⟨.int ys.length,H,I.tok _,⟨s.toks+1,by rw[aY,hlen]⟩,q⟩
theorem YJ:wM X (.type "list") (λxs H Q=>∃p ys,xs=[.ref p]/\(ij X.K H p ys\/fh X.K H p ys)/\∀l,H l=none->Q (.ref l) (bj H l (.lst ys))):=by
 intro pins s Z H xs us Q I r h;obtain⟨p,ys,rfl,hq,q⟩:=h;obtain⟨u,rfl,rx⟩:=vals1 r;cases rx;have fin:∀(its:List aB),ao ys its->ys.length<=sizeLine->∀(h':Heap) (c':Nat),(∀b o',s.heap.get? b=some o'->h'.get? b=some o') ->
   h'.get? s.heap.objs.size=some { cls:=.type "list",dict:=none,data:=.seq its.toArray c',slots:=#[] }->EP X pins Z Q (.ref s.heap.objs.size) { s with heap:=h' }:=λits r' hz h' c' kp e =>
  ⟨.ref s.heap.objs.size,_,I.laid (t':=s.toks) kp (bO _) (show ci X.prog X.w _ h' _ (.lst ys) from ⟨hz,its,c',r',e⟩),rfl,q _ (I.hok.fresh (bO _))⟩
 rcases hq with hq | hq
 ·obtain⟨its,r',pl,hz⟩:=I.list hq;have hlen:=r'.length;obtain⟨o,ho,hc,n,hd⟩:=pl.isList;exact UN p (.inl rfl) ho hc hd (λh' c' kp e=>fin its r' hz h' c' kp e) (by simp only[aY] <;> lia)
 ·obtain⟨its,r',pl,hz⟩:=I.tuple hq;have hlen:=r'.length;obtain⟨o,ho,hc,n,hd⟩:=pl;exact UN p (.inr rfl) ho hc hd (λh' c' kp e=>fin its r' hz h' c' kp e) (by simp only[aY] <;> lia)
theorem UQ:wM X (.type "tuple") (λxs H Q=>∃p ys,xs=[.ref p]/\((ij X.K H p ys/\∀l,H l=none->Q (.ref l) (bj H l (.tup ys)))\/(fh X.K H p ys/\Q (.ref p) H))):=by
 intro pins s Z H xs us Q I r h;obtain⟨p,ys,rfl,h⟩:=h;obtain⟨u,rfl,rx⟩:=vals1 r;cases rx;rcases h with ⟨hq,q⟩ | ⟨hq,q⟩
 ·obtain⟨its,r',pl,hz⟩:=I.list hq;have hlen:=r'.length;refine call_tuple_list pl.isList (λh' kp=>?_) (by simp only[aY] <;> lia);have I1:Inv X pins Z H { s with heap:=h' }:=I.kept (t':=s.toks) kp;have I2:Inv X pins Z (bj H h'.objs.size (.tup ys)) { s with heap:=h'.push { cls:=.type "tuple",data:=.seq its.toArray } } :=
   I1.laid (t':=s.toks) (λb o e=>aK _ e) (bO _) (show ci X.prog X.w _ _ _ (.tup ys) from ⟨hz,its,r',LO _ _⟩)
  exact⟨.ref h'.objs.size,_,I2,rfl,q _ (I1.hok.fresh (bO _))⟩
 ·obtain⟨its,r',pl,hz⟩:=I.tuple hq;exact call_tuple_same pl ⟨.ref p,H,I,rfl,q⟩
def tyV (K:aH) (T:String) (x:V) (H:Hp):Prop:=match x with
 | .str _=>T = "str"
 | .int _=>T = "int"
 | .ref p=>(T = "list"/\∃xs,ij K H p xs)\/(T = "tuple"/\∃o,K.lookup p=some o/\o.cls = .type "tuple"/\o.dict=none) \/
   (T = "dict"/\((∃cg,H p=some (.dK cg))\/∃cg,H p=some (.dT cg)))\/(T = "set"/\∃S n,H p=some (.set S n))
 | _=>False
theorem Rs {Z:St} {s:aF} (I:Inv X pins Z H s) (r:RelV x v) (ty:tyV X.K T x H) :
  s.TypeIs v T/\∀a,v = .ref a->∃ob,s.heap.get? a=some ob/\ob.dict=none:=by
 cases x with
 | str z =>
  obtain⟨t,rfl⟩:=r;cases (show T = "str" from ty);exact⟨typeIs_str s z t,λ_ e=>nomatch e⟩
 | int i =>
  obtain⟨t,rfl⟩:=r;cases (show T = "int" from ty);exact⟨typeIs_int s i t,λ_ e=>nomatch e⟩
 | ref p =>
  cases r;rcases ty with ⟨rfl,xs,hq⟩ | ⟨rfl,o,hk,hc,hd⟩ | ⟨rfl,hk⟩ | ⟨rfl,S,n,hk⟩
  ·obtain⟨its,_,pl,_⟩:=I.list hq;refine⟨pl.isList.typeIs,λa e=>?_⟩;cases e;obtain⟨o,n,e,c,hd,_⟩:=pl;exact⟨o,e,hd⟩
  ·refine⟨⟨o,I.kIn p o hk,hc⟩,λa e=>?_⟩;cases e;exact⟨o,I.kIn _ o hk,hd⟩
  ·have z:∃o,s.heap.get? p=some o/\o.ExactDict:=by
    rcases hk with ⟨cg,hk⟩ | ⟨cg,hk⟩
    ·obtain⟨_,_,_,_,o,_,_,e,ex,_⟩:=I.hok p _ hk;exact⟨o,e,ex⟩
    ·obtain⟨_,_,_,_,o,_,_,e,ex,_⟩:=I.hok p _ hk;exact⟨o,e,ex⟩
   obtain⟨o,e,ex⟩:=z;refine⟨⟨o,e,ex.1⟩,λa e2=>?_⟩;cases e2;exact⟨o,e,ex.2.1⟩
  ·obtain⟨o,_,_,_,e,ex,_⟩:=I.hok p _ hk;refine⟨⟨o,e,ex.1⟩,λa e2=>?_⟩;cases e2;exact⟨o,e,ex.2.1⟩
 | _=>exact mV ty
def P8 (K:aH) (T:String) (r:V->List V->Hp->VK->Prop) (to:TE):TE:=λZ H Q=>to Z H λx H1=>tyV K T x H1/\r x [] H1 Q
def tBM (K:aH) (T:String) (r:V->List V->Hp->VK->Prop) (to:TE) (t:TA):TE:=λZ H Q=>to Z H λx H1=>tyV K T x H1/\t Z H1 λxs H2=>r x xs H2 Q
variable {o e:Expr} {es:List Expr} {to:TE} {t:TA} {name:Str} {apos b_:Pos} {T id:String} {r:V->List V->Hp->VK->Prop}
theorem Yo (pa:PlainAttrs T) (slot:Slot T name id) (hty:typeOf (.builtin id)=pure (.type "method_descriptor")) (hm:W9 X id r) (ho:PE X o to)
  (f_:attributeBase o name X.env (eval o X.env)=eval o X.env:=by rfl) (gf:(apos.endLine == b_.line)=true:=by rfl):PE X (.Call (.Attribute o name apos) [] [] b_) (P8 X.K T r to):=by
 intro pins s Z H Q I h;refine wpAny_Call_method0_late f_ gf (c5 (ho pins s Z H _ I h) λv s1 ⟨x,H1,I1,r1,ty,q1⟩=>?_);obtain⟨h1,h2⟩:=Rs I1 r1 ty;exact⟨T,id,pa,slot,hty,h1,h2,zC rfl (PySem.evalArgs_none (hm pins s1 Z H1 x [] v [] Q I1 r1 .nil q1))⟩
theorem Jk (pa:PlainAttrs T) (slot:Slot T name id) (hty:typeOf (.builtin id)=pure (.type "method_descriptor")) (hm:W9 X id r) (ho:PE X o to) (ha:PA X (e::es) t)
  (f_:attributeBase o name X.env (eval o X.env)=eval o X.env:=by rfl)
  (md:((backTo b_ (starEach (e::es) X.env)).all (λx=>!x.1) && (backToKw b_ (keywordEach [] X.env)).all (λx=>x.1.isSome)
   && decide ((e::es).length+([]:List oY).length+(if ([]:List oY).isEmpty then 0 else 1)<30))=true:=by rfl)
  (gf:(apos.endLine == b_.line)=true:=by rfl) (hs:starEach (e::es) X.env=(false,eval e X.env)::starEach es X.env:=by rfl) (wa:(backTo b_ (starEach es X.env)).any (·.1)=false:=by rfl) :
  PE X (.Call (.Attribute o name apos) (e::es) [] b_) (tBM X.K T r to t):=by
 intro pins s Z H Q I h;refine wpAny_Call_method_late f_ md gf rfl (c5 (ho pins s Z H _ I h) λv s1 ⟨x,H1,I1,r1,ty,q1⟩=>?_);obtain⟨h1,h2⟩:=Rs I1 r1 ty;refine⟨T,id,pa,slot,hty,h1,h2,?_⟩;have hA:=ha b_ pins s1 Z H1 _ I1 q1;rw[hs] at hA ⊢;refine zC (by show (false || (backTo b_ (starEach es X.env)).any (·.1))=false;rw[wa] <;> rfl) (Calls.evalArgs_plain ?_);exact c5 hA λus s2 ⟨vs,H2,I2,r2,q2⟩=>hm pins s2 Z H2 x vs v us Q I2 r1 r2 q2
end
def W8 (X:Cx) (id:String) (r:V->List V->Hp->VK->Prop):Prop :=
 ∀(pins:List (Addr × Obj)) (s:aF) (Z:St) (H:Hp) (x:V) (xs:List V) (v:aB) (us:List aB) (Q:VK),Inv X pins Z H s->RelV x v->ao xs us->r x xs H Q ->
  wpAny (model X.prog X.w) X.A (call (.builtin id) (v::us)) (EP X pins Z Q) X.xe s
theorem ao.one:∀{x:V} {us:List aB},ao [x] us->∃u,us=[u]/\RelV x u
 | _,_,.cons r .nil=>⟨_,rfl,r⟩
theorem ao.zero:∀{us:List aB},ao [] us->us=[]
 | _,.nil=>rfl
theorem ao.dropLast (h:ao xs us):ao xs.dropLast us.dropLast:=by
 induction h with
 | nil=>exact .nil
 | cons r t ih =>
  cases t with
  | nil=>exact .nil
  | cons q t'=>exact .cons r ih
theorem Fs {α:Type} (l:List α):l.eraseIdx (l.length-1)=l.dropLast:=by
 induction l with
 | nil=>rfl
 | cons a r ih =>
  cases r with
  | nil=>rfl
  | cons b r =>
   have e:(a::b::r).length-1=((b::r).length-1)+1:=by
    have h1:(a::b::r).length=r.length+2:=rfl;have h2:(b::r).length=r.length+1:=rfl;lia
   rw[e,List.eraseIdx_cons_succ,ih]
   all_goals rfl
section
variable {X:Cx} {pins:List (Addr × Obj)} {σ:St} {H:Hp} {s:aF} {l b:Addr} {xs ys zs:List V}
theorem Inv.lset {its its':List aB} {n:Nat} {f:Array aB->Array aB} {t':Nat} (I:Inv X pins σ H s) (hH:H l=some (.lst xs))
  (e:s.heap.get? l=some { cls:=.type "list",data:=.seq its.toArray n }) (hf:f its.toArray=its'.toArray) (hv:ao ys its') (hz:ys.length<=sizeLine) :
  Inv X pins σ (bj H l (.lst ys)) { s with heap:=s.heap.update l (cX f),toks:=t' }:=by
 have q:=MC e f;rw[hf] at q;refine I.write (x:=l) (e:=l) (by rw[hH];exact trivial) (.inl rfl) (λb' u hb hu=>(cD s.heap (cX f) (Ne.symm hb)).trans hu) ⟨_,q⟩ ?_;exact⟨hz,its',_,hv,q⟩
theorem Inv.lnew (I:Inv X pins σ H s) (hv:ao ys its) (hz:ys.length<=sizeLine) :
  Inv X pins σ (bj H s.heap.objs.size (.lst ys)) { s with heap:=s.heap.push { cls:=.type "list",data:=.seq its.toArray },toks:=t' } :=
 I.laid (λ_ _ q=>aK _ q) (bO _) ⟨hz,its,0,hv,bF _ rfl⟩
theorem Inv.fresh (I:Inv X pins σ H s):H s.heap.objs.size=none:=I.hok.fresh (bO _)
theorem Inv.lstM (I:Inv X pins σ H s) (hH:H l=some (.lst xs)):xs.length<=sizeLine/\∃(its:List aB) (n:Nat),ao xs its/\xs.length=its.length/\s.heap.get? l=some { cls:=.type "list",data:=.seq its.toArray n }:=by
 obtain⟨z,its,n,r,e⟩:=I.hok l _ hH;exact⟨z,its,n,r,r.length,e⟩
theorem Px (h:n<=sizeLine):mT n=false:=by
 unfold mT;exact decide_eq_false (by lia)
end
section
def Uo:V->List V->Hp->VK->Prop:=λx vs H Q=>∃l xs y,x = .ref l/\vs=[y]/\H l=some (.lst xs)/\xs.length<sizeLine/\Q .non (bj H l (.lst (xs++[y])))
def WV:W8 X "list.append" Uo:=by
 intro pins s Z H x vs v us Q I rx rv h;obtain⟨l,xs,y,rfl,rfl,hH,hz,q⟩:=h;cases rx;obtain⟨u,rfl,ru⟩:=rv.one;obtain⟨z,its,n,r,hl,e⟩:=I.lstM hH;refine zV F.slot_list_append ⟨_,e,rfl⟩ F.entry_list_append (F.args_list_append_2 _ _) (JE l its.toArray n u (by rw[aY];lia)) ⟨e,?_⟩;refine⟨.non,_,I.lset (its':=its++[u]) hH e (by simp) (r.append (.cons ru .nil)) ?_,rfl,q⟩;rw[dA,sT];lia
def N8:V->List V->Hp->VK->Prop:=λx vs H Q=>∃l xs y,x = .ref l/\vs=[]/\H l=some (.lst xs)/\xs[xs.length-1]? = some y/\Q y (bj H l (.lst xs.dropLast))
def Yf:W8 X "list.pop" N8:=by
 intro pins s Z H x vs v us Q I rx rv h;obtain⟨l,xs,y,rfl,rfl,hH,hy,q⟩:=h;cases rx;have hus:=rv.zero;subst hus;obtain⟨z,its,n,r,hl,e⟩:=I.lstM hH;obtain⟨u,hu,ru⟩:=r.get hy;have hy':its.toArray[its.toArray.size-1]? = some u:=by
  show its.toArray[its.length-1]? = some u;rw[<-jU,<-hl];exact hu
 refine zV F.slot_list_pop ⟨_,e,rfl⟩ F.entry_list_pop (F.args_list_pop_1 _) (MeetsSeq.list_pop_last l its.toArray n u hy' (by rw[aY];lia)) ⟨e,?_⟩;refine⟨y,_,I.lset (its':=its.dropLast) hH e ?_ r.dropLast ?_,ru,q⟩
 ·show its.toArray.eraseIdxIfInBounds (its.toArray.size-1)=its.dropLast.toArray;rw[aY,List.eraseIdxIfInBounds_toArray,Fs]
 ·rw[BX];lia
end
end L2
namespace Att
open PySem PySem.W PySem.Calls PyProof.Rows
theorem OW:∀(ns:List Int) (vs:List aB),WellAll P h vs (ns.map WData.int)->IntsAre vs ns:=by
 intro ns
 induction ns with
 | nil =>
  intro vs w;rw[cB] at w;cases w;exact .nil
 | cons n ns ih =>
  intro vs w;rw[aQ] at w;cases w with
  | cons a b =>
   cases a;exact .cons _ _ (ih _ b)
theorem Mp {l:OpenLaw} {n:Nat} (hn:l.most=some n) {P:Params} {h:Heap} {args:List WData} {vals:List aB}
  (t5:l.row.toRowW.claim.pre args=true) (hwl:WellAll P h vals args) :
  ∃a vs ns,vals=[gD a]/\args=[WData.list (ns.map WData.int)]/\h.get? a=some { cls:=.type "list",data:=.seq vs.toArray }/\IntsAre vs ns/\ns.length<=n:=by
 have hsh:WShape.hasAll [] args [.list .int]=true:=(pre_splitW t5).1;have hc:l.pre.holds [] { args:=args } = true:=(pre_splitW t5).2;obtain⟨d,r,rfl,h1,h2⟩:=hasAllW_cons hsh;obtain rfl:=hasAllW_nil h2;obtain⟨xs,rfl,h3⟩:=hasW_list h1;obtain⟨ns,rfl⟩:=items_int h3;have hlen:ns.length<=n:=by
  unfold OpenLaw.pre at hc;have h4:(WTm.not (.lt (.lit (.int (n:Int))) (.len (.arg 0)))).holds [] { args:=[.list (ns.map .int)] } = true:=by
   have h4:=(holds_andW hc).1;rw[hn] at h4;exact h4
  have h5:=condW_of h4 (w_not (w_lt w_lit (w_len_list (w_arg rfl))));rw[bV] at h5;refine Nat.le_of_not_lt λq=>?_;have q':(n:Int)<((ns.length:Nat):Int):=by lia
  first
   | (rw[decide_eq_true q'] at h5;exact absurd h5 (by decide))
   | (simp at h5;lia)
 cases hwl with
 | cons w1 w2 =>
  cases w2;cases w1 with
  | list ho du=>exact⟨_,_,ns,rfl,rfl,ho,OW ns _ du,hlen⟩
def Md (l:OpenLaw) (args:List WData):l.row.toRowW.claim.post args (.bool true) args=true :=
 postW_of (r:=l.row.toRowW) (X:=(true == true))
  (show WShape.has [] (.bool true) .bool=true by first | rfl | decide | simp[WShape.has,WShape.arms,WShape.armsAll])
  (show (WTm.eq .res (.lit (.bool true))).value [] { args:=args,res:=some (.bool true),after:=args } = some (.bool (true == true)) from w_eq_bool (w_res rfl) w_lit) rfl
def attach_call {l:OpenLaw} {n:Nat} {q:bU} {loose:List Str} {XP:(Str->Option aB)->Heap->Prop} {YP:dJ->Heap->Prop} {d:DefRec}
  (hn:l.most=some n) (Z6:d.params.defaults=[])
  (call:∀(w:dJ) (s₀ s₁:aF) (mg mb:Str->Option aB) (fa:Addr) (o:Obj) (pm cd doc:aB) (a:Addr) (vs:List aB) (ns:List Int),
   Ground q loose [] XP w s₀ mg mb s₁.heap->YP w s₁.heap ->
   s₁.heap.get? fa=some o->o.data = .func (docDef d.name d.params d.body d.scope pm cd doc)->s₁.heap.CodeRec cd d.name->mg d.name=some (.ref fa) ->
   s₁.heap.get? a=some { cls:=.type "list",data:=.seq vs.toArray }->IntsAre vs ns->ns.length<=n->s₁.gens = #[] ->
   codeAny (model l.prog w) callerA (.call (.ref fa) ⟨[.ref a],[]⟩) (λr s'=>r = .ok (.ret (.bool true))/\OldK s₁.heap s'.heap/\s'.os=s₁.os/\AllBare s'.gens) s₁) :
  WalkO q loose XP YP l.row.toRowW d [] (λf vs=>PySem.call f vs):=by
 intro w s₀ s₁ mg mb G Y fa o pm cd doc dV kV ho hd fj hD U4 hg args vals as t5 hlay hrd hwl U3;obtain rfl:dV = .none:=Dflts.none hD Z6;obtain rfl:kV = .none:=Dflts.noKw hD;obtain⟨a,vs,ns,rfl,rfl,v9,hints,hlen⟩:=Mp hn t5 hwl;refine enter_call (uP (call w s₀ s₁ mg mb fa o pm cd doc a vs ns G Y ho (fd_plain hd) fj U4 v9 hints hlen hg) λr s' hq=>?_);obtain⟨rfl,h2,h3,h4⟩:=hq;exact⟨.inl ⟨.bool true,.bool true,[],rfl,λ_=>rfl,.bool true,Md l _,λ_=>⟨oZ,λ_ hm=>(nomatch hm)⟩⟩,h2,h3,h4⟩
end Att
namespace L2
open PySem PySem.Spec PyProof.Rows
theorem EX:∀{vs:List aB} {ns:List Int},IntsAre vs ns->ao (ns.map V.int) vs
 | _,_,.nil=>.nil
 | _,_,.cons n t h=>.cons ⟨t,rfl⟩ (EX h)
abbrev KOf {K:aH} {h:Heap} (_:K.In h):aH:=K
def zZ (s:Stmt):Arguments:=match s with
 | .FunctionDef _ a _ _ _ _ _ _ _ _=>a
 | _=>{ posonlyargs:=[],args:=[],vararg:=none,kwonlyargs:=[],kw_defaults:=[],kwarg:=none,defaults:=[] }
def pB (s:Stmt):List Stmt:=match s with
 | .FunctionDef _ _ b _ _ _ _ _ _ _=>b
 | _=>[]
def gG (s:Stmt):Scope:=match s with
 | .FunctionDef _ _ _ _ _ _ sc _ _ _=>sc
 | _=>{ kind:=.function,names:=[],isGenerator:=false,isCoroutine:=false }
abbrev ka:t9:=λ_ _ _ _ _ _=>False
abbrev E0:XK:=λ_ _ _=>False
def D7:Ey ka X E0:=λ_ _ _ _ _ _ _ h=>h.elim
structure qc (K:aH) (x qual:Str) (st:Stmt) (f:Addr) (fd:lO):Prop where
 ex:∃(oc:aB) (od:Option Addr) (kV doc pm:aB) (an:Option Addr) (dm ct:aB) (om:Array (Option aB)),
  fd=mM x qual (zZ st) (pB st) (gG st) .none kV doc pm an dm ct/\K.lookup f=some ⟨oc,od,.func fd,om⟩/\nN K dm qual=true
 kp:nO K (.ref f)=true
section
variable {P:bU} {w:dJ} {K:aH} {mg:Str->Option aB} {base:Heap}
theorem qc.ok {x qual:Str} {st:Stmt} {f:Addr} {fd:lO} {N ps:List Str} {k:Nat} {sp:Sp} (F:qc K x qual st f fd) (S:e9 N ps (gG st)) (len:∀vs H Q E,sp vs H Q E->vs.length=ps.length)
  (fe:∀(dm:aB) (A:dD) (outer:List Env) (s:aF) (H:Hp) (vs:List V) (Q:VK) (E:XK),cj k (A.deeper (envOfC qual (gG st) s.heap.objs.size f dm))->sp vs H Q E ->
   ∃t,ly (JM ka P w K mg base N qual (gG st) f dm A outer s H E).nox (pB st) t/\t { nx:=λ_ H'=>Q .non H',rt:=Q } (start N vs) H):iw P w K mg base ka (k+1) f fd ps sp:=by
 obtain⟨oc,od,kV,doc,pm,an,dm,ct,om,rfl,lk,fj⟩:=F.ex;refine Wa lk fj S len λA outer s H vs Q E hr U6=>?_;obtain⟨t,h,q⟩:=fe dm A outer s H vs Q E hr U6;exact⟨t,h.nox,q⟩
theorem Xk {x qual:Str} {st:Stmt} {f:Addr} {oc:aB} {od an:Option Addr} {om:Array (Option aB)} {kV doc pm dm ct:aB} (l:K.lookup f=some ⟨oc,od,.func (mM x qual (zZ st) (pB st) (gG st) .none kV doc pm an dm ct),om⟩)
  (c:nN K dm qual=true) (k:nO K (.ref f)=true):qc K x qual st f (mM x qual (zZ st) (pB st) (gG st) .none kV doc pm an dm ct):=⟨⟨oc,od,kV,doc,pm,an,dm,ct,om,rfl,l,c⟩,k⟩
end
section
variable {X:Cx}
theorem pv (i:Nat) {x:Str} {pos:Pos} (hN:X.N[i]? = some x:=by rfl) (hv:nI X.env.scope x:=by walk_at "vis") (hd:(x == ("__debug__":Str))=false:=by decide)
  (fj:(x == ("__classdict__":Str))=false:=by decide):PE X (.Name x pos) (J6 i):=Yu hN hv hd fj
end
def af (H H':Hp):Prop:=∀b o,H b=some o->H' b=some o
def af.refl (H:Hp):af H H:=λ_ _ h=>h
def af.trans (a:af H H1) (b:af H1 H2):af H H2:=λc o h=>b c o (a c o h)
theorem af.free (e:af H H') (h:H' l=CF):H l=CF:=by
 cases q:H l with
 | none=>rfl
 | some o =>
  rw[e l o q] at h;cases h
end L2
namespace L2.R2
abbrev Pt:=Int × Int
def bP (a b c:Pt):Int:=(b.1-a.1)*(c.2-a.2)-(b.2-a.2)*(c.1-a.1)
def bo (a b:Pt):Prop:=a.1<b.1\/(a.1=b.1/\a.2<b.2)
instance (a b:Pt):Decidable (bo a b):=by unfold bo;infer_instance
def uS:¬bo a a:=λh=>h.elim (mX _) λh=>mX _ h.2
def rK (h:bo a b) (k:bo b c):bo a c:=by
 rcases h with h | ⟨h,h'⟩
 ·exact cY (k.elim (Int.lt_trans h) λk=>k.1 ▸ h)
 ·exact k.elim (λk=>cY (h ▸ k)) λk=>cV ⟨h.trans k.1,Int.lt_trans h' k.2⟩
def qS (a b:Pt):bo a b\/a=b\/bo b a:=by
 rcases iS a.1 b.1 with h | h | h
 ·exact cY (cY h)
 ·rcases iS a.2 b.2 with k | k | k
  ·exact cY (cV ⟨h,k⟩)
  ·exact cV (cY (lQ h k))
  ·exact cV (cV (cV ⟨h.symm,k⟩))
 ·exact cV (cV (cY h))
def uZ (h:bo a b):¬bo b a:=λk=>uS (rK h k)
def LP (x y:Int):Prop:=0<x\/(x=0/\0<y)
def rS (h:bo a b):LP (b.1-a.1) (b.2-a.2):=h.elim (λh=>cY (IR h)) λh=>cV ⟨by rw[h.1,Int.sub_self],IR h.2⟩
def QN (h:LP x y) (k:LP x' y'):LP (x+x') (y+y'):=by
 rcases h with h | ⟨rfl,h'⟩ <;> rcases k with k | ⟨rfl,k'⟩
 ·exact cY (Int.add_pos h k)
 ·exact cY (by rw[zF];exact h)
 ·exact cY (by rw[Int.zero_add];exact k)
 ·exact cV ⟨rfl,Int.add_pos h' k'⟩
def uM (hk:0<k) (h:LP x y):LP (k*x) (k*y):=by
 unfold LP at *;rcases h with h | ⟨h,h'⟩
 ·exact cY (aS hk h)
 ·exact cV ⟨by rw[h,mK],aS hk h'⟩
def Hu {k x y z w:Int} (hk:0<=k) (h:LP x y) (h0:LP z w):LP (z+k*x) (w+k*y):=by
 rcases jX hk with h' | rfl
 ·exact QN h0 (uM h' h)
 ·rw[rR,rR,zF,zF];exact h0
def Vt (h:LP 0 0):False:=h.elim (mX _) λh=>mX _ h.2
def Ex (h:LP x y) (hk:LP (k*x) (k*y)):0<k:=by
 unfold LP at *;rcases h with h | ⟨h,h'⟩
 ·rcases hk with hk | ⟨hk,_⟩
  ·exact iE hk h |> λh=>h
  ·rcases iK.mp hk with e | e
   ·subst e;simp at *;
   ·lia
 ·subst h;rcases hk with hk | ⟨_,hk⟩
  ·simp at hk
  ·exact iE hk h'
def YB (hu:LP ux uy) (hv:LP vx vy) (hw:LP wx wy) (h:0<ux*vy-uy*vx) (k:0<vx*wy-vy*wx) :
  0<ux*(vy+wy)-uy*(vx+wx)/\0<(ux+vx)*wy-(uy+vy)*wx:=by
 constructor
 ·refine Ex hv (?_:LP _ _);have:=QN (uM h (QN hv hw)) (uM k hu);have e1:(ux*(vy+wy)-uy*(vx+wx))*vx=(ux*vy-uy*vx)*(vx+wx)+(vx*wy-vy*wx)*ux:=by grind
  have e2:(ux*(vy+wy)-uy*(vx+wx))*vy=(ux*vy-uy*vx)*(vy+wy)+(vx*wy-vy*wx)*uy:=by grind
  rw[e1,e2];exact this
 ·refine Ex hv (?_:LP _ _);have:=QN (uM h hw) (uM k (QN hu hv));have e1:((ux+vx)*wy-(uy+vy)*wx)*vx=(ux*vy-uy*vx)*wx+(vx*wy-vy*wx)*(ux+vx):=by grind
  have e2:((ux+vx)*wy-(uy+vy)*wx)*vy=(ux*vy-uy*vx)*wy+(vx*wy-vy*wx)*(uy+vy):=by grind
  rw[e1,e2];exact this
def Ei (ab:bo a b) (bc:bo b c) (cd:bo c d) (h:0<bP a b c) (k:0<bP b c d):0<bP a b d/\0<bP a c d:=by
 have:=YB (rS ab) (rS bc) (rS cd) (by unfold bP at h;grind) (by unfold bP at k;grind);unfold bP;constructor
 ·have:=this.1;grind
 ·have:=this.2;grind
def Vi (A:LP ax ay) (P:LP px py) (V:LP vx vy) (hc:0<ux*vy-uy*vx) (m0:0<=-(ux*ay-uy*ax)) (x0:0<=ax*vy-ay*vx) (y0:0<=ux*py-uy*px) (n0:0<=vx*py-vy*px):0<ax*py-ay*px:=by
 have CA:=uM hc A;have S:=Hu m0 V CA;rw[show (ux*vy-uy*vx)*ax + -(ux*ay-uy*ax)*vx=(ax*vy-ay*vx)*ux by grind,show (ux*vy-uy*vx)*ay + -(ux*ay-uy*ax)*vy=(ax*vy-ay*vx)*uy by grind] at S;have hx:0<ax*vy-ay*vx:=by
  rcases jX x0 with h | h
  ·exact h
  ·rw[<-h,rR,rR] at S;exact (Vt S).elim
 have T:=Hu n0 CA (uM hx (uM hc P));rw[show (ax*vy-ay*vx)*((ux*vy-uy*vx)*px)+(vx*py-vy*px)*((ux*vy-uy*vx)*ax)=((ax*py-ay*px)*(ux*vy-uy*vx))*vx by grind,show (ax*vy-ay*vx)*((ux*vy-uy*vx)*py)+(vx*py-vy*px)*((ux*vy-uy*vx)*ay)=((ax*py-ay*px)*(ux*vy-uy*vx))*vy by grind] at T;exact iE (Ex V T) hc
def El (h0:bo b c0) (ha:bo a b) (hp:bo b p) (hc:0<bP a0 b c0) (h1:0<=bP a0 b a) (h2:0<=bP b c0 a) (h3:0<=bP a0 b p) (h4:0<=bP b c0 p):0<bP a b p:=by
 have A:=rS ha;have P:=rS hp;have U2:=rS h0;have m7:0<(b.1-a0.1)*(c0.2-b.2)-(b.2-a0.2)*(c0.1-b.1):=by
  have e:bP a0 b c0=(b.1-a0.1)*(c0.2-b.2)-(b.2-a0.2)*(c0.1-b.1):=by { unfold bP;grind }
  rw[<-e];exact hc
 have m0:0<=-((b.1-a0.1)*(b.2-a.2)-(b.2-a0.2)*(b.1-a.1)):=by
  have e:bP a0 b a = -((b.1-a0.1)*(b.2-a.2)-(b.2-a0.2)*(b.1-a.1)):=by unfold bP;grind
  rw[<-e];exact h1
 have x0:0<=(b.1-a.1)*(c0.2-b.2)-(b.2-a.2)*(c0.1-b.1):=by
  have e:bP b c0 a=(b.1-a.1)*(c0.2-b.2)-(b.2-a.2)*(c0.1-b.1):=by unfold bP;grind
  rw[<-e];exact h2
 have y0:0<=(b.1-a0.1)*(p.2-b.2)-(b.2-a0.2)*(p.1-b.1):=by
  have e:bP a0 b p=(b.1-a0.1)*(p.2-b.2)-(b.2-a0.2)*(p.1-b.1):=by unfold bP;grind
  rw[<-e];exact h3
 have n0:0<=(c0.1-b.1)*(p.2-b.2)-(c0.2-b.2)*(p.1-b.1):=by
  have e:bP b c0 p=(c0.1-b.1)*(p.2-b.2)-(c0.2-b.2)*(p.1-b.1):=by unfold bP;grind
  rw[<-e];exact h4
 have goal:bP a b p=(b.1-a.1)*(p.2-b.2)-(b.2-a.2)*(p.1-b.1):=by unfold bP;grind
 rw[goal];exact Vi A P U2 m7 m0 x0 y0 n0
def kN (p:Pt):List Pt->List Pt
 | b::a::r=>if bP a b p<=0 then kN p (a::r) else b::a::r
 | s=>s
def lF (L:List Pt):List Pt:=L.foldl (λs p=>p::kN p s) []
def k_ (s:List Pt):Prop:=s.Pairwise λx y=>bo y x
def g8 (s:List Pt):Prop:=s.Pairwise bo
def w8 (s:List Pt):Prop:=∀c b a,[c,b,a].Sublist s->0<bP a b c
def Seen (p:Pt) (s:List Pt):Prop:=∀b a,[b,a].Sublist s->0<bP a b p
theorem OB (p:Pt):∀s,∃l,s=l++kN p s
 | []=>⟨[],rfl⟩
 | [_]=>⟨[],rfl⟩
 | b::a::r=>by
  unfold kN;split
  ·obtain⟨l,e⟩:=OB p (a::r);exact⟨b::l,by rw[aW,<-e]⟩
  ·exact⟨[],rfl⟩
def yQ (p:Pt) (s:List Pt):(kN p s).Sublist s:=by
 obtain⟨l,e⟩:=OB p s
 conv=>rhs;rw[e]
 exact List.sublist_append_right _ _
theorem Jn (p:Pt):∀s,s≠[]->kN p s≠[]
 | [],h=>h
 | [_],_=>by simp[kN]
 | b::a::r,_=>by
  unfold kN;split
  ·exact Jn p (a::r) (by simp)
  ·simp
theorem Da (p:Pt):∀s b a r,kN p s=b::a::r->0<bP a b p
 | [],_,_,_,h=>by simp[kN] at h
 | [_],_,_,_,h=>by simp[kN] at h
 | b'::a'::r',b,a,r,h=>by
  unfold kN at h;split at h
  ·exact Da p (a'::r') b a r h
  ·rename_i hn;cases h;lia
def k_.mem {s:List Pt} (h:k_ (b::r)) (ha:a∈r):bo a b:=(bZ.mp h).1 a ha
theorem P6 {α:Type} {b a b0:α} {r:List α} (h:[b,a].Sublist (b0::r)):(b=b0/\a∈r)\/[b,a].Sublist r:=by
 cases h with
 | cons _ h=>exact cV h
 | cons_cons _ h=>exact cY ⟨rfl,by simpa using h⟩
def Eb (d:k_ (b0::a0::r)) (t:w8 (b0::a0::r)) (hp:bo b0 p) (h:0<bP a0 b0 p):Seen p (b0::a0::r):=by
 have top:∀a,a∈a0::r->0<bP a b0 p:=by
  intro a ha;rcases aN.mp ha with rfl | ha
  ·exact h
  ·have t1:0<bP a a0 b0:=t b0 a0 a (by simpa using ha);exact (Ei (k_.mem (s:=[]) (bZ.mp d).2 ha) (k_.mem (s:=[]) d (by simp)) hp t1 h).2
 intro b a hs;rcases P6 hs with ⟨rfl,ha⟩ | hs
 ·exact top a ha
 ·have hb:b∈a0::r:=hs.subset (by simp);have t1:0<bP a b b0:=t b0 b a (hs.cons_cons b0);have dq:bo a b:=by
   have d':k_ [b,a]:=lZ hs (bZ.mp d).2;exact (bZ.mp d').1 a (by simp)
  exact (Ei dq (k_.mem (s:=[]) d hb) hp t1 (top b hb)).1
theorem Vb {s:List Pt} (d:k_ s) (t:w8 s) (hp:∀q∈s,bo q p):k_ (p::kN p s)/\w8 (p::kN p s):=by
 have hs:=yQ p s;have d':k_ (kN p s):=lZ hs d;have t':w8 (kN p s):=λc b a h=>t c b a (h.trans hs);have k5:∀q∈kN p s,bo q p:=λq hq=>hp q (hs.subset hq);have sn:Seen p (kN p s):=by
  generalize e:kN p s=u at *
  match u,e with
  | [],_=>intro b a h;cases h
  | [x],_=>intro b a h;have:=h.length_le;simp at this
  | b::a::r,e=>exact Eb d' t' (k5 b (by simp)) (Da p s b a r e)
 refine⟨bZ.mpr ⟨k5,d'⟩,?_⟩;intro c b a h;cases h with
 | cons _ h=>exact t' c b a h
 | cons_cons _ h=>exact sn b a h
structure di (L C:List Pt):Prop where
 inc:g8 C
 mem:∀q∈C,q∈L
 first:∀q∈L,∀c r,C=c::r->¬bo q c
 last:∀q∈L,∀c l,C=l++[c]->¬bo c q
 side:∀l a b r,C=l++a::b::r->∀q∈L,0<=bP a b q
 bend:∀l a b c r,C=l++a::b::c::r->0<bP a b c
def di.vertex (H:di L C) (hb:b∈C) (ha:a∈L) (hp:p∈L) (ab:bo a b) (bp:bo b p):0<bP a b p:=by
 obtain⟨l,r,e⟩:=nX hb;rcases fI l with rfl | ⟨l',a0,rfl⟩
 ·exact absurd ab (H.first a ha b r e)
 ·match r with
  | []=>exact absurd bp (H.last p hp b _ e)
  | c0::r' =>
   have e1:C=l'++a0::b::c0::r':=(by simpa using e);have e2:C=(l'++[a0])++b::c0::r':=(by simpa using e);have i:=H.inc;rw[e2] at i;have bc:bo b c0:=(bZ.mp (jF.mp i).2.1).1 c0 (by simp);exact El bc ab bp (H.bend _ _ _ _ _ e1) (H.side _ _ _ _ e1 a ha) (H.side _ _ _ _ e2 a ha) (H.side _ _ _ _ e1 p hp) (H.side _ _ _ _ e2 p hp)
theorem WY (H:di L C) (hp:p∈L):∀s,k_ s->(∀q∈s,q∈L)->(∀q∈s,bo q p)->∀c∈C,c∈s->c∈kN p s
 | [],_,_,_,_,_,h=>h
 | [_],_,_,_,_,_,h=>h
 | b::a::r,d,m,lt,c,hc,h=>by
  unfold kN;split
  ·rename_i ht;rcases aN.mp h with rfl | h
   ·exact absurd (H.vertex hc (m a (by simp)) hp (k_.mem (s:=[]) d (by simp)) (lt _ (by simp))) (by lia)
   ·exact WY H hp (a::r) (bZ.mp d).2 (λq hq=>m q (aT _ hq)) (λq hq=>lt q (aT _ hq)) c hc h
  ·exact h
theorem Kh (H:di L C):∀(R:List Pt) (s:List Pt),(∀q∈R,q∈L)->g8 R->k_ s->w8 s->(∀q∈s,q∈L)->(∀q∈s,∀p∈R,bo q p)->(∀c∈C,c∈s\/c∈R) ->
  let S:=R.foldl (λs p=>p::kN p s) s
  k_ S/\w8 S/\(∀q∈S,q∈L)/\(∀c∈C,c∈S)
 | [],s,_,_,d,t,m,_,hc=>⟨d,t,m,λc h=>by simpa using hc c h⟩
 | p::R,s,hR,i,d,t,m,lt,hc=>by
  have ok:=Vb d t (p:=p) (λq hq=>lt q hq p (by simp));refine Kh H R (p::kN p s) (λq hq=>hR q (aT _ hq)) (bZ.mp i).2 ok.1 ok.2 ?_ ?_ ?_
  ·intro q hq;rcases aN.mp hq with rfl | hq
   ·exact hR _ (by simp)
   ·exact m q ((yQ p s).subset hq)
  ·intro q hq r hr;rcases aN.mp hq with rfl | hq
   ·exact (bZ.mp i).1 r hr
   ·exact lt q ((yQ p s).subset hq) r (aT _ hr)
  ·intro c y6;rcases hc c y6 with h | h
   ·exact cY (aT _ (WY H (hR p (by simp)) s d m (λq hq=>lt q hq p (by simp)) c y6 h))
   ·rcases aN.mp h with rfl | h
    ·exact cY (by simp)
    ·exact cV h
theorem Hy:∀(C:List Pt) (t:Pt),t ∉ C->(∃c∈C,bo c t)->(∃d∈C,bo t d)->g8 C->∃l c d r,C=l++c::d::r/\bo c t/\bo t d
 | [],_,_,⟨_,h,_⟩,_,_=>by cases h
 | [x],t,_,⟨c,hc,h⟩,⟨d,hd,k⟩,_=>by
  simp at hc hd;subst hc;subst hd;exact absurd k (uZ h)
 | x::y::r,t,ht,⟨c,hc,h⟩,⟨d,hd,k⟩,i=>by
  have hxt:bo x t:=by
   rcases aN.mp hc with rfl | hc
   ·exact h
   ·exact rK ((bZ.mp i).1 c hc) h
  rcases qS y t with hy | rfl | hy
  ·have tq:d∈y::r:=by
    rcases aN.mp hd with rfl | hd
    ·exact absurd k (uZ hxt)
    ·exact hd
   obtain⟨l,c',d',r',e,h1,h2⟩:=Hy (y::r) t (λh=>ht (aT _ h)) ⟨y,by simp,hy⟩ ⟨d,tq,k⟩ (bZ.mp i).2;exact⟨x::l,c',d',r',by rw[e];rfl,h1,h2⟩
  ·simp at ht
  ·exact⟨[],x,y,r,rfl,hxt,hy⟩
theorem ZD:∀(A B:List Pt),g8 A->g8 B->(∀q,q∈A↔q∈B)->A=B
 | [],[],_,_,_=>rfl
 | [],b::B,_,_,h=>absurd ((h b).mpr (by simp)) (by simp)
 | a::A,[],_,_,h=>absurd ((h a).mp (by simp)) (by simp)
 | a::A,b::B,ia,ib,h=>by
  have wg:=bZ.mp ia;have uq:=bZ.mp ib;have e:a=b:=by
   rcases aN.mp ((h a).mp (by simp)) with e | ha
   ·exact e
   ·rcases aN.mp ((h b).mpr (by simp)) with e | hb
    ·exact e.symm
    ·exact absurd (uq.1 a ha) (uZ (wg.1 b hb))
  subst e;congr 1;refine ZD A B wg.2 uq.2 λq=>⟨λhq=>?_,λhq=>?_⟩
  ·rcases aN.mp ((h q).mp (aT _ hq)) with rfl | h'
   ·exact absurd (wg.1 q hq) uS
   ·exact h'
  ·rcases aN.mp ((h q).mpr (aT _ hq)) with rfl | h'
   ·exact absurd (uq.1 q hq) uS
   ·exact h'
theorem Sx (A B:List Pt) (ia:g8 A) (ib:g8 B) (h:∀x∈A,x∈B):A.Sublist B:=by
 induction B generalizing A with
 | nil =>
  cases A with
  | nil=>exact IS _
  | cons a A=>cases h a (.head _)
 | cons b B ih =>
  cases A with
  | nil=>exact List.nil_sublist _
  | cons a A =>
   have wg:=bZ.mp ia;have uq:=bZ.mp ib;rcases aN.mp (h a (.head _)) with rfl | ha
   ·exact (ih A wg.2 uq.2 λx hx=>(aN.mp (h x (.tail _ hx))).resolve_left λe=>uS (e ▸ wg.1 x hx)).cons_cons a
   ·refine (ih (a::A) ia uq.2 λx hx=>(aN.mp (h x hx)).resolve_left λe=>?_).cons b;rcases aN.mp hx with k | hx
    ·exact uS (k ▸ e ▸ uq.1 a ha)
    ·exact uZ (wg.1 x hx) (e ▸ uq.1 a ha)
def Ca (iL:g8 L) (H:di L C) (fx:C≠[]):(lF L).reverse=C:=by
 obtain⟨d,t,m,k⟩:=Kh H L [] (λ_ h=>h) iL oZ (λ_ _ _ h=>by cases h) (λ_ h=>by cases h) (λ_ h=>by cases h) (λc hc=>cV (H.mem c hc));have inc:g8 (lF L).reverse:=oR.mpr d;refine ZD _ _ inc H.inc λq=>⟨λhq=>?_,λhq=>pW.mpr (k q hq)⟩;apply Decidable.byContradiction;intro hn;have wb:q∈lF L:=pW.mp hq;have hL:=m q wb;have h1:∃c∈C,bo c q:=by
  match C,fx with
  | c::r,_ =>
   refine⟨c,by simp,?_⟩;rcases qS c q with h | rfl | h
   ·exact h
   ·simp at hn
   ·exact absurd h (H.first q hL c r rfl)
 have h2:∃d∈C,bo q d:=by
  rcases fI C with e | ⟨l,c,e⟩
  ·exact absurd e fx
  ·refine⟨c,by simp[e],?_⟩;rcases qS q c with h | rfl | h
   ·exact h
   ·simp[e] at hn
   ·exact absurd h (H.last q hL c l (by simpa using e))
 obtain⟨l,c,e,r,eC,hc,he⟩:=Hy C q hn h1 h2 H.inc;have hs:[e,q,c].Sublist (lF L):=by
  have i3:g8 [c,q,e]:=by
   exact .cons (λx hx=>(aN.mp hx).elim (λe=>e ▸ hc) λh=>dM.mp h ▸ rK hc he) (.cons (λx hx=>dM.mp hx ▸ he) (.cons (λx hx=>by cases hx) .nil))
  have:[c,q,e].Sublist (lF L).reverse:=by
   refine Sx _ _ i3 inc λx hx=>?_;rw[pW];rcases aN.mp hx with rfl | hx
   ·exact k _ (eC ▸ aV _ (.head _))
   ·rcases aN.mp hx with rfl | hx
    ·exact wb
    ·exact k _ (dM.mp hx ▸ eC ▸ aV _ (.tail _ (.head _)))
  simpa using this.reverse
 have t1:=t e q c hs;have t2:=H.side l c e r eC q hL;have:bP c e q = - bP c q e:=by unfold bP;grind
 lia
namespace K33
end K33
abbrev A3:=Pt × Pt
def wid (s:A3):Int:=s.2.1-s.1.1
def hB (B:Int) (s:A3) (t:Int):Int:=(s.1.2*wid s+(s.2.2-s.1.2)*(t-s.1.1))*B.fdiv (wid s)
def kH (p:Pt):Pt:=(-p.1,-p.2)
def DH (p:Pt):kH (kH p)=p:=by unfold kH;simp
def vD (a b c:Pt):bP (kH a) (kH b) (kH c)=bP a b c:=by unfold bP kH;grind
def AF:bo (kH a) (kH b)↔bo b a:=or_congr GS (and_congr (Int.neg_inj.trans eq_comm) GS)
theorem Cz (p:Pt):∀s,kN (kH p) (s.map kH)=(kN p s).map kH
 | []=>rfl
 | [_]=>rfl
 | b::a::r=>by
  have ih:=Cz p (a::r);simp only[aQ] at ih ⊢;rw[kN,kN,vD];split
  ·exact ih
  ·rfl
theorem Ep:∀(L s:List Pt),(L.map kH).foldl (λs p=>p::kN p s) (s.map kH)=(L.foldl (λs p=>p::kN p s) s).map kH
 | [],_=>rfl
 | p::L,s=>by
  simp only[aQ,qQ];rw[Cz,<-aQ];exact Ep L (p::kN p s)
def RZ (L:List Pt):lF (L.map kH)=(lF L).map kH:=Ep L []
def HQ (h:k_ L):g8 (L.map kH):=by
 unfold g8;rw[kO];exact h.imp λk=>AF.mpr k
def Sw (iL:g8 L) (H:di (L.map kH) (C.map kH)) (fx:C≠[]):(lF L.reverse).reverse=C:=by
 have i1:g8 (L.reverse.map kH):=HQ (oR.mpr iL);have H':di (L.reverse.map kH) (C.map kH):=by
  have m:∀q,q∈L.reverse.map kH↔q∈L.map kH:=by intro q;simp
  exact⟨H.inc,λq h=>(m q).mpr (H.mem q h),λq h=>H.first q ((m q).mp h),λq h=>H.last q ((m q).mp h),λl a b r e q h=>H.side l a b r e q ((m q).mp h),H.bend⟩
 have:=Ca i1 H' (by simpa using fx);rw[RZ,<-LV] at this;have k:=congrArg (vR kH) this;rw[cM,cM] at k;have e:kH ∘ kH=id:=by funext p;exact DH p
 rwa [e,pF,pF] at k
def Th (A:LP ax ay) (V:LP vx vy) (U:LP ux uy) (hc:0<ux*vy-uy*vx) (k1:0<=vx*ay-vy*ax) (k2:0<=-(ux*ay-uy*ax)):False:=by
 have S:=Hu k2 V (Hu k1 U (uM hc A));rw[show (ux*vy-uy*vx)*ax+(vx*ay-vy*ax)*ux + -(ux*ay-uy*ax)*vx=0 by grind,show (ux*vy-uy*vx)*ay+(vx*ay-vy*ax)*uy + -(ux*ay-uy*ax)*vy=0 by grind] at S;exact Vt S
def MS (ba:bo b a) (bc:bo b c) (h:0<bP a b c) (h1:0<=bP a b q) (h2:0<=bP b c q):¬bo q b:=by
 intro hq;have A:=rS hq;have V:=rS ba;have U:=rS bc;have hc:0<(c.1-b.1)*(a.2-b.2)-(c.2-b.2)*(a.1-b.1):=by
  have e:bP a b c=(c.1-b.1)*(a.2-b.2)-(c.2-b.2)*(a.1-b.1):=by unfold bP;grind
  rw[<-e];exact h
 have k1:0<=(a.1-b.1)*(b.2-q.2)-(a.2-b.2)*(b.1-q.1):=by
  have e:bP a b q=(a.1-b.1)*(b.2-q.2)-(a.2-b.2)*(b.1-q.1):=by unfold bP;grind
  rw[<-e];exact h1
 have k2:0<=-((c.1-b.1)*(b.2-q.2)-(c.2-b.2)*(b.1-q.1)):=by
  have e:bP b c q = -((c.1-b.1)*(b.2-q.2)-(c.2-b.2)*(b.1-q.1)):=by unfold bP;grind
  rw[<-e];exact h2
 exact Th A V U hc k1 k2
def Lk (ab:bo a b) (cb:bo c b) (h:0<bP a b c) (h1:0<=bP a b q) (h2:0<=bP b c q):¬bo b q:=λhq =>
 MS (AF.mpr ab) (AF.mpr cb) (by rw[vD];exact h) (by rw[vD];exact h1) (by rw[vD];exact h2) (AF.mpr hq)
def Ni (R:List Pt):Prop:=∀l a b c s,R=l++a::b::c::s->¬(bo b a/\bo b c)
def Nj (R:List Pt):Prop:=∀l a b s,R=l++a::b::s->a≠b
theorem Bm:∀(s:List Pt) (a b:Pt),bo b a->Ni (a::b::s)->Nj (a::b::s)->k_ (a::b::s)
 | [],a,b,h,_,_=>by simp only[k_,bZ,aN,gH,or_false];exact⟨λx e=>e ▸ h,by simp⟩
 | c::s,a,b,h,nd,nr=>by
  have hc:bo c b:=by
   rcases qS c b with h' | h' | h'
   ·exact h'
   ·exact absurd h'.symm (nr [a] b c s rfl)
   ·exact absurd ⟨h,h'⟩ (nd [] a b c s rfl)
  have ih:=Bm s b c hc (λl x y z w e=>nd (a::l) x y z w (by rw[e];rfl)) (λl x y w e=>nr (a::l) x y w (by rw[e];rfl));refine bZ.mpr ⟨λq hq=>?_,ih⟩;rcases aN.mp hq with rfl | hq
  ·exact h
  ·exact rK ((bZ.mp ih).1 q hq) h
theorem Cp:∀(R:List Pt),R≠[]->Ni R->Nj R->∃A m B,R=A++m::B/\g8 (A++[m])/\k_ (m::B)
 | [],h,_,_=>absurd rfl h
 | [x],_,_,_=>⟨[],x,[],rfl,by simp[g8],by simp[k_]⟩
 | a::b::s,_,nd,nr=>by
  rcases qS a b with h | h | h
  ·obtain⟨A,m,B,e,i,d⟩:=Cp (b::s) (by simp) (λl x y z w e=>nd (a::l) x y z w (by rw[e];rfl)) (λl x y w e=>nr (a::l) x y w (by rw[e];rfl));refine⟨a::A,m,B,by rw[e];rfl,?_,d⟩;refine bZ.mpr ⟨λq hq=>?_,i⟩;have hb:q=b\/bo b q:=by
    match A,e,i,hq with
    | [],e,i,hq=>simp at hq;simp at e;exact cY (hq.trans e.1.symm)
    | x::A,e,i,hq =>
     simp at e;obtain⟨rfl,e⟩:=e;rcases aN.mp hq with rfl | hq
     ·exact cY rfl
     ·exact cV ((bZ.mp i).1 q hq)
   rcases hb with rfl | hb
   ·exact h
   ·exact rK h hb
  ·exact absurd h (nr [] a b s rfl)
  ·exact⟨[],a,b::s,rfl,by simp[g8],Bm s a b h nd nr⟩
structure pe (L:List Pt) (z y:Pt) (t:List Pt):Prop where
 mem:∀q∈z::y::t,q∈L
 least:∀q∈y::t,bo z q
 side:∀l a b r,(z::y::t)++[z]=l++a::b::r->∀q∈L,0<=bP a b q
 bend:∀l a b c r,(z::y::t)++[z,y]=l++a::b::c::r->0<bP a b c
def Kf (h:0<bP a b c):a≠b/\b≠c:=by
 constructor <;> rintro rfl <;> unfold bP at h <;> grind
def uF (L:List Pt):List Pt:=(lF L).reverse.dropLast
theorem Le {z b a c:Pt} {T l s:List Pt} (e:(z::T)++[z]=l++a::b::c::s):b∈T:=by
 have h:((z::T)++[z]).dropLast=(l++a::b::c::s).dropLast:=congrArg UK e;have h2:(l++a::b::c::s).dropLast=(l++[a])++(b::(c::s).dropLast):=by
  have:l++a::b::c::s=(l++[a,b])++(c::s):=by simp
  rw[this,List.dropLast_append_of_ne_nil (by simp)];simp
 rw[kJ,h2] at h;cases l with
 | nil=>simp at h;rw[h.2];simp
 | cons l0 l=>simp at h;rw[h.2];simp
def Mn {z y:Pt} (iL:g8 L) (H:pe L z y t):uF L++uF L.reverse=z::y::t:=by
 have G_:bo z y:=H.least y (by simp);have mn:∀l a b c s,(z::y::t)++[z]=l++a::b::c::s->0<bP a b c:=by
  intro l a b c s e;refine H.bend l a b c (s++[y]) ?_;have:(z::y::t)++[z,y]=((z::y::t)++[z])++[y]:=by simp
  rw[this,e];simp
 have rep:Nj ((z::y::t)++[z]):=by
  intro l a b s e
  match s with
  | c::s=>exact (Kf (mn l a b c s e)).1
  | [] =>
   have:(z::y::t)++[z,y]=l++a::b::[y]:=by
    have:(z::y::t)++[z,y]=((z::y::t)++[z])++[y]:=(by simp);rw[this,e];simp
   exact (Kf (H.bend l a b y [] this)).1
 have zw:∀q∈(z::y::t)++[z],q∈L:=by
  intro q hq;rcases cJ.mp hq with h | h
  ·exact H.mem q h
  ·simp at h;subst h;exact H.mem _ (by simp)
 have hz:z∈L:=H.mem z (by simp);have dip:Ni ((z::y::t)++[z]):=by
  intro l a b c s e ⟨h1,h2⟩;have nb:=MS h1 h2 (mn l a b c s e) (H.side l a b (c::s) e z hz) (H.side (l++[a]) b c s (by rw[e];simp) z hz);exact nb (H.least b (Le e))
 obtain⟨A,m,B,e,iA,dB⟩:=Cp _ (by simp) dip rep;have hA:∃A',A=z::A':=by
  match A,e with
  | [],e =>
   exfalso;simp at e;obtain⟨rfl,e5⟩:=e;have hy:y∈B:=(by rw[<-e5];simp);exact uZ G_ ((bZ.mp dB).1 y hy)
  | x::A',e=>simp at e;exact⟨A',by rw[e.1]⟩
 obtain⟨A',rfl⟩:=hA;have hB:∃B',B=B'++[z]:=by
  rcases fI B with rfl | ⟨B',x,rfl⟩
  ·exfalso;have e':(z::y::t)++[z]=(z::A')++[m]:=e;have:=gX e' rfl;simp at this;subst this;exact uS ((bZ.mp iA).1 z (by simp))
  ·have e':(z::y::t)++[z]=(z::A'++m::B')++[x]:=(by rw[e];simp);have:=gX e' rfl;simp at this;exact⟨B',by rw[this];simp⟩
 obtain⟨B',rfl⟩:=hB;have e2:(z::y::t)++[z]=(z::A'++m::B')++[z]:=by rw[e];simp
 have er:z::y::t=z::A'++m::B':=mB e2 rfl;have zx:∀q∈L,¬bo q z:=by
  intro q hq;rcases fI (y::t) with h | ⟨u,x,hu⟩
  ·simp at h
  ·have e3:(z::y::t)++[z,y]=(z::u)++x::z::y::[]:=(by rw[hu];simp);have hx:bo z x:=H.least x (by rw[hu];simp);exact MS hx G_ (H.bend _ _ _ _ _ e3) (H.side (z::u) x z [] (by rw[hu];simp) q hq) (H.side [] z y (t++[z]) (by simp) q hq)
 have zt:∀q∈L,¬bo m q:=by
  intro q hq;rcases fI (z::A') with h | ⟨u,x,hu⟩
  ·simp at h
  ·have hxm:bo x m:=by
    have iA':=iA;rw[hu] at iA';exact (jF.mp iA').2.2 x (by simp) m (by simp)
   match hB':B'++[z],dB with
   | [],_=>simp at hB'
   | c::s,dB =>
    have e3:(z::y::t)++[z]=u++x::m::c::s:=(by rw[e,<-hB',hu];simp);have hcm:bo c m:=by
     exact (bZ.mp dB).1 c (by simp)
    exact Lk hxm hcm (mn _ _ _ _ _ e3) (H.side _ _ _ _ e3 q hq) (H.side (u++[x]) m c s (by rw[e3];simp) q hq)
 have low:di L (z::A'++[m]):=by
  refine⟨iA,λq hq=>zw q ?_,λq hq c r ec=>?_,λq hq c l ec=>?_,λl a b r ec q hq=>?_,λl a b c r ec=>?_⟩
  ·rw[e];simp at hq ⊢;rcases hq with h | h | h <;> simp[h]
  ·simp at ec;rw[<-ec.1];exact zx q hq
  ·have:=gX ec rfl;simp at this;rw[<-this];exact zt q hq
  ·refine H.side l a b (r++(B'++[z])) ?_ q hq;have:z::A'++m::(B'++[z])=(z::A'++[m])++(B'++[z]):=(by simp);rw[e,this,ec];simp
  ·refine mn l a b c (r++(B'++[z])) ?_;have:z::A'++m::(B'++[z])=(z::A'++[m])++(B'++[z]):=(by simp);rw[e,this,ec];simp
 have oi:∀q∈L.map kH,∃p∈L,q=kH p:=by
  intro q hq;obtain⟨p,hp,rfl⟩:=bJ.mp hq;exact⟨p,hp,rfl⟩
 have eN:∀(X Y:List Pt),X.map kH=Y->X=Y.map kH:=by
  rintro X Y rfl;rw[cM];have e:kH ∘ kH=id:=by funext p;exact DH p
  rw[e,pF]
 have up:di (L.map kH) ((m::(B'++[z])).map kH):=by
  refine⟨HQ dB,λq hq=>?_,λq hq c r ec=>?_,λq hq c l ec=>?_,λl a b r ec q hq=>?_,λl a b c r ec=>?_⟩
  ·obtain⟨p,hp,rfl⟩:=bJ.mp hq;refine cO (zw p ?_);rw[e];exact aV _ hp
  ·obtain⟨p,hp,rfl⟩:=oi q hq;simp at ec;rw[<-ec.1,AF];exact zt p hp
  ·obtain⟨p,hp,rfl⟩:=oi q hq;have s9:(m::B').map kH++[kH z]=l++[c]:=(by simpa using ec);have:=gX s9 rfl;simp at this;rw[<-this,AF];exact zx p hp
  ·obtain⟨p,hp,rfl⟩:=oi q hq;have s9:=eN _ _ ec;simp only[dI,aQ] at s9;have:=H.side (z::A'++l.map kH) (kH a) (kH b) (r.map kH) (by rw[e,s9];simp) p hp;rw[<-vD,DH,DH] at this;exact this
  ·have s9:=eN _ _ ec;simp only[dI,aQ] at s9;have:=mn (z::A'++l.map kH) (kH a) (kH b) (kH c) (r.map kH) (by rw[e,s9];simp);rw[vD] at this;exact this
 have h1:=Ca iL low (by simp);have h2:=Sw iL up (by simp);unfold uF;rw[h1,h2,er];have:m::(B'++[z])=(m::B')++[z]:=by simp
 rw[this,kJ,kJ]
def Ez (L:List Pt):Prop:=L.Pairwise λx y=>¬bo y x
theorem WX (p:Pt):∀s,kN p (kN p s)=kN p s
 | []=>rfl
 | [_]=>rfl
 | b::a::r=>by
  by_cases h:bP a b p<=0
  ·rw[kN,if_pos h];exact WX p (a::r)
  ·have e:kN p (b::a::r)=b::a::r:=(by rw[kN,if_neg h]);rw[e,e]
def My (a p:Pt):bP a p p<=0:=by
 unfold bP;have:(p.1-a.1)*(p.2-a.2)-(p.2-a.2)*(p.1-a.1)=0:=by grind
 lia
def UC (a p:Pt):bP a a p<=0:=by
 unfold bP;have:(a.1-a.1)*(p.2-a.2)-(a.2-a.2)*(p.1-a.1)=0:=by grind
 lia
def tF (L:List Pt) (p:Pt):lF (L++[p])=p::kN p (lF L):=by unfold lF;rw[List.foldl_append];rfl
def Pd:∀(L:List Pt),(lF L).length<=L.length:=by
 have sub:∀(L s:List Pt),(L.foldl (λs p=>p::kN p s) s).length<=L.length+s.length:=by
  intro L
  induction L with
  | nil=>intro s;simp
  | cons y L ih =>
   intro s;have i2:=ih (y::kN y s);have:=(yQ y s).length_le;simp only[qQ,bH] at i2 ⊢;lia
 intro L;simpa [lF] using sub L []
structure x6 (L D:List Pt):Prop where
 inc:g8 D
 mem:∀z,z∈D↔z∈L
 many:2<=D.length->lF L=lF D
 one:∀c,D=[c]->lF L=[c]\/lF L=[c,c]
 none:D=[]->lF L=[]
def Uu {α:Type} {P:List α->Prop} (h0:P []) (h1:∀l x,P l->P (l++[x])):∀l,P l:=by
 intro l;have:∀m:List α,P m.reverse:=by
  intro m
  induction m with
  | nil=>exact h0
  | cons x m ih=>rw[wT];exact h1 _ _ ih
 have:=this l.reverse
 rwa [List.reverse_reverse] at this
def Ou:∀(L:List Pt),Ez L->∃D,x6 L D:=by
 refine Uu ?_ ?_
 ·intro _;exact⟨[],oZ,λz=>Iff.rfl,λh=>absurd h (by simp),λc h=>by simp at h,λ_=>rfl⟩
 ·intro L p ih hw;have hw':=jF.mp hw;obtain⟨D,H⟩:=ih hw'.1;have top:∀z∈L,¬bo p z:=λz hz=>hw'.2.2 z hz p (by simp);rcases fI D with hD | ⟨D',c,hD⟩
  ·-- nothing so far
   have hL:L=[]:=by
    apply List.eq_nil_iff_forall_not_mem.mpr;intro z hz;have:=(H.mem z).mpr hz;rw[hD] at this;cases this
   subst hL;refine⟨[p],by simp[g8],λz=>by simp,λh=>absurd h (by simp),λc h=>?_,λh=>by simp at h⟩;simp at h;subst h;exact cY rfl
  ·have hD:D=D'++[c]:=(by simpa using hD);subst hD;have hcL:c∈L:=(H.mem c).mp (by simp);have cl:∀z∈D'++[c],z=c\/bo z c:=by
    intro z hz;rcases cJ.mp hz with h | h
    ·exact cV ((jF.mp H.inc).2.2 z h c (by simp))
    ·exact cY (by simpa using h)
   by_cases hpc:p=c
   ·subst hpc;refine⟨D'++[p],H.inc,λz=>?_,λh2=>?_,λc hc=>?_,λh=>by simp at h⟩
    ·rw[H.mem z];simp only[cJ,dM];exact⟨cY,λh=>h.elim id λe=>e ▸ hcL⟩
    ·rw[tF,H.many h2,tF];have fx:lF D'≠[]:=by
      rcases fI D' with h | ⟨D'',d,h⟩
      ·rw[h] at h2;simp at h2
      ·have:D'=D''++[d]:=(by simpa using h);rw[this,tF];simp
     have ze:=Jn p _ fx;generalize hu:kN p (lF D')=u at ze;cases u with
     | nil=>exact absurd rfl ze
     | cons a r =>
      rw[kN,if_pos (My a p)];congr 1;rw[<-hu,WX]
    ·have hD':D'=[]/\p=c:=by
      cases D' with
      | nil=>simp at hc;exact⟨rfl,hc⟩
      | cons x D'=>simp at hc
     obtain⟨rfl,rfl⟩:=hD';rw[tF];rcases H.one p rfl with e | e
     ·rw[e];exact cV rfl
     ·rw[e,kN,if_pos (UC p p)];exact cV rfl
   ·have zr:bo c p:=by
     rcases qS c p with h | h | h
     ·exact h
     ·exact absurd h.symm hpc
     ·exact absurd h (top c hcL)
    have inc2:g8 ((D'++[c])++[p]):=by
     refine jF.mpr ⟨H.inc,by simp,λz hz w hw=>?_⟩;have:w=p:=(by simpa using hw);subst this;rcases cl z hz with rfl | h
     ·exact zr
     ·exact rK h zr
    refine⟨(D'++[c])++[p],inc2,λz=>?_,λ_=>?_,λd hd=>by have:=congrArg fM hd;simp at this,λh=>by simp at h⟩
    ·rw[cJ,H.mem z,cJ]
    ·rw[tF,tF (D'++[c])];by_cases h2:2<=(D'++[c]).length
     ·rw[H.many h2]
     ·have:D'=[]:=by
       cases D' with
       | nil=>rfl
       | cons x D'=>simp at h2
      subst this;rcases H.one c rfl with e | e
      ·rw[e];rfl
      ·rw[e,kN,if_pos (UC c p)];rfl
theorem Bo {L D:List Pt} (hw:Ez L) (iD:g8 D) (hm:∀z,z∈D↔z∈L):(2<=D.length->lF L=lF D)/\(D.length<=1->(lF L).length<=2):=by
 obtain⟨D1,H⟩:=Ou L hw;have:D1=D:=ZD _ _ H.inc iD λq=>(H.mem q).trans (hm q).symm;subst this;refine⟨H.many,λh=>?_⟩
 match D1,H,h with
 | [],H,_=>rw[H.none rfl];simp
 | [c],H,_=>rcases H.one c rfl with e | e <;> rw[e] <;> simp
 | _::_::_,_,h=>simp at h
def GA (L:List Pt):List Pt:=uF L++uF L.reverse
def Bp {L D:List Pt} (hw:Ez L) (iD:g8 D) (hm:∀z,z∈D↔z∈L):(2<=D.length->GA L=GA D)/\(D.length<=1->(GA L).length<3):=by
 have a:=Bo hw iD hm;have wn:Ez (L.reverse.map kH):=by
  unfold Ez;rw[kO,oR];exact hw.imp λh k=>h (AF.mp k)
 have iN:g8 (D.reverse.map kH):=HQ (oR.mpr iD);have b:=Bo wn iN λz=>by simp only[bJ,pW];constructor <;> (rintro⟨w,h1,h2⟩;exact⟨w,by first | exact (hm w).mp h1 | exact (hm w).mpr h1,h2⟩)
 rw[RZ,RZ] at b;simp only[bV,uD] at b;have inj:∀(X Y:List Pt),X.map kH=Y.map kH->X=Y:=by
  intro X Y h;have:=congrArg (vR kH) h;rw[cM,cM] at this;have e:kH ∘ kH=id:=by funext p;exact DH p
  rwa [e,pF,pF] at this
 constructor
 ·intro h;unfold GA uF;rw[a.1 h,inj _ _ (b.1 h)]
 ·intro h;have h1:=a.2 h;have h2:=b.2 h;unfold GA uF;simp only[dA,BX,uD];exact vT (Nat.add_le_add (CD h1 1) (CD h2 1)) (by decide)
def gn (L:List Pt) (a b:Pt):Prop:=∃l r,L=l++a::b::r
def gn.cons (x:Pt) (h:gn L a b):gn (x::L) a b:=by
 obtain⟨l,r,rfl⟩:=h;exact⟨x::l,r,rfl⟩
def gn.left (B:List Pt) (h:gn A a b):gn (A++B) a b:=by
 obtain⟨l,r,rfl⟩:=h;exact⟨l,r++B,by simp⟩
def gn.right (A:List Pt) (h:gn B a b):gn (A++B) a b:=by
 obtain⟨l,r,rfl⟩:=h;exact⟨A++l,r,by simp⟩
theorem SN:∀(A B:List Pt) (a b:Pt),gn (A++B) a b->gn A a b\/((∃A',A=A'++[a])/\∃B',B=b::B')\/gn B a b
 | [],B,a,b,h=>cV (cV h)
 | [x],B,a,b,⟨l,r,e⟩=>by
  cases l with
  | nil =>
   simp at e;obtain⟨rfl,e⟩:=e;exact cV (cY ⟨⟨[],rfl⟩,r,e⟩)
  | cons y l=>simp at e;exact cV (cV ⟨l,r,e.2⟩)
 | x::y::A,B,a,b,⟨l,r,e⟩=>by
  cases l with
  | nil =>
   simp at e;obtain⟨rfl,rfl,e⟩:=e;exact cY ⟨[],A,rfl⟩
  | cons u l =>
   simp at e;obtain⟨rfl,e⟩:=e;rcases SN (y::A) B a b ⟨l,r,by simpa using e⟩ with h | ⟨⟨A',h1⟩,h2⟩ | h
   ·exact cY (h.cons x)
   ·exact cV (cY ⟨⟨x::A',by rw[h1];rfl⟩,h2⟩)
   ·exact cV (cV h)
def ZK (h:gn (L.map f) a b):∃x y,gn L x y/\a=f x/\b=f y:=by
 obtain⟨l,r,e⟩:=h;obtain⟨l1,l2,rfl,rfl,e2⟩:=rV.mp e;obtain⟨x,l3,rfl,rfl,e3⟩:=kK.mp e2;obtain⟨y,l4,rfl,rfl,e4⟩:=kK.mp e3;exact⟨x,y,⟨l1,l4,rfl⟩,rfl,rfl⟩
def gn.mem (h:gn L a b):a∈L/\b∈L:=by
 obtain⟨l,r,rfl⟩:=h;simp
def au (cs:List Pt) (a b:Pt):Prop:=gn (cs++cs.take 1) a b
structure bB (cs:List Pt):Prop where
 len:3<=cs.length
 nodup:cs.Nodup
 strict:∀a b,au cs a b->∀q∈cs,q≠a->q≠b->0<bP a b q
def Hj (a b:Pt):bP a b a=0:=by unfold bP;grind
def Rq (a b:Pt):bP a b b=0:=by unfold bP;grind
def bB.side (h:bB cs) (dq:au cs a b) (hq:q∈cs):0<=bP a b q:=by
 by_cases h1:q=a
 ·subst h1;rw[Hj];decide
 ·by_cases h2:q=b
  ·subst h2;rw[Rq];decide
  ·exact cR (h.strict a b dq q hq h1 h2)
def bB.map (h:bB cs) (hk:0<k) (hf:∀a b c,bP (f a) (f b) (f c)=k*bP a b c) (inj:∀a b,f a=f b->a=b):bB (cs.map f):=by
 refine⟨by simpa using h.len,?_,λa b dq q hq n1 n2=>?_⟩
 ·exact wP f (λa b hn e=>hn (inj a b e)) h.nodup
 ·unfold au at dq;rw[<-kG,<-dI] at dq;obtain⟨x,y,hxy,rfl,rfl⟩:=ZK dq;obtain⟨p,hp,rfl⟩:=bJ.mp hq;rw[hf];exact aS hk (h.strict x y hxy p hp (λe=>n1 (by rw[e])) λe=>n2 (by rw[e]))
theorem JN (h:au (Y++X) a b):au (X++Y) a b:=by
 unfold au at *;cases Y with
 | nil=>simpa using h
 | cons y Y =>
  cases X with
  | nil=>simpa using h
  | cons x X =>
   simp only[aW,uE,CB] at h ⊢;have e:y::(Y++x::X++[y])=(y::Y)++((x::X)++[y]):=(by simp);rw[e] at h;have yp:∀{a b},gn ((x::X)++[y]) a b->gn (x::(X++y::Y++[x])) a b:=by
    intro a b h;have:=h.left (Y++[x]);simpa using this
   have uh:∀{a b},gn ((y::Y)++[x]) a b->gn (x::(X++y::Y++[x])) a b:=by
    intro a b h;have:=h.right (x::X);simpa using this
   rcases SN _ _ a b h with h | ⟨⟨A',h1⟩,B',h2⟩ | h
   ·exact uh (h.left _)
   ·simp at h2;refine uh ?_;rw[h1,<-h2.1];exact⟨A',[],by simp⟩
   ·exact yp h
def bB.swap (h:bB (X++Y)):bB (Y++X):=by
 refine⟨by have:=h.len;simp at this ⊢;lia,?_,λa b dq q hq=>h.strict a b (JN dq) q (by simp at hq ⊢;exact hq.symm)⟩;have:=h.nodup;rw[wS] at this ⊢;exact⟨this.2.1,this.1,λa ha b hb e=>this.2.2 b hb a ha e.symm⟩
def au.mem (h:au cs a b):a∈cs/\b∈cs:=by
 have k:∀x,x∈cs++cs.take 1->x∈cs:=λx hx=>(cJ.mp hx).elim id kL;exact⟨k a (gn.mem h).1,k b (gn.mem h).2⟩
theorem len_sub {α:Type} [DecidableEq α]:∀(l m:List α),l.Nodup->(∀x∈l,x∈m)->l.length<=m.length
 | [],_,_,_=>fV _
 | x::l,m,hn,hs=>by
  have hx:=hs x (.head _);have ky:=fJ.mp hn;have:=len_sub l (m.erase x) ky.2 λy hy=>(BY λ(e:y=x)=>ky.1 (e ▸ hy)).mpr (hs y (.tail _ hy));rw[xI hx] at this;exact fK (LZ this) (zO (Nat.succ_pred_eq_of_pos (zK hx)))
def bB.third (c:bB cs) (u v:Pt):∃w∈cs,w≠u/\w≠v:=by
 apply cI;intro hn;have:=len_sub cs [u,v] c.nodup λw hw=>by
  by_cases h1:w=u
  ·exact h1 ▸ .head _
  ·by_cases h2:w=v
   ·exact h2 ▸ .tail _ (.head _)
   ·exact absurd ⟨w,hw,h1,h2⟩ hn
 exact absurd (fK c.len this) (show ¬ 3<=2 by decide)
def bB.ne (c:bB cs) (h:au cs u v):u≠v:=by
 obtain⟨w,hw,n1,n2⟩:=c.third u v;rintro rfl;have:=c.strict u u h w hw n1 n2;rw[show bP u u w=0 by unfold bP;grind] at this;exact mX _ this
def ZJ (c:bB cs) (h:au cs u v) (h':au cs v u):False:=by
 obtain⟨w,hw,w1,w2⟩:=c.third u v;have t1:=c.strict _ _ h w hw w1 w2;rw[show bP u v w = - bP v u w by unfold bP;grind] at t1;exact pT (c.strict _ _ h' w hw w2 w1) (Int.neg_pos.mp t1)
def bB.bend (h:bB R) (e:R++R.take 2=l++a::b::c::r):0<bP a b c:=by
 obtain⟨x,y,R',eR⟩:∃x y R',R=x::y::R':=by
  match R,h.len with
  | x::y::R',_=>exact⟨x,y,R',rfl⟩
 have t1:R.take 1=[x]:=by rw[eR];rfl
 have t2:R++R.take 2=(R++R.take 1)++[y]:=by rw[t1,eQ,eR];rfl
 rw[t2] at e;have ⟨ab,bc⟩:au R a b/\au R b c:=by
  rcases fI r with rfl | ⟨r',w,rfl⟩
  ·have e':(R++R.take 1)++[y]=(l++[a,b])++[c]:=(by rw[e,eQ];rfl);have k:=mB e' rfl;have ec:=gX e' rfl;injection ec with ec _;refine⟨⟨l,[],k⟩,?_⟩;have k':R++[x]=(l++[a])++[b]:=(by rw[<-t1,k,eQ];rfl);have eb:=gX k' rfl;injection eb with eb _;rw[<-eb,<-ec];exact⟨[],R'++[x],by rw[t1,eR];rfl⟩
  ·have e':(R++R.take 1)++[y]=(l++a::b::c::r')++[w]:=(by rw[e,eQ,BC];rfl);have k:=mB e' rfl;exact⟨⟨l,c::r',k⟩,l++[a],r',by rw[k,eQ];rfl⟩
 exact h.strict a b ab c bc.mem.2 (λhc=>ZJ h ab (hc ▸ bc)) λhc=>h.ne bc hc.symm
def AK {L D:List Pt} {z:Pt} (iD:g8 D) (h:bB (z::T)) (least:∀q∈T,¬bo q z) (mem:∀q∈z::T,q∈D) (left:∀a b,au (z::T) a b->∀q∈D,0<=bP a b q):GA D=z::T:=by
 obtain⟨y,t,rfl⟩:∃y t,T=y::t:=by
  have:=h.len;cases T with
  | nil=>simp at this
  | cons y t=>exact⟨y,t,rfl⟩
 refine Mn iD ⟨mem,λq hq=>?_,λl a b r e=>left a b ⟨l,r,e⟩,λl a b c r e=>h.bend (l:=l) (r:=r) e⟩;rcases qS z q with h' | h' | h'
 ·exact h'
 ·subst h';exact absurd hq (fJ.mp h.nodup).1
 ·exact absurd h' (least q hq)
abbrev H3:=Int × Int × Int
def fZ (p q r:H3):Int:=p.1*(q.2.1*r.2.2-q.2.2*r.2.1)-p.2.1*(q.1*r.2.2-q.2.2*r.1)+p.2.2*(q.1*r.2.1-q.2.1*r.1)
abbrev ap (z:Pt):H3:=(z.1,z.2,1)
abbrev yH (α:Int) (p:H3) (β:Int) (q:H3):H3:=(α*p.1+β*q.1,α*p.2.1+β*q.2.1,α*p.2.2+β*q.2.2)
def ML (a b c:Pt):fZ (ap a) (ap b) (ap c)=bP a b c:=by unfold fZ bP ap;dsimp only;grind
def MK (p q u v:H3) (α β:Int):fZ p q (yH α u β v)=α*fZ p q u+β*fZ p q v:=by unfold fZ yH;dsimp only;grind
structure a_ where
 a:Int
 b:Int
 k:Int
section
variable (L:a_)
def ae (z:Pt):Int:=L.a*z.1+L.b*z.2-L.k
def c7 (p:H3):Int:=L.a*p.1+L.b*p.2.1-L.k*p.2.2
theorem oP (z:Pt):c7 L (ap z)=ae L z:=by unfold c7 ae ap;dsimp only;lia
theorem Nd (α β:Int) (p q:H3):c7 L (yH α p β q)=α*c7 L p+β*c7 L q:=by unfold c7 yH;dsimp only;grind
theorem Xj (v1 v2 v3 v4:H3):c7 L v1*fZ v2 v3 v4-c7 L v2*fZ v1 v3 v4+c7 L v3*fZ v1 v2 v4-c7 L v4*fZ v1 v2 v3=0:=by unfold c7 fZ;grind
def lY (u v:Pt):H3:=yH (ae L v).natAbs (ap u) (ae L u).natAbs (ap v)
def gq (u v:Pt):List H3:=(if ae L u<=0 then [ap u] else [])++(if ae L u*ae L v<0 then [lY L u v] else [])
def Pl:List Pt->List H3
 | []=>[]
 | [_]=>[]
 | u::v::r=>gq L u v++Pl (v::r)
end
section
variable {L:a_} {cs:List Pt}
theorem wk {x y:Int} (h:x*y<0):(x<0/\0<y)\/(0<x/\y<0):=by
 rcases iS x 0 with hx | rfl | hx
 ·exact cY ⟨hx,fA.mp λhy=>fA.mpr h (lP (cR hx) hy)⟩
 ·rw[rR] at h;exact absurd h (mX _)
 ·exact cV ⟨hx,fA.mp λhy=>fA.mpr h (eV (cR hx) hy)⟩
theorem sH {x y:Int} (h:(x<0/\0<y)\/(0<x/\y<0)):x*y<0:=by
 rcases h with ⟨h1,h2⟩ | ⟨h1,h2⟩
 ·exact iP h1 h2
 ·exact fR h1 h2
theorem II (h:ae L u*ae L v<0):c7 L (lY L u v)=0:=by
 unfold lY;rw[Nd,oP,oP];rcases wk h with ⟨h1,h2⟩ | ⟨h1,h2⟩
 ·rw[tS (cR h2),vO (cR h1)];grind
 ·rw[tS (cR h1),vO (cR h2)];grind
theorem tP (h:ae L u*ae L v<0):(0:Int)<(ae L v).natAbs/\(0:Int)<(ae L u).natAbs:=by
 have k {x:Int} (n:x≠0):(0:Int)<x.natAbs:=Int.natCast_pos.mpr (Int.natAbs_pos.mpr n);rcases wk h with ⟨h1,h2⟩ | ⟨h1,h2⟩
 ·exact⟨k (rQ h2),k (zJ h1)⟩
 ·exact⟨k (zJ h2),k (rQ h1)⟩
theorem IE (h:ae L u*ae L v<0):2<=(lY L u v).2.2:=by
 show 1+1<=((ae L v).natAbs:Int)*1+((ae L u).natAbs:Int)*1;rw[wO,wO];exact Int.add_le_add (tP h).1 (tP h).2
inductive Pm (L:a_) (cs:List Pt):H3->Prop
 | corner {u:Pt} (hu:u∈cs) (h:ae L u<=0):Pm L cs (ap u)
 | cross {u v:Pt} (hc:au cs u v) (h:ae L u*ae L v<0):Pm L cs (lY L u v)
theorem Jh (c:bB cs) (h:au cs u v) (hw:w∈cs) (k:bP u v w=0):w=u\/w=v:=by
 by_cases h1:w=u
 ·exact cY h1
 ·by_cases h2:w=v
  ·exact cV h2
  ·exact absurd k (rQ (c.strict u v h w hw h1 h2))
theorem Bj (u v:Pt):fZ (ap u) (ap v) (lY L u v)=0:=by unfold lY;rw[MK];unfold fZ;grind
theorem SS (c:bB cs) (h:au cs u v) (hc:au cs u' v') (hx:ae L u'*ae L v'<0):(u'=u/\v'=v)\/0<fZ (ap u) (ap v) (lY L u' v'):=by
 obtain⟨f1,f2⟩:=tP hx;have m:=hc.mem;have s1:0<=bP u v u':=c.side h m.1;have s2:0<=bP u v v':=c.side h m.2;unfold lY;rw[MK,ML,ML];rcases jX s1 with k1 | k1
 ·exact cV (Int.add_pos_of_pos_of_nonneg (aS f1 k1) (eV (cR f2) s2))
 ·rcases jX s2 with k2 | k2
  ·exact cV (Int.add_pos_of_nonneg_of_pos (eV (cR f1) s1) (aS f2 k2))
  ·have ne:=c.ne hc;rcases Jh c h m.1 k1.symm with rfl | rfl <;> rcases Jh c h m.2 k2.symm with rfl | rfl
   ·exact absurd rfl ne
   ·exact cY ⟨rfl,rfl⟩
   ·exact (ZJ c h hc).elim
   ·exact absurd rfl ne
theorem tT (c:bB cs) (h:au cs u v) (hr:Pm L cs r) (n1:r≠ap u) (n2:r≠ap v) (n3:r≠lY L u v\/¬ae L u*ae L v<0):0<fZ (ap u) (ap v) r:=by
 cases hr with
 | @corner w hw he =>
  rw[ML];exact c.strict u v h w hw (λe=>n1 (by rw[e])) λe=>n2 (by rw[e])
 | @cross u' v' hc hx =>
  exact (SS c h hc hx).resolve_left λk=>n3.elim (λn=>n (by rw[k.1,k.2])) λn=>n (k.1 ▸ k.2 ▸ hx)
def gV (L:a_) (cs:List Pt) (p:H3):Prop:=∃u v,au cs u v/\0<ae L v/\((ae L u<0/\p=lY L u v)\/(ae L u=0/\p=ap u))
def Entry (L:a_) (cs:List Pt) (q:H3):Prop:=∃u v,au cs u v/\0<ae L u/\((ae L v<0/\q=lY L u v)\/(ae L v=0/\q=ap v))
theorem gV.pm (h:gV L cs p):Pm L cs p/\c7 L p=0:=by
 obtain⟨u,v,hc,hv,⟨hu,rfl⟩ | ⟨hu,rfl⟩⟩:=h
 ·have hx:=sH (cY ⟨hu,hv⟩);exact⟨.cross hc hx,II hx⟩
 ·exact⟨.corner hc.mem.1 (by lia),by rw[oP];exact hu⟩
theorem Entry.pm (h:Entry L cs p):Pm L cs p/\c7 L p=0:=by
 obtain⟨u,v,hc,hv,⟨hu,rfl⟩ | ⟨hu,rfl⟩⟩:=h
 ·have hx:=sH (cV ⟨hv,hu⟩);exact⟨.cross hc hx,II hx⟩
 ·exact⟨.corner hc.mem.2 (by lia),by rw[oP];exact hu⟩
theorem Pm.exc_le (h:Pm L cs r):c7 L r<=0:=by
 cases h with
 | corner hu he=>rw[oP];exact he
 | cross hc hx=>rw[II hx];exact wN _
theorem MN (c:bB cs) (hc:au cs u v) (hv:0<ae L v) (hp:(ae L u<0/\p=lY L u v)\/(ae L u=0/\p=ap u)) (hq:Pm L cs q) (h0:c7 L q=0) (ne:q≠p):fZ (ap v) p q<0:=by
 have s:0<fZ (ap u) (ap v) q:=by
  refine tT c hc hq ?_ ?_ ?_
  ·rintro rfl;rw[oP] at h0;rcases hp with ⟨h,_⟩ | ⟨_,rfl⟩
   ·lia
   ·exact ne rfl
  ·rintro rfl;rw[oP] at h0;lia
  ·rcases hp with ⟨h,rfl⟩ | ⟨h,_⟩
   ·exact cY ne
   ·right;rw[h];simp
 obtain⟨α,β,ha,rfl⟩:∃α β:Int,0<α/\p=yH α (ap u) β (ap v):=by
  rcases hp with ⟨h,rfl⟩ | ⟨h,rfl⟩
  ·exact⟨_,_,(tP (sH (cY ⟨h,hv⟩))).1,rfl⟩
  ·refine⟨1,0,by decide,?_⟩;simp[yH,ap]
 have e:fZ (ap v) (yH α (ap u) β (ap v)) q = -(α*fZ (ap u) (ap v) q):=by unfold fZ yH;grind
 rw[e];have:=aS ha s;lia
theorem Bu (c:bB cs) (h:gV L cs p) (h':gV L cs p'):p=p':=by
 apply cI;intro ne;have z:=h.pm;have z':=h'.pm;obtain⟨u,v,hc,hv,hp⟩:=h;obtain⟨u',v',m7,zn,k5⟩:=h';have t1:=MN c hc hv hp z'.1 z'.2 (Ne.symm ne);have t2:=MN c m7 zn k5 z.1 z.2 ne;have f:=Xj L (ap v) p p' (ap v');rw[z.2,z'.2,oP,oP] at f;have e:fZ p p' (ap v') = - fZ (ap v') p' p:=by unfold fZ;grind
 have k1:ae L v*fZ p p' (ap v') > 0:=by rw[e];exact aS hv (by lia)
 have k2:ae L v'*fZ (ap v) p p'<0:=fR zn t1;lia
theorem RU (c:bB cs) (hc:au cs u v) (hu:0<ae L u) (hp:(ae L v<0/\p=lY L u v)\/(ae L v=0/\p=ap v)) (hq:Pm L cs q) (h0:c7 L q=0) (ne:q≠p):0<fZ (ap u) p q:=by
 have s:0<fZ (ap u) (ap v) q:=by
  refine tT c hc hq ?_ ?_ ?_
  ·rintro rfl;rw[oP] at h0;lia
  ·rintro rfl;rw[oP] at h0;rcases hp with ⟨h,_⟩ | ⟨_,rfl⟩
   ·lia
   ·exact ne rfl
  ·rcases hp with ⟨h,rfl⟩ | ⟨h,_⟩
   ·exact cY ne
   ·right;rw[h];simp
 obtain⟨α,β,hb,rfl⟩:∃α β:Int,0<β/\p=yH α (ap u) β (ap v):=by
  rcases hp with ⟨h,rfl⟩ | ⟨h,rfl⟩
  ·exact⟨_,_,(tP (sH (cV ⟨hu,h⟩))).2,rfl⟩
  ·refine⟨0,1,by decide,?_⟩;simp[yH,ap]
 have e:fZ (ap u) (yH α (ap u) β (ap v)) q=β*fZ (ap u) (ap v) q:=by unfold fZ yH;grind
 rw[e];exact aS hb s
theorem WO (c:bB cs) (h:Entry L cs p) (h':Entry L cs p'):p=p':=by
 apply cI;intro ne;have z:=h.pm;have z':=h'.pm;obtain⟨u,v,hc,hv,hp⟩:=h;obtain⟨u',v',m7,zn,k5⟩:=h';have t1:=RU c hc hv hp z'.1 z'.2 (Ne.symm ne);have t2:=RU c m7 zn k5 z.1 z.2 ne;have f:=Xj L (ap u) p p' (ap u');rw[z.2,z'.2,oP,oP] at f;have e:fZ p p' (ap u') = - fZ (ap u') p' p:=by unfold fZ;grind
 have k1:ae L u*fZ p p' (ap u')<0:=by rw[e];exact fR hv (by lia)
 have k2:0<ae L u'*fZ (ap u) p p':=aS zn t1;lia
theorem MR (c:bB cs) (hp:gV L cs p) (hq:Entry L cs q) (ne:q≠p):∃k m:Int,0<k/\0<m/\∀r:H3,k*fZ p q r = -(m*c7 L r):=by
 have z:=hp.pm;have z':=hq.pm;obtain⟨u,v,hc,hv,h⟩:=hp;have t:=MN c hc hv h z'.1 z'.2 ne;refine⟨ae L v,-fZ (ap v) p q,hv,by lia,λr=>?_⟩;have f:=Xj L (ap v) p q r;rw[z.2,z'.2,oP] at f;grind
theorem WU (c:bB cs) (h1:au cs t u) (h2:au cs u v) (nt:t≠v) (e1:ae L t<=ae L u) (e2:ae L v<=ae L u):∀w∈cs,ae L w<=ae L u:=by
 intro w hw;have D:0<bP t u v:=c.strict t u h1 v h2.mem.2 (Ne.symm nt) (Ne.symm (c.ne h2));have C:=c.side h1 hw;have A:=c.side h2 hw;have key:bP t u v*ae L w=bP t u v*ae L u-bP u v w*(ae L u-ae L t)-bP t u w*(ae L u-ae L v):=by
  unfold bP ae;grind
 apply jY.mp;intro hn;have k1:0<bP t u v*(ae L w-ae L u):=aS D (by lia);have k2:=eV A (show 0<=ae L u-ae L t by lia);have k3:=eV C (show 0<=ae L u-ae L v by lia);have e:bP t u v*(ae L w-ae L u)=bP t u v*ae L w-bP t u v*ae L u:=by grind
 lia
theorem WT (c:bB cs) (h1:au cs t u) (h2:au cs u v) (nt:t≠v) (e1:ae L u<=ae L t) (e2:ae L u<=ae L v):∀w∈cs,ae L u<=ae L w:=by
 intro w hw;have:=WU (L:=⟨-L.a,-L.b,-L.k⟩) c h1 h2 nt (by unfold ae at *;dsimp only at *;grind) (by unfold ae at *;dsimp only at *;grind) w hw;unfold ae at *;dsimp only at *;grind
end
section
variable {L:a_} {cs:List Pt}
theorem RH (c:bB cs) (hu:u∈cs):∃t v,au cs t u/\au cs u v/\t≠v:=by
 obtain⟨X,Y,rfl⟩:=nX hu;have c2:bB ((u::Y)++X):=c.swap;have len:=c2.len;have nd:=c2.nodup;have bk:∀{a b},au ((u::Y)++X) a b->au (X++u::Y) a b:=λh=>JN h;rw[aW] at len nd bk;generalize Y++X=Z at len nd bk;obtain⟨v,Z1,hv⟩:∃v Z1,Z=v::Z1:=by
  cases Z with
  | nil=>simp at len
  | cons v Z1=>exact⟨v,Z1,rfl⟩
 obtain⟨t,Z2,ht⟩:∃t Z2,Z=Z2++[t]:=by
  rcases fI Z with h | ⟨Z2,t,h⟩
  ·rw[h] at len;simp at len
  ·exact⟨t,Z2,by simpa using h⟩
 refine⟨t,v,bk ⟨u::Z2,[],by rw[ht];simp⟩,bk ⟨[],Z1++[u],by rw[hv];simp⟩,?_⟩;rintro rfl;have nd':=(fJ.mp nd).2;rw[hv] at nd';cases Z1 with
 | nil=>rw[hv] at len;simp at len
 | cons x Z1 =>
  have:t∈x::Z1:=by
   have e:t::x::Z1=Z2++[t]:=(by rw[<-hv,ht]);cases Z2 with
   | nil=>simp at e
   | cons y Z2 =>
    simp at e;rw[e.2];simp
  exact (fJ.mp nd').1 this
theorem XT (c:bB cs) (gr:∃w∈cs,0<ae L w) (hr:Pm L cs r) (h0:c7 L r=0):gV L cs r\/Entry L cs r:=by
 cases hr with
 | @corner u hu he =>
  rw[oP] at h0;obtain⟨t,v,h1,h2,ne⟩:=RH c hu;by_cases hv:0<ae L v
  ·exact cY ⟨u,v,h2,hv,cV ⟨h0,rfl⟩⟩
  ·by_cases ht:0<ae L t
   ·exact cV ⟨t,u,h1,ht,cV ⟨h0,rfl⟩⟩
   ·exfalso;obtain⟨w,hw,hwp⟩:=gr;have:=WU (L:=L) c h1 h2 ne (h0 ▸ jY.mp ht) (h0 ▸ jY.mp hv) w hw;rw[h0] at this;exact absurd this (fA.mpr hwp)
 | @cross u v hc hx =>
  rcases wk hx with ⟨h1,h2⟩ | ⟨h1,h2⟩
  ·exact cY ⟨u,v,hc,h2,cY ⟨h1,rfl⟩⟩
  ·exact cV ⟨u,v,hc,h1,cY ⟨h2,rfl⟩⟩
theorem tO (c:bB cs) (i8:∃w∈cs,ae L w<0) (hp:gV L cs p) (hq:Entry L cs q):q≠p:=by
 rintro rfl;obtain⟨u,v,hc,hv,h⟩:=hp;obtain⟨u',v',m7,wf,h'⟩:=hq;rcases h with ⟨h,rfl⟩ | ⟨h,rfl⟩ <;> rcases h' with ⟨h',e⟩ | ⟨h',e⟩
 ·rcases SS c hc m7 (sH (cV ⟨wf,h'⟩)) with ⟨rfl,_⟩ | k
  ·exact pT h wf
  ·rw[<-e,Bj] at k;exact mX _ k
 ·have:=IE (sH (cY ⟨h,hv⟩));rw[e] at this;simp at this
 ·have:=IE (sH (cV ⟨wf,h'⟩));rw[<-e] at this;simp at this
 ·have euv:u=v':=by
   simp only[ap,fF] at e;exact lQ e.1 e.2.1
  subst euv;obtain⟨w,hw,hwn⟩:=i8;have ne:u'≠v:=λe=>ZJ c hc (e ▸ m7);have:=WT (L:=L) c m7 hc ne (by lia) (by lia) w hw;lia
inductive o6 (L:a_) (cs:List Pt):H3->H3->Prop
 | full {u v:Pt} (h:au cs u v) (h1:ae L u<=0) (h2:ae L v<=0):o6 L cs (ap u) (ap v)
 | out {u v:Pt} (h:au cs u v) (h1:ae L u<0) (h2:0<ae L v):o6 L cs (ap u) (lY L u v)
 | inn {u v:Pt} (h:au cs u v) (h1:0<ae L u) (h2:ae L v<0):o6 L cs (lY L u v) (ap v)
 | line {p q:H3} (hp:gV L cs p) (hq:Entry L cs q):o6 L cs p q
def ph (L:a_) (cs:List Pt) (l:H3) (u w:Pt):Prop:=au cs u w/\((ae L w<0/\((ae L u<=0/\l=ap u)\/(0<ae L u/\l=lY L u w)))\/(ae L w=0/\((ae L u<=0/\l=ap u)\/(0<ae L u/\gV L cs l)))\/(0<ae L w/\gV L cs l))
def Run {α:Type} (R:α->α->Prop):α->List α->Prop
 | _,[]=>True
 | a,b::r=>R a b/\Run R b r
def kZ {α:Type} (a:α):List α->α
 | []=>a
 | b::r=>kZ b r
theorem TV {α:Type} {R:α->α->Prop}:∀(a:α) (X Y:List α),Run R a X->Run R (kZ a X) Y->Run R a (X++Y)
 | _,[],_,_,h=>h
 | _,b::X,Y,⟨h1,h2⟩,h=>⟨h1,TV b X Y h2 h⟩
theorem FU {α:Type}:∀(a:α) (X Y:List α),kZ a (X++Y)=kZ (kZ a X) Y
 | _,[],_=>rfl
 | _,b::X,Y=>FU b X Y
theorem SY:∀(W:List Pt) (l:H3) (u w:Pt),ph L cs l u w->Run (au cs) w W->Run (o6 L cs) l (Pl L (w::W))/\(∀v,W≠[]->kZ w W=v->∃t,(kZ u (w::W.dropLast)=t)/\ph L cs (kZ l (Pl L (w::W))) t v)
 | [],l,u,w,_,_=>⟨trivial,λv h=>absurd rfl h⟩
 | v::W,l,u,w,⟨hc,hs⟩,⟨hv,hr⟩=>by
  have step:Run (o6 L cs) l (gq L w v)/\ph L cs (kZ l (gq L w v)) w v:=by
   by_cases hw:ae L w<=0
   ·have first:o6 L cs l (ap w):=by
     rcases hs with ⟨h0,⟨h1,rfl⟩ | ⟨h1,rfl⟩⟩ | ⟨h0,⟨h1,rfl⟩ | ⟨h1,h2⟩⟩ | ⟨h0,_⟩
     ·exact .full hc h1 hw
     ·exact .inn hc h1 h0
     ·exact .full hc h1 hw
     ·exact .line h2 ⟨u,w,hc,h1,cV ⟨h0,rfl⟩⟩
     ·exact absurd hw (fA.mpr h0)
    by_cases hx:ae L w*ae L v<0
    ·have e:gq L w v=[ap w,lY L w v]:=(by unfold gq;rw[if_pos hw,if_pos hx];rfl);rw[e];rcases wk hx with ⟨h1,h2⟩ | ⟨h1,h2⟩
     ·exact⟨⟨first,.out hv h1 h2,trivial⟩,hv,cV (cV ⟨h2,w,v,hv,h2,cY ⟨h1,rfl⟩⟩)⟩
     ·exact absurd hw (fA.mpr h1)
    ·have e:gq L w v=[ap w]:=(by unfold gq;rw[if_pos hw,if_neg hx];rfl);rw[e];refine⟨⟨first,trivial⟩,hv,?_⟩;show (ae L v<0/\((ae L w<=0/\ap w=ap w)\/_))\/_;rcases iS (ae L v) 0 with k | k | k
     ·exact cY ⟨k,cY ⟨hw,rfl⟩⟩
     ·exact cV (cY ⟨k,cY ⟨hw,rfl⟩⟩)
     ·have w0:ae L w=0:=by
       rcases jX hw with h | h
       ·exact absurd (sH (cY ⟨h,k⟩)) hx
       ·exact h
      exact cV (cV ⟨k,w,v,hv,k,cV ⟨w0,rfl⟩⟩)
   ·have ex:gV L cs l:=by
     rcases hs with ⟨h0,_⟩ | ⟨h0,_⟩ | ⟨_,h⟩
     ·exact absurd (cR h0) hw
     ·exact absurd (Int.le_of_eq h0) hw
     ·exact h
    by_cases hx:ae L w*ae L v<0
    ·have e:gq L w v=[lY L w v]:=(by unfold gq;rw[if_neg hw,if_pos hx];rfl);rw[e];rcases wk hx with ⟨h1,h2⟩ | ⟨h1,h2⟩
     ·exact absurd (cR h1) hw
     ·exact⟨⟨.line ex ⟨w,v,hv,h1,cY ⟨h2,rfl⟩⟩,trivial⟩,hv,cY ⟨h2,cV ⟨h1,rfl⟩⟩⟩
    ·have e:gq L w v=[]:=(by unfold gq;rw[if_neg hw,if_neg hx];rfl);rw[e];refine⟨trivial,hv,?_⟩;rcases iS (ae L v) 0 with k | k | k
     ·exact absurd (sH (cV ⟨fA.mp hw,k⟩)) hx
     ·exact cV (cY ⟨k,cV ⟨fA.mp hw,ex⟩⟩)
     ·exact cV (cV ⟨k,ex⟩)
  have e:Pl L (w::v::W)=gq L w v++Pl L (v::W):=rfl;obtain⟨i1,i2⟩:=SY W (kZ l (gq L w v)) w v step.2 hr;refine⟨by rw[e];exact TV _ _ _ step.1 i1,λx _ hx=>?_⟩;rw[e,FU];cases W with
  | nil =>
   have:x=v:=hx.symm;subst this;exact⟨w,rfl,step.2⟩
  | cons y W =>
   obtain⟨t,ht,oh⟩:=i2 x (by simp) hx;exact⟨t,ht,oh⟩
end
section
theorem YC (L:a_):∀(A:List Pt) (x:Pt) (B:List Pt),Pl L (A++x::B)=Pl L (A++[x])++Pl L (x::B)
 | [],x,B=>by simp[Pl]
 | [a],x,B=>by simp[Pl]
 | a::b::A,x,B=>by
  have ih:=YC L (b::A) x B;simp only[aW] at ih ⊢;rw[Pl,ih,Pl,eQ]
theorem Rf:∀(x:Pt) (l:List Pt),(∀a b,gn (x::l) a b->R a b)->Run R x l
 | _,[],_=>trivial
 | x,y::l,h=>⟨h x y ⟨[],l,rfl⟩,Rf y l λa b hn=>h a b (hn.cons x)⟩
theorem mQ {α:Type}:∀(a:α) (X:List α) (b:α),kZ a (X++[b])=b
 | _,[],_=>rfl
 | _,x::X,b=>mQ x X b
def GZ (l:List H3) (p q:H3):Prop:=∃a b,l=a++p::q::b
theorem Jw:∀(a:H3) (l:List H3),Run R a l->∀p q,GZ (a::l) p q->R p q
 | a,[],_,p,q,⟨x,y,e⟩=>by
  have:=congrArg fM e;simp at this;lia
 | a,b::l,⟨h1,h2⟩,p,q,⟨x,y,e⟩=>by
  cases x with
  | nil=>simp at e;obtain⟨rfl,rfl,_⟩:=e;exact h1
  | cons z x=>simp at e;exact Jw b l h2 p q ⟨x,y,by simpa using e.2⟩
theorem Nl {c0:Pt}:∀(W:List Pt) (x:Pt),Run (au cs) x W->∀r∈Pl L (x::W),Pm L cs r
 | [],x,_,r,hr=>by simp[Pl] at hr
 | y::W,x,⟨h1,h2⟩,r,hr=>by
  rw[Pl] at hr;rcases cJ.mp hr with h | h
  ·unfold gq at h;rcases cJ.mp h with h | h
   ·split at h
    ·rename_i he;simp at h;subst h;exact .corner h1.mem.1 he
    ·simp at h
   ·split at h
    ·rename_i he;simp at h;subst h;exact .cross h1 he
    ·simp at h
  ·exact Nl (c0:=c0) W y h2 r h
theorem Am (c:bB cs):∀(W:List Pt) (x:Pt),Run (au cs) x W->(x::W).dropLast.Nodup->(Pl L (x::W)).Nodup/\∀r∈Pl L (x::W),(∃u∈(x::W).dropLast,r=ap u)\/(∃u v,u∈(x::W).dropLast/\au cs u v/\ae L u*ae L v<0/\r=lY L u v)
 | [],x,_,_=>by simp[Pl]
 | y::W,x,⟨h1,h2⟩,hn=>by
  have ed:(x::y::W).dropLast=x::(y::W).dropLast:=rfl;rw[ed] at hn ⊢;obtain⟨n1,n2⟩:=fJ.mp hn;obtain⟨i1,i2⟩:=Am c W y h2 n2;have mb:∀r∈gq L x y,r=ap x\/(ae L x*ae L y<0/\r=lY L x y):=by
   intro r hr;unfold gq at hr;rcases cJ.mp hr with h | h
   ·split at h
    ·simp at h;exact cY h
    ·simp at h
   ·split at h
    ·rename_i hx;simp at h;exact cV ⟨hx,h⟩
    ·simp at h
  refine⟨?_,?_⟩
  ·rw[Pl,wS];refine⟨?_,i1,?_⟩
   ·unfold gq;by_cases ha:ae L x<=0 <;> by_cases hb:ae L x*ae L y<0
    ·rw[if_pos ha,if_pos hb];simp;intro e;have:=IE hb;rw[<-e] at this;simp at this
    all_goals simp[ha,hb]
   ·intro a ha b hb e;subst e;rcases mb a ha with rfl | ⟨hx,rfl⟩ <;> rcases i2 _ hb with ⟨u,hu,e⟩ | ⟨u,v,hu,hc,me,e⟩
    ·have:x=u:=(by simp only[ap,fF] at e;exact lQ e.1 e.2.1);subst this;exact n1 hu
    ·have:=IE me;rw[<-e] at this;simp at this
    ·have:=IE hx;rw[e] at this;simp at this
    ·have nu:u≠x:=λe=>n1 (e ▸ hu);have z1:=Bj (L:=L) x y;rw[e] at z1;exact (SS c h1 hc me).elim (λk=>nu k.1) λk=>mX 0 (z1 ▸ k)
  ·intro r hr;rw[Pl] at hr;rcases cJ.mp hr with h | h
   ·rcases mb r h with rfl | ⟨hx,rfl⟩
    ·exact cY ⟨x,by simp,rfl⟩
    ·exact cV ⟨x,y,by simp,h1,hx,rfl⟩
   ·rcases i2 r h with ⟨u,hu,e⟩ | ⟨u,v,hu,hc,me,e⟩
    ·exact cY ⟨u,by simp[hu],e⟩
    ·exact cV ⟨u,v,by simp[hu],hc,me,e⟩
def YS (u v:Pt) (r:H3):fZ (ap u) (lY L u v) r=((ae L u).natAbs:Int)*fZ (ap u) (ap v) r:=by unfold lY fZ yH;grind
def YR (u v:Pt) (r:H3):fZ (lY L u v) (ap v) r=((ae L v).natAbs:Int)*fZ (ap u) (ap v) r:=by unfold lY fZ yH;grind
theorem HJ (c:bB cs) (gr:∃w∈cs,0<ae L w) (i8:∃w∈cs,ae L w<0) (h:o6 L cs p q) (hr:Pm L cs r) (n1:r≠p) (n2:r≠q):0<fZ p q r:=by
 cases h with
 | @full u v hc h1 h2 =>
  refine tT c hc hr n1 n2 (cV λhx=>?_);exact (wk hx).elim (λh=>fA.mpr h.2 h2) λh=>fA.mpr h.1 h1
 | @out u v hc h1 h2 =>
  have hx:=sH (cY ⟨h1,h2⟩);have nv:r≠ap v:=by rintro rfl;have:=hr.exc_le;rw[oP] at this;first | exact fA.mpr h1 this | exact fA.mpr h2 this
  have s:=tT c hc hr n1 nv (cY n2);rw[YS];exact aS (tP hx).2 s
 | @inn u v hc h1 h2 =>
  have hx:=sH (cV ⟨h1,h2⟩);have nu:r≠ap u:=by rintro rfl;have:=hr.exc_le;rw[oP] at this;first | exact fA.mpr h1 this | exact fA.mpr h2 this
  have s:=tT c hc hr nu n2 (cY n1);rw[YR];exact aS (tP hx).1 s
 | line hp hq =>
  obtain⟨k,m,k0,m0,f⟩:=MR c hp hq (tO c i8 hp hq);have le:=hr.exc_le;have lt:c7 L r<0:=by
   rcases jX le with h | h
   ·exact h
   ·exfalso;rcases XT c gr hr h with h' | h'
    ·exact n1 (Bu c h' hp)
    ·exact n2 (WO c h' hq)
  have e:=f r;have:0<k*fZ p q r:=by rw[e];exact GT (fR m0 lt)
  exact iE (by rw[iY];exact this) k0
theorem Nn (c:bB cs) (i8:∃w∈cs,ae L w<0) (h:o6 L cs p q) (hr:∀u v,au cs u v->0<=fZ (ap u) (ap v) r) (he:c7 L r<=0):0<=fZ p q r:=by
 cases h with
 | @full u v hc h1 h2=>exact hr u v hc
 | @out u v hc h1 h2 =>
  rw[YS];exact eV (vN _) (hr u v hc)
 | @inn u v hc h1 h2 =>
  rw[YR];exact eV (vN _) (hr u v hc)
 | line hp hq =>
  obtain⟨k,m,k0,m0,f⟩:=MR c hp hq (tO c i8 hp hq);have e:=f r;refine jY.mp λhn=>fA.mpr (fR k0 hn) ?_;rw[e];exact Int.neg_nonneg_of_nonpos (eO (cR m0) he)
theorem Fa (c:bB cs) (i8:∃w∈cs,ae L w<0) (h:o6 L cs p q) (hr:∀u v,au cs u v->0<fZ (ap u) (ap v) r) (he:c7 L r<0):0<fZ p q r:=by
 cases h with
 | @full u v hc h1 h2=>exact hr u v hc
 | @out u v hc h1 h2 =>
  rw[YS];exact aS (tP (sH (cY ⟨h1,h2⟩))).2 (hr u v hc)
 | @inn u v hc h1 h2 =>
  rw[YR];exact aS (tP (sH (cV ⟨h1,h2⟩))).1 (hr u v hc)
 | line hp hq =>
  obtain⟨k,m,k0,m0,f⟩:=MR c hp hq (tO c i8 hp hq);have e:=f r;have:0<k*fZ p q r:=by rw[e];exact GT (fR m0 he)
  exact iE (by rw[iY];exact this) k0
theorem Ub (c:bB cs) (hr:Pm L cs r) (h:au cs u v):0<=fZ (ap u) (ap v) r:=by
 cases hr with
 | corner hw _=>rw[ML];exact c.side h hw
 | cross hc hx =>
  unfold lY;rw[MK,ML,ML];obtain⟨f1,f2⟩:=tP hx;exact Int.add_nonneg (eV (cR f1) (c.side h hc.mem.1)) (eV (cR f2) (c.side h hc.mem.2))
end
section
variable {L:a_} {cs:List Pt}
theorem Lp (h:GZ (kZ l X::Y) p q):GZ (l::(X++Y)) p q:=by
 induction X generalizing l with
 | nil=>exact h
 | cons x X ih =>
  obtain⟨a,b,e⟩:=ih (l:=x) h;exact⟨l::a,b,by simp at e ⊢;exact e⟩
theorem QX (hs:ph L cs l u w) (hv:au cs w v):ph L cs (kZ l (gq L w v)) w v:=by
 obtain⟨h1,h2⟩:=SY [v] l u w hs ⟨hv,trivial⟩;obtain⟨t,ht,oh⟩:=h2 v (by simp) rfl;have e:Pl L [w,v]=gq L w v:=by simp[Pl]
 have ht':t=w:=ht.symm;rw[e,ht'] at oh;exact oh
theorem DC (l_:ae L c0<0):∀(W:List Pt) (l:H3) (u w:Pt),ph L cs l u w->Run (au cs) w W->0<ae L w->kZ w W=c0->∃p q,gV L cs p/\Entry L cs q/\GZ (l::Pl L (w::W)) p q
 | [],l,u,w,hs,_,hw,e=>by
  exact absurd hw (pT (show ae L w<0 from (show w=c0 from e) ▸ l_))
 | v::W,l,u,w,hs,⟨hv,hr⟩,hw,e=>by
  have ex:gV L cs l:=by
   rcases hs.2 with ⟨h0,_⟩ | ⟨h0,_⟩ | ⟨_,h⟩
   ·exact absurd hw (pT h0)
   ·exact absurd h0 (rQ hw)
   ·exact h
  have st:=QX hs hv;have eP:Pl L (w::v::W)=gq L w v++Pl L (v::W):=rfl;rcases iS (ae L v) 0 with k | k | k
  ·have hx:=sH (cV ⟨hw,k⟩);have eb:gq L w v=[lY L w v]:=(by unfold gq;rw[if_neg (fA.mpr hw),if_pos hx];rfl);refine⟨l,lY L w v,ex,⟨w,v,hv,hw,cY ⟨k,rfl⟩⟩,[],Pl L (v::W),?_⟩;rw[eP,eb];rfl
  ·have eb:gq L w v=[]:=(by unfold gq;rw[if_neg (fA.mpr hw),k];simp);cases W with
   | nil=>exact absurd k (zJ (show ae L v<0 from (show v=c0 from e) ▸ l_))
   | cons y W =>
    refine⟨l,ap v,ex,⟨w,v,hv,hw,cV ⟨k,rfl⟩⟩,[],(if ae L v*ae L y<0 then [lY L v y] else [])++Pl L (y::W),?_⟩;rw[eP,eb,Pl];unfold gq;rw[if_pos (Int.le_of_eq k)];simp
  ·have eb:gq L w v=[]:=by
    unfold gq;have:¬ae L w*ae L v<0:=λh=>(wk h).elim (λh=>pT h.1 hw) λh=>pT h.2 k;rw[if_neg (fA.mpr hw),if_neg this];rfl
   rw[eb] at st;obtain⟨p,q,hp,hq,hn⟩:=DC l_ W l w v st hr k e;exact⟨p,q,hp,hq,by rw[eP,eb];exact hn⟩
theorem Gd (l_:ae L c0<0) (W:List Pt):∀(l:H3) (u w:Pt),ph L cs l u w->Run (au cs) w W->(∃x∈w::W,0<ae L x)->kZ w W=c0->∃p q,gV L cs p/\Entry L cs q/\GZ (l::Pl L (w::W)) p q:=by
 induction W with
 | nil =>
  intro l u w hs hr hx e;obtain⟨x,hx,hp⟩:=hx;rw[dM.mp hx] at hp;exact DC l_ [] l u w hs hr hp e
 | cons v W ih =>
  intro l u w hs hr hx e;by_cases hw:0<ae L w
  ·exact DC l_ _ l u w hs hr hw e
  ·obtain⟨x,hx,hp⟩:=hx;obtain⟨p,q,h1,h2,h3⟩:=ih _ _ _ (QX hs hr.1) hr.2 ⟨x,(aN.mp hx).resolve_left λe=>hw (e ▸ hp),hp⟩ e;exact⟨p,q,h1,h2,Lp h3⟩
theorem Lq {P P2 P3:List H3} (e1:P=h::P2) (e2:P=P3++[l]) (hn:GZ (l::P) a b):GZ (P++P.take 1) a b:=by
 have t1:P.take 1=[h]:=by rw[e1];rfl
 rw[t1];obtain⟨x,y,e⟩:=hn;cases x with
 | nil =>
  have e':l::P=a::b::y:=e;rw[e1] at e';injection e' with k1 k2;injection k2 with k2 _;rw[<-k1,<-k2,e2,eQ];exact⟨P3,[],rfl⟩
 | cons z x =>
  injection e with _ e;exact⟨x,y++[h],by rw[show P=x++a::b::y from e,eQ];rfl⟩
theorem Qa {P P2 P3:List H3} (e1:P=h::P2) (e2:P=P3++[l]) (hn:GZ (P++P.take 1) a b):GZ (l::P) a b:=by
 have t1:P.take 1=[h]:=by rw[e1];rfl
 rw[t1] at hn;obtain⟨x,y,e⟩:=hn;rcases fI y with rfl | ⟨y',w,rfl⟩
 ·have e':P++[h]=(x++[a])++[b]:=by rw[e,eQ];rfl
  have k1:=mB e' rfl;have k2:=gX (e2.symm.trans k1) rfl;injection k2 with k2 _;have k3:=gX e' rfl;injection k3 with k3 _;rw[e1,k2,k3];exact⟨[],P2,rfl⟩
 ·have e':P++[h]=(x++a::b::y')++[w]:=by rw[e,eQ];simp only[BC];rfl
  exact⟨l::x,y',by rw[mB e' rfl];rfl⟩
theorem Tm {P P2:List H3} (e1:P=h::P2) (hn:GZ (P++P.take 1) a b):a∈P/\b∈P:=by
 have t1:P.take 1=[h]:=by rw[e1];rfl
 have k:∀x∈P++P.take 1,x∈P:=λx hx=>(cJ.mp hx).elim id λh=>kL h;obtain⟨x,y,e⟩:=hn;have m:∀z,z∈a::b::y->z∈P:=λz hz=>k z (e ▸ aV x hz);exact⟨m _ (.head _),m _ (.tail _ (.head _))⟩
def K6 (A B:List H3):Prop:=∃X Y,A=X++Y/\B=Y++X
structure ou (L:a_) (cs:List Pt) (P:List H3):Prop where
 nodup:P.Nodup
 pm:∀r∈P,Pm L cs r
 adj:∀p q,GZ (P++P.take 1) p q->o6 L cs p q
 len:3<=P.length
 line:∃p q,gV L cs p/\Entry L cs q/\GZ (P++P.take 1) p q
def f7 {α:Type} (f:α->α->Int):α->List α->Int
 | _,[]=>0
 | a,b::l=>f a b+f7 f b l
theorem tI {α:Type} (f:α->α->Int):∀(a:α) (X Y:List α),f7 f a (X++Y)=f7 f a X+f7 f (kZ a X) Y
 | a,[],Y=>by simp[f7,kZ]
 | a,b::X,Y=>by
  show f a b+f7 f b (X++Y)=f a b+f7 f b X+f7 f (kZ b X) Y;rw[tI f b X Y];lia
def nB {α:Type} (f:α->α->Int):List α->Int
 | []=>0
 | z::T=>f7 f z (T++[z])
theorem WS {α:Type}:∀(h:α) (T X:List α) (l:α),h::T=X++[l]->kZ h T=l
 | h,[],X,l,e=>by
  cases X with
  | nil=>simp at e;exact e
  | cons x X=>simp at e
 | h,y::T,X,l,e=>by
  cases X with
  | nil=>simp at e
  | cons x X=>simp at e;exact WS y T X l (by simpa using e.2)
theorem WK {α:Type} (f:α->α->Int) {P X:List α} {l:α} (e:P=X++[l]):f7 f l P=nB f P:=by
 cases P with
 | nil=>simp at e
 | cons h P2 =>
  show f l h+f7 f h P2=f7 f h (P2++[h]);rw[tI,WS h P2 X l e];simp only[f7];lia
theorem Be {α:Type} (f:α->α->Int) (X Y:List α):nB f (X++Y)=nB f (Y++X):=by
 cases X with
 | nil=>simp
 | cons x X =>
  cases Y with
  | nil=>simp
  | cons y Y =>
   show f7 f x ((X++y::Y)++[x])=f7 f y ((Y++x::X)++[y]);rw[show (X++y::Y)++[x]=(X++[y])++(Y++[x]) by simp,show (Y++x::X)++[y]=(Y++[x])++(X++[y]) by simp,tI,tI f y,mQ,mQ];lia
def dl (d:Pt->Pt->Int):Pt->Pt->List Pt->Int
 | u,w,[]=>d u w
 | _,w,v::W=>dl d w v W
theorem Ir (d:Pt->Pt->Int):∀(A:List Pt) (u w x y:Pt),dl d u w (A++[x,y])=d x y
 | [],_,_,_,_=>rfl
 | a::A,u,w,x,y=>Ir d A w a x y
theorem Cv {f:H3->H3->Int} {d e:Pt->Pt->Int} (hf:∀l u w v,ph L cs l u w->au cs w v->f7 f l (gq L w v)=d u w+e w v):∀(W:List Pt) (l:H3) (u w:Pt),ph L cs l u w->Run (au cs) w W->f7 f l (Pl L (w::W))+dl d u w W=d u w+f7 (λa b=>d a b+e a b) w W
 | [],l,u,w,hs,_=>by simp[Pl,f7,dl]
 | v::W,l,u,w,hs,hr=>by
  have ih:=Cv hf W (kZ l (gq L w v)) w v (QX hs hr.1) hr.2;show f7 f l (gq L w v++Pl L (v::W))+dl d w v W=d u w+((d w v+e w v)+f7 (λa b=>d a b+e a b) v W);rw[tI,hf l u w v hs hr.1];lia
theorem Zq (M_:au cs u0 c0) (l_:ae L c0<0):∃l0,ph L cs l0 u0 c0/\∀l,ph L cs l u0 c0->l=l0:=by
 have first {l:H3} (hl:ph L cs l u0 c0):=hl.2.resolve_right λh=>h.elim (λk=>absurd k.1 (zJ l_)) λk=>pT k.1 l_;by_cases h:ae L u0<=0
 ·exact⟨ap u0,⟨M_,cY ⟨l_,cY ⟨h,rfl⟩⟩⟩,λl hl=>(first hl).2.elim (·.2) λk=>absurd h (fA.mpr k.1)⟩
 ·exact⟨lY L u0 c0,⟨M_,cY ⟨l_,cV ⟨fA.mp h,rfl⟩⟩⟩,λl hl=>(first hl).2.elim (λk=>absurd k.1 h) (·.2)⟩
theorem Nk (l_:ae L c0<0) (Z:List Pt):ap c0∈Pl L (c0::(Z++[c0])):=by
 cases hz:Z++[c0] with
 | nil=>simp at hz
 | cons y r=>rw[Pl];unfold gq;rw[if_pos (cR l_)];exact .head _
theorem Bc (c:bB cs) (gr:∃w∈cs,0<ae L w) (i8:∃w∈cs,ae L w<0):∃P',K6 (Pl L (cs++cs.take 1)) P'/\ou L cs P'/\∀(f:H3->H3->Int) (d e:Pt->Pt->Int),(∀l u w v,ph L cs l u w->au cs w v->f7 f l (gq L w v)=d u w+e w v)->nB f P'=nB (λa b=>d a b+e a b) cs:=by
 obtain⟨c0,yy,l_⟩:=i8;have i8:∃w∈cs,ae L w<0:=⟨c0,yy,l_⟩;obtain⟨X,Y,uf⟩:=nX yy;have c2:bB ((c0::Y)++X):=by rw[uf] at c;exact c.swap
 have V7:∀{a b},au ((c0::Y)++X) a b->au cs a b:=λh=>by rw[uf];exact JN h
 rw[aW] at c2 V7;obtain⟨Z,hZ⟩:∃Z,Z=Y++X:=⟨_,rfl⟩;rw[<-hZ] at c2 V7;have runs:Run (au cs) c0 (Z++[c0]):=Rf _ _ λa b h=>V7 (by show gn ((c0::Z)++[c0]) a b;exact h);obtain⟨u0,Z2,eZ⟩:∃t Z2,Z=Z2++[t]:=by
  rcases fI Z with h | ⟨Z2,t,h⟩
  ·have:=c2.len;rw[h] at this;simp at this
  ·exact⟨t,Z2,by simpa using h⟩
 have M_:au cs u0 c0:=V7 ⟨c0::Z2,[],by rw[eZ];simp⟩;obtain⟨l0,hl0⟩:=Zq M_ l_;obtain⟨oh,zm⟩:=hl0;obtain⟨r1,r2⟩:=SY (Z++[c0]) l0 u0 c0 oh runs;obtain⟨t,ht,zk⟩:=r2 c0 (by simp) (mQ _ _ _);rw[<-ht,kJ,eZ,show kZ u0 (c0::(Z2++[u0]))=u0 from mQ _ (c0::Z2) _,<-eZ] at zk;have el:=zm _ zk;have top:=Nk (L:=L) l_ Z;have X9:Pl L (c0::(Z++[c0]))≠[]:=λe=>by rw[e] at top;cases top
 have mem:=Nl (L:=L) (c0:=c0) (Z++[c0]) c0 runs;have nd:=(Am (L:=L) c (Z++[c0]) c0 runs (by
  show (c0::(Z++[c0])).dropLast.Nodup;rw[<-aW,kJ];exact c2.nodup)).1
 obtain⟨p,q,hp,hq,hn⟩:=Gd l_ (Z++[c0]) l0 u0 c0 oh runs (by
  obtain⟨w,hw,hwp⟩:=gr;refine⟨w,?_,hwp⟩;rw[uf] at hw;rcases cJ.mp hw with h | h
  ·exact .tail _ (cU _ (hZ ▸ aV _ h))
  ·exact (aN.mp h).elim (λe=>e ▸ .head _) λh=>.tail _ (cU _ (hZ ▸ cU _ h))) (mQ _ _ _)
 obtain⟨P,hP⟩:∃P,Pl L (c0::(Z++[c0]))=P:=⟨_,rfl⟩;rw[hP] at r1 el X9 top mem nd hn;obtain⟨h,P2,eP⟩:∃h P2,P=h::P2:=by
  cases P with
  | nil=>exact absurd rfl X9
  | cons h P2=>exact⟨h,P2,rfl⟩
 obtain⟨P3,X8⟩:∃P3,P=P3++[l0]:=by
  rcases fI P with h | ⟨P3,x,h⟩
  ·exact absurd h X9
  ·have e:P=P3++[x]:=(by simpa using h);rw[e,mQ] at el;exact⟨P3,by rw[e,el]⟩
 have hn:=Lq eP X8 hn;obtain⟨memp,memq⟩:=Tm eP hn;have ne1:q≠p:=tO c i8 hp hq;have n0:∀z:H3,c7 L z=0->ap c0≠z:=λz hz e=>by rw[<-e,oP] at hz;lia
 refine⟨P,?_,⟨nd,mem,λa b dq=>Jw l0 P r1 a b (Qa eP X8 dq),?_,p,q,hp,hq,hn⟩,λf d e hf=>?_⟩
 ·-- turned about
  rw[<-hP,uf,hZ];cases X with
  | nil=>exact⟨Pl L (c0::(Y++[c0])),[],by simp,by simp⟩
  | cons x X =>
   have e1:(x::X++c0::Y)++(x::X++c0::Y).take 1=(x::X)++c0::(Y++[x]):=(by simp);have e2:c0::(Y++x::X++[c0])=(c0::Y)++x::(X++[c0]):=(by simp);rw[e1,e2,YC L (x::X) c0 (Y++[x]),YC L (c0::Y) x (X++[c0])];exact⟨_,_,rfl,by simp⟩
 ·exact len_sub [ap c0,p,q] P (fJ.mpr ⟨λh=>(aN.mp h).elim (n0 p hp.pm.2) λh=>n0 q hq.pm.2 (dM.mp h),fJ.mpr ⟨λh=>ne1 (dM.mp h).symm,yC _ q⟩⟩) λx hx=>(aN.mp hx).elim (λe=>e ▸ top) λhx=>(aN.mp hx).elim (λe=>e ▸ memp) λhx=>dM.mp hx ▸ memq
 ·have ps:=Cv hf (Z++[c0]) l0 u0 c0 oh runs;rw[hP,WK f X8] at ps;have e1:dl d u0 c0 (Z++[c0])=d u0 c0:=by rw[eZ,eQ];exact Ir d Z2 u0 c0 u0 c0
  rw[e1] at ps;have e2:f7 (λa b=>d a b+e a b) c0 (Z++[c0])=nB (λa b=>d a b+e a b) cs:=by
   show nB (λa b=>d a b+e a b) (c0::Z)=_;rw[hZ,uf,Be _ X (c0::Y)];rfl
  lia
end
def Ua (L:a_) (t1 t2 r q:H3):fZ t1 t2 q*c7 L r=fZ r t2 q*c7 L t1+fZ t1 r q*c7 L t2+fZ t1 t2 r*c7 L q:=by unfold fZ c7;grind
def Tp (h1:c7 L t1=0) (h2:c7 L t2=0) (d1:fZ t1 t2 r=0) (d2:fZ t1 t2 q≠0):c7 L r=0:=by
 have e:=Ua L t1 t2 r q;rw[h1,h2,d1,mK,mK,rR] at e;rcases iK.mp (show fZ t1 t2 q*c7 L r=0 by lia) with z | z
 ·exact (d2 z).elim
 ·exact z
def tN (L:a_) (u:Pt):c7 L (ap u)=ae L u:=by unfold c7 ae;dsimp only;lia
def Br (L:a_) (α β:Int) (p q:H3):c7 L (yH α p β q)=α*c7 L p+β*c7 L q:=by unfold c7;dsimp only;grind
def Bs (h1:ae M u=0) (h2:ae M v=0):c7 M (lY L u v)=0:=by
 unfold lY;rw[Br,tN,tN,h1,h2,mK,mK];rfl
def WP (h:ae L u*ae L v<0):c7 L (lY L u v)=0:=by
 unfold lY;rw[Br,tN,tN];rcases zH (ae L u) 0 with h1 | h1
 ·have h2:0<ae L v:=by
   rcases zH 0 (ae L v) with k | k
   ·exact k
   ·have:=lP (cR h1) k;lia
  rw[Int.ofNat_natAbs_of_nonneg (cR h2),show ((ae L u).natAbs:Int) = -(ae L u) by lia];grind
 ·have h2:ae L v<0:=by
   rcases zH (ae L v) 0 with k | k
   ·exact k
   ·have:=eV h1 k;lia
  rw[tS h1,show ((ae L v).natAbs:Int) = -(ae L v) by lia];grind
def La (h:gV L cs p):c7 L p=0:=by
 obtain⟨u,v,_,hv,⟨h1,rfl⟩ | ⟨h1,rfl⟩⟩:=h
 ·exact WP (iP h1 hv)
 ·rw[tN,h1]
def Fq (h:Entry L cs p):c7 L p=0:=by
 obtain⟨u,v,_,hv,⟨h1,rfl⟩ | ⟨h1,rfl⟩⟩:=h
 ·exact WP (fR hv h1)
 ·rw[tN,h1]
theorem Wu {L:a_} {cs:List Pt} {R:a_->Prop} (hs:∀u v,au cs u v->∃M,R M/\ae M u=0/\ae M v=0) (hL:R L) {p q:H3} (h:o6 L cs p q):∃M,R M/\c7 M p=0/\c7 M q=0:=by
 cases h with
 | full h _ _=>obtain⟨M,r,a,b⟩:=hs _ _ h;exact⟨M,r,by rw[tN,a],by rw[tN,b]⟩
 | out h _ _=>obtain⟨M,r,a,b⟩:=hs _ _ h;exact⟨M,r,by rw[tN,a],Bs a b⟩
 | inn h _ _=>obtain⟨M,r,a,b⟩:=hs _ _ h;exact⟨M,r,Bs a b,by rw[tN,b]⟩
 | line hp hq=>exact⟨L,hL,La hp,Fq hq⟩
def Mz {a1 b1 c1 a2 b2 c2 s:Int} {t z v:Pt} (n1:a1≠0\/b1≠0) (n2:a2≠0\/b2≠0) (h1:a1*t.1+b1*t.2=c1*s) (h2:a1*z.1+b1*z.2=c1*s) (h3:a2*z.1+b2*z.2=c2*s) (h4:a2*v.1+b2*v.2=c2*s) (ht:0<bP t z v) :
  a1*b2-a2*b1≠0/\(a1*b2-a2*b1)*z.1=s*(c1*b2-c2*b1)/\(a1*b2-a2*b1)*z.2=s*(a1*c2-a2*c1):=by
 refine⟨λd=>?_,by grind,by grind⟩;have e1:a1*(z.1-t.1)+b1*(z.2-t.2)=0:=by grind
 have e2:a2*(v.1-z.1)+b2*(v.2-z.2)=0:=by grind
 have e3:a1*(v.1-z.1)+b1*(v.2-z.2)=0:=by
  rcases n2 with k | k
  ·refine (iK.mp (show a2*(a1*(v.1-z.1)+b1*(v.2-z.2))=0 by grind)).resolve_left k
  ·refine (iK.mp (show b2*(a1*(v.1-z.1)+b1*(v.2-z.2))=0 by grind)).resolve_left k
 have e4:bP t z v=0:=by
  rcases n1 with k | k
  ·refine (iK.mp (show a1*bP t z v=0 by unfold bP;grind)).resolve_left k
  ·refine (iK.mp (show b1*bP t z v=0 by unfold bP;grind)).resolve_left k
 lia
theorem KS {s:Int}:∀(l:List Pt),(∀z∈l,∃d x y:Int,d≠0/\d.natAbs<2 ^ n/\d*z.1=s*x/\d*z.2=s*y) ->
  ∃P:Int,P≠0/\P.natAbs<=(2 ^ n) ^ l.length/\∀z∈l,s∣P*z.1/\s∣P*z.2
 | [],_=>⟨1,by decide,by simp,by simp⟩
 | z::l,h=>by
  obtain⟨P,p0,pb,pd⟩:=KS l λw hw=>h w (aT _ hw);obtain⟨d,x,y,d0,db,ex,ey⟩:=h z cF;refine⟨d*P,oF d0 p0,?_,λw hw=>?_⟩
  ·rw[iH,bH,Nat.pow_succ,Nat.mul_comm];exact Nat.mul_le_mul pb (lI db)
  ·rcases aN.mp hw with rfl | hw
   ·exact⟨⟨P*x,by grind⟩,⟨P*y,by grind⟩⟩
   ·obtain⟨⟨u,eu⟩,⟨v,ev⟩⟩:=pd w hw;exact⟨⟨d*u,by grind⟩,⟨d*v,by grind⟩⟩
def Mr {s P:Int} {zs:List Pt} (s0:0<s) (cop:∀d:Nat,(d:Int)∣s->(∀z∈zs,(d:Int)∣z.1/\(d:Int)∣z.2)->d=1) (h:∀z∈zs,s∣P*z.1/\s∣P*z.2):s∣P:=by
 have g0:0<bR s P:=jI P (by lia);have e1:s / (bR s P:Int)*(bR s P:Int)=s:=nD (lK ..);have e2:P / (bR s P:Int)*(bR s P:Int)=P:=nD (jL ..);have hc:bR (s / (bR s P:Int)) (P / (bR s P:Int))=1:=qF (by lia);have gz:((bR s P:Nat):Int)≠0:=by lia
 have dv:∀x,s∣P*x->s / (bR s P:Int)∣x:=λx k=>by
  obtain⟨c,e⟩:=k;have e3:P / (bR s P:Int)*x=s / (bR s P:Int)*c:=by
   refine pE gz ?_;grind
  have e5:(s / (bR s P:Int)).natAbs∣(P / (bR s P:Int)).natAbs*x.natAbs:=by rw[<-iH,e3,iH];exact Nat.dvd_mul_right ..
  exact oQ.mp (sR hc e5)
 have one:=cop (s / (bR s P:Int)).natAbs (by rw[vM];exact⟨_,e1.symm⟩) λz hz=>⟨by rw[vM];exact dv _ (h z hz).1,by rw[vM];exact dv _ (h z hz).2⟩;have pos:0<s / (bR s P:Int):=by
  rcases zH 0 (s / (bR s P:Int)) with k | k
  ·exact k
  ·have:=lP k (show -(bR s P:Int)<=0 by lia);grind
 have e4:s / (bR s P:Int)=1:=by lia
 rw[e4,Int.one_mul] at e1;rw[<-e1];exact jL ..
section
open PySem PySem.Spec PyProof.Rows L2
inductive D where
 | non | bl (b:Bool) | int (i:Int) | str (x:Str) | tup (xs:List D) | lst (xs:List D) | dct (ks:List Int) (xs:List D) | dtt (ks:List (List Int)) (xs:List D)
def qd (K:aH) (H:Hp) (a:Addr) (vs:List V):Prop :=
 (∃o,H a=some (.frz o (.lst vs))) \/
  ∃(o:Obj) (its:Array aB) (n:Nat),K.lookup a=some o/\o.cls = .type "list"/\o.dict=none/\o.data = .seq its n/\its.size<=sizeLine/\ao vs its.toList
theorem qd.sq {K:aH} {H:Hp} {a:Addr} {vs:List V}:qd K H a vs->ij K H a vs
 | .inl ⟨o,h⟩=>.inl (.inr ⟨o,h⟩)
 | .inr h=>.inr h
def AC (col:Nat):Str:=if col=28 then "rising.<locals>.<lambda>" else if col=59 then "framed_rising.<locals>.<lambda>" else "laid_triangles.<locals>.<lambda>"
abbrev IG (c:Addr) (q:Str):HO:=.ext λh=>∃oc vs t,h.get? c=some oc/\oc.data = .fields vs/\vs[1]? = some (.str q t)
structure ku (H:Hp) (ps:Array aB):Prop where
 ok:TriplesOk ps.toList
 code:∀pos cv,codeAmong pos ps.toList=some cv->∃c,cv = .ref c/\H c=some (IG c (AC pos.col))
def kf (H H':Hp):Prop:=∀b ps,H b=some (.tbl ps)->∃more,H' b=some (.tbl (ps++more))/\(ku H ps->ku H' (ps++more))
def kf.trans (a:kf H H1) (b:kf H1 H2):kf H H2:=λc ps h=>by
 obtain⟨m1,e1,f1⟩:=a c ps h;obtain⟨m2,e2,f2⟩:=b c _ e1;exact⟨m1++m2,by rw[e2,vE],λx=>by rw[<-vE];exact f2 (f1 x)⟩
def ku.mono (x:ku H ps) (k:∀b a,H b=some (.ext a)->H' b=some (.ext a)):ku H' ps:=⟨x.ok,λpos cv e=>let ⟨c,e1,e2⟩:=x.code pos cv e;⟨c,e1,k _ _ e2⟩⟩
def kf.of (k:∀b a,H b=some (.ext a)->H' b=some (.ext a)) (h:∀b ps,H b=some (.tbl ps)->H' b=some (.tbl ps)):kf H H':=λb ps e=>⟨#[],by rw[qU];exact h b ps e,λx=>by rw[qU];exact x.mono k⟩
def NT:HO->Prop
 | .tbl _=>False
 | _=>True
structure ak (H H':Hp):Prop where
 tups:∀b xs,H b=some (.tup xs)->H' b=some (.tup xs)
 frzs:∀b o u,H b=some (.frz o u)->H' b=some (.frz o u)
 exts:∀b φ,H b=some (.ext φ)->H' b=some (.ext φ)
 xds:∀b fs,H b=some (.xd fs)->H' b=some (.xd fs)
 tbls:kf H H'
def ak.refl (H:Hp):ak H H:=⟨λ_ _ h=>h,λ_ _ _ h=>h,λ_ _ h=>h,λ_ _ h=>h,.of (λ_ _ h=>h) λ_ _ h=>h⟩
def ak.trans (a:ak H H1) (b:ak H1 H2):ak H H2 :=
 ⟨λc xs h=>b.tups c xs (a.tups c xs h),λc o u h=>b.frzs c o u (a.frzs c o u h),λc d h=>b.exts c d (a.exts c d h),λc fs h=>b.xds c fs (a.xds c fs h),a.tbls.trans b.tbls⟩
structure af (H H':Hp):Prop where
 get:∀b o,H b=some o->NT o->H' b=some o
 tbls:kf H H'
def af.fn (f:∀b o,H b=some o->H' b=some o):af H H':=⟨λb o h _=>f b o h,.of (λb a h=>f b _ h) λb ps h=>f b _ h⟩
def af.refl (H:Hp):af H H:=.fn λ_ _ h=>h
def af.trans (a:af H H1) (b:af H1 H2):af H H2:=⟨λc o h n=>b.get c o (a.get c o h n) n,a.tbls.trans b.tbls⟩
theorem af.free (e:af H H') (h:H' l=CF):H l=CF:=by
 cases q:H l with
 | none=>rfl
 | some o =>
  cases o with
  | tbl ps=>obtain⟨m,e1,_⟩:=e.tbls l ps q;rw[e1] at h;cases h
  | _=>rw[e.get l _ q trivial] at h;cases h
def af.tbl (s:af H H') (h:H b=some (.tbl ps)):∃more,H' b=some (.tbl (ps++more)):=let ⟨m,e,_⟩:=s.tbls b ps h;⟨m,e⟩
def ak.of (s:af H H'):ak H H':=⟨λb xs h=>s.get b _ h trivial,λb o u h=>s.get b _ h trivial,λb a h=>s.get b _ h trivial,λb fs h=>s.get b _ h trivial,s.tbls⟩
def ak.ofF (f:∀b o,H b=some o->H' b=some o):ak H H':=.of (.fn f)
def uR:List Str:=["rising","framed_rising","laid_triangles"]
def h9 (K:aH) (H:Hp):Prop:=∀x c P,x∈uR->fQ K x=some (c,P)->∃ps,H P=some (.tbl ps)/\ku H ps
def h9.tabK {K:aH} {H H':Hp} (t:h9 K H) (k:kf H H'):h9 K H':=λx c P m e=>by
 obtain⟨ps,h1,h2⟩:=t x c P m e;obtain⟨more,h3,h4⟩:=k P ps h1;exact⟨_,h3,h4 h2⟩
def ak.chg1 (h:H p=some u) (n:(∃xs,u = .lst xs)\/(∃cg,u = .dK cg)\/∃cg,u = .dT cg):ak H (bj H p u'):=by
 have ne:∀b o,H b=some o->(∀xs,o≠.lst xs)->(∀cg,o≠.dK cg)->(∀cg,o≠.dT cg)->bj H p u' b=some o:=λb o q n1 n2 n3=>by
  rw[cW]
  ·exact q
  ·rintro rfl;rw[h] at q;cases q;rcases n with ⟨xs,rfl⟩ | ⟨cg,rfl⟩ | ⟨cg,rfl⟩
   ·exact n1 _ rfl
   ·exact n2 _ rfl
   ·exact n3 _ rfl
 exact⟨λb _ q=>ne b _ q (λ_ z=>by cases z) (λ_ z=>by cases z) (λ_ z=>by cases z),λb _ _ q=>ne b _ q (λ_ z=>by cases z) (λ_ z=>by cases z) (λ_ z=>by cases z),λb _ q=>ne b _ q (λ_ z=>by cases z) (λ_ z=>by cases z) (λ_ z=>by cases z),λb _ q=>ne b _ q (λ_ z=>by cases z) (λ_ z=>by cases z) (λ_ z=>by cases z),
  .of (λb _ q=>ne b _ q (λ_ z=>by cases z) (λ_ z=>by cases z) (λ_ z=>by cases z)) λb _ q=>ne b _ q (λ_ z=>by cases z) (λ_ z=>by cases z) (λ_ z=>by cases z)⟩
def KD (ks:List Int) (vs:List V):List (ii × V):=mL (λk v=>(uO k,v)) ks vs
def AB (ks:List (List Int)) (vs:List V):List (List ii × V):=mL (λk v=>(k.map uO,v)) ks vs
mutual
inductive dk (K:aH) (H:Hp):D->V->Prop
 | non:dk K H .non .non
 | bl (b:Bool):dk K H (.bl b) (.bl b)
 | int (i:Int):dk K H (.int i) (.int i)
 | str (x:Str):dk K H (.str x) (.str x)
 | tup {a:Addr} {vs:List V} {ds:List D} (h:H a=some (.tup vs)) (r:ah K H ds vs):dk K H (.tup ds) (.ref a)
 | lst {a:Addr} {vs:List V} {ds:List D} (h:qd K H a vs) (r:ah K H ds vs):dk K H (.lst ds) (.ref a)
 | dct {a:Addr} {vs:List V} {ds:List D} {ks:List Int} {o:Obj} (h:H a=some (.frz o (.dK (KD ks vs)))) (hl:ks.length=vs.length) (r:ah K H ds vs):dk K H (.dct ks ds) (.ref a)
 | dtt {a:Addr} {vs:List V} {ds:List D} {ks:List (List Int)} {o:Obj} (h:H a=some (.frz o (.dT (AB ks vs)))) (hl:ks.length=vs.length) (r:ah K H ds vs):dk K H (.dtt ks ds) (.ref a)
inductive ah (K:aH) (H:Hp):List D->List V->Prop
 | nil:ah K H [] []
 | cons {d:D} {v:V} {ds:List D} {vs:List V} (h:dk K H d v) (t:ah K H ds vs):ah K H (d::ds) (v::vs)
end
section
variable {K:aH} {H H':Hp}
theorem qd.keep {a:Addr} {vs:List V} (k:ak H H') (h:qd K H a vs):qd K H' a vs:=by
 rcases h with ⟨o,h⟩ | h
 ·exact .inl ⟨o,k.frzs _ _ _ h⟩
 ·exact .inr h
mutual
theorem dk.keep (k:ak H H'):∀{d:D} {v:V},dk K H d v->dk K H' d v
 | _,_,.non=>.non
 | _,_,.bl b=>.bl b
 | _,_,.int i=>.int i
 | _,_,.str x=>.str x
 | _,_,.tup h r=>.tup (k.tups _ _ h) (ah.keep k r)
 | _,_,.lst h r=>.lst (qd.keep k h) (ah.keep k r)
 | _,_,.dct h hl r=>.dct (k.frzs _ _ _ h) hl (ah.keep k r)
 | _,_,.dtt h hl r=>.dtt (k.frzs _ _ _ h) hl (ah.keep k r)
theorem ah.keep (k:ak H H'):∀{ds:List D} {vs:List V},ah K H ds vs->ah K H' ds vs
 | _,_,.nil=>.nil
 | _,_,.cons h t=>.cons (dk.keep k h) (ah.keep k t)
end
theorem ah.length:∀{ds:List D} {vs:List V},ah K H ds vs->ds.length=vs.length
 | _,_,.nil=>rfl
 | _,_,.cons _ t=>by simp[ah.length t]
theorem ah.get:∀{ds:List D} {vs:List V} {i:Nat} {d:D},ah K H ds vs->ds[i]? = some d->∃v,vs[i]? = some v/\dk K H d v
 | _,_,_,_,.nil,e=>by simp at e
 | _,_,0,_,.cons h _,e=>by simp at e;subst e;exact⟨_,rfl,h⟩
 | _,_,i+1,d,.cons _ t,e=>by
  obtain⟨v,h1,h2⟩:=ah.get (i:=i) (d:=d) t (by simpa using e);exact⟨v,by simpa using h1,h2⟩
theorem ah.append:∀{ds es:List D} {vs us:List V},ah K H ds vs->ah K H es us->ah K H (ds++es) (vs++us)
 | _,_,_,_,.nil,s=>s
 | _,_,_,_,.cons h t,s=>.cons h (ah.append t s)
theorem ah.take:∀{ds:List D} {vs:List V} (n:Nat),ah K H ds vs->ah K H (ds.take n) (vs.take n)
 | _,_,0,_=>.nil
 | _,_,_+1,.nil=>.nil
 | _,_,n+1,.cons r t=>.cons r (ah.take n t)
theorem ah.drop:∀{ds:List D} {vs:List V} (n:Nat),ah K H ds vs->ah K H (ds.drop n) (vs.drop n)
 | _,_,0,r=>r
 | _,_,_+1,.nil=>.nil
 | _,_,n+1,.cons _ t=>ah.drop n t
theorem ah.set {d:D} {v:V} (r:dk K H d v):∀{ds:List D} {vs:List V} (i:Nat),ah K H ds vs->ah K H (ds.set i d) (vs.set i v)
 | _,_,_,.nil=>.nil
 | _,_,0,.cons _ t=>.cons r t
 | _,_,i+1,.cons q t=>.cons q (ah.set r i t)
theorem ah.dropLast:∀{ds:List D} {vs:List V},ah K H ds vs->ah K H ds.dropLast vs.dropLast
 | _,_,.nil=>.nil
 | _,_,.cons _ .nil=>.nil
 | _,_,.cons r (.cons r2 t)=>by
  simp only[UK];exact .cons r (ah.dropLast (.cons r2 t))
theorem ah.reverse:∀{ds:List D} {vs:List V},ah K H ds vs->ah K H ds.reverse vs.reverse
 | _,_,.nil=>.nil
 | _,_,.cons r t=>by
  simp only[wT];exact (ah.reverse t).append (.cons r .nil)
theorem dk.int_inv (h:dk K H (.int i) v):v = .int i:=by cases h;rfl
theorem dk.bl_inv (h:dk K H (.bl b) v):v = .bl b:=by cases h;rfl
theorem ah.ints:∀{ns:List Int},ah K H (ns.map D.int) (ns.map V.int)
 | []=>.nil
 | _::_=>.cons (.int _) ah.ints
theorem ah.ints_inv:∀{ns:List Int} {vs:List V},ah K H (ns.map D.int) vs->vs=ns.map V.int
 | [],_,h=>by cases h;rfl
 | n::ns,_,h=>by
  cases h with
  | cons h t=>rw[h.int_inv,ah.ints_inv t];rfl
end
def c8 (K:aH) (H:Hp) (d:D) (v:V):Prop :=
 dk K H d v\/∃ds a vs,d = .lst ds/\v = .ref a/\H a=some (.lst vs)/\ah K H ds vs
def c8.same {K:aH} {H H':Hp} {d:D} {v:V} (s:af H H') (h:c8 K H d v):c8 K H' d v:=by
 rcases h with h | ⟨ds,a,vs,e1,e2,e3,r⟩
 ·exact .inl (h.keep (.of s))
 ·exact .inr ⟨ds,a,vs,e1,e2,s.get _ _ e3 trivial,r.keep (.of s)⟩
def c8.lst {K:aH} {H:Hp} {ds:List D} {v:V} (h:c8 K H (.lst ds) v):∃a vs,v = .ref a/\ij K H a vs/\ah K H ds vs:=by
 rcases h with h | ⟨xf,a,vs,e1,e2,e3,r⟩
 ·cases h with
  | lst h r=>exact⟨_,_,rfl,h.sq,r⟩
 ·cases e1;exact⟨a,vs,e2,ij.of e3,r⟩
def c8.tup {K:aH} {H:Hp} {ds:List D} {v:V} (h:c8 K H (.tup ds) v):∃a vs,v = .ref a/\H a=some (.tup vs)/\ah K H ds vs:=by
 rcases h with h | ⟨xf,a,vs,e1,e2,e3,r⟩
 ·cases h with
  | tup h r=>exact⟨_,_,rfl,h,r⟩
 ·cases e1
inductive S where
 | d (x:D) | own (xs:List D) | dcl (cg:List (Int × List D)) | box (t:Bool) (en:List (List D)) | exc (C:Addr) (y:Str) (c:Int) | dt (ks:List (List Int)) (xs:List D) | raw (v:V) | mem (b:Bool) (x:D) (R:aH->Hp->Hp->V->Prop)
def S.val:S->D
 | .d x=>x
 | .own xs=>.lst xs
 | .dcl _=>.non
 | .box _ _=>.non
 | .exc _ _ _=>.non
 | .dt _ _=>.non
 | .raw _=>.non
 | .mem _ x _=>x
abbrev En:=List (Option S)
inductive jn (K:aH) (H₀ H:Hp):List (Int × List D)->List (ii × V)->List Addr->Prop
 | nil:jn K H₀ H [] [] []
 | cons {k:Int} {b:Addr} {vs:List V} {ds:List D} {cg:List (Int × List D)} {cn:List (ii × V)} {as:List Addr} (h:H b=some (.lst vs)) (h0:H₀ b=none) (r:ah K H ds vs) (n:b ∉ as) (t:jn K H₀ H cg cn as) :
   jn K H₀ H ((k,ds)::cg) ((uO k,.ref b)::cn) (b::as)
abbrev Ry (C e dx:Addr):HO:=.ext λh=>∃oe vs,h.get? e=some oe/\oe.cls = .ref C/\oe.data = .fields vs/\oe.dict=some dx
def jf (K:aH) (H₀ H:Hp):S->V->Prop
 | .exc C y c,v=>∃e dx,v = .ref e/\H e=some (Ry C e dx)/\H dx=some (.xd [(y,.int c)])
 | .d x,v=>dk K H x v
 | .raw u,v=>v=u
 | .mem b x R,v=>(b=true->dk K H x v)/\∀H',ak H H'->R K H₀ H' v
 | .dt ks xs,v=>∃a vs,v = .ref a/\H a=some (.dT (AB ks vs))/\H₀ a=none/\ks.length=vs.length/\ah K H xs vs
 | .own xs,v=>∃a vs,v = .ref a/\H a=some (.lst vs)/\H₀ a=none/\ah K H xs vs
 | .dcl cg,v=>∃a cn as,v = .ref a/\H a=some (.dK cn)/\H₀ a=none/\jn K H₀ H cg cn as
 | .box false en,v=>∃a cn as,v = .ref a/\H a=some (.lst (as.map V.ref))/\H₀ a=none/\a ∉ as/\jn K H₀ H (en.map λx=>(0,x)) cn as
 | .box true en,v=>∃a cn as,v = .ref a/\H a=some (.tup (as.map V.ref))/\jn K H₀ H (en.map λx=>(0,x)) cn as
def Ow (H:Hp):S->V->Addr->Prop
 | .exc _ _ _,_,_=>False
 | .raw _,_,_=>False
 | .mem _ _ _,_,_=>False
 | .d _,_,_=>False
 | .own _,v,a=>v = .ref a
 | .dt _ _,v,a=>v = .ref a
 | .dcl _,v,a=>∃p cn,v = .ref p/\H p=some (.dK cn)/\(a=p\/∃k,(k,V.ref a)∈cn)
 | .box false _,v,a=>∃p vs,v = .ref p/\H p=some (.lst vs)/\(a=p\/V.ref a∈vs)
 | .box true _,v,a=>∃p vs,v = .ref p/\H p=some (.tup vs)/\V.ref a∈vs
structure az (X:Cx) (ρ:En) (σ:St) (H:Hp):Prop where
 len:ρ.length=σ.length
 same:af X.H₀ H
 rel:∀(i:Nat) (x:S),ρ[i]? = some (some x)->∃v,σ[i]? = some (some v)/\jf X.K X.H₀ H x v
 sep:∀(i j:Nat) (x y:S) (v u:V) (a:Addr),ρ[i]? = some (some x)->ρ[j]? = some (some y)->σ[i]? = some (some v)->σ[j]? = some (some u)->Ow H x v a->Ow H y u a->i=j
 t0:h9 X.K X.H₀
section
variable {K:aH} {H₀ H H':Hp}
theorem jn.keep {cg:List (Int × List D)} {cn:List (ii × V)} {as:List Addr} (k:ak H H') (t:jn K H₀ H cg cn as) (w:∀a∈as,∀o,H a=some o->H' a=some o):jn K H₀ H' cg cn as:=by
 induction t with
 | nil=>exact .nil
 | cons h h0 r n t ih=>exact .cons (w _ (.head _) _ h) h0 (r.keep k) n (ih λa m=>w a (.tail _ m))
theorem jn.mem {cg:List (Int × List D)} {cn:List (ii × V)} {as:List Addr} {a:Addr} (t:jn K H₀ H cg cn as):a∈as↔∃k,(k,V.ref a)∈cn:=by
 induction t with
 | nil=>simp
 | cons h h0 r n t ih =>
  rw[aN,ih];constructor
  ·rintro (rfl | ⟨k,e⟩)
   ·exact⟨_,.head _⟩
   ·exact⟨k,.tail _ e⟩
  ·rintro⟨k,e⟩;rcases aN.mp e with e | e
   ·cases e;exact .inl rfl
   ·exact .inr ⟨k,e⟩
theorem jn.at {cg:List (Int × List D)} {cn:List (ii × V)} {as:List Addr} {a:Addr} (t:jn K H₀ H cg cn as) (m:a∈as):H₀ a=none/\∃vs,H a=some (.lst vs):=by
 induction t with
 | nil=>cases m
 | cons h h0 r n t ih =>
  rcases aN.mp m with rfl | m
  ·exact⟨h0,_,h⟩
  ·exact ih m
theorem jn.same {cg:List (Int × List D)} {cn:List (ii × V)} {as:List Addr} (t:jn K H₀ H cg cn as) (s:af H H'):jn K H₀ H' cg cn as :=
 t.keep (.of s) λc m o h=>by
  obtain⟨_,vs,q⟩:=t.at m;rw[h] at q;cases q;exact s.get _ _ h trivial
theorem HR:∀{ks:List Int} {vs:List V},ks.length=vs.length->(KD ks vs).map (·.2)=vs
 | [],[],_=>rfl
 | [],_::_,h=>by cases h
 | _::_,[],h=>by cases h
 | k::ks,v::vs,h=>by
  show v::(KD ks vs).map (·.2)=v::vs;rw[HR (by simpa using h)]
theorem jn.refs {cg:List (Int × List D)} {cn:List (ii × V)} {as:List Addr} (t:jn K H₀ H cg cn as):cn.map (·.2)=as.map V.ref:=by
 induction t with
 | nil=>rfl
 | cons h h0 r n t ih=>rw[aQ,aQ,ih]
theorem Ow.at {x:S} {v:V} {a:Addr} (r:jf K H₀ H x v) (w:Ow H x v a):H₀ a=none/\((∃vs,H a=some (.lst vs))\/(∃cn,H a=some (.dK cn))\/∃cn,H a=some (.dT cn)):=by
 cases x with
 | d x=>exact w.elim
 | exc C y c=>exact w.elim
 | raw u=>exact w.elim
 | mem b x R=>exact w.elim
 | own xs =>
  obtain⟨b,vs,rfl,h,h0,_⟩:=r;cases w;exact⟨h0,.inl ⟨vs,h⟩⟩
 | dt ks xs =>
  obtain⟨b,vs,rfl,h,h0,_⟩:=r;cases w;exact⟨h0,.inr (.inr ⟨_,h⟩)⟩
 | dcl cg =>
  obtain⟨b,cn,as,rfl,h,h0,t⟩:=r;obtain⟨p,kws',e,h',m⟩:=w;cases e;rw[h] at h';cases h';rcases m with rfl | m
  ·exact⟨h0,.inr (.inl ⟨cn,h⟩)⟩
  ·obtain⟨g0,g1⟩:=t.at (t.mem.mpr m);exact⟨g0,.inl g1⟩
 | box t en =>
  cases t with
  | false =>
   obtain⟨b,cn,as,rfl,h,h0,_,t⟩:=r;obtain⟨p,vs,e,h',m⟩:=w;cases e;rw[h] at h';cases h';rcases m with rfl | m
   ·exact⟨h0,.inl ⟨_,h⟩⟩
   ·obtain⟨c,hc,e⟩:=bJ.mp m;cases e;obtain⟨g0,g1⟩:=t.at hc;exact⟨g0,.inl g1⟩
  | true =>
   obtain⟨b,cn,as,rfl,h,t⟩:=r;obtain⟨p,vs,e,h',m⟩:=w;cases e;rw[h] at h';cases h';obtain⟨c,hc,e⟩:=bJ.mp m;cases e;obtain⟨g0,g1⟩:=t.at hc;exact⟨g0,.inl g1⟩
theorem jf.move {x:S} {v:V} (k:ak H H') (r:jf K H₀ H x v) (w:∀a,Ow H x v a->∀o,H a=some o->H' a=some o):jf K H₀ H' x v/\∀a,Ow H' x v a->Ow H x v a:=by
 cases x with
 | d x=>exact⟨dk.keep k r,λa e=>e⟩
 | raw u=>exact⟨r,λa e=>e⟩
 | mem b x R=>exact⟨⟨λe=>(r.1 e).keep k,λH2 k2=>r.2 H2 (k.trans k2)⟩,λa e=>e⟩
 | exc C y c =>
  obtain⟨e,dx,rfl,h1,h2⟩:=r;exact⟨⟨e,dx,rfl,k.exts _ _ h1,k.xds _ _ h2⟩,λa e=>e⟩
 | own xs =>
  obtain⟨b,vs,rfl,h,h0,rr⟩:=r;exact⟨⟨b,vs,rfl,w b rfl _ h,h0,rr.keep k⟩,λa e=>e⟩
 | dt ks xs =>
  obtain⟨b,vs,rfl,h,h0,hl,rr⟩:=r;exact⟨⟨b,vs,rfl,w b rfl _ h,h0,hl,rr.keep k⟩,λa e=>e⟩
 | dcl cg =>
  obtain⟨b,cn,as,rfl,h,h0,t⟩:=r;have hb:=w b ⟨b,cn,rfl,h,.inl rfl⟩ _ h;refine⟨⟨b,cn,as,rfl,hb,h0,t.keep k λa m=>w a ⟨b,cn,rfl,h,.inr (t.mem.mp m)⟩⟩,λa e=>?_⟩;obtain⟨p,kws',e,h',m⟩:=e;cases e;rw[hb] at h';cases h';exact⟨b,cn,rfl,h,m⟩
 | box t en =>
  cases t with
  | false =>
   obtain⟨b,cn,as,rfl,h,h0,nb,t⟩:=r;have hb:=w b ⟨b,_,rfl,h,.inl rfl⟩ _ h;refine⟨⟨b,cn,as,rfl,hb,h0,nb,t.keep k λa m=>w a ⟨b,_,rfl,h,.inr (cO m)⟩⟩,λa e=>?_⟩;obtain⟨p,vs,e,h',m⟩:=e;cases e;rw[hb] at h';cases h';exact⟨b,_,rfl,h,m⟩
  | true =>
   obtain⟨b,cn,as,rfl,h,t⟩:=r;have hb:=k.tups b _ h;refine⟨⟨b,cn,as,rfl,hb,t.keep k λa m=>w a ⟨b,_,rfl,h,cO m⟩⟩,λa e=>?_⟩;obtain⟨p,vs,e,h',m⟩:=e;cases e;rw[hb] at h';cases h';exact⟨b,_,rfl,h,m⟩
theorem af.own {x:S} {v:V} {a:Addr} {o:HO} (s:af H H') (r:jf K H₀ H x v) (w:Ow H x v a) (h:H a=some o):H' a=some o:=by
 obtain⟨_,⟨_,q⟩ | ⟨_,q⟩ | ⟨_,q⟩⟩:=Ow.at r w <;> rw[h] at q <;> cases q <;> exact s.get _ _ h trivial
theorem jf.same {x:S} {v:V} (s:af H H') (h:jf K H₀ H x v):jf K H₀ H' x v:=(h.move (.of s) λa w o e=>s.own h w e).1
end
section
def az.tabs (st:az X a Z H):h9 X.K H:=st.t0.tabK st.same.tbls
def az.ext (st:az X b Z H) (s:af H H'):az X b Z H':=by
 refine⟨st.len,st.same.trans s,λi x e=>let ⟨v,h1,h2⟩:=st.rel i x e;⟨v,h1,h2.same s⟩,λi j x y v u a e1 e2 e3 e4 o1 o2=>?_,st.t0⟩;obtain⟨v',h1,h2⟩:=st.rel i x e1;obtain⟨u',g1,g2⟩:=st.rel j y e2;rw[h1] at e3;cases e3;rw[g1] at e4;cases e4;exact st.sep i j x y _ _ a e1 e2 h1 g1 ((h2.move (.of s) λa w o e=>s.own h2 w e).2 a o1) ((g2.move (.of s) λa w o e=>s.own g2 w e).2 a o2)
def PX {α:Type} {xs:List (Option α)} {x y:α} (e:(xs.set i (some x))[j]? = some (some y)):(j=i/\y=x/\i<xs.length)\/(i≠j/\xs[j]? = some (some y)):=by
 by_cases hj:i=j
 ·subst hj;by_cases h:i<xs.length
  ·rw[gY h] at e;cases e;exact .inl ⟨rfl,rfl,h⟩
  ·rw[List.set_eq_of_length_le (by lia),jV (by lia)] at e;cases e
 ·rw[iJ hj] at e;exact .inr ⟨hj,e⟩
def az.chg (st:az X c Z H) {W:Addr->Prop} (kp:ak H H') (h0:af X.H₀ H') (h1:∀b o,H b=some o->NT o->¬W b->H' b=some o) (h2:jf X.K X.H₀ H' x' v')
  (h3:∀a,Ow H' x' v' a->W a\/H a=none) (h4:∀(j:Nat) (y:S) (u:V) (a:Addr),j≠i->c[j]? = some (some y)->Z[j]? = some (some u)->Ow H y u a->¬W a):az X (c.set i (some x')) (Z.set i (some v')) H':=by
 have old:∀(j:Nat) (y:S),j≠i->c[j]? = some (some y)->∃u,Z[j]? = some (some u)/\jf X.K X.H₀ H y u/\jf X.K X.H₀ H' y u/\∀a,Ow H' y u a->Ow H y u a:=λj y hj e=>by
  obtain⟨u,g1,g2⟩:=st.rel j y e;obtain⟨g3,g4⟩:=g2.move kp λa w o e'=>by
   have nw:=h4 j y u a hj e g1 w;obtain⟨_,⟨_,q⟩ | ⟨_,q⟩ | ⟨_,q⟩⟩:=Ow.at g2 w <;> rw[e'] at q <;> cases q <;> exact h1 a _ e' trivial nw
  exact⟨u,g1,g2,g3,g4⟩
 refine⟨by simp[st.len],h0,λj y e=>?_,λj k y z v u a e1 e2 e3 e4 o1 o2=>?_,st.t0⟩
 ·rcases PX e with ⟨rfl,rfl,hl⟩ | ⟨hj,e⟩
  ·exact⟨v',by rw[gY (by rw[<-st.len];exact hl)],h2⟩
  ·obtain⟨u,g1,_,g3,_⟩:=old j y (Ne.symm hj) e;exact⟨u,by rw[iJ hj];exact g1,g3⟩
 ·have cross:∀(j:Nat) (y:S) (u:V),i≠j->c[j]? = some (some y)->Z[j]? = some (some u)->Ow H' y u a->Ow H' x' v' a->False:=λj y u hj e es o1 o2=>by
   obtain⟨u',g1,g2,g3,g4⟩:=old j y (Ne.symm hj) e;rw[g1] at es;cases es;rcases h3 a o2 with w | n
   ·exact h4 j y _ a (Ne.symm hj) e g1 (g4 a o1) w
   ·obtain⟨_,⟨_,q⟩ | ⟨_,q⟩ | ⟨_,q⟩⟩:=Ow.at g2 (g4 a o1) <;> rw[n] at q <;> cases q
  rcases PX e1 with ⟨rfl,rfl,hl⟩ | ⟨hj,xh⟩
  ·rcases PX e2 with ⟨rfl,rfl,_⟩ | ⟨hk,p7⟩
   ·rfl
   ·rw[gY (by rw[<-st.len];exact hl)] at e3;cases e3;rw[iJ hk] at e4;exact (cross k z u hk p7 e4 o2 o1).elim
  ·rw[iJ hj] at e3;rcases PX e2 with ⟨rfl,rfl,hl⟩ | ⟨hk,p7⟩
   ·rw[gY (by rw[<-st.len];exact hl)] at e4;cases e4;exact (cross j y v hj xh e3 o1 o2).elim
   ·rw[iJ hk] at e4;obtain⟨v',g1,g2,g3,g4⟩:=old j y (Ne.symm hj) xh;obtain⟨u',f1,f2,f3,f4⟩:=old k z (Ne.symm hk) p7;rw[g1] at e3;cases e3;rw[f1] at e4;cases e4;exact st.sep j k y z _ _ a xh p7 g1 f1 (g4 a o1) (f4 a o2)
def az.put (st:az X c Z H) (s:af H H') (h2:jf X.K X.H₀ H' x' v') (h3:∀a,Ow H' x' v' a->H a=none):az X (c.set i (some x')) (Z.set i (some v')) H' :=
 st.chg (W:=λ_=>False) (.of s) (st.same.trans s) (λb o h n _=>s.get b o h n) h2 (λa o=>.inr (h3 a o)) λ_ _ _ _ _ _ _ _ z=>z
def az.updW (st:az X c Z H) (e:c[i]? = some (some x)) (es:Z[i]? = some (some v)) (h1:∀b o,H b=some o->¬Ow H x v b->H' b=some o) (h2:jf X.K X.H₀ H' x' v')
  (h3:∀a,Ow H' x' v' a->Ow H x v a\/H a=none):az X (c.set i (some x')) (Z.set i (some v')) H'/\ak H H':=by
 obtain⟨v0,g1,g2⟩:=st.rel i x e;rw[g1] at es;cases es;have no:∀b o,H b=some o->(∀vs,o≠.lst vs)->(∀cn,o≠.dK cn)->(∀cn,o≠.dT cn)->¬Ow H x v b:=λb o h n1 n2 n3 w=>by
  obtain⟨_,⟨_,q⟩ | ⟨_,q⟩ | ⟨_,q⟩⟩:=Ow.at g2 w <;> rw[h] at q <;> cases q
  ·exact n1 _ rfl
  ·exact n2 _ rfl
  ·exact n3 _ rfl
 have ne:∀b o,H b=some o->(∀vs,o≠.lst vs)->(∀cn,o≠.dK cn)->(∀cn,o≠.dT cn)->H' b=some o:=λb o h n1 n2 n3=>h1 b o h (no b o h n1 n2 n3);have kp:ak H H':=⟨λb xs h=>ne b _ h (λ_ z=>by cases z) (λ_ z=>by cases z) (λ_ z=>by cases z),λb o u h=>ne b _ h (λ_ z=>by cases z) (λ_ z=>by cases z) (λ_ z=>by cases z),λb d h=>ne b _ h (λ_ z=>by cases z) (λ_ z=>by cases z) (λ_ z=>by cases z),λb fs h=>ne b _ h (λ_ z=>by cases z) (λ_ z=>by cases z) (λ_ z=>by cases z),
  .of (λb d h=>ne b _ h (λ_ z=>by cases z) (λ_ z=>by cases z) (λ_ z=>by cases z)) λb d h=>ne b _ h (λ_ z=>by cases z) (λ_ z=>by cases z) (λ_ z=>by cases z)⟩
 refine⟨st.chg (W:=Ow H x v) kp ⟨λb o h n=>h1 b o (st.same.get b o h n) λw=>?_,st.same.tbls.trans kp.tbls⟩ (λb o h _ w=>h1 b o h w) h2 h3 λj y u a hj ej eu o1 o2=>hj (st.sep j i y x u v a ej e eu g1 o1 o2),kp⟩;rw[(Ow.at g2 w).1] at h;cases h
def az.set_d (st:az X a Z H) (r:dk X.K H d v):az X (a.set i (some (.d d))) (Z.set i (some v)) H:=st.put (x':=.d d) (af.refl H) r λ_ o=>o.elim
def pR {α:Type} {xs:List α} {x:α} (e:xs[i]? = some x):xs.set i x=xs:=by
 apply wQ ;intro j;by_cases hj:i=j
 ·subst hj;rw[gY (bG.mp e).1,e]
 ·rw[iJ hj]
def az.set_own (st:az X c Z H) (hp:H p=none) (r:ah X.K H ds vs) :
  az X (c.set i (some (.own ds))) (Z.set i (some (.ref p))) (bj H p (.lst vs)):=by
 have sm:af H (bj H p (.lst vs)):=.fn λb o h=>by rw[cW (dY h hp)];exact h
 exact st.put sm ⟨p,vs,rfl,fS,st.same.free hp,r.keep (.of sm)⟩ λa o=>by cases o;exact hp
def az.upd_own (st:az X c Z H) (e:c[i]? = some (some (.own xs))) (es:Z[i]? = some (some (.ref p))) (hp:H p=some (.lst us)) (h0:X.H₀ p=none)
  (r:ah X.K H ds vs):az X (c.set i (some (.own ds))) Z (bj H p (.lst vs))/\ak H (bj H p (.lst vs)):=by
 have kp:ak H (bj H p (.lst vs)):=ak.chg1 hp (.inl ⟨_,rfl⟩);have:=st.updW (x':=.own ds) (v':=.ref p) e es (H':=bj H p (.lst vs)) (λb o h w=>by rw[cW (by rintro rfl;exact w rfl)];exact h) ⟨p,vs,rfl,fS,h0,r.keep kp⟩ λa o=>.inl o;rw[pR es] at this;exact this
end
section
variable {σ:St} {s:aF}
theorem Inv.freezeG (I:Inv X pins σ H s) (h:H a=some x) (ho:s.heap.get? a=some o) (n1:∀ys,HO.tup ys≠x) (n2:∀o w,HO.frz o w≠x) (n3:∀ps,HO.tbl ps≠x) (n4:∀c,HO.own c≠x):Inv X pins σ (bj H a (.frz o x)) s:=by
 have ok:=I.hok a _ h;have oj:∀b u,H b=some u->u≠x->b≠a:=λb u q d z=>by subst z;rw[h] at q;cases q;exact d rfl
 have st:∀{b:Addr} {u:HO},ci X.prog X.w H s.heap b u->ci X.prog X.w (bj H a (.frz o x)) s.heap b u:=λ{b u} q =>
  q.stay (λc v _ w=>w) (λc w=>by rw[cW (oj c _ w (n4 _))];exact w) λc ys w=>by rw[cW (oj c _ w (n1 _))];exact w
 refine I.un (t':=s.toks) (h':=s.heap) ⟨λb o q _ _ _=>q,λb o q _ _ _=>⟨o.slots,q⟩,λb o q n _=>?_,λb o q _=>⟨o,q⟩,λb ys q=>?_,λb o u q=>?_,λb ps q=>⟨#[],?_⟩⟩ λb u q=>?_
 ·rw[cW (λz=>by subst z;rw[h] at n;cases n)];exact n
 ·rw[cW (oj b _ q (n1 _))];exact q
 ·rw[cW (oj b _ q (n2 _ _))];exact q
 ·rw[cW (oj b _ q (n3 _)),q];simp
 ·by_cases hb:b=a
  ·subst hb;rw[fS] at q;cases q;exact⟨ho,st ok⟩
  ·rw[cW hb] at q;exact st (I.hok b u q)
theorem Inv.freeze (I:Inv X pins σ H s) (h:H a=some (.lst xs)):∃o,Inv X pins σ (bj H a (.frz o (.lst xs))) s:=by
 obtain⟨z,its,n,r,e⟩:=I.hok a _ h;exact⟨_,Inv.freezeG I h e (λ_ z=>by cases z) (λ_ _ z=>by cases z) (λ_ z=>by cases z) (λ_ z=>by cases z)⟩
theorem Inv.freezeD (I:Inv X pins σ H s) (h:H a=some (.dK cg)):∃o,Inv X pins σ (bj H a (.frz o (.dK cg))) s:=by
 obtain⟨_,_,vs,r,ob,es,ep,e,_⟩:=I.hok a _ h;exact⟨ob,Inv.freezeG I h e (λ_ z=>by cases z) (λ_ _ z=>by cases z) (λ_ z=>by cases z) (λ_ z=>by cases z)⟩
theorem Inv.freezeT (I:Inv X pins σ H s) (h:H a=some (.dT cg)):∃o,Inv X pins σ (bj H a (.frz o (.dT cg))) s:=by
 obtain⟨_,_,_,_,ob,_,_,e,_⟩:=I.hok a _ h;exact⟨ob,Inv.freezeG I h e (λ_ z=>by cases z) (λ_ _ z=>by cases z) (λ_ z=>by cases z) (λ_ z=>by cases z)⟩
theorem af.upd_new (s:af H H1) (n:H a=none) (m:∀d,H1 a≠some (.ext d)):af H (bj H1 a o):=by
 refine⟨λb u h nt=>by rw[cW (dY h n)];exact s.get b u h nt,λb ps h=>?_⟩;obtain⟨more,e1,e2⟩:=s.tbls b ps h;refine⟨more,by rw[cW (dY h n)];exact e1,λx=>(e2 x).mono λc d q=>?_⟩;rw[cW (by rintro rfl;exact m _ q)];exact q
theorem uQ:∀(cg:List (Int × List D)) {cn:List (ii × V)} {as:List Addr} {H:Hp},Inv X pins σ H s->jn X.K X.H₀ H cg cn as ->
  ∃H' vs,Inv X pins σ H' s/\cn=KD (cg.map (·.1)) vs/\cg.length=vs.length/\ah X.K H' (cg.map λp=>.lst p.2) vs/\ak H H'/\∀b o,H b=some o->b ∉ as->H' b=some o
 | [],_,_,H,I,t=>by cases t;exact⟨H,[],I,rfl,rfl,.nil,ak.refl H,λb o h _=>h⟩
 | (k,ds)::cg,_,_,H,I,t=>by
  cases t with
  | @cons _ b vs _ _ cn as h h0 r n t =>
   obtain⟨o,I1⟩:=Inv.freeze I h;have kp:ak H (bj H b (.frz o (.lst vs))):=ak.chg1 h (.inl ⟨_,rfl⟩);obtain⟨H',us,I2,e1,e2,e3,k2,e4⟩:=uQ cg I1 (t.keep kp λa m o e=>by rw[cW (by rintro rfl;exact n m)];exact e);subst e1;refine⟨H',.ref b::us,I2,rfl,by simp[e2],.cons (.lst (.inl ⟨o,k2.frzs _ _ _ fS⟩) (r.keep (kp.trans k2))) e3,kp.trans k2,λc u q m=>?_⟩;rw[aN,not_or] at m;exact e4 c u (by rw[cW m.1];exact q) m.2
def S.fz:S->S
 | .own ds=>.d (.lst ds)
 | .dcl cg=>.d (.dct (cg.map (·.1)) (cg.map λp=>.lst p.2))
 | .box false en=>.d (.lst (en.map .lst))
 | .box true en=>.d (.tup (en.map .lst))
 | .d x=>.d x
 | .exc C y c=>.exc C y c
 | .raw u=>.raw u
 | .mem b x R=>.mem b x R
 | .dt ks xs=>.d (.dtt ks xs)
theorem az.fz (so:az X f σ H) (I:Inv X pins σ H s) (e:f[i]? = some (some x)):∃H',Inv X pins σ H' s/\az X (f.set i (some x.fz)) σ H'/\ak H H':=by
 obtain⟨v,h1,h2⟩:=so.rel i _ e;cases x with
 | d x=>exact⟨H,I,by rw[show S.fz (.d x) = .d x from rfl,pR e];exact so,ak.refl H⟩
 | exc C y c=>exact⟨H,I,by rw[show S.fz (.exc C y c) = .exc C y c from rfl,pR e];exact so,ak.refl H⟩
 | raw u=>exact⟨H,I,by rw[show S.fz (.raw u) = .raw u from rfl,pR e];exact so,ak.refl H⟩
 | mem b x R=>exact⟨H,I,by rw[show S.fz (.mem b x R) = .mem b x R from rfl,pR e];exact so,ak.refl H⟩
 | own ds =>
  obtain⟨p,vs,ev,hp,h0,rr⟩:=id h2;subst ev;obtain⟨o,I2⟩:=Inv.freeze I hp;have kp:ak H (bj H p (.frz o (.lst vs))):=ak.chg1 hp (.inl ⟨_,rfl⟩);obtain⟨jv,k2⟩:=so.updW (x':=.d (.lst ds)) (v':=.ref p) e h1 (H':=bj H p (.frz o (.lst vs))) (λb o h w=>by rw[cW (by rintro rfl;exact w rfl)];exact h) (.lst (.inl ⟨o,fS⟩) (rr.keep kp)) λa o=>o.elim;rw[pR h1] at jv;exact⟨_,I2,jv,k2⟩
 | dt ks xs =>
  obtain⟨p,vs,ev,hp,h0,hl,rr⟩:=id h2;subst ev;obtain⟨o,I2⟩:=Inv.freezeT I hp;have kp:ak H (bj H p (.frz o (.dT (AB ks vs)))):=ak.chg1 hp (.inr (.inr ⟨_,rfl⟩));obtain⟨jv,k2⟩:=so.updW (x':=.d (.dtt ks xs)) (v':=.ref p) e h1 (H':=bj H p (.frz o (.dT (AB ks vs)))) (λb o h w=>by rw[cW (by rintro rfl;exact w rfl)];exact h) (.dtt fS hl (rr.keep kp)) λa o=>o.elim;rw[pR h1] at jv;exact⟨_,I2,jv,k2⟩
 | dcl cg =>
  obtain⟨p,cn,as,ev,hp,h0,t⟩:=id h2;subst ev;obtain⟨H1,vs,I1,e1,e2,e3,k1,e4⟩:=uQ cg I t;have np:p ∉ as:=λm=>by obtain⟨_,us,q⟩:=t.at m;rw[hp] at q;cases q
  have og:=e4 p _ hp np;obtain⟨o,I2⟩:=Inv.freezeD I1 og;have kp:ak H1 (bj H1 p (.frz o (.dK cn))):=ak.chg1 og (.inr (.inl ⟨_,rfl⟩));obtain⟨jv,k2⟩:=so.updW (x':=.d (.dct (cg.map (·.1)) (cg.map λp=>.lst p.2))) (v':=.ref p) e h1 (H':=bj H1 p (.frz o (.dK cn)))
   (λb o h w=>by
    rw[cW (by rintro rfl;exact w ⟨_,cn,rfl,hp,.inl rfl⟩)];exact e4 b o h λm=>w ⟨p,cn,rfl,hp,.inr (t.mem.mp m)⟩)
   (.dct (by rw[fS,e1]) (by simp[e2]) (e3.keep kp)) λa o=>o.elim
  rw[pR h1] at jv;exact⟨_,I2,jv,k2⟩
 | box t en =>
  have emap:(en.map λx=>((0:Int),x)).map (λp=>D.lst p.2)=en.map D.lst:=by rw[cM];rfl
  cases t with
  | false =>
   obtain⟨p,cn,as,ev,hp,h0,np,t⟩:=id h2;subst ev;obtain⟨H1,vs,I1,e1,e2,e3,k1,e4⟩:=uQ _ I t;rw[emap] at e3;have ea:as.map V.ref=vs:=(by rw[<-t.refs,e1];exact HR (by rw[bV];simpa using e2));have og:=e4 p _ hp np;obtain⟨o,I2⟩:=Inv.freeze I1 og;have kp:ak H1 (bj H1 p (.frz o (.lst (as.map V.ref)))):=ak.chg1 og (.inl ⟨_,rfl⟩);obtain⟨jv,k2⟩:=so.updW (x':=.d (.lst (en.map .lst))) (v':=.ref p) e h1 (H':=bj H1 p (.frz o (.lst (as.map V.ref))))
    (λb o h w=>by
     rw[cW (by rintro rfl;exact w ⟨_,_,rfl,hp,.inl rfl⟩)];exact e4 b o h λm=>w ⟨p,_,rfl,hp,.inr (cO m)⟩)
    (.lst (vs:=as.map V.ref) (.inl ⟨o,fS⟩) (by have z:=e3.keep kp;rw[<-ea] at z;exact z)) λa o=>o.elim
   rw[pR h1] at jv;exact⟨_,I2,jv,k2⟩
  | true =>
   obtain⟨p,cn,as,ev,hp,t⟩:=id h2;subst ev;obtain⟨H1,vs,I1,e1,e2,e3,k1,e4⟩:=uQ _ I t;rw[emap] at e3;have ea:as.map V.ref=vs:=(by rw[<-t.refs,e1];exact HR (by rw[bV];simpa using e2));obtain⟨jv,k2⟩:=so.updW (x':=.d (.tup (en.map .lst))) (v':=.ref p) e h1 (H':=H1)
    (λb o h w=>e4 b o h λm=>w ⟨p,_,rfl,hp,cO m⟩)
    (.tup (vs:=as.map V.ref) (k1.tups _ _ hp) (by have z:=e3;rw[<-ea] at z;exact z)) λa o=>o.elim
   rw[pR h1] at jv;exact⟨_,I1,jv,k2⟩
end
structure Sz (n:Nat):Prop where
 ok:n<=sizeLine
abbrev RE:=En->(D->Prop)->Prop
abbrev RT:=En->(Bool->Prop)->Prop
abbrev RA:=En->(List D->Prop)->Prop
structure jb where
 nx:En->Prop
 rt:D->Prop
 bk:En->Prop:=λ_=>False
 ct:En->Prop:=λ_=>False
abbrev RS:=jb->En->Prop
abbrev RG:=D->En->(En->Prop)->Prop
def Wg (X:Cx) (t:RE):TE:=λZ H Q=>∃a P,az X a Z H/\t a P/\∀d v H',P d->af H H'->dk X.K H' d v->Q v H'
def Pp (X:Cx) (t:RE):TE:=λZ H Q=>∃a P,az X a Z H/\t a P/\∀d v H',P d->af H H'->c8 X.K H' d v->Q v H'
def C6 (X:Cx) (t:RA):TE:=λZ H Q=>∃a P,az X a Z H/\t a P/\∀ds p vs H1,P ds->af H H1->H1 p=none->ah X.K H1 ds vs->Q (.ref p) (bj H1 p (.lst vs))
def liftT (X:Cx) (t:RT):TT:=λZ H Q=>∃a P,az X a Z H/\t a P/\∀b H',P b->af H H'->Q b H'
def C3 (X:Cx) (t:RA):TA:=λZ H Q=>∃a P,az X a Z H/\t a P/\∀ds vs H',P ds->af H H'->ah X.K H' ds vs->Q vs H'
def Wi (X:Cx) (t:RS):TS:=λDe Z H=>∃a E,az X a Z H/\t E a/\(∀a' Z' H',E.nx a'->ak H H'->az X a' Z' H'->De.nx Z' H')/\(∀d v H',E.rt d->ak H H'->af X.H₀ H'->dk X.K H' d v->De.rt v H') /\
 (∀a' Z' H',E.bk a'->ak H H'->az X a' Z' H'->De.bk Z' H')/\∀a' Z' H',E.ct a'->ak H H'->az X a' Z' H'->De.ct Z' H'
def C4 (X:Cx) (g:RG):TG:=λv Z H Q=>∃d a P,dk X.K H d v/\az X a Z H/\g d a P/\∀a' Z' H',P a'->ak H H'->az X a' Z' H'->Q Z' H'
def kF {α β:Type} {A B C:α->β->Prop} {R:Prop} (h:∃d P,A d P/\B d P/\C d P) (k:∀d P,A d P->B d P->C d P->R):R:=let ⟨d,P,a,b,c⟩:=h;k d P a b c
def YY {α β γ:Type} {A B C E:γ->α->β->Prop} {R:Prop} (h:∃d f P,A d f P/\B d f P/\C d f P/\E d f P) (k:∀d f P,A d f P->B d f P->C d f P->E d f P->R):R:=let ⟨d,f,P,a,b,c,e⟩:=h;k d f P a b c e
def qI {α β:Type} {A B C E F G:α->β->Prop} {R:Prop} (h:∃d P,A d P/\B d P/\C d P/\E d P/\F d P/\G d P) (k:∀d P,A d P->B d P->C d P->E d P->F d P->G d P->R):R:=let ⟨d,P,a,b,c,e,f,g⟩:=h;k d P a b c e f g
def DE (X:Cx) (e:Expr) (t:RE):Prop:=PE X e (Wg X t)
def DB (X:Cx) (e:Expr) (t:RE):Prop:=PE X e (Pp X t)
def DO (X:Cx) (e:Expr) (t:RA):Prop:=PE X e (C6 X t)
def DT (X:Cx) (e:Expr) (t:RT):Prop:=PT X e (liftT X t)
def DW (X:Cx) (e:Expr) (t:RT):Prop:=PW X e (liftT X t)
def DA (X:Cx) (es:List Expr) (t:RA):Prop:=PA X es (C3 X t)
def DS (X:Cx) (st:Stmt) (t:RS):Prop:=PS X st (Wi X t)
def nk (X:Cx) (sts:List Stmt) (t:RS):Prop:=ly X sts (Wi X t)
def DG (X:Cx) (tg:Expr) (g:RG):Prop:=PG X tg (C4 X g)
def PE.mono (h:PE X e t) (m:∀Z H Q,t' Z H Q->t Z H Q):PE X e t':=λpins s Z H Q I q=>h pins s Z H Q I (m Z H Q q)
def PT.mono (h:PT X e t) (m:∀Z H Q,t' Z H Q->t Z H Q):PT X e t':=λpins s Z H Q I q=>h pins s Z H Q I (m Z H Q q)
def PW.mono (h:PW X e t) (m:∀Z H Q,t' Z H Q->t Z H Q):PW X e t':=λwh pins s Z H Q I q=>h wh pins s Z H Q I (m Z H Q q)
def PA.mono (h:PA X e t) (m:∀Z H Q,t' Z H Q->t Z H Q):PA X e t':=λpos pins s Z H Q I q=>h pos pins s Z H Q I (m Z H Q q)
def PS.mono (h:PS X e t) (m:∀D Z H,t' D Z H->t D Z H):PS X e t':=λpins s Z H D I q=>h pins s Z H D I (m D Z H q)
def ly.mono (h:ly X e t) (m:∀D Z H,t' D Z H->t D Z H):ly X e t':=λpins s Z H D I q=>h pins s Z H D I (m D Z H q)
def PG.mono (h:PG X e t) (m:∀v Z H Q,t' v Z H Q->t v Z H Q):PG X e t':=λpins s Z H v u Q I r q=>h pins s Z H v u Q I r (m v Z H Q q)
section
variable {X:Cx} {e a b c:Expr} {pos:Pos}
theorem DE.bor (h:DE X e t):DB X e t:=PE.mono h λZ H Q hh=>kF hh λf P st q k=>⟨f,P,st,q,λd v H' p s r=>k d v H' p s (.inl r)⟩
theorem DO.val (h:DO X e t):DE X e (λd Q=>t d λds=>Q (.lst ds)):=by
 intro pins s Z H Q I cf;obtain⟨d,P,st,q,k⟩:=cf;refine c5 (h pins s Z H (λv H'=>∃ds p vs H1,v = .ref p/\H'=bj H1 p (.lst vs)/\P (.lst ds)/\af H H1/\H1 p=none/\ah X.K H1 ds vs) I ⟨d,_,st,q,λds p vs H1 hp s1 hn r=>⟨ds,p,vs,H1,rfl,rfl,hp,s1,hn,r⟩⟩) λu s1 ⟨v,H',I',rv,ds,p,vs,H1,ev,eH,hp,sm,hn,r⟩=>?_;subst ev eH;obtain⟨o,I2⟩:=Inv.freeze I' (a:=p) (xs:=vs) fS;have sm2:af H1 (bj (bj H1 p (.lst vs)) p (.frz o (.lst vs))):=af.fn λb u e=>by rw[cW (dY e hn),cW (dY e hn)];exact e
 exact⟨.ref p,_,I2,rv,k (.lst ds) (.ref p) _ hp (sm.trans sm2) (.lst (.inl ⟨o,fS⟩) (r.keep (.of sm2)))⟩
def cG (i:Nat):RE:=λf Q=>match f[i]? with
 | some (some (.d d))=>Q d
 | some (some (.mem true d _))=>Q d
 | _=>False
def aL (i:Nat):RE:=λf Q=>match f[i]? with
 | some (some (.d d))=>Q d
 | some (some (.own xs))=>Q (.lst xs)
 | some (some (.mem true d _))=>Q d
 | _=>False
theorem dv (i:Nat) {x:Str} (hN:X.N[i]? = some x:=by rfl) (hv:nI X.env.scope x:=by walk_at "vis") (hd:(x == ("__debug__":Str))=false:=by decide)
  (fj:(x == ("__classdict__":Str))=false:=by decide):DE X (.Name x pos) (cG i):=by
 refine PE.mono (pv i hN hv hd fj) λZ H Q hh=>kF hh λf P st q k=>?_;unfold cG at q;split at q
 ·rename_i d e;obtain⟨v,h1,h2⟩:=st.rel i _ e;exact⟨v,h1,k d v H q (af.refl H) h2⟩
 ·rename_i d R e;obtain⟨v,h1,h2⟩:=st.rel i _ e;exact⟨v,h1,k d v H q (af.refl H) (h2.1 rfl)⟩
 ·exact q.elim
theorem ag (i:Nat) {x:Str} (hN:X.N[i]? = some x:=by rfl) (hv:nI X.env.scope x:=by walk_at "vis") (hd:(x == ("__debug__":Str))=false:=by decide)
  (fj:(x == ("__classdict__":Str))=false:=by decide):DB X (.Name x pos) (aL i):=by
 refine PE.mono (pv i hN hv hd fj) λZ H Q hh=>kF hh λf P st q k=>?_;unfold aL at q;split at q
 ·rename_i d e;obtain⟨v,h1,h2⟩:=st.rel i _ e;exact⟨v,h1,k _ v H q (af.refl H) (.inl h2)⟩
 ·rename_i xs e;obtain⟨v,h1,h2⟩:=st.rel i _ e;obtain⟨a,vs,e1,e2,_,r⟩:=h2;exact⟨v,h1,k _ v H q (af.refl H) (.inr ⟨xs,a,vs,rfl,e1,e2,r⟩)⟩
 ·rename_i d R e;obtain⟨v,h1,h2⟩:=st.rel i _ e;exact⟨v,h1,k _ v H q (af.refl H) (.inl (h2.1 rfl))⟩
 ·exact q.elim
def rC (d:D):RE:=λ_ Q=>Q d
theorem kY:DE X (.Constant (.int i) j pos) (rC (.int i)):=PE.mono Yp λZ H Q hh=>kF hh λd P st q k=>k _ _ H q (af.refl H) (.int i)
theorem rH:DE X (.Constant (.bool i) j pos) (rC (.bl i)):=PE.mono D8 λZ H Q hh=>kF hh λd P st q k=>k _ _ H q (af.refl H) (.bl i)
theorem xM:DE X (.Constant .none j pos) (rC .non):=PE.mono Yq λZ H Q hh=>kF hh λd P st q k=>k _ _ H q (af.refl H) .non
abbrev R22:=D->D->(D->Prop)->Prop
def Wh (X:Cx) (r:R22):R2:=λx y H Q=>∃d e P,c8 X.K H d x/\c8 X.K H e y/\r d e P/\∀z v H',P z->af H H'->dk X.K H' z v->Q v H'
def jr (X:Cx) (f:aB->aB->Sem aB) (r:R22):Prop:=jw X f (Wh X r)
def r2 (r:R22) (ta tb:RE):RE:=λd Q=>ta d λx=>tb d λy=>r x y Q
variable {ta tb tc:RE}
theorem Po (h:Wg X (r2 r ta tb) Z H Q):EE (Wh X r) (Pp X ta) (Pp X tb) Z H Q:=by
 obtain⟨d,P,st,ht,hP⟩:=h;exact⟨d,_,st,ht,λx v H1 h1 s1 r1=>⟨d,_,st.ext s1,h1,λy u H2 h2 s2 r2=>⟨x,y,P,r1.same s2,r2,h2,λz w H' hz s3 r3=>hP z w H' hz ((s1.trans s2).trans s3) r3⟩⟩⟩
theorem dP (ho:jr X (binaryOp op) r) (ha:DB X a ta) (hb:DB X b tb):DE X (.BinOp a op b pos) (r2 r ta tb):=PE.mono (D9 ho ha hb) λZ H Q h=>Po h
theorem vW (ho:jr X (compareOp op) r) (ha:DB X a ta) (hb:DB X b tb) (hm:behindInMarks op b=false:=by exact Pw _):DE X (.Compare a [op] [b] pos) (r2 r ta tb):=PE.mono (Tx ho ha hb hm) λZ H Q h=>Po h
def dS (t:RE):RT:=λf Q=>t f λd=>match d with
 | .bl k=>Q k
 | _=>False
theorem fW (ho:jr X (compareOp op) r) (ha:DB X a ta) (hb:DB X b tb) (hm:behindInMarks op b=false:=by exact Pw _):DT X (.Compare a [op] [b] pos) (dS (r2 r ta tb)):=by
 refine PT.mono (Uh ho ha hb hm) λZ H Q hh=>kF hh λf P st q k=>?_;refine Po (Q:=λx H'=>∃k,x = .bl k/\Q k H') ⟨f,_,st,q,λd v H' hd s r=>?_⟩;cases d with
 | bl b=>exact⟨b,r.bl_inv,k b H' hd s⟩
 | _=>exact hd.elim
theorem oB (h:DE X e ta) (he:∀whole,isTrue e X.env whole=(do let v <-whole;standAt e.pos;holding [v] (truthy v)):=by intro _;rfl):DT X e (dS ta):=by
 refine PT.mono (Zc h he) λZ H Q hh=>kF hh λf P st q k=>?_;refine⟨f,_,st,q,λd v H' hd s r=>?_⟩;cases d with
 | bl b=>exact⟨b,r.bl_inv,k b H' hd s⟩
 | _=>exact hd.elim
def xQ (t u:RT):RT:=λd Q=>t d λc=>if c=true then u d Q else Q false
def rOr (t u:RT):RT:=λd Q=>t d λc=>if c=true then Q true else u d Q
def wJ (t:RT):RT:=λd Q=>t d λc=>Q (!c)
variable {tA tB:RT} {rest:List Expr}
theorem ES (ha:DT X a tA):DW X (.BoolOp .And [a] pos) tA:=Um ha
theorem xO (ha:DT X a tA):DW X (.BoolOp .Or [a] pos) tA:=Zg ha
theorem CS (ha:DT X a tA) (hb:DW X (.BoolOp .And (b::rest) pos) tB):DW X (.BoolOp .And (a::b::rest) pos) (xQ tA tB) :=
 PW.mono (Zf ha hb) λZ H Q hh=>kF hh λf P st q k=>⟨f,_,st,q,λc H1 hc s1=>by
  cases c with
  | true=>rw[if_pos rfl] at hc ⊢;exact⟨f,P,st.ext s1,hc,λd H2 hd s2=>k d H2 hd (s1.trans s2)⟩
  | false=>rw[if_neg cC] at hc ⊢;exact k false H1 hc s1⟩
theorem sC (ha:DT X a tA) (hb:DW X (.BoolOp .Or (b::rest) pos) tB):DW X (.BoolOp .Or (a::b::rest) pos) (rOr tA tB) :=
 PW.mono (E7 ha hb) λZ H Q hh=>kF hh λf P st q k=>⟨f,_,st,q,λc H1 hc s1=>by
  cases c with
  | false=>rw[if_neg cC] at hc ⊢;exact⟨f,P,st.ext s1,hc,λd H2 hd s2=>k d H2 hd (s1.trans s2)⟩
  | true=>rw[if_pos rfl] at hc ⊢;exact k true H1 hc s1⟩
theorem DW.tst (h:DW X e tA):DT X e tA:=PW.pt h
theorem oS (ha:DT X a tA):DT X (.UnaryOp .Not a pos) (wJ tA):=PT.mono (Zb ha) λZ H Q hh=>kF hh λd P st q k=>⟨d,_,st,q,λc H1 hc s1=>k _ H1 hc s1⟩
def OC (ta tb:RE):RE:=λf Q=>ta f λd=>match d with
 | .bl k=>if k=true then tb f Q else Q (.bl false)
 | _=>False
def N7 (ta tb:RE):RE:=λf Q=>ta f λd=>match d with
 | .bl k=>if k=true then Q (.bl true) else tb f Q
 | _=>False
def Qx (ta:RE):RE:=λf Q=>ta f λd=>match d with
 | .bl k=>Q (.bl (!k))
 | _=>False
theorem RL {op} (h:DE X a ta):DE X (.BoolOp op [a] pos) ta:=Ys h
theorem MJ (ha:DE X a ta) (hb:DE X (.BoolOp .And (b::rest) pos) tb):DE X (.BoolOp .And (a::b::rest) pos) (OC ta tb) :=
 PE.mono (Yn ha hb) λZ H Q hh=>kF hh λf P st q k=>⟨f,_,st,q,λd v H1 hd s1 r=>by
  cases d with
  | bl c =>
   refine⟨c,r.bl_inv,?_⟩;cases c with
   | true=>exact⟨f,P,st.ext s1,hd,λd v H2 hd s2=>k d v H2 hd (s1.trans s2)⟩
   | false=>exact k (.bl false) (.bl false) H1 hd s1 (.bl false)
  | _=>exact hd.elim⟩
theorem Xd (ha:DE X a ta):DE X (.UnaryOp .Not a pos) (Qx ta) :=
 PE.mono (Yr ha) λZ H Q hh=>kF hh λf P st q k=>⟨f,_,st,q,λd v H1 hd s1 r=>by
  cases d with
  | bl c=>exact⟨c,r.bl_inv,k (.bl !c) (.bl !c) H1 hd s1 (.bl _)⟩
  | _=>exact hd.elim⟩
def rIf (t:RT) (ta tb:RE):RE:=λd Q=>t d λc=>if c=true then ta d Q else tb d Q
def C8 (X:Cx) (r:D->(D->Prop)->Prop):V->Hp->VK->Prop:=λx H Q=>∃d P,c8 X.K H d x/\r d P/\∀z v H',P z->af H H'->dk X.K H' z v->Q v H'
def UnD (X:Cx) (f:aB->Sem aB) (r:D->(D->Prop)->Prop):Prop:=L_ X f (C8 X r)
def r1 (r:D->(D->Prop)->Prop) (ta:RE):RE:=λd Q=>ta d λx=>r x Q
theorem CO (ho:UnD X (unaryOp op) r) (ha:DB X a ta):DE X (.UnaryOp op a pos) (r1 r ta) :=
 PE.mono (E1 ho ha) λZ H Q hh=>kF hh λf P st q k=>⟨f,_,st,q,λd v H1 hd s1 rr=>⟨d,P,rr,hd,λz v H2 hz s2 r2=>k z v H2 hz (s1.trans s2) r2⟩⟩
def aZ:RA:=λ_ Q=>Q []
def aD (t:RE) (u:RA):RA:=λd Q=>t d λx=>u d λxs=>Q (x::xs)
variable {t:RA}
theorem aU:DA X [] aZ:=PA.mono HW λZ H Q hh=>kF hh λd P st q k=>k [] [] H q (af.refl H) .nil
theorem aC (ha:DE X e ta) (hr:DA X es t) (hs:starEach (e::es) X.env=(false,eval e X.env)::starEach es X.env:=by rfl):DA X (e::es) (aD ta t) :=
 PA.mono (wZ ha hr hs) λZ H Q hh=>kF hh λf P st q k=>⟨f,_,st,q,λd v H1 hd s1 r1=>⟨f,_,st.ext s1,hd,λds vs H2 xj s2 r2=>k (d::ds) (v::vs) H2 xj (s1.trans s2) (.cons (r1.keep (.of s2)) r2)⟩⟩
def mR (t:RA):RE:=λd Q=>t d λds=>Sz ds.length/\Q (.tup ds)
theorem iC {x1} (h:DA X es t):DE X (.Tuple es x1 pos) (mR t) :=
 PE.mono (Yt h) λZ H Q hh=>kF hh λd P st q k=>⟨d,_,st,q,λds vs H1 hd s1 r=>⟨by rw[<-r.length];exact hd.1.ok,λp hp=>k (.tup ds) (.ref p) _ hd.2 (af.upd_new s1 (s1.free hp) λ_ z=>by rw[hp] at z;cases z) (by
  have sm:af H1 (bj H1 p (.tup vs)):=af.fn λb u e=>by rw[cW (dY e hp)];exact e
  exact .tup fS (r.keep (.of sm)))⟩⟩
def sJ (t:RA):RA:=λd Q=>t d λds=>Sz ds.length/\Q ds
theorem lU (h:DA X es t):DO X (.List es pos) (sJ t) :=
 PE.mono (ZS h) λZ H Q hh=>kF hh λd P st q k=>⟨d,_,st,q,λds vs H1 hd s1 r=>⟨by rw[<-r.length];exact hd.1.ok,λp hp=>k ds p vs H1 hd.2 s1 hp r⟩⟩
end
section
variable {X:Cx} {e a b c:Expr} {pos:Pos} {st:Stmt} {rest:List Stmt} {t u:RS} {te:RE}
def dE (t u:RS):RS:=λE d=>t { E with nx:=u E } d
def iM:RS:=λE d=>E.nx d
theorem gR:nk X [] iM:=ly.mono Uf λDe Z H hh=>qI hh λd E st q n r b c=>n d Z H q (ak.refl H) st
theorem fN (h:DS X st t):nk X [st] t:=Ug h
theorem aM (h1:DS X st t) (h2:nk X rest u):nk X (st::rest) (dE t u) :=
 ly.mono (Qp h1 h2) λDe Z H hh=>qI hh λf E st q n r b c=>⟨f,_,st,q,λf' Z' H' h k s=>⟨f',E,s,h,λf2 Z2 H2 x k2=>n f2 Z2 H2 x (k.trans k2),λd v H2 x k2=>r d v H2 x (k.trans k2),λf2 Z2 H2 x k2=>b f2 Z2 H2 x (k.trans k2),λf2 Z2 H2 x k2=>c f2 Z2 H2 x (k.trans k2)⟩,r,b,c⟩
theorem Oq:DS X st (λ_ _=>False):=PS.mono Qn λDe Z H ⟨d,E,st,q,_⟩=>q
def gM (te:RE):RS:=λE d=>te d E.rt
theorem CQ (h:DE X e te):DS X (.Return (some e) pos) (gM te) :=
 PS.mono (Za h) λDe Z H hh=>qI hh λf E st q n r b c=>⟨f,_,st,q,λd v H1 hd s1 rr=>r d v H1 hd (.of s1) (st.same.trans s1) rr⟩
def F2 (te:RE):RS:=λE d=>te d λ_=>E.nx d
def lJ (c:RT) (t u:RS):RS:=λE d=>c d λk=>if k=true then t E d else u E d
theorem kR (hc:DT X c tA) (ha:nk X sa t) (hb:nk X sb u):DS X (.If c sa sb pos) (lJ tA t u) :=
 PS.mono (E3 hc ha hb) λDe Z H hh=>qI hh λf E st q n r b c=>⟨f,_,st,q,λk H1 hk s1=>by
  cases k with
  | true=>rw[if_pos rfl] at hk ⊢;exact⟨f,E,st.ext s1,hk,λf2 Z2 H2 x k2=>n f2 Z2 H2 x ((ak.of s1).trans k2),λd v H2 x k2=>r d v H2 x ((ak.of s1).trans k2),λf2 Z2 H2 x k2=>b f2 Z2 H2 x ((ak.of s1).trans k2),λf2 Z2 H2 x k2=>c f2 Z2 H2 x ((ak.of s1).trans k2)⟩
  | false=>rw[if_neg cC] at hk ⊢;exact⟨f,E,st.ext s1,hk,λf2 Z2 H2 x k2=>n f2 Z2 H2 x ((ak.of s1).trans k2),λd v H2 x k2=>r d v H2 x ((ak.of s1).trans k2),λf2 Z2 H2 x k2=>b f2 Z2 H2 x ((ak.of s1).trans k2),λf2 Z2 H2 x k2=>c f2 Z2 H2 x ((ak.of s1).trans k2)⟩⟩
def dC (i:Nat):RG:=λd f Q=>Q (f.set i (some (.d d)))
theorem dN {i:Nat} {x:Str} (hN:X.N.Nodup) (hi:X.N[i]? = some x:=by rfl) (hx:Loc X.env.scope x:=by walk_at "vis") (hf:X.fn x=true\/X.env.scope.names.lookup x=some .local:=by walk_at "loc"):DG X (.Name x pos) (dC i) :=
 PG.mono (Ty hN hi hx hf) λv Z H Q hh=>YY hh λd f P r st q k=>k _ _ H q (ak.refl H) (st.set_d r)
abbrev sr:=List D->En->(En->Prop)->Prop
def Yb (X:Cx) (g:sr):ud:=λvs Z H Q=>∃ds d P,ah X.K H ds vs/\az X d Z H/\g ds d P/\∀d' Z' H',P d'->ak H H'->az X d' Z' H'->Q Z' H'
def HE (X:Cx) (ts:List Expr) (g:sr):Prop:=rl X ts (Yb X g)
theorem rl.mono {X:Cx} {e:List Expr} {t t':ud} (h:rl X e t) (m:∀v Z H Q,t' v Z H Q->t v Z H Q):rl X e t':=λpins s Z H v u Q I r q=>h pins s Z H v u Q I r (m v Z H Q q)
def oK:sr:=λds d Q=>match ds with
 | []=>Q d
 | _=>False
def fX (g:RG) (u:sr):sr:=λds f Q=>match ds with
 | []=>False
 | d::r=>g d f λf'=>u r f' Q
theorem mO:HE X [] oK:=rl.mono Tz λvs Z H Q hh=>YY hh λds d P r st q k=>by
 cases r with
 | nil=>exact⟨rfl,k d Z H q (ak.refl H) st⟩
 | cons _ _=>exact q.elim
theorem fB {u:sr} (h1:DG X e g) (h2:HE X es u) (hs:(assignEach (e::es) X.env).map (·.2)=assign e X.env::(assignEach es X.env).map (·.2):=by rfl):HE X (e::es) (fX g u) :=
 rl.mono (Qj h1 h2 hs) λvs Z H Q hh=>YY hh λds d P r st q k=>by
  cases r with
  | nil=>exact q.elim
  | cons r rs =>
   refine⟨_,_,rfl,_,d,_,r,st,q,λd' Z' H' hq k1 st1=>⟨_,d',P,rs.keep k1,st1,hq,λd2 Z2 H2 p k2 s2=>k d2 Z2 H2 p (k1.trans k2) s2⟩⟩
def oM (n:Nat) (g:sr):RG:=λd f Q=>match d with
 | .tup ds=>ds.length=n/\g ds f Q
 | _=>False
theorem pL {es:List Expr} {k:Nat} {g:sr} {n:Nat} (hc:X.calm=true) (h:HE X es g) (hn:(assignEach es X.env).length=n:=by rfl) (oh:(assignEach es X.env).findIdx? (·.1)=none:=by rfl):DG X (.Tuple es k pos) (oM n g) :=
 PG.mono (Yw hc h hn oh) λv Z H Q hh=>YY hh λd f P r st q kk=>by
  cases d with
  | tup ds =>
   cases r with
   | tup h r=>exact⟨_,_,rfl,fh.of h,by rw[<-r.length];exact q.1,ds,f,P,r,st,q.2,kk⟩
  | _=>exact q.elim
def Qu (te:RE) (g:RG):RS:=λE f=>te f λd=>g d f E.nx
theorem Fp {tg:Expr} {g:RG} (he:DE X e te) (hg:DG X tg g) (hs:swapsWithSole [tg] e pos.line X.env=pure false:=by rfl) (hw:swappedStores [tg] e X.env=pure none:=by rfl)
  (h1:(assignEach [tg] X.env).map (·.2)=[assign tg X.env]:=by rfl):DS X (.Assign [tg] e pos) (Qu te g) :=
 PS.mono (Qm he hg hs hw h1) λDe Z H hh=>qI hh λf E st q n r b c=>⟨f,_,st,q,λd v H1 hd s1 rr=>⟨d,f,_,rr,st.ext s1,hd,λf2 Z2 H2 x k2 s2=>n f2 Z2 H2 x ((ak.of s1).trans k2) s2⟩⟩
def fC (i:Nat) (te:RE):RS:=λE f=>te f λd=>E.nx (f.set i (some (.d d)))
theorem cL {i:Nat} {x:Str} {pos':Pos} (hN:X.N.Nodup) (he:DE X e te) (hi:X.N[i]? = some x:=by rfl) (hx:Loc X.env.scope x:=by walk_at "vis") (hs:swapsWith e (some (.Name x pos')) pos.line X.env=pure false:=by rfl)
  (hf:X.fn x=true\/X.env.scope.names.lookup x=some .local:=by walk_at "loc"):DS X (.Assign [.Name x pos'] e pos) (fC i te) :=
 PS.mono (Gu hN hi hx he hs hf) λDe Z H hh=>qI hh λf E st q n r b c=>⟨f,_,st,q,λd v H1 hd s1 rr=>n _ _ H1 hd (.of s1) ((st.ext s1).set_d rr)⟩
def nS (i:Nat) (t:RA):RS:=λE d=>t d λds=>E.nx (d.set i (some (.own ds)))
theorem AA {i:Nat} {x:Str} {pos':Pos} {t:RA} (hN:X.N.Nodup) (he:DO X e t) (hi:X.N[i]? = some x:=by rfl) (hx:Loc X.env.scope x:=by walk_at "vis") (hs:swapsWith e (some (.Name x pos')) pos.line X.env=pure false:=by rfl)
  (hf:X.fn x=true\/X.env.scope.names.lookup x=some .local:=by walk_at "loc"):DS X (.Assign [.Name x pos'] e pos) (nS i t) :=
 PS.mono (Gu hN hi hx he hs hf) λDe Z H hh=>qI hh λd E st q n r b c=>⟨d,_,st,q,λds p vs H1 hd s1 hp rr=>n _ _ _ hd ((ak.of s1).trans (.of (.fn λb o h=>by rw[cW (dY h hp)];exact h))) ((st.ext s1).set_own hp rr)⟩
def Zi (i j:Nat) (t:RA):RS:=λE f=>t f λds=>match ds with
 | [x,y]=>E.nx ((f.set i (some (.d x))).set j (some (.d y)))
 | _=>False
theorem Xe {i j:Nat} {x y:Str} {t:RA} {px py pt:Pos} {kt k2 wo} (hc:X.calm=true) (hN:X.N.Nodup) (ha:DA X [a,b] t) (hi:X.N[i]? = some x:=by rfl) (hj:X.N[j]? = some y:=by rfl) (m8:i≠j:=by decide)
  (hx:X.env.scope.names.lookup x=some .local:=by rfl) (hy:X.env.scope.names.lookup y=some .local:=by rfl)
  (hw:swappedStores [.Tuple [.Name x px,.Name y py] kt pt] (.Tuple [a,b] k2 wo) X.env=pure (some [x,y]):=by rfl)
  (hs:swapsWithSole [.Tuple [.Name x px,.Name y py] kt pt] (.Tuple [a,b] k2 wo) pos.line X.env=pure false:=by rfl) :
  DS X (.Assign [.Tuple [.Name x px,.Name y py] kt pt] (.Tuple [a,b] k2 wo) pos) (Zi i j t) :=
 PS.mono (Yz hc hN hi hj m8 hx hy ha hw hs) λDe Z H hh=>qI hh λd E st q n r b c=>⟨d,_,st,q,λds vs H1 hd s1 rr=>by
  cases rr with
  | nil=>exact hd.elim
  | cons r1 t1 =>
   cases t1 with
   | nil=>exact hd.elim
   | cons r2 t2 =>
    cases t2 with
    | nil=>exact⟨_,_,rfl,n _ _ H1 hd (.of s1) (((st.ext s1).set_d r1).set_d r2)⟩
    | cons _ _=>exact hd.elim⟩
def yL (i:Nat) (d:En):En:=match d[i]? with
 | some (some x)=>d.set i (some x.fz)
 | _=>d
theorem CP (i:Nat) (h:DS X st t):DS X st (λE f=>t E (yL i f)):=by
 intro pins s Z H De I ⟨f,E,so,q,n,r,b,c⟩;have q:t E (yL i f):=q;unfold yL at q;split at q
 ·rename_i x e;obtain⟨H2,I2,jv,kp⟩:=so.fz I e;exact h pins s Z _ De I2 ⟨_,E,jv,q,λf2 Z2 H2 x k2=>n f2 Z2 H2 x (kp.trans k2),λd v H2 x k2=>r d v H2 x (kp.trans k2),λf2 Z2 H2 x k2=>b f2 Z2 H2 x (kp.trans k2),λf2 Z2 H2 x k2=>c f2 Z2 H2 x (kp.trans k2)⟩
 ·exact h pins s Z H De I ⟨f,E,so,q,n,r,b,c⟩
def oV (c:RT) (t:RS):Nat->RS
 | 0,_,_=>False
 | n+1,E,d=>c d λk=>if k=true then t { E with nx:=oV c t n E,ct:=oV c t n E,bk:=E.nx } d else E.nx d
def DN (c:RT) (t:RS):RS:=λE d=>∃n,oV c t n E d
theorem JS (hp:PassesOwn (model X.prog X.w) X.A X.env X.xe) (hc:DT X c tA) (hb:nk X body t):DS X (.While c body [] pos) (DN tA t) :=
 PS.mono (Qo hp hc hb) λDe Z H hh=>qI hh λf E st mq n r b c=>by
  obtain⟨m,q⟩:=mq;refine⟨λm Z' H'=>∃f',az X f' Z' H'/\ak H H'/\oV tA t m E f',⟨m,f,st,ak.refl H,q⟩,?_⟩;rintro m Z' H' ⟨f',fb,kp,hw⟩;cases m with
  | zero=>exact hw.elim
  | succ m =>
   refine⟨f',_,fb,hw,λk H1 hk s1=>?_⟩;have sd:=kp.trans (.of s1);cases k with
   | true =>
    dsimp only at hk ⊢;rw[if_pos rfl] at hk ⊢;refine⟨λZ2 H2=>∃f2,az X f2 Z2 H2/\ak H H2/\oV tA t m E f2,λZ2 H2 ⟨f2,a1,a2,a3⟩=>⟨m,nK m,f2,a1,a2,a3⟩,?_⟩;exact⟨f',_,fb.ext s1,hk,λf2 Z2 H2 x k2 s2=>⟨f2,s2,sd.trans k2,x⟩,λd v H2 x k2=>r d v H2 x (sd.trans k2),λf2 Z2 H2 x k2=>n f2 Z2 H2 x (sd.trans k2),λf2 Z2 H2 x k2 s2=>⟨f2,s2,sd.trans k2,x⟩⟩
   | false =>
    dsimp only at hk ⊢;rw[if_neg cC] at hk ⊢;exact n f' Z' H1 hk sd (fb.ext s1)
def qe (X:Cx) (J:It) (xs:List D) (H0:Hp):Prop:=∀i H,ak H0 H ->
 (∀d,xs[i]? = some d->J.go i H/\∀x H',J.yld i H x H'->af H H'/\dk X.K H' d x)/\(xs.length<=i->J.stop i H)
def C5 (X:Cx) (t:RA):TI:=λZ H R=>∃d P,az X d Z H/\t d P/\∀xs J H',P xs->af H H'->qe X J xs H'->R J H'
def DI (X:Cx) (tg iter:Expr) (t:RA):Prop:=PI X tg iter (C5 X t)
theorem PI.mono {X:Cx} {tg e:Expr} {t t':TI} (h:PI X tg e t) (m:∀Z H Q,t' Z H Q->t Z H Q):PI X tg e t':=λpins s Z H Q I q=>h pins s Z H Q I (m Z H Q q)
def JW (g:RG) (t:RS):List D->RS
 | [],E,d=>E.nx d
 | x::xs,E,d=>g x d λd1=>t { E with nx:=JW g t xs E,ct:=JW g t xs E,bk:=E.nx } d1
def oD (ti:RA) (g:RG) (t:RS):RS:=λE d=>ti d λxs=>JW g t xs E d
theorem mZ (hp:PassesOwn (model X.prog X.w) X.A X.env X.xe) (hc:X.calm=true) (hi:DI X tg iter ti) (hg:DG X tg g) (hb:nk X body t)
  (hs:∀x,foldedSetIterable iter X.env x=pure x:=by intro _;rfl):DS X (.For tg iter body [] pos) (oD ti g t) :=
 PS.mono (Yy hp hc hi hg hb hs) λDe Z H hh=>qI hh λf E st q n r b c=>by
  refine⟨f,_,st,q,λxs J H1 hx s1 ok=>?_⟩;refine⟨λi m Z' H'=>m=xs.length-i/\i<=xs.length/\∃f',az X f' Z' H'/\ak H1 H'/\JW g t (xs.drop i) E f',⟨xs.length,by simp,fV _,f,st.ext s1,ak.refl H1,by simpa using hx⟩,?_⟩;rintro i m Z' H' ⟨rfl,hi,f',fb,kp,hf⟩;obtain⟨o1,o2⟩:=ok i H' kp;have sd:ak H H':=(ak.of s1).trans kp;by_cases dw:i<xs.length
  ·have e:xs.drop i=xs[i]::xs.drop (i+1):=fH dw;rw[e] at hf;obtain⟨go,yl⟩:=o1 xs[i] (aG dw);refine .inr ⟨go,λZ2 H2=>∃f2,az X f2 Z2 H2/\ak H1 H2/\JW g t (xs.drop (i+1)) E f2,λZ2 H2 hh=>⟨xs.length-(i+1),by lia,rfl,dw,hh⟩,λx H2 y=>?_⟩;obtain⟨s2,rx⟩:=yl x H2 y;refine⟨xs[i],f',_,rx,fb.ext s2,hf,λf3 Z3 H3 h3 k3 s3=>?_⟩;have k13:ak H1 H3:=(kp.trans (.of s2)).trans k3;have k03:ak H H3:=(sd.trans (.of s2)).trans k3;exact⟨f3,_,s3,h3,λf4 Z4 H4 x4 k4 s4=>⟨f4,s4,k13.trans k4,x4⟩,λd v H4 x4 k4=>r d v H4 x4 (k03.trans k4),λf4 Z4 H4 x4 k4=>n f4 Z4 H4 x4 (k03.trans k4),λf4 Z4 H4 x4 k4 s4=>⟨f4,s4,k13.trans k4,x4⟩⟩
  ·have e:i=xs.length:=(by lia);subst e;rw[LQ] at hf;exact .inl ⟨o2 (bO _),n f' Z' H' hf sd fb⟩
end
section
variable {X:Cx} {tg e:Expr} {te:RE} {pos p:Pos}
def riL (te:RE):RA:=λa Q=>te a λd=>match d with
 | .lst ds=>Q ds
 | _=>False
theorem jT (h:DE X e te):DI X tg e (riL te):=by
 refine PI.mono (Jl h) λZ H R hh=>kF hh λb P st q k=>⟨b,_,st,q,λd v H1 hd s1 r=>?_⟩;cases d with
 | lst ds =>
  cases r with
  | @lst a vs _ hz r =>
   refine⟨a,rfl,⟨vs,hz.sq⟩,k ds _ H1 hd s1 λi H2 kp=>⟨λd e=>?_,λhl=>⟨vs,(hz.keep kp).sq,by rw[<-r.length];exact hl⟩⟩⟩;obtain⟨v,h1,h2⟩:=(r.keep kp).get e;refine⟨⟨vs,v,(hz.keep kp).sq,h1⟩,λx H' y=>?_⟩;obtain⟨e1,e2⟩:=y;subst e1;have e3:=e2 vs (hz.keep kp).sq;rw[h1] at e3;cases e3;exact⟨af.refl _,h2⟩
 | _=>exact hd.elim
def riT (te:RE):RA:=λa Q=>te a λd=>match d with
 | .tup ds=>Q ds
 | _=>False
theorem RN (h:DE X e te):DI X tg e (riT te):=by
 refine PI.mono (Yx h) λZ H R hh=>kF hh λb P st q k=>⟨b,_,st,q,λd v H1 hd s1 r=>?_⟩;cases d with
 | tup ds =>
  cases r with
  | @tup a vs _ hz r =>
   refine⟨a,rfl,⟨vs,fh.of hz⟩,k ds _ H1 hd s1 λi H2 kp=>⟨λd e=>?_,λhl=>⟨vs,fh.of (kp.tups _ _ hz),by rw[<-r.length];exact hl⟩⟩⟩;obtain⟨v,h1,h2⟩:=(r.keep kp).get e;refine⟨⟨vs,v,fh.of (kp.tups _ _ hz),h1⟩,λx H' y=>?_⟩;obtain⟨e1,e2⟩:=y;subst e1;have e3:=e2 vs (fh.of (kp.tups _ _ hz));rw[h1] at e3;cases e3;exact⟨af.refl _,h2⟩
 | _=>exact hd.elim
def rA (lo:Int) (n:Nat):List D:=(dX n).map λk:Nat=>D.int (lo+(k:Int))
theorem Xs (lo:Int) (n:Nat):qe X (H_ lo n) (rA lo n) H0:=λi H kp=>by
 refine⟨λd e=>?_,λhl=>by show n<=i;simpa [rA] using hl⟩;unfold rA at e;rw[bK] at e;by_cases hi:i<n
 ·rw[uC hi] at e;cases e;exact⟨hi,λx H' y=>by obtain⟨rfl,rfl⟩:=y;exact⟨af.refl _,.int _⟩⟩
 ·rw[jV (by simpa using hi)] at e;cases e
structure qi (j:Int):Prop where
 lo:-(2 ^ 62)<=j
 hi:j<2 ^ 62
def PM (t:RA):RA:=λa Q=>t a λds=>match ds with
 | [.int j]=>qi j/\Q (rA 0 j.toNat)
 | _=>False
def P4 (t:RA):RA:=λa Q=>t a λds=>match ds with
 | [.int i,.int j]=>(qi i/\qi j)/\Q (rA i (j-i).toNat)
 | _=>False
theorem uW {a:Expr} {t:RA} (hm:X.mg "range" = none) (ha:DA X [a] t) (hg:Gl X "range":=by rfl) (hs:starEach [a] X.env=[(false,eval a X.env)]:=by rfl):DI X tg (.Call (.Name "range" p) [a] [] pos) (PM t):=by
 refine PI.mono (Mb hg hm ha hs) λZ H R hh=>kF hh λb P st q k=>⟨b,_,st,q,λds vs H1 hd s1 r=>?_⟩;split at hd
 ·rename_i j;rw[ah.ints_inv (ns:=[j]) r];exact⟨j,rfl,hd.1.lo,hd.1.hi,k _ _ H1 hd.2 s1 (Xs 0 _)⟩
 ·exact hd.elim
end
abbrev FD:=List D->(D->Prop)->Prop
def p_ (K:aH) (F:FD):Sp:=λvs H Q _=>h9 K H/\∃ds P,ah K H ds vs/\F ds P/\∀d v H',P d->af H H'->dk K H' d v->Q v H'
def cZ (F:FD) (t:RA):RE:=λa Q=>t a λds=>F ds Q
section
variable {X:Cx} {k:Nat} {f:Addr} {fd:lO} {ps:List Str} {F:FD} {x:Str} {p pos:Pos} {e:Expr} {es:List Expr} {t:RA}
theorem Sn (G:iw X.prog X.w X.K X.mg X.base ka k f fd ps (p_ X.K F)) (hr:cj k X.A) (hm:X.mg x=some (.ref f)) (hk:nO X.K (.ref f)=true) (hb:Binds X.K fd ps []) (ha:DA X (e::es) t) (hg:Gl X x:=by rfl)
  (oa:(x == ("__debug__":Str))=false:=by decide) (he:starEach (e::es) X.env=(false,eval e X.env)::starEach es X.env:=by rfl) (j2:(backTo pos (starEach es X.env)).any (·.1)=false:=by rfl) :
  DE X (.Call (.Name x p) (e::es) [] pos) (cZ F t) :=
 PE.mono (Tw (E:=E0) G hr hg hm hk hb .nil D7 ha oa he j2) λZ H Q hh=>kF hh λa P st q kk=>⟨a,_,st,q,λds vs H1 hd s1 r=>by
  show p_ X.K F (vs++[]) H1 Q E0;rw[eJ];exact⟨(st.ext s1).tabs,ds,P,r,hd,λd v H2 hp s2 r2=>kk d v H2 hp (s1.trans s2) r2⟩⟩
end
def eD (N:List Str) (ds:List D):En:=ds.map (λd=>some (.d d))++eY (N.length-ds.length) none
section
variable {P:bU} {w:dJ} {K:aH} {mg:Str->Option aB} {base:Heap}
theorem Eg (tb:h9 X.K X.H₀) (r:ah X.K X.H₀ ds vs):az X (eD N ds) (start N vs) X.H₀:=by
 have hl:=r.length;have own:∀(i:Nat) (x:S),(eD N ds)[i]? = some (some x)->∃d,x = .d d:=λi x e=>by
  unfold eD at e;by_cases hi:i<ds.length
  ·rw[dH (by simpa using hi),bK,aG hi] at e;cases e;exact⟨_,rfl⟩
  ·rw[dR (by simpa using hi),jE] at e;split at e <;> cases e
 refine⟨by simp[eD,start,hl],af.refl _,λi x e=>?_,λi j x y v u a e1 _ _ _ o _=>by
  obtain⟨d,rfl⟩:=own i x e1;exact o.elim,tb⟩
 unfold eD at e;by_cases hi:i<ds.length
 ·rw[dH (by simpa using hi),bK,aG hi] at e;cases e;obtain⟨v,h1,h2⟩:=r.get (aG hi);refine⟨v,?_,h2⟩;unfold start;rw[dH (by simpa [<-hl] using hi),bK,h1];rfl
 ·rw[dR (by simpa using hi),jE] at e;split at e <;> cases e
theorem Wb {x qual:Str} {st:Stmt} {f:Addr} {fd:lO} {N ps:List Str} {k:Nat} {F:FD} {t:RS} (Fu:qc K x qual st f fd) (Sc:e9 N ps (gG st))
  (fe:∀(dm:aB) (A:dD) (outer:List Env) (s:aF) (H:Hp) (E:XK),cj k (A.deeper (envOfC qual (gG st) s.heap.objs.size f dm)) ->
   nk (JM ka P w K mg base N qual (gG st) f dm A outer s H E).nox (pB st) t)
  (len:∀ds Q,F ds Q->ds.length=ps.length) (pure:∀ds Q,F ds Q->t { nx:=λ_=>Q .non,rt:=Q } (eD N ds)):iw P w K mg base ka (k+1) f fd ps (p_ K F):=by
 refine Fu.ok Sc (λvs H Q E ⟨_,ds,P,r,h,_⟩=>by rw[<-r.length];exact len ds P h) λdm A outer s H vs Q E hr ⟨tb,ds,P',r,h,kk⟩=>⟨_,fe dm A outer s H E hr,?_⟩;exact⟨eD N ds,_,Eg (X:=(JM ka P w K mg base N qual (gG st) f dm A outer s H E).nox) tb r,pure ds P' h,λa' Z' H' hq k s'=>kk .non .non H' hq s'.same .non,λd v H' hq k sm rv=>kk d v H' hq sm rv,λ_ _ _ z=>z.elim,λ_ _ _ z=>z.elim⟩
end
def BL (n:Nat) (i:Int):Prop:=i.natAbs<2 ^ n
def BL.bits (h:BL n i):EY i<=n:=SA.mpr h
def BL.of (h:EY i<=n):BL n i:=SA.mp h
def BL.mono (h:BL m i) (l:m<=n:=by decide):BL n i:=BL.of (fK h.bits l)
def BL.add (a:BL m i) (b:BL n j):BL (max m n+1) (i+j):=BL.of (intBits_add_le a.bits b.bits)
def BL.sub (a:BL m i) (b:BL n j):BL (max m n+1) (i-j):=BL.of (intBits_sub_le a.bits b.bits)
def BL.mul (a:BL m i) (b:BL n j):BL (m+n) (i*j):=BL.of (intBits_mul_le a.bits b.bits)
def BL.neg (a:BL m i):BL m (-i):=BL.of (intBits_neg_le a.bits)
def BL.fdiv (a:BL m i):BL m (i.fdiv j):=BL.of (intBits_fdiv_le a.bits)
def BL.le (a:BL m j) (h:i.natAbs<=j.natAbs):BL m i:=vT h a
def BL.of_lt {m:Nat} {i:Int} (h1:-(2 ^ m:Nat)<i) (h2:i<(2 ^ m:Nat)):BL m i:=by unfold BL;lia
def BL.intMulOk (a:BL m i) (b:BL n j) (h:m+n<=134217728):IntMulOk i j:=IntMulOk.of_le a.bits b.bits h
def BL.noPy (h:BL 9000 j):oE i j=false:=by
 refine PyProof.noPylong_of_log2 ?_;by_cases h0:j.natAbs=0
 ·rw[h0];decide +kernel
 ·exact (Nat.log2_lt h0).mpr h
section
variable {X:Cx} {e a b c:Expr} {pos:Pos}
theorem c8.int_inv {K:aH} {H:Hp} {i:Int} {v:V} (h:c8 K H (.int i) v):v = .int i:=by
 rcases h with h | ⟨ds,a,vs,e1,_⟩
 ·exact h.int_inv
 ·cases e1
theorem c8.bl_inv {K:aH} {H:Hp} {i:Bool} {v:V} (h:c8 K H (.bl i) v):v = .bl i:=by
 rcases h with h | ⟨ds,a,vs,e1,_⟩
 ·exact h.bl_inv
 ·cases e1
theorem c8.non_inv {K:aH} {H:Hp} {v:V} (h:c8 K H .non v):v = .non:=by
 rcases h with h | ⟨ds,a,vs,e1,_⟩
 ·cases h;rfl
 ·cases e1
theorem c8.is_non {K:aH} {H:Hp} {d:D} {v:V} (h:c8 K H d v):decide (v = .non)=(match d with | .non=>true | _=>false):=by
 rcases h with h | ⟨ds,a,vs,e1,e2,_⟩
 ·cases h <;> simp
 ·subst e1 e2;simp
structure MulOk (i j:Int):Prop where
 ok:IntMulOk i j
structure qb (i j:Int):Prop where
 nz:j≠0
 np:oE i j=false
structure ua (j:Int):Prop where
 nz:j≠0
structure ub (i j:Int):Prop where
 ok:0<=j/\j<=1000000/\i.natAbs<2 ^ 64
theorem BL.mulOk (a:BL m i) (b:BL n j) (h:m+n<=134217728:=by decide):MulOk i j:=⟨a.intMulOk b h⟩
theorem BL.divOk (h:BL 9000 j) (nz:j≠0):qb i j:=⟨nz,h.noPy⟩
def lM:R22:=λx y Q=>match x,y with
 | .int i,.int j=>Q (.int (i+j))
 | _,_=>False
def nR:R22:=λx y Q=>match x,y with
 | .int i,.int j=>Q (.int (i-j))
 | _,_=>False
def fO:R22:=λx y Q=>match x,y with
 | .int i,.int j=>MulOk i j/\Q (.int (i*j))
 | _,_=>False
def lT:R22:=λx y Q=>match x,y with
 | .int i,.int j=>qb i j/\Q (.int (i.fdiv j))
 | _,_=>False
def pI:R22:=λx y Q=>match x,y with
 | .int i,.int j=>ua j/\Q (.int (i.fmod j))
 | _,_=>False
def RJ:R22:=λx y Q=>match x,y with
 | .int i,.int j=>ub i j/\Q (.int (i ^ j.toNat))
 | _,_=>False
theorem Ly {f:aB->aB->Sem aB} {C:Int->Int->Prop} {g:Int->Int->Int} {r:R22} (h:jw X f (rI C λi j=>.int (g i j)))
  (hr:∀x y Q,r x y Q->∃i j,x = .int i/\y = .int j/\C i j/\Q (.int (g i j))):jr X f r:=by
 intro pins s Z H x y v u Q I rx ry cf;obtain⟨d,e,P,r1,r2,q,k⟩:=cf;obtain⟨i,j,rfl,rfl,hc,q⟩:=hr _ _ _ q;exact h pins s Z H x y v u Q I rx ry ⟨i,j,r1.int_inv,r2.int_inv,hc,k _ _ H q (af.refl H) (.int _)⟩
theorem iB:jr X (binaryOp .Add) lM:=Ly (C:=λ_ _=>True) (g:=λi j=>i+j) (xt λ_ _ _ _ _ _ _ _ q=>add_int q) λx y Q q=>by
 unfold lM at q;split at q
 ·exact⟨_,_,rfl,rfl,trivial,q⟩
 ·exact q.elim
theorem iX:jr X (binaryOp .Sub) nR:=Ly (C:=λ_ _=>True) (g:=λi j=>i-j) (xt λ_ _ _ _ _ _ _ _ q=>sub_int q) λx y Q q=>by
 unfold nR at q;split at q
 ·exact⟨_,_,rfl,rfl,trivial,q⟩
 ·exact q.elim
theorem cH:jr X (binaryOp .Mult) fO:=Ly (C:=λi j=>IntMulOk i j) (g:=λi j=>i*j) (xt λ_ _ _ _ _ _ _ hc q=>mul_int q hc) λx y Q q=>by
 unfold fO at q;split at q
 ·exact⟨_,_,rfl,rfl,q.1.ok,q.2⟩
 ·exact q.elim
theorem iZ:jr X (binaryOp .FloorDiv) lT:=Ly (C:=λi j=>j≠0/\oE i j=false) (g:=λi j=>i.fdiv j) (xt λ_ _ _ _ _ _ _ hc q=>floordiv_int hc.1 q (.inl hc.2)) λx y Q q=>by
 unfold lT at q;split at q
 ·exact⟨_,_,rfl,rfl,⟨q.1.nz,q.1.np⟩,q.2⟩
 ·exact q.elim
theorem lA:jr X (binaryOp .Mod) pI:=Ly (C:=λ_ j=>j≠0) (g:=λi j=>i.fmod j) (xt λ_ _ _ _ _ _ _ hc q=>mod_int' hc q) λx y Q q=>by
 unfold pI at q;split at q
 ·exact⟨_,_,rfl,rfl,q.1.nz,q.2⟩
 ·exact q.elim
theorem SQ:jr X (binaryOp .Pow) RJ:=Ly (C:=λi j=>0<=j/\j<=1000000/\i.natAbs<2 ^ 64) (g:=λi j=>i ^ j.toNat) (xt λ_ _ _ _ _ _ _ hc q=>pow_int_small hc.1 hc.2.1 hc.2.2 q) λx y Q q=>by
 unfold RJ at q;split at q
 ·exact⟨_,_,rfl,rfl,q.1.ok,q.2⟩
 ·exact q.elim
def zX:D->(D->Prop)->Prop:=λx Q=>match x with
 | .int i=>Q (.int (-i))
 | _=>False
theorem wD:UnD X (unaryOp .USub) zX:=by
 intro pins s Z H x v Q I rx cf;obtain⟨d,P,r,q,k⟩:=cf;unfold zX at q;split at q
 ·rename_i i;exact Zt pins s Z H x v Q I rx ⟨i,r.int_inv,k _ _ H q (af.refl H) (.int _)⟩
 ·exact q.elim
def mE (p:Int->Int->Bool):R22:=λx y Q=>match x,y with
 | .int i,.int j=>Q (.bl (p i j))
 | _,_=>False
theorem Tr (h:jw X f (xu λi j=>.bl (p i j))):jr X f (mE p):=by
 intro pins s Z H x y v u Q I rx ry cf;obtain⟨d,e,P,r1,r2,q,k⟩:=cf;unfold mE at q;split at q
 ·rename_i i j;exact h pins s Z H x y v u Q I rx ry ⟨i,j,r1.int_inv,r2.int_inv,k _ _ H q (af.refl H) (.bl _)⟩
 ·exact q.elim
theorem wY:jr X (compareOp .Lt) (mE λi j=>decide (i<j)):=Tr Wo
theorem Je:jr X (compareOp .LtE) (mE λi j=>decide (i<=j)):=Tr Wn
theorem SO:jr X (compareOp .Gt) (mE λi j=>decide (j<i)):=Tr Wm
theorem D5:jr X (compareOp .GtE) (mE λi j=>decide (j<=i)):=Tr Wl
def pY (neg:Bool):R22:=λx y Q=>match x,y with
 | .int i,.int j=>Q (.bl (if neg then !decide (i=j) else decide (i=j)))
 | .bl i,.bl j=>Q (.bl (if neg then !decide (i=j) else decide (i=j)))
 | _,_=>False
theorem sG:jr X (compareOp .Eq) (pY false):=by
 intro pins s Z H x y v u Q I rx ry cf;obtain⟨d,e,P,r1,r2,q,k⟩:=cf;unfold pY at q;split at q
 ·rename_i i j;rw[r1.int_inv] at rx;rw[r2.int_inv] at ry;exact Wk pins s Z H _ _ v u Q I rx ry ⟨rfl,by
   have e:decide (V.int i=V.int j)=decide (i=j):=(by simp);rw[e];exact k _ _ H q (af.refl H) (.bl _)⟩
 ·rename_i i j;rw[r1.bl_inv] at rx;rw[r2.bl_inv] at ry;exact Wk pins s Z H _ _ v u Q I rx ry ⟨rfl,by
   have e:decide (V.bl i=V.bl j)=decide (i=j):=(by simp);rw[e];exact k _ _ H q (af.refl H) (.bl _)⟩
 ·exact q.elim
theorem AH:jr X (compareOp .NotEq) (pY true):=by
 intro pins s Z H x y v u Q I rx ry cf;obtain⟨d,e,P,r1,r2,q,k⟩:=cf;unfold pY at q;split at q
 ·rename_i i j;rw[r1.int_inv] at rx;rw[r2.int_inv] at ry;exact Wp pins s Z H _ _ v u Q I rx ry ⟨rfl,by
   have e:decide (V.int i=V.int j)=decide (i=j):=(by simp);rw[e];exact k _ _ H q (af.refl H) (.bl _)⟩
 ·rename_i i j;rw[r1.bl_inv] at rx;rw[r2.bl_inv] at ry;exact Wp pins s Z H _ _ v u Q I rx ry ⟨rfl,by
   have e:decide (V.bl i=V.bl j)=decide (i=j):=(by simp);rw[e];exact k _ _ H q (af.refl H) (.bl _)⟩
 ·exact q.elim
def KB:D->Bool
 | .non=>true
 | _=>false
def HP (neg:Bool):R22:=λx y Q=>match y with
 | .non=>Q (.bl (if neg then !KB x else KB x))
 | _=>False
theorem Cd {K:aH} {H:Hp} {d:D} {v:V} (h:c8 K H d v):decide (v = .non)=KB d:=by
 rw[h.is_non];cases d <;> rfl
theorem Qb:jr X (compareOp .Is) (HP false):=by
 intro pins s Z H x y v u Q I rx ry cf;obtain⟨d,e,P,r1,r2,q,k⟩:=cf;unfold HP at q;split at q
 ·exact Yl pins s Z H x y v u Q I rx ry ⟨r2.non_inv,by rw[Cd r1];exact k _ _ H q (af.refl H) (.bl _)⟩
 ·exact q.elim
theorem ZM:jr X (compareOp .IsNot) (HP true):=by
 intro pins s Z H x y v u Q I rx ry cf;obtain⟨d,e,P,r1,r2,q,k⟩:=cf;unfold HP at q;split at q
 ·exact Tu pins s Z H x y v u Q I rx ry ⟨r2.non_inv,by rw[Cd r1];exact k _ _ H q (af.refl H) (.bl _)⟩
 ·exact q.elim
def bi:R22:=λx y Q=>match x,y with
 | .lst ds,.int i=>match jm ds i with
  | some d=>Q d
  | none=>False
 | .tup ds,.int i=>match jm ds i with
  | some d=>Q d
  | none=>False
 | _,_=>False
theorem Aq {K:aH} {H:Hp} {ds:List D} {vs:List V} {i:Int} {d:D} (r:ah K H ds vs) (h:jm ds i=some d):∃v,jm vs i=some v/\dk K H d v:=by
 unfold jm at h ⊢;rw[<-r.length];cases e:m9 ds.length i with
 | none=>rw[e] at h;cases h
 | some j =>
  rw[e] at h;exact r.get h
theorem kM (ha:DB X a ta) (hb:DB X b tb) (hs:JC b:=by intro _ _;rfl):DE X (.Subscript a b pos) (r2 bi ta tb):=by
 refine PE.mono (Qh (ZE.or Xu) ha hb hs) λZ H Q h=>?_;obtain⟨f,P,st,ht,hP⟩:=h;refine⟨f,_,st,ht,λx v H1 h1 s1 r1=>⟨f,_,st.ext s1,h1,λy u H2 h2 s2 r2=>?_⟩⟩;have r1':=r1.same s2;unfold bi at h2;split at h2
 ·rename_i ds i;split at h2
  ·rename_i d e;obtain⟨p,vs,rfl,hq,rr⟩:=r1'.lst;obtain⟨w',e',km⟩:=Aq rr e;exact .inl ⟨p,vs,i,w',rfl,r2.int_inv,hq,e',hP d w' H2 h2 (s1.trans s2) km⟩
  ·exact h2.elim
 ·rename_i ds i;split at h2
  ·rename_i d e;obtain⟨p,vs,rfl,hq,rr⟩:=r1'.tup;obtain⟨w',e',km⟩:=Aq rr e;exact .inr ⟨p,vs,i,w',rfl,r2.int_inv,fh.of hq,e',hP d w' H2 h2 (s1.trans s2) km⟩
  ·exact h2.elim
 ·exact h2.elim
abbrev RO:=En->(Option Int->Prop)->Prop
def C7 (X:Cx) (t:RO):TO:=λZ H Q=>∃d P,az X d Z H/\t d P/\∀o H',P o->af H H'->Q o H'
def DP (X:Cx) (e:Option Expr) (t:RO):Prop:=PO X e (C7 X t)
def sK:RO:=λ_ Q=>Q none
def DM (t:RE):RO:=λf Q=>t f λd=>match d with
 | .int i=>Q (some i)
 | _=>False
theorem EO:DP X none sK:=λpins s Z H Q I hh=>kF hh λd P st q k=>Uc pins s Z H Q I (k none H q (af.refl H))
theorem EQ (h:DE X e t):DP X (some e) (DM t):=λpins s Z H Q I hh=>kF hh λf P st q k=>Ud h pins s Z H Q I ⟨f,_,st,q,λd v H1 hd s1 r=>by
 cases d with
 | int i=>exact⟨i,r.int_inv,k (some i) H1 hd s1⟩
 | _=>exact hd.elim⟩
def cutD (xs:List D) (lo hi:Option Int):List D:=(xs.drop (HT.sIx xs.length 0 lo)).take (HT.sIx xs.length xs.length hi-HT.sIx xs.length 0 lo)
def Jt (te:RE) (tl th:RO):RA:=λd Q=>te d λx=>tl d λl=>th d λu=>match x with
 | .lst ds=>Q (cutD ds l u)
 | _=>False
theorem Op {lo hi:Option Expr} (he:DB X e te) (hl:DP X lo tl) (hu:DP X hi th):DO X (.Subscript e (.Slice lo hi none p2) pos) (Jt te tl th):=by
 refine PE.mono (Cw Ka he hl hu) λZ H Q hh=>kF hh λf P st q k=>?_;refine⟨f,_,st,q,λd v H1 hd s1 r1=>⟨f,_,st.ext s1,hd,λl H2 h2 s2=>⟨f,_,(st.ext s1).ext s2,h2,λu H3 h3 s3=>?_⟩⟩⟩;cases d with
 | lst ds =>
  obtain⟨p,vs,rfl,hq,rr⟩:=(r1.same (s2.trans s3)).lst;refine⟨p,vs,rfl,hq,λp' k5=>k (cutD ds l u) p' (US vs l u) H3 h3 ((s1.trans s2).trans s3) k5 ?_⟩;unfold cutD US;rw[<-rr.length];exact (rr.drop _).take _
 | _=>exact h3.elim
def Ya (X:Cx) (r:List D->(D->Prop)->Prop):List V->Hp->VK->Prop:=λxs H Q=>∃ds P,ah X.K H ds xs/\r ds P/\∀z v H',P z->af H H'->dk X.K H' z v->Q v H'
def VP (X:Cx) (f:aB) (r:List D->(D->Prop)->Prop):Prop:=wM X f (Ya X r)
def rCB (r:List D->(D->Prop)->Prop) (t:RA):RE:=λd Q=>t d λds=>r ds Q
variable {x:Str} {p:Pos} {es:List Expr} {t:RA} {id T:String} {r:List D->(D->Prop)->Prop}
theorem pJ (hc:VP X (.builtin id) r) (hm:X.mg x=none) (hv:bootBuiltins x=some (.builtin id)) (ha:DA X (e::es) t) (hg:Gl X x:=by rfl) (hn:x≠"__name__":=by decide) (oa:(x == ("__debug__":Str))=false:=by decide)
  (he:starEach (e::es) X.env=(false,eval e X.env)::starEach es X.env:=by rfl) (j2:(backTo pos (starEach es X.env)).any (·.1)=false:=by rfl):DE X (.Call (.Name x p) (e::es) [] pos) (rCB r t) :=
 PE.mono (yP hc hg hm hv ha hn oa he j2) λZ H Q hh=>kF hh λd P st q k=>⟨d,_,st,q,λds vs H1 hd s1 rr=>⟨ds,P,rr,hd,λz v H2 hz s2 r2=>k z v H2 hz (s1.trans s2) r2⟩⟩
theorem EN (hc:VP X (.type T) r) (hm:X.mg x=none) (hv:bootBuiltins x=some (.type T)) (ha:DA X (e::es) t) (hg:Gl X x:=by rfl) (hn:x≠"__name__":=by decide) (oa:(x == ("__debug__":Str))=false:=by decide)
  (he:starEach (e::es) X.env=(false,eval e X.env)::starEach es X.env:=by rfl) (j2:(backTo pos (starEach es X.env)).any (·.1)=false:=by rfl):DE X (.Call (.Name x p) (e::es) [] pos) (rCB r t) :=
 PE.mono (NC hc hg hm hv ha hn oa he j2) λZ H Q hh=>kF hh λd P st q k=>⟨d,_,st,q,λds vs H1 hd s1 rr=>⟨ds,P,rr,hd,λz v H2 hz s2 r2=>k z v H2 hz (s1.trans s2) r2⟩⟩
def UT:List D->(D->Prop)->Prop:=λds Q=>match ds with
 | [.int i]=>Q (.int (if i<0 then -i else i))
 | _=>False
theorem HK:VP X (.builtin "abs") UT:=by
 intro pins s Z H xs us Q I rv cf;obtain⟨ds,P,r,q,k⟩:=cf;unfold UT at q;split at q
 ·rename_i i;cases r with
  | cons r1 r2 =>
   cases r2;rw[r1.int_inv] at rv;exact Nu pins s Z H _ us Q I rv ⟨i,rfl,k _ _ H q (af.refl H) (.int _)⟩
 ·exact q.elim
def Fk:List D->(D->Prop)->Prop:=λds Q=>match ds with
 | [.bl b]=>Q (.int (if b then 1 else 0))
 | [.int i]=>Q (.int i)
 | _=>False
theorem YL:VP X (.type "int") Fk:=by
 intro pins s Z H xs us Q I rv cf;obtain⟨ds,P,r,q,k⟩:=cf;unfold Fk at q;split at q
 ·rename_i i;cases r with
  | cons r1 r2 =>
   cases r2;rw[r1.bl_inv] at rv;exact WE pins s Z H _ us Q I rv (.inr ⟨i,rfl,k _ _ H q (af.refl H) (.int _)⟩)
 ·rename_i i;cases r with
  | cons r1 r2 =>
   cases r2;rw[r1.int_inv] at rv;exact WE pins s Z H _ us Q I rv (.inl ⟨i,rfl,k _ _ H q (af.refl H) (.int _)⟩)
 ·exact q.elim
def Bh:List D->(D->Prop)->Prop:=λds Q=>match ds with
 | [.int i,.int j]=>Q (.int (if j > i then j else i))
 | _=>False
def WL:List D->(D->Prop)->Prop:=λds Q=>match ds with
 | [.int i,.int j]=>Q (.int (if j<i then j else i))
 | _=>False
theorem Ib (hc:X.calm=true:=by rfl):VP X (.builtin "max") Bh:=by
 intro pins s Z H xs us Q I rv cf;obtain⟨ds,P,r,q,k⟩:=cf;unfold Bh at q;split at q
 ·rename_i i j
  ·rw[ah.ints_inv (ns:=[i,j]) r] at rv;exact Kn hc pins s Z H _ us Q I rv ⟨i,j,rfl,k _ _ H q (af.refl H) (.int _)⟩
 ·exact q.elim
theorem Ic (hc:X.calm=true:=by rfl):VP X (.builtin "min") WL:=by
 intro pins s Z H xs us Q I rv cf;obtain⟨ds,P,r,q,k⟩:=cf;unfold WL at q;split at q
 ·rename_i i j
  ·rw[ah.ints_inv (ns:=[i,j]) r] at rv;exact Kp hc pins s Z H _ us Q I rv ⟨i,j,rfl,k _ _ H q (af.refl H) (.int _)⟩
 ·exact q.elim
def qZ:D->(D->Prop)->Prop:=λd Q=>match d with
 | .lst ds=>Q (.int ds.length)
 | .tup ds=>Q (.int ds.length)
 | _=>False
theorem sI {t:TE} (h:PE X e t) (hs:starEach [e] X.env=[(false,eval e X.env)]:=by rfl) (hn:starEach [] X.env=[]:=by rfl):PA X [e] (λZ H Q=>t Z H λv H'=>Q [v] H') :=
 PA.mono (wZ h HW (by rw[hs,hn])) λZ H Q q=>q
theorem pK (hm:X.mg "len" = none) (h:DB X e te) (hg:Gl X "len":=by rfl) (hs:starEach [e] X.env=[(false,eval e X.env)]:=by rfl) (hn:starEach [] X.env=[]:=by rfl):DE X (.Call (.Name "len" p) [e] [] pos) (r1 qZ te):=by
 refine PE.mono (yP YI hg hm PySem.boot_len (sI h hs hn) (by decide) (by decide) (by rw[hs,hn]) (by rw[hn];rfl)) λZ H Q hh=>kF hh λf P st q k=>⟨f,_,st,q,λd v H1 hd s1 r=>?_⟩;unfold qZ at hd;split at hd
 ·obtain⟨p,vs,rfl,hq,rr⟩:=r.lst;exact⟨p,vs,rfl,.inl hq,by rw[<-rr.length];exact k _ _ H1 hd s1 (.int _)⟩
 ·obtain⟨p,vs,rfl,hq,rr⟩:=r.tup;exact⟨p,vs,rfl,.inr (fh.of hq),by rw[<-rr.length];exact k _ _ H1 hd s1 (.int _)⟩
 ·exact hd.elim
end
def B0 (ds:List D):List D:=ds.zipIdx.map λp=>D.tup [.int (p.2:Int),p.1]
section
variable {te:RE}
def O9 (te:RE):RA:=λa Q=>te a λd=>match d with
 | .lst ds=>Q (B0 ds)
 | _=>False
end
def Gb (T:String):D->Option Bool
 | .non=>some (T == "NoneType")
 | .bl _=>some (T == "bool" || T == "int")
 | .int _=>some (T == "int")
 | .str _=>some (T == "str")
 | .tup _=>some (T == "tuple")
 | .lst _=>some (T == "list")
 | .dct _ _=>none
 | .dtt _ _=>none
def MI (T:String):D->(D->Prop)->Prop:=λd Q=>match Gb T d with
 | some b=>Q (.bl b)
 | none=>False
structure ml (K:aH) (T:String):Prop where
 non:lR K (.type "NoneType") (.type T)=some (T == "NoneType")
 bl:lR K (.type "bool") (.type T)=some (T == "bool" || T == "int")
 int:lR K (.type "int") (.type T)=some (T == "int")
 str:lR K (.type "str") (.type T)=some (T == "str")
 tup:lR K (.type "tuple") (.type T)=some (T == "tuple")
 lst:lR K (.type "list") (.type T)=some (T == "list")
section
variable {X:Cx} {e:Expr} {te:RE} {pos p p2:Pos} {T:String} {x:Str}
theorem zY (tab:ml X.K T) (hm:X.mg "isinstance" = none) (hT:X.mg x=none) (hb:bootBuiltins x=some (.type T)) (h:DE X e te) (hg:Gl X "isinstance":=by rfl) (hgT:Gl X x:=by rfl) (hn:x≠"__name__":=by decide) (hd:(x == ("__debug__":Str))=false:=by decide)
  (hs:starEach [e,.Name x p2] X.env=(false,eval e X.env)::starEach [.Name x p2] X.env:=by rfl) (we:starEach [.Name x p2] X.env=(false,eval (.Name x p2) X.env)::starEach [] X.env:=by rfl) (j2:(backTo pos (starEach [.Name x p2] X.env)).any (·.1)=false:=by rfl) :
  DE X (.Call (.Name "isinstance" p) [e,.Name x p2] [] pos) (r1 (MI T) te):=by
 have hc:wM X (.builtin "isinstance") (λxs H Q=>∃d v P,xs=[v,.ty T]/\dk X.K H d v/\MI T d P/\∀b,P (.bl b)->Q (.bl b) H):=by
  intro pins s Z H xs us Q I r cf;obtain⟨d,v,P,ex,rd,q,k⟩:=cf;subst ex;obtain⟨u,w',rfl,r1,r2⟩:=vals2 r;cases r2;unfold MI at q;split at q
  ·rename_i b eb;have fin:∀{t:aB},ji X.K H v t->lR X.K t (.type T)=some b->wpAny (model X.prog X.w) X.A (call (.builtin "isinstance") [u,.type T]) (EP X pins Z Q) X.xe s:=λty e=>Lg I r1 ty e λtk=>⟨.bl b,H,I.tok tk,rfl,k b q⟩;cases rd with
   | non=>cases eb;exact fin .non tab.non
   | bl _=>cases eb;exact fin (.bl _) tab.bl
   | int _=>cases eb;exact fin (.int _) tab.int
   | str _=>cases eb;exact fin (.str _) tab.str
   | tup h _=>cases eb;exact fin (.tup h) tab.tup
   | @lst a vs _ h _ =>
    cases eb;rcases h with ⟨o,h⟩ | ⟨o,its,n,hk,hc,_⟩
    ·exact fin (.frz h) tab.lst
    ·cases (show u=gD a from r1);exact gZ wU I.kIn ⟨o,I.kIn a o hk,hc⟩ tab.lst (λz=>nomatch z) λtk=>⟨.bl _,H,I.tok tk,rfl,k _ q⟩
   | dct _ _ _=>cases eb
   | dtt _ _ _=>cases eb
  ·exact q.elim
 refine PE.mono (yP hc hg hm PyProof.Rows.boot_isinstance (wZ h (wZ (Tv (v:=.ty T) hgT hT hb rfl hn hd) HW we) hs) (by decide) (by decide) hs j2) λZ H Q hh=>kF hh λc P st q k=>?_;refine⟨c,_,st,q,λd v H1 hd s1 r=>⟨d,v,P,rfl,r,hd,λb hb=>k _ _ H1 hb s1 (.bl b)⟩⟩
end
def tD:bootBuiltins "abs" = some (.builtin "abs"):=by decide +kernel
def WB:bootBuiltins "max" = some (.builtin "max"):=by decide +kernel
def WC:bootBuiltins "min" = some (.builtin "min"):=by decide +kernel
def yG:bootBuiltins "int" = some (.type "int"):=by decide +kernel
def Fe:bootBuiltins "bool" = some (.type "bool"):=by decide +kernel
def rG:bootBuiltins "tuple" = some (.type "tuple"):=by decide +kernel
def Ff:bootBuiltins "list" = some (.type "list"):=by decide +kernel
def Ve (K:aH):ml K "int":=⟨by rfl,by rfl,by rfl,by rfl,by rfl,by rfl⟩
def Rn (K:aH):ml K "bool":=⟨by rfl,by rfl,by rfl,by rfl,by rfl,by rfl⟩
def Ro (K:aH):ml K "list":=⟨by rfl,by rfl,by rfl,by rfl,by rfl,by rfl⟩
def vC (K:aH):ml K "tuple":=⟨by rfl,by rfl,by rfl,by rfl,by rfl,by rfl⟩
theorem bind1 {P:List aB->Prop} (h:∀a,P [a]):∀us:List aB,us.length=1->P us
 | [a],_=>h a
theorem bind2 {P:List aB->Prop} (h:∀a b,P [a,b]) (us:List aB) (hl:us.length=2):P us:=by
 cases us with
 | nil=>cases hl
 | cons a us=>exact bind1 (P:=λus=>P (a::us)) (h a) us (JB hl)
theorem bind3 {P:List aB->Prop} (h:∀a b c,P [a,b,c]) (us:List aB) (hl:us.length=3):P us:=by
 cases us with
 | nil=>cases hl
 | cons a us=>exact bind2 (P:=λus=>P (a::us)) (h a) us (JB hl)
theorem bind4 {P:List aB->Prop} (h:∀a b c d,P [a,b,c,d]) (us:List aB) (hl:us.length=4):P us:=by
 cases us with
 | nil=>cases hl
 | cons a us=>exact bind3 (P:=λus=>P (a::us)) (h a) us (JB hl)
structure FnAt (P:bU) (w:dJ) (K:aH) (mg:Str->Option aB) (base:Heap) (x:Str) (ps:List Str) (k:Nat) (F:FD):Prop where
 ex:∃f fd,iw P w K mg base ka k f fd ps (p_ K F)/\Binds K fd ps []/\nO K (.ref f)=true/\mg x=some (.ref f)
structure aj (K:aH) (mg:Str->Option aB) (x:Str) (st:Stmt) (ps:List Str):Prop where
 ex:∃f fd,qc K x x st f fd/\mg x=some (.ref f)/\∀us:List aB,us.length=ps.length->bindArgs fd ⟨us,[]⟩=pure (ps.zip us)
section
variable {P:bU} {w:dJ} {K:aH} {mg:Str->Option aB} {base:Heap}
theorem aj.ok {x:Str} {st:Stmt} {N ps:List Str} {k:Nat} {F:FD} {t:RS} (Z:aj K mg x st ps) (Sc:e9 N ps (gG st))
  (fe:∀{f:Addr} (dm:aB) (A:dD) (outer:List Env) (s:aF) (H:Hp) (E:XK),cj k (A.deeper (envOfC x (gG st) s.heap.objs.size f dm)) ->
   nk (JM ka P w K mg base N x (gG st) f dm A outer s H E).nox (pB st) t)
  (len:∀ds Q,F ds Q->ds.length=ps.length) (pure:∀ds Q,F ds Q->t { nx:=λ_=>Q .non,rt:=Q } (eD N ds)):FnAt P w K mg base x ps (k+1) F:=by
 obtain⟨f,fd,a,b,c⟩:=Z.ex;exact⟨f,fd,Wb a Sc (λdm A outer s H E hr=>fe dm A outer s H E hr) len pure,.all c,a.kp,b⟩
end
section
variable {X:Cx} {k:Nat} {ps:List Str} {F:FD} {x:Str} {p pos:Pos} {e:Expr} {es:List Expr} {t:RA}
theorem Ol (C:FnAt X.prog X.w X.K X.mg X.base x ps k F) (hr:cj k X.A) (ha:DA X (e::es) t) (hg:Gl X x:=by rfl)
  (oa:(x == ("__debug__":Str))=false:=by decide) (he:starEach (e::es) X.env=(false,eval e X.env)::starEach es X.env:=by rfl) (j2:(backTo pos (starEach es X.env)).any (·.1)=false:=by rfl) :
  DE X (.Call (.Name x p) (e::es) [] pos) (cZ F t):=by
 obtain⟨f,fd,G,hb,hk,hm⟩:=C.ex;exact Sn G hr hm hk hb ha hg oa he j2
end
def Kk (n:Nat):FD:=λds Q=>∃ns:List Int,ds=[.lst (ns.map .int)]/\ns.length<=n/\Q (.bl true)
def jt (f:D->D->Option Bool):List D->List D->Option Bool
 | [],[]=>some true
 | [],_::_=>some false
 | _::_,[]=>some false
 | x::xs,y::ys=>match f x y,jt f xs ys with
  | some a,some b=>some (a && b)
  | _,_=>none
def fi:Nat->D->D->Option Bool
 | 0,_,_=>none
 | n+1,d,e=>match d,e with
  | .int a,.int b=>some (decide (a=b))
  | .bl a,.bl b=>some (decide (a=b))
  | .non,.non=>some true
  | .non,.tup _=>some false
  | .tup _,.non=>some false
  | .tup xs,.tup ys=>jt (fi n) xs ys
  | .lst xs,.lst ys=>jt (fi n) xs ys
  | _,_=>none
theorem PR:∀{xs ys:List D} {b:Bool},jt f xs ys=some b->∀(j:Nat) (x y:D),xs[j]? = some x->ys[j]? = some y->∃c,f x y=some c
 | [],_,_,_,j,x,y,e,_=>by simp at e
 | _::_,[],_,_,j,x,y,_,e=>by simp at e
 | a::xs,c::ys,b,h,j,x,y,e1,e2=>by
  unfold jt at h;split at h
  ·rename_i p q hp hq;cases j with
   | zero=>simp at e1 e2;subst e1 e2;exact⟨p,hp⟩
   | succ j=>exact PR hq j x y (by simpa using e1) (by simpa using e2)
  ·cases h
theorem JV:∀{xs ys:List D} {b:Bool},jt f xs ys=some b ->
  ((dX (min xs.length ys.length)).all (λj=>match xs[j]?,ys[j]? with | some x,some y=>(f x y).getD false | _,_=>false) && xs.length == ys.length)=b
 | [],[],b,h=>by cases h;rfl
 | [],_::_,b,h=>by cases h;rfl
 | _::_,[],b,h=>by cases h;rfl
 | x::xs,y::ys,b,h=>by
  unfold jt at h;split at h
  ·rename_i p q hp hq;cases h;have ih:=JV hq;rw[<-ih];simp only[bH,Nat.succ_min_succ,zL,FN,aE,hp,pX,List.all_map];rw[Bool.and_assoc];congr 1;congr 1;rw[qO];simp
  ·cases h
section
variable {X:Cx} {σ:St} {H:Hp} {s:aF}
theorem RV {f:D->D->Option Bool} (hf:∀{d e:D} {v:V} {b:Bool},f d e=some b->dk X.K H d v->dk X.K H e v->b=true):∀{xs ys:List D} {vs:List V} {b:Bool},jt f xs ys=some b->ah X.K H xs vs->ah X.K H ys vs->b=true:=by
 intro xs
 induction xs with
 | nil=>intro ys vs b h q1 q2;cases q1;cases q2;cases h;rfl
 | cons x xs ih =>
  intro ys vs b h q1 q2;cases q1 with
  | cons r t =>
   cases q2 with
   | cons r' t' =>
    unfold jt at h;split at h
    ·rename_i p q hp hq;cases h;rw[hf hp r r',ih hq t t'];rfl
    ·cases h
theorem JU (I:Inv X pins σ H s):∀(n:Nat) {d e:D} {v:V} {b:Bool},fi n d e=some b->dk X.K H d v->dk X.K H e v->b=true
 | 0,_,_,_,_,h,_,_=>by cases h
 | n+1,d,e,v,b,h,r1,r2=>by
  unfold fi at h;split at h
  ·rw[r1.int_inv] at r2;cases r2;cases h;simp
  ·rw[r1.bl_inv] at r2;cases r2;cases h;simp
  ·cases h;rfl
  ·cases r1;cases r2
  ·cases r2;cases r1
  ·rename_i xs ys;cases r1 with
   | @tup a vs _ h1 q1 =>
    cases r2 with
    | @tup _ ws _ h2 q2 =>
     rw[h1] at h2;cases h2;exact RV (λ{d e v b}=>JU I n) h q1 q2
  ·rename_i xs ys;cases r1 with
   | @lst a vs _ h1 q1 =>
    cases r2 with
    | @lst _ ws _ h2 q2 =>
     rw[I.list_inj h2.sq h1.sq] at q2;exact RV (λ{d e v b}=>JU I n) h q1 q2
  ·cases h
theorem Bq (I:Inv X pins σ H s) (h:jt (fi n) xs ys=some b) (h1:ij X.K H a vs) (q1:ah X.K H xs vs) (h2:ij X.K H c ws) (q2:ah X.K H ys ws) (hu:A.units<cLine)
  (rp:∀{d e:D} {v u:V} {x y:aB} {b:Bool},fi n d e=some b->dk X.K H d v->dk X.K H e u->RelV v x->RelV u y->HC A.in1 s x y b):zU A s (.ref a) (.ref c) b/\HC A s (.ref a) (.ref c) b:=by
 obtain⟨its,rv,ht,_⟩:=I.list h1;obtain⟨gg,q9,xo,_⟩:=I.list h2;have l1:xs.length=its.length:=q1.length.trans rv.length;have l2:ys.length=gg.length:=q2.length.trans q9.length;have rc:zU A s (.ref a) (.ref c) b:=by
  by_cases hl:xs.length=ys.length
  ·have:=SeqAt.RcAt.lists (A:=A) (s:=s) (e:=λj=>match xs[j]?,ys[j]? with | some x,some y=>(fi n x y).getD false | _,_=>false) ht.isList xo.isList (by simp;lia) hu (λj g1 g2=>?_)
   ·have al:=JV h;simp only[aY,<-l1] at this;rw[<-hl,Nat.min_self,beq_self_eq_true,qJ] at al;rw[al] at this;exact this
   ·simp only[aY] at g1 g2;have e1:xs[j]? = some (xs[j]'(by lia)):=aG _;have e2:ys[j]? = some (ys[j]'(by lia)):=aG _;obtain⟨k,hk⟩:=PR h j _ _ e1 e2;rw[e1,e2];simp only[hk,pX];obtain⟨v1,f1,f2⟩:=q1.get e1;obtain⟨v2,f3,f4⟩:=q2.get e2;obtain⟨u1,g3,g4⟩:=rv.get f1;obtain⟨u2,g5,g6⟩:=q9.get f3;have a1:its.toArray[j]=u1:=by
     have:=aG g1;rw[this] at g3;simpa using dU g3
    have a2:gg.toArray[j]=u2:=by
     have:=aG g2;rw[this] at g5;simpa using dU g5
    rw[a1,a2];exact rp hk f2 f4 g4 g6
  ·have al:=JV h;have:(xs.length == ys.length)=false:=(by simpa using hl);rw[this,vF] at al;rw[<-al];exact SeqAt.RcAt.lists_lengths ht.isList xo.isList (by simp;lia) hu
 refine⟨rc,?_⟩;by_cases yu:a=c
 ·subst yu;rw[I.list_inj h2 h1] at q2;rw[RV (λ{d e v b}=>JU I n) h q1 q2];exact AR _
 ·exact HG yu rc
theorem MM (I:Inv X pins σ H s):∀(n:Nat) {d e:D} {v u:V} {x y:aB} {b:Bool} {A:dD},fi n d e=some b->dk X.K H d v->dk X.K H e u->RelV v x->RelV u y->A.units+n<cLine ->
  zU A s x y b/\HC A s x y b
 | 0,_,_,_,_,_,_,_,_,h,_,_,_,_,_=>by cases h
 | n+1,d,e,v,u,x,y,b,A,h,r1,r2,rx,ry,hu=>by
  have same:=λ(hvu:v=u)=>JU I (n+1) h r1 (hvu ▸ r2);unfold fi at h;split at h
  ·rename_i i j;rw[r1.int_inv] at rx;rw[r2.int_inv] at ry;obtain⟨t,rfl⟩:=rx;obtain⟨t',rfl⟩:=ry;cases h;have e:decide (i=j)=(i == j):=(by rw[BB]);rw[e];exact⟨SeqAt.RcAt.int_int _ _ _ _,HF _ _ _ _⟩
  ·rename_i i j;rw[r1.bl_inv] at rx;rw[r2.bl_inv] at ry;cases rx;cases ry;cases h;have e:decide (i=j)=(i == j):=(by rw[BB]);rw[e];exact⟨SeqAt.RcAt.bool_bool _ _,SeqAt.EqAt.bool_bool _ _⟩
  ·cases r1;cases r2;cases rx;cases ry;cases h;exact⟨SeqAt.RcAt.none_none,AR _⟩
  ·cases r1;cases r2 with
   | tup h2 q2 =>
    cases rx;cases ry;cases h;obtain⟨its,rv,ht,_⟩:=I.tuple (fh.of h2);exact⟨SeqAt.RcAt.none_tuple ht (by lia),SeqAt.EqAt.none_tuple ht (by lia)⟩
  ·cases r2;cases r1 with
   | tup h2 q2 =>
    cases rx;cases ry;cases h;obtain⟨its,rv,ht,_⟩:=I.tuple (fh.of h2);exact⟨SeqAt.RcAt.tuple_none ht (by lia),SeqAt.EqAt.tuple_none ht (by lia)⟩
  ·rename_i xs ys;cases r1 with
   | @tup a vs _ h1 q1 =>
    cases r2 with
    | @tup c ws _ h2 q2 =>
     cases rx;cases ry;obtain⟨its,rv,ht,_⟩:=I.tuple (fh.of h1);obtain⟨gg,q9,xo,_⟩:=I.tuple (fh.of h2);have l1:xs.length=its.length:=q1.length.trans rv.length;have l2:ys.length=gg.length:=q2.length.trans q9.length;have rc:zU A s (.ref a) (.ref c) b:=by
      have:=SeqAt.RcAt.tuples (A:=A) (s:=s) (e:=λj=>match xs[j]?,ys[j]? with | some x,some y=>(fi n x y).getD false | _,_=>false) ht xo (by lia) (λj g1 g2=>?_)
      ·simp only[aY,<-l1,<-l2] at this;rw[JV h] at this;exact this
      ·simp only[aY] at g1 g2;have e1:xs[j]? = some (xs[j]'(by lia)):=aG _;have e2:ys[j]? = some (ys[j]'(by lia)):=aG _;obtain⟨k,hk⟩:=PR h j _ _ e1 e2;rw[e1,e2];simp only[hk,pX];obtain⟨v1,f1,f2⟩:=q1.get e1;obtain⟨v2,f3,f4⟩:=q2.get e2;obtain⟨u1,g3,g4⟩:=rv.get f1;obtain⟨u2,g5,g6⟩:=q9.get f3;have a1:its.toArray[j]=u1:=by
        have:=aG g1;rw[this] at g3;simpa using dU g3
       have a2:gg.toArray[j]=u2:=by
        have:=aG g2;rw[this] at g5;simpa using dU g5
       rw[a1,a2];exact (MM I n hk f2 f4 g4 g6 (by show A.units+1+n<cLine;lia)).2
     refine⟨rc,?_⟩;by_cases yu:a=c
     ·subst yu;rw[same rfl];exact AR _
     ·exact HG yu rc
  ·rename_i xs ys;cases r1 with
   | @lst a vs _ h1 q1 =>
    cases r2 with
    | @lst c ws _ h2 q2 =>
     cases rx;cases ry;exact Bq I h h1.sq q1 h2.sq q2 (by lia) λ{d e v u x y b} hk f2 f4 g4 g6=>(MM I n hk f2 f4 g4 g6 (by show A.units+1+n<cLine;lia)).2
  ·cases h
end
def yg:R22:=λx y Q=>match fi 6 x y with
 | some b=>Q (.bl b)
 | none=>False
section
def Xg {Z:St} {s:aF} (I:Inv X pins Z H s) (h:fi 6 d e=some b) (r1:c8 X.K H d v) (r2:c8 X.K H e u) (rx:RelV v x) (ry:RelV u y) (hu:A.units+6<cLine):zU A s x y b:=by
 by_cases hl:∃xs ys,d = .lst xs/\e = .lst ys
 ·obtain⟨xs,ys,rfl,rfl⟩:=hl;obtain⟨a,vs,rfl,h1,q1⟩:=r1.lst;obtain⟨c,ws,rfl,h2,q2⟩:=r2.lst;cases rx;cases ry;exact (Bq I (n:=5) h h1 q1 h2 q2 (by lia) λ{d e v u x y b} hk f2 f4 g4 g6=>(MM I 5 hk f2 f4 g4 g6 (by show A.units+1+5<cLine;lia)).2).1
 ·have p1:dk X.K H d v:=by
   rcases r1 with r | ⟨ds,a,vs,e1,_⟩
   ·exact r
   ·subst e1;cases e <;> first | (cases h;done) | exact absurd ⟨_,_,rfl,rfl⟩ hl
  have p2:dk X.K H e u:=by
   rcases r2 with r | ⟨ds,a,vs,e1,_⟩
   ·exact r
   ·subst e1;cases d <;> first | (cases h;done) | exact absurd ⟨_,_,rfl,rfl⟩ hl
  exact (MM I 6 h p1 p2 rx ry hu).1
def Wj (hr:cj k X.A):jr X (compareOp .Eq) yg:=by
 intro pins s Z H x y v u Q I rx ry cf;obtain⟨d,e,P,r1,r2,q,kk⟩:=cf;unfold yg at q;split at q
 ·rename_i b hb;have hu:=hr.units;exact Xg I (A:=X.A) hb r1 r2 rx ry (by lia) _ _ _ _ ⟨.bl b,H,I,rfl,kk _ _ H q (af.refl H) (.bl b)⟩
 ·exact q.elim
end
theorem CI (env:Env):∀(names:List (Str × NameKind)) (acc:List (Str × Addr)),(∀y∈names,y.2 = .free->∃c,env.cells.lookup y.1=some c) ->
  ∃cl:List (Str × Addr),(do
   let mut cs:=acc
   for (name,kind) in names do
    if kind == .free then cs:=(name,<-cellOf env name)::cs
   return cs:Sem (List (Str × Addr)))=pure cl/\(∀p∈cl,p∈acc\/env.cells.lookup p.1=some p.2)/\(∀p∈acc,p∈cl)/\∀y∈names,y.2 = .free->∃c,(y.1,c)∈cl
 | [],acc,_=>⟨acc,by simp,λp h=>.inl h,λp h=>h,λy h=>by simp at h⟩
 | (n,k)::r,acc,h=>by
  by_cases hk:k = .free
  ·subst hk;obtain⟨c,hc⟩:=h _ cF rfl;obtain⟨cl,e,h1,h2,h3⟩:=CI env r ((n,c)::acc) λy hy=>h y (aT _ hy);refine⟨cl,?_,λp hp=>?_,λp hp=>h2 p (aT _ hp),λy hy hf=>?_⟩
   ·rw[<-e];have gu:cellOf env n=pure c:=(by unfold cellOf;rw[hc]);simp only[oH,gu,beq_self_eq_true,if_true,pure_bind]
   ·rcases h1 p hp with q | q
    ·rcases aN.mp q with rfl | q
     ·exact .inr hc
     ·exact .inl q
    ·exact .inr q
   ·rcases aN.mp hy with rfl | hy
    ·exact⟨c,h2 _ cF⟩
    ·exact h3 y hy hf
  ·obtain⟨cl,e,h1,h2,h3⟩:=CI env r acc λy hy=>h y (aT _ hy);refine⟨cl,?_,h1,h2,λy hy hf=>?_⟩
   ·rw[<-e];have hb:(k == iV)=false:=(by simpa using hk);simp only[oH,hb,aO,if_false,pure_bind]
   ·rcases aN.mp hy with rfl | hy
    ·exact absurd hf hk
    ·exact h3 y hy hf
theorem FV {α:Type}:∀{l:List (Str × α)} {x:Str} {c:α},(x,c)∈l->∃c',l.lookup x=some c'
 | [],_,_,h=>by simp at h
 | (y,d)::r,x,c,h=>by
  rw[kB];cases e:x == y with
  | true=>exact⟨d,rfl⟩
  | false =>
   rcases aN.mp h with q | q
   ·cases q;rw[beq_self_eq_true] at e;cases e
   ·exact FV q
def HL (h:∀y∈scope.names,y.2 = .free->∃c,env.cells.lookup y.1=some c) :
  ∃cl,closureFor scope env=pure cl/\(∀x c,cl.lookup x=some c->env.cells.lookup x=some c)/\∀y∈scope.names,y.2 = .free->∃c,cl.lookup y.1=some c:=by
 obtain⟨cl,e,h1,_,h3⟩:=CI env scope.names [] h;refine⟨cl,e,λx c hx=>?_,λy hy hf=>?_⟩
 ·rcases h1 _ (lE hx) with q | q
  ·simp at q
  ·exact q
 ·obtain⟨c,hc⟩:=h3 y hy hf;exact FV hc
def pH (X:Cx) (scope:Scope) (N:List Str) (cl:List (Str × Addr)) (C:Addr) (s:aF) (H:Hp) (fp:List Addr):Cx where
 prog:=X.prog
 w:=X.w
 K:=X.K
 mg:=X.mg
 base:=X.base
 A:=X.A
 N:=N
 s₀:=s
 H₀:=H
 env:=compEnvC scope cl C X.env
 outer:=X.stack
 stack:=X.stack
 ex:=fp
 fn:=λ_=>false
 calm:=X.calm
 pn:=[]
 xe:=λ_ _=>False
structure k8 (X:Cx) (scope:Scope):Prop where
 kind:scope.kind = .function
 nocell:∀y∈scope.names,y.2≠.cell
 locs:∀y∈scope.names,y.2 = .local->scope.names.lookup y.1=some .local
 frees:∀y∈scope.names,y.2 = .free->X.env.kindOf y.1=some .cell\/X.env.kindOf y.1=some .free
theorem sD {env:Env}:∀{names:List (Str × NameKind)} {x:Str} {k:NameKind},(names.map λ(n,k)=>if (k == iV && env.scope.kind == .function && env.kindOf n == some .cell) then (n,tL) else (n,k)).lookup x=some k ->
  (k = .cell\/k = .free)->(∀y∈names,y.2≠.cell)->(x,.free)∈names
 | [],_,_,h,_,_=>by simp at h
 | (n,j)::r,x,k,h,hk,hn=>by
  have h:List.lookup x ((if (j == iV && env.scope.kind == .function && env.kindOf n == some .cell)=true then (n,tL) else (n,j))::r.map λ(n,k)=>if (k == iV && env.scope.kind == .function && env.kindOf n == some .cell) then (n,tL) else (n,k))=some k:=h;have ky:∀y∈r,y.2≠.cell:=λy hy=>hn y (aT _ hy);cases hx:x == n with
  | true =>
   have e:x=n:=eq_of_beq hx;subst e;by_cases hc:(j == iV && env.scope.kind == .function && env.kindOf x == some .cell)=true
   ·have hj:j = .free:=by
     rw[gS,gS] at hc;exact eq_of_beq hc.1.1
    subst hj;exact cF
   ·rw[if_neg hc,kB,beq_self_eq_true] at h;cases h;rcases hk with rfl | rfl
    ·exact absurd rfl (hn _ cF)
    ·exact cF
  | false =>
   by_cases hc:(j == iV && env.scope.kind == .function && env.kindOf n == some .cell)=true
   ·rw[if_pos hc,kB,hx] at h;exact aT _ (sD h hk ky)
   ·rw[if_neg hc,kB,hx] at h;exact aT _ (sD h hk ky)
section
variable {X:Cx} {pins:List (Addr × Obj)} {σ:St} {H:Hp} {s:aF} {scope:Scope} {N:List Str} {cl:List (Str × Addr)} {C:Addr} {fp:List Addr}
theorem Si (I:Inv X pins σ H s) (Sc:k8 X scope) (ju:∀x c,cl.lookup x=some c->X.env.cells.lookup x=some c) (du:∀y∈scope.names,y.2 = .free->∃c,cl.lookup y.1=some c)
  (hC:s.heap.objs.size<=C) (hf:∀b∈fp,UJ X pins H b) (dw:∀b∈fp,b<s.heap.objs.size):(pH X scope N cl C s H fp).Ok:=by
 refine⟨I.ok.mod,Sc.kind,I.ok.glob,I.ok.blt,hC,λx y c h1 h2=>I.ok.inj x y c (ju x c h1) (ju y c h2),λx hx=>?_,λx c hx=>absurd (show false=true from hx) cC,I.ok.hd,I.ok.frames,.inl rfl,λb hb=>?_,I.bs,fK I.ok.bsz I.sz,λb o e hb=>?_,λb hb y7=>?_,I.stack,I.stkFree⟩
 ·have hx:(scope.names.map λ(n,k)=>if (k == iV && X.env.scope.kind == .function && X.env.kindOf n == some .cell) then (n,tL) else (n,k)).lookup x=some .cell\/(scope.names.map λ(n,k)=>if (k == iV && X.env.scope.kind == .function && X.env.kindOf n == some .cell) then (n,tL) else (n,k)).lookup x=some .free:=hx;have:(x,iV)∈scope.names:=by
   rcases hx with hx | hx
   ·exact sD hx (.inl rfl) Sc.nocell
   ·exact sD hx (.inr rfl) Sc.nocell
  exact du _ this rfl
 ·obtain⟨f0,f1,f2,f3,f4,f5⟩:=hf b hb;exact⟨bE (bQ (dw b hb) hC),λx c e=>f4 x c (ju x c e)⟩
 ·obtain⟨f0,f1,f2,f3,f4,f5⟩:=hf b hb;rcases f3 with z | z
  ·exact I.ok.noex b o e z
  ·have h1:=(aP e);have h2:=I.ok.bsz;exact absurd (bQ h1 (fK h2 z)) (hE _)
 ·obtain⟨f0,f1,f2,f3,f4,f5⟩:=hf b hb;rcases aN.mp (I.stkSub b y7) with e | e
  ·exact f1 e
  ·exact f2 e
def YK (σ:St) (k:Nat) (ix:List Nat):St:=eY k none++ix.map λi=>(σ[i]?).join
theorem Ny (I:Inv X pins σ H s) (Sc:k8 X scope) (ju:∀x c,cl.lookup x=some c->X.env.cells.lookup x=some c) (du:∀y∈scope.names,y.2 = .free->∃c,cl.lookup y.1=some c)
  {s4:aF} {m:Str->Option aB} {k:Nat} {ix:List Nat} {ys:List Str} (hC:s.heap.objs.size<=C) (hf:∀b∈fp,UJ X pins H b) (dw:∀b∈fp,b<s.heap.objs.size)
  (S_:∀b o,s.heap.get? b=some o->s4.heap.get? b=some o) (v_:s4.os=s.os) (hb:AllBare s4.gens) (hns:s4.heap.Ns C m)
  (hN:N.length=k+ys.length) (qt:N.drop k=ys) (hix:ix.length=ys.length) (hiy:∀(j:Nat) (y:Str) (i:Nat),ys[j]? = some y->ix[j]? = some i->X.N[i]? = some y/\(y,iV)∈scope.names)
  (hkind:∀y∈ys,(relabel scope X.env).names.lookup y=some .cell\/(relabel scope X.env).names.lookup y=some .free) :
  Inv (pH X scope N cl C s H fp) [] (YK σ k ix) H s4:=by
 have Z_:H C=none:=I.hok.fresh hC;refine⟨Si I Sc ju du hC hf dw,v_,hb,Un.kept S_,⟨m,hns,λi x v e1 e2 e3=>?_⟩,λx c e=>?_,Z_,λx c e=>I.freeC x c (ju x c e),λp hp=>absurd (show p∈([]:List (Addr × Obj)) from hp) (by simp),I.hok.kept S_,?_⟩
 ·unfold YK at e2;by_cases ni:i<k
  ·rw[dH (by simpa using ni),jE,if_pos ni] at e2;cases e2
  ·rw[dR (by simpa using ni),mC,bK] at e2;cases eo:ix[i-k]? with
   | none=>rw[eo] at e2;cases e2
   | some o =>
    rw[eo] at e2;have e2:some ((σ[o]?).join)=some (some v):=e2;have p7:σ[o]? = some (some v):=by
     cases q:σ[o]? with
     | none=>rw[q] at e2;cases e2
     | some z=>rw[q] at e2;cases e2;rfl
    have ey:ys[i-k]? = some x:=by
     rw[<-qt,GV];rw[show k+(i-k)=i by lia];exact e1
    obtain⟨h1,h2⟩:=hiy _ _ _ ey eo;have hv:nI X.env.scope x:=by
     rcases Sc.frees _ h2 rfl with q | q
     ·exact .inr (.inl q)
     ·exact .inr (.inr q)
    obtain⟨m0,hn0,hl0⟩:=I.loc;obtain⟨u,ru,lu⟩:=hl0 o x v h1 p7 hv;refine⟨u,ru,.inr ⟨hkind x (eW ey),?_⟩⟩;obtain⟨c,hc⟩:=du _ h2 rfl;refine⟨c,hc,?_⟩;rcases lu with ⟨q,_⟩ | ⟨_,c',m7,gu⟩
    ·rcases Sc.frees _ h2 rfl with z | z
     ·rw[z] at q;cases q
     ·rw[z] at q;cases q
    ·have:=ju x c hc;rw[this] at m7;cases m7;obtain⟨oc,ho,hd⟩:=gu;exact⟨oc,S_ _ _ ho,hd⟩
 ·obtain⟨v,oc,ho,hd⟩:=I.cell x c (ju x c e);exact⟨v,oc,S_ _ _ ho,hd⟩
 ·unfold YK;show _=N.length;rw[dA,mC,bV,hix,hN]
end
abbrev We (ifs:List Expr) (env:Env):Sem Bool:=forIn ifs true λc r=>if r=true then do let ok <-isTrue c env (eval c env);pure (OJ ok) else pure (OJ r)
theorem Kt {s:aF} (I:Nat->aF->Prop)
  (turn:∀n s,I n s->∀E:aB->aF->Prop,wpAny (model prog w) A (pyNext it) (λr s₁=>match r with
   | none=>R (.ok .next) s₁
   | some v=>wpAny (model prog w) A (letOwnedTupleGo target it v) (λ_ s₁=>wpAny (model prog w) A (assign target env v) (λ_ s₂=>wpAny (model prog w) A (We ifs env) (λok s₂=>if ok=true then wpAny (model prog w) A (eval elt env) (λx s₃ =>
     wpAny (model prog w) A (call (.builtin "list.append") [acc,x]) (λ_ s₄=>∃m,m<n/\I m s₄) E s₃) E s₂ else ∃m,m<n/\I m s₂) E s₂) E s₁) E s₁) E s)
  (n:Nat) (h:I n s):codeAny (model prog w) A (.compLoop (.ListComp elt [⟨target,iter,ifs,0⟩] scope pos) 0 it acc env) R s:=by
 refine codeAny_loop rfl I (λn s hI=>?_) n h;show wpAny _ _ ((compTurn (.ListComp elt [⟨target,iter,ifs,0⟩] scope pos) 0 it acc env).onRaise (λx=>do noteFrame x env;theTreesLotGoes x)) _ _ s;refine wpAny_noted ?_;rw[compTurn_list];refine aA (xY (aA (jC (turn n s hI _) (λr s₁ h₁=>?_) λ_ _ h'=>h')));cases r with
 | none=>exact aJ h₁
 | some v =>
  refine aA (jC h₁ (λ_ s₁' h₁'=>aA (jC h₁' (λ_ s₂ h₂=>aA (jC h₂ (λok s₃ h₃=>?_) λ_ _ h'=>h')) λ_ _ h'=>h')) λ_ _ h'=>h');cases ok with
  | false=>exact aJ ⟨rfl,h₃⟩
  | true=>exact aA (aA (jC h₃ (λx s₄ h₄=>aA (jC h₄ (λ_ s₅ h₅=>aJ (aJ ⟨rfl,h₅⟩)) λ_ _ h'=>h')) λ_ _ h'=>h'))
def Nc (X:Cx) (ifs:List Expr) (t:RT):Prop:=∀(pins:List (Addr × Obj)) (s:aF) (Z:St) (H:Hp) (Q:Bool->Hp->Prop),Inv X pins Z H s->liftT X t Z H Q->wpAny (model X.prog X.w) X.A (We ifs X.env) (TP X pins Z Q) X.xe s
def Qy:RT:=λ_ Q=>Q true
def Bk:Nc X [] Qy:=λpins s Z H Q I ⟨a,P,st,q,k⟩=>wpAny_tests_nil ⟨H,I,k true H q (af.refl H)⟩
def Bl (h:DT X c t):Nc X [c] t:=λpins s Z H Q I q=>wpAny_tests_one (h pins s Z H Q I q)
def Ht (X:Cx) (J:It) (xs:List D) (H0:Hp):Prop:=∀i H,af H0 H->(∀d,xs[i]? = some d->J.go i H/\∀x H',J.yld i H x H'->af H H'/\dk X.K H' d x)/\(xs.length<=i->J.stop i H)
def Yc (X:Cx) (t:RA):TI:=λZ H R=>∃a P,az X a Z H/\t a P/\∀xs J H',P xs->af H H'->Ht X J xs H'->R J H'
def W4 (X:Cx) (tg iter:Expr) (t:RA):Prop:=PI X tg iter (Yc X t)
def qe.s (h:qe X J xs H):Ht X J xs H:=λi H' s=>h i H' (.of s)
def DI.s (h:DI X tg e t):W4 X tg e t:=PI.mono h λ_ _ _ ⟨a,P,st,q,k⟩=>⟨a,P,st,q,λxs J H p s ok=>k xs J H p s ok.s⟩
def yI (g:RG) (te:RE):List D->En->List D->(List D->Prop)->Prop
 | [],_,acc,Q=>Q acc
 | x::xs,a,acc,Q=>g x a λa'=>te a' λd=>yI g te xs a' (acc++[d]) Q
def lS (g:RG) (tt:RT) (te:RE):List D->En->List D->(List D->Prop)->Prop
 | [],_,acc,Q=>Q acc
 | x::xs,a,acc,Q=>g x a λa'=>tt a' λb=>if b=true then te a' λd=>lS g tt te xs a' (acc++[d]) Q else lS g tt te xs a' acc Q
theorem WH:∀{xs:List D} {a:En} {acc:List D} {Q:List D->Prop},lS g Qy te xs a acc Q=yI g te xs a acc Q
 | [],_,_,_=>rfl
 | x::xs,a,acc,Q=>by
  show (g x a λa'=>if true=true then te a' λd=>lS g Qy te xs a' (acc++[d]) Q else lS g Qy te xs a' acc Q)=g x a λa'=>te a' λd=>yI g te xs a' (acc++[d]) Q;congr 1;funext a';rw[if_pos rfl];congr 1;funext d;exact WH
def QZ (a:En) (i:Nat):Option S:=match a[i]? with
 | some (some (.d d))=>some (.d d)
 | _=>none
def BI (a:En) (k:Nat) (ix:List Nat):En:=eY k none++ix.map (QZ a)
def MG {ix:List Nat} (so:az X b Z H) (hK:X'.K=X.K) (hH:X'.H₀=H):az X' (BI b k ix) (YK Z k ix) H:=by
 have own:∀(i:Nat) (x:S),(BI b k ix)[i]? = some (some x)->∃d,x = .d d:=λi x e=>by
  unfold BI at e;by_cases ni:i<k
  ·rw[dH (by simpa using ni),jE,if_pos ni] at e;cases e
  ·rw[dR (by simpa using ni),bK] at e;cases eo:ix[i-(eY k (none:Option S)).length]? with
   | none=>rw[eo] at e;cases e
   | some o =>
    rw[eo] at e;have e:some (QZ b o)=some (some x):=e;have e:=dU e;unfold QZ at e;split at e <;> cases e;exact⟨_,rfl⟩
 refine⟨by simp[BI,YK],by rw[hH];exact af.refl H,λi x e=>?_,λi j x y v u a e1 _ _ _ o _=>by
  obtain⟨d,rfl⟩:=own i x e1;exact o.elim,by rw[hK,hH];exact so.tabs⟩
 unfold BI at e;by_cases ni:i<k
 ·rw[dH (by simpa using ni),jE,if_pos ni] at e;cases e
 ·rw[dR (by simpa using ni),bK,mC] at e;cases eo:ix[i-k]? with
  | none=>rw[eo] at e;cases e
  | some o =>
   rw[eo] at e;have e:some (QZ b o)=some (some x):=e;have e:=dU e;unfold QZ at e;split at e
   ·rename_i d ed;cases e;obtain⟨v,h1,h2⟩:=so.rel o _ ed;refine⟨v,?_,by rw[hK];exact h2⟩;unfold YK;rw[dR (by simpa using ni),bK,mC,eo,oJ,h1];rfl
   ·cases e
section
variable {σ:St}
theorem _root_.L2.Inv.track {s s':aF} {a:Addr} (I:Inv X pins σ H s) (I':Inv X pins σ H' s') (ha:s.heap.objs.size<=a) (hn:H' a=none)
  (e:s'.heap.get? a=some { cls:=.type "list",data:=.seq its.toArray n }) (rv:ao vs its) (hz:vs.length<=sizeLine):Inv X pins σ (bj H' a (.lst vs)) s':=by
 have hL:X.env.locals≠a:=bE (bQ I.lt ha);have gu:∀x c,X.env.cells.lookup x=some c->c≠a:=λx c q z=>by
  obtain⟨v,hv⟩:=I.cell x c q;exact absurd (bQ hv.lt (by rw[z];exact ha)) (hE _)
 have hs0:∀{b:Addr} {o:Obj},X.s₀.heap.get? b=some o->b≠a:=λ{b o} q=>bE (bQ (aP q) (fK I.sz ha));refine⟨I'.ok,I'.os,I'.bare,⟨I'.base.keep,I'.base.slot,λb o q n hx=>?_,I'.base.there,λb ys q=>?_,λb o u q=>?_,λb ps q=>?_⟩,I'.loc,I'.cell,?_,λx c q=>?_,λp hp=>?_,λb u q=>?_,I'.len⟩
 ·rw[cW (hs0 q)];exact I'.base.free b o q n hx
 ·rw[cW (dY (I'.base.tups b ys q) hn)];exact I'.base.tups b ys q
 ·rw[cW (dY (I'.base.frzs b o u q) hn)];exact I'.base.frzs b o u q
 ·obtain⟨m,q2⟩:=I'.base.tbls b ps q;exact⟨m,by rw[cW (dY q2 hn)];exact q2⟩
 ·rw[cW hL];exact I'.free
 ·rw[cW (gu x c q)];exact I'.freeC x c q
 ·obtain⟨q1,q2,q3,q4,q5⟩:=I'.pin p hp;have og:p.1≠a:=bE (bQ (aP (I.pin p hp).1) ha);exact⟨q1,by rw[cW og];exact q2,q3,q4,q5⟩
 ·by_cases hb:b=a
  ·subst hb;rw[fS] at q;cases q;exact⟨hz,its,n,rv,e⟩
  ·rw[cW hb] at q;exact (I'.hok b u q).stay (λc v _ w=>w) (λc w=>by rw[cW (dY w hn)];exact w) λc ys w=>by rw[cW (dY w hn)];exact w
theorem WI (hc:X.calm=true) (Sc:k8 X scope) (ju:∀x c,cl.lookup x=some c->X.env.cells.lookup x=some c) (du:∀y∈scope.names,y.2 = .free->∃c,cl.lookup y.1=some c)
  (hN:N.length=k+ys.length) (qt:N.drop k=ys) (hix:ix.length=ys.length) (hiy:∀(j:Nat) (y:Str) (i:Nat),ys[j]? = some y->ix[j]? = some i->X.N[i]? = some y/\(y,iV)∈scope.names)
  (hkind:∀y∈ys,(relabel scope X.env).names.lookup y=some .cell\/(relabel scope X.env).names.lookup y=some .free)
  (hg:∀C s H fp,DG (pH X scope N cl C s H fp) target g) (y9:∀C s H fp,Nc (pH X scope N cl C s H fp) ifs tt) (he:∀C s H fp,DE (pH X scope N cl C s H fp) elt te)
  (I2:Inv X pins σ H s2) (so:az X l σ H) (T:qj X.prog X.w X.K target J fp it tn) (st:tn 0 s2.heap) (hf:∀b∈fp,UJ X pins H b) (ok:Ht X J xs H) (hz:xs.length<=sizeLine)
  (hP:lS g tt te xs (BI l k ix) [] P) {RR:aB->Addr->Result->aF->Prop} {E:aB->aF->Prop}
  (post:∀(ds:List D) (vs:List V) (its:List aB) (n:Nat) (C:Addr) (s':aF) (H':Hp),P ds->af H H'->H' s2.heap.objs.size=none->ah X.K H' ds vs->ao vs its->vs.length<=sizeLine ->
   s'.heap.get? s2.heap.objs.size=some { cls:=.type "list",data:=.seq its.toArray n }->Inv X pins σ H' s'->(∃m,s'.heap.Ns C m)->s2.heap.objs.size<C->H' C=none->RR (.ref s2.heap.objs.size) C (.ok .next) s') :
  wpAny (model X.prog X.w) X.A (newList []) (λacc s₃=>wpAny (model X.prog X.w) X.A (newFunctionEnv scope X.env.globals cl [] X.env.qual none .none (some X.env)) (λyd s₄ =>
   codeAny (model X.prog X.w) X.A (.compStart (.ListComp elt [⟨target,iter,ifs,0⟩] scope pos) 0 (.ref it) acc { yd with scope:=relabel scope X.env }) (RR acc yd.locals) s₄) E s₃) E s2:=by
 refine fP (EG Sc.nocell (by intro y hy;simp at hy) (λh₁ hns₁ hsb₁=>?_) Sc.kind);dsimp only at hns₁ hsb₁ ⊢;generalize Y6:s2.heap.push { cls:=.type "list",dict:=none,data:=.seq ([]:List aB).toArray } = w6 at hns₁ hsb₁ ⊢;have hCs:w6.objs.size=s2.heap.objs.size+1:=by rw[<-Y6,gA]
 have iI:s2.heap.objs.size<w6.objs.size:=by rw[hCs];exact nK _
 have dw:∀b∈fp,b<s2.heap.objs.size:=λb hb=>by
  obtain⟨o,ho,_⟩:=T.obj 0 _ st b hb;exact aP ho
 have old:∀b o,s2.heap.get? b=some o->h₁.get? b=some o:=λb o e =>
  hsb₁.extBut b o (bE (rX (aP e) iI)) (aK _ (Y6 ▸ aK _ e))
 have Z3:h₁.get? s2.heap.objs.size=some { cls:=.type "list",data:=.seq ([]:List aB).toArray 0 } :=
  hsb₁.extBut _ _ (bE iI) (aK _ (Y6 ▸ bF _ rfl))
 have Z_:H s2.heap.objs.size=none:=I2.hok.fresh (bO _);let X':=pH X scope N cl w6.objs.size s2 H fp;have J0:Inv X' [] (YK σ k ix) H { s2 with heap:=h₁,toks:=s2.toks+([]:List (Str × aB)).length } :=
  Ny I2 Sc ju du (lI iI) hf dw old rfl I2.bare hns₁ hN qt hix hiy hkind
 have S0:az X' (BI l k ix) (YK σ k ix) H:=MG so rfl rfl;have yq:s2.heap.objs.size ∉ X'.fs:=λhb=>by
  have hb:s2.heap.objs.size∈p8 X.stack:=hb;rcases aN.mp (I2.stkSub _ hb) with e | e
  ·exact absurd (show X.env.locals<X.env.locals from Nat.lt_of_lt_of_eq I2.lt e) (hE _)
  ·exact I2.nofs (bO _) e
 have vk:∀{H':Hp} {o:Obj},(∀b∈fp,H' b=none)->∀b∈fp,UJ X' [(s2.heap.objs.size,o)] H' b:=λ{H' o} hn b hb=>by
  obtain⟨f0,f1,f2,f3,f4,f5⟩:=hf b hb;refine⟨hn b hb,bE (rX (dw b hb) iI),λy7=>?_,.inl hb,λx c e=>f4 x c (ju x c e),λp hp=>?_⟩
  ·rcases aN.mp (I2.stkSub b y7) with e | e
   ·exact f1 e
   ·exact f2 e
  ·have:p=(s2.heap.objs.size,o):=(by simpa [X',pH] using hp);subst this;exact dZ (dw b hb)
 have pinD:∀{σ':St} {H':Hp} {s':aF} {its:List aB} {n:Nat},Inv X' [] σ' H' s'->H' s2.heap.objs.size=none->s'.heap.get? s2.heap.objs.size=some { cls:=.type "list",data:=.seq its.toArray n }->Inv X' [(s2.heap.objs.size,{ cls:=.type "list",data:=.seq its.toArray n })] σ' H' s':=λI' hn e =>
  I'.pins_of λp hp=>by
   have:=dM.mp hp;subst this;exact⟨e,hn,bE iI,yq,λv z=>by cases z⟩
 have loop:∀s₃:aF,s₃ = { s2 with heap:=h₁,toks:=s2.toks+([]:List (Str × aB)).length } ->
   codeAny (model X.prog X.w) X.A (.compLoop (.ListComp elt [⟨target,iter,ifs,0⟩] scope pos) 0 (.ref it) (.ref s2.heap.objs.size) (compEnvC scope cl w6.objs.size X.env)) (RR (.ref s2.heap.objs.size) w6.objs.size) s₃:=by
  rintro s₃ rfl;refine Kt (λm s'=>∃(i:Nat) (l':En) (σ':St) (H':Hp) (ds:List D) (vs:List V) (its:List aB) (n:Nat),m=xs.length-i/\i<=xs.length/\Inv X' [] σ' H' s'/\az X' l' σ' H'/\tn i s'.heap/\(∀b∈fp,H' b=none) /\
   H' s2.heap.objs.size=none/\s'.heap.get? s2.heap.objs.size=some { cls:=.type "list",data:=.seq its.toArray n }/\ah X.K H' ds vs/\ao vs its/\vs.length<=i/\lS g tt te (xs.drop i) l' ds P) ?_ xs.length
   ⟨0,BI l k ix,YK σ k ix,H,[],[],[],0,rfl,fV _,J0,S0,T.keep _ _ _ st (λb hb o e=>old b o e),λb hb=>(hf b hb).1,Z_,Z3,.nil,.nil,bO _,by simpa using hP⟩
  rintro m s' ⟨i,l',σ',H',ds,vs,its,n,rfl,hi,I',S',fb,fr',ky,e',rr,rv,hl,hD⟩ E';obtain⟨o1,o2⟩:=ok i H' S'.same;have I1:=pinD I' ky e';by_cases t4:i<xs.length
  ·have e:xs.drop i=xs[i]::xs.drop (i+1):=fH t4;rw[e] at hD;obtain⟨go,yl⟩:=o1 xs[i] (aG t4);refine c5 (T.item X' rfl rfl rfl hc i _ s' σ' H' E' I1 (vk fr') fb go) λr s4 ⟨u,hr,h4⟩=>?_;subst hr;refine c5 h4 λ_ s5 ⟨x,H5,I5,r5,y5,t7,Y4⟩=>?_;obtain⟨s45,rx5⟩:=yl x H5 y5;have W6:=I5.pinned (vk Y4) (T.obj _ _ t7);refine jC (hg _ _ _ _ _ s5 σ' H5 x u (λσ6 H6=>∃l6,tt l6 (λb=>if b=true then te l6 (λd=>lS g tt te (xs.drop (i+1)) l6 (ds++[d]) P) else lS g tt te (xs.drop (i+1)) l6 ds P)/\ak H5 H6/\az X' l6 σ6 H6) W6 r5 ⟨xs[i],l',_,rx5,S'.ext s45,hD,λl6 σ6 H6 q6 k6 s6=>⟨l6,q6,k6,s6⟩⟩) (λ_ s6' ⟨σ6,H6',I6',l6,q6',k6',S6'⟩=>?_) λ_ _ z=>z.elim;refine jC (y9 _ _ _ _ _ s6' σ6 H6' (λb H6=>(if b=true then te l6 (λd=>lS g tt te (xs.drop (i+1)) l6 (ds++[d]) P) else lS g tt te (xs.drop (i+1)) l6 ds P)/\af H6' H6) I6' ⟨l6,_,S6',q6',λb H6 hb s6=>⟨hb,s6⟩⟩) (λokb s6 ⟨H6,I6,q6,s66⟩=>?_) λ_ _ z=>z.elim;have k6:ak H5 H6:=k6'.trans (.of s66);have S6:az X' l6 σ6 H6:=S6'.ext s66;cases okb with
   | false =>
    have q6:lS g tt te (xs.drop (i+1)) l6 ds P:=q6;show ∃m,m<xs.length-i/\_;obtain⟨e7,n7,_,_,_⟩:=I6.pin (s2.heap.objs.size,_) (aV _ (cU _ cF));refine⟨xs.length-(i+1),by lia,i+1,l6,σ6,H6,ds,vs,its,n,rfl,t4,I6.pins_of λp hp=>absurd hp (by simp),S6,?_,λb hb=>?_,n7,e7,rr.keep ((ak.of s45).trans k6),rv,Nat.le_succ_of_le hl,q6⟩
    ·exact T.keep _ _ _ t7 λb hb o q=>(I6.pin (b,o) (aV _ (aV _ (tH hb q)))).1
    ·obtain⟨o,q,_⟩:=T.obj _ _ t7 b hb;exact (I6.pin (b,o) (aV _ (aV _ (tH hb q)))).2.1
   | true =>
   have q6:te l6 (λd=>lS g tt te (xs.drop (i+1)) l6 (ds++[d]) P):=q6;show wpAny _ _ (eval elt _) _ _ s6;refine jC (he _ _ _ _ _ s6 σ6 H6 (λv H7=>∃d,lS g tt te (xs.drop (i+1)) l6 (ds++[d]) P/\af H6 H7/\dk X.K H7 d v) I6 ⟨l6,_,S6,q6,λd v H7 q7 s7 r7=>⟨d,q7,s7,r7⟩⟩) (λu7 s7 ⟨v7,H7,I7,rv7,d,q7,s67,r7⟩=>?_) λ_ _ z=>z.elim;obtain⟨e7,n7,_,_,_⟩:=I7.pin (s2.heap.objs.size,_) (aV _ (cU _ cF));have j3:its.toArray.size+1<=sizeLine:=by
    rw[aY,<-rv.length];lia
   refine zV F.slot_list_append ⟨_,e7,rfl⟩ F.entry_list_append (F.args_list_append_2 _ _) (JE s2.heap.objs.size its.toArray n u7 (by lia)) ⟨e7,?_⟩;have e8:=MC e7 (λa=>a.push u7);have I8:Inv X' [] σ6 H7 s7:=I7.pins_of λp hp=>absurd hp (by simp);have F_:∀b o,b≠s2.heap.objs.size->s7.heap.get? b=some o->(s7.heap.update s2.heap.objs.size (cX λa=>a.push u7)).get? b=some o:=λb o hb q=>(cD s7.heap _ (Ne.symm hb)).trans q;have I9:Inv X' [] σ6 H7 { s7 with heap:=s7.heap.update s2.heap.objs.size (cX λa=>a.push u7) } :=
    I8.turned (t':=s7.toks) F_ n7 (bE iI) (.inr (bO _)) (λx c q z=>by
     obtain⟨v,hv⟩:=I2.cell x c (ju x c q);exact absurd hv.lt (by rw[z];exact hE _)) (λp hp=>absurd (show p∈([]:List (Addr × Obj)) from hp) (by simp))
   have k57:ak H5 H7:=k6.trans (.of s67);have k':ak H' H7:=(ak.of s45).trans k57;refine⟨xs.length-(i+1),by lia,i+1,l6,σ6,H7,ds++[d],vs++[v7],its++[u7],_,rfl,t4,I9,S6.ext s67,?_,λb hb=>?_,n7,by simpa using e8,(rr.keep k').append (.cons r7 .nil),rv.append (.cons rv7 .nil),by rw[dA];exact LZ hl,q7⟩
   ·refine T.keep _ _ _ t7 λb hb o q=>?_;have q7':=(I7.pin (b,o) (aV _ (aV _ (tH hb q)))).1;exact F_ b o (bE (dw b hb)) q7'
   ·obtain⟨o,q,_⟩:=T.obj _ _ t7 b hb;exact (I7.pin (b,o) (aV _ (aV _ (tH hb q)))).2.1
  ·have hie:i=xs.length:=(by lia);subst hie;rw[LQ] at hD;refine c5 (T.done X' rfl rfl rfl hc _ _ s' σ' H' E' I1 (vk fr') fb (o2 (bO _))) λr s4 ⟨hr,I4⟩=>?_;subst hr;obtain⟨e4,n4,_,_,_⟩:=I4.pin (s2.heap.objs.size,_) (aV _ cF);obtain⟨m4,hn4,_⟩:=I4.loc;have I5:Inv X pins σ H' s4:=I2.call' (ch:=fp) I4.os I4.base I4.hok I4.bare λb hb=>by
    obtain⟨f0,f1,f2,f3,f4,f5⟩:=hf b hb;exact⟨f3,f1,f4,f5⟩
   exact post ds vs its n w6.objs.size s4 H' hD S'.same n4 rr rv (fK hl hz) e4 I5 ⟨m4,hn4⟩ iI I4.free
 exact codeAny_compStart_list (loop _ rfl) (T.self X.A 0 _ _ _ (T.keep _ _ _ st λb hb o e=>old b o e) (loop _ rfl))
end
def WG (X:Cx) (scope:Scope) (N:List Str) (k:Nat) (ix:List Nat):Bool :=
 scope.kind == .function && scope.names.all (λy=>y.2 != .cell) && scope.names.all (λy=>y.2 != .local || scope.names.lookup y.1 == some .local) &&
 scope.names.all (λy=>y.2 != .free || X.env.kindOf y.1 == some .cell || X.env.kindOf y.1 == some .free) &&
 N.length == k+ix.length && ((N.drop k).zip ix).all (λp=>X.N[p.2]? == some p.1 && scope.names.contains (p.1,.free)) &&
 (N.drop k).all (λy=>(relabel scope X.env).names.lookup y == some .cell || (relabel scope X.env).names.lookup y == some .free)
structure x5 (X:Cx) (scope:Scope) (N:List Str) (k:Nat) (ix:List Nat):Prop where
 sc:k8 X scope
 hN:N.length=k+(N.drop k).length
 hix:ix.length=(N.drop k).length
 hiy:∀(j:Nat) (y:Str) (i:Nat),(N.drop k)[j]? = some y->ix[j]? = some i->X.N[i]? = some y/\(y,iV)∈scope.names
 hkind:∀y∈N.drop k,(relabel scope X.env).names.lookup y=some .cell\/(relabel scope X.env).names.lookup y=some .free
def Az {ix:List Nat} (h:WG X scope N k ix=true):x5 X scope N k ix:=by
 unfold WG at h;simp only[gS,kA,bne_iff_ne,ne_eq,tV,beq_iff_eq] at h;obtain⟨⟨⟨⟨⟨⟨h1,h2⟩,h3⟩,h4⟩,h5⟩,h6⟩,h7⟩:=h;have hl:(N.drop k).length=ix.length:=by rw[nH];lia
 refine⟨⟨h1,h2,λy hy e=>?_,λy hy e=>?_⟩,by lia,hl.symm,λj y i e1 e2=>?_,h7⟩
 ·rcases h3 y hy with q | q
  ·exact absurd e q
  ·exact q
 ·rcases h4 y hy with (q | q) | q
  ·exact absurd e q
  ·exact .inl q
  ·exact .inr q
 ·have hm:(y,i)∈(N.drop k).zip ix:=by
   refine eW (i:=j) ?_;rw[mH];exact⟨e1,e2⟩
  obtain⟨q1,q2⟩:=h6 _ hm;exact⟨q1,List.contains_iff_mem.mp q2⟩
def pP (ti:RA) (k:Nat) (ix:List Nat) (g:RG) (te:RE):RA:=λa Q=>ti a λxs=>Sz xs.length/\yI g te xs (BI a k ix) [] Q
def DL (ti:RA) (k:Nat) (ix:List Nat) (g:RG) (tt:RT) (te:RE):RA:=λa Q=>ti a λxs=>Sz xs.length/\lS g tt te xs (BI a k ix) [] Q
def XE {ix:List Nat}:DL ti k ix g Qy te=pP ti k ix g te:=by
 funext a Q;unfold DL pP;congr 1;funext xs;rw[WH]
section
variable {X:Cx} {scope:Scope} {elt target iter:Expr} {ifs:List Expr} {pos:Pos} {g:RG} {tt:RT} {te:RE} {ti:RA}
theorem NV {Z:St} {s s':aF} {C:Addr} (I2:Inv X pins Z H s) {Z':St} (I':Inv X pins Z' H' s') (hC:s.heap.objs.size<=C) (hn:H' C=none) (hs:nW C s'.heap h') :
  Inv X pins Z' H' { s' with heap:=h',toks:=t' } :=
 I'.turned (λb o hb e=>(hs.2 b hb).trans e) hn (dZ (bQ I2.lt hC)) (.inr (fK I2.sz hC)) (λx c e z=>by
  obtain⟨v,hv⟩:=I2.cell x c e;exact absurd (bQ hv.lt (by rw[z];exact hC)) (hE _)) λp hp z=>absurd (bQ (aP (I2.pin p hp).1) (by rw[z];exact hC)) (hE _)
theorem Oo (N:List Str) (k:Nat) (ix:List Nat) (hi:DI X target iter ti) (hg:∀cl C s H fp,DG (pH X scope N cl C s H fp) target g) (y9:∀cl C s H fp,Nc (pH X scope N cl C s H fp) ifs tt) (he:∀cl C s H fp,DE (pH X scope N cl C s H fp) elt te)
  (hc:X.calm=true:=by rfl) (hB:WG X scope N k ix=true:=by rfl) (hs:∀x,foldedSetIterable iter X.env x=pure x:=by intro _;rfl):DO X (.ListComp elt [⟨target,iter,ifs,0⟩] scope pos) (DL ti k ix g tt te):=by
 intro pins s Z H Q I cf;obtain⟨a,P,so,q,kk⟩:=cf;have F:=Az hB;obtain⟨cl,qr,ju,du⟩:=HL (scope:=scope) (env:=X.env) λy hy hf=>I.ok.has _ (F.sc.frees y hy hf);rw[eval_ListComp];refine xW (use:=none) rfl hs qr F.sc.kind F.sc.locs (c5 (hi pins s Z H (λJ H'=>∃xs,af H H'/\qe X J xs H'/\xs.length<=sizeLine/\lS g tt te xs (BI a k ix) [] P) I ⟨a,_,so,q,λxs J H' hx s1 ok=>⟨xs,s1,ok,hx.1.ok,hx.2⟩⟩) λv s1 h1=>c5 h1 λV0 s2 h2=>?_);obtain⟨it,fp,tn,J,H',rfl,I2,T,st,hf,xs,m_,ok,hz,hD⟩:=h2;refine WI (RR:=λacc C=>compPost (model X.prog X.w) X.A X.xe none (EP X pins Z Q) acc C) hc F.sc ju du F.hN rfl F.hix F.hiy F.hkind (hg cl) (y9 cl) (he cl) I2 (so.ext m_) T st hf ok.s hz hD ?_;intro ds vs its n C s' H2 hP wt hn rr rv hl e I' ⟨m,hns⟩ iI hnC;refine⟨m,hns,λh' wd=>?_⟩;have I3:Inv X pins Z H2 { s' with heap:=h' }:=NV (t':=s'.toks) I2 I' (lI iI) hnC wd;have e3:h'.get? s2.heap.objs.size=some { cls:=.type "list",data:=.seq its.toArray n }:=(wd.2 _ (bE iI)).trans e;exact⟨.ref s2.heap.objs.size,_,I2.track I3 (bO _) hn e3 rv hl,rfl,kk ds _ vs H2 hP (m_.trans wt) hn rr⟩
theorem RQ {i:Nat} {y:Str} {pos' fk:Pos} (N:List Str) (k:Nat) (ix:List Nat) (hN:X.N.Nodup) (hi:W4 X target iter ti) (hg:∀cl C s H fp,DG (pH X scope N cl C s H fp) target g) (y9:∀cl C s H fp,Nc (pH X scope N cl C s H fp) ifs tt) (he:∀cl C s H fp,DE (pH X scope N cl C s H fp) elt te)
  (hy:X.N[i]? = some y:=by rfl) (hx:X.env.scope.names.lookup y=some .local:=by rfl) (hc:X.calm=true:=by rfl) (hB:WG X scope N k ix=true:=by rfl) (hs:∀x,foldedSetIterable iter X.env x=pure x:=by intro _;rfl)
  (qw:swapsWith (.ListComp elt [⟨target,iter,ifs,0⟩] scope pos) (some (.Name y pos')) fk.line X.env=pure true:=by rfl) :
  DS X (.Assign [.Name y pos'] (.ListComp elt [⟨target,iter,ifs,0⟩] scope pos) fk) (nS i (DL ti k ix g tt te)):=by
 intro pins s Z H De I cf;obtain⟨d,E,so,q,nn,rt,bk,ct⟩:=cf;have F:=Az hB;obtain⟨cl,qr,ju,du⟩:=HL (scope:=scope) (env:=X.env) λy hy hf=>I.ok.has _ (F.sc.frees y hy hf);rw[exec_Assign_Name_used _ _ _ _ qw];refine aA (xY (aA ?_));show wpAny _ X.A (do let _ <-comprehension (.ListComp elt [⟨target,iter,ifs,0⟩] scope pos) scope X.env _ (newList []) false (eval iter X.env) (some (assign (.Name y pos') X.env))) _ _ s;refine aA (jC (xW (use:=some (assign (.Name y pos') X.env)) (Q:=λ_ s'=>SP X pins De .next s') rfl hs qr F.sc.kind F.sc.locs
  (c5 (hi pins s Z H (λJ H'=>∃xs,af H H'/\Ht X J xs H'/\xs.length<=sizeLine/\lS g tt te xs (BI d k ix) [] (λds=>E.nx (d.set i (some (.own ds))))) I ⟨d,_,so,q,λxs J H' hx s1 ok=>⟨xs,s1,ok,hx.1.ok,hx.2⟩⟩) λv s1 h1=>c5 h1 λV0 s2 h2=>?_)) (λ_ s' hq=>aJ (aJ hq)) λ_ _ e=>e)
 obtain⟨it,fp,tn,J,H',rfl,I2,T,st,hf,xs,m_,ok,hz,hD⟩:=h2;refine WI (RR:=λacc C=>compPost (model X.prog X.w) X.A X.xe (some (assign (.Name y pos') X.env)) (λ_ s'=>SP X pins De .next s') acc C) hc F.sc ju du F.hN rfl F.hix F.hiy F.hkind (hg cl) (y9 cl) (he cl) I2 (so.ext m_) T st hf ok hz hD ?_;intro ds vs its n C s' H2 hP wt hn rr rv hl e I' ⟨m,hns⟩ iI hnC;have I3:=I2.track I' (bO _) hn e rv hl;have hneC:s2.heap.objs.size≠C:=bE iI;have so3:az X (d.set i (some (.own ds))) (Z.set i (some (.ref s2.heap.objs.size))) (bj H2 s2.heap.objs.size (.lst vs)):=(so.ext (m_.trans wt)).set_own hn rr;have k3:ak H (bj H2 s2.heap.objs.size (.lst vs)):=(ak.of (m_.trans wt)).trans (.ofF λb o h=>by rw[cW (dY h hn)];exact h);show wpAny (model X.prog X.w) X.A (assign (.Name y pos') X.env (.ref s2.heap.objs.size)) _ _ s';refine LJ (XQ I3 hN hy (.inl hx) (v:=.ref s2.heap.objs.size) rfl (λs4 I4 ⟨a,sb,ha⟩=>?_) (.inr hx));have hCa:C≠a:=by
  rcases ha with rfl | ha
  ·exact dZ (rX I2.lt iI)
  ·obtain⟨v,hv⟩:=I2.cell _ a ha;exact dZ (rX hv.lt iI)
 refine⟨m,hns.sameBut sb hCa,λh' wd=>⟨_,_,NV (t':=s4.toks) I2 I4 (lI iI) (by rw[cW (Ne.symm hneC)];exact hnC) wd,nn _ _ _ hP k3 so3⟩⟩
theorem JR (N:List Str) (k:Nat) (ix:List Nat) (hi:DI X target iter ti) (hg:∀cl C s H fp,DG (pH X scope N cl C s H fp) target g) (he:∀cl C s H fp,DE (pH X scope N cl C s H fp) elt te)
  (hc:X.calm=true:=by rfl) (hB:WG X scope N k ix=true:=by rfl) (hs:∀x,foldedSetIterable iter X.env x=pure x:=by intro _;rfl):DO X (.ListComp elt [⟨target,iter,[],0⟩] scope pos) (pP ti k ix g te):=by
 rw[<-XE];exact Oo N k ix hi hg (λ_ _ _ _ _=>Bk) he hc hB hs
theorem ER {i:Nat} {y:Str} {pos' fk:Pos} (N:List Str) (k:Nat) (ix:List Nat) (hN:X.N.Nodup) (hi:DI X target iter ti) (hg:∀cl C s H fp,DG (pH X scope N cl C s H fp) target g) (he:∀cl C s H fp,DE (pH X scope N cl C s H fp) elt te)
  (hy:X.N[i]? = some y:=by rfl) (hx:X.env.scope.names.lookup y=some .local:=by rfl) (hc:X.calm=true:=by rfl) (hB:WG X scope N k ix=true:=by rfl) (hs:∀x,foldedSetIterable iter X.env x=pure x:=by intro _;rfl)
  (qw:swapsWith (.ListComp elt [⟨target,iter,[],0⟩] scope pos) (some (.Name y pos')) fk.line X.env=pure true:=by rfl) :
  DS X (.Assign [.Name y pos'] (.ListComp elt [⟨target,iter,[],0⟩] scope pos) fk) (nS i (pP ti k ix g te)):=by
 rw[<-XE];exact RQ N k ix hN hi.s hg (λ_ _ _ _ _=>Bk) he hy hx hc hB hs qw
def V5 (i:Nat):RA:=λa Q=>match a[i]? with
 | some (some (.own ds))=>Q ds
 | _=>False
theorem Sq {x:Str} {p:Pos} (i:Nat) (hN:X.N[i]? = some x:=by rfl) (hv:nI X.env.scope x:=by walk_at "vis") (hd:(x == ("__debug__":Str))=false:=by decide)
  (fj:(x == ("__classdict__":Str))=false:=by decide):W4 X target (.Name x p) (V5 i) :=
 PI.mono (Jl (pv i hN hv hd fj)) λZ H R ⟨b,P,so,q,k⟩=>by
  unfold V5 at q;split at q
  ·rename_i ds ex;obtain⟨v,h1,a,vs,rfl,ha,h0,rr⟩:=so.rel i _ ex;refine⟨_,h1,a,rfl,⟨vs,.inl (.inl ha)⟩,k ds _ H q (af.refl H) λj H2 sm=>?_⟩;have sq:ij X.K H2 a vs:=.inl (.inl (sm.get a _ ha trivial));refine⟨λd e=>?_,λhl=>⟨vs,sq,by rw[<-rr.length];exact hl⟩⟩;obtain⟨w,w1,w2⟩:=(rr.keep (ak.of sm)).get e;refine⟨⟨vs,w,sq,w1⟩,λx H' ⟨e1,e2⟩=>?_⟩;subst e1;have e3:=e2 vs sq;rw[w1] at e3;cases e3;exact⟨af.refl _,w2⟩
  ·exact q.elim
end
section
variable {X:Cx} {e a b:Expr} {pos apos b_ cp:Pos} {te:RE} {x:Str}
def yR (i:Nat) (te:RE):RS:=λE c=>match c[i]? with
 | some (some (.own xs))=>te c λd=>Sz (xs.length+1)/\E.nx (c.set i (some (.own (xs++[d]))))
 | _=>False
theorem tE (i:Nat) (he:DE X e te) (hN:X.N[i]? = some x:=by rfl) (hv:nI X.env.scope x:=by walk_at "vis") (hd:(x == ("__debug__":Str))=false:=by decide) (fj:(x == ("__classdict__":Str))=false:=by decide)
  (f_:attributeBase (.Name x cp) "append" X.env (eval (.Name x cp) X.env)=eval (.Name x cp) X.env:=by rfl)
  (md:((backTo b_ (starEach [e] X.env)).all (λx=>!x.1) && (backToKw b_ (keywordEach [] X.env)).all (λx=>x.1.isSome) && decide (([e]:List Expr).length+([]:List oY).length+(if ([]:List oY).isEmpty then 0 else 1)<30))=true:=by rfl)
  (gf:(apos.endLine == b_.line)=true:=by rfl) (hs:starEach [e] X.env=[(false,eval e X.env)]:=by rfl) (hn:starEach [] X.env=[]:=by rfl) (qw:swapsWith (.Call (.Attribute (.Name x cp) "append" apos) [e] [] b_) none pos.line X.env=pure false:=by rfl) :
  DS X (.Expr (.Call (.Attribute (.Name x cp) "append" apos) [e] [] b_) pos) (yR i te):=by
 refine PS.mono (PV (Jk kQ xK xL WV (pv i hN hv hd fj) (sI he hs hn) f_ md gf (by rw[hs,hn]) (by rw[hn];rfl)) qw) λDe Z H hh=>qI hh λc E so q n r bk ct=>?_;unfold yR at q;split at q
 ·rename_i xs ex;obtain⟨v,h1,p,vs,ev,hp,h0,rr⟩:=so.rel i _ ex;subst ev;refine⟨.ref p,h1,.inl ⟨rfl,vs,ij.of hp⟩,c,_,so,q,λd v H1 hd s1 rd=>?_⟩;have og:=s1.get _ _ hp trivial;obtain⟨jv,k2⟩:=(so.ext s1).upd_own ex h1 og h0 ((rr.keep (.of s1)).append (.cons rd .nil));have j3:xs.length+1<=sizeLine:=hd.1.ok;exact⟨p,vs,v,rfl,rfl,og,by rw[<-rr.length];lia,n _ _ _ hd.2 ((ak.of s1).trans k2) jv⟩
 ·exact q.elim
def Jr (i:Nat):RS:=λE c=>match c[i]? with
 | some (some (.own xs))=>xs≠[]/\E.nx (c.set i (some (.own xs.dropLast)))
 | _=>False
theorem Xf (i:Nat) (hN:X.N[i]? = some x:=by rfl) (hv:nI X.env.scope x:=by walk_at "vis") (hd:(x == ("__debug__":Str))=false:=by decide) (fj:(x == ("__classdict__":Str))=false:=by decide)
  (f_:attributeBase (.Name x cp) "pop" X.env (eval (.Name x cp) X.env)=eval (.Name x cp) X.env:=by rfl)
  (gf:(apos.endLine == b_.line)=true:=by rfl) (qw:swapsWith (.Call (.Attribute (.Name x cp) "pop" apos) [] [] b_) none pos.line X.env=pure false:=by rfl) :
  DS X (.Expr (.Call (.Attribute (.Name x cp) "pop" apos) [] [] b_) pos) (Jr i):=by
 refine PS.mono (PV (Yo kQ PySem.F.slot_list_pop PySem.F.type_list_pop Yf (pv i hN hv hd fj) f_ gf) qw) λDe Z H hh=>qI hh λc E so q n r bk ct=>?_;unfold Jr at q;split at q
 ·rename_i xs ex;obtain⟨v,h1,p,vs,ev,hp,h0,rr⟩:=so.rel i _ ex;subst ev;have hl:=rr.length;have fx:0<xs.length:=lD.mpr q.1;have hg:vs[vs.length-1]? = some (vs[vs.length-1]'(by lia)):=aG _;obtain⟨jv,k2⟩:=so.upd_own ex h1 hp h0 rr.dropLast;exact⟨.ref p,h1,.inl ⟨rfl,vs,ij.of hp⟩,p,vs,_,rfl,rfl,hp,hg,n _ _ _ q.2 k2 jv⟩
 ·exact q.elim
def TK (i:Nat) (te tk:RE):RS:=λE c=>match c[i]? with
 | some (some (.own xs))=>te c λd=>tk c λkd=>match kd with
  | .int k=>match m9 xs.length k with
   | some j=>E.nx (c.set i (some (.own (xs.set j d))))
   | none=>False
  | _=>False
 | _=>False
theorem Os {k:Expr} {tk:RE} {fk:Pos} (i:Nat) (he:DE X e te) (hk:DE X k tk) (hN:X.N[i]? = some x:=by rfl) (hv:nI X.env.scope x:=by walk_at "vis") (hd:(x == ("__debug__":Str))=false:=by decide) (fj:(x == ("__classdict__":Str))=false:=by decide)
  (ha:∀v,assign (.Subscript (.Name x cp) k fk) X.env v=(do
   let ov <-holding [v] (eval (.Name x cp) X.env);let iv <-holding [v,ov] (eval k X.env)
   standAt fk
   holding [v,ov,iv] (setItem ov iv v)
   release [v,ov,iv] []):=by intro _;rfl)
  (hs:swapsWithSole [.Subscript (.Name x cp) k fk] e pos.line X.env=pure false:=by rfl) (hw:swappedStores [.Subscript (.Name x cp) k fk] e X.env=pure none:=by rfl)
  (h1:(assignEach [.Subscript (.Name x cp) k fk] X.env).map (·.2)=[assign (.Subscript (.Name x cp) k fk) X.env]:=by rfl) :
  DS X (.Assign [.Subscript (.Name x cp) k fk] e pos) (TK i te tk):=by
 refine PS.mono (Qm he (Yv (pv i hN hv hd fj) hk Ri ha) hs hw h1) λDe Z H hh=>qI hh λc E so q n r bk ct=>?_;unfold TK at q;split at q
 ·rename_i xs ex;obtain⟨w',h1,p,vs,ev,hp,h0,rr⟩:=so.rel i _ ex;subst ev;refine⟨c,_,so,q,λd v H1 q1 s1 rd=>⟨.ref p,h1,c,_,so.ext s1,q1,λkd u H2 q2 s2 rk=>?_⟩⟩;cases kd with
  | int k =>
   dsimp only at q2;split at q2
   ·rename_i j hj;have hp2:=(s1.trans s2).get _ _ hp trivial;obtain⟨jv,k2⟩:=((so.ext s1).ext s2).upd_own ex h1 hp2 h0 ((rr.keep (.of (s1.trans s2))).set (rd.keep (.of s2)) j);exact⟨p,vs,k,j,rfl,rk.int_inv,hp2,by rw[<-rr.length];exact hj,n _ _ _ q2 ((ak.of (s1.trans s2)).trans k2) jv⟩
   ·exact q2.elim
  | _=>exact q2.elim
 ·exact q.elim
end
section
variable {X:Cx} {e a b:Expr} {pos p:Pos}
theorem Ts:jw X (binaryOp .Add) (λx y H Q=>∃l b xs zs,x = .ref l/\y = .ref b/\ij X.K H l xs/\ij X.K H b zs/\xs.length+zs.length<=sizeLine/\∀p,H p=none->Q (.ref p) (bj H p (.lst (xs++zs)))):=by
 intro pins s Z H x y v u Q I rx ry h;obtain⟨l,b,xs,zs,rfl,rfl,hH,hB,hz,q⟩:=h;cases rx;cases ry;obtain⟨its,r,⟨o,n,e,hc,hd,hs⟩,hl⟩:=I.list hH;obtain⟨gg,r2,⟨o2,n2,e2,uo,hd2,we⟩,U1⟩:=I.list hB;obtain⟨c,d,dt,sl⟩:=o;obtain⟨c2,d2,dt2,u6⟩:=o2;dsimp only at hc hs hd uo we hd2;subst hc hs hd uo we hd2;have hl1:=r.length;have U1:=r2.length;refine JL (T:="list") (id:="list.__add__") ⟨_,e,rfl⟩ ⟨_,e2,rfl⟩ (by kernel_rfl) (by kernel_rfl) PySem.F.slot_list_add PySem.F.entry_list_add (PySem.F.args_list_add_2 _ _)
  (list_addW l b its.toArray gg.toArray n n2 none none sl u6 (by rw[aY,aY];lia)) ⟨e,e2,?_⟩
 have ea:its.toArray++gg.toArray=(its++gg).toArray:=by simp
 rw[ea];exact⟨.ref _,_,I.lnew (t':=s.toks) (r.append r2) (by rw[dA];lia),rfl,q _ I.fresh⟩
def W5 (X:Cx) (Q:VK):VK:=λv H'=>Q v H'\/∃p vs H1,v = .ref p/\H'=bj H1 p (.lst vs)/\H1 p=none/\∀H2,af H1 H2->qd X.K H2 p vs->Q v H2
theorem Vx {s:aF} (h:EP X pins Z (W5 X Q) u s):EP X pins Z Q u s:=by
 obtain⟨v,H',I,rv,q | ⟨p,vs,H1,rfl,rfl,hn,q⟩⟩:=h
 ·exact⟨v,H',I,rv,q⟩
 ·obtain⟨o,I2⟩:=Inv.freeze I (a:=p) (xs:=vs) fS;exact⟨.ref p,_,I2,rv,q _ (.fn λb u e=>by rw[cW (dY e hn),cW (dY e hn)];exact e) (.inl ⟨o,fS⟩)⟩
theorem PE.frz (h:PE X e t):PE X e (λZ H Q=>t Z H (W5 X Q)):=λpins s Z H Q I q=>c5 (h pins s Z H _ I q) λ_ _=>Vx
theorem jw.frz (h:jw X f r):jw X f (λx y H Q=>r x y H (W5 X Q)):=λpins s Z H x y v u Q I rx ry q=>c5 (h pins s Z H x y v u _ I rx ry q) λ_ _=>Vx
def CL:R22:=λx y Q=>match x,y with
 | .int i,.int j=>Q (.int (i+j))
 | .lst xs,.lst ys=>Sz (xs.length+ys.length)/\Q (.lst (xs++ys))
 | .tup xs,.tup ys=>xs≠[]/\Sz (xs.length+ys.length)/\Q (.tup (xs++ys))
 | _,_=>False
theorem upd_new {p:Addr} (hp:H p=none):af H (bj H p o):=af.fn λb u e=>by rw[cW (dY e hp)];exact e
theorem KK:jr X (binaryOp .Add) CL:=by
 intro pins s Z H x y v u Q I rx ry cf;obtain⟨d,e,P,r1,r2,q,k⟩:=cf;unfold CL at q;split at q
 ·exact iB pins s Z H x y v u Q I rx ry ⟨_,_,P,r1,r2,q,k⟩
 ·rename_i xs ys;obtain⟨a,vs,rfl,ha,ra⟩:=r1.lst;obtain⟨b,ws,rfl,hb,rb⟩:=r2.lst;have j3:xs.length+ys.length<=sizeLine:=q.1.ok;refine jw.frz Ts pins s Z H _ _ v u Q I rx ry ⟨a,b,vs,ws,rfl,rfl,ha,hb,by rw[<-ra.length,<-rb.length];exact j3,λp hp=>.inr ⟨p,_,H,rfl,rfl,hp,λH2 s2 fz=>k _ _ H2 q.2 s2 (.lst fz ((ra.append rb).keep (.of s2)))⟩⟩
 ·rename_i xs ys;obtain⟨a,vs,rfl,ha,ra⟩:=r1.tup;obtain⟨b,ws,rfl,hb,rb⟩:=r2.tup;have j3:xs.length+ys.length<=sizeLine:=q.2.1.ok;have hl:=ra.length;refine Tt pins s Z H _ _ v u Q I rx ry ⟨a,b,vs,ws,rfl,rfl,fh.of ha,fh.of hb,λz=>q.1 (yB.mp (by rw[hl,z];rfl)),by rw[<-ra.length,<-rb.length];exact j3,λz=>?_,λz p hp=>?_⟩
  ·subst z;cases rb;have:=k _ (.ref a) H q.2.2 (af.refl H);rw[eJ] at this;exact this (.tup ha ra)
  ·exact k _ _ _ q.2.2 (upd_new hp) (.tup fS ((ra.append rb).keep (.of (upd_new hp))))
 ·exact q.elim
def ZY (te:RE) (tl th:RO):RE:=λc Q=>te c λx=>tl c λl=>th c λu=>match x with
 | .lst ds=>Q (.lst (cutD ds l u))
 | .tup ds=>¬(HT.sIx ds.length 0 l=0/\HT.sIx ds.length ds.length u=ds.length)/\Q (.tup (cutD ds l u))
 | _=>False
theorem Bd {K:aH} {H:Hp} {ds:List D} {vs:List V} (l u:Option Int) (rr:ah K H ds vs):ah K H (cutD ds l u) (US vs l u):=by
 unfold cutD US;rw[<-rr.length];exact (rr.drop _).take _
theorem CN {lo hi:Option Expr} (he:DB X e te) (hl:DP X lo tl) (hu:DP X hi th):DE X (.Subscript e (.Slice lo hi none p2) pos) (ZY te tl th):=by
 refine PE.mono (PE.frz (Cw (Ka.or Zn) he hl hu)) λZ H Q hh=>kF hh λc P st q k=>?_;refine⟨c,_,st,q,λd v H1 hd s1 r1=>⟨c,_,st.ext s1,hd,λl H2 h2 s2=>⟨c,_,(st.ext s1).ext s2,h2,λu H3 h3 s3=>?_⟩⟩⟩;have s03:=(s1.trans s2).trans s3;cases d with
 | lst ds =>
  obtain⟨p,vs,rfl,hq,rr⟩:=(r1.same (s2.trans s3)).lst;exact .inl ⟨p,vs,rfl,hq,λp' k5=>.inr ⟨p',_,H3,rfl,rfl,k5,λH4 s4 fz=>k _ _ H4 h3 (s03.trans s4) (.lst fz ((Bd l u rr).keep (.of s4)))⟩⟩
 | tup ds =>
  obtain⟨p,vs,rfl,hq,rr⟩:=(r1.same (s2.trans s3)).tup;refine .inr ⟨p,vs,rfl,fh.of hq,by rw[<-rr.length];exact h3.1,λp' k5=>.inl ?_⟩;exact k _ _ _ h3.2 (s03.trans (upd_new k5)) (.tup fS ((Bd l u rr).keep (.of (upd_new k5))))
 | _=>exact h3.elim
def JP:D->(D->Prop)->Prop:=λd Q=>match d with
 | .lst ds=>Q (.lst ds)
 | .tup ds=>Q (.lst ds)
 | _=>False
theorem boot_list:bootBuiltins "list" = some (.type "list"):=by decide +kernel
theorem boot_tuple:bootBuiltins "tuple" = some (.type "tuple"):=by decide +kernel
theorem WN (hm:X.mg "list" = none) (h:DB X e te) (hg:Gl X "list":=by rfl) (hs:starEach [e] X.env=[(false,eval e X.env)]:=by rfl) (hn:starEach [] X.env=[]:=by rfl):DE X (.Call (.Name "list" p) [e] [] pos) (r1 JP te):=by
 refine PE.mono (PE.frz (NC YJ hg hm boot_list (sI h hs hn) (by decide) (by decide) (by rw[hs,hn]) (by rw[hn];rfl))) λZ H Q hh=>kF hh λc P st q k=>⟨c,_,st,q,λd v H1 hd s1 r=>?_⟩;unfold JP at hd;split at hd
 ·obtain⟨p,vs,rfl,hq,rr⟩:=r.lst;exact⟨p,vs,rfl,.inl hq,λp' k5=>.inr ⟨p',_,H1,rfl,rfl,k5,λH4 s4 fz=>k _ _ H4 hd (s1.trans s4) (.lst fz (rr.keep (.of s4)))⟩⟩
 ·obtain⟨p,vs,rfl,hq,rr⟩:=r.tup;exact⟨p,vs,rfl,.inr (fh.of hq),λp' k5=>.inr ⟨p',_,H1,rfl,rfl,k5,λH4 s4 fz=>k _ _ H4 hd (s1.trans s4) (.lst fz (rr.keep (.of s4)))⟩⟩
 ·exact hd.elim
def RK:D->(D->Prop)->Prop:=λd Q=>match d with
 | .lst ds=>Q (.tup ds)
 | .tup ds=>Q (.tup ds)
 | _=>False
theorem Bi (hm:X.mg "tuple" = none) (h:DB X e te) (hg:Gl X "tuple":=by rfl) (hs:starEach [e] X.env=[(false,eval e X.env)]:=by rfl) (hn:starEach [] X.env=[]:=by rfl):DE X (.Call (.Name "tuple" p) [e] [] pos) (r1 RK te):=by
 refine PE.mono (NC UQ hg hm boot_tuple (sI h hs hn) (by decide) (by decide) (by rw[hs,hn]) (by rw[hn];rfl)) λZ H Q hh=>kF hh λc P st q k=>⟨c,_,st,q,λd v H1 hd s1 r=>?_⟩;unfold RK at hd;split at hd
 ·obtain⟨p,vs,rfl,hq,rr⟩:=r.lst;exact⟨p,vs,rfl,.inl ⟨hq,λp' k5=>k _ _ _ hd (s1.trans (upd_new k5)) (.tup fS (rr.keep (.of (upd_new k5))))⟩⟩
 ·obtain⟨p,vs,rfl,hq,rr⟩:=r.tup;exact⟨p,vs,rfl,.inr ⟨fh.of hq,k _ _ H1 hd s1 (.tup hq rr)⟩⟩
 ·exact hd.elim
theorem wW:∀{ns:List Int} {its:List aB},ao (ns.map V.int) its->∃xs:List (Int × Tok),its.toArray=intItems xs.toArray/\xs.map Prod.fst=ns
 | [],_,.nil=>⟨[],by simp[intItems],rfl⟩
 | n::ns,_,.cons ⟨t,rfl⟩ r=>by
  obtain⟨xs,h1,h2⟩:=wW r;refine⟨(n,t)::xs,?_,by simp[h2]⟩;have h3:=congrArg IF h1;simp[intItems] at h3 ⊢;exact h3
theorem vA {ys:List (Int × Tok)} {ns:List Int} (h:ys.map Prod.fst=ns) {i:Nat} (hi:i<ns.length):numAt ys.toArray i=ns[i]:=by
 subst h;have i_:i<ys.length:=by simpa using hi
 simp[numAt,i_]
theorem Ko (hc:X.calm=true):wM X (.builtin "max") (λxs H Q=>∃(p:Addr) (ns:List Int),xs=[.ref p]/\ij X.K H p (ns.map V.int)/\ns≠[]/\∀M,M∈ns->(∀a∈ns,a<=M)->Q (.int M) H):=by
 intro pins s Z H xs us Q I r h;obtain⟨p,ns,rfl,hq,fx,q⟩:=h;obtain⟨u,rfl,rx⟩:=vals1 r;cases rx;obtain⟨its,r',pl,hz⟩:=I.list hq;obtain⟨ys,h1,h2⟩:=wW r';rw[h1] at pl;have hl:ys.length=ns.length:=by rw[<-h2];simp
 have hp:0<ns.length:=lD.mpr fx;refine max_intList (I.ok.hd hc) pl.isList (by simpa [hl] using hp) λv h' tk hv hk=>?_;obtain⟨t,rfl⟩:=CT hv;obtain⟨g1,g2⟩:=argBest_gt (numAt ys.toArray) (ys.toArray.size-1);have g3:argBest (λi j=>decide (numAt ys.toArray i > numAt ys.toArray j)) (ys.toArray.size-1)<ns.length:=by rw[<-hl];simp at g1 ⊢;lia
 refine⟨.int _,H,I.kept hk,⟨t,rfl⟩,q _ ?_ λa ha=>?_⟩
 ·rw[vA h2 g3];exact nG g3
 ·obtain⟨j,hj,rfl⟩:=eT ha;rw[<-vA h2 hj];exact g2 j (by simp[hl];lia)
theorem Kr (hc:X.calm=true):wM X (.builtin "min") (λxs H Q=>∃(p:Addr) (ns:List Int),xs=[.ref p]/\ij X.K H p (ns.map V.int)/\ns≠[]/\∀M,M∈ns->(∀a∈ns,M<=a)->Q (.int M) H):=by
 intro pins s Z H xs us Q I r h;obtain⟨p,ns,rfl,hq,fx,q⟩:=h;obtain⟨u,rfl,rx⟩:=vals1 r;cases rx;obtain⟨its,r',pl,hz⟩:=I.list hq;obtain⟨ys,h1,h2⟩:=wW r';rw[h1] at pl;have hl:ys.length=ns.length:=by rw[<-h2];simp
 have hp:0<ns.length:=lD.mpr fx;refine min_intList (I.ok.hd hc) pl.isList (by simpa [hl] using hp) λv h' tk hv hk=>?_;obtain⟨t,rfl⟩:=CT hv;obtain⟨g1,g2⟩:=argBest_lt (numAt ys.toArray) (ys.toArray.size-1);have g3:argBest (λi j=>decide (numAt ys.toArray i<numAt ys.toArray j)) (ys.toArray.size-1)<ns.length:=by rw[<-hl];simp at g1 ⊢;lia
 refine⟨.int _,H,I.kept hk,⟨t,rfl⟩,q _ ?_ λa ha=>?_⟩
 ·rw[vA h2 g3];exact nG g3
 ·obtain⟨j,hj,rfl⟩:=eT ha;rw[<-vA h2 hj];exact g2 j (by simp[hl];lia)
def L3:D->(D->Prop)->Prop:=λd Q=>match d with
 | .lst ds=>∃ns:List Int,ds=ns.map D.int/\Q (.int ns.sum)
 | _=>False
def JQ:D->(D->Prop)->Prop:=λd Q=>match d with
 | .lst ds=>∃ns:List Int,ds=ns.map D.int/\ns≠[]/\∀M,M∈ns->(∀a∈ns,a<=M)->Q (.int M)
 | _=>False
def WM:D->(D->Prop)->Prop:=λd Q=>match d with
 | .lst ds=>∃ns:List Int,ds=ns.map D.int/\ns≠[]/\∀M,M∈ns->(∀a∈ns,M<=a)->Q (.int M)
 | _=>False
theorem boot_max:bootBuiltins "max" = some (.builtin "max"):=by decide +kernel
theorem boot_min:bootBuiltins "min" = some (.builtin "min"):=by decide +kernel
theorem YO (hm:X.mg "max" = none) (hc:X.calm=true) (h:DB X e te) (hg:Gl X "max":=by rfl) (hs:starEach [e] X.env=[(false,eval e X.env)]:=by rfl) (hn:starEach [] X.env=[]:=by rfl):DE X (.Call (.Name "max" p) [e] [] pos) (r1 JQ te):=by
 refine PE.mono (yP (Ko hc) hg hm boot_max (sI h hs hn) (by decide) (by decide) (by rw[hs,hn]) (by rw[hn];rfl)) λZ H Q hh=>kF hh λc P st q k=>⟨c,_,st,q,λd v H1 hd s1 r=>?_⟩;unfold JQ at hd;split at hd
 ·obtain⟨ns,rfl,fx,hd⟩:=hd;obtain⟨p,vs,rfl,hq,rr⟩:=r.lst;rw[rr.ints_inv] at hq;exact⟨p,ns,rfl,hq,fx,λM m1 m2=>k _ _ H1 (hd M m1 m2) s1 (.int _)⟩
 ·exact hd.elim
theorem YQ (hm:X.mg "min" = none) (hc:X.calm=true) (h:DB X e te) (hg:Gl X "min":=by rfl) (hs:starEach [e] X.env=[(false,eval e X.env)]:=by rfl) (hn:starEach [] X.env=[]:=by rfl):DE X (.Call (.Name "min" p) [e] [] pos) (r1 WM te):=by
 refine PE.mono (yP (Kr hc) hg hm boot_min (sI h hs hn) (by decide) (by decide) (by rw[hs,hn]) (by rw[hn];rfl)) λZ H Q hh=>kF hh λc P st q k=>⟨c,_,st,q,λd v H1 hd s1 r=>?_⟩;unfold WM at hd;split at hd
 ·obtain⟨ns,rfl,fx,hd⟩:=hd;obtain⟨p,vs,rfl,hq,rr⟩:=r.lst;rw[rr.ints_inv] at hq;exact⟨p,ns,rfl,hq,fx,λM m1 m2=>k _ _ H1 (hd M m1 m2) s1 (.int _)⟩
 ·exact hd.elim
end
section
variable {te:RE}
def G1 (te:RE):RA:=λa Q=>te a λd=>match d with
 | .lst ds=>Q ds.reverse
 | _=>False
theorem boot_reversed:bootBuiltins "reversed" = some (.type "reversed"):=by decide +kernel
end
structure Sub (prog:bU) (w:dJ) (I a:Addr) (vs:List aB) (T:Nat->Heap->Prop):Prop where
 stay:∀{k:Nat} {h h':Heap},T k h->(∀o,h.get? I=some o->h'.get? I=some o)->(∀o,h.get? a=some o->h'.get? a=some o)->T k h'
 lt:∀{k:Nat} {h:Heap},T k h->I<h.objs.size/\a<h.objs.size
 item:∀{A:dD} {E:aB->aF->Prop} {s:aF} {k:Nat} {x:aB} {Q:aB->aF->Prop},T k s.heap->vs[k]? = some x->(∀h',T (k+1) h'->nW I s.heap h'->Q x { s with heap:=h' }) ->
  wpAny (model prog w) A (dG (.ref I)) Q E s
 done:∀{A:dD} {E:aB->aF->Prop} {s:aF} {k:Nat} {Q:aB->aF->Prop},A.handled=none->T k s.heap->vs[k]? = none ->
  (∀h' e,NM I s.heap h'->(∃o,h'.get? e=some o/\o.cls = .type "StopIteration")->E (.ref e) { s with heap:=h' })->wpAny (model prog w) A (dG (.ref I)) Q E s
def Rm (ne:a≠I):Sub prog w I a vs (λk h=>h.IsListIter I a k/\h.IsList a vs.toArray) where
 stay:=λt e1 e2=>⟨t.1.at e1,t.2.at e2⟩
 lt:=λt=>by
  obtain⟨⟨o,e,_⟩,o2,e2,_⟩:=t;exact⟨aP e,aP e2⟩
 item:=λt e q=>wpAny_nextOf_list_item t.1 t.2 (by simpa using e) λh' t' sb=>q h' ⟨t',t.2.extBut sb.extBut ne⟩ sb
 done:=λhh t e q=>wpAny_nextOf_list_end hh t.1 t.2 (by simpa using e) q
section
variable {prog:bU} {w:dJ} {A:dD} {E:aB->aF->Prop} {s:aF}
theorem Gk {I a:Addr} {k:Nat} {vs:List aB} {x:aB} {Q:aB->aF->Prop} (hi:s.heap.IsTupleIter I a k) (ht:s.heap.IsTuple a vs.toArray) (hx:vs[k]? = some x)
  (q:∀h',h'.IsTupleIter I a (k+1)->nW I s.heap h'->Q x { s with heap:=h' }):wpAny (model prog w) A (dG (.ref I)) Q E s:=by
 obtain⟨o,eo,co,dO⟩:=id hi;obtain⟨t,et,_,nt,dT⟩:=ht;unfold dG;apply aA;apply iF (name:=gL "__next__") hi.typeIs F.slot_tuple_iterator_next;apply iO F.slot_tuple_iterator_next hi.typeIs F.entry_tuple_iterator_next ?_ (F.args_tuple_iterator_next_1 _);show wpAny _ _ (field (.ref I) 0 >>= _) _ _ s;apply aA;apply gE eo dO (x:=.ref a) rfl;show wpAny _ _ (if (gD a == gO)=true then _ else _) _ _ s;rw[if_neg (by exact cC)];show wpAny _ _ (field (.ref I) 1 >>= _) _ _ s;apply aA;apply gE eo dO (x:=.int k 0) rfl;show wpAny _ _ (seqItems? (.ref a) >>= _) _ _ s;have me:vs.toArray[k]? = some x:=by simpa using hx
 apply aA;apply fD et dT;simp only[oW,me];apply aA;apply EI eo dO (by simp);apply aJ;refine⟨x,rfl,aJ (q _ ⟨_,dL _ eo (Obj.isFreed_of_fields (HA dO _)),(Obj.cls_mapFields ..).trans co,?_⟩ (hV ..))⟩;rw[HA dO];simp[rawInt]
theorem SM {I a:Addr} {k:Nat} {vs:List aB} {Q:aB->aF->Prop} (hh:A.handled=none) (hi:s.heap.IsTupleIter I a k) (ht:s.heap.IsTuple a vs.toArray) (hx:vs[k]? = none)
  (q:∀h' e,NM I s.heap h'->(∃o,h'.get? e=some o/\o.cls = .type "StopIteration")->E (.ref e) { s with heap:=h' }):wpAny (model prog w) A (dG (.ref I)) Q E s:=by
 obtain⟨o,eo,co,dO⟩:=id hi;obtain⟨t,et,_,nt,dT⟩:=ht;unfold dG;apply aA;apply iF (name:=gL "__next__") hi.typeIs F.slot_tuple_iterator_next;apply iO F.slot_tuple_iterator_next hi.typeIs F.entry_tuple_iterator_next ?_ (F.args_tuple_iterator_next_1 _);show wpAny _ _ (field (.ref I) 0 >>= _) _ _ s;apply aA;apply gE eo dO (x:=.ref a) rfl;show wpAny _ _ (if (gD a == gO)=true then _ else _) _ _ s;rw[if_neg (by exact cC)];show wpAny _ _ (field (.ref I) 1 >>= _) _ _ s;apply aA;apply gE eo dO (x:=.int k 0) rfl;show wpAny _ _ (seqItems? (.ref a) >>= _) _ _ s;have me:vs.toArray[k]? = none:=by simpa using hx
 apply aA;apply fD et dT;simp only[oW,me];apply aA;apply wF;apply aA;apply EI eo dO (by simp);show wpAny _ _ (newExc (.type "StopIteration") [] >>= _) _ _ _;apply aA;simp only[newExc,newTuple];apply aA;refine fP ?_ (by size_fits);refine aA (m:=firstArgMember _ _) ?_;refine nU (a:=gO) (by first | rfl | (simp only[firstArgMember];rfl)) ?_;refine fP ?_ (by size_fits);simp only[raiseNew];apply aA;apply VN
 first | rw[show A.in1.handled=none from hh] | rw[hh]
 apply wpAny_throw;exact q _ _ (((hV ..).extBut.push _).push _) ⟨_,bF _ rfl,rfl⟩
end
def Vc (ne:a≠I):Sub prog w I a vs (λk h=>h.IsTupleIter I a k/\h.IsTuple a vs.toArray) where
 stay:=λt e1 e2=>⟨t.1.at e1,t.2.at e2⟩
 lt:=λt=>by
  obtain⟨⟨o,e,_⟩,o2,e2,_⟩:=t;exact⟨aP e,aP e2⟩
 item:=λt e q=>Gk t.1 t.2 e λh' t' sb=>q h' ⟨t',t.2.at λo x=>sb.extBut _ o ne x⟩ sb
 done:=λhh t e q=>SM hh t.1 t.2 e q
abbrev qH (h:Heap) (z TI TO:Addr) (f0 f1:aB):Prop:=h.get? z=some { cls:=.type "zip",dict:=none,data:=.fields #[f0,f1,.bool false,.ref TI,.ref TO],slots:=#[] }
def Wt (h:Heap) (z TI TO i1 i2:Addr):Prop:=qH h z TI TO .none (.bool false)\/∃(T:Addr) (b:Bool) (o:Obj),qH h z TI TO (rawInt T) (.bool b)/\(h.get? T=some o/\o.cls = .type "tuple")/\T≠z/\T≠i1/\T≠i2
structure jz (z TI TO i1 i2 a1 a2:Addr):Prop where
 TIz:TI≠z
 TOz:TO≠z
 i1z:i1≠z
 i2z:i2≠z
 a1z:a1≠z
 a2z:a2≠z
 IO:TI≠TO
 I1:TI≠i1
 I2:TI≠i2
 O1:TO≠i1
 O2:TO≠i2
 i12:i1≠i2
 a1O:a1≠TO
 a2O:a2≠TO
 a1i1:a1≠i1
 a1i2:a1≠i2
 a2i1:a2≠i1
 a2i2:a2≠i2
section
variable {prog:bU} {w:dJ} {A:dD} {E:aB->aF->Prop} {s:aF} {z TI TO i1 i2 a1 a2:Addr} {vs us:List aB} {T1 T2:Nat->Heap->Prop}
structure io (z TI TO i1 i2:Addr) (T1 T2:Nat->Heap->Prop) (k:Nat) (h:Heap):Prop where
 out:Wt h z TI TO i1 i2
 its:IsPair h TI (.ref i1) (.ref i2)
 own:∃a b,IsPair h TO a b
 one:T1 k h
 two:T2 k h
theorem UH (D:jz z TI TO i1 i2 a1 a2) (S1:Sub prog w i1 a1 vs T1) (S2:Sub prog w i2 a2 us T2) {k:Nat} {x y a b:aB} {Q:aB->aF->Prop} (hz:qH s.heap z TI TO .none (.bool false)) (hI:IsPair s.heap TI (.ref i1) (.ref i2)) (hO:IsPair s.heap TO a b)
  (t1:T1 k s.heap) (t2:T2 k s.heap) (ex:vs[k]? = some x) (ey:us[k]? = some y)
  (q:∀h',io z TI TO i1 i2 T1 T2 (k+1) h'->IsPair h' s.heap.objs.size x y->h'.objs.size=s.heap.objs.size+1->(∀c o,c≠z->c≠TO->c≠i1->c≠i2->s.heap.get? c=some o->h'.get? c=some o)->Q (.ref s.heap.objs.size) { s with heap:=h' }) :
  wpAny (model prog w) A (Builtin.«zip.__next__» ⟨[.ref z],[]⟩) (λfin s'=>∃v,fin = .done (.ret v)/\Q v s') E s:=by
 show wpAny _ _ (field (.ref z) 2 >>= _) _ _ _;apply aA;apply gE hz rfl (x:=.bool false) rfl;show wpAny _ _ (field (.ref z) 3 >>= _) _ _ _;apply aA;apply gE hz rfl (x:=.ref TI) rfl;apply aA;apply fD hI rfl;show wpAny _ _ (eG (.ref z) >>= _) _ _ _;apply aA;unfold eG;apply aA;apply gE hz rfl (x:=.none) rfl;apply aJ;simp only[if_true];apply aA;apply wF;apply aA;apply gE hz rfl (x:=.ref TO) rfl;apply aA;refine kE hz (by simp) λh₁ o4 j6=>?_;replace o4:qH h₁ z TI TO .ellipsis (.bool false):=o4;apply aA;simp only[LY,OP,oH,vQ];apply aA;apply aA;apply xX;show wpAny _ _ (dG (.ref i1) >>= _) _ _ _;apply aA;refine S1.item (S1.stay t1 (λo e=>j6.extBut _ o D.i1z e) λo e=>j6.extBut _ o D.a1z e) ex λh₂ D_ o5=>aJ ?_;have yt:IsPair h₂ TO a b:=o5.extBut _ _ D.O1 (j6.extBut _ _ D.TOz hO);apply aA;apply fD yt rfl;apply aA;refine tU yt λh₃ O_ ng=>?_;replace O_:IsPair h₃ TO x b:=O_;apply aA;apply jR;apply aJ;apply aA;apply aA;apply xX;show wpAny _ _ (dG (.ref i2) >>= _) _ _ _;have gw:∀c o,c≠z->c≠i1->c≠TO->s.heap.get? c=some o->h₃.get? c=some o:=λc o c1 c2 c3 e=>ng.extBut _ _ c3 (o5.extBut _ _ c2 (j6.extBut _ _ c1 e));apply aA;refine S2.item (S2.stay t2 (λo e=>gw _ o D.i2z D.i12.symm D.O2.symm e) λo e=>gw _ o D.a2z D.a2i1 D.a2O e) ey λh₄ t24 xv=>aJ ?_;have hO4:IsPair h₄ TO x b:=xv.extBut _ _ D.O2 O_;apply aA;apply fD hO4 rfl;apply aA;refine tU hO4 λh₅ Pi se=>?_;replace Pi:IsPair h₅ TO x y:=Pi;apply aA;apply jR;apply aJ;apply aJ;apply aA;apply fD Pi rfl;apply aA;refine EH ?_;have z5:h₅.objs.size=s.heap.objs.size:=by rw[se.1,xv.1,ng.1,o5.1,j6.1]
 have hz5:qH h₅ z TI TO .ellipsis (.bool false):=se.extBut _ _ D.TOz.symm (xv.extBut _ _ D.i2z.symm (ng.extBut _ _ D.TOz.symm (o5.extBut _ _ D.i1z.symm o4)));have ut:∀c o,c≠z->c≠TO->c≠i1->c≠i2->s.heap.get? c=some o->h₅.get? c=some o:=λc o c1 c2 c3 c4 e=>se.extBut _ _ c2 (xv.extBut _ _ c4 (gw c o c1 c3 c2 e));have t15:T1 (k+1) h₅:=S1.stay D_ (λo e=>se.extBut _ _ D.O1.symm (xv.extBut _ _ D.i12 (ng.extBut _ _ D.O1.symm e))) λo e=>se.extBut _ _ D.a1O (xv.extBut _ _ D.a1i2 (ng.extBut _ _ D.a1O e));have t25:T2 (k+1) h₅:=S2.stay t24 (λo e=>se.extBut _ _ D.O2.symm e) λo e=>se.extBut _ _ D.a2O e;have zl:z<h₅.objs.size:=aP hz5;show wpAny _ _ (qG (.ref z) (.ref h₅.objs.size) >>= _) _ _ _;apply aA;unfold qG;have hz6:qH (h₅.push { cls:=.type "tuple",data:=.seq #[x,y] }) z TI TO .ellipsis (.bool false):=aK _ hz5;apply aA;refine kE hz6 (by simp) λh₇ hz7 sb7=>?_;replace hz7:qH h₇ z TI TO (rawInt h₅.objs.size) (.bool false):=hz7;refine kE hz7 (by simp) λh₈ U9 sb8=>?_;replace U9:qH h₈ z TI TO (rawInt h₅.objs.size) (.bool false):=U9;have up:∀c o,c≠z->h₅.get? c=some o->h₈.get? c=some o:=λc o c1 e=>sb8.extBut _ _ c1 (sb7.extBut _ _ c1 (aK _ e));have Y_:IsPair h₈ h₅.objs.size x y:=sb8.extBut _ _ (dZ zl) (sb7.extBut _ _ (dZ zl) (bF _ rfl));have s8:h₈.objs.size=h₅.objs.size+1:=by rw[sb8.1,sb7.1,gA]
 apply aJ;refine⟨_,rfl,?_⟩;show Q (.ref h₅.objs.size) _;rw[z5] at Y_ s8 U9 ⊢;exact q h₈ ⟨.inr ⟨_,_,_,U9,⟨Y_,rfl⟩,dZ (aP hz),dZ (S1.lt t1).1,dZ (S2.lt t2).1⟩,up _ _ D.TIz (ut _ _ D.TIz D.IO D.I1 D.I2 hI),⟨_,_,up _ _ D.TOz Pi⟩,S1.stay t15 (λo e=>up _ o D.i1z e) (λo e=>up _ o D.a1z e),S2.stay t25 (λo e=>up _ o D.i2z e) λo e=>up _ o D.a2z e⟩ Y_ s8 λc o c1 c2 c3 c4 e=>up c o c1 (ut c o c1 c2 c3 c4 e)
theorem Wv (e:s.heap.get? a=some o) (q:Q (some o) s):wpAny (model prog w) A (loadIfAlive a) Q E s:=by
 have q':Q (s.heap.get? a) s:=e ▸ q;exact λ_ _ _=>q'
theorem XU {T:Addr} {b:Bool} {o:Obj} {Q:Bool->aF->Prop} (hz:qH s.heap z TI TO (rawInt T) (.bool b)) (hT:s.heap.get? T=some o)
  (q:∀h',qH h' z TI TO (rawInt T) (.bool true)->nW z s.heap h'->Q false { s with heap:=h' }):wpAny (model prog w) A (eG (.ref z)) Q E s:=by
 unfold eG;apply aA;apply gE hz rfl (x:=rawInt T) rfl;show wpAny _ _ (loadIfAlive ((T:Int).toNat) >>= _) _ _ _;apply aA;refine Wv (a:=((T:Int).toNat)) (o:=o) (by simpa using hT) ?_;show wpAny _ _ (field (.ref z) 1 >>= _) _ _ _;apply aA;apply gE hz rfl (x:=.bool b) rfl;cases b with
 | false =>
  show wpAny _ _ (setField (.ref z) 1 (.bool true) >>= _) _ _ _;apply aA;refine kE hz (by simp) λh₁ o4 j6=>aJ (q h₁ o4 j6)
 | true =>
  show wpAny _ _ (pure false) _ _ _;exact aJ (q s.heap hz ⟨rfl,λ_ _=>rfl⟩)
theorem UI (D:jz z TI TO i1 i2 a1 a2) (S1:Sub prog w i1 a1 vs T1) (S2:Sub prog w i2 a2 us T2) {k:Nat} {T:Addr} {f:Bool} {o:Obj} {x y a b:aB} {Q:aB->aF->Prop} (hz:qH s.heap z TI TO (rawInt T) (.bool f)) (hT:s.heap.get? T=some o/\o.cls = .type "tuple")
  (hTz:T≠z) (hT1:T≠i1) (hT2:T≠i2) (hI:IsPair s.heap TI (.ref i1) (.ref i2)) (hO:IsPair s.heap TO a b) (t1:T1 k s.heap) (t2:T2 k s.heap) (ex:vs[k]? = some x) (ey:us[k]? = some y)
  (q:∀h',io z TI TO i1 i2 T1 T2 (k+1) h'->IsPair h' s.heap.objs.size x y->h'.objs.size=s.heap.objs.size+1->(∀c o,c≠z->c≠TO->c≠i1->c≠i2->s.heap.get? c=some o->h'.get? c=some o)->Q (.ref s.heap.objs.size) { s with heap:=h' }) :
  wpAny (model prog w) A (Builtin.«zip.__next__» ⟨[.ref z],[]⟩) (λfin s'=>∃v,fin = .done (.ret v)/\Q v s') E s:=by
 show wpAny _ _ (field (.ref z) 2 >>= _) _ _ _;apply aA;apply gE hz rfl (x:=.bool false) rfl;show wpAny _ _ (field (.ref z) 3 >>= _) _ _ _;apply aA;apply gE hz rfl (x:=.ref TI) rfl;apply aA;apply fD hI rfl;show wpAny _ _ (eG (.ref z) >>= _) _ _ _;apply aA;refine XU hz hT.1 λh₁ o4 j6=>?_;simp only[aO,if_false];rw[<-qV];apply aA;simp only[oH,vQ];apply aA;apply aA;apply fG;show wpAny _ _ (dG (.ref i1) >>= _) _ _ _;apply aA;refine S1.item (S1.stay t1 (λo e=>j6.extBut _ o D.i1z e) λo e=>j6.extBut _ o D.a1z e) ex λh₂ D_ o5=>aJ ?_;apply aJ;apply aA;apply aA;apply fG;show wpAny _ _ (dG (.ref i2) >>= _) _ _ _;have j4:∀c o,c≠z->c≠i1->s.heap.get? c=some o->h₂.get? c=some o:=λc o c1 c2 e=>o5.extBut _ _ c2 (j6.extBut _ _ c1 e);apply aA;refine S2.item (S2.stay t2 (λo e=>j4 _ o D.i2z D.i12.symm e) λo e=>j4 _ o D.a2z D.a2i1 e) ey λh₃ t23 ng=>aJ ?_;apply aJ;apply aJ;have gw:∀c o,c≠z->c≠i1->c≠i2->s.heap.get? c=some o->h₃.get? c=some o:=λc o c1 c2 c3 e=>ng.extBut _ _ c3 (j4 c o c1 c2 e);have z3:h₃.objs.size=s.heap.objs.size:=by rw[ng.1,o5.1,j6.1]
 have hz3:qH h₃ z TI TO (rawInt T) (.bool true):=ng.extBut _ _ D.i2z.symm (o5.extBut _ _ D.i1z.symm o4);show wpAny _ _ (newTuple [x,y] >>= _) _ _ _;apply aA;refine EH ?_;apply aJ;refine⟨_,rfl,?_⟩;show Q (.ref h₃.objs.size) _;have up:∀c o,h₃.get? c=some o->(h₃.push { cls:=.type "tuple",data:=.seq #[x,y] }).get? c=some o:=λc o e=>aK _ e;have hp:IsPair (h₃.push { cls:=.type "tuple",data:=.seq #[x,y] }) h₃.objs.size x y:=bF _ rfl;have sz:(h₃.push { cls:=.type "tuple",data:=.seq #[x,y] }).objs.size=h₃.objs.size+1:=gA ..;have zs:io z TI TO i1 i2 T1 T2 (k+1) (h₃.push { cls:=.type "tuple",data:=.seq #[x,y] }):=⟨.inr ⟨T,true,o,up _ _ hz3,⟨up _ _ (gw _ _ hTz hT1 hT2 hT.1),hT.2⟩,hTz,hT1,hT2⟩,up _ _ (gw _ _ D.TIz D.I1 D.I2 hI),⟨_,_,up _ _ (gw _ _ D.TOz D.O1 D.O2 hO)⟩,
  S1.stay D_ (λo e=>up _ o (ng.extBut _ _ D.i12 e)) (λo e=>up _ o (ng.extBut _ _ D.a1i2 e)),S2.stay t23 (λo e=>up _ o e) λo e=>up _ o e⟩
 rw[z3] at hp sz ⊢;exact q _ zs hp sz λc o c1 c2 c3 c4 e=>up c o (gw c o c1 c3 c4 e)
theorem Ru (D:jz z TI TO i1 i2 a1 a2) (S1:Sub prog w i1 a1 vs T1) (S2:Sub prog w i2 a2 us T2) (st:io z TI TO i1 i2 T1 T2 k s.heap) (ex:vs[k]? = some x) (ey:us[k]? = some y)
  (q:∀h',io z TI TO i1 i2 T1 T2 (k+1) h'->IsPair h' s.heap.objs.size x y->h'.objs.size=s.heap.objs.size+1->(∀c o,c≠z->c≠TO->c≠i1->c≠i2->s.heap.get? c=some o->h'.get? c=some o)->Q (some (.ref s.heap.objs.size)) { s with heap:=h' }) :
  wpAny (model prog w) A (pyNext (.ref z)) Q E s:=by
 obtain⟨a,b,hO⟩:=st.own;have ty:s.TypeIs (.ref z) "zip":=by rcases st.out with hz | ⟨T,f,o,hz,_⟩ <;> exact⟨_,hz,rfl⟩
 unfold pyNext;apply aA;apply xV;apply iF (name:=gL "__next__") ty F.slot_zip_next;refine iO F.slot_zip_next ty F.entry_zip_next ?_ (F.args_zip_next_1 _);rcases st.out with hz | ⟨T,f,o,hz,hT,n1,n2,n3⟩
 ·exact UH D S1 S2 hz st.its hO st.one st.two ex ey λh' b1 b2 b3 b4=>aJ (q h' b1 b2 b3 b4)
 ·exact UI D S1 S2 hz hT n1 n2 n3 st.its hO st.one st.two ex ey λh' b1 b2 b3 b4=>aJ (q h' b1 b2 b3 b4)
theorem Rx (hh:A.handled=none) (D:jz z TI TO i1 i2 a1 a2) (S1:Sub prog w i1 a1 vs T1) (S2:Sub prog w i2 a2 us T2) (st:io z TI TO i1 i2 T1 T2 k s.heap) (ee:vs[k]? = none\/us[k]? = none)
  (q:∀h' e,(∀c o,c≠z->c≠TO->c≠i1->c≠i2->s.heap.get? c=some o->h'.get? c=some o)->(∃o,h'.get? e=some o/\o.cls = .type "StopIteration")->E (.ref e) { s with heap:=h' }) :
  wpAny (model prog w) A (Builtin.«zip.__next__» ⟨[.ref z],[]⟩) Q E s:=by
 obtain⟨a,b,hO⟩:=st.own;have t1:=st.one;have t2:=st.two;have hI:=st.its;rcases st.out with hz | ⟨T,f,o,hz,hT,n1,n2,n3⟩
 ·show wpAny _ _ (field (.ref z) 2 >>= _) _ _ _;apply aA;apply gE hz rfl (x:=.bool false) rfl;show wpAny _ _ (field (.ref z) 3 >>= _) _ _ _;apply aA;apply gE hz rfl (x:=.ref TI) rfl;apply aA;apply fD hI rfl;show wpAny _ _ (eG (.ref z) >>= _) _ _ _;apply aA;unfold eG;apply aA;apply gE hz rfl (x:=.none) rfl;apply aJ;simp only[if_true];apply aA;apply wF;apply aA;apply gE hz rfl (x:=.ref TO) rfl;apply aA;refine kE hz (by simp) λh₁ o4 j6=>?_;replace o4:qH h₁ z TI TO .ellipsis (.bool false):=o4;apply aA;simp only[LY,OP,oH,vQ];apply aA;apply aA;apply xX;show wpAny _ _ (dG (.ref i1) >>= _) _ _ _;have C_:=S1.stay t1 (λo e=>j6.extBut _ o D.i1z e) λo e=>j6.extBut _ o D.a1z e;cases ex:vs[k]? with
  | none =>
   apply aA;refine S1.done (s:={ s with heap:=h₁ }) hh C_ ex λh₂ e xb he=>?_;obtain⟨oe,h2,ce⟩:=he;have hz2:qH h₂ z TI TO .ellipsis (.bool false):=xb _ _ D.i1z.symm o4;have nez:e≠z:=λy=>(by subst y;rw[hz2] at h2;cases h2;simp at ce);refine kE hz2 (by simp) λh₃ _ ng=>q h₃ e (λc o c1 _ c3 _ y=>ng.extBut _ _ c1 (xb _ _ c3 (j6.extBut _ _ c1 y))) ⟨oe,ng.extBut _ _ nez h2,ce⟩
  | some x =>
   have ey:us[k]? = none:=(by rcases ee with h | h;rw[ex] at h;cases h;exact h);apply aA;refine S1.item C_ ex λh₂ D_ o5=>aJ ?_;have yt:IsPair h₂ TO a b:=o5.extBut _ _ D.O1 (j6.extBut _ _ D.TOz hO);apply aA;apply fD yt rfl;apply aA;refine tU yt λh₃ O_ ng=>?_;apply aA;apply jR;apply aJ;apply aA;apply aA;apply xX;show wpAny _ _ (dG (.ref i2) >>= _) _ _ _;have gw:∀c o,c≠z->c≠i1->c≠TO->s.heap.get? c=some o->h₃.get? c=some o:=λc o c1 c2 c3 e=>ng.extBut _ _ c3 (o5.extBut _ _ c2 (j6.extBut _ _ c1 e));apply aA;refine S2.done (s:={ s with heap:=h₃ }) hh (S2.stay t2 (λo e=>gw _ o D.i2z D.i12.symm D.O2.symm e) λo e=>gw _ o D.a2z D.a2i1 D.a2O e) ey λh₄ e xb he=>?_;obtain⟨oe,h2,ce⟩:=he;have hz4:qH h₄ z TI TO .ellipsis (.bool false):=xb _ _ D.i2z.symm (ng.extBut _ _ D.TOz.symm (o5.extBut _ _ D.i1z.symm o4));have nez:e≠z:=λy=>(by subst y;rw[hz4] at h2;cases h2;simp at ce);refine kE hz4 (by simp) λh₅ _ se=>q h₅ e (λc o c1 c2 c3 c4 y=>se.extBut _ _ c1 (xb _ _ c4 (gw c o c1 c3 c2 y))) ⟨oe,se.extBut _ _ nez h2,ce⟩
 ·show wpAny _ _ (field (.ref z) 2 >>= _) _ _ _;apply aA;apply gE hz rfl (x:=.bool false) rfl;show wpAny _ _ (field (.ref z) 3 >>= _) _ _ _;apply aA;apply gE hz rfl (x:=.ref TI) rfl;apply aA;apply fD hI rfl;show wpAny _ _ (eG (.ref z) >>= _) _ _ _;apply aA;refine XU hz hT.1 λh₁ o4 j6=>?_;simp only[aO,if_false];rw[<-qV];apply aA;simp only[oH,vQ];apply aA;apply aA;apply fG;show wpAny _ _ (dG (.ref i1) >>= _) _ _ _;have C_:=S1.stay t1 (λo e=>j6.extBut _ o D.i1z e) λo e=>j6.extBut _ o D.a1z e;cases ex:vs[k]? with
  | none =>
   apply aA;exact S1.done (s:={ s with heap:=h₁ }) hh C_ ex λh₂ e xb he=>q h₂ e (λc o c1 _ c3 _ y=>xb _ _ c3 (j6.extBut _ _ c1 y)) he
  | some x =>
   have ey:us[k]? = none:=(by rcases ee with h | h;rw[ex] at h;cases h;exact h);apply aA;refine S1.item C_ ex λh₂ D_ o5=>aJ ?_;apply aJ;apply aA;apply aA;apply fG;show wpAny _ _ (dG (.ref i2) >>= _) _ _ _;have j4:∀c o,c≠z->c≠i1->s.heap.get? c=some o->h₂.get? c=some o:=λc o c1 c2 e=>o5.extBut _ _ c2 (j6.extBut _ _ c1 e);apply aA;exact S2.done (s:={ s with heap:=h₂ }) hh (S2.stay t2 (λo e=>j4 _ o D.i2z D.i12.symm e) λo e=>j4 _ o D.a2z D.a2i1 e) ey λh₃ e xb he=>q h₃ e (λc o c1 c2 c3 c4 y=>xb _ _ c4 (j4 c o c1 c3 y)) he
theorem Vn (hh:A.handled=none) (D:jz z TI TO i1 i2 a1 a2) (S1:Sub prog w i1 a1 vs T1) (S2:Sub prog w i2 a2 us T2) (st:io z TI TO i1 i2 T1 T2 k s.heap) (ee:vs[k]? = none\/us[k]? = none)
  (q:∀h',(∀c o,c≠z->c≠TO->c≠i1->c≠i2->s.heap.get? c=some o->h'.get? c=some o)->Q none { s with heap:=h' }):wpAny (model prog w) A (pyNext (.ref z)) Q E s:=by
 have ty:s.TypeIs (.ref z) "zip":=by rcases st.out with hz | ⟨T,f,o,hz,_⟩ <;> exact⟨_,hz,rfl⟩
 unfold pyNext;apply aA;apply xV;apply iF (name:=gL "__next__") ty F.slot_zip_next;refine iO F.slot_zip_next ty F.entry_zip_next ?_ (F.args_zip_next_1 _);refine Rx (A:=A.in1) hh D S1 S2 st ee λh' e kp he=>?_;obtain⟨o,ho,hc⟩:=he;apply aA;refine tK (T:="StopIteration") (b:=true) ⟨o,ho,hc⟩ SB ?_;exact aJ (q h' kp)
end
abbrev vY (c:String) (l:Addr):Obj:={ cls:=.type c,data:=.fields #[.ref l,.int 0 0] }
abbrev V_ (c:String) (h:Heap) (l:Addr):Heap:=h.push (vY c l)
abbrev V' (c d:String) (h:Heap) (l m:Addr):Heap:=(V_ c h l).push (vY d m)
abbrev W0 (c d:String) (h:Heap) (l m:Addr):Heap:=(V' c d h l m).push { cls:=.type "tuple",data:=.seq #[.ref h.objs.size,.ref (V_ c h l).objs.size] }
abbrev W2 (c d:String) (h:Heap) (l m:Addr):Heap:=(W0 c d h l m).push { cls:=.type "tuple",data:=.seq #[.none,.none] }
abbrev w5 (c d:String) (h:Heap) (l m:Addr):Heap:=(W2 c d h l m).push { cls:=.type "zip",data:=.fields #[.none,.bool false,.bool false,.ref (V' c d h l m).objs.size,.ref (W0 c d h l m).objs.size] }
abbrev Kl (c d:String) (l m:Addr) (P:Heap->Prop):Prop:=Meets (Builtin.«zip.__new__» ⟨[.type "zip",.ref l,.ref m],[]⟩) (λ_ R s=>P s.heap/\R (.ok (.ret (.ref (W2 c d s.heap l m).objs.size))) { s with heap:=w5 c d s.heap l m })
def Vp (l m:Addr) (xs ys:Array aB):Kl "list_iterator" "list_iterator" l m (λh=>h.IsList l xs/\h.IsList m ys) :=
 .of_wp λprog w A R s h=>by
  obtain⟨hp,g,d,tk,os⟩:=s;obtain⟨⟨e1,e2⟩,h⟩:=h;have sz:=Af;have f1:BU (mN ⟨hp,g,d,tk,os⟩) l xs:=e1;have f2:BU (mN ⟨hp.push (vY "list_iterator" l),g,d,tk,os⟩) m ys:=e2.at λo e=>aK _ e
  wp_walk using jO f1,jO f2
  exact⟨_,rfl,h⟩
def Vs (l m:Addr) (xs ys:Array aB):Kl "tuple_iterator" "tuple_iterator" l m (λh=>h.IsTuple l xs/\h.IsTuple m ys) :=
 .of_wp λprog w A R s h=>by
  obtain⟨hp,g,d,tk,os⟩:=s;obtain⟨⟨e1,e2⟩,h⟩:=h;have sz:=Af;have f1:zE (mN ⟨hp,g,d,tk,os⟩) l xs:=e1;have f2:zE (mN ⟨hp.push (vY "tuple_iterator" l),g,d,tk,os⟩) m ys:=e2.at λo e=>aK _ e
  wp_walk using lW f1,lW f2
  exact⟨_,rfl,h⟩
def Vr (l m:Addr) (xs ys:Array aB):Kl "tuple_iterator" "list_iterator" l m (λh=>h.IsTuple l xs/\h.IsList m ys) :=
 .of_wp λprog w A R s h=>by
  obtain⟨hp,g,d,tk,os⟩:=s;obtain⟨⟨e1,e2⟩,h⟩:=h;have sz:=Af;have f1:zE (mN ⟨hp,g,d,tk,os⟩) l xs:=e1;have f2:BU (mN ⟨hp.push (vY "tuple_iterator" l),g,d,tk,os⟩) m ys:=e2.at λo e=>aK _ e
  wp_walk using lW f1,jO f2
  exact⟨_,rfl,h⟩
def Vq (l m:Addr) (xs ys:Array aB):Kl "list_iterator" "tuple_iterator" l m (λh=>h.IsList l xs/\h.IsTuple m ys) :=
 .of_wp λprog w A R s h=>by
  obtain⟨hp,g,d,tk,os⟩:=s;obtain⟨⟨e1,e2⟩,h⟩:=h;have sz:=Af;have f1:BU (mN ⟨hp,g,d,tk,os⟩) l xs:=e1;have f2:zE (mN ⟨hp.push (vY "list_iterator" l),g,d,tk,os⟩) m ys:=e2.at λo e=>aK _ e
  wp_walk using jO f1,lW f2
  exact⟨_,rfl,h⟩
def Nb (h1:l<n) (h2:m<n):jz (n+4) (n+2) (n+3) n (n+1) l m:=by
 constructor <;> (intro e;first | lia | (simp only[Addr] at *;lia))
section
variable {prog:bU} {w:dJ} {A:dD} {E:aB->aF->Prop} {s:aF}
theorem Ks (Z:Kl c d l m P) (hP:P s.heap)
  (q:∀h',qH h' (s.heap.objs.size+4) (s.heap.objs.size+2) (s.heap.objs.size+3) .none (.bool false)->IsPair h' (s.heap.objs.size+2) (.ref s.heap.objs.size) (.ref (s.heap.objs.size+1))->IsPair h' (s.heap.objs.size+3) .none .none ->
   h'.get? s.heap.objs.size=some (vY c l)->h'.get? (s.heap.objs.size+1)=some (vY d m)->h'.objs.size=s.heap.objs.size+5->(∀b o,s.heap.get? b=some o->h'.get? b=some o)->Q (.ref (s.heap.objs.size+4)) { s with heap:=h' }) :
  wpAny (model prog w) A (call (.type "zip") [.ref l,.ref m]) Q E s:=by
 refine callType_new F.called_zip (by decide) (F.typeCall_zip_2 _ _) (F.newCall_zip_2 _ _) (λobj=>F.args_object_init_3 obj _ _) F.entry_zip_new Z ⟨hP,?_⟩;have z1:(V_ c s.heap l).objs.size=s.heap.objs.size+1:=gA ..;have z2:(V' c d s.heap l m).objs.size=s.heap.objs.size+2:=by rw[gA,z1]
 have z3:(W0 c d s.heap l m).objs.size=s.heap.objs.size+3:=by rw[gA,z2]
 have z4:(W2 c d s.heap l m).objs.size=s.heap.objs.size+4:=by rw[gA,z3]
 have z5:(w5 c d s.heap l m).objs.size=s.heap.objs.size+5:=by rw[gA,z4]
 have up:∀{h:Heap} {o:Obj} {b:Addr} {u:Obj},h.get? b=some u->(h.push o).get? b=some u:=λe=>aK _ e;have g5:(w5 c d s.heap l m).get? (W2 c d s.heap l m).objs.size=some _:=bF _ rfl;have g4:(w5 c d s.heap l m).get? (W0 c d s.heap l m).objs.size=some _:=up (bF _ rfl);have g3:(w5 c d s.heap l m).get? (V' c d s.heap l m).objs.size=some _:=up (up (bF _ rfl));have g2:(w5 c d s.heap l m).get? (V_ c s.heap l).objs.size=some _:=up (up (up (bF _ rfl)));have g1:(w5 c d s.heap l m).get? s.heap.objs.size=some _:=up (up (up (up (bF _ rfl))));show _/\_;rw[z2,z3,z4] at g5;rw[z1,z2] at g3;rw[z3] at g4;rw[z1] at g2;rw[z4];exact⟨⟨_,g5,rfl⟩,q _ g5 g3 g4 g1 g2 z5 λb o x=>up (up (up (up (up x))))⟩
theorem RW {R:Result->aF->Prop} {S I:Addr} {n:Nat} {J F:List aB->Heap->Prop} {s0:aF} (res:aB) (hn:n<=sizeLine)
  (stay:∀acc h h',J acc h->(∃o,h.get? S=some o/\o.cls = .type "list")->h'.objs.size=h.objs.size->(∀b o,b≠S->h.get? b=some o->h'.get? b=some o)->J acc h')
  (item:∀acc (s:aF) (o:Obj) (Q:Option aB->aF->Prop) (E:aB->aF->Prop),acc.length<n->J acc s.heap->s.heap.get? S=some o->(∀v h',J (acc++[v]) h'->h'.get? S=some o->Q (some v) { s with heap:=h' })->wpAny (model prog w) A.in1 (pyNext (.ref I)) Q E s)
  (done:∀acc (s:aF) (o:Obj) (Q:Option aB->aF->Prop) (E:aB->aF->Prop),acc.length=n->J acc s.heap->s.heap.get? S=some o->(∀h',F acc h'->h'.get? S=some o->Q none { s with heap:=h' })->wpAny (model prog w) A.in1 (pyNext (.ref I)) Q E s)
  (hR:∀h' acc c,acc.size=n->F acc.toList h'->h'.get? S=some { cls:=.type "list",dict:=none,data:=.seq acc c,slots:=#[] }->R (.ok (.ret res)) { s0 with heap:=h' }) :
  ∀(k:Nat) (acc:Array aB) (h:Heap) (c:Nat),k=n-acc.size->acc.size<=n->J acc.toList h->h.get? S=some { cls:=.type "list",dict:=none,data:=.seq acc c,slots:=#[] } ->
   codeAny (model prog w) A (.builtin "list.extend.loop" ⟨[.ref S,.ref I,res],[]⟩) R { s0 with heap:=h }:=by
 intro k
 induction k with
 | zero =>
  intro acc h c hk hle hJ hS;refine gI wI ?_;rw[fE iQ _];show wpAny _ A.in1 (pyNext (.ref I) >>= _) _ _ _;apply aA;refine done acc.toList { s0 with heap:=h } _ _ _ (by simp;lia) hJ hS λh' hF i9=>?_;exact aJ (hR h' acc c (by lia) hF i9)
 | succ k ih =>
  intro acc h c hk hle hJ hS;refine gI wI ?_;rw[fE iQ _];show wpAny _ A.in1 (pyNext (.ref I) >>= _) _ _ _;apply aA;refine item acc.toList { s0 with heap:=h } _ _ _ (by simp;lia) hJ hS λv h' hJ' i9=>?_;show wpAny _ A.in1 (updateSeq S (·.push v) >>= _) _ _ _;have we:acc.size<n:=by lia
  have e1:(acc.push v).size=acc.size+1:=Array.size_push ..;apply aA;refine gJ i9 rfl ?_ (by lia) (by show (acc.push v).size<=sizeLine+1;lia);apply aJ;refine⟨gW iQ _,?_⟩;refine ih (acc.push v) _ _ (by lia) (by lia) (stay _ _ _ (by simpa using hJ') ⟨_,i9,rfl⟩ (hV ..).1 λb o hb e=>(cD _ _ (Ne.symm hb)).trans e) (dL _ i9 rfl)
end
def Hq:typeLookup (.type "zip") "__len__" = pure none:=by rw[qT,mD];kernel_rfl
def Er:typeLookup (.type "zip") "__length_hint__" = pure none:=by rw[qT,mD];kernel_rfl
section
variable {s:aF} {z TI TO i1 i2 a1 a2:Addr} {vs us:List aB} {T1 T2:Nat->Heap->Prop}
structure vh (z TI TO i1 i2:Addr) (T1 T2:Nat->Heap->Prop) (vs us:List aB) (N:Nat) (fixed:Heap) (S:Addr) (acc:List aB) (h:Heap):Prop where
 st:io z TI TO i1 i2 T1 T2 acc.length h
 size:h.objs.size=N+acc.length
 refs:∀j,j<acc.length->acc[j]? = some (.ref (N+j))
 got:∀j,j<acc.length->∀x y,vs[j]? = some x->us[j]? = some y->IsPair h (N+j) x y
 kept:∀b o,b≠z->b≠TO->b≠i1->b≠i2->b≠S->fixed.get? b=some o->h.get? b=some o
structure ql (z TO i1 i2:Addr) (vs us:List aB) (N:Nat) (fixed:Heap) (S:Addr) (acc:List aB) (h:Heap):Prop where
 refs:∀j,j<acc.length->acc[j]? = some (.ref (N+j))
 got:∀j,j<acc.length->∀x y,vs[j]? = some x->us[j]? = some y->IsPair h (N+j) x y
 kept:∀b o,b≠z->b≠TO->b≠i1->b≠i2->b≠S->fixed.get? b=some o->h.get? b=some o
theorem UO (hh:A.handled=none) (D:jz z TI TO i1 i2 a1 a2) (S1:∀{prog w},Sub prog w i1 a1 vs T1) (S2:∀{prog w},Sub prog w i2 a2 us T2) (hl:vs.length=us.length) (hn:vs.length<=sizeLine) (st:io z TI TO i1 i2 T1 T2 0 s.heap)
  (q:∀h' acc c,acc.size=vs.length->ql z TO i1 i2 vs us (s.heap.objs.size+1) s.heap s.heap.objs.size acc.toList h'->h'.get? s.heap.objs.size=some { cls:=.type "list",dict:=none,data:=.seq acc c,slots:=#[] }->Q (.ref s.heap.objs.size) { s with heap:=h' }) :
  wpAny (model prog w) A (call (.type "list") [.ref z]) Q E s:=by
 have zl:z<s.heap.objs.size:=by rcases st.out with hz | ⟨T,f,o,hz,_⟩ <;> exact aP hz
 have TIl:TI<s.heap.objs.size:=aP st.its;have K_:TO<s.heap.objs.size:=by obtain⟨a,b,h⟩:=st.own;exact aP h
 obtain⟨U_,a1l⟩:=(S1 (prog:=prog) (w:=w)).lt st.one;obtain⟨U',a2l⟩:=(S2 (prog:=prog) (w:=w)).lt st.two;refine QY (Q₁:=λobj s₁=>obj = .ref s.heap.objs.size/\s₁ = { s with heap:=s.heap.push { cls:=.type "list",data:=.seq #[] } }) F.called_list (F.typeCall_list_1 _) F.entry_list_init (UR _ ⟨rfl,rfl⟩) λobj s₁ h₁=>?_;obtain⟨rfl,rfl⟩:=h₁;have hS:(s.heap.push { cls:=.type "list",data:=.seq #[] }).get? s.heap.objs.size=some { cls:=.type "list",data:=.seq #[] }:=bF _ rfl;refine⟨⟨_,hS,rfl⟩,F.args_list_init_2 _ _,?_⟩;show wpAny _ _ (do let old <-nV (.ref s.heap.objs.size);rE (.ref s.heap.objs.size) (λ_=>#[]);letGo old.toList.reverse;fT (.ref s.heap.objs.size) (.ref z) .none) _ _ _;apply aA;unfold nV;apply aA;apply fD hS rfl;apply aJ;show wpAny _ _ (updateSeq s.heap.objs.size (λ_=>#[]) >>= λ_=>letGo (#[]:Array aB).toList.reverse >>= λ_=>fT (.ref s.heap.objs.size) (.ref z) .none) _ _ _;apply aA;refine gJ hS rfl ?_;have uj:=dL (cX (λ_=>(#[]:Array aB))) hS rfl;have j_:∀b o,b≠s.heap.objs.size->s.heap.get? b=some o->((s.heap.push { cls:=.type "list",data:=.seq #[] }).update s.heap.objs.size (cX (λ_=>(#[]:Array aB)))).get? b=some o :=
  λb o hb e=>(cD _ _ (Ne.symm hb)).trans (aK _ e)
 have z2:((s.heap.push { cls:=.type "list",data:=.seq #[] }).update s.heap.objs.size (cX (λ_=>(#[]:Array aB)))).objs.size=s.heap.objs.size+1:=by rw[(hV ..).1,gA]
 generalize (s.heap.push { cls:=.type "list",data:=.seq #[] }).update s.heap.objs.size (cX (λ_=>(#[]:Array aB)))=h2 at uj j_ z2;apply aA;apply jR;have move:∀{h3:Heap},(∀b o,b≠s.heap.objs.size->s.heap.get? b=some o->h3.get? b=some o)->io z TI TO i1 i2 T1 T2 0 h3:=λ{h3} up=>by
  have ne:∀{b:Addr},b<s.heap.objs.size->b≠s.heap.objs.size:=λh=>bE h;obtain⟨a,b,hO⟩:=st.own;refine⟨?_,up _ _ (ne TIl) st.its,⟨a,b,up _ _ (ne K_) hO⟩,(S1 (prog:=prog) (w:=w)).stay st.one (λo e=>up _ o (ne U_) e) (λo e=>up _ o (ne a1l) e),(S2 (prog:=prog) (w:=w)).stay st.two (λo e=>up _ o (ne U') e) λo e=>up _ o (ne a2l) e⟩;rcases st.out with hz | ⟨T,f,o,hz,hT,n1,n2,n3⟩
  ·exact .inl (up _ _ (ne zl) hz)
  ·exact .inr ⟨T,f,o,up _ _ (ne zl) hz,⟨up _ _ (ne (aP hT.1)) hT.1,hT.2⟩,n1,n2,n3⟩
 have V9:∀{h3:Heap} {g d t os},(∀b o,b≠s.heap.objs.size->s.heap.get? b=some o->h3.get? b=some o)->FP ⟨h3,g,d,t,os⟩ (.ref z) "zip":=λ{h3 g d t os} up=>by
  rcases (move up).out with hz | ⟨T,f,o,hz,_⟩ <;> exact⟨_,hz,rfl⟩
 unfold fT;apply aA;refine sN (T:="zip") (V9 j_) ?_;have g1:iU (.ref s.heap.objs.size) (.ref z)=false:=by simp[iU,dZ zl]
 have g2:(iR "zip" == iR "list")=false:=by decide
 have g3:(iR "zip" == iR "tuple")=false:=by decide
 simp only[g1,g2,g3,xG,aO,if_false];have self:∀{s':aF} {Q':aB->aF->Prop} {E':aB->aF->Prop} {A':dD},s'.TypeIs (.ref z) "zip"->Q' (.ref z) s'->wpAny (model prog w) A' (pyIter (.ref z)) Q' E' s':=λ{s' Q' E' A'} ty h=>by
  refine LK ty F.slot_zip_iter (iO F.slot_zip_iter ty F.entry_zip_iter ?_ (F.args_zip_iter_1 _));show wpAny _ _ (ret (.ref z)) _ _ s';exact aJ ⟨_,rfl,"zip",_,ty,F.slot_zip_next.lookup,h⟩
 apply aA;refine self (V9 j_) ?_;apply aA;apply fG;unfold jH;apply aA;refine oN (V9 j_) Hq ?_;show wpAny _ _ (specialOf (gD z) (gL "__length_hint__") >>= _) _ _ _;apply aA;refine oN (V9 j_) Er ?_;apply aJ;show wpAny _ _ (rule "list.extend.makes-room" >>= λ_=>Builtin.List.listTouch (.ref s.heap.objs.size) >>= λ_=>again (.builtin "list.extend.loop" ⟨[.ref s.heap.objs.size,.ref z,.none],[]⟩)) _ _ _;apply aA;apply wF;apply aA;show wpAny _ _ (updateSeq s.heap.objs.size (·.push .none) >>= λ_=>updateSeq s.heap.objs.size (·.pop)) _ _ _;apply aA;refine gJ uj rfl ?_;have hS3:=dL (cX (·.push gO)) uj rfl;refine gJ (hz:=by seq_fits) hS3 rfl ?_;have hS4:=dL (cX (·.pop)) hS3 rfl;have u_:∀b o,b≠s.heap.objs.size->s.heap.get? b=some o->((h2.update s.heap.objs.size (cX (·.push gO))).update s.heap.objs.size (cX (·.pop))).get? b=some o :=
  λb o hb e=>(cD _ _ (Ne.symm hb)).trans ((cD _ _ (Ne.symm hb)).trans (j_ b o hb e))
 have z4:((h2.update s.heap.objs.size (cX (·.push gO))).update s.heap.objs.size (cX (·.pop))).objs.size=s.heap.objs.size+1:=by rw[(hV ..).1,(hV ..).1,z2]
 generalize (h2.update s.heap.objs.size (cX (·.push gO))).update s.heap.objs.size (cX (·.pop))=h4 at hS4 u_ z4;apply aJ;refine⟨gW iQ _,?_⟩;refine RW (n:=vs.length) (J:=vh z TI TO i1 i2 T1 T2 vs us (s.heap.objs.size+1) s.heap s.heap.objs.size) (F:=ql z TO i1 i2 vs us (s.heap.objs.size+1) s.heap s.heap.objs.size) .none hn ?_ ?_ ?_ (λh' acc c j3 hF i9=>⟨rfl,q h' acc c j3 hF i9⟩) vs.length #[] h4 _ rfl (fV _) ?_ hS4
 ·intro acc h h' J n_ hz up;have ne:∀{b:Addr},b<s.heap.objs.size->b≠s.heap.objs.size:=λh=>bE h;obtain⟨a,b,hO⟩:=J.st.own;refine⟨⟨?_,up _ _ (ne TIl) J.st.its,⟨a,b,up _ _ (ne K_) hO⟩,(S1 (prog:=prog) (w:=w)).stay J.st.one (λo e=>up _ o (ne U_) e) (λo e=>up _ o (ne a1l) e),(S2 (prog:=prog) (w:=w)).stay J.st.two (λo e=>up _ o (ne U') e) λo e=>up _ o (ne a2l) e⟩,hz.trans J.size,J.refs,λj hj x y e1 e2=>up _ _ (by intro e;simp only[Addr] at *;lia) (J.got j hj x y e1 e2),λb o n1 n2 n3 n4 n5 e=>up b o n5 (J.kept b o n1 n2 n3 n4 n5 e)⟩;rcases J.st.out with hz | ⟨T,f,o,hz,hT,n1,n2,n3⟩
  ·exact .inl (up _ _ (ne zl) hz)
  ·have hTS:T≠s.heap.objs.size:=λe=>by
    obtain⟨u,hu,cu⟩:=n_;rw[<-e,hT.1] at hu;cases hu;rw[hT.2] at cu;simp at cu
   exact .inr ⟨T,f,o,up _ _ (ne zl) hz,⟨up _ _ hTS hT.1,hT.2⟩,n1,n2,n3⟩
 ·intro acc s' o Q' E' dw J n_ k;have e1:vs[acc.length]? = some (vs[acc.length]'dw):=aG _;have e2:us[acc.length]? = some (us[acc.length]'(by lia)):=aG _;refine Ru D S1 S2 J.st e1 e2 λh' fb hp hz kp=>?_;have U8:=J.size;refine k _ h' ⟨by simpa using fb,by simp;lia,λj hj=>?_,λj hj x y f1 f2=>?_,λb o n1 n2 n3 n4 n5 e=>kp b o n1 n2 n3 n4 (J.kept b o n1 n2 n3 n4 n5 e)⟩ (kp _ _ (dZ zl) (dZ K_) (dZ U_) (dZ U') n_)
  ·simp only[dA,bH,eK] at hj;by_cases h:j<acc.length
   ·rw[dH h];exact J.refs j h
   ·have:j=acc.length:=(by lia);subst this;rw[dR (bO _),U8];simp
  ·simp only[dA,bH,eK] at hj;by_cases h:j<acc.length
   ·refine kp _ _ ?_ ?_ ?_ ?_ (J.got j h x y f1 f2) <;> (intro e;simp only[Addr] at *;lia)
   ·have:j=acc.length:=(by lia);subst this;rw[e1] at f1;rw[e2] at f2;cases f1;cases f2;rw[<-U8];exact hp
 ·intro acc s' o Q' E' hlen J n_ k;refine Vn (A:=A.in1.in1) hh D S1 S2 J.st (.inl (jV (by lia))) λh' kp=>?_;refine k h' ⟨J.refs,λj hj x y f1 f2=>kp _ _ ?_ ?_ ?_ ?_ (J.got j hj x y f1 f2),λb o n1 n2 n3 n4 n5 e=>kp b o n1 n2 n3 n4 (J.kept b o n1 n2 n3 n4 n5 e)⟩ (kp _ _ (dZ zl) (dZ K_) (dZ U_) (dZ U') n_) <;> (intro e;simp only[Addr] at *;lia)
 ·exact⟨move u_,by simpa using z4,by simp,by simp,λb o n1 n2 n3 n4 n5 e=>u_ b o n5 e⟩
end
section
variable {σ:St}
theorem _root_.L2.Inv.trackO {s s':aF} {a:Addr} (I:Inv X pins σ H s) (I':Inv X pins σ H' s') (ha:s.heap.objs.size<=a) (hn:H' a=none) (new:ci X.prog X.w (bj H' a w) s'.heap a w):Inv X pins σ (bj H' a w) s':=by
 have nL:X.env.locals≠a:=bE (bQ I.lt ha);have nC:∀x c,X.env.cells.lookup x=some c->c≠a:=λx c q z=>by
  obtain⟨v,hv⟩:=I.cell x c q;exact absurd (bQ hv.lt (by rw[z];exact ha)) (hE _)
 have n0:∀{b:Addr} {o:Obj},X.s₀.heap.get? b=some o->b≠a:=λ{b o} q=>bE (bQ (aP q) (fK I.sz ha));refine⟨I'.ok,I'.os,I'.bare,⟨I'.base.keep,I'.base.slot,λb o q n hx=>by rw[cW (n0 q)];exact I'.base.free b o q n hx,I'.base.there,λb ys q=>by rw[cW (dY (I'.base.tups b ys q) hn)];exact I'.base.tups b ys q,λb o u q=>by rw[cW (dY (I'.base.frzs b o u q) hn)];exact I'.base.frzs b o u q,λb ps q=>?_⟩,I'.loc,I'.cell,by rw[cW nL];exact I'.free,λx c q=>by rw[cW (nC x c q)];exact I'.freeC x c q,λp hp=>?_,λb u q=>?_,I'.len⟩
 ·obtain⟨m,q2⟩:=I'.base.tbls b ps q;exact⟨m,by rw[cW (dY q2 hn)];exact q2⟩
 ·obtain⟨q1,q2,q3,q4,q5⟩:=I'.pin p hp;have og:p.1≠a:=bE (bQ (aP (I.pin p hp).1) ha);exact⟨q1,by rw[cW og];exact q2,q3,q4,q5⟩
 ·by_cases hb:b=a
  ·subst hb;rw[fS] at q;cases q;exact new
  ·rw[cW hb] at q;exact (I'.hok b u q).stay (λc v _ w=>w) (λc w=>by rw[cW (dY w hn)];exact w) λc ys w=>by rw[cW (dY w hn)];exact w
def NW (H:Hp):Nat->List (V × V)->Hp
 | _,[]=>H
 | N,p::ps=>NW (bj H N (.tup [p.1,p.2])) (N+1) ps
theorem SG:∀(ps:List (V × V)) (H:Hp) (N:Nat),(∀a,N<=a->H a=none)->af H (NW H N ps)/\(∀a,N+ps.length<=a->NW H N ps a=none)/\∀j p,ps[j]? = some p->NW H N ps (N+j)=some (.tup [p.1,p.2])
 | [],H,N,hn=>⟨af.refl H,λa ha=>hn a (by simpa using ha),λj p e=>by simp at e⟩
 | p::ps,H,N,hn=>by
  have ky:∀a,N+1<=a->bj H N (.tup [p.1,p.2]) a=none:=λa ha=>by rw[cW (dZ ha)];exact hn a (JA ha)
  obtain⟨s1,s2,s3⟩:=SG ps (bj H N (.tup [p.1,p.2])) (N+1) ky;refine⟨af.trans (af.fn λb o e=>by rw[cW (dY e (hn N (bO _)))];exact e) s1,λa ha=>s2 a (by simp at ha;lia),λj q e=>?_⟩;cases j with
  | zero=>simp at e;subst e;exact s1.get _ _ fS trivial
  | succ j =>
   have:=s3 j q (by simpa using e);rw[show N+(j+1)=N+1+j by lia];exact this
theorem _root_.L2.Inv.lays {s s':aF} (I:Inv X pins σ H s):∀(ps:List (V × V)) (us:List (aB × aB)) (H':Hp) (N:Nat),Inv X pins σ H' s'->s.heap.objs.size<=N->(∀a,N<=a->H' a=none)->ps.length=us.length ->
  (∀j p u,ps[j]? = some p->us[j]? = some u->RelV p.1 u.1/\RelV p.2 u.2/\IsPair s'.heap (N+j) u.1 u.2)->Inv X pins σ (NW H' N ps) s'
 | [],_,H',N,I',_,_,_,_=>I'
 | p::ps,[],H',N,I',_,_,hl,_=>by simp at hl
 | p::ps,u::us,H',N,I',hN,hn,hl,hh=>by
  obtain⟨r1,r2,hp⟩:=hh 0 p u rfl rfl;have I2:Inv X pins σ (bj H' N (.tup [p.1,p.2])) s':=I.trackO I' hN (hn N (bO _)) ⟨by show 2<=sizeLine;decide,[u.1,u.2],.cons r1 (.cons r2 .nil),⟨_,hp,rfl,_,rfl⟩⟩;refine Inv.lays I ps us _ (N+1) I2 (by lia) (λa ha=>by rw[cW (dZ ha)];exact hn a (JA ha)) (by simpa using hl) λj q v e1 e2=>?_;obtain⟨q1,q2,q3⟩:=hh (j+1) q v (by simpa using e1) (by simpa using e2);exact⟨q1,q2,by rw[show N+1+j=N+(j+1) by lia];exact q3⟩
end
def Mq:D->Option (List D)
 | .lst xs=>some xs
 | .tup xs=>some xs
 | _=>none
def Hc (ta tb:RE):RA:=λc Q=>ta c λx=>tb c λy=>∃xs ys,Mq x=some xs/\Mq y=some ys/\xs.length=ys.length/\Q (xs.zipWith (λa b=>D.tup [a,b]) ys)
theorem Vl {K:aH} {H:Hp} {N:Nat}:∀{xs ys:List D} {vs us:List V} {ps:List (V × V)} (n:Nat),ps=vs.zip us->ah K H xs vs->ah K H ys us->xs.length=ys.length->(∀j p,ps[j]? = some p->H (N+(n+j))=some (.tup [p.1,p.2])) ->
  ah K H (xs.zipWith (λa b=>D.tup [a,b]) ys) ((dX ps.length).map λj=>V.ref (N+(n+j))):=by
 intro xs
 induction xs with
 | nil =>
  intro ys vs us ps n e r1 r2 hl _;cases r1;cases r2 with
  | nil=>subst e;exact .nil
  | cons _ _=>simp at hl
 | cons x xs ih =>
  intro ys vs us ps n e r1 r2 hl hh;cases r1 with
  | @cons _ v _ vs r1 t1 =>
   cases r2 with
   | nil=>simp at hl
   | @cons y u ys us r2 t2 =>
    subst e;have h0:=hh 0 (v,u) rfl;have ih:=ih (n:=n+1) (ps:=vs.zip us) rfl t1 t2 (by simpa using hl) λj p e=>by
     have:=hh (j+1) p (by simpa using e);rw[show n+1+j=n+(j+1) by lia];exact this
    simp only[nZ,bH,zL,aQ,cM,rW];refine .cons (.tup h0 (.cons r1 (.cons r2 .nil))) ?_;have e2:((λj=>V.ref (N+(n+j))) ∘ Nat.succ)=λj=>V.ref (N+(n+1+j)):=by
     funext j;simp only[FK,Nat.succ_eq_add_one];congr 2;lia
    rw[e2];exact ih
def boot_zip:bootBuiltins "zip" = some (.type "zip"):=by decide +kernel
structure J_ (h:Heap) (a:Addr) (its:List aB) (c:String) (P:Heap->Prop) (T:Addr->Nat->Heap->Prop):Prop where
 here:P h
 lt:a<h.objs.size
 stay:∀{h1 h2:Heap},P h1->(∀o,h1.get? a=some o->h2.get? a=some o)->P h2
 sub:∀{prog:bU} {w:dJ} {I:Addr},a≠I->Sub prog w I a its (T I)
 start:∀{h1:Heap} {I:Addr},h1.get? I=some (vY c a)->P h1->T I 0 h1
def src_list (p:h.IsList a its.toArray):J_ h a its "list_iterator" (λh=>h.IsList a its.toArray) (λI k h=>h.IsListIter I a k/\h.IsList a its.toArray) :=
 ⟨p,by obtain⟨o,e,_⟩:=p;exact aP e,λq e=>q.at e,λne=>Rm ne,λe q=>⟨⟨_,e,rfl,rfl⟩,q⟩⟩
def PY (p:h.IsTuple a its.toArray):J_ h a its "tuple_iterator" (λh=>h.IsTuple a its.toArray) (λI k h=>h.IsTupleIter I a k/\h.IsTuple a its.toArray) :=
 ⟨p,by obtain⟨o,e,_⟩:=p;exact aP e,λq e=>q.at e,λne=>Vc ne,λe q=>⟨⟨_,e,rfl,rfl⟩,q⟩⟩
section
variable {X:Cx} {a b:Expr} {ta tb:RE} {p pz pos im:Pos}
theorem RP (hml:X.mg "list" = none) (zd:X.mg "zip" = none) (hc:X.calm=true) (ha:DB X a ta) (hb:DB X b tb) (Z':Gl X "list":=by rfl) (y8:Gl X "zip":=by rfl)
  (hs:starEach [.Call (.Name "zip" pz) [a,b] [] im] X.env=[(false,eval (.Call (.Name "zip" pz) [a,b] [] im) X.env)]:=by rfl) (hn:starEach [] X.env=[]:=by rfl) (h2:starEach [a,b] X.env=(false,eval a X.env)::starEach [b] X.env:=by rfl) (h1:starEach [b] X.env=[(false,eval b X.env)]:=by rfl) :
  DO X (.Call (.Name "list" p) [.Call (.Name "zip" pz) [a,b] [] im] [] pos) (Hc ta tb):=by
 intro pins s Y H Q I cf;obtain⟨i,P,st,q,k⟩:=cf;refine gP (tY I Z' hml boot_list ?_);refine gQ ?_ (by rw[hs,hn]) (by rw[hn];rfl);rw[hs];show wpAny _ _ (spliced ((false,eval (.Call (.Name "zip" pz) [a,b] [] im) X.env)::backTo pos [])) _ _ s;refine qW (gP (tY I y8 zd boot_zip ?_));refine gQ (c5 (wZ ha (wZ hb HW (by rw[h1,hn])) h2 im pins s Y H (λvs H1=>∃x y xs ys v u,vs=[v,u]/\af H H1/\c8 X.K H1 x v/\c8 X.K H1 y u/\Mq x=some xs/\Mq y=some ys/\xs.length=ys.length/\P (xs.zipWith (λa b=>D.tup [a,b]) ys)) I
  ⟨i,_,st,q,λx v H1 hx s1 r1=>⟨i,_,st.ext s1,hx,λy u H2 hy s2 r2=>?_⟩⟩) λus s1 ⟨vs,H1,I1,r1,q1⟩=>?_) h2 (by rw[h1];rfl)
 ·obtain⟨xs,ys,e1,e2,e3,e4⟩:=hy;exact⟨x,y,xs,ys,v,u,rfl,s1.trans s2,r1.same s2,r2,e1,e2,e3,e4⟩
 obtain⟨x,y,xs,ys,v,u,rfl,m_,rx,ry,ex,ey,hl,hP⟩:=q1;obtain⟨w1,w2,rfl,rv,ru⟩:=vals2 r1;have src:∀{x:D} {xs:List D} {v:V} {u:aB},c8 X.K H1 x v->Mq x=some xs->RelV v u->∃(l:Addr) (vs:List V) (its:List aB),u = .ref l/\ah X.K H1 xs vs/\ao vs its/\vs.length<=sizeLine/\(s1.heap.IsList l its.toArray\/s1.heap.IsTuple l its.toArray):=λ{x xs v u} r e rv=>by
  cases x with
  | lst ds =>
   cases e;obtain⟨l,vs,rfl,hq,rr⟩:=r.lst;cases rv;obtain⟨its,km,pl,hz⟩:=I1.list hq;exact⟨l,vs,its,rfl,rr,km,hz,.inl pl.isList⟩
  | tup ds =>
   cases e;obtain⟨l,vs,rfl,hq,rr⟩:=r.tup;cases rv;obtain⟨its,km,pl,hz⟩:=I1.tuple (fh.of hq);exact⟨l,vs,its,rfl,rr,km,hz,.inr pl⟩
  | _=>cases e
 obtain⟨l,vs,its,rfl,rr1,rv1,o4,k1⟩:=src rx ex rv;obtain⟨m,us,ur,rfl,rr2,q9,hz2,k2⟩:=src ry ey ru;have lv:vs.length=us.length:=by rw[<-rr1.length,<-rr2.length,hl]
 have li:=rv1.length;have lj:=q9.length;have fin:∀{c d:String} {P1 P2:Heap->Prop} {T1 T2:Addr->Nat->Heap->Prop},Kl c d l m (λh=>P1 h/\P2 h)->J_ s1.heap l its c P1 T1->J_ s1.heap m ur d P2 T2 ->
   wpAny (model X.prog X.w) X.A (call (.type "zip") [.ref l,.ref m]) (λu s₁=>wpAny (model X.prog X.w) X.A (spliced (backTo pos [])) (λvs s₂=>wpAny (model X.prog X.w) X.A (call (.type "list") (u::vs)) (EP X pins Y Q) X.xe s₂) X.xe s₁) X.xe s1:=by
  intro c d P1 P2 T1 T2 Z S1 S2;refine Ks Z ⟨S1.here,S2.here⟩ λh' hz hI hO g1 g2 j3 kp=>?_;have lt1:=S1.lt;have lt2:=S2.lt;have D:=Nb lt1 lt2;refine rP ?_;have p1:=S1.stay S1.here λo e=>kp l o e;have p2:=S2.stay S2.here λo e=>kp m o e;refine UO (A:=X.A) (I1.ok.hd hc) D (λ{_ _}=>S1.sub (bE lt1)) (λ{_ _}=>S2.sub (by simp only[Addr] at *;lia)) (by lia) (by lia) ⟨.inl hz,hI,⟨_,_,hO⟩,S1.start g1 p1,S2.start g2 p2⟩ λh2 acc cc ha hd hS=>?_;have hsz':(mN { s1 with heap:=h' }).objs.size=s1.heap.objs.size+5:=j3;rw[hsz'] at hd hS ⊢;have kp2:∀b o,s1.heap.get? b=some o->h2.get? b=some o:=λb o e=>by
   have lb:=aP e;refine hd.kept b o ?_ ?_ ?_ ?_ ?_ (kp b o e) <;> (intro z;simp only[Addr] at *;lia)
  have I2:Inv X pins Y H1 { s1 with heap:=h2 }:=I1.kept (t':=s1.toks) kp2;have free:∀x,s1.heap.objs.size+5+1<=x->H1 x=none:=λx hx=>I1.hok.fresh (by lia);have I3:=I1.lays (s':={ s1 with heap:=h2 }) (vs.zip us) (its.zip ur) H1 (s1.heap.objs.size+5+1) I2 (by lia) free (by simp;lia) λj pp uu e1 e2=>by
   have xh:=mH.mp e1;have p7:=mH.mp e2;obtain⟨w1,f1,f2⟩:=rv1.get xh.1;obtain⟨w2,f3,f4⟩:=q9.get xh.2;rw[p7.1] at f1;rw[p7.2] at f3;cases f1;cases f3;refine⟨f2,f4,hd.got j ?_ _ _ p7.1 p7.2⟩;have:=(bG.mp p7.1).1;simp;lia
  obtain⟨sm,fr,rp⟩:=SG (vs.zip us) H1 (s1.heap.objs.size+5+1) free;generalize hH:NW H1 (s1.heap.objs.size+5+1) (vs.zip us)=H3 at I3 sm fr rp;have ui:H3 (s1.heap.objs.size+5)=none:=by
   rw[<-hH];have:∀(ps:List (V × V)) (G:Hp) (M:Nat),s1.heap.objs.size+5<M->NW G M ps (s1.heap.objs.size+5)=G (s1.heap.objs.size+5):=λps=>by
    induction ps with
    | nil=>intro G M _;rfl
    | cons p ps ih=>intro G M hM;rw[NW,ih _ _ (by lia),cW (bE hM)]
   rw[this _ _ _ (by lia)];exact I1.hok.fresh (by lia)
  have X2:acc.toList=(dX (vs.zip us).length).map λj=>gD (s1.heap.objs.size+5+1+(0+j)):=by
   apply wQ;intro j;have hla:acc.toList.length=vs.length:=(by simp;lia);by_cases hj:j<vs.length
   ·rw[hd.refs j (by lia),bK,uC (by simp;lia)];simp
   ·rw[jV (by lia),jV (by simp;lia)]
  have RR:=Vl (N:=s1.heap.objs.size+5+1) 0 rfl (rr1.keep (.of sm)) (rr2.keep (.of sm)) hl λj pp e=>by
   have:=rp j pp e;rw[uN];exact this
  have VV:ao ((dX (vs.zip us).length).map λj=>V.ref (s1.heap.objs.size+5+1+(0+j))) acc.toList:=by
   rw[X2];generalize dX (vs.zip us).length=rs
   induction rs with
   | nil=>exact .nil
   | cons r rs ih=>exact .cons rfl ih
  have I4:=I1.trackO (a:=s1.heap.objs.size+5) (w:=.lst ((dX (vs.zip us).length).map λj=>V.ref (s1.heap.objs.size+5+1+(0+j)))) I3 (by lia) ui ⟨by simp;lia,acc.toList,cc,VV,by simpa using hS⟩;exact⟨.ref (s1.heap.objs.size+5),_,I4,rfl,k _ _ _ H3 hP (m_.trans sm) ui RR⟩
 rcases k1 with k1 | k1 <;> rcases k2 with k2 | k2
 ·exact fin (Vp l m its.toArray ur.toArray) (src_list k1) (src_list k2)
 ·exact fin (Vq l m its.toArray ur.toArray) (src_list k1) (PY k2)
 ·exact fin (Vr l m its.toArray ur.toArray) (PY k1) (src_list k2)
 ·exact fin (Vs l m its.toArray ur.toArray) (PY k1) (PY k2)
end
section
variable {a b:Expr} {ta tb:RE}
def G2 (ta tb:RE):RA:=λc Q=>ta c λx=>tb c λy=>match x,y with
 | .lst xs,.lst ys=>Q (xs.zipWith (λa b=>D.tup [a,b]) ys)
 | _,_=>False
end
section
variable {prog:bU} {w:dJ} {A:dD} {E:aB->aF->Prop} {s:aF}
theorem Lm {I S:Addr} {fp:List Addr} {St:Nat->Heap->Prop} {items:Array aB} {bt:Nat->Nat->Bool} {G:Heap->Prop} {R:Result->aF->Prop} (W:Walks prog w A.in1 I fp [I] items.size (λi v=>items[i]? = some v) St) (tj:S≠I) (hSf:S ∉ fp)
  (cmp:∀(i j:Nat) (u v:aB) (s:aF) (Q:aB->aF->Prop) (E:aB->aF->Prop),items[i]? = some u->items[j]? = some v->G s.heap->Q (.bool (bt i j)) s->wpAny (model prog w) A.in1 (richCompare .Lt u v) Q E s)
  (gs:∀h h',G h->(∀b o,b≠I->b≠S->h.get? b=some o->h'.get? b=some o)->G h') :
  ∀(k j:Nat) (s:aF) (vb:aB) (c:Nat),items.size-(j+1)=k->j+1<=items.size->St (j+1) s.heap->items[argBest bt j]? = some vb->G s.heap ->
   s.heap.get? S=some { cls:=.type "list",dict:=none,data:=.seq #[vb,vb] c,slots:=#[] } ->
   (∀v h' tk,items[argBest bt (items.size-1)]? = some v->(∀b o,b≠I->b≠S->s.heap.get? b=some o->h'.get? b=some o)->R (.ok (.ret v)) { s with heap:=h',toks:=tk }) ->
   codeAny (model prog w) A (.builtin "min.loop" ⟨[.ref I,.none,.ref S],[]⟩) R s:=by
 have nm:(toString "min" ++ toString ".loop":String) = "min.loop":=by decide
 have wr:∀{b:Addr},b≠I->b ∉ [I]:=λh=>by simpa using h
 intro k
 induction k with
 | zero =>
  intro j s vb c hk hj hi hb hG hS q;refine gI F.entry_min_loop ?_;rw[fE F.plain_min_loop _];show wpAny _ A.in1 (seqItems? (.ref S) >>= _) _ _ s;apply aA;apply fD hS rfl;show wpAny _ A.in1 (tryCatch (pyNext (.ref I)) _ >>= _) _ _ s;apply aA;apply lX;refine W.done s _ _ (by rw[show items.size=j+1 by lia];exact hi) λh' tk kp=>?_;have i9:=kp S _ (wr tj) hS;show wpAny _ A.in1 (updateSeq S (λ_=>#[]) >>= _) _ _ _;apply aA;refine gJ i9 rfl ?_;apply aA;apply jR;apply aJ;exact q vb _ tk (by rw[show items.size-1=j by lia];exact hb) λb o b1 b2 e=>(cD _ _ (Ne.symm b2)).trans (kp b o (wr b1) e)
 | succ k ih =>
  intro j s vb c hk hj hi hb hG hS q;refine gI F.entry_min_loop ?_;rw[fE F.plain_min_loop _];show wpAny _ A.in1 (seqItems? (.ref S) >>= _) _ _ s;apply aA;apply fD hS rfl;show wpAny _ A.in1 (tryCatch (pyNext (.ref I)) _ >>= _) _ _ s;apply aA;apply lX;refine W.item (j+1) s _ _ (by lia) hi λv h' tk hv fb kp=>?_;have i9:=kp S _ (wr tj) hS;have vn:G h':=gs _ _ hG λb o b1 _ e=>kp b o (wr b1) e;show wpAny _ A.in1 (tryCatch (holding [v,v] (richCompare .Lt v vb >>= _)) _ >>= _) _ _ _;apply aA;apply lX;apply fG;apply aA;refine cmp (j+1) (argBest bt j) v vb _ _ _ hv hb vn ?_;apply aA;apply fG;apply mS;apply aA;apply jR;apply aJ;cases yx:bt (j+1) (argBest bt j) with
  | true =>
   simp only[if_true];apply aA;refine gJ i9 rfl ?_;apply aA;apply jR;rw[nm];apply aJ;have up:∀b o,b≠S->h'.get? b=some o->(h'.update S (cX λ_=>#[v,v])).get? b=some o:=λb o b2 e=>(cD _ _ (Ne.symm b2)).trans e;refine⟨gW F.plain_min_loop _,ih (j+1) _ v _ (by lia) (by lia) (W.frame _ _ _ fb λb hb o e=>up b o (by rintro rfl;exact hSf hb) e) (by simp only[argBest,yx,if_true];exact hv) (gs _ _ vn λb o _ b2 e=>up b o b2 e) (dL _ i9 rfl) λv' qq j8 e kk=>?_⟩;exact q v' qq j8 e λb o b1 b2 e=>kk b o b1 b2 (up b o b2 (kp b o (wr b1) e))
  | false =>
   simp only[aO,if_false];apply aA;apply jR;rw[nm];apply aJ;refine⟨gW F.plain_min_loop _,ih (j+1) _ vb c (by lia) (by lia) fb (by simp only[argBest,yx,aO,if_false];exact hb) vn i9 λv' qq j8 e kk=>?_⟩;exact q v' qq j8 e λb o b1 b2 e=>kk b o b1 b2 (kp b o (wr b1) e)
theorem WF {l:Addr} {St:Nat->Heap->Prop} {T:String} {items:Array aB} {bt:Nat->Nat->Bool} {G:Heap->Prop} {Q:aB->aF->Prop} (W:Walks prog w A.in1 s.heap.objs.size [s.heap.objs.size,l] [s.heap.objs.size] items.size (λi v=>items[i]? = some v) St) (lt:l<s.heap.objs.size)
  (nj:∀{Q E},Q (.ref s.heap.objs.size) { s with heap:=s.heap.push (vY T l) }->wpAny (model prog w) A.in1 (pyIter (.ref l)) Q E s) (oh:St 0 (s.heap.push (vY T l))) (fx:0<items.size)
  (cmp:∀(i j:Nat) (u v:aB) (s:aF) (Q:aB->aF->Prop) (E:aB->aF->Prop),items[i]? = some u->items[j]? = some v->G s.heap->Q (.bool (bt i j)) s->wpAny (model prog w) A.in1 (richCompare .Lt u v) Q E s)
  (gs:∀h',(∀b o,s.heap.get? b=some o->h'.get? b=some o)->G h') (q:∀v h' tk,items[argBest bt (items.size-1)]? = some v->(∀b o,s.heap.get? b=some o->h'.get? b=some o)->Q v { s with heap:=h',toks:=tk }) :
  wpAny (model prog w) A (call (.builtin "min") [.ref l]) Q E s:=by
 have nm:(toString "min" ++ toString ".loop":String) = "min.loop":=by decide
 refine call_function_tree F.kind_min F.plain_min F.entry_min (F.args_min1 _) ?_;show wpAny _ A.in1 (lG "min" ["key","default"] 0 ⟨[],[]⟩ >>= _) _ _ s;apply aA;refine nU (show lG "min" ["key","default"] 0 ⟨[],[]⟩=pure [none,none] from rfl) ?_;apply aA;apply aJ;apply aA;refine nj ?_;apply aA;refine fP ?_;rw[nm];apply aJ;have sz1:(s.heap.push (vY T l)).objs.size=s.heap.objs.size+1:=gA ..;generalize hp:s.heap.push (vY T l)=h1 at sz1;rw[hp] at oh;have k1:∀b o,s.heap.get? b=some o->h1.get? b=some o:=λb o e=>by rw[<-hp];exact aK _ e
 refine⟨gW F.plain_min_loop _,?_⟩;show codeAny _ A (.builtin "min.loop" ⟨[.ref s.heap.objs.size,.none,.ref h1.objs.size],[]⟩) _ { s with heap:=h1.push { cls:=.type "list",dict:=none,data:=.seq ([]:List aB).toArray } };rw[sz1];have hS:(h1.push { cls:=.type "list",dict:=none,data:=.seq ([]:List aB).toArray }).get? (s.heap.objs.size+1)=some { cls:=.type "list",dict:=none,data:=.seq #[] 0,slots:=#[] }:=by rw[<-sz1];exact bF _ rfl
 have k2:∀b o,h1.get? b=some o->(h1.push { cls:=.type "list",dict:=none,data:=.seq ([]:List aB).toArray }).get? b=some o:=λb o e=>aK _ e;generalize h1.push { cls:=.type "list",dict:=none,data:=.seq ([]:List aB).toArray } = h2 at hS k2;have j5:∀{b:Addr} {o:Obj},s.heap.get? b=some o->b≠s.heap.objs.size/\b≠s.heap.objs.size+1:=λe=>⟨bE (aP e),bE (gU (aP e))⟩;refine gI F.entry_min_loop ?_;rw[fE F.plain_min_loop _];show wpAny _ A.in1 (seqItems? (.ref (s.heap.objs.size+1)) >>= _) _ _ _;apply aA;apply fD hS rfl;show wpAny _ A.in1 (tryCatch (pyNext (.ref s.heap.objs.size)) _ >>= _) _ _ _;apply aA;apply lX;refine W.item 0 _ _ _ fx (W.frame _ _ _ oh λb _ o e=>k2 b o e) λv h' tk hv fb kp=>?_;have wr:∀{b:Addr},b≠s.heap.objs.size->b ∉ [s.heap.objs.size]:=λh=>by simpa using h
 have i9:=kp (s.heap.objs.size+1) _ (wr (nM _)) hS;show wpAny _ A.in1 (updateSeq (s.heap.objs.size+1) (λ_=>#[v,v]) >>= _) _ _ _;apply aA;refine gJ i9 rfl ?_;rw[nm];apply aJ;have up:∀b o,b≠s.heap.objs.size+1->h'.get? b=some o->(h'.update (s.heap.objs.size+1) (cX λ_=>#[v,v])).get? b=some o:=λb o b2 e=>(cD _ _ (Ne.symm b2)).trans e;have old:∀b o,s.heap.get? b=some o->(h'.update (s.heap.objs.size+1) (cX λ_=>#[v,v])).get? b=some o:=λb o e=>up b o (j5 e).2 (kp b o (wr (j5 e).1) (k2 b o (k1 b o e)));have vo:=dL (cX λ_=>#[v,v]) i9 rfl;refine⟨gW F.plain_min_loop _,?_⟩;refine Lm (A:=A) (G:=λh=>∀b o,s.heap.get? b=some o->h.get? b=some o) (bt:=bt) W (nM _) (by simp only[aN,gH,or_false,not_or];exact⟨nM _,dZ (gU lt)⟩) (λi j u v s' Q' E' e1 e2 g c=>cmp i j u v s' Q' E' e1 e2 (gs _ g) c)
  (λh3 h4 g kk b o e=>kk b o (j5 e).1 (j5 e).2 (g b o e)) (items.size-1) 0 _ v _ (by lia) (by lia) (W.frame _ _ _ fb λb hb o e=>up b o (by simp only[aN,gH,or_false] at hb;rcases hb with rfl | rfl;exact bE (nK _);exact bE (gU lt)) e) (by simpa [argBest] using hv) old vo λv' qq j8 e kk=>?_
 exact q v' qq j8 e λb o e=>kk b o (j5 e).1 (j5 e).2 (old b o e)
theorem Kq {l:Addr} {items:Array aB} {bt:Nat->Nat->Bool} {G:Heap->Prop} {Q:aB->aF->Prop} (hh:A.handled=none) (hL:s.heap.IsList l items) (fx:0<items.size)
  (cmp:∀(i j:Nat) (u v:aB) (s:aF) (Q:aB->aF->Prop) (E:aB->aF->Prop),items[i]? = some u->items[j]? = some v->G s.heap->Q (.bool (bt i j)) s->wpAny (model prog w) A.in1 (richCompare .Lt u v) Q E s)
  (gs:∀h',(∀b o,s.heap.get? b=some o->h'.get? b=some o)->G h') (q:∀v h' tk,items[argBest bt (items.size-1)]? = some v->(∀b o,s.heap.get? b=some o->h'.get? b=some o)->Q v { s with heap:=h',toks:=tk }) :
  wpAny (model prog w) A (call (.builtin "min") [.ref l]) Q E s:=by
 have lt:l<s.heap.objs.size:=by obtain⟨_,e,_⟩:=hL;exact aP e
 exact WF (T:="list_iterator") (HI (A:=A.in1) hh _ l (bE lt) items) lt (λq=>jO hL q) ⟨⟨_,bF _ rfl,rfl,rfl⟩,hL.at λo e=>aK _ e⟩ fx cmp gs q
theorem Fi {l:Addr} {items:Array aB} {bt:Nat->Nat->Bool} {G:Heap->Prop} {Q:aB->aF->Prop} (hh:A.handled=none) (hL:s.heap.IsTuple l items) (fx:0<items.size)
  (cmp:∀(i j:Nat) (u v:aB) (s:aF) (Q:aB->aF->Prop) (E:aB->aF->Prop),items[i]? = some u->items[j]? = some v->G s.heap->Q (.bool (bt i j)) s->wpAny (model prog w) A.in1 (richCompare .Lt u v) Q E s)
  (gs:∀h',(∀b o,s.heap.get? b=some o->h'.get? b=some o)->G h') (q:∀v h' tk,items[argBest bt (items.size-1)]? = some v->(∀b o,s.heap.get? b=some o->h'.get? b=some o)->Q v { s with heap:=h',toks:=tk }) :
  wpAny (model prog w) A (call (.builtin "min") [.ref l]) Q E s:=by
 have lt:l<s.heap.objs.size:=by obtain⟨_,e,_⟩:=hL;exact aP e
 exact WF (T:="tuple_iterator") (Walks.tuple (A:=A.in1) hh _ l (bE lt) items) lt (λq=>lW hL q) ⟨⟨_,bF _ rfl,rfl,rfl⟩,hL.at λo e=>aK _ e⟩ fx cmp gs q
end
abbrev oU (ns:List Int):D:=.tup (ns.map .int)
theorem CZ:∀{a b c:List Int},HT.lexLt a b=true->HT.lexLt b c=true->HT.lexLt a c=true
 | [],[],_,h,_=>by cases h
 | [],_::_,[],_,h=>by cases h
 | [],_::_,_::_,_,_=>rfl
 | _::_,[],_,h,_=>by cases h
 | _::_,_::_,[],_,h=>by cases h
 | x::xs,y::ys,z::zs,h1,h2=>by
  rw[HT.lexLt_cons] at *;by_cases e1:x=y
  ·subst e1;rw[if_pos rfl] at h1;by_cases e2:x=z
   ·rw[if_pos e2] at h2 ⊢;exact CZ h1 h2
   ·rw[if_neg e2] at h2 ⊢;exact h2
  ·rw[if_neg e1] at h1;by_cases e2:y=z
   ·subst e2;rw[if_neg e1];exact h1
   ·rw[if_neg e2] at h2;simp only[decide_eq_true_eq] at h1 h2;rw[if_neg (by lia)];simp only[decide_eq_true_eq];lia
theorem MQ:∀(a:List Int),HT.lexLt a a=false
 | []=>rfl
 | x::xs=>by rw[HT.lexLt_cons,if_pos rfl];exact MQ xs
theorem CH (tr:∀i j k,bt i j=true->bt j k=true->bt i k=true) (ir:∀i,bt i i=false):∀k,argBest bt k<=k/\∀j,j<=k->bt j (argBest bt k)=false
 | 0=>⟨bO _,λj hj=>by rw[Nat.le_zero.mp hj];exact ir 0⟩
 | k+1=>by
  obtain⟨h1,h2⟩:=CH tr ir k;cases hb:bt (k+1) (argBest bt k) with
  | true =>
   simp only[argBest,hb,if_true];refine⟨bO _,λj hj=>?_⟩;by_cases e:j=k+1
   ·subst e;exact ir _
   ·cases hc:bt j (k+1) with
    | false=>rfl
    | true =>
     have:=tr j (k+1) _ hc hb;rw[h2 j (by lia)] at this;cases this
  | false =>
   simp only[argBest,hb,aO,if_false];refine⟨by lia,λj hj=>?_⟩;by_cases e:j=k+1
   ·subst e;exact hb
   ·exact h2 j (by lia)
theorem ah.tupI_inv {K:aH} {H:Hp} {ns:List Int} {v:V} (r:dk K H (oU ns) v):∃a,v = .ref a/\H a=some (.tup (ns.map V.int)):=by
 cases r with
 | tup h rr=>rw[rr.ints_inv] at h;exact⟨_,rfl,h⟩
section
variable {X:Cx} {e a b:Expr} {te ta tb:RE} {p pos:Pos}
def Sl:R22:=λx y Q=>∃ns ms:List Int,x=oU ns/\y=oU ms/\Q (.bl (HT.lexLt ns ms))
theorem Qc (hr:cj k X.A):jr X (compareOp .Lt) Sl:=by
 intro pins s Z H x y v u Q I rx ry cf;obtain⟨d,e,P,r1,r2,q,kk⟩:=cf;obtain⟨ns,ms,e1,e2,q⟩:=q;subst e1 e2;obtain⟨a,vs,rfl,h1,t1⟩:=r1.tup;obtain⟨b,us,rfl,h2,t2⟩:=r2.tup;rw[t1.ints_inv] at h1;rw[t2.ints_inv] at h2;exact Ym (X:=X) (by have:=hr.un;lia) pins s Z H _ _ v u Q I rx ry ⟨a,b,ns,ms,rfl,rfl,fh.of h1,fh.of h2,kk _ _ H q (af.refl H) (.bl _)⟩
def Ik:D->(D->Prop)->Prop:=λd Q=>match d with
 | .lst ds=>∃nss:List (List Int),ds=nss.map oU/\nss≠[]/\∀M,M∈nss->(∀x∈nss,HT.lexLt x M=false)->Q (oU M)
 | .tup ds=>∃nss:List (List Int),ds=nss.map oU/\nss≠[]/\∀M,M∈nss->(∀x∈nss,HT.lexLt x M=false)->Q (oU M)
 | _=>False
theorem Il {k:Nat} (hr:cj k X.A) (hm:X.mg "min" = none) (hc:X.calm=true) (h:DB X e te) (hg:Gl X "min":=by rfl) (hs:starEach [e] X.env=[(false,eval e X.env)]:=by rfl) (hn:starEach [] X.env=[]:=by rfl) :
  DE X (.Call (.Name "min" p) [e] [] pos) (r1 Ik te):=by
 have call:wM X (.builtin "min") (λxs H Q=>∃(d:D) (v:V) (P:D->Prop),xs=[v]/\c8 X.K H d v/\Ik d P/\∀z w,P z->dk X.K H z w->Q w H):=by
  intro pins s Z H xs us Q I rs hq;obtain⟨d,v,P,rfl,rb,hd,kk⟩:=hq;cases d with
  | lst ds =>
   obtain⟨nss,rfl,fx,hd⟩:=hd;obtain⟨l,vs,rfl,hq,rr⟩:=rb.lst;obtain⟨u,rfl,rx⟩:=vals1 rs;cases rx;obtain⟨its,rv,pl,hz⟩:=I.list hq;have l1:=rr.length;have l2:=rv.length;have gr:0<nss.length:=lD.mpr fx;rw[bV] at l1;have each:∀(i:Nat) (u:aB),its[i]? = some u->∃ns a ts,nss[i]? = some ns/\vs[i]? = some (.ref a)/\u = .ref a/\ao (ns.map V.int) ts/\IsTup s.heap a ts.toArray:=λi u e=>by
    have hi:i<nss.length:=(by have:=(bG.mp e).1;lia);obtain⟨v,e1,e2⟩:=rr.get (i:=i) (d:=oU nss[i]) (by rw[bK,aG hi];rfl);obtain⟨a,rfl,ha⟩:=ah.tupI_inv e2;obtain⟨u',f1,f2⟩:=rv.get e1;rw[e] at f1;cases f1;cases f2;obtain⟨ts,g1,g2,_⟩:=I.tuple (fh.of (K:=X.K) ha);exact⟨_,a,ts,aG hi,e1,rfl,g1,g2⟩
   refine Kq (bt:=λi j=>HT.lexLt (nss.getD i []) (nss.getD j [])) (G:=λh=>∀b o,s.heap.get? b=some o->h.get? b=some o) (I.ok.hd hc) pl.isList (by simp;lia) (λi j u v s' Q' E' e1 e2 g c=>?_) (λh' g=>g) λv h' tk ev kp=>?_
   ·obtain⟨ns,a,ts,n1,_,rfl,g1,g2⟩:=each i u (by simpa using e1);obtain⟨ms,b,us,n2,_,rfl,g3,g4⟩:=each j v (by simpa using e2);have q1:nss.getD i []=ns:=(by rw[eI,n1];rfl);have q2:nss.getD j []=ms:=(by rw[eI,n2];rfl);rw[q1,q2] at c;have hu:=hr.un;have j9:∀{a:Addr} {xs:Array aB},IsTup s.heap a xs->IsTup s'.heap a xs:=λ⟨o,e,r⟩=>⟨o,g _ o e,r⟩;refine HT.lt_tupInts (A:=X.A.in1) (j9 g2) (j9 g4) (intsAre_of g1) (intsAre_of g3) (by show X.A.units+1<cLine;lia) c
   ·obtain⟨b1,b2⟩:=CH (bt:=λi j=>HT.lexLt (nss.getD i []) (nss.getD j [])) (λ_ _ _=>CZ) (λ_=>MQ _) (its.toArray.size-1);generalize argBest (λi j=>HT.lexLt (nss.getD i []) (nss.getD j [])) (its.toArray.size-1)=m at b1 b2 ev;obtain⟨ns,a,ts,n1,n2,rfl,g1,g2⟩:=each m v (by simpa using ev);have hm:m<nss.length:=(bG.mp n1).1;refine⟨.ref a,H,I.kept kp,rfl,kk _ _ (hd ns (eW n1) λx hx=>?_) ?_⟩
    ·obtain⟨j,hj,rfl⟩:=eT hx;have:=b2 j (by simp;lia);have q1:nss.getD j []=nss[j]:=(by rw[eI,aG hj];rfl);have q2:nss.getD m []=ns:=(by rw[eI,n1];rfl);rw[q1,q2] at this;exact this
    ·obtain⟨w,f1,f2⟩:=rr.get (i:=m) (d:=oU ns) (by rw[bK,n1];rfl);rw[n2] at f1;cases f1;exact f2
  | tup ds =>
   obtain⟨nss,rfl,fx,hd⟩:=hd;obtain⟨l,vs,rfl,hq,rr⟩:=rb.tup;obtain⟨u,rfl,rx⟩:=vals1 rs;cases rx;obtain⟨its,rv,pl,hz⟩:=I.tuple (fh.of (K:=X.K) hq);have l1:=rr.length;have l2:=rv.length;have gr:0<nss.length:=lD.mpr fx;rw[bV] at l1;have each:∀(i:Nat) (u:aB),its[i]? = some u->∃ns a ts,nss[i]? = some ns/\vs[i]? = some (.ref a)/\u = .ref a/\ao (ns.map V.int) ts/\IsTup s.heap a ts.toArray:=λi u e=>by
    have hi:i<nss.length:=(by have:=(bG.mp e).1;lia);obtain⟨v,e1,e2⟩:=rr.get (i:=i) (d:=oU nss[i]) (by rw[bK,aG hi];rfl);obtain⟨a,rfl,ha⟩:=ah.tupI_inv e2;obtain⟨u',f1,f2⟩:=rv.get e1;rw[e] at f1;cases f1;cases f2;obtain⟨ts,g1,g2,_⟩:=I.tuple (fh.of (K:=X.K) ha);exact⟨_,a,ts,aG hi,e1,rfl,g1,g2⟩
   refine Fi (bt:=λi j=>HT.lexLt (nss.getD i []) (nss.getD j [])) (G:=λh=>∀b o,s.heap.get? b=some o->h.get? b=some o) (I.ok.hd hc) pl (by simp;lia) (λi j u v s' Q' E' e1 e2 g c=>?_) (λh' g=>g) λv h' tk ev kp=>?_
   ·obtain⟨ns,a,ts,n1,_,rfl,g1,g2⟩:=each i u (by simpa using e1);obtain⟨ms,b,us,n2,_,rfl,g3,g4⟩:=each j v (by simpa using e2);have q1:nss.getD i []=ns:=(by rw[eI,n1];rfl);have q2:nss.getD j []=ms:=(by rw[eI,n2];rfl);rw[q1,q2] at c;have hu:=hr.un;have j9:∀{a:Addr} {xs:Array aB},IsTup s.heap a xs->IsTup s'.heap a xs:=λ⟨o,e,r⟩=>⟨o,g _ o e,r⟩;refine HT.lt_tupInts (A:=X.A.in1) (j9 g2) (j9 g4) (intsAre_of g1) (intsAre_of g3) (by show X.A.units+1<cLine;lia) c
   ·obtain⟨b1,b2⟩:=CH (bt:=λi j=>HT.lexLt (nss.getD i []) (nss.getD j [])) (λ_ _ _=>CZ) (λ_=>MQ _) (its.toArray.size-1);generalize argBest (λi j=>HT.lexLt (nss.getD i []) (nss.getD j [])) (its.toArray.size-1)=m at b1 b2 ev;obtain⟨ns,a,ts,n1,n2,rfl,g1,g2⟩:=each m v (by simpa using ev);have hm:m<nss.length:=(bG.mp n1).1;refine⟨.ref a,H,I.kept kp,rfl,kk _ _ (hd ns (eW n1) λx hx=>?_) ?_⟩
    ·obtain⟨j,hj,rfl⟩:=eT hx;have:=b2 j (by simp;lia);have q1:nss.getD j []=nss[j]:=(by rw[eI,aG hj];rfl);have q2:nss.getD m []=ns:=(by rw[eI,n1];rfl);rw[q1,q2] at this;exact this
    ·obtain⟨w,f1,f2⟩:=rr.get (i:=m) (d:=oU ns) (by rw[bK,n1];rfl);rw[n2] at f1;cases f1;exact f2
  | _=>exact hd.elim
 refine PE.mono (yP call hg hm boot_min (sI h hs hn) (by decide) (by decide) (by rw[hs,hn]) (by rw[hn];rfl)) λZ H Q hh=>kF hh λt P st q k=>⟨t,_,st,q,λd v H1 hd s1 r=>⟨d,v,P,rfl,r,hd,λz w hz rz=>k z w H1 hz s1 rz⟩⟩
def dNe:R22:=λx y Q=>match x,y with
 | .int i,.int j=>Q (.bl !(decide (i=j)))
 | .bl i,.bl j=>Q (.bl !(decide (i=j)))
 | .tup xs,.tup ys=>match jt (fi 5) xs ys with
  | some b=>Q (.bl !b)
  | none=>False
 | .non,.non=>Q (.bl false)
 | _,_=>False
def Oa:R22:=λx y Q=>match x with
 | .lst xs=>∃j:Nat,(∃d,xs[j]? = some d/\fi 6 d y=some true)/\(∀(i:Nat) d,i<j->xs[i]? = some d->fi 6 d y=some false)/\(∀d∈xs,∃b,fi 6 d y=some b)/\Q (.int (j:Int))
 | _=>False
theorem RelV.det (h:RelV v u) (h':RelV v' u):v=v':=RelV.inj h h'
end
section
variable {σ:St} {s:aF}
theorem WR:∀{ks ks':List Int} {vs vs':List V},ks.length=vs.length->ks'.length=vs'.length->KD ks vs=KD ks' vs'->ks=ks'/\vs=vs'
 | [],[],[],[],_,_,_=>⟨rfl,rfl⟩
 | [],_::_,[],_::_,_,_,h=>by simp[KD] at h
 | _::_,[],_::_,[],_,_,h=>by simp[KD] at h
 | k::ks,k'::ks',v::vs,v'::vs',h1,h2,h=>by
  simp only[KD,rW,fY,fF,Sum.inl.injEq] at h;obtain⟨rfl,rfl⟩:=WR (ks:=ks) (ks':=ks') (vs:=vs) (vs':=vs') (by simpa using h1) (by simpa using h2) h.2;obtain⟨⟨rfl,rfl⟩,_⟩:=h;exact⟨rfl,rfl⟩
theorem SF:∀{ks ks':List (List Int)} {vs vs':List V},ks.length=vs.length->ks'.length=vs'.length->AB ks vs=AB ks' vs'->ks=ks'/\vs=vs'
 | [],[],[],[],_,_,_=>⟨rfl,rfl⟩
 | [],_::_,[],_::_,_,_,h=>by simp[AB] at h
 | _::_,[],_::_,[],_,_,h=>by simp[AB] at h
 | k::ks,k'::ks',v::vs,v'::vs',h1,h2,h=>by
  simp only[AB,rW,fY,fF] at h;obtain⟨rfl,rfl⟩:=SF (ks:=ks) (ks':=ks') (vs:=vs) (vs':=vs') (by simpa using h1) (by simpa using h2) h.2;obtain⟨⟨e,rfl⟩,_⟩:=h;have e':k=k':=by
   have z:=congrArg (vR λx:ii=>match x with | .inl i=>i | .inr _=>0) e;rw[cM,cM] at z;simpa [IP] using z
  exact⟨by rw[e'],rfl⟩
theorem NU (I:Inv X pins σ H s) (h:H a=some (.frz o (.dT cg))) (h':qd X.K H a vs):False:=by
 obtain⟨its,rv,pl,_⟩:=I.list h'.sq;obtain⟨o',e',c',_⟩:=pl.isList;obtain⟨_,_,_,us,_,ob,es,ep,e,c,_⟩:=I.hok a _ h;rw[e] at e';cases e';rw[c.1] at c';simp at c'
theorem NR (I:Inv X pins σ H s) (h:H a=some (.frz o (.dK cg))) (h':qd X.K H a vs):False:=by
 obtain⟨its,rv,pl,_⟩:=I.list h'.sq;obtain⟨o',e',c',_⟩:=pl.isList;obtain⟨_,_,_,us,_,ob,es,ep,e,c,_⟩:=I.hok a _ h;rw[e] at e';cases e';rw[c.1] at c';simp at c'
mutual
theorem dk.det (I:Inv X pins σ H s):∀{d d':D} {v:V},dk X.K H d v->dk X.K H d' v->d=d'
 | _,_,_,.non,r=>by cases r;rfl
 | _,_,_,.bl b,r=>by cases r;rfl
 | _,_,_,.int i,r=>by cases r;rfl
 | _,_,_,.str x,r=>by cases r;rfl
 | _,_,_,.tup h q,r=>by
  cases r with
  | tup h' q'=>rw[h] at h';cases h';rw[ah.det I q q']
  | lst h' q' =>
   obtain⟨its,rv,pl,_⟩:=I.list h'.sq;obtain⟨ur,rv',⟨o,e,c,_⟩,_⟩:=I.tuple (fh.of (K:=X.K) h);obtain⟨o',e',c',_⟩:=pl.isList;rw[e] at e';cases e';rw[c] at c';simp at c'
  | dct h' _ _=>rw[h] at h';cases h'
  | dtt h' _ _=>rw[h] at h';cases h'
 | _,_,_,.dct h hl q,r=>by
  cases r with
  | tup h' q'=>rw[h] at h';cases h'
  | lst h' q'=>exact (NR I h h').elim
  | dct h' T_ q' =>
   rw[h] at h';obtain⟨rfl,rfl⟩:=WR hl T_ (by injection h' with e;injection e with _ e;injection e);rw[ah.det I q q']
  | dtt h' _ _=>rw[h] at h';cases h'
 | _,_,_,.dtt h hl q,r=>by
  cases r with
  | tup h' q'=>rw[h] at h';cases h'
  | lst h' q'=>exact (NU I h h').elim
  | dct h' _ _=>rw[h] at h';cases h'
  | dtt h' T_ q' =>
   rw[h] at h';obtain⟨rfl,rfl⟩:=SF hl T_ (by injection h' with e;injection e with _ e;injection e);rw[ah.det I q q']
 | _,_,_,.lst h q,r=>by
  cases r with
  | tup h' q' =>
   obtain⟨its,rv,pl,_⟩:=I.list h.sq;obtain⟨ur,rv',⟨o,e,c,_⟩,_⟩:=I.tuple (fh.of (K:=X.K) h');obtain⟨o',e',c',_⟩:=pl.isList;rw[e] at e';cases e';rw[c] at c';simp at c'
  | lst h' q'=>rw[I.list_inj h'.sq h.sq] at q';rw[ah.det I q q']
  | dct h' _ _=>exact (NR I h' h).elim
  | dtt h' _ _=>exact (NU I h' h).elim
theorem ah.det (I:Inv X pins σ H s):∀{d d':List D} {v:List V},ah X.K H d v->ah X.K H d' v->d=d'
 | _,_,_,.nil,r=>by cases r;rfl
 | _,_,_,.cons h t,r=>by
  cases r with
  | cons h' t'=>rw[dk.det I h h',ah.det I t t']
end
end
section
variable {X:Cx} {e a b:Expr} {te ta tb:RE}
def Hb (ta tb:RE):RE:=λc Q=>ta c λx=>(∃xs,x = .lst xs)/\tb c λy=>Oa x y Q
theorem Om {k:Nat} {apos b_:Pos} (hr:cj k X.A) (ha:DB X a ta) (hb:DE X b tb) (f_:attributeBase a "index" X.env (eval a X.env)=eval a X.env:=by rfl)
  (md:((backTo b_ (starEach [b] X.env)).all (λx=>!x.1) && (backToKw b_ (keywordEach [] X.env)).all (λx=>x.1.isSome) && decide (([b]:List Expr).length+([]:List oY).length+(if ([]:List oY).isEmpty then 0 else 1)<30))=true:=by rfl)
  (gf:(apos.endLine == b_.line)=true:=by rfl) (hs:starEach [b] X.env=[(false,eval b X.env)]:=by rfl) (hn:starEach [] X.env=[]:=by rfl) :
  DE X (.Call (.Attribute a "index" apos) [b] [] b_) (Hb ta tb):=by
 have mt:W9 X "list.index" (λx vs H Q=>∃(d e:D) (u:V) (P:D->Prop),vs=[u]/\c8 X.K H d x/\dk X.K H e u/\Oa d e P/\∀z w,P z->dk X.K H z w->Q w H):=by
  intro pins s Z H x vs v us Q I rx rv cf;obtain⟨d,e,u,P,ev,rd,re,q,kk⟩:=cf;subst ev;obtain⟨u',rfl,ru⟩:=rv.one;cases d with
  | lst xs =>
   obtain⟨j,⟨dj,ej,hj⟩,zf,du,q⟩:=q;obtain⟨l,vs,rfl,hq,rr⟩:=rd.lst;cases rx;obtain⟨its,km,pl,hz⟩:=I.list hq;obtain⟨⟨cls,dd,data,sl⟩,ho,hc,n,hd⟩:=pl.isList;simp only at hc hd;subst hc hd;have l1:=rr.length;have l2:=km.length;have hu:=hr.un;have hjl:j<xs.length:=(bG.mp ej).1;let ev:aB->Bool:=λy=>(dX xs.length).any λi=>match xs[i]?,its[i]? with
    | some d,some z=>z == y && fi 6 d e == some true
    | _,_=>false
   have each:∀(i:Nat) (y:aB),its[i]? = some y->∃d v,xs[i]? = some d/\dk X.K H d v/\RelV v y/\∃b,fi 6 d e=some b:=λi y ey=>by
    have hi:i<xs.length:=(by have:=(bG.mp ey).1;lia);obtain⟨v,e1,e2⟩:=rr.get (aG hi);obtain⟨y',f1,f2⟩:=km.get e1;rw[ey] at f1;cases f1;exact⟨_,v,aG hi,e2,f2,du _ (nG hi)⟩
   have vi:∀(i:Nat) (y:aB) (d:D) (b:Bool),its[i]? = some y->xs[i]? = some d->fi 6 d e=some b->ev y=b:=λi y d b ey ed hb=>by
    obtain⟨d',v,q1,q2,q3,_⟩:=each i y ey;rw[ed] at q1;cases q1;cases b with
    | true =>
     have hi:i<xs.length:=(bG.mp ed).1;refine pU.mpr ⟨i,gK.mpr hi,?_⟩;simp only[ed,ey,hb];simp
    | false =>
     refine IT.mpr λi' i_=>?_;cases ex:xs[i']? with
     | none=>simp
     | some d' =>
      cases ez:its[i']? with
      | none=>simp
      | some z =>
       simp only[gS,beq_iff_eq,not_and];intro hz tq;subst hz;obtain⟨d2,v2,p1,p2,p3,_⟩:=each i' z ez;rw[ex] at p1;cases p1;have:=RelV.det q3 p3;subst this;rw[dk.det I q2 p2] at hb;rw[hb] at tq;cases tq
   have yo:∀(i:Nat) (h:i<its.toArray.size),its[i]? = some its.toArray[i]:=λi h=>by
    have h':i<its.length:=(by simpa using h);rw[aG h'];simp
   refine zV F.slot_list_index ⟨_,ho,rfl⟩ F.entry_list_index (F.args_list_index_2 _ _) (SeqAt.list_indexAt l its.toArray n dd sl u' ev j (by simp;lia) ?_ ?_ λm hm dw=>?_) ⟨ho,λy hy=>?_,?_⟩
   ·have hs:(sizeLine:Int)<2 ^ 63-1:=(by decide);lia
   ·exact vi j _ dj true (yo j _) ej hj
   ·have xm:m<xs.length:=(by simp at hm;lia);exact vi m _ xs[m] false (yo m hm) (aG xm) (zf m _ dw (aG xm))
   ·obtain⟨i,hi,rfl⟩:=eT (List.mem_toArray.mp hy);obtain⟨d,v,q1,q2,q3,b,hb⟩:=each i its[i] (aG hi);rw[vi i _ d b (aG hi) q1 hb];exact (MM I 6 hb q2 re q3 ru (by show X.A.units+1+6<cLine;lia)).2
   ·exact⟨.int (j:Int),H,I.tok _,⟨_,rfl⟩,kk _ _ q (.int _)⟩
  | _=>exact q.elim
 refine PE.mono (Jk kQ PySem.F.slot_list_index PySem.F.type_list_index mt ha (sI hb hs hn) f_ md gf (by rw[hs,hn]) (by rw[hn];rfl)) λZ H Q hh=>kF hh λg P st q k=>⟨g,_,st,q,λx v H1 hx s1 r1=>⟨?_,g,_,st.ext s1,hx.2,λy u H2 hy s2 r2=>⟨x,y,u,P,rfl,r1.same s2,r2,hy,λz w hz rz=>k z w H2 hz (s1.trans s2) rz⟩⟩⟩;obtain⟨⟨xs,rfl⟩,_⟩:=hx;obtain⟨l,vs,rfl,hq,_⟩:=r1.lst;exact .inl ⟨rfl,vs,hq⟩
end
end
section
open PySem PySem.SetTable
def xn (N i:Nat):Nat:=(i*5+1) % N
def ZC (N:Nat):Nat->Nat->Nat
 | 0,i=>i
 | m+1,i=>ZC N m (xn N i)
theorem JY (N:Nat):∀a b i,ZC N (a+b) i=ZC N b (ZC N a i)
 | 0,b,i=>by rw[uN];rfl
 | a+1,b,i=>by rw[Nat.add_right_comm];exact JY N a b (xn N i)
def Ke (N:Nat):Nat->Nat->List Nat
 | 0,_=>[]
 | m+1,i=>i::Ke N m (xn N i)
theorem MU:∀{m i:Nat},j∈Ke N m i->∃k,k<m/\ZC N k i=j
 | 0,_,h=>by cases h
 | m+1,i,h=>by
  rcases aN.mp h with rfl | h
  ·exact⟨0,by lia,rfl⟩
  ·obtain⟨k,hk,e⟩:=MU h;exact⟨k+1,by lia,e⟩
def h8 (N:Nat):Prop:=(∀j,j<N->j∈Ke N N 0)/\ZC N N 0=0
def TU (h:((dX N).all λj=>(Ke N N 0).contains j)=true) (k:ZC N N 0=0):h8 N :=
 ⟨λj hj=>by have:=kA.mp h j (gK.mpr hj);simpa using this,k⟩
def Zk:h8 8:=TU (by decide +kernel) (by decide +kernel)
def Ux:h8 32:=TU (by decide +kernel) (by decide +kernel)
def Re:h8 128:=TU (by decide +kernel) (by decide +kernel)
def h8.reach (h:h8 N) (hi:i<N) (hj:j<N):∃k,k<N/\ZC N k i=j:=by
 obtain⟨a,ha,ea⟩:=MU (h.1 i hi);obtain⟨b,hb,eb⟩:=MU (h.1 j hj);by_cases dq:a<=b
 ·refine⟨b-a,by lia,?_⟩;rw[<-ea,<-JY,show a+(b-a)=b by lia,eb]
 ·refine⟨b+(N-a),by lia,?_⟩;rw[<-ea,<-JY,show a+(b+(N-a))=N+b by lia,JY,h.2,eb]
def Em (P:Nat->Prop) (mask:Nat):Nat->Nat->Nat->Prop
 | 0,i,_=>P i
 | m+1,i,pt=>Em P mask m (leap mask i pt).1 (leap mask i pt).2
theorem Hr {P:Nat->Prop} {mask:Nat}:∀m i,P (ZC (mask+1) m i)->Em P mask m i 0
 | 0,_,h=>h
 | m+1,i,h=>by
  unfold Em;have e:leap mask i 0=(xn (mask+1) i,0):=by simp[leap,xn]
  rw[e];exact Hr m (xn (mask+1) i) h
theorem Es {P:Nat->Prop} {mask:Nat} (R:h8 (mask+1)) {j:Nat} (hj:j<=mask) (hP:P j):∀(b i pt:Nat),i<=mask->pt<32 ^ b->∃m,m<=mask+b/\Em P mask m i pt
 | 0,i,pt,hi,hp=>by
  have:pt=0:=by simpa using hp
  subst this;obtain⟨k,hk,e⟩:=R.reach (i:=i) (j:=j) (by lia) (by lia);exact⟨k,by lia,Hr k i (by rw[e];exact hP)⟩
 | b+1,i,pt,hi,hp=>by
  have h1:(leap mask i pt).1<=mask:=by unfold leap;exact jM (kD _ (by lia))
  have h2:(leap mask i pt).2<32 ^ b:=by
   unfold leap;dsimp only;rw[Nat.pow_succ] at hp;lia
  obtain⟨m,hm,e⟩:=Es R hj hP b _ _ h1 h2;exact⟨m+1,by lia,e⟩
def Hz (h:Int):bits h<32 ^ 13:=by
 unfold bits;have:(h % (2 ^ 64:Int))<2 ^ 64:=Int.emod_lt_of_pos _ (by decide);have h2:0<=h % (2 ^ 64:Int):=Int.emod_nonneg _ (by decide);have:(h % (2 ^ 64:Int)).toNat<2 ^ 64:=by lia
 exact bQ this (by decide)
theorem xP {α:Type} [DecidableEq α]:∀(l m:List α),l.Nodup->(∀x∈l,x∈m)->l.length<=m.length
 | [],_,_,_=>fV _
 | x::l,m,hn,hs=>by
  have hx:=hs x (by simp);have ky:=fJ.mp hn;have:=xP l (m.erase x) ky.2 λy hy=>by
   have ne:y≠x:=λe=>ky.1 (e ▸ hy);exact (BY ne).mpr (hs y (by simp[hy]))
  rw[xI hx] at this;have:0<m.length:=zK hx;simp;lia
structure c_ (t:SetTable) (n:Nat):Prop where
 size:t.place.size=n
 dum:t.dummies = #[]
 room:n<=t.mask
 round:h8 (t.mask+1)
 ris:t.place.toList.Pairwise (· < ·)
def slot_of {t:SetTable} (hd:t.dummies = #[]) (j:Nat):t.slot j = .empty\/∃i,t.slot j = .live i/\t.place[i]? = some j:=by
 unfold slot;dsimp only;by_cases h:(t.place[below t.place j]? == some j)=true
 ·rw[if_pos h];exact cV ⟨_,rfl,by simpa using h⟩
 ·rw[if_neg h,hd,if_neg (by simp[has])];exact cY rfl
def Hg (T:c_ t n):∃j,j<=t.mask/\t.slot j = .empty:=by
 apply cI;intro hn;have all:∀j∈dX (t.mask+1),j∈t.place.toList:=by
  intro j hj;rcases slot_of T.dum j with h | ⟨i,h,e⟩
  ·exact absurd ⟨j,by have:=gK.mp hj;lia,h⟩ hn
  ·rw[iG];exact BA e
 have:=xP _ _ LX all;rw[IX,cN,T.size] at this;have:=T.room;lia
def VR (t:SetTable) (p:Probe) (m:Nat):Prop:=p.dummy=none/\p.more<=9/\Em (λj=>t.slot j = .empty) t.mask m p.i p.perturb/\(m=0->p.j=p.i)
def PF (p:Probe) (m:Nat):Nat:=p.more+10*m
def EV (mask i:Nat):runEnd mask i-i<=9:=by unfold runEnd;split <;> lia
def An (h:VR t p m) (hn:t.slot p.j≠.empty):∃m',VR t (t.advance p) m'/\PF (t.advance p) m'<PF p m:=by
 obtain⟨hd,hm,he,hj⟩:=h;have m0:m≠0:=by rintro rfl;rw[hj rfl] at hn;exact hn he
 unfold advance;split
 ·refine⟨m,⟨hd,by dsimp only;lia,he,λe=>absurd e m0⟩,by unfold PF;dsimp only;lia⟩
 ·obtain⟨k,rfl⟩:∃k,m=k+1:=⟨m-1,by lia⟩;refine⟨k,⟨hd,EV _ _,he,λ_=>rfl⟩,?_⟩;unfold PF;have:=EV t.mask (leap t.mask p.i p.perturb).1;dsimp only;lia
def Mu (T:c_ t n) (h:Int):∃m,VR t (t.probeStart h) m/\PF (t.probeStart h) m<10*turns t.mask:=by
 obtain⟨j,hj,he⟩:=Hg T;obtain⟨m,hm,e⟩:=Es (P:=λj=>t.slot j = .empty) T.round hj he 13 (bits h % (t.mask+1)) (bits h) (jM (kD _ (by lia))) (Hz h);refine⟨m,⟨rfl,EV _ _,e,λ_=>rfl⟩,?_⟩;have:=EV t.mask (bits h % (t.mask+1));unfold PF probeStart turns;dsimp only;lia
theorem Iw {mask:Nat} {owner:Array (Option Nat)}:∀(fuel m i pt:Nat),i<=mask->owner.size=mask+1->Em (λj=>owner.getD j (some 0)=none) mask m i pt->m<fuel->∃j,jJ mask owner fuel i pt=some j/\j<=mask/\owner.getD j (some 0)=none
 | 0,_,_,_,_,_,_,h=>absurd h (oI _)
 | fuel+1,m,i,pt,hi,hs,he,hf=>by
  unfold jJ;cases hq:(dX (runEnd mask i+1-i)).find? λk=>(owner.getD (i+k) (some 0)).isNone with
  | some k =>
   have h1:=List.find?_some hq;have h2:=wG hq;have h3:=gK.mp h2;refine⟨i+k,rfl,?_,by simpa using h1⟩;have:runEnd mask i<=mask:=(by unfold runEnd;split <;> lia);lia
  | none =>
   dsimp only;have hn:owner.getD i (some 0)≠none:=by
    have h0:=GU.mp hq 0 (gK.mpr (by unfold runEnd;split <;> lia));simpa using h0
   obtain⟨k,rfl⟩:∃k,m=k+1:=by
    cases m with
    | zero=>exact absurd he hn
    | succ k=>exact⟨k,rfl⟩
   exact Iw fuel k _ _ (by unfold leap;exact jM (kD _ (by lia))) hs he (by lia)
def KN (owner:Array (Option Nat)) (n:Nat):List Nat:=(dX n).filterMap λj=>owner.getD j none
theorem yK {α:Type} {f g:Nat->Option α}:∀(l:List Nat),(∀a∈l,f a=g a)->l.filterMap f=l.filterMap g
 | [],_=>rfl
 | a::l,h=>by rw[eS,eS,h a (by simp),yK l λb hb=>h b (by simp[hb])]
theorem FR {α:Type} {f g:Nat->Option α} {x:α}:∀(l:List Nat),l.Nodup->j∈l->(∀i,i≠j->f i=g i)->f j=none->g j=some x->(l.filterMap g).Perm (x::l.filterMap f)
 | [],_,h,_,_,_=>by cases h
 | i::l,hn,hj,Z8,hf,hg=>by
  have ky:=fJ.mp hn;by_cases e:i=j
  ·subst e;rw[eS,eS,hf,hg];dsimp only;have:l.filterMap g=l.filterMap f:=by
    exact yK l λa ha=>(Z8 a (λe=>ky.1 (e ▸ ha))).symm
   rw[this]
  ·have qu:j∈l:=(by rcases aN.mp hj with h | h;exact absurd h.symm e;exact h);have ih:=FR l ky.2 qu Z8 hf hg;rw[eS,eS,Z8 i e];cases g i with
   | none=>exact ih
   | some y=>exact (ih.cons y).trans (QO x y _)
def Lz (hp:(KN owner N).Perm (dX c)) (hs:owner.size=N) (hc:c<N):∃j,j<N/\owner.getD j (some 0)=none:=by
 apply cI;intro hn;have key:∀(l:List Nat),(∀j∈l,∃k,owner.getD j none=some k)->(l.filterMap λj=>owner.getD j none).length=l.length:=by
  intro l
  induction l with
  | nil=>intro _;rfl
  | cons j l ih =>
   intro h;obtain⟨k,e⟩:=h j (by simp);rw[eS,e];have:=ih λj hj=>h j (by simp[hj]);rw[bH,bH,this]
 have:=key (dX N) (by
  intro j hj;have qu:=gK.mp hj;cases h:owner.getD j none with
  | some k=>exact⟨k,rfl⟩
  | none =>
   refine absurd ⟨j,qu,?_⟩ hn;have lt:j<owner.size:=(by lia);simp[lN,lt] at h ⊢;exact h)
 have e:=hp.length_eq;unfold KN at e;rw[this] at e;simp at e;lia
theorem Ch {mask:Nat} (R:h8 (mask+1)):∀(hs:List Int) (owner:Array (Option Nat)) (c:Nat),owner.size=mask+1->(KN owner (mask+1)).Perm (dX c)->c+hs.length<=mask+1 ->
  ∃oo ,(hs.foldl (λacc h=>do
    let (owner,k) <-acc;let j <-jJ mask owner (turns mask) (bits h % (mask+1)) (bits h)
    pure (owner.setIfInBounds j (some k),k+1)) (some (owner,c)))=some (oo,c+hs.length)/\oo.size=mask+1/\(KN oo (mask+1)).Perm (dX (c+hs.length))
 | [],owner,c,hs,hp,_=>⟨owner,rfl,hs,hp⟩
 | h::hs,owner,c,hz,hp,hl=>by
  simp only[bH] at hl;obtain⟨j0,hj0,e0⟩:=Lz hp hz (by lia);obtain⟨m,hm,em⟩:=Es (P:=λj=>owner.getD j (some 0)=none) R (j:=j0) (by lia) e0 13 (bits h % (mask+1)) (bits h) (jM (kD _ (by lia))) (Hz h);obtain⟨j,ej,hj,ef⟩:=Iw (turns mask) m _ _ (jM (kD _ (by lia))) hz em (by unfold turns;lia);rw[qQ];have step:((do
    let (owner,k) <-some (owner,c);let j <-jJ mask owner (turns mask) (bits h % (mask+1)) (bits h)
    pure (owner.setIfInBounds j (some k),k+1)):Option (Array (Option Nat) × Nat))=some (owner.setIfInBounds j (some c),c+1):=by
   show (jJ mask owner (turns mask) (bits h % (mask+1)) (bits h) >>= λj=>_)=_;rw[ej];rfl
  rw[step];have lt:j<owner.size:=by lia
  have perm:(KN (owner.setIfInBounds j (some c)) (mask+1)).Perm (dX (c+1)):=by
   unfold KN;refine (FR (f:=λi=>owner.getD i none) (x:=c) (j:=j) _ LX (gK.mpr (by lia)) ?_ ?_ ?_).trans ?_
   ·intro i hi;simp only[dW];rw[sO (Ne.symm hi)]
   ·simp only[dW] at ef ⊢;have:owner[j]? = some owner[j]:=bD lt;rw[this] at ef ⊢;exact ef
   ·simp only[dW];rw[pD lt];rfl
   ·rw[OO (n:=c)];exact (List.Perm.cons c hp).trans (BE (l₁:=[c]))
  obtain⟨o',r1,r2,r3⟩:=Ch R hs (owner.setIfInBounds j (some c)) (c+1) (by simp[hz]) perm (by lia);refine⟨o',?_,r2,?_⟩
  ·rw[r1,bH,show c+1+hs.length=c+(hs.length+1) by lia]
  ·rw[bH,show c+(hs.length+1)=c+1+hs.length by lia];exact r3
def Tb {mask:Nat} (R:h8 (mask+1)) (finger moves:Nat) (led plain:Bool) (hashes:Array Int) (hl:hashes.size<=mask) :
  ∃t order,laid mask finger moves led plain hashes=some (t,order)/\c_ t hashes.size/\t.mask=mask/\t.led=led/\t.plain=plain/\order.toList.Perm (dX hashes.size):=by
 obtain⟨o,e,sz,pm⟩:=Ch R hashes.toList (AL (mask+1) none) 0 (by simp) (by
  have:KN (AL (mask+1) none) (mask+1)=[]:=by
   unfold KN;rw[List.filterMap_eq_nil_iff];intro j hj;have:=gK.mp hj;simp[dW,this]
  rw[this];exact BW _) (by rw[cN];lia)
 have el:layClean mask hashes=some o:=by
  unfold layClean;rw[<-GQ];have e':=e;simp only[uN] at e';rw[e'];rfl
 unfold laid;rw[el];simp only[uN,cN] at pm;have e2:∀l:List Nat,(l.filterMap λj=>(o.getD j none).map (j,·)).map (·.2)=l.filterMap λj=>o.getD j none:=by
  intro l
  induction l with
  | nil=>rfl
  | cons j l ih =>
   rw[eS,eS];cases o.getD j none with
   | none=>exact ih
   | some k=>exact congrArg (k :: ·) ih
 have e3:∀l:List Nat,((l.filterMap λj=>(o.getD j none).map (j,·)).map (·.1)).Sublist l:=by
  intro l
  induction l with
  | nil=>exact IS _
  | cons j l ih =>
   rw[eS];cases o.getD j none with
   | none=>exact ih.cons j
   | some k=>exact ih.cons_cons j
 refine⟨_,_,rfl,⟨?_,rfl,hl,R,lZ (e3 _) List.pairwise_lt_range⟩,rfl,rfl,rfl,?_⟩
 ·have h1:=congrArg fM (e2 (dX (mask+1)));have h2:=pm.length_eq;unfold KN at h2;simp only[bV,IX] at h1 h2;simp only[aY,bV];lia
 ·dsimp only;rw[e2];exact pm
theorem QV (hr:xs.toList.Pairwise (· < ·)):∀(fuel lo hi:Nat),lo<=hi->hi<=xs.size->hi-lo<=fuel->(∀i x,i<lo->xs[i]? = some x->x<j)->(∀i x,hi<=i->xs[i]? = some x->j<=x) ->
  QU xs j fuel lo hi<=xs.size/\(∀i x,i<QU xs j fuel lo hi->xs[i]? = some x->x<j)/\(∀i x,QU xs j fuel lo hi<=i->xs[i]? = some x->j<=x)
 | 0,lo,hi,h1,h2,h3,a,b=>by
  have:lo=hi:=by lia
  subst this;exact⟨h2,a,b⟩
 | fuel+1,lo,hi,h1,h2,h3,a,b=>by
  unfold QU;by_cases hl:lo<hi
  ·rw[if_pos hl];dsimp only;have hm:(lo+hi) / 2<xs.size:=(by lia);have em:xs[(lo+hi) / 2]? = some xs[(lo+hi) / 2]:=bD hm;have eg:xs.getD ((lo+hi) / 2) j=xs[(lo+hi) / 2]:=(by simp[lN,hm]);have mono:∀(i k x y:Nat),i<k->xs[i]? = some x->xs[k]? = some y->x<y:=by
    intro i k x y ni ex ey;have hk:k<xs.size:=(jK.mp ey).1;have:=jS.mp hr i k (by simp;lia) (by simpa using hk) ni;rw[bD (by lia)] at ex;rw[bD hk] at ey;cases ex;cases ey;simpa using this
   rw[eg];split
   ·rename_i h;refine QV hr fuel _ _ (by lia) h2 (by lia) (λi x hq ex=>?_) b;by_cases he:i=(lo+hi) / 2
    ·subst he;rw[em] at ex;cases ex;exact h
    ·exact rX (mono i ((lo+hi) / 2) x _ (by lia) ex em) h
   ·rename_i h;refine QV hr fuel _ _ (by lia) (by lia) (by lia) a (λi x hq ex=>?_);by_cases he:i=(lo+hi) / 2
    ·subst he;rw[em] at ex;cases ex;lia
    ·have:=mono ((lo+hi) / 2) i _ x (by lia) em ex;lia
  ·rw[if_neg hl];have:lo=hi:=(by lia);subst this;exact⟨h2,a,b⟩
def JK (j:Nat) (hr:xs.toList.Pairwise (· < ·)):below xs j<=xs.size/\(∀i x,i<below xs j->xs[i]? = some x->x<j)/\(∀i x,below xs j<=i->xs[i]? = some x->j<=x) :=
 QV hr xs.size 0 xs.size (fV _) (bO _) (by lia) (λi x h=>absurd h (oI _)) λi x h e=>by
  have:=(jK.mp e).1;lia
def qL {α:Type} (xs:Array α) (p:Nat) (x:α) (hp:p<=xs.size):(insertAt xs p x).toList=xs.toList.take p++x::xs.toList.drop p:=by
 unfold insertAt;rw[uB,wK,BQ,BQ];simp only[List.extract_eq_drop_take,zP,QP,eQ,BG];congr 2;rw[nY (by simp)]
def FT {α:Type} (xs:Array α) (p:Nat) (x:α) (hp:p<=xs.size):(insertAt xs p x).size=xs.size+1:=by
 rw[<-cN,qL xs p x hp];simp;lia
def JZ {α:Type} (xs:Array α) (p:Nat) (x:α) (hp:p<=xs.size) (y:α):y∈(insertAt xs p x).toList↔y=x\/y∈xs.toList:=by
 rw[qL xs p x hp,cJ,aN];constructor
 ·rintro (h | h | h)
  ·exact cV (kL h)
  ·exact cY h
  ·exact cV (BZ h)
 ·rintro (h | h)
  ·exact cV (cY h)
  ·rw[<-gC p xs.toList] at h;rcases cJ.mp h with h | h
   ·exact cY h
   ·exact cV (cV h)
def Ze (T:c_ t n) (he:t.slot j = .empty) (hr:n+1<=t.mask):c_ (t.put j).1 (n+1)/\(t.put j).2=below t.place j/\below t.place j<=n/\(t.put j).1.mask=t.mask/\(t.put j).1.led=t.led/\(t.put j).1.plain=t.plain/\(t.put j).1.moves=t.moves:=by
 obtain⟨b1,b2,b3⟩:=JK j T.ris;have hn:t.place[below t.place j]?≠some j:=by
  intro h;unfold slot at he;dsimp only at he;rw[if_pos (by simpa using h)] at he;cases he
 have hd:(if has t.dummies j=true then eraseAt t.dummies (below t.dummies j) else t.dummies) = #[]:=by
  rw[T.dum];simp[has]
 refine⟨⟨?_,hd,hr,T.round,?_⟩,rfl,by rw[<-T.size];exact b1,rfl,rfl,rfl,rfl⟩
 ·show (insertAt t.place _ j).size=_;rw[FT _ _ _ b1,T.size]
 ·show (insertAt t.place _ j).toList.Pairwise _;rw[qL _ _ _ b1];refine jF.mpr ⟨lZ (IY _ _) T.ris,bZ.mpr ⟨λx hx=>?_,lZ (IU _ _) T.ris⟩,λx hx y hy=>?_⟩
  ·obtain⟨i,hi,e⟩:=eT hx;simp only[nH,cN] at hi;rw[IW] at e;have ex:t.place[below t.place j+i]? = some x:=(by rw[bD (by lia),<-e];simp);have:=b3 _ x (by lia) ex;rcases vU this with h | h
   ·exact h
   ·subst h;exfalso;cases i with
    | zero=>exact hn ex
    | succ i =>
     have hp:below t.place j<t.place.size:=(by lia);have e0:t.place[below t.place j]? = some t.place[below t.place j]:=bD hp;have g1:=b3 _ _ (bO _) e0;have g2:=jS.mp T.ris (below t.place j) (below t.place j+(i+1)) (by simpa using hp) (by simp;lia) (by lia);rw[bD (by lia)] at ex;injection ex with ex;simp at g2;lia
  ·obtain⟨i,hi,e⟩:=eT hx;simp only[gT,cN] at hi;rw[List.getElem_take] at e;have ex:t.place[i]? = some x:=(by rw[bD (by lia),<-e];simp);have lx:=b2 i x (by lia) ex;rcases aN.mp hy with rfl | hy
   ·exact lx
   ·obtain⟨k,hk,e'⟩:=eT hy;simp only[nH,cN] at hk;rw[IW] at e';have ey:t.place[below t.place j+k]? = some y:=(by rw[bD (by lia),<-e'];simp);have:=b3 _ y (by lia) ey;lia
def uT (t:SetTable) (k:Nat):Nat:=if k=0 then 0 else t.place.getD (k-1) 0+1
def Gm (T:c_ t n) (hk:k<=n):below t.place (uT t k)=k:=by
 obtain⟨b1,b2,b3⟩:=JK (uT t k) T.ris;have mono:∀(i k x y:Nat),i<k->t.place[i]? = some x->t.place[k]? = some y->x<y:=by
  intro i k x y ni ex ey;have hk:k<t.place.size:=(jK.mp ey).1;have:=jS.mp T.ris i k (by simp;lia) (by simpa using hk) ni;rw[bD (by lia)] at ex;rw[bD hk] at ey;cases ex;cases ey;simpa using this
 have sz:=T.size;have rp:∀i,i<n->t.place[i]? = some (t.place.getD i 0):=by
  intro i hi;rw[bD (by lia)];have:i<t.place.size:=by lia
  simp[lN,this]
 rcases Nat.lt_trichotomy (below t.place (uT t k)) k with h | h | h
 ·exfalso;have:=b3 (k-1) _ (by lia) (rp (k-1) (by lia));unfold uT at this;rw[if_neg (by lia)] at this;lia
 ·exact h
 ·exfalso;have ek:=rp k (by lia);have h1:=b2 k _ h ek;unfold uT at h1;by_cases h0:k=0
  ·rw[if_pos h0] at h1;lia
  ·rw[if_neg h0] at h1;have:=mono (k-1) k _ _ (by lia) (rp (k-1) (by lia)) ek;lia
def z9 (mask:Nat) (p:Probe):Probe:=if p.more > 0 then { p with j:=p.j+1,more:=p.more-1 } else
 { p with j:=(leap mask p.i p.perturb).1,more:=runEnd mask (leap mask p.i p.perturb).1-(leap mask p.i p.perturb).1,i:=(leap mask p.i p.perturb).1,perturb:=(leap mask p.i p.perturb).2 }
def X3 (mask i pt:Nat):Probe:={ j:=i,more:=runEnd mask i-i,i,perturb:=pt,dummy:=none }
def xx (mask:Nat) (h:Int):Probe:=X3 mask (bits h % (mask+1)) (bits h)
inductive jl (mask:Nat) (O:Nat->Prop) (j:Nat):Probe->Prop
 | here {p:Probe} (e:p.j=j):jl mask O j p
 | on {p:Probe} (o:O p.j) (v:jl mask O j (z9 mask p)):jl mask O j p
theorem jl.mono {mask j:Nat} {O O':Nat->Prop} {p:Probe} (h:jl mask O j p) (m:∀x,O x->O' x):jl mask O' j p:=by
 induction h with
 | here e=>exact .here e
 | on o v ih=>exact .on (m _ o) ih
def kw (t:SetTable) (x:Nat):Prop:=t.slot x≠.empty
def Cl (e:t.slot j = .live i):kw t j:=by unfold kw;rw[e];exact λz=>nomatch z
theorem WZ (hd:t.dummies = #[]) (hashAt:Nat->Int) (h:Int):∀(fuel:Nat) (p:Probe) (m:Nat),VR t p m->PF p m<fuel ->
  (∃j,Db t hashAt h fuel p=some (.empty j none)/\t.slot j = .empty/\jl t.mask (kw t) j p/\∀j1 i1,t.slot j1 = .live i1->hashAt i1=h->¬jl t.mask (kw t) j1 p) \/
  (∃j i next m',Db t hashAt h fuel p=some (.candidate j i next)/\t.slot j = .live i/\t.place[i]? = some j/\VR t next m'/\PF next m'<PF p m/\(∀x,jl t.mask (kw t) x next->jl t.mask (kw t) x p) /\
   ∀j1 i1,t.slot j1 = .live i1->hashAt i1=h->jl t.mask (kw t) j1 p->j1=j\/jl t.mask (kw t) j1 next)
 | 0,_,_,_,h=>absurd h (oI _)
 | fuel+1,p,m,hi,hf=>by
  unfold Db;rcases slot_of hd p.j with e | ⟨i,e,ep⟩
  ·rw[e];dsimp only;rw[hi.1];refine cY ⟨_,rfl,e,.here rfl,λj1 i1 e1 _ v=>?_⟩;cases v with
   | here ej=>rw[ej,e1] at e;cases e
   | on o _=>exact o e
  ·rw[e];dsimp only;have oc:=Cl e;obtain⟨m',i_,hl⟩:=An hi (by rw[e];exact λx=>nomatch x);split
   ·refine cV ⟨_,_,_,m',rfl,e,ep,i_,hl,λx v=>.on oc v,λj1 i1 e1 _ v=>?_⟩;cases v with
    | here ej=>exact .inl ej.symm
    | on _ v=>exact .inr v
   ·rename_i ne;have step:∀j1 i1,t.slot j1 = .live i1->hashAt i1=h->jl t.mask (kw t) j1 p->jl t.mask (kw t) j1 (t.advance p):=λj1 i1 e1 eh v=>by
     cases v with
     | here ej=>rw[ej,e1] at e;cases e;exact absurd (by rw[eh];simp) ne
     | on _ v=>exact v
    rcases WZ hd hashAt h fuel (t.advance p) m' i_ (by lia) with ⟨j,r,r1,r2,r3⟩ | ⟨j,i,nx,m'',r,r2,r3,r4,r5,r6,r7⟩
    ·exact cY ⟨j,r,r1,.on oc r2,λj1 i1 e1 eh v=>r3 j1 i1 e1 eh (step j1 i1 e1 eh v)⟩
    ·exact cV ⟨j,i,nx,m'',r,r2,r3,r4,by lia,λx v=>.on oc (r6 x v),λj1 i1 e1 eh v=>r7 j1 i1 e1 eh (step j1 i1 e1 eh v)⟩
def NJ {t:SetTable} (hr:t.place.toList.Pairwise (· < ·)) {i j:Nat} (e:t.place[i]? = some j):t.slot j = .live i:=by
 obtain⟨b1,b2,b3⟩:=JK j hr;obtain⟨hi,ei⟩:=jK.mp e;have le:below t.place j<=i:=by
  apply Nat.not_lt.mp;intro lt;exact hE _ (b2 i j lt e)
 have eq:below t.place j=i:=by
  rcases vU le with lt | eq
  ·exfalso;have hb:below t.place j<t.place.size:=(by lia);have g1:=b3 _ _ (bO _) (bD hb);have g2:=jS.mp hr (below t.place j) i (by simpa using hb) (by simpa using hi) lt;simp at g2;lia
  ·exact eq
 unfold slot;dsimp only;rw[eq,if_pos (by rw[e];simp)]
def ZL (hd:t.dummies = #[]) (hr:t.place.toList.Pairwise (· < ·)):kw t x↔x∈t.place.toList:=by
 constructor
 ·intro h;rcases slot_of hd x with e | ⟨i,_,e⟩
  ·exact absurd e h
  ·exact iG.mpr (BA e)
 ·intro h;obtain⟨i,hi,e⟩:=BN (iG.mp h);exact Cl (NJ hr (by rw[bD hi,e]))
def G' {α:Type} (t:SetTable) (es:List (Int × α)):Prop:=∀x∈t.place.toList.zip es,jl t.mask (kw t) x.1 (xx t.mask x.2.1)
def Hn {α β:Type} (A:List α) (B:List β) (hl:A.length=B.length) (p:Nat) (a:α) (b:β) {x:α × β} (h:x∈(A.take p++a::A.drop p).zip (B.take p++b::B.drop p)):x=(a,b)\/x∈A.zip B:=by
 rw[AN (by rw[gT,gT,hl]),nZ] at h;rcases cJ.mp h with h | h
 ·refine .inr ?_;rw[<-gC p A,<-gC p B,AN (by rw[gT,gT,hl])];exact cU _ h
 ·rcases aN.mp h with h | h
  ·exact .inl h
  ·refine .inr ?_;rw[<-gC p A,<-gC p B,AN (by rw[gT,gT,hl])];exact aV _ h
def Sh {α:Type} {es:Array (Int × α)} {e:Int × α} (T:c_ t es.size) (T1:c_ (t.put j).1 (es.size+1)) (c:G' t es.toList) (v:jl t.mask (kw t) j (xx t.mask e.1)):G' (t.put j).1 (insertAt es (below t.place j) e).toList:=by
 obtain⟨b1,_,_⟩:=JK j T.ris;have pl:(t.put j).1.place=insertAt t.place (below t.place j) j:=rfl;have up:∀x,kw t x->kw (t.put j).1 x:=λx o=>(ZL T1.dum T1.ris).mpr (by
  rw[pl,JZ _ _ _ b1];exact .inr ((ZL T.dum T.ris).mp o))
 intro x hx;rw[pl,qL _ _ _ b1,qL _ _ _ (by rw[<-T.size];exact b1)] at hx;rcases Hn _ _ (by rw[cN,cN,T.size]) _ _ _ hx with rfl | h
 ·exact v.mono up
 ·exact (c x h).mono up
def ya (mask:Nat) (owner:Array (Option Nat)) (x:Nat):Prop:=x<=mask/\owner.getD x (some 0)≠none
theorem Kg {mask i pt:Nat}:∀(k a m:Nat),k<=m->(∀b,b<k->O (a+b))->jl mask O (a+k) { j:=a,more:=m,i,perturb:=pt,dummy:=none }
 | 0,a,m,_,_=>.here rfl
 | k+1,a,m,h,o=>by
  refine .on (o 0 (by lia)) ?_;have e:z9 mask { j:=a,more:=m,i,perturb:=pt,dummy:=none } = { j:=a+1,more:=m-1,i,perturb:=pt,dummy:=none }:=by
   unfold z9;dsimp only;rw[if_pos (by lia)]
  rw[e,show a+(k+1)=(a+1)+k by lia];exact Kg k (a+1) (m-1) (by lia) λb hb=>by rw[show a+1+b=a+(b+1) by lia];exact o (b+1) (by lia)
theorem Eo {mask i pt x:Nat}:∀(m a:Nat),(∀b,b<=m->O (a+b))->jl mask O x (X3 mask (leap mask i pt).1 (leap mask i pt).2)->jl mask O x { j:=a,more:=m,i,perturb:=pt,dummy:=none }
 | 0,a,o,v=>.on (o 0 (bO _)) v
 | m+1,a,o,v=>by
  refine .on (o 0 (by lia)) ?_;have e:z9 mask { j:=a,more:=m+1,i,perturb:=pt,dummy:=none } = { j:=a+1,more:=m,i,perturb:=pt,dummy:=none }:=by
   unfold z9;dsimp only;rw[if_pos (by lia)];rfl
  rw[e];exact Eo m (a+1) (λb hb=>by rw[show a+1+b=a+(b+1) by lia];exact o (b+1) (by lia)) v
def Fw (h:(dX n).find? p=some k):∀b,b<k->p b=false:=by
 rw[List.find?_range_eq_some] at h;intro b hb;have:=h.2.2 b hb;simpa using this
theorem Bw {mask:Nat} {owner:Array (Option Nat)}:∀(fuel i pt j:Nat),i<=mask->jJ mask owner fuel i pt=some j->j<=mask/\jl mask (ya mask owner) j (X3 mask i pt)
 | 0,_,_,_,_,h=>by cases h
 | fuel+1,i,pt,j,hi,h=>by
  have re:i<=runEnd mask i/\runEnd mask i<=mask:=by unfold runEnd;split <;> lia
  unfold jJ at h;cases hq:(dX (runEnd mask i+1-i)).find? λk=>(owner.getD (i+k) (some 0)).isNone with
  | some k =>
   rw[hq] at h;cases h;have h3:=gK.mp (wG hq);refine⟨by lia,Kg k i _ (by lia) λb hb=>⟨by lia,?_⟩⟩;have:=Fw hq b hb;intro z;rw[z] at this;cases this
  | none =>
   rw[hq] at h;dsimp only at h;have ho:∀b,b<=runEnd mask i-i->ya mask owner (i+b):=λb hb=>⟨by lia,λz=>by
    have h0:=GU.mp hq b (gK.mpr (by lia));rw[z] at h0;exact h0 rfl⟩
   obtain⟨r1,r2⟩:=Bw fuel _ _ j (by unfold leap;exact jM (kD _ (by lia))) h;exact⟨r1,Eo _ i ho r2⟩
def Vv (mask:Nat) (pre:List Int) (owner:Array (Option Nat)):Prop:=∀j k,owner.getD j none=some k->∃hk,pre[k]? = some hk/\jl mask (ya mask owner) j (xx mask hk)
def KE (mask:Nat) (acc:Option (Array (Option Nat) × Nat)) (h:Int):Option (Array (Option Nat) × Nat):=do
 let (owner,k) <-acc;let j <-jJ mask owner (turns mask) (bits h % (mask+1)) (bits h)
 pure (owner.setIfInBounds j (some k),k+1)
theorem Ci {mask:Nat}:∀hs:List Int,hs.foldl (KE mask) none=none
 | []=>rfl
 | _::hs=>Ci hs
theorem Ja {mask:Nat}:∀(hs pre:List Int) (owner o':Array (Option Nat)) (n:Nat),hs.foldl (KE mask) (some (owner,pre.length))=some (o',n)->owner.size=mask+1->Vv mask pre owner->o'.size=mask+1/\Vv mask (pre++hs) o'
 | [],pre,owner,o',n,e,hz,I=>by cases e;rw[eJ];exact⟨hz,I⟩
 | h::hs,pre,owner,o',n,e,hz,I=>by
  rw[qQ] at e;cases ej:jJ mask owner (turns mask) (bits h % (mask+1)) (bits h) with
  | none =>
   have:KE mask (some (owner,pre.length)) h=none:=by
    show (jJ mask owner (turns mask) (bits h % (mask+1)) (bits h) >>= λj=>_)=_;rw[ej];rfl
   rw[this,Ci] at e;cases e
  | some j =>
   obtain⟨hj,vj⟩:=Bw _ _ _ _ (jM (kD _ (by lia))) ej;have st:KE mask (some (owner,pre.length)) h=some (owner.setIfInBounds j (some pre.length),pre.length+1):=by
    show (jJ mask owner (turns mask) (bits h % (mask+1)) (bits h) >>= λj=>_)=_;rw[ej];rfl
   have lt:j<owner.size:=(by lia);have same:∀x,x≠j->∀d,(owner.setIfInBounds j (some pre.length)).getD x d=owner.getD x d:=λx hx d=>by
    simp only[dW];rw[sO (Ne.symm hx)]
   have at_:∀d,(owner.setIfInBounds j (some pre.length)).getD j d=some pre.length:=λd=>by
    simp only[dW];rw[pD lt];rfl
   have up:∀x,ya mask owner x->ya mask (owner.setIfInBounds j (some pre.length)) x:=λx ⟨a,b⟩=>⟨a,by
    by_cases hx:x=j
    ·subst hx;rw[at_];exact λz=>nomatch z
    ·rw[same x hx];exact b⟩
   rw[st,show pre.length+1=(pre++[h]).length by simp] at e;have:=Ja hs (pre++[h]) _ o' n e (by simp[hz]) λj1 k e1=>by
    by_cases hx:j1=j
    ·subst hx;rw[at_] at e1;cases e1;exact⟨h,by simp,vj.mono up⟩
    ·rw[same j1 hx] at e1;obtain⟨hk,g1,g2⟩:=I j1 k e1;exact⟨hk,by rw[dH (bG.mp g1).1];exact g1,g2.mono up⟩
   rw[eQ] at this;exact this
theorem Ph {mask finger moves:Nat} {led plain:Bool} {hashes:Array Int} {t:SetTable} {ord:Array Nat} (e:laid mask finger moves led plain hashes=some (t,ord)) (T:c_ t hashes.size) :
  ∀x∈t.place.toList.zip ord.toList,∃hk,hashes.toList[x.2]? = some hk/\jl t.mask (kw t) x.1 (xx t.mask hk):=by
 unfold laid at e;cases ec:layClean mask hashes with
 | none=>rw[ec] at e;cases e
 | some o =>
  rw[ec] at e;have e:some _=some (t,ord):=e;have s9:((hashes.toList.foldl (KE mask) (some (AL (mask+1) none,0))).map (·.1))=some o:=by
   rw[<-ec];unfold layClean;rw[<-GQ];rfl
  obtain⟨⟨o1,n⟩,e1,rfl⟩:=rY.mp s9;obtain⟨sz,I⟩:=Ja hashes.toList [] _ o1 n e1 (by simp) λj k z=>by
   simp only[dW] at z;by_cases hj:j<mask+1
   ·rw[bD (by simpa using hj)] at z;simp at z
   ·rw[rO (by simpa using hj)] at z;cases z
  cases e;dsimp only at T ⊢;intro x hx;rw[<-List.unzip_fst,<-List.unzip_snd] at hx;have hx:x∈(dX (mask+1)).filterMap λj=>(o1.getD j none).map (j,·):=by
   have z:=List.zip_unzip ((dX (mask+1)).filterMap λj=>(o1.getD j none).map (j,·));rw[<-z];exact hx
  obtain⟨j,hj,ex⟩:=kC.mp hx;obtain⟨k,ek,rfl⟩:=rY.mp ex;obtain⟨hk,g1,g2⟩:=I j k ek;refine⟨hk,by simpa using g1,g2.mono λy ⟨y1,y2⟩=>(ZL T.dum T.ris).mpr ?_⟩;dsimp only;have lt:y<o1.size:=by lia
  simp only[dW,bD lt] at y2;cases ey:o1[y] with
  | none=>rw[ey] at y2;exact absurd rfl y2
  | some k' =>
   refine bJ.mpr ⟨(y,k'),kC.mpr ⟨y,gK.mpr (by lia),?_⟩,rfl⟩;simp only[dW,bD lt,ey];rfl
theorem Rv {α β γ:Type} {f:β->Option γ}:∀(P:List α) (Q:List β),(∀q∈Q,∃y,f q=some y)->∀x∈P.zip (Q.filterMap f),∃q,(x.1,q)∈P.zip Q/\f q=some x.2
 | [],_,_,x,h=>by cases h
 | _::_,[],_,x,h=>by cases h
 | p::P,q::Q,hf,x,h=>by
  obtain⟨y,ey⟩:=hf q (.head _);rw[eS,ey] at h;rcases aN.mp h with rfl | h
  ·exact⟨q,.head _,ey⟩
  ·obtain⟨q',h1,h2⟩:=Rv P Q (λz hz=>hf z (.tail _ hz)) x h;exact⟨q',.tail _ h1,h2⟩
section
variable {prog:bU} {w:dJ} {A:dD} {E:aB->aF->Prop} {s:aF}
theorem Ef (hk:IsTupleKey (intKind prog w) s.heap ks a) (q:Q false s):wpAny (model prog w) A (ofAClassStatement 8 (.ref a)) Q E s:=by
 have hT:=hk.typeIs;obtain⟨o,items,n,ho,_,hd,hi⟩:=hk;unfold ofAClassStatement;refine aA (sN hT ?_);dsimp only;rw[if_pos (by decide)];refine aA (aJ ?_);simp only[fU,aO,if_false];refine aA (fD ho hd ?_)
 try dsimp only
 refine aA ?_;rw[<-qV];refine tJ _ (λrest r s'=>r.1=none/\s'=s/\∀v∈rest,carriedByValue v=true) _ ?_ ?_ _ _ ⟨rfl,rfl,hi.byValue⟩
 ·rintro v rest r s' ⟨hr,rfl,du⟩;have hv:=du v cF;have e:ofAClassStatement 7 v=pure false:=by
   cases v with
   | ref a=>simp[carriedByValue] at hv
   | _=>first | rfl | (unfold ofAClassStatement;rfl)
  rw[e];refine aA (aJ ?_);simp only[aO,if_false];exact aJ ⟨rfl,rfl,λu wf=>du u (aT _ wf)⟩
 ·rintro⟨r1,r2⟩ s' ⟨hr,rfl,_⟩;simp only at hr;subst hr;exact aJ q
theorem Hi (hk:IsTupleKey (intKind prog w) s.heap ks a) (q:Q true s):wpAny (model prog w) A (hashByValue 8 (.ref a)) Q E s:=by
 have hT:=hk.typeIs;obtain⟨o,items,n,ho,_,hd,hi⟩:=hk;unfold hashByValue;refine aA (oN hT F.slot_tuple_hash.lookup ?_)
 try dsimp only
 refine aA (fD ho hd ?_)
 try dsimp only
 refine aA ?_;show wpAny _ _ (forIn items _ _) _ _ s;rw[<-qV];refine tJ _ (λrest r s'=>r.1=none/\s'=s/\∃ks',ItemsAre (intKind prog w) ks' rest) _ ?_ ?_ _ _ ⟨rfl,rfl,ks,hi⟩
 ·rintro v rest r s' ⟨hr,rfl,ks',du⟩;cases du with
  | @cons k _ ks'' _ h1 h2 =>
   have e:hashByValue 7 v=pure true:=by
    obtain⟨t,rfl⟩:∃t,v = .int k t:=by
     cases v <;> simp[intKind,NP] at h1;exact⟨_,by rw[h1]⟩
    rfl
   rw[e];refine aA (aJ ?_);simp only[fU,aO,if_false];exact aJ ⟨rfl,rfl,_,h2⟩
 ·rintro⟨r1,r2⟩ s' ⟨hr,rfl,_⟩;simp only at hr;subst hr;exact aJ q
theorem Va {ks:List Int} {a:Addr} {stored:List aB} {Q:Bool->aF->Prop} (hk:IsTupleKey (intKind prog w) s.heap ks a) (hs:∀y∈stored,∃ks' b,y = .ref b/\IsTupleKey (intKind prog w) s.heap ks' b) (q:Q false s) :
  wpAny (model prog w) A (searchCouldBeSeen (.ref a) stored) Q E s:=by
 unfold searchCouldBeSeen;refine aA ?_;refine tJ _ (λrest r s'=>r.1=none/\s'=s/\∀y∈rest,y∈stored) _ ?_ ?_ _ _ ⟨rfl,rfl,λ_ h=>h⟩
 ·rintro v rest r s' ⟨hr,rfl,du⟩;obtain⟨ks',b,rfl,hb⟩:=hs v (du v cF);have ul:∀y∈rest,y∈stored:=λu wf=>du u (aT _ wf);dsimp only;by_cases hv:((a == b) || (carriedByValue (gD a) && carriedByValue (gD b)))=true
  ·rw[if_pos hv];exact aJ ⟨rfl,rfl,ul⟩
  ·rw[if_neg hv];refine aA (BM hk ?_);simp only[fU,aO,if_false];refine aA (BM hb ?_);simp only[fU,aO,if_false];refine aA (Ef hk ?_);simp only[aO,if_false];refine aA (Ef hb ?_);simp only[aO,if_false];exact aJ ⟨rfl,rfl,ul⟩
 ·rintro⟨r1,r2⟩ s' ⟨hr,rfl,_⟩;simp only at hr;subst hr;exact aJ q
def oA (w:dJ):Bool:=w.params.followText "set-order"
def Wr (prog:bU) (w:dJ) (h:Heap) (es:Array (Int × aB)):Prop:=∀e∈es.toList,∃ks b,e=(tupleKeyHash (intKind prog w) ks,.ref b)/\IsTupleKey (intKind prog w) h ks b
def Nh (mask n:Nat):Prop:=(mask=7/\n<=4)\/(mask=31/\n<=18)\/(mask=127/\n<=76)
def oT (es:Array (Int × aB)) (ep:Nat) (t:SetTable):Obj:={ cls:=.type "set",dict:=none,data:=.set es ep t }
theorem c_.fits (T:c_ t n):t.fits n=true:=by
 unfold SetTable.fits fill;rw[T.dum,T.size];simp;exact T.room
theorem Ox {mask n:Nat} (h:Nh mask n):(mask % 2 == 0)=false:=by
 rcases h with ⟨rfl,_⟩ | ⟨rfl,_⟩ | ⟨rfl,_⟩ <;> rfl
def g9 (prog:bU) (w:dJ) (h:Heap):List (Int × aB)->List (List Int)->Prop
 | [],[]=>True
 | e::es,k::ks=>(∃b,e=(tupleKeyHash (intKind prog w) k,.ref b)/\IsTupleKey (intKind prog w) h k b)/\g9 prog w h es ks
 | _,_=>False
theorem g9.get:∀{es:List (Int × aB)} {kss:List (List Int)} {i:Nat} {e:Int × aB},g9 prog w h es kss->es[i]? = some e->∃k,kss[i]? = some k/\∃b,e=(tupleKeyHash (intKind prog w) k,.ref b)/\IsTupleKey (intKind prog w) h k b
 | _::_,k::_,0,_,K,e=>by cases e;exact⟨k,rfl,K.1⟩
 | _::es,_::ks,i+1,_,K,e=>g9.get (es:=es) (kss:=ks) (i:=i) K.2 e
 | [],_,_,_,_,e=>by cases e
theorem g9.len:∀{es:List (Int × aB)} {kss:List (List Int)},g9 prog w h es kss->es.length=kss.length
 | [],[],_=>rfl
 | _::_,_::_,K=>congrArg (· + 1) (g9.len K.2)
theorem g9.mono:∀{es:List (Int × aB)} {kss:List (List Int)},g9 prog w h es kss->(∀k b,(∃e∈es,e.2 = .ref b)->IsTupleKey (intKind prog w) h k b->IsTupleKey (intKind prog w) h' k b)->g9 prog w h' es kss
 | [],[],_,_=>trivial
 | _::_,_::_,⟨⟨b,e,hb⟩,K⟩,m=>⟨⟨b,e,m _ b ⟨_,.head _,by rw[e]⟩ hb⟩,K.mono λk b ⟨x,hx,ex⟩ q=>m k b ⟨x,.tail _ hx,ex⟩ q⟩
theorem g9.perm (p:es.Perm qp):∀{kss:List (List Int)},g9 prog w h es kss->∃t6,kss.Perm t6/\g9 prog w h qp t6:=by
 induction p with
 | nil=>exact λ{kss} K=>⟨kss,.refl _,K⟩
 | cons x _ ih =>
  intro kss K;cases kss with
  | nil=>exact K.elim
  | cons k kss =>
   obtain⟨t6,p',K'⟩:=ih K.2;exact⟨k::t6,.cons k p',K.1,K'⟩
 | swap x y l =>
  intro kss K;cases kss with
  | nil=>exact K.elim
  | cons k kss =>
   cases kss with
   | nil=>exact K.2.elim
   | cons k' kss=>exact⟨k'::k::kss,.swap _ _ _,K.2.1,K.1,K.2.2⟩
 | trans _ _ ih1 ih2 =>
  intro kss K;obtain⟨k1,p1,K1⟩:=ih1 K;obtain⟨k2,p2,K2⟩:=ih2 K1;exact⟨k2,p1.trans p2,K2⟩
theorem XO {S a:Addr} {ep:Nat} (hu:A.units<cLine) (ho:s.heap.get? S=some (oT es ep t)) (T:c_ t es.size) (hf:Nh t.mask es.size) (he:Wr prog w s.heap es)
  (hk:IsTupleKey (intKind prog w) s.heap ks a) (q1:(∃e∈es.toList,∃b,e.2 = .ref b/\IsTupleKey (intKind prog w) s.heap ks b)->Q (.there none) s) {kss:List (List Int)} (KL:g9 prog w s.heap es.toList kss) (q2:∀j,t.slot j = .empty->jl t.mask (kw t) j (xx t.mask (tupleKeyHash (intKind prog w) ks))->ks ∉ kss->Q (.free j false) s) :
  ∀(fuel:Nat) (j7:Option Probe) (m:Nat),VR t (j7.getD (t.probeStart (tupleKeyHash (intKind prog w) ks))) m->PF (j7.getD (t.probeStart (tupleKeyHash (intKind prog w) ks))) m<10*turns t.mask->PF (j7.getD (t.probeStart (tupleKeyHash (intKind prog w) ks))) m<fuel ->
   (∀x,jl t.mask (kw t) x (j7.getD (t.probeStart (tupleKeyHash (intKind prog w) ks)))->jl t.mask (kw t) x (xx t.mask (tupleKeyHash (intKind prog w) ks)))->(∀j1 i1:Nat,t.place[i1]? = some j1->kss[i1]? = some ks->jl t.mask (kw t) j1 (j7.getD (t.probeStart (tupleKeyHash (intKind prog w) ks)))) ->
   wpAny (model prog w) A (setSearchFrom S (.ref a) (tupleKeyHash (intKind prog w) ks) true fuel j7) Q E s
 | 0,_,_,_,_,h,_,_=>absurd h (oI _)
 | fuel+1,j7,m,hi,hm,hl,v1,v2=>by
  have hashAt:∀i1:Nat,kss[i1]? = some ks->(es[i1]?.map (·.1)).getD 0=tupleKeyHash (intKind prog w) ks:=λi1 e1=>by
   have lt:i1<es.toList.length:=(by rw[KL.len];exact (bG.mp e1).1);obtain⟨k,g1,b,g2,_⟩:=KL.get (aG lt);rw[e1] at g1;cases g1;have:es[i1]? = some es.toList[i1]:=(by rw[<-jU,aG lt]);rw[this,g2];rfl
  unfold setSearchFrom;refine aA (jP ho rfl T.fits ?_);dsimp only;rw[if_neg (by unfold SetTable.gaveWay;rw[Ox hf];exact cC)];unfold probe;rcases WZ T.dum _ (tupleKeyHash (intKind prog w) ks) (10*turns t.mask) _ m hi hm with ⟨j,e,ej,w1,w2⟩ | ⟨j,i,next,m',e,ej,ym,i_,xm,w1,w2⟩
  ·rw[e];dsimp only;refine aJ (q2 j ej (v1 _ w1) λv5=>?_);obtain⟨i1,lt,e1⟩:=eT v5;have e1:kss[i1]? = some ks:=(by rw[aG lt,e1]);have lp:i1<t.place.size:=(by rw[T.size,<-cN,KL.len];exact lt);have xi:t.place[i1]? = some t.place[i1]:=bD lp;exact w2 _ i1 (NJ T.ris xi) (hashAt i1 e1) (v2 _ i1 xi e1)
  ·rw[e];dsimp only;have hil:i<es.size:=by
    have:=(jK.mp ym).1;rw[T.size] at this;exact this
   have ei:es[i]? = some es[i]:=bD hil;have mi:es[i]∈es.toList:=(by simp);obtain⟨ks',kk',b,ee,hb⟩:=KL.get (i:=i) (e:=es[i]) (by rw[jU];exact ei);have rest:wpAny (model prog w) A (match es[i]? with
    | some (fst,y)=>do
     let equal <-holding [y] (eqBool y (gD a));let X0 <-setState S
     if (true && equal)=true then pure (QS none)
      else
       match X0.2.snd.sameMemory t.moves t.mask with
       | some same =>
        let Cb <-match if same=true then X0.2.snd.slot j else Slot.empty with
        | Slot.live i' =>
         match X0.fst[i']? with
         | some (fst,y')=>do pure (if <-isSame y' y then some i' else none)
         | none=>pure none
        | _=>pure none
        match Cb with
        | none=>do
         rule "set.search.anew"
         setSearchFrom S (gD a) (tupleKeyHash (intKind prog w) ks) true fuel none
        | some i' =>
         if equal=true then pure (QS (some i'))
         else setSearchFrom S (gD a) (tupleKeyHash (intKind prog w) ks) true fuel (some next)
       | _=>unsupported "set.changed-during-lookup:is-the-new-block-at-the-old-address"
    | _=>unsupported "internal:set-entry") Q E s:=by
    rw[ei,ee];dsimp only;refine aA (fG (wpAny_eqBool_tuple hu hb hk ?_));refine aA (jP ho rfl T.fits ?_);dsimp only;by_cases r9:ks'=ks
    ·subst r9;rw[if_pos (by simp)];exact aJ (q1 ⟨_,mi,b,by rw[ee],hb⟩)
    ·rw[if_neg (by simp[r9])];have sm:t.sameMemory t.moves t.mask=some true:=(by unfold sameMemory;rw[if_pos (by simp)]);rw[sm];dsimp only;rw[if_pos rfl,ej];dsimp only;rw[ei,ee];dsimp only;refine aA ?_;have same:isSame (.ref b) (.ref b)=pure true:=by
      show (if (b == b)=true then pure true else _)=_;rw[if_pos (by simp)]
     rw[same];refine aJ (aA (aJ ?_));rw[if_pos rfl];dsimp only;rw[if_neg (by simp[r9])];refine XO hu ho T hf he hk q1 KL q2 fuel (some next) m' i_ (rX xm hm) (by simp only[pX];lia) (λx v=>v1 x (w1 x v)) λj1 i1 e1 k1=>?_;have sl:=NJ T.ris e1;rcases w2 j1 i1 sl (hashAt i1 k1) (v2 j1 i1 e1 k1) with rfl | h
     ·rw[sl] at ej;cases ej;rw[k1] at kk';cases kk';exact absurd rfl r9
     ·exact h
   cases tu:t.led with
   | true =>
    simp only[fU,aO,if_false];exact rest
   | false =>
    simp only[nF,if_true];refine aA (Va hk ?_ ?_)
    ·intro y hy;obtain⟨e0,he0,rfl⟩:=bJ.mp hy;have:=(Array.mem_filter.mp (iG.mp he0)).1;obtain⟨ks1,b1,e1,h1⟩:=he e0 (iG.mpr this);exact⟨ks1,b1,by rw[e1],h1⟩
    ·simp only[aO,if_false];exact rest
structure iz (prog:bU) (w:dJ) (h:Heap) (S:Addr) (es:Array (Int × aB)):Prop where
 tab:∃ep t,h.get? S=some (oT es ep t)/\c_ t es.size/\Nh t.mask es.size/\t.led = !oA w/\t.plain=true/\G' t es.toList
 els:Wr prog w h es
 dis:∃kss,g9 prog w h es.toList kss/\kss.Nodup
theorem rJ {S b:Addr} {ep:Nat} (hS:h.get? S=some (oT es ep t)) (up:∀b o,b≠S->h.get? b=some o->h'.get? b=some o) (hk:IsTupleKey (intKind prog w) h ks b):IsTupleKey (intKind prog w) h' ks b:=by
 obtain⟨o,items,n,ho,hc,hd,hi⟩:=hk;refine⟨o,items,n,up b o ?_ ho,hc,hd,hi⟩;rintro rfl;rw[hS] at ho;cases ho;exact nomatch hd
theorem Bz (h:n<100):QT n=n*4:=by
 unfold QT;rw[if_neg (by lia)]
theorem Hf {S a:Addr} (hu:A.units<cLine) (H:iz prog w s.heap S es) (hk:IsTupleKey (intKind prog w) s.heap ks a) (hn:es.size<76)
  (q:∀b h' tk qp,iz prog w h' S qp->(∀y∈qp.toList,y∈es.toList\/y.2 = .ref a)->(∀y∈es.toList,y∈qp.toList)->(∃y∈qp.toList,∃b,y.2 = .ref b/\IsTupleKey (intKind prog w) h' ks b)->qp.size<=es.size+1 ->
   (∀b o,b≠S->s.heap.get? b=some o->h'.get? b=some o)->h'.objs.size=s.heap.objs.size->s.toks<=tk->Q b { s with heap:=h',toks:=tk }) :
  wpAny (model prog w) A (setAdd S (.ref a)) Q E s:=by
 obtain⟨⟨ep,t,ho,T,hf,tu,j2,vt⟩,vw,kss,KL,knd⟩:=H;unfold setAdd;refine fG (aA (wpAny_pyHash_tuple hu hk ?_));unfold setAddHashed;refine fG ?_;unfold setAddHashedIn;refine aA (jP (s:={ s with toks:=s.toks+(ks.length+1) }) ho rfl T.fits ?_);dsimp only;have nb:byScan (.ref a) es=false:=by unfold byScan;simp[Value.scannable]
 rw[nb];simp only[aO,if_false];obtain⟨m,hi,hm⟩:=Mu T (tupleKeyHash (intKind prog w) ks);have hm2:PF (t.probeStart (tupleKeyHash (intKind prog w) ks)) m<100000:=by
  refine bQ hm ?_;unfold turns;rcases hf with ⟨e,_⟩ | ⟨e,_⟩ | ⟨e,_⟩ <;> rw[e] <;> decide
 unfold setSearch;refine aA (XO (s:={ s with toks:=s.toks+(ks.length+1) }) hu ho T hf vw hk ?_ KL ?_ 100000 none m hi hm hm2 (λx v=>v) ?_)
 ·rintro⟨e,he,b,e2,hb⟩;dsimp only;refine aJ ?_;exact q false s.heap _ es ⟨⟨ep,t,ho,T,hf,tu,j2,vt⟩,vw,kss,KL,knd⟩ (λy hy=>cY hy) (λy hy=>hy) ⟨e,he,b,e2,hb⟩ (by lia) (λb o _ e=>e) rfl (by show s.toks<=s.toks+_;lia)
 ·intro j hj hvia hnk;dsimp only;refine aA (jP (s:={ s with toks:=s.toks+(ks.length+1) }) ho rfl T.fits ?_);dsimp only;have room:es.size+1<=t.mask:=by rcases hf with ⟨e,h⟩ | ⟨e,h⟩ | ⟨e,h⟩ <;> lia
  obtain⟨T1,p1,p2,p3,p4,p5,p6⟩:=Ze T hj room;rw[p5,j2];simp only[if_true];refine aA (Hi (s:={ s with toks:=s.toks+(ks.length+1) }) hk ?_);simp only[if_true];rw[p1];have sz:=FT es (below t.place j) (tupleKeyHash (intKind prog w) ks,gD a) p2;have mem:=JZ es (below t.place j) (tupleKeyHash (intKind prog w) ks,gD a) p2;have ye:=Sh (e:=(tupleKeyHash (intKind prog w) ks,gD a)) T T1 vt hvia;have q8:=PySem.SetTable.insertAt_perm es (below t.place j) (tupleKeyHash (intKind prog w) ks,gD a);rw[wK] at q8;have q8:=(q8.trans (BE (l₁:=es.toList) (l₂:=[_]))).symm;generalize insertAt es (below t.place j) (tupleKeyHash (intKind prog w) ks,gD a)=h_ at sz mem ye q8;refine aA (LL (s:={ s with toks:=s.toks+(ks.length+1) }) ho rfl ?_ (by rw[sz,jQ];lia));have up1:∀b o,b≠S->s.heap.get? b=some o->(s.heap.update S (pG h_ (t.put j).1)).get? b=some o:=λb o hb e=>(cD _ _ (Ne.symm hb)).trans e;obtain⟨xi,g1⟩:∃xi,(s.heap.update S (pG h_ (t.put j).1)).get? S=some (oT h_ xi (t.put j).1):=⟨_,dL _ ho rfl⟩;have z1:(s.heap.update S (pG h_ (t.put j).1)).objs.size=s.heap.objs.size:=(hV ..).1;generalize s.heap.update S (pG h_ (t.put j).1)=h1 at up1 g1 z1;have yk:Wr prog w h1 h_:=by
   intro e he;rcases (mem e).mp he with rfl | he
   ·exact⟨ks,a,rfl,rJ ho up1 hk⟩
   ·obtain⟨ks',b,r1,r2⟩:=vw e he;exact⟨ks',b,r1,rJ ho up1 r2⟩
  obtain⟨zq,sd,KL1⟩:=g9.perm q8 (kss:=ks::kss) ⟨⟨a,rfl,rJ ho up1 hk⟩,KL.mono λk b _ q=>rJ ho up1 q⟩;have zp:zq.Nodup:=sd.nodup_iff.mp (fJ.mpr ⟨hnk,knd⟩);have J':c_ (t.put j).1 h_.size:=by rw[sz];exact T1
  have ug:(t.put j).1.fill=h_.size:=by unfold fill;rw[J'.size,J'.dum];simp
  by_cases tf:(t.put j).1.tooFull=true
  ·rw[tf];simp only[nF,Bool.and_self,if_true];have tf':=tf;unfold tooFull at tf';rw[ug,p3,sz] at tf';simp only[ge_iff_le,decide_eq_true_eq] at tf';have n9:(t.mask=7/\es.size=4)\/(t.mask=31/\es.size=18):=(by rcases hf with ⟨e,h⟩ | ⟨e,h⟩ | ⟨e,h⟩ <;> lia);unfold setRelay;refine aA (aA (jP (s:={ s with heap:=h1,toks:=s.toks+(ks.length+1) }) g1 rfl J'.fits ?_));dsimp only;have hw:SetTable.sizeAbove (grown (es.size+1))=(if t.mask=7 then 32 else 128):=by
    rw[Bz (by lia)];rcases n9 with ⟨e,h⟩ | ⟨e,h⟩ <;> rw[e,h] <;> decide
   rw[if_neg (by rw[hw,jQ];split <;> decide)];have R:h8 ((if t.mask=7 then 31 else 127)+1):=by
    split
    ·exact Ux
    ·exact Re
   obtain⟨t2,order,l1,T2,l3,l4,l5,l6⟩:=Tb R (t.put j).1.finger ((t.put j).1.movedTo (if t.mask=7 then 31 else 127)) (t.put j).1.led (t.put j).1.plain (h_.map (·.1)) (by rw[BO,sz];rcases n9 with ⟨e,h⟩ | ⟨e,h⟩ <;> rw[e,h] <;> decide);have er:(t.put j).1.relaid (h_.map (·.1)) (grown (es.size+1))=some (t2,order):=by
    unfold relaid;rw[hw];have:(if t.mask=7 then 32 else 128)-1=(if t.mask=7 then 31 else 127):=(by split <;> rfl);rw[this];exact l1
   rw[er];rw[BO] at T2 l6;have Y1:(order.filterMap (h_[·]?)).toList.Perm h_.toList:=by
    rw[zB];refine (l6.filterMap _).trans ?_;have:(dX h_.size).filterMap (h_[·]?)=h_.toList:=by
     apply wQ;intro i;have key:∀n,n<=h_.size->(dX n).filterMap (h_[·]?)=h_.toList.take n:=by
      intro n
      induction n with
      | zero=>intro _;rfl
      | succ n ih =>
       intro hn;rw[OO,List.filterMap_append,ih (by lia)];have:h_[n]? = some h_[n]:=bD (by lia);simp only[eS,this,List.filterMap_nil];rw[nJ];simp[show n<h_.size by lia]
     rw[key _ (bO _),<-cN,sX]
    rw[this]
   have m5:(order.filterMap (h_[·]?)).size=h_.size:=(by rw[<-cN,Y1.length_eq,cN]);have fx:((order.filterMap (h_[·]?)).size != h_.size)=false:=(by rw[m5];simp);refine aA ?_;show wpAny _ _ (if ((order.filterMap (h_[·]?)).size != h_.size)=true then (unsupported "internal:set-table-lost-an-element" >>= λ_=>pure (order.filterMap (h_[·]?),t2)) else pure (order.filterMap (h_[·]?),t2)) _ _ _;rw[fx];simp only[aO,if_false];refine aJ ?_;dsimp only;have qz:∀y,y∈(order.filterMap (h_[·]?)).toList↔y∈h_.toList:=λy=>Y1.mem_iff;have yf:G' t2 (order.filterMap (h_[·]?)).toList:=by
    intro x hx;rw[zB] at hx;obtain⟨k,h1,h2⟩:=Rv _ _ (λk v5=>by
     have:=gK.mp (l6.mem_iff.mp v5);exact⟨_,bD this⟩) x hx
    obtain⟨v5,g1,g2⟩:=Ph l1 (by rw[BO];exact T2) _ h1;have:v5=x.2.1:=by
     have h2:h_[k]? = some x.2:=h2;rw[jU,Array.getElem?_map,h2] at g1;exact (dU g1).symm
    rw[<-this];exact g2
   obtain⟨kss2,kp2,KL2⟩:=g9.perm Y1.symm KL1;generalize order.filterMap (h_[·]?)=s_ at m5 qz yf KL2;refine LL (s:={ s with heap:=h1,toks:=s.toks+(ks.length+1) }) g1 rfl ?_ (by rw[m5,sz,jQ];lia);have j_:∀b o,b≠S->s.heap.get? b=some o->(h1.update S (pG s_ t2)).get? b=some o:=λb o hb e=>(cD _ _ (Ne.symm hb)).trans (up1 b o hb e);have Fn:∀b o,b≠S->h1.get? b=some o->(h1.update S (pG s_ t2)).get? b=some o:=λb o hb e=>(cD _ _ (Ne.symm hb)).trans e;obtain⟨Y0,g2⟩:∃Y0,(h1.update S (pG s_ t2)).get? S=some (oT s_ Y0 t2):=⟨_,dL _ g1 rfl⟩;have z2:(h1.update S (pG s_ t2)).objs.size=s.heap.objs.size:=((hV ..).1).trans z1;refine aJ (q true (h1.update S (pG s_ t2)) _ s_ ⟨⟨Y0,t2,g2,by rw[m5];exact T2,?_,by rw[l4,p4];exact tu,by rw[l5,p5];exact j2,yf⟩,?_,kss2,KL2.mono λk b _ q=>rJ g1 Fn q,kp2.nodup_iff.mp zp⟩ (λy hy=>?_) (λy hy=>(qz y).mpr ((mem y).mpr (cV hy))) ⟨_,(qz _).mpr ((mem _).mpr (cY rfl)),a,rfl,rJ ho j_ hk⟩ (by lia) j_ z2 (by show s.toks<=s.toks+_;lia))
   ·rw[l3,m5,sz];unfold Nh;rcases n9 with ⟨e,h⟩ | ⟨e,h⟩ <;> rw[e,h] <;> decide
   ·intro e he;obtain⟨ks',b,r1,r2⟩:=yk e ((qz e).mp he);exact⟨ks',b,r1,rJ g1 Fn r2⟩
   ·rcases (mem y).mp ((qz y).mp hy) with rfl | h
    ·exact cV rfl
    ·exact cY h
  ·have V6:(t.put j).1.tooFull=false:=(by simpa using tf);rw[V6];simp only[vF,aO,if_false];refine aJ (q true h1 _ h_ ⟨⟨xi,_,g1,J',?_,by rw[p4];exact tu,by rw[p5];exact j2,ye⟩,yk,zq,KL1,zp⟩ (λy hy=>?_) (λy hy=>(mem y).mpr (cV hy)) ⟨_,(mem _).mpr (cY rfl),a,rfl,rJ ho up1 hk⟩ (by lia) up1 z1 (by show s.toks<=s.toks+_;lia))
   ·unfold tooFull at V6;rw[ug,p3,sz] at V6;simp only[ge_iff_le,decide_eq_false_iff_not] at V6;rw[p3,sz];unfold Nh;rcases hf with ⟨e,h⟩ | ⟨e,h⟩ | ⟨e,h⟩ <;> lia
   ·rcases (mem y).mp hy with rfl | h
    ·exact cV rfl
    ·exact cY h
 ·intro j1 i1 e1 k1;have lt:i1<es.toList.length:=by rw[KL.len];exact (bG.mp k1).1
  obtain⟨k,g1,b,g2,_⟩:=KL.get (aG lt);rw[k1] at g1;cases g1;have:=vt (j1,es.toList[i1]) (List.mem_iff_getElem?.mpr ⟨i1,by rw[mH];exact⟨by rw[jU];exact e1,aG lt⟩⟩);rw[g2] at this;exact this
end
end
section
open PySem PySem.SetTable PyProof.Rows
section
variable {prog:bU} {w:dJ} {s:aF}
theorem iz.other {S:Addr} (H:iz prog w h S es) (up:∀b o,h.get? b=some o->(∃e∈es.toList,e.2 = .ref b)\/b=S->h'.get? b=some o):iz prog w h' S es:=by
 obtain⟨⟨ep,t,ho,r⟩,els,kss,KL,nd⟩:=H;refine⟨⟨ep,t,up _ _ ho (cV rfl),r⟩,λe he=>?_,kss,KL.mono λk b hb ⟨o,items,n,h1,h2,h3,h4⟩=>⟨o,items,n,up b o h1 (cY hb),h2,h3,h4⟩,nd⟩;obtain⟨ks,b,e1,o,items,n,h1,h2,h3,h4⟩:=els e he;exact⟨ks,b,e1,o,items,n,up b o h1 (cY ⟨e,he,by rw[e1]⟩),h2,h3,h4⟩
structure ie (prog:bU) (w:dJ) (items:Array aB) (key:Nat->List Int) (S:Addr) (i:Nat) (h:Heap):Prop where
 ex:∃es,iz prog w h S es/\(∀y∈es.toList,∃j,j<i/\items[j]? = some y.2)/\(∀j,j<i->∃y∈es.toList,∃b,y.2 = .ref b/\IsTupleKey (intKind prog w) h (key j) b)/\es.size<=i
theorem Rj (hh:A.in1.handled=none) (fx:l≠I) (hu:A.in1.units<cLine) (S:Addr) (tj:S≠I) (Y8:S≠l)
  (hi:∀i v,items[i]? = some v->∃a,v = .ref a/\IsTupleKey (intKind prog w) h0 (key i) a/\a≠S/\a≠I) (hb:items.size<=76) :
  ∀(k i:Nat) (s:aF),items.size-i=k->i<=items.size->s.heap.IsListIter I l i/\s.heap.IsList l items->ie prog w items key S i s.heap ->
   (∀b o,b≠S->b≠I->h0.get? b=some o->s.heap.get? b=some o) ->
   (∀h' tk,ie prog w items key S items.size h'->(∀b o,b≠S->b≠I->h0.get? b=some o->h'.get? b=some o)->R (.ok (.ret .none)) { s with heap:=h',toks:=tk }) ->
   codeAny (model prog w) A (.builtin "set.update.loop" ⟨[.ref S,.ref I],[]⟩) R s:=by
 have W:=HI (prog:=prog) (w:=w) (A:=A.in1) hh I l fx items;have wr:∀{b:Addr},b≠I->b ∉ [I]:=λh=>by simpa using h
 have qx:∀{h:Heap} {i:Nat} {a:Addr},(∀b o,b≠S->b≠I->h0.get? b=some o->h.get? b=some o)->IsTupleKey (intKind prog w) h0 (key i) a->a≠S->a≠I->IsTupleKey (intKind prog w) h (key i) a:=by
  intro h i a up hk n1 n2;obtain⟨o,its,n,h1,h2,h3,h4⟩:=hk;exact⟨o,its,n,up a o n1 n2 h1,h2,h3,h4⟩
 have move:∀{h h':Heap} {i:Nat},i<=items.size->ie prog w items key S i h->(∀b o,b≠I->h.get? b=some o->h'.get? b=some o)->ie prog w items key S i h':=by
  intro h h' i i_ ⟨es,D,d1,d2,d3⟩ up;refine⟨es,D.other λb o e hm=>up b o ?_ e,d1,λj hj=>?_,d3⟩
  ·rcases hm with ⟨y,hy,ey⟩ | rfl
   ·obtain⟨j,hj,ej⟩:=d1 y hy;obtain⟨a,ea,_,_,na⟩:=hi j y.2 ej;rw[ey] at ea;cases ea;exact na
   ·exact tj
  ·obtain⟨y,hy,b,e1,o,its,n,h1,h2,h3,h4⟩:=d2 j hj;refine⟨y,hy,b,e1,o,its,n,up b o ?_ h1,h2,h3,h4⟩;obtain⟨j',qu,ej⟩:=d1 y hy;obtain⟨a,ea,_,_,na⟩:=hi j' y.2 ej;rw[e1] at ea;cases ea;exact na
 intro k
 induction k with
 | zero =>
  intro i s hk i_ st D up hR;have hin:i=items.size:=by lia
  subst hin;refine gI F.entry_set_update_loop ?_;rw[fE F.plain_set_update_loop _];show wpAny _ A.in1 (pyNext (.ref I) >>= _) _ _ s;refine aA (W.done s _ _ st λh' tk kp=>?_);show wpAny _ A.in1 (ret gO) _ _ _;exact aJ (hR h' tk (move (bO _) D λb o hb e=>kp b o (wr hb) e) λb o n1 n2 e=>kp b o (wr n2) (up b o n1 n2 e))
 | succ k ih =>
  intro i s hk i_ st D up hR;have dw:i<items.size:=by lia
  refine gI F.entry_set_update_loop ?_;rw[fE F.plain_set_update_loop _];show wpAny _ A.in1 (pyNext (.ref I) >>= _) _ _ s;refine aA (W.item i s _ _ dw st λv h' tk hv fb kp=>?_);obtain⟨a,rfl,hka,na1,na2⟩:=hi i v hv;obtain⟨es,D1,d1,d2,d3⟩:=move i_ D (λb o hb e=>kp b o (wr hb) e);have up':∀b o,b≠S->b≠I->h0.get? b=some o->h'.get? b=some o:=λb o n1 n2 e=>kp b o (wr n2) (up b o n1 n2 e);show wpAny _ A.in1 (holding [gD a] (setAdd S (.ref a)) >>= _) _ _ _;refine aA (fG ?_);refine Hf (s:={ s with heap:=h',toks:=tk }) hu D1 (qx up' hka na1 na2) (by lia) λ_ h2 tk2 s_ D2 m1 m2 m3 m4 j_ z2 _=>?_;refine aJ ⟨gW F.plain_set_update_loop _,ih (i+1) _ (by lia) dw ⟨fb.1.at λo e=>j_ _ o (Ne.symm tj) e,fb.2.at λo e=>j_ _ o (Ne.symm Y8) e⟩ ?_ (λb o n1 n2 e=>j_ b o n1 (up' b o n1 n2 e)) λh3 tk3 D3 ap=>hR h3 tk3 D3 ap⟩;refine⟨s_,D2,λy hy=>?_,λj hj=>?_,by lia⟩
  ·rcases m1 y hy with h | h
   ·obtain⟨j,hj,ej⟩:=d1 y h;exact⟨j,by lia,ej⟩
   ·exact⟨i,by lia,by rw[h];exact hv⟩
  ·by_cases hji:j=i
   ·subst hji;exact m3
   ·obtain⟨y,hy,b,e1,o,its,n,h1,No,h3,h4⟩:=d2 j (by lia);refine⟨y,m2 y hy,b,e1,o,its,n,j_ b o ?_ h1,No,h3,h4⟩;obtain⟨j',qu,ej⟩:=d1 y hy;obtain⟨a',ea,_,na,_⟩:=hi j' y.2 ej;rw[e1] at ea;cases ea;exact na
theorem Ed (a:aB) (h:Q₁ (.ref s.heap.objs.size) { s with heap:=s.heap.push (oT #[] 0 (.fresh 0 0 (!oA w))) }) :
  codeAny (model prog w) A (.call (.builtin "set.__new__") ⟨[.type "set",a],[]⟩) (wants Q₁ E) s:=by
 apply OU;show wpAny _ A.in1 (checkBuiltinCall "set.__new__" ⟨[.type "set",a],[]⟩ >>= λ_=>again (.builtin "set.__new__" ⟨[.type "set",a],[]⟩)) _ _ s;apply aA;refine nU (PySem.F.newCall_set_1 a) (aJ ⟨gW BH _,gI PySem.F.entry_set_new ?_⟩);rw[fE BH _];unfold Builtin.«set.__new__» Builtin.Frozenset.newClass;have hsub:=sub_set_self;obtain⟨hp,g,d,tk,os⟩:=s;dsimp only;wp_walk;refine qD (aJ ?_);dsimp only;simp only[newObj];apply aA;refine wpAny_alloc (aJ ?_);exact aJ h
theorem Mw (b:Bool):c_ (.fresh 0 0 b) 0:=⟨rfl,rfl,fV _,Zk,oZ⟩
def Ck (l:Addr):Obj:={ cls:=.type "list_iterator",data:=.fields #[.ref l,.int 0 0] }
theorem UP (hh:A.handled=none) (hu:A.units+8<cLine) (hl:s.heap.IsList l items)
  (hi:∀i v,items[i]? = some v->∃a,v = .ref a/\IsTupleKey (intKind prog w) s.heap (key i) a) (hb:items.size<=76)
  (q:∀h' tk,ie prog w items key s.heap.objs.size items.size h'->(∀b o,s.heap.get? b=some o->h'.get? b=some o)->Q (.ref s.heap.objs.size) { s with heap:=h',toks:=tk }) :
  wpAny (model prog w) A (call (.type "set") [.ref l]) Q E s:=by
 obtain⟨c,tl,hmro⟩:=PySem.F.called_set.mro;have hmade:=PySem.F.called_set.made;have hsub:=PySem.F.called_set.sub;apply ID;apply OU;show wpAny _ _ (callAny (.type "set") _) _ _ _;refine aJ ⟨Code.quiet_builtin _ (by decide +kernel),gI PySem.F.entry_type_call ?_⟩;rw[Around.under_plain (weight_type_call_type "set" [.ref l] []) rfl];have h1:=PySem.F.called_set.notType;have h2:=PySem.F.called_set.canCreate;have hct:=PySem.F.typeCall_set_1 (.ref l)
 repeat (any_goals (first | assumption | wp_step))
 refine uP (Ed (.ref l) (E:=E) (Q₁:=λobj s₁=>obj = .ref s.heap.objs.size/\s₁ = { s with heap:=s.heap.push (oT #[] 0 (.fresh 0 0 (!oA w))) }) ⟨rfl,rfl⟩) λr s₁ hr=>?_
 match r,hr with
 | .error e,hr=>exact hr
 | .ok (.ret obj),hr =>
  obtain⟨rfl,rfl⟩:=hr;have hS:(s.heap.push (oT #[] 0 (.fresh 0 0 (!oA w)))).get? s.heap.objs.size=some (oT #[] 0 (.fresh 0 0 (!oA w))):=bF _ rfl;have zS:(s.heap.push (oT #[] 0 (.fresh 0 0 (!oA w)))).objs.size=s.heap.objs.size+1:=gA ..;have kS:∀b o,s.heap.get? b=some o->(s.heap.push (oT #[] 0 (.fresh 0 0 (!oA w)))).get? b=some o:=λb o e=>aK _ e;have hT:FP { s with heap:=s.heap.push (oT #[] 0 (.fresh 0 0 (!oA w))) } (.ref s.heap.objs.size) "set":=⟨_,hS,rfl⟩;have hli:=PySem.F.called_set.init.lookup;have hbi:=PySem.F.called_set.init.bind (.ref s.heap.objs.size)
  repeat (any_goals (first | assumption | wp_step))
  generalize s.heap.push (oT #[] 0 (.fresh 0 0 (!oA w)))=h2 at hS zS kS hT;refine uP (CJ (R:=wants (λr s₂=>r = .none/\∃h' tk,s₂ = { s with heap:=h',toks:=tk }/\ie prog w items key s.heap.objs.size items.size h'/\(∀b o,s.heap.get? b=some o->h'.get? b=some o)) E) PySem.F.called_set.init.plain PySem.F.entry_set_init (check_set_init_1 hT ?_)) λr₂ s₂ hr₂=>?_
  ·obtain⟨ol,hol,ju,nl,Z7⟩:=hl;obtain⟨ocls,odict,odata,oslots⟩:=ol;simp only at ju Z7;subst ju;subst Z7;have hol2:=kS _ _ hol;have hsls:=PySem.F.sub_list_set;have hslf:=PySem.F.sub_list_frozenset;have fx:(iR "list" == iR "dict")=false:=(by decide);have hl1:h2.IsList l items:=⟨_,hol2,rfl,nl,rfl⟩;have lt:l<s.heap.objs.size:=aP hol;unfold Builtin.«set.__init__» noKeywords Builtin.Frozenset.updateFrom;generalize hPI:pyIter=PI;unfold oT at hS
   wp_walk
   subst hPI;refine jO hl1 ?_;apply aA;apply UG;rw[zS];have zI:(h2.push (Ck l)).get? (s.heap.objs.size+1)=some (Ck l):=(by rw[<-zS];exact bF _ rfl);have kI:∀b o,h2.get? b=some o->(h2.push (Ck l)).get? b=some o:=λb o e=>aK _ e;show codeAny _ _ _ _ { s with heap:=h2.push (Ck l) };generalize h2.push (Ck l)=h3 at zI kI;have ne1:∀{b:Addr} {o:Obj},s.heap.get? b=some o->b≠s.heap.objs.size/\b≠s.heap.objs.size+1:=λe=>⟨bE (aP e),bE (gU (aP e))⟩;refine Rj (A:=A.in1.in1) (s:={ s with heap:=h3 }) (key:=key) (h0:=s.heap) (by simp[hh]) (bE (gU lt)) (by show A.units+3<cLine;lia) s.heap.objs.size (bE (nK _)) (dZ lt) (λi v e=>?_) hb items.size 0 (zP _) (fV _) ⟨⟨_,zI,rfl,rfl⟩,hl1.at λo e=>kI _ o e⟩ ?_ (λb o _ _ e=>kI b o (kS b o e)) λh' tk D up=>?_
   ·obtain⟨a,rfl,hk⟩:=hi i v e;refine⟨a,rfl,hk,?_⟩;obtain⟨o,_,_,ho,_⟩:=hk;exact ne1 ho
   ·exact⟨#[],⟨⟨0,_,kI _ _ hS,Mw _,cY ⟨rfl,fV _⟩,rfl,rfl,(λx hx=>by cases hx)⟩,(λe he=>by simp at he),[],trivial,.nil⟩,λy hy=>by simp at hy,λj hj=>absurd hj (oI _),fV _⟩
   ·show wpAny _ _ _ _ _ _;apply aJ;show wpAny _ _ (ret gO) _ _ _;exact aJ ⟨rfl,h',tk,rfl,D,λb o e=>up b o (ne1 e).1 (ne1 e).2 e⟩
  ·match r₂,hr₂ with
   | .error e,hr₂=>exact hr₂
   | .ok (.ret r),hr₂ =>
    obtain⟨rfl,h',tk,rfl,D,up⟩:=hr₂
    repeat (any_goals (first | assumption | wp_step))
    exact q _ _ D up
end
theorem Jm {α:Type} (next:Nat->Nat):∀(fuel k:Nat) (left:List α) (out:Array α),left.length<=fuel->(KP next fuel k left out).toList.Perm (out.toList++left)
 | 0,k,left,out,h=>by
  have:left=[]:=List.eq_nil_of_length_eq_zero (by lia);subst this;simp[KP]
 | fuel+1,k,left,out,h=>by
  unfold KP;cases e:left[next k % left.length]? with
  | none =>
   dsimp only;have:left=[]:=by
    cases left with
    | nil=>rfl
    | cons x r =>
     have:=List.getElem?_eq_none_iff.mp e;have:=kD (next k) (show 0<(x::r).length by simp);lia
   subst this;simp
  | some x =>
   dsimp only;have hi:next k % left.length<left.length:=(bG.mp e).1;refine (Jm next fuel (k+1) (left.eraseIdx (next k % left.length)) (out.push x) (by rw[List.length_eraseIdx_of_lt hi];lia)).trans ?_;rw[wK,eQ];refine List.Perm.append_left _ ?_;have ex:left[next k % left.length]=x:=(bG.mp e).2;have el:left=left.take (next k % left.length)++x::left.drop (next k % left.length+1):=by
    rw[<-ex,<-fH hi,gC]
   rw[List.eraseIdx_eq_take_drop_succ]
   conv=>rhs;rw[el]
   rw[BG];exact (List.perm_middle (a:=x)).symm
def Mc {α:Type} (next:Nat->Nat) (xs:Array α):(pickOrder next xs).toList.Perm xs.toList:=by
 have:=Jm next xs.size 0 xs.toList #[] (by simp);simpa [pickOrder] using this
def Qe:Manifest.owners.lookup (String.ofList ['r','o','t','a','r','e','t','i','_','t','e','s'].reverse)=some Manifest.sig_set_iterator:=by kernel_rfl
def sL:Slot "set_iterator" "__next__" "set_iterator.__next__" :=
 .of (owner:="set_iterator") (n:="__next__") (by rw[qT,mD];kernel_rfl) (by decide +kernel) (by decide +kernel) (by decide +kernel) (by first | exact .inl (by decide +kernel) | exact .inr (by decide +kernel)) (by rw[SC];kernel_rfl)
def FQ:entryFor table "set_iterator.__next__" = some Builtin.«set_iterator.__next__»:=entryFor_of_tree (by kernel_rfl)
def JI (a:aB):argsOk "set_iterator.__next__" ⟨[a],[]⟩:=by
 unfold argsOk;rw[signature?_of (id:="set_iterator.__next__") (n:=['_','_','t','x','e','n','_','_']) (o:=['r','o','t','a','r','e','t','i','_','t','e','s']) (by kernel_rfl) Qe];kernel_rfl
def YU:entryFor table "set.__iter__" = some Builtin.«frozenset.__iter__»:=entryFor_alias (id':="frozenset.__iter__") (by kernel_rfl) rfl (by decide +kernel) (by kernel_rfl)
section
variable {w:dJ} {s:aF}
def lB (w:dJ) (S:Addr) (ep:Nat) (es:Array (Int × aB)):Array (Int × aB):=if oA w=true then pickOrder (w.params.setOrder S ep) es else es
theorem NK (S:Addr) (ep:Nat) (es:Array (Int × aB)):(lB w S ep es).toList.Perm es.toList:=by
 unfold lB;split
 ·exact Mc _ _
 ·exact BW _
def slotAt (w:dJ) (t:SetTable) (k:Nat):Nat:=if oA w=true then 0 else uT t k
def xU (w:dJ) (S:Addr) (n ep:Nat) (t:SetTable) (k:Nat):Obj:={ cls:=.type "set_iterator",data:=.fields #[rawInt (slotAt w t k),rawInt k,.ref S,rawInt n,rawInt ep] }
theorem Ee {S:Addr} {ep k:Nat} (ho:s.heap.get? S=some (oT es ep t)) (T:c_ t es.size) (hl:t.led = !oA w) (hp:t.plain=true) (hk:k<=es.size)
  (q:Q ((lB w S ep es)[k]?.map λe=>(e.2,slotAt w t (k+1))) s):wpAny (model prog w) A (setNext S (slotAt w t k) k ep) Q E s:=by
 unfold setNext;apply aA;refine jP ho rfl T.fits ?_;unfold setsByText;apply aA;apply aA;refine qD (aJ ?_);show wpAny _ _ (if oA w=true then _ else _) _ _ _;by_cases hb:oA w=true
 ·rw[if_pos hb,if_neg (by simp)];apply aA;unfold setWalk;apply aA;refine jP ho rfl T.fits ?_;unfold setsByText;apply aA;apply aA;refine qD (aJ ?_);show wpAny _ _ (if oA w=true then _ else _) _ _ _;rw[if_pos hb];apply aA;refine qD (aJ (aJ ?_));unfold lB slotAt at q;simp only[if_pos hb] at q;unfold slotAt;simp only[if_pos hb];exact q
 ·have hb0:oA w=false:=by simpa using hb
  rw[if_neg hb];show wpAny _ _ (if (!t.plain && decide (es.size > 1))=true then _ else _) _ _ _;rw[hp];simp only[fU,vG,aO,if_false];show wpAny _ _ ((if (!t.led && !es.isEmpty)=true then unsupported "set:maker-not-led" else pure ()) >>= _) _ _ _;rw[hl,hb0];simp only[nF,fU,vG,aO,if_false];apply aA;apply aJ;apply aJ;have np:=Gm T hk;unfold lB slotAt at q;simp only[if_neg hb] at q;unfold slotAt;simp only[if_neg hb];rw[np];by_cases dw:k<es.size
  ·have e1:es[k]? = some es[k]:=bD dw;have e2:t.place[k]? = some (t.place.getD k 0):=by
    have:k<t.place.size:=(by rw[T.size];exact dw);rw[bD this];simp[lN,this]
   rw[e1] at q;rw[e1,e2];have e3:uT t (k+1)=t.place.getD k 0+1:=(by unfold uT;rw[if_neg (by lia)];simp);rw[e3] at q;exact q
  ·have e1:es[k]? = none:=rO (by lia);rw[e1] at q;rw[e1];exact q
theorem EB (ho:s.heap.get? I=some { cls:=c,dict:=d,data:=.fields vs,slots:=sl }) (hi:i<vs.size)
  (q:∀h',h'.get? I=some { cls:=c,dict:=d,data:=.fields (vs.setIfInBounds i x),slots:=sl }->nW I s.heap h'->Q () { s with heap:=h' }):wpAny (model prog w) A (setField (.ref I) i x) Q E s:=by
 refine EI ho rfl hi (q _ ?_ (hV ..));have:=dL (Obj.mapFields λvs=>vs.setIfInBounds i x) ho rfl;rw[this];rfl
structure kx (w:dJ) (S I:Addr) (es:Array (Int × aB)) (ep:Nat) (t:SetTable) (k:Nat) (h:Heap):Prop where
 set:h.get? S=some (oT es ep t)
 it:h.get? I=some (xU w S es.size ep t k)
theorem Ln {S I:Addr} {ep k:Nat} (D:kx w S I es ep t k s.heap) (ne:S≠I) (T:c_ t es.size) (hl:t.led = !oA w) (hp:t.plain=true) (hk:k<es.size) (hx:(lB w S ep es)[k]? = some x)
  (q:∀h',kx w S I es ep t (k+1) h'->nW I s.heap h'->Q (some x.2) { s with heap:=h' }):wpAny (model prog w) A (pyNext (.ref I)) Q E s:=by
 have ty:s.TypeIs (.ref I) "set_iterator":=⟨_,D.it,rfl⟩;unfold pyNext;apply aA;apply xV;refine iF (name:=gL "__next__") ty sL (iO sL ty FQ ?_ (JI _));unfold Builtin.«set_iterator.__next__»;apply aA;refine nU (a:=(gD I,[])) rfl ?_;apply aA;refine UF D.it rfl ?_;dsimp only[rawInt];apply aA;refine uL D.set rfl T.fits ?_;rw[if_neg (by simp)];apply aA;show wpAny _ _ (setNext S ((slotAt w t k:Nat):Int).toNat ((k:Nat):Int).toNat ((ep:Nat):Int).toNat) _ _ _;simp only[oW];refine Ee D.set T hl hp (lI hk) ?_;rw[hx];dsimp only[Option.map];have yh:=D.it;unfold xU at yh;apply aA;refine EB yh (by simp) λh1 g1 s1=>?_;apply aA;refine EB (s:={ s with heap:=h1 }) g1 (by simp) λh2 g2 s2=>?_;refine aJ ⟨x.2,rfl,aJ (q h2 ⟨?_,?_⟩ (s1.trans s2))⟩
 ·rw[s2.2 S ne,s1.2 S ne];exact D.set
 ·rw[g2];rfl
theorem Pu {S I:Addr} {ep:Nat} (hh:A.handled=none) (D:kx w S I es ep t es.size s.heap) (ne:S≠I) (T:c_ t es.size) (hl:t.led = !oA w) (hp:t.plain=true)
  (q:∀h',NM I s.heap h'->Q none { s with heap:=h' }):wpAny (model prog w) A (pyNext (.ref I)) Q E s:=by
 have ty:s.TypeIs (.ref I) "set_iterator":=⟨_,D.it,rfl⟩;have hx:(lB w S ep es)[es.size]? = none:=by
  apply rO;rw[<-cN,(NK S ep es).length_eq,cN];exact bO _
 unfold pyNext;apply aA;apply xV;refine iF (name:=gL "__next__") ty sL (iO sL ty FQ ?_ (JI _));unfold Builtin.«set_iterator.__next__»;apply aA;refine nU (a:=(gD I,[])) rfl ?_;apply aA;refine UF D.it rfl ?_;dsimp only[rawInt];apply aA;refine uL D.set rfl T.fits ?_;rw[if_neg (by simp)];apply aA;show wpAny _ _ (setNext S ((slotAt w t es.size:Nat):Int).toNat ((es.size:Nat):Int).toNat ((ep:Nat):Int).toNat) _ _ _;simp only[oW];refine Ee D.set T hl hp (bO _) ?_;rw[hx];dsimp only[Option.map];have yh:=D.it;unfold xU at yh;apply aA;refine EB yh (by simp) λh1 g1 s1=>?_;show wpAny _ _ (newExc (.type "StopIteration") [] >>= _) _ _ _;apply aA;simp only[newExc,newTuple];apply aA;refine fP ?_ (by size_fits);refine aA (m:=firstArgMember _ _) ?_;refine nU (a:=gO) (by first | rfl | (simp only[firstArgMember];rfl)) ?_;refine fP ?_ (by size_fits);simp only[raiseNew];apply aA;apply VN
 first | rw[show A.in1.handled=none from hh] | rw[hh]
 refine aA (aJ (wpAny_throw ?_));apply aA;refine tK (T:="StopIteration") (b:=true) ⟨_,bF _ rfl,rfl⟩ SB ?_;exact aJ (q _ ((s1.extBut.push _).push _))
theorem Pg {S:Addr} {ep:Nat} (ho:s.heap.get? S=some (oT es ep t)) (T:c_ t es.size) (hp:t.plain=true)
  (q:Q (.ref s.heap.objs.size) { s with heap:=s.heap.push (xU w S es.size ep t 0) }):wpAny (model prog w) A (pyIter (.ref S)) Q E s:=by
 have ty:s.TypeIs (.ref S) "set":=⟨_,ho,rfl⟩;refine LK ty F.slot_set_iter (iO F.slot_set_iter ty YU ?_ (F.args_set_iter_1 _));unfold Builtin.«frozenset.__iter__» Builtin.Frozenset.slot0 Builtin.Frozenset.sizeOf;apply aA;refine nU (a:=S) rfl ?_;apply aA;apply aA;refine uL ho rfl T.fits (aJ ?_);apply aA;unfold setDrawn;apply aA;refine jP ho rfl T.fits ?_;unfold setsByText;apply aA;apply aA;refine qD (aJ (aJ ?_));have dr:(!(model prog w).w.params.followText "set-order" && (!t.plain && decide (es.size > 1)))=false:=by rw[hp];simp
 show wpAny _ _ (if (!(model prog w).w.params.followText "set-order" && (!t.plain && decide (es.size > 1)))=true then _ else _) _ _ _;rw[dr];simp only[aO,if_false];apply aA;apply aJ;apply aA;refine wpAny_setEpoch_of ho rfl T.fits ?_;apply aA;unfold newFields;refine fP ?_;have e0:slotAt w t 0=0:=by unfold slotAt uT;split <;> rfl
 refine aJ ⟨_,rfl,"set_iterator",_,⟨_,bF _ rfl,rfl⟩,sL.lookup,?_⟩;unfold xU at q;rw[e0] at q;exact q
end
section
variable {s:aF}
theorem Rh {S:Addr} (ty:s.TypeIs (.ref S) "set") (q:Q false s):wpAny (model prog w) A (jH (.ref S)) Q E s:=by
 unfold jH;apply aA;refine oN ty F.slot_set_len.lookup ?_;dsimp only;have sp:splitId "set.__len__" = some ("set","__len__"):=by decide +kernel
 rw[sp];dsimp only;apply aA;refine tK (b:=true) ty sub_set_self ?_;simp only[fU,aO,if_false];have key:∀(c:Bool) (X Y:Sem Bool),c=true->wpAny (model prog w) A X Q E s->wpAny (model prog w) A (if c=true then X else Y) Q E s:=λc X Y hc h=>by rw[if_pos hc];exact h
 refine key _ _ _ (by decide +kernel) ?_;apply aA;refine sN ty ?_;exact aJ q
theorem Ec {S I:Addr} {ep k:Nat} (D:kx w S I es ep t k h) (up:∀b o,b=S\/b=I->h.get? b=some o->h'.get? b=some o):kx w S I es ep t k h' :=
 ⟨up _ _ (cY rfl) D.set,up _ _ (cV rfl) D.it⟩
theorem Ay {S:Addr} {ep:Nat} (hh:A.handled=none) (ho:s.heap.get? S=some (oT es ep t)) (T:c_ t es.size) (hl:t.led = !oA w) (hp:t.plain=true) (hz:es.size<=100)
  (q:∀h',(∀b o,s.heap.get? b=some o->h'.get? b=some o)->s.heap.objs.size<=h'.objs.size->Q ((lB w S ep es).toList.map (·.2)) { s with heap:=h' }):wpAny (model prog w) A (collect (.ref S)) Q E s:=by
 have ltS:S<s.heap.objs.size:=aP ho;have wl:(lB w S ep es).size=es.size:=by rw[<-cN,(NK S ep es).length_eq,cN]
 unfold collect;apply aA;apply UG;refine gI F.entry_proto_collect ?_;rw[fE F.plain_proto_collect _];show wpAny _ A.in1 (newList [] >>= λl=>again (.builtin "list.__iadd__" ⟨[l,.ref S],[]⟩)) _ _ s;apply aA;refine fP ?_;refine aJ ⟨gW F.plain_list_iadd _,gI F.entry_list_iadd ?_⟩;rw[fE F.plain_list_iadd _];show wpAny _ A.in1 (fT (.ref s.heap.objs.size) (.ref S) (.ref s.heap.objs.size)) _ _ { s with heap:=s.heap.push { cls:=.type "list",data:=.seq ([]:List aB).toArray } };have z1:(s.heap.push { cls:=.type "list",data:=.seq ([]:List aB).toArray }).objs.size=s.heap.objs.size+1:=gA ..;have hL:(s.heap.push { cls:=.type "list",data:=.seq ([]:List aB).toArray }).get? s.heap.objs.size=some { cls:=.type "list",data:=.seq ([]:List aB).toArray }:=bF _ rfl;have k1:∀b o,s.heap.get? b=some o->(s.heap.push { cls:=.type "list",data:=.seq ([]:List aB).toArray }).get? b=some o:=λb o e=>aK _ e;generalize s.heap.push { cls:=.type "list",data:=.seq ([]:List aB).toArray } = h1 at z1 hL k1;have ty:∀{h:Heap} {g d t os},(∀b o,s.heap.get? b=some o->h.get? b=some o)->FP ⟨h,g,d,t,os⟩ (.ref S) "set":=λup=>⟨_,up _ _ ho,rfl⟩;unfold fT;apply aA;refine sN (T:="set") (ty k1) ?_;have g1:iU (.ref s.heap.objs.size) (.ref S)=false:=by simp[iU,dZ ltS]
 have g2:(iR "set" == iR "list")=false:=by decide
 have g3:(iR "set" == iR "tuple")=false:=by decide
 simp only[g1,g2,g3,xG,aO,if_false];apply aA;refine Pg (s:={ s with heap:=h1 }) (k1 _ _ ho) T hp ?_;show wpAny _ _ _ _ _ { s with heap:=h1.push (xU w S es.size ep t 0) };have hI:(h1.push (xU w S es.size ep t 0)).get? (s.heap.objs.size+1)=some (xU w S es.size ep t 0):=by rw[<-z1];exact bF _ rfl
 have k2:∀b o,h1.get? b=some o->(h1.push (xU w S es.size ep t 0)).get? b=some o:=λb o e=>aK _ e;rw[z1];generalize h1.push (xU w S es.size ep t 0)=h2 at hI k2;apply aA;apply fG;refine Rh (ty λb o e=>k2 b o (k1 b o e)) ?_;have key:∀(c:Bool) (X Y:Sem Fin) {Q':Fin->aF->Prop} {E':aB->aF->Prop} {s':aF},c=true->wpAny (model prog w) A.in1 X Q' E' s'->wpAny (model prog w) A.in1 (if c=true then X else Y) Q' E' s':=λc X Y _ _ _ hc h=>by rw[if_pos hc];exact h
 refine key _ _ _ (by decide +kernel) ?_;have OK:=k2 _ _ hL;apply aA;apply wF;apply aA;show wpAny _ _ (updateSeq s.heap.objs.size (·.push .none) >>= λ_=>updateSeq s.heap.objs.size (·.pop)) _ _ _;apply aA;refine gJ OK rfl ?_;have hL3:=dL (cX (·.push gO)) OK rfl;refine gJ (hz:=by seq_fits) hL3 rfl ?_;have hL4:=dL (cX (·.pop)) hL3 rfl;have u_:∀b o,b≠s.heap.objs.size->h2.get? b=some o->((h2.update s.heap.objs.size (cX (·.push gO))).update s.heap.objs.size (cX (·.pop))).get? b=some o :=
  λb o hb e=>(cD _ _ (Ne.symm hb)).trans ((cD _ _ (Ne.symm hb)).trans e)
 generalize (h2.update s.heap.objs.size (cX (·.push gO))).update s.heap.objs.size (cX (·.pop))=h4 at hL4 u_;apply aJ;refine⟨gW iQ _,?_⟩;have z7:S≠s.heap.objs.size+1:=bE (gU ltS);have neS:S≠s.heap.objs.size:=bE ltS;have j5:s.heap.objs.size+1≠s.heap.objs.size:=nM _;have old:∀{b:Addr} {o:Obj},s.heap.get? b=some o->b≠s.heap.objs.size/\b≠s.heap.objs.size+1:=λe=>⟨bE (aP e),bE (gU (aP e))⟩;refine RW (A:=A) (s0:=s) (n:=es.size) (J:=λacc h=>kx w S (s.heap.objs.size+1) es ep t acc.length h/\acc=((lB w S ep es).toList.map (·.2)).take acc.length/\∀b o,s.heap.get? b=some o->h.get? b=some o)
  (F:=λacc h=>acc=(lB w S ep es).toList.map (·.2)/\∀b o,s.heap.get? b=some o->h.get? b=some o) (.ref s.heap.objs.size) (by rw[jQ];lia) ?_ ?_ ?_ (λh' acc c j3 hF i9=>?_) es.size #[] h4 _ rfl (fV _) ?_ hL4
 ·rintro acc h h' ⟨J1,J2,J3⟩ n_ hz up;refine⟨Ec J1 λb o hb e=>up b o ?_ e,J2,λb o e=>up b o (old e).1 (J3 b o e)⟩;rcases hb with rfl | rfl
  ·exact neS
  ·exact j5
 ·rintro acc s' o Q' E' dw ⟨J1,J2,J3⟩ n_ k;have hw:acc.length<(lB w S ep es).size:=by lia
  refine Ln J1 z7 T hl hp dw (bD hw) λh' D' sb=>k _ h' ⟨by simpa using D',?_,λb o e=>?_⟩ ?_
  ·rw[dA,sT,nJ,<-J2];simp[hw]
  ·rw[sb.2 b (old e).2];exact J3 b o e
  ·rw[sb.2 _ (Ne.symm j5)];exact n_
 ·rintro acc s' o Q' E' hlen ⟨J1,J2,J3⟩ n_ k;rw[hlen] at J1 J2;refine Pu (A:=A.in1) (by simp[hh]) J1 z7 T hl hp λh' eb=>k h' ⟨?_,λb o e=>eb b o (old e).2 (J3 b o e)⟩ (eb _ _ (Ne.symm j5) n_);rw[J2,nY];simp[wl]
 ·show wpAny _ A (load s.heap.objs.size >>= _) _ _ _;apply aA;refine wpAny_load i9 ?_;refine aJ ?_;rw[hF.1];exact q h' hF.2 (lI (aP i9))
 ·refine⟨⟨u_ _ _ neS (k2 _ _ (k1 _ _ ho)),u_ _ _ j5 hI⟩,rfl,λb o e=>u_ b o (old e).1 (k2 b o (k1 b o e))⟩
end
end
section
open PySem PySem.W PyProof.Rows
def jG {α:Type} (lt:Nat->Nat->Bool):KasT α->α
 | .ret a=>a
 | .ask i j k=>jG lt (k (lt i j))
theorem uX {α β:Type} {lt:Nat->Nat->Bool} {f:α->KasT β}:∀t:KasT α,jG lt (t.bind f)=jG lt (f (jG lt t))
 | .ret _=>rfl
 | .ask i j k=>uX (k (lt i j))
def kIn {α:Type} (lt:Nat->Nat->Bool) (n:Nat):KasT α->Prop
 | .ret _=>True
 | .ask i j k=>i<n/\j<n/\kIn lt n (k (lt i j))
theorem pM {α β:Type} {lt:Nat->Nat->Bool} {f:α->KasT β}:∀t:KasT α,kIn lt n t->kIn lt n (f (jG lt t))->kIn lt n (t.bind f)
 | .ret _,_,h=>h
 | .ask i j k,⟨h1,h2,h3⟩,h=>⟨h1,h2,pM (k (lt i j)) h3 h⟩
theorem SD {α:Type} {cmp:Nat->Nat->(Bool->aF->Prop)->aF->Prop} {lt:Nat->Nat->Bool} {n:Nat} {s:aF} {Q:α->aF->Prop} (hc:∀i j (C:Bool->aF->Prop),i<n->j<n->C (lt i j) s->cmp i j C s) :
  ∀t:KasT α,kIn lt n t->Q (jG lt t) s->t.kasWp cmp Q s
 | .ret _,_,h=>h
 | .ask i j k,⟨h1,h2,h3⟩,h=>hc i j _ h1 h2 (SD hc (k (lt i j)) h3 h)
section
variable {O:KeyOrd} {key:Nat->O.α} {N:Nat}
def de (O:KeyOrd) (key:Nat->O.α) (i j:Nat):Bool:=O.blt (key i) (key j)
def kk (O:KeyOrd) (key:Nat->O.α) (p:Array Nat) (i:Nat):O.α:=key (p.getD i 0)
def Up (O:KeyOrd) (key:Nat->O.α) (p:Array Nat) (n:Nat):Prop:=∀i j,i<=j->j<n->O.kle (kk O key p i) (kk O key p j)
def Dn (O:KeyOrd) (key:Nat->O.α) (p:Array Nat) (n:Nat):Prop:=∀i j,i<=j->j<n->O.kle (kk O key p j) (kk O key p i)
def Lo (p:Array Nat) (N:Nat):Prop:=∀i,p.getD i 0<N
theorem AE (h:p.Perm q) (hq:Lo q N):Lo p N:=by
 intro i;by_cases hi:i<p.size
 ·have m:p[i]∈p:=Array.getElem_mem hi;have m2:p[i]∈q:=h.mem_iff.mp m;obtain⟨j,hj,e⟩:=BN m2;have:=hq j;simp[lN,hj] at this;simp[lN,hi];rw[<-e];exact this
 ·have h0:=hq q.size;simp[lN] at h0;simp[lN,hi];exact h0
theorem CW (h:p[i]? = q[j]?):kk O key p i=kk O key q j:=by
 unfold kk;rw[dW,dW,h]
theorem Gc (hj:j<=p.size) (k:Nat):kk O key (ET p i j) k=if i<=k/\k<j then kk O key p (i+j-1-k) else kk O key p k:=by
 have e:=getElem?_mirror_all (i:=i) hj k;unfold ET;by_cases h1:i<=k/\k<j
 ·rw[if_pos h1] at e ⊢;exact CW e
 ·rw[if_neg h1] at e ⊢;exact CW e
theorem MP (hj:j<=p.size) (h:∀k,i<=k->k<j->kk O key p k=kk O key p (j-1)) (k:Nat):kk O key (ET p i j) k=kk O key p k:=by
 rw[Gc hj];split
 ·rw[h _ (by lia) (by lia),h k (by lia) (by lia)]
 ·rfl
theorem Lh (hs:src<p.size) (hd:d<=src) (k:Nat) :
  kk O key (bubble p src d) k=if k=src-d then kk O key p src else if src-d<k/\k<=src then kk O key p (k-1) else kk O key p k:=by
 have e:=getElem?_bubble hs d hd k;by_cases h1:k=src-d
 ·rw[if_pos h1] at e ⊢;exact CW e
 ·rw[if_neg h1] at e ⊢;by_cases h2:src-d<k/\k<=src
  ·rw[if_pos h2] at e ⊢;exact CW e
  ·rw[if_neg h2] at e ⊢;exact CW e
theorem EA (p:Array Nat) (i j:Nat):(ET p i j).Perm p:=mirror_perm _ _ _ _
theorem Vh (h1:1<=n) (h:Up O key p n) (hl:O.kle (kk O key p (n-1)) (kk O key p n)):Up O key p (n+1):=by
 intro i j m8 hj;by_cases hjx:j<n
 ·exact h i j m8 hjx
 ·have qu:j=n:=by lia
  subst qu;by_cases i_:i=j
  ·subst i_;exact kW _
  ·exact sW (h i (j-1) (by lia) (by lia)) hl
theorem YT (h1:1<=n) (h:Dn O key p n) (hl:O.kle (kk O key p n) (kk O key p (n-1))):Dn O key p (n+1):=by
 intro i j m8 hj;by_cases hjx:j<n
 ·exact h i j m8 hjx
 ·have qu:j=n:=by lia
  subst qu;by_cases i_:i=j
  ·subst i_;exact kW _
  ·exact sW hl (h i (j-1) (by lia) (by lia))
theorem Fd (lo:Lo p N):∀(f n:Nat),1<=n->Up O key p n->kIn (de O key) N (wX p f n)/\n<=jG (de O key) (wX p f n)/\jG (de O key) (wX p f n)<=n+f/\Up O key p (jG (de O key) (wX p f n)) /\
  (jG (de O key) (wX p f n)=n+f\/O.klt (kk O key p (jG (de O key) (wX p f n))) (kk O key p (jG (de O key) (wX p f n)-1)))
 | 0,n,_,h=>⟨trivial,bO _,bO _,h,cY rfl⟩
 | f+1,n,h1,h=>by
  simp only[wX,jG,kIn];cases hb:de O key (p.getD n 0) (p.getD (n-1) 0) with
  | true =>
   simp only[if_true];exact⟨⟨lo _,lo _,trivial⟩,bO _,by simp only[jG];lia,h,cV hb⟩
  | false =>
   simp only[aO,if_false];obtain⟨i1,i2,i3,i4,i5⟩:=Fd lo f (n+1) (by lia) (Vh h1 h hb);refine⟨⟨lo _,lo _,i1⟩,by lia,by lia,i4,?_⟩;rcases i5 with e | e
   ·exact cY (by lia)
   ·exact cV e
theorem Eh (lo:Lo p N) (h1:1<=n) (hn:n<=nrem) (hz:nrem<=p.size) (h:Dn O key p n) :
  kIn (de O key) N (uY n nrem p)/\1<=(jG (de O key) (uY n nrem p)).1/\(jG (de O key) (uY n nrem p)).1<=nrem/\(jG (de O key) (uY n nrem p)).2.Perm p/\Up O key (jG (de O key) (uY n nrem p)).2 (jG (de O key) (uY n nrem p)).1:=by
 unfold uY;have up:Up O key (ET p 0 n) n:=by
  intro i j m8 hj;rw[Gc (by lia),Gc (by lia),if_pos (by lia),if_pos (by lia)];exact h _ _ (by lia) (by lia)
 obtain⟨i1,i2,i3,i4,_⟩:=Fd (AE (EA p 0 n) lo) (nrem-n) n h1 up;rw[uX];refine⟨pM _ i1 trivial,?_,?_,EA p 0 n,i4⟩
 ·show 1<=_;simp only[jG];lia
 ·simp only[jG];lia
theorem PQ:∀(f:Nat) (p:Array Nat) (n q:Nat),Lo p N->1<=n->n+f<=p.size->Dn O key p n->q+1<=n->(∀i,n-(q+1)<=i->i<n->kk O key p i=kk O key p (n-1)) ->
  kIn (de O key) N (lV f p n q)/\(jG (de O key) (lV f p n q)).1.Perm p/\n<=(jG (de O key) (lV f p n q)).2.1/\(jG (de O key) (lV f p n q)).2.1<=n+f /\
  Dn O key (jG (de O key) (lV f p n q)).1 (jG (de O key) (lV f p n q)).2.1/\(jG (de O key) (lV f p n q)).2.2+1<=(jG (de O key) (lV f p n q)).2.1 /\
  (∀i,(jG (de O key) (lV f p n q)).2.1-((jG (de O key) (lV f p n q)).2.2+1)<=i->i<(jG (de O key) (lV f p n q)).2.1->kk O key (jG (de O key) (lV f p n q)).1 i=kk O key (jG (de O key) (lV f p n q)).1 ((jG (de O key) (lV f p n q)).2.1-1))
 | 0,p,n,q,lo,h1,hz,h,hq,he=>⟨trivial,qN _,bO _,bO _,h,hq,he⟩
 | f+1,p,n,q,lo,h1,hz,h,hq,he=>by
  simp only[lV,jG,kIn];cases hb:de O key (p.getD n 0) (p.getD (n-1) 0) with
  | true =>
   simp only[if_true];by_cases h0:q > 0
   ·simp only[if_pos h0];have hk:=MP (O:=O) (key:=key) (p:=p) (i:=n-(q+1)) (j:=n) (by lia) he;have pm:=EA p (n-(q+1)) n;have dn:Dn O key (ET p (n-(q+1)) n) (n+1):=by
     have d0:=YT h1 h (oX hb);intro i j m8 hj;rw[hk,hk];exact d0 i j m8 hj
    obtain⟨i1,i2,i3,i4,i5,i6,i7⟩:=PQ f (ET p (n-(q+1)) n) (n+1) 0 (AE pm lo) (by lia) (by rw[pm.size_eq];lia) dn (by lia) (λi a b=>by congr 1;lia);exact⟨⟨lo _,lo _,i1⟩,i2.trans pm,by lia,by lia,i5,i6,i7⟩
   ·simp only[if_neg h0];obtain⟨i1,i2,i3,i4,i5,i6,i7⟩:=PQ f p (n+1) 0 lo (by lia) (by lia) (YT h1 h (oX hb)) (by lia) (λi a b=>by congr 1;lia);exact⟨⟨lo _,lo _,i1⟩,i2,by lia,by lia,i5,i6,i7⟩
  | false =>
   simp only[aO,if_false,jG,kIn];cases hc:de O key (p.getD (n-1) 0) (p.getD n 0) with
   | true =>
    simp only[if_true];exact⟨⟨lo _,lo _,lo _,lo _,trivial⟩,qN _,bO _,by simp only[jG];lia,h,hq,he⟩
   | false =>
    simp only[aO,if_false];have e:kk O key p n=kk O key p (n-1):=FB hc hb;obtain⟨i1,i2,i3,i4,i5,i6,i7⟩:=PQ f p (n+1) (q+1) lo (by lia) (by lia) (YT h1 h (by rw[e];exact kW _)) (by lia) (λi a b=>by
     rw[show n+1-1=n by lia];by_cases hi:i=n
     ·subst hi;rfl
     ·rw[e];exact he i (by lia) (by lia))
    exact⟨⟨lo _,lo _,lo _,lo _,i1⟩,i2,by lia,by lia,i5,i6,i7⟩
theorem NS (lo:Lo p N) (hn:n+1<=nrem) (hz:nrem<=p.size) (h:Dn O key p (n+1)) :
  kIn (de O key) N (pZ n nrem p)/\1<=(jG (de O key) (pZ n nrem p)).1/\(jG (de O key) (pZ n nrem p)).1<=nrem/\(jG (de O key) (pZ n nrem p)).2.Perm p/\Up O key (jG (de O key) (pZ n nrem p)).2 (jG (de O key) (pZ n nrem p)).1:=by
 unfold pZ;obtain⟨i1,i2,i3,i4,i5,i6,i7⟩:=PQ (N:=N) (nrem-(n+1)) p (n+1) 0 lo (by lia) (by lia) h (by lia) (λi a b=>by congr 1;lia);rw[uX];generalize hr:jG (de O key) (lV (nrem-(n+1)) p (n+1) 0)=r at *;by_cases h0:r.2.2 > 0
 ·have sz:r.1.size=p.size:=i2.size_eq;have hk:=MP (O:=O) (key:=key) (p:=r.1) (i:=r.2.1-(r.2.2+1)) (j:=r.2.1) (by lia) i7;have pm:=(EA r.1 (r.2.1-(r.2.2+1)) r.2.1).trans i2;have t:=Eh (O:=O) (key:=key) (N:=N) (AE pm lo) (n:=r.2.1) (nrem:=nrem) (by lia) (by lia) (by rw[pm.size_eq];lia) (λi j m8 hj=>by rw[hk,hk];exact i5 i j m8 hj);rw[if_pos h0];refine⟨pM _ i1 ?_,t.2.1,t.2.2.1,t.2.2.2.1.trans pm,t.2.2.2.2⟩;rw[hr,if_pos h0];exact t.1
 ·have t:=Eh (O:=O) (key:=key) (N:=N) (AE i2 lo) (n:=r.2.1) (nrem:=nrem) (by lia) (by lia) (by rw[i2.size_eq];lia) i5;rw[if_neg h0];refine⟨pM _ i1 ?_,t.2.1,t.2.2.1,t.2.2.2.1.trans i2,t.2.2.2.2⟩;rw[hr,if_neg h0];exact t.1
theorem Nz (lo:Lo p N) (h1:1<=nrem) (hz:nrem<=p.size) :
  kIn (de O key) N (tG nrem p)/\1<=(jG (de O key) (tG nrem p)).1/\(jG (de O key) (tG nrem p)).1<=nrem/\(jG (de O key) (tG nrem p)).2.Perm p/\Up O key (jG (de O key) (tG nrem p)).2 (jG (de O key) (tG nrem p)).1:=by
 unfold tG;obtain⟨i1,i2,i3,i4,i5⟩:=Fd (O:=O) (key:=key) lo (nrem-1) 1 (bO _) (λi j m8 hj=>by have:i=j:=(by lia);subst this;exact kW _);rw[uX];generalize hr:jG (de O key) (wX p (nrem-1) 1)=n at *;by_cases hn:n=nrem
 ·rw[if_pos (by simpa using hn)];exact⟨pM _ i1 (by rw[hr,if_pos (by simpa using hn)];trivial),i2,by show n<=nrem;lia,qN _,i4⟩
 ·rw[if_neg (by simpa using hn)];have dw:O.klt (kk O key p n) (kk O key p (n-1)):=i5.resolve_left (by lia);by_cases hg:n > 1
  ·rw[if_pos hg];simp only[jG];cases hb:de O key (p.getD 0 0) (p.getD (n-1) 0) with
   | true =>
    simp only[if_true];exact⟨pM _ i1 (by rw[hr,if_neg (by simpa using hn),if_pos hg];exact⟨lo _,lo _,by rw[hb];trivial⟩),by show 1<=n;lia,by show n<=nrem;lia,qN _,i4⟩
   | false =>
    simp only[aO,if_false];have du:∀k,0<=k->k<n->kk O key p k=kk O key p (n-1):=by
     intro k _ hk;have a1:=i4 0 k (by lia) hk;have a2:=i4 k (n-1) (by lia) (by lia);exact FB a2 (sW hb a1)
    have hk:=MP (O:=O) (key:=key) (p:=p) (i:=0) (j:=n) (by lia) du;have pm:=EA p 0 n;have t:=NS (O:=O) (key:=key) (N:=N) (AE pm lo) (n:=n) (nrem:=nrem) (by lia) (by rw[pm.size_eq];lia) (λi j m8 hj=>by
     rw[hk,hk];by_cases hjn:j<n
     ·rw[du i (by lia) (by lia),du j (by lia) hjn];exact kW _
     ·have qu:j=n:=(by lia);subst qu;by_cases i_:i=j
      ·subst i_;exact kW _
      ·rw[du i (by lia) (by lia)];exact oX dw)
    exact⟨pM _ i1 (by rw[hr,if_neg (by simpa using hn),if_pos hg];exact⟨lo _,lo _,by rw[hb];exact t.1⟩),t.2.1,t.2.2.1,t.2.2.2.1.trans pm,t.2.2.2.2⟩
  ·rw[if_neg hg];have n1:n=1:=(by lia);have t:=NS (O:=O) (key:=key) (N:=N) lo (n:=n) (nrem:=nrem) (by lia) hz (λi j m8 hj=>by
    by_cases i_:i=j
    ·subst i_;exact kW _
    ·have e1:i=n-1:=(by lia);have e2:j=n:=(by lia);rw[e1,e2];exact oX dw)
   exact⟨pM _ i1 (by rw[hr,if_neg (by simpa using hn),if_neg hg];exact t.1),t.2⟩
theorem SZ (lo:Lo p N) (hs:Up O key p k):∀(f l r:Nat),l<=r->r<=k->r-l<=f->(∀i,i<l->O.kle (kk O key p i) (kk O key p k))->(∀i,r<=i->i<k->O.klt (kk O key p k) (kk O key p i)) ->
  kIn (de O key) N (yM p k f l r)/\jG (de O key) (yM p k f l r)<=k/\(∀i,i<jG (de O key) (yM p k f l r)->O.kle (kk O key p i) (kk O key p k))/\(∀i,jG (de O key) (yM p k f l r)<=i->i<k->O.klt (kk O key p k) (kk O key p i))
 | 0,l,r,hlr,U5,hf,a,b=>by
  have:l=r:=by lia
  subst this;exact⟨trivial,U5,a,b⟩
 | f+1,l,r,hlr,U5,hf,a,b=>by
  simp only[yM];by_cases xl:l ≥ r
  ·have:l=r:=(by lia);subst this;rw[if_pos xl];exact⟨trivial,U5,a,b⟩
  ·rw[if_neg xl];simp only[jG,kIn];cases hb:de O key (p.getD k 0) (p.getD ((l+r) / 2) 0) with
   | true =>
    simp only[if_true];have t:=SZ lo hs f l ((l+r) / 2) (by lia) (by lia) (by lia) a (λi h1 h2=>KeyOrd.klt_of_klt_of_kle hb (hs _ _ h1 h2));exact⟨⟨lo _,lo _,t.1⟩,t.2⟩
   | false =>
    simp only[aO,if_false];have t:=SZ lo hs f ((l+r) / 2+1) r (by lia) U5 (by lia) (λi h1=>sW (hs i ((l+r) / 2) (by lia) (by lia)) hb) b;exact⟨⟨lo _,lo _,t.1⟩,t.2⟩
theorem Nr:∀(f:Nat) (p:Array Nat) (k:Nat),Lo p N->k+f<=p.size->Up O key p k->kIn (de O key) N (ZF f p k)/\(jG (de O key) (ZF f p k)).Perm p/\Up O key (jG (de O key) (ZF f p k)) (k+f)
 | 0,p,k,lo,hz,h=>⟨trivial,qN _,h⟩
 | f+1,p,k,lo,hz,h=>by
  simp only[ZF];obtain⟨i1,i2,i3,i4⟩:=SZ lo h k 0 k (by lia) (by lia) (by lia) (λi hi=>absurd hi (by lia)) (λi h1 h2=>absurd h2 (by lia));rw[uX];generalize hr:jG (de O key) (yM p k k 0 k)=l at *;have pm:=bubble_perm p k (k-l);have hb:=λi=>Lh (O:=O) (key:=key) (p:=p) (src:=k) (d:=k-l) (by lia) (by lia) i;have up:Up O key (bubble p k (k-l)) (k+1):=by
   intro i j m8 hj;rw[hb,hb,show k-(k-l)=l by lia];by_cases e1:i=l
   ·rw[if_pos e1];by_cases e2:j=l
    ·rw[if_pos e2];exact kW _
    ·rw[if_neg e2,if_pos (by lia)];exact oX (i4 _ (by lia) (by lia))
   ·rw[if_neg e1];by_cases e2:j=l
    ·rw[if_pos e2,if_neg (by lia)];exact i3 _ (by lia)
    ·rw[if_neg e2];by_cases e3:l<i/\i<=k
     ·rw[if_pos e3,if_pos (by lia)];exact h _ _ (by lia) (by lia)
     ·rw[if_neg e3];by_cases e4:l<j/\j<=k
      ·rw[if_pos e4];exact h _ _ (by lia) (by lia)
      ·rw[if_neg e4];exact h _ _ (by lia) (by lia)
  obtain⟨t1,t2,t3⟩:=Nr f (bubble p k (k-l)) (k+1) (AE pm lo) (by rw[pm.size_eq];lia) up;refine⟨pM _ i1 (by rw[hr];exact t1),t2.trans pm,?_⟩;rw[show k+(f+1)=k+1+f by lia];exact t3
theorem Uz (h1:1<=n):kIn (de O key) n (CV n)/\(jG (de O key) (CV n)).Perm (lH (dX n))/\Up O key (jG (de O key) (CV n)) n:=by
 have lo:Lo (lH (dX n)) n:=by
  intro i;by_cases hi:i<n
  ·simp[lN,hi]
  ·simp[lN,hi];lia
 unfold CV;obtain⟨i1,i2,i3,i4,i5⟩:=Nz (O:=O) (key:=key) lo (nrem:=n) h1 (by simp);rw[uX];generalize hr:jG (de O key) (tG n (lH (dX n)))=r at *;have sz:r.2.size=n:=by rw[i4.size_eq];simp
 by_cases h:r.1<n
 ·have t:=Nr (O:=O) (key:=key) (N:=n) (n-max r.1 1) r.2 (max r.1 1) (AE i4 lo) (by lia) (by rw[show max r.1 1=r.1 by lia];exact i5);rw[if_pos h];refine⟨pM _ i1 (by rw[hr,if_pos h];exact t.1),t.2.1.trans i4,?_⟩;have:=t.2.2
  rwa [show max r.1 1+(n-max r.1 1)=n by lia] at this
 ·rw[if_neg h];refine⟨pM _ i1 (by rw[hr,if_neg h];trivial),i4,?_⟩;rw[show n=r.1 by lia];exact i5
end
end
section
open PySem PySem.W PySem.SetTable PyProof.Rows
def pN:List Int->List Int->Bool
 | [],[]=>false
 | [],_::_=>true
 | _::_,[]=>false
 | a::as,b::bs=>if a=b then pN as bs else decide (a<b)
theorem Cj:∀a,pN a a=false
 | []=>rfl
 | a::as=>by simp only[pN,if_true];exact Cj as
theorem HU:∀a b c,pN a b=true->pN b c=true->pN a c=true
 | [],[],c,h,_=>by simp[pN] at h
 | [],_::_,[],_,h=>by simp[pN] at h
 | [],_::_,_::_,_,_=>rfl
 | _::_,[],_,h,_=>by simp[pN] at h
 | _::_,_::_,[],_,h=>by simp[pN] at h
 | a::as,b::bs,c::cs,h,k=>by
  simp only[pN] at h k ⊢;by_cases e1:a=b
  ·subst e1;rw[if_pos rfl] at h;by_cases e2:a=c
   ·subst e2;rw[if_pos rfl] at k ⊢;exact HU as bs cs h k
   ·rw[if_neg e2] at k ⊢;exact k
  ·rw[if_neg e1] at h;by_cases e2:b=c
   ·subst e2;rw[if_neg e1];exact h
   ·rw[if_neg e2] at k;simp only[decide_eq_true_eq] at h k;rw[if_neg (by lia)];simp only[decide_eq_true_eq];lia
theorem HS:∀a b,pN a b=false->pN b a=false->a=b
 | [],[],_,_=>rfl
 | [],_::_,h,_=>by simp[pN] at h
 | _::_,[],_,h=>by simp[pN] at h
 | a::as,b::bs,h,k=>by
  simp only[pN] at h k;by_cases e:a=b
  ·subst e;rw[if_pos rfl] at h k;rw[HS as bs h k]
  ·rw[if_neg e] at h;rw[if_neg (Ne.symm e)] at k;simp only[decide_eq_false_iff_not] at h k;lia
theorem Pn (a b c:List Int) (h:pN a c=true):pN a b=true\/pN b c=true:=by
 cases h1:pN a b with
 | true=>exact cY rfl
 | false =>
  right;cases h2:pN b a with
  | true=>exact HU b a c h2 h
  | false=>rw[<-HS a b h1 h2];exact h
def Tf:KeyOrd:=⟨List Int,pN,Cj,HU,Pn,HS⟩
section
variable {prog:bU} {w:dJ} {A:dD} {E:aB->aF->Prop} {s:aF}
theorem int_inv (h:(intKind prog w).is k v=true):∃t,v = .int k t:=by
 cases v <;> simp[intKind,NP] at h;exact⟨_,by rw[h]⟩
theorem Tg:∀(ns ms:List Int) (vs us:List aB) (i:Nat),ItemsAre (intKind prog w) ns vs->ItemsAre (intKind prog w) ms us->fin=decide (vs.length<us.length)->Q (pN ns ms) s->KatLex prog w A true fin Q (vs.zip us) i s:=by
 intro ns
 induction ns with
 | nil =>
  intro ms vs us i h1 h2 hf q;cases h1;cases h2 with
  | nil=>simp at hf;subst hf;exact kat_nil q
  | cons _ _=>simp at hf;subst hf;exact kat_nil q
 | cons n ns ih =>
  intro ms vs us i h1 h2 hf q;cases h1 with
  | cons h1 t1 =>
   cases h2 with
   | nil=>simp at hf;subst hf;exact kat_nil q
   | @cons m u ms us h2 t2 =>
    rw[nZ];refine kat_cons ((intKind prog w).eqBool h1 h2 ?_);by_cases e:n=m
    ·subst e;rw[decide_eq_true rfl];exact kat_yes (ih ms _ us (i+1) t1 t2 (by simpa using hf) (by simpa [pN] using q))
    ·rw[decide_eq_false e];obtain⟨tn,rfl⟩:=int_inv h1;obtain⟨tm,rfl⟩:=int_inv h2;have q':Q (decide (n<m)) s:=(by simpa [pN,e] using q);refine kat_no ?_;cases hi:(i == 0) with
     | true=>exact oneLt_int q'
     | false=>exact kat_one _ _ (PySem.wpAny_lt_int (by exact q'))
def gj (prog:bU) (w:dJ) (h:Heap) (vs:List aB) (nss:List (List Int)):Prop:=vs.length=nss.length/\∀i v,vs[i]? = some v->∃a,v = .ref a/\IsTupleKey (intKind prog w) h (nss.getD i []) a
theorem SE:∀(vs:List aB) (nss:List (List Int)),gj prog w h vs nss->(∀ns∈nss,ns≠[])->∃fs:List aB,KatTups h vs fs/\fs.length=vs.length/\∀f∈fs,∃k t,f = .int k t
 | [],nss,_,_=>⟨[],trivial,rfl,λf hf=>by cases hf⟩
 | v::vs,nss,H,hn=>by
  match nss,H with
  | [],H=>exact absurd H.1 (by simp)
  | ns::nss,H =>
   obtain⟨a,rfl,o,items,n,ho,hc,hd,hi⟩:=H.2 0 v rfl;obtain⟨fs,f1,f2,f3⟩:=SE vs nss ⟨by have:=H.1;simpa using this,λi v e=>H.2 (i+1) v e⟩ λms hm=>hn ms (aT _ hm);simp only[List.getD_cons_zero] at hi
   match ns,hi,hn ns (cF ..) with
   | [],_,h=>exact absurd rfl h
   | k::ks,hi,_ =>
    generalize e:items.toList=its at hi;cases hi with
    | cons h1 h2 =>
     obtain⟨t,rfl⟩:=int_inv h1;refine⟨.int k t::fs,⟨⟨a,o,items,n,rfl,ho,hc,hd,?_⟩,f1⟩,by simp[f2],λf hf=>?_⟩
     ·rw[<-jU,e];rfl
     ·rcases aN.mp hf with rfl | hf
      ·exact⟨k,t,rfl⟩
      ·exact f3 f hf
theorem gj.other (K:gj prog w h vs nss) (ho:h.get? a=some (seqObj "list" xs n)) (up:∀b o,b≠a->h.get? b=some o->h'.get? b=some o):gj prog w h' vs nss:=by
 refine⟨K.1,λi v e=>?_⟩;obtain⟨b,rfl,o,its,m,h1,h2,h3,h4⟩:=K.2 i v e;refine⟨b,rfl,o,its,m,up b o ?_ h1,h2,h3,h4⟩;rintro rfl;rw[ho] at h1;cases h1;exact absurd h2 (by simp[seqObj])
theorem range_getD {α:Type} (d:α) (xs:List α):(dX xs.length).map (λi=>xs.getD i d)=xs:=by
 apply yA (by simp);intro i h1 h2;simp[h2]
theorem Ms (ho:s.heap.get? a=some (seqObj "list" vs.toArray n)) (K:gj prog w s.heap vs nss) (hn:∀ns∈nss,ns≠[]) (vm:vs.length<64)
  (q:∀h' out mss c,h'.get? a=some (seqObj "list" (lH out) c)->gj prog w h' out mss->(∀v∈out,v∈vs)->mss.Perm nss->mss.Pairwise (λx y=>pN y x=false)->(∀b o,b≠a->s.heap.get? b=some o->h'.get? b=some o)->P (.done (.ret .none)) { s with heap:=h' }) :
  wpAny (model prog w) A (Builtin.«list.sort» ⟨[.ref a],[]⟩) P E s:=by
 have lt:a<s.heap.objs.size:=aP ho;rw[list_sort_plain];apply aA;refine listItems_at ho rfl ?_;apply aA;refine UZ ho rfl ?_ (by rw[aY,jQ];lia) (fV _);obtain⟨e1,ho1⟩:∃e1,(s.heap.update a (cX λ_=>(#[]:Array aB))).get? a=some (seqObj "list" #[] e1):=⟨_,OV ho λ_=>#[]⟩;have up1:∀b o,b≠a->s.heap.get? b=some o->(s.heap.update a (cX λ_=>(#[]:Array aB))).get? b=some o:=λb o hb e=>(cD _ _ (Ne.symm hb)).trans e;generalize s.heap.update a (cX λ_=>(#[]:Array aB))=h1 at ho1 up1;apply aA;refine seqEpoch_at ho1 rfl ?_;apply aA;refine EH ?_ (by show vs.length<=_;rw[jQ];lia);apply aA;refine VO ?_ (fV _);apply fG;show wpAny (model prog w) A _ P E { s with heap:=(h1.push (seqObj "tuple" vs.toArray 0)).push (seqObj "list" #[] 0) };have j_:∀b o,b≠a->s.heap.get? b=some o->((h1.push (seqObj "tuple" vs.toArray 0)).push (seqObj "list" #[] 0)).get? b=some o:=λb o hb e=>aK _ (aK _ (up1 b o hb e));have pi:((h1.push (seqObj "tuple" vs.toArray 0)).push (seqObj "list" #[] 0)).get? a=some (seqObj "list" #[] e1):=aK _ (aK _ ho1);generalize (h1.push (seqObj "tuple" vs.toArray 0)).push (seqObj "list" #[] 0)=h2 at j_ pi;have K2:=K.other ho j_;have fin:∀(out:List aB) (mss:List (List Int)) (fb:SortSt),(arrOf fb).map (·.2)=out.toArray->failedOf fb=none->gj prog w h2 out mss->(∀v∈out,v∈vs)->mss.Perm nss->mss.Pairwise (λx y=>pN y x=false)->out.length<=64 ->
   wpAny (model prog w) A (do
    let sorted:=(arrOf fb).map (·.2);let touched:=(<-seqEpoch a) != e1
    rE (.ref a) λ_=>sorted
    if let some e:=failedOf fb then rule "list.sort.comparison-raised";throw e
    if touched then rule "list.sort.modified";raiseError "ValueError" "list modified during sort"
    ret .none) P E { s with heap:=h2 }:=by
  intro out mss fb h1 hf KO hv hp hs hlen;dsimp only;apply aA;refine seqEpoch_at (s:={ s with heap:=h2 }) pi rfl ?_;rw[h1];apply aA;refine UZ (s:={ s with heap:=h2 }) pi rfl ?_ (fV _) (by show out.toArray.size<=_;rw[aY,jQ];lia);obtain⟨c,hc⟩:∃c,(h2.update a (cX λ_=>out.toArray)).get? a=some (seqObj "list" out.toArray c):=⟨_,OV pi λ_=>out.toArray⟩;have ap:∀b o,b≠a->h2.get? b=some o->(h2.update a (cX λ_=>out.toArray)).get? b=some o:=λb o hb e=>(cD _ _ (Ne.symm hb)).trans e;generalize h2.update a (cX λ_=>out.toArray)=h3 at hc ap;rw[hf];simp only[bne_self_eq_false,aO,if_false];exact aJ (q h3 out mss c hc (KO.other pi ap) hv hp hs λb o hb e=>ap b o hb (j_ b o hb e))
 have ln:=K.1;dsimp only;by_cases No:vs.length<2
 ·have c2:vs.toArray.size<2:=by rw[aY];exact No
  rw[if_pos c2,if_pos c2];apply aA;apply aJ;apply aA;show wpAny _ _ (pure ((),SortSt.mk' general' (vs.toArray.zip vs.toArray) #[] 7 none)) _ _ _;apply aJ;refine fin vs nss _ ?_ rfl K2 (λ_ h=>h) (BW _) ?_ (by lia)
  ·show (vs.toArray.zip vs.toArray).map (·.2)=vs.toArray;apply Array.toList_inj.mp;simp[List.map_snd_zip]
  ·match nss,ln with
   | [],_=>exact oZ
   | [x],_=>exact yC _ _
   | _::_::_,ln=>simp at ln;lia
 ·have c2:¬vs.toArray.size<2:=by rw[aY];exact No
  rw[if_neg c2,if_neg c2];obtain⟨fs,f1,f2,f3⟩:=SE vs nss K2 hn;apply aA;refine kat_kind (s:={ s with heap:=h2 }) (T:=.type "int") f1 (by lia) (λv hv=>?_) (by decide) ?_
  ·obtain⟨k,t,rfl⟩:=f3 v hv;exact Looks.now
  have hT:(iR "int" != iR "tuple")=true:=by decide
  rw[hT];obtain⟨i1,i2,i3⟩:=Uz (O:=Tf) (key:=λi=>nss.getD i []) (n:=vs.length) (by lia);have psz:(jG (de Tf λi=>nss.getD i []) (CV vs.length)).size=vs.length:=by rw[i2.size_eq];simp
  generalize hp:jG (de Tf λi=>nss.getD i []) (CV vs.length)=p at i2 i3 psz;apply aA;refine jC (kat_run (ks:=vs) (vs:=vs) (Q:=λfb s'=>s' = { s with heap:=h2 }/\arrOf fb=p.map (kas_item (vs.toArray.zip vs.toArray))/\failedOf fb=none) (G:=λp' s'=>p'=p/\s' = { s with heap:=h2 }) rfl (by lia) vm (λp' fb s' a1 a2 a3 a4=>⟨a4.2,by rw[a2,a4.1],a3⟩) ?_) ?_ λ_ _ e=>e
  ·refine SD (lt:=de Tf λi=>nss.getD i []) (n:=vs.length) (s:={ s with heap:=h2 }) (λi j C hi hj c=>?_) _ i1 ⟨hp,rfl⟩;unfold kas_ask;obtain⟨x,ex,ox,xs,nx,hx1,hx2,hx3,hx4⟩:=K2.2 i (vs.getD i gO) (by simp[hi]);obtain⟨y,ey,oy,ys,ny,hy1,hy2,hy3,hy4⟩:=K2.2 j (vs.getD j gO) (by simp[hj]);rw[ex,ey];refine kat_lt (s:={ s with heap:=h2 }) hx1 hx3 hy1 hy3 (Tg _ _ _ _ 0 hx4 hy4 (by simp) ?_);exact c
  ·rintro⟨⟨⟩,fb⟩ s' ⟨rfl,har,hf⟩;have hout:=kat_snds (ks:=vs) (vs:=vs) rfl har;refine fin (p.toList.map λi=>vs.getD i gO) (p.toList.map λi=>nss.getD i []) fb hout hf ⟨by simp,λi v e=>?_⟩ (λv hv=>?_) ?_ ?_ (by simp[psz];lia)
   ·rw[bK] at e;cases e2:p.toList[i]? with
    | none=>rw[e2] at e;simp at e
    | some j =>
     rw[e2] at e;simp only[oJ,pA] at e;have hj:j<vs.length:=by
      have m:j∈p.toList:=eW e2;have:=(GP i2).mp (iG.mp m);simpa using this
     obtain⟨b,hb1,P_⟩:=K2.2 j v (by rw[<-e];simp[hj]);refine⟨b,hb1,?_⟩;have g:(p.toList.map λi=>nss.getD i []).getD i []=nss.getD j []:=by
      rw[eI,bK,e2];rfl
     rw[g];exact P_
   ·obtain⟨j,m,rfl⟩:=bJ.mp hv;have hj:j<vs.length:=by
     have:=(GP i2).mp (iG.mp m);simpa using this
    simp[hj]
   ·have pl:p.toList.Perm (dX vs.length):=(by simpa using i2.toList);refine (pl.map _).trans ?_;rw[ln,range_getD]
   ·refine kO.mpr (jS.mpr λi j hi hj m8=>?_);have:=i3 i j (by lia) (by simp at hj;lia);unfold kk at this;simp only[cN] at hi hj;have e1:p.getD i 0=p[i]:=(by simp[lN,hi]);have e2:p.getD j 0=p[j]:=(by simp[lN,hj]);rw[e1,e2] at this;exact this
theorem OT {S:Addr} {es:Array (Int × aB)} {Q:aB->aF->Prop} (hh:A.handled=none) (H:iz prog w s.heap S es) (vm:es.size<64) {nss:List (List Int)} (hn:∀ns∈nss,ns≠[])
  (hk:∀e∈es.toList,∃ns∈nss,∃a,e.2 = .ref a/\IsTupleKey (intKind prog w) s.heap ns a)
  (q:∀h' D out mss c,s.heap.objs.size<=D->h'.get? D=some (seqObj "list" (lH out) c)->gj prog w h' out mss->(∀v∈out,∃e∈es.toList,e.2=v)->(∀ns,ns∈mss↔∃e∈es.toList,∃a,e.2 = .ref a/\IsTupleKey (intKind prog w) s.heap ns a)->mss.Pairwise (λx y=>pN y x=false) ->
   mss.length=es.size->(∀b o,s.heap.get? b=some o->h'.get? b=some o)->Q (.ref D) { s with heap:=h' }) :
  wpAny (model prog w) A (call (.builtin "sorted") [.ref S]) Q E s:=by
 obtain⟨⟨ep,t,ho,T,hf,hl,hp,_⟩,els,_⟩:=H;have wp:=NK (w:=w) S ep es;have wl:(lB w S ep es).toList.length=es.size:=by rw[wp.length_eq,cN]
 refine Calls.call_function_entry kind_sorted plain_sorted entry_sorted (args_sorted1 _) ?_;unfold Builtin.«sorted»;refine aA (m:=checkCount "sorted" 1 1 _) (aJ ?_);apply aA;refine Ay (A:=A.in1) (by simp[hh]) ho T hl hp (by lia) λh1 k1 oz=>?_;apply aA;refine VO ?_ (by rw[bV,wl,jQ];lia);show wpAny _ _ _ _ _ { s with heap:=h1.push (seqObj "list" (lH ((lB w S ep es).toList.map (·.2))) 0) };have hL:(h1.push (seqObj "list" (lH ((lB w S ep es).toList.map (·.2))) 0)).get? h1.objs.size=some (seqObj "list" (lH ((lB w S ep es).toList.map (·.2))) 0):=bF _ rfl;have k2:∀b o,s.heap.get? b=some o->(h1.push (seqObj "list" (lH ((lB w S ep es).toList.map (·.2))) 0)).get? b=some o:=λb o e=>aK _ (k1 b o e);generalize h1.push (seqObj "list" (lH ((lB w S ep es).toList.map (·.2))) 0)=h2 at hL k2;have ex:∀(i:Nat) (v:aB),((lB w S ep es).toList.map (·.2))[i]? = some v->∃ns∈nss,∃a,v = .ref a/\IsTupleKey (intKind prog w) s.heap ns a:=by
  intro i v e;rw[bK] at e;cases e2:(lB w S ep es).toList[i]? with
  | none=>rw[e2] at e;simp at e
  | some x =>
   rw[e2] at e;simp only[oJ,pA] at e;have m:x∈es.toList:=wp.mem_iff.mp (eW e2);obtain⟨ns,h1,a,h2,h3⟩:=hk x m;exact⟨ns,h1,a,by rw[<-e];exact h2,h3⟩
 obtain⟨kss,kl,kk⟩:∃kss:List (List Int),kss.length=((lB w S ep es).toList.map (·.2)).length/\∀(i:Nat) (v:aB),((lB w S ep es).toList.map (·.2))[i]? = some v->kss.getD i []∈nss/\∃a,v = .ref a/\IsTupleKey (intKind prog w) s.heap (kss.getD i []) a:=by
  generalize ((lB w S ep es).toList.map (·.2))=vs at ex;clear hL
  induction vs with
  | nil=>exact⟨[],rfl,λi v e=>by simp at e⟩
  | cons v vs ih =>
   obtain⟨kss,k1,k2⟩:=ih λi v e=>ex (i+1) v (by simpa using e);obtain⟨ns,h1,a,h2,h3⟩:=ex 0 v rfl;refine⟨ns::kss,by simp[k1],λi u e=>?_⟩;cases i with
   | zero=>simp at e;subst e;exact⟨h1,a,h2,h3⟩
   | succ i=>exact k2 i u (by simpa using e)
 have KA:gj prog w h2 ((lB w S ep es).toList.map (·.2)) kss:=by
  refine⟨kl.symm,λi v e=>?_⟩;obtain⟨_,a,h1,o,its,m,g1,g2⟩:=kk i v e;exact⟨a,h1,o,its,m,k2 _ _ g1,g2⟩
 have zo:∀ns,ns∈kss↔∃e∈es.toList,∃a,e.2 = .ref a/\IsTupleKey (intKind prog w) s.heap ns a:=by
  intro ns;constructor
  ·intro h;obtain⟨i,hi,e⟩:=eT h;have i_:i<((lB w S ep es).toList.map (·.2)).length:=(by lia);obtain⟨_,a,h1,h2⟩:=kk i _ (aG i_);have g:kss.getD i []=ns:=(by simp[hi,e]);rw[g] at h2;simp only[List.getElem_map] at h1;exact⟨_,wp.mem_iff.mp (nG _),a,h1,h2⟩
  ·rintro⟨e,he,a,h1,h2⟩;obtain⟨i,hi,e'⟩:=eT (wp.mem_iff.mpr he);obtain⟨_,b,g1,g2⟩:=kk i e.2 (by rw[bK,aG hi,e'];rfl);rw[h1] at g1;cases g1;have:=g2.inj h2;rw[<-this];have i_:i<kss.length:=(by rw[kl];simpa using hi);simp[i_]
 refine aA (fG (iO slot_list_sort ⟨_,hL,rfl⟩ entry_list_sort ?body (args_list_sort _)))
 case body =>
  refine Ms (s:={ s with heap:=h2 }) hL KA (λns h=>?_) (by rw[bV,wl];exact vm) λh3 out mss c g1 g2 g3 g4 g5 g6=>?_
  ·obtain⟨e,he,a,e1,e2⟩:=(zo ns).mp h;obtain⟨ms,m1,b,e3,e4⟩:=hk e he;rw[e1] at e3;cases e3;rw[e2.inj e4];exact hn ms m1
  ·refine⟨_,rfl,aJ ⟨_,rfl,q h3 h1.objs.size out mss c oz g1 g2 (λv hv=>?_) (λns=>(g4.mem_iff).trans (zo ns)) g5 ?_ λb o e=>?_⟩⟩
   ·obtain⟨e,he,rfl⟩:=bJ.mp (g3 v hv);exact⟨e,wp.mem_iff.mp he,rfl⟩
   ·rw[g4.length_eq,kl,bV,wl]
   ·have:=aP e;exact g6 b o (by intro z;simp only[Addr] at *;lia) (k2 b o e)
end
end
section
open PySem PySem.W PyProof.Rows
def Ge:typeLookup (.type "list_reverseiterator") "__len__" = pure none:=by rw[qT,mD];kernel_rfl
def Pq:typeLookup (.type "list_reverseiterator") "__length_hint__" = pure (some (.builtin "list_reverseiterator.__length_hint__")):=by rw[qT,mD];kernel_rfl
def Ae:isSubtype (.type "list_reverseiterator") (.type "list_reverseiterator")=pure true:=by rw[SC];kernel_rfl
section
variable {s:aF}
theorem Rc (ty:s.TypeIs (.ref I) "list_reverseiterator") (q:Q false s):wpAny (model prog w) A (jH (.ref I)) Q E s:=by
 unfold jH;apply aA;refine oN ty Ge ?_;show wpAny _ _ (specialOf (gD I) (gL "__length_hint__") >>= _) _ _ _;apply aA;refine oN ty Pq ?_;dsimp only;have sp:splitId "list_reverseiterator.__length_hint__" = some ("list_reverseiterator","__length_hint__"):=by decide +kernel
 rw[sp];dsimp only;apply aA;refine tK (b:=true) ty Ae ?_;simp only[fU,aO,if_false];have key:∀(c:Bool) (X Y:Sem Bool),c=true->wpAny (model prog w) A X Q E s->wpAny (model prog w) A (if c=true then X else Y) Q E s:=λc X Y hc h=>by rw[if_pos hc];exact h
 refine key _ _ _ (by decide +kernel) ?_;rw[if_neg (by decide +kernel)];exact aJ q
theorem UM (hh:A.handled=none) (ne:l≠I) (hz:items.size<=sizeLine) (hi:s.heap.IsRevIter I l ((items.size:Int)-1)) (hl:s.heap.IsList l items)
  (q:∀h' c,h'.get? s.heap.objs.size=some (seqObj "list" items.toList.reverse.toArray c)->(∀b o,b≠I->s.heap.get? b=some o->h'.get? b=some o)->Q (.ref s.heap.objs.size) { s with heap:=h' }) :
  wpAny (model prog w) A (call (.type "list") [.ref I]) Q E s:=by
 have ltI:I<s.heap.objs.size:=by obtain⟨o,e,_⟩:=hi;exact aP e
 have ltl:l<s.heap.objs.size:=by obtain⟨o,e,_⟩:=hl;exact aP e
 refine QY (Q₁:=λobj s₁=>obj = .ref s.heap.objs.size/\s₁ = { s with heap:=s.heap.push { cls:=.type "list",data:=.seq #[] } }) F.called_list (F.typeCall_list_1 _) F.entry_list_init (UR _ ⟨rfl,rfl⟩) λobj s₁ h₁=>?_;obtain⟨rfl,rfl⟩:=h₁;have hS:(s.heap.push { cls:=.type "list",data:=.seq #[] }).get? s.heap.objs.size=some { cls:=.type "list",data:=.seq #[] }:=bF _ rfl;refine⟨⟨_,hS,rfl⟩,F.args_list_init_2 _ _,?_⟩;show wpAny _ _ (do let old <-nV (.ref s.heap.objs.size);rE (.ref s.heap.objs.size) (λ_=>#[]);letGo old.toList.reverse;fT (.ref s.heap.objs.size) (.ref I) .none) _ _ _;apply aA;unfold nV;apply aA;apply fD hS rfl;apply aJ;show wpAny _ _ (updateSeq s.heap.objs.size (λ_=>#[]) >>= λ_=>letGo (#[]:Array aB).toList.reverse >>= λ_=>fT (.ref s.heap.objs.size) (.ref I) .none) _ _ _;apply aA;refine gJ hS rfl ?_;have uj:=dL (cX (λ_=>(#[]:Array aB))) hS rfl;have j_:∀b o,b≠s.heap.objs.size->s.heap.get? b=some o->((s.heap.push { cls:=.type "list",data:=.seq #[] }).update s.heap.objs.size (cX (λ_=>(#[]:Array aB)))).get? b=some o :=
  λb o hb e=>(cD _ _ (Ne.symm hb)).trans (aK _ e)
 generalize (s.heap.push { cls:=.type "list",data:=.seq #[] }).update s.heap.objs.size (cX (λ_=>(#[]:Array aB)))=h2 at uj j_;apply aA;apply jR;have j5:I≠s.heap.objs.size:=bE ltI;have nel:l≠s.heap.objs.size:=bE ltl;have R_:h2.IsRevIter I l ((items.size:Int)-1):=hi.at λo e=>j_ _ o j5 e;have U1:h2.IsList l items:=hl.at λo e=>j_ _ o nel e;unfold fT;apply aA;refine sN (T:="list_reverseiterator") R_.typeIs ?_;have g1:iU (.ref s.heap.objs.size) (.ref I)=false:=by simp[iU,dZ ltI]
 have g2:(iR "list_reverseiterator" == iR "list")=false:=by decide
 have g3:(iR "list_reverseiterator" == iR "tuple")=false:=by decide
 simp only[g1,g2,g3,xG,aO,if_false];apply aA;refine wpAny_pyIter_revIter R_ ?_;apply aA;apply fG;refine Rc R_.typeIs ?_;have key:∀(c:Bool) (X Y:Sem Fin) {Q':Fin->aF->Prop} {E':aB->aF->Prop} {s':aF} {A':dD},c=false->wpAny (model prog w) A' Y Q' E' s'->wpAny (model prog w) A' (if c=true then X else Y) Q' E' s':=λc X Y _ _ _ _ hc h=>by rw[hc,if_neg cC];exact h
 refine key _ _ _ (by decide +kernel) ?_;apply aJ;refine⟨gW iQ _,?_⟩;refine RW (s0:=s) (n:=items.size) (J:=λacc h=>h.IsRevIter I l ((items.size:Int)-1-(acc.length:Int))/\h.IsList l items/\acc=items.toList.reverse.take acc.length/\∀b o,b≠I->b≠s.heap.objs.size->s.heap.get? b=some o->h.get? b=some o)
  (F:=λacc h=>acc=items.toList.reverse/\∀b o,b≠I->b≠s.heap.objs.size->s.heap.get? b=some o->h.get? b=some o) .none hz ?_ ?_ ?_ (λh' acc c j3 hF i9=>⟨rfl,?_⟩) items.size #[] h2 _ rfl (fV _) ?_ uj
 ·rintro acc h h' ⟨J1,J2,J3,J4⟩ n_ hz up;exact⟨J1.at λo e=>up _ o j5 e,J2.at λo e=>up _ o nel e,J3,λb o n1 n2 e=>up b o n2 (J4 b o n1 n2 e)⟩
 ·rintro acc s' o Q' E' dw ⟨J1,J2,J3,J4⟩ n_ k;have e:items[items.size-1-acc.length]? = some (items[items.size-1-acc.length]'(by lia)):=bD _;refine wpAny_pyNext_rev_item (i:=items.size-1-acc.length) (by rw[show ((items.size-1-acc.length:Nat):Int)=(items.size:Int)-1-(acc.length:Int) by lia];exact J1) J2 e λh' it' sb=>k _ h' ⟨?_,J2.at λo e=>?_,?_,λb o n1 n2 e=>?_⟩ ?_
  ·rw[show ((items.size-1-acc.length:Nat):Int)-1=(items.size:Int)-1-((acc++[items[items.size-1-acc.length]'(by lia)]).length:Int) by simp;lia] at it';exact it'
  ·rw[sb.2 _ ne];exact e
  ·rw[dA,sT,nJ,<-J3];congr 1;rw[aG (by simp;lia),List.getElem_reverse];simp
  ·rw[sb.2 b n1];exact J4 b o n1 n2 e
  ·rw[sb.2 _ (Ne.symm j5)];exact n_
 ·rintro acc s' o Q' E' hlen ⟨J1,J2,J3,J4⟩ n_ k;rw[hlen] at J3;refine wpAny_pyNext_rev_end (l:=l) (by simp[hh]) (by rw[show (-1:Int)=(items.size:Int)-1-(acc.length:Int) by lia];exact J1) λh' eb=>k h' ⟨?_,λb o n1 n2 e=>eb b o n1 (J4 b o n1 n2 e)⟩ (eb _ _ (Ne.symm j5) n_);rw[J3,nY];simp
 ·exact⟨by simpa using R_,U1,rfl,λb o _ n2 e=>j_ b o n2 e⟩
 ·refine q h' c ?_ λb o n1 e=>hF.2 b o n1 (bE (aP e)) e;rw[i9,<-hF.1]
end
end
section
open PySem PySem.Spec PyProof.Rows L2
def boot_sorted:bootBuiltins "sorted" = some (.builtin "sorted"):=by decide +kernel
def boot_set:bootBuiltins "set" = some (.type "set"):=by decide +kernel
theorem Ce:∀{ns:List Int} {us:List aB},ao (ns.map V.int) us->ItemsAre (intKind prog w) ns us
 | [],_,h=>by cases h;exact .nil
 | n::ns,_,h=>by
  cases h with
  | cons h1 t =>
   obtain⟨t',rfl⟩:=h1;exact .cons (intKind_is _ _ _ _) (Ce t)
def TL (te:RE):RA:=λa Q=>te a λx=>∃nss:List (List Int),x = .lst (nss.map oU)/\nss.length<64/\(∀ns∈nss,ns≠[])/\∀mss:List (List Int),mss.Pairwise (λx y=>pN y x=false)->(∀ns,ns∈mss↔ns∈nss)->mss.length<=nss.length->Q (mss.map oU)
def TJ (te:RE):RA:=λa Q=>te a λx=>∃ds:List D,x = .lst ds/\Q ds.reverse
theorem Dx {K:aH} {H:Hp}:∀(out:List aB) (mss:List (List Int)),out.length=mss.length->(∀(i:Nat) (v:aB),out[i]? = some v->∃a,v = .ref a/\H a=some (.tup ((mss.getD i []).map V.int)))->∃ws:List V,ao ws out/\ah K H (mss.map oU) ws
 | [],[],_,_=>⟨[],.nil,.nil⟩
 | [],_::_,h,_=>by simp at h
 | _::_,[],h,_=>by simp at h
 | v::out,ms::mss,h,k=>by
  obtain⟨ws,h1,h2⟩:=Dx (K:=K) (H:=H) out mss (by simpa using h) λi v e=>k (i+1) v (by simpa using e);obtain⟨a,rfl,ha⟩:=k 0 v rfl;exact⟨.ref a::ws,.cons rfl h1,.cons (.tup ha ah.ints) h2⟩
section
variable {X:Cx} {e:Expr} {te:RE} {p pz pos im:Pos}
theorem Fo {k:Nat} (hr:cj k X.A) (hms:X.mg "sorted" = none) (zd:X.mg "set" = none) (hc:X.calm=true) (h:DB X e te) (hgs:Gl X "sorted":=by rfl) (y8:Gl X "set":=by rfl)
  (hs:starEach [.Call (.Name "set" pz) [e] [] im] X.env=[(false,eval (.Call (.Name "set" pz) [e] [] im) X.env)]:=by rfl) (hn:starEach [] X.env=[]:=by rfl) (h1:starEach [e] X.env=[(false,eval e X.env)]:=by rfl) :
  DO X (.Call (.Name "sorted" p) [.Call (.Name "set" pz) [e] [] im] [] pos) (TL te):=by
 intro pins s Z H Q I cf;obtain⟨z,P,st,q,kq⟩:=cf;refine gP (tY I hgs hms boot_sorted ?_);refine sY ?_ (by rw[hs,hn]) (by rw[hn];rfl);rw[hs];show wpAny _ _ (spliced ((false,eval (.Call (.Name "set" pz) [e] [] im) X.env)::backTo pos [])) _ _ s;refine qW (gP (tY I y8 zd boot_set ?_));refine gQ (c5 (sI h h1 hn im pins s Z H (λvs H1=>∃(nss:List (List Int)) (v:V),vs=[v]/\af H H1/\c8 X.K H1 (.lst (nss.map oU)) v/\nss.length<64/\(∀ns∈nss,ns≠[])/\∀mss:List (List Int),mss.Pairwise (λx y=>pN y x=false)->(∀ns,ns∈mss↔ns∈nss)->mss.length<=nss.length->P (mss.map oU)) I
  ⟨z,_,st,q,λx v H1 hx s1 r1=>?_⟩) λus s1 ⟨vs,H1,I1,r1,q1⟩=>?_) (by rw[h1,hn]) (by rw[hn];rfl)
 ·obtain⟨nss,rfl,a1,a2,a3⟩:=hx;exact⟨nss,v,rfl,s1,r1,a1,a2,a3⟩
 obtain⟨nss,v,rfl,m_,rb,vm,fx,hP⟩:=q1;obtain⟨l,vs,rfl,hq,rr⟩:=rb.lst;obtain⟨u,rfl,rx⟩:=vals1 r1;cases rx;obtain⟨its,rv,pl,hz⟩:=I1.list hq;have l1:=rr.length;have l2:=rv.length;rw[bV] at l1;have each:∀(i:Nat) (u:aB),its[i]? = some u->∃ns a,nss[i]? = some ns/\vs[i]? = some (.ref a)/\u = .ref a/\IsTupleKey (intKind X.prog X.w) s1.heap ns a:=λi u e=>by
  have hi:i<nss.length:=by have:=(bG.mp e).1;lia
  obtain⟨v,e1,e2⟩:=rr.get (i:=i) (d:=oU nss[i]) (by rw[bK,aG hi];rfl);obtain⟨a,rfl,ha⟩:=ah.tupI_inv e2;obtain⟨u',f1,f2⟩:=rv.get e1;rw[e] at f1;cases f1;cases f2;obtain⟨ts,g1,g2,_⟩:=I1.tuple (fh.of (K:=X.K) ha);obtain⟨o,go,gc,n,gd⟩:=g2;exact⟨_,a,aG hi,e1,rfl,o,ts.toArray,n,go,gc,gd,by simpa using Ce g1⟩
 have hu:=hr.un;refine UP (key:=λi=>nss.getD i []) (I1.ok.hd hc) (by lia) pl.isList (λi u e=>?_) (by simp;lia) λh2 tk D up=>?_
 ·obtain⟨ns,a,n1,_,rfl,hk⟩:=each i u (by simpa using e);refine⟨a,rfl,?_⟩;have:nss.getD i []=ns:=by rw[eI,n1];rfl
  rw[this];exact hk
 refine rP ?_;obtain⟨es,ST,d1,d2,d3⟩:=D;have qx:∀{ns:List Int} {a:Addr},IsTupleKey (intKind X.prog X.w) s1.heap ns a->IsTupleKey (intKind X.prog X.w) h2 ns a:=λ⟨o,its,n,g1,g2⟩=>⟨o,its,n,up _ _ g1,g2⟩;have elem:∀e∈es.toList,∃(i:Nat) (ns:List Int) (a:Addr),nss[i]? = some ns/\vs[i]? = some (.ref a)/\e.2 = .ref a/\IsTupleKey (intKind X.prog X.w) h2 ns a:=λe he=>by
  obtain⟨j,hj,ej⟩:=d1 e he;obtain⟨ns,a,n1,n2,n3,hk⟩:=each j e.2 (by simpa using ej);exact⟨j,ns,a,n1,n2,n3,qx hk⟩
 refine OT (s:={ s1 with heap:=h2,toks:=tk }) (A:=X.A) (I1.ok.hd hc) ST (by simp at d3;lia) (nss:=nss) fx (λe he=>?_) λh3 Dd out mss c oz g1 g2 g3 g4 g5 g6 ap=>?_
 ·obtain⟨i,ns,a,n1,n2,n3,hk⟩:=elem e he;exact⟨ns,eW n1,a,n3,hk⟩
 have kp:∀b o,s1.heap.get? b=some o->h3.get? b=some o:=λb o e=>ap b o (up b o e);have I3:Inv X pins Z H1 { s1 with heap:=h3,toks:=tk }:=I1.kept kp;have szS:s1.heap.objs.size<h2.objs.size:=by obtain⟨⟨ep,t,ho,_⟩,_⟩:=ST;exact aP ho
 have yc:s1.heap.objs.size<=Dd:=by have:h2.objs.size<=Dd:=oz;lia
 have ui:H1 Dd=none:=I1.hok.fresh yc;have j9:∀{i:Nat} {ns:List Int} {a:Addr},nss[i]? = some ns->vs[i]? = some (.ref a)->H1 a=some (.tup (ns.map V.int)):=λ{i ns a} n1 n2=>by
  obtain⟨w,f1,f2⟩:=rr.get (i:=i) (d:=oU ns) (by rw[bK,n1];rfl);rw[n2] at f1;cases f1;obtain⟨b,e,hb⟩:=ah.tupI_inv f2;cases e;exact hb
 obtain⟨ws,VV,RR⟩:=Dx (K:=X.K) (H:=H1) out mss g2.1 λi v e=>by
  obtain⟨x,hx,ex⟩:=g3 v (eW e);obtain⟨j,ns,a,n1,n2,n3,hk⟩:=elem x hx;obtain⟨b,eb,hb⟩:=g2.2 i v e;rw[<-ex,n3] at eb;cases eb;refine⟨a,by rw[<-ex,n3],?_⟩;have hk3:IsTupleKey (intKind X.prog X.w) h3 ns a:=by obtain⟨o,its,n,q1,q2⟩:=hk;exact⟨o,its,n,ap _ _ q1,q2⟩
  rw[hb.inj hk3];exact j9 n1 n2
 have lo:out.length<=64:=by rw[g2.1,g6];simp at d3;lia
 have lw:=VV.length;have I4:=I1.trackO (a:=Dd) (w:=.lst ws) I3 yc ui ⟨by rw[jQ];lia,out,c,VV,g1⟩;refine⟨.ref Dd,_,I4,rfl,kq _ _ _ H1 (hP mss g5 (λns=>?_) (by rw[g6];simp at d3;lia)) m_ ui RR⟩;rw[g4 ns];constructor
 ·rintro⟨x,hx,a,e1,e2⟩;obtain⟨j,ms,b,n1,n2,n3,hk⟩:=elem x hx;rw[e1] at n3;cases n3;rw[e2.inj hk];exact eW n1
 ·intro h;obtain⟨j,hj,rfl⟩:=eT h;obtain⟨y,hy,b,e1,e2⟩:=d2 j (by simp;lia);refine⟨y,hy,b,e1,?_⟩;have:nss.getD j []=nss[j]:=by simp[hj]
  rw[this] at e2;exact e2
theorem Fl (hml:X.mg "list" = none) (zd:X.mg "reversed" = none) (hc:X.calm=true) (h:DB X e te) (Z':Gl X "list":=by rfl) (y8:Gl X "reversed":=by rfl)
  (hs:starEach [.Call (.Name "reversed" pz) [e] [] im] X.env=[(false,eval (.Call (.Name "reversed" pz) [e] [] im) X.env)]:=by rfl) (hn:starEach [] X.env=[]:=by rfl) (h1:starEach [e] X.env=[(false,eval e X.env)]:=by rfl) :
  DO X (.Call (.Name "list" p) [.Call (.Name "reversed" pz) [e] [] im] [] pos) (TJ te):=by
 intro pins s Y H Q I cf;obtain⟨d,P,st,q,kq⟩:=cf;refine gP (tY I Z' hml boot_list ?_);refine gQ ?_ (by rw[hs,hn]) (by rw[hn];rfl);rw[hs];show wpAny _ _ (spliced ((false,eval (.Call (.Name "reversed" pz) [e] [] im) X.env)::backTo pos [])) _ _ s;refine qW (gP (tY I y8 zd boot_reversed ?_));refine gQ (c5 (sI h h1 hn im pins s Y H (λvs H1=>∃(ds:List D) (v:V),vs=[v]/\af H H1/\c8 X.K H1 (.lst ds) v/\P ds.reverse) I
  ⟨d,_,st,q,λx v H1 hx s1 r1=>?_⟩) λus s1 ⟨vs,H1,I1,r1,q1⟩=>?_) (by rw[h1,hn]) (by rw[hn];rfl)
 ·obtain⟨ds,rfl,a1⟩:=hx;exact⟨ds,v,rfl,s1,r1,a1⟩
 obtain⟨ds,v,rfl,m_,rb,hP⟩:=q1;obtain⟨l,vs,rfl,hq,rr⟩:=rb.lst;obtain⟨u,rfl,rx⟩:=vals1 r1;cases rx;obtain⟨its,rv,pl,hz⟩:=I1.list hq;have l1:=rr.length;have l2:=rv.length;have lt:l<s1.heap.objs.size:=by obtain⟨o,e,_⟩:=pl.isList;exact aP e
 refine call_reversed_list pl.isList ?_;refine rP ?_;have g0:(s1.heap.push (revObj l ((its.toArray.size:Int)-1))).get? s1.heap.objs.size=some (revObj l ((its.toArray.size:Int)-1)):=bF _ rfl;have k1:∀b o,s1.heap.get? b=some o->(s1.heap.push (revObj l ((its.toArray.size:Int)-1))).get? b=some o:=λb o e=>aK _ e;have z1:(s1.heap.push (revObj l ((its.toArray.size:Int)-1))).objs.size=s1.heap.objs.size+1:=gA ..;generalize s1.heap.push (revObj l ((its.toArray.size:Int)-1))=h2 at g0 k1 z1;refine UM (s:={ s1 with heap:=h2 }) (A:=X.A) (l:=l) (I1.ok.hd hc) (bE lt) (by simp;lia) ⟨_,g0,rfl,rfl⟩ (pl.isList.at λo e=>k1 _ o e) λh3 c g1 up=>?_;show EP X pins Y Q (.ref h2.objs.size) _;rw[show (mN { s1 with heap:=h2 }).objs.size=s1.heap.objs.size+1 from z1] at g1;rw[z1];have kp:∀b o,s1.heap.get? b=some o->h3.get? b=some o:=λb o e=>up b o (bE (aP e)) (k1 b o e);have I3:Inv X pins Y H1 { s1 with heap:=h3 }:=I1.kept (t':=s1.toks) kp;have ui:H1 (s1.heap.objs.size+1)=none:=I1.hok.fresh (Nat.le_succ _);have VV:ao vs.reverse its.reverse:=by
  clear hq pl hz l1 l2 rr g1 g0
  induction rv with
  | nil=>exact .nil
  | cons r t ih =>
   simp only[wT];exact ao.append ih (.cons r .nil)
 have I4:=I1.trackO (a:=s1.heap.objs.size+1) (w:=.lst vs.reverse) I3 (Nat.le_succ _) ui ⟨by simp;lia,its.reverse,c,VV,by simpa using g1⟩;exact⟨.ref (s1.heap.objs.size+1),_,I4,rfl,kq _ _ _ H1 hP m_ ui rr.reverse⟩
end
section
def G4 (lo:Int) (n:Nat):List D:=(dX n).map λk:Nat=>D.int (lo+(k:Int)*2)
structure uc (j:Int):Prop where
 lo:-(2 ^ 60)<=j
 hi:j<2 ^ 60
def Zj (t:RA):RA:=λa Q=>t a λds=>match ds with
 | [.int i,.int j,.int c]=>(uc i/\uc j/\c=2)/\Q (G4 i ((j-i+1) / 2).toNat)
 | _=>False
end
end
end L2.R2
namespace L2
open PySem PySem.Spec PyProof.Rows
section
variable {κ:Type} [DecidableEq κ]
def Hm (cg:List (κ × V)) (k:κ):Option V:=(cg.find? λkv=>decide (kv.1=k)).map (·.2)
theorem Ek {p:κ × V} {r:List (κ × V)} {k:κ} (e:p.1=k):Hm (p::r) k=some p.2:=by simp[Hm,oG,e]
theorem Ej {p:κ × V} {r:List (κ × V)} {k:κ} (e:¬p.1=k):Hm (p::r) k=Hm r k:=by simp[Hm,oG,e]
theorem KV.val (r:KV cg vs) (k:κ):Nm (Hm cg k) (valueAt vs k):=by
 unfold KV at r
 induction r with
 | nil=>exact sZ
 | @cons p q ps qs h t ih =>
  obtain⟨h1,h2⟩:=h;by_cases e:p.1=k
  ·have e':q.1=k:=h1.symm.trans e;have b:valueAt (q::qs) k=some q.2:=(by simp[valueAt,oG,e']);rw[Ek e,b];exact h2
  ·have e':¬q.1=k:=λz=>e (h1.trans z);have b:valueAt (q::qs) k=valueAt qs k:=(by simp[valueAt,oG,e']);rw[Ej e,b];exact ih
end
abbrev KT (H:Hp):List (List ii × V)->List (List ii × Addr × aB)->Prop:=Paired λp q=>p.1=q.1/\H q.2.1=some (.tup (p.1.map kV))/\RelV p.2 q.2.2
theorem KT.val (r:KT H cg xs) (k:List ii):Nm (Hm cg k) ((atKey xs k).map (·.2)):=by
 induction r with
 | nil=>exact sZ
 | @cons p q ps qs h t ih =>
  obtain⟨h1,_,h2⟩:=h;by_cases e:p.1=k
  ·have e':q.1=k:=h1.symm.trans e;have b:atKey (q::qs) k=some q.2:=(by simp[atKey,oG,e']);rw[Ek e,b];exact h2
  ·have e':¬q.1=k:=λz=>e (h1.trans z);have b:atKey (q::qs) k=atKey qs k:=(by simp[atKey,oG,e']);rw[Ej e,b];exact ih
abbrev VV:List (V × V)->List (aB × aB)->Prop:=Paired λp q=>RelV p.1 q.1/\RelV p.2 q.2
structure M1 (X:Cx) (o:Expr) (m:Str) (apos:Pos) (e:Expr) (b_:Pos):Prop where
 base:attributeBase o m X.env (eval o X.env)=eval o X.env
 few:((backTo b_ (starEach [e] X.env)).all (λx=>!x.1) && (backToKw b_ (keywordEach [] X.env)).all (λx=>x.1.isSome)
  && decide (([e]:List Expr).length+([]:List oY).length+(if ([]:List oY).isEmpty then 0 else 1)<30))=true
 line:(apos.endLine == b_.line)=true
 trees:backTo b_ (starEach [e] X.env)=[(false,eval e X.env)]
structure M2 (X:Cx) (o:Expr) (m:Str) (apos:Pos) (e f:Expr) (b_:Pos):Prop where
 base:attributeBase o m X.env (eval o X.env)=eval o X.env
 few:((backTo b_ (starEach [e,f] X.env)).all (λx=>!x.1) && (backToKw b_ (keywordEach [] X.env)).all (λx=>x.1.isSome)
  && decide (([e,f]:List Expr).length+([]:List oY).length+(if ([]:List oY).isEmpty then 0 else 1)<30))=true
 line:(apos.endLine == b_.line)=true
 trees:backTo b_ (starEach [e,f] X.env)=[(false,eval e X.env),(false,eval f X.env)]
end L2
namespace L2.R2
section
open PySem PySem.Spec PyProof.Rows L2
def E5:List (Int × List D)->Int->List (Int × List D)
 | [],k=>[(k,[])]
 | (k',ds)::r,k=>if k'=k then (k',ds)::r else (k',ds)::E5 r k
def putL:List (Int × List D)->Int->D->List (Int × List D)
 | [],k,d=>[(k,[d])]
 | (k',ds)::r,k,d=>if k'=k then (k',ds++[d])::r else (k',ds)::putL r k d
section
variable {e k:Expr} {pos pos' p apos b_ cp fk dpos cm:Pos} {te tk:RE} {x:Str}
def F1 (i:Nat):RS:=λE a=>E.nx (a.set i (some (.dcl [])))
def rDApp (i:Nat) (tk te:RE):RS:=λE a=>match a[i]? with
 | some (some (.dcl cg))=>tk a λkd=>match kd with
  | .int k=>Sz (cg.length+1)/\te (a.set i (some (.dcl (E5 cg k)))) λd=>(∀p∈cg,Sz (p.2.length+1))/\E.nx (a.set i (some (.dcl (putL cg k d))))
  | _=>False
 | _=>False
def Oj:List Int->List D->Int->Option D
 | k'::ks,d::ds,k=>if k'=k then some d else Oj ks ds k
 | _,_,_=>none
def dKey:R22:=λx y Q=>match x,y with
 | .dct ks ds,.int k=>∃d,Oj ks ds k=some d/\Q d
 | _,_=>False
end
end
section
open PySem PySem.Spec PyProof.Rows L2 PySem.W
theorem EX:∀{ns:List Int} {us:List aB},IntsAre us ns->ao (ns.map V.int) us
 | [],[],_=>.nil
 | n::ns,u::us,h=>by
  cases h with
  | cons _ t h=>exact .cons ⟨_,rfl⟩ (EX h)
def O4 (te:RE):RA:=λa Q=>te a λx=>∃ns:List Int,x = .lst (ns.map .int)/\ns.length<64/\∀ms:List Int,ms.Perm ns->ms.Pairwise (·<=·)->Q (ms.map .int)
def O6 (te:RE):RA:=λa Q=>te a λx=>∃nss:List (List Int),x = .lst (nss.map oU)/\nss.length<64/\(∀ns∈nss,ns≠[])/\∀mss:List (List Int),mss.Perm nss->mss.Pairwise (λx y=>pN y x=false)->Q (mss.map oU)
def N4 (te:RE):RA:=λa Q=>te a λx=>∃(ks:List Int) (ds:List D),x = .dct ks ds/\ks.length=ds.length/\Q (ks.map .int)
end
section
open PySem PySem.Spec PyProof.Rows L2
def OX (l:Addr) (items:Array aB) (n:Nat) (b:Addr) (c9:Array aB) (n2:Nat) (sl:Array (Option aB)) (l_:¬(!items.isEmpty && mT (items.size+c9.size))=true) (hc1:items.size<=sizeLine) (we:items.size+c9.size<=sizeLine+1) :
  Meets (Builtin.«list.extend» ⟨[.ref l,.ref b],[]⟩) (λ_ R s=>s.heap.get? l=some { cls:=.type "list",dict:=none,data:=.seq items n,slots:=#[] }/\s.heap.get? b=some { cls:=.type "list",dict:=none,data:=.seq c9 n2,slots:=sl }/\R (.ok (.ret gO)) { s with heap:=s.heap.update l (cX λx=>x++c9),toks:=s.toks }) :=
 .of_wp λprog w A R s h=>by
  obtain⟨hp,g,d,tk,os⟩:=s;obtain⟨hl,hb,h⟩:=h;have U8:(items++c9).size<=sizeLine+1:=by rw[Array.size_append];exact we
  wp_walk using (gJ hl rfl (hz:=hc1) (_hz':=U8)),uA hl,uA hb;exact⟨_,rfl,h⟩
def Qw (K:aH):V->List V->Hp->VK->Prop:=λx vs H Q=>∃l b xs zs,x = .ref l/\vs=[.ref b]/\H l=some (.lst xs)/\ij K H b zs/\xs.length+zs.length<=sizeLine/\Q .non (bj H l (.lst (xs++zs)))
section
variable {X:Cx} {e:Expr} {pos apos b_ cp p2 p3 p4:Pos} {te:RE} {x:Str}
theorem Gj:W8 X "list.extend" (Qw X.K):=by
 intro pins s Z H x vs v us Q I rx rv h;obtain⟨l,b,xs,zs,rfl,rfl,hH,hB,hz,q⟩:=h;cases rx;obtain⟨u,rfl,ru⟩:=rv.one;cases ru;obtain⟨z,its,n,r,hl,e⟩:=I.lstM hH;obtain⟨gg,r2,pl,z2⟩:=I.list hB;have U1:=r2.length;obtain⟨o,n2,e2,c1,c2,c3⟩:=pl;obtain⟨oc,od,oda,om⟩:=o;dsimp only at c1 c2 c3;subst c1 c2 c3;have j3:its.toArray.size+gg.toArray.size<=sizeLine:=by rw[aY,aY];lia
 have zb:¬(!its.toArray.isEmpty && mT (its.toArray.size+gg.toArray.size))=true:=by
  rw[Px j3,vF];exact cC
 refine zV F.slot_list_extend ⟨_,e,rfl⟩ F.entry_list_extend (F.args_list_extend_2 _ _)
  (OX l its.toArray n b gg.toArray n2 om zb (by rw[aY];lia) (by lia)) ⟨e,e2,?_⟩
 refine⟨.non,_,I.lset (its':=its++gg) hH e (by simp) (r.append r2) ?_,rfl,q⟩;rw[dA];lia
def TH (i:Nat) (te:RE):RS:=λE a=>match a[i]? with
 | some (some (.own xs))=>te a λd=>match d with
  | .lst ys=>Sz (xs.length+ys.length)/\E.nx (a.set i (some (.own (xs++ys))))
  | _=>False
 | _=>False
theorem Ky (i:Nat) (he:DE X e te) (hN:X.N[i]? = some x:=by rfl) (hv:nI X.env.scope x:=by walk_at "vis") (hd:(x == ("__debug__":Str))=false:=by decide) (fj:(x == ("__classdict__":Str))=false:=by decide)
  (f_:attributeBase (.Name x cp) "extend" X.env (eval (.Name x cp) X.env)=eval (.Name x cp) X.env:=by rfl)
  (md:((backTo b_ (starEach [e] X.env)).all (λx=>!x.1) && (backToKw b_ (keywordEach [] X.env)).all (λx=>x.1.isSome) && decide (([e]:List Expr).length+([]:List oY).length+(if ([]:List oY).isEmpty then 0 else 1)<30))=true:=by rfl)
  (gf:(apos.endLine == b_.line)=true:=by rfl) (hs:starEach [e] X.env=[(false,eval e X.env)]:=by rfl) (hn:starEach [] X.env=[]:=by rfl) (qw:swapsWith (.Call (.Attribute (.Name x cp) "extend" apos) [e] [] b_) none pos.line X.env=pure false:=by rfl) :
  DS X (.Expr (.Call (.Attribute (.Name x cp) "extend" apos) [e] [] b_) pos) (TH i te):=by
 refine PS.mono (PV (Jk kQ PySem.F.slot_list_extend PySem.F.type_list_extend Gj (pv i hN hv hd fj) (sI he hs hn) f_ md gf (by rw[hs,hn]) (by rw[hn];rfl)) qw) λDe Z H hh=>qI hh λa E so q n r bk ct=>?_;unfold TH at q;split at q
 ·rename_i xs ex;obtain⟨v,h1,p,vs,ev,hp,h0,rr⟩:=so.rel i _ ex;subst ev;refine⟨.ref p,h1,.inl ⟨rfl,vs,ij.of hp⟩,a,_,so,q,λd v H1 hd s1 rd=>?_⟩;have og:=s1.get _ _ hp trivial;cases d with
  | lst ys =>
   cases rd with
   | @lst b us _ hz rd =>
    obtain⟨jv,k2⟩:=(so.ext s1).upd_own ex h1 og h0 ((rr.keep (.of s1)).append rd);have j3:xs.length+ys.length<=sizeLine:=hd.1.ok;exact⟨p,b,vs,us,rfl,rfl,og,hz.sq,by rw[<-rr.length,<-rd.length];exact j3,n _ _ _ hd.2 ((ak.of s1).trans k2) jv⟩
  | _=>exact hd.elim
 ·exact q.elim
def alt {α:Type}:List α->List α
 | []=>[]
 | [x]=>[x]
 | x::_::r=>x::alt r
def rAlt (k:Nat) (te:RE):RA:=λa Q=>te a λx=>match x with
 | .lst ds=>Q (alt (ds.drop k))
 | _=>False
end
section
def riFar (t:RA):RA:=λa Q=>t a λds=>match ds with
 | [.int i,.int j]=>Q (rA i (j-i).toNat)
 | _=>False
def A9:R22:=λx y Q=>match x,y with
 | .bl a,.bl b=>Q (.int ((if a then 1 else 0)-(if b then 1 else 0)))
 | _,_=>False
end
end
end L2.R2
namespace HT
open PySem PyProof.Rows
section
open PySem.SeqAt
open PySem.AutoSeq1 (wpAny_loadPart')
open PySem.MeetsSeq PySem.MeetsSeq2 PySem.MeetsSeq3
end
end HT
namespace L2.R2
section
open PySem PySem.Spec PyProof.Rows L2
section
def K9:List D->(D->Prop)->Prop:=λds Q=>∃ns ms,ds=[oU ns,oU ms]/\Q (oU (if HT.lexLt ms ns=true then ms else ns))
def K8:List D->(D->Prop)->Prop:=λds Q=>∃ns ms,ds=[oU ns,oU ms]/\Q (oU (if HT.lexLt ns ms=true then ms else ns))
end
section
def L9 (i:Nat) (a:En):En:=match a[i]? with
 | some (some (.own ds))=>a.set i (some (.d (.lst ds)))
 | _=>a
end
def Js (t u:RS):RS:=λE a=>t { nx:=u E,rt:=λ_=>False } a
def rRetO (i:Nat):RS:=λE a=>match a[i]? with
 | some (some (.own xs))=>E.rt (.lst xs)
 | _=>False
def M7 (F:FD) (t:RA):RA:=λa Q=>t a λds=>F ds λd=>match d with
 | .lst xs=>Q xs
 | _=>False
section
variable {t:RA}
structure W_ (j:Int):Prop where
 lo:0<=j
 hi:j<2 ^ 62
def P5 (t:RA):RA:=λa Q=>t a λds=>match ds with
 | [.int j]=>W_ j/\Q (rA 0 j.toNat).reverse
 | _=>False
end
def dNeL:R22:=λx y Q=>match x,y with
 | .lst xs,.lst ys=>xs.length=ys.length/\match jt (fi 5) xs ys with
  | some b=>Q (.bl !b)
  | none=>False
 | _,_=>False
section
variable {K:aH} {H₀ H:Hp}
theorem jn.ix {cg:List (Int × List D)} {cn:List (ii × V)} {as:List Addr} (t:jn K H₀ H cg cn as):∀{j:Nat} {k:Int} {ds:List D},cg[j]? = some (k,ds) ->
  ∃b vs,as[j]? = some b/\H b=some (.lst vs)/\ah K H ds vs/\∀(H':Hp) (xf:List D) (vs':List V),ak H H'->H' b=some (.lst vs')->(∀c∈as,c≠b->∀o,H c=some o->H' c=some o)->ah K H' xf vs'->jn K H₀ H' (cg.set j (k,xf)) cn as:=by
 induction t with
 | nil=>intro j k ds e;simp at e
 | @cons k b vs ds cg cn as h h0 r n t ih =>
  intro j k' xf e;cases j with
  | zero =>
   simp at e;obtain⟨rfl,rfl⟩:=e;refine⟨b,vs,rfl,h,r,λH' xf vs' kp hb hc rr=>?_⟩;exact .cons hb h0 rr n (t.keep kp λa m o e=>hc a (.tail _ m) (by rintro rfl;exact n m) o e)
  | succ j =>
   obtain⟨b',vs',e1,e2,e3,e4⟩:=ih (by simpa using e);refine⟨b',vs',by simpa using e1,e2,e3,λH' X6 vs'' kp hb hc rr=>?_⟩;have nb:b≠b':=(by rintro rfl;exact n (eW e1));exact .cons (hc b (.head _) nb _ h) h0 (r.keep kp) n (e4 H' X6 vs'' kp hb (λc m nc o e=>hc c (.tail _ m) nc o e) rr)
end
def YH {en:List (List D)} {j:Nat} {ds:List D} (e:en[j]? = some ds):(en.map λx=>((0:Int),x))[j]? = some (0,ds):=by rw[bK,e];rfl
def Sg {en:List (List D)} {j:Nat} {ds:List D}:(en.map λx=>((0:Int),x)).set j (0,ds)=(en.set j ds).map λx=>((0:Int),x):=by rw[List.map_set]
section
variable {X:Cx} {e k:Expr} {pos pos' p p1 p2 apos b_ cp fk:Pos} {te tk:RE} {x:Str}
def Qv (i:Nat):RS:=λE a=>E.nx (a.set i (some (.box false [[],[]])))
theorem Ss {i:Nat} (hN:X.N.Nodup) (hi:X.N[i]? = some x:=by rfl) (hx:Loc X.env.scope x:=by walk_at "vis") (hs:swapsWith (.List [.List [] p1,.List [] p2] p) (some (.Name x pos')) pos.line X.env=pure false:=by rfl)
  (hf:X.fn x=true\/X.env.scope.names.lookup x=some .local:=by walk_at "loc")
  (h1:starEach [.List [] p1,.List [] p2] X.env=(false,eval (.List [] p1) X.env)::starEach [.List [] p2] X.env:=by rfl) (h2:starEach [.List [] p2] X.env=(false,eval (.List [] p2) X.env)::starEach [] X.env:=by rfl) :
  DS X (.Assign [.Name x pos'] (.List [.List [] p1,.List [] p2] p) pos) (Qv i) :=
 PS.mono (Gu hN hi hx (ZS (wZ (ZS (pos:=p1) HW) (wZ (ZS (pos:=p2) HW) HW h2) h1)) hs hf) λDe Z H hh=>qI hh λd E st q n r b c=>by
  refine⟨fV _,λa ha=>⟨fV _,λa2 uk=>⟨(by decide:2<=sizeLine),λa3 vp=>?_⟩⟩⟩;have na:H a2=none/\a2≠a:=by
   have ne:a2≠a:=(by rintro rfl;rw[fS] at uk;cases uk);rw[cW ne] at uk;exact⟨uk,ne⟩
  have n3:H a3=none/\a3≠a/\a3≠a2:=by
   have ne2:a3≠a2:=(by rintro rfl;rw[fS] at vp;cases vp);rw[cW ne2] at vp;have ne:a3≠a:=(by rintro rfl;rw[fS] at vp;cases vp);rw[cW ne] at vp;exact⟨vp,ne,ne2⟩
  have sm:af H (bj (bj (bj H a (.lst [])) a2 (.lst [])) a3 (.lst [.ref a,.ref a2])):=af.fn λb o h=>by
   rw[cW (dY h n3.1),cW (dY h na.1),cW (dY h ha)];exact h
  have g1:bj (bj (bj H a (.lst [])) a2 (.lst [])) a3 (.lst [.ref a,.ref a2]) a=some (.lst []):=by rw[cW (Ne.symm n3.2.1),cW (Ne.symm na.2)];exact fS
  have g2:bj (bj (bj H a (.lst [])) a2 (.lst [])) a3 (.lst [.ref a,.ref a2]) a2=some (.lst []):=by rw[cW (Ne.symm n3.2.2)];exact fS
  refine n _ _ _ q (.of sm) (st.put sm (x':=.box false [[],[]]) ⟨a3,_,[a,a2],rfl,fS,st.same.free n3.1,by simp[n3.2.1,n3.2.2],.cons g1 (st.same.free ha) .nil (by simp[Ne.symm na.2]) (.cons g2 (st.same.free na.1) .nil (by simp) .nil)⟩ λc o=>?_);obtain⟨p,vs,e1,e2,e3⟩:=o;cases e1;rw[fS] at e2;cases e2;rcases e3 with rfl | m
  ·exact n3.1
  ·simp only[aN,gH,or_false,V.ref.injEq] at m;rcases m with rfl | rfl
   ·exact ha
   ·exact na.1
def Jq (i:Nat) (tk te:RE):RS:=λE a=>match a[i]? with
 | some (some (.box false en))=>tk a λkd=>match kd with
  | .int k=>∃(j:Nat) (ds:List D),(k=(j:Int)/\en[j]? = some ds/\Sz (ds.length+1))/\te a λd=>E.nx (a.set i (some (.box false (en.set j (ds++[d])))))
  | _=>False
 | _=>False
theorem Sr (i:Nat) (hk:DE X k tk) (he:DE X e te) (hN:X.N[i]? = some x:=by rfl) (hv:nI X.env.scope x:=by walk_at "vis") (hd:(x == ("__debug__":Str))=false:=by decide) (fj:(x == ("__classdict__":Str))=false:=by decide)
  (hpi:JC k:=by intro _ _;rfl)
  (f_:attributeBase (.Subscript (.Name x cp) k fk) "append" X.env (eval (.Subscript (.Name x cp) k fk) X.env)=eval (.Subscript (.Name x cp) k fk) X.env:=by rfl)
  (md:((backTo b_ (starEach [e] X.env)).all (λx=>!x.1) && (backToKw b_ (keywordEach [] X.env)).all (λx=>x.1.isSome) && decide (([e]:List Expr).length+([]:List oY).length+(if ([]:List oY).isEmpty then 0 else 1)<30))=true:=by rfl)
  (gf:(apos.endLine == b_.line)=true:=by rfl) (hs:starEach [e] X.env=[(false,eval e X.env)]:=by rfl) (hn:starEach [] X.env=[]:=by rfl)
  (qw:swapsWith (.Call (.Attribute (.Subscript (.Name x cp) k fk) "append" apos) [e] [] b_) none pos.line X.env=pure false:=by rfl) :
  DS X (.Expr (.Call (.Attribute (.Subscript (.Name x cp) k fk) "append" apos) [e] [] b_) pos) (Jq i tk te):=by
 refine PS.mono (PV (Jk kQ xK xL WV (Qh ZE (pv (pos:=cp) i hN hv hd fj) hk hpi) (sI he hs hn) f_ md gf (by rw[hs,hn]) (by rw[hn];rfl)) qw) λDe Z H hh=>qI hh λg E so q n r bk ct=>?_;unfold Jq at q;split at q
 ·rename_i en ex;obtain⟨v,h1,a,cn,as,ev,ha,h0,na,t⟩:=so.rel i _ ex;subst ev;refine⟨.ref a,h1,g,_,so,q,λkd kv H1 za s1 rk=>?_⟩;cases kd with
  | int k =>
   obtain⟨j,ds,⟨ej,hj,z1⟩,q1⟩:=za;subst ej;rw[rk.int_inv];have so1:=so.ext s1;have ha1:=s1.get _ _ ha trivial;have t1:jn X.K X.H₀ H1 (en.map λx=>(0,x)) cn as:=t.same s1;obtain⟨b,vs,eb,hb,_,_⟩:=t1.ix (YH hj);refine⟨a,as.map V.ref,j,.ref b,rfl,rfl,ij.of ha1,EL (by rw[bK,eb];rfl),.inl ⟨rfl,vs,ij.of hb⟩,g,_,so1,q1,λd w H2 hd s2 rd=>?_⟩;have t2:jn X.K X.H₀ H2 (en.map λx=>(0,x)) cn as:=t1.same s2;have uk:=s2.get _ _ ha1 trivial;obtain⟨b',vs',eb',P_,rb2,fin⟩:=t2.ix (YH hj);rw[eb] at eb';cases eb';have mb:b∈as:=eW eb;have ne:a≠b:=(by rintro rfl;exact na mb);have sz:vs'.length<sizeLine:=(by rw[<-rb2.length];exact Nat.lt_of_succ_le z1.ok);refine⟨b,vs',w,rfl,rfl,P_,sz,?_⟩;have kpU:ak H2 (bj H2 b (.lst (vs'++[w]))):=ak.chg1 P_ (.inl ⟨_,rfl⟩);have haU:bj H2 b (.lst (vs'++[w])) a=some (.lst (as.map V.ref)):=(by rw[cW ne];exact uk);obtain⟨so4,k4⟩:=(so1.ext s2).updW (x':=.box false (en.set j (ds++[d]))) (v':=.ref a) ex h1 (H':=bj H2 b (.lst (vs'++[w])))
    (λc o h w'=>by rw[cW (by rintro rfl;exact w' ⟨a,_,rfl,uk,.inr (cO mb)⟩)];exact h)
    ⟨a,cn,as,rfl,haU,h0,na,by
     rw[<-Sg];exact fin _ _ _ kpU fS (λc _ nc o h=>by rw[cW nc];exact h) ((rb2.keep kpU).append (.cons (rd.keep kpU) .nil))⟩
    (λc o=>.inl (by
     obtain⟨p',vs0,e1,e2,e3⟩:=o;cases e1;rw[haU] at e2;cases e2;exact⟨a,_,rfl,uk,e3⟩))
   rw[pR h1] at so4;exact n _ _ _ hd (((ak.of s1).trans (.of s2)).trans k4) so4
  | _=>exact za.elim
 ·exact q.elim
end
def rSetB (j:Nat) (F:FD) (t:RA):RS:=λE a=>t a λds=>F ds λd=>∃en:List (List D),d = .tup (en.map .lst)/\E.nx (a.set j (some (.box true en)))
def lendB (i:Nat) (a:En):En:=match a[i]? with
 | some (some (.box true en))=>a.set i (some (.d (.tup (en.map .lst))))
 | _=>a
def rBFor (i j:Nat):RS:=λE a=>match a[i]? with
 | some (some (.box true en))=>(j<a.length/\∀ds∈en,Sz (ds.length+1))/\E.nx ((a.set j none).set i (some (.box true (en.map (· ++ [.non])))))
 | _=>False
def rGet2 (ta tk tf:RE):RE:=λa Q=>ta a λx=>match x with
 | .dct ks ds=>tk a λy=>match y with
  | .int k=>tf a λz=>Q ((Oj ks ds k).getD z)
  | _=>False
 | _=>False
def dInI:R22:=λx y Q=>match x,y with
 | .int i,.lst ds=>∃ns:List Int,ds=ns.map .int/\Q (.bl (decide (i∈ns)))
 | _,_=>False
def rgLst (n:Nat) (g:sr):RG:=λd a Q=>match d with
 | .lst ds=>ds.length=n/\g ds a Q
 | _=>False
def dEqD:R22:=λx y Q=>match fi 9 x y with
 | some b=>Q (.bl b)
 | none=>False
open PySem.W in
section
variable {s:aF}
open PySem.W Builtin Builtin.ObjectAttr Builtin.Getset_descriptor
end
open PySem.W in
section
open PySem.W in
end
section
variable {s:aF}
open PySem.W Builtin Builtin.ObjectAttr
end
open PySem.W in
open PySem.W in
open PySem.W in
def N9 (PP:Int->Prop) (te:RE):RS:=λ_ a=>te a λd=>match d with
 | .int c=>PP c
 | _=>False
abbrev FDX:=List D->(D->Prop)->(Int->Prop)->Prop
def M8 (F:FDX) (PP:Int->Prop) (t:RA):RE:=λa Q=>t a λds=>F ds Q PP
abbrev FDE:=List D->(Int->Prop)->Prop
def rSetE (j:Nat) (F:FDE) (C:Addr) (y:Str) (t:RA):RS:=λE a=>t a λds=>∃PP,F ds PP/\∀c,PP c->E.nx (a.set j (some (.exc C y c)))
def rIsiE (i:Nat) (C:Addr) (b:Bool):RE:=λa Q=>match a[i]? with
 | some (some (.exc C' _ _))=>C'=C/\Q (.bl b)
 | _=>False
def rColE (i:Nat) (C:Addr) (y:Str):RE:=λa Q=>match a[i]? with
 | some (some (.exc C' y' c))=>(C'=C/\y'=y)/\Q (.int c)
 | _=>False
def rColN (te:RE):RE:=λa Q=>te a λd=>match d with
 | .int c=>Q (.int c)
 | _=>False
end
section
open PySem PySem.W PyProof.Rows
section
variable {s:aF}
def rp (a:Array Keyed) (i:Nat):Keyed:=a.getD i (gO,gO)
end
end
section
open PySem PySem.W PySem.SetTable PyProof.Rows
end
section
open PySem PySem.Spec PyProof.Rows L2
def Zu (te:RE):RA:=λa Q=>te a λx=>∃nss:List (List Int),x = .lst (nss.map oU)/\nss.length<76/\(∀ns∈nss,ns≠[])/\∀mss:List (List Int),mss.Pairwise (λx y=>pN y x=false)->(∀ns,ns∈mss↔ns∈nss)->mss.length<=nss.length->Q (mss.map oU)
def J8 (te:RE):RE:=λa Q=>te a λx=>∃nss:List (List Int),x = .lst (nss.map oU)/\nss.length<=75/\∀mss:List (List Int),mss.Nodup->(∀ns,ns∈mss↔ns∈nss)->Q (.int mss.length)
def J7:R22:=λx y Q=>match y with
 | .lst ds=>∃(ks:List Int) (nss:List (List Int)),x=oU ks/\ds=nss.map oU/\Q (.bl (!decide (ks∈nss)))
 | _=>False
end
section
open PySem PySem.Spec PyProof.Rows L2 PySem.W
def A4 (ks:List (List Int)) (k:List Int):List (List Int):=if k∈ks then ks else ks++[k]
def E6 {α:Type} (ks:List (List Int)) (xs:List α) (k:List Int) (x:α):List α:=if k∈ks then mL (λk' y=>if k'=k then x else y) ks xs else xs++[x]
def Bn:List (List Int)->List D->List Int->Option D
 | k'::ks,d::ds,k=>if k'=k then some d else Bn ks ds k
 | _,_,_=>none
section
variable {te tk tf:RE}
def rTNew (i:Nat):RS:=λE a=>E.nx (a.set i (some (.dt [] [])))
def rTPut (i:Nat) (tk te:RE):RS:=λE a=>match a[i]? with
 | some (some (.dt ks xs))=>te a λd=>tk a λkd=>∃kk:List Int,kd = .tup (kk.map .int)/\Sz (ks.length+1)/\E.nx (a.set i (some (.dt (A4 ks kk) (E6 ks xs kk d))))
 | _=>False
def rTGet (i:Nat) (tk tf:RE):RE:=λa Q=>match a[i]? with
 | some (some (.dt ks xs))=>tk a λkd=>tf a λz=>∃kk:List Int,kd = .tup (kk.map .int)/\Q ((Bn ks xs kk).getD z)
 | _=>False
def O7 (i:Nat):RA:=λa Q=>match a[i]? with
 | some (some (.dt ks xs))=>Q (ks.map oU)
 | _=>False
end
section
variable {te ta tk tf:RE}
def N5 (te:RE):RA:=λa Q=>te a λx=>∃(ks:List (List Int)) (ds:List D),x = .dtt ks ds/\Q (ks.map oU)
def dKeyU:R22:=λx y Q=>match x with
 | .dtt ks ds=>∃(kk:List Int) (d:D),y = .tup (kk.map .int)/\Bn ks ds kk=some d/\Q d
 | _=>False
def rGetU (ta tk tf:RE):RE:=λa Q=>ta a λx=>match x with
 | .dtt ks ds=>tk a λy=>tf a λz=>∃kk:List Int,y = .tup (kk.map .int)/\Q ((Bn ks ds kk).getD z)
 | _=>False
end
def P0 (te:RE):RA:=λa Q=>te a λd=>match d with
 | .dtt ks _=>Q (ks.map oU)
 | _=>False
def K0 (te:RE):RA:=λa Q=>te a λd=>match d with
 | .dtt ks ds=>Q (mL (λk x=>D.tup [oU k,x]) ks ds)
 | _=>False
end
section
open PySem PySem.Spec PyProof.Rows L2
section
variable {te ta:RE}
def rInsD (i:Nat) (ta te:RE):RS:=λE a=>match a[i]? with
 | some (some (.own xs))=>ta a λk=>te a λd=>∃j:Nat,k = .int (j:Int)/\j<=xs.length/\Sz (xs.length+1)/\E.nx (a.set i (some (.own (xs.take j++d::xs.drop j))))
 | _=>False
def N3 (i:Nat) (te:RE):RE:=λa Q=>te (L9 i a) λd=>∃n:Int,d = .int n/\Q d
end
end
section
open PySem PySem.W PySem.Spec PySem.SetTable PyProof.Rows L2
section
open PySem.SeqAt
open PySem.AutoSeq1 (wpAny_loadPart')
open PySem.MeetsSeq PySem.MeetsSeq2 PySem.MeetsSeq3
end
def Vz:List (Int × Int)->List Int
 | []=>[]
 | z::r=>z.1::z.2::Vz r
def B9 (p:Int × List (Int × Int)):List Int:=p.1::Vz p.2
abbrev pnt (z:Int × Int):D:=.tup [.int z.1,.int z.2]
abbrev pcD (p:Int × List (Int × Int)):D:=.tup [.int p.1,.tup (p.2.map pnt)]
def O5 (te:RE):RA:=λa Q=>te a λx=>∃ps:List (Int × List (Int × Int)),x = .lst (ps.map pcD)/\ps.length<64/\∀qs:List (Int × List (Int × Int)),qs.Perm ps->qs.Pairwise (λx y=>pN (B9 y) (B9 x)=false)->Q (qs.map pcD)
end
section
open PySem PySem.Spec PyProof.Rows L2
abbrev FM:=List (List Int)->List D->List D->(List Int->D->Prop)->Prop
def rMut (i:Nat) (F:FM) (t:RA):RS:=λE a=>match a[i]? with
 | some (some (.dt ks xs))=>t a λds=>Sz (ks.length+1)/\F ks xs ds λkk d=>E.nx (a.set i (some (.dt (A4 ks kk) (E6 ks xs kk d))))
 | _=>False
section
variable {te tk tf:RE} {a:Addr} {ks:List (List Int)} {xs:List D}
def rRGet (i:Nat) (a:Addr) (ks:List (List Int)) (xs:List D) (tk tf:RE):RE:=λb Q=>b[i]? = some (some (.raw (.ref a)))/\tk b λkd=>tf b λz=>∃kk:List Int,kd = .tup (kk.map .int)/\Q ((Bn ks xs kk).getD z)
end
abbrev RM:=(List Int->D->Prop)->En->Prop
def rSeqM (t:RS) (u:RM):RM:=λP a=>t { nx:=u P,rt:=λ_=>False } a
def rPutM (i:Nat) (a:Addr) (tk te:RE):RM:=λP b=>b[i]? = some (some (.raw (.ref a)))/\te b λd=>tk b λkd=>∃kk:List Int,kd = .tup (kk.map .int)/\P kk d
def rRetF (t:RA):RS:=λE a=>t a λxs=>E.rt (.lst xs)
end
section
open PySem PySem.Spec PySem.W PyProof.Rows L2
section
variable {s:aF} {pm pw v:aB}
theorem Pj (zj:A.depth<recursionLimit) (ho:s.heap.get? f=some (kla_obj name qual params body scope jj pm c' pw)) (fj:s.heap.CodeRec (.ref c') qual) (hnl:s.heap.NoLimit)
  (m6:bindArgs (kla_fn name qual params body scope jj pm (.ref c') pw) ⟨[v],[]⟩=pure [(x,v)]) (tx:scope.names.lookup x=some .local) (Z5:scope.isCoroutine=false) (vz:scope.isGenerator=false) (hk:scope.kind = .function) (gu:∀y∈scope.names,y.2≠.cell)
  (h:∀h₁ tk,h₁.Ns s.heap.objs.size (λy=>[(x,v)].reverse.lookup y)->(∀b o,s.heap.get? b=some o->h₁.get? b=some o) ->
   wpAny (model prog w) (A.deeper (envX qual scope s.heap.objs.size f (.ref c') jj)) (eval body (envX qual scope s.heap.objs.size f (.ref c') jj)) Q (λ_ _=>False) { s with heap:=h₁,toks:=tk }) :
  wpAny (model prog w) A (call (.ref f) [v]) Q E s:=by
 refine ID (kla_callFunE zj ho rfl Z5 vz rfl fj ?_);rw[m6];refine aJ (EG gu (λy hy=>by rw[dM.mp hy];exact tx) (λh₁ hns hsb=>⟨hnl.fresh _ hsb,?_⟩) hk);have hk₁:∀b o,s.heap.get? b=some o->h₁.get? b=some o:=λb o e=>hsb.extBut b o (bE (aP e)) (aK _ e);exact kla_codeExpr (jC (h h₁ _ hns hk₁) (λu s' hq=>hq) λ_ _ z=>z.elim)
end
def QE (prog:bU) (w:dJ) (A:dD) (env:Env) (h:Heap) (e:Expr) (R:aB->Prop):Prop :=
 ∀(s:aF) (Q:aB->aF->Prop),s.heap=h->(∀u tk,R u->Q u { s with toks:=tk })->wpAny (model prog w) A (eval e env) Q (λ_ _=>False) s
def IsI (i:Int) (u:aB):Prop:=∃t,u = .int i t
section
variable {prog:bU} {w:dJ} {A:dD} {env:Env} {h:Heap} {a b:Expr} {pos:Pos}
theorem E9 (hk:env.scope.kind = .function) (hx:env.kindOf x=some .local) (hn:h.Ns env.locals m) (hm:m x=some u) (hd:(x == ("__debug__":Str))=false:=by decide):QE prog w A env h (.Name x pos) (· = u):=λs Q e k=>by
 subst e;exact IC (EF hk hx hn hm (k u s.toks rfl)) hd
theorem E8:QE prog w A env h (.Constant (.int i) n pos) (IsI i):=λs Q e k=>wE (k _ _ ⟨_,rfl⟩)
theorem M6 {p:Addr} {its:List aB} {n:Nat} {u:aB} (ha:QE prog w A env h a (· = .ref p)) (hb:QE prog w A env h b (IsI (n:Int))) (ht:IsTup h p its.toArray) (hz:its.length<=sizeLine) (hu:its[n]? = some u) (hs:JC b):QE prog w A env h (.Subscript a b pos) (· = u):=λs Q e k=>by
 subst e;refine Subscript_ (ha s _ rfl λo tk ho=>hb _ _ rfl λv tk2 hv=>?_);obtain rfl:o = .ref p:=ho;obtain⟨t,rfl⟩:=hv;obtain⟨j,h1,h2,h3,h4,h5⟩:=YE (EL (xs:=its) hu);have l63:=SJ;exact sM (x:=u) ht.typeIs slot_tuple_getitem.lookup
  (UV (j:=j) (Q:=λr s'=>r=u/\Q r s') ht (by lia) (by lia) (by rw[aY];exact h1) (by simpa using h2) ⟨rfl,k u _ rfl⟩) (hs _ _)
end
def xg:Heap:={ objs:=#[] }
section
variable {s:aF} {L l f:Addr}
theorem JT (b:Addr):xg.get? b=none:=by simp[xg,Heap.get?]
theorem Rl (hL:s.heap.Ns L m) (hl:s.heap.IsList l vs.toArray) (hlen:kz.length=vs.length) (vm:vs.length<64) (hf:s.heap.objs.size=f+1) (Q_:∃o,s.heap.get? f=some o) (hfL:f≠L)
  (turn:∀(i:Nat) (v:aB) (k:Int),vs[i]? = some v->kz[i]? = some k->∀(h:Heap) (tk:Nat),(∀b o,b≠L->s.heap.get? b=some o->h.get? b=some o)->h.Ns L m ->
   wpAny (model prog w) A.in1.in1 (call (.ref f) [v]) (λu s'=>∃h' tk' t',s' = { s with heap:=h',toks:=tk' }/\u = .int k t'/\∀b o,h.get? b=some o->h'.get? b=some o) (λ_ _=>False) { s with heap:=h,toks:=tk })
  (q:∀D h' tk out c,(∀b o,b≠L->s.heap.get? b=some o->h'.get? b=some o)->h'.Ns L m->s.heap.objs.size<=D->h'.get? D=some (seqObj "list" out c)->KskOut false kz vs out.toList->Q (.ref D) { s with heap:=h',toks:=tk }) :
  wpAny (model prog w) A (call (.builtin "sorted") [.ref l] [(gL "key",.ref f)]) Q E s:=by
 have F:Fr xg L s.heap m:=⟨hL,λb o e=>(by rw[JT] at e;cases e),fV _⟩;have old:∀{h:Heap} {own:List (Addr × Obj)},News xg L h (JG xg s.heap L++own)->∀b o,b≠L->s.heap.get? b=some o->h.get? b=some o:=λ{h own} N b o n e =>
  (N (b,o) (cU _ (DD n (JT b) e))).1
 refine ksk_sorted (kz:=kz) (f:=.ref f) (b:=false) F (Ps (g:=xg) (h:=s.heap) (L:=L)) hl hlen vm (ksk_s1 _ _) (λx=>ksk_l1 _ _) (λx=>ksk_t1 f x) (λi v k hv hk h tk own Fh N=>?_) λD h' tk out c F' N' dw ko=>?_
 ·refine jC (turn i v k hv hk h tk (old N) Fh.ns) (λu s' hu=>?_) λ_ _ z=>z;obtain⟨h',tk',t',rfl,rfl,kp⟩:=hu;exact⟨h',tk',t',rfl,rfl,⟨Fh.ns.keeps kp,λb o e=>(by rw[JT] at e;cases e),fV _⟩,λp hp=>⟨kp _ _ (N p hp).1,(N p hp).2⟩⟩
 ·obtain⟨o,ho⟩:=Q_;have h1:f<D:=dw (f,o) (DD hfL (JT f) ho);refine q D h' tk out c (λb o n e=>(N' (b,o) (aT _ (DD n (JT b) e))).1) F'.ns (by rw[hf];exact h1) (N' _ cF).1 ko
end
end
section
open PySem PySem.Spec PyProof.Rows L2
section
variable {P:bU} {w:dJ} {K:aH} {mg:Str->Option aB} {base:Heap}
theorem Ax {x qual:Str} {st:Stmt} {f c T:Addr} {oc kV doc pm dm ct:aB} {od an:Option Addr} {om:Array (Option aB)} (M:Mod K mg base) (hm:mg x=some (.ref f))
  (lk:K.lookup f=some ⟨oc,od,.func (mM x qual (zZ st) (pB st) (gG st) .none kV doc pm an dm ct),om⟩) (e:fQ K x=some (c,T)):dm = .ref c:=by
 unfold fQ at e;split at e
 ·rename_i f' hf;have e1:=UL M.kin M.glob hf;rw[hm] at e1;cases e1;rw[lk] at e;dsimp only at e;split at e
  ·split at e
   ·split at e
    ·cases e;rfl
    ·cases e
   ·cases e
  ·cases e
 ·cases e
theorem aj.okC {x:Str} {st:Stmt} {N ps:List Str} {k:Nat} {F:FD} {t:RS} (Z:aj K mg x st ps) (Sc:e9 N ps (gG st))
  (fe:∀{f:Addr} (dm:aB) (A:dD) (outer:List Env) (s:aF) (H:Hp) (E:XK),(∀c T,fQ K x=some (c,T)->dm = .ref c)->cj k (A.deeper (envOfC x (gG st) s.heap.objs.size f dm)) ->
   nk (JM ka P w K mg base N x (gG st) f dm A outer s H E).nox (pB st) t)
  (len:∀ds Q,F ds Q->ds.length=ps.length) (pure:∀ds Q,F ds Q->t { nx:=λ_=>Q .non,rt:=Q } (eD N ds)):FnAt P w K mg base x ps (k+1) F:=by
 obtain⟨f,fd,a,b,c⟩:=Z.ex;obtain⟨oc,od,kV,doc,pm,an,dm,ct,om,rfl,lk,fj⟩:=a.ex;have main:Mod K mg base->iw P w K mg base ka (k+1) f (mM x x (zZ st) (pB st) (gG st) .none kV doc pm an dm ct) ps (p_ K F):=λM =>
  Wa lk fj Sc (λvs H Q E ⟨_,ds,P',r,h,_⟩=>by rw[<-r.length];exact len ds P' h) λA outer s H vs Q E hr ⟨tb,ds,P',r,h,kk⟩ =>
   ⟨_,(fe dm A outer s H E (λc T e=>Ax M b lk e) hr).nox,⟨eD N ds,_,Eg (X:=(JM ka P w K mg base N x (gG st) f dm A outer s H E).nox) tb r,pure ds P' h,λg' Y' H' hq k s'=>kk .non .non H' hq s'.same .non,λd v H' hq k sm rv=>kk d v H' hq sm rv,λ_ _ _ z=>z.elim,λ_ _ _ z=>z.elim⟩⟩
 exact⟨f,_,⟨λvs H Q E ⟨_,ds,P',r,h,_⟩=>by rw[<-r.length];exact len ds P' h,λA outer s H args us vs Q E hr e0 hb r hs=>(main e0.mod).run A outer s H args us vs Q E hr e0 hb r hs⟩,.all c,a.kp,b⟩
end
structure qf (K:aH) (mg:Str->Option aB) (base:Heap) (x:Str) (c T:Addr):Prop where
 tab:fQ K x=some (c,T)
 hd:QQ base c T
 blt:base.BuiltinsAt mg T
 ne:mainGlobals≠T
section
variable {s:aF}
theorem Nw (e:h.get? c=some oc) (hd:oc.data = .fields vs) (hv:vs[1]? = some (.str q t)):ci P w H h c (IG c q) :=
 ⟨⟨oc,vs,t,e,hd,hv⟩,⟨_,e⟩,λh1 h2 ⟨oc,vs,t,e,d,v⟩ k=>⟨oc,vs,t,k _ e,d,v⟩⟩
theorem Fc {pos pos':Pos} {c cv:aB} (l:List aB) (ht:TriplesOk l) (h:codeAmong pos' (l++[rawInt pos.line,rawInt pos.col,c])=some cv):codeAmong pos' l=some cv\/(cv=c/\pos'.col=pos.col):=by
 fun_induction TriplesOk l with
 | case1 =>
  simp only[bC,codeAmong,rawInt] at h;split at h
  ·rename_i hh;cases h;refine .inr ⟨rfl,?_⟩;simp at hh;lia
  ·cases h
 | case2 a' t b' u x rest ih =>
  simp only[aW,codeAmong] at h ⊢;split at h
  ·rename_i hh;rw[if_pos hh];exact .inl h
  ·rename_i hh;rw[if_neg hh];exact ih ht h
 | case3 l h1 h2=>exact ht.elim
theorem Pk (so:az X a Z H) (I:Inv X pins Z H s) (W:qf X.K X.mg X.base x c T) (hx:x∈uR) (fj:X.env.code = .ref c)
  (vv:defaultsOf params X.env=([],[])) (ju:closureFor scope X.env=pure jj) (qv:X.env.qual ++ "<lambda>" = AC cm.col)
  (h:∀H2 h' f c' pw tk,Inv X pins Z H2 { s with heap:=h',toks:=tk }->af H H2->h'.objs.size=f+1->H2 f=none->s.heap.objs.size<=f->h'.get? f=some (tX "<lambda>" (AC cm.col) params body scope jj ((X.mg "__name__").getD .none) c' pw)->h'.CodeRec (.ref c') (AC cm.col) ->
   Q (.ref f) { s with heap:=h',toks:=tk }):wpAny (model X.prog X.w) X.A (eval (.Lambda params body scope cm) X.env) Q E s:=by
 obtain⟨ps,hT,ok⟩:=so.tabs x c T hx W.tab;have hP:s.heap.get? T=some (rZ ps):=I.hok T _ hT;have hg:s.heap.Ns mainGlobals X.mg:=I.mod.glob.keeps I.bk;refine PySem.W.kla_eval vv ?_;rw[qv];cases hn:codeAmong cm ps.toList with
 | none =>
  refine PySem.W.kla_makeFunction ju I.ok.glob hg fj (W.hd.keeps I.bk) hP ok.ok hn W.ne (W.blt.keeps I.bk) λc' pw h' tk me xl dw wc htb=>?_;obtain⟨c2,oc,vs,t,e2,r_,hd,hv⟩:=id wc;cases e2;have nT:∀b o,H b=some o->(∀qs,o≠.tbl qs)->b≠T:=λb o q n z=>by subst z;rw[hT] at q;cases q;exact n _ rfl
  have ncp:H c'=none:=I.hok.fresh xl;have nTc:T≠c':=dY hT ncp;have up:∀b o,b≠T->s.heap.get? b=some o->(h'.push (tX "<lambda>" (AC cm.col) params body scope jj ((X.mg "__name__").getD .none) c' pw)).get? b=some o:=λb o n e=>aK _ (me b o n e);have size:s.heap.objs.size<=h'.objs.size:=fK xl (lI dw);have at2:∀b o,H b=some o->b≠T->bj (bj H c' (IG c' (AC cm.col))) T (.tbl (ps ++ #[rawInt cm.line,rawInt cm.col,.ref c'])) b=some o:=λb o q n=>by
   rw[cW n,cW (dY q ncp)];exact q
  have codeAt:bj (bj H c' (IG c' (AC cm.col))) T (.tbl (ps ++ #[rawInt cm.line,rawInt cm.col,.ref c'])) c'=some (IG c' (AC cm.col)):=by rw[cW (Ne.symm nTc),fS]
  have lamk:kf H (bj (bj H c' (IG c' (AC cm.col))) T (.tbl (ps ++ #[rawInt cm.line,rawInt cm.col,.ref c']))):=λb qs q=>by
   by_cases hb:b=T
   ·subst hb;rw[hT] at q;cases q;refine⟨_,fS,λ_=>⟨?_,λpos cv z=>?_⟩⟩
    ·rw[uB];exact TriplesOk_snoc _ _ _ _ ok.ok
    ·rw[uB] at z;rcases Fc (pos:=cm) (c:=.ref c') _ ok.ok z with z | ⟨rfl,zc⟩
     ·obtain⟨d,e1,e3⟩:=ok.code pos cv z;exact⟨d,e1,at2 d _ e3 (nT d _ e3 λ_ z=>by cases z)⟩
     ·exact⟨c',rfl,by rw[zc];exact codeAt⟩
   ·refine⟨#[],by rw[qU];exact at2 b _ q hb,λk=>by rw[qU];exact k.mono λd g z=>at2 d _ z (nT d _ z λ_ z=>by cases z)⟩
  have sm:af H (bj (bj H c' (IG c' (AC cm.col))) T (.tbl (ps ++ #[rawInt cm.line,rawInt cm.col,.ref c']))):=⟨λb o q nt=>at2 b o q (nT b o q λqs z=>by subst z;exact nt),lamk⟩;have hok:jp X.prog X.w (bj (bj H c' (IG c' (AC cm.col))) T (.tbl (ps ++ #[rawInt cm.line,rawInt cm.col,.ref c']))) (h'.push (tX "<lambda>" (AC cm.col) params body scope jj ((X.mg "__name__").getD .none) c' pw)):=λb u q=>by
   by_cases hb:b=T
   ·subst hb;rw[fS] at q;cases q;exact aK _ htb
   ·rw[cW hb] at q;by_cases hc:b=c'
    ·subst hc;rw[fS] at q;cases q;exact Nw (aK _ r_) hd hv
    ·rw[cW hc] at q;refine (I.hok b u q).stay (λd v tq e=>up d v ?_ e) (λd e=>at2 d _ e (nT d _ e λ_ z=>by cases z)) λd xs e=>at2 d _ e (nT d _ e λ_ z=>by cases z);rcases tq with rfl | z
     ·exact hb
     ·exact nT d _ z λ_ z=>by cases z
  have un:Un X.fs [] H (bj (bj H c' (IG c' (AC cm.col))) T (.tbl (ps ++ #[rawInt cm.line,rawInt cm.col,.ref c']))) s.heap (h'.push (tX "<lambda>" (AC cm.col) params body scope jj ((X.mg "__name__").getD .none) c' pw)):=by
   have neT:∀b,H b=none->b≠T:=λb n z=>(by subst z;rw[hT] at n;cases n);refine⟨λb o e n _ _=>up b o (neT b n) e,λb o e n _ _=>⟨o.slots,up b o (neT b n) e⟩,λb o e n _=>?_,λb o e _=>?_,λb xs q=>sm.get b _ q trivial,λb o u q=>sm.get b _ q trivial,λb qs q=>sm.tbl q⟩
   ·rw[cW (neT b n),cW (bE (bQ (aP e) xl))];exact n
   ·by_cases hb:b=T
    ·subst hb;exact⟨_,aK _ htb⟩
    ·exact⟨o,up b o hb e⟩
  refine h _ _ h'.objs.size c' pw tk (I.un un hok) sm (gA ..) ?_ size (bF _ rfl) ⟨c',oc,vs,t,rfl,aK _ r_,hd,hv⟩;have fr:H h'.objs.size=none:=I.hok.fresh size;rw[cW (Ne.symm (dY hT fr)),cW (dZ dw)];exact fr
 | some cv =>
  obtain⟨c',rfl,m7⟩:=ok.code cm cv hn;obtain⟨⟨oc,vs,t,r_,hd,hv⟩,_⟩:=I.hok c' _ m7;refine PySem.W.kla_makeFunctionHit ju I.ok.glob hg fj (W.hd.keeps I.bk) hP ok.ok hn (W.blt.keeps I.bk) λpw h' tk hk j3=>?_;exact h H _ h'.objs.size c' pw tk (I.kept λb o e=>aK _ (hk b o e)) (af.refl H) (gA ..) (I.hok.fresh j3) j3 (bF _ rfl) ⟨c',oc,vs,t,rfl,aK _ (hk _ _ r_),hd,hv⟩
end
theorem OA {α β:Type} {g:α->β}:∀{l1 l0:List β},l1.Perm l0->∀l2:List α,l0=l2.map g->∃l3:List α,l3.Perm l2/\l1=l3.map g:=by
 intro l1 l0 h
 induction h with
 | nil=>intro l2 e;exact⟨[],by rw[FF.mp e.symm],rfl⟩
 | cons x p ih =>
  intro l2 e;cases l2 with
  | nil=>cases e
  | cons a l2 =>
   obtain⟨e1,e2⟩:=xH e;obtain⟨l3,p3,e3⟩:=ih l2 e2;exact⟨a::l3,p3.cons a,by rw[aQ,e3,e1]⟩
 | swap x y l =>
  intro l2 e
  match l2,e with
  | a::b::l2,e =>
   obtain⟨e1,e2⟩:=xH e;obtain⟨e3,e4⟩:=xH e2;exact⟨b::a::l2,QO ..,by simp[e1,e3,e4]⟩
 | trans p1 p2 ih1 ih2 =>
  intro l2 e;obtain⟨l3,p3,e3⟩:=ih2 l2 e;obtain⟨l4,p4,e4⟩:=ih1 l3 e3;exact⟨l4,p4.trans p3,e4⟩
def D4 {h:Heap} {L:Addr} {m m':Str->Option aB} (a:h.Ns L m) (b:h.Ns L m'):m=m':=a.eq_nsMap.trans b.eq_nsMap.symm
abbrev pr2 (p:Int × Int):D:=.tup [.int p.1,.int p.2]
def J9 (j:Nat) (te:RE):RA:=λa Q=>te a λx=>∃(B:Int) (fs:List (Int × Int)),a[j]? = some (some (.d (.int B)))/\x = .lst (fs.map pr2)/\fs.length<64/\(∀f∈fs,qb B f.2/\MulOk f.1 (B.fdiv f.2)) /\
 ∀gs:List (Int × Int),gs.Perm fs->gs.Pairwise (λp q=>p.1*B.fdiv p.2<=q.1*B.fdiv q.2)->Q (gs.map pr2)
def _root_.L2.Inv.frame {Z:St} {s:aF} (I:Inv X pins Z H s) (hn:s.heap.Ns X.env.locals m) (ky:h'.Ns X.env.locals m) (k:∀b o,b≠X.env.locals->s.heap.get? b=some o->h'.get? b=some o):Inv X pins Z H { s with heap:=h',toks:=tk }:=by
 have nL:∀b u,H b=some u->b≠X.env.locals:=λb u e z=>by rw[z,I.free] at e;cases e
 refine I.step (g':=s.gens) (d':=s.drawn) (ch:=[]) (λ_ z=>nomatch z) (λb o n _ _ e _=>k b o n e) (λb o n _ _ e _=>⟨o.slots,k b o n e⟩) (λ_ _ _ _ n=>n) (λb o _ e=>?_) (λ_ _ e=>e) (λ_ _ _ e=>e) (λb ps e=>⟨#[],by rw[e];simp⟩) (λm' hm=>?_) (λb u e=>?_) I.bare
 ·by_cases hb:b=X.env.locals
  ·subst hb;obtain⟨o',_,_,e',_⟩:=ky;exact⟨o',e'⟩
  ·exact⟨o,k b o hb e⟩
 ·rw[D4 hm hn];exact ky
 ·refine (I.hok b u e).stay (λc v hc q=>k c v ?_ q) (λ_ q=>q) λ_ _ q=>q;rcases hc with rfl | hc
  ·exact nL c u e
  ·exact nL c _ hc
structure kc (K K':aH):Prop where
 get:∀b o,K.lookup b=some o->o.data≠.fields #[]->K'.lookup b=some o
 of:∀b o,K'.lookup b=some o->K.lookup b=some o
section
variable {K K':aH}
theorem kc.ns (z:kc K K') {a:Addr} {x:Str} {r:Option aB} (e:jN K a x=some r):jN K' a x=some r:=by
 unfold jN at e ⊢;cases q:K.lookup a with
 | none=>rw[q] at e;cases e
 | some o =>
  rw[q] at e;obtain⟨oc,od,dt,sl⟩:=o;cases dt with
  | dict es n=>rw[z.get a _ q λy=>by cases y];exact e
  | _=>cases e
theorem kc.ns' (z:kc K K') {a:Addr} {x:Str} {r:Option aB} (e:jN K' a x=some r):jN K a x=some r:=by
 unfold jN at e ⊢;cases q:K'.lookup a with
 | none=>rw[q] at e;cases e
 | some o=>rw[q] at e;rw[z.of a _ q];exact e
theorem kc.code (z:kc K K') {cd:aB} {q:Str} (e:nN K cd q=true):nN K' cd q=true:=by
 unfold nN at e ⊢;split at e
 ·rename_i c;cases w:K.lookup c with
  | none=>rw[w] at e;cases e
  | some o =>
   rw[w] at e;obtain⟨oc,od,dt,sl⟩:=o;cases dt with
   | fields vs =>
    rw[z.get c _ w λy=>by cases y;cases e];exact e
   | _=>cases e
 ·cases e
theorem kc.fn (z:kc K K') {x qual:Str} {st:Stmt} {f:Addr} {fd:lO} (F:qc K x qual st f fd):qc K' x qual st f fd:=by
 obtain⟨oc,od,kV,doc,pm,an,dm,ct,om,rfl,lk,fj⟩:=F.ex;have lk':=z.get f _ lk λy=>by cases y
 refine⟨⟨oc,od,kV,doc,pm,an,dm,ct,om,rfl,lk',z.code fj⟩,?_⟩;unfold nO;simp only[lk']
theorem kc.def (z:kc K K') {mg:Str->Option aB} {x:Str} {st:Stmt} {ps:List Str} (Z:aj K mg x st ps):aj K' mg x st ps:=by
 obtain⟨f,fd,a,b,c⟩:=Z.ex;exact⟨f,fd,z.fn a,b,c⟩
theorem kc.tab' (z:kc K K') {x:Str} {r:Addr × Addr} (e:fQ K' x=some r):fQ K x=some r:=by
 unfold fQ at e ⊢;split at e
 ·rename_i f hf;rw[z.ns' hf];dsimp only;split at e
  ·rename_i fo;rw[z.of _ _ fo];dsimp only;split at e
   ·rename_i c hc;split at e
    ·rename_i co;rw[z.of _ _ co];exact e
    ·cases e
   ·cases e
  ·cases e
 ·cases e
theorem kc.tab (z:kc K K') {x:Str} {r:Addr × Addr} (e:fQ K x=some r):fQ K' x=some r:=by
 unfold fQ at e ⊢;split at e
 ·rename_i f hf;rw[z.ns hf];dsimp only;split at e
  ·rename_i fo;rw[z.get _ _ fo λy=>by cases y];dsimp only;split at e
   ·rename_i c hc;split at e
    ·rename_i vs _ co;rw[z.get _ _ co λy=>by cases y;cases e];exact e
    ·cases e
   ·cases e
  ·cases e
 ·cases e
end
def tab_mk {K:aH} {x:Str} {f c P:Addr} {oc coc:aB} {od cod:Option Addr} {fd:lO} {sl csl:Array (Option aB)} {vs:Array aB} (a:jN K mainGlobals x=some (some (.ref f))) (l:K.lookup f=some ⟨oc,od,.func fd,sl⟩) (e:fd.code = .ref c)
  (m:K.lookup c=some ⟨coc,cod,.fields vs,csl⟩) (v:vs[11]? = some (.ref P)):fQ K x=some (c,P):=by
 unfold fQ;rw[a];dsimp only;rw[l];dsimp only;rw[e];dsimp only;rw[m];dsimp only;rw[v]
def rN (K:aH):List Addr:=uR.filterMap λx=>(fQ K x).map (·.2)
def kT (K:aH):aH:=K.filter λe=>!(rN K).contains e.1
theorem tQ {p:Addr->Bool}:∀(K:aH) (b:Addr),(K.filter λe=>p e.1).lookup b=if p b then K.lookup b else none
 | [],b=>by simp
 | (a,o)::K,b=>by
  have ih:=tQ (p:=p) K b;by_cases hp:p a
  ·rw[List.filter_cons_of_pos (by exact hp)];by_cases hb:b=a
   ·subst hb;simp[kB,hp]
   ·rw[kB,kB,beq_eq_false_iff_ne.mpr hb];exact ih
  ·rw[List.filter_cons_of_neg (by exact hp),ih];by_cases hb:b=a
   ·subst hb;simp[hp]
   ·rw[kB,beq_eq_false_iff_ne.mpr hb]
def VT (K:aH) (mg:Str->Option aB) (base:Heap):Prop:=∀x c T,x∈uR->fQ K x=some (c,T)->qf K mg base x c T
def Xv {K:aH} {h:Heap} (KX:K.In h) (hT:∀b∈rN K,h.get? b=some (rZ #[])):kc K (kT K):=by
 refine⟨λb o e n=>?_,λb o e=>?_⟩
 ·unfold kT;rw[tQ (p:=λb=>!(rN K).contains b)];have nb:b ∉ rN K:=λm=>by
   have:=hT b m;rw[KX b o e] at this;cases this;exact n rfl
  simp[nb,e]
 ·unfold kT at e;rw[tQ (p:=λb=>!(rN K).contains b)] at e;split at e
  ·exact e
  ·cases e
def Ta {K:aH} {b:Addr} (m:b∈rN K):(kT K).lookup b=none:=by
 unfold kT;rw[tQ (p:=λb=>!(rN K).contains b)];simp[m]
def Ag:b∈rN l↔∃x c,x∈uR/\fQ l x=some (c,b):=by
 unfold rN;rw[kC];constructor
 ·rintro⟨x,m,e⟩;obtain⟨⟨c,T⟩,e1,e2⟩:=rY.mp e;cases e2;exact⟨x,c,m,e1⟩
 ·rintro⟨x,c,m,e⟩;exact⟨x,m,by rw[e];rfl⟩
theorem Li {P:bU} {w:dJ} {K:aH} {mg mb:Str->Option aB} {k:Nat} {fa a:Addr} {fd:lO} {x:Str} {s₁:aF} {vs:List aB} {ns:List Int}
  (KX:K.In s₁.heap) (hns:s₁.heap.Ns mainGlobals mg) (hb:s₁.heap.Ns builtinsNs mb) (hbb:∀x:Str,x≠"__name__"->mb x=bootBuiltins x) (hlim:s₁.heap.NoLimit) (hg:s₁.gens = #[])
  (ha:s₁.heap.get? a=some { cls:=.type "list",data:=.seq vs.toArray }) (hi:IntsAre vs ns) (hl:ns.length<=63) (hr:cj k callerA)
  (hbm:∃bm ob,mg "__builtins__" = some (.ref bm)/\bm≠builtinsNs/\s₁.heap.get? bm=some ob/\ob.cls = .type "module"/\ob.dict=some builtinsNs/\ob.data = .plain)
  (hT:∀x c T,x∈uR->fQ K x=some (c,T)->QQ s₁.heap c T/\s₁.heap.get? T=some (rZ #[]))
  (F:∀(base:Heap) (K':aH),kc K K'->K'.In base->base.Ns mainGlobals mg->VT K' mg base->iw P w K' mg base ka k fa fd [x] (p_ K' (Kk 63))) (m6:∀(s:aF) (u:aB),BindsTo s fd ⟨[u],[]⟩ [(x,u)]) :
  codeAny (model P w) callerA (.call (.ref fa) ⟨[.ref a],[]⟩) (λr s'=>r = .ok (.ret (.bool true))/\OldK s₁.heap s'.heap/\s'.os=s₁.os/\AllBare s'.gens) s₁:=by
 have rv:=EX hi;have lenV:=hi.length;have E_:∀b∈rN K,s₁.heap.get? b=some (rZ #[]):=λb m=>by
  obtain⟨x,c,m1,e⟩:=Ag.mp m;exact (hT x c b m1 e).2
 have Z:kc K (kT K):=Xv KX E_;have na:a ∉ rN K:=λm=>by
  have:=E_ a m;rw[ha] at this;cases this
 have core:∀H:Hp,(∀b u,H b=some u->(b∈rN K/\u = .tbl #[])\/(b=a/\K.lookup a=none/\∃o xs,u = .frz o (.lst xs)))->(∀b∈rN K,H b=some (.tbl #[]))->qd (kT K) H a (ns.map V.int)->jp P w H s₁.heap ->
   codeAny (model P w) callerA (.call (.ref fa) ⟨[.ref a],[]⟩) (λr s'=>r = .ok (.ret (.bool true))/\OldK s₁.heap s'.heap/\s'.os=s₁.os/\AllBare s'.gens) s₁:=by
  intro H hO hH hS hok;have js:∀{b:Addr} {o:Obj},s₁.heap.get? b=some o->H b=none->(UW s₁.heap H).get? b=some o:=λe n=>Pc e n;have wj:∀{b:Addr} {o:Obj},s₁.heap.get? b=some o->o.data≠.fields #[]->b≠a->H b=none:=λ{b o} e d n=>by
   cases q:H b with
   | none=>rfl
   | some u =>
    rcases hO b u q with ⟨m,_⟩ | ⟨e',_⟩
    ·have:=E_ b m;rw[e] at this;cases this;exact (d rfl).elim
    ·exact (n e').elim
  have neA:∀{b:Addr} {o:Obj},s₁.heap.get? b=some o->(∀xs n,o.data≠.seq xs n)->b≠a:=λ{b o} e d z=>by
   subst z;rw[ha] at e;cases e;exact d _ _ rfl
  have V4:∀{b:Addr} {m:Str->Option aB},s₁.heap.Ns b m->(UW s₁.heap H).Ns b m:=λ{b m} ⟨o,es,ep,e,d,r⟩=>⟨o,es,ep,js e (wj e (by rw[d];intro y;cases y) (neA e (by rw[d];intro _ _ y;cases y))),d,r⟩;have hKb:(kT K).In (UW s₁.heap H):=λb o e=>js (KX b o (Z.of b o e)) (by
   cases q:H b with
   | none=>rfl
   | some u =>
    rcases hO b u q with ⟨m,_⟩ | ⟨e',n,_⟩
    ·rw[Ta m] at e;cases e
    ·subst e';have:=Z.of b o e;rw[n] at this;cases this)
  have hM:Mod (kT K) mg (UW s₁.heap H):=⟨hKb,V4 hns,⟨mb,V4 hb,hbb⟩,let ⟨mc,h1,h2⟩:=hlim;⟨mc,V4 h1,h2⟩⟩;have e0:si P w (kT K) mg (UW s₁.heap H) callerA [] s₁ H:=⟨rfl,hM,λb o e=>Tn e,zO (Ld _ _),trivial,λb hb=>absurd (show b∈([]:List Addr) from hb) (by simp),hok,.of_eq hg⟩;have tw:VT (kT K) mg (UW s₁.heap H):=λx c T m e=>by
   obtain⟨hd,ht⟩:=hT x c T m (Z.tab' e);refine⟨e,?_,?_,λz=>?_⟩
   ·obtain⟨o,vs',file,tf,flags,tg,inF,text,tt,e1,e2,e3,e4,r⟩:=hd;refine⟨o,vs',file,tf,flags,tg,inF,text,tt,js e1 (wj e1 (by rw[e3];intro y;cases y;cases e4) (neA e1 (by rw[e3];intro _ _ y;cases y))),e2,e3,e4,r⟩
   ·obtain⟨bm,ob,b1,b2,b3,b4,b5,b6⟩:=hbm;refine⟨bm,ob,b1,b2,λz=>?_,λz=>?_,js b3 (wj b3 (by rw[b6];intro y;cases y) (neA b3 (by rw[b6];intro _ _ y;cases y))),b4,b5,b6⟩
    ·obtain⟨o,es,ep,e1,d,_⟩:=hns;rw[<-z,b3] at e1;cases e1;rw[b6] at d;cases d
    ·rw[z,ht] at b3;cases b3;cases b6
   ·obtain⟨o,es,ep,e1,d,_⟩:=hns;rw[z,ht] at e1;cases e1;cases d
  have tin:h9 (kT K) H:=λx c T m e=>⟨#[],hH T (Ag.mpr ⟨x,c,m,Z.tab' e⟩),⟨trivial,λpos cv z=>by cases z⟩⟩;refine uP ((F _ _ Z hKb (V4 hns) tw).run callerA [] s₁ H ⟨[.ref a],[]⟩ [.ref a] [.ref a] (λv _=>v = .bl true) (λ_ _ _=>False) hr e0 (m6 s₁ (.ref a)) (.cons rfl .nil)
   ⟨tin,[.lst (ns.map .int)],λd=>d = .bl true,.cons (.lst hS .ints) .nil,⟨ns,rfl,hl,rfl⟩,λd v H' e _ r=>by subst e;exact r.bl_inv⟩) λr s' h=>?_
  cases r with
  | error e=>exact mV h
  | ok fl =>
   cases fl with
   | next=>exact mV h
   | brk=>exact mV h
   | cont=>exact mV h
   | ret u =>
    obtain⟨v,H',os,bare,un,zg,r',q⟩:=h;have q':v = .bl true:=q;subst q';obtain rfl:u=HH true:=r';have as:∀b o,s₁.heap.get? b=some o->asItWas s₁.heap s'.heap b o:=λb o e=>by
     cases q:H b with
     | none=>exact .inl (un.keep b o e q (by intro z;exact absurd (show b∈([]:List Addr) from z) (by simp)) (by simp))
     | some u =>
      rcases hO b u q with ⟨m,rfl⟩ | ⟨_,_,ob,xs,rfl⟩
      ·obtain⟨more,e2⟩:=un.tbls b _ q;have e3:s'.heap.get? b=some (rZ (#[]++more)):=zg b _ e2;obtain⟨x,c,m1,e4⟩:=Ag.mp m;obtain⟨hd,ht⟩:=hT x c b m1 e4;rw[e] at ht;cases ht;exact .inr (.inl ⟨(hd.tab e).isCodeTable,rfl,#[],more,rfl,e3⟩)
      ·have z2:=un.frzs b ob _ q;obtain⟨e1,_⟩:=hok b _ q;obtain⟨e2,_⟩:=zg b _ z2;rw[e] at e1;cases e1;exact .inl e2
    exact⟨rfl,⟨as,λb o e=>un.there b o e (by simp)⟩,os,bare⟩
 cases hk:K.lookup a with
 | some o =>
  have e:=KX a o hk;rw[ha] at e;cases e;refine core (λb=>if b∈rN K then some (.tbl #[]) else none) (λb u z=>?_) (λb m=>if_pos m) (.inr ⟨_,vs.toArray,_,Z.get a _ hk (by intro y;cases y),rfl,rfl,rfl,by rw[aY,lenV,jQ];lia,by simpa using rv⟩) (λb u z=>?_)
  ·by_cases hb:b∈rN K
   ·have z':=(if_pos hb).symm.trans z;cases z';exact .inl ⟨hb,rfl⟩
   ·have z':=(if_neg hb).symm.trans z;cases z'
  ·by_cases hb:b∈rN K
   ·have z':=(if_pos hb).symm.trans z;cases z';exact E_ b hb
   ·have z':=(if_neg hb).symm.trans z;cases z'
 | none =>
  refine core (λb=>if b∈rN K then some (.tbl #[]) else if b=a then some (.frz { cls:=.type "list",data:=.seq vs.toArray } (.lst (ns.map V.int))) else none) (λb u z=>?_) (λb m=>if_pos m) (.inl ⟨{ cls:=.type "list",data:=.seq vs.toArray },?_⟩) (λb u z=>?_)
  ·by_cases hb:b∈rN K
   ·have z':=(if_pos hb).symm.trans z;cases z';exact .inl ⟨hb,rfl⟩
   ·have z':=(if_neg hb).symm.trans z;by_cases hb:b=a
    ·have z':=(if_pos hb).symm.trans z';cases z';exact .inr ⟨hb,hk,_,_,rfl⟩
    ·have z':=(if_neg hb).symm.trans z';cases z'
  ·show (if a∈rN K then _ else _)=_;rw[if_neg na,if_pos rfl]
  ·by_cases hb:b∈rN K
   ·have z':=(if_pos hb).symm.trans z;cases z';exact E_ b hb
   ·have z':=(if_neg hb).symm.trans z;by_cases hb:b=a
    ·have z':=(if_pos hb).symm.trans z';cases z';subst hb;exact⟨ha,by rw[bV,jQ];lia,vs,_,rv,ha⟩
    ·have z':=(if_neg hb).symm.trans z';cases z'
def Vu (q:bU) (K:aH):Prop:=∀x∈uR,(∃d,(recsOf q).find? (λe=>e.name == x)=some d)\/jN K mainGlobals x=some none
def lamIs {q:bU} {K:aH} (a:(∃d,(recsOf q).find? (λe=>e.name == ("rising":Str))=some d)\/jN K mainGlobals "rising" = some none) (b:(∃d,(recsOf q).find? (λe=>e.name == ("framed_rising":Str))=some d)\/jN K mainGlobals "framed_rising" = some none)
  (c:(∃d,(recsOf q).find? (λe=>e.name == ("laid_triangles":Str))=some d)\/jN K mainGlobals "laid_triangles" = some none):Vu q K:=λx m=>by
 simp only[uR,aN,gH,or_false] at m;rcases m with rfl | rfl | rfl
 ·exact a
 ·exact b
 ·exact c
def aj.okLT {P:bU} {w:dJ} {K:aH} {mg:Str->Option aB} {x:Str} {st:Stmt} {ps:List Str} {k:Nat} {F:FD} (Z:aj K mg x st ps)
  (h:∀(base:Heap) (K':aH) (f:Addr) (fd:lO),kc K K'->VT K' mg base->qc K' x x st f fd->iw P w K' mg base ka k f fd ps (p_ K' F)) :
  ∃f fd,mg x=some (.ref f)/\(∀us:List aB,us.length=ps.length->bindArgs fd ⟨us,[]⟩=pure (ps.zip us))/\∀(base:Heap) (K':aH),kc K K'->K'.In base->base.Ns mainGlobals mg->VT K' mg base->iw P w K' mg base ka k f fd ps (p_ K' F):=by
 obtain⟨f,fd,a,b,c⟩:=Z.ex;exact⟨f,fd,b,c,λbase K' z _ _ tw=>h base K' f fd z tw (z.fn a)⟩
def walk_lawT {l:PySem.W.OpenLaw} {q:bU} {loose:List Str} {XP:(Str->Option aB)->Heap->Prop} {YP:dJ->Heap->Prop} {d:DefRec} {K:Params->aH} {x:Str} {k:Nat}
  (hn:l.most=some 63) (Z6:d.params.defaults=[]) (hr:cj k callerA)
  (hY:∀(w:dJ) (h:Heap),YP w h->(K w.params).In h) (hd:d.name = "law") (hL:∀w:dJ,Vu q (K w.params))
  (F:∀(w:dJ) (mg:Str->Option aB) (h:Heap),(K w.params).In h->h.Ns mainGlobals mg ->
   ∃f fd,mg "law" = some (.ref f)/\(∀us:List aB,us.length=[x].length->bindArgs fd ⟨us,[]⟩=pure ([x].zip us)) /\
    ∀(base:Heap) (K':aH),kc (K w.params) K'->K'.In base->base.Ns mainGlobals mg->VT K' mg base->iw l.prog w K' mg base ka k f fd [x] (p_ K' (Kk 63))) :
  PySem.W.WalkO q loose XP YP l.row.toRowW d [] (λf vs=>PySem.call f vs):=by
 refine Att.attach_call hn Z6 λw s₀ s₁ mg mb fa o pm cd doc a vs ns G Y ho tq fj U4 v9 hints hlen hg=>?_;have KX:=hY w _ Y;rw[hd] at U4;obtain⟨f,fd,hm,hb,hF⟩:=F w mg _ KX G.T.g;rw[U4] at hm;cases hm;refine Li KX G.T.g G.T.b G.T.builtins G.T.nolimit hg v9 hints hlen hr G.T.bmain (λx c T m e=>?_) hF λs u=>.of_eq (hb [u] rfl);rcases hL w x m with ⟨d',hr⟩ | hz
 ·exact PySem.W.tab_of G.T KX hr e
 ·unfold fQ at e;rw[hz] at e;cases e
section
variable {P:bU} {w:dJ} {K:aH} {mg:Str->Option aB} {base:Heap} {x:Str} {st:Stmt} {N ps:List Str} {k:Nat} {F:FD} {t:RS}
theorem aj.mkD (Z:aj K mg x st ps) (pure:∀ds Q,F ds Q->t { nx:=λ_=>Q .non,rt:=Q } (eD N ds))
  (fe:∀{f:Addr} {dm:aB} {A:dD} {outer:List Env} {s:aF} {H:Hp} {E:XK},N.Nodup->cj k (A.deeper (envOfC x (gG st) s.heap.objs.size f dm)) ->
   nk (JM ka P w K mg base N x (gG st) f dm A outer s H E).nox (pB st) t)
  (Sc:e9 N ps (gG st):=by exact⟨rfl,rfl,rfl,by decide +kernel,rfl,by decide +kernel,by decide +kernel⟩) (len:∀ds Q,F ds Q->ds.length=ps.length:=by walk_at "len"):FnAt P w K mg base x ps (k+1) F :=
 Z.ok Sc (λ_ _ _ _ _ _=>fe Sc.nd) len pure
theorem Ye (Fu:qc K x qual st f fd) (len:∀ds Q,F ds Q->ds.length=ps.length) (pure:∀ds Q,F ds Q->t { nx:=λ_=>Q .non,rt:=Q } (eD N ds))
  (fe:∀{dm:aB} {A:dD} {outer:List Env} {s:aF} {H:Hp} {E:XK},N.Nodup->cj k (A.deeper (envOfC qual (gG st) s.heap.objs.size f dm)) ->
   nk (JM ka P w K mg base N qual (gG st) f dm A outer s H E).nox (pB st) t)
  (Sc:e9 N ps (gG st):=by exact⟨rfl,rfl,rfl,by decide +kernel,rfl,by decide +kernel,by decide +kernel⟩):iw P w K mg base ka (k+1) f fd ps (p_ K F) :=
 Wb Fu Sc (λ_ _ _ _ _ _=>fe Sc.nd) len pure
theorem def_mk {kV doc pm dm ct:aB} (X:K.In h) (G:h.Ns mainGlobals mg) (a:jN K mainGlobals x=some (some (.ref f)))
  (l:K.lookup f=some ⟨oc,od,.func (mM x x (zZ st) (pB st) (gG st) .none kV doc pm an dm ct),om⟩) (c:nN K dm x=true) (k:nO K (.ref f)=true)
  (b:∀us:List aB,us.length=ps.length->bindArgs (mM x x (zZ st) (pB st) (gG st) .none kV doc pm an dm ct) ⟨us,[]⟩=pure (ps.zip us)):aj K mg x st ps :=
 ⟨_,_,Xk (st:=st) l c k,UL X G a,b⟩
end
section
variable {X:Cx} {k n:Nat} {ps:List Str} {F:FD} {x:Str} {p pos:Pos} {e:Expr} {es:List Expr} {t:RA}
theorem bT (C:FnAt X.prog X.w X.K X.mg X.base x ps k F) (hr:cj n X.A) (ha:DA X (e::es) t) (hk:k<=n:=by decide) (hg:Gl X x:=by rfl)
  (oa:(x == ("__debug__":Str))=false:=by decide) (he:starEach (e::es) X.env=(false,eval e X.env)::starEach es X.env:=by rfl) (j2:(backTo pos (starEach es X.env)).any (·.1)=false:=by rfl) :
  DE X (.Call (.Name x p) (e::es) [] pos) (cZ F t):=Ol C (hr.mono hk) ha hg oa he j2
theorem bI:DB X (.Constant (.int i) j pos) (rC (.int i)):=DE.bor kY
theorem eb {t:RE} (h:DE X e t):DB X e t:=DE.bor h
end
section
variable {P:bU} {w:dJ} {K:aH} {mg:Str->Option aB} {base:Heap} {x:Str} {st:Stmt} {N ps:List Str} {k:Nat} {F:FD} {t:RS} {lc lt:Addr}
theorem aj.mkC (Z:aj K mg x st ps) (W:qf K mg base x lc lt) (pure:∀ds Q,F ds Q->t { nx:=λ_=>Q .non,rt:=Q } (eD N ds))
  (fe:∀{f:Addr} {dm:aB} {A:dD} {outer:List Env} {s:aF} {H:Hp} {E:XK},N.Nodup->cj k (A.deeper (envOfC x (gG st) s.heap.objs.size f dm))->dm = .ref lc ->
   nk (JM ka P w K mg base N x (gG st) f dm A outer s H E).nox (pB st) t)
  (Sc:e9 N ps (gG st):=by exact⟨rfl,rfl,rfl,by decide +kernel,rfl,by decide +kernel,by decide +kernel⟩) (len:∀ds Q,F ds Q->ds.length=ps.length:=by walk_at "len"):FnAt P w K mg base x ps (k+1) F :=
 Z.okC Sc (λ_ _ _ _ _ _ hc hr=>fe Sc.nd hr (hc _ _ W.tab)) len pure
end
abbrev aj.W {K:aH} {mg:Str->Option aB} {x:Str} {st:Stmt} {ps:List Str} (_:aj K mg x st ps) (P:bU) (w:dJ) (base:Heap) (k:Nat) (F:FD):Prop:=FnAt P w K mg base x ps k F
section
variable {X:Cx} {x:Str} {p q r pos:Pos} {c:Int} {j:Nat}
theorem dc (i:Nat) (hN:X.N[i]? = some x:=by rfl) (hv:nI X.env.scope x:=by walk_at "vis") (hd:(x == ("__debug__":Str))=false:=by decide) (fj:(x == ("__classdict__":Str))=false:=by decide) :
  DE X (.Subscript (.Name x p) (.Constant (.int c) j q) r) (r2 bi (aL i) (rC (.int c))):=kM (ag i hN hv hd fj) bI
theorem aq (i:Nat) (hN:X.N[i]? = some x:=by rfl) (hv:nI X.env.scope x:=by walk_at "vis") (hd:(x == ("__debug__":Str))=false:=by decide) (fj:(x == ("__classdict__":Str))=false:=by decide) :
  DB X (.Subscript (.Name x p) (.Constant (.int c) j q) r) (r2 bi (aL i) (rC (.int c))):=eb (dc i hN hv hd fj)
theorem av (ho:jr X (binaryOp o) f) (ha:DB X a ta) (hb:DB X b tb):DB X (.BinOp a o b pos) (r2 f ta tb):=eb (dP ho ha hb)
theorem c6 (h:DE X e te):nk X [.Return (some e) pos] (gM te):=fN (CQ h)
end
mutual
inductive su (G H:Hp):D->V->Prop
 | non {v:V}:su G H .non v
 | bl {b:Bool} {v:V}:su G H (.bl b) v
 | int {i:Int} {v:V}:su G H (.int i) v
 | str {x:Str} {v:V}:su G H (.str x) v
 | tup {a:Addr} {vs:List V} {ds:List D} (h:H a=some (.tup vs)) (r:sv G H ds vs):su G H (.tup ds) (.ref a)
 | lst {a:Addr} {o:Obj} {vs:List V} {ds:List D} (h:H a=some (.frz o (.lst vs))) (g:G a=none):su G H (.lst ds) (.ref a)
inductive sv (G H:Hp):List D->List V->Prop
 | nil:sv G H [] []
 | cons {d:D} {v:V} {ds:List D} {vs:List V} (h:su G H d v) (t:sv G H ds vs):sv G H (d::ds) (v::vs)
end
inductive rj:D->Prop
 | non:rj .non
 | bl {b:Bool}:rj (.bl b)
 | int {i:Int}:rj (.int i)
 | str {x:Str}:rj (.str x)
 | nil:rj (.tup [])
 | cons {d:D} {ds:List D} (h:rj d) (t:rj (.tup ds)):rj (.tup (d::ds))
def frR (d:D):aH->Hp->Hp->V->Prop:=λ_ H₀ H v=>su H₀ H d v
def D6 (G:Hp) (d:D):aH->Hp->Hp->V->Prop:=λK _ H v=>dk K G d v/\ak G H
def Zo (G:Hp) (d:D):aH->Hp->Hp->V->Prop:=λ_ H₀ H v=>af H₀ G/\su G H d v
def Zh (t:RE):RE:=λa Q=>t a λd=>rj d/\Q d
def rFr (i:Nat):RE:=λa Q=>match a[i]? with
 | some (some (.mem true d R))=>R=frR d/\Q d
 | _=>False
def B5 (i:Nat) (a:En):En:=match a[i]? with
 | some (some (.own ds))=>a.set i (some (.mem true (.lst ds) (frR (.lst ds))))
 | _=>a
def F4 (t u:RS):RS:=λE a=>t { nx:=u E,rt:=E.rt } a
def M5 (G:Hp):Option S->Option S
 | some (.d x)=>some (.mem true x (D6 G x))
 | y=>y
def rSetN (j:Nat) (F:FD) (t:RA):RS:=λE a=>t a λds=>F ds λd=>∀G,E.nx ((a.map (M5 G)).set j (some (.mem true d (Zo G d))))
def rClr (j:Nat) (Pt:D->Prop) (t:RS):RS:=λE a=>∃d b G a',a[j]? = some (some (.mem b d (Zo G d)))/\Pt d/\a'.length=a.length /\
 (∀i x,a'[i]? = some (some x)->(i=j/\x = .mem false d (Zo G d))\/∃y,x = .mem true y (D6 G y)/\a[i]? = some (some x))/\t E a'
def Pth1 (k:Int) (d:D):Prop:=∃ds xs,d = .tup ds/\jm ds k=some (.lst xs)
def Sm:R22:=λx y Q=>match x,y with
 | .lst xs,.lst ys=>xs.length=ys.length/\match jt (fi 8) xs ys with
  | some b=>Q (.bl !b)
  | none=>False
 | _,_=>False
section
def Yh (hr:cj k X.A):jr X (compareOp .NotEq) Sm:=by
 intro pins s Z H x y v u Q I rx ry cf;obtain⟨d,e,P,r1,r2,q,kk⟩:=cf;have hu:=hr.un;unfold Sm at q;split at q
 ·rename_i xs ys;obtain⟨hl,q⟩:=q;split at q
  ·rename_i b h;obtain⟨a,vs,rfl,h1,q1⟩:=r1.lst;obtain⟨c,ws,rfl,h2,q2⟩:=r2.lst;cases rx;cases ry;obtain⟨its,rv,ht,_⟩:=I.list h1;obtain⟨gg,q9,xo,_⟩:=I.list h2;have l1:xs.length=its.length:=q1.length.trans rv.length;have l2:ys.length=gg.length:=q2.length.trans q9.length;have rc:SeqAt.RcNeAt X.A s (.ref a) (.ref c) (!b):=by
    have:=SeqAt.RcNeAt.lists (A:=X.A) (s:=s) (e:=λj=>match xs[j]?,ys[j]? with | some x,some y=>(fi 8 x y).getD false | _,_=>false) ht.isList xo.isList (by simp;lia) (by lia) (λj g1 g2=>?_)
    ·have al:=JV h;simp only[aY,<-l1] at this;rw[<-hl,Nat.min_self,beq_self_eq_true,qJ] at al;rw[<-al];exact this
    ·simp only[aY] at g1 g2;have e1:xs[j]? = some (xs[j]'(by lia)):=aG _;have e2:ys[j]? = some (ys[j]'(by lia)):=aG _;obtain⟨k,hk⟩:=PR h j _ _ e1 e2;rw[e1,e2];simp only[hk,pX];obtain⟨v1,f1,f2⟩:=q1.get e1;obtain⟨v2,f3,f4⟩:=q2.get e2;obtain⟨u1,g3,g4⟩:=rv.get f1;obtain⟨u2,g5,g6⟩:=q9.get f3;have a1:its.toArray[j]=u1:=by
      have:=aG g1;rw[this] at g3;simpa using dU g3
     have a2:gg.toArray[j]=u2:=by
      have:=aG g2;rw[this] at g5;simpa using dU g5
     rw[a1,a2];exact (MM I 8 hk f2 f4 g4 g6 (by show X.A.units+1+8<cLine;lia)).2
   exact rc _ _ _ _ ⟨.bl _,H,I,rfl,kk _ _ H q (af.refl H) (.bl _)⟩
  ·exact q.elim
 ·exact q.elim
end
def L1:R22:=λx y Q=>y = .lst [.int 1,.non]/\match x with
 | .int i=>Q (.bl !decide (i=1))
 | .non=>Q (.bl false)
 | _=>False
structure Row3 (r:List D × Int):Prop where
 rp:r.1[2]? = some (.int r.2)
 sz:Sz r.1.length
def ZZ (te:RE):RA:=λa Q=>te a λx=>∃rs:List (List D × Int),x = .lst (rs.map λr=>D.tup r.1)/\rs.length<64/\(∀r∈rs,Row3 r)/\∀gs:List (List D × Int),gs.Perm rs->gs.Pairwise (λp q=>p.2<=q.2)->Q (gs.map λr=>D.tup r.1)
theorem XM {K:aH} {H:Hp}:∀(l:List ((List D × Int) × aB)),(∀x∈l,∃v,RelV v x.2/\dk K H (.tup x.1.1) v)->∃ws:List V,ao ws (l.map (·.2))/\ah K H (l.map λx=>D.tup x.1.1) ws
 | [],_=>⟨[],.nil,.nil⟩
 | x::l,h=>by
  obtain⟨ws,h1,h2⟩:=XM l λy hy=>h y (aT _ hy);obtain⟨v,r1,r2⟩:=h x cF;exact⟨v::ws,.cons r1 h1,.cons r2 h2⟩
section
variable {X:Cx} {e:Expr} {te:RE} {p pos kp cm:Pos} {x dn:Str} {c T:Addr} {k:Nat} {params:Arguments} {scope:Scope} {p1 p2 p3:Pos} {n1:Nat}
theorem Kx (hr:cj (k+3) X.A) (hms:X.mg "sorted" = none) (W:qf X.K X.mg X.base dn c T) (hdn:dn∈uR) (fj:X.env.code = .ref c) (h:DB X e te)
  (qv:X.env.qual ++ "<lambda>" = AC cm.col) (hgs:Gl X "sorted":=by rfl) (vv:defaultsOf params X.env=([],[]):=by rfl) (o0:∀z∈scope.names,z.2 = .free->∃c,X.env.cells.lookup z.1=some c:=by intro z m e;cases dM.mp m;cases e)
  (hs:starEach [e] X.env=[(false,eval e X.env)]:=by rfl) (hn:starEach [] X.env=[]:=by rfl)
  (m6:∀(q:Str) (body:Expr) (cl:List (Str × Addr)) (pm cd ct v:aB),bindArgs (PySem.W.kla_fn "<lambda>" q params body scope cl pm cd ct) ⟨[v],[]⟩=pure [(x,v)]:=by intro _ _ _ _ _ _ _;rfl)
  (tx:scope.names.lookup x=some .local:=by rfl) (Z5:scope.isCoroutine=false:=by rfl) (vz:scope.isGenerator=false:=by rfl) (hk:scope.kind = .function:=by rfl) (gu:∀z∈scope.names,z.2≠.cell:=by decide)
  (hdx:(x == ("__debug__":Str))=false:=by decide) :
  DO X (.Call (.Name "sorted" p) [e] [⟨some "key",.Lambda params (.Subscript (.Name x p1) (.Constant (.int 2) n1 p2) p3) scope cm,kp⟩] pos) (ZZ te):=by
 intro pins s Y H Q I hh;obtain⟨B,P,so,q,kq⟩:=hh;refine gP (tY I hgs hms boot_sorted ?_);refine callWith_kw (c5 (sI h hs hn pos pins s Y H (λvs H1=>∃(rs:List (List D × Int)) (v:V),vs=[v]/\af H H1/\c8 X.K H1 (.lst (rs.map λr=>D.tup r.1)) v/\rs.length<64/\(∀r∈rs,Row3 r) /\
   ∀gs:List (List D × Int),gs.Perm rs->gs.Pairwise (λp q=>p.2<=q.2)->P (gs.map λr=>D.tup r.1)) I
  ⟨B,_,so,q,λd v H1 hx s1 r1=>?_⟩) λus s1 ⟨vs,H1,I1,r1,q1⟩=>?_) (by rw[hs,hn];rfl) (by rw[hs];rfl)
 ·obtain⟨rs,rfl,e2,e3,e4⟩:=hx;exact⟨rs,v,rfl,s1,r1,e2,e3,e4⟩
 obtain⟨rs,v,rfl,m_,rb,vm,hok,hP⟩:=q1;obtain⟨jj,ju,hcl1,hcl2⟩:=HL o0;refine kws_cons (Pk (so.ext m_) I1 W hdn fj vv ju qv λH2 h2 f c' pw tk I2 wt j3 hf0 y7 Q_ wc=>kws_nil ?_);obtain⟨l,vs,rfl,hq,rr⟩:=(rb.same wt).lst;obtain⟨u,rfl,rx⟩:=vals1 r1;cases rx;obtain⟨its,rv,pl,hz⟩:=I2.list hq;obtain⟨m,hm,hl⟩:=id I2.loc;show wpAny (model X.prog X.w) X.A (call (.builtin "sorted") [.ref l] [(gL "key",.ref f)]) (EP X pins Y Q) X.xe { s1 with heap:=h2,toks:=tk };have lf:=rr.length;have li:=rv.length;rw[bV] at lf;have nL:∀b u,H2 b=some u->b≠X.env.locals:=λb u e z=>by rw[z,I2.free] at e;cases e
 have fL:f≠X.env.locals:=λz=>by
  have h1:X.env.locals<s1.heap.objs.size:=I1.lt;rw[<-z] at h1;exact absurd (bQ h1 y7) (hE _)
 have item:∀(i:Nat) (g:List D × Int) (u:aB),rs[i]? = some g->its[i]? = some u->∃(a:Addr) (ts:List aB) (t:Tok),u = .ref a/\(∃vs,H2 a=some (.tup vs)/\ah X.K H2 g.1 vs)/\IsTup h2 a ts.toArray/\ts.length<=sizeLine/\ts[2]? = some (.int g.2 t):=λi g u eg eu=>by
  obtain⟨v,e1,e2⟩:=rr.get (i:=i) (d:=.tup g.1) (by rw[bK,eg];rfl);obtain⟨u',f1,f2⟩:=rv.get e1;rw[eu] at f1;cases f1;obtain⟨at2,sz⟩:=hok g (eW eg);cases e2 with
  | tup ha ra =>
   cases f2;obtain⟨ts,g1,g2,g3⟩:=I2.tuple (fh.of (K:=X.K) ha);obtain⟨w,w1,w2⟩:=ra.get at2;obtain⟨u2,u3,u4⟩:=g1.get w1;rw[w2.int_inv] at u4;obtain⟨t,rfl⟩:=u4;exact⟨_,ts,t,rfl,⟨_,ha,ra⟩,g2,by rw[<-g1.length,<-ra.length];exact sz.ok,u3⟩
 refine Rl (kz:=rs.map (·.2)) hm pl.isList (by rw[bV];lia) (by lia) j3 ⟨_,Q_⟩ fL (λi v kk hv r9 h3 tk3 V2 ns3=>?_) λD h4 tk4 out c4 kp4 ns4 hD hDo ko=>?_
 ·-- a key
  obtain⟨g,eg,rfl⟩:∃g,rs[i]? = some g/\kk=g.2:=by
   rw[bK] at r9;cases e:rs[i]? with
   | none=>rw[e] at r9;cases r9
   | some g=>rw[e] at r9;cases r9;exact⟨g,rfl,rfl⟩
  obtain⟨a,ts,t,rfl,⟨vs,ha,_⟩,tup,tz,t2⟩:=item i g v eg hv;refine Pj (x:=x) (s:={ s1 with heap:=h3,toks:=tk3 }) hr.in1.in1.depth (V2 f _ fL Q_) ?_ (I2.ok.mod.nolimit.keeps λb o e=>V2 b o (bE (bQ (aP e) (fK I2.ok.bsz I2.ok.above))) (I2.bk b o e)) (m6 _ _ _ _ _ _ _) tx Z5 vz hk gu λh5 tk5 ns5 kp5=>?_
  ·obtain⟨c2,oc,vs2,t2,e2,r_,hd2,hv2⟩:=wc;exact⟨c2,oc,vs2,t2,e2,V2 c2 oc (λz=>by
    obtain⟨o',es,ep,e',d',_⟩:=hm;rw[<-z] at e';rw[r_] at e';cases e';rw[hd2] at d';cases d') r_,hd2,hv2⟩
  ·have body:QE X.prog X.w (X.A.in1.in1.deeper (zT (AC cm.col) scope h3.objs.size f (.ref c') jj)) (zT (AC cm.col) scope h3.objs.size f (.ref c') jj) h5 (.Subscript (.Name x p1) (.Constant (.int 2) n1 p2) p3) (· = .int g.2 t):=by
    have tup5:IsTup h5 a ts.toArray:=by
     obtain⟨o,e1,e2⟩:=tup;exact⟨o,kp5 a o (V2 a o (nL a _ ha) e1),e2⟩
    have nx:∀{pz:Pos},QE X.prog X.w (X.A.in1.in1.deeper (zT (AC cm.col) scope h3.objs.size f (.ref c') jj)) (zT (AC cm.col) scope h3.objs.size f (.ref c') jj) h5 (.Name x pz) (· = .ref a):=E9 hk tx ns5 (by simp) hdx;exact M6 (n:=2) nx E8 tup5 tz t2 λ_ _=>rfl
   refine body _ _ rfl λu tk6 hu=>?_;subst hu;exact⟨h5,tk6,t,rfl,rfl,kp5⟩
 ·-- what is told
  obtain⟨ps,pp,eo,srt⟩:=ko;have ez:(rs.map (·.2)).zip its=(rs.zip its).map λz=>(z.1.2,z.2):=by
   rw[List.zip_map_left];rfl
  obtain⟨l3,p3,e3⟩:=OA pp (rs.zip its) ez;have pf:(l3.map (·.1)).Perm rs:=by
   have:=p3.map (·.1);rw[List.map_fst_zip (by lia)] at this;exact this
  have so':(l3.map (·.1)).Pairwise (λp q=>p.2<=q.2):=by
   rw[e3] at srt;rw[kO] at srt ⊢;exact srt.imp λ{a b} h=>by simpa using h
  have X_:out.toList=l3.map (·.2):=by rw[eo,e3,cM];rfl
  have mem:∀z∈l3,∃v,RelV v z.2/\dk X.K H2 (.tup z.1.1) v:=λz hz=>by
   obtain⟨i,hi,ei⟩:=eT (p3.mem_iff.mp hz);have i_:i<rs.length/\i<its.length:=(by rw[ON] at hi;lia);rw[List.getElem_zip] at ei;obtain⟨a,ts,t,e1,⟨vs,ha,ra⟩,_⟩:=item i rs[i] its[i] (aG i_.1) (aG i_.2);refine⟨.ref a,?_,?_⟩
   ·rw[<-ei];exact e1
   ·rw[<-ei];exact .tup ha ra
  obtain⟨ws,V1,R1⟩:=XM l3 mem;have I4:Inv X pins Y H2 { s1 with heap:=h4,toks:=tk4 }:=I2.frame hm ns4 kp4;have hD0:H2 D=none:=I2.hok.fresh hD;have lw:=V1.length;have l3l:l3.length=rs.length:=by have:=pf.length_eq;simpa using this
  have I5:=I2.trackO (a:=D) (w:=.lst ws) I4 hD hD0 ⟨by rw[jQ];simp at lw;lia,out.toList,c4,by rw[X_];exact V1,by simpa using hDo⟩;exact⟨.ref D,_,I5,rfl,kq _ _ _ H2 (by have:=hP _ pf so';rw[cM] at this;exact this) (m_.trans wt) hD0 R1⟩
end
section
variable {prog:bU} {w:dJ} {A:dD} {E:aB->aF->Prop} {s:aF} {dv:aB}
theorem Gg {I l S:Addr} {items:Array aB} {bt:Nat->Nat->Bool} {G:Heap->Prop} {R:Result->aF->Prop} {os0:aF} (hh:A.handled=none) (hl:l≠I) (tj:S≠I) (Y8:S≠l)
  (cmp:∀(i j:Nat) (u v:aB) (s:aF) (Q:aB->aF->Prop) (E:aB->aF->Prop),items[i]? = some u->items[j]? = some v->G s.heap->Q (.bool (bt i j)) s->wpAny (model prog w) A.in1 (richCompare .Gt u v) Q E s)
  (gs:∀h h',G h->(∀b o,b≠I->b≠S->h.get? b=some o->h'.get? b=some o)->G h') :
  ∀(k j:Nat) (s:aF) (vb:aB) (c:Nat),items.size-(j+1)=k->j+1<=items.size->s.heap.IsListIter I l (j+1)->s.heap.IsList l items->items[argBest bt j]? = some vb->G s.heap ->
   s.heap.get? S=some { cls:=.type "list",dict:=none,data:=.seq #[vb,vb] c,slots:=#[] } ->
   (∀v h' tk,items[argBest bt (items.size-1)]? = some v->(∀b o,b≠I->b≠S->s.heap.get? b=some o->h'.get? b=some o)->R (.ok (.ret v)) { s with heap:=h',toks:=tk }) ->
   codeAny (model prog w) A (.builtin "max.loop" ⟨[.ref I,.none,.ref S],[(gL "default",dv)]⟩) R s:=by
 have nm:(toString "max" ++ toString ".loop":String) = "max.loop":=by decide
 have W:=HI (prog:=prog) (w:=w) (A:=A.in1) hh I l hl items;have wr:∀{b:Addr},b≠I->b ∉ [I]:=λh=>by simpa using h
 intro k
 induction k with
 | zero =>
  intro j s vb c hk hj hi hL hb hG hS q;refine gI F.entry_max_loop ?_;rw[fE F.plain_max_loop _];show wpAny _ A.in1 (seqItems? (.ref S) >>= _) _ _ s;apply aA;apply fD hS rfl;show wpAny _ A.in1 (tryCatch (pyNext (.ref I)) _ >>= _) _ _ s;apply aA;apply lX;refine W.done s _ _ (by rw[show items.size=j+1 by lia];exact⟨hi,hL⟩) λh' tk kp=>?_;have i9:=kp S _ (wr tj) hS;show wpAny _ A.in1 (updateSeq S (λ_=>#[]) >>= _) _ _ _;apply aA;refine gJ i9 rfl ?_;apply aA;apply jR;apply aJ;exact q vb _ tk (by rw[show items.size-1=j by lia];exact hb) λb o b1 b2 e=>(cD _ _ (Ne.symm b2)).trans (kp b o (wr b1) e)
 | succ k ih =>
  intro j s vb c hk hj hi hL hb hG hS q;refine gI F.entry_max_loop ?_;rw[fE F.plain_max_loop _];show wpAny _ A.in1 (seqItems? (.ref S) >>= _) _ _ s;apply aA;apply fD hS rfl;show wpAny _ A.in1 (tryCatch (pyNext (.ref I)) _ >>= _) _ _ s;apply aA;apply lX;refine W.item (j+1) s _ _ (by lia) ⟨hi,hL⟩ λv h' tk hv fb kp=>?_;have i9:=kp S _ (wr tj) hS;have vn:G h':=gs _ _ hG λb o b1 _ e=>kp b o (wr b1) e;show wpAny _ A.in1 (tryCatch (holding [v,v] (richCompare .Gt v vb >>= _)) _ >>= _) _ _ _;apply aA;apply lX;apply fG;apply aA;refine cmp (j+1) (argBest bt j) v vb _ _ _ hv hb vn ?_;apply aA;apply fG;apply mS;apply aA;apply jR;apply aJ;cases yx:bt (j+1) (argBest bt j) with
  | true =>
   simp only[if_true];apply aA;refine gJ i9 rfl ?_;apply aA;apply jR;rw[nm];apply aJ;have up:∀b o,b≠S->h'.get? b=some o->(h'.update S (cX λ_=>#[v,v])).get? b=some o:=λb o b2 e=>(cD _ _ (Ne.symm b2)).trans e;refine⟨gW F.plain_max_loop _,ih (j+1) _ v _ (by lia) (by lia) (fb.1.at λo e=>up _ o tj.symm e) (fb.2.at λo e=>up _ o Y8.symm e) (by simp only[argBest,yx,if_true];exact hv) (gs _ _ vn λb o _ b2 e=>up b o b2 e) (dL _ i9 rfl) λv' qq j8 e kk=>?_⟩;exact q v' qq j8 e λb o b1 b2 e=>kk b o b1 b2 (up b o b2 (kp b o (wr b1) e))
  | false =>
   simp only[aO,if_false];apply aA;apply jR;rw[nm];apply aJ;refine⟨gW F.plain_max_loop _,ih (j+1) _ vb c (by lia) (by lia) fb.1 fb.2 (by simp only[argBest,yx,aO,if_false];exact hb) vn i9 λv' qq j8 e kk=>?_⟩;exact q v' qq j8 e λb o b1 b2 e=>kk b o b1 b2 (kp b o (wr b1) e)
theorem Fg {l:Addr} {items:Array aB} {bt:Nat->Nat->Bool} {G:Heap->Prop} {Q:aB->aF->Prop} (hh:A.handled=none) (hL:s.heap.IsList l items) (fx:0<items.size)
  (cmp:∀(i j:Nat) (u v:aB) (s:aF) (Q:aB->aF->Prop) (E:aB->aF->Prop),items[i]? = some u->items[j]? = some v->G s.heap->Q (.bool (bt i j)) s->wpAny (model prog w) A.in1 (richCompare .Gt u v) Q E s)
  (gs:∀h',(∀b o,s.heap.get? b=some o->h'.get? b=some o)->G h') (q:∀v h' tk,items[argBest bt (items.size-1)]? = some v->(∀b o,s.heap.get? b=some o->h'.get? b=some o)->Q v { s with heap:=h',toks:=tk }) :
  wpAny (model prog w) A (call (.builtin "max") [.ref l] [(gL "default",dv)]) Q E s:=by
 have nm:(toString "max" ++ toString ".loop":String) = "max.loop":=by decide
 have lt:l<s.heap.objs.size:=by obtain⟨_,e,_⟩:=hL;exact aP e
 refine ID (CJ F.plain_max F.entry_max (nU (show checkBuiltinCall "max" ⟨[.ref l],[(gL "default",dv)]⟩=pure () from rfl) ?_));show wpAny _ A.in1 (lG "max" ["key","default"] 0 ⟨[],[(gL "default",dv)]⟩ >>= _) _ _ s;apply aA;refine nU (show lG "max" ["key","default"] 0 ⟨[],[(gL "default",dv)]⟩=pure [none,some dv] from rfl) ?_;apply aA;apply aJ;apply aA;refine jO hL ?_;apply aA;refine fP ?_;rw[nm];apply aJ;have sz1:(s.heap.push (vY "list_iterator" l)).objs.size=s.heap.objs.size+1:=gA ..;generalize hp:s.heap.push (vY "list_iterator" l)=h1 at sz1;have hI:h1.IsListIter s.heap.objs.size l 0:=by rw[<-hp];exact⟨_,bF _ rfl,rfl,rfl⟩
 have k1:∀b o,s.heap.get? b=some o->h1.get? b=some o:=λb o e=>by rw[<-hp];exact aK _ e
 refine⟨gW F.plain_max_loop _,?_⟩;show codeAny _ A (.builtin "max.loop" ⟨[.ref s.heap.objs.size,.none,.ref h1.objs.size],[(gL "default",dv)]⟩) _ { s with heap:=h1.push { cls:=.type "list",dict:=none,data:=.seq ([]:List aB).toArray } };rw[sz1];have hS:(h1.push { cls:=.type "list",dict:=none,data:=.seq ([]:List aB).toArray }).get? (s.heap.objs.size+1)=some { cls:=.type "list",dict:=none,data:=.seq #[] 0,slots:=#[] }:=by rw[<-sz1];exact bF _ rfl
 have k2:∀b o,h1.get? b=some o->(h1.push { cls:=.type "list",dict:=none,data:=.seq ([]:List aB).toArray }).get? b=some o:=λb o e=>aK _ e;generalize h1.push { cls:=.type "list",dict:=none,data:=.seq ([]:List aB).toArray } = h2 at hS k2;have j5:∀{b:Addr} {o:Obj},s.heap.get? b=some o->b≠s.heap.objs.size/\b≠s.heap.objs.size+1:=λe=>⟨bE (aP e),bE (gU (aP e))⟩;have W:=HI (prog:=prog) (w:=w) (A:=A.in1) hh s.heap.objs.size l (bE lt) items;refine gI F.entry_max_loop ?_;rw[fE F.plain_max_loop _];show wpAny _ A.in1 (seqItems? (.ref (s.heap.objs.size+1)) >>= _) _ _ _;apply aA;apply fD hS rfl;show wpAny _ A.in1 (tryCatch (pyNext (.ref s.heap.objs.size)) _ >>= _) _ _ _;have OK:h2.IsList l items:=hL.at λo e=>k2 _ o (k1 _ o e);apply aA;apply lX;refine W.item 0 _ _ _ fx ⟨hI.at λo e=>k2 _ o e,OK⟩ λv h' tk hv fb kp=>?_;have wr:∀{b:Addr},b≠s.heap.objs.size->b ∉ [s.heap.objs.size]:=λh=>by simpa using h
 have i9:=kp (s.heap.objs.size+1) _ (wr (nM _)) hS;show wpAny _ A.in1 (updateSeq (s.heap.objs.size+1) (λ_=>#[v,v]) >>= _) _ _ _;apply aA;refine gJ i9 rfl ?_;rw[nm];apply aJ;have up:∀b o,b≠s.heap.objs.size+1->h'.get? b=some o->(h'.update (s.heap.objs.size+1) (cX λ_=>#[v,v])).get? b=some o:=λb o b2 e=>(cD _ _ (Ne.symm b2)).trans e;have old:∀b o,s.heap.get? b=some o->(h'.update (s.heap.objs.size+1) (cX λ_=>#[v,v])).get? b=some o:=λb o e=>up b o (j5 e).2 (kp b o (wr (j5 e).1) (k2 b o (k1 b o e)));have vo:=dL (cX λ_=>#[v,v]) i9 rfl;refine⟨gW F.plain_max_loop _,?_⟩;refine Gg (A:=A) (G:=λh=>∀b o,s.heap.get? b=some o->h.get? b=some o) (bt:=bt) (items:=items) (I:=s.heap.objs.size) (l:=l) (S:=s.heap.objs.size+1) (os0:=s) hh (bE lt) (nM _) (dZ (gU lt)) (λi j u v s' Q' E' e1 e2 g c=>cmp i j u v s' Q' E' e1 e2 (gs _ g) c)
  (λh3 h4 g kk b o e=>kk b o (j5 e).1 (j5 e).2 (g b o e)) (items.size-1) 0 _ v _ (by lia) (by lia) (fb.1.at λo e=>up _ o (bE (nK _)) e) (fb.2.at λo e=>up _ o (bE (gU lt)) e) (by simpa [argBest] using hv) old vo λv' qq j8 e kk=>?_
 exact q v' qq j8 e λb o e=>kk b o (j5 e).1 (j5 e).2 (old b o e)
end
section
variable {X:Cx} {e:Expr} {te:RE} {p pos kp p2:Pos} {k:Int} {n1:Nat}
theorem So (hm:X.mg "max" = none) (hc:X.calm=true) (h:DB X e te) (hg:Gl X "max":=by rfl) (hs:starEach [e] X.env=[(false,eval e X.env)]:=by rfl) (hn:starEach [] X.env=[]:=by rfl) :
  DE X (.Call (.Name "max" p) [e] [⟨some "default",.Constant (.int k) n1 p2,kp⟩] pos) (r1 JQ te):=by
 intro pins s Z H Q I hh;obtain⟨b,P,so,q,kq⟩:=hh;refine gP (tY I hg hm boot_max ?_);refine callWith_kw (c5 (sI h hs hn pos pins s Z H (λvs H1=>∃(ns:List Int) (v:V),vs=[v]/\af H H1/\c8 X.K H1 (.lst (ns.map D.int)) v/\ns≠[]/\∀M,M∈ns->(∀a∈ns,a<=M)->P (.int M)) I
  ⟨b,_,so,q,λd v H1 hx s1 r1=>?_⟩) λus s1 ⟨vs,H1,I1,r1,q1⟩=>?_) (by rw[hs,hn];rfl) (by rw[hs];rfl)
 ·unfold JQ at hx;split at hx
  ·obtain⟨ns,rfl,fx,hx⟩:=hx;exact⟨ns,v,rfl,s1,r1,fx,hx⟩
  ·exact hx.elim
 obtain⟨ns,v,rfl,m_,rb,fx,hP⟩:=q1;refine kws_cons (wE ?_);refine kws_nil ?_;obtain⟨l,vs,rfl,hq,rr⟩:=rb.lst;obtain⟨u,rfl,rx⟩:=vals1 r1;cases rx;rw[ah.ints_inv rr] at hq;have I2:=I1.tok (s1.toks+1);obtain⟨its,r',pl,hz⟩:=I2.list hq;obtain⟨ys,h1,h2⟩:=wW r';rw[h1] at pl;have hl:ys.length=ns.length:=by rw[<-h2];simp
 have hp:0<ns.length:=lD.mpr fx;show wpAny _ _ (call (.builtin "max") [.ref l] [(gL "default",.int k s1.toks)]) _ _ _;have sz:(intItems ys.toArray).size=ns.length:=by simp[intItems,hl]
 refine Fg (bt:=λi j=>decide (numAt ys.toArray i > numAt ys.toArray j)) (G:=λ_=>True) (I1.ok.hd hc) pl.isList (by rw[sz];exact hp) (λi j u v s Q E e1 e2 _ q=>CmpOf.ints_gt (P:=λi v=>(intItems ys.toArray)[i]? = some v) (numAt ys.toArray) (λi v h=>CT h) i j u v s Q E e1 e2 q) (λ_ _=>trivial) λv h' tk hv hk=>?_;rw[sz] at hv;obtain⟨t,rfl⟩:=CT hv;obtain⟨g1,g2⟩:=argBest_gt (numAt ys.toArray) (ns.length-1);have g3:argBest (λi j=>decide (numAt ys.toArray i > numAt ys.toArray j)) (ns.length-1)<ns.length:=by lia
 refine⟨.int _,H1,I2.kept hk,⟨t,rfl⟩,kq _ _ H1 (hP _ ?_ λa ha=>?_) m_ (.int _)⟩
 ·rw[vA h2 g3];exact nG g3
 ·obtain⟨j,hj,rfl⟩:=eT ha;rw[<-vA h2 hj];exact g2 j (by lia)
end
def Uq (i:Nat) (tk:RE):RE:=λa Q=>match a[i]? with
 | some (some (.box false en))=>tk a λkd=>match kd with
  | .int k=>∃(j:Nat) (ds:List D),(k=(j:Int)/\en[j]? = some ds)/\Q (.lst ds)
  | _=>False
 | _=>False
section
variable {X:Cx} {k:Expr} {tk:RE} {x:Str} {cp fk:Pos}
theorem Xc (i:Nat) (hk:DE X k tk) (hN:X.N[i]? = some x:=by rfl) (hv:nI X.env.scope x:=by walk_at "vis") (hd:(x == ("__debug__":Str))=false:=by decide) (fj:(x == ("__classdict__":Str))=false:=by decide)
  (hpi:JC k:=by intro _ _;rfl):DB X (.Subscript (.Name x cp) k fk) (Uq i tk) :=
 PE.mono (Qh ZE (pv (pos:=cp) i hN hv hd fj) hk hpi) λZ H Q ⟨c,P,so,q,kk⟩=>by
  unfold Uq at q;split at q
  ·rename_i en ex;obtain⟨v,h1,a,cn,as,ev,ha,h0,na,t⟩:=so.rel i _ ex;subst ev;refine⟨.ref a,h1,c,_,so,q,λkd kv H1 za s1 rk=>?_⟩;cases kd with
   | int k =>
    obtain⟨j,ds,⟨ej,hj⟩,q1⟩:=za;subst ej;rw[rk.int_inv];have t1:jn X.K X.H₀ H1 (en.map λx=>(0,x)) cn as:=t.same s1;obtain⟨b,vs,eb,hb,rb,_⟩:=t1.ix (YH hj);exact⟨a,as.map V.ref,j,.ref b,rfl,rfl,ij.of (s1.get _ _ ha trivial),EL (by rw[bK,eb];rfl),kk _ _ H1 q1 s1 (.inr ⟨ds,b,vs,rfl,rfl,hb,rb⟩)⟩
   | _=>exact za.elim
  ·exact q.elim
end
abbrev am (i:Int):RE:=rC (.int i)
abbrev ai (i:Nat) (k:Int):RE:=r2 bi (aL i) (rC (.int k))
abbrev aa (d:D):Option S:=some (.d d)
def pQ:RS :=
 dE (fC 4 (r2 pI (aL 2) (aL 3)))
 (dE (fC 2 (cG 3))
 (fC 3 (cG 4)))
def xE:RS :=
 dE (fC 2 (rCB UT (aD (cG 0) aZ)))
 (dE (fC 3 (rCB UT (aD (cG 1) aZ)))
 (dE (DN (dS (r2 (pY true) (aL 3) (am 0))) pQ)
 (gM (cG 2))))
def Dv (aw:FD):RS :=
 dE (lJ (dS (r2 (pY false) (aL 1) (am 0))) ((λ_ _=>False)) iM)
 (dE (fC 2 (cZ aw (aD (cG 0) (aD (cG 1) aZ))))
 (dE (lJ (dS (r2 (mE λi j=>decide (i<j)) (aL 1) (am 0))) (fC 2 (r1 zX (aL 2))) iM)
 (gM (mR (aD (r2 lT (aL 0) (aL 2)) (aD (r2 lT (aL 1) (aL 2)) aZ))))))
def GE:RS :=
 gM (OC (r1 (MI "int") (cG 0)) (Qx (r1 (MI "bool") (cG 0))))
def Ju (IM:FD):RS :=
 gM (cZ IM (aD (r2 lM (r2 fO (ai 0 0) (ai 1 1)) (r2 fO (ai 1 0) (ai 0 1))) (aD (r2 fO (ai 0 1) (ai 1 1)) aZ)))
def rB:RS :=
 Zi 0 1 (aD (cG 1) (aD (r2 pI (aL 0) (aL 1)) aZ))
def AU:RS :=
 dE (fC 0 (rCB UT (aD (cG 0) aZ)))
 (dE (fC 1 (rCB UT (aD (cG 1) aZ)))
 (dE (DN (dS (r2 (mE λi j=>decide (j<i)) (aL 1) (am 0))) rB)
 (gM (cG 0))))
def XL:RS :=
 gM (mR (aD (r2 fO (aL 0) (ai 1 0)) (aD (ai 1 1) aZ)))
def Rb (LN:FD) (qK:FD):RS :=
 dE (fC 2 (ai 0 0))
 (gM (mR (aD (cZ LN (aD (cZ qK (aD (cG 2) (aD (ai 1 0) aZ))) (aD (ai 0 1) aZ))) (aD (cZ LN (aD (cZ qK (aD (cG 2) (aD (ai 1 1) aZ))) (aD (ai 0 2) aZ))) aZ))))
def XF (Al:FD):RS :=
 dE (fC 2 (cZ Al (aD (cG 1) (aD (mR (aD (ai 0 1) (aD (ai 0 2) aZ))) aZ))))
 (gM (mR (aD (r2 fO (ai 0 0) (ai 1 0)) (aD (ai 2 0) (aD (ai 2 1) aZ)))))
def OH (qK:FD):RS :=
 dE (fC 1 (ai 0 0))
 (gM (mR (aD (cG 1) (aD (cZ qK (aD (r1 zX (aL 1)) (aD (ai 0 1) aZ))) (aD (cZ qK (aD (r1 zX (aL 1)) (aD (ai 0 2) aZ))) aZ)))))
def wB (aw:FD):RS :=
 gM (r2 fO (aL 0) (r2 lT (aL 1) (cZ aw (aD (cG 0) (aD (cG 1) aZ)))))
def Jv:RS :=
 dE (fC 3 (r2 fO (r2 nR (ai 1 0) (ai 0 0)) (r2 nR (ai 2 1) (ai 0 1))))
 (dE (fC 4 (r2 fO (r2 nR (ai 1 1) (ai 0 1)) (r2 nR (ai 2 0) (ai 0 0))))
 (gM (r2 nR (aL 3) (aL 4))))
def qB:RS :=
 Jr 1
def yX (zD:FD):RS :=
 dE (DN (xQ (dS (r2 (mE λi j=>decide (j<i)) (r1 qZ (aL 1)) (am 1))) (dS (r2 (mE λi j=>decide (i<=j)) (cZ zD (aD (r2 bi (aL 1) (r1 zX (am 2))) (aD (r2 bi (aL 1) (r1 zX (am 1))) (aD (cG 2) aZ)))) (am 0)))) qB)
 (yR 1 (cG 2))
def GF (zD:FD):RS :=
 dE (nS 1 (sJ aZ))
 (dE (oD (riL (cG 0)) (dC 2) (yX zD))
 (gM (ZY (aL 1) sK (DM (r1 zX (am 1))))))
def rD:RS :=
 dE (fC 4 (am 0))
 (dE (lJ (dS (r2 (mE λi j=>decide (j<i)) (r1 qZ (aL 0)) (am 0))) (fC 4 (r2 pI (r2 bi (aL 0) (r2 pI (aL 3) (rCB WL (aD (r1 qZ (aL 0)) (aD (am 63) aZ))))) (r2 lM (r2 RJ (am 10) (am 60)) (am 7)))) iM)
 (dE (fC 5 (r2 pI (aL 3) (aL 1)))
 (TK 2 (r2 pI (r2 lM (r2 lM (r2 fO (r2 bi (aL 2) (aL 5)) (am 48271)) (aL 4)) (r2 fO (aL 3) (aL 3))) (r2 lM (r2 RJ (am 10) (am 60)) (am 7))) (cG 5))))
def AV:RS :=
 dE (nS 2 (pP (PM (aD (cG 1) aZ)) 1 [] (dC 0) (am 0)))
 (dE (oD (PM (aD (rCB Bh (aD (cG 1) (aD (rCB WL (aD (r1 qZ (aL 0)) (aD (am 63) aZ))) aZ))) aZ)) (dC 3) rD)
 ((λE a=>(gM (cG 2)) E (yL 2 a))))
def yT (Q9:FD):RS :=
 dE (fC 2 (cZ Q9 (aD (cG 0) (aD (cG 1) aZ))))
 (gM (mR (aD (r2 lT (aL 0) (aL 2)) (aD (r2 lT (aL 1) (aL 2)) aZ))))
def AW:RS :=
 gM (r2 bi ((λa Q=>(sJ (aD (am 1) (aD (r2 lM (am 1) (r2 pI (r2 lT (aL 0) (am 3)) (am 12))) (aD (r2 lM (am 1) (r2 pI (r2 lT (aL 0) (am 3)) (r2 RJ (am 10) (am 9)))) aZ)))) a λds=>Q (.lst ds))) (r2 pI (aL 0) (am 3)))
def DR (Q9:FD):RS :=
 fC 2 (cZ Q9 (aD (cZ Q9 (aD (cG 2) (aD (cG 3) aZ))) (aD (cG 4) aZ)))
def OE (Q9:FD):RS :=
 dE (fC 2 (cG 0))
 (dE (oD (riL (cG 1)) (oM 2 (fX (dC 3) (fX (dC 4) oK))) (DR Q9))
 (dE (nS 5 (pP (riL (cG 1)) 2 [2] (oM 2 (fX (dC 0) (fX (dC 1) oK))) (mR (aD (r2 lT (aL 0) (aL 2)) (aD (r2 lT (aL 1) (aL 2)) aZ)))))
 (dE (fC 6 (Hb (aL 5) (r1 Ik (aL 5))))
 (gM (mR (aD (r2 lT (aL 0) (aL 2)) (aD (r1 RK (r2 CL (ZY (aL 5) (DM (cG 6)) sK) (ZY (aL 5) sK (DM (cG 6))))) aZ)))))))
def GJ:RS :=
 gM ((λa Q=>(Hc (aL 0) (r2 CL (ZY (aL 0) (DM (am 1)) sK) (ZY (aL 0) sK (DM (am 1))))) a λds=>Q (.lst ds)))
def XH:RS :=
 gM (r2 nR (r2 lM (r2 fO (ai 0 0) (ai 1 0)) (r2 fO (ai 0 1) (ai 1 1))) (r2 fO (ai 0 2) (aL 2)))
def zA:RS :=
 dE (fC 5 (r2 nR (r2 bi (aL 4) (rC (.int 0))) (r2 bi (aL 3) (rC (.int 0)))))
 (dE (fC 6 (r2 nR (r2 bi (aL 4) (rC (.int 1))) (r2 bi (aL 3) (rC (.int 1)))))
 (yR 2 (mR (aD (r2 fO (aL 1) (aL 6)) (aD (r2 fO (r1 zX (aL 1)) (aL 5)) (aD (r2 nR (r2 fO (aL 6) (r2 bi (aL 3) (rC (.int 0)))) (r2 fO (aL 5) (r2 bi (aL 3) (rC (.int 1))))) aZ))))))
def GM (gh:FD):RS :=
 dE (fC 1 (r2 bi (aL 0) (rC (.int 0))))
 (dE (nS 2 (sJ aZ))
 (dE (oD (riL (cZ gh (aD (r2 bi (aL 0) (rC (.int 1))) aZ))) (oM 2 (fX (dC 3) (fX (dC 4) oK))) zA)
 ((λE a=>(gM (cG 2)) E (yL 2 a)))))
def TQ (jc:FD):RS :=
 dE (fC 1 ((λa Q=>(TL (aL 0)) a λds=>Q (.lst ds))))
 (gM (r2 CL (cZ jc (aD (cG 1) aZ)) (cZ jc (aD ((λa Q=>(TJ (aL 1)) a λds=>Q (.lst ds))) aZ))))
def GK (aw:FD):RS :=
 fC 3 (cZ aw (aD (cZ aw (aD (cG 3) (aD (cG 4) aZ))) (aD (cG 5) aZ)))
def TR (xZ:FD) (aw:FD):RS :=
 dE (fC 2 (cZ xZ (aD (cG 1) aZ)))
 (dE (lJ (dS (r2 (mE λi j=>decide (i<j)) (r1 qZ (aL 2)) (am 3))) (gM (rC .non)) iM)
 (dE (fC 3 (cG 0))
 (dE (oD (riL (cG 2)) (oM 2 (fX (dC 4) (fX (dC 5) oK))) (GK aw))
 (gM (mR (aD (r2 lT (aL 0) (aL 3)) (aD (r1 RK ((λa Q=>(pP (riL (cG 2)) 2 [3] (oM 2 (fX (dC 0) (fX (dC 1) oK))) (mR (aD (r2 lT (aL 0) (aL 2)) (aD (r2 lT (aL 1) (aL 2)) aZ)))) a λds=>Q (.lst ds)))) aZ)))))))
def OG:RS :=
 dE (fC 4 (rCB UT (aD (cG 1) aZ)))
 (dE (fC 5 (rCB UT (aD (cG 3) aZ)))
 (gM (mR (aD (r2 lM (r2 fO (ai 0 0) (aL 5)) (r2 fO (ai 2 0) (aL 4))) (aD (r2 lM (r2 fO (ai 0 1) (aL 5)) (r2 fO (ai 2 1) (aL 4))) (aD (r2 lM (aL 4) (aL 5)) aZ))))))
def uK (iq:FD):RS :=
 dE (lJ (dS (r2 (mE λi j=>decide (i<=j)) (ai 3 1) (am 0))) (yR 2 (mR (aD (r2 bi (ai 3 0) (am 0)) (aD (r2 bi (ai 3 0) (am 1)) (aD (am 1) aZ))))) iM)
 (lJ (dS (r2 (mE λi j=>decide (i<j)) (r2 fO (ai 3 1) (ai 4 1)) (am 0))) (yR 2 (cZ iq (aD (ai 3 0) (aD (ai 3 1) (aD (ai 4 0) (aD (ai 4 1) aZ)))))) iM)
def yZ (iq:FD) (gh:FD):RS :=
 dE (nS 2 (sJ aZ))
 (dE (oD (riL (cZ gh (aD ((λa Q=>(Hc (aL 0) (aL 1)) a λds=>Q (.lst ds))) aZ))) (oM 2 (fX (dC 3) (fX (dC 4) oK))) (uK iq))
 ((λE a=>(gM (cG 2)) E (yL 2 a))))
def xD:RS :=
 fC 5 (r2 fO (aL 5) (ai 6 2))
def DZ (BR:FD) (jo:FD) (rF:FD):RS :=
 dE (fC 2 (ai 0 0))
 (dE (nS 3 (pP (riT (ai 0 1)) 1 [1,2] (dC 0) (cZ BR (aD (cG 1) (aD (cG 0) (aD (cG 2) aZ))))))
 (dE (lJ (dS (r2 (mE λi j=>decide (i<=j)) (r1 JQ (aL 3)) (am 0))) (gM (cG 0)) iM)
 (dE (lJ (dS (r2 (mE λi j=>decide (j<=i)) (r1 WM (aL 3)) (am 0))) (gM (rC .non)) iM)
 (dE ((λE a=>(fC 4 (cZ jo (aD (ai 0 1) (aD (cG 3) aZ)))) E (yL 3 a)))
 (dE (fC 5 (am 1))
 (dE (oD (riL (cG 4)) (dC 6) xD)
 (dE (nS 7 (pP (riL (cG 4)) 3 [5] (oM 3 (fX (dC 0) (fX (dC 1) (fX (dC 2) oK)))) (mR (aD (r2 fO (aL 0) (r2 lT (aL 3) (aL 2))) (aD (r2 fO (aL 1) (r2 lT (aL 3) (aL 2))) aZ)))))
 ((λE a=>(gM (cZ rF (aD (r2 fO (aL 2) (aL 5)) (aD (cG 7) aZ)))) E (yL 7 a))))))))))
def xB:RS :=
 dE (fC 6 (r2 bi (aL 3) (r2 nR (aL 5) (am 1))))
 (dE (fC 7 (r2 nR (r2 fO (ai 1 0) (aL 2)) (r2 fO (ai 6 0) (ai 1 2))))
 (dE (fC 8 (r2 nR (r2 fO (ai 1 1) (aL 2)) (r2 fO (ai 6 1) (ai 1 2))))
 (dE (fC 9 (r2 nR (r2 fO (r2 nR (r2 bi (r2 bi (aL 3) (aL 5)) (am 0)) (ai 6 0)) (aL 8)) (r2 fO (r2 nR (r2 bi (r2 bi (aL 3) (aL 5)) (am 1)) (ai 6 1)) (aL 7))))
 (lJ (rOr (dS (r2 (HP false) (aL 4) (rC .non))) (dS (r2 (mE λi j=>decide (i<j)) (aL 9) (aL 4)))) (fC 4 (cG 9)) iM))))
def DV:RS :=
 dE (Qu (cG 0) (oM 2 (fX (dC 2) (fX (dC 3) oK))))
 (dE (fC 4 (rC .non))
 (dE (oD (PM (aD (r1 qZ (aL 3)) aZ)) (dC 5) xB)
 (gM (r2 nR (rCB Fk (aD (r2 (mE λi j=>decide (j<i)) (aL 4) (am 0)) aZ)) (rCB Fk (aD (r2 (mE λi j=>decide (i<j)) (aL 4) (am 0)) aZ))))))
def LA:RS :=
 dE (fC 3 (r2 fO (r2 nR (ai 1 0) (ai 0 0)) (r2 nR (ai 2 1) (ai 1 1))))
 (gM (r2 nR (aL 3) (r2 fO (r2 nR (ai 1 1) (ai 0 1)) (r2 nR (ai 2 0) (ai 1 0)))))
def qM (R3:FD):RS :=
 dE (lJ (rOr (wJ (dS (r1 (MI "tuple") (cG 1)))) (dS (r2 (pY true) (r1 qZ (aL 1)) (am 2)))) (gM (rC (.bl false))) iM)
 (lJ (rOr (wJ (dS (cZ R3 (aD (ai 1 0) aZ)))) (wJ (dS (cZ R3 (aD (ai 1 1) aZ))))) (gM (rC (.bl false))) iM)
def sU (R3:FD):RS :=
 dE (lJ (rOr (wJ (dS (r1 (MI "tuple") (cG 0)))) (rOr (dS (r2 (pY true) (r1 qZ (aL 0)) (am 2))) (rOr (wJ (dS (cZ R3 (aD (ai 0 0) aZ)))) (dS (r2 (mE λi j=>decide (i<j)) (ai 0 0) (am 1)))))) (gM (rC (.bl false))) iM)
 (dE (lJ (rOr (wJ (dS (r1 (MI "tuple") (ai 0 1)))) (dS (r2 (mE λi j=>decide (i<j)) (r1 qZ (ai 0 1)) (am 3)))) (gM (rC (.bl false))) iM)
 (dE (oD (riT (ai 0 1)) (dC 1) (qM R3))
 (gM (rC (.bl true)))))
def uJ (Q9:FD) (T5:FD):RS :=
 dE (fC 3 (cZ Q9 (aD (cZ Q9 (aD (cG 3) (aD (r2 bi (r2 bi (aL 2) (aL 5)) (am 0)) aZ))) (aD (r2 bi (r2 bi (aL 2) (aL 5)) (am 1)) aZ))))
 (dE (lJ (dS (r2 (mE λi j=>decide (i<=j)) (cZ T5 (aD (r2 bi (aL 2) (r2 nR (aL 5) (am 2))) (aD (r2 bi (aL 2) (r2 nR (aL 5) (am 1))) (aD (r2 bi (aL 2) (aL 5)) aZ)))) (am 0))) (gM (rC (.bl false))) iM)
 (lJ (xQ (dS (r2 Sl (r2 bi (aL 2) (r2 nR (aL 5) (am 1))) (r2 bi (aL 2) (r2 nR (aL 5) (am 2))))) (dS (r2 Sl (r2 bi (aL 2) (r2 nR (aL 5) (am 1))) (r2 bi (aL 2) (aL 5))))) (fC 4 (r2 lM (aL 4) (am 1))) iM))
def yV (Q9:FD) (T3:FD) (T5:FD):RS :=
 dE (lJ (wJ (dS (cZ T3 (aD (cG 0) aZ)))) (gM (rC (.bl false))) iM)
 (dE (Qu (cG 0) (oM 2 (fX (dC 1) (fX (dC 2) oK))))
 (dE (fC 3 (cG 1))
 (dE (fC 4 (am 0))
 (dE (oD (PM (aD (r1 qZ (aL 2)) aZ)) (dC 5) (uJ Q9 T5))
 (gM (OC (r2 (pY false) (aL 3) (am 1)) (OC (r2 (pY false) (aL 4) (am 1)) (r2 yg (ai 2 0) (r1 Ik (aL 2))))))))))
def uU (fy:FD):RS :=
 dE (fC 2 (cZ fy (aD (cG 2) (aD (cG 3) aZ))))
 (lJ (dS (r2 (HP false) (aL 2) (rC .non))) (gM (rC .non)) iM)
def XG (fy:FD) (lq:FD):RS :=
 dE (fC 2 (cG 0))
 (dE (oD (riL (cZ lq (aD (cG 1) aZ))) (dC 3) (uU fy))
 (gM (cG 2)))
def XJ (rF:FD) (fu:FD):RS :=
 dE (fC 2 (ai 1 1))
 (dE (fC 3 (ai 1 2))
 (dE (fC 4 (cZ fu (aD (cZ fu (aD (ai 0 0) (aD (ai 2 1) aZ))) (aD (ai 3 1) aZ))))
 (dE (fC 5 (r2 fO (ai 1 0) (r2 lT (aL 4) (ai 0 0))))
 (dE (fC 6 (r2 fO (ai 2 0) (r2 lT (aL 4) (ai 2 1))))
 (dE (fC 7 (r2 fO (ai 3 0) (r2 lT (aL 4) (ai 3 1))))
 (gM (cZ rF (aD (cG 4) (aD ((λa Q=>(pP (riT (ai 0 1)) 2 [5,6,7] (oM 2 (fX (dC 0) (fX (dC 1) oK))) (mR (aD (r2 lM (r2 fO (aL 2) (aL 0)) (aL 3)) (aD (r2 lM (r2 fO (aL 2) (aL 1)) (aL 4)) aZ)))) a λds=>Q (.lst ds))) aZ)))))))))
def uI (Q9:FD) (R3:FD):RS :=
 dE (lJ (rOr (wJ (dS (r1 (MI "tuple") (cG 0)))) (rOr (dS (r2 (pY true) (r1 qZ (aL 0)) (am 2))) (rOr (wJ (dS (cZ R3 (aD (ai 0 0) aZ)))) (wJ (dS (cZ R3 (aD (ai 0 1) aZ))))))) (gM (rC (.bl false))) iM)
 (gM (OC (r2 (mE λi j=>decide (j<i)) (ai 0 1) (am 0)) (r2 (pY false) (cZ Q9 (aD (ai 0 0) (aD (ai 0 1) aZ))) (am 1))))
def DU (S3:FD) (T6:FD) (R3:FD):RS :=
 dE (lJ (rOr (wJ (dS (r1 (MI "tuple") (cG 0)))) (rOr (dS (r2 (pY true) (r1 qZ (aL 0)) (am 2))) (wJ (dS (cZ T6 (aD (ai 0 0) aZ)))))) (gM (rC (.bl false))) iM)
 (dE (fC 1 (ai 0 1))
 (dE (lJ (rOr (wJ (dS (r1 (MI "tuple") (cG 1)))) (rOr (dS (r2 (pY true) (r1 qZ (aL 1)) (am 3))) (rOr (wJ (dS (cZ R3 (aD (ai 1 0) aZ)))) (dS (r2 (pY true) (rCB UT (aD (ai 1 0) aZ)) (am 1)))))) (gM (rC (.bl false))) iM)
 (gM (OC (cZ S3 (aD (ai 1 1) aZ)) (cZ S3 (aD (ai 1 2) aZ))))))
def AS (S7:FD):RS :=
 lJ (wJ (dS (cZ S7 (aD (cG 1) aZ)))) (gM (rC (.bl false))) iM
def KZ (S7:FD):RS :=
 dE (lJ (wJ (dS (r1 (MI "list") (cG 0)))) (gM (rC (.bl false))) iM)
 (dE (oD (riL (cG 0)) (dC 1) (AS S7))
 (gM (rC (.bl true))))
def xA:RS :=
 dE (fC 3 (r2 bi (ai 0 1) (r2 nR (aL 2) (am 1))))
 (dE (fC 4 (r2 bi (ai 0 1) (aL 2)))
 (fC 1 (r2 nR (r2 lM (aL 1) (r2 fO (ai 3 0) (ai 4 1))) (r2 fO (ai 3 1) (ai 4 0)))))
def DQ:RS :=
 dE (fC 1 (am 0))
 (dE (oD (PM (aD (r1 qZ (ai 0 1)) aZ)) (dC 2) xA)
 (gM (mR (aD (cG 1) (aD (r2 fO (ai 0 0) (ai 0 0)) aZ)))))
def tR:RS :=
 gM (mR (aD (r2 lM (r2 fO (ai 0 0) (ai 1 1)) (r2 fO (ai 1 0) (ai 0 1))) (aD (r2 fO (ai 0 1) (ai 1 1)) aZ)))
def yS (S9:FD) (T4:FD):RS :=
 fC 1 (cZ S9 (aD (cG 1) (aD (cZ T4 (aD (ai 2 0) aZ)) aZ)))
def GC (S9:FD) (T4:FD):RS :=
 dE (fC 1 (mR (aD (am 0) (aD (am 1) aZ))))
 (dE (oD (riL (cG 0)) (dC 2) (yS S9 T4))
 (gM (cG 1)))
def AX:RS :=
 dE (fC 3 (r2 pI (r2 fO (r2 fO (r2 lM (r2 pI (aL 0) (r2 RJ (am 10) (am 9))) (am 7)) (r2 lM (r2 pI (aL 0) (r2 RJ (am 10) (am 9))) (am 31))) (am 48271)) (am 2147483629)))
 (dE (fC 4 (r2 lM (am 1) (r2 pI (aL 3) (am 1008))))
 (dE (fC 5 (r2 lM (am 1) (r2 pI (r2 pI (r2 fO (aL 3) (am 69621)) (am 2147483587)) (am 9972))))
 (dE (fC 6 (r2 fO (r2 fO (r2 fO (am 1009) (am 9973)) (ai 1 1)) (ai 2 1)))
 (gM (mR (aD (r2 fO (r2 fO (r2 fO (aL 4) (am 9973)) (ai 1 1)) (ai 2 1)) (aD (r2 lM (r2 fO (r2 fO (r2 fO (aL 4) (ai 1 0)) (am 9973)) (ai 2 1)) (r2 fO (r2 fO (r2 fO (aL 5) (ai 2 0)) (am 1009)) (ai 1 1))) (aD (cG 6) aZ))))))))
def DX (R4:FD):RS :=
 dE (fC 1 (r2 bi ((λa Q=>(sJ (aD (am 9) (aD (r2 RJ (am 10) (am 30)) aZ))) a λds=>Q (.lst ds))) (r2 pI (r2 lT (aL 0) (am 2)) (am 2))))
 (dE (fC 2 (cZ R4 (aD (r2 nR (r2 pI (r2 fO (r2 pI (r2 fO (aL 0) (am 48271)) (am 1000000007)) (am 69621)) (r2 lM (r2 fO (am 2) (aL 1)) (am 1))) (aL 1)) (aD (r2 lM (am 1) (r2 pI (r2 lT (aL 0) (am 4)) (am 4))) aZ))))
 (dE (fC 3 (cZ R4 (aD (r2 nR (r2 pI (aL 0) (r2 lM (r2 fO (am 2) (aL 1)) (am 1))) (aL 1)) (aD (r2 lM (am 1) (r2 pI (r2 lT (aL 0) (am 16)) (am 3))) aZ))))
 (gM (mR (aD (r2 nR (am 1) (r2 fO (am 2) (r2 pI (aL 0) (am 2)))) (aD (cG 2) (aD (cG 3) aZ)))))))
def AT (R7:FD):RS :=
 dE (fC 3 (r2 fO (r2 bi (aL 0) (rC (.int 1))) (r2 bi (aL 1) (rC (.int 1)))))
 (dE (fC 4 (r2 fO (r2 bi (aL 0) (rC (.int 0))) (r2 bi (aL 1) (rC (.int 1)))))
 (dE (fC 5 (r2 fO (r2 bi (aL 1) (rC (.int 0))) (r2 bi (aL 0) (rC (.int 1)))))
 (dE (lJ (dS (r2 (mE λi j=>decide (i<j)) (aL 2) (rC (.int 3)))) (dE (fC 6 (mR (aD (rC (.int 0)) (aD (rC (.int 0)) aZ))))
 (dE (fC 7 (mR (aD (cG 3) (aD (cG 4) aZ))))
 (dE (fC 8 (mR (aD (cG 3) (aD (r2 lM (aL 4) (aL 5)) aZ))))
 (dE (fC 9 (mR (aD (rC (.int 0)) (aD (cG 5) aZ))))
 (dE (lJ (dS (r2 (pY false) (aL 2) (rC (.int 0)))) (gM ((λa Q=>(sJ (aD (cZ R7 (aD (cG 3) (aD ((λa Q=>(sJ (aD (cG 6) (aD (cG 7) (aD (cG 8) (aD (cG 9) aZ))))) a λds=>Q (.lst ds))) aZ))) aZ)) a λds=>Q (.lst ds)))) iM)
 (dE (lJ (dS (r2 (pY false) (aL 2) (rC (.int 1)))) (gM ((λa Q=>(sJ (aD (cZ R7 (aD (cG 3) (aD ((λa Q=>(sJ (aD (cG 6) (aD (cG 7) (aD (cG 8) aZ)))) a λds=>Q (.lst ds))) aZ))) (aD (cZ R7 (aD (cG 3) (aD ((λa Q=>(sJ (aD (cG 6) (aD (cG 8) (aD (cG 9) aZ)))) a λds=>Q (.lst ds))) aZ))) aZ))) a λds=>Q (.lst ds)))) iM)
 (gM ((λa Q=>(sJ (aD (cZ R7 (aD (cG 3) (aD ((λa Q=>(sJ (aD (cG 6) (aD (cG 7) (aD (cG 9) aZ)))) a λds=>Q (.lst ds))) aZ))) (aD (cZ R7 (aD (cG 3) (aD ((λa Q=>(sJ (aD (cG 7) (aD (cG 8) (aD (cG 9) aZ)))) a λds=>Q (.lst ds))) aZ))) aZ))) a λds=>Q (.lst ds)))))))))) iM)
 (dE (fC 10 ((λa Q=>(sJ (aD (mR (aD (cG 3) (aD (cG 4) aZ))) (aD (mR (aD (cG 3) (aD (r2 lM (aL 4) (r2 fO (rC (.int 3)) (aL 5))) aZ))) aZ))) a λds=>Q (.lst ds))))
 (dE (fC 11 (cZ R7 (aD (r2 fO (rC (.int 3)) (aL 3)) (aD ((λa Q=>(sJ (aD (mR (aD (rC (.int 0)) (aD (rC (.int 0)) aZ))) (aD (r2 bi (aL 10) (rC (.int 0))) (aD (r2 bi (aL 10) (rC (.int 1))) (aD (mR (aD (rC (.int 0)) (aD (r2 fO (rC (.int 3)) (aL 5)) aZ))) aZ))))) a λds=>Q (.lst ds))) aZ))))
 (gM ((λa Q=>(sJ (aD (cG 11) (aD (cZ R7 (aD (r2 fO (rC (.int 3)) (aL 3)) (aD ((λa Q=>(sJ (aD (r2 bi (aL 10) (rC (.int 0))) (aD (mR (aD (r2 fO (rC (.int 3)) (aL 3)) (aD (r2 fO (rC (.int 3)) (aL 4)) aZ))) (aD (mR (aD (r2 fO (rC (.int 3)) (aL 3)) (aD (r2 lM (r2 fO (rC (.int 3)) (aL 4)) (r2 fO (rC (.int 3)) (aL 5))) aZ))) (aD (r2 bi (aL 10) (rC (.int 1))) aZ))))) a λds=>Q (.lst ds))) aZ))) aZ))) a λds=>Q (.lst ds)))))))))
def OF:RS :=
 dE (Qu (cG 0) (oM 3 (fX (dC 2) (fX (dC 3) (fX (dC 4) oK)))))
 (dE (fC 5 (r2 fO (r2 lM (r2 fO (r2 fO (aL 2) (ai 1 0)) (ai 3 1)) (r2 fO (ai 3 0) (ai 1 2))) (ai 4 1)))
 (dE (fC 6 (r2 fO (r2 lM (r2 fO (r2 fO (aL 2) (ai 1 1)) (ai 4 1)) (r2 fO (ai 4 0) (ai 1 2))) (ai 3 1)))
 (gM (mR (aD (cG 5) (aD (cG 6) (aD (r2 fO (r2 fO (ai 1 2) (ai 3 1)) (ai 4 1)) aZ)))))))
def uH (R8:FD) (R5:FD):RS :=
 dE (fC 5 (cZ R5 (aD (cG 3) (aD (cG 1) aZ))))
 (dE (lJ (dS (r2 (pY false) (aL 5) (am 0))) (gM (rC .non)) iM)
 (lJ (dS (r2 (pY false) (aL 5) (am 1))) (yR 2 (cZ R8 (aD (cG 4) (aD (cG 1) aZ)))) iM))
def yU (R8:FD) (R5:FD):RS :=
 dE (nS 2 (sJ aZ))
 (dE (oD (riL (cG 0)) (oM 2 (fX (dC 3) (fX (dC 4) oK))) (uH R8 R5))
 ((λE a=>(gM (cG 2)) E (yL 2 a))))
def GB:RS :=
 gM (OC (r2 (pY false) (r2 fO (ai 0 0) (ai 1 2)) (r2 fO (ai 1 0) (ai 0 2))) (r2 (pY false) (r2 fO (ai 0 1) (ai 1 2)) (r2 fO (ai 1 1) (ai 0 2))))
def XI:RS :=
 dE (fC 2 (r2 bi (ai 0 0) (am 0)))
 (dE (nS 3 (pP (riT (r2 bi (ai 0 0) (am 1))) 2 [1] (oM 2 (fX (dC 0) (fX (dC 1) oK))) (r2 fO (aL 0) (aL 2))))
 (dE (nS 4 (pP (riT (r2 bi (ai 0 0) (am 1))) 2 [1] (oM 2 (fX (dC 0) (fX (dC 1) oK))) (r2 fO (aL 1) (aL 2))))
 (gM (mR (aD (r2 lT (r1 WM (aL 3)) (aL 2)) (aD (r1 zX (r2 lT (r1 zX (r1 JQ (aL 3))) (aL 2))) (aD (r2 lT (r1 WM (aL 4)) (aL 2)) (aD (r1 zX (r2 lT (r1 zX (r1 JQ (aL 4))) (aL 2))) (aD (cG 0) aZ)))))))))
def xC (T0:FD) (R8:FD) (R5:FD):RS :=
 dE (fC 5 (cZ R5 (aD (cG 3) (aD (cG 1) aZ))))
 (dE (lJ (dS (r2 (pY false) (aL 5) (am 0))) (gM (rC (.bl true))) iM)
 (lJ (xQ (dS (r2 (pY false) (aL 5) (am 1))) (dS (cZ T0 (aD (cZ R8 (aD (cG 4) (aD (cG 1) aZ))) (aD (cG 2) aZ))))) (gM (rC (.bl true))) iM))
def DY (T0:FD) (R8:FD) (R5:FD):RS :=
 dE (oD (riL (cG 0)) (oM 2 (fX (dC 3) (fX (dC 4) oK))) (xC T0 R8 R5))
 (gM (rC (.bl false)))
def GD:RS :=
 dE (lJ (rOr (dS (r2 (pY false) (ai 0 0) (am 0))) (rOr (dS (r2 (pY false) (ai 0 1) (am 0))) (dS (r2 yg (ai 0 0) (ai 0 1))))) (gM (rCB Bh (aD (r2 lM (am 1) (rCB Fk (aD (r2 (mE λi j=>decide (j<i)) (ai 0 0) (am 0)) aZ))) (aD (r2 lM (am 1) (rCB Fk (aD (r2 (mE λi j=>decide (j<i)) (ai 0 1) (am 0)) aZ))) aZ)))) iM)
 (gM (am 4))
def AZ (iu:FD):RS :=
 TH 2 (cZ iu (aD (cG 3) (aD (ai 0 1) aZ)))
def LC (iu:FD):RS :=
 Js (nS 2 (sJ aZ))
 (Js (oD (riL (ai 0 2)) (dC 3) (AZ iu))
 ((λE a=>(gM (mR (aD (Zh (ai 0 1)) (aD (rFr 2) aZ)))) E (B5 2 a))))
def yW (BS:FD):RS :=
 gM ((λa Q=>(ZZ ((λa Q=>(pP (riL (cG 0)) 1 [1] (dC 0) (cZ BS (aD (cG 0) (aD (cG 1) aZ)))) a λds=>Q (.lst ds)))) a λds=>Q (.lst ds)))
def qC:RS :=
 dE (yR 5 (r2 bi (aL 3) (aL 4)))
 (fC 4 (r2 lM (aL 4) (am 1)))
def yY:RS :=
 dE (DN (xQ (dS (r2 (mE λi j=>decide (i<j)) (aL 4) (r1 qZ (aL 3)))) (dS (r2 (mE λi j=>decide (i<j)) (r2 bi (r2 bi (aL 3) (aL 4)) (am 2)) (aL 10)))) qC)
 (dE ((λE a=>(nS 5 (DL (riL (cG 5)) 1 [9] (dC 0) (dS (r2 (mE λi j=>decide (i<j)) (aL 1) (ai 0 3))) (cG 0))) E (yL 5 a)))
 (dE (nS 12 (DL (V5 5) 1 [10,8,7] (dC 0) (xQ (dS (r2 (mE λi j=>decide (i<j)) (ai 0 2) (aL 1))) (xQ (dS (r2 (mE λi j=>decide (i<j)) (ai 0 0) (aL 2))) (dS (r2 (mE λi j=>decide (i<j)) (aL 3) (ai 0 1))))) (cG 0)))
 ((λE a=>(TH 6 ((λa Q=>(pP (riL (cG 12)) 1 [11] (dC 0) (mR (aD (cG 1) (aD (ai 0 4) aZ)))) a λds=>Q (.lst ds)))) E (yL 12 a)))))
def GI (gt:FD):RS :=
 dE (fC 2 (r1 JQ ((λa Q=>(pP (riL (r2 CL (aL 0) (aL 1))) 1 [] (dC 0) (r2 bi (ai 0 0) (am 0))) a λds=>Q (.lst ds)))))
 (dE (fC 3 (cZ gt (aD (cG 1) (aD (cG 2) aZ))))
 (dE (fC 4 (am 0))
 (dE (nS 5 (sJ aZ))
 (dE (nS 6 (sJ aZ))
 (dE (oD (riL (cZ gt (aD (cG 0) (aD (cG 2) aZ)))) (oM 5 (fX (dC 7) (fX (dC 8) (fX (dC 9) (fX (dC 10) (fX (dC 11) oK)))))) yY)
 ((λE a=>(gM (cG 6)) E (yL 6 a))))))))
def AY (vJ:FD) (vK:FD) (vL:FD) (qX:FD):RS :=
 dE (fC 5 (cZ vK (aD (ai 3 0) (aD (ai 4 0) aZ))))
 (lJ (dS (r2 (HP true) (aL 5) (rC .non))) (yR 2 (mR (aD (cZ vL (aD (cG 5) (aD (ai 3 1) aZ))) (aD (cZ vJ (aD (cZ qX (aD (ai 3 1) aZ)) (aD (ai 4 1) aZ))) aZ)))) iM)
def LB (vJ:FD) (vK:FD) (lg:FD) (vL:FD) (qX:FD):RS :=
 dE (nS 2 (sJ aZ))
 (dE (oD (riL (cZ lg (aD (cG 0) (aD (cG 1) aZ)))) (oM 2 (fX (dC 3) (fX (dC 4) oK))) (AY vJ vK vL qX))
 ((λE a=>(gM (cG 2)) E (yL 2 a))))
def GG (R6:FD) (S8:FD) (S5:FD):RS :=
 dE (fC 12 (cZ S5 (aD (cG 11) (aD (cG 2) (aD (cG 3) aZ)))))
 (dE (fC 13 (cZ R6 (aD (ai 5 0) (aD (cG 12) aZ))))
 (dE (fC 14 (cZ R6 (aD (ai 5 1) (aD (cG 12) aZ))))
 (lJ (xQ (dS (r2 (HP true) (aL 13) (rC .non))) (xQ (dS (r2 (HP true) (aL 14) (rC .non))) (wJ (dS (cZ S8 (aD (cG 9) (aD (ai 13 0) (aD (ai 14 0) aZ)))))))) (gM (rC (.bl false))) iM)))
def GH (R9:FD):RS :=
 Jq 5 (cG 6) (mR (aD (cG 7) (aD (cZ R9 (aD (r2 bi (aL 1) (r2 lM (r2 lM (am 4) (r2 fO (am 2) (aL 6))) (r1 qZ (Uq 5 (cG 6))))) aZ)) aZ)))
def xS (S4:FD) (R9:FD):RS :=
 oD (riL (cZ S4 (aD (cG 2) (aD (cG 3) (aD (r2 bi (aL 4) (aL 6)) aZ))))) (dC 7) (GH R9)
def TN (T8:FD) (U0:FD) (S4:FD) (R4:FD) (R6:FD) (R9:FD) (T7:FD) (T9:FD) (S8:FD) (S5:FD) (mh:FD):RS :=
 dE (fC 1 (cZ T7 (aD (cG 0) (aD (am 8) aZ))))
 (dE (fC 2 (cZ R4 (aD (r2 nR (r2 pI (ai 1 0) (am 9)) (am 4)) (aD (r2 lM (am 1) (r2 pI (r2 lT (ai 1 0) (am 9)) (am 2))) aZ))))
 (dE (fC 3 (cZ R4 (aD (r2 lM (am 1) (r2 pI (ai 1 1) (am 6))) (aD (r2 lM (am 1) (r2 pI (r2 lT (ai 1 1) (am 6)) (am 2))) aZ))))
 (dE (fC 4 ((λa Q=>(sJ (aD (r2 pI (ai 1 2) (am 4)) (aD (r2 pI (ai 1 3) (am 4)) aZ))) a λds=>Q (.lst ds))))
 (dE (Qv 5)
 (dE (oD (PM (aD (am 2) aZ)) (dC 6) (xS S4 R9))
 (dE ((λE a=>(fC 8 ((λa Q=>(sJ (aD (r1 JP (ai 5 0)) (aD (r1 JP (ai 5 1)) aZ))) a λds=>Q (.lst ds)))) E (yL 5 a)))
 (dE (fC 9 (cZ mh (aD (ai 8 0) (aD (ai 8 1) aZ))))
 (dE (lJ (rOr (wJ (dS (cZ U0 (aD (cG 9) aZ)))) (rOr (dS (r2 Sm (aL 8) (aL 5))) (dS (r2 (pY true) (r1 qZ (aL 9)) (cZ T9 (aD (cG 4) aZ)))))) (gM (rC (.bl false))) iM)
 (dE (fC 10 (cZ T8 (aD (cG 9) aZ)))
 (dE (lJ (dS (r2 (pY true) (r2 fO (ai 10 0) (ai 3 1)) (r2 fO (r2 fO (am 2) (ai 3 0)) (ai 10 1)))) (gM (rC (.bl false))) iM)
 (dE (oD (riL (r2 CL ((λa Q=>(Jt (aL 0) sK (DM (am 8))) a λds=>Q (.lst ds))) ((λa Q=>(sJ (aD (ai 1 7) aZ)) a λds=>Q (.lst ds))))) (dC 11) (GG R6 S8 S5))
 (gM (rC (.bl true))))))))))))))
def A5 {α:Type} (x:α) (xs:List α):jm (x::xs) 0=some x:=by
 unfold jm m9;simp
def A6 {α:Type} (x y:α) (xs:List α):jm (x::y::xs) 1=some y:=by
 unfold jm m9;rw[if_pos (by decide),if_pos (by simp only[bH];lia)];rfl
def A7 {α:Type} (x y z:α) (xs:List α):jm (x::y::z::xs) 2=some z:=by
 unfold jm m9;rw[if_pos (by decide),if_pos (by simp only[bH];lia)];rfl
def Ww {α:Type} {xs:List α} {i:Int} {j:Nat} {x:α} (h:i=(j:Int)) (e:xs[j]? = some x):jm xs i=some x:=by
 subst h;exact EL e
def Xb:yg x y Q=(match fi 6 x y with | some b=>Q (.bl b) | none=>False):=rfl
def BL.const (h:i.natAbs<2 ^ n:=by decide):BL n i:=h
def TB (h:0<=j/\j<=1000000/\i.natAbs<2 ^ 64:=by decide):ub i j:=⟨h⟩
def oC (h:j≠0:=by decide):ua j:=⟨h⟩
def Jb (h:n<=1000):n<=sizeLine:=fK h (by decide)
def sB:bi (.tup (x::xs)) (.int 0) Q=Q x:=by simp only[bi,A5]
def nQ:bi (.tup (x::y::xs)) (.int 1) Q=Q y:=by simp only[bi,A6]
def CM {x y z:D}:bi (.tup (x::y::z::xs)) (.int 2) Q=Q z:=by simp only[bi,A7]
def JO (e:jm xs i=some x) (h:Q x):bi (.lst xs) (.int i) Q:=by simp only[bi,e];exact h
def YM (h0:0<=i) (h1:i<xs.length) (h:∀x,x∈xs->Q x):bi (.lst xs) (.int i) Q:=by
 have hj:i.toNat<xs.length:=by lia
 exact JO (Ww (j:=i.toNat) (by lia) (aG hj)) (h _ (nG hj))
def qY {xs:List D} {k:Nat} {x:D} {Q:D->Prop} (e:xs[k]? = some x):bi (.lst xs) (.int (k:Int)) Q=Q x:=by simp only[bi,EL e]
def RI:bi (.lst (a0::r)) (.int 0) Q=Q a0:=qY (k:=0) rfl
def Bg:bi (.lst (a0::a1::r)) (.int 1) Q=Q a1:=qY (k:=1) rfl
def Ob:bi (.lst (a0::a1::a2::r)) (.int 2) Q=Q a2:=qY (k:=2) rfl
def Oc:bi (.lst (a0::a1::a2::a3::r)) (.int 3) Q=Q a3:=qY (k:=3) rfl
def Od:bi (.lst (a0::a1::a2::a3::a4::r)) (.int 4) Q=Q a4:=qY (k:=4) rfl
def Oe:bi (.lst (a0::a1::a2::a3::a4::a5::r)) (.int 5) Q=Q a5:=qY (k:=5) rfl
def Of:bi (.lst (a0::a1::a2::a3::a4::a5::a6::r)) (.int 6) Q=Q a6:=qY (k:=6) rfl
def Og:bi (.lst (a0::a1::a2::a3::a4::a5::a6::a7::r)) (.int 7) Q=Q a7:=qY (k:=7) rfl
def Oh:bi (.lst (a0::a1::a2::a3::a4::a5::a6::a7::a8::r)) (.int 8) Q=Q a8:=qY (k:=8) rfl
def Oi:bi (.lst (a0::a1::a2::a3::a4::a5::a6::a7::a8::a9::r)) (.int 9) Q=Q a9:=qY (k:=9) rfl
def Ku:bi (.lst (a0::a1::a2::a3::a4::a5::a6::a7::a8::a9::w9::r)) (.int 10) Q=Q w9:=qY (k:=10) rfl
def Kv:bi (.lst (a0::a1::a2::a3::a4::a5::a6::a7::a8::a9::w9::a11::r)) (.int 11) Q=Q a11:=qY (k:=11) rfl
def jB (n:Nat) (ds:List D):En:=ds.map (λd=>aa d)++eY n none
def cS (n:Nat) (h:N.length=ds.length+n):eD N ds=jB n ds:=by
 unfold eD jB;rw[h,Nat.add_sub_cancel_left]
def Xq:Gb "int" (.int i)=some true:=rfl
def Xo:Gb "bool" (.int i)=some false:=rfl
def Xp:Gb "int" (.bl i)=some true:=rfl
def Xn:Gb "bool" (.bl i)=some true:=rfl
def Xr:Gb "tuple" (.tup xs)=some true:=rfl
def F6 {α:Type} {x:α}:eY 0 x=[]:=rfl
def Dw {α:Type} {x:α}:eY 1 x=[x]:=rfl
def Ur {α:Type} {x:α}:eY 2 x=[x,x]:=rfl
def Ml {α:Type} {x:α}:eY 3 x=[x,x,x]:=rfl
def Mm {α:Type} {x:α}:eY 4 x=[x,x,x,x]:=rfl
def Us {α:Type} {x:α}:eY 5 x=[x,x,x,x,x]:=rfl
def Ut {α:Type} {x:α}:eY 6 x=[x,x,x,x,x,x]:=rfl
def O8 {α:Type} {x:α}:eY 7 x=[x,x,x,x,x,x,x]:=rfl
def F9 {α:Type} {x:α}:eY 8 x=[x,x,x,x,x,x,x,x]:=rfl
def G0 {α:Type} {x:α}:eY 9 x=[x,x,x,x,x,x,x,x,x]:=rfl
def F7 {α:Type} {x:α}:eY 10 x=[x,x,x,x,x,x,x,x,x,x]:=rfl
def Wq {α:Type} {x:α}:eY 11 x=[x,x,x,x,x,x,x,x,x,x,x]:=rfl
def F8 {α:Type} {x:α}:eY 12 x=[x,x,x,x,x,x,x,x,x,x,x,x]:=rfl
def sz2:Sz (0+1+1):=⟨by decide⟩
def sz3:Sz (0+1+1+1):=⟨by decide⟩
def sz4:Sz (0+1+1+1+1):=⟨by decide⟩
def sz1:Sz (0+1):=⟨by decide⟩
def sz0:Sz 0:=⟨by decide⟩
local macro_rules | `(tactic| walk_at "rd")=>do
 let a <- ("Zh Js F4 S.fz F1 TH A9 dE iM gM F2 lJ fC nS Zi Qu dC oM fX oK cG aL rC r2 r1 dS xQ rOr wJ OC N7 Qx rIf aZ aD mR sJ cZ rCB sK DM Jt oD O9 riL riT PM P4 Zj pP yI BI QZ yL yR Jr TK Hc Mq ZY CL JP RK L3 dNe Hb G1 G2 lM nR fO lT pI RJ zX mE pY HP Xb KB sB nQ CM RI Bg Ob Oc Od Oe Of Og Oh Oi Ku Kv UT Fk Bh WL qZ MI Xq Xo Xp Xn Xr S.val jB F6 Dw Ur Ml Mm Us Ut O8 F9 G0 F7 Wq F8 aQ cB aW bC bH eK aE aI aR aX eJ xG Bool.or_true Bool.false_or Bool.true_or fU nF if_true if_false aO sz0 sz1 sz2 sz3 sz4 true_and decide_eq_true_eq Int.reduceToNat Int.reducePow Int.reduceMul Int.reduceSub Int.reduceAdd Int.reduceNeg".splitOn " ").toArray.mapM λx=>`(Lean.Parser.Tactic.simpLemma| $(Lean.mkIdent x.toName):term)
 `(tactic| simp only[$a,*])
local macro_rules | `(tactic| walk_at "side")=>`(tactic| first | exact TB | exact oC | exact (BL.const (n:=9000) (by decide)).divOk (by decide) | exact (BL.const (n:=300) (by decide)).mulOk (BL.const (n:=300) (by decide)))
local macro_rules | `(tactic| walk_at "sides")=>`(tactic| repeat (refine And.intro (by walk_at "side") ?_))
def JF (i:Int):(if i<0 then -i else i)=((i.natAbs:Nat):Int):=by split <;> lia
def WQ (x y:Nat):((x:Nat):Int).fmod (y:Nat)=((x % y:Nat):Int):=by
 rw[Int.fmod_eq_emod_of_nonneg _ (vN y)];exact (Int.natCast_emod x y).symm
def BT:FD:=λds Q=>∃a b:Int,ds=[.int a,.int b]/\Q (.int (bR a b:Nat))
theorem MT (E:jb):∀(y x:Nat),E.nx [aa (.int (Nat.gcd x y:Nat)),aa (.int (0:Nat))] ->
  DN (dS (r2 (mE λi j=>decide (j<i)) (aL 1) (am 0))) rB E [aa (.int (x:Nat)),aa (.int (y:Nat))]:=by
 intro y
 induction y using OQ with
 | ind y ih =>
  intro x h;cases vS y with
  | inl hy =>
   subst hy;refine⟨1,?_⟩;unfold oV;walk_at "rd";rw[if_neg (by decide)];rw[GY] at h;exact h
  | inr hy =>
   have h2:=ih (x % y) (kD x hy) y (by
    rw[zM y,<-Nat.gcd_rec,zM];exact h)
   obtain⟨n,hn⟩:=h2;refine⟨n+1,?_⟩;unfold oV rB;walk_at "rd";rw[if_pos (by lia)];refine⟨⟨by lia⟩,?_⟩;rw[WQ];exact hn
def ND:∀ds Q,BT ds Q->AU { nx:=λ_=>Q .non,rt:=Q } (eD ["_law_one","_law_other"] ds):=by
 rintro ds Q ⟨a,b,rfl,q⟩;rw[cS 0 rfl];unfold AU;walk_at "rd";rw[JF,JF];refine MT _ _ _ ?_;walk_at "rd";exact q
theorem FH (E:jb) (u v:Option S):∀(y x:Nat) (r:Option S),(∀r,E.nx [u,v,aa (.int (Nat.gcd x y:Nat)),aa (.int (0:Nat)),r]) ->
  DN (dS (r2 (pY true) (aL 3) (am 0))) pQ E [u,v,aa (.int (x:Nat)),aa (.int (y:Nat)),r]:=by
 intro y
 induction y using OQ with
 | ind y ih =>
  intro x r h;cases vS y with
  | inl hy =>
   subst hy;refine⟨1,?_⟩;unfold oV;walk_at "rd";rw[if_neg (by simp)];rw[GY] at h;exact h r
  | inr hy =>
   obtain⟨n,hn⟩:=ih (x % y) (kD x hy) y (aa (.int ((x % y:Nat)))) (by
    rw[zM y,<-Nat.gcd_rec,zM];exact h)
   refine⟨n+1,?_⟩;unfold oV pQ;walk_at "rd";rw[if_pos (by simp;lia)];refine⟨⟨by lia⟩,?_⟩;rw[WQ];exact hn
def FJ:∀ds Q,BT ds Q->xE { nx:=λ_=>Q .non,rt:=Q } (eD ["one","other","larger","smaller","rest"] ds):=by
 rintro ds Q ⟨a,b,rfl,q⟩;rw[cS 3 rfl];unfold xE;walk_at "rd";rw[JF,JF];refine FH _ _ _ _ _ _ λr=>?_;walk_at "rd";exact q
abbrev fr (a b:Int):D:=.tup [.int a,.int b]
def PU (h:b≠0):0<(bR a b:Int):=by
 have:0<bR a b:=Int.gcd_pos_of_ne_zero_right a h;lia
def BL.gcd (hb:b≠0) (h:BL n b):BL n (bR a b:Int):=by
 refine h.le ?_;rw[Int.natAbs_natCast];exact tM (by lia) (Int.gcd_dvd_natAbs_right a b)
structure rh (a b p q:Int):Prop where
 pos:0<q
 cop:bR p q=1
 worth:p*b=a*q
 lea:p.natAbs<=a.natAbs
 leb:q.natAbs<=b.natAbs
def ZH (hb:0<b):rh a b (a.fdiv (bR a b:Nat)) (b.fdiv (bR a b:Nat)):=by
 have hg:0<(bR a b:Int):=PU (by lia);have ea:((bR a b:Nat):Int)∣a:=lK ..;have eb:((bR a b:Nat):Int)∣b:=jL ..;rw[cT _ (by lia),cT _ (by lia)];have e1:a / (bR a b:Int)*(bR a b:Int)=a:=nD ea;have e2:b / (bR a b:Int)*(bR a b:Int)=b:=nD eb;have hc:bR (a / (bR a b:Int)) (b / (bR a b:Int))=1:=qF (by lia);generalize (bR a b:Int)=g at *;generalize a / g=p at *;generalize b / g=q at *;subst e1 e2;refine⟨?_,hc,by rw[mY,iY q g],?_,?_⟩
 ·exact iE hb (by lia)
 ·rw[iH];exact kP _ (by lia)
 ·rw[iH];exact kP _ (by lia)
def Ti (hb:b<0):rh a b (a.fdiv (-(bR a b:Nat))) (b.fdiv (-(bR a b:Nat))):=by
 have h:=ZH (a:=-a) (b:=-b) (by lia);have e:bR (-a) (-b)=bR a b:=by rw[Int.neg_gcd,Int.gcd_neg]
 rw[e] at h;have f:∀x g:Int,(-x).fdiv g=x.fdiv (-g):=λx g=>by
  have:=Int.neg_fdiv_neg (-x) g;rw[Int.neg_neg] at this;exact this.symm
 rw[f,f] at h;refine⟨h.pos,h.cop,?_,by have:=h.lea;lia,by have:=h.leb;lia⟩;have w:=h.worth;rw[Int.mul_neg,Int.neg_mul] at w;exact Int.neg_inj.mp w
def IM:FD:=λds Q=>∃a b:Int,ds=[.int a,.int b]/\(b≠0/\BL 9000 b)/\∀p q,rh a b p q->Q (fr p q)
def Gz:∀ds Q,IM ds Q->Dv BT { nx:=λ_=>Q .non,rt:=Q } (eD ["top","bottom","divisor"] ds):=by
 rintro ds Q ⟨a,b,rfl,⟨h0,hb⟩,q⟩;rw[cS 1 rfl];unfold Dv;walk_at "rd";rw[if_neg h0];refine⟨a,b,rfl,?_⟩;have hg:=PU (a:=a) h0;have bg:=BL.gcd (a:=a) h0 hb;walk_at "rd";split
 ·rename_i dw;refine⟨bg.neg.divOk (by lia),bg.neg.divOk (by lia),q _ _ (Ti dw)⟩
 ·rename_i dw;refine⟨bg.divOk (by lia),bg.divOk (by lia),q _ _ (ZH (by lia))⟩
structure Fr (n:Nat) (a b:Int):Prop where
 pos:0<b
 top:BL n a
 bot:BL n b
 cop:bR a b=1
def Zx (f:Int->Int->Int->Int->Int):FD:=λds Q=>∃a b c d:Int,ds=[fr a b,fr c d]/\(0<b/\0<d)/\(BL 4000 a/\BL 4000 b/\BL 4000 c/\BL 4000 d)/\∀p q,rh (f a b c d) (b*d) p q->Q (fr p q)
abbrev LN:FD:=Zx λa b c d=>a*d+c*b
def Mj:∀ds Q,LN ds Q->Ju IM { nx:=λ_=>Q .non,rt:=Q } (eD ["one","other"] ds):=by
 rintro ds Q ⟨a,b,c,d,rfl,⟨h1,h2⟩,⟨ba,bb,bc,bd⟩,q⟩;rw[cS 0 rfl];unfold Ju;walk_at "rd";refine⟨ba.mulOk bd,bc.mulOk bb,bb.mulOk bd,_,_,rfl,⟨rQ (aS h1 h2),(bb.mul bd).mono⟩,q⟩
def Hs:FD:=λds Q=>∃a b:Int,ds=[.int a,.int b]/\(0<b/\BL 9000 b)/\∀p q,rh a b p q->Q (fr p q)
def IN:FD:=λds Q=>∃a:Int,ds=[.int a]/\Q (.bl true)
def TF:∀ds Q,IN ds Q->GE { nx:=λ_=>Q .non,rt:=Q } (eD ["_law_found"] ds):=by
 rintro ds Q ⟨a,rfl,q⟩;rw[cS 0 rfl];unfold GE;walk_at "rd";exact q
def gB {a b:Int} (h:0<b):0<=a.fmod b/\a.fmod b<b:=⟨Int.fmod_nonneg_of_pos a h,Int.fmod_lt_of_pos a h⟩
def Td:∀ds Q,Kk 63 ds Q->ds.length=1:=by rintro ds Q ⟨a,rfl,_⟩;rfl
theorem kU (J:List D->En->Prop)
  (step:∀x xs a,J (x::xs) a->∀F:jb,F.rt=E.rt->F.bk=E.nx->(∀a',J xs a'->F.nx a')->(∀a',J xs a'->F.ct a')->g x a λa1=>t F a1) (last:∀a,J [] a->E.nx a):∀xs a,J xs a->JW g t xs E a
 | [],a,h=>last a h
 | x::xs,a,h=>step x xs a h _ rfl rfl (λa' h'=>kU J step last xs a' h') λa' h'=>kU J step last xs a' h'
theorem Ba {α:Type} (R:En->Prop) (fc f:α->D):∀(src:List α) {Q:List D->Prop},(∀a∈src,∀c,R c->∀K:En->D->Prop,(∀c1,R c1->K c1 (f a))->g (fc a) c λc1=>te c1 λd=>K c1 d) ->
  ∀(c:En) (acc:List D),R c->Q (acc++src.map f)->yI g te (src.map fc) c acc Q
 | [],Q,_,c,acc,_,q=>by
  show Q acc;simpa using q
 | a::src,Q,step,c,acc,h,q=>by
  show g (fc a) c λc'=>te c' λd=>yI g te (src.map fc) c' (acc++[d]) Q;refine step a cF c h (λc1 d=>yI g te (src.map fc) c1 (acc++[d]) Q) λc1 h1=>?_;exact Ba R fc f src (λb hb=>step b (aT _ hb)) c1 _ h1 (by simpa using q)
def sA {α:Type} (R:En->Prop) (fc f:α->D) (src:List α) (step:∀a∈src,∀b,R b->∀K:En->D->Prop,(∀b1,R b1->K b1 (f a))->g (fc a) b λb1=>te b1 λd=>K b1 d)
  (h:R b) (q:Q (src.map f)):yI g te (src.map fc) b [] Q:=Ba R fc f src step b [] h (by simpa using q)
abbrev il (ns:List Int):D:=.lst (ns.map .int)
abbrev pt (p:Int × Int):D:=.tup [.int p.1,.int p.2]
abbrev ja (ps:List (Int × Int)):D:=.lst (ps.map pt)
def YN {ns:List Int} {i:Int} (h0:0<=i) (h1:i<ns.length) (q:∀n∈ns,Q (.int n)):bi (il ns) (.int i) Q:=by
 refine YM h0 (by simpa using h1) λx hx=>?_;obtain⟨n,hn,rfl⟩:=bJ.mp hx;exact q n hn
def mF (h:n<=100000):Sz n:=⟨fK h (by decide)⟩
def Xt {n:Nat} {i:Int} (h0:0<=i) (h1:i<n):m9 n i=some i.toNat:=by
 unfold m9;rw[if_pos h0,if_pos (by lia)]
abbrev oz:Int:=1000000000000000000000000000000000000000000000000000000000007
structure Drawn (m:Nat) (xs:List Int):Prop where
 len:xs.length=m
 lo:∀x∈xs,0<=x
 hi:∀x∈xs,x<oz
def Drawn.bl (h:Drawn m xs) (hx:x∈xs):BL 200 x:=by
 have h0:=h.lo x hx;have h1:=h.hi x hx;have e:oz<((2 ^ 200:Nat):Int):=by decide
 exact BL.of_lt (by lia) (by lia)
def LM:FD:=λds Q=>∃(ns:List Int) (m:Nat),ds=[il ns,.int m]/\(ns.length<=100/\1<=m/\m<=100)/\∀xs,Drawn m xs->Q (il xs)
def AG:RS:=dE (fC 5 (r2 pI (aL 3) (aL 1)))
 (TK 2 (r2 pI (r2 lM (r2 lM (r2 fO (r2 bi (aL 2) (aL 5)) (am 48271)) (aL 4)) (r2 fO (aL 3) (aL 3))) (r2 lM (r2 RJ (am 10) (am 60)) (am 7))) (cG 5))
def Gn:rD=dE (fC 4 (am 0))
 (dE (lJ (dS (r2 (mE λi j=>decide (j<i)) (r1 qZ (aL 0)) (am 0))) (fC 4 (r2 pI (r2 bi (aL 0) (r2 pI (aL 3) (rCB WL (aD (r1 qZ (aL 0)) (aD (am 63) aZ))))) (r2 lM (r2 RJ (am 10) (am 60)) (am 7)))) iM) AG):=rfl
def ZG {ns:List Int} (hm:1<=m/\m<=100) (q:∀xs a b c,Drawn m xs->E.nx [aa (il ns),aa (.int m),some (.own (xs.map .int)),a,b,c]) (xs:List D) (d:En)
  (hx:∀x∈xs,∃j:Int,x = .int j/\0<=j/\j<=1000) (hρ:∃ys a b c,d=[aa (il ns),aa (.int m),some (.own (ys.map .int)),a,b,c]/\Drawn m ys):JW (dC 3) rD xs E d:=by
 refine kU (λxs d=>(∀x∈xs,∃j:Int,x = .int j/\0<=j/\j<=1000)/\∃ys a b c,d=[aa (il ns),aa (.int m),some (.own (ys.map .int)),a,b,c]/\Drawn m ys) ?_ ?_ xs d ⟨hx,hρ⟩
 ·rintro x xs d ⟨hx,ys,a,b,c,rfl,hd⟩ F _ _ hn _;obtain⟨j,rfl,j0,j1⟩:=hx x cF;have me:∀x∈xs,∃j:Int,x = .int j/\0<=j/\j<=1000:=λx h=>hx x (aT _ h);have done:∀cell:Int,AG F [aa (il ns),aa (.int m),some (.own (ys.map .int)),aa (.int j),aa (.int cell),c]:=λcell=>by
   unfold AG;walk_at "rd";have xm:(0:Int)<m:=(by lia);obtain⟨a0,a1⟩:=gB (a:=j) xm;refine⟨⟨by lia⟩,?_⟩;refine YN a0 (by rw[hd.len];exact a1) λy hy=>?_;have n8:=hd.bl hy;refine⟨n8.mulOk (BL.const (n:=20)),(BL.of_lt (m:=20) (by lia) (by lia)).mulOk (BL.of_lt (m:=20) (by lia) (by lia)),?_⟩;walk_at "sides";obtain⟨e0,e1⟩:=gB (a:=y*48271+cell+j*j) (b:=oz) (by decide);generalize (y*48271+cell+j*j).fmod oz=z at *;generalize j.fmod m=i at *;rw[Xt a0 (by simpa [hd.len] using a1)];refine hn _ ⟨me,ys.set i.toNat z,_,_,_,by rw[<-List.map_set],⟨by simpa using hd.len,λx hx=>?_,λx hx=>?_⟩⟩
   ·rcases wH hx with h | rfl
    ·exact hd.lo x h
    ·exact e0
   ·rcases wH hx with h | rfl
    ·exact hd.hi x h
    ·exact e1
  rw[Gn];walk_at "rd";split
  ·rename_i hl;have T_:0<ns.length:=(by simpa using hl);have gr:(0:Int)<(if (63:Int)<((ns.map D.int).length:Int) then 63 else ((ns.map D.int).length:Int)):=(by split <;> simp <;> lia);obtain⟨a0,a1⟩:=gB (a:=j) gr;have a2:(if (63:Int)<((ns.map D.int).length:Int) then 63 else ((ns.map D.int).length:Int))<=ns.length:=(by split <;> simp at * <;> lia);exact⟨⟨rQ gr⟩,YN a0 (Int.lt_of_lt_of_le a1 a2) λy _=>⟨TB,oC,done _⟩⟩
  ·exact done 0
 ·rintro d ⟨_,ys,a,b,c,rfl,hd⟩;exact q ys a b c hd
def Gh {lo:Int} (h:x∈rA lo n):∃j:Int,x = .int j/\lo<=j/\j<lo+n:=by
 unfold rA at h;obtain⟨k,hk,rfl⟩:=bJ.mp h;have:=gK.mp hk;exact⟨_,rfl,by lia,by lia⟩
def TM {lo:Int}:(rA lo n).length=n:=by simp[rA]
def NE:∀ds Q,LM ds Q->AV { nx:=λ_=>Q .non,rt:=Q } (eD ["_law_script","_law_many","_law_found","_law_k","_law_cell","_law_at"] ds):=by
 rintro ds Q ⟨ns,m,rfl,⟨hn,hm⟩,q⟩;rw[cS 4 rfl];unfold AV;walk_at "rd";refine⟨⟨by lia,by lia⟩,mF (by rw[TM];lia),?_⟩;unfold rA;refine sA (λd=>∃a,d=[a]) (λk:Nat=>D.int (0+(k:Int))) (λ_=>D.int 0) _ ?_ ⟨_,rfl⟩ ?_
 ·rintro a _ d ⟨b,rfl⟩ K hK;exact hK _ ⟨_,rfl⟩
 ·have len:(ns.map D.int).length=ns.length:=by simp
  have e0:∃M:Int,(if (m:Int)<(if (63:Int)<((ns.map D.int).length:Int) then 63 else ((ns.map D.int).length:Int)) then (if (63:Int)<((ns.map D.int).length:Int) then 63 else ((ns.map D.int).length:Int)) else (m:Int))=M/\0<=M/\M<=100:=⟨_,rfl,by rw[len];split <;> (try split) <;> lia,by rw[len];split <;> (try split) <;> lia⟩;obtain⟨M,eM,M0,M1⟩:=e0;rw[eM];refine⟨⟨by lia,by lia⟩,?_⟩;refine ZG (ns:=ns) hm (λxs a b c hd=>?_) _ _ (λx hx=>?_) ⟨eY m 0,none,none,none,?_,⟨by simp,λx hx=>?_,λx hx=>?_⟩⟩
  ·walk_at "rd";exact q xs hd
  ·obtain⟨j,rfl,j0,j1⟩:=Gh hx;exact⟨j,rfl,j0,by lia⟩
  ·congr 5;apply yA
   ·simp
   ·intro i h1 h2;simp
  ·rw[(GX.mp hx).2];decide
  ·rw[(GX.mp hx).2];decide
abbrev kg (p q r s ox oy:Int) (z:Int × Int):Int × Int:=(p*z.1+q*z.2+ox,r*z.1+s*z.2+oy)
def cE (I:En->Prop) (h1:∀K:En->Prop,(∀a',I a'->K a')->t { E with nx:=K } a) (h2:∀a',I a'->u E a'):dE t u E a:=h1 (u E) h2
def Sa:FD:=λds Q=>∃n:Int,ds=[.int n]/\∀s,1<=s->s<=1000000000->Q (.int s)
def Mg:∀ds Q,Sa ds Q->AW { nx:=λ_=>Q .non,rt:=Q } (eD ["_law_number"] ds):=by
 rintro ds Q ⟨n,rfl,q⟩;rw[cS 0 rfl];unfold AW;walk_at "rd";walk_at "sides";obtain⟨a0,a1⟩:=gB (a:=n) (b:=3) (by decide);obtain⟨b0,b1⟩:=gB (a:=n.fdiv 3) (b:=12) (by decide);obtain⟨c0,c1⟩:=gB (a:=n.fdiv 3) (b:=1000000000) (by decide);refine YM a0 (by simpa using a1) λx hx=>?_;simp only[aN,gH,or_false] at hx;rcases hx with rfl | rfl | rfl
 ·exact q _ (by decide) (by decide)
 ·exact q _ (by lia) (by lia)
 ·exact q _ (by lia) (by lia)
def KW:∀ds Q,Hs ds Q->yT BT { nx:=λ_=>Q .non,rt:=Q } (eD ["_law_top","_law_bottom","_law_most"] ds):=by
 rintro ds Q ⟨a,b,rfl,⟨h0,hb⟩,q⟩;rw[cS 1 rfl];unfold yT;walk_at "rd";refine⟨a,b,rfl,?_⟩;have hg:=PU (a:=a) (b:=b) (by lia);have bg:=BL.gcd (a:=a) (b:=b) (by lia) hb;walk_at "rd";exact⟨bg.divOk (by lia),bg.divOk (by lia),q _ _ (ZH h0)⟩
structure kr (share:Int) (cs:List (Int × Int)) (m sh:Int) (ds:List (Int × Int)) (j:Nat):Prop where
 mpos:0<m
 sh_eq:share=m*sh
 cs_eq:cs=ds.map λz=>(m*z.1,m*z.2)
 j_lt:j<ds.length
 least:∀z∈ds,∀w,ds[j]? = some w->HT.lexLt [z.1,z.2] [w.1,w.2]=false
 cop:∀d:Nat,(d:Int)∣sh->(∀z∈ds,(d:Int)∣z.1/\(d:Int)∣z.2)->d=1
abbrev turned {α:Type} (j:Nat) (ds:List α):List α:=ds.drop j++ds.take j
def VQ:FD:=λds Q=>∃(share:Int) (cs:List (Int × Int)),ds=[.int share,ja cs]/\(0<share/\BL 100 share)/\(cs≠[]/\cs.length<=100) /\
 ∀m sh zs j,kr share cs m sh zs j->Q (.tup [.int sh,.tup ((turned j zs).map pt)])
structure fw (share:Int) (zs:List (Int × Int)) (g:Nat):Prop where
 pos:0<g
 sh:(g:Int)∣share
 all:∀z∈zs,(g:Int)∣z.1/\(g:Int)∣z.2
 most:∀d:Nat,(d:Int)∣share->(∀z∈zs,(d:Int)∣z.1/\(d:Int)∣z.2)->d∣g
def fw.bl (h:fw share zs g) (hs:0<share) (b:BL n share):BL n (g:Int):=by
 refine b.le ?_;have:=FL hs h.sh;lia
def fw.snoc (h:fw share zs g) (z:Int × Int):fw share (zs++[z]) (bR (bR g z.1:Nat) z.2):=by
 have d1:((bR (bR g z.1:Nat) z.2:Nat):Int)∣((bR g z.1:Nat):Int):=lK ..;have d2:((bR g z.1:Nat):Int)∣(g:Int):=lK ..;have d3:((bR g z.1:Nat):Int)∣z.1:=jL ..;have d4:((bR (bR g z.1:Nat) z.2:Nat):Int)∣z.2:=jL ..;have dg:=mW d1 d2;refine⟨?_,mW dg h.sh,λw hw=>?_,λd e1 e2=>?_⟩
 ·have:=h.pos;have h1:0<bR g z.1:=jI _ (by lia);exact jI _ (by lia)
 ·rcases cJ.mp hw with h' | h'
  ·obtain⟨a,b⟩:=h.all w h';exact⟨mW dg a,mW dg b⟩
  ·rw[dM.mp h'];exact⟨mW d1 d3,d4⟩
 ·obtain⟨a,b⟩:=e2 z (by simp);have:=h.most d e1 λw hw=>e2 w (cU _ hw);have h1:(d:Int)∣((bR g z.1:Nat):Int):=OL (by exact_mod_cast this) a
  exact_mod_cast OL h1 b
def WJ {xs:List D} {j:Nat} (h:j<=xs.length):cutD xs (some (j:Int)) none=xs.drop j:=by
 unfold cutD;rw[HT.sIx_nat,HT.sIx_none,AO h,nY (by simp)]
def Ig {xs:List D} {j:Nat} (h:j<=xs.length):cutD xs none (some (j:Int))=xs.take j:=by
 unfold cutD;rw[HT.sIx_nat,HT.sIx_none,AO h];simp
def YW (z w:Int × Int):fi 6 (pt z) (pt w)=some (decide (z=w)):=by
 obtain⟨a,b⟩:=z;obtain⟨c,d⟩:=w;simp only[fi,jt];congr 1;by_cases h1:a=c <;> by_cases h2:b=d <;> simp[h1,h2]
def ZU:∀ds Q,VQ ds Q->OE BT { nx:=λ_=>Q .non,rt:=Q } (eD ["_law_share_here","_law_ring_here","_law_most","_law_x","_law_y","_law_corners","_law_at"] ds):=by
 rintro ds Q ⟨share,cs,rfl,⟨hs,bs⟩,⟨fx,hlen⟩,q⟩;rw[cS 5 rfl];unfold OE;simp only[jB,Us,aQ,cB,aW,bC];refine cE (λc=>c=[aa (.int share),aa (ja cs),aa (.int share),none,none,none,none]) (λK hK=>?_) ?_
 ·walk_at "rd";exact hK _ rfl
 rintro c rfl;refine cE (λc=>∃(g:Nat) (x y:Option S),fw share cs g/\c=[aa (.int share),aa (ja cs),aa (.int g),x,y,none,none]) (λK hK=>?_) ?_
 ·walk_at "rd";refine kU (λxs c=>∃(done rest:List (Int × Int)) (g:Nat) (x y:Option S),cs=done++rest/\xs=rest.map pt/\fw share done g/\c=[aa (.int share),aa (ja cs),aa (.int g),x,y,none,none]) ?_ ?_ _ _ ⟨[],cs,share.toNat,none,none,rfl,rfl,⟨by lia,?_,by simp,λd e1 _=>?_⟩,?_⟩
  ·rintro x xs c ⟨done,rest,g,u,v,e,ex,hg,rfl⟩ F _ _ hn _;cases rest with
   | nil=>cases ex
   | cons z rest =>
    cases ex;unfold DR;walk_at "rd";refine⟨_,_,rfl,_,_,rfl,?_⟩;exact hn _ ⟨done++[z],rest,_,_,_,by simpa using e,rfl,hg.snoc z,rfl⟩
  ·rintro c ⟨done,rest,g,u,v,e,ex,hg,rfl⟩;have:rest=[]:=(by simpa using ex.symm);subst this;rw[eJ] at e;subst e;exact hK _ ⟨g,u,v,hg,rfl⟩
  ·have:(share.toNat:Int)=share:=(by lia);rw[this];exact pS _
  ·have:(share.toNat:Int)=share:=by lia
   exact_mod_cast (by rw[this];exact e1:(d:Int)∣(share.toNat:Int))
  ·have:(share.toNat:Int)=share:=(by lia);rw[this]
 rintro c ⟨g,x,y,hg,rfl⟩;have gp:(0:Int)<g:=by have:=hg.pos;lia
 have gb:BL 9000 (g:Int):=(hg.bl hs bs).mono;obtain⟨zs,ez⟩:∃zs,zs=cs.map λz=>(z.1 / (g:Int),z.2 / (g:Int)):=⟨_,rfl⟩;have ec:cs=zs.map λz=>((g:Int)*z.1,(g:Int)*z.2):=by
  rw[ez,cM];symm
  conv=>rhs;rw[<-pF cs]
  refine nE λz hz=>?_;obtain⟨a,b⟩:=hg.all z hz;simp only[FK,id,jD a,jD b]
 refine cE (λc=>c=[aa (.int share),aa (ja cs),aa (.int g),x,y,some (.own (zs.map pt)),none]) (λK hK=>?_) ?_
 ·walk_at "rd";refine⟨mF (by simp;lia),?_⟩;refine sA (λc=>∃a b,c=[a,b,aa (.int g)]) pt (λz=>pt (z.1 / (g:Int),z.2 / (g:Int))) cs ?_ ⟨_,_,rfl⟩ ?_
  ·rintro z hz c ⟨a,b,rfl⟩ K' ki;walk_at "rd";refine⟨gb.divOk (by lia),gb.divOk (by lia),?_⟩;rw[cT _ (by lia),cT _ (by lia)];exact ki _ ⟨_,_,rfl⟩
  ·refine hK _ ?_;rw[ez,cM];rfl
 rintro c rfl;have lz:zs.length=cs.length:=by rw[ez];simp
 have hz:zs≠[]:=by intro e;rw[e] at lz;exact fx (yB.mp lz.symm)
 refine cE (λc=>∃j:Nat,(j<zs.length/\∀z∈zs,∀w,zs[j]? = some w->HT.lexLt [z.1,z.2] [w.1,w.2]=false)/\c=[aa (.int share),aa (ja cs),aa (.int g),x,y,some (.own (zs.map pt)),aa (.int j)]) (λK hK=>?_) ?_
 ·walk_at "rd";refine⟨⟨_,rfl⟩,zs.map λz=>[z.1,z.2],by rw[cM];rfl,by simpa using hz,λM hM hmin=>?_⟩;obtain⟨w,hw,rfl⟩:=bJ.mp hM;have dw:zs.findIdx (λz=>decide (z=w))<zs.length:=List.findIdx_lt_length_of_exists ⟨w,hw,by simp⟩;have hat:=List.findIdx_getElem (w:=dw);have yv:zs[zs.findIdx (λz=>decide (z=w))]=w:=by simpa using hat
  refine⟨zs.findIdx (λz=>decide (z=w)),⟨pt w,?_,?_⟩,λi d hi ed=>?_,λd hd=>?_,hK _ ⟨_,⟨dw,λz hz v ev=>?_⟩,rfl⟩⟩
  ·rw[bK,aG dw,yv];rfl
  ·show fi 6 (pt w) (pt w)=_;rw[YW];simp
  ·rw[bK] at ed;cases e:zs[i]? with
   | none=>rw[e] at ed;cases ed
   | some z =>
    rw[e] at ed;cases ed;show fi 6 (pt z) (pt w)=_;have hil:i<zs.length:=(bG.mp e).1;have:=List.not_of_lt_findIdx hi;rw[YW];have e2:zs[i]=z:=(by rw[aG hil] at e;exact dU e);rw[e2] at this;simpa using this
  ·obtain⟨z,_,rfl⟩:=bJ.mp hd;exact⟨_,YW z w⟩
  ·rw[aG dw,yv] at ev;cases ev;exact hmin _ (bJ.mpr ⟨z,hz,rfl⟩)
 rintro c ⟨j,⟨hj,v6⟩,rfl⟩;walk_at "rd";have lm:(zs.map pt).length=zs.length:=by simp
 rw[WJ (by lia),Ig (by lia)];refine⟨gb.divOk (by lia),mF (by simp;lia),?_⟩;rw[cT _ (by lia)];have:=q g (share / g) zs j ⟨gp,(jD hg.sh).symm,ec,hj,v6,λd e1 e2=>?_⟩
 ·rw[dI,List.map_drop,kG] at this;exact this
 ·have h1:((g*d:Nat):Int)∣share:=by
   rw[<-jD hg.sh]
   push_cast
   exact AM (pS _) e1
  have h2:=hg.most (g*d) h1 λz hz=>by
   rw[ec] at hz;obtain⟨w,hw,rfl⟩:=bJ.mp hz;obtain⟨a,b⟩:=e2 w hw
   push_cast
   exact⟨AM (pS _) a,AM (pS _) b⟩
  have h3:=tM hg.pos h2;have h4:d≠0:=λe=>by
   subst e;simp at h2;have:=hg.pos;lia
  have h5:=hg.pos;rcases Nat.lt_or_ge 1 d with h | h
  ·have:g*2<=g*d:=Nat.mul_le_mul_left _ h;lia
  ·lia
def BP (z:Pt):Prop:=BL 20000 z.1/\BL 20000 z.2
def zD:FD:=λds Q=>∃a b c:Pt,ds=[pt a,pt b,pt c]/\(BP a/\BP b/\BP c)/\Q (.int (bP a b c))
def Mk:∀ds Q,zD ds Q->Jv { nx:=λ_=>Q .non,rt:=Q } (eD ["one","middle","other","along","across"] ds):=by
 rintro ds Q ⟨a,b,c,rfl,⟨ba,bb,bc⟩,q⟩;rw[cS 2 rfl];unfold Jv;walk_at "rd";exact⟨(bb.1.sub ba.1).mulOk (bc.2.sub ba.2),(bb.2.sub ba.2).mulOk (bc.1.sub ba.1),q⟩
def Et:FD:=λds Q=>∃ps:List Pt,ds=[ja ps]/\(∀z∈ps,BP z)/\ps.length<=900/\Q (ja (uF ps))
def Np {α:Type} (xs:List α) (x:α):jm (xs++[x]) (-1)=some x:=by
 unfold jm m9;rw[if_neg (by decide),if_pos (by simp;lia)];have:((-1:Int)+((xs++[x]).length:Nat)).toNat=xs.length:=by simp;lia
 simp only[this,MA];simp
def Nq {α:Type} (xs:List α) (x y:α):jm (xs++[x,y]) (-2)=some x:=by
 unfold jm m9;rw[if_neg (by decide),if_pos (by simp;lia)];have:((-2:Int)+((xs++[x,y]).length:Nat)).toNat=xs.length:=by simp;lia
 simp only[this,MA];simp
theorem RY (E:jb) (u:Option S) (p:Pt) (hp:BP p):∀s:List Pt,(∀z∈s,BP z)->E.nx [u,some (.own ((kN p s).reverse.map pt)),aa (pt p)] ->
  DN (xQ (dS (r2 (mE λi j=>decide (j<i)) (r1 qZ (aL 1)) (am 1))) (dS (r2 (mE λi j=>decide (i<=j)) (cZ zD (aD (r2 bi (aL 1) (r1 zX (am 2))) (aD (r2 bi (aL 1) (r1 zX (am 1))) (aD (cG 2) aZ)))) (am 0)))) qB E [u,some (.own (s.reverse.map pt)),aa (pt p)]
 | [],_,h=>by
  refine⟨1,?_⟩;unfold oV;walk_at "rd";simp;exact h
 | [x],_,h=>by
  refine⟨1,?_⟩;unfold oV;walk_at "rd";simp;exact h
 | b::a::r,hs,h=>by
  have ea:((b::a::r).reverse.map pt)=(r.reverse.map pt)++[pt a,pt b]:=by simp
  have eb:((b::a::r).reverse.map pt)=((a::r).reverse.map pt)++[pt b]:=by simp
  have i2:=Nq (r.reverse.map pt) (pt a) (pt b);have i1:=Np ((a::r).reverse.map pt) (pt b);rw[<-ea] at i2;rw[<-eb] at i1;by_cases ht:bP a b p<=0
  ·have e:kN p (b::a::r)=kN p (a::r):=(by rw[kN,if_pos ht]);rw[e] at h;obtain⟨n,hn⟩:=RY E u p hp (a::r) (λz hz=>hs z (aT _ hz)) h;refine⟨n+1,?_⟩;unfold oV;generalize hW:oV (xQ (dS (r2 (mE λi j=>decide (j<i)) (r1 qZ (aL 1)) (am 1))) (dS (r2 (mE λi j=>decide (i<=j)) (cZ zD (aD (r2 bi (aL 1) (r1 zX (am 2))) (aD (r2 bi (aL 1) (r1 zX (am 1))) (aD (cG 2) aZ)))) (am 0)))) qB n E=W at hn;walk_at "rd";rw[if_pos (by simp;lia)];refine JO i2 (JO i1 ⟨a,b,p,rfl,⟨hs a (by simp),hs b (by simp),hp⟩,?_⟩);show if bP a b p<=0 then _ else _;rw[if_pos ht];unfold qB;walk_at "rd";refine⟨by simp,?_⟩;rw[eb,kJ];exact hn
  ·have e:kN p (b::a::r)=b::a::r:=(by rw[kN,if_neg ht]);rw[e] at h;refine⟨1,?_⟩;unfold oV;walk_at "rd";rw[if_pos (by simp;lia)];refine JO i2 (JO i1 ⟨a,b,p,rfl,⟨hs a (by simp),hs b (by simp),hp⟩,?_⟩);show if bP a b p<=0 then _ else _;rw[if_neg ht];exact h
def Cy (p:Pt) (s:List Pt):(kN p s).length<=s.length:=(yQ p s).length_le
def PH:∀ds Q,Et ds Q->GF zD { nx:=λ_=>Q .non,rt:=Q } (eD ["points","chain","point"] ds):=by
 rintro ds Q ⟨ps,rfl,hb,hl,q⟩;rw[cS 2 rfl];unfold GF;simp only[jB,Ur,aQ,cB,aW,bC];refine cE (λa=>a=[aa (ja ps),some (.own []),none]) (λK hK=>?_) ?_
 ·walk_at "rd";exact hK _ rfl
 rintro a rfl;refine cE (λa=>∃x:Option S,a=[aa (ja ps),some (.own ((lF ps).reverse.map pt)),x]) (λK hK=>?_) ?_
 ·walk_at "rd";refine kU (λxs a=>∃(done rest:List Pt) (x:Option S),ps=done++rest/\xs=rest.map pt/\a=[aa (ja ps),some (.own ((lF done).reverse.map pt)),x]) ?_ ?_ _ _ ⟨[],ps,none,rfl,rfl,rfl⟩
  ·rintro x xs a ⟨done,rest,u,e,ex,rfl⟩ F _ _ hn _;cases rest with
   | nil=>cases ex
   | cons z rest =>
    cases ex;have bd:∀w∈done,BP w:=λw hw=>hb w (by rw[e];simp[hw]);have bz:BP z:=hb z (by rw[e];simp);have ld:done.length<ps.length:=(by rw[e];simp);have sub:∀(L s:List Pt),(∀q∈L.foldl (λs p=>p::kN p s) s,q∈L\/q∈s)/\(L.foldl (λs p=>p::kN p s) s).length<=L.length+s.length:=by
     intro L
     induction L with
     | nil=>intro s;exact⟨λq h=>cV h,by simp⟩
     | cons y L ih =>
      intro s;obtain⟨i1,i2⟩:=ih (y::kN y s);refine⟨λq h=>?_,?_⟩
      ·rcases i1 q h with h | h
       ·exact cY (by simp[h])
       ·rcases aN.mp h with h | h
        ·exact cY (by simp[h])
        ·exact cV ((yQ y s).subset h)
      ·have:=Cy y s;simp only[qQ,bH] at i2 ⊢;lia
    obtain⟨s1,s2⟩:=sub done [];unfold yX;simp only[dC,aR,aX];refine RY _ _ z bz (lF done) (λw hw=>?_) ?_
    ·rcases s1 w hw with h | h
     ·exact bd w h
     ·cases h
    ·walk_at "rd";have l1:=Cy z (lF done);have l2:(lF done).length<=done.length:=(by simpa [lF] using s2);refine⟨⟨Jb (by simp;lia)⟩,hn _ ⟨done++[z],rest,aa (pt z),by simpa using e,rfl,?_⟩⟩;unfold lF;simp
  ·rintro a ⟨done,rest,u,e,ex,rfl⟩;have:rest=[]:=(by simpa using ex.symm);subst this;rw[eJ] at e;subst e;exact hK _ ⟨u,rfl⟩
 rintro a ⟨x,rfl⟩;walk_at "rd";have e:cutD ((lF ps).reverse.map pt) none (some (-1))=(uF ps).map pt:=by
  unfold cutD uF;rw[List.map_dropLast];generalize (lF ps).reverse.map pt=xs;have h1:HT.sIx xs.length 0 none=0:=rfl;have h2:HT.sIx xs.length xs.length (some (-1))=xs.length-1:=by
   unfold HT.sIx;simp;lia
  rw[h1,h2,QP,zP,List.dropLast_eq_take]
 rw[e];exact q
def Te (z w:Pt):pN [z.1,z.2] [w.1,w.2]=decide (bo z w):=by
 unfold bo;simp only[pN];by_cases h:z.1=w.1
 ·rw[if_pos h];by_cases h2:z.2=w.2
  ·rw[if_pos h2];simp[h,h2]
  ·rw[if_neg h2];simp[h]
 ·rw[if_neg h];simp[h]
def xZ:FD:=λds Q=>∃ps:List Pt,ds=[ja ps]/\(∀z∈ps,BP z)/\ps.length<64/\∀D r:List Pt,g8 D->(∀z,z∈D↔z∈ps)->(2<=D.length->r=GA D)->(D.length<=1->r.length<3)->r.length<=200->Q (ja r)
def ZV:∀ds Q,xZ ds Q->TQ Et { nx:=λ_=>Q .non,rt:=Q } (eD ["points","rising"] ds):=by
 rintro ds Q ⟨ps,rfl,hb,hl,q⟩;rw[cS 1 rfl];unfold TQ;walk_at "rd";unfold TL TJ;walk_at "rd";refine⟨ps.map λz=>[z.1,z.2],by rw[cM];rfl,by simpa using hl,λns h=>?_,λmss hs hm hlen=>?_⟩
 ·obtain⟨z,_,rfl⟩:=bJ.mp h;simp
 obtain⟨L,hL⟩:∃L:List Pt,mss=L.map λz=>[z.1,z.2]:=by
  have:∀ms∈mss,∃z:Pt,ms=[z.1,z.2]:=λms h=>by
   obtain⟨z,_,e⟩:=bJ.mp ((hm ms).mp h);exact⟨z,e.symm⟩
  clear hs hm hlen
  induction mss with
  | nil=>exact⟨[],rfl⟩
  | cons m mss ih =>
   obtain⟨L,e⟩:=ih λms h=>this ms (aT _ h);obtain⟨z,e2⟩:=this m (by simp);exact⟨z::L,by rw[e,e2];rfl⟩
 subst hL;have inj:∀z w:Pt,[z.1,z.2]=[w.1,w.2]->z=w:=λz w h=>by simp at h;exact lQ h.1 h.2
 have zu:∀z,z∈L↔z∈ps:=λz=>by
  have:=hm [z.1,z.2];constructor
  ·intro h;obtain⟨w,hw,e⟩:=bJ.mp (this.mp (bJ.mpr ⟨z,h,rfl⟩));rw[<-inj _ _ e];exact hw
  ·intro h;obtain⟨w,hw,e⟩:=bJ.mp (this.mpr (bJ.mpr ⟨z,h,rfl⟩));rw[<-inj _ _ e];exact hw
 have wL:Ez L:=by
  unfold Ez;refine (kO.mp hs).imp λ{a b} h=>?_;rw[Te] at h;simpa using h
 have eL:D.lst (vR oU (vR (λz:Pt=>[z.1,z.2]) L))=ja L:=by rw[cM];rfl
 have lL:L.length<=63:=by simp at hlen;lia
 have bL:∀z∈L,BP z:=λz hz=>hb z ((zu z).mp hz);obtain⟨D,HD⟩:=Ou L wL;obtain⟨o1,o2⟩:=Bp wL HD.inc HD.mem;have h1:∀M:List Pt,(uF M).length<=M.length:=λM=>by
  unfold uF;have:=Pd M;simp;lia
 rw[eL];refine⟨L,rfl,bL,by lia,L.map pt,rfl,L.reverse,by rw[<-LV],λz hz=>bL z (pW.mp hz),by simp;lia,?_⟩;have a1:=h1 L;have a2:=h1 L.reverse;rw[uD] at a2;show Sz (((uF L).map pt).length+((uF L.reverse).map pt).length)/\Q (.lst ((uF L).map pt++(uF L.reverse).map pt));refine⟨⟨Jb (by simp;lia)⟩,?_⟩;rw[<-dI];exact q D (GA L) HD.inc (λz=>(HD.mem z).trans (zu z)) o1 o2 (by unfold GA;simp;lia)
structure f6 (share:Int) (cs:List Pt) (m sh:Int) (zs:List Pt):Prop where
 mpos:0<m
 sh_eq:share=m*sh
 cs_eq:cs=zs.map λz=>(m*z.1,m*z.2)
 cop:∀d:Nat,(d:Int)∣sh->(∀z∈zs,(d:Int)∣z.1/\(d:Int)∣z.2)->d=1
def xN (ha:0<a) (hb:0<b) (e:a*x=b*y):a / (bR a b:Nat)∣y:=by
 have hg:(0:Int)<(bR a b:Nat):=by
  have:=jI (a:=a) b (by lia);lia
 obtain⟨a',ea⟩:((bR a b:Nat):Int)∣a:=lK ..;obtain⟨b',eb⟩:((bR a b:Nat):Int)∣b:=jL ..;have e1:a / (bR a b:Nat)=a':=by
  have:a / ((bR a b:Nat):Int)=(((bR a b:Nat):Int)*a') / ((bR a b:Nat):Int):=congrArg (· / ((bR a b:Nat):Int)) ea;rw[this,gN _ (by lia)]
 have e2:b / (bR a b:Nat)=b':=by
  have:b / ((bR a b:Nat):Int)=(((bR a b:Nat):Int)*b') / ((bR a b:Nat):Int):=congrArg (· / ((bR a b:Nat):Int)) eb;rw[this,gN _ (by lia)]
 have cop:bR a' b'=1:=by
  have:=qF (i:=a) (j:=b) (by have:=hg;lia);rw[e1,e2] at this;exact this
 rw[e1];have h:a'*x=b'*y:=by
  have:((bR a b:Nat):Int)*(a'*x)=((bR a b:Nat):Int)*(b'*y):=by
   rw[<-mY,<-mY,<-ea,<-eb];exact e
  exact eU (by lia) this
 have d:a'∣b'*y:=⟨x,h.symm⟩;have d2:a'.natAbs∣b'.natAbs*y.natAbs:=by rw[<-iH];exact oQ.mpr d
 exact oQ.mp (sR (show Nat.Coprime a'.natAbs b'.natAbs from cop) d2)
def WW {a b sh ca:Int} {zs jk:List Pt} (ha:0<a) (hb:0<b) (e1:a*sh=b*ca) (e2:zs.map (λz=>(a*z.1,a*z.2))=jk.map λz=>(b*z.1,b*z.2))
  (cop:∀d:Nat,(d:Int)∣ca->(∀z∈jk,(d:Int)∣z.1/\(d:Int)∣z.2)->d=1):a∣b:=by
 have len:zs.length=jk.length:=by have:=congrArg fM e2;simpa using this
 have hg:(0:Int)<(bR a b:Nat):=by
  have:=jI (a:=a) b (by lia);lia
 obtain⟨a',ea⟩:((bR a b:Nat):Int)∣a:=lK ..;have e0:a / (bR a b:Nat)=a':=by
  have:a / ((bR a b:Nat):Int)=(((bR a b:Nat):Int)*a') / ((bR a b:Nat):Int):=congrArg (· / ((bR a b:Nat):Int)) ea;rw[this,gN _ (by lia)]
 have pa:0<a':=by
  apply fA.mp;intro hn;have:((bR a b:Nat):Int)*a'<=0:=eO (by lia) hn;lia
 have one:=cop a'.toNat (by
  rw[FA (by lia),<-e0];exact xN ha hb e1) λz hz=>by
  rw[FA (by lia),<-e0];obtain⟨i,hi,rfl⟩:=eT hz;have i_:i<zs.length:=by lia
  have ei:(zs.map λz=>(a*z.1,a*z.2))[i]? = (jk.map λz=>(b*z.1,b*z.2))[i]?:=by rw[e2]
  rw[bK,bK,aG hi,aG i_] at ei;simp only[oJ,pA,fF] at ei;exact⟨xN ha hb ei.1,xN ha hb ei.2⟩
 have:a'=1:=by lia
 rw[this,wO] at ea;rw[ea];exact jL ..
def NY {a b sh ca:Int} {zs jk:List Pt} (ha:0<a) (hb:0<b) (e1:a*sh=b*ca) (e2:zs.map (λz=>(a*z.1,a*z.2))=jk.map λz=>(b*z.1,b*z.2))
  (c1:∀d:Nat,(d:Int)∣sh->(∀z∈zs,(d:Int)∣z.1/\(d:Int)∣z.2)->d=1) (c2:∀d:Nat,(d:Int)∣ca->(∀z∈jk,(d:Int)∣z.1/\(d:Int)∣z.2)->d=1):sh=ca/\zs=jk:=by
 have h1:=WW ha hb e1 e2 c2;have h2:=WW hb ha e1.symm e2.symm c1;have dq:a=b:=Int.le_antisymm (FL hb h1) (FL ha h2);subst dq;refine⟨eU (by lia) e1,?_⟩;have len:zs.length=jk.length:=by have:=congrArg fM e2;simpa using this
 apply yA len;intro i hi i_;have ei:(zs.map λz=>(a*z.1,a*z.2))[i]? = (jk.map λz=>(a*z.1,a*z.2))[i]?:=by rw[e2]
 rw[bK,bK,aG hi,aG i_] at ei;simp only[oJ,pA,fF] at ei;exact lQ (eU (by lia) ei.1) (eU (by lia) ei.2)
def f6.same (h:f6 share cs m sh zs) (h':f6 wu cs' m' ca jk) (hk:0<k) (v5:0<k') (e1:k*share=k'*wu) (e2:cs.map (λz=>(k*z.1,k*z.2))=cs'.map λz=>(k'*z.1,k'*z.2)):sh=ca/\zs=jk:=by
 refine NY (a:=k*m) (b:=k'*m') (aS hk h.mpos) (aS v5 h'.mpos) ?_ ?_ h.cop h'.cop
 ·rw[mY,mY,<-h.sh_eq,<-h'.sh_eq];exact e1
 ·rw[h.cs_eq,h'.cs_eq,cM,cM] at e2;simp only[IP,<-mY] at e2;exact e2
structure vf (ps:List Pt) (z:Pt) (T:List Pt):Prop where
 cvx:bB (z::T)
 least:∀q∈T,¬bo q z
 mem:∀q∈z::T,q∈ps
 left:∀a b,au (z::T) a b->∀q∈ps,0<=bP a b q
def K5 (ps:List Pt):Prop:=∀D,g8 D->(∀z,z∈D↔z∈ps)->2<=D.length->(GA D).length<3
def rF:FD:=λds Q=>∃(share:Int) (ps:List Pt),ds=[.int share,ja ps]/\(0<share/\BL 9000 share)/\(∀z∈ps,BP z)/\ps.length<64 /\
 ((∃z T,vf ps z T/\∀m sh zs,f6 share (z::T) m sh zs->Q (.tup [.int sh,.tup (zs.map pt)]))\/(K5 ps/\Q .non))
def ZW:∀ds Q,rF ds Q->TR xZ BT { nx:=λ_=>Q .non,rt:=Q } (eD ["share","points","corners","divisor","x","y"] ds):=by
 rintro ds Q ⟨share,ps,rfl,⟨hs,bs⟩,hb,hl,hq⟩;rw[cS 4 rfl];unfold TR;simp only[jB,Mm,aQ,cB,aW,bC];refine cE (λi=>∃r:List Pt,r.length<=200/\((r.length<3/\Q .non)\/(3<=r.length/\∀m sh zs,f6 share r m sh zs->Q (.tup [.int sh,.tup (zs.map pt)])))/\i=[aa (.int share),aa (ja ps),aa (ja r),none,none,none]) (λK hK=>?_) ?_
 ·walk_at "rd";refine⟨ps,rfl,hb,hl,λD r iD hm h2 h1 hr=>hK _ ⟨r,hr,?_,rfl⟩⟩;rcases hq with ⟨z,T,R,q⟩ | ⟨fl,q⟩
  ·have sub:3<=D.length:=by
    have:=xP (z::T) D R.cvx.nodup λx hx=>(hm x).mpr (R.mem x hx);have:=R.cvx.len;lia
   have e:=AK (L:=ps) iD R.cvx R.least (λx hx=>(hm x).mpr (R.mem x hx)) λa b dq x hx=>R.left a b dq x ((hm x).mp hx);have er:=h2 (by lia);rw[e] at er;subst er;exact cV ⟨R.cvx.len,q⟩
  ·refine cY ⟨?_,q⟩;by_cases hd:2<=D.length
   ·rw[h2 hd];exact fl D iD hm hd
   ·exact h1 (by lia)
 rintro i ⟨r,hr,hq,rfl⟩;rcases hq with ⟨h3,q⟩ | ⟨h3,q⟩
 ·walk_at "rd";rw[if_pos (by simp;lia)];exact q
 refine cE (λi=>i=[aa (.int share),aa (ja ps),aa (ja r),none,none,none]) (λK hK=>?_) ?_
 ·walk_at "rd";rw[if_neg (by simp;lia)];exact hK _ rfl
 rintro i rfl;refine cE (λi=>i=[aa (.int share),aa (ja ps),aa (ja r),aa (.int share),none,none]) (λK hK=>?_) ?_
 ·walk_at "rd";exact hK _ rfl
 rintro i rfl;refine cE (λi=>∃(g:Nat) (x y:Option S),fw share r g/\i=[aa (.int share),aa (ja ps),aa (ja r),aa (.int g),x,y]) (λK hK=>?_) ?_
 ·walk_at "rd";refine kU (λxs i=>∃(done rest:List Pt) (g:Nat) (x y:Option S),r=done++rest/\xs=rest.map pt/\fw share done g/\i=[aa (.int share),aa (ja ps),aa (ja r),aa (.int g),x,y]) ?_ ?_ _ _ ⟨[],r,share.toNat,none,none,rfl,rfl,⟨by lia,?_,by simp,λd e1 _=>?_⟩,?_⟩
  ·rintro x xs i ⟨done,rest,g,u,v,e,ex,hg,rfl⟩ F _ _ hn _;cases rest with
   | nil=>cases ex
   | cons z rest =>
    cases ex;unfold GK;walk_at "rd";refine⟨_,_,rfl,_,_,rfl,?_⟩;exact hn _ ⟨done++[z],rest,_,_,_,by simpa using e,rfl,hg.snoc z,rfl⟩
  ·rintro i ⟨done,rest,g,u,v,e,ex,hg,rfl⟩;have:rest=[]:=(by simpa using ex.symm);subst this;rw[eJ] at e;subst e;exact hK _ ⟨g,u,v,hg,rfl⟩
  ·have:(share.toNat:Int)=share:=(by lia);rw[this];exact pS _
  ·have:(share.toNat:Int)=share:=by lia
   exact_mod_cast (by rw[this];exact e1:(d:Int)∣(share.toNat:Int))
  ·have:(share.toNat:Int)=share:=(by lia);rw[this]
 rintro i ⟨g,x,y,hg,rfl⟩;have gp:(0:Int)<g:=by have:=hg.pos;lia
 have gb:BL 9000 (g:Int):=hg.bl hs bs;obtain⟨zs,ez⟩:∃zs,zs=r.map λz=>(z.1 / (g:Int),z.2 / (g:Int)):=⟨_,rfl⟩;have ec:r=zs.map λz=>((g:Int)*z.1,(g:Int)*z.2):=by
  rw[ez,cM];symm
  conv=>rhs;rw[<-pF r]
  refine nE λz hz=>?_;obtain⟨a,b⟩:=hg.all z hz;simp only[FK,id,jD a,jD b]
 obtain⟨sh,es⟩:=hg.sh;have ediv:share.fdiv g=sh:=by
  rw[cT _ (by lia),es,gN _ (by lia)]
 walk_at "rd";refine⟨gb.divOk (by lia),?_⟩;refine⟨mF (by simp;lia),?_⟩;refine sA (λi=>∃a b,i=[a,b,aa (.int g)]) pt (λz=>pt (z.1 / (g:Int),z.2 / (g:Int))) r ?_ ⟨_,_,rfl⟩ ?_
 ·rintro z hz i ⟨a,b,rfl⟩ K' ki;walk_at "rd";refine⟨gb.divOk (by lia),gb.divOk (by lia),?_⟩;rw[cT _ (by lia),cT _ (by lia)];exact ki _ ⟨_,_,rfl⟩
 ·have e:vR (λz:Pt=>pt (z.1 / (g:Int),z.2 / (g:Int))) r=zs.map pt:=by rw[ez,cM];rfl
  rw[ediv,e];refine q g sh zs ⟨gp,es,ec,λd h1 h2=>?_⟩;have:=hg.most (d*g) (by
   rw[es];push_cast;obtain⟨c,ec⟩:=h1;exact⟨c,by rw[ec];grind⟩) λz hz=>by
   rw[ec] at hz;obtain⟨w,hw,rfl⟩:=bJ.mp hz;obtain⟨⟨c1,e1⟩,c2,e2⟩:=h2 w hw
   push_cast
   exact⟨⟨c1,by rw[e1];grind⟩,c2,by rw[e2];grind⟩
  have le:=tM hg.pos this;have d0:d≠0:=by
   rintro rfl;rw[Nat.zero_mul] at this;have:=yE this;have:=hg.pos;lia
  apply Nat.le_antisymm ?_ (by lia);apply Nat.not_lt.mp;intro h;have:2*g<=d*g:=CC _ h;have:=hg.pos;lia
def ic {α:Type} (A B:List α):Prop:=∃X Y,A=X++Y/\B=Y++X
def ic.refl {α:Type} (A:List α):ic A A:=⟨A,[],by simp,by simp⟩
def ic.symm {α:Type} {A B:List α} (h:ic A B):ic B A:=by obtain⟨X,Y,a,b⟩:=h;exact⟨Y,X,b,a⟩
def ic.trans {α:Type} {A B C:List α} (h:ic A B) (k:ic B C):ic A C:=by
 obtain⟨X,Y,rfl,rfl⟩:=h;obtain⟨X',Y',e,rfl⟩:=k;rcases List.append_eq_append_iff.mp e with ⟨W,e1,e2⟩ | ⟨W,e1,e2⟩
 ·-- X'=Y++W
  exact⟨W,Y'++Y,by rw[e2];simp,by rw[e1];simp⟩
 ·exact⟨X++X',W,by rw[e1];simp,by rw[e2];simp⟩
def ic.map {α β:Type} {A B:List α} (f:α->β) (h:ic A B):ic (A.map f) (B.map f):=by
 obtain⟨X,Y,rfl,rfl⟩:=h;exact⟨X.map f,Y.map f,by simp,by simp⟩
def ic.mem {α:Type} {A B:List α} (h:ic A B) (x:α):x∈A↔x∈B:=by
 obtain⟨X,Y,rfl,rfl⟩:=h;simp[or_comm]
def ic.nodup {α:Type} {A B:List α} (h:ic A B) (n:A.Nodup):B.Nodup:=by
 obtain⟨X,Y,rfl,rfl⟩:=h;rw[wS] at n ⊢;exact⟨n.2.1,n.1,λa ha b hb e=>n.2.2 b hb a ha e.symm⟩
theorem ic.head {α:Type} {z:α} {S T:List α} (h:ic (z::S) (z::T)) (n:(z::S).Nodup):S=T:=by
 obtain⟨X,Y,e1,e2⟩:=h;cases X with
 | nil=>simp at e1 e2;rw[<-e1] at e2;exact (xH e2).2.symm
 | cons x X =>
  cases Y with
  | nil=>simp at e1 e2;rw[e1.2,e2.2]
  | cons y Y =>
   simp at e1 e2;have h1:=(fJ.mp n).1;rw[e1.2] at h1;exact absurd (by rw[<-e2.1];simp) h1
def ic.least {z w:Pt} {S T:List Pt} (h:ic (z::S) (w::T)) (n:(z::S).Nodup) (l1:∀q∈S,¬bo q z) (l2:∀q∈T,¬bo q w):z::S=w::T:=by
 have hz:z∈w::T:=(h.mem z).mp (by simp);have hw:w∈z::S:=(h.mem w).mpr (by simp);have e:z=w:=by
  rcases aN.mp hz with e | hz
  ·exact e
  ·rcases aN.mp hw with e | hw
   ·exact e.symm
   ·rcases qS z w with h | h | h
    ·exact absurd h (l2 z hz)
    ·exact h
    ·exact absurd h (l1 w hw)
 subst e;rw[h.head n]
def bB.rot (h:ic A B) (c:bB A):bB B:=by obtain⟨X,Y,rfl,rfl⟩:=h;exact c.swap
def CY (cs:List Pt) (fx:cs≠[]):∃z T,ic cs (z::T)/\∀q∈T,¬bo q z:=by
 have:∃z∈cs,∀q∈cs,¬bo q z:=by
  induction cs with
  | nil=>exact absurd rfl fx
  | cons c cs ih =>
   by_cases hc:cs=[]
   ·subst hc;exact⟨c,by simp,λq hq=>by simp at hq;subst hq;exact uS⟩
   ·obtain⟨z,hz,hl⟩:=ih hc;rcases qS c z with h | h | h
    ·refine⟨c,by simp,λq hq=>?_⟩;rcases aN.mp hq with rfl | hq
     ·exact uS
     ·exact λk=>hl q hq (rK k h)
    ·subst h;refine⟨c,by simp,λq hq=>?_⟩;rcases aN.mp hq with rfl | hq
     ·exact uS
     ·exact hl q hq
    ·refine⟨z,by simp[hz],λq hq=>?_⟩;rcases aN.mp hq with rfl | hq
     ·exact uZ h
     ·exact hl q hq
 obtain⟨z,hz,hl⟩:=this;obtain⟨X,Y,rfl⟩:=nX hz;exact⟨z,Y++X,⟨X,z::Y,rfl,rfl⟩,λq hq=>hl q (by simp at hq ⊢;rcases hq with h | h <;> simp[h])⟩
abbrev scl (k:Int) (z:Pt):Pt:=(k*z.1,k*z.2)
def HZ (hk:0<k):bo (scl k a) (scl k b)↔bo a b:=by
 unfold bo scl;dsimp only;rw[EZ hk,EZ hk];constructor
 ·rintro (h | ⟨h,h'⟩)
  ·exact cY h
  ·exact cV ⟨eU (by lia) h,h'⟩
 ·rintro (h | ⟨h,h'⟩)
  ·exact cY h
  ·exact cV ⟨by rw[h],h'⟩
def LF (hk:0<k) (h:scl k a=scl k b):a=b:=by
 simp only[scl,fF] at h;exact lQ (eU (by lia) h.1) (eU (by lia) h.2)
def Ea (k:Int) (a b c:Pt):bP (scl k a) (scl k b) (scl k c)=k*k*bP a b c:=by unfold bP scl;dsimp only;grind
def bB.unscl (hk:0<k) (h:bB (cs.map (scl k))):bB cs:=by
 refine⟨by simpa using h.len,?_,λa b dq q hq n1 n2=>?_⟩
 ·exact BV (scl k) (λa b hn e=>hn (by rw[e])) h.nodup
 ·have c:au (cs.map (scl k)) (scl k a) (scl k b):=by
   obtain⟨l,r,e⟩:=dq;refine⟨l.map (scl k),r.map (scl k),?_⟩;rw[<-kG,<-dI,e];simp
  have:=h.strict _ _ c (scl k q) (cO hq) (λe=>n1 (LF hk e)) λe=>n2 (LF hk e);rw[Ea] at this;exact iE (by rw[iY];exact this) (aS hk hk)
def Ng:FD:=λds Q=>∃a b:Int,ds=[.int a,.int b]/\(0<a/\0<b)/\(BL 8000 a/\BL 8000 b)/\∀l,0<l->a∣l->b∣l->l<=a*b->Q (.int l)
def DK:∀ds Q,Ng ds Q->wB BT { nx:=λ_=>Q .non,rt:=Q } (eD ["one","other"] ds):=by
 rintro ds Q ⟨a,b,rfl,⟨ha,hb⟩,⟨ba,bb⟩,q⟩;rw[cS 0 rfl];unfold wB;walk_at "rd";refine⟨a,b,rfl,?_⟩;have hg:=PU (a:=a) (b:=b) (by lia);have bg:=BL.gcd (a:=a) (b:=b) (by lia) bb;walk_at "rd";have b2:BL 8000 (b.fdiv (bR a b:Nat)):=bb.fdiv;refine⟨(bg.mono).divOk (by lia),ba.mulOk b2,?_⟩;obtain⟨c,ec⟩:((bR a b:Nat):Int)∣b:=jL ..;obtain⟨d,ed⟩:((bR a b:Nat):Int)∣a:=lK ..;have e1:b.fdiv (bR a b:Nat)=c:=by
  rw[cT _ (by lia)];have:b / ((bR a b:Nat):Int)=(((bR a b:Nat):Int)*c) / ((bR a b:Nat):Int):=congrArg (· / ((bR a b:Nat):Int)) ec;rw[this,gN _ (by lia)]
 rw[e1];generalize hG:((bR a b:Nat):Int)=g at *;have pc:0<c:=by
  apply fA.mp;intro hn;have:g*c<=0:=eO (by lia) hn;lia
 refine q _ (aS ha pc) (IQ ..) ⟨d,by rw[ed,ec];grind⟩ ?_;rw[ec];have:0<=a*((g-1)*c):=eV (by lia) (eV (by lia) (by lia));have e:a*(g*c)=a*c+a*((g-1)*c):=by grind
 lia
abbrev mv (k r w:Int) (z:Pt):Pt:=(k*z.1+r,k*z.2+w)
structure qh (df:Int) (cs:List Pt) (sign p q u v:Int) (sh:Int) (zs:List Pt):Prop where
 ex:∃(κ s r w m:Int) (z:Pt) (T:List Pt),(0<κ/\s=κ*df/\s<=df*q*v)/\(r*q=p*s/\w*v=u*s)/\ic (cs.map (mv (sign*κ) r w)) (z::T)/\(∀q∈T,¬bo q z)/\bB (z::T)/\f6 s (z::T) m sh zs
def vL:FD:=λds Q=>∃(df sign p q u v:Int) (cs:List Pt),ds=[.tup [.int df,.tup (cs.map pt)],.tup [.int sign,.tup [.int p,.int q],.tup [.int u,.int v]]]/\(0<df/\0<q/\0<v/\(sign=1\/sign = -1)) /\
 (BL 2000 df/\BL 2000 q/\BL 2000 v/\BL 7000 p/\BL 7000 u)/\(∀z∈cs,BL 7000 z.1/\BL 7000 z.2)/\bB cs/\cs.length<64/\∀sh zs,qh df cs sign p q u v sh zs->Q (.tup [.int sh,.tup (zs.map pt)])
def ZI (k r w:Int) (a b c:Pt):bP (mv k r w a) (mv k r w b) (mv k r w c)=k*k*bP a b c:=by unfold bP mv;dsimp only;grind
def Pr (hk:k≠0) (h:mv k r w a=mv k r w b):a=b:=by
 simp only[mv,fF] at h;have h1:k*a.1=k*b.1:=by lia
 have h2:k*a.2=k*b.2:=by lia
 exact lQ (eU hk h1) (eU hk h2)
def Zp {k:Int} (h:k≠0):0<k*k:=by
 rcases GR h with h | h
 ·have:=aS (a:=-k) (b:=-k) (by lia) (by lia)
  rwa [Int.neg_mul_neg] at this
 ·exact aS h h
def Ar (h0:0<a) (h:a<=b) (hb:BL n b):BL n a:=hb.le (by lia)
def Dr:∀ds Q,vL ds Q->XJ rF Ng { nx:=λ_=>Q .non,rt:=Q } (eD ["piece","move","dx","dy","share","scale","right","up"] ds):=by
 rintro ds Q ⟨df,sign,p,q,u,v,cs,rfl,⟨h0,hq,hv,hs⟩,⟨b0,bq,bv,bp,bu⟩,bc,cv,hl,hQ⟩;rw[cS 6 rfl];unfold XJ;simp only[jB,Ut,aQ,cB,aW,bC];generalize hP:D.tup [.int df,.tup (cs.map pt)]=PD;generalize hM:D.tup [.int sign,.tup [.int p,.int q],.tup [.int u,.int v]]=MD;refine cE (λf=>f=[aa PD,aa MD,aa (.tup [.int p,.int q]),none,none,none,none,none]) (λK hK=>?_) ?_
 ·rw[<-hP,<-hM] at hK ⊢;walk_at "rd";exact hK _ rfl
 rintro f rfl;refine cE (λf=>f=[aa PD,aa MD,aa (.tup [.int p,.int q]),aa (.tup [.int u,.int v]),none,none,none,none]) (λK hK=>?_) ?_
 ·rw[<-hP,<-hM] at hK ⊢;walk_at "rd";exact hK _ rfl
 rintro f rfl;refine cE (λf=>∃s:Int,(0<s/\df∣s/\q∣s/\v∣s/\s<=df*q*v)/\f=[aa PD,aa MD,aa (.tup [.int p,.int q]),aa (.tup [.int u,.int v]),aa (.int s),none,none,none]) (λK hK=>?_) ?_
 ·rw[<-hP,<-hM] at hK ⊢;walk_at "rd";refine⟨df,q,rfl,⟨h0,hq⟩,⟨b0.mono,bq.mono⟩,λl l0 l1 l2 l3=>?_⟩;refine⟨l,v,rfl,⟨l0,hv⟩,⟨(Ar l0 l3 (b0.mul bq)).mono,bv.mono⟩,λs s0 s1 s2 s3=>?_⟩;refine hK _ ⟨s,⟨s0,mW l1 s1,mW l2 s1,s2,?_⟩,rfl⟩;exact zG s3 (Int.mul_le_mul_of_nonneg_right l3 (by lia))
 rintro f ⟨s,⟨s0,⟨g,e1⟩,⟨cq,e2⟩,⟨rq,e3⟩,s4⟩,rfl⟩;have bs:BL 6000 s:=Ar s0 s4 ((b0.mul bq).mul bv);have pk:0<g:=by
  apply fA.mp;intro hn;have:df*g<=0:=eO (by lia) hn;lia
 have d1:s.fdiv df=g:=by rw[cT _ (by lia),e1,gN _ (by lia)]
 have d2:s.fdiv q=cq:=by rw[cT _ (by lia),e2,gN _ (by lia)]
 have d3:s.fdiv v=rq:=by rw[cT _ (by lia),e3,gN _ (by lia)]
 have bk:BL 6000 g:=by rw[<-d1];exact bs.fdiv
 have bcq:BL 6000 cq:=by rw[<-d2];exact bs.fdiv
 have bcv:BL 6000 rq:=by rw[<-d3];exact bs.fdiv
 have bsg:BL 1 sign:=by rcases hs with rfl | rfl <;> exact BL.const (by decide)
 refine cE (λf=>f=[aa PD,aa MD,aa (.tup [.int p,.int q]),aa (.tup [.int u,.int v]),aa (.int s),aa (.int (sign*g)),none,none]) (λK hK=>?_) ?_
 ·rw[<-hP,<-hM] at hK ⊢;walk_at "rd";rw[d1];exact⟨(b0.mono).divOk (by lia),bsg.mulOk bk,hK _ rfl⟩
 rintro f rfl;refine cE (λf=>f=[aa PD,aa MD,aa (.tup [.int p,.int q]),aa (.tup [.int u,.int v]),aa (.int s),aa (.int (sign*g)),aa (.int (p*cq)),none]) (λK hK=>?_) ?_
 ·rw[<-hP,<-hM] at hK ⊢;walk_at "rd";rw[d2];exact⟨(bq.mono).divOk (by lia),bp.mulOk bcq,hK _ rfl⟩
 rintro f rfl;refine cE (λf=>f=[aa PD,aa MD,aa (.tup [.int p,.int q]),aa (.tup [.int u,.int v]),aa (.int s),aa (.int (sign*g)),aa (.int (p*cq)),aa (.int (u*rq))]) (λK hK=>?_) ?_
 ·rw[<-hP,<-hM] at hK ⊢;walk_at "rd";rw[d3];exact⟨(bv.mono).divOk (by lia),bu.mulOk bcv,hK _ rfl⟩
 rintro f rfl;rw[<-hP];have L':=bsg.mul bk;walk_at "rd";refine⟨mF (by simp;lia),?_⟩;refine sA (λf=>∃a b,f=[a,b,aa (.int (sign*g)),aa (.int (p*cq)),aa (.int (u*rq))]) pt (λz=>pt (mv (sign*g) (p*cq) (u*rq) z)) cs ?_ ⟨_,_,rfl⟩ ?_
 ·rintro z hz f ⟨a,b,rfl⟩ K' ki;walk_at "rd";obtain⟨z1,z2⟩:=bc z hz;exact⟨L'.mulOk z1,L'.mulOk z2,ki _ ⟨_,_,rfl⟩⟩
 have hk0:sign*g≠0:=by rcases hs with rfl | rfl <;> lia
 have cv2:bB (cs.map (mv (sign*g) (p*cq) (u*rq))):=cv.map (Zp hk0) (ZI _ _ _) λa b h=>Pr hk0 h;obtain⟨z,T,rot,least⟩:=CY (cs.map (mv (sign*g) (p*cq) (u*rq))) (by intro e;have:=cv2.len;rw[e] at this;simp at this);have cz:=bB.rot rot cv2;refine⟨s,cs.map (mv (sign*g) (p*cq) (u*rq)),by show _=[D.int s,.lst (vR pt (vR (mv (sign*g) (p*cq) (u*rq)) cs))];rw[cM];rfl,⟨s0,bs.mono⟩,λw hw=>?_,by simpa using hl,cY ⟨z,T,⟨cz,least,λa ha=>(rot.mem a).mpr ha,λa b dq c hc=>cz.side dq ((rot.mem c).mp hc)⟩,λm sh zs N=>hQ sh zs ⟨g,s,p*cq,u*rq,m,z,T,⟨pk,by rw[e1];exact iY ..,s4⟩,⟨by rw[e2];grind,by rw[e3];grind⟩,rot,least,cz,N⟩⟩⟩;obtain⟨x,hx,rfl⟩:=bJ.mp hw;obtain⟨x1,x2⟩:=bc x hx;exact⟨((L'.mul x1).add (bp.mul bcq)).mono,((L'.mul x2).add (bu.mul bcv)).mono⟩
section
abbrev gF (F:Int) (t:H3):Pt:=(t.1*(F / t.2.2),t.2.1*(F / t.2.2))
structure g7 (F:Int) (t:H3):Prop where
 w:0<t.2.2
 f:0<F / t.2.2
 e:F / t.2.2*t.2.2=F
def g7.of (hF:0<F) (hw:0<t.2.2) (hd:t.2.2∣F):g7 F t:=by
 have e:=nD hd;refine⟨hw,?_,e⟩;apply fA.mp;intro h;have:F / t.2.2*t.2.2<=0:=dQ h (by lia);lia
def ZB (hp:g7 F p) (hq:g7 F q) (hr:g7 F r):F*bP (gF F p) (gF F q) (gF F r)=(F / p.2.2*(F / q.2.2)*(F / r.2.2))*fZ p q r:=by
 have e1:=hp.e;have e2:=hq.e;have e3:=hr.e;unfold bP gF fZ;dsimp only;generalize F / p.2.2=f1 at *;generalize F / q.2.2=f2 at *;generalize F / r.2.2=f3 at *;grind
def Fv (hp:g7 F p) (hq:g7 F q) (hr:g7 F r):0<F / p.2.2*(F / q.2.2)*(F / r.2.2):=aS (aS hp.f hq.f) hr.f
def wA {a b:Int} (ha:0<a) (h:0<a*b):0<b:=by
 apply fA.mp;intro hb;have:a*b<=0:=eO (by lia) hb;lia
def FX {a b:Int} (ha:0<a) (h:0<=a*b):0<=b:=by
 apply jY.mp;intro hb;have:0<a*(-b):=aS ha (by lia);have:a*(-b) = -(a*b):=Int.mul_neg ..;lia
theorem Pm.w_pos (h:Pm L cs t):0<t.2.2:=by
 cases h with
 | corner hu h=>exact (by decide:(0:Int)<1)
 | cross hc h=>have:=IE h;lia
def Cr (h:gn (l.map f) a b):∃p q,GZ l p q/\a=f p/\b=f q:=by
 obtain⟨x,y,e⟩:=h;obtain⟨l1,l2,rfl,e1,e2⟩:=rV.mp e;obtain⟨p,l3,rfl,e3,e4⟩:=kK.mp e2;obtain⟨q,l4,rfl,e5,e6⟩:=kK.mp e4;exact⟨p,q,⟨l1,l4,rfl⟩,e3.symm,e5.symm⟩
theorem C9 (hp:p∈P):∃q∈P,GZ (P++P.take 1) p q:=by
 obtain⟨X,Y,rfl⟩:=nX hp;cases Y with
 | cons q Y=>exact⟨q,by simp,X,Y++(X++p::q::Y).take 1,by simp⟩
 | nil =>
  cases X with
  | nil=>exact⟨p,by simp,[],[],by simp⟩
  | cons x X=>exact⟨x,by simp,x::X,[],by simp⟩
def Vg (a b:Pt):bP a a b=0:=by unfold bP;grind
def Xl (c:bB cs) (gr:∃w∈cs,0<ae L w) (i8:∃w∈cs,ae L w<0) (h:ou L cs P) (hF:0<F) (kh:∀t∈P,g7 F t):bB (P.map (gF F)):=by
 have inj:∀p∈P,∀q∈P,gF F p=gF F q->p=q:=by
  intro p hp q hq e;apply cI;intro ne;obtain⟨q',wb,hn⟩:=C9 hp;have A:=h.adj p q' hn;by_cases e':q'=q
  ·subst e';have:∃r∈P,r≠p/\r≠q':=by
    apply cI;intro zf;have:=len_sub P [p,q'] h.nodup λx hx=>by
     apply cI;intro me;simp at me;exact zf ⟨x,hx,me.1,me.2⟩
    have:=h.len;simp at *;lia
   obtain⟨r,hr,r1,r2⟩:=this;have s:=HJ c gr i8 A (h.pm r hr) r1 r2;have t:=ZB (kh p hp) (kh q' wb) (kh r hr);rw[e,Vg] at t;have:=aS (Fv (kh p hp) (kh q' wb) (kh r hr)) s;lia
  ·have s:=HJ c gr i8 A (h.pm q hq) (Ne.symm ne) (Ne.symm e');have t:=ZB (kh p hp) (kh q' wb) (kh q hq);rw[<-e,Hj] at t;have:=aS (Fv (kh p hp) (kh q' wb) (kh q hq)) s;lia
 refine⟨by simpa using h.len,?_,λa b dq q hq n1 n2=>?_⟩
 ·unfold jZ;rw[kO];refine List.Pairwise.imp_of_mem ?_ h.nodup;intro a b ha hb hn e;exact hn (inj a ha b hb e)
 ·have Z0:gn ((P++P.take 1).map (gF F)) a b:=by rw[dI,kG];exact dq
  obtain⟨p,p',hn,rfl,rfl⟩:=Cr Z0;obtain⟨r,hr,rfl⟩:=bJ.mp hq;have mem:p∈P/\p'∈P:=by
   obtain⟨x,y,e⟩:=hn;have sub:∀t,t∈P++P.take 1->t∈P:=λt ht=>by
    rcases cJ.mp ht with h | h
    ·exact h
    ·exact kL h
   exact⟨sub p (by rw[e];simp),sub p' (by rw[e];simp)⟩
  have s:=HJ c gr i8 (h.adj p p' hn) (h.pm r hr) (λe=>n1 (by rw[e])) λe=>n2 (by rw[e]);have t:=ZB (kh p mem.1) (kh p' mem.2) (kh r hr);have u:=aS (Fv (kh p mem.1) (kh p' mem.2) (kh r hr)) s;rw[<-t] at u;exact wA hF u
def XR (c:bB cs) (gr:∃w∈cs,0<ae L w) (h:ou L cs P):(P.filter λt=>decide (t.2.2≠1)).length<=2:=by
 obtain⟨p,q,hp,hq,_⟩:=h.line;have:=len_sub (P.filter λt=>decide (t.2.2≠1)) [p,q] (h.nodup.filter _) λx hx=>by
  obtain⟨hx,hw⟩:=kX.mp hx;simp only[decide_eq_true_eq] at hw;have pm:=h.pm x hx;have z:c7 L x=0:=by
   cases pm with
   | corner hu h=>exact absurd rfl hw
   | cross hc h=>exact II h
  rcases XT c gr pm z with k | k
  ·rw[Bu c k hp];simp
  ·rw[WO c k hq];simp
 simpa using this
def jW:List H3->Int
 | []=>1
 | t::P=>t.2.2*jW P
theorem KR:∀(A B:List H3),jW (A++B)=jW A*jW B
 | [],B=>by simp[jW]
 | a::A,B=>by show a.2.2*jW (A++B)=a.2.2*jW A*jW B;rw[KR A B];grind
theorem AI:∀(P:List H3),jW P=jW (P.filter λt=>decide (t.2.2≠1))
 | []=>rfl
 | t::P=>by
  rw[pV];by_cases h:t.2.2=1
  ·rw[if_neg (by simp[h])];show t.2.2*jW P=_;rw[h,Int.one_mul];exact AI P
  ·rw[if_pos (by simp[h])];show t.2.2*jW P=t.2.2*_;rw[AI P]
theorem XA:∀(P:List H3),∀t∈P,t.2.2∣jW P
 | [],t,h=>by simp at h
 | a::P,t,h=>by
  rcases aN.mp h with rfl | h
  ·exact IQ ..
  ·exact mW (XA P t h) (Int.dvd_mul_left ..)
theorem XB:∀(P:List H3),(∀t∈P,0<t.2.2)->0<jW P
 | [],_=>by simp[jW]
 | a::P,h=>aS (h a (by simp)) (XB P λt ht=>h t (by simp[ht]))
end
def dz (x y:Pt):Int:=x.1*y.2-x.2*y.1
def Rr (o x y:Pt):bP o x y=dz x y+dz o x-dz o y:=by unfold bP dz;grind
theorem XC (o:Pt):∀(a:Pt) (l:List Pt),f7 (bP o) a l=f7 dz a l+dz o a-dz o (kZ a l)
 | a,[]=>by show (0:Int)=0+dz o a-dz o a;lia
 | a,b::l=>by
  show bP o a b+f7 (bP o) b l=dz a b+f7 dz b l+dz o a-dz o (kZ b l);rw[XC o b l,Rr];lia
theorem RF (o:Pt) (l:List Pt):nB (bP o) l=nB dz l:=by
 cases l with
 | nil=>rfl
 | cons z T =>
  show f7 (bP o) z (T++[z])=f7 dz z (T++[z]);rw[XC,mQ];lia
theorem Jo {α β:Type} (f:β->β->Int) (g:α->β):∀(a:α) (l:List α),f7 f (g a) (l.map g)=f7 (λx y=>f (g x) (g y)) a l
 | a,[]=>rfl
 | a,b::l=>by
  show f (g a) (g b)+f7 f (g b) (l.map g)=f (g a) (g b)+_;rw[Jo f g b l]
theorem RC {α β:Type} (f:β->β->Int) (g:α->β) (l:List α):nB f (l.map g)=nB (λx y=>f (g x) (g y)) l:=by
 cases l with
 | nil=>rfl
 | cons z T =>
  show f7 f (g z) (T.map g++[g z])=f7 _ z (T++[z]);rw[<-Jo f g z (T++[z])];simp
theorem Jp {α:Type} (k:Int) (f:α->α->Int):∀(a:α) (l:List α),f7 (λx y=>k*f x y) a l=k*f7 f a l
 | a,[]=>by show (0:Int)=k*0;lia
 | a,b::l=>by
  show k*f a b+f7 _ b l=k*(f a b+f7 f b l);rw[Jp k f b l,Int.mul_add]
theorem RD {α:Type} (k:Int) (f:α->α->Int) (l:List α):nB (λx y=>k*f x y) l=k*nB f l:=by
 cases l with
 | nil=>show (0:Int)=k*0;lia
 | cons z T=>exact Jp k f z (T++[z])
def CK (k:Int) (l:List Pt):nB dz (l.map (scl k))=k*k*nB dz l:=by
 rw[RC,<-RD];congr 1;funext x y;unfold dz scl;dsimp only;grind
def HN {f:Pt->Pt->Int} {A B:List Pt} (h:ic A B):nB f A=nB f B:=by
 obtain⟨X,Y,rfl,rfl⟩:=h;exact Be f X Y
section
variable {L:a_}
def uv (L:a_) (G:Int) (x:Pt):Prop:=L.a*x.1+L.b*x.2=L.k*G
theorem Cu {x y z:Pt} (dq:L.a≠0\/L.b≠0) (hx:uv L G x) (hy:uv L G y) (hz:uv L G z):bP x y z=0:=by
 unfold uv at *;rcases dq with h | h
 ·refine eU h ?_;have e1:L.a*(y.1-x.1) = -(L.b*(y.2-x.2)):=by grind
  have e2:L.a*(z.1-x.1) = -(L.b*(z.2-x.2)):=by grind
  have:L.a*bP x y z=(L.a*(y.1-x.1))*(z.2-x.2)-(L.a*(z.1-x.1))*(y.2-x.2):=by unfold bP;grind
  rw[this,e1,e2];grind
 ·refine eU h ?_;have e1:L.b*(y.2-x.2) = -(L.a*(y.1-x.1)):=by grind
  have e2:L.b*(z.2-x.2) = -(L.a*(z.1-x.1)):=by grind
  have:L.b*bP x y z=(L.b*(z.2-x.2))*(y.1-x.1)-(L.b*(y.2-x.2))*(z.1-x.1):=by unfold bP;grind
  rw[this,e1,e2];grind
end
def PN:FD:=λds Q=>∃(x:D) (a b:D) (t:List D),ds=[x]/\(x = .tup (a::b::t)\/x = .lst (a::b::t))/\t.length<=1000/\Q (.lst (mL (λu v=>D.tup [u,v]) (a::b::t) (b::t++[a])))
def PK:∀ds Q,PN ds Q->GJ { nx:=λ_=>Q .non,rt:=Q } (eD ["ones"] ds):=by
 rintro ds Q ⟨x,a,b,t,rfl,hx,hl,q⟩;rw[cS 0 rfl];unfold GJ;have c1:cutD (a::b::t) (some 1) none=b::t:=WJ (j:=1) (by simp);have c2:cutD (a::b::t) none (some 1)=[a]:=Ig (j:=1) (by simp);have s1:HT.sIx (a::b::t).length 0 (some 1)=1:=by rw[show (some (1:Int))=some ((1:Nat):Int) from rfl,HT.sIx_nat];simp
 have s2:HT.sIx (a::b::t).length (a::b::t).length (some 1)=1:=by rw[show (some (1:Int))=some ((1:Nat):Int) from rfl,HT.sIx_nat];simp
 rcases hx with rfl | rfl
 ·simp only[jB,gM,Hc,aL,r2,ZY,DM,sK,rC,CL,aQ,cB,FG,eJ,aE,S.val];refine⟨λh=>by rw[s1] at h;exact absurd h.1 (by decide),λh=>by rw[s2] at h;have:=h.2;simp at this,?_⟩;rw[c1,c2];refine⟨by simp,mF (by simp;lia),_,_,rfl,rfl,by simp,q⟩
 ·simp only[jB,gM,Hc,aL,r2,ZY,DM,sK,rC,CL,aQ,cB,FG,eJ,aE,S.val];rw[c1,c2];refine⟨mF (by simp;lia),_,_,rfl,rfl,by simp,q⟩
abbrev cr (a b:Int × Int):Int:=a.1*b.2-a.2*b.1
def chain (a:Int × Int):List (Int × Int)->Int
 | []=>0
 | b::r=>cr a b+chain b r
def VS (n:Nat) (zs:List (Int × Int)):Prop:=∀z∈zs,BL n z.1/\BL n z.2
namespace K12
end K12
structure g_ where
 a:Int
 b:Int
 c:Int
abbrev ln (l:g_):D:=.tup [.int l.a,.int l.b,.int l.c]
def g_.BLn (n:Nat) (l:g_):Prop:=BL n l.a/\BL n l.b/\BL n l.c
abbrev exc (l:g_) (p:Int × Int) (s:Int):Int:=l.a*p.1+l.b*p.2-l.c*s
def BR:FD:=λds Q=>∃(l:g_) (p:Int × Int) (s:Int),ds=[ln l,pt p,.int s]/\(l.BLn 100000/\BL 100000 p.1/\BL 100000 p.2/\BL 100000 s)/\Q (.int (exc l p s))
def Dk:∀ds Q,BR ds Q->XH { nx:=λ_=>Q .non,rt:=Q } (eD ["line","point","share"] ds):=by
 rintro ds Q ⟨l,p,s,rfl,⟨⟨b1,b2,b3⟩,b4,b5,b6⟩,q⟩;rw[cS 0 rfl];unfold XH;walk_at "rd";exact⟨b1.mulOk b4,b2.mulOk b5,b3.mulOk b6,q⟩
abbrev l8 (z:Int × Int) (t:List (Int × Int)):List ((Int × Int) × (Int × Int)):=yD (z::t) (t++[z])
abbrev sV (sh:Int) (w:(Int × Int) × (Int × Int)):g_:=⟨sh*(w.2.2-w.1.2),-sh*(w.2.1-w.1.1),(w.2.2-w.1.2)*w.1.1-(w.2.1-w.1.1)*w.1.2⟩
def QL:FD:=λds Q=>∃(sh:Int) (z u:Int × Int) (r:List (Int × Int)),ds=[.tup [.int sh,.tup ((z::u::r).map pt)]]/\BL 30000 sh/\(VS 30000 (z::u::r)/\r.length<=900)/\Q (.lst ((l8 z (u::r)).map λw=>ln (sV sh w)))
theorem Vo (xs:List (Int × Int)):∀(ys:List (Int × Int)),mL (λu v=>D.tup [u,v]) (xs.map pt) (ys.map pt)=(yD xs ys).map λw=>D.tup [pt w.1,pt w.2]:=by
 induction xs with
 | nil=>intro ys;simp
 | cons x xs ih =>
  intro ys;cases ys with
  | nil=>simp
  | cons y ys=>simp[ih]
def Ij {z:Int × Int} (h:w∈l8 z t):w.1∈z::t/\w.2∈z::t:=by
 obtain⟨w1,w2⟩:=w;have m:=tW h;refine⟨m.1,?_⟩;rcases cJ.mp m.2 with h | h
 ·exact aT _ h
 ·rw[dM.mp h];exact cF
def PL:∀ds Q,QL ds Q->GM PN { nx:=λ_=>Q .non,rt:=Q } (eD ["piece","share","lines","one","other","right","up"] ds):=by
 rintro ds Q ⟨sh,z,u,r,rfl,bs,⟨hB,hl⟩,q⟩;rw[cS 6 rfl];unfold GM;simp only[jB,Ut,aW,bC];generalize hP:D.tup [D.int sh,D.tup ((z::u::r).map pt)]=P;simp only[aQ,cB,aW,bC];refine cE (λf=>f=[aa P,aa (.int sh),none,none,none,none,none]) (λK hK=>?_) ?_
 ·rw[<-hP] at hK ⊢;walk_at "rd";exact hK _ rfl
 rintro f rfl;refine cE (λf=>f=[aa P,aa (.int sh),some (.own []),none,none,none,none]) (λK hK=>?_) ?_
 ·walk_at "rd";exact hK _ rfl
 rintro f rfl;refine cE (λf=>∃a b c d,f=[aa P,aa (.int sh),some (.own ((l8 z (u::r)).map λw=>ln (sV sh w))),a,b,c,d]) (λK hK=>?_) ?_
 ·rw[<-hP] at hK ⊢;simp only[oD,riL,cZ,aD,aZ,r2,aL,rC,aE,S.val,nQ];refine⟨_,pt z,pt u,r.map pt,rfl,.inl rfl,by simp;lia,?_⟩;have e:=Vo (z::u::r) (u::r++[z]);simp only[aQ,dI,cB] at e;rw[e];refine kU (λxs f=>∃(done rest:List ((Int × Int) × (Int × Int))) (a b c d:Option S),l8 z (u::r)=done++rest/\xs=(rest.map λw=>D.tup [pt w.1,pt w.2])/\f=[aa (.tup [.int sh,.tup ((z::u::r).map pt)]),aa (.int sh),some (.own (done.map λw=>ln (sV sh w))),a,b,c,d]) ?_ ?_ _ _ ⟨[],l8 z (u::r),none,none,none,none,rfl,rfl,rfl⟩
  ·rintro x xs f ⟨done,rest,a,b,c,d,e,ex,rfl⟩ F _ _ hn _;cases rest with
   | nil=>cases ex
   | cons w rest =>
    cases ex;have hw:w∈l8 z (u::r):=(by rw[e];simp);obtain⟨m1,m2⟩:=Ij hw;have b1:=hB _ m1;have b2:=hB _ m2;have Z7:done.length<=1000:=by
     have:=congrArg fM e;simp at this;lia
    unfold zA;generalize D.tup [D.int sh,D.tup ((z::u::r).map pt)]=P at *;walk_at "rd";refine⟨bs.mulOk (b2.2.sub b1.2),bs.neg.mulOk (b2.1.sub b1.1),(b2.2.sub b1.2).mulOk b1.1,(b2.1.sub b1.1).mulOk b1.2,mF (by simp;lia),?_⟩;exact hn _ ⟨done++[w],rest,aa (pt w.1),aa (pt w.2),aa (.int (w.2.1-w.1.1)),aa (.int (w.2.2-w.1.2)),by simpa using e,rfl,by simp⟩
  ·rintro f ⟨done,rest,a,b,c,d,e,ex,rfl⟩;have:rest=[]:=(by simpa using ex.symm);subst this;rw[eJ] at e;rw[<-e];exact hK _ ⟨a,b,c,d,rfl⟩
 rintro f ⟨a,b,c,d,rfl⟩;walk_at "rd";exact q
abbrev h3 (t:H3):D:=.tup [.int t.1,.int t.2.1,.int t.2.2]
abbrev BJ (l:g_) (sh:Int):a_:=⟨l.a,l.b,l.c*sh⟩
def RB (l:g_) (sh:Int) (z:Pt):ae (BJ l sh) z=exc l z sh:=rfl
def YG (h:BL n i):BL n (i.natAbs:Int):=by unfold BL at *;simpa using h
def XX:FD:=λds Q=>∃(L:a_) (u v:Pt),ds=[pt u,.int (ae L u),pt v,.int (ae L v)]/\(BL 2000 u.1/\BL 2000 u.2/\BL 2000 v.1/\BL 2000 v.2)/\(BL 2000 (ae L u)/\BL 2000 (ae L v))/\Q (h3 (lY L u v))
def Vk (L:a_) (u v:Pt):h3 (lY L u v) = .tup [.int (u.1*((ae L v).natAbs:Int)+v.1*((ae L u).natAbs:Int)),.int (u.2*((ae L v).natAbs:Int)+v.2*((ae L u).natAbs:Int)),.int (((ae L u).natAbs:Int)+((ae L v).natAbs:Int))]:=by
 have e1:(lY L u v).1=u.1*((ae L v).natAbs:Int)+v.1*((ae L u).natAbs:Int):=by unfold lY yH ap;dsimp only;rw[iY,iY v.1]
 have e2:(lY L u v).2.1=u.2*((ae L v).natAbs:Int)+v.2*((ae L u).natAbs:Int):=by unfold lY yH ap;dsimp only;rw[iY,iY v.2]
 have e3:(lY L u v).2.2=((ae L u).natAbs:Int)+((ae L v).natAbs:Int):=by unfold lY yH ap;dsimp only;lia
 show D.tup [.int (lY L u v).1,.int (lY L u v).2.1,.int (lY L u v).2.2]=_;rw[e1,e2,e3]
def VG:∀ds Q,XX ds Q->OG { nx:=λ_=>Q .non,rt:=Q } (eD ["one","one_excess","other","other_excess","near","far"] ds):=by
 rintro ds Q ⟨L,u,v,rfl,⟨b1,b2,b3,b4⟩,⟨c1,c2⟩,q⟩;rw[cS 2 rfl];rw[Vk] at q;have a1:=YG c1;have a2:=YG c2;unfold OG;walk_at "rd";have ab:∀i:Int,(if i<0 then -i else i)=(i.natAbs:Int):=λi=>by split <;> lia
 simp only[ab];exact⟨b1.mulOk a2,b3.mulOk a1,b2.mulOk a2,b4.mulOk a1,q⟩
theorem Vm {α β:Type} (f:α->D) (g:β->D) (xs:List α):∀(ys:List β),mL (λu v=>D.tup [u,v]) (xs.map f) (ys.map g)=(yD xs ys).map λw=>D.tup [f w.1,g w.2]:=by
 induction xs with
 | nil=>intro ys;simp
 | cons x xs ih =>
  intro ys;cases ys with
  | nil=>simp
  | cons y ys=>simp[ih]
def MF (L:a_) (ws:List (Pt × Pt)):List H3:=ws.flatMap λw=>gq L w.1 w.2
theorem Hv (L:a_):∀(r:List Pt) (a z:Pt),Pl L (a::(r++[z]))=MF L (yD (a::r) (r++[z]))
 | [],a,z=>by simp[Pl,MF]
 | b::r,a,z=>by
  have ih:=Hv L r b z;show gq L a b++Pl L (b::(r++[z]))=gq L a b++MF L (yD (b::r) (r++[z]));rw[ih]
abbrev fc (L:a_) (z:Pt):D:=.tup [pt z,.int (ae L z)]
def QJ:FD:=λds Q=>∃(L:a_) (z u:Pt) (r:List Pt),ds=[.tup ((z::u::r).map pt),il ((z::u::r).map (ae L))]/\(∀w∈z::u::r,BL 2000 w.1/\BL 2000 w.2/\BL 2000 (ae L w))/\r.length<=900/\Q (.lst ((Pl L ((z::u::r)++(z::u::r).take 1)).map h3))
def Sf (L:a_) (u v:Pt):(gq L u v).length<=2:=by
 unfold gq;split <;> split <;> simp
theorem As (L:a_):∀ws,(MF L ws).length<=2*ws.length
 | []=>by simp[MF]
 | w::ws=>by
  have:=As L ws;have:=Sf L w.1 w.2;unfold MF at *;rw[IV,dA,bH];lia
def Km (L:a_) (ws:List (Pt × Pt)) (w:Pt × Pt):MF L (ws++[w])=MF L ws++gq L w.1 w.2:=by unfold MF;simp
def HX:∀ds Q,QJ ds Q->yZ XX PN { nx:=λ_=>Q .non,rt:=Q } (eD ["corners","excesses","points","one","other"] ds):=by
 rintro ds Q ⟨L,z,u,r,rfl,hB,hl,q⟩;rw[cS 3 rfl];unfold yZ;have eP:Pl L ((z::u::r)++(z::u::r).take 1)=MF L (l8 z (u::r)):=Hv L (u::r) z z;rw[eP] at q;have lc:(l8 z (u::r)).length=r.length+2:=by simp
 simp only[jB,Ml,aW,bC];generalize hA:D.tup ((z::u::r).map pt)=A;generalize hX:il ((z::u::r).map (ae L))=X;simp only[aQ,cB,aW,bC];refine cE (λc=>c=[aa A,aa X,some (.own []),none,none]) (λK hK=>?_) ?_
 ·walk_at "rd";exact hK _ rfl
 rintro c rfl;refine cE (λc=>∃a b:Option S,c=[aa A,aa X,some (.own ((MF L (l8 z (u::r))).map h3)),a,b]) (λK hK=>?_) ?_
 ·rw[<-hA,<-hX] at hK ⊢;simp only[oD,riL,cZ,aD,aZ,Hc,aL,aE,aI,S.val];refine⟨_,_,rfl,rfl,by simp,?_⟩;have e1:mL (λa b=>D.tup [a,b]) ((z::u::r).map pt) (((z::u::r).map (ae L)).map D.int)=(z::u::r).map (fc L):=by
   rw[cM,List.zipWith_map,List.zipWith_self];rfl
  rw[e1];refine⟨_,fc L z,fc L u,r.map (fc L),rfl,cV rfl,by simp;lia,?_⟩;have e2:mL (λa b=>D.tup [a,b]) (fc L z::fc L u::r.map (fc L)) (fc L u::r.map (fc L)++[fc L z])=(l8 z (u::r)).map λw=>D.tup [fc L w.1,fc L w.2]:=by
   rw[<-Vm (fc L) (fc L)];simp
  rw[e2];refine kU (λxs c=>∃(done rest:List (Pt × Pt)) (a b:Option S),l8 z (u::r)=done++rest/\xs=rest.map (λw=>D.tup [fc L w.1,fc L w.2])/\c=[aa (.tup ((z::u::r).map pt)),aa (il ((z::u::r).map (ae L))),some (.own ((MF L done).map h3)),a,b]) ?_ ?_ _ _ ⟨[],l8 z (u::r),none,none,rfl,rfl,rfl⟩
  ·rintro x xs c ⟨done,rest,a,b,e,ex,rfl⟩ F _ _ hn _;cases rest with
   | nil=>cases ex
   | cons w rest =>
    cases ex;have mw:=Ij (z:=z) (t:=u::r) (w:=w) (by rw[e];simp);obtain⟨p1,p2,p3⟩:=hB _ mw.1;obtain⟨q1,q2,q3⟩:=hB _ mw.2;have ld:done.length<r.length+2:=(by rw[<-lc,e];simp);have lb:=As L done;generalize hA':D.tup ((z::u::r).map pt)=A' at *;generalize hX':il ((z::u::r).map (ae L))=X' at *;have fin:∀c,c=[aa A',aa X',some (.own ((MF L (done++[w])).map h3)),aa (fc L w.1),aa (fc L w.2)]->F.nx c:=λc h=>hn _ ⟨done++[w],rest,aa (fc L w.1),aa (fc L w.2),by simpa using e,rfl,h⟩;rw[Km] at fin;unfold gq at fin;unfold uK;walk_at "rd";by_cases h1:ae L w.1<=0
    ·rw[if_pos h1] at fin ⊢;refine⟨mF (by simp;lia),p3.mulOk q3,?_⟩;by_cases h2:ae L w.1*ae L w.2<0
     ·rw[if_pos h2] at fin ⊢;refine⟨L,w.1,w.2,rfl,⟨p1,p2,q1,q2⟩,⟨p3,q3⟩,mF (by simp;lia),fin _ (by simp)⟩
     ·rw[if_neg h2] at fin ⊢;exact fin _ (by simp)
    ·rw[if_neg h1] at fin ⊢;refine⟨p3.mulOk q3,?_⟩;by_cases h2:ae L w.1*ae L w.2<0
     ·rw[if_pos h2] at fin ⊢;refine⟨L,w.1,w.2,rfl,⟨p1,p2,q1,q2⟩,⟨p3,q3⟩,mF (by simp;lia),fin _ (by simp)⟩
     ·rw[if_neg h2] at fin ⊢;exact fin _ (by simp)
  ·rintro c ⟨done,rest,a,b,e,ex,rfl⟩;have:rest=[]:=(by simpa using ex.symm);subst this;rw[eJ] at e;rw[e] at hK;exact hK _ ⟨a,b,rfl⟩
 rintro c ⟨a,b,rfl⟩;walk_at "rd";exact q
abbrev pc (sh:Int) (zs:List Pt):D:=.tup [.int sh,.tup (zs.map pt)]
abbrev TZ (L:a_) (cs:List Pt):List H3:=Pl L (cs++cs.take 1)
structure jx (L:a_) (sh:Int) (cs:List Pt) (ca:Int) (zs:List Pt):Prop where
 ex:∃(F m:Int) (z:Pt) (T:List Pt),0<F/\(∀t∈TZ L cs,g7 F t)/\ic ((TZ L cs).map (gF F)) (z::T)/\(∀q∈T,¬bo q z)/\bB (z::T)/\f6 (sh*F) (z::T) m ca zs/\(BL 4003 F/\zs.length<=cs.length+2)
inductive je (L:a_) (sh:Int) (cs:List Pt):D->Prop
 | whole (h:∀z∈cs,ae L z<=0):je L sh cs (pc sh cs)
 | nothing (h:∀z∈cs,0<=ae L z) (n:¬ ∀z∈cs,ae L z<=0):je L sh cs .non
 | part (hp:∃z∈cs,0<ae L z) (hn:∃z∈cs,ae L z<0) {ca:Int} {zs:List Pt} (h:jx L sh cs ca zs):je L sh cs (pc ca zs)
def QH:FD:=λds Q=>∃(l:g_) (sh:Int) (cs:List Pt),ds=[pc sh cs,ln l]/\(0<sh/\BL 2000 sh/\l.BLn 10000)/\(∀w∈cs,BL 2000 w.1/\BL 2000 w.2/\BL 2000 (exc l w sh))/\(bB cs/\cs.length<60)/\∀d,je (BJ l sh) sh cs d->Q d
theorem QW:∀(P:List H3),(∀t∈P,BL n t.2.2)->BL (n*P.length+1) (jW P)
 | [],_=>BL.mono (m:=1) (BL.const (by decide)) (by lia)
 | t::P,h=>by
  have a:=(h t (by simp)).mul (QW P λx hx=>h x (by simp[hx]));exact a.mono (by rw[bH,Nat.mul_add,Nat.mul_one];lia)
theorem E2 (hB:∀w∈cs,BL 2000 w.1/\BL 2000 w.2/\BL 2000 (ae L w)) (h:Pm L cs t):BL 4001 t.1/\BL 4001 t.2.1/\BL 2001 t.2.2:=by
 cases h with
 | @corner u hu h =>
  obtain⟨a,b,_⟩:=hB u hu;exact⟨a.mono,b.mono,(BL.const (n:=1) (i:=1) (by decide)).mono⟩
 | @cross u v hc h =>
  obtain⟨a,b,c⟩:=hB u hc.mem.1;obtain⟨a',b',c'⟩:=hB v hc.mem.2;have c:=YG c;have c':=YG c';refine⟨((c'.mul a).add (c.mul a')).mono,((c'.mul b).add (c.mul b')).mono,?_⟩;have e:(lY L u v).2.2=((ae L u).natAbs:Int)+((ae L v).natAbs:Int):=by unfold lY yH ap;dsimp only;lia
  rw[e];exact (c.add c').mono
theorem RX {α:Type} (p:α->Bool):∀l:List α,l.length=(l.filter p).length+(l.filter λx=>!p x).length
 | []=>rfl
 | x::l=>by
  have:=RX p l;rw[pV,pV];cases h:p x <;> simp <;> lia
def Mt (c:bB cs) (hp:∃z∈cs,0<ae L z) (h:ou L cs P):P.length<=cs.length+2:=by
 have h2:=XR c hp h;have h1:=len_sub (P.filter λt=>!decide (t.2.2≠1)) (cs.map ap) (h.nodup.filter _) λx hx=>by
  obtain⟨hx,hw⟩:=kX.mp hx;simp only[ne_eq,decide_not,Bool.not_not,decide_eq_true_eq] at hw;have pm:=h.pm x hx;cases pm with
  | @corner u hu h=>exact cO hu
  | cross hc h=>have:=IE h;lia
 have e:=RX (λt:H3=>decide (t.2.2≠1)) P;rw[bV] at h1;lia
def NF:∀ds Q,QH ds Q->DZ BR QJ rF { nx:=λ_=>Q .non,rt:=Q } (eD ["piece","line","share","excesses","points","factor","point","grown"] ds):=by
 rintro ds Q ⟨l,sh,cs,rfl,⟨h0,b0,bl⟩,hB,⟨cv,hl⟩,q⟩;rw[cS 6 rfl];unfold DZ;obtain⟨z0,u0,r0,uf⟩:∃z u r,cs=z::u::r:=by
  have:=cv.len
  match cs,this with
  | z::u::r,_=>exact⟨z,u,r,rfl⟩
 have cne:cs.map (λz=>exc l z sh)≠[]:=by rw[uf];simp
 simp only[jB,Ut,aW,bC];generalize hP:pc sh cs=PD;generalize hL:ln l=LD;simp only[aQ,cB,aW,bC];refine cE (λd=>d=[aa PD,aa LD,aa (.int sh),none,none,none,none,none]) (λK hK=>?_) ?_
 ·rw[<-hP] at hK ⊢;walk_at "rd";exact hK _ rfl
 rintro d rfl;refine cE (λd=>d=[aa PD,aa LD,aa (.int sh),some (.own ((cs.map λz=>exc l z sh).map D.int)),none,none,none,none]) (λK hK=>?_) ?_
 ·rw[<-hP,<-hL] at hK ⊢;simp only[nS,pP,riT,r2,aL,rC,nQ,BI,QZ,aE,aI,aQ,cB,Dw,aW,bC,S.val];refine⟨mF (by simp;lia),?_⟩;refine sA (λd=>∃a,d=[a,aa (ln l),aa (.int sh)]) pt (λz=>D.int (exc l z sh)) cs ?_ ⟨none,rfl⟩ ?_
  ·rintro z hz d ⟨a,rfl⟩ K' ki;obtain⟨z1,z2,_⟩:=hB z hz;walk_at "rd";exact⟨l,z,sh,rfl,⟨⟨bl.1.mono,bl.2.1.mono,bl.2.2.mono⟩,z1.mono,z2.mono,b0.mono⟩,ki _ ⟨aa (pt z),rfl⟩⟩
  ·refine hK _ ?_;rw[cM];rfl
 rintro d rfl;by_cases hw:∀z∈cs,exc l z sh<=0
 ·have fin:=q _ (je.whole hw);refine cE (λd=>False) (λK hK=>?_) (λd h=>h.elim);walk_at "rd";refine⟨_,rfl,cne,λM m1 m2=>?_⟩;obtain⟨z,hz,rfl⟩:=bJ.mp m1;dsimp only;rw[if_pos (hw z hz),<-hP];exact fin
 refine cE (λd=>d=[aa PD,aa LD,aa (.int sh),some (.own ((cs.map λz=>exc l z sh).map D.int)),none,none,none,none]) (λK hK=>?_) ?_
 ·walk_at "rd";refine⟨_,rfl,cne,λM m1 m2=>?_⟩;dsimp only;rw[if_neg (λh=>hw λz hz=>zG (m2 _ (cO hz)) h)];exact hK _ rfl
 rintro d rfl;by_cases hg:∀z∈cs,0<=exc l z sh
 ·have fin:=q _ (je.nothing hg hw);refine cE (λd=>False) (λK hK=>?_) (λd h=>h.elim);walk_at "rd";refine⟨_,rfl,cne,λM m1 m2=>?_⟩;obtain⟨z,hz,rfl⟩:=bJ.mp m1;dsimp only;rw[if_pos (hg z hz)];exact fin
 refine cE (λd=>d=[aa PD,aa LD,aa (.int sh),some (.own ((cs.map λz=>exc l z sh).map D.int)),none,none,none,none]) (λK hK=>?_) ?_
 ·walk_at "rd";refine⟨_,rfl,cne,λM m1 m2=>?_⟩;dsimp only;rw[if_neg (λh=>hg λz hz=>zG h (m2 _ (cO hz)))];exact hK _ rfl
 rintro d rfl;have hp:∃z∈cs,0<ae (BJ l sh) z:=cI λk=>hw λz hz=>jY.mp λh=>k ⟨z,hz,h⟩;have hn:∃z∈cs,ae (BJ l sh) z<0:=cI λk=>hg λz hz=>jY.mp λh=>k ⟨z,hz,h⟩;obtain⟨P',rot,cut,_⟩:=Bc cv hp hn;have kj:ic (TZ (BJ l sh) cs) P':=rot;have lP':=Mt cv hp cut;generalize Y9:TZ (BJ l sh) cs=SP at *;have lSP:SP.length=P'.length:=by obtain⟨X,Y,e1,e2⟩:=kj;rw[e1,e2];simp;lia
 have A2:∀t∈SP,Pm (BJ l sh) cs t:=λt ht=>cut.pm t ((kj.mem t).mp ht);have A1:∀t∈SP,BL 4001 t.1/\BL 4001 t.2.1/\BL 2001 t.2.2:=λt ht=>E2 (L:=BJ l sh) (λw hw=>hB w hw) (A2 t ht);have sk:0<jW SP:=XB SP λt ht=>(A2 t ht).w_pos;have yn:∀t∈SP,g7 (jW SP) t:=λt ht=>g7.of sk (A2 t ht).w_pos (XA SP t ht);have x8:BL 4003 (jW SP):=by
  rw[AI];have l2:(SP.filter λt=>decide (t.2.2≠1)).length<=2:=by
   have:=XR cv hp cut;obtain⟨X,Y,e1,e2⟩:=kj;rw[e2] at this;rw[e1];rw[jA,dA] at this ⊢;lia
  refine (QW _ λt ht=>(A1 t (kX.mp ht).1).2.2).mono ?_;lia
 refine cE (λd=>d=[aa PD,aa LD,aa (.int sh),aa (il (cs.map λz=>exc l z sh)),aa (.lst (SP.map h3)),none,none,none]) (λK hK=>?_) ?_
 ·rw[<-hP] at hK ⊢;walk_at "rd";subst uf;refine⟨BJ l sh,z0,u0,r0,rfl,hB,by simp at hl;lia,?_⟩;show K _;rw[show Pl (BJ l sh) ((z0::u0::r0)++(z0::u0::r0).take 1)=SP from Y9];exact hK _ rfl
 rintro d rfl;refine cE (λd=>d=[aa PD,aa LD,aa (.int sh),aa (il (cs.map λz=>exc l z sh)),aa (.lst (SP.map h3)),aa (.int 1),none,none]) (λK hK=>?_) ?_
 ·walk_at "rd";exact hK _ rfl
 rintro d rfl;refine cE (λd=>∃a:Option S,d=[aa PD,aa LD,aa (.int sh),aa (il (cs.map λz=>exc l z sh)),aa (.lst (SP.map h3)),aa (.int (jW SP)),a,none]) (λK hK=>?_) ?_
 ·walk_at "rd";refine kU (λxs d=>∃(done rest:List H3) (a:Option S),SP=done++rest/\xs=rest.map h3/\d=[aa PD,aa LD,aa (.int sh),aa (il (cs.map λz=>exc l z sh)),aa (.lst (SP.map h3)),aa (.int (jW done)),a,none]) ?_ ?_ _ _ ⟨[],SP,none,rfl,rfl,rfl⟩
  ·rintro x xs d ⟨done,rest,a,e,ex,rfl⟩ E _ _ hnx _;cases rest with
   | nil=>cases ex
   | cons t rest =>
    cases ex;have bt:=(A1 t (by rw[e];simp)).2.2;have bd:=QW done λx hx=>(A1 x (by rw[e];simp[hx])).2.2;have ld:done.length<=64:=(by have:=congrArg fM e;simp at this;lia);have e2:jW (done++[t])=jW done*t.2.2:=(by rw[KR];show _*(t.2.2*1)=_;rw[wO]);unfold xD;walk_at "rd";refine⟨bd.mulOk bt (by lia),hnx _ ⟨done++[t],rest,aa (h3 t),by simpa using e,rfl,by rw[e2]⟩⟩
  ·rintro d ⟨done,rest,a,e,ex,rfl⟩;have:rest=[]:=(by simpa using ex.symm);subst this;rw[eJ] at e;subst e;exact hK _ ⟨a,rfl⟩
 rintro d ⟨a,rfl⟩;refine cE (λd=>d=[aa PD,aa LD,aa (.int sh),aa (il (cs.map λz=>exc l z sh)),aa (.lst (SP.map h3)),aa (.int (jW SP)),a,some (.own ((SP.map (gF (jW SP))).map pt))]) (λK hK=>?_) ?_
 ·simp only[nS,pP,riL,cG,BI,QZ,aE,aI,aQ,cB,Ml,aW,bC,S.val];refine⟨mF (by simp;lia),?_⟩;refine sA (λd=>∃a b c,d=[a,b,c,aa (.int (jW SP))]) h3 (λt=>pt (gF (jW SP) t)) SP ?_ ⟨none,none,none,rfl⟩ ?_
  ·rintro t ht d ⟨a,b,c,rfl⟩ K' ki;obtain⟨t1,t2,t3⟩:=A1 t ht;have tw:=(A2 t ht).w_pos;have bq:BL 4003 ((jW SP).fdiv t.2.2):=x8.fdiv;walk_at "rd";refine⟨(t3.mono).divOk (by lia),t1.mulOk bq,(t3.mono).divOk (by lia),t2.mulOk bq,?_⟩;rw[cT _ (by lia)];exact ki _ ⟨aa (.int t.1),aa (.int t.2.1),aa (.int t.2.2),rfl⟩
  ·refine hK _ ?_;rw[cM];rfl
 rintro d rfl;walk_at "rd";refine⟨b0.mulOk x8,?_⟩;have Y3:∀t∈P',g7 (jW SP) t:=λt ht=>yn t ((kj.mem t).mpr ht);have cvP:=Xl cv hp hn cut sk Y3;have cvS:bB (SP.map (gF (jW SP))):=bB.rot ((kj.map (gF (jW SP))).symm) cvP;obtain⟨z,T,rt,least⟩:=CY (SP.map (gF (jW SP))) (by intro e;have:=cvS.len;rw[e] at this;simp at this);have cz:=bB.rot rt cvS;refine⟨sh*jW SP,SP.map (gF (jW SP)),rfl,⟨aS h0 sk,(b0.mul x8).mono⟩,λw hw=>?_,by simp;lia,cY ⟨z,T,⟨cz,least,λa ha=>(rt.mem a).mpr ha,λa b dq c hc=>cz.side dq ((rt.mem c).mp hc)⟩,λm ca zs N=>q _ (je.part hp hn ⟨jW SP,m,z,T,sk,?_,?_,least,cz,N,x8,?_⟩)⟩⟩
 ·obtain⟨t,ht,rfl⟩:=bJ.mp hw;obtain⟨t1,t2,t3⟩:=A1 t ht;have bq:BL 4003 (jW SP / t.2.2):=by
   have:BL 4003 ((jW SP).fdiv t.2.2):=x8.fdiv
   rwa [cT _ (by have:=(A2 t ht).w_pos;lia)] at this
  exact⟨(t1.mul bq).mono,(t2.mul bq).mono⟩
 ·rw[Y9];exact yn
 ·rw[Y9];exact rt
 ·have e1:=congrArg fM N.cs_eq;have e2:(z::T).length=SP.length:=by obtain⟨X,Y,a1,a2⟩:=rt;have:=congrArg fM a1;rw[a2];simp at this ⊢;lia
  rw[e2,bV] at e1;lia
def rg (cs:List Pt) (i:Nat):Pt:=cs.getD (i % cs.length) (0,0)
section
def NG (h:0<cs.length) (i:Nat):cs[i % cs.length]? = some (rg cs i):=by
 unfold rg;rw[eI,aG (kD _ h)];rfl
def xT (h:0<cs.length) (i:Nat):rg cs i∈cs:=eW (NG h i)
def GN (h:i<cs.length):cs[i]? = some (rg cs i):=by
 have:=NG (cs:=cs) (by lia) i
 rwa [hU h] at this
def Go (h1:l[i]? = some a) (h2:l[i+1]? = some b):gn l a b:=by
 obtain⟨l1,e1⟩:=bG.mp h1;obtain⟨l2,e2⟩:=bG.mp h2;refine⟨l.take i,l.drop (i+2),?_⟩
 conv=>lhs;rw[<-gC i l]
 rw[fH l1,fH l2,e1,e2]
def Ga (h:gn l a b):∃i,l[i]? = some a/\l[i+1]? = some b:=by
 obtain⟨x,y,e⟩:=h;refine⟨x.length,?_,?_⟩
 ·rw[e,dR (by lia)];simp
 ·rw[e,dR (by lia)];simp
def Fj (h:0<cs.length) (i:Nat):au cs (rg cs i) (rg cs (i+1)):=by
 have hj:=kD i h;refine Go (i:=i % cs.length) ?_ ?_
 ·rw[dH hj];exact NG h i
 ·have g:=NG h (i+1);by_cases hl:i % cs.length+1<cs.length
  ·rw[dH hl,<-g];congr 1;rw[NN];by_cases h1:cs.length=1
   ·lia
   ·rw[show 1 % cs.length=1 from hU (by lia),hU hl]
  ·rw[dR (by lia),show i % cs.length+1-cs.length=0 by lia,GW,if_pos (by lia),<-g];congr 1;rw[NN];by_cases h1:cs.length=1
   ·rw[h1];lia
   ·rw[show 1 % cs.length=1 from hU (by lia),show i % cs.length+1=cs.length by lia,Nat.mod_self]
def HY (i:Nat):rg cs (i+cs.length)=rg cs i:=by unfold rg;rw[IZ]
def Sk (h:au cs a b):∃k,k<cs.length/\a=rg cs (k+(cs.length-1))/\b=rg cs k:=by
 obtain⟨i,h1,h2⟩:=Ga h;have l2:i+1<(cs++cs.take 1).length:=(bG.mp h2).1;rw[dA,gT] at l2;have hi:i<cs.length:=by lia
 have gr:0<cs.length:=by lia
 rw[dH hi,GN hi] at h1;have h1:rg cs i=a:=dU h1;by_cases hl:i+1<cs.length
 ·rw[dH hl,GN hl] at h2;refine⟨i+1,hl,?_,(dU h2).symm⟩;rw[show i+1+(cs.length-1)=i+cs.length by lia,HY,h1]
 ·rw[dR (by lia),show i+1-cs.length=0 by lia,GW,if_pos (by lia),GN gr] at h2;refine⟨0,gr,?_,(dU h2).symm⟩;rw[show 0+(cs.length-1)=i by lia,h1]
def Bf (h:0<cs.length) (k:Nat):au cs (rg cs (k+(cs.length-1))) (rg cs k):=by
 have:=Fj h (k+(cs.length-1))
 rwa [show k+(cs.length-1)+1=k+cs.length by lia,HY] at this
def Aa (n:cs.Nodup) (h:0<cs.length) (e:rg cs i=rg cs j):i % cs.length=j % cs.length:=by
 refine (List.getElem?_inj (kD i h) n).mp ?_;rw[NG h i,NG h j,e]
def Gi (h:0<d) (hd:d<n):(i+d) % n≠i % n:=by
 have h0:=kD i (show 0<n by lia);rw[NN,hU hd];rcases Nat.lt_or_ge (i % n+d) n with h' | h'
 ·rw[hU h'];lia
 ·rw[Nat.mod_eq_sub_mod h',hU (by lia)];lia
def bB.bend_rg (c:bB cs) (i:Nat):0<bP (rg cs i) (rg cs (i+1)) (rg cs (i+2)):=by
 have h3:=c.len;refine c.strict _ _ (Fj (by lia) i) _ (xT (by lia) _) (λe=>?_) λe=>?_
 ·exact Gi (i:=i) (d:=2) (by lia) (by lia) (Aa c.nodup (by lia) e)
 ·exact Gi (i:=i+1) (d:=1) (by lia) (by lia) (Aa c.nodup (by lia) e)
theorem Ki:∀(l:List Pt),∃M:Int,0<M/\∀p∈l,-M<p.2/\p.2<M
 | []=>⟨1,by decide,by simp⟩
 | p::l=>by
  obtain⟨M,h,hM⟩:=Ki l;refine⟨M+p.2.natAbs+1,by lia,λq hq=>?_⟩;rcases aN.mp hq with rfl | hq
  ·lia
  ·have:=hM q hq;lia
def Cm (c:bB cs) (h1:au cs t u) (h2:au cs u v) (nt:t≠v) (e1:bo u t) (e2:bo u v):∀w∈cs,¬bo w u:=by
 obtain⟨M,hM,hb⟩:=Ki cs;have mono:∀p∈cs,∀q∈cs,bo p q->ae ⟨2*M,1,0⟩ p<ae ⟨2*M,1,0⟩ q:=by
  intro p hp q hq hl;have b1:=hb p hp;have b2:=hb q hq;unfold ae;dsimp only;rcases hl with h | ⟨h,h'⟩
  ·have:2*M*(q.1-p.1-1) ≥ 0:=eV (by lia) (by lia);have e:2*M*(q.1-p.1-1)=2*M*q.1-2*M*p.1-2*M:=(by grind);lia
  ·rw[h];lia
 have mu:=(au.mem h1).2;have mt:=(au.mem h1).1;have mv:=(au.mem h2).2;have lb:=WT (L:=⟨2*M,1,0⟩) c h1 h2 nt (cR (mono u mu t mt e1)) (cR (mono u mu v mv e2));intro w hw hl;have:=mono w hw u mu hl;have:=lb w hw;lia
def Lc {z:Pt} (c:bB (z::T)) (least:∀q∈T,¬bo q z) (hk:k<(z::T).length):(bo (rg (z::T) (k+((z::T).length-1))) (rg (z::T) (k+((z::T).length-2)))/\bo (rg (z::T) (k+((z::T).length-1))) (rg (z::T) k))↔k=1:=by
 have h3:=c.len;have z0:rg (z::T) 0=z:=by have:=GN (cs:=z::T) (i:=0) (by lia);simp at this;exact this.symm
 have qy:∀i,i % (z::T).length≠0->bo z (rg (z::T) i):=by
  intro i hi;have m:=xT (cs:=z::T) (by lia) i;have ne:rg (z::T) i≠z:=λe=>hi (by
   have:=Aa c.nodup (by lia) (i:=i) (j:=0) (by rw[e,z0])
   rwa [Nat.zero_mod] at this)
  rcases qS z (rg (z::T) i) with h | h | h
  ·exact h
  ·exact absurd h.symm ne
  ·rcases aN.mp m with e | m
   ·exact absurd e ne
   ·exact absurd h (least _ m)
 generalize hn:(z::T).length=n at *;constructor
 ·rintro⟨a,b⟩;have c1:au (z::T) (rg (z::T) (k+(n-2))) (rg (z::T) (k+(n-1))):=by
   have:=Fj (cs:=z::T) (by lia) (k+(n-2))
   rwa [show k+(n-2)+1=k+(n-1) by lia] at this
  have c2:au (z::T) (rg (z::T) (k+(n-1))) (rg (z::T) k):=by
   have:=Bf (cs:=z::T) (by lia) k
   rwa [hn] at this
  have nt:rg (z::T) (k+(n-2))≠rg (z::T) k:=λe=>by
   have:=Aa c.nodup (by lia) e;rw[hn] at this;exact Gi (by lia) (by lia) this
  have ll:=Cm c c1 c2 nt a b z (by simp);apply cI;intro hk1;refine ll (qy _ ?_);intro e;by_cases h0:k=0
  ·subst h0;rw[hU (by lia)] at e;lia
  ·rw[show k+(n-1)=(k-1)+n by lia,IZ,hU (by lia)] at e;lia
 ·rintro rfl;have e1:rg (z::T) (1+(n-1))=z:=by rw[show 1+(n-1)=0+(z::T).length by lia,HY,z0]
  rw[e1];exact⟨qy _ (by rw[hU (by lia)];lia),qy _ (by rw[hU (by lia)];lia)⟩
end
section
variable {L:a_} {cs zs:List Pt} {sh ca:Int}
structure jd (L:a_) (sh:Int) (cs:List Pt) (ca:Int) (zs:List Pt):Prop where
 pos:0<ca
 cvx:bB zs
 first:∃z T,zs=z::T/\∀q∈T,¬bo q z
 cop:∀d:Nat,(d:Int)∣ca->(∀z∈zs,(d:Int)∣z.1/\(d:Int)∣z.2)->d=1
 corner:∀z∈zs,∃(t:H3) (k f:Int),Pm L cs t/\0<k/\0<f/\k*(sh*z.1)=f*t.1/\k*(sh*z.2)=f*t.2.1/\k*ca=f*t.2.2
 side:∀a b,au zs a b->∃(t1 t2:H3) (κ μ:Int),o6 L cs t1 t2/\0<κ/\0<μ/\∀X Y W,κ*fZ (ap a) (ap b) (ca*X,ca*Y,W)=μ*fZ t1 t2 (sh*X,sh*Y,W)
 line:∃(a b:Pt) (t1 t2:H3) (κ μ:Int),au zs a b/\gV L cs t1/\Entry L cs t2/\0<κ/\0<μ/\∀X Y W,κ*fZ (ap a) (ap b) (ca*X,ca*Y,W)=μ*fZ t1 t2 (sh*X,sh*Y,W)
 area:∃F m:Int,0<F/\0<m/\m*ca=sh*F/\m*m*nB dz zs=nB dz ((TZ L cs).map (gF F))/\∀t∈TZ L cs,g7 F t
 len:zs.length<=cs.length+2
theorem EM (h:ic A B) (k:au B a b):au A a b:=by
 obtain⟨X,Y,rfl,rfl⟩:=h;exact JN k
theorem zW (h:au l a b):au (l.map f) (f a) (f b):=by
 obtain⟨x,y,e⟩:=h;refine⟨x.map f,y.map f,?_⟩;rw[<-kG,<-dI,e];simp
theorem Jz (fp:g7 F p) (fq:g7 F q) (ea:scl m a=gF F p) (eb:scl m b=gF F q) (es:m*ca=sh*F) (X Y W:Int):m*m*fZ (ap a) (ap b) (ca*X,ca*Y,W)=(F / p.2.2*(F / q.2.2))*fZ p q (sh*X,sh*Y,W):=by
 have e1:=fp.e;have e2:=fq.e;unfold scl gF at ea eb;simp only[fF] at ea eb;obtain⟨a1,a2⟩:=ea;obtain⟨b1,b2⟩:=eb;generalize F / p.2.2=f1 at *;generalize F / q.2.2=f2 at *;have l:m*m*fZ (ap a) (ap b) (ca*X,ca*Y,W)=(m*a.1)*((m*b.2)*W-(m*ca)*Y)-(m*a.2)*((m*b.1)*W-(m*ca)*X)+(m*ca)*((m*b.1)*Y-(m*b.2)*X):=by unfold fZ ap;dsimp only;grind
 rw[l,a1,a2,b1,b2,es];unfold fZ;dsimp only;have g1:(p.1*f1)*((q.2.1*f2)*W-sh*F*Y)=f1*f2*(p.1*(q.2.1*W-q.2.2*(sh*Y))):=by rw[<-e2];grind
 have g2:(p.2.1*f1)*((q.1*f2)*W-sh*F*X)=f1*f2*(p.2.1*(q.1*W-q.2.2*(sh*X))):=by rw[<-e2];grind
 have g3:sh*F*((q.1*f2)*Y-(q.2.1*f2)*X)=f1*f2*(p.2.2*(q.1*(sh*Y)-q.2.1*(sh*X))):=by rw[<-e1];grind
 rw[g1,g2,g3];grind
theorem jx.facts (c:bB cs) (hp:∃z∈cs,0<ae L z) (hn:∃z∈cs,ae L z<0) (h0:0<sh) (h:jx L sh cs ca zs):jd L sh cs ca zs:=by
 obtain⟨F,m,z,T,hF,kh,rot,least,cz,N,_,hl⟩:=h;obtain⟨P',kj,cut,_⟩:=Bc c hp hn;have kj:ic (TZ L cs) P':=kj;have l9:∀t∈P',g7 F t:=λt ht=>kh t ((kj.mem t).mpr ht);have mp:=N.mpos;have es:=N.sh_eq;have ec:z::T=zs.map (scl m):=N.cs_eq;have sF:0<sh*F:=aS h0 hF;have pos:0<ca:=by rw[es] at sF;exact wA mp sF
 have wq:ic (P'.map (gF F)) (z::T):=((kj.map (gF F)).symm).trans rot;have zv:∀p q,GZ (P'++P'.take 1) p q->p∈P'/\q∈P':=λp q ⟨x,y,e⟩=>by
  have sub:∀t,t∈P'++P'.take 1->t∈P':=λt ht=>by
   rcases cJ.mp ht with h | h
   ·exact h
   ·exact kL h
  exact⟨sub p (by rw[e];simp),sub q (by rw[e];simp)⟩
 refine⟨pos,bB.unscl mp (by rw[<-ec];exact cz),?_,N.cop,?_,?_,?_,⟨F,m,hF,mp,es.symm,?_,kh⟩,hl⟩
 ·cases zs with
  | nil=>simp at ec
  | cons z' T' =>
   simp only[aQ,fY] at ec;refine⟨z',T',rfl,λq hq dw=>?_⟩;refine least (scl m q) (by rw[ec.2];exact cO hq) ?_;rw[ec.1];exact (HZ mp).mpr dw
 ·intro x hx;have m1:scl m x∈z::T:=by rw[ec];exact cO hx
  obtain⟨t,ht,e⟩:=bJ.mp ((wq.mem _).mpr m1);have ft:=l9 t ht;have ee:=ft.e;have ff:=ft.f;unfold scl gF at e;simp only[fF] at e;refine⟨t,m,sh*(F / t.2.2),cut.pm t ht,mp,aS h0 ff,?_,?_,?_⟩
  ·have:=e.1;grind
  ·have:=e.2;grind
  ·rw[<-es,mY,ee]
 ·intro a b dq;have k1:au (z::T) (scl m a) (scl m b):=by rw[ec];exact zW dq
  have k2:gn ((P'++P'.take 1).map (gF F)) (scl m a) (scl m b):=by
   have:=EM wq k1;rw[dI,kG];exact this
  obtain⟨p,q,zh,ea,eb⟩:=Cr k2;obtain⟨zy,zz⟩:=zv p q zh;exact⟨p,q,m*m,_,cut.adj p q zh,aS mp mp,aS (l9 p zy).f (l9 q zz).f,λX Y W=>Jz (l9 p zy) (l9 q zz) ea eb es.symm X Y W⟩
 ·obtain⟨p,q,hx,hy,zh⟩:=cut.line;obtain⟨zy,zz⟩:=zv p q zh;have k1:au (P'.map (gF F)) (gF F p) (gF F q):=by
   obtain⟨x,y,e⟩:=zh;refine⟨x.map (gF F),y.map (gF F),?_⟩;rw[<-kG,<-dI,e];simp
  have k2:au (zs.map (scl m)) (gF F p) (gF F q):=by rw[<-ec];exact EM wq.symm k1
  have k3:gn ((zs++zs.take 1).map (scl m)) (gF F p) (gF F q):=by rw[dI,kG];exact k2
  obtain⟨a,b,dq,ea,eb⟩:=ZK k3;exact⟨a,b,p,q,m*m,_,dq,hx,hy,aS mp mp,aS (l9 p zy).f (l9 q zz).f,λX Y W=>Jz (l9 p zy) (l9 q zz) ea.symm eb.symm es.symm X Y W⟩
 ·rw[<-CK,<-ec];exact (HN rot).symm
theorem Kw (p q:H3) (h1:k*r.1=f*t.1) (h2:k*r.2.1=f*t.2.1) (h3:k*r.2.2=f*t.2.2):k*fZ p q r=f*fZ p q t:=by
 have l:k*fZ p q r=p.1*(q.2.1*(k*r.2.2)-q.2.2*(k*r.2.1))-p.2.1*(q.1*(k*r.2.2)-q.2.2*(k*r.1))+p.2.2*(q.1*(k*r.2.1)-q.2.1*(k*r.1)):=by unfold fZ;grind
 rw[l,h1,h2,h3];unfold fZ;grind
theorem jd.left (c:bB cs) (h:jd L sh cs ca zs) {z:Pt} (hz:z∈zs) (hc:au cs u v):0<=fZ (ap u) (ap v) (sh*z.1,sh*z.2,ca):=by
 obtain⟨t,k,f,pm,hk,hf,e1,e2,e3⟩:=h.corner z hz;have e:=Kw (ap u) (ap v) (r:=(sh*z.1,sh*z.2,ca)) e1 e2 e3;have p:=Ub c pm hc;exact FX hk (by rw[e];exact eV (by lia) p)
theorem jd.value (h:jd L sh cs ca zs) {z:Pt} (hz:z∈zs):c7 L (sh*z.1,sh*z.2,ca)<=0:=by
 obtain⟨t,k,f,pm,hk,hf,e1,e2,e3⟩:=h.corner z hz;have e:k*c7 L (sh*z.1,sh*z.2,ca)=f*c7 L t:=by
  have l:k*c7 L (sh*z.1,sh*z.2,ca)=L.a*(k*(sh*z.1))+L.b*(k*(sh*z.2))-L.k*(k*ca):=by unfold c7;dsimp only;grind
  rw[l,e1,e2,e3];unfold c7;grind
 have:=pm.exc_le;apply jY.mp;intro hp;have h1:=aS hk hp;have h2:f*c7 L t<=0:=eO (by lia) this;lia
theorem jd.inside (c:bB cs) (hn:∃z∈cs,ae L z<0) (h:jd L sh cs ca zs) {X Y W:Int} (hr:∀u v,au cs u v->0<fZ (ap u) (ap v) (sh*X,sh*Y,W)) (he:c7 L (sh*X,sh*Y,W)<0):∀a b,au zs a b->0<fZ (ap a) (ap b) (ca*X,ca*Y,W):=by
 intro a b dq;obtain⟨t1,t2,d,f,A,hk,hm,e⟩:=h.side a b dq;have:=Fa c hn A hr he;exact wA hk (by rw[e];exact aS hm this)
end
abbrev lo (x:Int):Pt:=(x,x*x)
abbrev hi (top x:Int):Pt:=(x,top-x*x)
def Ao (p q r s ox oy:Int) (a b c:Pt):bP (kg p q r s ox oy a) (kg p q r s ox oy b) (kg p q r s ox oy c)=(p*s-q*r)*bP a b c:=by
 unfold bP kg;dsimp only;grind
def Hx {p q r s ox oy:Int} (hd:0<p*s-q*r) (a b:Pt) (h:kg p q r s ox oy a=kg p q r s ox oy b):a=b:=by
 unfold kg at h;simp only[fF] at h;obtain⟨h1,h2⟩:=h;have e1:(p*s-q*r)*(a.1-b.1)=0:=by grind
 have e2:(p*s-q*r)*(a.2-b.2)=0:=by grind
 have k1:=(iK.mp e1).resolve_left (by lia);have k2:=(iK.mp e2).resolve_left (by lia);exact lQ (by lia) (by lia)
def KF (z w:Pt):HT.lexLt [z.1,z.2] [w.1,w.2]=decide (bo z w):=by
 unfold bo;simp only[HT.lexLt];by_cases h:z.1=w.1
 ·rw[if_pos h];by_cases h2:z.2=w.2
  ·rw[if_pos h2];simp[h,h2]
  ·rw[if_neg h2];simp[h]
 ·rw[if_neg h];simp[h]
def IB {α:Type} (j:Nat) (xs:List α):ic xs (turned j xs):=⟨xs.take j,xs.drop j,by rw[gC],rfl⟩
def UD {α β:Type} (j:Nat) (f:α->β) (xs:List α):turned j (xs.map f)=(turned j xs).map f:=by unfold turned;simp
def kr.norm {cs:List Pt} {ds:List Pt} (h:kr share cs m sh ds j):f6 share (turned j cs) m sh (turned j ds):=by
 refine⟨h.mpos,h.sh_eq,?_,λd h1 h2=>h.cop d h1 λz hz=>h2 z (((IB j ds).mem z).mp hz)⟩
 conv=>lhs;rw[h.cs_eq]
 exact UD j _ ds
def kr.first {cs:List Pt} {ds:List Pt} (h:kr share cs m sh ds j):∃w T,turned j cs=w::T/\∀x∈T,¬bo x w:=by
 obtain⟨z,T,e⟩:∃z T,turned j ds=z::T:=by
  have hj:=h.j_lt;refine⟨ds[j],ds.drop (j+1)++ds.take j,?_⟩;show ds.drop j++ds.take j=_;rw[fH hj];rfl
 have ez:ds[j]? = some z:=by
  have:(turned j ds)[0]? = some z:=by rw[e];rfl
  have hj:=h.j_lt;unfold turned at this;rw[dH (by simp;lia),GV] at this;simpa using this
 refine⟨scl m z,T.map (scl m),?_,λx hx=>?_⟩
 ·conv=>lhs;rw[h.cs_eq]
  rw[UD,e];rfl
 ·obtain⟨y,hy,rfl⟩:=bJ.mp hx;rw[HZ h.mpos];have:=h.least y (((IB j ds).mem y).mpr (by rw[e];simp[hy])) z ez;rw[KF] at this;simpa using this
theorem vX:∀(xs:List D),(∀x∈xs,f x x=some true)->jt f xs xs=some true
 | [],_=>rfl
 | x::xs,h=>by
  simp only[jt,h x (by simp),vX xs λy hy=>h y (by simp[hy])];rfl
def YV (n:Nat) (i:Int):fi (n+1) (.int i) (.int i)=some true:=by simp[fi]
def YX (n:Nat) (z:Pt):fi (n+2) (pt z) (pt z)=some true:=by
 show jt (fi (n+1)) _ _=_;refine vX _ λx hx=>?_;simp only[aN,gH,or_false] at hx;rcases hx with rfl | rfl <;> exact YV n _
def Bv (xs:List D) (J:Nat->En->Prop) (step:∀i x a,xs[i]? = some x->J i a->∀F:jb,F.rt=E.rt->F.bk=E.nx->(∀a',J (i+1) a'->F.nx a')->(∀a',J (i+1) a'->F.ct a')->g x a λa1=>t F a1)
  (last:∀a,J xs.length a->E.nx a) (a:En) (h:J 0 a):JW g t xs E a:=by
 refine kU (λys a=>∃i,i<=xs.length/\ys=xs.drop i/\J i a) ?_ ?_ xs a ⟨0,fV _,rfl,h⟩
 ·rintro x ys a ⟨i,hi,e,hJ⟩ F f1 f2 f3 f4;have dw:i<xs.length:=by
   apply Nat.not_le.mp;intro hn;rw[List.drop_of_length_le hn] at e;cases e
  rw[fH dw] at e;cases e;exact step i _ a (aG dw) hJ F f1 f2 (λa' h=>f3 a' ⟨i+1,by lia,rfl,h⟩) λa' h=>f4 a' ⟨i+1,by lia,rfl,h⟩
 ·rintro a ⟨i,hi,e,hJ⟩;have:i=xs.length:=by
   have:=congrArg fM e;simp at this;lia
  subst this;exact last a hJ
def Hd {lo:Int} (h:(rA lo n)[i]? = some x):x = .int (lo+i)/\i<n:=by
 unfold rA at h;rw[bK] at h;by_cases hi:i<n
 ·rw[uC hi] at h;cases h;exact⟨rfl,hi⟩
 ·rw[jV (by simpa using hi)] at h;cases h
def ZA (lo:Int) (n:Nat) (J:Nat->En->Prop) (step:∀i a,i<n->J i a->∀F:jb,F.rt=E.rt->F.bk=E.nx->(∀a',J (i+1) a'->F.nx a')->(∀a',J (i+1) a'->F.ct a')->g (.int (lo+i)) a λa1=>t F a1)
  (last:∀a,J n a->E.nx a) (a:En) (h:J 0 a):JW g t (rA lo n) E a:=by
 refine Bv _ J (λi x a e hJ=>?_) (λa h=>last a (by rwa [TM] at h)) a h;obtain⟨rfl,hi⟩:=Hd e;exact step i a hi hJ
abbrev jq (x y w:Int):D:=.tup [.int x,.int y,.int w]
def YF {cs:List Pt} {k j:Nat} (hk:k<cs.length) (hj:j<=cs.length):jm (cs.map pt) (0+(k:Int)-(j:Int))=some (pt (rg cs (k+(cs.length-j)))):=by
 unfold jm m9;rw[bV];by_cases h:j<=k
 ·rw[if_pos (by lia),if_pos (by lia)];have e:(0+(k:Int)-(j:Int)).toNat=k-j:=by lia
  rw[e];show (cs.map pt)[k-j]? = _;rw[bK,GN (by lia),show k+(cs.length-j)=(k-j)+cs.length by lia,HY];rfl
 ·rw[if_neg (by lia),if_pos (by lia)];have e:(0+(k:Int)-(j:Int)+(cs.length:Int)).toNat=k+(cs.length-j):=by lia
  rw[e];show (cs.map pt)[k+(cs.length-j)]? = _;rw[bK,GN (by lia)];rfl
def CU {cs:List Pt} {k:Nat} (hk:k<cs.length) {Q:D->Prop}:bi (.tup (cs.map pt)) (.int (0+(k:Int))) Q=Q (pt (rg cs k)):=by
 have:=YF hk (j:=0) (by lia);simp only[Int.natCast_zero,Int.sub_zero,zP,HY] at this;simp only[bi,this]
def KC {cs:List Pt} {k:Nat} (hk:k<cs.length) {Q:D->Prop}:bi (.tup (cs.map pt)) (.int (0+(k:Int)-1)) Q=Q (pt (rg cs (k+(cs.length-1)))):=by
 have:=YF hk (j:=1) (by lia);simp only[Int.natCast_one] at this;simp only[bi,this]
def Cf {cs:List Pt} {k:Nat} (hk:k<cs.length) (h2:2<=cs.length) {Q:D->Prop}:bi (.tup (cs.map pt)) (.int (0+(k:Int)-2)) Q=Q (pt (rg cs (k+(cs.length-2)))):=by
 have:=YF hk (j:=2) (by lia);have e:((2:Nat):Int)=2:=rfl;rw[e] at this;simp only[bi,this]
theorem Cg:∀{i:Nat},i<=zs.length->kZ (rg zs (zs.length-1)) (zs.take i)=rg zs (i+(zs.length-1))
 | 0,_=>by rw[uN];rfl
 | j+1,h=>by
  rw[nJ,GN (by lia)];show kZ _ (zs.take j++[rg zs j])=_;rw[mQ,show j+1+(zs.length-1)=j+zs.length by lia,HY]
def Qq (f:Pt->Pt->Int) (h:i<zs.length):f7 f (rg zs (zs.length-1)) (zs.take (i+1))=f7 f (rg zs (zs.length-1)) (zs.take i)+f (rg zs (i+(zs.length-1))) (rg zs i):=by
 rw[nJ,GN h,tI,Cg (by lia)];show _+(f _ _+0)=_;rw[zF]
def Uj (f:Pt->Pt->Int) (h:0<zs.length):f7 f (rg zs (zs.length-1)) zs=nB f zs:=by
 refine WK f (X:=zs.take (zs.length-1)) ?_
 conv=>lhs;rw[<-sX (l:=zs),show zs.length=(zs.length-1)+1 by lia]
 rw[nJ,GN (by lia)];rfl
def XZ:FD:=λds Q=>∃a b c:Pt,ds=[pt a,pt b,pt c]/\(BP a/\BP b/\BP c)/\Q (.int (bP a b c))
def VH:∀ds Q,XZ ds Q->LA { nx:=λ_=>Q .non,rt:=Q } (eD ["_law_one","_law_two","_law_three","_law_ahead"] ds):=by
 rintro ds Q ⟨a,b,c,rfl,⟨ba,bb,bc⟩,q⟩;rw[cS 1 rfl];unfold LA;walk_at "rd";have e:(b.1-a.1)*(c.2-b.2)-(b.2-a.2)*(c.1-b.1)=bP a b c:=by unfold bP;grind
 refine⟨(bb.1.sub ba.1).mulOk (bc.2.sub bb.2),(bb.2.sub ba.2).mulOk (bc.1.sub bb.1),?_⟩;rw[e];exact q
abbrev xw (m:Int):Int:=(if 0<m then 1 else 0)-(if m<0 then 1 else 0)
abbrev f8 (sh X Y W:Int) (a b:Pt):Int:=fZ (ap a) (ap b) (sh*X,sh*Y,W)
def IK:FD:=λds Q=>∃(sh:Int) (cs:List Pt) (X Y W:Int),ds=[pc sh cs,jq X Y W]/\(BL 9000 sh/\VS 9000 cs/\1<=cs.length/\cs.length<=100)/\(BL 9000 X/\BL 9000 Y/\BL 9000 W) /\
 ∀M,(∃a b,au cs a b/\M=f8 sh X Y W a b)->(∀a b,au cs a b->M<=f8 sh X Y W a b)->Q (.int (xw M))
def IA (sh X Y W:Int) (a b:Pt):(b.1-a.1)*(Y*sh-a.2*W)-(b.2-a.2)*(X*sh-a.1*W)=f8 sh X Y W a b:=by unfold f8 fZ ap;dsimp only;grind
def PJ:∀ds Q,IK ds Q->DV { nx:=λ_=>Q .non,rt:=Q } (eD ["_law_piece","_law_spot","_law_share_here","_law_corners","_law_least","_law_k","_law_one","_law_x","_law_y","_law_side"] ds):=by
 rintro ds Q ⟨sh,cs,X,Y,W,rfl,⟨bs,hS,l1,l2⟩,⟨bX,bY,bW⟩,q⟩;rw[cS 8 rfl];unfold DV;simp only[jB,F9,aQ,cB,aW,bC];generalize hP:pc sh cs=PD;generalize hT:jq X Y W=TD;have pos:0<cs.length:=by lia
 refine cE (λg=>g=[aa PD,aa TD,aa (.int sh),aa (.tup (cs.map pt)),none,none,none,none,none,none]) (λK hK=>?_) ?_
 ·rw[<-hP] at hK ⊢;walk_at "rd";exact hK _ rfl
 rintro g rfl;refine cE (λg=>g=[aa PD,aa TD,aa (.int sh),aa (.tup (cs.map pt)),aa .non,none,none,none,none,none]) (λK hK=>?_) ?_
 ·walk_at "rd";exact hK _ rfl
 rintro g rfl;refine cE (λg=>∃(M:Int) (a b c d e:Option S),((∃a b,au cs a b/\M=f8 sh X Y W a b)/\∀a b,au cs a b->M<=f8 sh X Y W a b)/\g=[aa PD,aa TD,aa (.int sh),aa (.tup (cs.map pt)),aa (.int M),a,b,c,d,e]) (λK hK=>?_) ?_
 ·simp only[oD,PM,aD,aZ,r1,qZ,aL,aE,aI,S.val,bV];refine⟨by constructor <;> lia,?_⟩;have nn:(((cs.length:Nat):Int)).toNat=cs.length:=by lia
  simp only[nn];refine ZA 0 cs.length (λi g=>∃(lo:D) (a b c d e:Option S),((i=0/\lo = .non)\/(∃M k0:Int × Nat,k0.2<i/\M.1=f8 sh X Y W (rg cs (k0.2+(cs.length-1))) (rg cs k0.2)/\(∀k,k<i->M.1<=f8 sh X Y W (rg cs (k+(cs.length-1))) (rg cs k))/\lo = .int M.1))/\g=[aa PD,aa TD,aa (.int sh),aa (.tup (cs.map pt)),aa lo,a,b,c,d,e]) ?_ ?_ _ ⟨.non,none,none,none,none,none,cY ⟨rfl,rfl⟩,rfl⟩
  ·rintro i g hi ⟨lo,a,b,c,d,e,U3,rfl⟩ F _ _ hn _;obtain⟨p1,p2⟩:=hS _ (xT pos (i+(cs.length-1)));obtain⟨q1,q2⟩:=hS _ (xT pos i);unfold xB;subst hT;obtain⟨u,hu⟩:∃u,u=rg cs (i+(cs.length-1)):=⟨_,rfl⟩;have bx:=(bX.mul bs).sub (p1.mul bW);have n8:=(bY.mul bs).sub (p2.mul bW);have e1:∀{Q:D->Prop},bi (.tup (cs.map pt)) (.int (0+(i:Int)-1)) Q=Q (pt u):=λ{Q}=>(by rw[hu];exact KC hi);rw[<-hu] at p1 p2 bx n8;simp only[dC,aX,aR];refine cE (λg=>g=[aa PD,aa (jq X Y W),aa (.int sh),aa (.tup (cs.map pt)),aa lo,aa (.int (0+(i:Int))),aa (pt u),c,d,e]) (λK' ki=>?_) ?_
   ·simp only[fC,r2,aL,rC,S.val,nR,aI,aE,e1,aX,aR];exact ki _ rfl
   rintro g rfl;refine cE (λg=>g=[aa PD,aa (jq X Y W),aa (.int sh),aa (.tup (cs.map pt)),aa lo,aa (.int (0+(i:Int))),aa (pt u),aa (.int (X*sh-u.1*W)),d,e]) (λK' ki=>?_) ?_
   ·simp only[fC,r2,aL,rC,S.val,nR,fO,sB,CM,aI,aE,aX,aR];exact⟨bX.mulOk bs,p1.mulOk bW,ki _ rfl⟩
   rintro g rfl;refine cE (λg=>g=[aa PD,aa (jq X Y W),aa (.int sh),aa (.tup (cs.map pt)),aa lo,aa (.int (0+(i:Int))),aa (pt u),aa (.int (X*sh-u.1*W)),aa (.int (Y*sh-u.2*W)),e]) (λK' ki=>?_) ?_
   ·simp only[fC,r2,aL,rC,S.val,nR,fO,nQ,CM,aI,aE,aX,aR];exact⟨bY.mulOk bs,p2.mulOk bW,ki _ rfl⟩
   rintro g rfl;refine cE (λg=>g=[aa PD,aa (jq X Y W),aa (.int sh),aa (.tup (cs.map pt)),aa lo,aa (.int (0+(i:Int))),aa (pt u),aa (.int (X*sh-u.1*W)),aa (.int (Y*sh-u.2*W)),aa (.int (f8 sh X Y W u (rg cs i)))]) (λK' ki=>?_) ?_
   ·simp only[fC,r2,aL,rC,S.val,nR,fO,CU hi,sB,nQ,aI,aE,aX,aR];refine⟨(q1.sub p1).mulOk n8,(q2.sub p2).mulOk bx,?_⟩;rw[IA];exact ki _ rfl
   rintro g rfl;subst hu;walk_at "rd";have mk:∀(M:Int) (k0:Nat) (a b c d e:Option S),k0<i+1->M=f8 sh X Y W (rg cs (k0+(cs.length-1))) (rg cs k0)->(∀k,k<i+1->M<=f8 sh X Y W (rg cs (k+(cs.length-1))) (rg cs k))->F.nx [aa PD,aa (jq X Y W),aa (.int sh),aa (.tup (cs.map pt)),aa (.int M),a,b,c,d,e] :=
    λM k0 a b c d e h1 h2 h3=>hn _ ⟨_,a,b,c,d,e,cV ⟨(M,0),(0,k0),h1,h2,h3,rfl⟩,rfl⟩
   have le:∀{M:Int},M<=f8 sh X Y W (rg cs (i+(cs.length-1))) (rg cs i)->(∀k,k<i->M<=f8 sh X Y W (rg cs (k+(cs.length-1))) (rg cs k))->∀k,k<i+1->M<=f8 sh X Y W (rg cs (k+(cs.length-1))) (rg cs k):=λh h' k hk=>by
    rcases vU (jM hk) with h0 | rfl
    ·exact h' k h0
    ·exact h
   rcases U3 with ⟨h0,rfl⟩ | ⟨M,k0,h1,h2,h3,rfl⟩
   ·subst h0;simp only[if_true];exact mk _ 0 _ _ _ _ _ (Nat.zero_lt_succ _) rfl (le (wN _) λk hk=>absurd hk (oI k))
   ·simp only[aO,if_false];split
    ·rename_i dw;exact mk _ i _ _ _ _ _ (nK i) rfl (le (wN _) λk hk=>zG (cR dw) (h3 k hk))
    ·rename_i dw;exact mk _ k0.2 _ _ _ _ _ (gU h1) h2 (le (jY.mp dw) h3)
  ·rintro g ⟨lo,a,b,c,d,e,U3,rfl⟩;rcases U3 with ⟨h0,rfl⟩ | ⟨M,k0,h1,h2,h3,rfl⟩
   ·lia
   ·refine hK _ ⟨M.1,a,b,c,d,e,⟨⟨_,_,Bf pos k0.2,h2⟩,λx y hxy=>?_⟩,rfl⟩;obtain⟨k,hk,rfl,rfl⟩:=Sk hxy;exact h3 k hk
 rintro g ⟨M,a,b,c,d,e,⟨m1,m2⟩,rfl⟩;have fin:=q M m1 m2;walk_at "rd";exact fin
def QG:FD:=λds Q=>∃(sh:Int) (zs:List Pt),ds=[pc sh zs]/\1<=sh/\3<=zs.length/\Q (.bl true)
def AJ:∀ds Q,QG ds Q->sU IN { nx:=λ_=>Q .non,rt:=Q } (eD ["_law_piece","_law_corner"] ds):=by
 rintro ds Q ⟨sh,zs,rfl,h1,h3,q⟩;rw[cS 1 rfl];unfold sU;simp only[jB,Dw,aQ,cB,aW,bC];refine cE (λa=>a=[aa (pc sh zs),none]) (λK hK=>?_) ?_
 ·walk_at "rd";refine⟨sh,rfl,?_⟩;walk_at "rd";rw[if_neg (by lia)];exact hK _ rfl
 rintro a rfl;refine cE (λa=>a=[aa (pc sh zs),none]) (λK hK=>?_) ?_
 ·walk_at "rd";rw[if_neg (by simp;lia)];exact hK _ rfl
 rintro a rfl;refine cE (λa=>True) (λK hK=>?_) ?_
 ·walk_at "rd";refine kU (λxs a=>∃(rest:List Pt) (x:Option S),xs=rest.map pt/\a=[aa (pc sh zs),x]) ?_ ?_ _ _ ⟨zs,none,rfl,rfl⟩
  ·rintro x xs a ⟨rest,u,ex,rfl⟩ F _ _ hn _;cases rest with
   | nil=>cases ex
   | cons z rest =>
    cases ex;unfold qM;walk_at "rd";exact⟨_,rfl,_,rfl,hn _ ⟨rest,aa (pt z),rfl,rfl⟩⟩
  ·rintro a _;exact hK _ trivial
 rintro a _;walk_at "rd";exact q
structure e_ (sh:Int) (zs:List Pt):Prop where
 pos:0<sh
 cvx:bB zs
 first:∃z T,zs=z::T/\∀q∈T,¬bo q z
 cop:∀d:Nat,(d:Int)∣sh->(∀z∈zs,(d:Int)∣z.1/\(d:Int)∣z.2)->d=1
def Nf:FD:=λds Q=>∃(sh:Int) (zs:List Pt),ds=[pc sh zs]/\e_ sh zs/\(∀z∈zs,BP z)/\zs.length<=100/\Q (.bl true)
def KY:∀ds Q,Nf ds Q->yV BT QG XZ { nx:=λ_=>Q .non,rt:=Q } (eD ["_law_piece","_law_share_here","_law_corners","_law_most","_law_falls","_law_k"] ds):=by
 rintro ds Q ⟨sh,zs,rfl,ip,hB,hl,q⟩;have h3:=ip.cvx.len;have pos:0<zs.length:=by lia
 rw[cS 5 rfl];unfold yV;simp only[jB,Us,aQ,cB,aW,bC];generalize hP:pc sh zs=PD;refine cE (λc=>c=[aa PD,none,none,none,none,none]) (λK hK=>?_) ?_
 ·walk_at "rd";refine⟨sh,zs,by rw[hP],by have:=ip.pos;lia,h3,?_⟩;walk_at "rd";exact hK _ rfl
 rintro c rfl;refine cE (λc=>c=[aa PD,aa (.int sh),aa (.tup (zs.map pt)),none,none,none]) (λK hK=>?_) ?_
 ·rw[<-hP] at hK ⊢;walk_at "rd";exact hK _ rfl
 rintro c rfl;refine cE (λc=>c=[aa PD,aa (.int sh),aa (.tup (zs.map pt)),aa (.int sh),none,none]) (λK hK=>?_) ?_
 ·walk_at "rd";exact hK _ rfl
 rintro c rfl;refine cE (λc=>c=[aa PD,aa (.int sh),aa (.tup (zs.map pt)),aa (.int sh),aa (.int 0),none]) (λK hK=>?_) ?_
 ·walk_at "rd";exact hK _ rfl
 rintro c rfl;refine cE (λc=>∃(a:Option S),c=[aa PD,aa (.int sh),aa (.tup (zs.map pt)),aa (.int 1),aa (.int 1),a]) (λK hK=>?_) ?_
 ·simp only[oD,PM,aD,aZ,r1,qZ,aL,aE,aI,S.val,bV];refine⟨by constructor <;> lia,?_⟩;have nn:(((zs.length:Nat):Int)).toNat=zs.length:=by lia
  have sn:(sh.toNat:Int)=sh:=by have:=ip.pos;lia
  simp only[nn];refine ZA 0 zs.length (λi c=>∃(g:Nat) (a:Option S),fw sh (zs.take i) g/\c=[aa PD,aa (.int sh),aa (.tup (zs.map pt)),aa (.int g),aa (.int (if 2<=i then 1 else 0)),a]) ?_ ?_ _ ⟨sh.toNat,none,⟨by have:=ip.pos;lia,?_,by simp,λd e1 _=>?_⟩,by rw[sn];rfl⟩
  ·rintro i c hi ⟨g,a,hg,rfl⟩ F hrt _ hn _;have p0:=hB _ (xT pos i);have p1:=hB _ (xT pos (i+(zs.length-1)));have p2:=hB _ (xT pos (i+(zs.length-2)));have tp:0<bP (rg zs (i+(zs.length-2))) (rg zs (i+(zs.length-1))) (rg zs i):=by
    have:=ip.cvx.bend_rg (i+(zs.length-2))
    rwa [show i+(zs.length-2)+1=i+(zs.length-1) by lia,show i+(zs.length-2)+2=i+zs.length by lia,HY] at this
   have ff:(bo (rg zs (i+(zs.length-1))) (rg zs (i+(zs.length-2)))/\bo (rg zs (i+(zs.length-1))) (rg zs i))↔i=1:=by
    obtain⟨z,T,e,least⟩:=ip.first;have cv:=ip.cvx;subst e;exact Lc cv least hi
   have hg':fw sh (zs.take (i+1)) (bR (bR g (rg zs i).1:Nat) (rg zs i).2):=by
    rw[nJ,GN hi];exact hg.snoc _
   have fin:∀v:Int,v=(if 2<=i+1 then 1 else 0)->F.nx [aa PD,aa (.int sh),aa (.tup (zs.map pt)),aa (.int (bR (bR g (rg zs i).1:Nat) (rg zs i).2:Nat)),aa (.int v),aa (.int (0+(i:Int)))]:=λv hv=>hn _ ⟨_,aa (.int (0+(i:Int))),hg',by rw[hv]⟩;unfold uJ;simp only[dC,aX,aR];refine cE (λc=>c=[aa PD,aa (.int sh),aa (.tup (zs.map pt)),aa (.int (bR (bR g (rg zs i).1:Nat) (rg zs i).2:Nat)),aa (.int (if 2<=i then 1 else 0)),aa (.int (0+(i:Int)))]) (λK' ki=>?_) ?_
   ·simp only[fC,cZ,aD,aZ,r2,cG,aL,rC,S.val,CU hi,sB,nQ,aI,aE,aX,aR];exact⟨_,_,rfl,_,_,rfl,ki _ rfl⟩
   rintro c rfl;refine cE (λc=>c=[aa PD,aa (.int sh),aa (.tup (zs.map pt)),aa (.int (bR (bR g (rg zs i).1:Nat) (rg zs i).2:Nat)),aa (.int (if 2<=i then 1 else 0)),aa (.int (0+(i:Int)))]) (λK' ki=>?_) ?_
   ·simp only[lJ,dS,cZ,aD,aZ,r2,aL,rC,iM,S.val,nR,mE,CU hi,KC hi,Cf hi (show 2<=zs.length by lia),aI,aE];refine⟨_,_,_,rfl,⟨p2,p1,p0⟩,?_⟩;dsimp only;rw[if_neg (by simp only[decide_eq_true_eq];lia)];exact ki _ rfl
   rintro c rfl;simp only[lJ,xQ,dS,fC,iM,r2,aL,rC,S.val,nR,lM,Sl,CU hi,KC hi,Cf hi (show 2<=zs.length by lia),aI,aE,aX,aR];refine⟨[_,_],[_,_],rfl,rfl,?_⟩;rw[KF];by_cases h1:bo (rg zs (i+(zs.length-1))) (rg zs (i+(zs.length-2)))
   ·simp only[h1,decide_true,if_true];refine⟨[_,_],[_,_],rfl,rfl,?_⟩;rw[KF];by_cases h2:bo (rg zs (i+(zs.length-1))) (rg zs i)
    ·simp only[h2,decide_true,if_true];have:=ff.mp ⟨h1,h2⟩;subst this;exact fin _ (by simp)
    ·simp only[h2,decide_false,if_false,aO];have:i≠1:=λe=>h2 (ff.mpr e).2;refine fin _ ?_;by_cases h4:2<=i
     ·rw[if_pos h4,if_pos (by lia)]
     ·rw[if_neg h4,if_neg (by lia)]
   ·simp only[h1,decide_false,if_false,aO];have:i≠1:=λe=>h1 (ff.mpr e).1;refine fin _ ?_;by_cases h4:2<=i
    ·rw[if_pos h4,if_pos (by lia)]
    ·rw[if_neg h4,if_neg (by lia)]
  ·rintro c ⟨g,a,hg,rfl⟩;rw[sX] at hg;have:=ip.cop g hg.sh hg.all;subst this;refine hK _ ⟨a,?_⟩;rw[if_pos (by lia)];rfl
  ·rw[sn];exact pS _
  ·exact_mod_cast (by rw[sn];exact e1:(d:Int)∣(sh.toNat:Int))
 rintro c ⟨a,rfl⟩;obtain⟨z,T,e,least⟩:=ip.first;subst e;walk_at "rd";refine⟨(z::T).map λp=>[p.1,p.2],by rw[cM];rfl,by simp,λM m1 m2=>?_⟩;obtain⟨p,hp,rfl⟩:=bJ.mp m1;have ep:z=p:=by
  rcases aN.mp hp with h | h
  ·exact h.symm
  ·have h1:=least p h;have h2:=m2 [z.1,z.2] (by simp);rw[KF] at h2;simp only[decide_eq_false_iff_not] at h2;rcases qS z p with k | k | k
   ·exact absurd k h2
   ·exact k
   ·exact absurd k h1
 subst ep;have ee:fi 6 (pt z) (pt z)=some true:=by rw[YW];simp
 rw[show oU [z.1,z.2]=pt z from rfl]
 first
  | (rw[ee];exact q)
  | (show (match fi 6 (pt z) (pt z) with | some b=>Q (.bl b) | none=>False);rw[ee];exact q)
def jd.isPc (h:jd L sh cs ca zs):e_ ca zs:=⟨h.pos,h.cvx,h.first,h.cop⟩
def Ia:BL (n+1) 0:=(BL.const (n:=1) (i:=0) (by decide)).mono (by lia)
theorem Nt:∀(l:List Pt) (a:Pt),(BL n a.1/\BL n a.2)->VS n l->BL (2*n+1+l.length) (f7 dz a l)
 | [],a,_,_=>Ia
 | b::l,a,ha,hl=>by
  obtain⟨b1,b2⟩:=hl b (by simp);have ih:=Nt l b ⟨b1,b2⟩ λz hz=>hl z (by simp[hz]);have c:BL (2*n+1) (dz a b):=((ha.1.mul b2).sub (ha.2.mul b1)).mono (by lia);refine (c.add ih).mono ?_;rw[bH];lia
theorem Wy {zs:List Pt} (h:VS n zs):BL (2*n+1+zs.length) (nB dz zs):=by
 cases zs with
 | nil=>exact Ia
 | cons z T =>
  have:=Nt (T++[z]) z (h z (by simp)) λw hw=>h w (by simp at hw ⊢;rcases hw with k | k <;> simp[k]);rw[dA] at this;exact this
namespace K33
abbrev P2:=Int × Int
abbrev Mv:=Int × P2 × P2
def p9 (m:Mv):D:=.tup [.int m.1,pt m.2.1,pt m.2.2]
def B4 (h:x∈[D.int 9,D.int 1000000000000000000000000000000]):∃f:Int,x = .int f/\0<=f/\BL 200 f:=by
 rcases aN.mp h with rfl | h
 ·exact⟨9,rfl,by decide,BL.const (by decide)⟩
 ·rcases aN.mp h with rfl | h
  ·exact⟨_,rfl,by decide,BL.const (by decide)⟩
  ·cases h
def Jy (I:En->Prop) (h1:∀K:En->Prop,(∀a',I a'->K a')->t { nx:=K,rt:=λ_=>False } a) (h2:∀a',I a'->u E a'):Js t u E a:=h1 (u E) h2
end K33
def dh (s:Int):Prop:=s=1\/s = -1
def dh.bl {s:Int} (h:dh s):BL 10 s:=by rcases h with rfl | rfl <;> exact BL.const
def dh.abs {s:Int} (h:dh s):s.natAbs=1:=by rcases h with rfl | rfl <;> rfl
def dh.natAbs_mul {s a:Int} (h:dh s):(s*a).natAbs=a.natAbs:=by rw[iH,h.abs,Nat.one_mul]
def qK:FD:=λds Q=>∃s a b:Int,ds=[.int s,fr a b]/\dh s/\BL 4000 a/\Q (fr (s*a) b)
def Dt:∀ds Q,qK ds Q->XL { nx:=λ_=>Q .non,rt:=Q } (eD ["sign","one"] ds):=by
 rintro ds Q ⟨s,a,b,rfl,hs,ba,q⟩;rw[cS 0 rfl];unfold XL;walk_at "rd";exact⟨hs.bl.mulOk ba,q⟩
abbrev xr (s c d e f:Int):D:=.tup [.int s,fr c d,fr e f]
abbrev sp (a b g h:Int):D:=.tup [fr a b,fr g h]
def Al:FD:=λds Q=>∃s c d e f a b g h:Int,ds=[xr s c d e f,sp a b g h]/\dh s/\(0<d/\0<f/\0<b/\0<h)/\(BL 4000 c/\BL 4000 d/\BL 4000 e/\BL 4000 f/\BL 4000 a/\BL 4000 b/\BL 4000 g/\BL 4000 h) /\
 ∀p q r t,rh (s*a*d+c*b) (b*d) p q->rh (s*g*f+e*h) (h*f) r t->Q (sp p q r t)
def Qs:∀ds Q,Al ds Q->Rb LN qK { nx:=λ_=>Q .non,rt:=Q } (eD ["move","spot","sign"] ds):=by
 rintro ds Q ⟨s,c,d,e,f,a,b,g,h,rfl,hs,⟨d0,f0,b0,h0⟩,⟨bc,bd,be,bf,ba,bb,bg,bh⟩,q⟩;rw[cS 1 rfl];unfold Rb;walk_at "rd";refine⟨s,a,b,rfl,hs,ba,_,_,_,_,rfl,⟨b0,d0⟩,⟨ba.le (zO hs.natAbs_mul),bb,bc,bd⟩,λp q' l1=>?_⟩;refine⟨s,g,h,rfl,hs,bg,_,_,_,_,rfl,⟨h0,f0⟩,⟨bg.le (zO hs.natAbs_mul),bh,be,bf⟩,λr t l2=>?_⟩;exact q _ _ _ _ l1 l2
def vJ:FD:=λds Q=>∃s c d e f s' c' d' e' f':Int,ds=[xr s c d e f,xr s' c' d' e' f']/\(dh s/\dh s')/\(0<d/\0<f/\0<d'/\0<f')/\(BL 4000 c/\BL 4000 d/\BL 4000 e/\BL 4000 f/\BL 4000 c'/\BL 4000 d'/\BL 4000 e'/\BL 4000 f') /\
 ∀p q r t,rh (s'*c*d'+c'*d) (d*d') p q->rh (s'*e*f'+e'*f) (f*f') r t->Q (xr (s*s') p q r t)
def Dh:∀ds Q,vJ ds Q->XF Al { nx:=λ_=>Q .non,rt:=Q } (eD ["first","second","shift"] ds):=by
 rintro ds Q ⟨s,c,d,e,f,s',c',d',e',f',rfl,⟨hs,wd⟩,⟨d0,f0,d0',f0'⟩,⟨bc,bd,be,bf,bc',bd',be',bf'⟩,q⟩;rw[cS 1 rfl];unfold XF;walk_at "rd";refine⟨s',c',d',e',f',c,d,e,f,rfl,wd,⟨d0',f0',d0,f0⟩,⟨bc',bd',be',bf',bc,bd,be,bf⟩,λp q' r t l1 l2=>?_⟩;walk_at "rd";exact⟨hs.bl.mulOk wd.bl,q _ _ _ _ l1 l2⟩
def qX:FD:=λds Q=>∃s c d e f:Int,ds=[xr s c d e f]/\dh s/\(BL 4000 c/\BL 4000 e)/\Q (xr s (-s*c) d (-s*e) f)
def dh.neg {s:Int} (h:dh s):dh (-s):=by rcases h with rfl | rfl;exact .inr rfl;exact .inl rfl
def VI:∀ds Q,qX ds Q->OH qK { nx:=λ_=>Q .non,rt:=Q } (eD ["move","sign"] ds):=by
 rintro ds Q ⟨s,c,d,e,f,rfl,hs,⟨bc,be⟩,q⟩;rw[cS 1 rfl];unfold OH;walk_at "rd";exact⟨_,_,_,rfl,hs.neg,bc,_,_,_,rfl,hs.neg,be,q⟩
namespace K34
open K33
structure Told (e:Int) (A:List Pt) (sh:Int) (zs:List Pt):Prop where
 ex:∃(w:Pt) (T:List Pt) (m:Int),ic A (w::T)/\(∀x∈T,¬bo x w)/\f6 e (w::T) m sh zs
def Told.same (a:Told e1 A uz zs1) (b:Told e2 B oq va) (h1:0<e1) (h2:0<e2) (eq:A.map (scl e2)=B.map (scl e1)) (nd:A.Nodup):uz=oq/\zs1=va:=by
 obtain⟨w1,T1,m1,ra,l1,N1⟩:=a;obtain⟨w2,T2,m2,rb,l2,N2⟩:=b;have rr:ic ((w1::T1).map (scl e2)) ((w2::T2).map (scl e1)):=((ra.symm.map (scl e2)).trans (by rw[eq];exact ic.refl _)).trans (rb.map (scl e1));have nd1:((w1::T1).map (scl e2)).Nodup:=wP (scl e2) (λa b hn h=>hn (LF h2 h)) (ra.nodup nd);rw[aQ,aQ] at rr;rw[aQ] at nd1;have eq:=rr.least nd1 (λx hx=>by obtain⟨y,hy,rfl⟩:=bJ.mp hx;rw[HZ h2];exact l1 y hy) λx hx=>by obtain⟨y,hy,rfl⟩:=bJ.mp hx;rw[HZ h1];exact l2 y hy
 exact N1.same N2 h2 h1 (iY ..) (by simpa using eq)
def Told.ring (a:Told e A sh zs):∃A',ic A A'/\zs.map (scl e)=A'.map (scl sh):=by
 obtain⟨w,T,m,ra,l,N⟩:=a;refine⟨w::T,ra,?_⟩;have h1:=N.cs_eq;have h2:=N.sh_eq;rw[h1,cM];refine nE λz _=>?_;show scl e z=(sh*(m*z.1),sh*(m*z.2));rw[h2];exact lQ (by dsimp only[scl];grind) (by dsimp only[scl];grind)
def Ot {cs:List Pt} {ds:List Pt} (h:kr share cs m sh ds j):Told share cs sh (turned j ds):=by
 obtain⟨w,T,e,l⟩:=h.first;have N:=h.norm;rw[e] at N;exact⟨w,T,m,by rw[<-e];exact IB j cs,l,N⟩
def Xm (share:Int) (hs:0<share) (cs:List Pt):∃g,fw share cs g:=by
 have key:∀(todo done:List Pt),(∃g,fw share done g)->∃g,fw share (done++todo) g:=by
  intro todo
  induction todo with
  | nil=>intro done h;simpa using h
  | cons z todo ih =>
   intro done ⟨g,h⟩;have:=ih (done++[z]) ⟨_,h.snoc z⟩;simpa using this
 refine key cs [] ⟨share.natAbs,?_⟩;refine⟨by lia,vM.mpr (pS _),λz hz=>absurd hz gH,λd h1 _=>?_⟩;exact Int.ofNat_dvd.mp (Int.dvd_natAbs.mpr h1)
def Tl (he:0<e) (cs:List Pt):∃m sh zs,f6 e cs m sh zs:=by
 obtain⟨g,G⟩:=Xm e he cs;have gp:(0:Int)<g:=by have:=G.pos;lia
 have back:∀x:Int,(g:Int)∣x->(g:Int)*(x / g)=x:=λx h=>jD h;refine⟨g,e / g,cs.map λz=>(z.1 / g,z.2 / g),⟨gp,(back e G.sh).symm,?_,λd h1 h2=>?_⟩⟩
 ·rw[cM]
  conv=>lhs;rw[<-pF cs]
  refine nE λz hz=>?_;obtain⟨a,b⟩:=G.all z hz;exact lQ (back _ a).symm (back _ b).symm
 ·have dg:((d*g:Nat):Int)∣e:=by
   rw[<-back e G.sh];obtain⟨c,hc⟩:=h1;exact⟨c,by rw[hc];push_cast;grind⟩
  have da:∀z∈cs,((d*g:Nat):Int)∣z.1/\((d*g:Nat):Int)∣z.2:=λz hz=>by
   obtain⟨a,b⟩:=G.all z hz;obtain⟨⟨c1,h3⟩,⟨c2,h4⟩⟩:=h2 _ (bJ.mpr ⟨z,hz,rfl⟩);dsimp only at h3 h4;exact⟨⟨c1,by rw[<-back z.1 a,h3];push_cast;grind⟩,⟨c2,by rw[<-back z.2 b,h4];push_cast;grind⟩⟩
  have:=G.most _ dg da;have le:=tM G.pos this;have dp:0<d:=by
   rcases vS d with h | h
   ·subst h;rw[Nat.zero_mul] at this;have:=yE this;have:=G.pos;lia
   ·exact h
  have g0:=G.pos;by_cases h:d=1
  ·exact h
  ·have:2*g<=d*g:=CC g (by lia);lia
def Kc (he:0<e) (hA:A≠[]):∃sh zs,Told e A sh zs:=by
 obtain⟨w,T,r,l⟩:=CY A hA;obtain⟨m,sh,zs,N⟩:=Tl he (w::T);exact⟨sh,zs,w,T,m,r,l,N⟩
structure nq (f:P2):Prop where
 pos:0<f.2
 top:BL 40 f.1
 bot:BL 12 f.2
def Vy (h0:0<=f) (h1:BL 200 f) (a0:0<=x) (a1:x<2*f+1):BL 210 (x-f):=by
 refine (h1.mono).le ?_;lia
end K34
namespace K36
open K34 K33
def Vf (a:Told e1 A sh zs) (h1:0<e1) (h2:0<e2) (hB:B≠[]) (eq:A.map (scl e2)=B.map (scl e1)) (nd:A.Nodup):Told e2 B sh zs:=by
 obtain⟨oq,va,b⟩:=Kc h2 hB;obtain⟨rfl,rfl⟩:=Told.same a b h1 h2 eq nd;exact b
def kg (S lo hi:Int) (z:Pt):Pt:=(z.1*S,z.1*lo+z.2*hi)
def Ao (S lo hi:Int) (a b c:Pt):bP (kg S lo hi a) (kg S lo hi b) (kg S lo hi c)=S*hi*bP a b c:=by unfold bP kg;dsimp only;grind
def Sb (S lo hi:Int) (a b:Pt):dz (kg S lo hi a) (kg S lo hi b)=S*hi*dz a b:=by unfold dz kg;dsimp only;grind
def Hx {S lo hi:Int} (hS:0<S) (hh:0<hi) (h:kg S lo hi a=kg S lo hi b):a=b:=by
 unfold kg at h;simp only[fF] at h;have e1:a.1=b.1:=pE (by lia) h.1;have e2:a.2=b.2:=pE (a:=hi) (by lia) (by have:=h.2;rw[e1] at this;lia);exact lQ e1 e2
def YD {S lo hi:Int} (hS:0<S) (hh:0<hi) (c:bB P):bB (P.map (kg S lo hi)):=c.map (aS hS hh) (Ao S lo hi) λa b h=>Hx hS hh h
def OY:List Pt->List (Pt × Pt)
 | []=>[]
 | [_]=>[]
 | a::b::r=>(a,b)::OY (b::r)
theorem DJ:∀{l:List Pt} {a b:Pt},gn l a b->(a,b)∈OY l
 | l,a,b,⟨[],r,e⟩=>by subst e;exact cF
 | l,a,b,⟨[x],r,e⟩=>by subst e;exact aT _ (DJ ⟨[],r,rfl⟩)
 | l,a,b,⟨x::y::t,r,e⟩=>by subst e;exact aT _ (DJ ⟨y::t,r,rfl⟩)
def HM (P:List Pt):Bool:=decide (3<=P.length) && decide P.Nodup && (OY (P++P.take 1)).all λp=>P.all λq=>decide (q=p.1) || decide (q=p.2) || decide (0<bP p.1 p.2 q)
def Ih (h:HM P=true):bB P:=by
 unfold HM at h;simp only[gS,decide_eq_true_eq] at h;refine⟨h.1.1,h.1.2,λa b dq q hq n1 n2=>?_⟩;have:=kA.mp (kA.mp h.2 _ (DJ dq)) q hq;simp only[tV,decide_eq_true_eq] at this;rcases this with (z | z) | z
 ·exact absurd z n1
 ·exact absurd z n2
 ·exact z
def rL:List (List Pt):=[[(0,0),(24,0),(24,24),(0,24)],[(0,0),(24,0),(24,24)],[(0,0),(24,24),(0,24)],[(0,0),(24,0),(0,24)],[(24,0),(24,24),(0,24)],[(0,0),(8,0),(8,24),(0,24)],[(8,0),(24,0),(24,24),(8,24)]]
def rM:∀P∈rL,bB P:=λP hP=>Ih ((by decide +kernel:∀P∈rL,HM P=true) P hP)
structure Fm (s h:Pt):Prop where
 ls:nq s
 h1:0<h.1
 b1:BL 10 h.1
 h2:0<h.2
 b2:BL 10 h.2
abbrev n6 (s h:Pt) (z:Pt):Pt:=kg (s.2*h.2) (s.1*h.2) (h.1*s.2) z
abbrev eF (s h:Pt):Int:=24*(s.2*h.2)
def x9 (P:List Pt):Prop:=∀a∈P,(0<=a.1/\a.1<=24)/\0<=a.2/\a.2<=24
def Gp (s h:Pt) (P:List Pt) (sh:Int) (cs:List Pt):Prop:=Told (eF s h) (P.map (n6 s h)) sh cs
section
variable {s h:Pt}
theorem Fm.sp (f:Fm s h):0<s.2*h.2:=aS f.ls.pos f.h2
theorem Fm.hp (f:Fm s h):0<h.1*s.2:=aS f.h1 f.ls.pos
theorem Fm.ep (f:Fm s h):0<eF s h:=aS (by decide) f.sp
theorem Sd (h0:0<=x) (h1:x<=24):BL 5 x:=(BL.const (n:=5) (i:=24) (by decide)).le (by lia)
theorem EC (he:0<e) (T:Told e A sh zs):0<sh:=by
 obtain⟨w,T',m,_,_,N⟩:=T;have:=N.sh_eq;rw[this] at he;exact wA N.mpos he
theorem Ah (he:0<e) (T:Told e A sh zs) (be:BL k e) (bA:∀a∈A,BL n a.1/\BL n a.2):BL k sh/\(∀z∈zs,BL n z.1/\BL n z.2)/\zs.length=A.length:=by
 obtain⟨w,T',m,r,_,N⟩:=T;have mp:=N.mpos;have le:∀x:Int,x.natAbs<=(m*x).natAbs:=λx=>by
  rw[iH];exact zN _ (by lia)
 refine⟨be.le (by rw[N.sh_eq];exact le sh),λz hz=>?_,?_⟩
 ·have mz:((m*z.1,m*z.2):Pt)∈A:=(r.mem _).mpr (by rw[N.cs_eq];exact bJ.mpr ⟨z,hz,rfl⟩);obtain⟨c1,c2⟩:=bA _ mz;exact⟨c1.le (le _),c2.le (le _)⟩
 ·obtain⟨X,Y,e1,e2⟩:=r;have l1:=congrArg fM e1;have l2:=congrArg fM e2;have l3:=congrArg fM N.cs_eq;simp at l1 l2 l3;lia
theorem Ai (he:0<e) (T:Told e A sh zs) (c:bB A):e_ sh zs:=by
 have hp:=EC he T;obtain⟨w,T',m,r,l,N⟩:=T;have ec:w::T'=zs.map (scl m):=N.cs_eq;refine⟨hp,bB.unscl N.mpos (by rw[<-ec];exact c.rot r),?_,N.cop⟩;cases zs with
 | nil=>simp at ec
 | cons z' T2 =>
  simp only[aQ,fY] at ec;refine⟨z',T2,rfl,λq hq dw=>?_⟩;refine l (scl m q) (by rw[ec.2];exact cO hq) ?_;rw[ec.1];exact (HZ N.mpos).mpr dw
theorem Gp.facts (f:Fm s h) (g:x9 P) (c:bB P) (T:Gp s h P sh cs):e_ sh cs/\BL 40 sh/\(∀z∈cs,BL 70 z.1/\BL 70 z.2)/\cs.length=P.length:=by
 have bS:BL 22 (s.2*h.2):=(f.ls.bot.mul f.b2).mono;have bl:BL 50 (s.1*h.2):=(f.ls.top.mul f.b2).mono;have bh:BL 22 (h.1*s.2):=(f.b1.mul f.ls.bot).mono;have be:BL 40 (eF s h):=((BL.const (n:=5) (i:=24) (by decide)).mul bS).mono;obtain⟨q1,q2,q3⟩:=Ah f.ep T be (n:=70) (λa ha=>by
  obtain⟨z,hz,rfl⟩:=bJ.mp ha;obtain⟨⟨x0,x1⟩,y0,y1⟩:=g z hz;have bx:=Sd x0 x1;have n8:=Sd y0 y1;exact⟨(bx.mul bS).mono,((bx.mul bl).add (n8.mul bh)).mono⟩)
 exact⟨Ai f.ep T (YD f.sp f.hp c),q1,q2,by rw[q3,bV]⟩
end
def KQ:∀P∈rL,x9 P:=by unfold x9;decide +kernel
structure o_ (m:Mv):Prop where
 sg:m.1=1\/m.1 = -1
 q0:0<m.2.1.2
 v0:0<m.2.2.2
 cx:bR m.2.1.1 m.2.1.2=1
 cy:bR m.2.2.1 m.2.2.2=1
 bp:BL 400 m.2.1.1
 bq:BL 400 m.2.1.2
 bu:BL 400 m.2.2.1
 bv:BL 400 m.2.2.2
abbrev Bt:=List Pt × Int × List Pt × Mv
def d_ (b:Bt):D:=.tup [pc b.2.1 b.2.2.1,p9 b.2.2.2]
def Yg {z:Pt}:rj (pt z):=.cons .int (.cons .int .nil)
def Rz:FD:=λds Q=>∃a b c d:Int,ds=[.tup [.int a,.int b],.tup [.int c,.int d]]/\(BL 5000 a/\BL 5000 b/\BL 5000 c/\BL 5000 d)/\Q (.tup [.int (a*d+c*b),.int (b*d)])
def Zd:∀ds Q,Rz ds Q->tR { nx:=λ_=>Q .non,rt:=Q } (eD ["_law_one","_law_other"] ds):=by
 rintro ds Q ⟨a,b,c,d,rfl,⟨b1,b2,b3,b4⟩,q⟩;rw[cS 0 rfl];unfold tR;walk_at "rd";exact⟨b1.mulOk b4,b3.mulOk b2,b2.mulOk b4,q⟩
def XV:FD:=λds Q=>∃(sh:Int) (zs:List Pt),ds=[pc sh zs]/\(BL 9000 sh/\VS 9000 zs/\1<=zs.length/\zs.length<=100)/\Q (.tup [.int (nB dz zs),.int (sh*sh)])
def Gv:∀ds Q,XV ds Q->DQ { nx:=λ_=>Q .non,rt:=Q } (eD ["_law_piece","_law_total","_law_k","_law_one","_law_two"] ds):=by
 rintro ds Q ⟨sh,zs,rfl,⟨bs,hS,l1,l2⟩,q⟩;rw[cS 4 rfl];unfold DQ;simp only[jB,Mm,aQ,cB,aW,bC];have pos:0<zs.length:=by lia
 refine cE (λd=>d=[aa (pc sh zs),aa (.int 0),none,none,none]) (λK hK=>?_) ?_
 ·walk_at "rd";exact hK _ rfl
 rintro d rfl;refine cE (λd=>∃a b c:Option L2.R2.S,d=[aa (pc sh zs),aa (.int (nB dz zs)),a,b,c]) (λK hK=>?_) ?_
 ·simp only[oD,PM,aD,aZ,r1,r2,rC,nQ,qZ,aL,aE,aI,S.val,bV];refine⟨by constructor <;> lia,?_⟩;have nn:(((zs.length:Nat):Int)).toNat=zs.length:=by lia
  simp only[nn];refine ZA 0 zs.length (λi d=>∃a b c:Option L2.R2.S,d=[aa (pc sh zs),aa (.int (f7 dz (rg zs (zs.length-1)) (zs.take i))),a,b,c]) ?_ ?_ _ ⟨none,none,none,rfl⟩
  ·rintro i d hi ⟨a,b,c,rfl⟩ F _ _ hn _;obtain⟨p1,p2⟩:=hS _ (xT pos (i+(zs.length-1)));obtain⟨q1,q2⟩:=hS _ (xT pos i);unfold xA;walk_at "rd";rw[KC hi];walk_at "rd";simp only[CU hi];walk_at "rd";refine⟨p1.mulOk q2,p2.mulOk q1,hn _ ⟨aa (.int (0+(i:Int))),aa (pt (rg zs (i+(zs.length-1)))),aa (pt (rg zs i)),?_⟩⟩;rw[Qq dz hi];unfold dz;rw[Int.add_sub_assoc]
  ·rintro d ⟨a,b,c,rfl⟩;rw[sX,Uj dz pos];exact hK _ ⟨a,b,c,rfl⟩
 rintro d ⟨a,b,c,rfl⟩;walk_at "rd";exact⟨bs.mulOk bs,q⟩
section
variable {s h:Pt}
theorem Su (g:Gp s h P sh zs):eF s h*eF s h*nB dz zs=sh*sh*((s.2*h.2)*(h.1*s.2)*nB dz P):=by
 obtain⟨A',r,eq⟩:=Told.ring g;have e1:=CK (eF s h) zs;rw[eq,CK] at e1;have:(λx y=>dz (n6 s h x) (n6 s h y))=λx y=>s.2*h.2*(h.1*s.2)*dz x y:=by funext x y;exact Sb _ _ _ x y
 rw[<-e1,<-HN r,RC,this,RD]
end
def Eu:FD:=λds Q=>∃p:Pt,ds=[pt p]/\(0<p.2/\bR p.1 p.2=1)/\Q (.bl true)
def Me:∀ds Q,Eu ds Q->uI BT IN { nx:=λ_=>Q .non,rt:=Q } (eD ["_law_found"] ds):=by
 rintro ds Q ⟨p,rfl,⟨h1,h2⟩,q⟩;rw[cS 0 rfl];unfold uI;walk_at "rd";refine⟨p.1,rfl,?_⟩;walk_at "rd";refine⟨p.2,rfl,?_⟩;walk_at "rd";simp only[h1,decide_true,if_true];refine⟨p.1,p.2,rfl,?_⟩;walk_at "rd";rw[h2];exact q
def yJ (h:au (R.map f) a b):∃x y,au R x y/\f x=a/\f y=b:=by
 obtain⟨l,r,e⟩:=h;rw[<-kG,<-dI] at e;obtain⟨l',r',e1,rfl,e2⟩:=rV.mp e;obtain⟨x,r2,rfl,e3,e4⟩:=kK.mp e2;obtain⟨y,r3,rfl,e5,e6⟩:=kK.mp e4;exact⟨x,y,⟨l',r3,e1⟩,e3,e5⟩
theorem SK:∀{l:List Pt} {a b:Pt},(a,b)∈OY l->gn l a b
 | [],_,_,h=>by cases h
 | [_],_,_,h=>by cases h
 | x::y::r,a,b,h=>by
  rcases aN.mp h with e | h
  ·cases e;exact⟨[],r,rfl⟩
  ·exact (SK h).cons x
def f9 (I J N:Int) (a b:Pt):Int:=(b.1-a.1)*(J-a.2*N)-(b.2-a.2)*(I-a.1*N)
structure rm (s h:Pt) (X Y W I J N:Int):Prop where
 w:0<W
 n:0<N
 x:eF s h*X*N=W*(I*(s.2*h.2))
 y:eF s h*Y*N=W*(I*(s.1*h.2)+J*(h.1*s.2))
def gv (I J N:Int) (P:List Pt):Int:=if ((OY (P++P.take 1)).all λp=>decide (0<f9 I J N p.1 p.2))=true then 1 else if ((OY (P++P.take 1)).all λp=>decide (0<=f9 I J N p.1 p.2))=true then 0 else -1
section
def JH [DecidablePred p]:((OY (P++P.take 1)).all λx=>decide (p x))=true↔∀a b,au P a b->p (a,b):=by
 rw[kA];constructor
 ·intro h a b c;exact of_decide_eq_true (h _ (DJ c))
 ·intro h x hx;exact decide_eq_true (h x.1 x.2 (SK hx))
def Fz (h:∀a b,au P a b->0<f9 I J N a b):gv I J N P=1:=by
 unfold gv;rw[if_pos (JH.mpr h)]
def Iy (h:∀a b,au P a b->0<=f9 I J N a b) (z:∃a b,au P a b/\f9 I J N a b<=0):gv I J N P=0:=by
 obtain⟨a,b,c,z⟩:=z;unfold gv;rw[if_neg (λk=>by have:=JH.mp k a b c;dsimp only at this;lia),if_pos (JH.mpr h)]
def Pb (z:∃a b,au P a b/\f9 I J N a b<0):gv I J N P = -1:=by
 obtain⟨a,b,c,z⟩:=z;unfold gv;rw[if_neg (λk=>by have:=JH.mp k a b c;dsimp only at this;lia),if_neg (λk=>by have:=JH.mp k a b c;dsimp only at this;lia)]
def Pa:(gv I J N P=1/\∀a b,au P a b->0<f9 I J N a b)\/(gv I J N P=0/\∀a b,au P a b->0<=f9 I J N a b)\/(gv I J N P = -1/\∃a b,au P a b/\f9 I J N a b<0):=by
 by_cases h:∀a b,au P a b->0<f9 I J N a b
 ·exact .inl ⟨Fz h,h⟩
 ·by_cases k:∀a b,au P a b->0<=f9 I J N a b
  ·refine .inr (.inl ⟨Iy k ?_,k⟩);apply cI;intro n;exact h λa b c=>fA.mp λz=>n ⟨a,b,c,z⟩
  ·have z:∃a b,au P a b/\f9 I J N a b<0:=by
    apply cI;intro n;exact k λa b c=>jY.mp λz=>n ⟨a,b,c,z⟩
   exact .inr (.inr ⟨Pb z,z⟩)
def wC {c1 c2 x y:Int} (h1:0<c1) (h2:0<c2) (e:c1*x=c2*y):(0<x↔0<y)/\(x<0↔y<0):=by
 rcases iS x 0 with k | rfl | k
 ·have:=fR h1 k;have hy:y<0:=by
   apply fA.mp;intro z;have:=eV (cR h2) z;lia
  lia
 ·rw[mK] at e;rcases iK.mp e.symm with z | z <;> lia
 ·have:=aS h1 k;have hy:0<y:=by
   apply fA.mp;intro z;have:=eO (cR h2) z;lia
  lia
def NH {s h:Pt} {sh X Y W:Int} (sp:rm s h X Y W I J N) (ea:scl (eF s h) a=scl sh (n6 s h p)) (eb:scl (eF s h) b=scl sh (n6 s h q)) :
  eF s h*eF s h*N*f8 sh X Y W a b=sh*sh*W*(s.2*h.2)*(h.1*s.2)*f9 I J N p q:=by
 obtain⟨_,_,sx,sy⟩:=sp;unfold scl n6 kg at ea eb;simp only[fF] at ea eb;obtain⟨a1,a2⟩:=ea;obtain⟨b1,b2⟩:=eb;rw[<-IA];unfold f9;generalize eF s h=e at *;generalize s.2*h.2=A at *;generalize s.1*h.2=B at *;generalize h.1*s.2=C at *;have l:e*e*N*((b.1-a.1)*(Y*sh-a.2*W)-(b.2-a.2)*(X*sh-a.1*W))=(e*b.1-e*a.1)*(sh*(e*Y*N)-W*N*(e*a.2))-(e*b.2-e*a.2)*(sh*(e*X*N)-W*N*(e*a.1)):=by grind
 rw[l,a1,a2,b1,b2,sx,sy];grind
def Lj {s h:Pt} {sh X Y W M:Int} (f:Fm s h) (g:Gp s h P sh cs) (sp:rm s h X Y W I J N) (h1:∃a b,au cs a b/\M=f8 sh X Y W a b) (h2:∀a b,au cs a b->M<=f8 sh X Y W a b):xw M=gv I J N P:=by
 have h0:=EC f.ep g;have c1:0<eF s h*eF s h*N:=aS (aS f.ep f.ep) sp.n;have c2:0<sh*sh*W*(s.2*h.2)*(h.1*s.2):=aS (aS (aS (aS h0 h0) sp.w) f.sp) f.hp;obtain⟨A',r,eq⟩:=Told.ring g;have l1:∀a b,au cs a b->∃p q,au P p q/\eF s h*eF s h*N*f8 sh X Y W a b=sh*sh*W*(s.2*h.2)*(h.1*s.2)*f9 I J N p q:=λa b c=>by
  have k:=zW (f:=scl (eF s h)) c;rw[eq] at k;obtain⟨x,y,k1,ex,ey⟩:=yJ k;obtain⟨p,q,k2,rfl,rfl⟩:=yJ (EM r k1);exact⟨p,q,k2,NH sp ex.symm ey.symm⟩
 have l2:∀p q,au P p q->∃a b,au cs a b/\eF s h*eF s h*N*f8 sh X Y W a b=sh*sh*W*(s.2*h.2)*(h.1*s.2)*f9 I J N p q:=λp q c=>by
  have c:=zW (f:=scl sh) (EM r.symm (zW (f:=n6 s h) c));rw[<-eq] at c;obtain⟨x,y,c,ex,ey⟩:=yJ c;exact⟨x,y,c,NH sp ex ey⟩
 obtain⟨a,b,c,e⟩:=h1;obtain⟨p,q,c',ee⟩:=l1 a b c;rw[<-e] at ee;have sg:=wC c1 c2 ee;have ge:∀p q,au P p q->∃x,M<=x/\(0<x↔0<f9 I J N p q)/\(x<0↔f9 I J N p q<0):=λp q c=>by
  obtain⟨a,b,k,ee⟩:=l2 p q c;exact⟨_,h2 a b k,wC c1 c2 ee⟩
 unfold xw;rcases iS M 0 with k | k | k
 ·rw[Pb ⟨p,q,c',sg.2.mp k⟩,if_neg (by lia),if_pos k];decide
 ·rw[Iy (λp q c=>by obtain⟨x,u,v,w⟩:=ge p q c;lia) ⟨p,q,c',by lia⟩,if_neg (by lia),if_neg (by lia)];decide
 ·rw[Fz (λp q c=>by obtain⟨x,u,v,w⟩:=ge p q c;lia),if_pos k,if_neg (by lia)];decide
end
abbrev F3:=Int × Int × Int
def l7 (a b:Pt):F3:=(-(b.2-a.2),b.1-a.1,(b.2-a.2)*a.1-(b.1-a.1)*a.2)
def fv (I J N:Int) (f:F3):Int:=f.1*I+f.2.1*J+f.2.2*N
def Ix (a b:Pt):f9 I J N a b=fv I J N (l7 a b):=by unfold f9 fv l7;dsimp only;grind
def par (f g:F3):Bool:=decide (f.1*g.2.1=f.2.1*g.1) && decide (f.1*g.2.2=f.2.2*g.1) && decide (f.2.1*g.2.2=f.2.2*g.2.1) && decide (0<f.1*g.1+f.2.1*g.2.1+f.2.2*g.2.2) && decide (0<g.1*g.1+g.2.1*g.2.1+g.2.2*g.2.2)
def Jj (h:par f g=true) (I J N:Int):(0<fv I J N f↔0<fv I J N g)/\(fv I J N f<0↔fv I J N g<0):=by
 unfold par at h;simp only[gS,decide_eq_true_eq] at h;obtain⟨⟨⟨⟨h1,h2⟩,h3⟩,h4⟩,h5⟩:=h;refine wC h5 h4 ?_;unfold fv;grind
def q_ (P:List Pt):List F3:=(OY (P++P.take 1)).map λp=>l7 p.1 p.2
def Rg (c:au P a b):l7 a b∈q_ P:=bJ.mpr ⟨(a,b),DJ c,rfl⟩
def Gq (h:f∈q_ P):∃a b,au P a b/\f=l7 a b:=by
 obtain⟨p,hp,e⟩:=bJ.mp h;exact⟨p.1,p.2,SK hp,e.symm⟩
def ED (w:Int):List (List Pt):=if w=0 then [[(0,0),(24,0),(24,24),(0,24)]] else if w=1 then [[(0,0),(24,0),(24,24)],[(0,0),(24,24),(0,24)]] else if w=2 then [[(0,0),(24,0),(0,24)],[(24,0),(24,24),(0,24)]] else [[(0,0),(8,0),(8,24),(0,24)],[(8,0),(24,0),(24,24),(8,24)]]
def Na:List (List (List Pt)):=[ED 0,ED 1,ED 2,ED 3]
def Ak (h0:0<=w) (h1:w<4):ED w∈Na:=by
 unfold Na;have:w=0\/w=1\/w=2\/w=3:=by lia
 rcases this with rfl | rfl | rfl | rfl <;> simp
def XS:∀w∈Na,w.length<=2/\∀P∈w,P∈rL:=by decide +kernel
def M' (a b c:Pt):gv I J N [a,b,c]=if 0<f9 I J N a b/\0<f9 I J N b c/\0<f9 I J N c a then 1 else if 0<=f9 I J N a b/\0<=f9 I J N b c/\0<=f9 I J N c a then 0 else -1:=by
 unfold gv;simp only[OY,uE,CB,aW,bC,FN,List.all_nil,qJ,gS,decide_eq_true_eq]
def Y5 (a b c d:Pt):gv I J N [a,b,c,d]=if 0<f9 I J N a b/\0<f9 I J N b c/\0<f9 I J N c d/\0<f9 I J N d a then 1 else if 0<=f9 I J N a b/\0<=f9 I J N b c/\0<=f9 I J N c d/\0<=f9 I J N d a then 0 else -1:=by
 unfold gv;simp only[OY,uE,CB,aW,bC,FN,List.all_nil,qJ,gS,decide_eq_true_eq]
def MO {A B:Prop} [Decidable A] [Decidable B] {D:Int} (h1:0<D->A) (h2:D=0->¬A/\B) (h3:D<0->¬A/\¬B):(D=0/\(if A then 1 else if B then 0 else -1:Int)=0)\/(0<D/\(if A then 1 else if B then 0 else -1:Int)=1)\/(D<0/\(if A then 1 else if B then 0 else -1:Int) = -1):=by
 rcases iS D 0 with k | k | k
 ·obtain⟨a,b⟩:=h3 k;rw[if_neg a,if_neg b];exact .inr (.inr ⟨k,rfl⟩)
 ·obtain⟨a,b⟩:=h2 k;rw[if_neg a,if_pos b];exact .inl ⟨k,rfl⟩
 ·rw[if_pos (h1 k)];exact .inr (.inl ⟨k,rfl⟩)
def Aj {I J N D:Int} (h1:(D=0/\gv I J N P=0)\/(0<D/\gv I J N P=1)\/(D<0/\gv I J N P = -1)) (h2:(-D=0/\gv I J N R=0)\/(0 < -D/\gv I J N R=1)\/(-D<0/\gv I J N R = -1)) (h:∀T∈[P,R],gv I J N T≠0) :
  ([P,R].filter λT=>decide (gv I J N T=1)).length=1:=by
 have n1:=h P (by simp);rcases h1 with ⟨d,e⟩ | ⟨d,e⟩ | ⟨d,e⟩
 ·exact absurd e n1
 ·rcases h2 with ⟨d',e'⟩ | ⟨d',e'⟩ | ⟨d',e'⟩
  ·lia
  ·lia
  ·simp[e,e']
 ·rcases h2 with ⟨d',e'⟩ | ⟨d',e'⟩ | ⟨d',e'⟩
  ·lia
  ·simp[e,e']
  ·lia
def Vj (i0:0<I) (i1:I<24*N) (j0:0<J) (j1:J<24*N):∀w∈Na,(∀P∈w,gv I J N P≠0)->(w.filter λP=>decide (gv I J N P=1)).length=1:=by
 intro w hw h;unfold Na at hw;simp only[aN,gH,or_false] at hw;rcases hw with rfl | rfl | rfl | rfl
 ·have e:gv I J N [(0,0),(24,0),(24,24),(0,24)]=1:=by
   rw[Y5,if_pos];unfold f9;dsimp only;lia
  show ([[(0,0),(24,0),(24,24),(0,24)]].filter _).length=1;simp[e]
 ·refine Aj (P:=[(0,0),(24,0),(24,24)]) (R:=[(0,0),(24,24),(0,24)]) (D:=I-J) ?_ ?_ h
  ·rw[M'];unfold f9;dsimp only;exact MO (λ_=>by lia) (λ_=>by lia) λ_=>by lia
  ·rw[M'];unfold f9;dsimp only;exact MO (λ_=>by lia) (λ_=>by lia) λ_=>by lia
 ·refine Aj (P:=[(0,0),(24,0),(0,24)]) (R:=[(24,0),(24,24),(0,24)]) (D:=24*N-I-J) ?_ ?_ h
  ·rw[M'];unfold f9;dsimp only;exact MO (λ_=>by lia) (λ_=>by lia) λ_=>by lia
  ·rw[M'];unfold f9;dsimp only;exact MO (λ_=>by lia) (λ_=>by lia) λ_=>by lia
 ·refine Aj (P:=[(0,0),(8,0),(8,24),(0,24)]) (R:=[(8,0),(24,0),(24,24),(8,24)]) (D:=8*N-I) ?_ ?_ h
  ·rw[Y5];unfold f9;dsimp only;exact MO (λ_=>by lia) (λ_=>by lia) λ_=>by lia
  ·rw[Y5];unfold f9;dsimp only;exact MO (λ_=>by lia) (λ_=>by lia) λ_=>by lia
abbrev UX (m:Mv) (X Y W:Int):D:=jq ((m.1*X*m.2.1.2+m.2.1.1*W)*m.2.2.2) ((m.1*Y*m.2.2.2+m.2.2.1*W)*m.2.1.2) (W*m.2.1.2*m.2.2.2)
def XY:FD:=λds Q=>∃(m:Mv) (X Y W:Int),ds=[p9 m,jq X Y W]/\(o_ m/\BL 900 X/\BL 900 Y/\BL 900 W)/\Q (UX m X Y W)
def Mh:∀ds Q,XY ds Q->OF { nx:=λ_=>Q .non,rt:=Q } (eD ["_law_move_here","_law_spot","_law_sign","_law_dx","_law_dy","_law_x","_law_y"] ds):=by
 rintro ds Q ⟨⟨sg,⟨p,q'⟩,u,v⟩,X,Y,W,rfl,⟨mf,bX,bY,bW⟩,q⟩;have bs:BL 2 sg:=by have:=mf.sg;exact BL.of_lt (m:=2) (by dsimp only at this;lia) (by dsimp only at this;lia)
 have bp:BL 400 p:=mf.bp;have bq:BL 400 q':=mf.bq;have bu:BL 400 u:=mf.bu;have bv:BL 400 v:=mf.bv;rw[cS 5 rfl];unfold OF p9;simp only[jB,Us,aQ,cB,aW,bC];walk_at "rd";refine⟨bs.mulOk bX,(bs.mul bX).mulOk bq,bp.mulOk bW,(((bs.mul bX).mul bq).add (bp.mul bW)).mulOk bv,bs.mulOk bY,(bs.mul bY).mulOk bv,bu.mulOk bW,(((bs.mul bY).mul bv).add (bu.mul bW)).mulOk bq,bW.mulOk bq,(bW.mul bq).mulOk bv,q⟩
def QM:FD:=λds Q=>∃(n:Int) (s h:Pt),ds=[.int n,pt s,pt h]/\Fm s h/\∀X Y W I J N,rm s h X Y W I J N->((0<I/\I<24*N)/\0<J/\J<24*N)->(BL 200 X/\BL 200 Y/\BL 200 W)->Q (jq X Y W)
def Du:∀ds Q,QM ds Q->AX { nx:=λ_=>Q .non,rt:=Q } (eD ["_law_cell_here","_law_s","_law_h","_law_number","_law_x","_law_y","_law_share"] ds):=by
 rintro ds Q ⟨n,s,h,rfl,f,q⟩;rw[cS 4 rfl];unfold AX;simp only[jB,Mm,aQ,cB,aW,bC];refine cE (λd=>∃k:Int,(0<=k/\k<2147483629)/\d=[aa (.int n),aa (pt s),aa (pt h),aa (.int k),none,none,none]) (λK hK=>?_) ?_
 ·obtain⟨a0,a1⟩:=gB (a:=n) (b:=1000000000) (by decide);have b7:BL 41 (n.fmod 1000000000+7):=BL.of_lt (m:=41) (by lia) (by lia);have b31:BL 41 (n.fmod 1000000000+31):=BL.of_lt (m:=41) (by lia) (by lia);obtain⟨c0,c1⟩:=gB (a:=(n.fmod 1000000000+7)*(n.fmod 1000000000+31)*48271) (b:=2147483629) (by decide);walk_at "rd";exact⟨TB,oC,TB,oC,b7.mulOk b31,(b7.mul b31).mulOk (BL.const (n:=20) (by decide)),oC,hK _ ⟨_,⟨c0,c1⟩,rfl⟩⟩
 rintro d ⟨k,hk,rfl⟩;have bk:BL 40 k:=BL.of_lt (m:=40) (by lia) (by lia);refine cE (λd=>∃x:Int,(1<=x/\x<=1008)/\d=[aa (.int n),aa (pt s),aa (pt h),aa (.int k),aa (.int x),none,none]) (λK hK=>?_) ?_
 ·obtain⟨a0,a1⟩:=gB (a:=k) (b:=1008) (by decide);walk_at "rd";exact⟨oC,hK _ ⟨_,⟨by lia,by lia⟩,rfl⟩⟩
 rintro d ⟨x,hx,rfl⟩;refine cE (λd=>∃y:Int,(1<=y/\y<=9972)/\d=[aa (.int n),aa (pt s),aa (pt h),aa (.int k),aa (.int x),aa (.int y),none]) (λK hK=>?_) ?_
 ·obtain⟨a0,a1⟩:=gB (a:=(k*69621).fmod 2147483587) (b:=9972) (by decide);walk_at "rd";exact⟨bk.mulOk (BL.const (n:=20) (by decide)),oC,oC,hK _ ⟨_,⟨by lia,by lia⟩,rfl⟩⟩
 rintro d ⟨y,hy,rfl⟩;have b1:=f.ls.top;have b2:=f.ls.bot;have b3:=f.b1;have b4:=f.b2;have bx:BL 11 x:=BL.of_lt (m:=11) (by lia) (by lia);have n8:BL 14 y:=BL.of_lt (m:=14) (by lia) (by lia);have k9:BL 14 9973:=BL.const (by decide);have k1:BL 14 1009:=BL.const (by decide);have kk:BL 30 10062757:=BL.const (by decide);refine cE (λd=>d=[aa (.int n),aa (pt s),aa (pt h),aa (.int k),aa (.int x),aa (.int y),aa (.int (10062757*s.2*h.2))]) (λK hK=>?_) ?_
 ·walk_at "rd";exact⟨k1.mulOk k9,kk.mulOk b2,(kk.mul b2).mulOk b4,hK _ rfl⟩
 rintro d rfl;walk_at "rd";refine⟨bx.mulOk k9,(bx.mul k9).mulOk b2,((bx.mul k9).mul b2).mulOk b4,bx.mulOk b1,(bx.mul b1).mulOk k9,((bx.mul b1).mul k9).mulOk b4,n8.mulOk b3,(n8.mul b3).mulOk k1,((n8.mul b3).mul k1).mulOk b2,?_⟩;have S0:=f.sp;refine q _ _ _ (24*x*9973) (24*y*1009) 10062757 ⟨?_,by decide,?_,?_⟩ ⟨⟨by lia,by lia⟩,by lia,by lia⟩ ⟨?_,?_,?_⟩
 ·have:10062757*s.2*h.2=10062757*(s.2*h.2):=by grind
  rw[this];lia
 ·unfold eF;grind
 ·unfold eF;grind
 ·exact (((bx.mul k9).mul b2).mul b4).mono
 ·exact ((((bx.mul b1).mul k9).mul b4).add (((n8.mul b3).mul k1).mul b2)).mono
 ·exact ((kk.mul b2).mul b4).mono
structure HB (s h:Pt) (L:List Bt):Prop where
 fm:Fm s h
 len:L.length<=4
 each:∀b∈L,Gp s h b.1 b.2.1 b.2.2.1/\(bB b.1/\b.1.length<=10)/\x9 b.1/\o_ b.2.2.2
abbrev nj (I J N:Int) (b:Bt):Bool:=decide (gv I J N b.1=1)
def QD:FD:=λds Q=>∃(s h:Pt) (L:List Bt) (X Y W I J N:Int),ds=[.lst (L.map d_),jq X Y W]/\(HB s h L/\rm s h X Y W I J N)/\(BL 400 X/\BL 400 Y/\BL 400 W) /\
 ((∃b∈L,gv I J N b.1=0)->Q .non)/\((∀b∈L,gv I J N b.1≠0)->Q (.lst ((L.filter (nj I J N)).map λb=>UX b.2.2.2 X Y W)))
def Dm:∀ds Q,QD ds Q->yU XY IK { nx:=λ_=>Q .non,rt:=Q } (eD ["_law_bits_here","_law_spot","_law_found","_law_piece","_law_move_here","_law_where"] ds):=by
 rintro ds Q ⟨s,h,L,X,Y,W,I,J,N,rfl,⟨hb,sp⟩,⟨bX,bY,bW⟩,q0,q1⟩;rw[cS 4 rfl];unfold yU;simp only[jB,Mm,aQ,cB,aW,bC];refine cE (λa=>a=[aa (.lst (L.map d_)),aa (jq X Y W),some (.own []),none,none,none]) (λK hK=>?_) ?_
 ·walk_at "rd";exact hK _ rfl
 rintro a rfl;refine cE (λa=>∃u v w,(∀b∈L,gv I J N b.1≠0)/\a=[aa (.lst (L.map d_)),aa (jq X Y W),some (.own ((L.filter (nj I J N)).map λb=>UX b.2.2.2 X Y W)),u,v,w]) (λK hK=>?_) ?_
 ·simp only[oD,riL,cG,aE];refine kU (λys a=>∃(dn td:List Bt) (u v w:Option L2.R2.S),L=dn++td/\ys=td.map d_/\(∀b∈dn,gv I J N b.1≠0)/\a=[aa (.lst (L.map d_)),aa (jq X Y W),some (.own ((dn.filter (nj I J N)).map λb=>UX b.2.2.2 X Y W)),u,v,w]) ?_ ?_ _ _ ⟨[],L,none,none,none,rfl,rfl,by simp,rfl⟩
  ·rintro y ys a ⟨dn,td,u,v,w,ec,ey,hd,rfl⟩ F hr um hn _;cases td with
   | nil=>cases ey
   | cons b td =>
    cases ey;have mb:b∈L:=(by rw[ec];simp);obtain⟨g,⟨cv,l10⟩,gi,mf⟩:=hb.each b mb;obtain⟨ip,bs,bz,lz⟩:=Gp.facts hb.fm gi cv g;have l3:=cv.len;unfold uH d_;simp only[oM,fX,oK,dC,bH,eK,true_and,aR,aX];refine cE (λa=>a=[aa (.lst (L.map d_)),aa (jq X Y W),some (.own ((dn.filter (nj I J N)).map λb=>UX b.2.2.2 X Y W)),aa (pc b.2.1 b.2.2.1),aa (p9 b.2.2.2),aa (.int (gv I J N b.1))]) (λK kb=>?_) ?_
    ·simp only[fC,cZ,aD,aZ,cG,aE,aI,aR,aX];refine⟨b.2.1,b.2.2.1,X,Y,W,rfl,⟨bs.mono,λz hz=>⟨(bz z hz).1.mono,(bz z hz).2.mono⟩,by lia,by lia⟩,⟨bX.mono,bY.mono,bW.mono⟩,λM h1 h2=>?_⟩;rw[Lj hb.fm g sp h1 h2];exact kb _ rfl
    rintro a rfl;generalize hm:p9 b.2.2.2=MD;generalize hp:pc b.2.1 b.2.2.1=PD;refine cE (λa=>gv I J N b.1≠0/\a=[aa (.lst (L.map d_)),aa (jq X Y W),some (.own ((dn.filter (nj I J N)).map λb=>UX b.2.2.2 X Y W)),aa PD,aa MD,aa (.int (gv I J N b.1))]) (λK kb=>?_) ?_
    ·by_cases z:gv I J N b.1=0
     ·simp only[z];walk_at "rd";exact hr ▸ q0 ⟨b,mb,z⟩
     ·walk_at "rd";simp only[z,decide_false,aO,if_false];exact kb _ ⟨z,rfl⟩
    rintro a ⟨hz,rfl⟩;have hd2:∀x∈dn++[b],gv I J N x.1≠0:=λx hx=>by
     rcases cJ.mp hx with k | k
     ·exact hd x k
     ·rw[dM.mp k];exact hz
    have le:(dn.filter (nj I J N)).length<=4:=by
     have:=congrArg fM ec;have:=hb.len;have:=iT (nj I J N) dn;simp at *;lia
    by_cases z:gv I J N b.1=1
    ·simp only[z];simp only[lJ,dS,r2,aL,rC,pY,yR,cZ,aD,aZ,cG,aE,aI,aR,aX,decide_true,if_true,aO,if_false];refine⟨b.2.2.2,X,Y,W,by rw[hm],⟨mf,bX.mono,bY.mono,bW.mono⟩,mF (by simp;lia),hn _ ⟨dn++[b],td,aa PD,aa MD,aa (.int 1),by rw[ec];simp,rfl,hd2,?_⟩⟩;rw[jA,dI];have:[b].filter (nj I J N)=[b]:=(by simp[nj,z]);rw[this];rfl
    ·walk_at "rd";simp only[z,decide_false,aO,if_false];refine hn _ ⟨dn++[b],td,aa PD,aa MD,aa (.int (gv I J N b.1)),by rw[ec];simp,rfl,hd2,?_⟩;rw[jA,dI];have:[b].filter (nj I J N)=[]:=(by simp[nj,z]);rw[this];simp
  ·rintro a ⟨dn,td,u,v,w,ec,ey,hd,rfl⟩;have:td=[]:=(by simpa using ey.symm);subst this;rw[eJ] at ec;subst ec;exact hK _ ⟨u,v,w,hd,rfl⟩
 rintro a ⟨u,v,w,hd,rfl⟩;simp only[yL,S.fz,gM,cG,aE,aI,aR,aX];exact q1 hd
end K36
section
theorem UB:∀(l:List Pt),l≠[]->∃u∈l,∀z∈l,ae L z<=ae L u
 | [],h=>absurd rfl h
 | [x],_=>⟨x,by simp,λz hz=>by simp at hz;subst hz;exact wN _⟩
 | x::y::l,_=>by
  obtain⟨u,hu,h⟩:=UB (y::l) (by simp);by_cases k:ae L x<=ae L u
  ·exact⟨u,by simp at hu ⊢;exact cV hu,λz hz=>by
    rcases aN.mp hz with rfl | hz
    ·exact k
    ·exact h z hz⟩
  ·exact⟨x,by simp,λz hz=>by
    rcases aN.mp hz with rfl | hz
    ·exact wN _
    ·have:=h z hz;lia⟩
def Rp (t u v:Pt) (r:H3):c7 L r*bP t u v=(ae L t-ae L u)*fZ (ap u) (ap v) r+(ae L v-ae L u)*fZ (ap t) (ap u) r+ae L u*r.2.2*bP t u v:=by
 unfold c7 ae fZ bP ap;dsimp only;grind
def Dy (c:bB cs):∃t u v,au cs t u/\au cs u v/\u∈cs/\0<bP t u v/\∀z∈cs,ae L z<=ae L u:=by
 obtain⟨u,hu,top⟩:=UB (L:=L) cs (by intro e;have:=c.len;rw[e] at this;simp at this);obtain⟨t,v,h1,h2,nt⟩:=RH c hu;exact⟨t,u,v,h1,h2,hu,c.strict t u h1 v (au.mem h2).2 (Ne.symm nt) (Ne.symm (c.ne h2)),top⟩
def Uv (c:bB cs) (hle:∀z∈cs,ae L z<=0) (hw:0<=r.2.2) (hr:∀u v,au cs u v->0<=fZ (ap u) (ap v) r):c7 L r<=0:=by
 obtain⟨t,u,v,h1,h2,hu,D,top⟩:=Dy (L:=L) c;have e:=Rp (L:=L) t u v r;have a1:=dQ (show ae L t-ae L u<=0 by have:=top t (au.mem h1).1;lia) (hr u v h2);have a2:=dQ (show ae L v-ae L u<=0 by have:=top v (au.mem h2).2;lia) (hr t u h1);have a3:=dQ (dQ (hle u hu) hw) (cR D);apply jY.mp;intro h;have:=aS h D;lia
def Uw (c:bB cs) (hle:∀z∈cs,ae L z<=0) (fx:∃z∈cs,ae L z≠0) (hw:0<r.2.2) (hr:∀u v,au cs u v->0<fZ (ap u) (ap v) r):c7 L r<0:=by
 obtain⟨t,u,v,h1,h2,hu,D,top⟩:=Dy (L:=L) c;have e:=Rp (L:=L) t u v r;have lt:=top t (au.mem h1).1;have lv:=top v (au.mem h2).2;have a1:=dQ (show ae L t-ae L u<=0 by lia) (cR (hr u v h2));have a2:=dQ (show ae L v-ae L u<=0 by lia) (cR (hr t u h1));have a3:=dQ (dQ (hle u hu) (cR hw)) (cR D);have key:c7 L r*bP t u v<0:=by
  rcases jX (hle u hu) with k | k
  ·have:=iP (iP k hw) D;lia
  ·by_cases kt:ae L t<ae L u
   ·have:=iP (show ae L t-ae L u<0 by lia) (hr u v h2);lia
   ·by_cases kv:ae L v<ae L u
    ·have:=iP (show ae L v-ae L u<0 by lia) (hr t u h1);lia
    ·exfalso;have et:ae L t=0:=(by lia);have ev:ae L v=0:=(by lia);have on:∀z,ae L z=0->uv L 1 z:=λz hz=>(by unfold ae at hz;unfold uv;lia);by_cases dq:L.a≠0\/L.b≠0
     ·rw[Cu dq (on t et) (on u k) (on v ev)] at D;lia
     ·have z1:L.a=0:=cI λq=>dq (cY q);have z2:L.b=0:=cI λq=>dq (cV q);obtain⟨z,_,hz⟩:=fx;unfold ae at hz k;rw[z1,z2] at hz k;simp at hz k;lia
 apply fA.mp;intro h;have:=eV h (cR D);lia
end
theorem Pf:∀(l:List Pt),∃D,g8 D/\∀z,z∈D↔z∈l
 | []=>⟨[],by unfold g8;simp,by simp⟩
 | x::l=>by
  obtain⟨D,h,e⟩:=Pf l;have ins:∀(D:List Pt),g8 D->∃D',g8 D'/\∀z,z∈D'↔z=x\/z∈D:=by
   intro D
   induction D with
   | nil=>intro _;exact⟨[x],by unfold g8;simp,by simp⟩
   | cons y D ih =>
    intro h;unfold g8 at h;have h':=bZ.mp h;rcases qS x y with k | k | k
    ·refine⟨x::y::D,?_,by simp⟩;unfold g8;refine bZ.mpr ⟨λz hz=>?_,h⟩;rcases aN.mp hz with rfl | hz
     ·exact k
     ·exact rK k (h'.1 z hz)
    ·subst k;exact⟨x::D,h,by simp⟩
    ·obtain⟨D',i,m⟩:=ih h'.2;refine⟨y::D',?_,λz=>?_⟩
     ·unfold g8;refine bZ.mpr ⟨λz hz=>?_,i⟩;rcases (m z).mp hz with rfl | hz
      ·exact k
      ·exact h'.1 z hz
     ·simp only[aN,m z];constructor
      ·rintro (a | a | a) <;> simp[a]
      ·rintro (a | a | a) <;> simp[a]
  obtain⟨D',i,m⟩:=ins D h;exact⟨D',i,λz=>by rw[m z,e z];simp⟩
def Dz {z w:Pt} {S T:List Pt} (c1:bB (z::S)) (c2:bB (w::T)) (l1:∀q∈S,¬bo q z) (l2:∀q∈T,¬bo q w) (h1:∀a b,au (z::S) a b->∀q∈w::T,0<=bP a b q) (h2:∀a b,au (w::T) a b->∀q∈z::S,0<=bP a b q):z::S=w::T:=by
 obtain⟨D,i,m⟩:=Pf ((z::S)++(w::T));have e1:=AK (L:=z::S) i c1 l1 (λq hq=>(m q).mpr (cU _ hq)) λa b dq q hq=>by
  rcases cJ.mp ((m q).mp hq) with k | k
  ·exact c1.side dq k
  ·exact h1 a b dq q k
 have e2:=AK (L:=z::S) i c2 l2 (λq hq=>(m q).mpr (aV _ hq)) λa b dq q hq=>by
  rcases cJ.mp ((m q).mp hq) with k | k
  ·exact h2 a b dq q k
  ·exact c2.side dq k
 rw[<-e1,e2]
def Jx (s1 s2:Int) (a b q:Pt):bP (scl s2 a) (scl s2 b) (scl s1 q)=s2*f8 s1 q.1 q.2 s2 a b:=by unfold f8 fZ ap bP scl;dsimp only;grind
def bB.scl (hk:0<k) (c:bB l):bB (l.map (L2.R2.scl k)):=c.map (aS hk hk) (Ea k) λa b h=>LF hk h
def Ma (p1:e_ s1 z1) (p2:e_ s2 z2) (h1:∀q∈z2,∀a b,au z1 a b->0<=f8 s1 q.1 q.2 s2 a b) (h2:∀q∈z1,∀a b,au z2 a b->0<=f8 s2 q.1 q.2 s1 a b):s1=s2/\z1=z2:=by
 obtain⟨z,S,e1,l1⟩:=p1.first;obtain⟨w,T,e2,l2⟩:=p2.first;have q1:=p1.pos;have q2:=p2.pos;have c1:=p1.cvx.scl q2;have c2:=p2.cvx.scl q1;have back:∀{k:Int} {l:List Pt} {x y:Pt},au (l.map (scl k)) x y->∃a b,au l a b/\x=scl k a/\y=scl k b:=by
  intro k l x y h;have h':gn ((l++l.take 1).map (scl k)) x y:=by rw[dI,kG];exact h
  exact ZK h'
 have eq:z1.map (scl s2)=z2.map (scl s1):=by
  subst e1 e2;rw[aQ,aQ] at *;refine Dz c1 c2 (λq hq=>?_) (λq hq=>?_) (λa b dq q hq=>?_) λa b dq q hq=>?_
  ·obtain⟨y,hy,rfl⟩:=bJ.mp hq;rw[HZ q2];exact l1 y hy
  ·obtain⟨y,hy,rfl⟩:=bJ.mp hq;rw[HZ q1];exact l2 y hy
  ·obtain⟨a',b',h,rfl,rfl⟩:=back (l:=z::S) dq;obtain⟨y,hy,rfl⟩:=bJ.mp (show q∈(w::T).map (scl s1) from hq);rw[Jx];exact eV (by lia) (h1 y hy a' b' h)
  ·obtain⟨a',b',h,rfl,rfl⟩:=back (l:=w::T) dq;obtain⟨y,hy,rfl⟩:=bJ.mp (show q∈(z::S).map (scl s2) from hq);rw[Jx];exact eV (by lia) (h2 y hy a' b' h)
 exact NY (a:=s2) (b:=s1) q2 q1 (iY ..) eq p1.cop p2.cop
def P2 (l:g_) (sh:Int) (cs:List Pt) (s:Int) (d:D):Prop:=d = .non\/∃(ca:Int) (zs:List Pt),d=pc ca zs/\e_ ca zs/\(BL 9000 ca/\VS 9000 zs/\zs.length<=100)/\∀z∈zs,0<=(l.a*z.1+l.b*z.2-l.c*ca)*s/\∀a b,au cs a b->0<=f8 sh z.1 z.2 ca a b
def Py (c:bB cs) (dq:L.a≠0\/L.b≠0):¬ ∀z∈cs,ae L z=0:=by
 intro h;have h3:=c.len;have on:∀i,uv L 1 (rg cs i):=λi=>by
  have:=h _ (xT (cs:=cs) (by lia) i);unfold ae at this;unfold uv;lia
 have:=c.bend_rg 0;rw[Cu dq (on _) (on _) (on _)] at this;lia
def IH (l:g_) (sh X Y W:Int):c7 (BJ l sh) (sh*X,sh*Y,W)=sh*(l.a*X+l.b*Y-l.c*W):=by unfold c7 BJ;dsimp only;grind
def Wn (h:-x<=0):0<=x:=by lia
def Wl (h:0<=-x):x<=0:=by lia
def Wo (h:-x<0) (k:x<=0):False:=by lia
def Wm (h:0 < -x) (k:0<=x):False:=by lia
def jh (sh:Int) (cs:List Pt) (X Y W:Int):Prop:=∀a b,au cs a b->0<=f8 sh X Y W a b
def fg (sh:Int) (cs:List Pt) (X Y W:Int):Prop:=∀a b,au cs a b->0<f8 sh X Y W a b
def LH (c:bB zs) (h0:0<sh) (h:∀z∈zs,α*z.1+β*z.2+γ*sh<=0) {X Y W:Int} (hw:0<=W) (hr:jh sh zs X Y W):α*X+β*Y+γ*W<=0:=by
 have e:=Uv (L:=⟨α,β,-γ*sh⟩) c (λz hz=>by have:=h z hz;unfold ae;dsimp only;grind) (r:=(sh*X,sh*Y,W)) hw hr;have e2:c7 ⟨α,β,-γ*sh⟩ (sh*X,sh*Y,W)=sh*(α*X+β*Y+γ*W):=by unfold c7;dsimp only;grind
 rw[e2] at e;apply jY.mp;intro k;have:=aS h0 k;lia
def uV (c:bB zs) (h0:0<sh) (dq:α≠0\/β≠0) (h:∀z∈zs,α*z.1+β*z.2+γ*sh<=0) {X Y W:Int} (hw:0<W) (hr:fg sh zs X Y W):α*X+β*Y+γ*W<0:=by
 have nf:=Py (L:=⟨α,β,-γ*sh⟩) c dq;have e:=Uw (L:=⟨α,β,-γ*sh⟩) c (λz hz=>by have:=h z hz;unfold ae;dsimp only;grind) (cI λk=>nf λz hz=>cI λq=>k ⟨z,hz,q⟩) (r:=(sh*X,sh*Y,W)) hw hr;have e2:c7 ⟨α,β,-γ*sh⟩ (sh*X,sh*Y,W)=sh*(α*X+β*Y+γ*W):=by unfold c7;dsimp only;grind
 rw[e2] at e;apply fA.mp;intro k;have:=eV (cR h0) k;lia
def LG (sh X Y W:Int) (u v:Pt):f8 sh X Y W u v=sh*(u.2-v.2)*X+sh*(v.1-u.1)*Y+(u.1*v.2-u.2*v.1)*W:=by unfold f8 fZ ap;dsimp only;grind
structure qa (l:g_) (sh:Int) (cs:List Pt) (ca:Int) (zs:List Pt):Prop where
 ip:e_ ca zs
 closed:∀X Y W,0<=W->(jh ca zs X Y W↔jh sh cs X Y W/\l.a*X+l.b*Y-l.c*W<=0)
 opened:∀X Y W,0<W->(fg ca zs X Y W↔fg sh cs X Y W/\l.a*X+l.b*Y-l.c*W<0)
def PZ (l:g_) (X Y W:Int):l.a*X+l.b*Y-l.c*W=l.a*X+l.b*Y + -l.c*W:=by grind
theorem Sj (ip:e_ sh cs) (ab:l.a≠0\/l.b≠0) (r:je (BJ l sh) sh cs d) :
  (d = .non/\∀X Y W,0<W->fg sh cs X Y W->¬l.a*X+l.b*Y-l.c*W<0)\/∃ca zs,d=pc ca zs/\qa l sh cs ca zs:=by
 have c:=ip.cvx;have h0:=ip.pos;cases r with
 | whole h =>
  refine cV ⟨sh,cs,rfl,ip,λX Y W hw=>⟨λk=>⟨k,?_⟩,λk=>k.1⟩,λX Y W hw=>⟨λk=>⟨k,?_⟩,λk=>k.1⟩⟩
  ·rw[PZ];exact LH c h0 (λz hz=>by have:=h z hz;rw[RB] at this;unfold exc at this;grind) hw k
  ·rw[PZ];exact uV c h0 ab (λz hz=>by have:=h z hz;rw[RB] at this;unfold exc at this;grind) hw k
 | nothing h n =>
  refine cY ⟨rfl,λX Y W hw k=>?_⟩;have:=uV (α:=-l.a) (β:=-l.b) (γ:=l.c) c h0 (by lia) (λz hz=>by have:=h z hz;rw[RB] at this;unfold exc at this;grind) hw k;grind
 | @part hp hn ca zs h =>
  have f:=h.facts c hp hn h0;refine cV ⟨ca,zs,rfl,f.isPc,λX Y W hw=>⟨λk=>⟨λu v xp=>?_,?_⟩,λk=>λa b dq=>?_⟩,λX Y W hw=>⟨λk=>⟨λu v xp=>?_,?_⟩,λk=>f.inside c hn k.1 ?_⟩⟩
  ·have:=LH (α:=-(sh*(u.2-v.2))) (β:=-(sh*(v.1-u.1))) (γ:=-(u.1*v.2-u.2*v.1)) f.cvx f.pos (λz hz=>by
    have:=f.left c hz xp;rw[show fZ (ap u) (ap v) (sh*z.1,sh*z.2,ca)=f8 sh z.1 z.2 ca u v from rfl,LG] at this;grind) hw k
   rw[LG];grind
  ·rw[PZ];refine LH f.cvx f.pos (λz hz=>?_) hw k;have:=f.value hz;rw[IH] at this;have k2:l.a*z.1+l.b*z.2-l.c*ca<=0:=by
    apply jY.mp;intro q;have:=aS h0 q;lia
   grind
  ·obtain⟨t1,t2,g,i,A,hk,hm,e⟩:=f.side a b dq;have:=Nn c hn A k.1 (by
    rw[IH];exact eO (cR h0) k.2)
   exact FX hk (by rw[e];exact eV (cR hm) this)
  ·have ne:=c.ne xp;have:=uV (α:=-(sh*(u.2-v.2))) (β:=-(sh*(v.1-u.1))) (γ:=-(u.1*v.2-u.2*v.1)) f.cvx f.pos (by
    by_cases e1:u.2=v.2
    ·refine cV ?_;have:v.1-u.1≠0:=λe=>ne (lQ (by lia) e1);exact λz=>oF (show sh≠0 by lia) this (OM.mp z)
    ·refine cY ?_;have:u.2-v.2≠0:=(by lia);exact λz=>oF (show sh≠0 by lia) this (OM.mp z)) (λz hz=>by
    have:=f.left c hz xp;rw[show fZ (ap u) (ap v) (sh*z.1,sh*z.2,ca)=f8 sh z.1 z.2 ca u v from rfl,LG] at this;grind) hw k
   rw[LG];grind
  ·rw[PZ];refine uV f.cvx f.pos ab (λz hz=>?_) hw k;have:=f.value hz;rw[IH] at this;have k2:l.a*z.1+l.b*z.2-l.c*ca<=0:=by
    apply jY.mp;intro q;have:=aS h0 q;lia
   grind
  ·rw[IH];exact fR h0 k.2
structure GL (l:g_):Prop where
 ab:l.a≠0\/l.b≠0
 ba:BL 26 l.a
 bb:BL 26 l.b
 bc:BL 260 l.c
def EJ (sh:Int) (zs:List Pt):Prop:=∀u v,au zs u v->∃m,GL m/\exc m u sh=0/\exc m v sh=0
def Ab (ip:e_ sh zs) (on:EJ sh zs) (hl:zs.length<=23):BL 1220 sh/\∀z∈zs,BL 1507 z.1/\BL 1507 z.2:=by
 have cor:∀z∈zs,∃d x y:Int,d≠0/\d.natAbs<2 ^ 53/\(BL 287 x/\BL 287 y)/\d*z.1=sh*x/\d*z.2=sh*y:=λz hz=>by
  obtain⟨t,v,h1,h2,nt⟩:=RH ip.cvx hz;have D:=ip.cvx.strict t z h1 v (au.mem h2).2 (Ne.symm nt) (Ne.symm (ip.cvx.ne h2));obtain⟨m1,g1,e1,e2⟩:=on t z h1;obtain⟨m2,g2,e3,e4⟩:=on z v h2;unfold exc at e1 e2 e3 e4;obtain⟨k1,k2,k3⟩:=Mz (s:=sh) g1.ab g2.ab (show m1.a*t.1+m1.b*t.2=m1.c*sh by lia) (by lia) (show m2.a*z.1+m2.b*z.2=m2.c*sh by lia) (by lia) D;exact⟨_,_,_,k1,(g1.ba.mul g2.bb).sub (g2.ba.mul g1.bb),⟨(g1.bc.mul g2.bb).sub (g2.bc.mul g1.bb),(g1.ba.mul g2.bc).sub (g2.ba.mul g1.bc)⟩,k2,k3⟩
 obtain⟨P,p0,pb,pd⟩:=KS (n:=53) (s:=sh) zs λz hz=>by
  obtain⟨d,x,y,h1,h2,_,h3,h4⟩:=cor z hz;exact⟨d,x,y,h1,h2,h3,h4⟩
 have dv:=Mr ip.pos ip.cop pd;have bs:BL 1220 sh:=by
  have h1:sh.natAbs<=P.natAbs:=tM (by lia) (oQ.mpr dv);have h2:(2 ^ 53) ^ zs.length<=(2 ^ 53) ^ 23:=Nat.pow_le_pow_right (by decide) hl;rw[<-NO,<-NO] at h2;rw[<-NO] at pb;exact vT (fK h1 (fK pb h2)) (Nat.pow_lt_pow_right (by decide) (by decide))
 refine⟨bs,λz hz=>?_⟩;obtain⟨d,x,y,h1,_,⟨bx,n8⟩,h3,h4⟩:=cor z hz;have le:∀w u:Int,d*w=sh*u->w.natAbs<=(sh*u).natAbs:=λw u e=>by
  rw[<-e,iH];exact zN _ (by lia)
 exact⟨(bs.mul bx).le (le _ _ h3),(bs.mul n8).le (le _ _ h4)⟩
def Kz (g:GL l) {z:Pt} (bs:BL 1220 sh) (bz:BL 1507 z.1/\BL 1507 z.2):BL 2000 (exc l z sh) :=
 (((g.ba.mul bz.1).add (g.bb.mul bz.2)).sub (g.bc.mul bs)).mono
theorem UA {zs:List Pt} (h:3<=zs.length):∃x y z r,zs=x::y::z::r:=by
 cases zs with
 | nil=>cases h
 | cons x zs =>
  cases zs with
  | nil=>simp at h
  | cons y zs =>
   cases zs with
   | nil=>simp at h
   | cons z r=>exact⟨x,y,z,r,rfl⟩
def third (c:bB zs) (a b:Pt):∃q∈zs,q≠a/\q≠b:=by
 have h3:=c.len;have nd:=c.nodup;obtain⟨x,y,z,r,rfl⟩:=UA h3
 ·simp only[fJ,aN,not_or] at nd;obtain⟨⟨xy,xz,_⟩,⟨yz,_⟩,_⟩:=nd;by_cases hx:x=a\/x=b
  ·by_cases hy:y=a\/y=b
   ·refine⟨z,by simp,λe=>?_,λe=>?_⟩
    ·subst e;rcases hx with hx | hx
     ·exact xz hx
     ·rcases hy with hy | hy
      ·exact yz hy
      ·exact xy (hx.trans hy.symm)
    ·subst e;rcases hx with hx | hx
     ·rcases hy with hy | hy
      ·exact xy (hx.trans hy.symm)
      ·exact yz hy
     ·exact xz hx
   ·exact⟨y,by simp,λe=>hy (.inl e),λe=>hy (.inr e)⟩
  ·exact⟨x,by simp,λe=>hx (.inl e),λe=>hx (.inr e)⟩
def Iq {s:Int} (a b q:Pt):fZ (ap a) (ap b) (s*q.1,s*q.2,s)=s*bP a b q:=by unfold fZ ap bP;dsimp only;grind
def Yj (gl:GL l) (ip:e_ sh cs) (on:EJ sh cs) (hp:∃z∈cs,0<ae (BJ l sh) z) (hn:∃z∈cs,ae (BJ l sh) z<0) (h:jx (BJ l sh) sh cs ca zs):EJ ca zs:=by
 have f:=h.facts ip.cvx hp hn ip.pos;intro a b dq;obtain⟨t1,t2,c,i,A,hk,hm,e⟩:=f.side a b dq;obtain⟨M,⟨m,gm,rfl⟩,m1,m2⟩:=Wu (R:=λM=>∃m,GL m/\M=BJ m sh) (λu v xp=>by
  obtain⟨m,g,e1,e2⟩:=on u v xp;exact⟨_,⟨m,g,rfl⟩,by rw[RB];exact e1,by rw[RB];exact e2⟩) ⟨l,gl,rfl⟩ A
 obtain⟨q,hq,n1,n2⟩:=third f.cvx a b;have ev:∀x:Pt,c*(ca*bP a b x)=i*fZ t1 t2 (sh*x.1,sh*x.2,ca):=λx=>by
  rw[<-e x.1 x.2 ca,Iq]
 have d2:fZ t1 t2 (sh*q.1,sh*q.2,ca)≠0:=λz=>by
  have:=ev q;rw[z,mK] at this;have:=aS hk (aS f.pos (f.cvx.strict a b dq q hq n1 n2));lia
 have zero:∀x:Pt,bP a b x=0->exc m x ca=0:=λx hx=>by
  have d1:fZ t1 t2 (sh*x.1,sh*x.2,ca)=0:=by
   have:=ev x;rw[hx,mK,mK] at this;exact (iK.mp this.symm).resolve_left (by lia)
  have:=Tp m1 m2 d1 d2;rw[IH] at this;exact (iK.mp this).resolve_left (by have:=ip.pos;lia)
 exact⟨m,gm,zero a (Hj a b),zero b (Rq a b)⟩
structure mj (s1:Int) (c1:List Pt) (LS:List g_) (n:Nat) (sh:Int) (zs:List Pt):Prop where
 ip:e_ sh zs
 on:EJ sh zs
 len:zs.length<=n
 closed:∀X Y W,0<=W->(jh sh zs X Y W↔jh s1 c1 X Y W/\∀l∈LS,l.a*X+l.b*Y-l.c*W<=0)
 opened:∀X Y W,0<W->(fg sh zs X Y W↔fg s1 c1 X Y W/\∀l∈LS,l.a*X+l.b*Y-l.c*W<0)
def Ui {a b:Pt} (h:pt a=pt b):a=b:=by
 simp only[pt,D.tup.injEq,fY,D.int.injEq,and_true] at h;exact lQ h.1 h.2
def Qg (h:pc s1 z1=pc s2 z2):s1=s2/\z1=z2:=by
 simp only[pc,D.tup.injEq,fY,D.int.injEq,and_true] at h;exact⟨h.1,(List.map_inj_right λa b e=>Ui e).mp h.2⟩
def Qf (h:jx L sh cs ca zs):zs.length<=cs.length+2:=by
 obtain⟨_,_,_,_,_,_,_,_,_,_,_,e⟩:=h.ex;exact e
def mj.step (R:mj s1 c1 LS n sh zs) (gl:GL l) (r:je (BJ l sh) sh zs d) :
  (d = .non/\∀X Y W,0<W->fg s1 c1 X Y W->(∀l∈LS,l.a*X+l.b*Y-l.c*W<0)->¬l.a*X+l.b*Y-l.c*W<0)\/∃ca jk,d=pc ca jk/\mj s1 c1 (LS++[l]) (n+2) ca jk:=by
 have back:∀ca jk,EJ ca jk->jk.length<=n+2->qa l sh zs ca jk->mj s1 c1 (LS++[l]) (n+2) ca jk:=λca jk on hl C =>
  ⟨C.ip,on,hl,λX Y W hw=>by
   rw[C.closed X Y W hw,R.closed X Y W hw];simp only[cJ,dM];exact⟨λ⟨⟨a,b⟩,c⟩=>⟨a,λm hm=>hm.elim (b m) λe=>e ▸ c⟩,λ⟨a,b⟩=>⟨⟨a,λm hm=>b m (.inl hm)⟩,b l (.inr rfl)⟩⟩,λX Y W hw=>by
   rw[C.opened X Y W hw,R.opened X Y W hw];simp only[cJ,dM];exact⟨λ⟨⟨a,b⟩,c⟩=>⟨a,λm hm=>hm.elim (b m) λe=>e ▸ c⟩,λ⟨a,b⟩=>⟨⟨a,λm hm=>b m (.inl hm)⟩,b l (.inr rfl)⟩⟩⟩
 rcases Sj R.ip gl.ab r with ⟨e,h⟩ | ⟨ca,jk,e,C⟩
 ·exact .inl ⟨e,λX Y W hw h1 h2=>h X Y W hw ((R.opened X Y W hw).mpr ⟨h1,h2⟩)⟩
 ·refine .inr ⟨ca,jk,e,?_⟩;cases r with
  | whole h =>
   obtain⟨rfl,rfl⟩:=Qg e;exact back _ _ R.on (by have:=R.len;lia) C
  | nothing h n'=>cases e
  | @part hp hn s2 z2 h =>
   obtain⟨rfl,rfl⟩:=Qg e;exact back _ _ (Yj gl R.ip R.on hp hn h) (by have:=Qf h;have:=R.len;lia) C
def Jd:gn (x::y::r) a b↔(a=x/\b=y)\/gn (y::r) a b:=by
 constructor
 ·rintro⟨l,r',e⟩;cases l with
  | nil=>simp only[bC,fY] at e;exact .inl ⟨e.1.symm,e.2.1.symm⟩
  | cons c l=>simp only[aW,fY] at e;exact .inr ⟨l,r',e.2⟩
 ·rintro (⟨rfl,rfl⟩ | ⟨l,r',e⟩)
  ·exact⟨[],r,rfl⟩
  ·exact⟨x::l,r',by rw[e];rfl⟩
theorem Kj:∀(t:List Pt) (z:Pt),(a,b)∈yD (z::t) (t++[e])↔gn (z::(t++[e])) a b
 | [],z=>by
  rw[bC,Jd];have no:¬gn [e] a b:=λ⟨l,r,q⟩=>by
   have:=congrArg fM q;simp at this;lia
  simp[no]
 | y::t,z=>by
  rw[aW,Jd,<-Kj t y];simp
def Ii {z:Pt} {t:List Pt} {a b:Pt}:(a,b)∈l8 z t↔au (z::t) a b:=by
 show (a,b)∈yD (z::t) (t++[z])↔gn (z::t++(z::t).take 1) a b;exact Kj t z
def EW (sh X Y W:Int) (a b:Pt):(sV sh (a,b)).a*X+(sV sh (a,b)).b*Y-(sV sh (a,b)).c*W = - f8 sh X Y W a b:=by rw[LG];dsimp only[sV];grind
def Rk (sh:Int) (a b:Pt):exc (sV sh (a,b)) a sh=0/\exc (sV sh (a,b)) b sh=0:=by unfold exc;dsimp only[sV];constructor <;> grind
structure ve (sh:Int) (cs:List Pt):Prop where
 ip:e_ sh cs
 gl:∀a b,au cs a b->GL (sV sh (a,b))
 len:cs.length<=7
def ve.on (h:ve sh cs):EJ sh cs:=λu v k=>⟨_,h.gl u v k,Rk sh u v⟩
def ve.size (h:ve sh cs):BL 1220 sh/\∀z∈cs,BL 1507 z.1/\BL 1507 z.2:=Ab h.ip h.on (by have:=h.len;lia)
structure Com (s1:Int) (c1:List Pt) (s2:Int) (c2:List Pt) (sh:Int) (zs:List Pt):Prop where
 ip:e_ sh zs
 size:BL 1220 sh/\∀z∈zs,BL 1507 z.1/\BL 1507 z.2
 len:zs.length<=21
 closed:∀X Y W,0<=W->(jh sh zs X Y W↔jh s1 c1 X Y W/\jh s2 c2 X Y W)
 opened:∀X Y W,0<W->(fg sh zs X Y W↔fg s1 c1 X Y W/\fg s2 c2 X Y W)
def Zv (s1:Int) (c1:List Pt) (s2:Int) (c2:List Pt) (d:D):Prop:=(d = .non/\∀X Y W,0<W->fg s1 c1 X Y W->¬fg s2 c2 X Y W)\/∃sh zs,d=pc sh zs/\Com s1 c1 s2 c2 sh zs
def vK:FD:=λds Q=>∃(s1:Int) (c1:List Pt) (s2:Int) (c2:List Pt),ds=[pc s1 c1,pc s2 c2]/\ve s1 c1/\ve s2 c2/\∀d,Zv s1 c1 s2 c2 d->Q d
theorem Cn (o1 o2:Option S):∀(ws:List g_) (LS:List g_) (n:Nat) (sh:Int) (zs:List Pt) (t:Option S),(∀l∈ws,GL l)->mj s1 c1 LS n sh zs->n+2*ws.length<=21 ->
  (∀sh zs t,mj s1 c1 (LS++ws) (n+2*ws.length) sh zs->E.nx [o1,o2,aa (pc sh zs),t]) ->
  ((∀X Y W,0<W->fg s1 c1 X Y W->¬ ∀l∈LS++ws,l.a*X+l.b*Y-l.c*W<0)->E.rt .non) ->
  JW (dC 3) (uU QH) (ws.map ln) E [o1,o2,aa (pc sh zs),t]:=by
 intro ws
 induction ws with
 | nil=>intro LS n sh zs t _ R _ hn _;exact hn _ _ _ (by simpa using R)
 | cons l ws ih =>
  intro LS n sh zs t hg R hl hn hr;rw[bH] at hl;have again:=λca jk (t:Option S) (R':mj s1 c1 (LS++[l]) (n+2) ca jk)=>ih (LS++[l]) (n+2) ca jk t (λm hm=>hg m (aT _ hm)) R' (by lia) (λsh zs t k=>hn sh zs t (by rw[eQ] at k;rw[bH,show n+2*(ws.length+1)=n+2+2*ws.length by lia];exact k)) (λk=>hr (by rw[eQ] at k;exact k));clear ih;have g:=hg l cF;obtain⟨bs,bz⟩:=Ab R.ip R.on (by have:=R.len;lia);simp only[aQ,JW];generalize JW (dC 3) (uU QH) (ws.map ln) E=NX at *;unfold uU;generalize hP:pc sh zs=PD at *;generalize hL:ln l=LD at *;walk_at "rd";refine⟨l,sh,zs,by rw[hP,hL],⟨R.ip.pos,bs.mono,⟨g.ba.mono,g.bb.mono,g.bc.mono⟩⟩,λw hw=>⟨(bz w hw).1.mono,(bz w hw).2.mono,Kz g bs (bz w hw)⟩,⟨R.ip.cvx,by have:=R.len;lia⟩,λd r=>?_⟩;rcases R.step g r with ⟨rfl,k⟩ | ⟨ca,jk,rfl,R'⟩
  ·walk_at "rd";refine hr λX Y W hw h1 h2=>k X Y W hw h1 (λm hm=>h2 m (cU _ hm)) (h2 l (aV _ cF))
  ·walk_at "rd";exact again _ _ _ R'
def Di:∀ds Q,vK ds Q->XG QH QL { nx:=λ_=>Q .non,rt:=Q } (eD ["one","other","rest","line"] ds):=by
 rintro ds Q ⟨s1,c1,s2,c2,rfl,p1,p2,q⟩;rw[cS 2 rfl];unfold XG;obtain⟨b1,bz1⟩:=p1.size;obtain⟨b2,bz2⟩:=p2.size;have h3:=p2.ip.cvx.len;have h7:=p2.len;obtain⟨z,u,r,ec⟩:∃z u r,c2=z::u::r:=by
  obtain⟨x,y,z,r,e⟩:=UA h3;exact⟨x,y,z::r,e⟩
 have mem:∀l,l∈(l8 z (u::r)).map (sV s2)↔∃a b,au c2 a b/\l=sV s2 (a,b):=λl=>by
  rw[ec,bJ];constructor
  ·rintro⟨⟨a,b⟩,h,rfl⟩;exact⟨a,b,Ii.mp h,rfl⟩
  ·rintro⟨a,b,h,rfl⟩;exact⟨(a,b),Ii.mpr h,rfl⟩
 have closed:∀X Y W,(∀l∈(l8 z (u::r)).map (sV s2),l.a*X+l.b*Y-l.c*W<=0)↔jh s2 c2 X Y W:=λX Y W=>by
  constructor
  ·intro h a b k;have:=h _ ((mem _).mpr ⟨a,b,k,rfl⟩);rw[EW] at this;lia
  ·intro h l hl;obtain⟨a,b,k,rfl⟩:=(mem l).mp hl;rw[EW];have:=h a b k;lia
 have opened:∀X Y W,(∀l∈(l8 z (u::r)).map (sV s2),l.a*X+l.b*Y-l.c*W<0)↔fg s2 c2 X Y W:=λX Y W=>by
  constructor
  ·intro h a b k;have:=h _ ((mem _).mpr ⟨a,b,k,rfl⟩);rw[EW] at this;lia
  ·intro h l hl;obtain⟨a,b,k,rfl⟩:=(mem l).mp hl;rw[EW];have:=h a b k;lia
 have ln7:((l8 z (u::r)).map (sV s2)).length<=7:=by
  rw[ec] at h7;simp only[bV,ON,bH,dA,eK] at h7 ⊢;lia
 have eqm:((l8 z (u::r)).map λw=>ln (sV s2 w))=((l8 z (u::r)).map (sV s2)).map ln:=by rw[cM];rfl
 generalize hP1:pc s1 c1=P1;generalize hP2:pc s2 c2=P2';walk_at "rd";refine⟨s2,z,u,r,by rw[<-hP2,ec],b2.mono,⟨λw hw=>?_,?_⟩,?_⟩
 ·rw[<-ec] at hw;exact⟨(bz2 w hw).1.mono,(bz2 w hw).2.mono⟩
 ·rw[ec] at h7;simp only[bH] at h7;lia
 rw[eqm,<-hP1];have R0:mj s1 c1 [] 7 s1 c1:=⟨p1.ip,p1.on,p1.len,λX Y W _=>by simp,λX Y W _=>by simp⟩;refine Cn _ _ _ [] 7 s1 c1 _ (λl hl=>?_) R0 (by lia) (λsh zs t R=>?_) (λk=>?_)
 ·obtain⟨a,b,k,rfl⟩:=(mem l).mp hl;exact p2.gl a b k
 ·generalize hP:pc sh zs=PD;walk_at "rd";refine q _ (.inr ⟨sh,zs,hP.symm,R.ip,Ab R.ip R.on (by have:=R.len;lia),by have:=R.len;lia,λX Y W hw=>?_,λX Y W hw=>?_⟩)
  ·rw[R.closed X Y W hw,bC,closed]
  ·rw[R.opened X Y W hw,bC,opened]
 ·refine q _ (.inl ⟨rfl,λX Y W hw h1 h2=>k X Y W hw h1 ?_⟩);rw[bC];exact (opened X Y W).mpr h2
def inner (ip:e_ sh zs):∃X Y W,0<W/\fg sh zs X Y W:=by
 have c:=ip.cvx;have h3:=c.len;have h0:=ip.pos;obtain⟨x,y,z,r,rfl⟩:=UA h3;refine⟨x.1+y.1+z.1,x.2+y.2+z.2,3*sh,by lia,λa b k=>?_⟩;have e:f8 sh (x.1+y.1+z.1) (x.2+y.2+z.2) (3*sh) a b=sh*(bP a b x+bP a b y+bP a b z):=by unfold f8 fZ ap bP;dsimp only;grind
 rw[e];refine aS h0 ?_;have hx:=c.side k (q:=x) (by simp);have hy:=c.side k (q:=y) (by simp);have hz:=c.side k (q:=z) (by simp);have nd:=c.nodup;simp only[fJ,aN,not_or] at nd;obtain⟨⟨xy,xz,_⟩,⟨yz,_⟩,_⟩:=nd;have oz:∀q∈x::y::z::r,q=a\/q=b\/0<bP a b q:=λq hq=>by
  by_cases h1:q=a
  ·exact .inl h1
  ·by_cases h2:q=b
   ·exact .inr (.inl h2)
   ·exact .inr (.inr (c.strict a b k q hq h1 h2))
 rcases oz x (by simp) with e1 | e1 | e1
 ·rcases oz y (by simp) with e2 | e2 | e2
  ·exact (xy (e1.trans e2.symm)).elim
  ·rcases oz z (by simp) with e3 | e3 | e3
   ·exact (xz (e1.trans e3.symm)).elim
   ·exact (yz (e2.trans e3.symm)).elim
   ·lia
  ·lia
 ·rcases oz y (by simp) with e2 | e2 | e2
  ·rcases oz z (by simp) with e3 | e3 | e3
   ·exact (yz (e2.trans e3.symm)).elim
   ·exact (xz (e1.trans e3.symm)).elim
   ·lia
  ·exact (xy (e1.trans e2.symm)).elim
  ·lia
 ·lia
def corner_in (ip:e_ sh zs) (hq:q∈zs):jh sh zs q.1 q.2 sh:=λa b k=>by
 show 0<=fZ (ap a) (ap b) (sh*q.1,sh*q.2,sh);rw[Iq];exact eV (cR ip.pos) (ip.cvx.side k hq)
namespace K34
open K33
end K34
namespace K33
end K33
namespace K34
open K33
theorem MH {α:Type} (R:En->Prop) (fc f:α->D) (t:α->Bool):∀(src:List α),(∀a∈src,∀c,R c->∀K:En->Bool->Prop,(∀c1,R c1->(∀K2:D->Prop,K2 (f a)->te c1 K2)->K c1 (t a))->g (fc a) c λc1=>tt c1 λb=>K c1 b)->∀{Q:List D->Prop}
  (c:En) (acc:List D),R c->Q (acc++(src.filter t).map f)->lS g tt te (src.map fc) c acc Q
 | [],_,Q,c,acc,_,q=>by simpa [lS] using q
 | a::src,step,Q,c,acc,h,q=>by
  show g (fc a) c λc'=>tt c' λb=>if b=true then te c' λd=>lS g tt te (src.map fc) c' (acc++[d]) Q else lS g tt te (src.map fc) c' acc Q;refine step a cF c h (λc' b=>if b=true then te c' λd=>lS g tt te (src.map fc) c' (acc++[d]) Q else lS g tt te (src.map fc) c' acc Q) λc1 h1 ev=>?_;have rest:=λ(acc:List D) (q:Q (acc++(src.filter t).map f))=>MH R fc f t src (λa ha=>step a (aT _ ha)) c1 acc h1 q;cases e:t a with
  | true =>
   rw[if_pos rfl];refine ev _ (rest _ ?_);rw[pV,e] at q;simpa using q
  | false =>
   rw[if_neg cC];refine rest _ ?_;rw[pV,e] at q;simpa using q
end K34
namespace K41
open K36 K34 K33
abbrev BF:=Bt × Int × Int × Int × Int
def ig (g:BF):D:=.tup [.int g.2.1,.int g.2.2.1,.int g.2.2.2.1,.int g.2.2.2.2,d_ g.1]
structure rf (b:Bt):Prop where
 ip:e_ b.2.1 b.2.2.1
 bs:BL 40 b.2.1
 bz:∀z∈b.2.2.1,BL 70 z.1/\BL 70 z.2
 len:b.2.2.1.length<=10
structure o9 (fine:Int) (g:BF):Prop where
 x:∀z∈g.1.2.2.1,g.2.1*g.1.2.1<=z.1*fine/\z.1*fine<=g.2.2.1*g.1.2.1
 y:∀z∈g.1.2.2.1,g.2.2.2.1*g.1.2.1<=z.2*fine/\z.2*fine<=g.2.2.2.2*g.1.2.1
def BS:FD:=λds Q=>∃(b:Bt) (fine:Int),ds=[d_ b,.int fine]/\rf b/\BL 100 fine/\∀f,o9 fine (b,f)->Q (ig (b,f))
def Y2 {a b:Int} (h:0<b):a.fdiv b*b<=a:=by
 rw[cT _ (by lia),iY];exact Int.mul_ediv_self_le (by lia)
def fdu (h:0<b):a<=-((-a).fdiv b)*b:=by have:=Y2 (a:=-a) h;rw[Int.neg_mul];lia
def Dl:∀ds Q,BS ds Q->XI { nx:=λ_=>Q .non,rt:=Q } (eD ["bit","fine","share","across","along"] ds):=by
 rintro ds Q ⟨⟨P,sh,cs,m⟩,fine,rfl,⟨ip,bs,bz,len⟩,bf,q⟩;dsimp only at *;have sp:=ip.pos;have ne:cs≠[]:=by rintro rfl;have:=ip.cvx.len;simp at this
 rw[cS 3 rfl];unfold XI;simp only[jB,Ml,aQ,cB,aW,bC];generalize hM:p9 m=MD;have eB:d_ (P,sh,cs,m) = .tup [pc sh cs,MD]:=by rw[<-hM];rfl
 rw[eB];have comp:∀(f:Pt->Int) (te:RE) (K:List D->Prop),(∀z∈cs,∀a b:Option L2.R2.S,∀K2:D->Prop,K2 (.int (f z*fine))->te [aa (.int z.1),aa (.int z.2),aa (.int fine)] K2)->K ((cs.map λz=>f z*fine).map D.int) ->
   yI (oM 2 (fX (dC 0) (fX (dC 1) oK))) te (cs.map pt) [none,none,aa (.int fine)] [] K:=λf te K h k=>by
  refine sA (λc=>∃a b,c=[a,b,aa (.int fine)]) pt (λz=>.int (f z*fine)) cs ?_ ⟨none,none,rfl⟩ (by rw[cM] at k;exact k);rintro z hz c ⟨a,b,rfl⟩ K2 kb;simp only[oM,fX,oK,dC,bH,eK,true_and,aR,aX];exact h z hz a b _ (kb _ ⟨aa (.int z.1),aa (.int z.2),rfl⟩)
 refine cE (λc=>c=[aa (.tup [pc sh cs,MD]),aa (.int fine),aa (.int sh),none,none]) (λK hK=>?_) ?_
 ·walk_at "rd";exact hK _ rfl
 rintro c rfl;refine cE (λc=>c=[aa (.tup [pc sh cs,MD]),aa (.int fine),aa (.int sh),some (.own ((cs.map λz=>z.1*fine).map D.int)),none]) (λK hK=>?_) ?_
 ·simp only[nS,pP,riT,r2,aL,rC,sB,nQ,aE];refine⟨mF (by simp;lia),comp (·.1) _ _ (λz hz _ _ K2 k=>?_) (hK _ rfl)⟩;walk_at "rd";exact⟨(bz z hz).1.mulOk bf,k⟩
 rintro c rfl;refine cE (λc=>c=[aa (.tup [pc sh cs,MD]),aa (.int fine),aa (.int sh),some (.own ((cs.map λz=>z.1*fine).map D.int)),some (.own ((cs.map λz=>z.2*fine).map D.int))]) (λK hK=>?_) ?_
 ·simp only[nS,pP,riT,r2,aL,rC,sB,nQ,aE];refine⟨mF (by simp;lia),comp (·.2) _ _ (λz hz _ _ K2 k=>?_) (hK _ rfl)⟩;walk_at "rd";exact⟨(bz z hz).2.mulOk bf,k⟩
 rintro c rfl;have b9:BL 9000 sh:=bs.mono;have n1:∀f:Pt->Int,cs.map f≠[]:=λf=>by simpa using ne
 simp only[gM,mR,aD,aZ,r1,r2,cG,aL,WM,JQ,lT,zX,L2.R2.S.val,aE,aI,bH,eK];refine⟨_,rfl,n1 _,λM1 _ h1=>⟨b9.divOk (by lia),_,rfl,n1 _,λM2 _ h2=>⟨b9.divOk (by lia),_,rfl,n1 _,λM3 _ h3=>⟨b9.divOk (by lia),_,rfl,n1 _,λM4 _ h4=>⟨b9.divOk (by lia),mF (by decide),?_⟩⟩⟩⟩⟩;rw[<-eB];refine q (M1.fdiv sh,-((-M2).fdiv sh),M3.fdiv sh,-((-M4).fdiv sh)) ⟨λz hz=>⟨?_,?_⟩,λz hz=>⟨?_,?_⟩⟩
 ·have:=Y2 (a:=M1) sp;have:=h1 _ (cO hz);dsimp only at *;lia
 ·have:=fdu (a:=M2) sp;have:=h2 _ (cO hz);dsimp only at *;lia
 ·have:=Y2 (a:=M3) sp;have:=h3 _ (cO hz);dsimp only at *;lia
 ·have:=fdu (a:=M4) sp;have:=h4 _ (cO hz);dsimp only at *;lia
theorem Bb {α β:Type} (R:En->Prop) (fc:α->D) (dec:α × β->D) (Ok:α × β->Prop):∀(src:List α) {Q:List D->Prop},(∀a∈src,∀c,R c->∀K:En->D->Prop,(∀c1 b,R c1->Ok (a,b)->K c1 (dec (a,b)))->g (fc a) c λc1=>te c1 λd=>K c1 d) ->
  ∀(c:En) (acc:List D),R c->(∀bs:List (α × β),bs.map (·.1)=src->(∀b∈bs,Ok b)->Q (acc++bs.map dec))->yI g te (src.map fc) c acc Q
 | [],Q,_,c,acc,_,q=>by
  show Q acc;simpa using q [] rfl (by simp)
 | a::src,Q,step,c,acc,h,q=>by
  show g (fc a) c λc'=>te c' λd=>yI g te (src.map fc) c' (acc++[d]) Q;refine step a cF c h (λc1 d=>yI g te (src.map fc) c1 (acc++[d]) Q) λc1 b h1 ok=>?_;refine Bb R fc dec Ok src (λb hb=>step b (aT _ hb)) c1 _ h1 λbs e ho=>?_;have:=q ((a,b)::bs) (by rw[aQ,e]) (λx hx=>by rcases aN.mp hx with rfl | hx;exact ok;exact ho x hx);simpa using this
structure jy (fine:Int) (bs:List Bt) (gs:List BF):Prop where
 perm:(gs.map (·.1)).Perm bs
 ok:∀g∈gs,o9 fine g
 sorted:gs.Pairwise λp q=>p.2.2.2.1<=q.2.2.2.1
def QK:FD:=λds Q=>∃(bs:List Bt) (fine:Int),ds=[.lst (bs.map d_),.int fine]/\(bs.length<=4/\∀b∈bs,rf b)/\BL 100 fine/\∀gs,jy fine bs gs->Q (.lst (gs.map ig))
def Ds:∀ds Q,QK ds Q->yW BS { nx:=λ_=>Q .non,rt:=Q } (eD ["bits","fine"] ds):=by
 rintro ds Q ⟨bs,fine,rfl,⟨lb,hb⟩,bf,q⟩;rw[cS 0 rfl];unfold yW;simp only[jB,F6,aQ,cB,aW,bC,gM,ZZ,pP,riL,cG,aE];refine⟨mF (by simp;lia),?_⟩;refine Bb (λc=>∃a,c=[a,aa (.int fine)]) d_ ig (o9 fine) bs ?_ _ [] ⟨none,rfl⟩ λfs ef ok=>?_
 ·rintro b mb c ⟨a,rfl⟩ K hK;generalize hB:d_ b=BD;walk_at "rd";exact⟨b,fine,by rw[hB],hb b mb,bf,λf hf=>hK _ f ⟨aa BD,by rw[<-hB]⟩ hf⟩
 ·have lf:fs.length<=4:=by rw[<-ef] at lb;simpa using lb
  let km:BF->List D × Int:=λg=>([.int g.2.1,.int g.2.2.1,.int g.2.2.2.1,.int g.2.2.2.2,d_ g.1],g.2.2.2.1);have er:∀l:List BF,(l.map km).map (λr=>D.tup r.1)=l.map ig:=λl=>by rw[cM];rfl
  refine⟨fs.map km,by rw[er];rfl,by simp;lia,λr hr=>?_,λgs hp hs=>?_⟩
  ·obtain⟨g,_,rfl⟩:=bJ.mp hr;exact⟨rfl,mF (show 5<=100000 by decide)⟩
  ·obtain⟨l,pl,rfl⟩:∃l:List BF,l.Perm fs/\gs=l.map km:=OA hp fs rfl;rw[er];refine q l ⟨by rw[<-ef];exact pl.map _,λg hg=>ok g (pl.mem_iff.mp hg),?_⟩;exact (kO (f:=km)).mp hs
def yK {α β:Type} {f g:α->List β} {l:List α} (h:∀a∈l,f a=g a):l.flatMap f=l.flatMap g:=by rw[LR,LR,nE h]
theorem Iv {α β:Type} {f g:α->List β} (h:∀a,(f a).Perm (g a)):∀l:List α,(l.flatMap f).Perm (l.flatMap g)
 | []=>.refl _
 | a::l=>by simp only[IV];exact (h a).append (Iv h l)
def ixT {xs:List D} {k:Nat} {x:D} {Q:D->Prop} (e:xs[k]? = some x):bi (.tup xs) (.int (k:Int)) Q=Q x:=by simp only[bi,EL e]
def ix3:bi (.tup (a::b::c::d::r)) (.int 3) Q=Q d:=ixT (k:=3) rfl
def ix4:bi (.tup (a::b::c::d::e::r)) (.int 4) Q=Q e:=ixT (k:=4) rfl
def uw (p:Bt × Bt):D:=.tup [d_ p.1,d_ p.2]
def wm (as os:List Bt):List (Bt × Bt):=as.flatMap λx=>os.map λy=>(x,y)
def Zz (x y:Bt):Prop:=∃X Y W,0<W/\fg x.2.1 x.2.2.1 X Y W/\fg y.2.1 y.2.2.1 X Y W
structure qg (as os:List Bt) (ps:List (Bt × Bt)):Prop where
 mem:∀p∈ps,p.1∈as/\p.2∈os
 len:ps.length<=16
 all:∀v:Bt->Bt->Bool,(∀x∈as,∀y∈os,v x y=true->Zz x y)->(ps.filter λp=>v p.1 p.2).Perm ((wm as os).filter λp=>v p.1 p.2)
def pj (x y:BF):Bool:=decide (x.2.2.2.1<y.2.2.2.2) && (decide (y.2.2.2.1<x.2.2.2.2) && (decide (y.2.1<x.2.2.1) && decide (x.2.1<y.2.2.1)))
section
def Cc (f0:0<fine) (F:o9 fine x) (ip:e_ x.1.2.1 x.1.2.2.1) {X Y W:Int} (w:0<W) (i:fg x.1.2.1 x.1.2.2.1 X Y W):(x.2.1*W<fine*X/\fine*X<x.2.2.1*W)/\x.2.2.2.1*W<fine*Y/\fine*Y<x.2.2.2.2*W:=by
 have h1:=uV (α:=-fine) (β:=0) (γ:=x.2.1) ip.cvx ip.pos (.inl (by lia)) (λz hz=>by have:=(F.x z hz).1;grind) w i;have h2:=uV (α:=fine) (β:=0) (γ:=-x.2.2.1) ip.cvx ip.pos (.inl (by lia)) (λz hz=>by have:=(F.x z hz).2;grind) w i;have h3:=uV (α:=0) (β:=-fine) (γ:=x.2.2.2.1) ip.cvx ip.pos (.inr (by lia)) (λz hz=>by have:=(F.y z hz).1;grind) w i;have h4:=uV (α:=0) (β:=fine) (γ:=-x.2.2.2.2) ip.cvx ip.pos (.inr (by lia)) (λz hz=>by have:=(F.y z hz).2;grind) w i;refine⟨⟨?_,?_⟩,?_,?_⟩ <;> grind
def Tj (f0:0<fine) (Fx:o9 fine x) (Fy:o9 fine y) (ix:e_ x.1.2.1 x.1.2.2.1) (iy:e_ y.1.2.1 y.1.2.2.1) (m:Zz x.1 y.1):pj x y=true:=by
 obtain⟨X,Y,W,w,h1,h2⟩:=m;obtain⟨⟨a1,a2⟩,a3,a4⟩:=Cc f0 Fx ix w h1;obtain⟨⟨b1,b2⟩,b3,b4⟩:=Cc f0 Fy iy w h2;have lt:∀{p q:Int},p*W<q*W->p<q:=λh=>Int.lt_of_mul_lt_mul_right h (cR w);unfold pj;simp only[gS,decide_eq_true_eq];exact⟨lt (by lia),lt (by lia),lt (by lia),lt (by lia)⟩
end
def KU (ga go:List BF):List (Bt × Bt):=ga.flatMap λx=>(go.filter (pj x)).map λy=>(x.1,y.1)
theorem TC (h:go.length<=4):∀l,(KU l go).length<=l.length*4
 | []=>bO _
 | x::l=>by
  have e:KU (x::l) go=((go.filter (pj x)).map λy=>(x.1,y.1))++KU l go:=rfl;rw[e,dA,bV];have:=iT (pj x) go;have:=TC h l;simp only[bH];lia
def Tk {fine:Int} {as os:List Bt} {ga go:List BF} (f0:0<fine) (la:as.length<=4) (lo:os.length<=4) (ha:∀b∈as,rf b) (ho:∀b∈os,rf b) (A:jy fine as ga) (O:jy fine os go):qg as os (KU ga go):=by
 have ma:∀g∈ga,g.1∈as:=λg hg=>A.perm.mem_iff.mp (cO hg);have mo:∀g∈go,g.1∈os:=λg hg=>O.perm.mem_iff.mp (cO hg);refine⟨λp hp=>?_,?_,λv hv=>?_⟩
 ·obtain⟨x,hx,hp⟩:=LW.mp hp;obtain⟨y,hy,rfl⟩:=bJ.mp hp;exact⟨ma x hx,mo y (kX.mp hy).1⟩
 ·have:=A.perm.length_eq;have:=O.perm.length_eq;have:=TC (go:=go) (by simp at *;lia) ga;simp at *;lia
 ·have e1:(KU ga go).filter (λp=>v p.1 p.2)=(ga.map (·.1)).flatMap λx=>((go.map (·.1)).filter (v x)).map λy=>(x,y):=by
   unfold KU;rw[FC,LU];refine yK λx hx=>?_;rw[qP,qP,vP,cM];refine congrArg _ (wR λy hy=>?_);show (v x.1 y.1 && pj x y)=v x.1 y.1;cases e:v x.1 y.1 with
   | false=>rfl
   | true=>rw[Tj f0 (A.ok x hx) (O.ok y hy) (ha _ (ma x hx)).ip (ho _ (mo y hy)).ip (hv _ (ma x hx) _ (mo y hy) e)];rfl
  have e2:(wm as os).filter (λp=>v p.1 p.2)=as.flatMap λx=>(os.filter (v x)).map λy=>(x,y):=by
   unfold wm;rw[FC];refine yK λx _=>?_;rw[qP];rfl
  rw[e1,e2];exact (A.perm.flatMap_right _).trans (Iv (λx=>(O.perm.filter _).map _) _)
def Ew:FD:=λds Q=>∃as os:List Bt,ds=[.lst (as.map d_),.lst (os.map d_)]/\(as.length<=4/\os.length<=4/\as≠[])/\(∀b∈as++os,rf b)/\∀ps,qg as os ps->Q (.lst (ps.map uw))
theorem SL {E:jb} {a0 a1 a2 a6 a7 a8 a9 a11 a12:Option L2.R2.S} {up:Int} {ws:List BF} (hs:ws.Pairwise λp q=>p.2.2.2.1<=q.2.2.2.1) (l4:ws.length<=4):∀(n k:Nat) (l:List D),k+n=ws.length->l.length<=100+k ->
  (∀k',k<=k'->k'<=ws.length->(∀y∈ws.drop k',up<=y.2.2.2.1)->E.nx [a0,a1,a2,aa (.lst (ws.map ig)),aa (.int k'),some (.own (l++((ws.take k').drop k).map ig)),a6,a7,a8,a9,aa (.int up),a11,a12]) ->
  oV (xQ (dS (r2 (mE λi j=>decide (i<j)) (aL 4) (r1 qZ (aL 3)))) (dS (r2 (mE λi j=>decide (i<j)) (r2 bi (r2 bi (aL 3) (aL 4)) (am 2)) (aL 10)))) qC (n+1) E [a0,a1,a2,aa (.lst (ws.map ig)),aa (.int k),some (.own l),a6,a7,a8,a9,aa (.int up),a11,a12]
 | 0,k,l,e,hl,q=>by
  unfold oV;walk_at "rd";rw[if_neg (by simp;lia)]
  try rw[if_neg cC]
  have:=q k (bO _) (by lia) (by rw[rT (by lia)];simp);rw[rT (by simp;lia)] at this;simpa using this
 | n+1,k,l,e,hl,q=>by
  have hk:k<ws.length:=by lia
  have ix:(ws.map ig)[k]? = some (ig ws[k]):=by rw[bK,aG hk];rfl
  unfold oV;have ih:=SL (E:=E) (a0:=a0) (a1:=a1) (a2:=a2) (a6:=a6) (a7:=a7) (a8:=a8) (a9:=a9) (a11:=a11) (a12:=a12) (up:=up) hs l4 n (k+1) (l++[ig ws[k]]) (by lia) (by simp;lia);generalize hW:oV (xQ (dS (r2 (mE λi j=>decide (i<j)) (aL 4) (r1 qZ (aL 3)))) (dS (r2 (mE λi j=>decide (i<j)) (r2 bi (r2 bi (aL 3) (aL 4)) (am 2)) (aL 10)))) qC (n+1) E=W at ih ⊢;walk_at "rd";rw[if_pos (by simp;lia),qY ix,show ig ws[k] = .tup [.int ws[k].2.1,.int ws[k].2.2.1,.int ws[k].2.2.2.1,.int ws[k].2.2.2.2,d_ ws[k].1] from rfl];walk_at "rd";by_cases hu:ws[k].2.2.2.1<up
  ·rw[if_pos (by simpa using hu)];unfold qC;simp only[dE,yR,fC,r2,aL,rC,lM,aE,aI,aR,aX];rw[qY ix];refine⟨mF (by lia),?_⟩;refine ih λk' h1 h2 h3=>?_;have:=q k' (by lia) h2 h3;rw[eQ];have e2:(ws.take k').drop k=ws[k]::(ws.take k').drop (k+1):=by
    rw[fH (by simp;lia)];simp
   rw[e2] at this;exact this
  ·rw[if_neg (by simpa using hu)];have:=q k (bO _) (by lia) (λy hy=>by
    rw[fH hk] at hy;rcases aN.mp hy with rfl | hy
    ·lia
    ·have:=hs.sublist (IU k ws);rw[fH hk] at this;have:=(bZ.mp this).1 y hy;lia)
   rw[rT (by simp;lia)] at this;simpa using this
abbrev ew (AD OD WD BD:D) (fine:Int) (k:Nat) (l:List BF) (ps:List (Bt × Bt)) (x:BF) (u:Option L2.R2.S):En:=[aa AD,aa OD,aa (.int fine),aa WD,aa (.int k),some (.own (l.map ig)),some (.own (ps.map uw)),aa (.int x.2.1),aa (.int x.2.2.1),aa (.int x.2.2.2.1),aa (.int x.2.2.2.2),aa BD,u]
def Mi:∀ds Q,Ew ds Q->GI QK { nx:=λ_=>Q .non,rt:=Q } (eD ["ones","others","fine","waiting","place","near","pairs","left","right","low","up","bit","met"] ds):=by
 rintro ds Q ⟨as,os,rfl,⟨la,lo,ne⟩,hb,q⟩;have ha:∀b∈as,rf b:=λb h=>hb b (cU _ h);have ho:∀b∈os,rf b:=λb h=>hb b (aV _ h);rw[cS 11 rfl];unfold GI;simp only[jB,Wq,aQ,cB,aW,bC];generalize hA:D.lst (as.map d_)=AD;generalize hO:D.lst (os.map d_)=OD;refine cE (λg=>∃fine,(0<fine/\BL 100 fine)/\g=[aa AD,aa OD,aa (.int fine),none,none,none,none,none,none,none,none,none,none]) (λK hK=>?_) ?_
 ·simp only[fC,r1,r2,pP,riL,aL,aE,aI,aR,aX];rw[<-hA,<-hO];refine⟨mF (by simp;lia),mF (by simp;lia),?_⟩;rw[<-dI];refine sA (λg=>∃a,g=[a]) d_ (λb=>.int b.2.1) (as++os) ?_ ⟨none,rfl⟩ ?_
  ·rintro b _ g ⟨a,rfl⟩ K2 kb;unfold d_;walk_at "rd";exact kb _ ⟨aa (d_ b),rfl⟩
  ·refine⟨(as++os).map λb=>b.2.1,by rw[cM];rfl,by simp[ne],λM hM _=>?_⟩;obtain⟨b,mb,rfl⟩:=bJ.mp hM;rw[hA,hO];exact hK _ ⟨_,⟨(hb b mb).ip.pos,(hb b mb).bs.mono⟩,rfl⟩
 rintro g ⟨fine,⟨f0,bf⟩,rfl⟩;refine cE (λg=>∃go,jy fine os go/\g=[aa AD,aa OD,aa (.int fine),aa (.lst (go.map ig)),none,none,none,none,none,none,none,none,none]) (λK hK=>?_) ?_
 ·simp only[fC,cZ,aD,aZ,cG,aE,aI,aR,aX];exact⟨os,fine,by rw[hO],⟨lo,ho⟩,bf,λgo O=>hK _ ⟨go,O,rfl⟩⟩
 rintro g ⟨go,O,rfl⟩;have lgo:go.length<=4:=by have:=O.perm.length_eq;simp at this;lia
 refine cE (λg=>g=[aa AD,aa OD,aa (.int fine),aa (.lst (go.map ig)),aa (.int 0),none,none,none,none,none,none,none,none]) (λK hK=>?_) ?_
 ·walk_at "rd";exact hK _ rfl
 rintro g rfl;refine cE (λg=>g=[aa AD,aa OD,aa (.int fine),aa (.lst (go.map ig)),aa (.int 0),some (.own []),none,none,none,none,none,none,none]) (λK hK=>?_) ?_
 ·walk_at "rd";exact hK _ rfl
 rintro g rfl;refine cE (λg=>g=[aa AD,aa OD,aa (.int fine),aa (.lst (go.map ig)),aa (.int 0),some (.own []),some (.own []),none,none,none,none,none,none]) (λK hK=>?_) ?_
 ·walk_at "rd";exact hK _ rfl
 rintro g rfl;generalize hW:D.lst (go.map ig)=WD;refine cE (λg=>∃(ga:List BF) (u4 u5 u7 u8 u9 ww wz t8:Option L2.R2.S),jy fine as ga/\g=[aa AD,aa OD,aa (.int fine),aa WD,u4,u5,some (.own ((KU ga go).map uw)),u7,u8,u9,ww,wz,t8]) (λK hK=>?_) ?_
 ·simp only[oD,riL,cZ,aD,aZ,cG,aE,aI];refine⟨as,fine,by rw[hA],⟨la,ha⟩,bf,λga A=>?_⟩;have lga:ga.length<=4:=by have:=A.perm.length_eq;simp at this;lia
  refine kU (λys g=>∃(dn td:List BF) (k:Nat) (t:BF->Bool) (u7 u8 u9 ww wz t8:Option L2.R2.S),ga=dn++td/\ys=td.map ig/\k<=go.length/\(∀y,t y=false->∀x∈td,¬x.2.2.2.1<y.2.2.2.2) /\
   g=[aa AD,aa OD,aa (.int fine),aa WD,aa (.int k),some (.own (((go.take k).filter t).map ig)),some (.own ((KU dn go).map uw)),u7,u8,u9,ww,wz,t8]) ?_ ?_ _ _ ⟨[],ga,0,λ_=>true,none,none,none,none,none,none,rfl,rfl,fV _,(λy h=>Bool.noConfusion h),rfl⟩
  ·rintro y ys g ⟨dn,td,k,t,u7,u8,u9,ww,wz,t8,ec,ey,hk,ht,rfl⟩ F hr um hn _;cases td with
   | nil=>cases ey
   | cons x td =>
    cases ey;have ld:dn.length+1<=4:=(by have:=congrArg fM ec;simp at this;lia);have lps:=TC lgo dn;generalize hB:d_ x.1=BD;have eX:ig x = .tup [.int x.2.1,.int x.2.2.1,.int x.2.2.2.1,.int x.2.2.2.2,BD]:=(by rw[<-hB];rfl);rw[eX];unfold yY;simp only[oM,fX,oK,dC,bH,eK,true_and,aR,aX];refine cE (λg=>∃k':Nat,(k<=k'/\k'<=go.length/\∀y∈go.drop k',x.2.2.2.2<=y.2.2.2.1)/\g=ew AD OD WD BD fine k' (((go.take k).filter t++(go.take k').drop k)) (KU dn go) x t8) (λK2 kb=>?_) ?_
    ·rw[<-hW] at kb ⊢;refine⟨_,SL O.sorted lgo (go.length-k) k _ (by lia) (by have:=iT t (go.take k);simp at *;lia) λk' h1 h2 h3=>?_⟩;rw[<-dI];exact kb _ ⟨k',⟨h1,h2,h3⟩,rfl⟩
    rintro g ⟨k',⟨k1,k2,k3⟩,rfl⟩;unfold ew;let p1:BF->Bool:=λy=>decide (x.2.2.2.1<y.2.2.2.2);let p2:BF->Bool:=λy=>decide (y.2.2.2.1<x.2.2.2.2) && (decide (y.2.1<x.2.2.1) && decide (x.2.1<y.2.2.1));have e1:((go.take k).filter t++(go.take k').drop k).filter p1=(go.take k').filter p1:=by
     have e0:go.take k'=go.take k++(go.take k').drop k:=by
      have:=(gC k (go.take k')).symm;rw[List.take_take,AO k1] at this;exact this
     rw[e0,jA,jA,<-e0];congr 1;rw[vP];refine wR λy _=>?_;cases e:t y with
     | true=>rw[qJ]
     | false =>
      rw[vF];exact (decide_eq_false (ht y e x (by simp))).symm
    have e2:((go.take k').filter p1).filter p2=go.filter (pj x):=by
     rw[vP]
     conv=>rhs;rw[<-gC k' go,jA]
     have:(go.drop k').filter (pj x)=[]:=List.filter_eq_nil_iff.mpr λy hy=>by
      have:=k3 y hy;unfold pj;rw[decide_eq_false (p:=y.2.2.2.1<x.2.2.2.2) (by lia)];simp
     rw[this,eJ];refine wR λy _=>?_;exact Bool.and_comm ..
    refine cE (λg=>g=ew AD OD WD BD fine k' (((go.take k').filter p1)) (KU dn go) x t8) (λK2 kb=>?_) ?_
    ·simp only[yL,L2.R2.S.fz,nS,DL,riL,cG,BI,QZ,Dw,aQ,cB,aW,bC,aE,aI,aR,aX];refine⟨mF (by have:=iT t (go.take k);simp at *;lia),MH (λg=>∃a,g=[a,aa (.int x.2.2.2.1)]) ig ig p1 _ ?_ _ [] ⟨none,rfl⟩ ?_⟩
     ·rintro y _ g ⟨a,rfl⟩ K3 yr;have:=yr [aa (ig y),aa (.int x.2.2.2.1)] ⟨_,rfl⟩ (λK4 h4=>h4);simp only[dC,dS,r2,aL,rC,mE,ig,ix3,aE,aI,aR] at this ⊢;exact this
     ·rw[bC,e1];exact kb _ rfl
    rintro g rfl;unfold ew;refine cE (λg=>g=ew AD OD WD BD fine k' (((go.take k').filter p1)) (KU dn go) x (some (.own ((go.filter (pj x)).map ig)))) (λK2 kb=>?_) ?_
    ·simp only[nS,DL,V5,BI,QZ,Dw,aQ,cB,aW,bC,aE,aI,aR,aX];refine⟨mF (by have:=iT p1 (go.take k');simp at *;lia),MH (λg=>∃a,g=[a,aa (.int x.2.2.2.2),aa (.int x.2.2.1),aa (.int x.2.1)]) ig ig p2 _ ?_ _ [] ⟨none,rfl⟩ ?_⟩
     ·rintro y _ g ⟨a,rfl⟩ K3 yr;have:=yr [aa (ig y),aa (.int x.2.2.2.2),aa (.int x.2.2.1),aa (.int x.2.1)] ⟨_,rfl⟩ (λK4 h4=>h4);simp only[dC,xQ,dS,r2,aL,rC,mE,ig,sB,nQ,CM,aE,aI,aR] at this ⊢;simp only[p2] at this;by_cases c1:y.2.2.2.1<x.2.2.2.2
      ·by_cases c2:y.2.1<x.2.2.1
       ·simpa [c1,c2] using this
       ·simpa [c1,c2] using this
      ·simpa [c1] using this
     ·rw[bC,e2];exact kb _ rfl
    rintro g rfl;unfold ew;simp only[yL,L2.R2.S.fz,TH,pP,riL,cG,BI,QZ,Dw,aQ,cB,aW,bC,aE,aI,aR,aX];have lm:=iT (pj x) go;refine⟨mF (by simp;lia),sA (λg=>∃a,g=[a,aa BD]) ig (λy=>uw (x.1,y.1)) _ ?_ ⟨none,rfl⟩ ?_⟩
    ·rintro y _ g ⟨a,rfl⟩ K3 yr;have:=yr [aa (ig y),aa BD] ⟨_,rfl⟩;simp only[uw,hB] at this;simp only[dC,mR,aD,aZ,r2,cG,aL,rC,ig,ix4,aE,aI,aR,bH,eK] at this ⊢;exact⟨sz2,this⟩
    ·refine⟨mF (by simp;lia),hn _ ⟨dn++[x],td,k',p1,aa (.int x.2.1),aa (.int x.2.2.1),aa (.int x.2.2.2.1),aa (.int x.2.2.2.2),aa BD,aa (.lst ((go.filter (pj x)).map ig)),by rw[ec];simp,rfl,k2,λy hy z hz=>?_,?_⟩⟩
     ·have h1:¬x.2.2.2.1<y.2.2.2.2:=of_decide_eq_false hy;have h2:=A.sorted;rw[ec] at h2;have:=(bZ.mp (jF.mp h2).2.1).1 z hz;lia
     ·have e3:KU (dn++[x]) go=KU dn go++(go.filter (pj x)).map λy=>(x.1,y.1):=by
       unfold KU;rw[FE];simp
      rw[e3,dI,cM];rfl
  ·rintro g ⟨dn,td,k,t,u7,u8,u9,ww,wz,t8,ec,ey,hk,ht,rfl⟩;have:td=[]:=(by simpa using ey.symm);subst this;rw[eJ] at ec;subst ec;exact hK _ ⟨ga,aa (.int k),some (.own (((go.take k).filter t).map ig)),u7,u8,u9,ww,wz,t8,A,rfl⟩
 rintro g ⟨ga,u4,u5,u7,u8,u9,ww,wz,t8,A,rfl⟩;simp only[yL,L2.R2.S.fz,gM,cG,aE,aI,aR,aX];exact q _ (Tk f0 la lo ha ho A O)
def XN {s1 s2 X Y W X' Y' W' c1 c2:Int} (h1:0<c1) (h2:0<c2) (l:∀a b,au A a b->∃p q,au B p q/\c1*f8 s1 X Y W a b=c2*f8 s2 X' Y' W' p q) (r:∀p q,au B p q->∃a b,au A a b/\c1*f8 s1 X Y W a b=c2*f8 s2 X' Y' W' p q) :
  (jh s1 A X Y W↔jh s2 B X' Y' W')/\(fg s1 A X Y W↔fg s2 B X' Y' W'):=by
 refine⟨⟨λh p q c=>?_,λh a b c=>?_⟩,⟨λh p q c=>?_,λh a b c=>?_⟩⟩
 ·obtain⟨a,b,k,e⟩:=r p q c;have:=(wC h1 h2 e).2;have:=h a b k;lia
 ·obtain⟨p,q,k,e⟩:=l a b c;have:=(wC h1 h2 e).2;have:=h p q k;lia
 ·obtain⟨a,b,k,e⟩:=r p q c;exact (wC h1 h2 e).1.mp (h a b k)
 ·obtain⟨p,q,k,e⟩:=l a b c;exact (wC h1 h2 e).1.mpr (h p q k)
def Co {s1 s2 X Y W X' Y' W' c1 c2:Int} (h1:0<c1) (h2:0<c2) (e:∀p q,c1*f8 s1 X Y W (f p) (f q)=c2*f8 s2 X' Y' W' p q):(jh s1 (B.map f) X Y W↔jh s2 B X' Y' W')/\(fg s1 (B.map f) X Y W↔fg s2 B X' Y' W') :=
 XN h1 h2 (λa b c=>by obtain⟨p,q,k,rfl,rfl⟩:=yJ c;exact⟨p,q,k,e p q⟩) λp q c=>⟨_,_,zW (f:=f) c,e p q⟩
def Kd {e sh X Y W:Int} (he:0<e) (T:Told e A sh zs):(jh sh zs X Y W↔jh e A X Y W)/\(fg sh zs X Y W↔fg e A X Y W):=by
 have hs:=EC he T;obtain⟨A',r,eq⟩:=T.ring;have key:∀{a b p q:Pt},scl e a=scl sh p->scl e b=scl sh q->e*e*f8 sh X Y W a b=sh*sh*f8 e X Y W p q:=λ{a b p q} ea eb=>by
  unfold scl at ea eb;simp only[fF] at ea eb;rw[<-IA,<-IA];have l:e*e*((b.1-a.1)*(Y*sh-a.2*W)-(b.2-a.2)*(X*sh-a.1*W))=(e*b.1-e*a.1)*(Y*sh*e-e*a.2*W)-(e*b.2-e*a.2)*(X*sh*e-e*a.1*W):=by grind
  rw[l,ea.1,ea.2,eb.1,eb.2];grind
 refine XN (aS he he) (aS hs hs) (λa b c=>?_) λp q c=>?_
 ·have k:=zW (f:=scl e) c;rw[eq] at k;obtain⟨x,y,k,ex,ey⟩:=yJ k;exact⟨x,y,EM r k,key ex.symm ey.symm⟩
 ·have k:=zW (f:=scl sh) (EM r.symm c);rw[<-eq] at k;obtain⟨x,y,k,ex,ey⟩:=yJ k;exact⟨x,y,k,key ex ey⟩
def xF (I J N:Int) (a b:Pt):f8 1 I J N a b=fv I J N (l7 a b):=by rw[<-IA];unfold fv l7;dsimp only;grind
section
variable {s h:Pt} {sh X Y W I J N:Int} {P Q K cs:List Pt}
theorem JX (f:Fm s h) (g:Gp s h P sh cs) (sp:rm s h X Y W I J N):(jh sh cs X Y W↔jh 1 P I J N)/\(fg sh cs X Y W↔fg 1 P I J N):=by
 have t:=Kd (X:=X) (Y:=Y) (W:=W) f.ep g;have e:=f.ep;have m:=Co (B:=P) (f:=n6 s h) (s1:=eF s h) (X:=X) (Y:=Y) (W:=W) (s2:=1) (X':=I) (Y':=J) (W':=N) (aS (aS e e) sp.n) (aS (aS (aS (aS e e) sp.w) f.sp) f.hp) λp q=>by rw[NH sp rfl rfl,xF,Ix]
 exact⟨t.1.trans m.1,t.2.trans m.2⟩
theorem Ad (f:Fm s h) (w:0<W):∃I J N,rm s h X Y W I J N :=
 ⟨24*X*(h.1*s.2),eF s h*Y-24*X*(s.1*h.2),W*(h.1*s.2),w,aS w f.hp,by unfold eF;grind,by unfold eF;grind⟩
def A8 (p q:Pt) (e:Pt × Pt):List Pt:=(if 0<=bP p q e.1 then [e.1] else [])++if bP p q e.1*bP p q e.2<0 then
 [((((bP p q e.2).natAbs:Int)*e.1.1+((bP p q e.1).natAbs:Int)*e.2.1) / (((bP p q e.1).natAbs:Int)+((bP p q e.2).natAbs:Int)),(((bP p q e.2).natAbs:Int)*e.1.2+((bP p q e.1).natAbs:Int)*e.2.2) / (((bP p q e.1).natAbs:Int)+((bP p q e.2).natAbs:Int)))] else []
def ik (P Q:List Pt):List Pt:=(OY (Q++Q.take 1)).foldl (λR e=>(OY (R++R.take 1)).flatMap (A8 e.1 e.2)) P
def Xa (P Q:List Pt):Bool:=if HM (ik P Q)=true then
  ((ik P Q).all λz=>((q_ P).all λf=>decide (0<=fv z.1 z.2 1 f)) && (q_ Q).all λf=>decide (0<=fv z.1 z.2 1 f)) && ((q_ (ik P Q)).all λf=>(q_ P).any (par f) || (q_ Q).any (par f)) && decide ((ik P Q).length<=10) && (ik P Q).all λa=>decide ((0<=a.1/\a.1<=24)/\0<=a.2/\a.2<=24)
 else ((q_ P).any λf=>Q.all λz=>decide (fv z.1 z.2 1 f<=0)) || (q_ Q).any λf=>P.all λz=>decide (fv z.1 z.2 1 f<=0)
theorem Aw:∀P∈rL,∀Q∈rL,Xa P Q=true:=by decide +kernel
theorem Uy (c:bB P) (k:au P a b):(l7 a b).1≠0\/(l7 a b).2.1≠0:=by
 have ne:=c.ne k;unfold l7;dsimp only;by_cases e:b.2=a.2
 ·exact .inr λz=>ne (lQ (by lia) e.symm)
 ·exact .inl (by lia)
theorem Kb (cK:bB K) (cP:bB P) (hz:∀z∈K,∀f∈q_ P,0<=fv z.1 z.2 1 f) (n:0<N):(jh 1 K I J N->jh 1 P I J N)/\(fg 1 K I J N->fg 1 P I J N):=by
 have w:∀{a b:Pt},au P a b->∀z∈K,-(l7 a b).1*z.1 + -(l7 a b).2.1*z.2 + -(l7 a b).2.2*1<=0:=λc z mz=>by
  have:=hz z mz _ (Rg c);unfold fv at this;grind
 constructor <;> intro i a b c <;> rw[xF]
 ·have:=LH cK (by decide) (w c) (cR n) i;unfold fv;grind
 ·have:=uV cK (by decide) (by have:=Uy cP c;lia) (w c) n i;unfold fv;grind
theorem Jf (cQ:bB Q) (hf:f∈q_ P) (hz:∀z∈Q,fv z.1 z.2 1 f<=0) (n:0<N) (i:fg 1 P I J N) (j:fg 1 Q I J N):False:=by
 obtain⟨a,b,c,rfl⟩:=Gq hf;have h1:=i a b c;rw[xF] at h1;have h2:=LH (α:=(l7 a b).1) (β:=(l7 a b).2.1) (γ:=(l7 a b).2.2) cQ (by decide) (λz mz=>by have:=hz z mz;unfold fv at this;exact this) (cR n) (λx y k=>cR (j x y k));unfold fv at h1;lia
structure ot (P Q:List Pt):Prop where
 cvx:bB (ik P Q)
 len:(ik P Q).length<=10
 gin:x9 (ik P Q)
 reg:∀I J N,0<N->(jh 1 (ik P Q) I J N↔jh 1 P I J N/\jh 1 Q I J N)/\(fg 1 (ik P Q) I J N↔fg 1 P I J N/\fg 1 Q I J N)
theorem MG (hP:P∈rL) (hQ:Q∈rL) (hc:HM (ik P Q)=true):ot P Q:=by
 have ck:=Aw P hP Q hQ;unfold Xa at ck;rw[if_pos hc] at ck;simp only[gS,decide_eq_true_eq,kA] at ck;obtain⟨⟨⟨k1,k2⟩,k3⟩,k4⟩:=ck;have c:=Ih hc;refine⟨c,k3,k4,λI J N n=>?_⟩;have sP:=Kb (I:=I) (J:=J) c (rM P hP) (λz hz f hf=>(k1 z hz).1 f hf) n;have sQ:=Kb (I:=I) (J:=J) c (rM Q hQ) (λz hz f hf=>(k1 z hz).2 f hf) n;have back:∀a b,au (ik P Q) a b->∃x y,(au P x y\/au Q x y)/\par (l7 a b) (l7 x y)=true:=λa b k=>by
  rcases (tV _ _).mp (k2 _ (Rg k)) with z | z
  ·obtain⟨g,hg,pg⟩:=pU.mp z;obtain⟨x,y,cc,rfl⟩:=Gq hg;exact⟨x,y,.inl cc,pg⟩
  ·obtain⟨g,hg,pg⟩:=pU.mp z;obtain⟨x,y,cc,rfl⟩:=Gq hg;exact⟨x,y,.inr cc,pg⟩
 refine⟨⟨λi=>⟨sP.1 i,sQ.1 i⟩,λ⟨i,j⟩ a b k=>?_⟩,⟨λi=>⟨sP.2 i,sQ.2 i⟩,λ⟨i,j⟩ a b k=>?_⟩⟩
 ·obtain⟨x,y,cc,pg⟩:=back a b k;have s:=(Jj pg I J N).2;rw[xF];have:0<=fv I J N (l7 x y):=by
   rw[<-xF];rcases cc with cc | cc
   ·exact i x y cc
   ·exact j x y cc
  lia
 ·obtain⟨x,y,cc,pg⟩:=back a b k;rw[xF];refine (Jj pg I J N).1.mpr ?_;rw[<-xF];rcases cc with cc | cc
  ·exact i x y cc
  ·exact j x y cc
theorem Nv (hP:P∈rL) (hQ:Q∈rL) (hc:HM (ik P Q)=false) (n:0<N) (i:fg 1 P I J N) (j:fg 1 Q I J N):False:=by
 have ck:=Aw P hP Q hQ;unfold Xa at ck;rw[if_neg (by rw[hc];decide)] at ck;rcases (tV _ _).mp ck with z | z
 ·obtain⟨f,hf,k⟩:=pU.mp z;exact Jf (rM Q hQ) hf (λz hz=>of_decide_eq_true (kA.mp k z hz)) n i j
 ·obtain⟨f,hf,k⟩:=pU.mp z;exact Jf (rM P hP) hf (λz hz=>of_decide_eq_true (kA.mp k z hz)) n j i
theorem Au (f:Fm s h) (C:ot P Q):∃sh zs,Gp s h (ik P Q) sh zs/\e_ sh zs:=by
 obtain⟨sh,zs,T⟩:=Kc f.ep (A:=(ik P Q).map (n6 s h)) (λk=>by have:=C.cvx.len;rw[FF.mp k] at this;simp at this);exact⟨sh,zs,T,Ai f.ep T (YD f.sp f.hp C.cvx)⟩
theorem At (f:Fm s h) (hP:P∈rL) (hQ:Q∈rL) (hc:HM (ik P Q)=true) (g1:Gp s h P s1 c1) (g2:Gp s h Q s2 c2):∃X Y W,0<W/\fg s1 c1 X Y W/\fg s2 c2 X Y W:=by
 have C:=MG hP hQ hc;obtain⟨sh,zs,g,ip⟩:=Au f C;obtain⟨X,Y,W,w,i⟩:=L2.R2.inner ip;obtain⟨I,J,N,sp⟩:=Ad (X:=X) (Y:=Y) f w;obtain⟨i1,i2⟩:=(C.reg I J N sp.n).2.mp ((JX f g sp).2.mp i);exact⟨X,Y,W,w,(JX f g1 sp).2.mpr i1,(JX f g2 sp).2.mpr i2⟩
theorem Nx (f:Fm s h) (hP:P∈rL) (hQ:Q∈rL) (g1:Gp s h P s1 c1) (g2:Gp s h Q s2 c2) (R:Zv s1 c1 s2 c2 d) :
  (HM (ik P Q)=true/\∃sh zs,d=pc sh zs/\Gp s h (ik P Q) sh zs)\/(HM (ik P Q)=false/\d = .non):=by
 cases hc:HM (ik P Q) with
 | true =>
  refine .inl ⟨rfl,?_⟩;rcases R with ⟨_,no⟩ | ⟨sh,zs,rfl,C⟩
  ·obtain⟨X,Y,W,w,i,j⟩:=At f hP hQ hc g1 g2;exact (no X Y W w i j).elim
  ·have K:=MG hP hQ hc;obtain⟨df,sf,g,ip⟩:=Au f K;have both:∀X Y W,0<W->(jh sh zs X Y W↔jh df sf X Y W):=λX Y W w=>by
    obtain⟨I,J,N,sp⟩:=Ad (X:=X) (Y:=Y) f w;rw[C.closed X Y W (cR w),(JX f g1 sp).1,(JX f g2 sp).1,(JX f g sp).1,(K.reg I J N sp.n).1]
   obtain⟨rfl,rfl⟩:=Ma C.ip ip (λq hq=>(both _ _ _ ip.pos).mpr (L2.R2.corner_in ip hq)) λq hq=>(both _ _ _ C.ip.pos).mp (L2.R2.corner_in C.ip hq);exact⟨_,_,rfl,g⟩
 | false =>
  refine .inr ⟨rfl,?_⟩;rcases R with ⟨rfl,_⟩ | ⟨sh,zs,rfl,C⟩
  ·rfl
  ·exfalso;obtain⟨X,Y,W,w,i⟩:=L2.R2.inner C.ip;obtain⟨i1,i2⟩:=(C.opened X Y W w).mp i;obtain⟨I,J,N,sp⟩:=Ad (X:=X) (Y:=Y) f w;exact Nv hP hQ hc sp.n ((JX f g1 sp).2.mp i1) ((JX f g2 sp).2.mp i2)
end
end K41
namespace K36
open K34 K33
section
variable {s h lh dn:Pt} {t X Y W I J N:Int}
theorem Wz (mf:o_ m) (bX:BL 400 X) (bY:BL 400 Y) (bW:BL 400 W):BL 4000 ((m.1*X*m.2.1.2+m.2.1.1*W)*m.2.2.2)/\BL 4000 ((m.1*Y*m.2.2.2+m.2.2.1*W)*m.2.1.2)/\BL 4000 (W*m.2.1.2*m.2.2.2):=by
 have bs:BL 2 m.1:=by have:=mf.sg;exact BL.of_lt (m:=2) (by lia) (by lia)
 exact⟨(((((bs.mul bX).mul mf.bq).add (mf.bp.mul bW)).mul mf.bv)).mono,(((((bs.mul bY).mul mf.bv).add (mf.bu.mul bW)).mul mf.bq)).mono,((bW.mul mf.bq).mul mf.bv).mono⟩
end
theorem Yk {α:Type} {l:List α} (h:l.length=1):∃x,l=[x]:=by
 match l,h with
 | [x],_=>exact⟨x,rfl⟩
def Vw {s h:Pt} {A P:List Pt} (f:Fm s h) (hP:P∈rL) (h0:0<share) (h1:BL 100 share) (hA:A.length<=10) (eq:A.map (scl (eF s h))=(P.map (n6 s h)).map (scl share)) (q:∀sh zs,Gp s h P sh zs->Q (pc sh zs)):VQ [.int share,ja A] Q:=by
 have cP:=rM P hP;have cA:=YD f.sp f.hp cP (lo:=s.1*h.2);have nP:(P.map (n6 s h)).Nodup:=cA.nodup;have n1:((P.map (n6 s h)).map (scl share)).Nodup:=wP (scl share) (λa b hn k=>hn (LF h0 k)) nP;have nA:A.Nodup:=by
  rw[<-eq] at n1;exact BV (scl (eF s h)) (λa b hn k=>hn (by rw[k])) n1
 have l3:3<=A.length:=by
  have l:=congrArg fM eq;have:=cP.len;simp at l;lia
 refine⟨share,A,rfl,⟨h0,h1⟩,⟨by rintro rfl;simp at l3,by lia⟩,λm sh zs j d=>?_⟩;exact q _ _ (Vf (Ot d) h0 f.ep (λk=>by have:=cA.len;rw[k] at this;simp at this) eq nA)
def IJ:FD:=λds Q=>∃(s h:Pt) (w:Int),ds=[pt s,pt h,.int w]/\(Fm s h/\0<=w/\w<4)/\∀L:List (List Pt × Int × List Pt),L.map (·.1)=ED w->(∀p∈L,Gp s h p.1 p.2.1 p.2.2)->Q (.lst (L.map λp=>pc p.2.1 p.2.2))
def Dj:∀ds Q,IJ ds Q->AT VQ { nx:=λ_=>Q .non,rt:=Q } (eD ["_law_s","_law_h","_law_way","_law_share","_law_low","_law_high","_law_one","_law_two","_law_three","_law_four","_law_amid","_law_first"] ds):=by
 rintro ds Q ⟨s,h,w,rfl,⟨f,w0,w4⟩,q⟩;have sp:=f.sp;have bS:BL 90 (s.2*h.2):=(f.ls.bot.mul f.b2).mono;have bl:BL 90 (s.1*h.2):=(f.ls.top.mul f.b2).mono;have bh:BL 90 (h.1*s.2):=(f.b1.mul f.ls.bot).mono;have qo:∀{P A:List Pt} {R:D->Prop},P∈rL->A.length<=10->A.map (scl (eF s h))=(P.map (n6 s h)).map (scl (s.2*h.2))->(∀sh zs,Gp s h P sh zs->R (pc sh zs))->VQ [.int (s.2*h.2),ja A] R:=λhP hA e q=>Vw f hP sp (bS.mono) hA e q;have yi:∀{P A:List Pt} {R:D->Prop},P∈rL->A.length<=10->A.map (scl (eF s h))=(P.map (n6 s h)).map (scl (3*(s.2*h.2)))->(∀sh zs,Gp s h P sh zs->R (pc sh zs))->VQ [.int (3*(s.2*h.2)),ja A] R:=λhP hA e q=>Vw f hP (by lia) (((BL.const (n:=3) (i:=3) (by decide)).mul bS).mono) hA e q;rw[cS 9 rfl];unfold AT;simp only[jB,G0,aQ,cB,aW,bC];refine cE (λa=>a=[aa (pt s),aa (pt h),aa (.int w),aa (.int (s.2*h.2)),none,none,none,none,none,none,none,none]) (λK hK=>?_) ?_
 ·walk_at "rd";exact⟨f.ls.bot.mulOk f.b2,hK _ rfl⟩
 rintro a rfl;refine cE (λa=>a=[aa (pt s),aa (pt h),aa (.int w),aa (.int (s.2*h.2)),aa (.int (s.1*h.2)),none,none,none,none,none,none,none]) (λK hK=>?_) ?_
 ·walk_at "rd";exact⟨f.ls.top.mulOk f.b2,hK _ rfl⟩
 rintro a rfl;refine cE (λa=>a=[aa (pt s),aa (pt h),aa (.int w),aa (.int (s.2*h.2)),aa (.int (s.1*h.2)),aa (.int (h.1*s.2)),none,none,none,none,none,none]) (λK hK=>?_) ?_
 ·walk_at "rd";exact⟨f.b1.mulOk f.ls.bot,hK _ rfl⟩
 rintro a rfl;have eE:eF s h=24*(s.2*h.2):=rfl;have eA:∀z,n6 s h z=(z.1*(s.2*h.2),z.1*(s.1*h.2)+z.2*(h.1*s.2)):=λ_=>rfl;generalize hS:s.2*h.2=A at *;generalize hL:s.1*h.2=B at *;generalize hH:h.1*s.2=C at *;have cw:w=0\/w=1\/w=2\/w=3:=by lia
 refine cE (λa=>w=3/\a=[aa (pt s),aa (pt h),aa (.int w),aa (.int A),aa (.int B),aa (.int C),none,none,none,none,none,none]) (λK hK=>?_) ?_
 ·rcases cw with rfl | rfl | rfl | rfl
  ·walk_at "rd";rw[if_pos (by decide)];refine qo (P:=[(0,0),(24,0),(24,24),(0,24)]) (A:=[(0,0),(A,B),(A,B+C),(0,C)]) (by decide) (by simp) ?_ λsh zs g=>?_
   ·simp only[aQ,cB,eA,eE,scl];simp only[fY,fF,and_true];refine⟨⟨?_,?_⟩,⟨?_,?_⟩,⟨?_,?_⟩,?_,?_⟩ <;> grind
   ·exact q [(_,sh,zs)] rfl (by simpa using g)
  ·walk_at "rd";rw[if_pos (by decide),if_neg (by decide)];refine qo (P:=[(0,0),(24,0),(24,24)]) (A:=[(0,0),(A,B),(A,B+C)]) (by decide) (by simp) ?_ λsh zs g=>?_
   ·simp only[aQ,cB,eA,eE,scl];simp only[fY,fF,and_true];refine⟨⟨?_,?_⟩,⟨?_,?_⟩,?_,?_⟩ <;> grind
   refine qo (P:=[(0,0),(24,24),(0,24)]) (A:=[(0,0),(A,B+C),(0,C)]) (by decide) (by simp) ?_ λoq va g2=>?_
   ·simp only[aQ,cB,eA,eE,scl];simp only[fY,fF,and_true];refine⟨⟨?_,?_⟩,⟨?_,?_⟩,?_,?_⟩ <;> grind
   ·exact q [(_,sh,zs),(_,oq,va)] rfl (by simpa using ⟨g,g2⟩)
  ·walk_at "rd";rw[if_pos (by decide),if_neg (by decide),if_neg (by decide)];refine qo (P:=[(0,0),(24,0),(0,24)]) (A:=[(0,0),(A,B),(0,C)]) (by decide) (by simp) ?_ λsh zs g=>?_
   ·simp only[aQ,cB,eA,eE,scl];simp only[fY,fF,and_true];refine⟨⟨?_,?_⟩,⟨?_,?_⟩,?_,?_⟩ <;> grind
   refine qo (P:=[(24,0),(24,24),(0,24)]) (A:=[(A,B),(A,B+C),(0,C)]) (by decide) (by simp) ?_ λoq va g2=>?_
   ·simp only[aQ,cB,eA,eE,scl];simp only[fY,fF,and_true];refine⟨⟨?_,?_⟩,⟨?_,?_⟩,?_,?_⟩ <;> grind
   ·exact q [(_,sh,zs),(_,oq,va)] rfl (by simpa using ⟨g,g2⟩)
  ·walk_at "rd";rw[if_neg (by decide)];exact hK _ ⟨rfl,rfl⟩
 rintro a ⟨rfl,rfl⟩;refine cE (λa=>a=[aa (pt s),aa (pt h),aa (.int 3),aa (.int A),aa (.int B),aa (.int C),none,none,none,none,aa (.lst [pt (A,B),pt (A,B+3*C)]),none]) (λK hK=>?_) ?_
 ·walk_at "rd";exact⟨(BL.const (n:=3) (i:=3) (by decide)).mulOk bh,hK _ rfl⟩
 rintro a rfl;refine cE (λa=>∃sh zs,Gp s h [(0,0),(8,0),(8,24),(0,24)] sh zs/\a=[aa (pt s),aa (pt h),aa (.int 3),aa (.int A),aa (.int B),aa (.int C),none,none,none,none,aa (.lst [pt (A,B),pt (A,B+3*C)]),aa (pc sh zs)]) (λK hK=>?_) ?_
 ·walk_at "rd";refine⟨(BL.const (n:=3) (i:=3) (by decide)).mulOk bS,(BL.const (n:=3) (i:=3) (by decide)).mulOk bh,?_⟩;refine yi (P:=[(0,0),(8,0),(8,24),(0,24)]) (A:=[(0,0),(A,B),(A,B+3*C),(0,3*C)]) (by decide) (by simp) ?_ λsh zs g=>hK _ ⟨sh,zs,g,rfl⟩;simp only[aQ,cB,eA,eE,scl];simp only[fY,fF,and_true];refine⟨⟨?_,?_⟩,⟨?_,?_⟩,⟨?_,?_⟩,?_,?_⟩ <;> grind
 rintro a ⟨sh,zs,g,rfl⟩;generalize Y7:pc sh zs=PD;walk_at "rd";refine⟨(BL.const (n:=3) (i:=3) (by decide)).mulOk bS,(BL.const (n:=3) (i:=3) (by decide)).mulOk bS,(BL.const (n:=3) (i:=3) (by decide)).mulOk bl,(BL.const (n:=3) (i:=3) (by decide)).mulOk bS,(BL.const (n:=3) (i:=3) (by decide)).mulOk bl,(BL.const (n:=3) (i:=3) (by decide)).mulOk bh,?_⟩;refine yi (P:=[(8,0),(24,0),(24,24),(8,24)]) (A:=[(A,B),(3*A,3*B),(3*A,3*B+3*C),(A,B+3*C)]) (by decide) (by simp) ?_ λoq va g2=>?_
 ·simp only[aQ,cB,eA,eE,scl];simp only[fY,fF,and_true];refine⟨⟨?_,?_⟩,⟨?_,?_⟩,⟨?_,?_⟩,?_,?_⟩ <;> grind
 ·rw[<-Y7];exact q [(_,sh,zs),(_,oq,va)] rfl (by simpa using ⟨g,g2⟩)
def IL:FD:=λds Q=>∃n:Int,ds=[.int n]/\BL 210 n/\∀m:Mv,o_ m->(BL 210 m.2.1.1/\BL 3 m.2.1.2/\BL 210 m.2.2.1/\BL 3 m.2.2.2)->Q (p9 m)
def Dp:∀ds Q,IL ds Q->DX Hs { nx:=λ_=>Q .non,rt:=Q } (eD ["_law_number","_law_far","_law_dx","_law_dy"] ds):=by
 rintro ds Q ⟨n,rfl,bn,q⟩;rw[cS 3 rfl];unfold DX;simp only[jB,Ml,aQ,cB,aW,bC];refine cE (λd=>∃f:Int,(0<=f/\BL 200 f)/\d=[aa (.int n),aa (.int f),none,none]) (λK hK=>?_) ?_
 ·walk_at "rd";obtain⟨a0,a1⟩:=gB (a:=n.fdiv 2) (b:=2) (by decide);refine⟨TB,(BL.const (n:=9000) (by decide)).divOk (by decide),oC,?_⟩;refine YM a0 (by simpa using a1) λx hx=>?_;obtain⟨f,rfl,f0,f1⟩:=B4 hx;exact hK _ ⟨f,⟨f0,f1⟩,rfl⟩
 rintro d ⟨f,⟨f0,f1⟩,rfl⟩;have fp:(2*f+1)≠0:=by lia
 refine cE (λd=>∃x:Pt,(0<x.2/\BL 210 x.1/\BL 3 x.2/\bR x.1 x.2=1)/\d=[aa (.int n),aa (.int f),aa (pt x),none]) (λK hK=>?_) ?_
 ·walk_at "rd";obtain⟨a0,a1⟩:=gB (a:=n*48271) (b:=1000000007) (by decide);obtain⟨b0,b1⟩:=gB (a:=n.fdiv 4) (b:=4) (by decide);obtain⟨c0,c1⟩:=gB (a:=(n*48271).fmod 1000000007*69621) (b:=2*f+1) (by lia);refine⟨bn.mulOk (BL.const (n:=20)),oC,(BL.of_lt (m:=40) (by lia) (by lia)).mulOk (BL.const (n:=20)),(BL.const (n:=20)).mulOk f1,⟨fp⟩,(BL.const (n:=9000) (by decide)).divOk (by decide),oC,?_⟩;have bq:BL 3 (1+(n.fdiv 4).fmod 4):=BL.of_lt (m:=3) (by lia) (by lia);refine⟨_,_,rfl,⟨by lia,bq.mono⟩,λp q' l=>hK _ ⟨(p,q'),⟨l.pos,(Vy f0 f1 c0 c1).le l.lea,bq.le l.leb,l.cop⟩,rfl⟩⟩
 rintro d ⟨x,hx,rfl⟩;refine cE (λd=>∃y:Pt,(0<y.2/\BL 210 y.1/\BL 3 y.2/\bR y.1 y.2=1)/\d=[aa (.int n),aa (.int f),aa (pt x),aa (pt y)]) (λK hK=>?_) ?_
 ·walk_at "rd";obtain⟨b0,b1⟩:=gB (a:=n.fdiv 16) (b:=3) (by decide);obtain⟨c0,c1⟩:=gB (a:=n) (b:=2*f+1) (by lia);refine⟨(BL.const (n:=20)).mulOk f1,⟨fp⟩,(BL.const (n:=9000) (by decide)).divOk (by decide),oC,?_⟩;have bq:BL 3 (1+(n.fdiv 16).fmod 3):=BL.of_lt (m:=3) (by lia) (by lia);refine⟨_,_,rfl,⟨by lia,bq.mono⟩,λp q' l=>hK _ ⟨(p,q'),⟨l.pos,(Vy f0 f1 c0 c1).le l.lea,bq.le l.leb,l.cop⟩,rfl⟩⟩
 rintro d ⟨y,hy,rfl⟩;walk_at "rd";obtain⟨b0,b1⟩:=gB (a:=n) (b:=2) (by decide);obtain⟨x1,x2,x3,x4⟩:=hx;obtain⟨y1,y2,y3,y4⟩:=hy;exact⟨oC,(BL.const (n:=20)).mulOk (BL.of_lt (m:=20) (by lia) (by lia)),q (_,x,y) ⟨by dsimp only;lia,x1,y1,x4,y4,x2.mono,x3.mono,y2.mono,y3.mono⟩ ⟨x2,x3,y2,y3⟩⟩
def Iu {α:Type} {f:α->D} {xs:List α} (h:∀x∈xs,fi n (f x) (f x)=some true):jt (fi n) (xs.map f) (xs.map f)=some true :=
 vX _ λx hx=>by
  obtain⟨y,hy,rfl⟩:=bJ.mp hx;exact h y hy
def B3 (b:Bt):fi 7 (d_ b) (d_ b)=some true:=by
 show jt (fi 6) _ _=_;refine vX _ λx hx=>?_;simp only[aN,gH,or_false] at hx;rcases hx with rfl | rfl
 ·show jt (fi 5) _ _=_;refine vX _ λx hx=>?_;simp only[aN,gH,or_false] at hx;rcases hx with rfl | rfl
  ·exact YV 4 _
  ·show jt (fi 4) _ _=_;exact Iu λz _=>YX 2 z
 ·show jt (fi 5) _ _=_;refine vX _ λx hx=>?_;simp only[aN,gH,or_false] at hx;rcases hx with rfl | rfl | rfl
  ·exact YV 4 _
  ·exact YX 3 _
  ·exact YX 3 _
def Yd {s h:Pt} (ls:nq s) (l:rh a b h.1 h.2) (ha:0<a) (hb:0<b) (ba:BL 10 a) (bb:BL 10 b):Fm s h:=by
 refine⟨ls,?_,ba.le l.lea,l.pos,bb.le l.leb⟩;have w:=l.worth;have:=aS ha l.pos;rw[<-w,iY] at this;exact wA hb this
end K36
namespace K37
open K36 K34 K33
def sw (sh:Int) (c:Int):Rat:=(c:Rat) / ((sh:Rat)*(sh:Rat))
def xR {s:Int} (h:0<s):(s:Rat)≠0:=by
 intro k;have:(s:Rat)=((0:Int):Rat):=by rw[k];rfl
 have:=OS.mp this;lia
structure Hh (h:Pt):Prop where
 h1:0<h.1
 h2:0<h.2
 b1:BL 10 h.1
 b2:BL 10 h.2
structure Pz (h:Pt) (sh:Int) (cs:List Pt):Prop where
 ip:e_ sh cs
 bs:BL 40 sh
 bz:∀z∈cs,BL 70 z.1/\BL 70 z.2
 len:cs.length<=10
 rows:∀z∈cs,-26*h.1*sh<=h.2*z.2/\h.2*z.2<=27*h.1*sh
abbrev Lb:=Int × List Pt × Mv
def jg (b:Lb):D:=.tup [pc b.1 b.2.1,p9 b.2.2]
structure LvF (h:Pt) (df:Int) (qm:List Pt) (m:Mv) (L:Int) (b:Lb):Prop where
 ip:e_ b.1 b.2.1
 closed:∀X Y W,0<=W->(jh b.1 b.2.1 X Y W↔jh df qm (X*h.2) (Y*h.2+L*h.1*W) (W*h.2)/\0<=Y/\h.2*Y<=h.1*W)
 opened:∀X Y W,0<W->(fg b.1 b.2.1 X Y W↔fg df qm (X*h.2) (Y*h.2+L*h.1*W) (W*h.2)/\0<Y/\h.2*Y<h.1*W)
 sg:b.2.2.1=m.1
 x:b.2.2.2.1.1*m.2.1.2=m.2.1.1*b.2.2.2.1.2
 y:b.2.2.2.2.1*(h.2*m.2.2.2)=(m.1*(L*h.1)*m.2.2.2+m.2.2.1*h.2)*b.2.2.2.2.2
 mf:o_ b.2.2
 bs:BL 1400 b.1
 bz:∀z∈b.2.1,BL 3300 z.1/\BL 3300 z.2
 len:b.2.1.length<=14
def rn (b:Lb):Rat:=sw b.1 (nB dz b.2.1)
def pr:List Lb->Rat
 | []=>0
 | b::l=>rn b+pr l
theorem Ap:∀(l:List Lb) (b:Lb),pr (l++[b])=pr l+rn b
 | [],b=>by show rn b+0=0+rn b;grind
 | a::l,b=>by show rn a+pr (l++[b])=rn a+pr l+rn b;rw[Ap l b];grind
structure W7 (h:Pt) (df:Int) (qm:List Pt) (m:Mv) (L0:Int) (bs:List Lb):Prop where
 each:∀(i:Nat) (b:Lb),bs[i]? = some b->LvF h df qm m (L0+i) b
 lo:∀z∈qm,L0*h.1*df<=h.2*z.2
 hi:∀z∈qm,h.2*z.2<=(L0+bs.length)*h.1*df
 area:pr bs=sw df (nB dz qm)
 len:bs.length<=60
 ne:0<bs.length
def Zw:FD:=λds Q=>∃(h:Pt) (df:Int) (qm:List Pt) (m:Mv),ds=[.tup [pc df qm,p9 m],pt h]/\(Hh h/\Pz h df qm)/\(o_ m/\BL 210 m.2.1.1/\BL 210 m.2.1.2/\BL 210 m.2.2.1/\BL 210 m.2.2.2)/\∀L0 bs,W7 h df qm m L0 bs->Q (.lst (bs.map jg))
inductive qk (h:Pt):List Bt->List (Int × List Lb)->Prop
 | nil:qk h [] []
 | cons {b:Bt} {bs:List Bt} {L0:Int} {ls:List Lb} {us:List (Int × List Lb)}:W7 h b.2.1 b.2.2.1 b.2.2.2 L0 ls->qk h bs us->qk h (b::bs) ((L0,ls)::us)
theorem qk.snoc {bs:List Bt} (U:qk h bs us) (s:W7 h b.2.1 b.2.2.1 b.2.2.2 L0 ls):qk h (bs++[b]) (us++[(L0,ls)]):=by
 induction U with
 | nil=>exact .cons s .nil
 | cons a _ ih=>exact .cons a ih
abbrev YZ (us:List (Int × List Lb)):List Lb:=us.flatMap (·.2)
structure rf (h:Pt) (b:Bt):Prop where
 pz:Pz h b.2.1 b.2.2.1
 mf:o_ b.2.2.2
 bp:BL 210 b.2.2.2.2.1.1
 bq:BL 210 b.2.2.2.2.1.2
 bu:BL 210 b.2.2.2.2.2.1
 bv:BL 210 b.2.2.2.2.2.2
theorem qk.len {bs:List Bt} (U:qk h bs us):(YZ us).length<=60*bs.length:=by
 induction U with
 | nil=>simp[YZ]
 | @cons b bs L0 ls us a _ ih =>
  have:=a.len;show ((ls++YZ us).length)<=60*(bs.length+1);rw[dA];lia
def Zy:FD:=λds Q=>∃(h:Pt) (place:Int) (fs:List Pt) (bs:List Bt),ds=[.tup [.int place,pt h,.lst (bs.map d_)],ja fs]/\(Hh h/\bs.length<=4/\∀b∈bs,rf h b)/\∀us,qk h bs us->Q (.tup [pt h,.lst ((YZ us).map jg)])
def E4:∀ds Q,Zy ds Q->LC Zw { nx:=λ_=>False,rt:=Q } (eD ["box","leans","bits","bit"] ds):=by
 rintro ds Q ⟨h,place,fs,bs,rfl,⟨H,lb,hb⟩,q⟩;rw[cS 2 rfl];unfold LC;simp only[jB,Ur,aQ,cB,aW,bC];generalize hF:ja fs=FS;refine Jy (λa=>a=[aa (.tup [.int place,pt h,.lst (bs.map d_)]),aa FS,some (.own []),none]) (λK hK=>?_) ?_
 ·walk_at "rd";exact hK _ rfl
 rintro a rfl;refine Jy (λa=>∃us u,qk h bs us/\a=[aa (.tup [.int place,pt h,.lst (bs.map d_)]),aa FS,some (.own ((YZ us).map jg)),u]) (λK hK=>?_) ?_
 ·simp only[oD,riL,r2,aL,rC,CM,aE];refine kU (λys a=>∃(dn td:List Bt) (us:List (Int × List Lb)) (u:Option L2.R2.S),bs=dn++td/\ys=td.map d_/\qk h dn us/\a=[aa (.tup [.int place,pt h,.lst (bs.map d_)]),aa FS,some (.own ((YZ us).map jg)),u]) ?_ ?_ _ _ ⟨[],bs,[],none,rfl,rfl,.nil,rfl⟩
  ·rintro y ys a ⟨dn,td,us,u,ec,ey,U,rfl⟩ F hr um hn _;cases td with
   | nil=>cases ey
   | cons b td =>
    cases ey;have mb:b∈bs:=(by rw[ec];simp);obtain⟨pz,mf,b1,b2,b3,b4⟩:=hb b mb;have ld:dn.length+1<=4:=(by have:=congrArg fM ec;simp at this;lia);have lu:=U.len;unfold AZ;simp only[dC,TH,cZ,aD,aZ,r2,cG,aL,rC,nQ,aE,aI,aR,aX];refine⟨h,b.2.1,b.2.2.1,b.2.2.2,rfl,⟨H,pz⟩,⟨mf,b1,b2,b3,b4⟩,λL0 ls s=>?_⟩;have:=s.len;refine⟨mF (by rw[bV,bV];lia),hn _ ⟨dn++[b],td,us++[(L0,ls)],aa (d_ b),by rw[ec];simp,rfl,U.snoc s,?_⟩⟩;have:YZ (us++[(L0,ls)])=YZ us++ls:=(by unfold YZ;rw[FE];simp);rw[this,dI]
  ·rintro a ⟨dn,td,us,u,ec,ey,U,rfl⟩;have:td=[]:=(by simpa using ey.symm);subst this;rw[eJ] at ec;subst ec;exact hK _ ⟨us,u,U,rfl⟩
 rintro a ⟨us,u,U,rfl⟩;simp only[B5,aE,aI,aR,aX,gM,mR,aD,aZ,Zh,r2,aL,rC,rFr,nQ,true_and,bH,eK];exact⟨Yg,sz2,q us U⟩
structure t_ (b:Lb):Prop where
 ip:e_ b.1 b.2.1
 bs:BL 1400 b.1
 bz:∀z∈b.2.1,BL 3300 z.1/\BL 3300 z.2
 len:b.2.1.length<=14
 mf:o_ b.2.2
def QF:FD:=λds Q=>∃b:Lb,ds=[jg b]/\t_ b/\Q (.bl true)
def Do:∀ds Q,QF ds Q->DU Eu Nf IN { nx:=λ_=>Q .non,rt:=Q } (eD ["_law_bit","_law_move_here"] ds):=by
 rintro ds Q ⟨⟨sh,zs,sg,x,y⟩,rfl,⟨ip,bs,bz,len,mf⟩,q⟩;rw[cS 1 rfl];unfold DU jg p9;simp only[jB,Dw,aQ,cB,aW,bC];generalize hP:pc sh zs=PD;refine cE (λa=>a=[aa (.tup [PD,.tup [.int sg,pt x,pt y]]),none]) (λK hK=>?_) ?_
 ·walk_at "rd";refine⟨sh,zs,by rw[hP],ip,λz hz=>⟨(bz z hz).1.mono,(bz z hz).2.mono⟩,by dsimp only at len;lia,?_⟩;walk_at "rd";exact hK _ rfl
 rintro a rfl;refine cE (λa=>a=[aa (.tup [PD,.tup [.int sg,pt x,pt y]]),aa (.tup [.int sg,pt x,pt y])]) (λK hK=>?_) ?_
 ·walk_at "rd";exact hK _ rfl
 rintro a rfl;refine cE (λa=>a=[aa (.tup [PD,.tup [.int sg,pt x,pt y]]),aa (.tup [.int sg,pt x,pt y])]) (λK hK=>?_) ?_
 ·walk_at "rd";refine⟨sg,rfl,?_⟩;walk_at "rd";have:(if sg<0 then -sg else sg)=1:=by have:=mf.sg;dsimp only at this;split <;> lia
  simp only[this,decide_true,fU,aO,if_false];exact hK _ rfl
 rintro a rfl;walk_at "rd";refine⟨x,rfl,⟨mf.q0,mf.cx⟩,?_⟩;walk_at "rd";exact⟨y,rfl,⟨mf.v0,mf.cy⟩,q⟩
def XW:FD:=λds Q=>∃L:List Lb,ds=[.lst (L.map jg)]/\(∀b∈L,t_ b)/\Q (.bl true)
def Gw:∀ds Q,XW ds Q->KZ QF { nx:=λ_=>Q .non,rt:=Q } (eD ["_law_bits_here","_law_bit"] ds):=by
 rintro ds Q ⟨L,rfl,hL,q⟩;rw[cS 1 rfl];unfold KZ;simp only[jB,Dw,aQ,cB,aW,bC];have il':Gb "list" (.lst (L.map jg))=some true:=rfl;refine cE (λa=>a=[aa (.lst (L.map jg)),none]) (λK hK=>?_) ?_
 ·walk_at "rd";simp only[il'];walk_at "rd";exact hK _ rfl
 rintro a rfl;refine cE (λa=>∃u,a=[aa (.lst (L.map jg)),u]) (λK hK=>?_) ?_
 ·simp only[oD,riL,cG,aE];refine kU (λys a=>∃(dn td:List Lb) (u:Option L2.R2.S),L=dn++td/\ys=td.map jg/\a=[aa (.lst (L.map jg)),u]) ?_ ?_ _ _ ⟨[],L,none,rfl,rfl,rfl⟩
  ·rintro y ys a ⟨dn,td,u,ec,ey,rfl⟩ F hr um hn _;cases td with
   | nil=>cases ey
   | cons b td =>
    cases ey;unfold AS;walk_at "rd";refine⟨b,rfl,hL b (by rw[ec];simp),?_⟩;walk_at "rd";exact hn _ ⟨dn++[b],td,aa (jg b),by rw[ec];simp,rfl,rfl⟩
  ·rintro a ⟨dn,td,u,ec,ey,rfl⟩;exact hK _ ⟨u,rfl⟩
 rintro a ⟨u,rfl⟩;walk_at "rd";exact q
def QA:FD:=λds Q=>∃a b c d:Int,ds=[.tup [.int a,.int b],.tup [.int c,.int d]]/\(BL 3000000 a/\BL 3000000 b/\BL 3000000 c/\BL 3000000 d)/\Q (.tup [.int (a*d+c*b),.int (b*d)])
def Dc:∀ds Q,QA ds Q->tR { nx:=λ_=>Q .non,rt:=Q } (eD ["_law_one","_law_other"] ds):=by
 rintro ds Q ⟨a,b,c,d,rfl,⟨b1,b2,b3,b4⟩,q⟩;rw[cS 0 rfl];unfold tR;walk_at "rd";exact⟨b1.mulOk b4,b3.mulOk b2,b2.mulOk b4,q⟩
def QC:FD:=λds Q=>∃L:List Lb,ds=[.lst (L.map jg)]/\(L.length<=240/\∀b∈L,t_ b)/\∀N M,(BL 2900000 N/\BL 2900000 M)->(0<M/\(N:Rat) / (M:Rat)=pr L)->Q (.tup [.int N,.int M])
def Dg:∀ds Q,QC ds Q->GC QA XV { nx:=λ_=>Q .non,rt:=Q } (eD ["_law_bits_here","_law_total","_law_bit"] ds):=by
 rintro ds Q ⟨L,rfl,⟨lL,hL⟩,q⟩;rw[cS 2 rfl];unfold GC;simp only[jB,Ur,aQ,cB,aW,bC];refine cE (λa=>a=[aa (.lst (L.map jg)),aa (.tup [.int 0,.int 1]),none]) (λK hK=>?_) ?_
 ·walk_at "rd";exact hK _ rfl
 rintro a rfl;refine cE (λa=>∃N M u,((BL 2900000 N/\BL 2900000 M)/\0<M/\(N:Rat) / (M:Rat)=pr L)/\a=[aa (.lst (L.map jg)),aa (.tup [.int N,.int M]),u]) (λK hK=>?_) ?_
 ·simp only[oD,riL,cG,aE];refine kU (λys a=>∃(dn td:List Lb) (N M:Int) (u:Option L2.R2.S),L=dn++td/\ys=td.map jg/\((BL (10000*(dn.length+1)) N/\BL (10000*(dn.length+1)) M)/\0<M/\(N:Rat) / (M:Rat)=pr dn)/\a=[aa (.lst (L.map jg)),aa (.tup [.int N,.int M]),u]) ?_ ?_ _ _ ⟨[],L,0,1,none,rfl,rfl,⟨⟨(BL.const (n:=2) (i:=0) (by decide)).mono,(BL.const (n:=2) (i:=1) (by decide)).mono⟩,by decide,by show ((0:Int):Rat) / ((1:Int):Rat)=0;rw[show ((0:Int):Rat)=0 from rfl];grind⟩,rfl⟩
  ·rintro y ys a ⟨dn,td,N,M,u,ec,ey,⟨⟨bN,bM⟩,mp,eq⟩,rfl⟩ F hr um hn _;cases td with
   | nil=>cases ey
   | cons b td =>
    cases ey;have mb:b∈L:=(by rw[ec];simp);obtain⟨ip,bs,bz,lz,mf⟩:=hL b mb;have l3:=ip.cvx.len;have le:dn.length+1<=240:=(by have:=congrArg fM ec;simp at this;lia);have bc:BL 6700 (nB dz b.2.1):=(Wy (n:=3300) bz).mono (by lia);have X4:BL 2800 (b.1*b.1):=(bs.mul bs).mono;unfold yS jg;simp only[dC,fC,cZ,aD,aZ,r2,aL,cG,rC,sB,aE,aI,aR,aX];refine⟨b.1,b.2.1,rfl,⟨bs.mono,λz hz=>⟨(bz z hz).1.mono,(bz z hz).2.mono⟩,by lia,by lia⟩,?_⟩;refine⟨N,M,nB dz b.2.1,b.1*b.1,rfl,⟨bN.mono (by lia),bM.mono (by lia),bc.mono,X4.mono⟩,?_⟩;refine hn _ ⟨dn++[b],td,_,_,aa (.tup [pc b.1 b.2.1,p9 b.2.2]),by rw[ec];simp,rfl,⟨⟨?_,?_⟩,aS mp (aS ip.pos ip.pos),?_⟩,rfl⟩
    ·exact ((bN.mul X4).add (bc.mul bM)).mono (by rw[dA];simp;lia)
    ·exact (bM.mul X4).mono (by rw[dA];simp;lia)
    ·rw[Ap,<-eq];unfold rn sw;have n1:=xR mp;have n2:=xR ip.pos;simp only[qR,OR];grind
  ·rintro a ⟨dn,td,N,M,u,ec,ey,⟨⟨bN,bM⟩,mp,eq⟩,rfl⟩;have:td=[]:=(by simpa using ey.symm);subst this;rw[eJ] at ec;subst ec;exact hK _ ⟨N,M,u,⟨⟨bN.mono (by lia),bM.mono (by lia)⟩,mp,eq⟩,rfl⟩
 rintro a ⟨N,M,u,⟨bb,mp,eq⟩,rfl⟩;walk_at "rd";exact q N M bb ⟨mp,eq⟩
end K37
namespace K41
open K37 K36 K34 K33
structure Ft (s h:Pt):Prop where
 fm:Fm s h
 a:BL 3 s.1
 b:BL 2 s.2
 c:BL 3 h.1
 d:BL 2 h.2
structure o7 (s h:Pt) (b:Bt):Prop where
 poly:b.1∈rL
 gp:Gp s h b.1 b.2.1 b.2.2.1
 mf:o_ b.2.2.2
 bp:BL 210 b.2.2.2.2.1.1
 bq:BL 3 b.2.2.2.2.1.2
 bu:BL 210 b.2.2.2.2.2.1
 bv:BL 3 b.2.2.2.2.2.2
def Ql:∀P∈rL,P.length<=4:=by decide
section
variable {s h:Pt}
theorem Oz (t:Ft s h) (hP:P∈rL) (g:Gp s h P sh cs):ve sh cs:=by
 have f:=t.fm;obtain⟨ip,_,_,l⟩:=Gp.facts f (KQ P hP) (rM P hP) g;have bS:BL 4 (s.2*h.2):=t.b.mul t.d;obtain⟨b1,b2,_⟩:=Ah f.ep g (k:=9) (n:=12) ((BL.const (n:=5) (i:=24) (by decide)).mul bS) (λa ha=>by
  obtain⟨z,hz,rfl⟩:=bJ.mp ha;obtain⟨⟨x0,x1⟩,y0,y1⟩:=KQ P hP z hz;have bx:=Sd x0 x1;have n8:=Sd y0 y1;exact⟨(bx.mul bS).mono,((bx.mul (t.a.mul t.d)).add (n8.mul (t.c.mul t.b))).mono⟩)
 refine⟨ip,λa b k=>?_,by have:=Ql P hP;lia⟩;have ne:=ip.cvx.ne k;have s0:=ip.pos;obtain⟨a1,a2⟩:=b2 a k.mem.1;obtain⟨c1,c2⟩:=b2 b k.mem.2;refine⟨?_,(b1.mul (c2.sub a2)).mono,(b1.neg.mul (c1.sub a1)).mono,(((c2.sub a2).mul a1).sub ((c1.sub a1).mul a2)).mono⟩;by_cases e:b.2=a.2
 ·have:-sh*(b.1-a.1)≠0:=oF (by lia) (λz=>ne (lQ (by lia) e.symm));exact .inr this
 ·have:sh*(b.2-a.2)≠0:=oF (by lia) (by lia);exact .inl this
theorem o7.z (t:Fm s h) (B:o7 s h b):rf b:=by
 obtain⟨ip,bs,bz,l⟩:=Gp.facts t (KQ _ B.poly) (rM _ B.poly) B.gp;exact⟨ip,bs,bz,by have:=Ql _ B.poly;lia⟩
end
abbrev Hw (m:Mv) (df:Int) (cs:List Pt) (sh:Int) (zs:List Pt):Prop:=qh df cs m.1 m.2.1.1 m.2.1.2 m.2.2.1 m.2.2.2 sh zs
structure MvC (m1 m2 m:Mv):Prop where
 sg:m.1=m1.1*m2.1
 x:m.2.1.1*(m1.2.1.2*m2.2.1.2)=(m2.1*(-m1.1*m1.2.1.1)*m2.2.1.2+m2.2.1.1*m1.2.1.2)*m.2.1.2
 y:m.2.2.1*(m1.2.2.2*m2.2.2.2)=(m2.1*(-m1.1*m1.2.2.1)*m2.2.2.2+m2.2.2.1*m1.2.2.2)*m.2.2.2
structure ow (s h:Pt) (x y:Bt) (b:Lb):Prop where
 pc:∃df sf,Gp s h (ik x.1 y.1) df sf/\Hw x.2.2.2 df sf b.1 b.2.1
 mv:MvC x.2.2.2 y.2.2.2 b.2.2
 mf:o_ b.2.2
abbrev vB (p:Bt × Bt):Bool:=HM (ik p.1.1 p.2.1)
abbrev Rw:=(Bt × Bt) × Lb
structure Laid (s h:Pt) (as os:List Bt) (rs:List Rw):Prop where
 ok:∀r∈rs,(r.1.1∈as/\r.1.2∈os)/\vB r.1=true/\ow s h r.1.1 r.1.2 r.2
 perm:(rs.map (·.1)).Perm ((wm as os).filter vB)
def Ev:FD:=λds Q=>∃(s h:Pt) (as os:List Bt),ds=[.lst (as.map d_),.lst (os.map d_)]/\Ft s h/\(as.length<=4/\os.length<=4/\as≠[])/\(∀b∈as++os,o7 s h b)/\∀rs,Laid s h as os rs->Q (.lst (rs.map λr=>jg r.2))
def Mf:∀ds Q,Ev ds Q->LB vJ vK Ew vL qX { nx:=λ_=>Q .non,rt:=Q } (eD ["ones","others","told","one","other","piece"] ds):=by
 rintro ds Q ⟨s,h,as,os,rfl,t,⟨la,lo,ne⟩,hb,q⟩;have f:=t.fm;rw[cS 4 rfl];unfold LB;simp only[jB,Mm,aQ,cB,aW,bC];generalize hA:D.lst (as.map d_)=AD;generalize hO:D.lst (os.map d_)=OD;refine cE (λc=>c=[aa AD,aa OD,some (.own []),none,none,none]) (λK hK=>?_) ?_
 ·walk_at "rd";exact hK _ rfl
 rintro c rfl;refine cE (λc=>∃(rs:List Rw) (u v w:Option L2.R2.S),Laid s h as os rs/\c=[aa AD,aa OD,some (.own (rs.map λr=>jg r.2)),u,v,w]) (λK hK=>?_) ?_
 ·simp only[oD,riL,cZ,aD,aZ,cG,aE,aI];refine⟨as,os,by rw[hA,hO],⟨la,lo,ne⟩,λb m=>(hb b m).z f,λps N=>?_⟩;have l16:=N.len;refine kU (λys c=>∃(dn td:List (Bt × Bt)) (rs:List Rw) (u v w:Option L2.R2.S),ps=dn++td/\ys=td.map uw/\((∀r∈rs,(r.1.1∈as/\r.1.2∈os)/\vB r.1=true/\ow s h r.1.1 r.1.2 r.2)/\rs.map (·.1)=dn.filter vB)/\c=[aa AD,aa OD,some (.own (rs.map λr=>jg r.2)),u,v,w]) ?_ ?_ _ _ ⟨[],ps,[],none,none,none,rfl,rfl,⟨by simp,rfl⟩,rfl⟩
  ·rintro y ys c ⟨dn,td,rs,u,v,w,ec,ey,⟨ok,em⟩,rfl⟩ F hr um hn _;cases td with
   | nil=>cases ey
   | cons p td =>
    cases ey;obtain⟨x,y⟩:=p;obtain⟨mx,my⟩:=N.mem (x,y) (by rw[ec];simp);have B1:=hb x (cU _ mx);have B2:=hb y (aV _ my);have lr:rs.length<=16:=by
     have h1:=congrArg fM em;have:=iT vB dn;have:=congrArg fM ec;simp at *;lia
    obtain⟨P,uz,w_,k7,⟨p1,q1⟩,u1,v1⟩:=x;obtain⟨R,oq,xa,pq,⟨p2,q2⟩,u2,v2⟩:=y;obtain⟨hP,g1,m1,a1,a2,a3,a4⟩:=B1;obtain⟨hR,g2,m2,b1,b2,b3,b4⟩:=B2;dsimp only at hP g1 a1 a2 a3 a4 hR g2 b1 b2 b3 b4;generalize hC1:pc uz w_=C1;generalize hC2:pc oq xa=C2;have eP:uw ((P,uz,w_,k7,(p1,q1),u1,v1),R,oq,xa,pq,(p2,q2),u2,v2) = .tup [.tup [C1,.tup [.int k7,pt (p1,q1),pt (u1,v1)]],.tup [C2,.tup [.int pq,pt (p2,q2),pt (u2,v2)]]]:=(by rw[<-hC1,<-hC2];rfl);rw[eP];unfold AY;simp only[oM,fX,oK,dC,bH,eK,true_and,aR,aX,dE,fC,cZ,aD,aZ,r2,aL,rC,sB,aE,aI];refine⟨uz,w_,oq,xa,by rw[hC1,hC2],Oz t hP g1,Oz t hR g2,λd cr=>?_⟩;rcases Nx f hP hR g1 g2 cr with ⟨hc,df,sf,rfl,g⟩ | ⟨hc,rfl⟩
    ·have C:=MG hP hR hc;obtain⟨ip,bs,bz,lz⟩:=Gp.facts f C.gin C.cvx g;have lC:=C.len;generalize hC0:pc df sf=C0;have isn:KB C0=false:=(by rw[<-hC0];rfl);simp only[lJ,dS,r2,aL,rC,HP,isn,yR,mR,aD,aZ,cZ,cG,nQ,aE,aI,aR,aX,if_true,nF,bH,eK];have s1:k7=1\/k7 = -1:=m1.sg;have q10:0<q1:=m1.q0;have v10:0<v1:=m1.v0;have q20:0<q2:=m2.q0;have v20:0<v2:=m2.v0;have bg1:BL 1 k7:=(by rcases s1 with e | e <;> (rw[e];exact BL.const (by decide)));have bg2:BL 1 pq:=(by rcases m2.sg with e | e <;> (rw[show pq=_ from e];exact BL.const (by decide)));refine⟨df,k7,p1,q1,u1,v1,sf,by rw[<-hC0],⟨ip.pos,q10,v10,s1⟩,⟨bs.mono,a2.mono,a4.mono,a1.mono,a3.mono⟩,λz hz=>⟨(bz z hz).1.mono,(bz z hz).2.mono⟩,ip.cvx,by lia,λsh zs pu=>?_⟩;refine⟨k7,p1,q1,u1,v1,rfl,s1,⟨a1.mono,a3.mono⟩,?_⟩;have w1:BL 212 (-k7*p1):=(bg1.neg.mul a1).mono;have w2:BL 212 (-k7*u1):=(bg1.neg.mul a3).mono;refine⟨k7,-k7*p1,q1,-k7*u1,v1,pq,p2,q2,u2,v2,rfl,⟨s1,m2.sg⟩,⟨q10,v10,q20,v20⟩,⟨w1.mono,a2.mono,w2.mono,a4.mono,b1.mono,b2.mono,b3.mono,b4.mono⟩,λX1 Q1 R1 W1 l1 l2=>?_⟩;have z1:BL 400 (pq*(-k7*p1)*q2+p2*q1):=(((bg2.mul w1).mul b2).add (b1.mul a2)).mono;have z2:BL 400 (pq*(-k7*u1)*v2+u2*v1):=(((bg2.mul w2).mul b4).add (b3.mul a4)).mono;refine⟨sz2,mF (by simp;lia),?_⟩;refine hn _ ⟨dn++[((P,uz,w_,k7,(p1,q1),u1,v1),R,oq,xa,pq,(p2,q2),u2,v2)],td,rs++[(((P,uz,w_,k7,(p1,q1),u1,v1),R,oq,xa,pq,(p2,q2),u2,v2),sh,zs,k7*pq,(X1,Q1),R1,W1)],aa (.tup [C1,.tup [.int k7,pt (p1,q1),pt (u1,v1)]]),aa (.tup [C2,.tup [.int pq,pt (p2,q2),pt (u2,v2)]]),aa C0,by rw[ec];simp,rfl,⟨λr hr'=>?_,?_⟩,?_⟩
     ·rcases cJ.mp hr' with k | k
      ·exact ok r k
      ·rw[dM.mp k];refine⟨⟨mx,my⟩,hc,⟨df,sf,g,pu⟩,⟨rfl,l1.worth,l2.worth⟩,⟨?_,l1.pos,l2.pos,l1.cop,l2.cop,z1.le l1.lea,((a2.mul b2).mono:BL 400 _).le l1.leb,z2.le l2.lea,((a4.mul b4).mono:BL 400 _).le l2.leb⟩⟩;have:=m2.sg;dsimp only at this ⊢;rcases s1 with rfl | rfl <;> lia
     ·rw[dI,jA,em];congr 1;simp[vB,hc]
     ·rw[dI];rfl
    ·simp only[lJ,dS,r2,aL,rC,HP,KB,iM,aE,aI,aR,aX,fU,aO,if_false];refine hn _ ⟨dn++[((P,uz,w_,k7,(p1,q1),u1,v1),R,oq,xa,pq,(p2,q2),u2,v2)],td,rs,aa (.tup [C1,.tup [.int k7,pt (p1,q1),pt (u1,v1)]]),aa (.tup [C2,.tup [.int pq,pt (p2,q2),pt (u2,v2)]]),aa .non,by rw[ec];simp,rfl,⟨ok,?_⟩,rfl⟩;rw[jA,em];simp[vB,hc]
  ·rintro c ⟨dn,td,rs,u,v,w,ec,ey,⟨ok,em⟩,rfl⟩;have:td=[]:=(by simpa using ey.symm);subst this;rw[eJ] at ec;subst ec;refine hK _ ⟨rs,u,v,w,⟨ok,?_⟩,rfl⟩;rw[em];exact N.all (λx y=>HM (ik x.1 y.1)) λx mx y my hv=>At f (hb x (cU _ mx)).poly (hb y (aV _ my)).poly hv (hb x (cU _ mx)).gp (hb y (aV _ my)).gp
 rintro c ⟨rs,u,v,w,L,rfl⟩;simp only[yL,L2.R2.S.fz,gM,cG,aE,aI,aR,aX];exact q rs L
end K41
namespace K37
open K36 K34 K33
open Classical in
section
variable {s h:Pt}
theorem Sv (f:Fm s h) (g:Gp s h P sh cs):sw sh (nB dz cs)=((h.1*nB dz P:Int):Rat) / ((576*h.2:Int):Rat):=by
 have h0:=EC f.ep g;have e:=Su g;have n1:=xR h0;have n2:=xR f.h2;have n3:=xR f.ls.pos;have e':=congrArg (λx:Int=>(x:Rat)) e;unfold eF at e';simp only[qR] at e';unfold sw;simp only[qR];rw[show ((24:Int):Rat)=24 from rfl] at e';rw[show ((576:Int):Rat)=576 from rfl];grind
end
end K37
namespace K41
open K37 K36 K34 K33
section
variable {s h:Pt} {df sh X Y W:Int}
theorem ZX (P:Hw m df cs sh zs):∃a r w:Int,(0<a/\a*df<=df*m.2.1.2*m.2.2.2)/\(r*m.2.1.2=m.2.1.1*(a*df)/\w*m.2.2.2=m.2.2.1*(a*df))/\Told (a*df) (cs.map (L2.R2.mv (m.1*a) r w)) sh zs:=by
 obtain⟨a,s,r,w,k,z,T,⟨pk,rfl,le⟩,e,rot,least,_,N⟩:=P;exact⟨a,r,w,⟨pk,le⟩,e,z,T,k,rot,least,N⟩
theorem Ul (mf:o_ m) (h0:0<df) (P:Hw m df cs sh zs) (i:fg df cs X Y W):fg sh zs ((m.1*X*m.2.1.2+m.2.1.1*W)*m.2.2.2) ((m.1*Y*m.2.2.2+m.2.2.1*W)*m.2.1.2) (W*m.2.1.2*m.2.2.2):=by
 obtain⟨d,r,w,⟨pk,_⟩,⟨er,ew⟩,T⟩:=ZX P;obtain⟨sg,⟨p,q⟩,u,v⟩:=m;have q0:0<q:=mf.q0;have v0:0<v:=mf.v0;have ss:sg*sg=1:=by rcases mf.sg with e | e <;> (rw[show sg=_ from e];rfl)
 dsimp only at *;refine (Kd (aS pk h0) T).2.mpr ((Co (c1:=1) (c2:=d*d*(q*v)) (by decide) (aS (aS pk pk) (aS q0 v0)) λa b=>?_).2.mpr i);have hy:∀z:Pt,(sg*Y*v+u*W)*q*(d*df)-(sg*d*z.2+w)*(W*q*v)=sg*d*(q*v)*(Y*df-z.2*W):=λz=>by
  have:w*(W*q*v)=w*v*(W*q):=by grind
  grind
 have hx:∀z:Pt,(sg*X*q+p*W)*v*(d*df)-(sg*d*z.1+r)*(W*q*v)=sg*d*(q*v)*(X*df-z.1*W):=λz=>by
  have:r*(W*q*v)=r*q*(W*v):=by grind
  grind
 rw[<-IA,<-IA];unfold L2.R2.mv;dsimp only;rw[hy,hx];grind
theorem Uk (h0:0<df) (mf:o_ m) (P:Hw m df cs sh zs):sw sh (nB dz zs)=sw df (nB dz cs):=by
 obtain⟨a,r,w,⟨pk,_⟩,_,T⟩:=ZX P;have he:=aS pk h0;have hs:=EC he T;have ss:m.1*m.1=1:=by rcases mf.sg with e | e <;> (rw[e];rfl)
 obtain⟨A',ra,eq⟩:=T.ring;have e1:=CK (a*df) zs;rw[eq,CK,<-HN ra] at e1;have e2:nB dz (cs.map (L2.R2.mv (m.1*a) r w))=a*a*nB dz cs:=by
  rw[<-RF (L2.R2.mv (m.1*a) r w (0,0)),RC];have t:(λx y=>bP (L2.R2.mv (m.1*a) r w (0,0)) (L2.R2.mv (m.1*a) r w x) (L2.R2.mv (m.1*a) r w y))=λx y=>a*a*bP (0,0) x y:=by
   funext x y;rw[ZI];grind
  rw[t,RD,RF]
 rw[e2] at e1;have n1:=xR hs;have n2:=xR h0;have n4:=xR pk;have e':=congrArg (λx:Int=>(x:Rat)) e1;simp only[qR] at e';unfold sw;grind
theorem He (f:Fm s h) (C:ot x.1 y.1) (B:o7 s h x) (R:ow s h x y b):t_ b/\rn b=((h.1*nB dz (ik x.1 y.1):Int):Rat) / ((576*h.2:Int):Rat)/\∀X Y W I J N,rm s h X Y W I J N->fg 1 (ik x.1 y.1) I J N ->
  fg b.1 b.2.1 ((x.2.2.2.1*X*x.2.2.2.2.1.2+x.2.2.2.2.1.1*W)*x.2.2.2.2.2.2) ((x.2.2.2.1*Y*x.2.2.2.2.2.2+x.2.2.2.2.2.1*W)*x.2.2.2.2.1.2) (W*x.2.2.2.2.1.2*x.2.2.2.2.2.2):=by
 obtain⟨⟨df,sf,g,P⟩,_,mf⟩:=R;obtain⟨ip,bs,bz,lz⟩:=Gp.facts f C.gin C.cvx g;have h0:=ip.pos;refine⟨?_,?_,λX Y W I J N sp i=>Ul B.mf h0 P ((JX f g sp).2.mpr i)⟩
 ·obtain⟨d,r,w,⟨pk,le⟩,⟨er,ew⟩,T⟩:=ZX P;have he:=aS pk h0;have q0:=B.mf.q0;have v0:=B.mf.v0;have kn:x.2.2.2.1*d≠0:=oF (by have:=B.mf.sg;lia) (by lia);have c:bB (sf.map (L2.R2.mv (x.2.2.2.1*d) r w)):=ip.cvx.map (by rcases GR kn with z | z;exact Int.mul_pos_of_neg_of_neg z z;exact aS z z) (ZI _ r w) λa b e=>Pr kn e;have be:BL 50 (d*df):=BL.le ((bs.mul (B.bq.mul B.bv)).mono:BL 50 (df*(x.2.2.2.2.1.2*x.2.2.2.2.2.2))) (by rw[mY] at le;lia);have bk:BL 50 d:=be.le (by rw[iH];exact kP _ (by lia));have br:BL 300 r:=BL.le ((B.bp.mul be).mono:BL 300 (x.2.2.2.2.1.1*(d*df))) (by rw[<-er,iH];exact kP _ (by lia));have bw:BL 300 w:=BL.le ((B.bu.mul be).mono:BL 300 (x.2.2.2.2.2.1*(d*df))) (by rw[<-ew,iH];exact kP _ (by lia));have bg:BL 2 x.2.2.2.1:=by have:=B.mf.sg;exact BL.of_lt (m:=2) (by lia) (by lia)
  obtain⟨t1,t2,t3⟩:=Ah he T be (n:=400) λa ha=>by
   obtain⟨z,hz,rfl⟩:=bJ.mp ha;obtain⟨z1,z2⟩:=bz z hz;exact⟨(((bg.mul bk).mul z1).add br).mono,(((bg.mul bk).mul z2).add bw).mono⟩
  have:=C.len;exact⟨Ai he T c,t1.mono,λz hz=>⟨(t2 z hz).1.mono,(t2 z hz).2.mono⟩,by rw[t3,bV];lia,mf⟩
 ·show sw b.1 (nB dz b.2.1)=_;rw[Uk h0 B.mf P,Sv f g]
end
def Mo (c:MvC m1 m2 m) (s1:m1.1=1\/m1.1 = -1) (X Y W:Int) :
  let A:=(m1.1*X*m1.2.1.2+m1.2.1.1*W)*m1.2.2.2;let B:=(m1.1*Y*m1.2.2.2+m1.2.2.1*W)*m1.2.1.2;let C:=W*m1.2.1.2*m1.2.2.2
  (m.1*A*m.2.1.2+m.2.1.1*C)*m.2.2.2*(W*m2.2.1.2*m2.2.2.2)=(m2.1*X*m2.2.1.2+m2.2.1.1*W)*m2.2.2.2*(C*m.2.1.2*m.2.2.2) /\
  (m.1*B*m.2.2.2+m.2.2.1*C)*m.2.1.2*(W*m2.2.1.2*m2.2.2.2)=(m2.1*Y*m2.2.2.2+m2.2.2.1*W)*m2.2.1.2*(C*m.2.1.2*m.2.2.2):=by
 obtain⟨e,ex,ey⟩:=c;obtain⟨s,⟨p,q⟩,u,v⟩:=m1;obtain⟨s2,⟨p2,q2⟩,u2,v2⟩:=m2;obtain⟨s3,⟨p3,q3⟩,u3,v3⟩:=m;dsimp only at *;have ss:s*s=1:=by rcases s1 with rfl | rfl <;> rfl
 subst e;constructor
 ·have l:(s*s2*((s*X*q+p*W)*v)*q3+p3*(W*q*v))*v3*(W*q2*v2)=v*v3*v2*W*((s*s)*s2*X*q*q3*q2+s*s2*p*W*q3*q2+W*(p3*(q*q2))):=by grind
  rw[l,ex,ss];grind
 ·have l:(s*s2*((s*Y*v+u*W)*q)*v3+u3*(W*q*v))*q3*(W*q2*v2)=q*q3*q2*W*((s*s)*s2*Y*v*v3*v2+s*s2*u*W*v3*v2+W*(u3*(v*v2))):=by grind
  rw[l,ey,ss];grind
def QB:FD:=λds Q=>∃a b c d e f:Int,ds=[jq a b c,jq d e f]/\(BL 4000 a/\BL 4000 b/\BL 4000 c/\BL 4000 d/\BL 4000 e/\BL 4000 f)/\Q (.bl (decide (a*f=d*c) && decide (b*f=e*c)))
def Df:∀ds Q,QB ds Q->GB { nx:=λ_=>Q .non,rt:=Q } (eD ["_law_one","_law_other"] ds):=by
 rintro ds Q ⟨a,b,c,d,e,f,rfl,⟨b1,b2,b3,b4,b5,b6⟩,q⟩;rw[cS 0 rfl];unfold GB;walk_at "rd";refine⟨b1.mulOk b6,b4.mulOk b3,?_⟩;by_cases e1:a*f=d*c
 ·simp only[e1,decide_true,Bool.true_and] at q ⊢;walk_at "rd";exact⟨b2.mulOk b6,b5.mulOk b3,q⟩
 ·simp only[e1,decide_false,vG] at q ⊢;walk_at "rd";exact q
def Se {X Y W:Int} (mf:o_ m) (bX:BL 900 X) (bY:BL 900 Y) (bW:BL 900 W):BL 4000 ((m.1*X*m.2.1.2+m.2.1.1*W)*m.2.2.2)/\BL 4000 ((m.1*Y*m.2.2.2+m.2.2.1*W)*m.2.1.2)/\BL 4000 (W*m.2.1.2*m.2.2.2):=by
 have bs:BL 2 m.1:=by have:=mf.sg;exact BL.of_lt (m:=2) (by lia) (by lia)
 exact⟨(((((bs.mul bX).mul mf.bq).add (mf.bp.mul bW)).mul mf.bv)).mono,(((((bs.mul bY).mul mf.bv).add (mf.bu.mul bW)).mul mf.bq)).mono,((bW.mul mf.bq).mul mf.bv).mono⟩
structure Good (X Y W a b c:Int) (r:Lb):Prop where
 i:fg r.1 r.2.1 X Y W
 x:(r.2.2.1*X*r.2.2.2.1.2+r.2.2.2.1.1*W)*r.2.2.2.2.2*c=a*(W*r.2.2.2.1.2*r.2.2.2.2.2)
 y:(r.2.2.1*Y*r.2.2.2.2.2+r.2.2.2.2.1*W)*r.2.2.2.1.2*c=b*(W*r.2.2.2.1.2*r.2.2.2.2.2)
def QI:FD:=λds Q=>∃(L:List Lb) (X Y W a b c:Int),ds=[.lst (L.map jg),jq X Y W,jq a b c]/\(∀r∈L,t_ r)/\(BL 900 X/\BL 900 Y/\BL 900 W)/\(BL 4000 a/\BL 4000 b/\BL 4000 c)/\(∃r∈L,Good X Y W a b c r)/\Q (.bl true)
def Dq:∀ds Q,QI ds Q->DY QB XY IK { nx:=λ_=>Q .non,rt:=Q } (eD ["_law_rows","_law_place","_law_goal","_law_piece","_law_move_here","_law_where"] ds):=by
 rintro ds Q ⟨L,X,Y,W,a,b,c,rfl,hL,⟨bX,bY,bW⟩,⟨ba,bb,bc⟩,⟨r0,m0,g0⟩,q⟩;rw[cS 3 rfl];unfold DY;simp only[jB,Ml,aQ,cB,aW,bC];generalize hSP:jq X Y W=SP;generalize hGO:jq a b c=GO;generalize hLD:D.lst (L.map jg)=LD;refine cE (λd=>False) (λK hK=>?_) (λ_ z=>z.elim);rw[<-hLD];simp only[oD,riL,cG,aE];rw[hLD];refine kU (λys d=>∃(td:List Lb) (u v w:Option L2.R2.S),ys=td.map jg/\(∀r∈td,t_ r)/\r0∈td/\d=[aa LD,aa SP,aa GO,u,v,w]) ?_ ?_ _ _ ⟨L,none,none,none,rfl,hL,m0,rfl⟩
 ·rintro y ys d ⟨td,u,v,w,ey,ho,mr,rfl⟩ F hr um hn _;cases td with
  | nil=>cases ey
  | cons r td =>
   cases ey;obtain⟨ip,bs,bz,len,mf⟩:=ho r (by simp);have l3:=ip.cvx.len;have Qr:F.rt (.bl true):=(by rw[hr];exact q);have next:r≠r0->∀u v w,F.nx [aa LD,aa SP,aa GO,u,v,w]:=λne u v w =>
    hn _ ⟨td,u,v,w,rfl,λx hx=>ho x (aT _ hx),by rcases aN.mp mr with e | e;exact (ne e.symm).elim;exact e,rfl⟩
   unfold xC jg;simp only[oM,fX,oK,dC,bH,eK,true_and,aR,aX,dE,fC,cZ,aD,aZ,cG,aE,aI];refine⟨r.1,r.2.1,X,Y,W,by rw[hSP],⟨bs.mono,λz hz=>⟨(bz z hz).1.mono,(bz z hz).2.mono⟩,by lia,by lia⟩,⟨bX.mono,bY.mono,bW.mono⟩,λM h1 h2=>?_⟩;have one:r=r0->xw M=1:=λe=>by
    subst e;obtain⟨x,y,k,e⟩:=h1;have:=g0.i x y k;unfold xw;rw[if_pos (by lia),if_neg (by lia)];rfl
   generalize hP:pc r.1 r.2.1=PD;generalize hM:p9 r.2.2=MD;generalize xw M=Z at *;by_cases z0:Z=0
   ·subst z0;simp only[lJ,dS,r2,aL,rC,pY,gM,aE,aI,decide_true,if_true,aO,if_false];exact Qr
   ·by_cases z1:Z=1
    ·subst z1;obtain⟨c1,c2,c3⟩:=Se mf bX bY bW;simp only[lJ,dS,xQ,r2,cG,aL,rC,pY,gM,iM,cZ,aD,aZ,aE,aI,decide_true,decide_false,if_true,aO,if_false,show ¬(1:Int)=0 by decide];refine⟨r.2.2,X,Y,W,by rw[hM,hSP],⟨mf,bX,bY,bW⟩,?_⟩;refine⟨_,_,_,a,b,c,by rw[hGO],⟨c1,c2,c3,ba,bb,bc⟩,?_⟩;by_cases al:((r.2.2.1*X*r.2.2.2.1.2+r.2.2.2.1.1*W)*r.2.2.2.2.2*c=a*(W*r.2.2.2.1.2*r.2.2.2.2.2))/\((r.2.2.1*Y*r.2.2.2.2.2+r.2.2.2.2.1*W)*r.2.2.2.1.2*c=b*(W*r.2.2.2.1.2*r.2.2.2.2.2))
     ·simp only[al.1,al.2,decide_true,qJ,if_true];exact Qr
     ·have ne:r≠r0:=λe=>al (by rw[e];exact⟨g0.x,g0.y⟩);rw[<-Bool.decide_and,decide_eq_false al];simp only[aO,if_false];exact next ne _ _ _
    ·have ne:r≠r0:=λe=>z1 (one e);simp only[lJ,dS,xQ,r2,aL,rC,pY,iM,aE,aI,z0,z1,decide_false,aO,if_false];exact next ne _ _ _
 ·rintro d ⟨td,u,v,w,ey,ho,mr,rfl⟩;have:td=[]:=by simpa using ey.symm
  subst this;cases mr
def nP (a b:Int):Int:=if a=0 then (if b=0 then 1 else 2) else if b=0 then 2 else if a=b then 2 else 4
def YA:FD:=λds Q=>∃a b:Int,ds=[.lst [.int a,.int b]]/\((0<=a/\a<4)/\0<=b/\b<4)/\Q (.int (nP a b))
def Gy:∀ds Q,YA ds Q->GD { nx:=λ_=>Q .non,rt:=Q } (eD ["_law_ways"] ds):=by
 rintro ds Q ⟨a,b,rfl,⟨⟨a0,a4⟩,b0,b4⟩,q⟩;rw[cS 0 rfl];unfold GD;unfold nP at q;have ee:fi 6 (.int a) (.int b)=some (decide (a=b)):=by simp[fi]
 walk_at "rd";rw[ee];by_cases ha:a=0
 ·subst ha;by_cases hb:b=0
  ·subst hb;simpa using q
  ·have:0<b:=(by lia);simpa [hb,this] using q
 ·have pa:0<a:=by lia
  by_cases hb:b=0
  ·subst hb;simpa [ha,pa] using q
  ·have pb:0<b:=(by lia);by_cases e:a=b
   ·subst e;simpa [ha,pa] using q
   ·simpa [ha,hb,e] using q
def A_ (ws vs:List (List Pt)):List (List Pt × List Pt):=ws.flatMap λP=>vs.map λQ=>(P,Q)
def Rt:∀a∈[0,1,2,3],∀b∈[0,1,2,3],(((A_ (ED a) (ED b)).filter λp=>HM (ik p.1 p.2)).length:Int)=nP a b/\(((A_ (ED a) (ED b)).filter λp=>HM (ik p.1 p.2)).map λp=>nB dz (ik p.1 p.2)).sum=1152:=by decide +kernel
theorem Qi {l k:List Int} (p:l.Perm k):l.sum=k.sum:=by
 induction p with
 | nil=>rfl
 | cons x _ ih=>simp only[FO];rw[ih]
 | swap x y l=>simp only[FO];lia
 | trans _ _ a b=>exact a.trans b
section
variable {s h:Pt} {as os:List Bt} {rs:List Rw}
theorem Ue (as os:List Bt):((wm as os).filter vB).map (λp=>(p.1.1,p.2.1))=(A_ (as.map (·.1)) (os.map (·.1))).filter λp=>HM (ik p.1 p.2):=by
 have e:(wm as os).map (λp=>(p.1.1,p.2.1))=A_ (as.map (·.1)) (os.map (·.1)):=by
  unfold wm A_;rw[List.map_flatMap,LU];refine yK λx _=>?_;rw[cM,cM];rfl
 rw[<-e,qP];rfl
theorem Laid.rows (t:Ft s h) (hb:∀b∈as++os,o7 s h b) (L:Laid s h as os rs) {r:Rw} (hr:r∈rs):(ot r.1.1.1 r.1.2.1/\o7 s h r.1.1)/\ow s h r.1.1 r.1.2 r.2:=by
 obtain⟨⟨ma,mo⟩,v,R⟩:=L.ok r hr;have A:=hb _ (cU _ ma);exact⟨⟨MG A.poly (hb _ (aV _ mo)).poly v,A⟩,R⟩
theorem Laid.lbf (t:Ft s h) (hb:∀b∈as++os,o7 s h b) (L:Laid s h as os rs) {r:Rw} (hr:r∈rs):t_ r.2 :=
 let ⟨⟨C,B⟩,R⟩:=L.rows t hb hr
 (He t.fm C B R).1
theorem Laid.area (t:Ft s h) (hb:∀b∈as++os,o7 s h b) (L:Laid s h as os rs):pr (rs.map (·.2))=((h.1*(rs.map λr=>nB dz (ik r.1.1.1 r.1.2.1)).sum:Int):Rat) / ((576*h.2:Int):Rat):=by
 have key:∀l:List Rw,(∀r∈l,r∈rs)->pr (l.map (·.2))=((h.1*(l.map λr=>nB dz (ik r.1.1.1 r.1.2.1)).sum:Int):Rat) / ((576*h.2:Int):Rat):=by
  intro l
  induction l with
  | nil=>intro _;show (0:Rat)=_;simp;grind
  | cons r l ih =>
   intro hl;obtain⟨⟨C,B⟩,R⟩:=L.rows t hb (hl r (by simp));have e:=(He t.fm C B R).2.1;show rn r.2+pr (l.map (·.2))=_;rw[ih λx hx=>hl x (aT _ hx),e,aQ,FO,Int.mul_add,OR];grind
 exact key rs λ_ h=>h
theorem Laid.sums {a b:Int} (a0:0<=a) (a4:a<4) (b0:0<=b) (b4:b<4) (ea:as.map (·.1)=ED a) (eb:os.map (·.1)=ED b) (L:Laid s h as os rs):((rs.length:Nat):Int)=nP a b/\(rs.map λr=>nB dz (ik r.1.1.1 r.1.2.1)).sum=1152:=by
 have m4:∀{x:Int},0<=x->x<4->x∈([0,1,2,3]:List Int):=λh0 h1=>by simp;lia
 obtain⟨w1,w2⟩:=Rt a (m4 a0 a4) b (m4 b0 b4);rw[<-ea,<-eb,<-Ue] at w1 w2;constructor
 ·have:=L.perm.length_eq;rw[bV] at this w1;lia
 ·have:=Qi (L.perm.map λp=>nB dz (ik p.1.1 p.2.1));rw[cM] at this w2;exact this.trans w2
theorem Pe:fg 1 P I J N↔gv I J N P=1:=by
 have e:∀a b,f8 1 I J N a b=f9 I J N a b:=λa b=>by rw[xF,Ix]
 constructor
 ·intro i;exact Fz λa b c=>by rw[<-e];exact i a b c
 ·intro g a b c;rw[e];rcases Pa (I:=I) (J:=J) (N:=N) (P:=P) with ⟨_,k⟩ | ⟨k,_⟩ | ⟨k,_⟩
  ·exact k a b c
  ·lia
  ·lia
theorem Laid.good (t:Ft s h) (hb:∀b∈as++os,o7 s h b) (L:Laid s h as os rs) {x y:Bt} (mx:x∈as) (my:y∈os) {X Y W I J N:Int} (sp:rm s h X Y W I J N) (gx:gv I J N x.1=1) (gy:gv I J N y.1=1) :
  ∃r∈rs.map (·.2),Good ((x.2.2.2.1*X*x.2.2.2.2.1.2+x.2.2.2.2.1.1*W)*x.2.2.2.2.2.2) ((x.2.2.2.1*Y*x.2.2.2.2.2.2+x.2.2.2.2.2.1*W)*x.2.2.2.2.1.2) (W*x.2.2.2.2.1.2*x.2.2.2.2.2.2)
   ((y.2.2.2.1*X*y.2.2.2.2.1.2+y.2.2.2.2.1.1*W)*y.2.2.2.2.2.2) ((y.2.2.2.1*Y*y.2.2.2.2.2.2+y.2.2.2.2.2.1*W)*y.2.2.2.2.1.2) (W*y.2.2.2.2.1.2*y.2.2.2.2.2.2) r:=by
 have hx:=hb x (cU _ mx);have hy:=hb y (aV _ my);have ix:=Pe.mpr gx;have iy:=Pe.mpr gy;have v:vB (x,y)=true:=by
  cases e:vB (x,y) with
  | true=>rfl
  | false=>exact (Nv hx.poly hy.poly e sp.n ix iy).elim
 have mp:(x,y)∈rs.map (·.1):=L.perm.mem_iff.mpr (kX.mpr ⟨LW.mpr ⟨x,mx,cO my⟩,v⟩);obtain⟨r,mr,er⟩:=bJ.mp mp;obtain⟨⟨C,B⟩,R⟩:=L.rows t hb mr;have R1:=(He t.fm C B R).2.2 X Y W I J N sp;have al:=Mo R.mv B.mf.sg X Y W;rw[er] at R1 al C;exact⟨r.2,cO mr,R1 ((C.reg I J N sp.n).2.mpr ⟨ix,iy⟩),al.1,al.2⟩
theorem Wd (f:Fm s h) (l:as.length<=4) (hb:∀b∈as,o7 s h b):HB s h as:=⟨f,l,λb m =>
 have B:=hb b m
 ⟨B.gp,⟨rM _ B.poly,by have:=Ql _ B.poly;lia⟩,KQ _ B.poly,B.mf⟩⟩
theorem Ji (w0:0<=w) (w4:w<4) (e:as.map (·.1)=ED w) (rg:(0<I/\I<24*N)/\0<J/\J<24*N) (k:∀b∈as,gv I J N b.1≠0):∃x∈as,gv I J N x.1=1/\as.filter (nj I J N)=[x]:=by
 have w1:=Vj rg.1.1 rg.1.2 rg.2.1 rg.2.2 _ (Ak w0 w4) (λP hP=>by
  rw[<-e] at hP;obtain⟨b,yw,e⟩:=bJ.mp hP;rw[<-e];exact k b yw)
 rw[<-e,qP,bV] at w1;obtain⟨x,e0⟩:=Yk w1;obtain⟨m,g⟩:=kX.mp (show x∈as.filter (nj I J N) by rw[show as.filter (nj I J N)=[x] from e0];simp);exact⟨x,m,of_decide_eq_true g,e0⟩
end
def Xh (as os:List Bt):jt (fi 8) [.lst (as.map d_),.lst (os.map d_)] [.lst (as.map d_),.lst (os.map d_)]=some true:=by
 refine vX _ λx hx=>?_;simp only[aN,gH,or_false] at hx;rcases hx with rfl | rfl <;> (show jt (fi 7) _ _=_;exact Iu λb _=>B3 b)
def fill {E:jb} {s h:Pt} {xs:List Int} {a b w:Int} {k:Nat} {en:List (List D)} {a0 a7 a8 a9 w9 a11 a12 nh mm:Option L2.R2.S} (f:Fm s h) (D0:Drawn 8 xs) (k2:k<2) (he:en[k]? = some []) (hw:[D.int a,D.int b][k]? = some (.int w)) (w0:0<=w) (w4:w<4)
  (q:∀(bs:List Bt) (u:Option L2.R2.S),(∀b∈bs,o7 s h b)->bs.map (·.1)=ED w->E.nx [a0,aa (il xs),aa (pt s),aa (pt h),aa (.lst [.int a,.int b]),some (.box false (en.set k (bs.map d_))),aa (.int k),u,a8,a9,w9,a11,a12,nh,mm]) :
  xS IJ IL E [a0,aa (il xs),aa (pt s),aa (pt h),aa (.lst [.int a,.int b]),some (.box false en),aa (.int k),a7,a8,a9,w9,a11,a12,nh,mm]:=by
 unfold xS;simp only[oD,riL,cZ,aD,aZ,cG,aL,r2,aE,aI];rw[qY hw];refine⟨s,h,w,rfl,⟨f,w0,w4⟩,λL hL hg=>?_⟩;obtain⟨wl,wp⟩:=XS _ (Ak w0 w4);rw[<-hL] at wl wp;rw[bV] at wl;obtain⟨kl,ke⟩:=bG.mp he;have e0:en.set k (([]:List Bt).map d_)=en:=by
  show en.set k []=en;rw[<-ke];exact List.set_getElem_self ..
 refine kU (λys c=>∃(dn td:List (List Pt × Int × List Pt)) (bs:List Bt) (u:Option L2.R2.S),L=dn++td/\ys=td.map (λp=>pc p.2.1 p.2.2)/\(bs.map (λb=>(b.1,b.2.1,b.2.2.1))=dn/\∀b∈bs,o7 s h b)/\c=[a0,aa (il xs),aa (pt s),aa (pt h),aa (.lst [.int a,.int b]),some (.box false (en.set k (bs.map d_))),aa (.int k),u,a8,a9,w9,a11,a12,nh,mm]) ?_ ?_ _ _ ⟨[],L,[],a7,rfl,rfl,⟨rfl,by simp⟩,by rw[e0]⟩
 ·rintro y ys c ⟨dn,td,bs,u,ec,ey,⟨eb,ho⟩,rfl⟩ F hr um hnx _;cases td with
  | nil=>cases ey
  | cons p td =>
   cases ey;have mb:p∈L:=(by rw[ec];simp);have lb:bs.length<=1:=by
    have l1:=congrArg fM eb;have l2:=congrArg fM ec;simp at l1 l2;lia
   generalize Y7:pc p.2.1 p.2.2=PD;have gk:(en.set k (bs.map d_))[k]? = some (bs.map d_):=gY kl;unfold GH;simp only[dC,Jq,Uq,cG,aL,mR,cZ,aD,aZ,r1,r2,rC,lM,fO,qZ,aE,aI,aR,aX,bH,eK];refine⟨k,_,⟨rfl,gk,mF (by simp;lia)⟩,(BL.const (n:=9000) (by decide)).mulOk (BL.of_lt (m:=20) (by lia) (by lia)),k,_,⟨rfl,gk⟩,?_⟩;have dl:=D0.len;refine YN (by lia) (by simp;lia) λn hn=>⟨n,rfl,(D0.bl hn).mono,λm mf bm=>⟨sz2,?_⟩⟩;refine hnx _ ⟨dn++[p],td,bs++[(p.1,p.2.1,p.2.2,m)],aa PD,by rw[ec];simp,rfl,⟨by rw[dI,eb];rfl,λx hx=>?_⟩,?_⟩
   ·rcases cJ.mp hx with z | z
    ·exact ho x z
    ·rw[dM.mp z];exact⟨wp p.1 (cO mb),hg p mb,mf,bm.1,bm.2.1,bm.2.2.1,bm.2.2.2⟩
   ·rw[List.set_set,dI,<-Y7];rfl
 ·rintro c ⟨dn,td,bs,u,ec,ey,⟨eb,ho⟩,rfl⟩;have:td=[]:=by simpa using ey.symm
  subst this;rw[eJ] at ec;subst ec;refine q bs u ho ?_;rw[<-eb,cM] at hL;exact hL
abbrev ev (ns:List Int) (XD:D) (s h:Pt) (a b:Int) (r:En):En:=aa (il ns)::aa XD::aa (pt s)::aa (pt h)::aa (.lst [.int a,.int b])::r
def Gx:∀ds Q,Kk 63 ds Q->TN QC XW IJ Hs QD IL LM YA QI QM Ev { nx:=λ_=>Q .non,rt:=Q } (eD ["_law_script","_law_head","_law_lean","_law_height","_law_ways","_law_lists","_law_k","_law_piece","_law_handed","_law_found","_law_total","_law_cell","_law_spot","_law_places","_law_goals"] ds):=by
 rintro ds Q ⟨ns,rfl,hn,Qt⟩;rw[cS 14 rfl];unfold TN;have B_:(eY 14 none:List (Option L2.R2.S))=[none,none,none,none,none,none,none,none,none,none,none,none,none,none]:=rfl;simp only[jB,B_,aQ,cB,aW,bC];refine cE (λg=>∃xs:List Int,Drawn 8 xs/\g=[aa (il ns),aa (il xs),none,none,none,none,none,none,none,none,none,none,none,none,none]) (λK hK=>?_) ?_
 ·walk_at "rd";exact⟨ns,8,rfl,⟨by lia,by decide,by decide⟩,λxs d=>hK _ ⟨xs,d,rfl⟩⟩
 rintro g ⟨xs,D0,rfl⟩;have dl:=D0.len;have ix:∀(i:Int) {K:D->Prop},0<=i->i<8->(∀n:Int,K (.int n))->bi (il xs) (.int i) K:=λi K h0 h1 q=>YN h0 (by lia) λn _=>q n;generalize hXD:il xs=XD at ix;refine cE (λg=>∃s:Pt,(nq s/\BL 3 s.1/\BL 2 s.2)/\g=[aa (il ns),aa XD,aa (pt s),none,none,none,none,none,none,none,none,none,none,none,none]) (λK hK=>?_) ?_
 ·simp only[fC,cZ,aD,aZ,r2,aL,rC,aE,aI,aR,aX];refine ix 0 (by decide) (by decide) λn=>?_;obtain⟨a0,a1⟩:=gB (a:=n) (b:=9) (by decide);refine⟨oC,ix 0 (by decide) (by decide) λn'=>?_⟩;obtain⟨b0,b1⟩:=gB (a:=n'.fdiv 9) (b:=2) (by decide);refine⟨(BL.const (n:=9000) (by decide)).divOk (by decide),oC,?_⟩;have bb:BL 2 (1+(n'.fdiv 9).fmod 2):=BL.of_lt (m:=2) (by lia) (by lia);have ba:BL 3 (n.fmod 9-4):=BL.of_lt (m:=3) (by lia) (by lia);refine⟨_,_,rfl,⟨by lia,bb.mono⟩,λp q l=>hK _ ⟨(p,q),⟨⟨l.pos,(ba.le l.lea).mono,(bb.le l.leb).mono⟩,ba.le l.lea,bb.le l.leb⟩,rfl⟩⟩
 rintro g ⟨s,⟨ls,s3,s2⟩,rfl⟩;refine cE (λg=>∃h:Pt,Ft s h/\g=[aa (il ns),aa XD,aa (pt s),aa (pt h),none,none,none,none,none,none,none,none,none,none,none]) (λK hK=>?_) ?_
 ·simp only[fC,cZ,aD,aZ,r2,aL,rC,aE,aI,aR,aX];refine ix 1 (by decide) (by decide) λn=>?_;obtain⟨a0,a1⟩:=gB (a:=n) (b:=6) (by decide);refine⟨oC,ix 1 (by decide) (by decide) λn'=>?_⟩;obtain⟨b0,b1⟩:=gB (a:=n'.fdiv 6) (b:=2) (by decide);refine⟨(BL.const (n:=9000) (by decide)).divOk (by decide),oC,?_⟩;have bb:BL 2 (1+(n'.fdiv 6).fmod 2):=BL.of_lt (m:=2) (by lia) (by lia);have ba:BL 3 (1+n.fmod 6):=BL.of_lt (m:=3) (by lia) (by lia);exact⟨_,_,rfl,⟨by lia,bb.mono⟩,λp q l=>hK _ ⟨(p,q),⟨Yd ls l (by lia) (by lia) (ba.mono) (bb.mono),s3,s2,ba.le l.lea,bb.le l.leb⟩,rfl⟩⟩
 rintro g ⟨h,t,rfl⟩;have f:=t.fm;refine cE (λg=>∃a b:Int,((0<=a/\a<4)/\0<=b/\b<4)/\g=ev ns XD s h a b [none,none,none,none,none,none,none,none,none,none]) (λK hK=>?_) ?_
 ·simp only[fC,sJ,aD,aZ,r2,aL,rC,aE,aI,aR,aX,bH,eK];refine ix 2 (by decide) (by decide) λn=>⟨oC,ix 3 (by decide) (by decide) λn'=>⟨oC,sz2,hK _ ⟨_,_,⟨gB (by decide),gB (by decide)⟩,rfl⟩⟩⟩
 rintro g ⟨a,b,⟨⟨a0,a4⟩,b0,b4⟩,rfl⟩;unfold ev;refine cE (λg=>g=ev ns XD s h a b [some (.box false [[],[]]),none,none,none,none,none,none,none,none,none]) (λK hK=>?_) ?_
 ·simp only[Qv,aR,aX];exact hK _ rfl
 rintro g rfl;unfold ev;refine cE (λg=>∃(as os:List Bt) (u v:Option L2.R2.S),((∀b∈as++os,o7 s h b)/\as.map (·.1)=ED a/\os.map (·.1)=ED b)/\g=ev ns XD s h a b [some (.box false [as.map d_,os.map d_]),u,v,none,none,none,none,none,none,none]) (λK hK=>?_) ?_
 ·subst hXD;simp only[oD,PM,aD,aZ,rC];refine⟨⟨by decide,by decide⟩,?_⟩;show JW _ _ [D.int (0+(0:Nat)),D.int (0+(1:Nat))] _ _;simp only[JW,dC,aR,aX];refine fill (k:=0) f D0 (by decide) rfl rfl a0 a4 λas u ha ea=>?_;refine fill (k:=1) f D0 (by decide) rfl rfl b0 b4 λos v ho eo=>?_;refine hK _ ⟨as,os,_,v,⟨λb hb=>?_,ea,eo⟩,rfl⟩;rcases cJ.mp hb with z | z
  ·exact ha b z
  ·exact ho b z
 rintro g ⟨as,os,u,v,⟨hb,ea,eo⟩,rfl⟩;unfold ev;have lw:∀{w:Int} {l:List Bt},0<=w->w<4->l.map (·.1)=ED w->l.length<=2:=λh0 h1 e=>by
  have:=(XS _ (Ak h0 h1)).1;rw[<-e,bV] at this;exact this
 have la:=lw a0 a4 ea;have lo:=lw b0 b4 eo;have na:as≠[]:=by
  rintro rfl;have:∀w∈Na,w≠[]:=by decide
  exact this _ (Ak a0 a4) ea.symm
 have eh:=Xh as os;have Ha:=Wd (s:=s) (h:=h) f (by lia) λx hx=>hb x (cU _ hx);have Ho:=Wd (s:=s) (h:=h) f (by lia) λx hx=>hb x (aV os hx |> λ_=>aV as hx);generalize hAD:as.map d_=AD at eh;generalize hOD:os.map d_=OD at eh;refine cE (λg=>g=ev ns XD s h a b [aa (.lst [.lst AD,.lst OD]),u,v,aa (.lst [.lst AD,.lst OD]),none,none,none,none,none,none]) (λK hK=>?_) ?_
 ·walk_at "rd";exact hK _ rfl
 rintro g rfl;unfold ev;refine cE (λg=>∃rs,Laid s h as os rs/\g=ev ns XD s h a b [aa (.lst [.lst AD,.lst OD]),u,v,aa (.lst [.lst AD,.lst OD]),aa (.lst ((rs.map (·.2)).map jg)),none,none,none,none,none]) (λK hK=>?_) ?_
 ·walk_at "rd";refine⟨s,h,as,os,by rw[hAD,hOD],t,⟨by lia,by lia,na⟩,hb,λrs L=>hK _ ⟨rs,L,?_⟩⟩;rw[cM];rfl
 rintro g ⟨rs,L,rfl⟩;unfold ev;obtain⟨cnt,ar⟩:=L.sums a0 a4 b0 b4 ea eo;have lb:∀r∈rs.map (·.2),t_ r:=λr hr=>by
  obtain⟨x,mx,rfl⟩:=bJ.mp hr;exact L.lbf t hb mx
 have lr:rs.length<=4:=by
  unfold nP at cnt;split at cnt <;> (try split at cnt) <;> (try split at cnt) <;> lia
 have arT:=L.area t hb;rw[ar] at arT;have ll:(rs.map (·.2)).length=rs.length:=bV ..;have good:=λ{x y:Bt} (mx:x∈as) (my:y∈os) {X Y W I J N:Int} (sp:rm s h X Y W I J N) gx gy=>L.good t hb mx my sp gx gy;clear L;generalize hRS:rs.map (·.2)=RS at *;generalize N_:D.lst (RS.map jg)=sj;refine cE (λg=>g=ev ns XD s h a b [aa (.lst [.lst AD,.lst OD]),u,v,aa (.lst [.lst AD,.lst OD]),aa sj,none,none,none,none,none]) (λK hK=>?_) ?_
 ·simp only[lJ,rOr,wJ,dS,cZ,aD,aZ,cG,aE,aI];refine⟨RS,by rw[N_],lb,?_⟩;rw[<-N_] at hK ⊢;simp only[fU,aO,if_false,r1,r2,aL,Sm,eh,qZ,aE,aI,bH,eK,bV,true_and];refine⟨a,b,rfl,⟨⟨a0,a4⟩,b0,b4⟩,?_⟩;rw[ll,cnt];simp only[pY,decide_true,fU,aO,if_false,if_true,iM];exact hK _ rfl
 rintro g rfl;unfold ev;refine cE (λg=>∃N M:Int,((BL 2900000 N/\BL 2900000 M)/\N*h.2=2*h.1*M)/\g=ev ns XD s h a b [aa (.lst [.lst AD,.lst OD]),u,v,aa (.lst [.lst AD,.lst OD]),aa sj,aa (.tup [.int N,.int M]),none,none,none,none]) (λK hK=>?_) ?_
 ·walk_at "rd";refine⟨RS,by rw[N_],⟨by lia,lb⟩,λN M bb ⟨m0,e⟩=>hK _ ⟨N,M,⟨bb,?_⟩,rfl⟩⟩;rw[arT] at e;have n1:=xR m0;have n2:=xR f.h2;have:((N*h.2:Int):Rat)=((2*h.1*M:Int):Rat):=by
   simp only[qR] at e ⊢;have X7:((576:Int):Rat)=576:=rfl;have yj:((1152:Int):Rat)=1152:=rfl;have e2:((2:Int):Rat)=2:=rfl;rw[X7,yj] at e;rw[e2];grind
  exact OS.mp this
 rintro g ⟨N,M,⟨⟨bN,bM⟩,eq⟩,rfl⟩;unfold ev;refine cE (λg=>g=ev ns XD s h a b [aa (.lst [.lst AD,.lst OD]),u,v,aa (.lst [.lst AD,.lst OD]),aa sj,aa (.tup [.int N,.int M]),none,none,none,none]) (λK hK=>?_) ?_
 ·walk_at "rd";refine⟨bN.mulOk f.b2,(BL.const (n:=4) (i:=2) (by decide)).mulOk f.b1,((BL.const (n:=4) (i:=2) (by decide)).mul f.b1).mulOk bM,?_⟩;rw[eq];simp only[decide_true,fU,aO,if_false];exact hK _ rfl
 rintro g rfl;unfold ev;refine cE (λg=>∃a11 a12 nh mm,g=ev ns XD s h a b [aa (.lst [.lst AD,.lst OD]),u,v,aa (.lst [.lst AD,.lst OD]),aa sj,aa (.tup [.int N,.int M]),a11,a12,nh,mm]) (λK hK=>?_) ?_
 ·simp only[oD,riL,r2,cG,aL,rC,CL,Jt,sK,DM,sJ,aD,aZ,aE,aI,bH,eK,sz1,true_and];refine ix 7 (by decide) (by decide) λn=>?_;have lc:(cutD (ns.map D.int) none (some 8)).length<=63:=by
   unfold cutD;rw[gT,nH,bV];lia
  have hi:∀d∈cutD (ns.map D.int) none (some 8)++[D.int n],∃i,d = .int i:=λd hd=>by
   rcases cJ.mp hd with z | z
   ·obtain⟨i,_,e⟩:=bJ.mp (BZ (kL z));exact⟨i,e.symm⟩
   ·exact⟨n,dM.mp z⟩
  refine⟨mF (by lia),?_⟩;generalize hys:cutD (ns.map D.int) none (some 8)++[D.int n]=ys0 at *;refine kU (λys g=>∃a11 a12 nh mm:Option L2.R2.S,(∀d∈ys,∃i,d=D.int i)/\g=ev ns XD s h a b [aa (.lst [.lst AD,.lst OD]),u,v,aa (.lst [.lst AD,.lst OD]),aa sj,aa (.tup [.int N,.int M]),a11,a12,nh,mm]) ?_ ?_ _ _ ⟨none,none,none,none,hi,rfl⟩
  ·rintro y ys g ⟨a11,a12,nh,mm,hy,rfl⟩ F hr um hnx _;unfold ev;obtain⟨i,rfl⟩:=hy y (cF ..);have go:∀a12 nh mm,F.nx (ev ns XD s h a b [aa (.lst [.lst AD,.lst OD]),u,v,aa (.lst [.lst AD,.lst OD]),aa sj,aa (.tup [.int N,.int M]),aa (.int i),a12,nh,mm]):=λa12 nh mm =>
    hnx _ ⟨aa (.int i),a12,nh,mm,λd hd=>hy d (aT _ hd),rfl⟩
   unfold GG;simp only[dC,aR,aX];refine cE (λg=>∃X Y W I J N',(rm s h X Y W I J N'/\((0<I/\I<24*N')/\0<J/\J<24*N')/\BL 200 X/\BL 200 Y/\BL 200 W)/\g=ev ns XD s h a b [aa (.lst [.lst AD,.lst OD]),u,v,aa (.lst [.lst AD,.lst OD]),aa sj,aa (.tup [.int N,.int M]),aa (.int i),aa (jq X Y W),nh,mm]) (λK2 kb=>?_) ?_
   ·walk_at "rd";exact⟨i,s,h,rfl,f,λX Y W I J N' sp rg bb=>kb _ ⟨X,Y,W,I,J,N',⟨sp,rg,bb⟩,rfl⟩⟩
   rintro g ⟨X,Y,W,I,J,N',⟨sp,rg,bX,bY,bW⟩,rfl⟩;unfold ev;have yb:BL 400 X/\BL 400 Y/\BL 400 W:=⟨bX.mono,bY.mono,bW.mono⟩;refine cE (λg=>∃d,(d = .non\/∃x∈as,gv I J N' x.1=1/\d = .lst [UX x.2.2.2 X Y W])/\g=ev ns XD s h a b [aa (.lst [.lst AD,.lst OD]),u,v,aa (.lst [.lst AD,.lst OD]),aa sj,aa (.tup [.int N,.int M]),aa (.int i),aa (jq X Y W),aa d,mm]) (λK2 kb=>?_) ?_
   ·simp only[fC,cZ,aD,aZ,r2,cG,aL,rC,RI,aE,aI,aR,aX];refine⟨s,h,as,X,Y,W,I,J,N',by rw[hAD],⟨Ha,sp⟩,yb,λ_=>kb _ ⟨.non,.inl rfl,rfl⟩,λk=>?_⟩;obtain⟨x,mx,gx,ef⟩:=Ji a0 a4 ea rg k;rw[ef];exact kb _ ⟨_,.inr ⟨x,mx,gx,rfl⟩,rfl⟩
   rintro g ⟨d1,h1,rfl⟩;unfold ev;refine cE (λg=>∃d,(d = .non\/∃x∈os,gv I J N' x.1=1/\d = .lst [UX x.2.2.2 X Y W])/\g=ev ns XD s h a b [aa (.lst [.lst AD,.lst OD]),u,v,aa (.lst [.lst AD,.lst OD]),aa sj,aa (.tup [.int N,.int M]),aa (.int i),aa (jq X Y W),aa d1,aa d]) (λK2 kb=>?_) ?_
   ·simp only[fC,cZ,aD,aZ,r2,cG,aL,rC,Bg,aE,aI,aR,aX];refine⟨s,h,os,X,Y,W,I,J,N',by rw[hOD],⟨Ho,sp⟩,yb,λ_=>kb _ ⟨.non,.inl rfl,rfl⟩,λk=>?_⟩;obtain⟨x,mx,gx,ef⟩:=Ji b0 b4 eo rg k;rw[ef];exact kb _ ⟨_,.inr ⟨x,mx,gx,rfl⟩,rfl⟩
   rintro g ⟨d2,h2,rfl⟩;unfold ev;rcases h1 with rfl | ⟨x,mx,gx,rfl⟩
   ·simp only[lJ,xQ,dS,r2,aL,rC,HP,KB,iM,aE,aI,fU,aO,if_false,if_true];exact go _ _ _
   ·rcases h2 with rfl | ⟨y,my,gy,rfl⟩
    ·simp only[lJ,xQ,dS,r2,aL,rC,HP,KB,iM,aE,aI,fU,nF,aO,if_false,if_true];exact go _ _ _
    ·have Bx:=hb x (cU _ mx);have By:=hb y (aV _ my);obtain⟨c1,c2,c3⟩:=Wz By.mf yb.1 yb.2.1 yb.2.2;have bg:BL 2 x.2.2.2.1:=(by have:=Bx.mf.sg;exact BL.of_lt (m:=2) (by lia) (by lia));have bsx:BL 900 ((x.2.2.2.1*X*x.2.2.2.2.1.2+x.2.2.2.2.1.1*W)*x.2.2.2.2.2.2):=((((bg.mul bX).mul Bx.bq).add (Bx.bp.mul bW)).mul Bx.bv).mono;have bsy:BL 900 ((x.2.2.2.1*Y*x.2.2.2.2.2.2+x.2.2.2.2.2.1*W)*x.2.2.2.2.1.2):=((((bg.mul bY).mul Bx.bv).add (Bx.bu.mul bW)).mul Bx.bq).mono;have bsw:BL 900 (W*x.2.2.2.2.1.2*x.2.2.2.2.2.2):=((bW.mul Bx.bq).mul Bx.bv).mono;have G:=good mx my sp gx gy;generalize hS1:UX x.2.2.2 X Y W=S1;generalize uj:UX y.2.2.2 X Y W=S2;simp only[lJ,xQ,wJ,dS,r2,cG,aL,rC,cZ,aD,aZ,HP,KB,RI,aE,aI,nF,if_true];refine⟨RS,_,_,_,_,_,_,by rw[N_,<-hS1,<-uj],lb,⟨bsx,bsy,bsw⟩,⟨c1,c2,c3⟩,G,?_⟩;simp only[fU,aO,if_false,iM];exact go _ _ _
  ·rintro g ⟨a11,a12,nh,mm,_,rfl⟩;unfold ev;exact hK _ ⟨a11,a12,nh,mm,rfl⟩
 rintro g ⟨a11,a12,nh,mm,rfl⟩;unfold ev;walk_at "rd";exact Qt
local macro_rules | `(tactic| walk_at "len")=>`(tactic| (intro ds Q h;(repeat obtain⟨_,h⟩:=h);all_goals (subst_vars;rfl)))
def top (i:Nat):Stmt:=PySem.Challenge.pw_recut_k41_laid_over.main.body.getD i (.Pass ⟨0,0,0,0⟩)
structure TopF (K:aH) (mg:Str->Option aB):Prop where
 d0:aj K mg "_law_added" (top 45) ["_law_one","_law_other"]
 d1:aj K mg "_law_area" (top 44) ["_law_piece"]
 d2:aj K mg "_law_areas" (top 46) ["_law_bits_here"]
 d3:aj K mg "_law_divisor" (top 34) ["_law_one","_law_other"]
 d4:aj K mg "_law_whole" (top 32) ["_law_found"]
 d5:aj K mg "_law_is_fraction" (top 40) ["_law_found"]
 d6:aj K mg "_law_numbers_whole" (top 38) ["_law_piece"]
 d7:aj K mg "_law_turn" (top 37) ["_law_one","_law_two","_law_three"]
 d8:aj K mg "_law_is_piece" (top 39) ["_law_piece"]
 d9:aj K mg "_law_is_bit" (top 41) ["_law_bit"]
 d10:aj K mg "_law_bits" (top 42) ["_law_bits_here"]
 d11:aj K mg "_law_due" (top 36) ["_law_share","_law_ring"]
 d12:aj K mg "_law_cut_box" (top 48) ["_law_s","_law_h","_law_way"]
 d13:aj K mg "_law_fraction" (top 35) ["_law_top","_law_bottom"]
 d14:aj K mg "_law_led" (top 50) ["_law_move_here","_law_spot"]
 d15:aj K mg "_law_lies" (top 43) ["_law_piece","_law_spot"]
 d16:aj K mg "_law_homes_of" (top 52) ["_law_bits_here","_law_spot"]
 d17:aj K mg "_law_move" (top 47) ["_law_number"]
 d18:aj K mg "_law_numbers" (top 33) ["_law_script","_law_many"]
 d19:aj K mg "_law_pairs" (top 54) ["_law_ways"]
 d20:aj K mg "_law_alike" (top 51) ["_law_one","_law_other"]
 d21:aj K mg "_law_placed" (top 53) ["_law_rows","_law_place","_law_goal"]
 d22:aj K mg "_law_spot_in" (top 49) ["_law_cell","_law_s","_law_h"]
 d23:aj K mg "shared_divisor" (top 4) ["one","other"]
 d24:aj K mg "ratio" (top 6) ["top","bottom"]
 d25:aj K mg "plus" (top 7) ["one","other"]
 d26:aj K mg "signed" (top 9) ["sign","one"]
 d27:aj K mg "led" (top 10) ["move","spot"]
 d28:aj K mg "behind" (top 11) ["first","second"]
 d29:aj K mg "excess" (top 19) ["line","point","share"]
 d30:aj K mg "crossing" (top 21) ["one","one_excess","other","other_excess"]
 d31:aj K mg "neighbours" (top 14) ["ones"]
 d32:aj K mg "points_within" (top 22) ["corners","excesses"]
 d33:aj K mg "turn" (top 15) ["one","middle","other"]
 d34:aj K mg "half_round" (top 16) ["points"]
 d35:aj K mg "outline" (top 17) ["points"]
 d36:aj K mg "settled" (top 18) ["share","points"]
 d37:aj K mg "part_within" (top 23) ["piece","line"]
 d38:aj K mg "side_lines" (top 20) ["piece"]
 d39:aj K mg "common" (top 24) ["one","other"]
 d40:aj K mg "framed" (top 27) ["bit","fine"]
 d41:aj K mg "framed_rising" (top 28) ["bits","fine"]
 d42:aj K mg "near_pairs" (top 29) ["ones","others"]
 d43:aj K mg "shared_multiple" (top 5) ["one","other"]
 d44:aj K mg "pushed" (top 25) ["piece","move"]
 d45:aj K mg "way_back" (top 12) ["move"]
 d46:aj K mg "laid_over" (top 30) ["ones","others"]
 d47:aj K mg "law" (top 55) ["_law_script"]
 b0:mg "len" = none
 b1:mg "range" = none
 b2:mg "abs" = none
 b3:mg "isinstance" = none
 b4:mg "bool" = none
 b5:mg "int" = none
 b6:mg "tuple" = none
 b7:mg "min" = none
 b8:mg "list" = none
 b9:mg "max" = none
 b10:mg "zip" = none
 b11:mg "reversed" = none
 b12:mg "sorted" = none
 b13:mg "set" = none
 t0:∃c T,fQ K "framed_rising" = some (c,T)
def TopF.hid {K K':aH} {mg:Str->Option aB} (T:TopF K mg) (z:kc K K'):TopF K' mg:=by
 cases T;constructor <;> first | assumption | (apply z.def;assumption) | (rename_i h;obtain⟨c,P,e⟩:=h;exact⟨c,P,z.tab e⟩)
section
variable {P:bU} {w:dJ} {K:aH} {mg:Str->Option aB} {base:Heap} (T:TopF K mg)
variable {lc lt:Addr} (W:qf K mg base "framed_rising" lc lt)
theorem DF:jZ (["_law_x","_law_y","_law_most"]:List Str):=by decide +kernel
theorem HV:jZ (["_law_k"]:List Str):=by decide +kernel
theorem FW:jZ (["x","y","divisor"]:List Str):=by decide +kernel
theorem sE:jZ (["x","y","own","factor"]:List Str):=by decide +kernel
theorem KI:jZ (["corner","line","share"]:List Str):=by decide +kernel
theorem KG:jZ (["x","y","fine"]:List Str):=by decide +kernel
theorem KH:jZ (["x","y","fine"]:List Str):=by decide +kernel
theorem FI:jZ (["bit","fine"]:List Str):=by decide +kernel
theorem MV:jZ (["frame","bit"]:List Str):=by decide +kernel
theorem MW:jZ (["frame","up","right","left"]:List Str):=by decide +kernel
theorem MX:jZ (["frame","low"]:List Str):=by decide +kernel
theorem MY:jZ (["bit"]:List Str):=by decide +kernel
theorem KJ:jZ (["x","y","scale","right","up"]:List Str):=by decide +kernel
include T
theorem VA:T.d0.W P w base 1 QA :=
 T.d0.mkD Dc λnd hr =>
 c6 (iC (aC (dP iB (av cH (aq 0) (aq 1)) (av cH (aq 1) (aq 0))) (aC (dP cH (aq 0) (aq 1)) aU)))
theorem ZN:T.d1.W P w base 1 XV :=
 T.d1.mkD Gv λnd hr =>
 aM (cL nd kY)
 (aM (mZ dF rfl (uW T.b1 (aC (pK T.b0 (aq 0)) aU)) (dN nd) (aM (cL nd (kM (aq 0) (av iX (ag 2) bI)))
 (aM (cL nd (kM (aq 0) (ag 2)))
 (fN (cL nd (dP iX (av iB (ag 1) (av cH (aq 3) (aq 4))) (av cH (aq 3) (aq 4))))))))
 (c6 (iC (aC (dv 1) (aC (dP cH (aq 0) (aq 0)) aU)))))
theorem VC:T.d2.W P w base 2 QC :=
 T.d2.mkD Dg λnd hr =>
 aM (cL nd (iC (aC kY (aC kY aU))))
 (aM (mZ dF rfl (jT (dv 0)) (dN nd) (fN (cL nd (bT (VA T) hr (aC (dv 1) (aC (bT (ZN T) hr (aC (dc 2) aU)) aU))))))
 (c6 (dv 1)))
theorem mI:T.d3.W P w base 1 BT :=
 T.d3.mkD ND λnd hr =>
 aM (cL nd (pJ HK T.b2 tD (aC (dv 0) aU)))
 (aM (cL nd (pJ HK T.b2 tD (aC (dv 1) aU)))
 (aM (JS dF (fW SO (ag 1) bI) (fN (Xe rfl nd (aC (dv 1) (aC (dP lA (ag 0) (ag 1)) aU)))))
 (c6 (dv 0))))
theorem oO:T.d4.W P w base 1 IN :=
 T.d4.mkD TF λnd hr =>
 c6 (MJ (zY (Ve _) T.b3 T.b5 yG (dv 0)) (RL (Xd (zY (Rn _) T.b3 T.b4 Fe (dv 0)))))
theorem uG:T.d5.W P w base 2 Eu :=
 T.d5.mkD Me λnd hr =>
 aM (kR (DW.tst (sC (oS (oB (zY (vC _) T.b3 T.b6 rG (dv 0)))) (sC (fW AH (eb (pK T.b0 (ag 0))) bI) (sC (oS (oB (bT (oO T) hr (aC (dc 0) aU)))) (xO (oS (oB (bT (oO T) hr (aC (dc 0) aU))))))))) (c6 rH) gR)
 (c6 (MJ (vW SO (aq 0) bI) (RL (vW sG (eb (bT (mI T) hr (aC (dc 0) (aC (dc 0) aU)))) bI))))
theorem BK:T.d6.W P w base 2 QG :=
 T.d6.mkD AJ λnd hr =>
 aM (kR (DW.tst (sC (oS (oB (zY (vC _) T.b3 T.b6 rG (dv 0)))) (sC (fW AH (eb (pK T.b0 (ag 0))) bI) (sC (oS (oB (bT (oO T) hr (aC (dc 0) aU)))) (xO (fW wY (aq 0) bI)))))) (c6 rH) gR)
 (aM (kR (DW.tst (sC (oS (oB (zY (vC _) T.b3 T.b6 rG (dc 0)))) (xO (fW wY (eb (pK T.b0 (aq 0))) bI)))) (c6 rH) gR)
 (aM (mZ dF rfl (RN (dc 0)) (dN nd) (aM (kR (DW.tst (sC (oS (oB (zY (vC _) T.b3 T.b6 rG (dv 1)))) (xO (fW AH (eb (pK T.b0 (ag 1))) bI)))) (c6 rH) gR)
 (fN (kR (DW.tst (sC (oS (oB (bT (oO T) hr (aC (dc 1) aU)))) (xO (oS (oB (bT (oO T) hr (aC (dc 1) aU))))))) (c6 rH) gR))))
 (c6 rH)))
theorem ZQ:T.d7.W P w base 1 XZ :=
 T.d7.mkD VH λnd hr =>
 aM (cL nd (dP cH (av iX (aq 1) (aq 0)) (av iX (aq 2) (aq 1))))
 (c6 (dP iX (ag 3) (av cH (av iX (aq 1) (aq 0)) (av iX (aq 2) (aq 1)))))
theorem NA:T.d8.W P w base 3 Nf :=
 T.d8.mkD (N:=["_law_piece","_law_share","_law_corners","_law_most","_law_falls","_law_k"]) KY λnd hr =>
 aM (kR (oS (oB (bT (BK T) hr (aC (dv 0) aU)))) (c6 rH) gR)
 (aM (Fp (dv 0) (pL rfl (fB (dN nd) (fB (dN nd) mO))))
 (aM (cL nd (dv 1))
 (aM (cL nd kY)
 (aM (mZ dF rfl (uW T.b1 (aC (pK T.b0 (ag 2)) aU)) (dN nd) (aM (cL nd (bT (mI T) hr (aC (bT (mI T) hr (aC (dv 3) (aC (kM (eb (kM (ag 2) (ag 5))) bI) aU))) (aC (kM (eb (kM (ag 2) (ag 5))) bI) aU))))
 (aM (kR (fW Je (eb (bT (ZQ T) hr (aC (kM (ag 2) (av iX (ag 5) bI)) (aC (kM (ag 2) (av iX (ag 5) bI)) (aC (kM (ag 2) (ag 5)) aU))))) bI) (c6 rH) gR)
 (fN (kR (DW.tst (CS (fW (Qc hr) (eb (kM (ag 2) (av iX (ag 5) bI))) (eb (kM (ag 2) (av iX (ag 5) bI)))) (ES (fW (Qc hr) (eb (kM (ag 2) (av iX (ag 5) bI))) (eb (kM (ag 2) (ag 5))))))) (fN (cL nd (dP iB (ag 4) bI))) gR)))))
 (c6 (MJ (vW sG (ag 3) bI) (MJ (vW sG (ag 4) bI) (RL (vW (Wj hr) (aq 2) (eb (Il hr T.b7 rfl (ag 2))))))))))))
theorem SU:T.d9.W P w base 4 QF :=
 T.d9.mkD Do λnd hr =>
 aM (kR (DW.tst (sC (oS (oB (zY (vC _) T.b3 T.b6 rG (dv 0)))) (sC (fW AH (eb (pK T.b0 (ag 0))) bI) (xO (oS (oB (bT (NA T) hr (aC (dc 0) aU)))))))) (c6 rH) gR)
 (aM (cL nd (dc 0))
 (aM (kR (DW.tst (sC (oS (oB (zY (vC _) T.b3 T.b6 rG (dv 1)))) (sC (fW AH (eb (pK T.b0 (ag 1))) bI) (sC (oS (oB (bT (oO T) hr (aC (dc 1) aU)))) (xO (fW AH (eb (pJ HK T.b2 tD (aC (dc 1) aU))) bI)))))) (c6 rH) gR)
 (c6 (MJ (bT (uG T) hr (aC (dc 1) aU)) (RL (bT (uG T) hr (aC (dc 1) aU)))))))
theorem ZO:T.d10.W P w base 5 XW :=
 T.d10.mkD Gw λnd hr =>
 aM (kR (oS (oB (zY (Ro _) T.b3 T.b8 Ff (dv 0)))) (c6 rH) gR)
 (aM (mZ dF rfl (jT (dv 0)) (dN nd) (fN (kR (oS (oB (bT (SU T) hr (aC (dv 1) aU)))) (c6 rH) gR)))
 (c6 rH))
theorem pO:T.d11.W P w base 2 VQ :=
 T.d11.mkD (N:=["_law_share","_law_ring","_law_most","_law_x","_law_y","_law_corners","_law_at"]) ZU λnd hr =>
 aM (cL nd (dv 0))
 (aM (mZ dF rfl (jT (dv 1)) (pL rfl (fB (dN nd) (fB (dN nd) mO))) (fN (cL nd (bT (mI T) hr (aC (bT (mI T) hr (aC (dv 2) (aC (dv 3) aU))) (aC (dv 4) aU))))))
 (aM (ER ["_law_x","_law_y","_law_most"] 2 [2] nd (jT (dv 1)) (λcl C s H fp=>pL rfl (fB (dN DF) (fB (dN DF) mO))) (λcl C s H fp=>iC (aC (dP iZ (ag 0) (ag 2)) (aC (dP iZ (ag 1) (ag 2)) aU))))
 (aM (cL nd (Om hr (ag 5) (Il hr T.b7 rfl (ag 5))))
 (c6 (iC (aC (dP iZ (ag 0) (ag 2)) (aC (Bi T.b6 (av KK (eb (CN (ag 5) (EQ (dv 6)) EO)) (eb (CN (ag 5) EO (EQ (dv 6)))))) aU)))))))
theorem OZ:T.d12.W P w base 3 IJ :=
 T.d12.mkD Dj λnd hr =>
 aM (cL nd (dP cH (aq 0) (aq 1)))
 (aM (cL nd (dP cH (aq 0) (aq 1)))
 (aM (cL nd (dP cH (aq 1) (aq 0)))
 (aM (kR (fW wY (ag 2) bI) (aM (cL nd (iC (aC kY (aC kY aU))))
 (aM (cL nd (iC (aC (dv 3) (aC (dv 4) aU))))
 (aM (cL nd (iC (aC (dv 3) (aC (dP iB (ag 4) (ag 5)) aU))))
 (aM (cL nd (iC (aC kY (aC (dv 5) aU))))
 (aM (kR (fW sG (ag 2) bI) (c6 (DO.val (lU (aC (bT (pO T) hr (aC (dv 3) (aC (DO.val (lU (aC (dv 6) (aC (dv 7) (aC (dv 8) (aC (dv 9) aU)))))) aU))) aU)))) gR)
 (aM (kR (fW sG (ag 2) bI) (c6 (DO.val (lU (aC (bT (pO T) hr (aC (dv 3) (aC (DO.val (lU (aC (dv 6) (aC (dv 7) (aC (dv 8) aU))))) aU))) (aC (bT (pO T) hr (aC (dv 3) (aC (DO.val (lU (aC (dv 6) (aC (dv 8) (aC (dv 9) aU))))) aU))) aU))))) gR)
 (c6 (DO.val (lU (aC (bT (pO T) hr (aC (dv 3) (aC (DO.val (lU (aC (dv 6) (aC (dv 7) (aC (dv 9) aU))))) aU))) (aC (bT (pO T) hr (aC (dv 3) (aC (DO.val (lU (aC (dv 7) (aC (dv 8) (aC (dv 9) aU))))) aU))) aU))))))))))) gR)
 (aM (cL nd (DO.val (lU (aC (iC (aC (dv 3) (aC (dv 4) aU))) (aC (iC (aC (dv 3) (aC (dP iB (ag 4) (av cH bI (ag 5))) aU))) aU)))))
 (aM (cL nd (bT (pO T) hr (aC (dP cH bI (ag 3)) (aC (DO.val (lU (aC (iC (aC kY (aC kY aU))) (aC (dc 10) (aC (dc 10) (aC (iC (aC kY (aC (dP cH bI (ag 5)) aU))) aU)))))) aU))))
 (c6 (DO.val (lU (aC (dv 11) (aC (bT (pO T) hr (aC (dP cH bI (ag 3)) (aC (DO.val (lU (aC (dc 10) (aC (iC (aC (dP cH bI (ag 3)) (aC (dP cH bI (ag 4)) aU))) (aC (iC (aC (dP cH bI (ag 3)) (aC (dP iB (av cH bI (ag 4)) (av cH bI (ag 5))) aU))) (aC (dc 10) aU)))))) aU))) aU))))))))))
theorem qA:T.d13.W P w base 2 Hs :=
 T.d13.mkD KW λnd hr =>
 aM (cL nd (bT (mI T) hr (aC (dv 0) (aC (dv 1) aU))))
 (c6 (iC (aC (dP iZ (ag 0) (ag 2)) (aC (dP iZ (ag 1) (ag 2)) aU))))
theorem NZ:T.d14.W P w base 1 XY :=
 T.d14.mkD Mh λnd hr =>
 aM (Fp (dv 0) (pL rfl (fB (dN nd) (fB (dN nd) (fB (dN nd) mO)))))
 (aM (cL nd (dP cH (av iB (av cH (av cH (ag 2) (aq 1)) (aq 3)) (av cH (aq 3) (aq 1))) (aq 4)))
 (aM (cL nd (dP cH (av iB (av cH (av cH (ag 2) (aq 1)) (aq 4)) (av cH (aq 4) (aq 1))) (aq 3)))
 (c6 (iC (aC (dv 5) (aC (dv 6) (aC (dP cH (av cH (aq 1) (aq 3)) (aq 4)) aU)))))))
theorem KM:T.d15.W P w base 1 IK :=
 T.d15.mkD (N:=["_law_piece","_law_spot","_law_share","_law_corners","_law_least","_law_k","_law_one","_law_x","_law_y","_law_side"]) PJ λnd hr =>
 aM (Fp (dv 0) (pL rfl (fB (dN nd) (fB (dN nd) mO))))
 (aM (cL nd xM)
 (aM (mZ dF rfl (uW T.b1 (aC (pK T.b0 (ag 3)) aU)) (dN nd) (aM (cL nd (kM (ag 3) (av iX (ag 5) bI)))
 (aM (cL nd (dP iX (av cH (aq 1) (ag 2)) (av cH (aq 6) (aq 1))))
 (aM (cL nd (dP iX (av cH (aq 1) (ag 2)) (av cH (aq 6) (aq 1))))
 (aM (cL nd (dP iX (av cH (av iX (eb (kM (eb (kM (ag 3) (ag 5))) bI)) (aq 6)) (ag 8)) (av cH (av iX (eb (kM (eb (kM (ag 3) (ag 5))) bI)) (aq 6)) (ag 7))))
 (fN (kR (DW.tst (sC (fW Qb (ag 4) (eb xM)) (xO (fW wY (ag 9) (ag 4))))) (fN (cL nd (dv 9))) gR)))))))
 (c6 (dP iX (eb (EN YL T.b5 yG (aC (vW SO (ag 4) bI) aU))) (eb (EN YL T.b5 yG (aC (vW wY (ag 4) bI) aU)))))))
theorem yN:T.d16.W P w base 2 QD :=
 T.d16.mkD Dm λnd hr =>
 aM (AA nd (lU aU))
 (aM (mZ dF rfl (jT (dv 0)) (pL rfl (fB (dN nd) (fB (dN nd) mO))) (aM (cL nd (bT (KM T) hr (aC (dv 3) (aC (dv 1) aU))))
 (aM (kR (fW sG (ag 5) bI) (c6 xM) gR)
 (fN (kR (fW sG (ag 5) bI) (fN (tE 2 (bT (NZ T) hr (aC (dv 4) (aC (dv 1) aU))))) gR)))))
 (fN (CP 2 (CQ (dv 2)))))
theorem ZP:T.d17.W P w base 3 IL :=
 T.d17.mkD Dp λnd hr =>
 aM (cL nd (kM (eb (DO.val (lU (aC kY (aC (dP SQ bI bI) aU))))) (av lA (av iZ (ag 0) bI) bI)))
 (aM (cL nd (bT (qA T) hr (aC (dP iX (av lA (av cH (av lA (av cH (ag 0) bI) bI) bI) (av iB (av cH bI (ag 1)) bI)) (ag 1)) (aC (dP iB bI (av lA (av iZ (ag 0) bI) bI)) aU))))
 (aM (cL nd (bT (qA T) hr (aC (dP iX (av lA (ag 0) (av iB (av cH bI (ag 1)) bI)) (ag 1)) (aC (dP iB bI (av lA (av iZ (ag 0) bI) bI)) aU))))
 (c6 (iC (aC (dP iX bI (av cH bI (av lA (ag 0) bI))) (aC (dv 2) (aC (dv 3) aU)))))))
theorem PB:T.d18.W P w base 1 LM :=
 T.d18.mkD NE λnd hr =>
 aM (ER ["_law_k"] 1 [] nd (uW T.b1 (aC (dv 1) aU)) (λcl C s H fp=>dN HV) (λcl C s H fp=>kY))
 (aM (mZ dF rfl (uW T.b1 (aC (pJ (Ib rfl) T.b9 WB (aC (dv 1) (aC (pJ (Ic rfl) T.b7 WC (aC (pK T.b0 (ag 0)) (aC kY aU))) aU))) aU)) (dN nd) (aM (cL nd kY)
 (aM (kR (fW SO (eb (pK T.b0 (ag 0))) bI) (fN (cL nd (dP lA (eb (kM (ag 0) (av lA (ag 3) (eb (pJ (Ic rfl) T.b7 WC (aC (pK T.b0 (ag 0)) (aC kY aU))))))) (av iB (av SQ bI bI) bI)))) gR)
 (aM (cL nd (dP lA (ag 3) (ag 1)))
 (fN (Os 2 (dP lA (av iB (av iB (av cH (eb (kM (ag 2) (ag 5))) bI) (ag 4)) (av cH (ag 3) (ag 3))) (av iB (av SQ bI bI) bI)) (dv 5)))))))
 (fN (CP 2 (CQ (dv 2)))))
theorem VD:T.d19.W P w base 1 YA :=
 T.d19.mkD Gy λnd hr =>
 aM (kR (DW.tst (sC (fW sG (aq 0) bI) (sC (fW sG (aq 0) bI) (xO (fW (Wj hr) (aq 0) (aq 0)))))) (c6 (pJ (Ib rfl) T.b9 WB (aC (dP iB bI (eb (EN YL T.b5 yG (aC (vW SO (aq 0) bI) aU)))) (aC (dP iB bI (eb (EN YL T.b5 yG (aC (vW SO (aq 0) bI) aU)))) aU)))) gR)
 (c6 kY)
theorem VB:T.d20.W P w base 1 QB :=
 T.d20.mkD Df λnd hr =>
 c6 (MJ (vW sG (av cH (aq 0) (aq 1)) (av cH (aq 1) (aq 0))) (RL (vW sG (av cH (aq 0) (aq 1)) (av cH (aq 1) (aq 0)))))
theorem SV:T.d21.W P w base 2 QI :=
 T.d21.mkD Dq λnd hr =>
 aM (mZ dF rfl (jT (dv 0)) (pL rfl (fB (dN nd) (fB (dN nd) mO))) (aM (cL nd (bT (KM T) hr (aC (dv 3) (aC (dv 1) aU))))
 (aM (kR (fW sG (ag 5) bI) (c6 rH) gR)
 (fN (kR (DW.tst (CS (fW sG (ag 5) bI) (ES (oB (bT (VB T) hr (aC (bT (NZ T) hr (aC (dv 4) (aC (dv 1) aU))) (aC (dv 2) aU))))))) (c6 rH) gR)))))
 (c6 rH)
theorem PC:T.d22.W P w base 1 QM :=
 T.d22.mkD (N:=["_law_cell","_law_s","_law_h","_law_number","_law_x","_law_y","_law_share"]) Du λnd hr =>
 aM (cL nd (dP lA (av cH (av cH (av iB (av lA (ag 0) (av SQ bI bI)) bI) (av iB (av lA (ag 0) (av SQ bI bI)) bI)) bI) bI))
 (aM (cL nd (dP iB bI (av lA (ag 3) bI)))
 (aM (cL nd (dP iB bI (av lA (av lA (av cH (ag 3) bI) bI) bI)))
 (aM (cL nd (dP cH (av cH (av cH bI bI) (aq 1)) (aq 2)))
 (c6 (iC (aC (dP cH (av cH (av cH (ag 4) bI) (aq 1)) (aq 2)) (aC (dP iB (av cH (av cH (av cH (ag 4) (aq 1)) bI) (aq 2)) (av cH (av cH (av cH (ag 5) (aq 2)) bI) (aq 1))) (aC (dv 6) aU))))))))
theorem pC:T.d23.W P w base 1 BT :=
 T.d23.mkD FJ λnd hr =>
 aM (cL nd (pJ HK T.b2 tD (aC (dv 0) aU)))
 (aM (cL nd (pJ HK T.b2 tD (aC (dv 1) aU)))
 (aM (JS dF (fW AH (ag 3) bI) (aM (cL nd (dP lA (ag 2) (ag 3)))
 (aM (cL nd (dv 3))
 (fN (cL nd (dv 4))))))
 (c6 (dv 2))))
theorem Qd:T.d24.W P w base 2 IM :=
 T.d24.mkD Gz λnd hr =>
 aM (kR (fW sG (ag 1) bI) (fN Oq) gR)
 (aM (cL nd (bT (pC T) hr (aC (dv 0) (aC (dv 1) aU))))
 (aM (kR (fW wY (ag 1) bI) (fN (cL nd (CO wD (ag 2)))) gR)
 (c6 (iC (aC (dP iZ (ag 0) (ag 2)) (aC (dP iZ (ag 1) (ag 2)) aU))))))
theorem Jg:T.d25.W P w base 3 LN :=
 T.d25.mkD Mj λnd hr =>
 c6 (bT (Qd T) hr (aC (dP iB (av cH (aq 0) (aq 1)) (av cH (aq 1) (aq 0))) (aC (dP cH (aq 0) (aq 1)) aU)))
theorem EU:T.d26.W P w base 1 qK :=
 T.d26.mkD Dt λnd hr =>
 c6 (iC (aC (dP cH (ag 0) (aq 1)) (aC (dc 1) aU)))
theorem Yi:T.d27.W P w base 4 Al :=
 T.d27.mkD Qs λnd hr =>
 aM (cL nd (dc 0))
 (c6 (iC (aC (bT (Jg T) hr (aC (bT (EU T) hr (aC (dv 2) (aC (dc 1) aU))) (aC (dc 0) aU))) (aC (bT (Jg T) hr (aC (bT (EU T) hr (aC (dv 2) (aC (dc 1) aU))) (aC (dc 0) aU))) aU))))
theorem Ls:T.d28.W P w base 5 vJ :=
 T.d28.mkD Dh λnd hr =>
 aM (cL nd (bT (Yi T) hr (aC (dv 1) (aC (iC (aC (dc 0) (aC (dc 0) aU))) aU))))
 (c6 (iC (aC (dP cH (aq 0) (aq 1)) (aC (dc 2) (aC (dc 2) aU)))))
theorem Lv:T.d29.W P w base 1 BR :=
 T.d29.mkD Dk λnd hr =>
 c6 (dP iX (av iB (av cH (aq 0) (aq 1)) (av cH (aq 0) (aq 1))) (av cH (aq 0) (ag 2)))
theorem Cs:T.d30.W P w base 1 XX :=
 T.d30.mkD VG λnd hr =>
 aM (cL nd (pJ HK T.b2 tD (aC (dv 1) aU)))
 (aM (cL nd (pJ HK T.b2 tD (aC (dv 3) aU)))
 (c6 (iC (aC (dP iB (av cH (aq 0) (ag 5)) (av cH (aq 2) (ag 4))) (aC (dP iB (av cH (aq 0) (ag 5)) (av cH (aq 2) (ag 4))) (aC (dP iB (ag 4) (ag 5)) aU))))))
theorem FZ:T.d31.W P w base 1 PN :=
 T.d31.mkD PK λnd hr =>
 c6 (DO.val (RP T.b8 T.b10 rfl (ag 0) (av KK (eb (CN (ag 0) (EQ kY) EO)) (eb (CN (ag 0) EO (EQ kY))))))
theorem NB:T.d32.W P w base 2 QJ :=
 T.d32.mkD HX λnd hr =>
 aM (AA nd (lU aU))
 (aM (mZ dF rfl (jT (bT (FZ T) hr (aC (DO.val (RP T.b8 T.b10 rfl (ag 0) (ag 1))) aU))) (pL rfl (fB (dN nd) (fB (dN nd) mO))) (aM (kR (fW Je (aq 3) bI) (fN (tE 2 (iC (aC (kM (aq 3) bI) (aC (kM (aq 3) bI) (aC kY aU)))))) gR)
 (fN (kR (fW wY (av cH (aq 3) (aq 4)) bI) (fN (tE 2 (bT (Cs T) hr (aC (dc 3) (aC (dc 3) (aC (dc 4) (aC (dc 4) aU))))))) gR))))
 (fN (CP 2 (CQ (dv 2)))))
theorem To:T.d33.W P w base 1 zD :=
 T.d33.mkD Mk λnd hr =>
 aM (cL nd (dP cH (av iX (aq 1) (aq 0)) (av iX (aq 2) (aq 0))))
 (aM (cL nd (dP cH (av iX (aq 1) (aq 0)) (av iX (aq 2) (aq 0))))
 (c6 (dP iX (ag 3) (ag 4))))
theorem FY:T.d34.W P w base 2 Et :=
 T.d34.mkD PH λnd hr =>
 aM (AA nd (lU aU))
 (aM (mZ dF rfl (jT (dv 0)) (dN nd) (aM (JS dF (DW.tst (CS (fW SO (eb (pK T.b0 (ag 1))) bI) (ES (fW Je (eb (bT (To T) hr (aC (kM (ag 1) (eb (CO wD bI))) (aC (kM (ag 1) (eb (CO wD bI))) (aC (dv 2) aU))))) bI)))) (fN (Xf 1)))
 (fN (tE 1 (dv 2)))))
 (c6 (CN (ag 1) EO (EQ (CO wD bI)))))
theorem Gr:T.d35.W P w base 3 xZ :=
 T.d35.mkD ZV λnd hr =>
 aM (cL nd (DO.val (Fo hr T.b12 T.b13 rfl (ag 0))))
 (c6 (dP KK (eb (bT (FY T) hr (aC (dv 1) aU))) (eb (bT (FY T) hr (aC (DO.val (Fl T.b8 T.b11 rfl (ag 1))) aU)))))
theorem SX:T.d36.W P w base 4 rF :=
 T.d36.mkD ZW λnd hr =>
 aM (cL nd (bT (Gr T) hr (aC (dv 1) aU)))
 (aM (kR (fW wY (eb (pK T.b0 (ag 2))) bI) (c6 xM) gR)
 (aM (cL nd (dv 0))
 (aM (mZ dF rfl (jT (dv 2)) (pL rfl (fB (dN nd) (fB (dN nd) mO))) (fN (cL nd (bT (pC T) hr (aC (bT (pC T) hr (aC (dv 3) (aC (dv 4) aU))) (aC (dv 5) aU))))))
 (c6 (iC (aC (dP iZ (ag 0) (ag 3)) (aC (Bi T.b6 (eb (DO.val (JR ["x","y","divisor"] 2 [3] (jT (dv 2)) (λcl C s H fp=>pL rfl (fB (dN FW) (fB (dN FW) mO))) (λcl C s H fp=>iC (aC (dP iZ (ag 0) (ag 2)) (aC (dP iZ (ag 1) (ag 2)) aU))))))) aU)))))))
theorem SW:T.d37.W P w base 5 QH :=
 T.d37.mkD NF λnd hr =>
 aM (cL nd (dc 0))
 (aM (ER ["corner","line","share"] 1 [1,2] nd (RN (dc 0)) (λcl C s H fp=>dN KI) (λcl C s H fp=>bT (Lv T) hr (aC (dv 1) (aC (dv 0) (aC (dv 2) aU)))))
 (aM (kR (fW Je (eb (YO T.b9 rfl (ag 3))) bI) (c6 (dv 0)) gR)
 (aM (kR (fW D5 (eb (YQ T.b7 rfl (ag 3))) bI) (c6 xM) gR)
 (aM (CP 3 (cL nd (bT (NB T) hr (aC (dc 0) (aC (dv 3) aU)))))
 (aM (cL nd kY)
 (aM (mZ dF rfl (jT (dv 4)) (dN nd) (fN (cL nd (dP cH (ag 5) (aq 6)))))
 (aM (ER ["x","y","own","factor"] 3 [5] nd (jT (dv 4)) (λcl C s H fp=>pL rfl (fB (dN sE) (fB (dN sE) (fB (dN sE) mO)))) (λcl C s H fp=>iC (aC (dP cH (ag 0) (av iZ (ag 3) (ag 2))) (aC (dP cH (ag 1) (av iZ (ag 3) (ag 2))) aU))))
 (fN (CP 7 (CQ (bT (SX T) hr (aC (dP cH (ag 2) (ag 5)) (aC (dv 7) aU)))))))))))))
theorem VF:T.d38.W P w base 2 QL :=
 T.d38.mkD PL λnd hr =>
 aM (cL nd (dc 0))
 (aM (AA nd (lU aU))
 (aM (mZ dF rfl (jT (bT (FZ T) hr (aC (dc 0) aU))) (pL rfl (fB (dN nd) (fB (dN nd) mO))) (aM (cL nd (dP iX (aq 4) (aq 3)))
 (aM (cL nd (dP iX (aq 4) (aq 3)))
 (fN (tE 2 (iC (aC (dP cH (ag 1) (ag 6)) (aC (dP cH (eb (CO wD (ag 1))) (ag 5)) (aC (dP iX (av cH (ag 6) (aq 3)) (av cH (ag 5) (aq 3))) aU)))))))))
 (fN (CP 2 (CQ (dv 2))))))
theorem Lu:T.d39.W P w base 6 vK :=
 T.d39.mkD Di λnd hr =>
 aM (cL nd (dv 0))
 (aM (mZ dF rfl (jT (bT (VF T) hr (aC (dv 1) aU))) (dN nd) (aM (cL nd (bT (SW T) hr (aC (dv 2) (aC (dv 3) aU))))
 (fN (kR (fW Qb (ag 2) (eb xM)) (c6 xM) gR))))
 (c6 (dv 2)))
theorem Lw:T.d40.W P w base 1 BS :=
 T.d40.mkD Dl λnd hr =>
 aM (cL nd (kM (aq 0) bI))
 (aM (ER ["x","y","fine"] 2 [1] nd (RN (kM (aq 0) bI)) (λcl C s H fp=>pL rfl (fB (dN KH) (fB (dN KH) mO))) (λcl C s H fp=>dP cH (ag 0) (ag 2)))
 (aM (ER ["x","y","fine"] 2 [1] nd (RN (kM (aq 0) bI)) (λcl C s H fp=>pL rfl (fB (dN KG) (fB (dN KG) mO))) (λcl C s H fp=>dP cH (ag 1) (ag 2)))
 (c6 (iC (aC (dP iZ (eb (YQ T.b7 rfl (ag 3))) (ag 2)) (aC (CO wD (av iZ (eb (CO wD (eb (YO T.b9 rfl (ag 3))))) (ag 2))) (aC (dP iZ (eb (YQ T.b7 rfl (ag 4))) (ag 2)) (aC (CO wD (av iZ (eb (CO wD (eb (YO T.b9 rfl (ag 4))))) (ag 2))) (aC (dv 0) aU)))))))))
include W in
theorem yO:T.d41.W P w base 4 QK :=
 T.d41.mkC W (N:=["bits","fine"]) Ds λnd hr fj =>
 c6 (DO.val (Kx (k:=0) hr T.b12 W (by decide) fj (eb (DO.val (JR ["bit","fine"] 1 [1] (jT (dv 0)) (λcl C s H fp=>dN FI) (λcl C s H fp=>bT (Lw T) hr (aC (dv 0) (aC (dv 1) aU)))))) (by rfl)))
include W in
theorem VE:T.d42.W P w base 5 Ew :=
 T.d42.mkD Mi λnd hr =>
 aM (cL nd (So T.b9 rfl (eb (DO.val (JR ["bit"] 1 [] (jT (dP KK (ag 0) (ag 1))) (λcl C s H fp=>dN MY) (λcl C s H fp=>kM (aq 0) bI))))))
 (aM (cL nd (bT (yO T W) hr (aC (dv 1) (aC (dv 2) aU))))
 (aM (cL nd kY)
 (aM (AA nd (lU aU))
 (aM (AA nd (lU aU))
 (aM (mZ dF rfl (jT (bT (yO T W) hr (aC (dv 0) (aC (dv 2) aU)))) (pL rfl (fB (dN nd) (fB (dN nd) (fB (dN nd) (fB (dN nd) (fB (dN nd) mO)))))) (aM (JS dF (DW.tst (CS (fW wY (ag 4) (eb (pK T.b0 (ag 3)))) (ES (fW wY (eb (kM (eb (kM (ag 3) (ag 4))) bI)) (ag 10))))) (aM (tE 5 (kM (ag 3) (ag 4)))
 (fN (cL nd (dP iB (ag 4) bI)))))
 (aM (CP 5 (RQ ["frame","low"] 1 [9] nd (DI.s (jT (dv 5))) (λcl C s H fp=>dN MX) (λcl C s H fp=>Bl (fW wY (ag 1) (aq 0))) (λcl C s H fp=>dv 0)))
 (aM (RQ ["frame","up","right","left"] 1 [10,8,7] nd (Sq 5) (λcl C s H fp=>dN MW) (λcl C s H fp=>Bl (DW.tst (CS (fW wY (aq 0) (ag 1)) (CS (fW wY (aq 0) (ag 2)) (ES (fW wY (ag 3) (aq 0))))))) (λcl C s H fp=>dv 0))
 (fN (CP 12 (Ky 6 (DO.val (JR ["frame","bit"] 1 [11] (jT (dv 12)) (λcl C s H fp=>dN MV) (λcl C s H fp=>iC (aC (dv 1) (aC (dc 0) aU))))))))))))
 (fN (CP 6 (CQ (dv 6)))))))))
theorem vZ:T.d43.W P w base 2 Ng :=
 T.d43.mkD DK λnd hr =>
 c6 (dP cH (ag 0) (av iZ (ag 1) (eb (bT (pC T) hr (aC (dv 0) (aC (dv 1) aU))))))
theorem Lx:T.d44.W P w base 5 vL :=
 T.d44.mkD Dr λnd hr =>
 aM (cL nd (dc 1))
 (aM (cL nd (dc 1))
 (aM (cL nd (bT (vZ T) hr (aC (bT (vZ T) hr (aC (dc 0) (aC (dc 2) aU))) (aC (dc 3) aU))))
 (aM (cL nd (dP cH (aq 1) (av iZ (ag 4) (aq 0))))
 (aM (cL nd (dP cH (aq 2) (av iZ (ag 4) (aq 2))))
 (aM (cL nd (dP cH (aq 3) (av iZ (ag 4) (aq 3))))
 (c6 (bT (SX T) hr (aC (dv 4) (aC (DO.val (JR ["x","y","scale","right","up"] 2 [5,6,7] (RN (dc 0)) (λcl C s H fp=>pL rfl (fB (dN KJ) (fB (dN KJ) mO))) (λcl C s H fp=>iC (aC (dP iB (av cH (ag 2) (ag 0)) (ag 3)) (aC (dP iB (av cH (ag 2) (ag 1)) (ag 4)) aU))))) aU)))))))))
theorem Ct:T.d45.W P w base 2 qX :=
 T.d45.mkD VI λnd hr =>
 aM (cL nd (dc 0))
 (c6 (iC (aC (dv 1) (aC (bT (EU T) hr (aC (CO wD (ag 1)) (aC (dc 0) aU))) (aC (bT (EU T) hr (aC (CO wD (ag 1)) (aC (dc 0) aU))) aU)))))
include W in
theorem ZR:T.d46.W P w base 7 Ev :=
 T.d46.mkD Mf λnd hr =>
 aM (AA nd (lU aU))
 (aM (mZ dF rfl (jT (bT (VE T W) hr (aC (dv 0) (aC (dv 1) aU)))) (pL rfl (fB (dN nd) (fB (dN nd) mO))) (aM (cL nd (bT (Lu T) hr (aC (dc 3) (aC (dc 4) aU))))
 (fN (kR (fW ZM (ag 5) (eb xM)) (fN (tE 2 (iC (aC (bT (Lx T) hr (aC (dv 5) (aC (dc 3) aU))) (aC (bT (Ls T) hr (aC (bT (Ct T) hr (aC (dc 3) aU)) (aC (dc 4) aU))) aU))))) gR))))
 (fN (CP 2 (CQ (dv 2)))))
include W in
theorem Xi {f:Addr} {fd:lO} (Fu:qc K "law" "law" (top 55) f fd):iw P w K mg base ka 8 f fd ["_law_script"] (p_ K (Kk 63)) :=
 Ye Fu Td Gx λnd hr =>
 aM (cL nd (bT (PB T) hr (aC (dv 0) (aC kY aU))))
 (aM (cL nd (bT (qA T) hr (aC (dP iX (av lA (aq 1) bI) bI) (aC (dP iB bI (av lA (av iZ (aq 1) bI) bI)) aU))))
 (aM (cL nd (bT (qA T) hr (aC (dP iB bI (av lA (aq 1) bI)) (aC (dP iB bI (av lA (av iZ (aq 1) bI) bI)) aU))))
 (aM (cL nd (DO.val (lU (aC (dP lA (aq 1) bI) (aC (dP lA (aq 1) bI) aU)))))
 (aM (Ss nd)
 (aM (mZ dF rfl (uW T.b1 (aC kY aU)) (dN nd) (fN (mZ dF rfl (jT (bT (OZ T) hr (aC (dv 2) (aC (dv 3) (aC (kM (ag 4) (ag 6)) aU))))) (dN nd) (fN (Sr 5 (dv 6) (iC (aC (dv 7) (aC (bT (ZP T) hr (aC (kM (ag 1) (av iB (av iB bI (av cH bI (ag 6))) (eb (pK T.b0 (Xc 5 (dv 6)))))) aU)) aU))))))))
 (aM (CP 5 (cL nd (DO.val (lU (aC (WN T.b8 (aq 5)) (aC (WN T.b8 (aq 5)) aU))))))
 (aM (cL nd (bT (ZR T W) hr (aC (dc 8) (aC (dc 8) aU))))
 (aM (kR (DW.tst (sC (oS (oB (bT (ZO T) hr (aC (dv 9) aU)))) (sC (fW (Yh hr) (ag 8) (ag 5)) (xO (fW AH (eb (pK T.b0 (ag 9))) (eb (bT (VD T) hr (aC (dv 4) aU)))))))) (c6 rH) gR)
 (aM (cL nd (bT (VC T) hr (aC (dv 9) aU)))
 (aM (kR (fW AH (av cH (aq 10) (aq 3)) (av cH (av cH bI (aq 3)) (aq 10))) (c6 rH) gR)
 (aM (mZ dF rfl (jT (dP KK (eb (DO.val (Op (ag 0) EO (EQ kY)))) (eb (DO.val (lU (aC (dc 1) aU)))))) (dN nd) (aM (cL nd (bT (PC T) hr (aC (dv 11) (aC (dv 2) (aC (dv 3) aU)))))
 (aM (cL nd (bT (yN T) hr (aC (dc 5) (aC (dv 12) aU))))
 (aM (cL nd (bT (yN T) hr (aC (dc 5) (aC (dv 12) aU))))
 (fN (kR (DW.tst (CS (fW ZM (ag 13) (eb xM)) (CS (fW ZM (ag 14) (eb xM)) (ES (oS (oB (bT (SV T) hr (aC (dv 9) (aC (dc 13) (aC (dc 14) aU)))))))))) (c6 rH) gR))))))
 (c6 rH))))))))))))
theorem law_fn {f:Addr} {fd:lO} (TW:VT K mg base) (Fu:qc K "law" "law" (top 55) f fd):iw P w K mg base ka 8 f fd ["_law_script"] (p_ K (Kk 63)):=by
 obtain⟨c,t,e⟩:=T.t0;exact Xi T (TW "framed_rising" _ _ (by decide) e) Fu
end
end K41
end
end L2.R2
namespace PySem.W.Fast
theorem tw4053909403861096934:True:=⟨⟩
theorem tw13034665050707896866:True:=⟨⟩
theorem tw17895250624021819665:True:=⟨⟩
theorem tw9490224896150831231:True:=⟨⟩
theorem tw6239269857102745095:True:=⟨⟩
theorem tw8654749897955767619:True:=⟨⟩
theorem tw11394092948125246997:True:=⟨⟩
theorem tw1109368169000388031:True:=⟨⟩
theorem tw17844978517594067702:True:=⟨⟩
theorem tw13239637716791013097:True:=⟨⟩
theorem tw12216182092923786225:True:=⟨⟩
theorem tw7113066932501156019:True:=⟨⟩
theorem tw16954619966686305750:True:=⟨⟩
theorem tw749750532630262615:True:=⟨⟩
theorem tw17880334885485968333:True:=⟨⟩
theorem tw15307582195991162347:True:=⟨⟩
theorem tw17687463189652777023:True:=⟨⟩
theorem tw2417442570513790185:True:=⟨⟩
theorem tw3925913690403908111:True:=⟨⟩
theorem tw7764206655720644652:True:=⟨⟩
theorem tw16478303632333554706:True:=⟨⟩
theorem tw10345960565025338552:True:=⟨⟩
theorem tw84280557242951622:True:=⟨⟩
theorem tw162718048211057637:True:=⟨⟩
theorem tw12441362506313702493:True:=⟨⟩
theorem tw6844538048721986155:True:=⟨⟩
theorem tw17370244781711442482:True:=⟨⟩
theorem tw12562966168711589725:True:=⟨⟩
theorem tw8868229593066480833:True:=⟨⟩
theorem tw4452545733545455254:True:=⟨⟩
theorem tw4374725854652953836:True:=⟨⟩
theorem tw3991645664253701364:True:=⟨⟩
theorem tw14476292320364854121:True:=⟨⟩
theorem tw7230006372002989374:True:=⟨⟩
theorem tw12868472249868137143:True:=⟨⟩
theorem tw3258522405736749845:True:=⟨⟩
theorem tw7807641416943114780:True:=⟨⟩
theorem tw5657413511181144693:True:=⟨⟩
theorem tw1820646259677139511:True:=⟨⟩
theorem tw3853937696545854585:True:=⟨⟩
theorem tw16778350404362795976:True:=⟨⟩
theorem tw15660117608040943697:True:=⟨⟩
theorem tw2308534516659625804:True:=⟨⟩
theorem tw17563814036210925153:True:=⟨⟩
theorem tw3694586425955508693:True:=⟨⟩
end PySem.W.Fast
open PySem PySem.W PyProof.Rows
set_option maxRecDepth 100000 in
set_option maxHeartbeats 0 in
theorem PySem.Challenge.cw_recut_k41_laid_over_holds : PySem.Challenge.rw_recut_k41_laid_over.Holds := by
 w_on;o_law;k_head;(case hw=>w_witness2)
 k_fill
 refine L2.R2.walk_lawT (l:=PySem.Challenge.rw_recut_k41_laid_over) (k:=8) (x:="_law_script") rfl rfl ⟨rfl,by decide,by decide⟩ (λw h Y=>PySem.W.km_in_of Y) rfl ?L ?F
 case L =>
  intro w
  refine' L2.R2.lamIs ?q1 ?q2 ?q3
  (case q1=>refine' .inr ?_;k_is)
  (case q2=>exact .inl ⟨_,rfl⟩)
  (case q3=>refine' .inr ?_;k_is)
 case F =>
  intro w mg h KX G;have T:L2.R2.K41.TopF (L2.KOf KX) mg:=by
   dsimp only[L2.KOf];constructor
   case t0 =>
    refine' ⟨_,_,L2.R2.tab_mk ?a ?l ?te ?tl ?tv⟩
    (case a=>k_is)
    (case l=>k_is)
    (case te=>exact rfl)
    (case tl=>k_is)
    (case tv=>exact rfl)
   all_goals first | (refine PySem.W.mg_none_of KX G ?z;(case z=>k_is)) | (refine' L2.R2.def_mk KX G ?a ?l ?c ?k ?b;(case a=>k_is);(case l=>k_is);(case c=>k_is);(case k=>k_is);(case b=>first | exact L2.R2.bind1 (λ_=>rfl) | exact L2.R2.bind2 (λ_ _=>rfl) | exact L2.R2.bind3 (λ_ _ _=>rfl) | exact L2.R2.bind4 (λ_ _ _ _=>rfl)))
  exact T.d47.okLT λbase K' f fd z tw Fu=>L2.R2.K41.law_fn (T.hid z) tw Fu
