import PyProof.Rows.All
import Wide.All
import OpenK.AllK
import Wide.FinOn
import Lean
import PyProof.EqAt
import PyProof.EqKinds
import PyProof.TupleCall
import PySem.Challenge.RW_recut_k37_a_box_upright
set_option Elab.async false
set_option linter.all false
set_option maxRecDepth 100000
set_option maxHeartbeats 4000000
noncomputable section
open Array renaming append_assoc->uM,append_empty->FO,foldl_toList->FP,forIn_toList->qE,getD->lB,getD_eq_getD_getElem?->eI,getElem?_eq_getElem->bH,getElem?_eq_none->qT,getElem?_eq_some_iff->jK,getElem?_setIfInBounds_ne->rO,getElem?_setIfInBounds_self_of_lt->oI,getElem?_toList->jQ,getElem_of_mem->AQ,length_toList->cT,mem_of_getElem?->AF,mem_toList_iff->iM,replicate->zL,size_map->AR,toList->GT,toList_extract->AS,toList_filterMap->yD,toList_push->vP
open Array.Perm renaming mem_iff->FN,refl->pX
open Bool renaming and_eq_true->hU,and_false->AT,and_true->wJ,beq_eq_decide_eq->nY,eq_iff_iff->pY,false_and->AU,false_eq_true->aN,false_ne_true->cO,not_false->mL,not_true->fS,or_eq_true->ML,or_false->wK
open Classical renaming byContradiction->cC
open False renaming elim->mZ
open ForInStep renaming yield->MM
open Function renaming comp->EJ,comp_def->HG
open Int renaming add_nonneg->OH,add_zero->tW,dvd_coe_gcd->MN,dvd_mul_right->vR,dvd_refl->pC,dvd_trans->kZ,ediv_mul_cancel->tJ,ediv_one->HH,emod_lt_of_pos->uP,emod_nonneg->zO,eq_of_mul_eq_mul_left->dG,eq_of_mul_eq_mul_right->oK,fdiv_eq_ediv_of_nonneg->cK,gcd->cJ,gcd_dvd_left->mO,gcd_dvd_right->lU,gcd_ediv_gcd_ediv_gcd->vM,gcd_pos_of_ne_zero_left->kX,le_of_dvd->EK,le_of_lt->aQ,le_of_mul_le_mul_left->pN,le_of_mul_le_mul_right->gP,le_refl->qN,le_trans->yG,lt_asymm->pD,lt_irrefl->mH,lt_of_mul_lt_mul_right->oM,lt_or_eq_of_le->jR,lt_or_gt_of_ne->FQ,lt_trichotomy->fK,mul_assoc->nV,mul_comm->gM,mul_dvd_mul->zP,mul_ediv_add_emod->AG,mul_ediv_cancel'->jD,mul_ediv_cancel_left->gH,mul_eq_zero->sY,mul_le_mul_of_nonneg_left->dE,mul_le_mul_of_nonneg_right->bO,mul_lt_mul_left->EA,mul_lt_mul_of_pos_left->oN,mul_lt_mul_of_pos_right->tX,mul_ne_zero->zQ,mul_neg->LS,mul_neg_of_neg_of_pos->iV,mul_neg_of_pos_of_neg->fZ,mul_nonneg->cY,mul_nonpos_of_nonneg_of_nonpos->eM,mul_nonpos_of_nonpos_of_nonneg->dU,mul_one->vS,mul_pos->aL,mul_zero->pE,natAbs_dvd_natAbs->AH,natAbs_mul->lC,natAbs_neg->OI,natAbs_of_nonneg->AY,natCast_nonneg->uQ,ne_of_gt->qV,ne_of_lt->yH,neg_eq_zero->MO,neg_lt_neg_iff->FR,neg_pos_of_neg->FT,not_le->eV,not_lt->gX,ofNat_natAbs_of_nonpos->uR,pos_of_mul_pos_left->iJ,sub_pos_of_lt->HI,toNat_natCast->oD,toNat_of_nonneg->EB,zero_mul->qW
open List renaming Nodup->rW,all_cons->EL,all_eq_true->mP,any_eq_false->HK,any_eq_true->JT,any_toArray->JU,append_assoc->fL,append_inj_left'->lK,append_inj_right'->gY,append_nil->fC,append_of_mem->nD,concat_eq_append->AI,cons_append->aY,dropLast->SH,dropLast_concat->jX,drop_eq_getElem_cons->gW,drop_length->JV,drop_zero->OL,eq_nil_or_concat->fG,ext_getElem->JW,ext_getElem?->vV,filterMap_cons->eO,filter_append->qG,filter_cons->rX,find?_cons->nO,find?_eq_none->FU,foldl_cons->pZ,forIn_cons->nQ,forIn_nil->uS,getD_eq_getElem?_getD->dW,getElem?_append_left->cZ,getElem?_append_right->dL,getElem?_cons_succ->aJ,getElem?_cons_zero->aH,getElem?_drop->FV,getElem?_eq_getElem->aE,getElem?_eq_none->iZ,getElem?_eq_some_iff->bI,getElem?_map->bZ,getElem?_range->tK,getElem?_replicate->jE,getElem?_set_ne->iO,getElem?_set_self->iS,getElem?_take->FW,getElem?_zip_eq_some->lP,getElem_drop->HL,getElem_mem->pF,getElem_of_mem->dS,length->fI,length_append->dC,length_cons->cG,length_drop->mQ,length_dropLast->BB,length_eq_zero_iff->xH,length_erase_of_mem->wN,length_map->cN,length_nil->fJ,length_pos_iff->kP,length_pos_of_mem->yI,length_range->HM,length_replicate->lM,length_reverse->tL,length_singleton->rQ,length_take->gQ,lookup_cons->rY,map->uT,map_append->dM,map_congr_left->kQ,map_cons->aV,map_eq_append_iff->nE,map_eq_cons_iff->jY,map_id->oO,map_map->dN,map_nil->cD,map_reverse->JX,map_take->jV,mem_append->cS,mem_append_left->fD,mem_append_right->bP,mem_cons->aO,mem_cons_of_mem->bQ,mem_cons_self->dX,mem_erase_of_ne->BC,mem_filter->lR,mem_filterMap->qH,mem_map->bJ,mem_map_of_mem->dP,mem_of_find?_eq_some->vN,mem_of_getElem?->eS,mem_of_mem_drop->BE,mem_of_mem_take->jZ,mem_range->gR,mem_reverse->pG,mem_singleton->dY,nil_append->bV,nodup_append->vW,nodup_cons->fN,nodup_range->JY,not_mem_nil->gB,of_mem_zip->sZ,pairwise_append->kA,pairwise_cons->cH,pairwise_iff_getElem->jP,pairwise_map->oG,pairwise_reverse->nZ,pairwise_singleton->xI,perm_append_comm->AJ,range->dZ,range_succ->MP,range_succ_eq_map->yJ,replicate->fH,replicate_zero->ED,reverse_cons->vX,set_cons_succ->bC,set_cons_zero->bD,singleton_append->AK,size_toArray->aZ,take_append_drop->gL,take_length->rZ,take_of_length_le->nF,take_sublist->HN,take_succ->mR,take_succ_cons->tM,take_zero->BF,toArray->kY,zip->OM,zipIdx_cons->JZ,zipIdx_nil->MQ,zipWith->nG,zipWith_cons_cons->qY,zip_append->zR,zip_cons_cons->nH
open List.Pairwise renaming map->vU,nil->oF,of_map->AZ,sublist->lJ
open List.Perm renaming refl->BA
open List.Sublist renaming refl->HJ
open List.cons renaming injEq->gA
open Nat renaming add_mod->LU,add_mod_right->HP,eq_zero_of_zero_dvd->xJ,eq_zero_or_pos->uU,gcd_comm->yK,gcd_zero_right->FX,le_mul_of_pos_left->qZ,le_mul_of_pos_right->qO,le_of_dvd->wO,le_of_eq->yL,le_of_lt->nJ,le_of_lt_succ->jL,le_of_succ_le->HQ,le_refl->bU,le_trans->fW,lt_irrefl->iR,lt_of_le_of_lt->FY,lt_of_lt_of_le->cB,lt_or_eq_of_le->uV,lt_succ_of_lt->gS,lt_succ_self->mS,lt_trans->rB,lt_trichotomy->HR,min_eq_left->MR,mod_eq_of_lt->hV,mod_lt->jS,mul_le_mul_left->EF,mul_le_mul_right->BG,ne_of_gt->eK,ne_of_lt->bK,not_lt_zero->nR,strongRecOn->MS,sub_le_sub_right->BH,sub_zero->yM,succ_le_succ->KB,succ_ne_self->pH,zero_add->tZ,zero_le->gU
open Nat.succ renaming inj->yN
open Option renaming bind_some->KC,getD_none->KD,getD_some->lA,map_eq_some_iff->yO,map_some->qA,none->BI
open Option.some renaming inj->eB,injEq->rD
open Or renaming inl->cW,inr->cV
open Prod renaming ext->lD,fst->XW,snd->XX
open Prod.mk renaming injEq->eQ
open PyProof.Rows renaming assignInOrder_cons->uZ,assignInOrder_nil->HZ,callWith_builtin1->sA,callWith_type1->gJ,get?_update_seq->MX,listUpdate_at->SW,slicePart_none->RP,slot_tuple_getitem->rP,subscriptTail_builtinR->zK
open PyProof.Rows.IsTup renaming new->JS
open PyProof.Rows.KeyOrd renaming kle_antisymm->EC,kle_of_klt->oE,kle_refl->kJ,kle_trans->rV
open PySem renaming Around->dJ,FuncData->mN,Keyword->vT,Program->cE,Shared->aG,Value->aD,World->dI,builtinLookup_eq_fast->lN,call->OO,callType_codes->OW,call_function_tree->GG,call_list_seq->SL,call_meets->vA,codeAny_builtin->gC,codeAny_mono->uC,codeAny_of_tree->MW,code_list_new->SQ,concat_meets->ID,evalPart_none->SU,intBits_le_iff->PV,isSubtype_stop->PX,isSubtype_type->PY,list_append->HU,mem_of_lookup->kR,noFill_tuple_add->LA,plainId_quiet->gT,seq_tuple_add->TJ,sizeLine_eq->mD,sub_zip->XT,typeLookup_type->qD,wpAny_Call_Name_kw->iQ,wpAny_Name->SA,wpAny_askSetting->pL,wpAny_assign_Name->JO,wpAny_attempt->xB,wpAny_bind->aA,wpAny_bindName->SB,wpAny_callSpecial?_slot->iK,wpAny_call_entry->iU,wpAny_comprehension_free->xC,wpAny_eqIsQuiet_tuple->AO,wpAny_execs_cons->yC,wpAny_execs_nil->tH,wpAny_field->fY,wpAny_fieldsOf->SC,wpAny_forIn_list->sM,wpAny_handled->TN,wpAny_holding->fU,wpAny_isInstance->sN,wpAny_letGo->jO,wpAny_loadPart'->tI,wpAny_mono->jT,wpAny_newList->TQ,wpAny_newObj_type->fM,wpAny_newTuple->CW,wpAny_of_eq->pA,wpAny_onRaise->xD,wpAny_passesOwn->lT,wpAny_pure->aK,wpAny_pyIter_list->kH,wpAny_pyIter_slot->JP,wpAny_pyIter_tuple->lH,wpAny_rule->vL,wpAny_runValue->SD,wpAny_seqItems->eW,wpAny_setEntries_of->tV,wpAny_setField->CY,wpAny_setField_rec->jU,wpAny_setState_of->jM,wpAny_specialOf->nU,wpAny_standAt->FL,wpAny_storeSet_of->JQ,wpAny_truthy_bool->mE,wpAny_tryCatch->lI,wpAny_typeOf->rN,wpAny_updateSeq->gD,wpAny_updateSeq_pair->sX
open PySem.Around renaming under_plainId->eY
open PySem.Builtin renaming divisionGoesByPylong->nN
open PySem.Builtin.Builtins renaming bindParams->kW
open PySem.Builtin.Int renaming intBits->DZ
open PySem.Builtin.List renaming listExtendWith->fP,listItems->mX,listLengthHint->jH,listSameRef->jA,listTooLong->mF,listUpdate->qM
open PySem.Builtin.Slice renaming sliceAdjust->pM,sliceApplied->uN,slicePlaces->lO
open PySem.Builtin.SmallTypes renaming nextOf->dF,ownedTupleHandOut->pO,ownedTupleIsFree->eJ
open PySem.Builtin.Tuple renaming tupleExact->mG
open PySem.Calls renaming Name_function_global->uO,callWith_builtin->yE,spliced_cons->qF,spliced_nil->qU
open PySem.F renaming args_tuple_add_2->wP,entry_extend_loop->vO,entry_tuple_add->xK,plainAttrs_list->kF,plain_extend_loop->iW,plain_set_new->AL,slot_tuple_add->yP
open PySem.Heap renaming ExtBut->LR,IsList->AX,IsTuple->yF,SameBut->nB,get?_push_of_some->aR,get?_push_size->bR,get?_update_other->cQ,get?_update_self->eD,lt_size->aW,size_push->gO
open PySem.Heap.SameBut renaming update->iB
open PySem.IsL renaming update->KE
open PySem.NameKind renaming cell->sO,free->jB
open PySem.Obj renaming data_mapFields->GA,mapSeq->dH,putSet->oP
open PySem.PassesOwn renaming never->dD
open PySem.SeqAt renaming EqAt->GB,RcAt->uY,notIn_listAt->GD
open PySem.SeqAt.EqAt renaming int_int->uX,of_refs->GC,same->tD
open PySem.SetFound renaming there->OP
open PySem.SetTable renaming grown->OQ
open PySem.SetTable.below renaming go->OT
open PySem.SetTable.layClean renaming free->jJ
open PySem.SetTable.probe renaming go->Am
open PySem.Shared renaming TypeIs->EM,heap->lV
open PySem.Str renaming ofString->lW
open PySem.Value renaming bool->GE,int->TW,isInt->LV,none->gI,ref->fX,str->TX,type->iX
open PySem.W renaming Frag->aI,OpenLaw->MT,WalkO->SI,cellsFrom_some->yQ,codeIn->uW,findIn->ON,fnOf->pI,instObj->zT,kas_asc->wB,kas_bin->WS,kas_count->sG,kas_desc->lG,kas_descPart->pJ,kas_place->xP,kas_rev->DL,kas_sort->BU,kas_tail3->uJ,keepIn->mT,kia_one->gZ,kitOne->lE,kitx_dict->HS,kitx_list->vY,lookIn->BJ,methodObj->vZ,nsIn->uA,plainGet->KF,tabIn->SJ
open PySem.Walks renaming list->OR
open PySem.pickOrder renaming go->JB
open Rat renaming intCast_add->zU,intCast_inj->MU,intCast_mul->kK
open Sum renaming inl->uB,inr->DC
open True renaming intro->sB
set_option compiler.extract_closed false
local macro_rules | `(tactic| walk_at "vis")=>`(tactic| first | exact cW rfl | exact cV (cW rfl) | exact cV (cV rfl) | exact cV rfl)
local macro_rules | `(tactic| walk_at "loc")=>`(tactic| first | exact .inl rfl | exact .inr rfl | assumption)
namespace L2
open PySem PySem.Spec PyProof.Rows
abbrev iu:=Sum Int Str
def Vg:iu->aD->Bool
 | .inl k,v=>LV k v
 | .inr x,v=>Value.isStrOf x v
def K3 (w:dI):iu->Int
 | .inl k=>hashInt k
 | .inr x=>hashStr w x
theorem lZ:∀{k:iu} {v:aD},Vg k v=true->(∃i t,k=uB i/\v=TW i t)\/(∃x t,k=DC x/\v=TX x t)
 | .inl i,v,h=>by
  obtain⟨t,e⟩:=Value.isInt_shape (k:=i) (v:=v) h;exact .inl ⟨i,t,rfl,e⟩
 | .inr x,v,h=>by
  obtain⟨t,e⟩:=Value.isStrOf_shape (x:=x) (v:=v) h;exact .inr ⟨x,t,rfl,e⟩
def Wy (a b:Int):decide ((uB a:iu)=uB b)=(a == b):=by
 by_cases e:a=b
 ·subst e;simp
 ·have h:¬(uB a:iu)=uB b:=λq=>e (Sum.inl.inj q);rw[decide_eq_false h];exact (beq_eq_false_iff_ne.mpr e).symm
def Xb (a b:Str):decide ((DC a:iu)=DC b)=decide (a=b):=by
 by_cases e:a=b
 ·subst e;simp
 ·have h:¬(DC a:iu)=DC b:=λq=>e (Sum.inr.inj q);rw[decide_eq_false h,decide_eq_false e]
def Wz (a:Int) (b:Str):decide ((uB a:iu)=DC b)=false:=decide_eq_false (λq=>nomatch q)
def Xa (a:Str) (b:Int):decide ((DC a:iu)=uB b)=false:=decide_eq_false (λq=>nomatch q)
def Go (prog:cE) (w:dI):PySem.KeyKind prog w iu where
 is:=Vg
 hash:=K3 w
 inj:=λv a b ha hb=>by
  rcases lZ ha with ⟨i,t,rfl,rfl⟩ | ⟨x,t,rfl,rfl⟩
  ·rcases lZ hb with ⟨j,u,rfl,e⟩ | ⟨y,u,rfl,e⟩
   ·injection e with e1 _;rw[e1]
   ·exact nomatch e
  ·rcases lZ hb with ⟨j,u,rfl,e⟩ | ⟨y,u,rfl,e⟩
   ·exact nomatch e
   ·injection e with e1 _;rw[e1]
 byValue:=λk v h=>by
  rcases lZ h with ⟨i,t,rfl,rfl⟩ | ⟨x,t,rfl,rfl⟩ <;> rfl
 pyHash:=λhv h=>by
  rcases lZ hv with ⟨i,t,rfl,rfl⟩ | ⟨x,t,rfl,rfl⟩
  ·exact wpAny_pyHash_int h
  ·exact wpAny_pyHash_str h
 eqBool:=λhu hv h=>by
  rcases lZ hu with ⟨i,t,rfl,rfl⟩ | ⟨x,t,rfl,rfl⟩
  ·rcases lZ hv with ⟨j,u,rfl,rfl⟩ | ⟨y,u,rfl,rfl⟩
   ·rw[Wy] at h;exact wpAny_eqBool_int h
   ·rw[Wz] at h;exact SeqAt.EqAt.int_str i t y u _ _ _ _ h
  ·rcases lZ hv with ⟨j,u,rfl,rfl⟩ | ⟨y,u,rfl,rfl⟩
   ·rw[Xa] at h;exact SeqAt.EqAt.str_int x t j u _ _ _ _ h
   ·rw[Xb] at h;exact wpAny_eqBool_str h
 «strs»:=λk x t v h=>by
  rcases lZ h with ⟨i,u,rfl,e⟩ | ⟨y,u,rfl,e⟩
  ·exact nomatch e
  ·injection e with e1 _;subst e1;cases v <;> rfl
inductive V where
 | non | bl (b:Bool) | int (i:Int) | str (x:Str) | byt (b:Array UInt8) | flt (b:UInt64) | ref (a:Addr) | ty (n:String)
 deriving DecidableEq
def RelV:V->aD->Prop
 | .non,u=>u=gI
 | .bl b,u=>u=GE b
 | .int i,u=>∃t,u=TW i t
 | .str x,u=>∃t,u=TX x t
 | .byt b,u=>∃t,u=Value.bytes b t
 | .flt b,u=>∃t,u=Value.float b t
 | .ref a,u=>u=fX a
 | .ty n,u=>u=iX n
abbrev aq:List V->List aD->Prop:=Paired RelV
def aq.length (r:aq xs us):xs.length=us.length:=Paired.length r
theorem aq.get:∀{xs:List V} {us:List aD} {i:Nat} {x:V},aq xs us->xs[i]? = some x->∃u,us[i]? = some u/\RelV x u
 | _,_,_,_,.nil,e=>by simp at e
 | _,_,0,_,.cons r _,e=>by simp at e;subst e;exact⟨_,rfl,r⟩
 | _,_,i+1,x,.cons _ t,e=>by
  obtain⟨u,h1,h2⟩:=aq.get (i:=i) (x:=x) t (by simpa using e);exact⟨u,by simpa using h1,h2⟩
theorem aq.append:∀{xs ys:List V} {us ws:List aD},aq xs us->aq ys ws->aq (xs++ys) (us++ws)
 | _,_,_,_,.nil,s=>s
 | _,_,_,_,.cons r t,s=>.cons r (aq.append t s)
theorem aq.take:∀{xs:List V} {us:List aD} (n:Nat),aq xs us->aq (xs.take n) (us.take n)
 | _,_,0,_=>.nil
 | _,_,_+1,.nil=>.nil
 | _,_,n+1,.cons r t=>.cons r (aq.take n t)
theorem aq.drop:∀{xs:List V} {us:List aD} (n:Nat),aq xs us->aq (xs.drop n) (us.drop n)
 | _,_,0,r=>r
 | _,_,_+1,.nil=>.nil
 | _,_,n+1,.cons _ t=>aq.drop n t
def m5:Option V->Option aD->Prop
 | some v,some u=>RelV v u
 | none,none=>True
 | _,_=>False
def KV {κ:Type}:List (κ × V)->List (κ × aD)->Prop:=Paired λ(p:κ × V) (q:κ × aD)=>p.1=q.1/\RelV p.2 q.2
def kV:iu->V
 | .inl i=>.int i
 | .inr x=>.str x
inductive HO where
  | lst (xs:List V)
  | tup (xs:List V)
  | dK (cf:List (iu × V)) | dT (cf:List (List iu × V))
  | set (S:Int->Bool) (n:Nat)
  | ins (C dx:Addr) (fs:List (Str × V))
  | own (x:Addr)
  | xd (fs:List (Str × V))
  | met (f x:Addr)
  | rng (lo hi:Int)
  | frz (o:Obj) (u:HO)
  | tbl (ps:Array aD)
  | ext (φ:Heap->Prop)
abbrev Hp:=Addr->Option HO
def bB (H:Hp) (a:Addr) (o:HO):Hp:=λb=>if b=a then some o else H b
def fT:bB H a o a=some o:=by unfold bB;rw[if_pos rfl]
def cX (h:b≠a):bB H a o b=H b:=by unfold bB;rw[if_neg h]
def fF {H:Hp} {a b:Addr} {o:HO} (h:H a=some o) (h':H b=none):a≠b:=by
 intro e;subst e;rw[h] at h';cases h'
section
variable (P:cE) (w:dI)
def cg (H:Hp) (h:Heap) (a:Addr):HO->Prop
 | .lst xs=>xs.length<=sizeLine/\∃(its:List aD) (n:Nat),aq xs its/\h.get? a=some { cls:=.type "list",data:=.seq its.toArray n }
 | .tup xs=>xs.length<=sizeLine/\∃its:List aD,aq xs its/\IsTup h a its.toArray
 | .dK cf=>cf.length<=sizeLine/\(a == sysModules)=false/\∃vs,KV cf vs/\h.DictOf (Go P w) a vs
 | .dT cf=>cf.length<=sizeLine/\(a == sysModules)=false/\∃xs:List (List iu × Addr × aD),
   Paired (λ(p:List iu × V) (q:List iu × Addr × aD)=>p.1=q.1/\H q.2.1=some (.tup (p.1.map kV))/\RelV p.2 q.2.2) cf xs /\
   ∃o es ep,h.get? a=some o/\o.ExactDict/\o.data = .dict es ep/\es.toList=xs.map (entryOfKey (tupleKind (Go P w)))/\(xs.map (·.1)).Nodup
 | .set S n=>h.SetOf (intKind P w) a S n
 | .ins C dx fs=>H dx=some (.own a)/\fs.length<=1000/\dx≠a/\h.get? a=some (zT C dx) /\
   ∃mA,h.Ns1 dx mA/\(∀f,m5 (fs.lookup f) (mA f))/\PySem.Within mA (fs.map (·.1))
 | .own _=>∃o,h.get? a=some o
 | .xd fs=>∃mA,h.Ns1 a mA/\∀f,m5 (fs.lookup f) (mA f)
 | .rng lo hi=>∃t u v,h.get? a=some { cls:=.type "range",data:=.fields #[.int lo t,.int hi u,.int 1 v] }
 | .frz o u=>h.get? a=some o/\cg H h a u
 | .tbl ps=>h.get? a=some { cls:=.none,data:=.fields ps }
 | .met f x=>h.get? a=some (vZ (.ref f) (.ref x))
 | .ext φ=>φ h/\(∃o,h.get? a=some o)/\∀h1 h2:Heap,φ h1->(∀o,h1.get? a=some o->h2.get? a=some o)->φ h2
def ju (H:Hp) (h:Heap):Prop:=∀a o,H a=some o->cg P w H h a o
end
section
variable {a:Addr}
theorem cg.lt (x:cg P w H h a o):a<h.objs.size:=by
 cases o with
 | lst xs=>obtain⟨_,_,_,_,e⟩:=x;exact aW e
 | tup xs=>obtain⟨_,_,_,p⟩:=x;exact p.lt
 | dK cf=>obtain⟨_,_,_,_,o,_,_,e,_⟩:=x;exact aW e
 | dT cf=>obtain⟨_,_,_,_,o,_,_,e,_⟩:=x;exact aW e
 | set S n=>obtain⟨o,_,_,_,e,_⟩:=x;exact aW e
 | ins C dx fs=>obtain⟨_,_,_,e,_⟩:=x;exact aW e
 | own y=>obtain⟨_,e⟩:=x;exact aW e
 | xd fs=>obtain⟨_,⟨_,_,_,e,_⟩,_⟩:=x;exact aW e
 | rng lo hi=>obtain⟨_,_,_,e⟩:=x;exact aW e
 | frz ob u=>obtain⟨e,_⟩:=x;exact aW e
 | tbl ps=>exact aW (show h.get? a=some _ from x)
 | met f y=>exact aW (show h.get? a=some _ from x)
 | ext φ=>obtain⟨_,⟨_,e⟩,_⟩:=x;exact aW e
theorem Paired.mapP {α β:Type} {F G:α->β->Prop}:∀{l₁:List α} {l₂:List β},Paired F l₁ l₂->(∀a b,F a b->G a b)->Paired G l₁ l₂
 | _,_,.nil,_=>.nil
 | _,_,.cons r t,f=>.cons (f _ _ r) (Paired.mapP t f)
theorem cg.stay (x:cg P w H h a o) (k:∀b u,(b=a\/H b=some (.own a))->h.get? b=some u->h'.get? b=some u)
  (ho:∀b,H b=some (.own a)->H' b=some (.own a)) (ht:∀b xs,H b=some (.tup xs)->H' b=some (.tup xs)):cg P w H' h' a o:=by
 induction o with
 | lst xs=>obtain⟨z,its,n,r,e⟩:=x;exact⟨z,its,n,r,k _ _ (.inl rfl) e⟩
 | tup xs=>obtain⟨z,its,r,ob,e,c⟩:=x;exact⟨z,its,r,ob,k _ _ (.inl rfl) e,c⟩
 | dK cf=>obtain⟨z,y,vs,r,ob,es,ep,e,c⟩:=x;exact⟨z,y,vs,r,ob,es,ep,k _ _ (.inl rfl) e,c⟩
 | dT cf =>
  obtain⟨z,y,xs,r,ob,es,ep,e,c⟩:=x;exact⟨z,y,xs,Paired.mapP r λp q z=>⟨z.1,ht _ _ z.2.1,z.2.2⟩,ob,es,ep,k _ _ (.inl rfl) e,c⟩
 | set S n=>obtain⟨ob,es,ep,t,e,c⟩:=x;exact⟨ob,es,ep,t,k _ _ (.inl rfl) e,c⟩
 | ins C dx fs =>
  obtain⟨d,z,ne,e,mA,⟨od,es,ep,e2,c⟩,r⟩:=x;exact⟨ho _ d,z,ne,k _ _ (.inl rfl) e,mA,⟨od,es,ep,k _ _ (.inr d) e2,c⟩,r⟩
 | own y=>obtain⟨ob,e⟩:=x;exact⟨ob,k _ _ (.inl rfl) e⟩
 | xd fs=>obtain⟨mA,⟨od,es,ep,e,c⟩,r⟩:=x;exact⟨mA,⟨od,es,ep,k _ _ (.inl rfl) e,c⟩,r⟩
 | rng lo hi=>obtain⟨t,u,v,e⟩:=x;exact⟨t,u,v,k _ _ (.inl rfl) e⟩
 | frz ob u ih=>obtain⟨e,q⟩:=x;exact⟨k _ _ (.inl rfl) e,ih q⟩
 | tbl ps =>
  have e:h.get? a=some { cls:=.none,data:=.fields ps }:=x;show h'.get? a=some { cls:=.none,data:=.fields ps };exact k a _ (.inl rfl) e
 | met f y =>
  have e:h.get? a=some (vZ (.ref f) (.ref y)):=x;show h'.get? a=some (vZ (.ref f) (.ref y));exact k a _ (.inl rfl) e
 | ext φ=>obtain⟨p,⟨o,e⟩,st⟩:=x;exact⟨st _ _ p λo q=>k _ _ (.inl rfl) q,⟨o,k _ _ (.inl rfl) e⟩,st⟩
theorem ju.lt (x:ju P w H h) (e:H a=some o):a<h.objs.size:=(x a o e).lt
theorem ju.fresh (x:ju P w H h) (e:h.objs.size<=a):H a=none:=by
 cases q:H a with
 | none=>rfl
 | some u=>exact absurd (cB (x.lt q) e) (iR _)
theorem ju.kept (x:ju P w H h) (k:∀b u,h.get? b=some u->h'.get? b=some u):ju P w H h':=λa o e =>
 (x a o e).stay (λb u _ q=>k b u q) (λ_ q=>q) λ_ _ q=>q
theorem ju.laid (x:ju P w H h) (k:∀b u,h.get? b=some u->h'.get? b=some u) (hp:h.objs.size<=a) (new:cg P w (bB H a o) h' a o):ju P w (bB H a o) h':=λb u e=>by
 have hn:=x.fresh hp;by_cases hb:b=a
 ·subst hb;rw[fT] at e;cases e;exact new
 ·rw[cX hb] at e;exact (x b u e).stay (λc v _ q=>k c v q) (λc q=>by rw[cX (fF q hn)];exact q) λc xs q=>by rw[cX (fF q hn)];exact q
end
def Rd (H:Hp) (a:Addr) (u:HO):Prop:=H a=some u\/∃o,H a=some (.frz o u)
def Rd.ok (r:Rd H a u) (x:ju P w H h):cg P w H h a u:=by
 rcases r with r | ⟨o,r⟩
 ·exact x a u r
 ·obtain⟨_,q⟩:=x a _ r;exact q
def z8:Option HO->Prop
 | some (.lst _)=>True
 | some (.dK _)=>True
 | some (.dT _)=>True
 | some (.set _ _)=>True
 | some (.ins _ _ _)=>True
 | some (.ext _)=>True
 | _=>False
section
def ju.write (ok:ju P w H h) (mu:z8 (H x)) (he:e=x\/H e=some (.own x)) (k:∀b u,b≠e->h.get? b=some u->h'.get? b=some u) (wm:∃u,h'.get? e=some u)
  (new:cg P w (bB H x o') h' x o'):ju P w (bB H x o') h':=λb u q=>by
 have ze:∀c y,H c=some (.own y)->c≠x:=λc y r z=>by subst z;rw[r] at mu;exact mu
 have m_:∀c xs,H c=some (.tup xs)->c≠x:=λc xs r z=>by subst z;rw[r] at mu;exact mu
 by_cases hb:b=x
 ·subst hb;rw[fT] at q;cases q;exact new
 ·rw[cX hb] at q;by_cases u8:b=e
  ·have q':H b=some (.own x):=by
    rcases he with z | z
    ·exact absurd (u8.trans z) hb
    ·rw[u8];exact z
   rw[q] at q';cases q';obtain⟨v,hv⟩:=wm;exact⟨v,by rw[u8];exact hv⟩
  ·refine (ok b u q).stay (λc v hc r=>k c v ?_ r) (λc r=>by rw[cX (ze c b r)];exact r) λc xs r=>by rw[cX (m_ c xs r)];exact r
   rcases hc with rfl | hc
   ·exact u8
   ·rintro rfl;rcases he with z | z
    ·exact ze c b hc z
    ·rw[hc] at z;cases z;exact hb rfl
end
structure Un (fs ex:List Addr) (H H':Hp) (h h':Heap):Prop where
 keep:∀b o,h.get? b=some o->H b=none->b ∉ fs->b ∉ ex->h'.get? b=some o
 slot:∀b o,h.get? b=some o->H b=none->b∈fs->b ∉ ex->∃sl,h'.get? b=some { o with slots:=sl }
 free:∀b o,h.get? b=some o->H b=none->b ∉ ex->H' b=none
 there:∀b o,h.get? b=some o->b ∉ ex->∃o',h'.get? b=some o'
 tups:∀b xs,H b=some (.tup xs)->H' b=some (.tup xs)
 frzs:∀b o u,H b=some (.frz o u)->H' b=some (.frz o u)
 tbls:∀b ps,H b=some (.tbl ps)->∃more,H' b=some (.tbl (ps++more))
section
variable {fs fs' ex ex':List Addr}
theorem Un.any (u:Un fs ex H H1 h h1) (q:h.get? b=some ob) (n:H b=none) (hx:b ∉ ex):∃sl,h1.get? b=some { ob with slots:=sl }:=by
 by_cases hb:b∈fs
 ·exact u.slot b ob q n hb hx
 ·exact⟨ob.slots,u.keep b ob q n hb hx⟩
theorem Un.kept (k:∀b u,h.get? b=some u->h'.get? b=some u):Un fs ex H H h h' :=
 ⟨λb ob q _ _ _=>k b ob q,λb ob q _ _ _=>⟨ob.slots,k b ob q⟩,λ_ _ _ n _=>n,λb ob q _=>⟨ob,k b ob q⟩,λ_ _ q=>q,λ_ _ _ q=>q,λ_ ps q=>⟨#[],by rw[q];simp⟩⟩
theorem Un.refl:Un fs ex H H h h:=Un.kept λ_ _ q=>q
theorem Un.laid (k:∀b u,h.get? b=some u->h'.get? b=some u) (hp:h.objs.size<=a) (hn:H a=none):Un fs ex H (bB H a o) h h' where
 keep:=λb u q _ _ _=>k b u q
 slot:=λb u q _ _ _=>⟨u.slots,k b u q⟩
 free:=λb u q n _=>by rw[cX (bK (cB (aW q) hp))];exact n
 there:=λb u q _=>⟨u,k b u q⟩
 tups:=λb xs q=>by rw[cX (fF q hn)];exact q
 frzs:=λb u xs q=>by rw[cX (fF q hn)];exact q
 tbls:=λb ps q=>⟨#[],by rw[cX (fF q hn),q];simp⟩
theorem Un.write (mu:z8 (H x)) (he:e=x\/H e=some (.own x)) (k:∀b u,b≠e->h.get? b=some u->h'.get? b=some u) (wm:∃u,h'.get? e=some u):Un fs ex H (bB H x o) h h':=by
 have hx:∀b,H b=none->b≠x:=λb n z=>by subst z;rw[n] at mu;exact mu
 have hb:∀b,H b=none->b≠e:=λb n z=>by
  subst z;rcases he with r | r
  ·exact hx b n r
  ·rw[n] at r;cases r
 have hm:∀b u,H b=some u->¬z8 (some u)->b≠x:=λb u q nm z=>by subst z;rw[q] at mu;exact nm mu
 refine⟨λb u q n _ _=>k b u (hb b n) q,λb u q n _ _=>⟨u.slots,k b u (hb b n) q⟩,λb u q n _=>by rw[cX (hx b n)];exact n,λb u q _=>?_,
  λb xs q=>by rw[cX (hm b _ q λz=>z)];exact q,λb u xs q=>by rw[cX (hm b _ q λz=>z)];exact q,λb ps q=>⟨#[],by rw[cX (hm b _ q λz=>z),q];simp⟩⟩
 by_cases u8:b=e
 ·subst u8;exact wm
 ·exact⟨u,k b u u8 q⟩
end
def R_ (h:Heap) (H:Hp):List Addr:=(dZ h.objs.size).filter λa=>(H a).isSome
def WP (h:Heap) (H:Hp):Heap:=PySem.W.hideAll h (R_ h H)
def Ip (h:Heap) (H:Hp):(WP h H).objs.size=h.objs.size:=PySem.W.hideAll_size _ _
def Nb (e:h.get? b=some o) (n:H b=none):(WP h H).get? b=some o :=
 PySem.W.hideAll_get _ e λhm=>by
  have q:(H b).isSome=true:=(lR.mp hm).2;rw[n] at q;simp at q
theorem Su (e:(WP h H).get? b=some o):h.get? b=some o/\H b=none:=by
 have e':h.get? b=some o:=PySem.W.of_hideAll (R_ h H) e;refine⟨e',?_⟩;cases q:H b with
 | none=>rfl
 | some x =>
  have hm:b∈R_ h H:=lR.mpr ⟨gR.mpr (aW e'),by simp[q]⟩;have z:(WP h H).get? b=none:=PySem.W.hideAll_none (R_ h H) hm;rw[z] at e;cases e
def Qr (g h:Heap) (L:Addr):List (Addr × Obj):=(dZ h.objs.size).filterMap λa=>if a=L\/(g.get? a).isSome=true then none else (h.get? a).map λo=>(a,o)
def rest (g h:Heap) (L d:Addr):List (Addr × Obj):=(Qr g h L).filter λp=>decide (p.1≠d)
structure Mod (K:aI) (mg:Str->Option aD) (base:Heap):Prop where
 kin:K.In base
 glob:base.Ns mainGlobals mg
 blt:∃mb,base.Ns builtinsNs mb/\∀x:Str,x≠"__name__"->mb x=bootBuiltins x
 nolimit:base.NoLimit
structure Cx where
 prog:cE
 w:dI
 K:aI
 mg:Str->Option aD
 base:Heap
 A:dJ
 N:List Str
 s₀:aG
 H₀:Hp
 env:Env
 outer:List Env
 stack:List Env
 ex:List Addr
 fn:Str->Bool
 calm:Bool
 pn:List (Addr × Obj)
 xe:aD->aG->Prop
def o4 (l:List Env):List Addr:=l.filterMap (·.frame)
abbrev Cx.fs (X:Cx):List Addr:=o4 X.outer
def p7 (sc:Scope) (x:Str):Prop:=sc.names.lookup x=some .local\/sc.names.lookup x=some .cell\/sc.names.lookup x=some .free
def Loc (sc:Scope) (x:Str):Prop:=sc.names.lookup x=some .local\/sc.names.lookup x=some .cell
def Look (env:Env) (h:Heap) (m:Str->Option aD) (x:Str) (u:aD):Prop :=
 (env.kindOf x=some .local/\m x=some u)\/((env.kindOf x=some .cell\/env.kindOf x=some .free)/\∃c,env.cells.lookup x=some c/\h.IsCell c (some u))
structure Cx.Ok (X:Cx):Prop where
 mod:Mod X.K X.mg X.base
 kind:X.env.scope.kind = .function
 glob:X.env.globals=mainGlobals
 blt:X.env.builtins=builtinsNs
 above:X.s₀.heap.objs.size<=X.env.locals
 inj:∀x y c,X.env.cells.lookup x=some c->X.env.cells.lookup y=some c->x=y
 has:∀x,(X.env.kindOf x=some .cell\/X.env.kindOf x=some .free)->∃c,X.env.cells.lookup x=some c
 cab:∀x c,X.fn x=true->X.env.cells.lookup x=some c->X.s₀.heap.objs.size<=c
 hd:X.calm=true->X.A.handled=none
 frames:X.A.frames=some X.stack
 stk:X.stack=X.outer\/(X.stack=X.env::X.outer/\X.env.frame=some X.env.locals)
 exf:∀b∈X.ex,b≠X.env.locals/\∀x c,X.env.cells.lookup x=some c->c≠b
 bs:∀b o,X.base.get? b=some o->X.s₀.heap.get? b=some o/\X.H₀ b=none
 bsz:X.base.objs.size<=X.s₀.heap.objs.size
 noex:∀b o,X.base.get? b=some o->b ∉ X.ex
 exfs:∀b∈X.ex,b ∉ X.fs
 funs:X.s₀.heap.FunFrames X.base X.outer
 frf:∀b∈X.fs,X.H₀ b=none
structure Inv (X:Cx) (pins:List (Addr × Obj)) (σ:List (Option V)) (H:Hp) (s:aG):Prop where
 ok:X.Ok
 os:s.os=X.s₀.os
 bare:AllBare s.gens
 base:Un X.fs X.ex X.H₀ H X.s₀.heap s.heap
 loc:∃m,s.heap.Ns X.env.locals m/\∀(i:Nat) (x:Str) (v:V),X.N[i]? = some x->σ[i]? = some (some v)->p7 X.env.scope x->∃u,RelV v u/\Look X.env s.heap m x u
 cell:∀x c,X.env.cells.lookup x=some c->∃v,s.heap.IsCell c v
 free:H X.env.locals=none
 freeC:∀x c,X.env.cells.lookup x=some c->H c=none
 pin:∀p∈X.pn++pins,s.heap.get? p.1=some p.2/\H p.1=none/\p.1≠X.env.locals/\p.1 ∉ X.fs/\∀v,p.2.data≠.cell v
 hok:ju X.prog X.w H s.heap
 len:σ.length=X.N.length
section
variable {X:Cx} {pins:List (Addr × Obj)} {σ:List (Option V)} {H H':Hp} {s:aG} {h':Heap}
theorem Cx.Ok.nofr (ok:X.Ok) {b:Addr} {o:Obj} (e:X.base.get? b=some o):b ∉ X.fs:=λhb=>by
 have:=(ok.funs.mem hb).1;rw[e] at this;cases this
theorem Inv.bs (I:Inv X pins σ H s):∀b o,X.base.get? b=some o->s.heap.get? b=some o/\H b=none:=λb o e =>
 ⟨I.base.keep b o (I.ok.bs b o e).1 (I.ok.bs b o e).2 (I.ok.nofr e) (I.ok.noex b o e),I.base.free b o (I.ok.bs b o e).1 (I.ok.bs b o e).2 (I.ok.noex b o e)⟩
theorem Inv.bk (I:Inv X pins σ H s):∀b o,X.base.get? b=some o->s.heap.get? b=some o:=λb o e=>(I.bs b o e).1
theorem Inv.mod (I:Inv X pins σ H s):Mod X.K X.mg X.base:=I.ok.mod
theorem Inv.kIn (I:Inv X pins σ H s):X.K.In s.heap:=I.ok.mod.kin.keeps I.bk
theorem Inv.lt (I:Inv X pins σ H s):X.env.locals<s.heap.objs.size:=let ⟨_,hn,_⟩:=I.loc;hn.lt
theorem Inv.sz (I:Inv X pins σ H s):X.s₀.heap.objs.size<=s.heap.objs.size:=fW I.ok.above (nJ I.lt)
theorem Inv.nofs (I:Inv X pins σ H s) {a:Addr} (h:s.heap.objs.size<=a):a ∉ X.fs:=λhb=>by
 obtain⟨_,o,ho,_⟩:=I.ok.funs.mem hb;exact absurd (cB (aW ho) (fW I.sz h)) (iR _)
theorem Inv.cne (I:Inv X pins σ H s):∀x c,X.env.cells.lookup x=some c->c≠X.env.locals:=λx c e z=>by
 obtain⟨v,o,ho,hd⟩:=I.cell x c e;obtain⟨m,⟨o',es,ep,vg,u_,_⟩,_⟩:=I.loc;rw[z,vg] at ho;cases ho;rw[u_] at hd;cases hd
theorem Inv.funs (I:Inv X pins σ H s):s.heap.FunFrames X.base X.outer:=by
 have all:∀(l:List Env),(∀b∈o4 l,b∈X.fs)->X.s₀.heap.FunFrames X.base l->s.heap.FunFrames X.base l:=by
  intro l
  induction l with
  | nil=>intro _ _;trivial
  | cons env r ih =>
   intro hs hl;obtain⟨hk,⟨L,o,hf,hn,ho,hd⟩,hr⟩:=hl;have hL:L∈X.fs:=hs L (by unfold o4;rw[eO,hf];exact dX);obtain⟨sl,e⟩:=I.base.slot L o ho (I.ok.frf L hL) hL λz=>I.ok.exfs L z hL;exact⟨hk,⟨L,_,hf,hn,e,hd⟩,ih (λb hb=>hs b (by unfold o4;rw[eO,hf];exact bQ _ hb)) hr⟩
 exact all X.outer (λ_ hb=>hb) I.ok.funs
theorem Inv.stack (I:Inv X pins σ H s):s.heap.FunFrames X.base X.stack:=by
 rcases I.ok.stk with e | ⟨e,hf⟩
 ·rw[e];exact I.funs
 ·rw[e];obtain⟨m,hn,_⟩:=I.loc;refine .cons (by rw[I.ok.kind];decide) hf hn ?_ I.funs;exact Heap.get?_none_of_le (fW I.ok.bsz I.ok.above)
theorem Inv.stkSub (I:Inv X pins σ H s):∀b∈o4 X.stack,b∈X.env.locals::X.fs:=λb hb=>by
 rcases I.ok.stk with e | ⟨e,hf⟩
 ·rw[e] at hb;exact bQ _ hb
 ·rw[e] at hb;unfold o4 at hb;rw[eO,hf] at hb;exact hb
theorem Inv.stkFree (I:Inv X pins σ H s):∀b∈o4 X.stack,H b=none:=λb hb=>by
 rcases aO.mp (I.stkSub b hb) with e | hb
 ·rw[e];exact I.free
 ·obtain⟨_,o,ho,_⟩:=I.ok.funs.mem hb;exact I.base.free b o ho (I.ok.frf b hb) λz=>I.ok.exfs b z hb
theorem Inv.step {g':Array GenState} {t':Nat} {d':Drawn} {ch:List Addr} (I:Inv X pins σ H s)
  (qx:∀b∈ch,(b∈X.ex\/X.s₀.heap.objs.size<=b)/\b≠X.env.locals/\(∀x c,X.env.cells.lookup x=some c->c≠b)/\∀p∈X.pn++pins,p.1≠b)
  (keep:∀b o,b≠X.env.locals->b ∉ X.fs->b ∉ ch->s.heap.get? b=some o->H b=none->h'.get? b=some o)
  (slot:∀b o,b≠X.env.locals->b∈X.fs->b ∉ ch->s.heap.get? b=some o->H b=none->∃sl,h'.get? b=some { o with slots:=sl }) (free:∀b o,b ∉ ch->s.heap.get? b=some o->H b=none->H' b=none)
  (there:∀b o,b ∉ ch->s.heap.get? b=some o->∃o',h'.get? b=some o')
  (tups:∀b xs,H b=some (.tup xs)->H' b=some (.tup xs)) (frzs:∀b o u,H b=some (.frz o u)->H' b=some (.frz o u)) (tbls:∀b ps,H b=some (.tbl ps)->∃more,H' b=some (.tbl (ps++more)))
  (ns:∀m,s.heap.Ns X.env.locals m->h'.Ns X.env.locals m) (hok:ju X.prog X.w H' h') (hg:AllBare g') :
  Inv X pins σ H' { s with heap:=h',gens:=g',drawn:=d',toks:=t' }:=by
 have neL:∀b o,X.s₀.heap.get? b=some o->b≠X.env.locals:=λb o e=>bK (cB (aW e) I.ok.above);have N_:∀b o,X.s₀.heap.get? b=some o->b ∉ X.ex->b ∉ ch:=λb o e hx hb=>by
  rcases (qx b hb).1 with z | z
  ·exact hx z
  ·exact absurd (cB (aW e) z) (iR _)
 have cellK:∀x c,X.env.cells.lookup x=some c->∀v,s.heap.IsCell c v->h'.IsCell c v:=λx c e v ⟨o,ho,hd⟩=>by
  have za:c ∉ ch:=λz=>(qx c z).2.2.1 x c e rfl;by_cases hc:c∈X.fs
  ·obtain⟨sl,q⟩:=slot c o (I.cne x c e) hc za ho (I.freeC x c e);exact⟨_,q,hd⟩
  ·exact⟨o,keep c o (I.cne x c e) hc za ho (I.freeC x c e),hd⟩
 refine⟨I.ok,I.os,hg,⟨λb o e n hb hx=>?_,λb o e n hb hx=>?_,λb o e n hx=>?_,λb o e hx=>?_,λb xs e=>tups b xs (I.base.tups b xs e),λb o xs e=>frzs b o xs (I.base.frzs b o xs e),λb ps e=>?_⟩,?_,λx c e=>?_,?_,λx c e=>?_,λp hp=>?_,hok,I.len⟩
 ·exact keep b o (neL b o e) hb (N_ b o e hx) (I.base.keep b o e n hb hx) (I.base.free b o e n hx)
 ·obtain⟨sl,e1⟩:=I.base.slot b o e n hb hx;obtain⟨sl',e2⟩:=slot b _ (neL b o e) hb (N_ b o e hx) e1 (I.base.free b o e n hx);exact⟨sl',e2⟩
 ·obtain⟨o',e1⟩:=I.base.there b o e hx;exact free b o' (N_ b o e hx) e1 (I.base.free b o e n hx)
 ·obtain⟨o',e1⟩:=I.base.there b o e hx;exact there b o' (N_ b o e hx) e1
 ·obtain⟨m1,e1⟩:=I.base.tbls b ps e;obtain⟨m2,e2⟩:=tbls b _ e1;exact⟨m1++m2,by rw[e2,uM]⟩
 ·obtain⟨m,hn,hl⟩:=I.loc;refine⟨m,ns m hn,λi x v e1 e2 e3=>?_⟩;obtain⟨u,r,l⟩:=hl i x v e1 e2 e3;refine⟨u,r,?_⟩;rcases l with l | ⟨k,c,e,z⟩
  ·exact .inl l
  ·exact .inr ⟨k,c,e,cellK x c e _ z⟩
 ·obtain⟨v,z⟩:=I.cell x c e;exact⟨v,cellK x c e v z⟩
 ·obtain⟨m,⟨o,_,_,ho,_⟩,_⟩:=I.loc;exact free _ o (λz=>(qx _ z).2.1 rfl) ho I.free
 ·obtain⟨v,o,ho,hd⟩:=I.cell x c e;exact free c o (λz=>(qx c z).2.2.1 x c e rfl) ho (I.freeC x c e)
 ·obtain⟨e,n,ne,nf,d⟩:=I.pin p hp;have za:p.1 ∉ ch:=λz=>(qx p.1 z).2.2.2 p hp rfl;exact⟨keep p.1 p.2 ne nf za e n,free p.1 p.2 za e n,ne,nf,d⟩
theorem Inv.un (I:Inv X pins σ H s) (u:Un X.fs [] H H' s.heap h') (hok:ju X.prog X.w H' h'):Inv X pins σ H' { s with heap:=h',toks:=t' }:=by
 obtain⟨m,⟨o,es,ep,ho,r⟩,_⟩:=id I.loc;obtain⟨sl,hL⟩:=u.any ho I.free (by simp);exact I.step (g':=s.gens) (d':=s.drawn) (ch:=[]) (λ_ z=>nomatch z) (λb o _ hb _ e n=>u.keep b o e n hb (by simp)) (λb o _ hb _ e n=>u.slot b o e n hb (by simp)) (λb o _ e n=>u.free b o e n (by simp)) (λb o _ e=>u.there b o e (by simp)) u.tups u.frzs u.tbls (λm' hm=>by
  obtain⟨o',ov,xt,vg,r'⟩:=hm;rw[ho] at vg;cases vg;exact⟨_,ov,xt,hL,r'⟩) hok I.bare
theorem Inv.call (I:Inv X pins σ H s) (u:Un (o4 X.stack) ch H H' s.heap h') (hok:ju X.prog X.w H' h') (hg:AllBare g')
  (qx:∀b∈ch,(b∈X.ex\/X.s₀.heap.objs.size<=b)/\b≠X.env.locals/\(∀x c,X.env.cells.lookup x=some c->c≠b)/\∀p∈X.pn++pins,p.1≠b) :
  Inv X pins σ H' { s with heap:=h',gens:=g',drawn:=d',toks:=t' }:=by
 obtain⟨m,⟨o,es,ep,ho,r⟩,_⟩:=id I.loc;obtain⟨sl,hL⟩:=u.any ho I.free λz=>(qx _ z).2.1 rfl;exact I.step (ch:=ch) qx (λb o hL hb hc e n=>u.keep b o e n (λz=>(aO.mp (I.stkSub b z)).elim hL hb) hc) (λb o _ _ hc e n=>u.any e n hc) (λb o hc e n=>u.free b o e n hc) (λb o hc e=>u.there b o e hc) u.tups u.frzs u.tbls (λm' hm=>by
  obtain⟨o',ov,xt,vg,r'⟩:=hm;rw[ho] at vg;cases vg;exact⟨_,ov,xt,hL,r'⟩) hok hg
theorem Inv.turned (I:Inv X pins σ H s) (k:∀b o,b≠it->s.heap.get? b=some o->h'.get? b=some o) (hn:H it=none) (hL:it≠X.env.locals)
  (h1:it∈X.ex\/X.s₀.heap.objs.size<=it) (h2:∀x c,X.env.cells.lookup x=some c->c≠it) (h3:∀p∈X.pn++pins,p.1≠it):Inv X pins σ H { s with heap:=h',toks:=t' }:=by
 have nit:∀b u,H b=some u->b≠it:=λb u e z=>by rw[z,hn] at e;cases e
 refine I.step (g':=s.gens) (d':=s.drawn) (ch:=[it]) (λb hb=>?_) (λb o _ _ hc e _=>k b o (λz=>hc (by simp[z])) e) (λb o _ _ hc e _=>⟨o.slots,k b o (λz=>hc (by simp[z])) e⟩) (λ_ _ _ _ n=>n)
  (λb o hc e=>⟨o,k b o (λz=>hc (by simp[z])) e⟩) (λ_ _ e=>e) (λ_ _ _ e=>e) (λb ps e=>⟨#[],by rw[e];simp⟩) (λm hm=>?_) (λb u e=>?_) I.bare
 ·have e:b=it:=by simpa using hb
  subst e;exact⟨h1,hL,h2,h3⟩
 ·obtain⟨o,es,ep,ho,r⟩:=hm;exact⟨o,es,ep,k _ o (Ne.symm hL) ho,r⟩
 ·refine (I.hok b u e).stay (λc v hc q=>k c v ?_ q) (λ_ q=>q) λ_ _ q=>q;rcases hc with z | z
  ·rw[z];exact nit b u e
  ·exact nit c _ z
theorem Inv.tok (I:Inv X pins σ H s) (t:Nat):Inv X pins σ H { s with toks:=t }:=I.un (h':=s.heap) (t':=t) Un.refl I.hok
theorem Inv.kept (I:Inv X pins σ H s) (k:∀b u,s.heap.get? b=some u->h'.get? b=some u):Inv X pins σ H { s with heap:=h',toks:=t' }:=I.un (Un.kept k) (I.hok.kept k)
theorem Inv.laid {a:Addr} (I:Inv X pins σ H s) (k:∀b u,s.heap.get? b=some u->h'.get? b=some u) (hp:s.heap.objs.size<=a) (new:cg X.prog X.w (bB H a o) h' a o) :
  Inv X pins σ (bB H a o) { s with heap:=h',toks:=t' }:=I.un (Un.laid k hp (I.hok.fresh hp)) (I.hok.laid k hp new)
theorem Inv.write (I:Inv X pins σ H s) (mu:z8 (H x)) (he:e=x\/H e=some (.own x)) (k:∀b u,b≠e->s.heap.get? b=some u->h'.get? b=some u) (wm:∃u,h'.get? e=some u)
  (new:cg X.prog X.w (bB H x o) h' x o):Inv X pins σ (bB H x o) { s with heap:=h',toks:=t' }:=I.un (Un.write mu he k wm) (I.hok.write mu he k wm new)
theorem Inv.pins_of (I:Inv X pins σ H s) (h:∀p∈zg,s.heap.get? p.1=some p.2/\H p.1=none/\p.1≠X.env.locals/\p.1 ∉ X.fs/\∀v,p.2.data≠.cell v):Inv X zg σ H s :=
 ⟨I.ok,I.os,I.bare,I.base,I.loc,I.cell,I.free,I.freeC,λp hp=>(cS.mp hp).elim (λz=>I.pin p (fD _ z)) (h p),I.hok,I.len⟩
theorem ZZ {N:List Str} (hN:N.Nodup) {i j:Nat} {x:Str} (a:N[i]? = some x) (b:N[j]? = some x):i=j:=by
 obtain⟨h1,e1⟩:=bI.mp a;obtain⟨h2,e2⟩:=bI.mp b;exact (List.getElem_inj hN).mp (e1.trans e2.symm)
theorem VL (I:Inv X pins σ H s) (hN:X.N.Nodup) (hi:X.N[i]? = some x) (hx:Loc X.env.scope x) (r:RelV v u)
  (h:∀s',Inv X pins (σ.set i (some v)) H s'->(∃a,nB a s.heap s'.heap/\(a=X.env.locals\/X.env.cells.lookup x=some a))->Q () s') (hf:X.fn x=true\/X.env.scope.names.lookup x=some .local:=by walk_at "loc"):wpAny M A (storeName X.env x u) Q E s:=by
 obtain⟨m,hn,hl⟩:=id I.loc;have V8:(X.env.scope.kind == .class || (X.env.scope.kind == .module && X.env.locals != X.env.globals))=false:=by rw[I.ok.kind];rfl
 have hiσ:i<σ.length:=by rw[I.len];exact (bI.mp hi).1
 have cne:=I.cne;have tracked:∀{a:Addr} {h':Heap},(∃o,s.heap.get? a=some o/\H a=none)->nB a s.heap h'->ju X.prog X.w H h':=λ{a h'} ha hs b ob e=>by
  obtain⟨_,_,t8⟩:=ha;refine (I.hok b ob e).stay (λc w' hc q=>(hs.2 c ?_).trans q) (λ_ q=>q) λ_ _ q=>q;rintro rfl;rcases hc with rfl | hc
  ·rw[t8] at e;cases e
  ·rw[t8] at hc;cases hc
 rcases hx with hk | hk
 ·refine wpAny_storeName_local hk hn (λh' me hs=>?_) V8;obtain⟨oL,_,_,hoL,_⟩:=id hn;refine h _ ⟨I.ok,I.os,I.bare,⟨λb o e n hb hx=>?_,λb o e n hb hx=>?_,I.base.free,λb o e hx=>?_,I.base.tups,I.base.frzs,I.base.tbls⟩,⟨_,me,λj y v' e1 e2 e3=>?_⟩,λy c e=>?_,I.free,I.freeC,λp hp=>?_,tracked ⟨oL,hoL,I.free⟩ hs,by simpa using I.len⟩ ⟨_,hs,.inl rfl⟩
  ·exact (hs.2 b (bK (cB (aW e) I.ok.above))).trans (I.base.keep b o e n hb hx)
  ·obtain⟨sl,e1⟩:=I.base.slot b o e n hb hx;exact⟨sl,(hs.2 b (bK (cB (aW e) I.ok.above))).trans e1⟩
  ·obtain⟨o',e1⟩:=I.base.there b o e hx;exact⟨o',(hs.2 b (bK (cB (aW e) I.ok.above))).trans e1⟩
  ·by_cases hj:j=i
   ·subst hj;rw[hi] at e1;cases e1;rw[iS hiσ] at e2;cases e2;exact⟨u,r,.inl ⟨hk,by simp⟩⟩
   ·rw[iO (Ne.symm hj)] at e2;obtain⟨u',r',q⟩:=hl j y v' e1 e2 e3;refine⟨u',r',?_⟩;rcases q with ⟨k,e⟩ | ⟨k,c,e,z⟩
    ·refine .inl ⟨k,?_⟩;have:y≠x:=λe=>hj (ZZ hN e1 (e ▸ hi));simp[this,e]
    ·exact .inr ⟨k,c,e,z.sameBut hs (cne y c e)⟩
  ·obtain⟨w',z⟩:=I.cell y c e;exact⟨w',z.sameBut hs (cne y c e)⟩
  ·obtain⟨e,n,ne,nf,d⟩:=I.pin p hp;exact⟨(hs.2 p.1 ne).trans e,n,ne,nf,d⟩
 ·have V_:X.fn x=true:=by
   rcases hf with z | z
   ·exact z
   ·rw[z] at hk;cases hk
  obtain⟨c,hc⟩:=I.ok.has x (.inl hk);obtain⟨w',z⟩:=I.cell x c hc;refine wpAny_storeName_cell I.ok.kind hk hc z (λh' k7 hs=>?_);obtain⟨oc,hoc,X7⟩:=id z;refine h { s with heap:=h' } ⟨I.ok,I.os,I.bare,⟨λb o e n hb hx=>?_,λb o e n hb hx=>?_,I.base.free,λb o e hx=>?_,I.base.tups,I.base.frzs,I.base.tbls⟩,⟨m,hn.sameBut hs (Ne.symm (cne x c hc)),λj y v' e1 e2 e3=>?_⟩,λy c' e=>?_,I.free,I.freeC,λp hp=>?_,tracked ⟨oc,hoc,I.freeC x c hc⟩ hs,by simpa using I.len⟩ ⟨c,hs,.inr hc⟩
  ·exact (hs.2 b (bK (cB (aW e) (I.ok.cab x c V_ hc)))).trans (I.base.keep b o e n hb hx)
  ·obtain⟨sl,e1⟩:=I.base.slot b o e n hb hx;exact⟨sl,(hs.2 b (bK (cB (aW e) (I.ok.cab x c V_ hc)))).trans e1⟩
  ·obtain⟨o',e1⟩:=I.base.there b o e hx;exact⟨o',(hs.2 b (bK (cB (aW e) (I.ok.cab x c V_ hc)))).trans e1⟩
  ·by_cases hj:j=i
   ·subst hj;rw[hi] at e1;cases e1;rw[iS hiσ] at e2;cases e2;exact⟨u,r,.inr ⟨.inl hk,c,hc,k7⟩⟩
   ·rw[iO (Ne.symm hj)] at e2;obtain⟨u',r',q⟩:=hl j y v' e1 e2 e3;refine⟨u',r',?_⟩;rcases q with q | ⟨k,c',e,z'⟩
    ·exact .inl q
    ·refine .inr ⟨k,c',e,z'.sameBut hs ?_⟩;rintro rfl;exact hj (ZZ hN e1 (I.ok.inj _ _ _ e hc ▸ hi))
  ·by_cases ya:c'=c
   ·subst ya;exact⟨_,k7⟩
   ·obtain⟨w2,z2⟩:=I.cell y c' e;exact⟨w2,z2.sameBut hs ya⟩
  ·obtain⟨e,n,ne,nf,d⟩:=I.pin p hp;refine⟨(hs.2 p.1 ?_).trans e,n,ne,nf,d⟩;intro q;rw[q,hoc] at e;have q':oc=p.2:=eB e;exact d w' (by rw[<-q'];exact X7)
theorem JN (I:Inv X pins σ H s) (hN:X.N.Nodup) (hi:X.N[i]? = some x) (hx:Loc X.env.scope x) (r:RelV v u)
  (h:∀s',Inv X pins (σ.set i (some v)) H s'->Q () s') (hf:X.fn x=true\/X.env.scope.names.lookup x=some .local:=by walk_at "loc"):wpAny M A (storeName X.env x u) Q E s :=
 VL I hN hi hx r (λs' I' _=>h s' I') hf
theorem Inv.call' (I:Inv X pins σ H s) (ho:s'.os=s.os) (u:Un (o4 X.stack) ch H H' s.heap s'.heap) (hok:ju X.prog X.w H' s'.heap) (hg:AllBare s'.gens)
  (qx:∀b∈ch,(b∈X.ex\/X.s₀.heap.objs.size<=b)/\b≠X.env.locals/\(∀x c,X.env.cells.lookup x=some c->c≠b)/\∀p∈X.pn++pins,p.1≠b):Inv X pins σ H' s':=by
 obtain⟨h',g',d',t',o'⟩:=s';have e:o'=s.os:=ho;subst e;exact I.call (g':=g') (t':=t') (d':=d') u hok hg qx
end
abbrev XK:=aD->Option Addr->Hp->Prop
abbrev St:=List (Option V)
abbrev VK:=V->Hp->Prop
abbrev TE:=St->Hp->VK->Prop
abbrev TT:=St->Hp->(Bool->Hp->Prop)->Prop
abbrev TA:=St->Hp->(List V->Hp->Prop)->Prop
structure oj where
 nx:St->Hp->Prop
 rt:VK
 bk:St->Hp->Prop:=λ_ _=>False
 ct:St->Hp->Prop:=λ_ _=>False
abbrev TS:=oj->St->Hp->Prop
def EP (X:Cx) (pins:List (Addr × Obj)) (σ:St) (Q:VK) (u:aD) (s':aG):Prop:=∃v H',Inv X pins σ H' s'/\RelV v u/\Q v H'
def TP (X:Cx) (pins:List (Addr × Obj)) (σ:St) (Q:Bool->Hp->Prop) (b:Bool) (s':aG):Prop:=∃H',Inv X pins σ H' s'/\Q b H'
def AP (X:Cx) (pins:List (Addr × Obj)) (σ:St) (Q:List V->Hp->Prop) (us:List aD) (s':aG):Prop:=∃vs H',Inv X pins σ H' s'/\aq vs us/\Q vs H'
def SP (X:Cx) (pins:List (Addr × Obj)) (D:oj) (f:Flow) (s':aG):Prop :=
 match f with
 | .next=>∃σ' H',Inv X pins σ' H' s'/\D.nx σ' H'
 | .brk=>∃σ' H',Inv X pins σ' H' s'/\D.bk σ' H'
 | .cont=>∃σ' H',Inv X pins σ' H' s'/\D.ct σ' H'
 | .ret u=>∃v σ' H',Inv X pins σ' H' s'/\RelV v u/\D.rt v H'
def PE (X:Cx) (e:Expr) (t:TE):Prop :=
 ∀(pins:List (Addr × Obj)) (s:aG) (σ:St) (H:Hp) (Q:VK),Inv X pins σ H s->t σ H Q->wpAny (model X.prog X.w) X.A (eval e X.env) (EP X pins σ Q) X.xe s
def PT (X:Cx) (e:Expr) (t:TT):Prop :=
 ∀(pins:List (Addr × Obj)) (s:aG) (σ:St) (H:Hp) (Q:Bool->Hp->Prop),Inv X pins σ H s->t σ H Q->wpAny (model X.prog X.w) X.A (isTrue e X.env (eval e X.env)) (TP X pins σ Q) X.xe s
def PW (X:Cx) (e:Expr) (t:TT):Prop :=
 ∀(whole:Sem aD) (pins:List (Addr × Obj)) (s:aG) (σ:St) (H:Hp) (Q:Bool->Hp->Prop),Inv X pins σ H s->t σ H Q->wpAny (model X.prog X.w) X.A (isTrue e X.env whole) (TP X pins σ Q) X.xe s
def PW.pt (h:PW X e t):PT X e t:=h _
def PA (X:Cx) (es:List Expr) (t:TA):Prop :=
 ∀(pos:Pos) (pins:List (Addr × Obj)) (s:aG) (σ:St) (H:Hp) (Q:List V->Hp->Prop),Inv X pins σ H s->t σ H Q->wpAny (model X.prog X.w) X.A (spliced (backTo pos (starEach es X.env))) (AP X pins σ Q) X.xe s
def PS (X:Cx) (st:Stmt) (t:TS):Prop :=
 ∀(pins:List (Addr × Obj)) (s:aG) (σ:St) (H:Hp) (D:oj),Inv X pins σ H s->t D σ H->wpAny (model X.prog X.w) X.A (exec st X.env) (SP X pins D) X.xe s
def gt (X:Cx) (st:List Stmt) (t:TS):Prop :=
 ∀(pins:List (Addr × Obj)) (s:aG) (σ:St) (H:Hp) (D:oj),Inv X pins σ H s->t D σ H->wpAny (model X.prog X.w) X.A (execs st X.env) (SP X pins D) X.xe s
def c_ {α:Type} {t:Sem α} {Q Q':α->aG->Prop} (h:wpAny M A t Q E s) (hQ:∀a s,Q a s->Q' a s):wpAny M A t Q' E s:=jT h hQ λ_ _ x=>x
section
variable {X:Cx}
def G3 (i:Nat):TE:=λσ H Q=>∃v,σ[i]? = some (some v)/\Q v H
def tC (v:V):TE:=λ_ H Q=>Q v H
theorem Xz {i:Nat} {x:Str} {pos:Pos} (hN:X.N[i]? = some x) (hv:p7 X.env.scope x) (hd:(x == ("__debug__":Str))=false:=by decide) (jx:(x == ("__classdict__":Str))=false:=by decide):PE X (.Name x pos) (G3 i):=by
 intro pins s σ H Q I h;obtain⟨v,e,h⟩:=h;obtain⟨m,hn,hl⟩:=I.loc;obtain⟨u,r,l⟩:=hl i x v hN e hv;have fin:EP X pins σ Q u s:=⟨v,H,I,r,h⟩;rcases l with ⟨hk,hm⟩ | ⟨hk,c,hc,jq⟩
 ·exact SA (wpAny_loadName_local I.ok.kind hk hn hm fin) hd
 ·rcases hk with hk | hk
  ·exact SA (wpAny_loadName_cell I.ok.kind hk hc jq fin) hd
  ·exact SA (wpAny_loadName_free I.ok.kind hk hc jq fin jx) hd
theorem Oo {i j pos}:PE X (.Constant (.int i) j pos) (tC (.int i)):=λ_ _ _ H _ I h=>wpAny_Constant_int ⟨.int i,H,I.tok _,⟨_,rfl⟩,h⟩
theorem C5 {b j pos}:PE X (.Constant (.bool b) j pos) (tC (.bl b)):=λ_ _ _ H _ I h=>Constant_bool ⟨.bl b,H,I,rfl,h⟩
theorem Xw {j pos}:PE X (.Constant .none j pos) (tC .non):=λ_ _ _ H _ I h=>Constant_none ⟨.non,H,I,rfl,h⟩
def Gl (X:Cx) (x:Str):Prop:=X.env.kindOf x=some .globalImplicit
theorem Sa {σ:St} (I:Inv X pins σ H s) (hg:Gl X x) (hm:X.mg x=some u) (h:Q u s)
  (hd:(x == ("__debug__":Str))=false:=by decide):wpAny (model X.prog X.w) X.A (eval (.Name x pos) X.env) Q E s :=
 uO I.ok.kind hg (Calls.loadGlobal_global (by rw[I.ok.glob];exact I.mod.glob.keeps I.bk) hm h) hd
theorem wW {E:aD->aG->Prop} {pins:List (Addr × Obj)} {s:aG} {σ:St} {H:Hp} {x:Str} {u:aD} {pos:Pos} {Q:aD->aG->Prop} (I:Inv X pins σ H s) (hg:Gl X x) (hm:X.mg x=none) (hv:bootBuiltins x=some u) (h:Q u s)
  (hn:x≠"__name__":=by decide) (hd:(x == ("__debug__":Str))=false:=by decide):wpAny (model X.prog X.w) X.A (eval (.Name x pos) X.env) Q E s:=by
 obtain⟨mb,h1,h2⟩:=I.mod.blt;exact uO I.ok.kind hg (Calls.loadGlobal_builtin (by rw[I.ok.glob];exact I.mod.glob.keeps I.bk) hm (by rw[I.ok.blt];exact h1.keeps I.bk) ((h2 x hn).trans hv) h) hd
theorem Td {x:Str} {v:V} {u:aD} {pos:Pos} (hg:Gl X x) (hm:X.mg x=none) (hv:bootBuiltins x=some u) (r:RelV v u) (hn:x≠"__name__":=by decide) (hd:(x == ("__debug__":Str))=false:=by decide):PE X (.Name x pos) (tC v) :=
 λ_ _ _ H _ I h=>wW I hg hm hv ⟨v,H,I,r,h⟩ hn hd
variable {ta tb:TE}
def tB (t:TE):TT:=λσ H Q=>t σ H λx H1=>∃c,x = .bl c/\Q c H1
theorem Yi (h:PE X e t) (he:∀whole,isTrue e X.env whole=(do let v <-whole;standAt e.pos;holding [v] (truthy v)):=by intro _;rfl):PT X e (tB t):=by
 intro pins s σ H Q I hw;refine isTrue_plain (c_ (h pins s σ H _ I hw) λv s1 ⟨x,H1,I1,r1,q1⟩=>?_) (he _);obtain⟨d,rfl,q⟩:=q1;cases r1;exact mE ⟨H1,I1,q⟩
variable {rest:List Expr}
def N3 (t u:TT):TT:=λσ H Q=>t σ H λc H1=>if c=true then u σ H1 Q else Q false H1
def tOr (t u:TT):TT:=λσ H Q=>t σ H λc H1=>if c=true then Q true H1 else u σ H1 Q
def N9 (t:TT):TT:=λσ H Q=>t σ H λc H1=>Q (!c) H1
theorem To (ha:PT X a tA):PW X (.BoolOp .And [a] pos) tA:=by
 intro wh pins s σ H Q I h;refine isTrue_and (c_ (ha pins s σ H Q I h) λc s1 e=>?_);cases c with
 | true=>exact isTrue_and_nil e
 | false=>exact e
theorem Yp (ha:PT X a tA):PW X (.BoolOp .Or [a] pos) tA:=by
 intro wh pins s σ H Q I h;refine isTrue_or (c_ (ha pins s σ H Q I h) λc s1 e=>?_);cases c with
 | false=>exact isTrue_or_nil e
 | true=>exact e
theorem Yo (ha:PT X a tA) (hb:PW X (.BoolOp .And (b::rest) pos) tB'):PW X (.BoolOp .And (a::b::rest) pos) (N3 tA tB'):=by
 intro wh pins s σ H Q I h;refine isTrue_and (c_ (ha pins s σ H _ I h) λc s1 ⟨H1,I1,q1⟩=>?_);cases c with
 | true=>exact hb wh pins s1 σ H1 Q I1 q1
 | false=>exact⟨H1,I1,q1⟩
theorem D6 (ha:PT X a tA) (hb:PW X (.BoolOp .Or (b::rest) pos) tB'):PW X (.BoolOp .Or (a::b::rest) pos) (tOr tA tB'):=by
 intro wh pins s σ H Q I h;refine isTrue_or (c_ (ha pins s σ H _ I h) λc s1 ⟨H1,I1,q1⟩=>?_);cases c with
 | true=>exact⟨H1,I1,q1⟩
 | false=>exact hb wh pins s1 σ H1 Q I1 q1
theorem Yh (ha:PT X a tA):PT X (.UnaryOp .Not a pos) (N9 tA):=by
 intro pins s σ H Q I h;exact isTrue_not (ha pins s σ H (λc H1=>Q (!c) H1) I h)
def F4 (ta tb:TE):TE:=λσ H Q=>ta σ H λx H1=>∃c,x = .bl c/\if c=true then tb σ H1 Q else Q (.bl false) H1
def G0 (ta:TE):TE:=λσ H Q=>ta σ H λx H1=>∃c,x = .bl c/\Q (.bl (!c)) H1
theorem Xy {op} (h:PE X a t):PE X (.BoolOp op [a] pos) t:=λpins s σ H Q I hw=>BoolOp_one (h pins s σ H Q I hw)
theorem Xu (ha:PE X a ta) (hb:PE X (.BoolOp .And (b::rest) pos) tb):PE X (.BoolOp .And (a::b::rest) pos) (F4 ta tb):=by
 intro pins s σ H Q I h;refine BoolOp_and (c_ (ha pins s σ H _ I h) λv s1 ⟨x,H1,I1,r1,q1⟩=>?_);obtain⟨c,rfl,q1⟩:=q1;cases r1;refine mE ?_;cases c with
 | true=>exact hb pins s1 σ H1 Q I1 q1
 | false=>exact⟨.bl false,H1,I1,rfl,q1⟩
theorem Xx (ha:PE X a ta):PE X (.UnaryOp .Not a pos) (G0 ta):=by
 intro pins s σ H Q I h;refine UnaryOp_ (c_ (ha pins s σ H _ I h) λv s1 ⟨x,H1,I1,r1,q1⟩=>?_);obtain⟨c,rfl,q1⟩:=q1;cases r1;exact not_of (mE ⟨.bl (!c),H1,I1,rfl,q1⟩)
end
def g_ (K:aI) (H:Hp) (a:Addr) (xs:List V):Prop :=
 Rd H a (.lst xs) \/
  ∃(o:Obj) (its:Array aD) (n:Nat),K.lookup a=some o/\o.cls = .type "list"/\o.dict=none/\o.data = .seq its n/\its.size<=sizeLine/\aq xs its.toList
def fg (K:aI) (H:Hp) (a:Addr) (xs:List V):Prop :=
 Rd H a (.tup xs) \/
  ∃(o:Obj) (its:Array aD) (n:Nat),K.lookup a=some o/\o.cls = .type "tuple"/\o.data = .seq its n/\its.size<=sizeLine/\aq xs its.toList
def H8:aD->Option V
 | .none=>some .non
 | .bool b=>some (.bl b)
 | .int i _=>some (.int i)
 | .str x _=>some (.str x)
 | .bytes b _=>some (.byt b)
 | .float b _=>some (.flt b)
 | .ref a=>some (.ref a)
 | .type n=>some (.ty n)
 | _=>none
theorem RelV.abs (r:RelV x u):H8 u=some x:=by
 cases x with
 | non=>cases r;rfl
 | bl _=>cases r;rfl
 | int _=>obtain⟨t,rfl⟩:=r;rfl
 | str _=>obtain⟨t,rfl⟩:=r;rfl
 | byt _=>obtain⟨t,rfl⟩:=r;rfl
 | flt _=>obtain⟨t,rfl⟩:=r;rfl
 | ref _=>cases r;rfl
 | ty _=>cases r;rfl
def RelV.inj (r:RelV x u) (q:RelV y u):x=y:=eB (r.abs.symm.trans q.abs)
theorem aq.inj:∀{xs ys:List V} {us:List aD},aq xs us->aq ys us->xs=ys
 | _,_,_,.nil,.nil=>rfl
 | _,_,_,.cons r t,.cons r' t'=>by rw[r.inj r',aq.inj t t']
section
variable {σ:St} {H:Hp} {a:Addr} {xs ys:List V}
theorem g_.of {K:aI} (h:H a=some (.lst xs)):g_ K H a xs:=.inl (.inl h)
theorem fg.of {K:aI} (h:H a=some (.tup xs)):fg K H a xs:=.inl (.inl h)
theorem Inv.list (I:Inv X pins σ H s) (h:g_ X.K H a xs):∃its:List aD,aq xs its/\PlainL s.heap a its.toArray/\xs.length<=sizeLine:=by
 rcases h with h | ⟨o,its,n,hk,hc,hd,hs,hz,r⟩
 ·obtain⟨z,its,n,r,e⟩:=h.ok I.hok;exact⟨its,r,⟨_,n,e,rfl,rfl,rfl⟩,z⟩
 ·refine⟨its.toList,r,⟨o,n,I.kIn a o hk,hc,hd,by simpa using hs⟩,?_⟩;have e:=r.length;simp only[cT] at e;lia
theorem Inv.tuple (I:Inv X pins σ H s) (h:fg X.K H a xs):∃its:List aD,aq xs its/\IsTup s.heap a its.toArray/\xs.length<=sizeLine:=by
 rcases h with h | ⟨o,its,n,hk,hc,hs,hz,r⟩
 ·obtain⟨z,its,r,p⟩:=h.ok I.hok;exact⟨its,r,p,z⟩
 ·refine⟨its.toList,r,⟨o,I.kIn a o hk,hc,n,by simpa using hs⟩,?_⟩;have e:=r.length;simp only[cT] at e;lia
theorem Inv.list_inj (I:Inv X pins σ H s) (h:g_ X.K H a xs) (h':g_ X.K H a ys):xs=ys:=by
 obtain⟨its,r,⟨o,n,e,_,_,d⟩,_⟩:=I.list h;obtain⟨its',r',⟨o',n',e',_,_,d'⟩,_⟩:=I.list h';rw[e] at e';cases e';rw[d] at d';injection d' with d1 _;have:its=its':=by simpa using congrArg GT d1
 subst this;exact r.inj r'
theorem Inv.tuple_inj (I:Inv X pins σ H s) (h:fg X.K H a xs) (h':fg X.K H a ys):xs=ys:=by
 obtain⟨its,r,⟨o,e,_,n,d⟩,_⟩:=I.tuple h;obtain⟨its',r',⟨o',e',_,n',d'⟩,_⟩:=I.tuple h';rw[e] at e';cases e';rw[d] at d';injection d' with d1 _;have:its=its':=by simpa using congrArg GT d1
 subst this;exact r.inj r'
end
abbrev Cx.wish (X:Cx) (E:aD->aG->Prop):Cx:={ X with xe:=E }
abbrev Cx.nox (X:Cx):Cx:=X.wish λ_ _=>False
def Cx.Ok.wish {X:Cx} (ok:X.Ok) (E:aD->aG->Prop):(X.wish E).Ok :=
 ⟨ok.mod,ok.kind,ok.glob,ok.blt,ok.above,ok.inj,ok.has,ok.cab,ok.hd,ok.frames,ok.stk,ok.exf,ok.bs,ok.bsz,ok.noex,ok.exfs,ok.funs,ok.frf⟩
def Cx.Ok.unwish {X:Cx} {E:aD->aG->Prop} (ok:(X.wish E).Ok):X.Ok :=
 ⟨ok.mod,ok.kind,ok.glob,ok.blt,ok.above,ok.inj,ok.has,ok.cab,ok.hd,ok.frames,ok.stk,ok.exf,ok.bs,ok.bsz,ok.noex,ok.exfs,ok.funs,ok.frf⟩
section
variable {X:Cx} {σ:St}
theorem Inv.wish (I:Inv X pins σ H s) (E:aD->aG->Prop):Inv (X.wish E) pins σ H s:=⟨I.ok.wish E,I.os,I.bare,I.base,I.loc,I.cell,I.free,I.freeC,I.pin,I.hok,I.len⟩
theorem Inv.unwish (I:Inv (X.wish E) pins σ H s):Inv X pins σ H s:=⟨I.ok.unwish,I.os,I.bare,I.base,I.loc,I.cell,I.free,I.freeC,I.pin,I.hok,I.len⟩
theorem SP.unwish {D:oj} (h:SP (X.wish E) pins D f s'):SP X pins D f s':=by
 cases f with
 | next=>obtain⟨σ',H',I,q⟩:=h;exact⟨σ',H',I.unwish,q⟩
 | brk=>obtain⟨σ',H',I,q⟩:=h;exact⟨σ',H',I.unwish,q⟩
 | cont=>obtain⟨σ',H',I,q⟩:=h;exact⟨σ',H',I.unwish,q⟩
 | ret u=>obtain⟨v,σ',H',I,r,q⟩:=h;exact⟨v,σ',H',I.unwish,r,q⟩
theorem gt.nox {st:List Stmt} {t:TS} (h:gt X.nox st t):gt X st t:=λpins s σ H D I hw =>
 jT (h pins s σ H D (I.wish _) hw) (λ_ _ q=>q.unwish) λ_ _ z=>mZ z
end
section
variable {X:Cx} {st:Stmt} {rest:List Stmt} {t u:TS} {te:TE}
def F9:TS:=λD σ H=>D.nx σ H
def O4 (t u:TS):TS:=λD σ H=>t { D with nx:=u D } σ H
theorem Tl:gt X [] F9:=λ_ _ σ H _ I h=>tH ⟨σ,H,I,h⟩
theorem QW (h1:PS X st t) (h2:gt X rest u):gt X (st::rest) (O4 t u):=by
 intro pins s σ H D I h;refine yC (c_ (h1 pins s σ H { D with nx:=u D } I h) λf s1 q=>?_);cases f with
 | next =>
  obtain⟨σ',H',I',q⟩:=q;exact h2 pins s1 σ' H' D I' q
 | ret v=>exact q
 | brk=>exact q
 | cont=>exact q
theorem Hb (h1:PS X st t):gt X [st] t:=by
 intro pins s σ H D I h;refine yC (c_ (h1 pins s σ H D I h) λf s1 q=>?_);cases f with
 | next=>exact tH q
 | ret v=>exact q
 | brk=>exact q
 | cont=>exact q
theorem Inv.quiet {σ:St} (I:Inv X pins σ H s):interactive X.env=false:=by simp[interactive,I.ok.kind]
def F8 (te:TE):TS:=λD σ H=>te σ H λ_ H1=>D.nx σ H1
theorem OA (he:PE X e te) (hs:swapsWith e none pos.line X.env=pure false:=by rfl):PS X (.Expr e pos) (F8 te):=by
 intro pins s σ H D I h;exact wpAny_Expr_any (c_ (he pins s σ H _ I h) λv s1 ⟨x,H1,I1,r1,q1⟩=>⟨σ,H1,I1,q1⟩) I.quiet hs
def O3 (te:TE):TS:=λD σ H=>te σ H D.rt
theorem Ov (he:PE X e te):PS X (.Return (some e) pos) (O3 te):=by
 intro pins s σ H D I h;exact wpAny_Return_some (c_ (he pins s σ H _ I h) λv s1 ⟨x,H1,I1,r1,q1⟩=>⟨x,σ,H1,I1,r1,q1⟩)
def N6 (c:TT) (t u:TS):TS:=λD σ H=>c σ H λb H1=>if b=true then t D σ H1 else u D σ H1
theorem C9 {c:Expr} (hc:PT X c tc) (ha:gt X a t) (hb:gt X b u):PS X (.If c a b pos) (N6 tc t u):=by
 intro pins s σ H D I h;refine wpAny_If (c_ (hc pins s σ H _ I h) λd s1 ⟨H1,I1,q1⟩=>?_);cases d with
 | true=>exact ha pins s1 σ H1 D I1 q1
 | false=>exact hb pins s1 σ H1 D I1 q1
def Ze:TS:=λ_ _ _=>False
theorem Ou:PS X st Ze:=λ_ _ _ _ _ _ h=>h.elim
end
abbrev TG:=V->St->Hp->(St->Hp->Prop)->Prop
abbrev sv:=List V->St->Hp->(St->Hp->Prop)->Prop
def PG (X:Cx) (target:Expr) (t:TG):Prop :=
 ∀(pins:List (Addr × Obj)) (s:aG) (σ:St) (H:Hp) (v:V) (u:aD) (Q:St->Hp->Prop),Inv X pins σ H s->RelV v u->t v σ H Q ->
  wpAny (model X.prog X.w) X.A (assign target X.env u) (λ_ s'=>∃σ' H',Inv X pins σ' H' s'/\Q σ' H') X.xe s
def qo (X:Cx) (ts:List Expr) (t:sv):Prop :=
 ∀(pins:List (Addr × Obj)) (s:aG) (σ:St) (H:Hp) (vs:List V) (us:List aD) (Q:St->Hp->Prop),Inv X pins σ H s->aq vs us->t vs σ H Q ->
  wpAny (model X.prog X.w) X.A (assignInOrder ((assignEach ts X.env).map (·.2)) us) (λ_ s'=>∃σ' H',Inv X pins σ' H' s'/\Q σ' H') X.xe s
section
variable {X:Cx} {pos:Pos}
def Ve (i:Nat):TG:=λv σ H Q=>Q (σ.set i (some v)) H
theorem Tf (hN:X.N.Nodup) (hi:X.N[i]? = some x) (hx:Loc X.env.scope x) (hf:X.fn x=true\/X.env.scope.names.lookup x=some .local:=by walk_at "loc"):PG X (.Name x pos) (Ve i):=by
 intro pins s σ H v u Q I r h;exact JO (JN I hN hi hx r (λs' I'=>⟨_,H,I',h⟩) hf)
def J7:sv:=λvs σ H Q=>vs=[]/\Q σ H
def A4 (t:TG) (u:sv):sv:=λvs σ H Q=>∃v r,vs=v::r/\t v σ H λσ' H'=>u r σ' H' Q
theorem Tg:qo X [] J7:=by
 intro pins s σ H vs us Q I r h;obtain⟨e,h⟩:=h;subst e;cases r;exact HZ ⟨σ,H,I,h⟩
theorem Oq (h1:PG X e t) (h2:qo X es u)
  (hs:(assignEach (e::es) X.env).map (·.2)=assign e X.env::(assignEach es X.env).map (·.2):=by rfl):qo X (e::es) (A4 t u):=by
 intro pins s σ H vs us Q I r h;obtain⟨v,vr,e1,h⟩:=h;subst e1;cases r with
 | cons r rr =>
  rw[hs];refine uZ (c_ (h1 pins s σ H _ _ _ I r h) λ_ s1 ⟨σ1,H1,I1,q1⟩=>?_);exact h2 pins s1 σ1 H1 _ _ Q I1 rr q1
def J8 (K:aI) (n:Nat) (t:sv):TG:=λv σ H Q=>∃a xs,v = .ref a/\fg K H a xs/\xs.length=n/\t xs σ H Q
theorem Ya {es:List Expr} {k:Nat} {t:sv} {n:Nat} (hc:X.calm=true) (h:qo X es t)
  (hn:(assignEach es X.env).length=n:=by rfl) (o6:(assignEach es X.env).findIdx? (·.1)=none:=by rfl):PG X (.Tuple es k pos) (J8 X.K n t):=by
 intro pins s σ H v u Q I r hw;obtain⟨a,xs,e1,hq,hl,hw⟩:=hw;subst e1;cases r;obtain⟨its,rv,ht,hz⟩:=I.tuple hq;refine assign_Tuple_tuple (I.ok.hd hc) ht (by simp[hn,<-hl,rv.length]) o6 λh' hx=>?_;have I1:Inv X pins σ H { s with heap:=h' }:=I.kept (t':=s.toks) λb o e=>hx b o (bK (aW e)) e;exact h pins _ σ H xs _ Q I1 (by simpa using rv) hw
def F5 (te:TE) (g:TG):TS:=λD σ H=>te σ H λx H1=>g x σ H1 D.nx
theorem Ye {tg e:Expr} {te:TE} {g:TG} (he:PE X e te) (hg:PG X tg g) (hs:swapsWithSole [tg] e pos.line X.env=pure false:=by rfl) (hw:swappedStores [tg] e X.env=pure none:=by rfl)
  (h1:(assignEach [tg] X.env).map (·.2)=[assign tg X.env]:=by rfl):PS X (.Assign [tg] e pos) (F5 te g):=by
 intro pins s σ H D I h;refine wpAny_Assign_stores (c_ (he pins s σ H _ I h) λv s1 ⟨x,H1,I1,r1,q1⟩=>?_) hs hw;rw[h1];exact c_ (hg pins s1 σ H1 x v _ I1 r1 q1) λ_ s2 q=>q
theorem Ea {i:Nat} {x:Str} {e:Expr} {te:TE} {pos':Pos} (hN:X.N.Nodup) (hi:X.N[i]? = some x) (hx:Loc X.env.scope x) (he:PE X e te) (hs:swapsWith e (some (.Name x pos')) pos.line X.env=pure false:=by rfl) (hf:X.fn x=true\/X.env.scope.names.lookup x=some .local:=by walk_at "loc") :
  PS X (.Assign [.Name x pos'] e pos) (F5 te (Ve i)):=by
 intro pins s σ H D I h;refine wpAny_Assign_Name (c_ (he pins s σ H _ I h) λv s1 ⟨y,H1,I1,r1,q1⟩=>?_) hs;exact JN I1 hN hi hx r1 (λs2 I2=>⟨_,H1,I2,q1⟩) hf
def O0 (i j:Nat) (ta:TA):TS:=λD σ H=>ta σ H λvs H1=>∃v w,vs=[v,w]/\D.nx ((σ.set i (some v)).set j (some w)) H1
theorem Yg {px py pt:Pos} {kt k2 vw} (hc:X.calm=true) (hN:X.N.Nodup) (hi:X.N[i]? = some x) (hj:X.N[j]? = some y) (md:i≠j)
  (hx:X.env.scope.names.lookup x=some .local) (hy:X.env.scope.names.lookup y=some .local) (ha:PA X [a,b] ta)
  (hw:swappedStores [.Tuple [.Name x px,.Name y py] kt pt] (.Tuple [a,b] k2 vw) X.env=pure (some [x,y]))
  (hs:swapsWithSole [.Tuple [.Name x px,.Name y py] kt pt] (.Tuple [a,b] k2 vw) pos.line X.env=pure false:=by rfl) :
  PS X (.Assign [.Tuple [.Name x px,.Name y py] kt pt] (.Tuple [a,b] k2 vw) pos) (O0 i j ta):=by
 intro pins s σ H D I h;rw[exec_Assign_arm];refine aA (FL ?_);rw[hs];refine aA (aK ?_);rw[if_neg (by decide)];refine aA (Tuple_ (c_ (ha _ pins s σ H _ I h) λus s1 ⟨vs,H1,I1,r1,q1⟩=>?_));obtain⟨v,w,e1,q1⟩:=q1;subst e1;obtain⟨u1,u2,rfl,rv,mn⟩:∃u1 u2,us=[u1,u2]/\RelV v u1/\RelV w u2:=by
  cases r1 with
  | cons p q =>
   cases q with
   | cons p' q' =>
    cases q';exact⟨_,_,rfl,p,p'⟩
 refine fM ?_ (by show 2<=sizeLine;decide);have I2:Inv X pins σ H1 { s1 with heap:=s1.heap.push { cls:=.type "tuple",data:=.seq [u1,u2].toArray } }:=I1.kept (t':=s1.toks) λb o e=>aR _ e;rw[hw];refine aA (aK ?_);show wpAny (model X.prog X.w) X.A (do rule "assign.swapped-stores";let items <-unpackItems (.ref s1.heap.objs.size) 2 none;assignInOrder [λv=>bindName X.env y v,λv=>bindName X.env x v] items.reverse;pure Flow.next) _ _ _;refine aA (vL (aA (unpackItems_tuple (items:=#[u1,u2]) (I.ok.hd hc) (JS s1.heap _) λh' n_=>?_)));have I3:=I2.kept (h':=h') (t':=s1.toks) λb o e=>n_ b o (bK (aW e)) e;show wpAny _ _ (assignInOrder [λv=>bindName X.env y v,λv=>bindName X.env x v] [u2,u1] >>= λ_=>pure Flow.next) _ _ _;refine aA (uZ (SB (JN I3 hN hj (.inl hy) mn (λs2 I4=>?_) (.inr hy))));refine uZ (SB (JN I4 hN hi (.inl hx) rv (λs3 I5=>HZ (aK ?_)) (.inr hx)));rw[List.set_comm _ _ (Ne.symm md)] at I5;exact⟨_,H1,I5,q1⟩
end
section
def Zf (c:TT) (tb:TS):TS:=λD σ H=>∃W:Nat->St->Hp->Prop,(∃m,W m σ H)/\∀m σ H,W m σ H ->
 c σ H λb H1=>if b=true then ∃N:St->Hp->Prop,(∀σ' H',N σ' H'->∃m',m'<m/\W m' σ' H')/\tb { D with nx:=N,ct:=N,bk:=D.nx } σ H1 else D.nx σ H1
theorem Ox {c:Expr} (hp:PassesOwn (model X.prog X.w) X.A X.env X.xe) (hc:PT X c tc) (hb:gt X body tb):PS X (.While c body [] pos) (Zf tc tb):=by
 intro pins s σ H D I h;obtain⟨W,⟨m0,w0⟩,turn⟩:=h;refine wpAny_While (codeAny_whileLoop (λn s'=>∃σ' H',Inv X pins σ' H' s'/\W n σ' H') ?_ m0 ⟨σ,H,I,w0⟩);rintro n s1 ⟨σ1,H1,I1,w1⟩;refine lT hp (c_ (hc pins s1 σ1 H1 _ I1 (turn n σ1 H1 w1)) λb s2 ⟨H2,I2,q2⟩=>?_);cases b with
 | true =>
  obtain⟨N,hN,q2⟩:=q2;rw[if_pos rfl];refine lT hp (c_ (hb pins s2 σ1 H2 _ I2 q2) λf s3 q3=>?_);cases f with
  | next =>
   obtain⟨σ3,H3,I3,n3⟩:=q3;obtain⟨m',hm,w3⟩:=hN σ3 H3 n3;exact⟨m',hm,σ3,H3,I3,w3⟩
  | cont =>
   obtain⟨σ3,H3,I3,n3⟩:=q3;obtain⟨m',hm,w3⟩:=hN σ3 H3 n3;exact⟨m',hm,σ3,H3,I3,w3⟩
  | brk=>exact q3
  | ret v=>exact q3
 | false =>
  rw[if_neg cO];exact tH ⟨σ1,H2,I2,q2⟩
end
structure It where
 go:Nat->Hp->Prop
 yld:Nat->Hp->V->Hp->Prop
 stop:Nat->Hp->Prop
def SG (X:Cx) (pins:List (Addr × Obj)) (H:Hp) (b:Addr):Prop :=
 H b=none/\b≠X.env.locals/\b ∉ X.fs/\(b∈X.ex\/X.s₀.heap.objs.size<=b)/\(∀x c,X.env.cells.lookup x=some c->c≠b)/\∀p∈X.pn++pins,p.1≠b
def Inv.fpOk {σ:St} {b:Addr} (I:Inv X pins σ H s) (hb:s.heap.objs.size<=b) (hn:H' b=none):SG X pins H' b:=by
 refine⟨hn,eK (cB I.lt hb),I.nofs hb,.inr (fW I.sz hb),λx c e z=>?_,λp hp z=>?_⟩
 ·obtain⟨v,q⟩:=I.cell x c e;exact absurd (cB q.lt (by rw[z];exact hb)) (iR _)
 ·exact absurd (cB (aW (I.pin p hp).1) (by rw[z];exact hb)) (iR _)
structure pw (P:cE) (w:dI) (K:aI) (tg:Expr) (J:It) (fp:List Addr) (it:Addr) (tn:Nat->Heap->Prop):Prop where
 mem:it∈fp
 obj:∀i h,tn i h->∀b∈fp,∃o,h.get? b=some o/\∀v,o.data≠.cell v
 keep:∀i h h',tn i h->(∀b∈fp,∀o,h.get? b=some o->h'.get? b=some o)->tn i h'
 item:∀(X:Cx),X.prog=P->X.w=w->X.K=K->X.calm=true->∀(i:Nat) (pins:List (Addr × Obj)) (s:aG) (σ:St) (H:Hp) (E:aD->aG->Prop),Inv X pins σ H s->(∀b∈fp,SG X pins H b)->tn i s.heap->J.go i H ->
  wpAny (model P w) X.A (pyNext (.ref it)) (λr s1=>∃u,r=some u /\
   wpAny (model P w) X.A (letOwnedTupleGo tg (.ref it) u) (λ_ s2=>∃x H',Inv X pins σ H' s2/\RelV x u/\J.yld i H x H'/\tn (i+1) s2.heap/\∀b∈fp,H' b=none) E s1) E s
 done:∀(X:Cx),X.prog=P->X.w=w->X.K=K->X.calm=true->∀(i:Nat) (pins:List (Addr × Obj)) (s:aG) (σ:St) (H:Hp) (E:aD->aG->Prop),Inv X pins σ H s->(∀b∈fp,SG X pins H b)->tn i s.heap->J.stop i H ->
  wpAny (model P w) X.A (pyNext (.ref it)) (λr s1=>r=none/\Inv X pins σ H s1) E s
 self:∀(A:dJ) (i:Nat) (s:aG) (Q:aD->aG->Prop) (E:aD->aG->Prop),tn i s.heap->Q (.ref it) s->wpAny (model P w) A (pyIter (.ref it)) Q E s
abbrev TI:=St->Hp->(It->Hp->Prop)->Prop
def PIE (X:Cx) (pins:List (Addr × Obj)) (σ:St) (tg:Expr) (R:It->Hp->Prop) (No:aD) (s2:aG):Prop :=
 ∃(it:Addr) (fp:List Addr) (tn:Nat->Heap->Prop) (J:It) (H':Hp),No = .ref it/\Inv X pins σ H' s2/\pw X.prog X.w X.K tg J fp it tn/\tn 0 s2.heap/\(∀b∈fp,SG X pins H' b)/\R J H'
def PI (X:Cx) (tg iter:Expr) (wi:TI):Prop :=
 ∀(pins:List (Addr × Obj)) (s:aG) (σ:St) (H:Hp) (R:It->Hp->Prop),Inv X pins σ H s->wi σ H R ->
  wpAny (model X.prog X.w) X.A (eval iter X.env) (λv s1=>wpAny (model X.prog X.w) X.A (pyIter v) (PIE X pins σ tg R) X.xe s1) X.xe s
def Mz (ho:s.heap.get? it=some o) (hc:o.cls = .type n) (hd:o.data = .fields vs)
  (hn:["enumerate","zip","dict_itemiterator","dict_reverseitemiterator","odict_iterator","itertools.zip_longest","itertools.pairwise"].contains n=false) (hQ:Q () s):wpAny M A (letOwnedTupleGo tg (.ref it) u) Q E s:=by
 unfold letOwnedTupleGo;cases tg <;> first
  | exact aK hQ
  | (cases u <;> first
    | exact aK hQ
    | (refine aA (wpAny_load ho ?_);rw[hc,hd];show wpAny M A (if (["enumerate","zip","dict_itemiterator","dict_reverseitemiterator","odict_iterator","itertools.zip_longest","itertools.pairwise"].contains n && vs[0]? == some (rawInt _))=true then _ else _) Q E s;rw[if_neg (by intro h;rw[hn,AU] at h;cases h)];exact aK hQ))
def xc (K:aI) (a:Addr):It :=
 ⟨λi H=>∃xs x,g_ K H a xs/\xs[i]? = some x,λi H x H'=>H'=H/\∀xs,g_ K H a xs->xs[i]? = some x,λi H=>∃xs,g_ K H a xs/\xs.length<=i⟩
def Itt (K:aI) (a:Addr):It :=
 ⟨λi H=>∃xs x,fg K H a xs/\xs[i]? = some x,λi H x H'=>H'=H/\∀xs,fg K H a xs->xs[i]? = some x,λi H=>∃xs,fg K H a xs/\xs.length<=i⟩
def z6 (lo:Int) (n:Nat):It:=⟨λi _=>i<n,λi H x H'=>H'=H/\x = .int (lo+i),λi _=>n<=i⟩
def Kr {P:cE} {w:dI} {K:aI} {tg:Expr} (a it:Addr):pw P w K tg (xc K a) [it] it (λi h=>h.IsListIter it a i) where
 mem:=by simp
 obj:=λi h st b hb=>by
  have e:b=it:=by simpa using hb
  subst e;obtain⟨o,e,c,d⟩:=st;exact⟨o,e,λv z=>by rw[d] at z;cases z⟩
 keep:=λi h h' st k=>st.at λo e=>k it (by simp) o e
 item:=by
  intro X hP hw hK hc i pins s σ H E I hf st hg;subst hP hw hK;obtain⟨xs,x,hq,hx⟩:=hg;obtain⟨its,rv,p,hz⟩:=I.list hq;obtain⟨u,hu,ru⟩:=rv.get hx;obtain⟨f0,f1,f2,f3,f4,f5⟩:=hf it (by simp);refine wpAny_pyNext_list_item st p.isList (x:=u) (by simpa using hu) λh' e_ sb=>?_;have I1:Inv X pins σ H { s with heap:=h' }:=I.turned (t':=s.toks) (λb o hb e=>(sb.2 b hb).trans e) f0 f1 f3 f4 f5;obtain⟨o,e,c,d⟩:=id e_;exact⟨u,rfl,Mz (s:={ s with heap:=h' }) e c d (by decide) ⟨x,H,I1,ru,⟨rfl,λys hy=>by rw[I.list_inj hy hq];exact hx⟩,e_,λb hb=>(hf b hb).1⟩⟩
 done:=by
  intro X hP hw hK hc i pins s σ H E I hf st hg;subst hP hw hK;obtain⟨xs,hq,hx⟩:=hg;obtain⟨its,rv,p,hz⟩:=I.list hq;obtain⟨f0,f1,f2,f3,f4,f5⟩:=hf it (by simp);have hl:=rv.length;exact wpAny_pyNext_list_end (I.ok.hd hc) st p.isList (by simp;lia) λh' eb=>⟨rfl,I.turned (t':=s.toks) (λb o hb e=>eb b o hb e) f0 f1 f3 f4 f5⟩
 self:=λ_ _ _ _ _ st h=>wpAny_pyIter_listiter st h
def Ex {P:cE} {w:dI} {K:aI} {tg:Expr} (a it:Addr):pw P w K tg (Itt K a) [it] it (λi h=>h.IsTupleIter it a i) where
 mem:=by simp
 obj:=λi h st b hb=>by
  have e:b=it:=by simpa using hb
  subst e;obtain⟨o,e,c,d⟩:=st;exact⟨o,e,λv z=>by rw[d] at z;cases z⟩
 keep:=λi h h' st k=>st.at λo e=>k it (by simp) o e
 item:=by
  intro X hP hw hK hc i pins s σ H E I hf st hg;subst hP hw hK;obtain⟨xs,x,hq,hx⟩:=hg;obtain⟨its,rv,p,hz⟩:=I.tuple hq;obtain⟨u,hu,ru⟩:=rv.get hx;obtain⟨f0,f1,f2,f3,f4,f5⟩:=hf it (by simp);refine wpAny_pyNext_tuple_item st (show s.heap.IsTuple a its.toArray from p) (x:=u) (by simpa using hu) λh' e_ sb=>?_;have I1:Inv X pins σ H { s with heap:=h' }:=I.turned (t':=s.toks) (λb o hb e=>(sb.2 b hb).trans e) f0 f1 f3 f4 f5;obtain⟨o,e,c,d⟩:=id e_;exact⟨u,rfl,Mz (s:={ s with heap:=h' }) e c d (by decide) ⟨x,H,I1,ru,⟨rfl,λys hy=>by rw[I.tuple_inj hy hq];exact hx⟩,e_,λb hb=>(hf b hb).1⟩⟩
 done:=by
  intro X hP hw hK hc i pins s σ H E I hf st hg;subst hP hw hK;obtain⟨xs,hq,hx⟩:=hg;obtain⟨its,rv,p,hz⟩:=I.tuple hq;obtain⟨f0,f1,f2,f3,f4,f5⟩:=hf it (by simp);have hl:=rv.length;exact wpAny_pyNext_tuple_end (I.ok.hd hc) st (show s.heap.IsTuple a its.toArray from p) (by simp;lia) λh' eb=>⟨rfl,I.turned (t':=s.toks) (λb o hb e=>eb b o hb e) f0 f1 f3 f4 f5⟩
 self:=λ_ _ _ _ _ st h=>wpAny_pyIter_tupleiter st h
def Ew {P:cE} {w:dI} {K:aI} {tg:Expr} (it:Addr) (lo:Int) (n:Nat):pw P w K tg (z6 lo n) [it] it (λi h=>IsRangeIter h it (lo+(i:Nat)*1) ((n:Int)-(i:Nat)) 1) where
 mem:=by simp
 obj:=λi h st b hb=>by
  have e:b=it:=by simpa using hb
  subst e;exact⟨_,st,λv z=>by
   have z':Data.fields _=Data.cell v:=z;cases z'⟩
 keep:=λi h h' st k=>k it (by simp) _ st
 item:=by
  intro X hP hw hK hc i pins s σ H E I hf st hg;subst hP hw hK;obtain⟨f0,f1,f2,f3,f4,f5⟩:=hf it (by simp);have W:=Walks.range (prog:=X.prog) (w:=X.w) (I.ok.hd hc) it lo 1 n;refine W.item i s _ _ hg st λv h' tk hv e_ kk=>?_;obtain⟨t,rfl⟩:=hv;have I1:Inv X pins σ H { s with heap:=h',toks:=tk }:=I.turned (λb o hb e=>kk b o (by simpa using hb) e) f0 f1 f3 f4 f5;refine⟨_,rfl,Mz (s:={ s with heap:=h',toks:=tk }) (n:="range_iterator") e_ rfl rfl (by decide) ⟨.int (lo+i),H,I1,⟨t,?_⟩,⟨rfl,rfl⟩,e_,λb hb=>(hf b hb).1⟩⟩;rw[vS]
 done:=by
  intro X hP hw hK hc i pins s σ H E I hf st hg;subst hP hw hK;obtain⟨f0,f1,f2,f3,f4,f5⟩:=hf it (by simp);exact wpAny_pyNext_range_end (I.ok.hd hc) st (by have:n<=i:=hg;lia) λh' eb=>⟨rfl,I.turned (t':=s.toks) (λb o hb e=>eb b o hb e) f0 f1 f3 f4 f5⟩
 self:=λ_ _ _ _ _ st h=>wpAny_pyIter_rangeiter st h
section
def A5 (K:aI) (tl:TE):TI:=λσ H R=>tl σ H λx H1=>∃a,x = .ref a/\(∃xs,g_ K H1 a xs)/\R (xc K a) H1
def K0 (K:aI) (tl:TE):TI:=λσ H R=>tl σ H λx H1=>∃a,x = .ref a/\(∃xs,fg K H1 a xs)/\R (Itt K a) H1
def Th (hl:PE X l tl):PI X tg l (A5 X.K tl):=by
 intro pins s σ H R I h;refine c_ (hl pins s σ H _ I h) λv s1 ⟨x,H1,I1,r1,q1⟩=>?_;obtain⟨a,e,⟨xs,hq⟩,q⟩:=q1;subst e;cases r1;obtain⟨its,rv,p,hz⟩:=I1.list hq;refine kH p.isList ?_;refine⟨s1.heap.objs.size,[s1.heap.objs.size],_,_,H1,rfl,I1.kept (t':=s1.toks) λb o e=>aR _ e,Kr a _,⟨_,bR _ rfl,rfl,rfl⟩,λb hb=>?_,q⟩;have e:b=s1.heap.objs.size:=by simpa using hb
 subst e;exact I1.fpOk (bU _) (I1.hok.fresh (bU _))
def Yd (hl:PE X l tl):PI X tg l (K0 X.K tl):=by
 intro pins s σ H R I h;refine c_ (hl pins s σ H _ I h) λv s1 ⟨x,H1,I1,r1,q1⟩=>?_;obtain⟨a,e,⟨xs,hq⟩,q⟩:=q1;subst e;cases r1;obtain⟨its,rv,p,hz⟩:=I1.tuple hq;refine lH (show s1.heap.IsTuple a its.toArray from p) ?_;refine⟨s1.heap.objs.size,[s1.heap.objs.size],_,_,H1,rfl,I1.kept (t':=s1.toks) λb o e=>aR _ e,Ex a _,⟨_,bR _ rfl,rfl,rfl⟩,λb hb=>?_,q⟩;have e:b=s1.heap.objs.size:=by simpa using hb
 subst e;exact I1.fpOk (bU _) (I1.hok.fresh (bU _))
def Pg {σ:St} {lo hi:Int} (I:Inv X pins σ H s) (h1:-(2 ^ 62)<=lo) (h2:lo<2 ^ 62) (h3:-(2 ^ 62)<=hi) (h4:hi<2 ^ 62)
  (q:R (z6 lo (hi-lo).toNat) H):wpAny (model X.prog X.w) X.A (pyIter (.ref s.heap.objs.size)) (PIE X pins σ tg R) E { s with heap:=s.heap.push { cls:=.type "range",data:=.fields #[.int lo t,.int hi u,.int 1 v] },toks:=tk }:=by
 refine wpAny_pyIter_range (IsRange.new ..) (small_one h1 h2 h3 h4) ?_;have I1:Inv X pins σ H { s with heap:=s.heap.push { cls:=.type "range",data:=.fields #[.int lo t,.int hi u,.int 1 v] },toks:=tk }:=I.kept λb o e=>aR _ e;refine⟨(s.heap.push { cls:=.type "range",data:=.fields #[.int lo t,.int hi u,.int 1 v] }).objs.size,[(s.heap.push { cls:=.type "range",data:=.fields #[.int lo t,.int hi u,.int 1 v] }).objs.size],_,_,H,rfl,
  I1.kept (t':=tk) λb o e=>aR _ e,Ew _ lo (hi-lo).toNat,?_,λb hb=>?_,q⟩
 ·have e1:lo+((0:Nat):Int)*1=lo:=by simp
  have e2:(((hi-lo).toNat:Nat):Int)-((0:Nat):Int)=Builtin.Range.rangeSize lo hi 1:=by rw[rangeSize_one];split <;> lia
  show IsRangeIter _ _ (lo+((0:Nat):Int)*1) ((((hi-lo).toNat:Nat):Int)-((0:Nat):Int)) 1;rw[e1,e2];exact bR _ rfl
 ·have e:b=(s.heap.push { cls:=.type "range",data:=.fields #[.int lo t,.int hi u,.int 1 v] }).objs.size:=by simpa using hb
  subst e;exact I1.fpOk (bU _) (I1.hok.fresh (bU _))
def A6 (ta:TA):TI:=λσ H R=>ta σ H λvs H1=>∃j:Int,vs=[.int j]/\-(2 ^ 62)<=j/\j<2 ^ 62/\R (z6 0 j.toNat) H1
theorem Jz (hg:Gl X "range") (hm:X.mg "range" = none) (ha:PA X [a] ta) (hs:starEach [a] X.env=[(false,eval a X.env)]:=by rfl):PI X tg (.Call (.Name "range" p) [a] [] pos) (A6 ta):=by
 intro pins s σ H R I h;refine Call_ (wW I hg hm boot_range (gJ (c_ (ha pos pins s σ H _ I h) λus s1 ⟨vs,H1,I1,r1,q1⟩=>?_) hs rfl));obtain⟨j,e,q1,q2,q⟩:=q1;subst e;cases r1 with
 | cons r rr =>
  cases rr;obtain⟨t,rfl⟩:=r;exact call_range_1 (Pg I1 (by lia) (by lia) q1 q2 (by simpa using q))
def N5 (wi:TI) (g:TG) (tb:TS):TS:=λD σ H=>wi σ H λJ H1=>∃W:Nat->Nat->St->Hp->Prop,(∃m,W 0 m σ H1)/\∀i m σ H,W i m σ H ->
 (J.stop i H/\D.nx σ H)\/(J.go i H/\∃N:St->Hp->Prop,(∀σ' H',N σ' H'->∃m',m'<m/\W (i+1) m' σ' H')/\∀x H',J.yld i H x H'->g x σ H' λσ2 H2=>tb { D with nx:=N,ct:=N,bk:=D.nx } σ2 H2)
def XH (fp:List Addr) (h:Heap):List (Addr × Obj):=fp.filterMap λb=>(h.get? b).map λo=>(b,o)
def sH (hb:b∈fp) (e:h.get? b=some o):(b,o)∈XH fp h:=qH.mpr ⟨b,hb,by rw[e];rfl⟩
theorem Jq (hp:p∈XH fp h):p.1∈fp/\h.get? p.1=some p.2:=by
 obtain⟨b,hb,e⟩:=qH.mp hp;cases q:h.get? b with
 | none=>rw[q] at e;cases e
 | some o =>
  rw[q] at e;have e':(b,o)=p:=eB e;subst e';exact⟨hb,q⟩
def Inv.pinned {σ:St} (I:Inv X pins σ H s) (hf:∀b∈fp,SG X pins H b) (ho:∀b∈fp,∃o,s.heap.get? b=some o/\∀v,o.data≠.cell v):Inv X (pins++XH fp s.heap) σ H s :=
 I.pins_of λp hp=>(cS.mp hp).elim (λz=>I.pin p (bP _ z)) λz=>by
  obtain⟨hb,e⟩:=Jq z;obtain⟨f0,f1,f2,_⟩:=hf p.1 hb;obtain⟨o,e',d⟩:=ho p.1 hb;rw[e] at e';cases e';exact⟨e,f0,f1,f2,d⟩
def Inv.unpinned {σ:St} (I:Inv X (pins++pl) σ H s):Inv X pins σ H s:=I.pins_of λp hp=>I.pin p (bP _ (fD _ hp))
def Yf (hp:PassesOwn (model X.prog X.w) X.A X.env X.xe) (hc:X.calm=true) (hi:PI X tg iter wi) (hg:PG X tg g) (hb:gt X body tb)
  (hs:∀x,foldedSetIterable iter X.env x=pure x:=by intro _;rfl):PS X (.For tg iter body [] pos) (N5 wi g tb):=by
 intro pins s σ H D I h;refine wpAny_For (c_ (hi pins s σ H _ I h) λv s1 h1=>c_ h1 λNo s2 h2=>?_) hs;obtain⟨it,fp,tn,J,H2,e,I2,T,st2,f2,W,⟨m0,w0⟩,turn⟩:=h2;subst e;have v6:∀{H':Hp},(∀b∈fp,H' b=none)->∀b∈fp,SG X pins H' b:=λhn b hb=>⟨hn b hb,(f2 b hb).2⟩;refine codeAny_forLoop_any (λn s'=>∃i σ' H',Inv X pins σ' H' s'/\tn i s'.heap/\(∀b∈fp,H' b=none)/\W i n σ' H') ?_ m0 ⟨0,σ,H2,I2,st2,λb hb=>(f2 b hb).1,w0⟩;rintro n s3 ⟨i,σ3,H3,I3,st3,fr3,w3⟩;rcases turn i n σ3 H3 w3 with ⟨stop,qn⟩ | ⟨go,N,hN,step⟩
 ·refine lT hp (c_ (T.done X rfl rfl rfl hc i pins s3 σ3 H3 X.xe I3 (v6 fr3) st3 stop) λr s4 ⟨hr,I4⟩=>?_);subst hr;exact tH ⟨σ3,H3,I4,qn⟩
 ·refine lT hp (c_ (T.item X rfl rfl rfl hc i pins s3 σ3 H3 X.xe I3 (v6 fr3) st3 go) λr s4 ⟨u,hr,h4⟩=>?_);subst hr;refine lT hp (c_ h4 λ_ s5 ⟨x,H5,I5,r5,y5,sf,U9⟩=>?_);have T3:=I5.pinned (v6 U9) (T.obj _ _ sf);refine lT hp (c_ (hg _ s5 σ3 H5 x u _ T3 r5 (step x H5 y5)) λ_ s6 ⟨σ6,H6,I6,q6⟩=>?_);refine lT hp (c_ (hb _ s6 σ6 H6 _ I6 q6) λf s7 q7=>?_);have again:∀{σ7:St} {H7:Hp},Inv X (pins++XH fp s5.heap) σ7 H7 s7->N σ7 H7->∃m,m<n/\∃i σ' H',Inv X pins σ' H' s7/\tn i s7.heap/\(∀b∈fp,H' b=none)/\W i m σ' H':=λ{σ7 H7} I7 n7=>by
   obtain⟨m',hm,w7⟩:=hN σ7 H7 n7;refine⟨m',hm,i+1,σ7,H7,I7.unpinned,T.keep _ _ _ sf λb hb o e=>(I7.pin (b,o) (bP _ (bP _ (sH hb e)))).1,λb hb=>?_,w7⟩;obtain⟨o,e,d⟩:=T.obj _ _ sf b hb;exact (I7.pin (b,o) (bP _ (bP _ (sH hb e)))).2.1
  cases f with
  | next=>obtain⟨σ7,H7,I7,n7⟩:=q7;exact again I7 n7
  | cont=>obtain⟨σ7,H7,I7,n7⟩:=q7;exact again I7 n7
  | brk=>obtain⟨σ7,H7,I7,q7⟩:=q7;exact⟨σ7,H7,I7.unpinned,q7⟩
  | ret v=>obtain⟨x7,σ7,H7,I7,r7,q7⟩:=q7;exact⟨x7,σ7,H7,I7.unpinned,r7,q7⟩
end
def ZE {K:aI} {a:Addr} {xs:List V} {g:TG} {tb:TS} {D:oj} {σ:St} {H:Hp} (Pv:Nat->St->Hp->Prop) (h0:Pv 0 σ H) (hl:∀i σ H,i<=xs.length->Pv i σ H->g_ K H a xs)
  (hs:∀i x σ H,xs[i]? = some x->Pv i σ H->g x σ H λσ2 H2=>tb { D with nx:=Pv (i+1),ct:=Pv (i+1),bk:=D.nx } σ2 H2) (hd:∀σ H,Pv xs.length σ H->D.nx σ H) :
  ∃W:Nat->Nat->St->Hp->Prop,(∃m,W 0 m σ H)/\∀i m σ H,W i m σ H ->
   ((xc K a).stop i H/\D.nx σ H)\/((xc K a).go i H/\∃N:St->Hp->Prop,(∀σ' H',N σ' H'->∃m',m'<m/\W (i+1) m' σ' H')/\∀x H',(xc K a).yld i H x H'->g x σ H' λσ2 H2=>tb { D with nx:=N,ct:=N,bk:=D.nx } σ2 H2):=by
 refine⟨λi m σ H=>m=xs.length-i/\i<=xs.length/\Pv i σ H,⟨xs.length,by simp,gU _,h0⟩,?_⟩;rintro i m σ H ⟨rfl,hi,p⟩;have q:=hl i σ H hi p;by_cases dk:i<xs.length
 ·refine .inr ⟨⟨xs,xs[i],q,by simp[dk]⟩,Pv (i+1),λσ' H' p'=>⟨xs.length-(i+1),by lia,rfl,dk,p'⟩,λx H' y=>?_⟩;obtain⟨e,y⟩:=y;subst e;exact hs i x σ _ (y xs q) p
 ·have e:i=xs.length:=by lia
  subst e;exact .inl ⟨⟨xs,q,bU _⟩,hd σ H p⟩
abbrev R2:=V->V->Hp->VK->Prop
def j3 (X:Cx) (f:aD->aD->Sem aD) (r:R2):Prop :=
 ∀(pins:List (Addr × Obj)) (s:aG) (σ:St) (H:Hp) (x y:V) (v u:aD) (Q:VK),Inv X pins σ H s->RelV x v->RelV y u->r x y H Q ->
  wpAny (model X.prog X.w) X.A (f v u) (EP X pins σ Q) X.xe s
def A2 (X:Cx) (f:aD->Sem aD) (r:V->Hp->VK->Prop):Prop :=
 ∀(pins:List (Addr × Obj)) (s:aG) (σ:St) (H:Hp) (x:V) (v:aD) (Q:VK),Inv X pins σ H s->RelV x v->r x H Q ->
  wpAny (model X.prog X.w) X.A (f v) (EP X pins σ Q) X.xe s
def zM (X:Cx) (f:aD) (r:List V->Hp->VK->Prop):Prop :=
 ∀(pins:List (Addr × Obj)) (s:aG) (σ:St) (H:Hp) (xs:List V) (us:List aD) (Q:VK),Inv X pins σ H s->aq xs us->r xs H Q ->
  wpAny (model X.prog X.w) X.A (call f us) (EP X pins σ Q) X.xe s
def zp (r:R2) (ta tb:TE):TE:=λσ H Q=>ta σ H λx H1=>tb σ H1 λy H2=>r x y H2 Q
def tUn (r:V->Hp->VK->Prop) (ta:TE):TE:=λσ H Q=>ta σ H λx H1=>r x H1 Q
def rI (C:Int->Int->Prop) (g:Int->Int->V):R2:=λx y H Q=>∃i j,x = .int i/\y = .int j/\C i j/\Q (g i j) H
def w6 (g:Int->Int->V):R2:=λx y H Q=>∃i j,x = .int i/\y = .int j/\Q (g i j) H
def rU (g:Int->V):V->Hp->VK->Prop:=λx H Q=>∃i,x = .int i/\Q (g i) H
section
variable {X:Cx} {a b c:Expr} {ta tb tc:TE}
theorem Wa (ha:PE X a ta) (hb:PE X b tb) {pins:List (Addr × Obj)} {s:aG} {σ:St} {H:Hp} {R:V->V->Hp->Prop} (I:Inv X pins σ H s)
  (h:ta σ H λx H1=>tb σ H1 λy H2=>R x y H2) {Q:aD->aG->Prop} {f:aD->aD->Sem aD}
  (hf:∀v u s2 x y H2,Inv X pins σ H2 s2->RelV x v->RelV y u->R x y H2->wpAny (model X.prog X.w) X.A (f v u) Q X.xe s2) :
  wpAny (model X.prog X.w) X.A (eval a X.env) (λv s₁=>wpAny (model X.prog X.w) X.A (eval b X.env) (λu s₂=>wpAny (model X.prog X.w) X.A (f v u) Q X.xe s₂) X.xe s₁) X.xe s:=by
 refine c_ (ha pins s σ H _ I h) λv s1 ⟨x,H1,I1,r1,q1⟩=>?_;refine c_ (hb pins s1 σ H1 _ I1 q1) λu s2 ⟨y,H2,I2,r2,q2⟩=>?_;exact hf v u s2 x y H2 I2 r1 r2 q2
theorem C6 (ho:j3 X (binaryOp op) r) (ha:PE X a ta) (hb:PE X b tb):PE X (.BinOp a op b pos) (zp r ta tb):=by
 intro pins s σ H Q I h;exact wpAny_BinOp (Wa ha hb I h λv u s2 x y H2 I2 rx ry q=>ho pins s2 σ H2 x y v u Q I2 rx ry q)
theorem C7 (ho:A2 X (unaryOp op) r) (ha:PE X a ta):PE X (.UnaryOp op a pos) (tUn r ta):=by
 intro pins s σ H Q I h;exact UnaryOp_ (c_ (ha pins s σ H _ I h) λv s1 ⟨x,H1,I1,r1,q1⟩=>ho pins s1 σ H1 x v Q I1 r1 q1)
theorem w5 {f:aD->aD->Sem aD} {C:Int->Int->Prop} {g:Int->Int->Int}
  (rule:∀(i j:Int) (t u:Tok) (s:aG) (Q:aD->aG->Prop) (E:aD->aG->Prop),C i j->Q (.int (g i j) s.toks) { s with toks:=s.toks+1 }->wpAny (model X.prog X.w) X.A (f (.int i t) (.int j u)) Q E s) :
  j3 X f (rI C λi j=>.int (g i j)):=by
 intro pins s σ H x y v u Q I rx ry h;obtain⟨i,j,rfl,rfl,hc,q⟩:=h;obtain⟨t,rfl⟩:=rx;obtain⟨t',rfl⟩:=ry;exact rule i j t t' s _ _ hc ⟨.int (g i j),H,I.tok _,⟨_,rfl⟩,q⟩
theorem Sx {f:aD->aD->Sem aD} {g:Int->Int->Bool}
  (rule:∀(i j:Int) (t u:Tok) (s:aG) (Q:aD->aG->Prop) (E:aD->aG->Prop),Q (.bool (g i j)) s->wpAny (model X.prog X.w) X.A (f (.int i t) (.int j u)) Q E s) :
  j3 X f (w6 λi j=>.bl (g i j)):=by
 intro pins s σ H x y v u Q I rx ry h;obtain⟨i,j,rfl,rfl,q⟩:=h;obtain⟨t,rfl⟩:=rx;obtain⟨t',rfl⟩:=ry;exact rule i j t t' s _ _ ⟨.bl (g i j),H,I,rfl,q⟩
theorem unI {f:aD->Sem aD} {g:Int->Int}
  (rule:∀(i:Int) (t:Tok) (s:aG) (Q:aD->aG->Prop) (E:aD->aG->Prop),Q (.int (g i) s.toks) { s with toks:=s.toks+1 }->wpAny (model X.prog X.w) X.A (f (.int i t)) Q E s) :
  A2 X f (rU λi=>.int (g i)):=by
 intro pins s σ H x v Q I rx h;obtain⟨i,rfl,q⟩:=h;obtain⟨t,rfl⟩:=rx;exact rule i t s _ _ ⟨.int (g i),H,I.tok _,⟨_,rfl⟩,q⟩
theorem Zh:A2 X (unaryOp .USub) (rU λi=>.int (-i)):=unI λ_ _ _ _ _ q=>neg_int q
end
def F0:V->V->Bool
 | .non,.non=>true | .non,.int _=>true | .int _,.non=>true | .non,.bl _=>true | .bl _,.non=>true | .non,.str _=>true | .str _,.non=>true
 | .int _,.int _=>true | .bl _,.bl _=>true | .str _,.str _=>true | .byt _,.byt _=>true
 | .int _,.str _=>true | .str _,.int _=>true | .bl _,.str _=>true | .str _,.bl _=>true
 | _,_=>false
def rEq:R2:=λx y H Q=>F0 x y=true/\Q (.bl (decide (x=y))) H
def rNe:R2:=λx y H Q=>F0 x y=true/\Q (.bl (!decide (x=y))) H
def Gd:decide (V.int i=V.int j)=(i == j):=by
 rw[pY];simp
def Ml:decide (V.bl i=V.bl j)=(i == j):=by
 rw[pY];simp
def Ge:decide (V.str i=V.str j)=(i == j):=by
 rw[pY];simp
def Gc:decide (V.byt i=V.byt j)=(i.toList == j.toList):=by
 rw[pY];cases i;cases j;simp
section
variable {a b c:Expr}
theorem jC {σ:St} (I:Inv X pins σ H s) (q:Q (.bl k) H) (e:k=k'):EP X pins σ Q (.bool k') s:=by
 subst e;exact⟨.bl k,H,I,rfl,q⟩
theorem Vn:j3 X (compareOp .Eq) rEq:=by
 intro pins s σ H x y v u Q I rx ry h;obtain⟨hs,q⟩:=h;cases x with
 | non =>
  cases rx;cases y with
  | non=>cases ry;exact PySem.EqNone.eq_none_none (jC I q (by simp))
  | bl j=>cases ry;exact PySem.EqNone.eq_none_bool (jC I q (by simp))
  | int j=>obtain⟨t',rfl⟩:=ry;exact PySem.EqNone.eq_none_int (jC I q (by simp))
  | str j=>obtain⟨t',rfl⟩:=ry;exact PySem.EqNone.eq_none_str (jC I q (by simp))
  | _=>exact absurd (show false=true from hs) cO
 | bl i =>
  cases rx;cases y with
  | non=>cases ry;exact PySem.EqNone.eq_bool_none (jC I q (by simp))
  | bl j=>cases ry;exact eq_bool (jC I q Ml)
  | str j=>obtain⟨t',rfl⟩:=ry;exact PySem.EqMixed.eq_bool_str (jC I q (by simp))
  | _=>exact absurd (show false=true from hs) cO
 | int i =>
  obtain⟨t,rfl⟩:=rx;cases y with
  | non=>cases ry;exact PySem.EqNone.eq_int_none (jC I q (by simp))
  | int j=>obtain⟨t',rfl⟩:=ry;exact eq_int (jC I q Gd)
  | str j=>obtain⟨t',rfl⟩:=ry;exact PySem.EqMixed.eq_int_str (jC I q (by simp))
  | _=>exact absurd (show false=true from hs) cO
 | str i =>
  obtain⟨t,rfl⟩:=rx;cases y with
  | non=>cases ry;exact PySem.EqNone.eq_str_none (jC I q (by simp))
  | bl j=>cases ry;exact PySem.EqMixed.eq_str_bool (jC I q (by simp))
  | int j=>obtain⟨t',rfl⟩:=ry;exact PySem.EqMixed.eq_str_int (jC I q (by simp))
  | str j=>obtain⟨t',rfl⟩:=ry;exact eq_str (jC I q Ge)
  | _=>exact absurd (show false=true from hs) cO
 | byt i =>
  obtain⟨t,rfl⟩:=rx;cases y with
  | byt j=>obtain⟨t',rfl⟩:=ry;exact PySem.W.eq_bytes (jC I q Gc)
  | _=>exact absurd (show false=true from hs) cO
 | _=>cases y <;> exact absurd (show false=true from hs) cO
theorem Vs:j3 X (compareOp .NotEq) rNe:=by
 intro pins s σ H x y v u Q I rx ry h;obtain⟨hs,q⟩:=h;cases x with
 | non =>
  cases rx;cases y with
  | non=>cases ry;exact PySem.EqNone.ne_none_none (jC I q (by simp))
  | bl j=>cases ry;exact PySem.EqNone.ne_none_bool (jC I q (by simp))
  | int j=>obtain⟨t',rfl⟩:=ry;exact PySem.EqNone.ne_none_int (jC I q (by simp))
  | str j=>obtain⟨t',rfl⟩:=ry;exact PySem.EqNone.ne_none_str (jC I q (by simp))
  | _=>exact absurd (show false=true from hs) cO
 | bl i =>
  cases rx;cases y with
  | non=>cases ry;exact PySem.EqNone.ne_bool_none (jC I q (by simp))
  | bl j=>cases ry;exact ne_bool (jC I q (congrArg not Ml))
  | str j=>obtain⟨t',rfl⟩:=ry;exact PySem.EqMixed.ne_bool_str (jC I q (by simp))
  | _=>exact absurd (show false=true from hs) cO
 | int i =>
  obtain⟨t,rfl⟩:=rx;cases y with
  | non=>cases ry;exact PySem.EqNone.ne_int_none (jC I q (by simp))
  | int j=>obtain⟨t',rfl⟩:=ry;exact ne_int (jC I q (congrArg not Gd))
  | str j=>obtain⟨t',rfl⟩:=ry;exact PySem.EqMixed.ne_int_str (jC I q (by simp))
  | _=>exact absurd (show false=true from hs) cO
 | str i =>
  obtain⟨t,rfl⟩:=rx;cases y with
  | non=>cases ry;exact PySem.EqNone.ne_str_none (jC I q (by simp))
  | bl j=>cases ry;exact PySem.EqMixed.ne_str_bool (jC I q (by simp))
  | int j=>obtain⟨t',rfl⟩:=ry;exact PySem.EqMixed.ne_str_int (jC I q (by simp))
  | str j=>obtain⟨t',rfl⟩:=ry;exact ne_str (jC I q (congrArg not Ge))
  | _=>exact absurd (show false=true from hs) cO
 | byt i =>
  obtain⟨t,rfl⟩:=rx;cases y with
  | byt j=>obtain⟨t',rfl⟩:=ry;exact PySem.W.ne_bytes (jC I q (congrArg not Gc))
  | _=>exact absurd (show false=true from hs) cO
 | _=>cases y <;> exact absurd (show false=true from hs) cO
theorem Vr:j3 X (compareOp .Lt) (w6 λi j=>.bl (decide (i<j))):=Sx λ_ _ _ _ _ _ _ q=>lt_int q
theorem Vq:j3 X (compareOp .LtE) (w6 λi j=>.bl (decide (i<=j))):=Sx λ_ _ _ _ _ _ _ q=>le_int q
theorem Vp:j3 X (compareOp .Gt) (w6 λi j=>.bl (decide (j<i))):=Sx λ_ _ _ _ _ _ _ q=>gt_int q
theorem Vo:j3 X (compareOp .GtE) (w6 λi j=>.bl (decide (j<=i))):=Sx λ_ _ _ _ _ _ _ q=>ge_int q
theorem Xs:j3 X (compareOp .Is) (λx y H Q=>y = .non/\Q (.bl (decide (x = .non))) H):=by
 intro pins s σ H x y v u Q I rx ry h;obtain⟨rfl,q⟩:=h;cases ry;refine is_none_gen (jC I q ?_);cases x <;> first
  | (cases rx;rfl)
  | (obtain⟨t,rfl⟩:=rx;rfl)
theorem Tc:j3 X (compareOp .IsNot) (λx y H Q=>y = .non/\Q (.bl (!decide (x = .non))) H):=by
 intro pins s σ H x y v u Q I rx ry h;obtain⟨rfl,q⟩:=h;cases ry;refine isnot_none_gen (jC I q ?_);cases x <;> first
  | (cases rx;rfl)
  | (obtain⟨t,rfl⟩:=rx;rfl)
theorem Oa (b:Expr) (h:op≠.In:=by decide) (h2:op≠.NotIn:=by decide):behindInMarks op b=false:=by
 have e1:(op == CmpOp.In)=false:=by cases op <;> first | rfl | exact absurd rfl h
 have e2:(op == CmpOp.NotIn)=false:=by cases op <;> first | rfl | exact absurd rfl h2
 cases b <;> simp[behindInMarks,e1,e2]
theorem Te (ho:j3 X (compareOp op) r) (ha:PE X a ta) (hb:PE X b tb) (hm:behindInMarks op b=false):PE X (.Compare a [op] [b] pos) (zp r ta tb):=by
 intro pins s σ H Q I h;exact wpAny_Compare1 (Wa ha hb I h λv u s2 x y H2 I2 rx ry q=>ho pins s2 σ H2 x y v u Q I2 rx ry q) hm
def G2 (t:TE):TT:=λσ H Q=>t σ H λx H'=>∃k,x = .bl k/\Q k H'
theorem Tm (ho:j3 X (compareOp op) r) (ha:PE X a ta) (hb:PE X b tb) (hm:behindInMarks op b=false):PT X (.Compare a [op] [b] pos) (G2 (zp r ta tb)):=by
 intro pins s σ H Q I h;refine wpAny_isTrue_Compare1 (c_ (ha pins s σ H _ I h) λv s1 ⟨x,H1,I1,r1,q1⟩=>c_ (hb pins s1 σ H1 _ I1 q1) λu s2 ⟨y,H2,I2,r2,q2⟩ =>
  c_ (ho pins s2 σ H2 x y v u _ I2 r1 r2 q2) λc s3 ⟨z,H3,I3,r3,k,e,q3⟩=>?_) hm
 subst e;cases r3;exact mE ⟨H3,I3,q3⟩
theorem Dl:(sizeLine:Nat)<2 ^ 63:=by rw[mD];decide
theorem vals1 (r:aq [x] us):∃u,us=[u]/\RelV x u:=by
 cases r with
 | cons r1 r2=>cases r2;exact⟨_,rfl,r1⟩
theorem vals2 (r:aq [x,y] us):∃u w',us=[u,w']/\RelV x u/\RelV y w':=by
 cases r with
 | cons r1 r2 =>
  cases r2 with
  | cons r3 r4=>cases r4;exact⟨_,_,rfl,r1,r3⟩
theorem Ln:zM X (.builtin "abs") (λxs H Q=>∃i,xs=[.int i]/\Q (.int (if i<0 then -i else i)) H):=by
 intro pins s σ H xs us Q I r h;obtain⟨i,rfl,q⟩:=h;obtain⟨u,rfl,t,rfl⟩:=vals1 r;exact call_abs_int λu tk=>⟨.int (if i<0 then -i else i),H,I.tok _,⟨_,rfl⟩,q⟩
theorem UC:zM X (.type "int") (λxs H Q=>(∃i,xs=[.int i]/\Q (.int i) H)\/∃k,xs=[.bl k]/\Q (.int (if k then 1 else 0)) H):=by
 intro pins s σ H xs us Q I r h;rcases h with ⟨i,rfl,q⟩ | ⟨k,rfl,q⟩
 ·obtain⟨u,rfl,t,rfl⟩:=vals1 r;exact call_int_int ⟨.int i,H,I,⟨_,rfl⟩,q⟩
 ·obtain⟨u,rfl,r1⟩:=vals1 r;cases r1;exact call_int_bool ⟨.int (if k then 1 else 0),H,I.tok _,⟨_,rfl⟩,q⟩
end
structure uo (h:Heap) (x dx C:Addr) (mA:Str->Option aD):Prop where
 obj:h.get? x=some (zT C dx)
 ns:h.Ns1 dx mA
 ne:dx≠x
def Jk {h:Heap} {dx:Addr} {mA:Str->Option aD} (n:h.Ns1 dx mA):∃od,h.get? dx=some od/\∀name,BJ name od=some (mA name):=by
 obtain⟨o,es,ep,ho,hd,hk,_,hm⟩:=n;refine⟨o,ho,λname=>?_⟩;have e:=hm name;unfold nsFind findBy at e;rw[<-Array.find?_toList] at e;unfold BJ;rw[hd];dsimp only;split
 ·rename_i y q;rw[q] at e;exact congrArg some e
 ·rename_i q;rw[q] at e;have a:es.toList.any (·.refKey)=false:=by
   rw[HK];intro y hy;obtain⟨z,t,W6⟩:=hk y (iM.mp hy);simp[DictEntry.refKey,W6]
  have a':¬es.toList.any (·.refKey)=true:=by rw[a];exact cO
  rw[if_neg a'];exact congrArg some e
def uo.look (I:uo h x dx C mA):∃od,PySem.W.InstAt h x (zT C dx) C (some od)/\∀name,BJ name od=some (mA name) :=
 let ⟨od,ho,hl⟩:=Jk I.ns
 ⟨od,⟨I.obj,rfl,rfl,ho⟩,hl⟩
section
variable {fs fs':List (Str × V)}
theorem Rw (hok:ju P w H h) (e:H a=some (.ins C dx fs)):∃mA,uo h a dx C mA/\(∀f,m5 (fs.lookup f) (mA f))/\PySem.Within mA (fs.map (·.1))/\fs.length<=1000/\H dx=some (.own a):=by
 obtain⟨d,z,ne,ob,mA,n,r,q⟩:=(show cg P w H h a (.ins C dx fs) from hok a _ e);exact⟨mA,⟨ob,n,ne⟩,r,q,z,d⟩
end
structure S9 (K:aI) (C:Addr):Prop where
 pg:KF K C Str.empty=true
 hd:PySem.W.hasDictIn K C=true
 po:PySem.W.plainOver K C=true
 sa:ON K (.ref C) "__setattr__" = some (some (.builtin "object.__setattr__"))
def S9.get {K:aI} {C:Addr} (c:S9 K C) (f:Str):KF K C f=true:=c.pg
section
variable {σ:St} {H:Hp} {c:aD}
inductive jh (K:aI) (H:Hp):V->aD->Prop where
 | non:jh K H .non (.type "NoneType")
 | bl (x:Bool):jh K H (.bl x) (.type "bool")
 | int (i:Int):jh K H (.int i) (.type "int")
 | str (x:Str):jh K H (.str x) (.type "str")
 | flt (x:UInt64):jh K H (.flt x) (.type "float")
 | lst {a:Addr} {xs:List V} (e:H a=some (.lst xs)):jh K H (.ref a) (.type "list")
 | frz {a:Addr} {o:Obj} {xs:List V} (e:H a=some (.frz o (.lst xs))):jh K H (.ref a) (.type "list")
 | tup {a:Addr} {xs:List V} (e:H a=some (.tup xs)):jh K H (.ref a) (.type "tuple")
 | dK {a:Addr} {cf:List (iu × V)} (e:H a=some (.dK cf)):jh K H (.ref a) (.type "dict")
 | dT {a:Addr} {cf:List (List iu × V)} (e:H a=some (.dT cf)):jh K H (.ref a) (.type "dict")
 | ins {a C dx:Addr} {fs:List (Str × V)} (e:H a=some (.ins C dx fs)) (cl:S9 K C) (ha:ON K (.ref C) "__class__" = some (some (.builtin "object.__class__")))
   (hn:PySem.W.specialIn K (.builtin "object.__class__") "__get__" = some (some (.builtin "getset_descriptor.__get__"))) (htk:PySem.W.takesIn K (.builtin "object.__class__")=some true)
   (hm:PySem.W.mroIn K C (.type "object")=some true):jh K H (.ref a) (.ref C)
theorem Iu (I:Inv X pins σ H s) (rx:RelV x u) (ty:jh X.K H x t) (e:lE X.K t c=some b) (h:∀tk,Q (.bool b) { s with toks:=tk }) :
  wpAny (model X.prog X.w) A (call (.builtin "isinstance") [u,c]) Q E s:=by
 cases ty with
 | non=>cases (show u=gI from rx);exact gZ PySem.W.kitx_none I.kIn sB e (λz=>nomatch z) h
 | bl y=>cases (show u=GE y from rx);exact gZ PySem.W.kitx_bool I.kIn sB e (λz=>nomatch z) h
 | int i=>obtain⟨t,q⟩:=(show ∃t,u=TW i t from rx);cases q;exact gZ PySem.W.kitx_int I.kIn sB e (λz=>nomatch z) h
 | str y=>obtain⟨t,q⟩:=(show ∃t,u=TX y t from rx);cases q;exact gZ PySem.W.kitx_str I.kIn sB e (λz=>nomatch z) h
 | flt y=>obtain⟨t,q⟩:=(show ∃t,u=Value.float y t from rx);cases q;exact gZ PySem.W.kitx_float I.kIn sB e (λz=>nomatch z) h
 | @lst a xs ea =>
  cases (show u=fX a from rx);obtain⟨_,_,n,_,h1⟩:=(show cg X.prog X.w H s.heap a (.lst xs) from I.hok a _ ea);exact gZ vY I.kIn ⟨_,h1,rfl⟩ e (λz=>nomatch z) h
 | @frz a ob xs ea =>
  cases (show u=fX a from rx);obtain⟨_,_,_,n,_,h1⟩:=(show cg X.prog X.w H s.heap a (.frz ob (.lst xs)) from I.hok a _ ea);exact gZ vY I.kIn ⟨_,h1,rfl⟩ e (λz=>nomatch z) h
 | @tup a xs ea =>
  cases (show u=fX a from rx);obtain⟨_,_,_,p⟩:=(show cg X.prog X.w H s.heap a (.tup xs) from I.hok a _ ea);obtain⟨o,h1,h2,_⟩:=p;exact gZ PySem.W.kitx_tuple I.kIn ⟨o,h1,h2⟩ e (λz=>nomatch z) h
 | @dK a cf ea =>
  cases (show u=fX a from rx);obtain⟨_,_,vs,_,p⟩:=(show cg X.prog X.w H s.heap a (.dK cf) from I.hok a _ ea);obtain⟨o,es,ep,h1,h2,_⟩:=p;exact gZ HS I.kIn ⟨o,h1,h2.1⟩ e (λz=>nomatch z) h
 | @dT a cf ea =>
  cases (show u=fX a from rx);obtain⟨_,_,xs,_,o,es,ep,h1,h2,_⟩:=(show cg X.prog X.w H s.heap a (.dT cf) from I.hok a _ ea);exact gZ HS I.kIn ⟨o,h1,h2.1⟩ e (λz=>nomatch z) h
 | @ins a C dx fs ea cl ha hn htk hm =>
  cases (show u=fX a from rx);obtain⟨mA,O,_⟩:=Rw I.hok ea;obtain⟨od,J,_⟩:=O.look;exact gZ (PySem.W.kitx_own (cl.get _) cl.hd ha hn htk hm) I.kIn J e (λz=>nomatch z) h
end
structure ck (k:Nat) (A:dJ):Prop where
 hd:A.handled=none
 dp:A.depth+3*k+5<recursionLimit
 un:A.units+16*k+200<cLine
def ck.mono (r:ck k A) (h:j<=k:=by decide):ck j A:=⟨r.hd,by have:=r.dp;lia,by have:=r.un;lia⟩
def ck.deeper (r:ck (k+1) A) (env:Env):ck k (A.deeper env) :=
 ⟨r.hd,by have:=r.dp;show A.depth+1+3*k+5<_;lia,by have:=r.un;show A.units+3+16*k+200<_;lia⟩
def ck.depth (r:ck k A):A.depth<recursionLimit:=by have:=r.dp;lia
def ck.units (r:ck k A):A.units+64<cLine:=by have:=r.un;lia
def N8:TA:=λ_ H Q=>Q [] H
def F7 (ta:TE) (tr:TA):TA:=λσ H Q=>ta σ H λx H1=>tr σ H1 λxs H2=>Q (x::xs) H2
section
variable {t:TA}
theorem QR:PA X [] N8:=λ_ _ _ _ H Q I h=>qU ⟨[],H,I,.nil,h⟩
theorem zF (ha:PE X e te) (hr:PA X es t) (hs:starEach (e::es) X.env=(false,eval e X.env)::starEach es X.env:=by rfl):PA X (e::es) (F7 te t):=by
 intro pos pins s σ H Q I h;rw[hs];show wpAny _ _ (spliced ((false,eval e X.env)::backTo pos (starEach es X.env))) _ _ s;refine qF (c_ (ha pins s σ H _ I h) λu s1 ⟨x,H1,I1,r1,q1⟩=>?_);exact c_ (hr pos pins s1 σ H1 _ I1 q1) λus s2 ⟨xs,H2,I2,r2,q2⟩=>⟨x::xs,H2,I2,.cons r1 r2,q2⟩
def O5 (t:TA):TE:=λσ H Q=>t σ H λxs H1=>xs.length<=sizeLine/\∀p,H1 p=none->Q (.ref p) (bB H1 p (.tup xs))
def N7 (t:TA):TE:=λσ H Q=>t σ H λxs H1=>xs.length<=sizeLine/\∀p,H1 p=none->Q (.ref p) (bB H1 p (.lst xs))
theorem Op {x1} (h:PA X es t):PE X (.Tuple es x1 pos) (O5 t):=by
 intro pins s σ H Q I hq;refine wpAny_Tuple_spliced (c_ (h pos pins s σ H _ I hq) λus s1 ⟨xs,H1,I1,r,z,q⟩=>⟨by rw[<-r.length];exact z,?_⟩);have hf:H1 s1.heap.objs.size=none:=I1.hok.fresh (bU _);refine⟨.ref s1.heap.objs.size,bB H1 s1.heap.objs.size (.tup xs),I1.laid (t':=s1.toks) (λb u e=>aR _ e) (bU _) ?_,rfl,q _ hf⟩;exact⟨z,us,r,⟨_,bR _ rfl,rfl,_,rfl⟩⟩
theorem Xv (h:PA X es t):PE X (.List es pos) (N7 t):=by
 intro pins s σ H Q I hq;refine wpAny_List_spliced (c_ (h pos pins s σ H _ I hq) λus s1 ⟨xs,H1,I1,r,z,q⟩=>⟨by rw[<-r.length];exact z,?_⟩);have hf:H1 s1.heap.objs.size=none:=I1.hok.fresh (bU _);refine⟨.ref s1.heap.objs.size,bB H1 s1.heap.objs.size (.lst xs),I1.laid (t':=s1.toks) (λb u e=>aR _ e) (bU _) ?_,rfl,q _ hf⟩;exact⟨z,us,0,r,bR _ rfl⟩
end
abbrev Sp:=List V->Hp->VK->XK->Prop
abbrev ql:=List Env->Hp->aG->XK->aD->aG->Prop
structure q_ (P:cE) (w:dI) (K:aI) (mg:Str->Option aD) (base:Heap) (A:dJ) (outer:List Env) (s:aG) (H:Hp):Prop where
 frames:A.frames=some outer
 mod:Mod K mg base
 bs:∀b o,base.get? b=some o->s.heap.get? b=some o/\H b=none
 bsz:base.objs.size<=s.heap.objs.size
 funs:s.heap.FunFrames base outer
 frf:∀b∈o4 outer,H b=none
 hok:ju P w H s.heap
 bare:AllBare s.gens
def CE (outer:List Env) (P:cE) (w:dI) (H:Hp) (s:aG) (Q:VK) (u:aD) (s':aG):Prop :=
 ∃v H',s'.os=s.os/\AllBare s'.gens/\Un (o4 outer) [] H H' s.heap s'.heap/\ju P w H' s'.heap/\RelV v u/\Q v H'
def CR (CX:ql) (outer:List Env) (P:cE) (w:dI) (H:Hp) (s:aG) (Q:VK) (E:XK) (r:Result) (s':aG):Prop :=
 match r with
 | .ok (.ret u)=>CE outer P w H s Q u s'
 | .ok _=>False
 | .error e=>CX outer H s E e s'
structure im (P:cE) (w:dI) (K:aI) (mg:Str->Option aD) (base:Heap) (CX:ql) (k:Nat) (f:Addr) (fd:mN) (ps:List Str) (sp:Sp):Prop where
 len:∀vs H Q E,sp vs H Q E->vs.length=ps.length
 run:∀(A:dJ) (outer:List Env) (s:aG) (H:Hp) (args:Args) (us:List aD) (vs:List V) (Q:VK) (E:XK),ck k A->q_ P w K mg base A outer s H->BindsTo s fd args (ps.zip us)->aq vs us->sp vs H Q E ->
  codeAny (model P w) A (.call (.ref f) args) (CR CX outer P w H s Q E) s
section
variable {σ:St}
theorem Inv.env0 (I:Inv X pins σ H s):q_ X.prog X.w X.K X.mg X.base X.A X.stack s H :=
 ⟨I.ok.frames,I.ok.mod,I.bs,fW I.ok.bsz I.sz,I.stack,I.stkFree,I.hok,I.bare⟩
theorem Inv.after (I:Inv X pins σ H s) (h:CE X.stack X.prog X.w H s Q u s'):EP X pins σ Q u s':=by
 obtain⟨v,H',os,bare,un,hok,r,q⟩:=h;obtain⟨hh,g,d,t,os'⟩:=s';obtain rfl:os'=s.os:=os;exact⟨v,H',I.call (h':=hh) (g':=g) (d':=d) (t':=t) (ch:=[]) un hok bare (λb z=>absurd z (by simp)),r,q⟩
end
def F6 (sp:Sp) (s9:List V) (E:XK) (t:TA):TE:=λσ H Q=>t σ H λvs H1=>sp (vs++s9) H1 Q E
def Binds (K:aI) (fd:mN) (ps:List Str) (ds:List aD):Prop :=
 ∀(s:aG) (us:List aD),K.In s.heap->(us++ds).length=ps.length->BindsTo s fd ⟨us,[]⟩ (ps.zip (us++ds))
def Binds.all {K:aI} {fd:mN} {ps:List Str} (h:∀us:List aD,us.length=ps.length->bindArgs fd ⟨us,[]⟩=pure (ps.zip us)):Binds K fd ps []:=λs us _ hl=>by
 rw[fC] at hl ⊢;exact .of_eq (h us hl)
def Bx (CX:ql) (X:Cx) (E:XK):Prop:=∀(pins:List (Addr × Obj)) (σ:St) (H:Hp) (s:aG) (e:aD) (s':aG),Inv X pins σ H s->CX X.stack H s E e s'->X.xe e s'
section
variable {X:Cx} {CX:ql} {k:Nat} {f C:Addr} {fd:mN} {ps:List Str} {sp:Sp} {s9:List V} {ds:List aD} {E:XK} {x m:Str} {p pos apos:Pos} {e o:Expr} {es:List Expr} {t:TA}
theorem Yx {σ:St} (F:im X.prog X.w X.K X.mg X.base CX k f fd ps sp) (hr:ck k X.A) (hb:Binds X.K fd ps ds) (hd:aq s9 ds) (hx:Bx CX X E)
  (I:Inv X pins σ H s) (r:aq vs us) (h:sp (vs++s9) H Q E):wpAny (model X.prog X.w) X.A (call (.ref f) us) (EP X pins σ Q) X.xe s:=by
 have r2:aq (vs++s9) (us++ds):=r.append hd;have hl:(us++ds).length=ps.length:=by rw[<-r2.length];exact F.len _ _ _ _ h
 refine wpAny_call (uC (F.run X.A X.stack s H ⟨us,[]⟩ (us++ds) (vs++s9) Q E hr I.env0 (hb s us I.kIn hl) r2 h) λr s' hq=>?_);cases r with
 | error e=>exact hx pins σ H s e s' I hq
 | ok fl =>
  cases fl with
  | ret u=>exact I.after hq
  | next=>exact mZ hq
  | brk=>exact mZ hq
  | cont=>exact mZ hq
theorem Gy (F:im X.prog X.w X.K X.mg X.base CX k f fd ps sp) (hr:ck k X.A) (hg:Gl X x) (hm:X.mg x=some (.ref f)) (hk:mT X.K (.ref f)=true) (hb:Binds X.K fd ps ds) (hd:aq s9 ds) (hx:Bx CX X E)
  (ha:PA X (e::es) t) (ma:(x == ("__debug__":Str))=false:=by decide) (he:starEach (e::es) X.env=(false,eval e X.env)::starEach es X.env:=by rfl) (js:(backTo pos (starEach es X.env)).any (·.1)=false:=by rfl) :
  PE X (.Call (.Name x p) (e::es) [] pos) (F6 sp s9 E t):=by
 intro pins s σ H Q I h;refine iQ (Sa I hg hm ?_ ma);refine PySem.W.callWith_K (h₀:=X.base) I.ok.mod.kin hk (c_ (ha pos pins s σ H _ I h) λus s1 ⟨vs,H1,I1,r,q⟩=>⟨I1.kIn,?_⟩) he js;exact Yx F hr hb hd hx I1 r q
end
structure f7 (N P:List Str) (sc:Scope):Prop where
 kind:sc.kind = .function
 co:sc.isCoroutine=false
 gen:sc.isGenerator=false
 nd:N.Nodup
 pre:N.take P.length=P
 par:∀x∈P,sc.names.lookup x=some .local\/sc.names.lookup x=some .cell
 nofree:∀y∈sc.names,y.2≠.free
theorem UB {kindOf:Str->Option NameKind} {x:Str}:∀{binds:List (Str × aD)} {m:Str->Option aD},(∀v,(x,v) ∉ binds)->bindL kindOf binds m x=m x
 | [],_,_=>rfl
 | (n,v)::r,m,h=>by
  unfold bindL;rw[UB λw hw=>h w (bQ _ hw)];split
  ·have:x≠n:=(by rintro rfl;exact h v dX);simp[this]
  ·rfl
theorem TZ {kindOf:Str->Option NameKind} {x:Str}:∀{binds:List (Str × aD)} {m:Str->Option aD},(∀v,(x,v) ∉ binds)->bindC kindOf binds m x=m x
 | [],_,_=>rfl
 | (n,v)::r,m,h=>by
  unfold bindC;rw[TZ λw hw=>h w (bQ _ hw)];split
  ·rfl
  ·have:x≠n:=(by rintro rfl;exact h v dX);simp[this]
theorem UA {kindOf:Str->Option NameKind} {x:Str} {v:aD}:∀{P:List Str} {vs:List aD} {i:Nat} {m:Str->Option aD},P.Nodup->P[i]? = some x->vs[i]? = some v->kindOf x=some .local ->
  bindL kindOf (P.zip vs) m x=some v
 | [],_,_,_,_,h,_,_=>by simp at h
 | _::_,[],_,_,_,_,h,_=>by simp at h
 | p::P,w::vs,0,m,nd,h1,h2,hk=>by
  simp at h1 h2;subst h1;subst h2;show bindL kindOf ((p,w)::P.zip vs) m p=_;unfold bindL;rw[UB λv hv=>(fN.mp nd).1 (sZ hv).1,if_pos hk];simp
 | p::P,w::vs,i+1,m,nd,h1,h2,hk=>by
  show bindL kindOf ((p,w)::P.zip vs) m x=_;unfold bindL;exact UA (i:=i) (fN.mp nd).2 (by simpa using h1) (by simpa using h2) hk
theorem TY {kindOf:Str->Option NameKind} {x:Str} {v:aD}:∀{P:List Str} {vs:List aD} {i:Nat} {m:Str->Option aD},P.Nodup->P[i]? = some x->vs[i]? = some v->kindOf x≠some .local ->
  bindC kindOf (P.zip vs) m x=some v
 | [],_,_,_,_,h,_,_=>by simp at h
 | _::_,[],_,_,_,_,h,_=>by simp at h
 | p::P,w::vs,0,m,nd,h1,h2,hk=>by
  simp at h1 h2;subst h1;subst h2;show bindC kindOf ((p,w)::P.zip vs) m p=_;unfold bindC;rw[TZ λv hv=>(fN.mp nd).1 (sZ hv).1,if_neg hk];simp
 | p::P,w::vs,i+1,m,nd,h1,h2,hk=>by
  show bindC kindOf ((p,w)::P.zip vs) m x=_;unfold bindC;exact TY (i:=i) (fN.mp nd).2 (by simpa using h1) (by simpa using h2) hk
def start (N:List Str) (vs:List V):St:=vs.map some++fH (N.length-vs.length) none
def EG (CX:ql) (P:cE) (w:dI) (K:aI) (mg:Str->Option aD) (base:Heap) (N:List Str) (qual:Str) (scope:Scope) (f:Addr) (cd:aD) (A:dJ) (outer:List Env) (s:aG) (H:Hp) (E:XK):Cx where
 prog:=P
 w:=w
 K:=K
 mg:=mg
 base:=base
 A:=A.deeper (envOfC qual scope s.heap.objs.size f cd)
 N:=N
 s₀:=s
 H₀:=H
 env:=envOfC qual scope s.heap.objs.size f cd
 outer:=outer
 stack:=envOfC qual scope s.heap.objs.size f cd::outer
 ex:=[]
 calm:=true
 fn:=λ_=>true
 pn:=[]
 xe:=λe s'=>wpAny (model P w) (A.deeper (envOfC qual scope s.heap.objs.size f cd)) (leaving (envOfC qual scope s.heap.objs.size f cd) e) (λ_ s''=>CX outer H s E e s'') (λe' s''=>CX outer H s E e' s'') s'
def YG {sc:Scope} {n:Nat} {x:Str} (h:sc.names.lookup x=some .cell):∃c,(cellsFrom n sc.names []).lookup x=some c:=by
 have q:=yQ sc.names n [] (.inl h);exact Option.isSome_iff_exists.mp q
def Ir {CX:ql} {P:cE} {w:dI} {K:aI} {mg:Str->Option aD} {base:Heap} {N ps:List Str} {qual:Str} {scope:Scope} {f:Addr} {cd:aD} {A:dJ} {outer:List Env} {s s1:aG} {H:Hp} {E:XK} {us:List aD} {vs:List V}
  (S:f7 N ps scope) (hd:A.handled=none) (e0:q_ P w K mg base A outer s H) (hl:vs.length=ps.length) (r:aq vs us)
  (x:InCallC s s.heap.objs.size (bindL (envOfC qual scope s.heap.objs.size f cd).kindOf (ps.zip us) λ_=>none) (cellsFrom (s.heap.objs.size+1) scope.names []) (bindC (envOfC qual scope s.heap.objs.size f cd).kindOf (ps.zip us) λ_=>none) s1) :
  Inv (EG CX P w K mg base N qual scope f cd A outer s H E) [] (start N vs) H s1:=by
 have js:ps.length<=N.length:=by have:=congrArg fI S.pre;rw[gQ] at this;lia
 obtain⟨h1,tk,rfl,hk⟩:=x.done;have zd:∀b:Addr,b ∉ (EG CX P w K mg base N qual scope f cd A outer s H E).ex:=λb z=>absurd (show b∈([]:List Addr) from z) (by simp);refine⟨⟨e0.mod,S.kind,rfl,rfl,bU _,λy z c h1 h2=>?_,λy hy=>?_,λy c _ h=>?_,λ_=>hd,Around.frames_deeper e0.frames,.inr ⟨rfl,rfl⟩,λb z=>absurd z (zd b),e0.bs,e0.bsz,λb _ _=>zd b,λb z=>absurd z (zd b),e0.funs,e0.frf⟩,
  rfl,e0.bare,Un.kept hk,⟨_,x.toInCall.ns,λi y v h1 h2 h3=>?_⟩,λy c h=>⟨_,x.cell y c h⟩,e0.hok.fresh (bU _),λy c h=>?_,λp hp=>absurd (show p∈([]:List (Addr × Obj)) from hp) (by simp),e0.hok.kept hk,?_⟩
 ·exact name_of_addr x.apart (kR h1) (kR h2)
 ·have hy:scope.names.lookup y=some .cell\/scope.names.lookup y=some .free:=hy;rcases hy with hy | hy
  ·exact YG hy
  ·exact absurd rfl (S.nofree _ (kR hy))
 ·exact nJ (x.above y c (kR h))
 ·have hi:i<vs.length:=by
   unfold start at h2;by_cases hi:i<vs.length
   ·exact hi
   ·rw[dL (by simpa using hi)] at h2;rw[jE] at h2;split at h2 <;> cases h2
  have ha:vs[i]? = some v:=by
   unfold start at h2;rw[cZ (by simpa using hi),bZ] at h2;cases e:vs[i]? with
   | none=>rw[e] at h2;cases h2
   | some a=>rw[e] at h2;cases h2;rfl
  obtain⟨u,hu,rv⟩:=r.get ha;have hp:ps[i]? = some y:=by
   rw[<-S.pre,List.getElem?_take_of_lt (by lia)];exact h1
  have ndP:ps.Nodup:=by rw[<-S.pre];exact S.nd.sublist (HN _ _)
  refine⟨u,rv,?_⟩;rcases S.par y (eS hp) with k | k
  ·exact .inl ⟨k,UA ndP hp hu k⟩
  ·obtain⟨c,e⟩:=YG (n:=s.heap.objs.size+1) k;refine .inr ⟨.inl k,c,e,?_⟩;have q:=x.cell y c e;rw[TY ndP hp hu (by show scope.names.lookup y≠_;rw[k];decide)] at q;exact q
 ·exact e0.hok.fresh (nJ (x.above y c (kR h)))
 ·unfold start;show _=N.length;rw[dC,cN,lM];lia
theorem A0 {CX:ql} {P:cE} {w:dI} {K:aI} {mg:Str->Option aD} {base:Heap} {k:Nat} {f:Addr} {name qual:Str} {params:Arguments} {body:List Stmt} {scope:Scope} {dV kV doc pm cdv ct oc:aD} {an od:Option Addr}
  {qz:Array (Option aD)} {N ps:List Str} {sp:Sp} (lk:K.lookup f=some ⟨oc,od,.func (pI name qual params body scope dV kV doc pm an cdv ct),qz⟩) (jx:uW K cdv qual=true) (S:f7 N ps scope)
  (len:∀vs H Q E,sp vs H Q E->vs.length=ps.length)
  (gg:∀(A:dJ) (outer:List Env) (s:aG) (H:Hp) (vs:List V) (Q:VK) (E:XK),ck k (A.deeper (envOfC qual scope s.heap.objs.size f cdv))->sp vs H Q E ->
   ∃t,gt (EG CX P w K mg base N qual scope f cdv A outer s H E) body t/\t { nx:=λ_ H'=>Q .non H',rt:=Q } (start N vs) H) :
  im P w K mg base CX (k+1) f (pI name qual params body scope dV kV doc pm an cdv ct) ps sp:=by
 refine⟨len,λA outer s H args us vs Q E hr e0 hb r t9=>?_⟩;have hl:=len _ _ _ _ t9;have KX:K.In s.heap:=e0.mod.kin.keeps λb o e=>(e0.bs b o e).1;have lim:s.heap.NoLimit:=e0.mod.nolimit.keeps λb o e=>(e0.bs b o e).1;have hkind:∀y∈ps.zip us,scope.names.lookup y.1=some .local\/(scope.names.lookup y.1=some .cell/\((cellsFrom (s.heap.objs.size+1) scope.names []).lookup y.1).isSome=true):=λ⟨n,v⟩ hy=>by
  rcases S.par n (sZ hy).1 with q | q
  ·exact .inl q
  ·exact .inr ⟨q,yQ _ _ _ (.inl q)⟩
 refine codeAny_call_function hr.depth (KX _ _ lk) rfl S.co S.gen rfl (PySem.W.codeRec_of KX jx) (hb _ _ _ _ ?_);refine wpAny_newFunctionEnv_cells S.kind hkind λenv he s1 x=>?_;subst he;refine⟨lim.keeps x.toInCall.keep,codeAny_func ?_⟩;obtain⟨t,ht,hq⟩:=gg A outer s H vs Q E (hr.deeper _) t9;have I:Inv (EG CX P w K mg base N qual scope f cdv A outer s H E) [] (start N vs) H s1:=Ir S hr.hd e0 hl r x;refine jT (ht [] s1 (start N vs) H _ I hq) (λfl s' hs=>?_) λe s' hs=>hs;have fin:∀{σ':St} {H':Hp} {v:V} {u:aD},Inv (EG CX P w K mg base N qual scope f cdv A outer s H E) [] σ' H' s'->RelV v u->Q v H'->CE outer P w H s Q u s' :=
  λ{σ' H' v u} J rv q=>⟨v,H',J.os,J.bare,J.base,J.hok,rv,q⟩
 cases fl with
 | ret u =>
  obtain⟨v,σ',H',J,rv,q⟩:=hs;exact fin J rv q
 | next =>
  obtain⟨σ',H',J,q⟩:=hs;exact fin (v:=V.non) (u:=gI) J rfl q
 | brk =>
  obtain⟨_,_,_,q⟩:=hs;exact mZ q
 | cont =>
  obtain⟨_,_,_,q⟩:=hs;exact mZ q
section
variable {X:Cx} {x:Str} {p pos:Pos} {e:Expr} {es:List Expr} {t:TA} {id T:String} {r:List V->Hp->VK->Prop}
def tCB (r:List V->Hp->VK->Prop) (t:TA):TE:=λσ H Q=>t σ H λvs H1=>r vs H1 Q
theorem xQ (hc:zM X (.builtin id) r) (hg:Gl X x) (hm:X.mg x=none) (hv:bootBuiltins x=some (.builtin id)) (ha:PA X (e::es) t) (hn:x≠"__name__":=by decide) (ma:(x == ("__debug__":Str))=false:=by decide)
  (he:starEach (e::es) X.env=(false,eval e X.env)::starEach es X.env:=by rfl) (js:(backTo pos (starEach es X.env)).any (·.1)=false:=by rfl):PE X (.Call (.Name x p) (e::es) [] pos) (tCB r t):=by
 intro pins s σ H Q I h;refine iQ (wW I hg hm hv ?_ hn ma);exact sA (c_ (ha pos pins s σ H _ I h) λus s1 ⟨vs,H1,I1,r1,q1⟩=>hc pins s1 σ H1 vs us Q I1 r1 q1) he js
theorem LG (hc:zM X (.type T) r) (hg:Gl X x) (hm:X.mg x=none) (hv:bootBuiltins x=some (.type T)) (ha:PA X (e::es) t) (hn:x≠"__name__":=by decide) (ma:(x == ("__debug__":Str))=false:=by decide)
  (he:starEach (e::es) X.env=(false,eval e X.env)::starEach es X.env:=by rfl) (js:(backTo pos (starEach es X.env)).any (·.1)=false:=by rfl):PE X (.Call (.Name x p) (e::es) [] pos) (tCB r t):=by
 intro pins s σ H Q I h;refine iQ (wW I hg hm hv ?_ hn ma);exact gJ (c_ (ha pos pins s σ H _ I h) λus s1 ⟨vs,H1,I1,r1,q1⟩=>hc pins s1 σ H1 vs us Q I1 r1 q1) he js
end
end L2
namespace HT
open PySem PyProof.Rows
def lexLt:List Int->List Int->Bool
 | [],[]=>false
 | [],_::_=>true
 | _::_,[]=>false
 | x::xs,y::ys=>if x=y then lexLt xs ys else decide (x<y)
def lexLt_cons (x y:Int) (xs ys:List Int):lexLt (x::xs) (y::ys)=if x=y then lexLt xs ys else decide (x<y):=rfl
def SV:lexLt [] []=false:=rfl
def QE (y:Int) (ys:List Int):lexLt [] (y::ys)=true:=rfl
def QD (x:Int) (xs:List Int):lexLt (x::xs) []=false:=rfl
def Mt (A:dJ) (s:aG) (a:Int) (t:Tok) (c:Int) (u:Tok):∃e,GB A s (.int a t) (.int c u) e/\(e=true↔a=c) :=
 ⟨(a == c),uX a t c u,by simp⟩
def Ph (A:dJ) (s:aG) (a:Int) (t:Tok) (c:Int) (u:Tok) (prog:cE) (w:dI) (E:aD->aG->Prop) (Q:aD->aG->Prop) (h:Q (.bool (decide (a<c))) s) :
  wpAny (model prog w) A (richCompare .Lt (.int a t) (.int c u)) Q E s :=
 (PyProof.Rows.lt_int h:wpAny (model prog w) A (compareOp .Lt (.int a t) (.int c u)) Q E s)
section
open PySem.SeqAt
open PySem.AutoSeq1 (wpAny_loadPart')
open PySem.MeetsSeq PySem.MeetsSeq2 PySem.MeetsSeq3
def TM (l b:Addr) (items c9:Array aD) (n n2:Nat) (dd wd:Option Addr) (sl ue:Array (Option aD)) (ns ms:List Int) (hi:IntsAre items.toList ns) (hj:IntsAre c9.toList ms) :
  Meets (Builtin.«tuple.__lt__» ⟨[.ref l,.ref b],[]⟩)
   (λ_ R s=>s.heap.get? l=some { cls:=.type "tuple",dict:=dd,data:=.seq items n,slots:=sl }/\s.heap.get? b=some { cls:=.type "tuple",dict:=wd,data:=.seq c9 n2,slots:=ue } /\
    R (.ok (.ret (.bool (lexLt ns ms)))) s) :=
 .of_wp λprog w A R s h=>by
  obtain⟨hp,g,d,tk,os⟩:=s;obtain⟨hl,hb,h⟩:=h;have f2:=AutoSeq1.sub_tuple_tuple;have z1:items.size=ns.length:=by rw[<-hi.length];simp
  have z2:c9.size=ms.length:=by rw[<-hj.length];simp
  wp_walk using tI hl,tI hb,sM _ (λrest b s'=>b.1=none/\s'=⟨hp,g,d,tk,os⟩/\∃(vs ws:List aD) (wz wv:List Int),rest=vs.zip ws /\
   IntsAre vs wz/\IntsAre ws wv/\wz.length+c9.size=wv.length+items.size/\R (.ok (.ret (.bool (lexLt wz wv)))) ⟨hp,g,d,tk,os⟩) _
  case turn =>
   rintro⟨y,x⟩ rest b s' ⟨V7,rfl,vs,ws,wz,wv,hz,Y7,J',hlen,hR⟩;cases Y7 with
   | nil=>rw[List.zip_nil_left] at hz;cases hz
   | cons a t Y8 =>
    cases J' with
    | nil=>rw[List.zip_nil_right] at hz;cases hz
    | cons c u Y_ =>
     rw[nH] at hz;injection hz with hyx yp;injection hyx with hy hx;subst hy hx;rw[lexLt_cons] at hR;simp only[cG] at hlen;obtain⟨e,he,ye⟩:=Mt A.in1 ⟨hp,g,d,tk,os⟩ a t c u;refine aA (he prog w _ _ ?_);cases e with
     | true =>
      rw[if_pos (ye.mp rfl)] at hR
      wp_walk
      exact⟨rfl,rfl,_,_,_,_,yp,Y8,Y_,by lia,hR⟩
     | false =>
      rw[if_neg (λq=>absurd (ye.mpr q) cO)] at hR;have hri:=Ph A.in1 ⟨hp,g,d,tk,os⟩ a t c u prog w
      wp_walk using hri
      exact⟨_,rfl,by simpa using hR⟩
  case fin =>
   rintro⟨b1,b2⟩ s' ⟨V7,rfl,vs,ws,wz,wv,hz,Y7,J',hlen,hR⟩;simp only at V7;subst V7;have hv:lexLt wz wv=decide (items.size<c9.size):=by
    cases Y7 with
    | nil =>
     cases J' with
     | nil =>
      simp only[fJ] at hlen;rw[SV];exact (decide_eq_false (by lia)).symm
     | cons c u hw =>
      simp only[fJ,cG] at hlen;rw[QE];exact (decide_eq_true (by lia)).symm
    | cons a t hv =>
     cases J' with
     | nil =>
      simp only[fJ,cG] at hlen;rw[QD];exact (decide_eq_false (by lia)).symm
     | cons c u hw =>
      rw[nH] at hz;cases hz
   rw[hv] at hR
   wp_walk
   exact⟨_,rfl,by simpa [Builtin.Tuple.tupleCompareSizes] using hR⟩
  case h =>
   exact⟨rfl,rfl,items.toList,c9.toList,ns,ms,rfl,hi,hj,by lia,h⟩
end
section
variable {prog:cE} {w:dI} {A:dJ} {E:aD->aG->Prop} {s:aG}
theorem lt_tupInts (hl:IsTup s.heap l items) (hb:IsTup s.heap b c9) (hi:IntsAre items.toList ns) (hj:IntsAre c9.toList ms)
  (hu:A.units<cLine) (h:Q (.bool (lexLt ns ms)) s):wpAny (model prog w) A (compareOp .Lt (.ref l) (.ref b)) Q E s:=by
 obtain⟨⟨cls,dd,data,sl⟩,ho,hc,n,hd⟩:=id hl;obtain⟨⟨U3,wd,data2,ue⟩,ow,t6,n2,hd2⟩:=id hb;simp only at hc hd t6 hd2;subst hc hd t6 hd2;exact richCompare_meets_room (op:=.Lt) ⟨_,ho,rfl⟩ ⟨_,ow,rfl⟩ PySem.F.slot_tuple_lt PySem.F.entry_tuple_lt (PySem.F.args_tuple_lt_2 _ _) (TM l b items c9 n n2 dd wd sl ue ns ms hi hj)
  ⟨ho,ow,show GE (lexLt ns ms)≠Value.notImplemented/\Q (.bool (lexLt ns ms)) s from ⟨(λx=>nomatch x),h⟩⟩ hu
theorem cat_tup (ht:IsTup s.heap t vs.toArray) (hb:IsTup s.heap b ws.toArray) (hv:vs≠[])
  (h1:ws=[]->Q (.ref t) s) (h2:ws≠[]->Q (.ref s.heap.objs.size) { s with heap:=s.heap.push { cls:=.type "tuple",data:=.seq (vs++ws).toArray } })
  (lq:vs.length+ws.length<=sizeLine):wpAny (model prog w) A (binaryOp .Add (.ref t) (.ref b)) Q E s:=by
 obtain⟨⟨cls,dd,data,sl⟩,ho,hc,n,hd⟩:=id ht;obtain⟨⟨U3,wd,data2,ue⟩,ow,t6,n2,hd2⟩:=id hb;simp only at hc hd t6 hd2;subst hc hd t6 hd2;have e:vs.toArray++ws.toArray=(vs++ws).toArray:=by simp
 by_cases hw:ws=[]
 ·exact ID ⟨_,ho,rfl⟩ ⟨_,ow,rfl⟩ LA TJ yP xK (wP _ _)
   (tuple_addW1 t b vs.toArray ws.toArray n n2 dd wd sl ue (by simpa using hv) (by simp[hw])) ⟨ho,ow,h1 hw⟩
 ·refine ID ⟨_,ho,rfl⟩ ⟨_,ow,rfl⟩ LA TJ yP xK (wP _ _)
   (tuple_addW2 t b vs.toArray ws.toArray n n2 dd wd sl ue (by simpa using hv) (by simpa using hw) (by rw[aZ,aZ];exact lq)) ⟨ho,ow,?_⟩
  rw[e];exact h2 hw
def sIx (n d:Nat):Option Int->Nat
 | none=>d
 | some v=>if v<0 then (v+(n:Int)).toNat else min v.toNat n
theorem sIx_none (n d:Nat):sIx n d none=d:=rfl
theorem sIx_nat (n d k:Nat):sIx n d (some (k:Int))=min k n:=by
 show (if (k:Int)<0 then ((k:Int)+(n:Int)).toNat else min (k:Int).toNat n)=min k n;rw[if_neg (by lia),oD]
theorem Yy (n d:Nat) (hd:d<=n) (o:Option Int):sIx n d o<=n:=by
 cases o with
 | none=>exact hd
 | some v =>
  show (if v<0 then (v+(n:Int)).toNat else min v.toNat n)<=n;by_cases hv:v<0
  ·rw[if_pos hv];lia
  ·rw[if_neg hv];exact Nat.min_le_right _ _
theorem Fs (v:Int) (n d:Nat):(if v<0 then max (v+(n:Int)) 0 else min v (n:Int))=((sIx n d (some v):Nat):Int):=by
 show (if v<0 then max (v+(n:Int)) 0 else min v (n:Int))=(((if v<0 then (v+(n:Int)).toNat else min v.toNat n):Nat):Int);by_cases hv:v<0
 ·simp only[if_pos hv];lia
 ·simp only[if_neg hv];lia
theorem Cc (lo hi:Option Int) (n:Nat):pM lo hi 1 (n:Int)=(((sIx n 0 lo:Nat):Int),((sIx n n hi:Nat):Int)):=by
 have h1:¬((1:Int)<0):=by lia
 unfold pM;simp only[h1,if_false];refine lD ?_ ?_
 ·cases lo with
  | none=>rfl
  | some v=>exact Fs v n 0
 ·cases hi with
  | none=>rfl
  | some v=>exact Fs v n n
theorem Dz (i j:Nat):lO (i:Int) (j:Int) 1=j-i:=by
 unfold lO;have h1:(1:Int) > 0:=by lia
 simp only[h1,if_true,HH];split <;> lia
theorem RN (p:IsPart v o) (h:Q o s):wpAny (model prog w) A (Builtin.Slice.slicePartIndex v) Q E s:=by
 cases p with
 | none=>exact RP h
 | int i t=>exact slicePart_int h
theorem LM {sl:Addr} {vl vu:aD} {lo hi:Option Int} {n:Nat} {Q:Int × Int × Nat->aG->Prop} (hs:s.heap.IsSliceOf sl vl vu .none) (pl:IsPart vl lo) (pu:IsPart vu hi)
  (h:Q (((sIx n 0 lo:Nat):Int),1,sIx n n hi-sIx n 0 lo) s):wpAny (model prog w) A (uN (.ref sl) (pure (n:Int))) Q E s:=by
 obtain⟨os,vi,hcs,t7⟩:=id hs;unfold uN Builtin.Slice.sliceFields;refine aA (aA (fY vi t7 (x:=vl) rfl (aA (fY vi t7 (x:=vu) rfl (aA (fY vi t7 (x:=.none) rfl (aK ?_)))))));refine aA (RP ?_);show wpAny _ _ (if ((1:Int) == 0)=true then _ else _) _ _ s;rw[if_neg (by decide)];refine aA (RN pl (aA (RN pu (aA (aK ?_)))));show wpAny _ _ (match pM lo hi 1 (n:Int) with | (lo,hi)=>pure (lo,(1:Int),lO lo hi 1)) _ _ s;rw[Cc lo hi n];show wpAny _ _ (pure (((sIx n 0 lo:Nat):Int),(1:Int),lO ((sIx n 0 lo:Nat):Int) ((sIx n n hi:Nat):Int) 1)) _ _ s;rw[Dz];exact aK h
theorem Os (xs:Array aD) (i k:Nat):((dZ k).filterMap λ(m:Nat)=>xs[((i:Int)+(m:Int)*1).toNat]?).toArray=((xs.toList.drop i).take k).toArray:=by
 have e:(λ(m:Nat)=>xs[((i:Int)+(m:Int)*1).toNat]?)=λm=>xs[i+m]?:=by
  funext m;have:((i:Int)+(m:Int)*1).toNat=i+m:=by lia
  rw[this]
 rw[e];have:=pick_run xs i k;rw[List.filterMap_map] at this;have e2:((λx=>xs[x]?) ∘ λx=>i+x)=λm=>xs[i+m]?:=rfl;rw[e2] at this;rw[this]
theorem getItem_tuple_cut {lo hi:Option Int} (ht:IsTup s.heap t items) (hs:s.heap.IsSliceOf sl vl vu .none) (pl:IsPart vl lo) (pu:IsPart vu hi)
  (hw:¬(sIx items.size 0 lo=0/\sIx items.size items.size hi=items.size))
  (h:Q (.ref s.heap.objs.size) { s with heap:=s.heap.push { cls:=.type "tuple",data:=.seq ((items.toList.drop (sIx items.size 0 lo)).take (sIx items.size items.size hi-sIx items.size 0 lo)).toArray } })
  (lq:items.size<=sizeLine):wpAny (model prog w) A (getItem (.ref t) (.ref sl)) Q E s:=by
 have n9:sizeOk (.seq ((items.toList.drop (sIx items.size 0 lo)).take (sIx items.size items.size hi-sIx items.size 0 lo)).toArray):=by
  show ((items.toList.drop (sIx items.size 0 lo)).take (sIx items.size items.size hi-sIx items.size 0 lo)).toArray.size<=sizeLine;rw[aZ,gQ,mQ,cT];lia
 have hj:sIx items.size items.size hi<=items.size:=Yy _ _ (bU _) hi;obtain⟨os,vi,hcs,t7⟩:=id hs;have hTs:s.TypeIs (.ref sl) "slice":=⟨os,vi,hcs⟩;unfold getItem
 try with_reducible refine fU ?_
 first | refine aA (aK ?_) | skip
 refine aA (wpAny_sequenceKey ht.typeIs (by decide) ?_);refine aA (iK (name:=lW "__getitem__") ht.typeIs rP
  (iU rP ht.typeIs entry_tuple_getitem ?_ (args_tuple_getitem _ _)))
 show wpAny _ _ (Builtin.Tuple.tupleItemsOf (.ref t) >>= _) _ _ s;refine aA (tupleItemsOf_ ht ?_);refine aA (rN hTs ?_);rw[if_pos (by decide)];refine aA (LM hs pl pu ?_);have yk:¬((((sIx items.size 0 lo:Nat):Int) == 0 && (1:Int) == 1 && (sIx items.size items.size hi-sIx items.size 0 lo) == items.size)=true):=by
  intro q;rw[hU,hU] at q;have q1:((sIx items.size 0 lo:Nat):Int)=0:=eq_of_beq q.1.1;have q2:sIx items.size items.size hi-sIx items.size 0 lo=items.size:=eq_of_beq q.2;exact hw ⟨by lia,by lia⟩
 show wpAny _ _ (if (((sIx items.size 0 lo:Nat):Int) == 0 && (1:Int) == 1 && (sIx items.size items.size hi-sIx items.size 0 lo) == items.size)=true then _ else _) _ _ s;rw[if_neg yk,Os]
 first
  | exact aA (m:=mG _) (fM (aK ⟨_,rfl,aK h⟩) n9)
  | exact aA (m:=mG _) (fM (aA (aK (aK ⟨_,rfl,aK h⟩))) n9)
  | exact aA (aA (m:=mG _) (fM (aK (aK ⟨_,rfl,aK h⟩)) n9))
  | exact aA (aA (m:=mG _) (fM (aK ⟨_,rfl,aK h⟩) n9))
end
end HT
namespace L2
open PySem PySem.Spec PyProof.Rows
abbrev TO:=St->Hp->(Option Int->Hp->Prop)->Prop
def PO (X:Cx) (e:Option Expr) (t:TO):Prop :=
 ∀(pins:List (Addr × Obj)) (s:aG) (σ:St) (H:Hp) (Q:Option Int->Hp->Prop),Inv X pins σ H s->t σ H Q ->
  wpAny (model X.prog X.w) X.A (evalPart e X.env) (λu s'=>∃o H',Inv X pins σ H' s'/\IsPart u o/\Q o H') X.xe s
def Uc:TO:=λ_ H Q=>Q none H
def G1 (t:TE):TO:=λσ H Q=>t σ H λx H1=>∃i,x = .int i/\Q (some i) H1
theorem intsAre_of:∀{us:List aD},aq (ns.map V.int) us->IntsAre us ns:=by
 induction ns with
 | nil=>intro us r;rw[cD] at r;cases r;exact .nil
 | cons n ns ih =>
  intro us r;rw[aV] at r;cases r with
  | cons r1 r2 =>
   obtain⟨t,e⟩:=r1;subst e;exact .cons n t (ih r2)
section
variable {X:Cx} {te:TE} {lo hi:Option Expr} {tl th:TO}
theorem Tj:PO X none Uc:=by
 intro pins s σ H Q I h;rw[SU];exact aK ⟨none,H,I,.none,h⟩
theorem Tk (h:PE X e te):PO X (some e) (G1 te):=by
 intro pins s σ H Q I hw;rw[evalPart_some];refine c_ (h pins s σ H _ I hw) λu s1 ⟨x,H1,I1,r1,q1⟩=>?_;obtain⟨i,rfl,q⟩:=q1;obtain⟨t,rfl⟩:=r1;exact⟨some i,H1,I1,.int i t,q⟩
def ut (X:Cx) (r:V->Option Int->Option Int->Hp->VK->Prop):Prop :=
 ∀(pins:List (Addr × Obj)) (s:aG) (σ:St) (H:Hp) (x:V) (v vl vu:aD) (lo hi:Option Int) (sl:Addr) (Q:VK),Inv X pins σ H s->RelV x v->s.heap.IsSliceOf sl vl vu .none->IsPart vl lo->IsPart vu hi->r x lo hi H Q ->
  ∃T id,typeLookup (.type T) "__getitem__" = pure (some (.builtin id))/\s.TypeIs v T/\wpAny (model X.prog X.w) X.A (getItem v (.ref sl)) (EP X pins σ Q) X.xe s
theorem ut.or (h:ut X r) (h':ut X r'):ut X (λx lo hi H Q=>r x lo hi H Q\/r' x lo hi H Q):=by
 intro pins s σ H x v vl vu lo hi sl Q I rx hs pl pu q;rcases q with q | q
 ·exact h pins s σ H x v vl vu lo hi sl Q I rx hs pl pu q
 ·exact h' pins s σ H x v vl vu lo hi sl Q I rx hs pl pu q
def tSl (r:V->Option Int->Option Int->Hp->VK->Prop) (te:TE) (tl th:TO):TE:=λσ H Q=>te σ H λx H1=>tl σ H1 λl H2=>th σ H2 λu H3=>r x l u H3 Q
theorem Ai (hr:ut X r) (he:PE X e te) (hl:PO X lo tl) (hu:PO X hi th):PE X (.Subscript e (.Slice lo hi none p2) pos) (tSl r te tl th):=by
 intro pins s σ H Q I h;refine Subscript_ (c_ (he pins s σ H _ I h) λv s1 ⟨x,H1,I1,r1,q1⟩=>?_);refine wpAny_Slice (c_ (hl pins s1 σ H1 _ I1 q1) λvl s2 ⟨l,H2,I2,pl,q2⟩=>c_ (hu pins s2 σ H2 _ I2 q2) λvu s3 ⟨u,H3,I3,pu,q3⟩=>?_);rw[SU];refine aK ?_;have I4:Inv X pins σ H3 { s3 with heap:=s3.heap.push { cls:=.type "slice",data:=.fields #[vl,vu,.none] } }:=I3.kept (t':=s3.toks) λb ob q=>aR _ q;obtain⟨T,id,hT,ht,hg⟩:=hr pins { s3 with heap:=s3.heap.push { cls:=.type "slice",data:=.fields #[vl,vu,.none] } } σ H3 x v vl vu l u s3.heap.objs.size Q I4 r1 (Heap.IsSliceOf.new ..) pl pu q3;show wpAny (model X.prog X.w) X.A (subscriptTail e (.Slice lo hi none p2) v (.ref s3.heap.objs.size)) (EP X pins σ Q) X.xe { s3 with heap:=s3.heap.push { cls:=.type "slice",data:=.fields #[vl,vu,.none] } };exact tail_any (ops:=[.ref s3.heap.objs.size,v]) ht hT hg (by with_unfolding_all rfl)
def SR (xs:List V) (lo hi:Option Int):List V:=(xs.drop (HT.sIx xs.length 0 lo)).take (HT.sIx xs.length xs.length hi-HT.sIx xs.length 0 lo)
theorem LW (xs:List V) (lo hi:Option Int):(SR xs lo hi).length<=xs.length:=by
 unfold SR;rw[gQ,mQ];lia
def M0 (K:aI):V->Option Int->Option Int->Hp->VK->Prop:=λx lo hi H Q=>∃a xs,x = .ref a/\fg K H a xs /\
 ¬(HT.sIx xs.length 0 lo=0/\HT.sIx xs.length xs.length hi=xs.length)/\∀p,H p=none->Q (.ref p) (bB H p (.tup (SR xs lo hi)))
theorem Yz:ut X (M0 X.K):=by
 intro pins s σ H x v vl vu lo hi sl Q I rx hs pl pu h;obtain⟨a,xs,rfl,hx,hw,q⟩:=h;cases rx;obtain⟨its,r,ht,hz⟩:=I.tuple hx;have hlen:its.toArray.size=xs.length:=by rw[aZ];exact r.length.symm
 refine⟨"tuple",_,PyProof.Rows.slot_tuple_getitem.lookup,ht.typeIs,?_⟩;refine HT.getItem_tuple_cut ht hs pl pu (by rw[hlen];exact hw) ?_ (by rw[hlen];exact hz);rw[hlen];refine⟨.ref s.heap.objs.size,_,I.laid (t':=s.toks) (o:=.tup (SR xs lo hi)) (λb ob q=>aR _ q) (bU _) ?_,rfl,q _ (I.hok.fresh (bU _))⟩;exact⟨fW (LW xs lo hi) hz,_,(r.drop (HT.sIx xs.length 0 lo)).take (HT.sIx xs.length xs.length hi-HT.sIx xs.length 0 lo),JS _ _⟩
def L5 (K:aI):R2:=λx y H Q=>∃a b ns ms,x = .ref a/\y = .ref b/\fg K H a (ns.map V.int)/\fg K H b (ms.map V.int)/\Q (.bl (HT.lexLt ns ms)) H
theorem Xt (hu:X.A.units<cLine):j3 X (compareOp .Lt) (L5 X.K):=by
 intro pins s σ H x y v u Q I rx ry h;obtain⟨a,b,ns,ms,rfl,rfl,ha,hb,q⟩:=h;cases rx;cases ry;obtain⟨its,r1,p1,_⟩:=I.tuple ha;obtain⟨fj,r2,p2,_⟩:=I.tuple hb;have i1:IntsAre its.toArray.toList ns:=intsAre_of r1;have i2:IntsAre fj.toArray.toList ms:=intsAre_of r2;exact HT.lt_tupInts p1 p2 i1 i2 hu ⟨.bl (HT.lexLt ns ms),H,I,rfl,q⟩
def D7 (K:aI):R2:=λx y H Q=>∃a b xs ys,x = .ref a/\y = .ref b/\fg K H a xs/\fg K H b ys/\xs≠[]/\xs.length+ys.length<=sizeLine /\
 (ys=[]->Q (.ref a) H)/\(ys≠[]->∀p,H p=none->Q (.ref p) (bB H p (.tup (xs++ys))))
theorem aq.nil_iff (r:aq xs us):us=[]↔xs=[]:=by
 cases r with
 | nil=>simp
 | cons _ _=>simp
theorem Tb:j3 X (binaryOp .Add) (D7 X.K):=by
 intro pins s σ H x y v u Q I rx ry h;obtain⟨a,b,xs,ys,rfl,rfl,ha,hb,hx,hz,q1,q2⟩:=h;cases rx;cases ry;obtain⟨its,r1,p1,_⟩:=I.tuple ha;obtain⟨fj,r2,p2,_⟩:=I.tuple hb;refine HT.cat_tup p1 p2 (λz=>hx (r1.nil_iff.mp z)) (λz=>⟨.ref a,H,I,rfl,q1 (r2.nil_iff.mp z)⟩) (λz=>?_) (by rw[<-r1.length,<-r2.length];exact hz);refine⟨.ref s.heap.objs.size,_,I.laid (t':=s.toks) (o:=.tup (xs++ys)) (λb ob q=>aR _ q) (bU _) ?_,rfl,q2 (λw=>z (r2.nil_iff.mpr w)) _ (I.hok.fresh (bU _))⟩;exact⟨by rw[dC];exact hz,_,r1.append r2,JS _ _⟩
end
def lr (n:Nat) (i:Int):Option Nat:=if 0<=i then (if i<n then some i.toNat else none) else if -(n:Int)<=i then some (i+n).toNat else none
def h9 {α:Type} (xs:List α) (i:Int):Option α:=(lr xs.length i).bind λj=>xs[j]?
def Rx (h:lr n i=some j):seqIndex? i n=some j/\j<n/\-(n:Int)<=i/\i<n:=by
 unfold lr at h;by_cases h0:0<=i
 ·rw[if_pos h0] at h;by_cases h1:i<n
  ·rw[if_pos h1] at h;have e:i.toNat=j:=eB h;exact⟨by rw[seqIndex_of h0 h1,e],by lia,by lia,h1⟩
  ·rw[if_neg h1] at h;cases h
 ·rw[if_neg h0] at h;by_cases h1:-(n:Int)<=i
  ·rw[if_pos h1] at h;have e:(i+n).toNat=j:=eB h;exact⟨by rw[seqIndex_neg (by lia) h1,e],by lia,h1,by lia⟩
  ·rw[if_neg h1] at h;cases h
theorem Fo {α:Type} {xs:List α} {v:α} (h:h9 xs i=some v):∃j,seqIndex? i xs.length=some j/\xs[j]? = some v/\j<xs.length/\-(xs.length:Int)<=i/\i<xs.length:=by
 unfold h9 at h;cases e:lr xs.length i with
 | none=>rw[e] at h;cases h
 | some j =>
  rw[e] at h;obtain⟨h1,h2,h3,h4⟩:=Rx e;exact⟨j,h1,h,h2,h3,h4⟩
def Fp {α:Type} {xs:List α} {j:Nat} {v:α} (h:xs[j]? = some v):h9 xs (j:Int)=some v:=by
 have hj:j<xs.length:=(bI.mp h).1;have e:lr xs.length (j:Int)=some j:=by
  unfold lr;rw[if_pos (by lia),if_pos (by lia)];simp
 unfold h9;rw[e];exact h
def YB {α:Type} (xs:List α) (v:α):h9 (xs++[v]) (-1)=some v:=by
 have hl:(xs++[v]).length=xs.length+1:=by simp
 have e:lr (xs++[v]).length (-1)=some xs.length:=by
  unfold lr;rw[hl,if_neg (by decide),if_pos (by lia)];congr 1;lia
 unfold h9;rw[e];show (xs++[v])[xs.length]? = some v;simp
def Fj (b:Expr):Prop:=∀o i,subscripted b false o i=operate [o,i] (getItem o i)
def uk (X:Cx) (r:R2):Prop :=
 ∀(value slice:Expr) (pins:List (Addr × Obj)) (s:aG) (σ:St) (H:Hp) (x y:V) (v u:aD) (Q:VK),Inv X pins σ H s->RelV x v->RelV y u->r x y H Q ->
  subscripted slice false v u=operate [v,u] (getItem v u)->wpAny (model X.prog X.w) X.A (subscriptTail value slice v u) (EP X pins σ Q) X.xe s
def T4 (X:Cx) (id:String) (r:V->List V->Hp->VK->Prop):Prop :=
 ∀(pins:List (Addr × Obj)) (s:aG) (σ:St) (H:Hp) (x:V) (xs:List V) (v:aD) (us:List aD) (Q:VK),Inv X pins σ H s->RelV x v->aq xs us->r x xs H Q ->
  wpAny (model X.prog X.w) X.A (call (.builtin id) (v::us)) (EP X pins σ Q) X.xe s
section
variable {X:Cx} {a b:Expr}
theorem uk.or (h:uk X r) (h':uk X r'):uk X (λx y H Q=>r x y H Q\/r' x y H Q):=by
 intro value slice pins s σ H x y v u Q I rx ry q hs;rcases q with q | q
 ·exact h value slice pins s σ H x y v u Q I rx ry q hs
 ·exact h' value slice pins s σ H x y v u Q I rx ry q hs
theorem Vu (hr:uk X r) (ha:PE X a ta) (hb:PE X b tb) (hs:Fj b):PE X (.Subscript a b pos) (zp r ta tb):=by
 intro pins s σ H Q I h;exact Subscript_ (Wa ha hb I h λv u s2 x y H2 I2 rx ry q=>hr a b pins s2 σ H2 x y v u Q I2 rx ry q (hs _ _))
def K8 (K:aI):R2:=λx y H Q=>∃p xs i v,x = .ref p/\y = .int i/\g_ K H p xs/\h9 xs i=some v/\Q v H
def K9 (K:aI):R2:=λx y H Q=>∃p xs i v,x = .ref p/\y = .int i/\fg K H p xs/\h9 xs i=some v/\Q v H
theorem Ry:uk X (K8 X.K):=by
 intro value slice pins s σ H x y v u Q I rx ry h hs;obtain⟨p,xs,i,z,rfl,rfl,hq,he,q⟩:=h;cases rx;obtain⟨t,rfl⟩:=ry;obtain⟨its,r,pl,hz⟩:=I.list hq;obtain⟨j,h1,h2,h3,h4,h5⟩:=Fo he;obtain⟨w,ew,mn⟩:=r.get h2;have hl:=r.length;have hn:=Dl;have fin:EP X pins σ Q w s:=⟨z,H,I,mn,q⟩;by_cases h0:0<=i
 ·have hj:i.toNat=j:=by
   rw[seqIndex_of h0 h5] at h1;exact eB h1
  exact item_listR pl.isList h0 (by lia) (by rw[hj];simpa using ew) fin hs
 ·have hj:(i+(its.toArray.size:Int)).toNat=j:=by
   rw[seqIndex_neg (by lia) h4] at h1;rw[aZ,<-hl];exact eB h1
  exact zK (x:=w) pl.isList.typeIs slot_list_getitem.lookup
   (wpAny_getItem_list_neg (Q:=λr s'=>r=w/\EP X pins σ Q r s') pl.isList (by lia) (by rw[aZ] <;> lia) (by lia) (by rw[hj];simpa using ew) ⟨rfl,fin⟩) hs
theorem Nh:uk X (K9 X.K):=by
 intro value slice pins s σ H x y v u Q I rx ry h hs;obtain⟨p,xs,i,z,rfl,rfl,hq,he,q⟩:=h;cases rx;obtain⟨t,rfl⟩:=ry;obtain⟨its,r,pl,hz⟩:=I.tuple hq;obtain⟨j,h1,h2,h3,h4,h5⟩:=Fo he;obtain⟨w,ew,mn⟩:=r.get h2;have hl:=r.length;have hn:=Dl;have fin:EP X pins σ Q w s:=⟨z,H,I,mn,q⟩;exact zK (x:=w) pl.typeIs slot_tuple_getitem.lookup
  (getItem_tuple (j:=j) (Q:=λr s'=>r=w/\EP X pins σ Q r s') pl (by lia) (by lia) (by rw[aZ,<-hl];exact h1) (by simpa using ew) ⟨rfl,fin⟩) hs
theorem XR (lo hi:Option Int) (n:Nat):(sliceBounds lo hi none n).1=((HT.sIx n 0 lo:Nat):Int)/\(sliceBounds lo hi none n).2.1=((HT.sIx n n hi:Nat):Int)/\(sliceBounds lo hi none n).2.2=1:=by
 refine⟨?_,?_,rfl⟩
 ·cases lo with
  | none=>simp[sliceBounds,HT.sIx]
  | some i =>
   simp only[sliceBounds,HT.sIx,KD,show (1:Int) > 0 by decide,if_true];by_cases h:i<0
   ·simp only[h,if_true] <;> lia
   ·simp only[h,if_false] <;> lia
 ·cases hi with
  | none=>simp[sliceBounds,HT.sIx]
  | some i =>
   simp only[sliceBounds,HT.sIx,KD,show (1:Int) > 0 by decide,if_true];by_cases h:i<0
   ·simp only[h,if_true] <;> lia
   ·simp only[h,if_false] <;> lia
theorem TK (its:List aD) (lo hi:Option Int):slicePick its.toArray lo hi none=((its.drop (HT.sIx its.length 0 lo)).take (HT.sIx its.length its.length hi-HT.sIx its.length 0 lo)).toArray:=by
 obtain⟨h1,h2,h3⟩:=XR lo hi its.toArray.size;unfold slicePick;rw[h1,h2,h3];simp only[sliceRange_one,pick_run,aZ] <;> rfl
def L9 (K:aI):V->Option Int->Option Int->Hp->VK->Prop:=λx lo hi H Q=>∃a xs,x = .ref a/\g_ K H a xs/\∀p,H p=none->Q (.ref p) (bB H p (.lst (SR xs lo hi)))
theorem Hq:ut X (L9 X.K):=by
 intro pins s σ H x v vl vu lo hi sl Q I rx hs pl pu h;obtain⟨a,xs,rfl,hx,q⟩:=h;cases rx;obtain⟨its,r,ht,hz⟩:=I.list hx;have hlen:=r.length;refine⟨"list",_,slot_list_getitem.lookup,ht.isList.typeIs,?_⟩;refine wpAny_getItem_list_slice ht.isList hs pl pu .none (by simp) ?_ (by rw[aZ] <;> lia);rw[TK,<-hlen];refine⟨.ref s.heap.objs.size,_,I.laid (t':=s.toks) (o:=.lst (SR xs lo hi)) (λb ob q=>aR _ q) (bU _) ?_,rfl,q _ (I.hok.fresh (bU _))⟩;exact⟨fW (LW xs lo hi) hz,_,0,(r.drop (HT.sIx xs.length 0 lo)).take (HT.sIx xs.length xs.length hi-HT.sIx xs.length 0 lo),bR _ rfl⟩
theorem VX:zM X (.builtin "len") (λxs H Q=>∃p ys,xs=[.ref p]/\(g_ X.K H p ys\/fg X.K H p ys)/\Q (.int ys.length) H):=by
 intro pins s σ H xs us Q I r h;obtain⟨p,ys,rfl,hq,q⟩:=h;obtain⟨u,rfl,rx⟩:=vals1 r;cases rx;have hn:=Dl;rcases hq with hq | hq
 ·obtain⟨its,r',pl,hz⟩:=I.list hq;have hlen:=r'.length;exact Calls.call_len_list pl.isList (by simp only[aZ] <;> lia) ⟨.int ys.length,H,I.tok _,⟨s.toks+1,by rw[aZ,hlen]⟩,q⟩
 ·obtain⟨its,r',pl,hz⟩:=I.tuple hq;have hlen:=r'.length;exact len_tuple pl (by simp only[aZ] <;> lia) ⟨.int ys.length,H,I.tok _,⟨s.toks+1,by rw[aZ,hlen]⟩,q⟩
theorem VY:zM X (.type "list") (λxs H Q=>∃p ys,xs=[.ref p]/\(g_ X.K H p ys\/fg X.K H p ys)/\∀l,H l=none->Q (.ref l) (bB H l (.lst ys))):=by
 intro pins s σ H xs us Q I r h;obtain⟨p,ys,rfl,hq,q⟩:=h;obtain⟨u,rfl,rx⟩:=vals1 r;cases rx;have fin:∀(its:List aD),aq ys its->ys.length<=sizeLine->∀(h':Heap) (c':Nat),(∀b o',s.heap.get? b=some o'->h'.get? b=some o') ->
   h'.get? s.heap.objs.size=some { cls:=.type "list",dict:=none,data:=.seq its.toArray c',slots:=#[] }->EP X pins σ Q (.ref s.heap.objs.size) { s with heap:=h' }:=λits r' hz h' c' kp e =>
  ⟨.ref s.heap.objs.size,_,I.laid (t':=s.toks) kp (bU _) (show cg X.prog X.w _ h' _ (.lst ys) from ⟨hz,its,c',r',e⟩),rfl,q _ (I.hok.fresh (bU _))⟩
 rcases hq with hq | hq
 ·obtain⟨its,r',pl,hz⟩:=I.list hq;have hlen:=r'.length;obtain⟨o,ho,hc,n,hd⟩:=pl.isList;exact SL p (.inl rfl) ho hc hd (λh' c' kp e=>fin its r' hz h' c' kp e) (by simp only[aZ] <;> lia)
 ·obtain⟨its,r',pl,hz⟩:=I.tuple hq;have hlen:=r'.length;obtain⟨o,ho,hc,n,hd⟩:=pl;exact SL p (.inr rfl) ho hc hd (λh' c' kp e=>fin its r' hz h' c' kp e) (by simp only[aZ] <;> lia)
theorem SO:zM X (.type "tuple") (λxs H Q=>∃p ys,xs=[.ref p]/\((g_ X.K H p ys/\∀l,H l=none->Q (.ref l) (bB H l (.tup ys)))\/(fg X.K H p ys/\Q (.ref p) H))):=by
 intro pins s σ H xs us Q I r h;obtain⟨p,ys,rfl,h⟩:=h;obtain⟨u,rfl,rx⟩:=vals1 r;cases rx;rcases h with ⟨hq,q⟩ | ⟨hq,q⟩
 ·obtain⟨its,r',pl,hz⟩:=I.list hq;have hlen:=r'.length;refine call_tuple_list pl.isList (λh' kp=>?_) (by simp only[aZ] <;> lia);have I1:Inv X pins σ H { s with heap:=h' }:=I.kept (t':=s.toks) kp;have I2:Inv X pins σ (bB H h'.objs.size (.tup ys)) { s with heap:=h'.push { cls:=.type "tuple",data:=.seq its.toArray } } :=
   I1.laid (t':=s.toks) (λb o e=>aR _ e) (bU _) (show cg X.prog X.w _ _ _ (.tup ys) from ⟨hz,its,r',JS _ _⟩)
  exact⟨.ref h'.objs.size,_,I2,rfl,q _ (I1.hok.fresh (bU _))⟩
 ·obtain⟨its,r',pl,hz⟩:=I.tuple hq;exact call_tuple_same pl ⟨.ref p,H,I,rfl,q⟩
def tyV (K:aI) (T:String) (x:V) (H:Hp):Prop:=match x with
 | .str _=>T = "str"
 | .int _=>T = "int"
 | .ref p=>(T = "list"/\∃xs,g_ K H p xs)\/(T = "tuple"/\∃o,K.lookup p=some o/\o.cls = .type "tuple"/\o.dict=none) \/
   (T = "dict"/\((∃cf,H p=some (.dK cf))\/∃cf,H p=some (.dT cf)))\/(T = "set"/\∃S n,H p=some (.set S n))
 | _=>False
theorem Qe {σ:St} (I:Inv X pins σ H s) (r:RelV x v) (ty:tyV X.K T x H) :
  s.TypeIs v T/\∀a,v = .ref a->∃ob,s.heap.get? a=some ob/\ob.dict=none:=by
 cases x with
 | str z =>
  obtain⟨t,rfl⟩:=r;cases (show T = "str" from ty);exact⟨typeIs_str s z t,λ_ e=>nomatch e⟩
 | int i =>
  obtain⟨t,rfl⟩:=r;cases (show T = "int" from ty);exact⟨typeIs_int s i t,λ_ e=>nomatch e⟩
 | ref p =>
  cases r;rcases ty with ⟨rfl,xs,hq⟩ | ⟨rfl,o,hk,hc,hd⟩ | ⟨rfl,hk⟩ | ⟨rfl,S,n,hk⟩
  ·obtain⟨its,_,pl,_⟩:=I.list hq;refine⟨pl.isList.typeIs,λa e=>?_⟩;cases e;obtain⟨o,n,e,c,hd,_⟩:=pl;exact⟨o,e,hd⟩
  ·refine⟨⟨o,I.kIn p o hk,hc⟩,λa e=>?_⟩;cases e;exact⟨o,I.kIn _ o hk,hd⟩
  ·have z:∃o,s.heap.get? p=some o/\o.ExactDict:=by
    rcases hk with ⟨cf,hk⟩ | ⟨cf,hk⟩
    ·obtain⟨_,_,_,_,o,_,_,e,ex,_⟩:=I.hok p _ hk;exact⟨o,e,ex⟩
    ·obtain⟨_,_,_,_,o,_,_,e,ex,_⟩:=I.hok p _ hk;exact⟨o,e,ex⟩
   obtain⟨o,e,ex⟩:=z;refine⟨⟨o,e,ex.1⟩,λa e2=>?_⟩;cases e2;exact⟨o,e,ex.2.1⟩
  ·obtain⟨o,_,_,_,e,ex,_⟩:=I.hok p _ hk;refine⟨⟨o,e,ex.1⟩,λa e2=>?_⟩;cases e2;exact⟨o,e,ex.2.1⟩
 | _=>exact mZ ty
def N4 (K:aI) (T:String) (r:V->List V->Hp->VK->Prop) (to:TE):TE:=λσ H Q=>to σ H λx H1=>tyV K T x H1/\r x [] H1 Q
def tBM (K:aI) (T:String) (r:V->List V->Hp->VK->Prop) (to:TE) (t:TA):TE:=λσ H Q=>to σ H λx H1=>tyV K T x H1/\t σ H1 λxs H2=>r x xs H2 Q
variable {o e:Expr} {to:TE} {name:Str} {apos b_:Pos} {T id:String} {r:V->List V->Hp->VK->Prop}
theorem On (pa:PlainAttrs T) (slot:Slot T name id) (Y5:typeOf (.builtin id)=pure (.type "method_descriptor")) (hm:T4 X id r) (ho:PE X o to)
  (fh:attributeBase o name X.env (eval o X.env)=eval o X.env:=by rfl) (fi:(apos.endLine == b_.line)=true:=by rfl):PE X (.Call (.Attribute o name apos) [] [] b_) (N4 X.K T r to):=by
 intro pins s σ H Q I h;refine wpAny_Call_method0_late fh fi (c_ (ho pins s σ H _ I h) λv s1 ⟨x,H1,I1,r1,ty,q1⟩=>?_);obtain⟨h1,h2⟩:=Qe I1 r1 ty;exact⟨T,id,pa,slot,Y5,h1,h2,yE rfl (PySem.evalArgs_none (hm pins s1 σ H1 x [] v [] Q I1 r1 .nil q1))⟩
theorem Om (pa:PlainAttrs T) (slot:Slot T name id) (Y5:typeOf (.builtin id)=pure (.type "method_descriptor")) (hm:T4 X id r) (ho:PE X o to) (ha:PA X (e::es) t)
  (fh:attributeBase o name X.env (eval o X.env)=eval o X.env:=by rfl)
  (m8:((backTo b_ (starEach (e::es) X.env)).all (λx=>!x.1) && (backToKw b_ (keywordEach [] X.env)).all (λx=>x.1.isSome)
   && decide ((e::es).length+([]:List vT).length+(if ([]:List vT).isEmpty then 0 else 1)<30))=true:=by rfl)
  (fi:(apos.endLine == b_.line)=true:=by rfl) (hs:starEach (e::es) X.env=(false,eval e X.env)::starEach es X.env:=by rfl) (vk:(backTo b_ (starEach es X.env)).any (·.1)=false:=by rfl) :
  PE X (.Call (.Attribute o name apos) (e::es) [] b_) (tBM X.K T r to t):=by
 intro pins s σ H Q I h;refine wpAny_Call_method_late fh m8 fi rfl (c_ (ho pins s σ H _ I h) λv s1 ⟨x,H1,I1,r1,ty,q1⟩=>?_);obtain⟨h1,h2⟩:=Qe I1 r1 ty;refine⟨T,id,pa,slot,Y5,h1,h2,?_⟩;have hA:=ha b_ pins s1 σ H1 _ I1 q1;rw[hs] at hA ⊢;refine yE (by show (false || (backTo b_ (starEach es X.env)).any (·.1))=false;rw[vk] <;> rfl) (Calls.evalArgs_plain ?_);exact c_ hA λus s2 ⟨vs,H2,I2,r2,q2⟩=>hm pins s2 σ H2 x vs v us Q I2 r1 r2 q2
end
def z7 (X:Cx) (id:String) (r:V->List V->Hp->VK->Prop):Prop :=
 ∀(pins:List (Addr × Obj)) (s:aG) (σ:St) (H:Hp) (x:V) (xs:List V) (v:aD) (us:List aD) (Q:VK),Inv X pins σ H s->RelV x v->aq xs us->r x xs H Q ->
  wpAny (model X.prog X.w) X.A (call (.builtin id) (v::us)) (EP X pins σ Q) X.xe s
theorem aq.one:∀{x:V} {us:List aD},aq [x] us->∃u,us=[u]/\RelV x u
 | _,_,.cons r .nil=>⟨_,rfl,r⟩
theorem aq.zero:∀{us:List aD},aq [] us->us=[]
 | _,.nil=>rfl
theorem aq.dropLast (h:aq xs us):aq xs.dropLast us.dropLast:=by
 induction h with
 | nil=>exact .nil
 | cons r t ih =>
  cases t with
  | nil=>exact .nil
  | cons q t'=>exact .cons r ih
theorem Co {α:Type} (l:List α):l.eraseIdx (l.length-1)=l.dropLast:=by
 induction l with
 | nil=>rfl
 | cons a r ih =>
  cases r with
  | nil=>rfl
  | cons b r =>
   have e:(a::b::r).length-1=((b::r).length-1)+1:=by
    have h1:(a::b::r).length=r.length+2:=rfl;have h2:(b::r).length=r.length+1:=rfl;lia
   rw[e,List.eraseIdx_cons_succ,ih]
   all_goals rfl
section
variable {X:Cx} {pins:List (Addr × Obj)} {σ:St} {H:Hp} {s:aG} {l b:Addr} {xs ys zs:List V}
theorem Inv.lset {its its':List aD} {n:Nat} {f:Array aD->Array aD} {t':Nat} (I:Inv X pins σ H s) (hH:H l=some (.lst xs))
  (e:s.heap.get? l=some { cls:=.type "list",data:=.seq its.toArray n }) (hf:f its.toArray=its'.toArray) (hv:aq ys its') (hz:ys.length<=sizeLine) :
  Inv X pins σ (bB H l (.lst ys)) { s with heap:=s.heap.update l (dH f),toks:=t' }:=by
 have q:=KE e f;rw[hf] at q;refine I.write (x:=l) (e:=l) (by rw[hH];exact trivial) (.inl rfl) (λb' u hb hu=>(cQ s.heap (dH f) (Ne.symm hb)).trans hu) ⟨_,q⟩ ?_;exact⟨hz,its',_,hv,q⟩
theorem Inv.lnew (I:Inv X pins σ H s) (hv:aq ys its) (hz:ys.length<=sizeLine) :
  Inv X pins σ (bB H s.heap.objs.size (.lst ys)) { s with heap:=s.heap.push { cls:=.type "list",data:=.seq its.toArray },toks:=t' } :=
 I.laid (λ_ _ q=>aR _ q) (bU _) ⟨hz,its,0,hv,bR _ rfl⟩
theorem Inv.fresh (I:Inv X pins σ H s):H s.heap.objs.size=none:=I.hok.fresh (bU _)
theorem Inv.lstM (I:Inv X pins σ H s) (hH:H l=some (.lst xs)):xs.length<=sizeLine/\∃(its:List aD) (n:Nat),aq xs its/\xs.length=its.length/\s.heap.get? l=some { cls:=.type "list",data:=.seq its.toArray n }:=by
 obtain⟨z,its,n,r,e⟩:=I.hok l _ hH;exact⟨z,its,n,r,r.length,e⟩
theorem Ob (h:n<=sizeLine):mF n=false:=by
 unfold mF;exact decide_eq_false (by lia)
end
section
def Tp:V->List V->Hp->VK->Prop:=λx vs H Q=>∃l xs y,x = .ref l/\vs=[y]/\H l=some (.lst xs)/\xs.length<sizeLine/\Q .non (bB H l (.lst (xs++[y])))
def Jm:z7 X "list.append" Tp:=by
 intro pins s σ H x vs v us Q I rx rv h;obtain⟨l,xs,y,rfl,rfl,hH,hz,q⟩:=h;cases rx;obtain⟨u,rfl,ru⟩:=rv.one;obtain⟨z,its,n,r,hl,e⟩:=I.lstM hH;refine vA F.slot_list_append ⟨_,e,rfl⟩ F.entry_list_append (F.args_list_append_2 _ _) (HU l its.toArray n u (by rw[aZ];lia)) ⟨e,?_⟩;refine⟨.non,_,I.lset (its':=its++[u]) hH e (by simp) (r.append (.cons ru .nil)) ?_,rfl,q⟩;rw[dC,rQ];lia
def L7:V->List V->Hp->VK->Prop:=λx vs H Q=>∃l xs y,x = .ref l/\vs=[]/\H l=some (.lst xs)/\xs[xs.length-1]? = some y/\Q y (bB H l (.lst xs.dropLast))
def Xi:z7 X "list.pop" L7:=by
 intro pins s σ H x vs v us Q I rx rv h;obtain⟨l,xs,y,rfl,rfl,hH,hy,q⟩:=h;cases rx;have Y6:=rv.zero;subst Y6;obtain⟨z,its,n,r,hl,e⟩:=I.lstM hH;obtain⟨u,hu,ru⟩:=r.get hy;have hy':its.toArray[its.toArray.size-1]? = some u:=by
  show its.toArray[its.length-1]? = some u;rw[<-jQ,<-hl];exact hu
 refine vA F.slot_list_pop ⟨_,e,rfl⟩ F.entry_list_pop (F.args_list_pop_1 _) (MeetsSeq.list_pop_last l its.toArray n u hy' (by rw[aZ];lia)) ⟨e,?_⟩;refine⟨y,_,I.lset (its':=its.dropLast) hH e ?_ r.dropLast ?_,ru,q⟩
 ·show its.toArray.eraseIdxIfInBounds (its.toArray.size-1)=its.dropLast.toArray;rw[aZ,List.eraseIdxIfInBounds_toArray,Co]
 ·rw[BB];lia
def Yq:V->List V->Hp->VK->Prop:=λx vs H Q=>∃l xs,x = .ref l/\vs=[]/\H l=some (.lst xs)/\Q .non (bB H l (.lst []))
def Ny:z7 X "list.clear" Yq:=by
 intro pins s σ H x vs v us Q I rx rv h;obtain⟨l,xs,rfl,rfl,hH,q⟩:=h;cases rx;have Y6:=rv.zero;subst Y6;obtain⟨z,its,n,r,hl,e⟩:=I.lstM hH;refine vA F.slot_list_clear ⟨_,e,rfl⟩ F.entry_list_clear (F.args_list_clear_1 _) (AutoSeq1.list_clear_list_0 l its.toArray n (by rw[aZ];lia)) ⟨e,?_⟩;exact⟨.non,_,I.lset (its':=[]) (ys:=[]) hH e rfl .nil (gU _),rfl,q⟩
end
end L2
namespace Att
open PySem PySem.W PySem.Calls PyProof.Rows
theorem MY:∀(ns:List Int) (vs:List aD),WellAll P h vs (ns.map WData.int)->IntsAre vs ns:=by
 intro ns
 induction ns with
 | nil =>
  intro vs w;rw[cD] at w;cases w;exact .nil
 | cons n ns ih =>
  intro vs w;rw[aV] at w;cases w with
  | cons a b =>
   cases a;exact .cons _ _ (ih _ b)
theorem Km {l:OpenLaw} {n:Nat} (hn:l.most=some n) {P:Params} {h:Heap} {args:List WData} {vals:List aD}
  (sd:l.row.toRowW.claim.pre args=true) (Z0:WellAll P h vals args) :
  ∃a vs ns,vals=[fX a]/\args=[WData.list (ns.map WData.int)]/\h.get? a=some { cls:=.type "list",data:=.seq vs.toArray }/\IntsAre vs ns/\ns.length<=n:=by
 have hsh:WShape.hasAll [] args [.list .int]=true:=(pre_splitW sd).1;have hc:l.pre.holds [] { args:=args } = true:=(pre_splitW sd).2;obtain⟨d,r,rfl,h1,h2⟩:=hasAllW_cons hsh;obtain rfl:=hasAllW_nil h2;obtain⟨xs,rfl,h3⟩:=hasW_list h1;obtain⟨ns,rfl⟩:=items_int h3;have hlen:ns.length<=n:=by
  unfold OpenLaw.pre at hc;have h4:(WTm.not (.lt (.lit (.int (n:Int))) (.len (.arg 0)))).holds [] { args:=[.list (ns.map .int)] } = true:=by
   have h4:=(holds_andW hc).1;rw[hn] at h4;exact h4
  have h5:=condW_of h4 (w_not (w_lt w_lit (w_len_list (w_arg rfl))));rw[cN] at h5;refine Nat.le_of_not_lt λq=>?_;have q':(n:Int)<((ns.length:Nat):Int):=by lia
  first
   | (rw[decide_eq_true q'] at h5;exact absurd h5 (by decide))
   | (simp at h5;lia)
 cases Z0 with
 | cons w1 w2 =>
  cases w2;cases w1 with
  | list ho cn=>exact⟨_,_,ns,rfl,rfl,ho,MY ns _ cn,hlen⟩
def Kb (l:OpenLaw) (args:List WData):l.row.toRowW.claim.post args (.bool true) args=true :=
 postW_of (r:=l.row.toRowW) (X:=(true == true))
  (show WShape.has [] (.bool true) .bool=true by first | rfl | decide | simp[WShape.has,WShape.arms,WShape.armsAll])
  (show (WTm.eq .res (.lit (.bool true))).value [] { args:=args,res:=some (.bool true),after:=args } = some (.bool (true == true)) from w_eq_bool (w_res rfl) w_lit) rfl
def attach_call {l:OpenLaw} {n:Nat} {q:cE} {loose:List Str} {XP:(Str->Option aD)->Heap->Prop} {YP:dI->Heap->Prop} {d:DefRec}
  (hn:l.most=some n) (yb:d.params.defaults=[])
  (call:∀(w:dI) (s₀ s₁:aG) (mg mb:Str->Option aD) (fa:Addr) (o:Obj) (pm cd doc:aD) (a:Addr) (vs:List aD) (ns:List Int),
   Ground q loose [] XP w s₀ mg mb s₁.heap->YP w s₁.heap ->
   s₁.heap.get? fa=some o->o.data = .func (docDef d.name d.params d.body d.scope pm cd doc)->s₁.heap.CodeRec cd d.name->mg d.name=some (.ref fa) ->
   s₁.heap.get? a=some { cls:=.type "list",data:=.seq vs.toArray }->IntsAre vs ns->ns.length<=n->s₁.gens = #[] ->
   codeAny (model l.prog w) callerA (.call (.ref fa) ⟨[.ref a],[]⟩) (λr s'=>r = .ok (.ret (.bool true))/\OldK s₁.heap s'.heap/\s'.os=s₁.os/\AllBare s'.gens) s₁) :
  WalkO q loose XP YP l.row.toRowW d [] (λf vs=>OO f vs):=by
 intro w s₀ s₁ mg mb G Y fa o pm cd doc dV kV ho hd jx hD wo hg args vals as sd hlay hrd Z0 H_;obtain rfl:dV = .none:=Dflts.none hD yb;obtain rfl:kV = .none:=Dflts.noKw hD;obtain⟨a,vs,ns,rfl,rfl,vh,hints,hlen⟩:=Km hn sd Z0;refine enter_call (uC (call w s₀ s₁ mg mb fa o pm cd doc a vs ns G Y ho (fd_plain hd) jx wo vh hints hlen hg) λr s' hq=>?_);obtain⟨rfl,h2,h3,h4⟩:=hq;exact⟨.inl ⟨.bool true,.bool true,[],rfl,λ_=>rfl,.bool true,Kb l _,λ_=>⟨oF,λ_ hm=>(nomatch hm)⟩⟩,h2,h3,h4⟩
end Att
namespace L2
open PySem PySem.Spec PyProof.Rows
theorem DY:∀{vs:List aD} {ns:List Int},IntsAre vs ns->aq (ns.map V.int) vs
 | _,_,.nil=>.nil
 | _,_,.cons n t h=>.cons ⟨t,rfl⟩ (DY h)
def Qo (H:Hp):Prop:=∀b,H b=none\/∃o xs,H b=some (.frz o (.lst xs))
theorem Nj {P:cE} {w:dI} {K:aI} {mg mb:Str->Option aD} {CX:ql} {k:Nat} {fa a:Addr} {fd:mN} {x:Str} {sp:Sp} {s₁:aG} {vs:List aD} {ns:List Int}
  (KX:K.In s₁.heap) (hns:s₁.heap.Ns mainGlobals mg) (hb:s₁.heap.Ns builtinsNs mb) (hbb:∀x:Str,x≠"__name__"->mb x=bootBuiltins x) (W_:s₁.heap.NoLimit) (hg:s₁.gens = #[])
  (ha:s₁.heap.get? a=some { cls:=.type "list",data:=.seq vs.toArray }) (hi:IntsAre vs ns) (hl:ns.length<=sizeLine) (hr:ck k callerA)
  (F:∀base:Heap,K.In base->base.Ns mainGlobals mg->im P w K mg base CX k fa fd [x] sp) (x8:∀(s:aG) (u:aD),BindsTo s fd ⟨[u],[]⟩ [(x,u)])
  (t9:∀H:Hp,Qo H->g_ K H a (ns.map V.int)->sp [.ref a] H (λv _=>v = .bl true) λ_ _ _=>False)
  (V0:∀H e s',CX [] H s₁ (λ_ _ _=>False) e s'->False) :
  codeAny (model P w) callerA (.call (.ref fa) ⟨[.ref a],[]⟩) (λr s'=>r = .ok (.ret (.bool true))/\OldK s₁.heap s'.heap/\s'.os=s₁.os/\AllBare s'.gens) s₁:=by
 have rv:=DY hi;have lenV:=hi.length;have core:∀H:Hp,Qo H->g_ K H a (ns.map V.int)->ju P w H s₁.heap->(∀b,H b≠none->b=a)->(H a≠none->K.lookup a=none) ->
   codeAny (model P w) callerA (.call (.ref fa) ⟨[.ref a],[]⟩) (λr s'=>r = .ok (.ret (.bool true))/\OldK s₁.heap s'.heap/\s'.os=s₁.os/\AllBare s'.gens) s₁:=by
  intro H hO hS hok hA hK;have n6:∀{b:Addr} {o:Obj},s₁.heap.get? b=some o->H b=none->(WP s₁.heap H).get? b=some o:=λe n=>Nb e n;have zd:∀{b:Addr} {o:Obj} {es:Array DictEntry} {ep:Nat},s₁.heap.get? b=some o->o.data = .dict es ep->H b=none:=λ{b o es ep} e d=>by
   cases q:H b with
   | none=>rfl
   | some u =>
    have e':b=a:=hA b (by rw[q];simp);subst e';rw[ha] at e;cases e;have d':Data.seq vs.toArray _=Data.dict es ep:=d;cases d'
  have OK:∀{b:Addr} {m:Str->Option aD},s₁.heap.Ns b m->(WP s₁.heap H).Ns b m:=λ{b m} ⟨o,es,ep,e,d,r⟩=>⟨o,es,ep,n6 e (zd e d),d,r⟩;have hKb:K.In (WP s₁.heap H):=λb o e=>n6 (KX b o e) (by
   cases q:H b with
   | none=>rfl
   | some u =>
    have e':b=a:=hA b (by rw[q];simp);subst e';rw[hK (by rw[q];simp)] at e;cases e)
  have hM:Mod K mg (WP s₁.heap H):=⟨hKb,OK hns,⟨mb,OK hb,hbb⟩,let ⟨mc,h1,h2⟩:=W_;⟨mc,OK h1,h2⟩⟩;have e0:q_ P w K mg (WP s₁.heap H) callerA [] s₁ H:=⟨rfl,hM,λb o e=>Su e,yL (Ip _ _),trivial,λb hb=>absurd (show b∈([]:List Addr) from hb) (by simp),hok,.of_eq hg⟩;refine uC ((F _ hKb (OK hns)).run callerA [] s₁ H ⟨[.ref a],[]⟩ [.ref a] [.ref a] _ _ hr e0 (x8 s₁ (.ref a)) (.cons rfl .nil) (t9 H hO hS)) λr s' h=>?_;cases r with
  | error e=>exact (V0 H e s' h).elim
  | ok fl =>
   cases fl with
   | next=>exact mZ h
   | brk=>exact mZ h
   | cont=>exact mZ h
   | ret u =>
    obtain⟨v,H',os,bare,un,X8,r',q⟩:=h;have q':v = .bl true:=q;subst q';obtain rfl:u=GE true:=r';refine⟨rfl,OldK.of_keep λb o e=>?_,os,bare⟩;cases q:H b with
    | none=>exact un.keep b o e q (by intro z;exact absurd (show b∈([]:List Addr) from z) (by simp)) (by simp)
    | some u =>
     rcases hO b with z | ⟨ob,xs,z⟩
     ·rw[q] at z;cases z
     ·have z2:=un.frzs b ob _ z;obtain⟨e1,_⟩:=hok b _ z;obtain⟨e2,_⟩:=X8 b _ z2;rw[e] at e1;cases e1;exact e2
 cases hk:K.lookup a with
 | some o =>
  have e:=KX a o hk;rw[ha] at e;cases e;refine core (λ_=>none) (λ_=>.inl rfl) (.inr ⟨_,vs.toArray,_,hk,rfl,rfl,rfl,by rw[aZ,lenV];exact hl,by simpa using rv⟩) (λb u z=>by have z':(none:Option HO)=some u:=z;cases z') (λb z=>absurd rfl z) λz=>absurd rfl z
 | none =>
  refine core (λb=>if b=a then some (.frz { cls:=.type "list",data:=.seq vs.toArray } (.lst (ns.map V.int))) else none) (λb=>?_) (.inl (.inr ⟨{ cls:=.type "list",data:=.seq vs.toArray },if_pos rfl⟩)) (λb u z=>?_) (λb z=>?_) λ_=>hk
  ·by_cases hb:b=a
   ·exact .inr ⟨_,_,if_pos hb⟩
   ·exact .inl (if_neg hb)
  ·by_cases hb:b=a
   ·have z':=(if_pos hb).symm.trans z;cases z';subst hb;exact⟨ha,by rw[cN];exact hl,vs,_,rv,ha⟩
   ·have z':=(if_neg hb).symm.trans z;cases z'
  ·by_cases hb:b=a
   ·exact hb
   ·exact absurd (if_neg hb) z
abbrev KOf {K:aI} {h:Heap} (_:K.In h):aI:=K
def sj {l:MT} {n k:Nat} {q:cE} {loose:List Str} {XP:(Str->Option aD)->Heap->Prop} {YP:dI->Heap->Prop} {d:DefRec} {K:Params->aI} {CX:dI->ql} {sp:dI->Sp} {x:Str}
  (hn:l.most=some n) (hn2:n<=sizeLine) (yb:d.params.defaults=[]) (hr:ck k callerA)
  (hY:∀(w:dI) (h:Heap),YP w h->(K w.params).In h)
  (F:∀(w:dI) (mg:Str->Option aD) (fa:Addr) (h:Heap),(K w.params).In h->h.Ns mainGlobals mg->mg d.name=some (.ref fa) ->
   ∃fd:mN,(∀(s:aG) (u:aD),BindsTo s fd ⟨[u],[]⟩ [(x,u)]) /\
    ∀base:Heap,(K w.params).In base->base.Ns mainGlobals mg->im l.prog w (K w.params) mg base (CX w) k fa fd [x] (sp w))
  (t9:∀(w:dI) (H:Hp) (a:Addr) (ns:List Int),ns.length<=n->Qo H->g_ (K w.params) H a (ns.map V.int)->sp w [.ref a] H (λv _=>v = .bl true) λ_ _ _=>False)
  (V0:∀(w:dI) (H:Hp) (s:aG) (e:aD) (s':aG),CX w [] H s (λ_ _ _=>False) e s'->False) :
  SI q loose XP YP l.row.toRowW d [] (λf vs=>OO f vs):=by
 refine Att.attach_call hn yb λw s₀ s₁ mg mb fa o pm cd doc a vs ns G Y ho hd jx wo vh hints hlen hg=>?_;have KX:=hY w _ Y;obtain⟨fd,hb,hF⟩:=F w mg fa _ KX G.T.g wo;exact Nj KX G.T.g G.T.b G.T.builtins G.T.nolimit hg vh hints (fW hlen hn2) hr hF hb (λH hO hS=>t9 w H a ns hlen hO hS) λH e s'=>V0 w H s₁ e s'
def IK (s:Stmt):Arguments:=match s with
 | .FunctionDef _ a _ _ _ _ _ _ _ _=>a
 | _=>{ posonlyargs:=[],args:=[],vararg:=none,kwonlyargs:=[],kw_defaults:=[],kwarg:=none,defaults:=[] }
def rF (s:Stmt):List Stmt:=match s with
 | .FunctionDef _ _ b _ _ _ _ _ _ _=>b
 | _=>[]
def gK (s:Stmt):Scope:=match s with
 | .FunctionDef _ _ _ _ _ _ sc _ _ _=>sc
 | _=>{ kind:=.function,names:=[],isGenerator:=false,isCoroutine:=false }
abbrev jy:ql:=λ_ _ _ _ _ _=>False
abbrev E0:XK:=λ_ _ _=>False
def Vt:Bx jy X E0:=λ_ _ _ _ _ _ _ h=>h.elim
structure sk (K:aI) (x qual:Str) (st:Stmt) (f:Addr) (fd:mN):Prop where
 ex:∃(oc:aD) (od:Option Addr) (kV doc pm:aD) (an:Option Addr) (cdv ct:aD) (qz:Array (Option aD)),
  fd=pI x qual (IK st) (rF st) (gK st) .none kV doc pm an cdv ct/\K.lookup f=some ⟨oc,od,.func fd,qz⟩/\uW K cdv qual=true
 kp:mT K (.ref f)=true
section
variable {P:cE} {w:dI} {K:aI} {mg:Str->Option aD} {base:Heap}
theorem sk.ok {x qual:Str} {st:Stmt} {f:Addr} {fd:mN} {N ps:List Str} {k:Nat} {sp:Sp} (F:sk K x qual st f fd) (S:f7 N ps (gK st)) (len:∀vs H Q E,sp vs H Q E->vs.length=ps.length)
  (gg:∀(cdv:aD) (A:dJ) (outer:List Env) (s:aG) (H:Hp) (vs:List V) (Q:VK) (E:XK),ck k (A.deeper (envOfC qual (gK st) s.heap.objs.size f cdv))->sp vs H Q E ->
   ∃t,gt (EG jy P w K mg base N qual (gK st) f cdv A outer s H E).nox (rF st) t/\t { nx:=λ_ H'=>Q .non H',rt:=Q } (start N vs) H):im P w K mg base jy (k+1) f fd ps sp:=by
 obtain⟨oc,od,kV,doc,pm,an,cdv,ct,qz,rfl,lk,jx⟩:=F.ex;refine A0 lk jx S len λA outer s H vs Q E hr t9=>?_;obtain⟨t,h,q⟩:=gg cdv A outer s H vs Q E hr t9;exact⟨t,h.nox,q⟩
theorem Wo {x qual:Str} {st:Stmt} {f:Addr} {oc:aD} {od an:Option Addr} {qz:Array (Option aD)} {kV doc pm cdv ct:aD} (l:K.lookup f=some ⟨oc,od,.func (pI x qual (IK st) (rF st) (gK st) .none kV doc pm an cdv ct),qz⟩)
  (c:uW K cdv qual=true) (k:mT K (.ref f)=true):sk K x qual st f (pI x qual (IK st) (rF st) (gK st) .none kV doc pm an cdv ct):=⟨⟨oc,od,kV,doc,pm,an,cdv,ct,qz,rfl,l,c⟩,k⟩
end
section
variable {X:Cx}
theorem pv (i:Nat) {x:Str} {pos:Pos} (hN:X.N[i]? = some x:=by rfl) (hv:p7 X.env.scope x:=by walk_at "vis") (hd:(x == ("__debug__":Str))=false:=by decide)
  (jx:(x == ("__classdict__":Str))=false:=by decide):PE X (.Name x pos) (G3 i):=Xz hN hv hd jx
end
def ag (H H':Hp):Prop:=∀b o,H b=some o->H' b=some o
def ag.refl (H:Hp):ag H H:=λ_ _ h=>h
def ag.trans (a:ag H H1) (b:ag H1 H2):ag H H2:=λc o h=>b c o (a c o h)
theorem ag.free (e:ag H H') (h:H' l=BI):H l=BI:=by
 cases q:H l with
 | none=>rfl
 | some o =>
  rw[e l o q] at h;cases h
end L2
namespace L2.R2
abbrev Pt:=Int × Int
def bT (a b c:Pt):Int:=(b.1-a.1)*(c.2-a.2)-(b.2-a.2)*(c.1-a.1)
def bj (a b:Pt):Prop:=a.1<b.1\/(a.1=b.1/\a.2<b.2)
instance (a b:Pt):Decidable (bj a b):=by unfold bj;infer_instance
def uE:¬bj a a:=λh=>h.elim (mH _) λh=>mH _ h.2
def qQ {a b c:Pt} (h:bj a b) (k:bj b c):bj a c:=by
 rcases h with h | ⟨h,h'⟩
 ·exact cW (k.elim (Int.lt_trans h) λk=>k.1 ▸ h)
 ·exact k.elim (λk=>cW (h ▸ k)) λk=>cV ⟨h.trans k.1,Int.lt_trans h' k.2⟩
def qB (a b:Pt):bj a b\/a=b\/bj b a:=by
 rcases fK a.1 b.1 with h | h | h
 ·exact cW (cW h)
 ·rcases fK a.2 b.2 with k | k | k
  ·exact cW (cV ⟨h,k⟩)
  ·exact cV (cW (lD h k))
  ·exact cV (cV (cV ⟨h.symm,k⟩))
 ·exact cV (cV (cW h))
def uK (h:bj a b):¬bj b a:=λk=>uE (qQ h k)
def LP (x y:Int):Prop:=0<x\/(x=0/\0<y)
def qX (h:bj a b):LP (b.1-a.1) (b.2-a.2):=h.elim (λh=>cW (HI h)) λh=>cV ⟨by rw[h.1,Int.sub_self],HI h.2⟩
def OJ (h:LP x y) (k:LP x' y'):LP (x+x') (y+y'):=by
 rcases h with h | ⟨rfl,h'⟩ <;> rcases k with k | ⟨rfl,k'⟩
 ·exact cW (Int.add_pos h k)
 ·exact cW (by rw[tW];exact h)
 ·exact cW (by rw[Int.zero_add];exact k)
 ·exact cV ⟨rfl,Int.add_pos h' k'⟩
def tY (hk:0<k) (h:LP x y):LP (k*x) (k*y):=by
 unfold LP at *;rcases h with h | ⟨h,h'⟩
 ·exact cW (aL hk h)
 ·exact cV ⟨by rw[h,pE],aL hk h'⟩
def Fh (hk:0<=k) (h:LP x y) (h0:LP z w):LP (z+k*x) (w+k*y):=by
 rcases jR hk with h' | rfl
 ·exact OJ h0 (tY h' h)
 ·rw[qW,qW,tW,tW];exact h0
def Ux (h:LP 0 0):False:=h.elim (mH _) λh=>mH _ h.2
def Bw (h:LP x y) (hk:LP (k*x) (k*y)):0<k:=by
 unfold LP at *;rcases h with h | ⟨h,h'⟩
 ·rcases hk with hk | ⟨hk,_⟩
  ·exact iJ hk h |> λh=>h
  ·rcases sY.mp hk with e | e
   ·subst e;simp at *;
   ·lia
 ·subst h;rcases hk with hk | ⟨_,hk⟩
  ·simp at hk
  ·exact iJ hk h'
def VT (hu:LP ux uy) (hv:LP vx vy) (hw:LP wx wy) (h:0<ux*vy-uy*vx) (k:0<vx*wy-vy*wx) :
  0<ux*(vy+wy)-uy*(vx+wx)/\0<(ux+vx)*wy-(uy+vy)*wx:=by
 constructor
 ·refine Bw hv (?_:LP _ _);have:=OJ (tY h (OJ hv hw)) (tY k hu);have e1:(ux*(vy+wy)-uy*(vx+wx))*vx=(ux*vy-uy*vx)*(vx+wx)+(vx*wy-vy*wx)*ux:=by grind
  have e2:(ux*(vy+wy)-uy*(vx+wx))*vy=(ux*vy-uy*vx)*(vy+wy)+(vx*wy-vy*wx)*uy:=by grind
  rw[e1,e2];exact this
 ·refine Bw hv (?_:LP _ _);have:=OJ (tY h hw) (tY k (OJ hu hv));have e1:((ux+vx)*wy-(uy+vy)*wx)*vx=(ux*vy-uy*vx)*wx+(vx*wy-vy*wx)*(ux+vx):=by grind
  have e2:((ux+vx)*wy-(uy+vy)*wx)*vy=(ux*vy-uy*vx)*wy+(vx*wy-vy*wx)*(uy+vy):=by grind
  rw[e1,e2];exact this
def Bn {a b c d:Pt} (ab:bj a b) (bc:bj b c) (cd:bj c d) (h:0<bT a b c) (k:0<bT b c d):0<bT a b d/\0<bT a c d:=by
 have:=VT (qX ab) (qX bc) (qX cd) (by unfold bT at h;grind) (by unfold bT at k;grind);unfold bT;constructor
 ·have:=this.1;grind
 ·have:=this.2;grind
def Uk (A:LP ax ay) (P:LP px py) (V:LP vx vy) (hc:0<ux*vy-uy*vx) (m0:0<=-(ux*ay-uy*ax)) (x0:0<=ax*vy-ay*vx) (y0:0<=ux*py-uy*px) (n0:0<=vx*py-vy*px):0<ax*py-ay*px:=by
 have CA:=tY hc A;have S:=Fh m0 V CA;rw[show (ux*vy-uy*vx)*ax + -(ux*ay-uy*ax)*vx=(ax*vy-ay*vx)*ux by grind,show (ux*vy-uy*vx)*ay + -(ux*ay-uy*ax)*vy=(ax*vy-ay*vx)*uy by grind] at S;have hx:0<ax*vy-ay*vx:=by
  rcases jR x0 with h | h
  ·exact h
  ·rw[<-h,qW,qW] at S;exact (Ux S).elim
 have T:=Fh n0 CA (tY hx (tY hc P));rw[show (ax*vy-ay*vx)*((ux*vy-uy*vx)*px)+(vx*py-vy*px)*((ux*vy-uy*vx)*ax)=((ax*py-ay*px)*(ux*vy-uy*vx))*vx by grind,show (ax*vy-ay*vx)*((ux*vy-uy*vx)*py)+(vx*py-vy*px)*((ux*vy-uy*vx)*ay)=((ax*py-ay*px)*(ux*vy-uy*vx))*vy by grind] at T;exact iJ (Bw V T) hc
def Bq (h0:bj b c0) (ha:bj a b) (hp:bj b p) (hc:0<bT a0 b c0) (h1:0<=bT a0 b a) (h2:0<=bT b c0 a) (h3:0<=bT a0 b p) (h4:0<=bT b c0 p):0<bT a b p:=by
 have A:=qX ha;have P:=qX hp;have U2:=qX h0;have k7:0<(b.1-a0.1)*(c0.2-b.2)-(b.2-a0.2)*(c0.1-b.1):=by
  have e:bT a0 b c0=(b.1-a0.1)*(c0.2-b.2)-(b.2-a0.2)*(c0.1-b.1):=by { unfold bT;grind }
  rw[<-e];exact hc
 have m0:0<=-((b.1-a0.1)*(b.2-a.2)-(b.2-a0.2)*(b.1-a.1)):=by
  have e:bT a0 b a = -((b.1-a0.1)*(b.2-a.2)-(b.2-a0.2)*(b.1-a.1)):=by unfold bT;grind
  rw[<-e];exact h1
 have x0:0<=(b.1-a.1)*(c0.2-b.2)-(b.2-a.2)*(c0.1-b.1):=by
  have e:bT b c0 a=(b.1-a.1)*(c0.2-b.2)-(b.2-a.2)*(c0.1-b.1):=by unfold bT;grind
  rw[<-e];exact h2
 have y0:0<=(b.1-a0.1)*(p.2-b.2)-(b.2-a0.2)*(p.1-b.1):=by
  have e:bT a0 b p=(b.1-a0.1)*(p.2-b.2)-(b.2-a0.2)*(p.1-b.1):=by unfold bT;grind
  rw[<-e];exact h3
 have n0:0<=(c0.1-b.1)*(p.2-b.2)-(c0.2-b.2)*(p.1-b.1):=by
  have e:bT b c0 p=(c0.1-b.1)*(p.2-b.2)-(c0.2-b.2)*(p.1-b.1):=by unfold bT;grind
  rw[<-e];exact h4
 have goal:bT a b p=(b.1-a.1)*(p.2-b.2)-(b.2-a.2)*(p.1-b.1):=by unfold bT;grind
 rw[goal];exact Uk A P U2 k7 m0 x0 y0 n0
def kC (p:Pt):List Pt->List Pt
 | b::a::r=>if bT a b p<=0 then kC p (a::r) else b::a::r
 | s=>s
def kU (L:List Pt):List Pt:=L.foldl (λs p=>p::kC p s) []
def kw (s:List Pt):Prop:=s.Pairwise λx y=>bj y x
def gw (s:List Pt):Prop:=s.Pairwise bj
def wb (s:List Pt):Prop:=∀c b a,[c,b,a].Sublist s->0<bT a b c
def Seen (p:Pt) (s:List Pt):Prop:=∀b a,[b,a].Sublist s->0<bT a b p
theorem ME (p:Pt):∀s,∃l,s=l++kC p s
 | []=>⟨[],rfl⟩
 | [_]=>⟨[],rfl⟩
 | b::a::r=>by
  unfold kC;split
  ·obtain⟨l,e⟩:=ME p (a::r);exact⟨b::l,by rw[aY,<-e]⟩
  ·exact⟨[],rfl⟩
def xR (p:Pt) (s:List Pt):(kC p s).Sublist s:=by
 obtain⟨l,e⟩:=ME p s
 conv=>rhs;rw[e]
 exact List.sublist_append_right _ _
theorem Ha (p:Pt):∀s,s≠[]->kC p s≠[]
 | [],h=>h
 | [_],_=>by simp[kC]
 | b::a::r,_=>by
  unfold kC;split
  ·exact Ha p (a::r) (by simp)
  ·simp
theorem Al (p:Pt):∀s b a r,kC p s=b::a::r->0<bT a b p
 | [],_,_,_,h=>by simp[kC] at h
 | [_],_,_,_,h=>by simp[kC] at h
 | b'::a'::r',b,a,r,h=>by
  unfold kC at h;split at h
  ·exact Al p (a'::r') b a r h
  ·rename_i hn;cases h;lia
def kw.mem {s:List Pt} (h:kw (b::r)) (ha:a∈r):bj a b:=(cH.mp h).1 a ha
theorem N0 {α:Type} {b a b0:α} {r:List α} (h:[b,a].Sublist (b0::r)):(b=b0/\a∈r)\/[b,a].Sublist r:=by
 cases h with
 | cons _ h=>exact cV h
 | cons_cons _ h=>exact cW ⟨rfl,by simpa using h⟩
def Bg (d:kw (b0::a0::r)) (t:wb (b0::a0::r)) (hp:bj b0 p) (h:0<bT a0 b0 p):Seen p (b0::a0::r):=by
 have top:∀a,a∈a0::r->0<bT a b0 p:=by
  intro a ha;rcases aO.mp ha with rfl | ha
  ·exact h
  ·have t1:0<bT a a0 b0:=t b0 a0 a (by simpa using ha);exact (Bn (kw.mem (s:=[]) (cH.mp d).2 ha) (kw.mem (s:=[]) d (by simp)) hp t1 h).2
 intro b a hs;rcases N0 hs with ⟨rfl,ha⟩ | hs
 ·exact top a ha
 ·have hb:b∈a0::r:=hs.subset (by simp);have t1:0<bT a b b0:=t b0 b a (hs.cons_cons b0);have c8:bj a b:=by
   have d':kw [b,a]:=lJ hs (cH.mp d).2;exact (cH.mp d').1 a (by simp)
  exact (Bn c8 (kw.mem (s:=[]) d hb) hp t1 (top b hb)).1
theorem Ua (d:kw s) (t:wb s) (hp:∀q∈s,bj q p):kw (p::kC p s)/\wb (p::kC p s):=by
 have hs:=xR p s;have d':kw (kC p s):=lJ hs d;have t':wb (kC p s):=λc b a h=>t c b a (h.trans hs);have kr:∀q∈kC p s,bj q p:=λq hq=>hp q (hs.subset hq);have sn:Seen p (kC p s):=by
  generalize e:kC p s=u at *
  match u,e with
  | [],_=>intro b a h;cases h
  | [x],_=>intro b a h;have:=h.length_le;simp at this
  | b::a::r,e=>exact Bg d' t' (kr b (by simp)) (Al p s b a r e)
 refine⟨cH.mpr ⟨kr,d'⟩,?_⟩;intro c b a h;cases h with
 | cons _ h=>exact t' c b a h
 | cons_cons _ h=>exact sn b a h
structure dq (L C:List Pt):Prop where
 inc:gw C
 mem:∀q∈C,q∈L
 first:∀q∈L,∀c r,C=c::r->¬bj q c
 last:∀q∈L,∀c l,C=l++[c]->¬bj c q
 side:∀l a b r,C=l++a::b::r->∀q∈L,0<=bT a b q
 bend:∀l a b c r,C=l++a::b::c::r->0<bT a b c
def dq.vertex (H:dq L C) (hb:b∈C) (ha:a∈L) (hp:p∈L) (ab:bj a b) (bp:bj b p):0<bT a b p:=by
 obtain⟨l,r,e⟩:=nD hb;rcases fG l with rfl | ⟨l',a0,rfl⟩
 ·exact absurd ab (H.first a ha b r e)
 ·match r with
  | []=>exact absurd bp (H.last p hp b _ e)
  | c0::r' =>
   have e1:C=l'++a0::b::c0::r':=(by simpa using e);have e2:C=(l'++[a0])++b::c0::r':=(by simpa using e);have i:=H.inc;rw[e2] at i;have bc:bj b c0:=(cH.mp (kA.mp i).2.1).1 c0 (by simp);exact Bq bc ab bp (H.bend _ _ _ _ _ e1) (H.side _ _ _ _ e1 a ha) (H.side _ _ _ _ e2 a ha) (H.side _ _ _ _ e1 p hp) (H.side _ _ _ _ e2 p hp)
theorem UW (H:dq L C) (hp:p∈L):∀s,kw s->(∀q∈s,q∈L)->(∀q∈s,bj q p)->∀c∈C,c∈s->c∈kC p s
 | [],_,_,_,_,_,h=>h
 | [_],_,_,_,_,_,h=>h
 | b::a::r,d,m,lt,c,hc,h=>by
  unfold kC;split
  ·rename_i ht;rcases aO.mp h with rfl | h
   ·exact absurd (H.vertex hc (m a (by simp)) hp (kw.mem (s:=[]) d (by simp)) (lt _ (by simp))) (by lia)
   ·exact UW H hp (a::r) (cH.mp d).2 (λq hq=>m q (bQ _ hq)) (λq hq=>lt q (bQ _ hq)) c hc h
  ·exact h
theorem Hu (H:dq L C):∀(R:List Pt) (s:List Pt),(∀q∈R,q∈L)->gw R->kw s->wb s->(∀q∈s,q∈L)->(∀q∈s,∀p∈R,bj q p)->(∀c∈C,c∈s\/c∈R) ->
  let S:=R.foldl (λs p=>p::kC p s) s
  kw S/\wb S/\(∀q∈S,q∈L)/\(∀c∈C,c∈S)
 | [],s,_,_,d,t,m,_,hc=>⟨d,t,m,λc h=>by simpa using hc c h⟩
 | p::R,s,hR,i,d,t,m,lt,hc=>by
  have ok:=Ua d t (p:=p) (λq hq=>lt q hq p (by simp));refine Hu H R (p::kC p s) (λq hq=>hR q (bQ _ hq)) (cH.mp i).2 ok.1 ok.2 ?_ ?_ ?_
  ·intro q hq;rcases aO.mp hq with rfl | hq
   ·exact hR _ (by simp)
   ·exact m q ((xR p s).subset hq)
  ·intro q hq r hr;rcases aO.mp hq with rfl | hq
   ·exact (cH.mp i).1 r hr
   ·exact lt q ((xR p s).subset hq) r (bQ _ hr)
  ·intro c ya;rcases hc c ya with h | h
   ·exact cW (bQ _ (UW H (hR p (by simp)) s d m (λq hq=>lt q hq p (by simp)) c ya h))
   ·rcases aO.mp h with rfl | h
    ·exact cW (by simp)
    ·exact cV h
theorem NR:∀(C:List Pt) (t:Pt),t ∉ C->(∃c∈C,bj c t)->(∃d∈C,bj t d)->gw C->∃l c d r,C=l++c::d::r/\bj c t/\bj t d
 | [],_,_,⟨_,h,_⟩,_,_=>by cases h
 | [x],t,_,⟨c,hc,h⟩,⟨d,hd,k⟩,_=>by
  simp at hc hd;subst hc;subst hd;exact absurd k (uK h)
 | x::y::r,t,ht,⟨c,hc,h⟩,⟨d,hd,k⟩,i=>by
  have hxt:bj x t:=by
   rcases aO.mp hc with rfl | hc
   ·exact h
   ·exact qQ ((cH.mp i).1 c hc) h
  rcases qB y t with hy | rfl | hy
  ·have u_:d∈y::r:=by
    rcases aO.mp hd with rfl | hd
    ·exact absurd k (uK hxt)
    ·exact hd
   obtain⟨l,c',d',r',e,h1,h2⟩:=NR (y::r) t (λh=>ht (bQ _ h)) ⟨y,by simp,hy⟩ ⟨d,u_,k⟩ (cH.mp i).2;exact⟨x::l,c',d',r',by rw[e];rfl,h1,h2⟩
  ·simp at ht
  ·exact⟨[],x,y,r,rfl,hxt,hy⟩
theorem WR:∀(A B:List Pt),gw A->gw B->(∀q,q∈A↔q∈B)->A=B
 | [],[],_,_,_=>rfl
 | [],b::B,_,_,h=>absurd ((h b).mpr (by simp)) (by simp)
 | a::A,[],_,_,h=>absurd ((h a).mp (by simp)) (by simp)
 | a::A,b::B,ia,ib,h=>by
  have vv:=cH.mp ia;have ua:=cH.mp ib;have e:a=b:=by
   rcases aO.mp ((h a).mp (by simp)) with e | ha
   ·exact e
   ·rcases aO.mp ((h b).mpr (by simp)) with e | hb
    ·exact e.symm
    ·exact absurd (ua.1 a ha) (uK (vv.1 b hb))
  subst e;congr 1;refine WR A B vv.2 ua.2 λq=>⟨λhq=>?_,λhq=>?_⟩
  ·rcases aO.mp ((h q).mp (bQ _ hq)) with rfl | h'
   ·exact absurd (vv.1 q hq) uE
   ·exact h'
  ·rcases aO.mp ((h q).mpr (bQ _ hq)) with rfl | h'
   ·exact absurd (ua.1 q hq) uE
   ·exact h'
theorem Rv (A B:List Pt) (ia:gw A) (ib:gw B) (h:∀x∈A,x∈B):A.Sublist B:=by
 induction B generalizing A with
 | nil =>
  cases A with
  | nil=>exact HJ _
  | cons a A=>cases h a (.head _)
 | cons b B ih =>
  cases A with
  | nil=>exact List.nil_sublist _
  | cons a A =>
   have vv:=cH.mp ia;have ua:=cH.mp ib;rcases aO.mp (h a (.head _)) with rfl | ha
   ·exact (ih A vv.2 ua.2 λx hx=>(aO.mp (h x (.tail _ hx))).resolve_left λe=>uE (e ▸ vv.1 x hx)).cons_cons a
   ·refine (ih (a::A) ia ua.2 λx hx=>(aO.mp (h x hx)).resolve_left λe=>?_).cons b;rcases aO.mp hx with k | hx
    ·exact uE (k ▸ e ▸ ua.1 a ha)
    ·exact uK (vv.1 x hx) (e ▸ ua.1 a ha)
def ZH (iL:gw L) (H:dq L C) (gm:C≠[]):(kU L).reverse=C:=by
 obtain⟨d,t,m,k⟩:=Hu H L [] (λ_ h=>h) iL oF (λ_ _ _ h=>by cases h) (λ_ h=>by cases h) (λ_ h=>by cases h) (λc hc=>cV (H.mem c hc));have inc:gw (kU L).reverse:=nZ.mpr d;refine WR _ _ inc H.inc λq=>⟨λhq=>?_,λhq=>pG.mpr (k q hq)⟩;apply Decidable.byContradiction;intro hn;have vm:q∈kU L:=pG.mp hq;have hL:=m q vm;have h1:∃c∈C,bj c q:=by
  match C,gm with
  | c::r,_ =>
   refine⟨c,by simp,?_⟩;rcases qB c q with h | rfl | h
   ·exact h
   ·simp at hn
   ·exact absurd h (H.first q hL c r rfl)
 have h2:∃d∈C,bj q d:=by
  rcases fG C with e | ⟨l,c,e⟩
  ·exact absurd e gm
  ·refine⟨c,by simp[e],?_⟩;rcases qB q c with h | rfl | h
   ·exact h
   ·simp[e] at hn
   ·exact absurd h (H.last q hL c l (by simpa using e))
 obtain⟨l,c,e,r,eC,hc,he⟩:=NR C q hn h1 h2 H.inc;have hs:[e,q,c].Sublist (kU L):=by
  have i3:gw [c,q,e]:=by
   exact .cons (λx hx=>(aO.mp hx).elim (λe=>e ▸ hc) λh=>dY.mp h ▸ qQ hc he) (.cons (λx hx=>dY.mp hx ▸ he) (.cons (λx hx=>by cases hx) .nil))
  have:[c,q,e].Sublist (kU L).reverse:=by
   refine Rv _ _ i3 inc λx hx=>?_;rw[pG];rcases aO.mp hx with rfl | hx
   ·exact k _ (eC ▸ bP _ (.head _))
   ·rcases aO.mp hx with rfl | hx
    ·exact vm
    ·exact k _ (dY.mp hx ▸ eC ▸ bP _ (.tail _ (.head _)))
  simpa using this.reverse
 have t1:=t e q c hs;have t2:=H.side l c e r eC q hL;have:bT c e q = - bT c q e:=by unfold bT;grind
 lia
namespace K33
end K33
abbrev Zl:=Pt × Pt
def wid (s:Zl):Int:=s.2.1-s.1.1
def hB (B:Int) (s:Zl) (t:Int):Int:=(s.1.2*wid s+(s.2.2-s.1.2)*(t-s.1.1))*B.fdiv (wid s)
def jW (p:Pt):Pt:=(-p.1,-p.2)
def CB (p:Pt):jW (jW p)=p:=by unfold jW;simp
def uL (a b c:Pt):bT (jW a) (jW b) (jW c)=bT a b c:=by unfold bT jW;grind
def zB:bj (jW a) (jW b)↔bj b a:=or_congr FR (and_congr (Int.neg_inj.trans eq_comm) FR)
theorem Ak (p:Pt):∀s,kC (jW p) (s.map jW)=(kC p s).map jW
 | []=>rfl
 | [_]=>rfl
 | b::a::r=>by
  have ih:=Ak p (a::r);simp only[aV] at ih ⊢;rw[kC,kC,uL];split
  ·exact ih
  ·rfl
theorem Bs:∀(L s:List Pt),(L.map jW).foldl (λs p=>p::kC p s) (s.map jW)=(L.foldl (λs p=>p::kC p s) s).map jW
 | [],_=>rfl
 | p::L,s=>by
  simp only[aV,pZ];rw[Ak,<-aV];exact Bs L (p::kC p s)
def PU (L:List Pt):kU (L.map jW)=(kU L).map jW:=Bs L []
def GK (h:kw L):gw (L.map jW):=by
 unfold gw;rw[oG];exact h.imp λk=>zB.mpr k
def Ru (iL:gw L) (H:dq (L.map jW) (C.map jW)) (gm:C≠[]):(kU L.reverse).reverse=C:=by
 have i1:gw (L.reverse.map jW):=GK (nZ.mpr iL);have H':dq (L.reverse.map jW) (C.map jW):=by
  have m:∀q,q∈L.reverse.map jW↔q∈L.map jW:=by intro q;simp
  exact⟨H.inc,λq h=>(m q).mpr (H.mem q h),λq h=>H.first q ((m q).mp h),λq h=>H.last q ((m q).mp h),λl a b r e q h=>H.side l a b r e q ((m q).mp h),H.bend⟩
 have:=ZH i1 H' (by simpa using gm);rw[PU,<-JX] at this;have k:=congrArg (uT jW) this;rw[dN,dN] at k;have e:jW ∘ jW=id:=by funext p;exact CB p
 rwa [e,oO,oO] at k
def Sn (A:LP ax ay) (V:LP vx vy) (U:LP ux uy) (hc:0<ux*vy-uy*vx) (k1:0<=vx*ay-vy*ax) (k2:0<=-(ux*ay-uy*ax)):False:=by
 have S:=Fh k2 V (Fh k1 U (tY hc A));rw[show (ux*vy-uy*vx)*ax+(vx*ay-vy*ax)*ux + -(ux*ay-uy*ax)*vx=0 by grind,show (ux*vy-uy*vx)*ay+(vx*ay-vy*ax)*uy + -(ux*ay-uy*ax)*vy=0 by grind] at S;exact Ux S
def KW {a b c q:Pt} (ba:bj b a) (bc:bj b c) (h:0<bT a b c) (h1:0<=bT a b q) (h2:0<=bT b c q):¬bj q b:=by
 intro hq;have A:=qX hq;have V:=qX ba;have U:=qX bc;have hc:0<(c.1-b.1)*(a.2-b.2)-(c.2-b.2)*(a.1-b.1):=by
  have e:bT a b c=(c.1-b.1)*(a.2-b.2)-(c.2-b.2)*(a.1-b.1):=by unfold bT;grind
  rw[<-e];exact h
 have k1:0<=(a.1-b.1)*(b.2-q.2)-(a.2-b.2)*(b.1-q.1):=by
  have e:bT a b q=(a.1-b.1)*(b.2-q.2)-(a.2-b.2)*(b.1-q.1):=by unfold bT;grind
  rw[<-e];exact h1
 have k2:0<=-((c.1-b.1)*(b.2-q.2)-(c.2-b.2)*(b.1-q.1)):=by
  have e:bT b c q = -((c.1-b.1)*(b.2-q.2)-(c.2-b.2)*(b.1-q.1)):=by unfold bT;grind
  rw[<-e];exact h2
 exact Sn A V U hc k1 k2
def Jj {a b c q:Pt} (ab:bj a b) (cb:bj c b) (h:0<bT a b c) (h1:0<=bT a b q) (h2:0<=bT b c q):¬bj b q:=λhq =>
 KW (zB.mpr ab) (zB.mpr cb) (by rw[uL];exact h) (by rw[uL];exact h1) (by rw[uL];exact h2) (zB.mpr hq)
def Ld (R:List Pt):Prop:=∀l a b c s,R=l++a::b::c::s->¬(bj b a/\bj b c)
def Le (R:List Pt):Prop:=∀l a b s,R=l++a::b::s->a≠b
theorem YW:∀(s:List Pt) (a b:Pt),bj b a->Ld (a::b::s)->Le (a::b::s)->kw (a::b::s)
 | [],a,b,h,_,_=>by simp only[kw,cH,aO,gB,or_false];exact⟨λx e=>e ▸ h,by simp⟩
 | c::s,a,b,h,nd,nr=>by
  have hc:bj c b:=by
   rcases qB c b with h' | h' | h'
   ·exact h'
   ·exact absurd h'.symm (nr [a] b c s rfl)
   ·exact absurd ⟨h,h'⟩ (nd [] a b c s rfl)
  have ih:=YW s b c hc (λl x y z w e=>nd (a::l) x y z w (by rw[e];rfl)) (λl x y w e=>nr (a::l) x y w (by rw[e];rfl));refine cH.mpr ⟨λq hq=>?_,ih⟩;rcases aO.mp hq with rfl | hq
  ·exact h
  ·exact qQ ((cH.mp ih).1 q hq) h
theorem ZY:∀(R:List Pt),R≠[]->Ld R->Le R->∃A m B,R=A++m::B/\gw (A++[m])/\kw (m::B)
 | [],h,_,_=>absurd rfl h
 | [x],_,_,_=>⟨[],x,[],rfl,by simp[gw],by simp[kw]⟩
 | a::b::s,_,nd,nr=>by
  rcases qB a b with h | h | h
  ·obtain⟨A,m,B,e,i,d⟩:=ZY (b::s) (by simp) (λl x y z w e=>nd (a::l) x y z w (by rw[e];rfl)) (λl x y w e=>nr (a::l) x y w (by rw[e];rfl));refine⟨a::A,m,B,by rw[e];rfl,?_,d⟩;refine cH.mpr ⟨λq hq=>?_,i⟩;have hb:q=b\/bj b q:=by
    match A,e,i,hq with
    | [],e,i,hq=>simp at hq;simp at e;exact cW (hq.trans e.1.symm)
    | x::A,e,i,hq =>
     simp at e;obtain⟨rfl,e⟩:=e;rcases aO.mp hq with rfl | hq
     ·exact cW rfl
     ·exact cV ((cH.mp i).1 q hq)
   rcases hb with rfl | hb
   ·exact h
   ·exact qQ h hb
  ·exact absurd h (nr [] a b s rfl)
  ·exact⟨[],a,b::s,rfl,by simp[gw],YW s a b h nd nr⟩
structure ou (L:List Pt) (z y:Pt) (t:List Pt):Prop where
 mem:∀q∈z::y::t,q∈L
 least:∀q∈y::t,bj z q
 side:∀l a b r,(z::y::t)++[z]=l++a::b::r->∀q∈L,0<=bT a b q
 bend:∀l a b c r,(z::y::t)++[z,y]=l++a::b::c::r->0<bT a b c
def Hs {a b c:Pt} (h:0<bT a b c):a≠b/\b≠c:=by
 constructor <;> rintro rfl <;> unfold bT at h <;> grind
def tN (L:List Pt):List Pt:=(kU L).reverse.dropLast
theorem Iq {z b a c:Pt} (e:(z::T)++[z]=l++a::b::c::s):b∈T:=by
 have h:((z::T)++[z]).dropLast=(l++a::b::c::s).dropLast:=congrArg SH e;have h2:(l++a::b::c::s).dropLast=(l++[a])++(b::(c::s).dropLast):=by
  have:l++a::b::c::s=(l++[a,b])++(c::s):=by simp
  rw[this,List.dropLast_append_of_ne_nil (by simp)];simp
 rw[jX,h2] at h;cases l with
 | nil=>simp at h;rw[h.2];simp
 | cons l0 l=>simp at h;rw[h.2];simp
def Kl (iL:gw L) (H:ou L z y t):tN L++tN L.reverse=z::y::t:=by
 have zt:bj z y:=H.least y (by simp);have l9:∀l a b c s,(z::y::t)++[z]=l++a::b::c::s->0<bT a b c:=by
  intro l a b c s e;refine H.bend l a b c (s++[y]) ?_;have:(z::y::t)++[z,y]=((z::y::t)++[z])++[y]:=by simp
  rw[this,e];simp
 have rep:Le ((z::y::t)++[z]):=by
  intro l a b s e
  match s with
  | c::s=>exact (Hs (l9 l a b c s e)).1
  | [] =>
   have:(z::y::t)++[z,y]=l++a::b::[y]:=by
    have:(z::y::t)++[z,y]=((z::y::t)++[z])++[y]:=(by simp);rw[this,e];simp
   exact (Hs (H.bend l a b y [] this)).1
 have y7:∀q∈(z::y::t)++[z],q∈L:=by
  intro q hq;rcases cS.mp hq with h | h
  ·exact H.mem q h
  ·simp at h;subst h;exact H.mem _ (by simp)
 have hz:z∈L:=H.mem z (by simp);have dip:Ld ((z::y::t)++[z]):=by
  intro l a b c s e ⟨h1,h2⟩;have nb:=KW h1 h2 (l9 l a b c s e) (H.side l a b (c::s) e z hz) (H.side (l++[a]) b c s (by rw[e];simp) z hz);exact nb (H.least b (Iq e))
 obtain⟨A,m,B,e,iA,dB⟩:=ZY _ (by simp) dip rep;have hA:∃A',A=z::A':=by
  match A,e with
  | [],e =>
   exfalso;simp at e;obtain⟨rfl,e5⟩:=e;have hy:y∈B:=(by rw[<-e5];simp);exact uK zt ((cH.mp dB).1 y hy)
  | x::A',e=>simp at e;exact⟨A',by rw[e.1]⟩
 obtain⟨A',rfl⟩:=hA;have hB:∃B',B=B'++[z]:=by
  rcases fG B with rfl | ⟨B',x,rfl⟩
  ·exfalso;have e':(z::y::t)++[z]=(z::A')++[m]:=e;have:=gY e' rfl;simp at this;subst this;exact uE ((cH.mp iA).1 z (by simp))
  ·have e':(z::y::t)++[z]=(z::A'++m::B')++[x]:=(by rw[e];simp);have:=gY e' rfl;simp at this;exact⟨B',by rw[this];simp⟩
 obtain⟨B',rfl⟩:=hB;have e2:(z::y::t)++[z]=(z::A'++m::B')++[z]:=by rw[e];simp
 have er:z::y::t=z::A'++m::B':=lK e2 rfl;have y8:∀q∈L,¬bj q z:=by
  intro q hq;rcases fG (y::t) with h | ⟨u,x,hu⟩
  ·simp at h
  ·have e3:(z::y::t)++[z,y]=(z::u)++x::z::y::[]:=(by rw[hu];simp);have hx:bj z x:=H.least x (by rw[hu];simp);exact KW hx zt (H.bend _ _ _ _ _ e3) (H.side (z::u) x z [] (by rw[hu];simp) q hq) (H.side [] z y (t++[z]) (by simp) q hq)
 have yy:∀q∈L,¬bj m q:=by
  intro q hq;rcases fG (z::A') with h | ⟨u,x,hu⟩
  ·simp at h
  ·have hxm:bj x m:=by
    have iA':=iA;rw[hu] at iA';exact (kA.mp iA').2.2 x (by simp) m (by simp)
   match hB':B'++[z],dB with
   | [],_=>simp at hB'
   | c::s,dB =>
    have e3:(z::y::t)++[z]=u++x::m::c::s:=(by rw[e,<-hB',hu];simp);have hcm:bj c m:=by
     exact (cH.mp dB).1 c (by simp)
    exact Jj hxm hcm (l9 _ _ _ _ _ e3) (H.side _ _ _ _ e3 q hq) (H.side (u++[x]) m c s (by rw[e3];simp) q hq)
 have low:dq L (z::A'++[m]):=by
  refine⟨iA,λq hq=>y7 q ?_,λq hq c r ec=>?_,λq hq c l ec=>?_,λl a b r ec q hq=>?_,λl a b c r ec=>?_⟩
  ·rw[e];simp at hq ⊢;rcases hq with h | h | h <;> simp[h]
  ·simp at ec;rw[<-ec.1];exact y8 q hq
  ·have:=gY ec rfl;simp at this;rw[<-this];exact yy q hq
  ·refine H.side l a b (r++(B'++[z])) ?_ q hq;have:z::A'++m::(B'++[z])=(z::A'++[m])++(B'++[z]):=(by simp);rw[e,this,ec];simp
  ·refine l9 l a b c (r++(B'++[z])) ?_;have:z::A'++m::(B'++[z])=(z::A'++[m])++(B'++[z]):=(by simp);rw[e,this,ec];simp
 have m9:∀q∈L.map jW,∃p∈L,q=jW p:=by
  intro q hq;obtain⟨p,hp,rfl⟩:=bJ.mp hq;exact⟨p,hp,rfl⟩
 have eN:∀(X Y:List Pt),X.map jW=Y->X=Y.map jW:=by
  rintro X Y rfl;rw[dN];have e:jW ∘ jW=id:=by funext p;exact CB p
  rw[e,oO]
 have up:dq (L.map jW) ((m::(B'++[z])).map jW):=by
  refine⟨GK dB,λq hq=>?_,λq hq c r ec=>?_,λq hq c l ec=>?_,λl a b r ec q hq=>?_,λl a b c r ec=>?_⟩
  ·obtain⟨p,hp,rfl⟩:=bJ.mp hq;refine dP (y7 p ?_);rw[e];exact bP _ hp
  ·obtain⟨p,hp,rfl⟩:=m9 q hq;simp at ec;rw[<-ec.1,zB];exact yy p hp
  ·obtain⟨p,hp,rfl⟩:=m9 q hq;have rk:(m::B').map jW++[jW z]=l++[c]:=(by simpa using ec);have:=gY rk rfl;simp at this;rw[<-this,zB];exact y8 p hp
  ·obtain⟨p,hp,rfl⟩:=m9 q hq;have rk:=eN _ _ ec;simp only[dM,aV] at rk;have:=H.side (z::A'++l.map jW) (jW a) (jW b) (r.map jW) (by rw[e,rk];simp) p hp;rw[<-uL,CB,CB] at this;exact this
  ·have rk:=eN _ _ ec;simp only[dM,aV] at rk;have:=l9 (z::A'++l.map jW) (jW a) (jW b) (jW c) (r.map jW) (by rw[e,rk];simp);rw[uL] at this;exact this
 have h1:=ZH iL low (by simp);have h2:=Ru iL up (by simp);unfold tN;rw[h1,h2,er];have:m::(B'++[z])=(m::B')++[z]:=by simp
 rw[this,jX,jX]
def Bz (L:List Pt):Prop:=L.Pairwise λx y=>¬bj y x
theorem UV (p:Pt):∀s,kC p (kC p s)=kC p s
 | []=>rfl
 | [_]=>rfl
 | b::a::r=>by
  by_cases h:bT a b p<=0
  ·rw[kC,if_pos h];exact UV p (a::r)
  ·have e:kC p (b::a::r)=b::a::r:=(by rw[kC,if_neg h]);rw[e,e]
def Ks (a p:Pt):bT a p p<=0:=by
 unfold bT;have:(p.1-a.1)*(p.2-a.2)-(p.2-a.2)*(p.1-a.1)=0:=by grind
 lia
def RX (a p:Pt):bT a a p<=0:=by
 unfold bT;have:(a.1-a.1)*(p.2-a.2)-(a.2-a.2)*(p.1-a.1)=0:=by grind
 lia
def sE (L:List Pt) (p:Pt):kU (L++[p])=p::kC p (kU L):=by unfold kU;rw[List.foldl_append];rfl
def Nc:∀(L:List Pt),(kU L).length<=L.length:=by
 have sub:∀(L s:List Pt),(L.foldl (λs p=>p::kC p s) s).length<=L.length+s.length:=by
  intro L
  induction L with
  | nil=>intro s;simp
  | cons y L ih =>
   intro s;have i2:=ih (y::kC y s);have:=(xR y s).length_le;simp only[pZ,cG] at i2 ⊢;lia
 intro L;simpa [kU] using sub L []
structure xa (L D:List Pt):Prop where
 inc:gw D
 mem:∀z,z∈D↔z∈L
 many:2<=D.length->kU L=kU D
 one:∀c,D=[c]->kU L=[c]\/kU L=[c,c]
 none:D=[]->kU L=[]
def Ts {α:Type} {P:List α->Prop} (h0:P []) (h1:∀l x,P l->P (l++[x])):∀l,P l:=by
 intro l;have:∀m:List α,P m.reverse:=by
  intro m
  induction m with
  | nil=>exact h0
  | cons x m ih=>rw[vX];exact h1 _ _ ih
 have:=this l.reverse
 rwa [List.reverse_reverse] at this
def Ms:∀(L:List Pt),Bz L->∃D,xa L D:=by
 refine Ts ?_ ?_
 ·intro _;exact⟨[],oF,λz=>Iff.rfl,λh=>absurd h (by simp),λc h=>by simp at h,λ_=>rfl⟩
 ·intro L p ih hw;have hw':=kA.mp hw;obtain⟨D,H⟩:=ih hw'.1;have top:∀z∈L,¬bj p z:=λz hz=>hw'.2.2 z hz p (by simp);rcases fG D with hD | ⟨D',c,hD⟩
  ·-- nothing so far
   have hL:L=[]:=by
    apply List.eq_nil_iff_forall_not_mem.mpr;intro z hz;have:=(H.mem z).mpr hz;rw[hD] at this;cases this
   subst hL;refine⟨[p],by simp[gw],λz=>by simp,λh=>absurd h (by simp),λc h=>?_,λh=>by simp at h⟩;simp at h;subst h;exact cW rfl
  ·have hD:D=D'++[c]:=(by simpa using hD);subst hD;have hcL:c∈L:=(H.mem c).mp (by simp);have cl:∀z∈D'++[c],z=c\/bj z c:=by
    intro z hz;rcases cS.mp hz with h | h
    ·exact cV ((kA.mp H.inc).2.2 z h c (by simp))
    ·exact cW (by simpa using h)
   by_cases hpc:p=c
   ·subst hpc;refine⟨D'++[p],H.inc,λz=>?_,λh2=>?_,λc hc=>?_,λh=>by simp at h⟩
    ·rw[H.mem z];simp only[cS,dY];exact⟨cW,λh=>h.elim id λe=>e ▸ hcL⟩
    ·rw[sE,H.many h2,sE];have gm:kU D'≠[]:=by
      rcases fG D' with h | ⟨D'',d,h⟩
      ·rw[h] at h2;simp at h2
      ·have:D'=D''++[d]:=(by simpa using h);rw[this,sE];simp
     have yi:=Ha p _ gm;generalize hu:kC p (kU D')=u at yi;cases u with
     | nil=>exact absurd rfl yi
     | cons a r =>
      rw[kC,if_pos (Ks a p)];congr 1;rw[<-hu,UV]
    ·have hD':D'=[]/\p=c:=by
      cases D' with
      | nil=>simp at hc;exact⟨rfl,hc⟩
      | cons x D'=>simp at hc
     obtain⟨rfl,rfl⟩:=hD';rw[sE];rcases H.one p rfl with e | e
     ·rw[e];exact cV rfl
     ·rw[e,kC,if_pos (RX p p)];exact cV rfl
   ·have yx:bj c p:=by
     rcases qB c p with h | h | h
     ·exact h
     ·exact absurd h.symm hpc
     ·exact absurd h (top c hcL)
    have Z9:gw ((D'++[c])++[p]):=by
     refine kA.mpr ⟨H.inc,by simp,λz hz w hw=>?_⟩;have:w=p:=(by simpa using hw);subst this;rcases cl z hz with rfl | h
     ·exact yx
     ·exact qQ h yx
    refine⟨(D'++[c])++[p],Z9,λz=>?_,λ_=>?_,λd hd=>by have:=congrArg fI hd;simp at this,λh=>by simp at h⟩
    ·rw[cS,H.mem z,cS]
    ·rw[sE,sE (D'++[c])];by_cases h2:2<=(D'++[c]).length
     ·rw[H.many h2]
     ·have:D'=[]:=by
       cases D' with
       | nil=>rfl
       | cons x D'=>simp at h2
      subst this;rcases H.one c rfl with e | e
      ·rw[e];rfl
      ·rw[e,kC,if_pos (RX c p)];rfl
theorem YY {L D:List Pt} (hw:Bz L) (iD:gw D) (hm:∀z,z∈D↔z∈L):(2<=D.length->kU L=kU D)/\(D.length<=1->(kU L).length<=2):=by
 obtain⟨D1,H⟩:=Ms L hw;have:D1=D:=WR _ _ H.inc iD λq=>(H.mem q).trans (hm q).symm;subst this;refine⟨H.many,λh=>?_⟩
 match D1,H,h with
 | [],H,_=>rw[H.none rfl];simp
 | [c],H,_=>rcases H.one c rfl with e | e <;> rw[e] <;> simp
 | _::_::_,_,h=>simp at h
def EZ (L:List Pt):List Pt:=tN L++tN L.reverse
def YZ {L D:List Pt} (hw:Bz L) (iD:gw D) (hm:∀z,z∈D↔z∈L):(2<=D.length->EZ L=EZ D)/\(D.length<=1->(EZ L).length<3):=by
 have a:=YY hw iD hm;have wn:Bz (L.reverse.map jW):=by
  unfold Bz;rw[oG,nZ];exact hw.imp λh k=>h (zB.mp k)
 have iN:gw (D.reverse.map jW):=GK (nZ.mpr iD);have b:=YY wn iN λz=>by simp only[bJ,pG];constructor <;> (rintro⟨w,h1,h2⟩;exact⟨w,by first | exact (hm w).mp h1 | exact (hm w).mpr h1,h2⟩)
 rw[PU,PU] at b;simp only[cN,tL] at b;have inj:∀(X Y:List Pt),X.map jW=Y.map jW->X=Y:=by
  intro X Y h;have:=congrArg (uT jW) h;rw[dN,dN] at this;have e:jW ∘ jW=id:=by funext p;exact CB p
  rwa [e,oO,oO] at this
 constructor
 ·intro h;unfold EZ tN;rw[a.1 h,inj _ _ (b.1 h)]
 ·intro h;have h1:=a.2 h;have h2:=b.2 h;unfold EZ tN;simp only[dC,BB,tL];exact FY (Nat.add_le_add (BH h1 1) (BH h2 1)) (by decide)
def gz (L:List Pt) (a b:Pt):Prop:=∃l r,L=l++a::b::r
def gz.cons (x:Pt) (h:gz L a b):gz (x::L) a b:=by
 obtain⟨l,r,rfl⟩:=h;exact⟨x::l,r,rfl⟩
def gz.left (B:List Pt) (h:gz A a b):gz (A++B) a b:=by
 obtain⟨l,r,rfl⟩:=h;exact⟨l,r++B,by simp⟩
def gz.right (A:List Pt) (h:gz B a b):gz (A++B) a b:=by
 obtain⟨l,r,rfl⟩:=h;exact⟨A++l,r,by simp⟩
theorem QI:∀(A B:List Pt) (a b:Pt),gz (A++B) a b->gz A a b\/((∃A',A=A'++[a])/\∃B',B=b::B')\/gz B a b
 | [],B,a,b,h=>cV (cV h)
 | [x],B,a,b,⟨l,r,e⟩=>by
  cases l with
  | nil =>
   simp at e;obtain⟨rfl,e⟩:=e;exact cV (cW ⟨⟨[],rfl⟩,r,e⟩)
  | cons y l=>simp at e;exact cV (cV ⟨l,r,e.2⟩)
 | x::y::A,B,a,b,⟨l,r,e⟩=>by
  cases l with
  | nil =>
   simp at e;obtain⟨rfl,rfl,e⟩:=e;exact cW ⟨[],A,rfl⟩
  | cons u l =>
   simp at e;obtain⟨rfl,e⟩:=e;rcases QI (y::A) B a b ⟨l,r,by simpa using e⟩ with h | ⟨⟨A',h1⟩,h2⟩ | h
   ·exact cW (h.cons x)
   ·exact cV (cW ⟨⟨x::A',by rw[h1];rfl⟩,h2⟩)
   ·exact cV (cV h)
def WY (h:gz (L.map f) a b):∃x y,gz L x y/\a=f x/\b=f y:=by
 obtain⟨l,r,e⟩:=h;obtain⟨l1,l2,rfl,rfl,e2⟩:=nE.mp e;obtain⟨x,l3,rfl,rfl,e3⟩:=jY.mp e2;obtain⟨y,l4,rfl,rfl,e4⟩:=jY.mp e3;exact⟨x,y,⟨l1,l4,rfl⟩,rfl,rfl⟩
def gz.mem (h:gz L a b):a∈L/\b∈L:=by
 obtain⟨l,r,rfl⟩:=h;simp
def av (cs:List Pt) (a b:Pt):Prop:=gz (cs++cs.take 1) a b
structure a_ (cs:List Pt):Prop where
 len:3<=cs.length
 nodup:cs.Nodup
 strict:∀a b,av cs a b->∀q∈cs,q≠a->q≠b->0<bT a b q
def Qc (a b:Pt):bT a b a=0:=by unfold bT;grind
def Zg (a b:Pt):bT a b b=0:=by unfold bT;grind
def a_.side (h:a_ cs) (c8:av cs a b) (hq:q∈cs):0<=bT a b q:=by
 by_cases h1:q=a
 ·subst h1;rw[Qc];decide
 ·by_cases h2:q=b
  ·subst h2;rw[Zg];decide
  ·exact aQ (h.strict a b c8 q hq h1 h2)
def a_.map (h:a_ cs) (hk:0<k) (hf:∀a b c,bT (f a) (f b) (f c)=k*bT a b c) (inj:∀a b,f a=f b->a=b):a_ (cs.map f):=by
 refine⟨by simpa using h.len,?_,λa b c8 q hq n1 n2=>?_⟩
 ·exact vU f (λa b hn e=>hn (inj a b e)) h.nodup
 ·unfold av at c8;rw[<-jV,<-dM] at c8;obtain⟨x,y,Z4,rfl,rfl⟩:=WY c8;obtain⟨p,hp,rfl⟩:=bJ.mp hq;rw[hf];exact aL hk (h.strict x y Z4 p hp (λe=>n1 (by rw[e])) λe=>n2 (by rw[e]))
theorem IG (h:av (Y++X) a b):av (X++Y) a b:=by
 unfold av at *;cases Y with
 | nil=>simpa using h
 | cons y Y =>
  cases X with
  | nil=>simpa using h
  | cons x X =>
   simp only[aY,tM,BF] at h ⊢;have e:y::(Y++x::X++[y])=(y::Y)++((x::X)++[y]):=(by simp);rw[e] at h;have xv:∀{a b},gz ((x::X)++[y]) a b->gz (x::(X++y::Y++[x])) a b:=by
    intro a b h;have:=h.left (Y++[x]);simpa using this
   have tz:∀{a b},gz ((y::Y)++[x]) a b->gz (x::(X++y::Y++[x])) a b:=by
    intro a b h;have:=h.right (x::X);simpa using this
   rcases QI _ _ a b h with h | ⟨⟨A',h1⟩,B',h2⟩ | h
   ·exact tz (h.left _)
   ·simp at h2;refine tz ?_;rw[h1,<-h2.1];exact⟨A',[],by simp⟩
   ·exact xv h
def a_.swap (h:a_ (X++Y)):a_ (Y++X):=by
 refine⟨by have:=h.len;simp at this ⊢;lia,?_,λa b c8 q hq=>h.strict a b (IG c8) q (by simp at hq ⊢;exact hq.symm)⟩;have:=h.nodup;rw[vW] at this ⊢;exact⟨this.2.1,this.1,λa ha b hb e=>this.2.2 b hb a ha e.symm⟩
def av.mem (h:av cs a b):a∈cs/\b∈cs:=by
 have k:∀x,x∈cs++cs.take 1->x∈cs:=λx hx=>(cS.mp hx).elim id jZ;exact⟨k a (gz.mem h).1,k b (gz.mem h).2⟩
theorem len_sub {α:Type} [DecidableEq α]:∀(l m:List α),l.Nodup->(∀x∈l,x∈m)->l.length<=m.length
 | [],_,_,_=>gU _
 | x::l,m,hn,hs=>by
  have hx:=hs x (.head _);have me:=fN.mp hn;have:=len_sub l (m.erase x) me.2 λy hy=>(BC λ(e:y=x)=>me.1 (e ▸ hy)).mpr (hs y (.tail _ hy));rw[wN hx] at this;exact fW (KB this) (yL (Nat.succ_pred_eq_of_pos (yI hx)))
def a_.third (c:a_ cs) (u v:Pt):∃w∈cs,w≠u/\w≠v:=by
 apply cC;intro hn;have:=len_sub cs [u,v] c.nodup λw hw=>by
  by_cases h1:w=u
  ·exact h1 ▸ .head _
  ·by_cases h2:w=v
   ·exact h2 ▸ .tail _ (.head _)
   ·exact absurd ⟨w,hw,h1,h2⟩ hn
 exact absurd (fW c.len this) (show ¬ 3<=2 by decide)
def a_.ne (c:a_ cs) (h:av cs u v):u≠v:=by
 obtain⟨w,hw,n1,n2⟩:=c.third u v;rintro rfl;have:=c.strict u u h w hw n1 n2;rw[show bT u u w=0 by unfold bT;grind] at this;exact mH _ this
def WX (c:a_ cs) (h:av cs u v) (h':av cs v u):False:=by
 obtain⟨w,hw,w1,w2⟩:=c.third u v;have t1:=c.strict _ _ h w hw w1 w2;rw[show bT u v w = - bT v u w by unfold bT;grind] at t1;exact pD (c.strict _ _ h' w hw w2 w1) (Int.neg_pos.mp t1)
def a_.bend (h:a_ R) {a b c:Pt} (e:R++R.take 2=l++a::b::c::r):0<bT a b c:=by
 obtain⟨x,y,R',eR⟩:∃x y R',R=x::y::R':=by
  match R,h.len with
  | x::y::R',_=>exact⟨x,y,R',rfl⟩
 have t1:R.take 1=[x]:=by rw[eR];rfl
 have t2:R++R.take 2=(R++R.take 1)++[y]:=by rw[t1,fL,eR];rfl
 rw[t2] at e;have ⟨ab,bc⟩:av R a b/\av R b c:=by
  rcases fG r with rfl | ⟨r',w,rfl⟩
  ·have e':(R++R.take 1)++[y]=(l++[a,b])++[c]:=(by rw[e,fL];rfl);have k:=lK e' rfl;have ec:=gY e' rfl;injection ec with ec _;refine⟨⟨l,[],k⟩,?_⟩;have k':R++[x]=(l++[a])++[b]:=(by rw[<-t1,k,fL];rfl);have eb:=gY k' rfl;injection eb with eb _;rw[<-eb,<-ec];exact⟨[],R'++[x],by rw[t1,eR];rfl⟩
  ·have e':(R++R.take 1)++[y]=(l++a::b::c::r')++[w]:=(by rw[e,fL,AI];rfl);have k:=lK e' rfl;exact⟨⟨l,c::r',k⟩,l++[a],r',by rw[k,fL];rfl⟩
 exact h.strict a b ab c bc.mem.2 (λhc=>WX h ab (hc ▸ bc)) λhc=>h.ne bc hc.symm
def zH {L D:List Pt} (iD:gw D) (h:a_ (z::T)) (least:∀q∈T,¬bj q z) (mem:∀q∈z::T,q∈D) (left:∀a b,av (z::T) a b->∀q∈D,0<=bT a b q):EZ D=z::T:=by
 obtain⟨y,t,rfl⟩:∃y t,T=y::t:=by
  have:=h.len;cases T with
  | nil=>simp at this
  | cons y t=>exact⟨y,t,rfl⟩
 refine Kl iD ⟨mem,λq hq=>?_,λl a b r e=>left a b ⟨l,r,e⟩,λl a b c r e=>h.bend (l:=l) (r:=r) e⟩;rcases qB z q with h' | h' | h'
 ·exact h'
 ·subst h';exact absurd hq (fN.mp h.nodup).1
 ·exact absurd h' (least q hq)
abbrev H3:=Int × Int × Int
def gN (p q r:H3):Int:=p.1*(q.2.1*r.2.2-q.2.2*r.2.1)-p.2.1*(q.1*r.2.2-q.2.2*r.1)+p.2.2*(q.1*r.2.1-q.2.1*r.1)
abbrev ap (z:Pt):H3:=(z.1,z.2,1)
abbrev wQ (α:Int) (p:H3) (β:Int) (q:H3):H3:=(α*p.1+β*q.1,α*p.2.1+β*q.2.1,α*p.2.2+β*q.2.2)
def KM (a b c:Pt):gN (ap a) (ap b) (ap c)=bT a b c:=by unfold gN bT ap;dsimp only;grind
def KK (p q u v:H3) (α β:Int):gN p q (wQ α u β v)=α*gN p q u+β*gN p q v:=by unfold gN wQ;dsimp only;grind
structure az where
 a:Int
 b:Int
 k:Int
section
variable (L:az)
def af (z:Pt):Int:=L.a*z.1+L.b*z.2-L.k
def fo (p:H3):Int:=L.a*p.1+L.b*p.2.1-L.k*p.2.2
theorem mM (z:Pt):fo L (ap z)=af L z:=by unfold fo af ap;dsimp only;lia
theorem Kx (α β:Int) (p q:H3):fo L (wQ α p β q)=α*fo L p+β*fo L q:=by unfold fo wQ;dsimp only;grind
theorem Wn (v1 v2 v3 v4:H3):fo L v1*gN v2 v3 v4-fo L v2*gN v1 v3 v4+fo L v3*gN v1 v2 v4-fo L v4*gN v1 v2 v3=0:=by unfold fo gN;grind
def jI (u v:Pt):H3:=wQ (af L v).natAbs (ap u) (af L u).natAbs (ap v)
def fk (u v:Pt):List H3:=(if af L u<=0 then [ap u] else [])++(if af L u*af L v<0 then [jI L u v] else [])
def Pl:List Pt->List H3
 | []=>[]
 | [_]=>[]
 | u::v::r=>fk L u v++Pl (v::r)
end
section
variable {L:az} {cs:List Pt}
theorem gq {x y:Int} (h:x*y<0):(x<0/\0<y)\/(0<x/\y<0):=by
 rcases fK x 0 with hx | rfl | hx
 ·exact cW ⟨hx,eV.mp λhy=>eV.mpr h (Int.mul_nonneg_of_nonpos_of_nonpos (aQ hx) hy)⟩
 ·rw[qW] at h;exact absurd h (mH _)
 ·exact cV ⟨hx,eV.mp λhy=>eV.mpr h (cY (aQ hx) hy)⟩
theorem oA {x y:Int} (h:(x<0/\0<y)\/(0<x/\y<0)):x*y<0:=by
 rcases h with ⟨h1,h2⟩ | ⟨h1,h2⟩
 ·exact iV h1 h2
 ·exact fZ h1 h2
theorem AV (h:af L u*af L v<0):fo L (jI L u v)=0:=by
 unfold jI;rw[Kx,mM,mM];rcases gq h with ⟨h1,h2⟩ | ⟨h1,h2⟩
 ·rw[AY (aQ h2),uR (aQ h1)];grind
 ·rw[AY (aQ h1),uR (aQ h2)];grind
theorem sQ (h:af L u*af L v<0):(0:Int)<(af L v).natAbs/\(0:Int)<(af L u).natAbs:=by
 have k {x:Int} (n:x≠0):(0:Int)<x.natAbs:=Int.natCast_pos.mpr (Int.natAbs_pos.mpr n);rcases gq h with ⟨h1,h2⟩ | ⟨h1,h2⟩
 ·exact⟨k (qV h2),k (yH h1)⟩
 ·exact⟨k (yH h2),k (qV h1)⟩
theorem GS (h:af L u*af L v<0):2<=(jI L u v).2.2:=by
 show 1+1<=((af L v).natAbs:Int)*1+((af L u).natAbs:Int)*1;rw[vS,vS];exact Int.add_le_add (sQ h).1 (sQ h).2
inductive Pm (L:az) (cs:List Pt):H3->Prop
 | corner {u:Pt} (hu:u∈cs) (h:af L u<=0):Pm L cs (ap u)
 | cross {u v:Pt} (hc:av cs u v) (h:af L u*af L v<0):Pm L cs (jI L u v)
theorem Gw (c:a_ cs) (h:av cs u v) (hw:w∈cs) (k:bT u v w=0):w=u\/w=v:=by
 by_cases h1:w=u
 ·exact cW h1
 ·by_cases h2:w=v
  ·exact cV h2
  ·exact absurd k (qV (c.strict u v h w hw h1 h2))
theorem YT (u v:Pt):gN (ap u) (ap v) (jI L u v)=0:=by unfold jI;rw[KK];unfold gN;grind
theorem QK (c:a_ cs) (h:av cs u v) (hc:av cs u' v') (hx:af L u'*af L v'<0):(u'=u/\v'=v)\/0<gN (ap u) (ap v) (jI L u' v'):=by
 obtain⟨f1,f2⟩:=sQ hx;have m:=hc.mem;have s1:0<=bT u v u':=c.side h m.1;have s2:0<=bT u v v':=c.side h m.2;unfold jI;rw[KK,KM,KM];rcases jR s1 with k1 | k1
 ·exact cV (Int.add_pos_of_pos_of_nonneg (aL f1 k1) (cY (aQ f2) s2))
 ·rcases jR s2 with k2 | k2
  ·exact cV (Int.add_pos_of_nonneg_of_pos (cY (aQ f1) s1) (aL f2 k2))
  ·have ne:=c.ne hc;rcases Gw c h m.1 k1.symm with rfl | rfl <;> rcases Gw c h m.2 k2.symm with rfl | rfl
   ·exact absurd rfl ne
   ·exact cW ⟨rfl,rfl⟩
   ·exact (WX c h hc).elim
   ·exact absurd rfl ne
theorem sW (c:a_ cs) (h:av cs u v) (hr:Pm L cs r) (n1:r≠ap u) (n2:r≠ap v) (n3:r≠jI L u v\/¬af L u*af L v<0):0<gN (ap u) (ap v) r:=by
 cases hr with
 | @corner w hw he =>
  rw[KM];exact c.strict u v h w hw (λe=>n1 (by rw[e])) λe=>n2 (by rw[e])
 | @cross u' v' hc hx =>
  exact (QK c h hc hx).resolve_left λk=>n3.elim (λn=>n (by rw[k.1,k.2])) λn=>n (k.1 ▸ k.2 ▸ hx)
def gu (L:az) (cs:List Pt) (p:H3):Prop:=∃u v,av cs u v/\0<af L v/\((af L u<0/\p=jI L u v)\/(af L u=0/\p=ap u))
def Entry (L:az) (cs:List Pt) (q:H3):Prop:=∃u v,av cs u v/\0<af L u/\((af L v<0/\q=jI L u v)\/(af L v=0/\q=ap v))
theorem gu.pm (h:gu L cs p):Pm L cs p/\fo L p=0:=by
 obtain⟨u,v,hc,hv,⟨hu,rfl⟩ | ⟨hu,rfl⟩⟩:=h
 ·have hx:=oA (cW ⟨hu,hv⟩);exact⟨.cross hc hx,AV hx⟩
 ·exact⟨.corner hc.mem.1 (by lia),by rw[mM];exact hu⟩
theorem Entry.pm (h:Entry L cs p):Pm L cs p/\fo L p=0:=by
 obtain⟨u,v,hc,hv,⟨hu,rfl⟩ | ⟨hu,rfl⟩⟩:=h
 ·have hx:=oA (cV ⟨hv,hu⟩);exact⟨.cross hc hx,AV hx⟩
 ·exact⟨.corner hc.mem.2 (by lia),by rw[mM];exact hu⟩
theorem Pm.exc_le (h:Pm L cs r):fo L r<=0:=by
 cases h with
 | corner hu he=>rw[mM];exact he
 | cross hc hx=>rw[AV hx];exact qN _
theorem KN (c:a_ cs) (hc:av cs u v) (hv:0<af L v) (hp:(af L u<0/\p=jI L u v)\/(af L u=0/\p=ap u)) (hq:Pm L cs q) (h0:fo L q=0) (ne:q≠p):gN (ap v) p q<0:=by
 have s:0<gN (ap u) (ap v) q:=by
  refine sW c hc hq ?_ ?_ ?_
  ·rintro rfl;rw[mM] at h0;rcases hp with ⟨h,_⟩ | ⟨_,rfl⟩
   ·lia
   ·exact ne rfl
  ·rintro rfl;rw[mM] at h0;lia
  ·rcases hp with ⟨h,rfl⟩ | ⟨h,_⟩
   ·exact cW ne
   ·right;rw[h];simp
 obtain⟨α,β,ha,rfl⟩:∃α β:Int,0<α/\p=wQ α (ap u) β (ap v):=by
  rcases hp with ⟨h,rfl⟩ | ⟨h,rfl⟩
  ·exact⟨_,_,(sQ (oA (cW ⟨h,hv⟩))).1,rfl⟩
  ·refine⟨1,0,by decide,?_⟩;simp[wQ,ap]
 have e:gN (ap v) (wQ α (ap u) β (ap v)) q = -(α*gN (ap u) (ap v) q):=by unfold gN wQ;grind
 rw[e];have:=aL ha s;lia
theorem ZA (c:a_ cs) (h:gu L cs p) (h':gu L cs p'):p=p':=by
 apply cC;intro ne;have z:=h.pm;have z':=h'.pm;obtain⟨u,v,hc,hv,hp⟩:=h;obtain⟨u',v',k7,yt,kr⟩:=h';have t1:=KN c hc hv hp z'.1 z'.2 (Ne.symm ne);have t2:=KN c k7 yt kr z.1 z.2 ne;have f:=Wn L (ap v) p p' (ap v');rw[z.2,z'.2,mM,mM] at f;have e:gN p p' (ap v') = - gN (ap v') p' p:=by unfold gN;grind
 have k1:af L v*gN p p' (ap v') > 0:=by rw[e];exact aL hv (by lia)
 have k2:af L v'*gN (ap v) p p'<0:=fZ yt t1;lia
theorem PJ (c:a_ cs) (hc:av cs u v) (hu:0<af L u) (hp:(af L v<0/\p=jI L u v)\/(af L v=0/\p=ap v)) (hq:Pm L cs q) (h0:fo L q=0) (ne:q≠p):0<gN (ap u) p q:=by
 have s:0<gN (ap u) (ap v) q:=by
  refine sW c hc hq ?_ ?_ ?_
  ·rintro rfl;rw[mM] at h0;lia
  ·rintro rfl;rw[mM] at h0;rcases hp with ⟨h,_⟩ | ⟨_,rfl⟩
   ·lia
   ·exact ne rfl
  ·rcases hp with ⟨h,rfl⟩ | ⟨h,_⟩
   ·exact cW ne
   ·right;rw[h];simp
 obtain⟨α,β,hb,rfl⟩:∃α β:Int,0<β/\p=wQ α (ap u) β (ap v):=by
  rcases hp with ⟨h,rfl⟩ | ⟨h,rfl⟩
  ·exact⟨_,_,(sQ (oA (cV ⟨hu,h⟩))).2,rfl⟩
  ·refine⟨0,1,by decide,?_⟩;simp[wQ,ap]
 have e:gN (ap u) (wQ α (ap u) β (ap v)) q=β*gN (ap u) (ap v) q:=by unfold gN wQ;grind
 rw[e];exact aL hb s
theorem UL (c:a_ cs) (h:Entry L cs p) (h':Entry L cs p'):p=p':=by
 apply cC;intro ne;have z:=h.pm;have z':=h'.pm;obtain⟨u,v,hc,hv,hp⟩:=h;obtain⟨u',v',k7,yt,kr⟩:=h';have t1:=PJ c hc hv hp z'.1 z'.2 (Ne.symm ne);have t2:=PJ c k7 yt kr z.1 z.2 ne;have f:=Wn L (ap u) p p' (ap u');rw[z.2,z'.2,mM,mM] at f;have e:gN p p' (ap u') = - gN (ap u') p' p:=by unfold gN;grind
 have k1:af L u*gN p p' (ap u')<0:=by rw[e];exact fZ hv (by lia)
 have k2:0<af L u'*gN (ap u) p p':=aL yt t1;lia
theorem KU (c:a_ cs) (hp:gu L cs p) (hq:Entry L cs q) (ne:q≠p):∃k m:Int,0<k/\0<m/\∀r:H3,k*gN p q r = -(m*fo L r):=by
 have z:=hp.pm;have z':=hq.pm;obtain⟨u,v,hc,hv,h⟩:=hp;have t:=KN c hc hv h z'.1 z'.2 ne;refine⟨af L v,-gN (ap v) p q,hv,by lia,λr=>?_⟩;have f:=Wn L (ap v) p q r;rw[z.2,z'.2,mM] at f;grind
theorem US (c:a_ cs) (h1:av cs t u) (h2:av cs u v) (nt:t≠v) (e1:af L t<=af L u) (e2:af L v<=af L u):∀w∈cs,af L w<=af L u:=by
 intro w hw;have D:0<bT t u v:=c.strict t u h1 v h2.mem.2 (Ne.symm nt) (Ne.symm (c.ne h2));have C:=c.side h1 hw;have A:=c.side h2 hw;have key:bT t u v*af L w=bT t u v*af L u-bT u v w*(af L u-af L t)-bT t u w*(af L u-af L v):=by
  unfold bT af;grind
 apply gX.mp;intro hn;have k1:0<bT t u v*(af L w-af L u):=aL D (by lia);have k2:=cY A (show 0<=af L u-af L t by lia);have k3:=cY C (show 0<=af L u-af L v by lia);have e:bT t u v*(af L w-af L u)=bT t u v*af L w-bT t u v*af L u:=by grind
 lia
theorem UR (c:a_ cs) (h1:av cs t u) (h2:av cs u v) (nt:t≠v) (e1:af L u<=af L t) (e2:af L u<=af L v):∀w∈cs,af L u<=af L w:=by
 intro w hw;have:=US (L:=⟨-L.a,-L.b,-L.k⟩) c h1 h2 nt (by unfold af at *;dsimp only at *;grind) (by unfold af at *;dsimp only at *;grind) w hw;unfold af at *;dsimp only at *;grind
end
section
variable {L:az} {cs:List Pt}
theorem OZ (c:a_ cs) (hu:u∈cs):∃t v,av cs t u/\av cs u v/\t≠v:=by
 obtain⟨X,Y,rfl⟩:=nD hu;have c2:a_ ((u::Y)++X):=c.swap;have len:=c2.len;have nd:=c2.nodup;have bk:∀{a b},av ((u::Y)++X) a b->av (X++u::Y) a b:=λh=>IG h;rw[aY] at len nd bk;generalize Y++X=Z at len nd bk;obtain⟨v,Z1,hv⟩:∃v Z1,Z=v::Z1:=by
  cases Z with
  | nil=>simp at len
  | cons v Z1=>exact⟨v,Z1,rfl⟩
 obtain⟨t,Z2,ht⟩:∃t Z2,Z=Z2++[t]:=by
  rcases fG Z with h | ⟨Z2,t,h⟩
  ·rw[h] at len;simp at len
  ·exact⟨t,Z2,by simpa using h⟩
 refine⟨t,v,bk ⟨u::Z2,[],by rw[ht];simp⟩,bk ⟨[],Z1++[u],by rw[hv];simp⟩,?_⟩;rintro rfl;have nd':=(fN.mp nd).2;rw[hv] at nd';cases Z1 with
 | nil=>rw[hv] at len;simp at len
 | cons x Z1 =>
  have:t∈x::Z1:=by
   have e:t::x::Z1=Z2++[t]:=(by rw[<-hv,ht]);cases Z2 with
   | nil=>simp at e
   | cons y Z2 =>
    simp at e;rw[e.2];simp
  exact (fN.mp nd').1 this
theorem VM (c:a_ cs) (dz:∃w∈cs,0<af L w) (hr:Pm L cs r) (h0:fo L r=0):gu L cs r\/Entry L cs r:=by
 cases hr with
 | @corner u hu he =>
  rw[mM] at h0;obtain⟨t,v,h1,h2,ne⟩:=OZ c hu;by_cases hv:0<af L v
  ·exact cW ⟨u,v,h2,hv,cV ⟨h0,rfl⟩⟩
  ·by_cases ht:0<af L t
   ·exact cV ⟨t,u,h1,ht,cV ⟨h0,rfl⟩⟩
   ·exfalso;obtain⟨w,hw,Z3⟩:=dz;have:=US (L:=L) c h1 h2 ne (h0 ▸ gX.mp ht) (h0 ▸ gX.mp hv) w hw;rw[h0] at this;exact absurd this (eV.mpr Z3)
 | @cross u v hc hx =>
  rcases gq hx with ⟨h1,h2⟩ | ⟨h1,h2⟩
  ·exact cW ⟨u,v,hc,h2,cW ⟨h1,rfl⟩⟩
  ·exact cV ⟨u,v,hc,h1,cW ⟨h2,rfl⟩⟩
theorem sP (c:a_ cs) (en:∃w∈cs,af L w<0) (hp:gu L cs p) (hq:Entry L cs q):q≠p:=by
 rintro rfl;obtain⟨u,v,hc,hv,h⟩:=hp;obtain⟨u',v',k7,vp,h'⟩:=hq;rcases h with ⟨h,rfl⟩ | ⟨h,rfl⟩ <;> rcases h' with ⟨h',e⟩ | ⟨h',e⟩
 ·rcases QK c hc k7 (oA (cV ⟨vp,h'⟩)) with ⟨rfl,_⟩ | k
  ·exact pD h vp
  ·rw[<-e,YT] at k;exact mH _ k
 ·have:=GS (oA (cW ⟨h,hv⟩));rw[e] at this;simp at this
 ·have:=GS (oA (cV ⟨vp,h'⟩));rw[<-e] at this;simp at this
 ·have euv:u=v':=by
   simp only[ap,eQ] at e;exact lD e.1 e.2.1
  subst euv;obtain⟨w,hw,hwn⟩:=en;have ne:u'≠v:=λe=>WX c hc (e ▸ k7);have:=UR (L:=L) c k7 hc ne (by lia) (by lia) w hw;lia
inductive o0 (L:az) (cs:List Pt):H3->H3->Prop
 | full {u v:Pt} (h:av cs u v) (h1:af L u<=0) (h2:af L v<=0):o0 L cs (ap u) (ap v)
 | out {u v:Pt} (h:av cs u v) (h1:af L u<0) (h2:0<af L v):o0 L cs (ap u) (jI L u v)
 | inn {u v:Pt} (h:av cs u v) (h1:0<af L u) (h2:af L v<0):o0 L cs (jI L u v) (ap v)
 | line {p q:H3} (hp:gu L cs p) (hq:Entry L cs q):o0 L cs p q
def nq (L:az) (cs:List Pt) (l:H3) (u w:Pt):Prop:=av cs u w/\((af L w<0/\((af L u<=0/\l=ap u)\/(0<af L u/\l=jI L u w)))\/(af L w=0/\((af L u<=0/\l=ap u)\/(0<af L u/\gu L cs l)))\/(0<af L w/\gu L cs l))
def Run {α:Type} (R:α->α->Prop):α->List α->Prop
 | _,[]=>True
 | a,b::r=>R a b/\Run R b r
def kM {α:Type} (a:α):List α->α
 | []=>a
 | b::r=>kM b r
theorem RL {α:Type} {R:α->α->Prop}:∀(a:α) (X Y:List α),Run R a X->Run R (kM a X) Y->Run R a (X++Y)
 | _,[],_,_,h=>h
 | _,b::X,Y,⟨h1,h2⟩,h=>⟨h1,RL b X Y h2 h⟩
theorem ET {α:Type}:∀(a:α) (X Y:List α),kM a (X++Y)=kM (kM a X) Y
 | _,[],_=>rfl
 | _,b::X,Y=>ET b X Y
theorem QS:∀(W:List Pt) (l:H3) (u w:Pt),nq L cs l u w->Run (av cs) w W->Run (o0 L cs) l (Pl L (w::W))/\(∀v,W≠[]->kM w W=v->∃t,(kM u (w::W.dropLast)=t)/\nq L cs (kM l (Pl L (w::W))) t v)
 | [],l,u,w,_,_=>⟨trivial,λv h=>absurd rfl h⟩
 | v::W,l,u,w,⟨hc,hs⟩,⟨hv,hr⟩=>by
  have step:Run (o0 L cs) l (fk L w v)/\nq L cs (kM l (fk L w v)) w v:=by
   by_cases hw:af L w<=0
   ·have first:o0 L cs l (ap w):=by
     rcases hs with ⟨h0,⟨h1,rfl⟩ | ⟨h1,rfl⟩⟩ | ⟨h0,⟨h1,rfl⟩ | ⟨h1,h2⟩⟩ | ⟨h0,_⟩
     ·exact .full hc h1 hw
     ·exact .inn hc h1 h0
     ·exact .full hc h1 hw
     ·exact .line h2 ⟨u,w,hc,h1,cV ⟨h0,rfl⟩⟩
     ·exact absurd hw (eV.mpr h0)
    by_cases hx:af L w*af L v<0
    ·have e:fk L w v=[ap w,jI L w v]:=(by unfold fk;rw[if_pos hw,if_pos hx];rfl);rw[e];rcases gq hx with ⟨h1,h2⟩ | ⟨h1,h2⟩
     ·exact⟨⟨first,.out hv h1 h2,trivial⟩,hv,cV (cV ⟨h2,w,v,hv,h2,cW ⟨h1,rfl⟩⟩)⟩
     ·exact absurd hw (eV.mpr h1)
    ·have e:fk L w v=[ap w]:=(by unfold fk;rw[if_pos hw,if_neg hx];rfl);rw[e];refine⟨⟨first,trivial⟩,hv,?_⟩;show (af L v<0/\((af L w<=0/\ap w=ap w)\/_))\/_;rcases fK (af L v) 0 with k | k | k
     ·exact cW ⟨k,cW ⟨hw,rfl⟩⟩
     ·exact cV (cW ⟨k,cW ⟨hw,rfl⟩⟩)
     ·have w0:af L w=0:=by
       rcases jR hw with h | h
       ·exact absurd (oA (cW ⟨h,k⟩)) hx
       ·exact h
      exact cV (cV ⟨k,w,v,hv,k,cV ⟨w0,rfl⟩⟩)
   ·have ex:gu L cs l:=by
     rcases hs with ⟨h0,_⟩ | ⟨h0,_⟩ | ⟨_,h⟩
     ·exact absurd (aQ h0) hw
     ·exact absurd (Int.le_of_eq h0) hw
     ·exact h
    by_cases hx:af L w*af L v<0
    ·have e:fk L w v=[jI L w v]:=(by unfold fk;rw[if_neg hw,if_pos hx];rfl);rw[e];rcases gq hx with ⟨h1,h2⟩ | ⟨h1,h2⟩
     ·exact absurd (aQ h1) hw
     ·exact⟨⟨.line ex ⟨w,v,hv,h1,cW ⟨h2,rfl⟩⟩,trivial⟩,hv,cW ⟨h2,cV ⟨h1,rfl⟩⟩⟩
    ·have e:fk L w v=[]:=(by unfold fk;rw[if_neg hw,if_neg hx];rfl);rw[e];refine⟨trivial,hv,?_⟩;rcases fK (af L v) 0 with k | k | k
     ·exact absurd (oA (cV ⟨eV.mp hw,k⟩)) hx
     ·exact cV (cW ⟨k,cV ⟨eV.mp hw,ex⟩⟩)
     ·exact cV (cV ⟨k,ex⟩)
  have e:Pl L (w::v::W)=fk L w v++Pl L (v::W):=rfl;obtain⟨i1,i2⟩:=QS W (kM l (fk L w v)) w v step.2 hr;refine⟨by rw[e];exact RL _ _ _ step.1 i1,λx _ hx=>?_⟩;rw[e,ET];cases W with
  | nil =>
   have:x=v:=hx.symm;subst this;exact⟨w,rfl,step.2⟩
  | cons y W =>
   obtain⟨t,ht,o6⟩:=i2 x (by simp) hx;exact⟨t,ht,o6⟩
end
section
theorem VU (L:az):∀(A:List Pt) (x:Pt) (B:List Pt),Pl L (A++x::B)=Pl L (A++[x])++Pl L (x::B)
 | [],x,B=>by simp[Pl]
 | [a],x,B=>by simp[Pl]
 | a::b::A,x,B=>by
  have ih:=VU L (b::A) x B;simp only[aY] at ih ⊢;rw[Pl,ih,Pl,fL]
theorem Es:∀(x:Pt) (l:List Pt),(∀a b,gz (x::l) a b->R a b)->Run R x l
 | _,[],_=>trivial
 | x,y::l,h=>⟨h x y ⟨[],l,rfl⟩,Es y l λa b hn=>h a b (hn.cons x)⟩
theorem mB {α:Type}:∀(a:α) (X:List α) (b:α),kM a (X++[b])=b
 | _,[],_=>rfl
 | _,x::X,b=>mB x X b
def FZ (l:List H3) (p q:H3):Prop:=∃a b,l=a++p::q::b
theorem Hl:∀(a:H3) (l:List H3),Run R a l->∀p q,FZ (a::l) p q->R p q
 | a,[],_,p,q,⟨x,y,e⟩=>by
  have:=congrArg fI e;simp at this;lia
 | a,b::l,⟨h1,h2⟩,p,q,⟨x,y,e⟩=>by
  cases x with
  | nil=>simp at e;obtain⟨rfl,rfl,_⟩:=e;exact h1
  | cons z x=>simp at e;exact Hl b l h2 p q ⟨x,y,by simpa using e.2⟩
theorem Lg {c0:Pt}:∀(W:List Pt) (x:Pt),Run (av cs) x W->∀r∈Pl L (x::W),Pm L cs r
 | [],x,_,r,hr=>by simp[Pl] at hr
 | y::W,x,⟨h1,h2⟩,r,hr=>by
  rw[Pl] at hr;rcases cS.mp hr with h | h
  ·unfold fk at h;rcases cS.mp h with h | h
   ·split at h
    ·rename_i he;simp at h;subst h;exact .corner h1.mem.1 he
    ·simp at h
   ·split at h
    ·rename_i he;simp at h;subst h;exact .cross h1 he
    ·simp at h
  ·exact Lg (c0:=c0) W y h2 r h
theorem XV (c:a_ cs):∀(W:List Pt) (x:Pt),Run (av cs) x W->(x::W).dropLast.Nodup->(Pl L (x::W)).Nodup/\∀r∈Pl L (x::W),(∃u∈(x::W).dropLast,r=ap u)\/(∃u v,u∈(x::W).dropLast/\av cs u v/\af L u*af L v<0/\r=jI L u v)
 | [],x,_,_=>by simp[Pl]
 | y::W,x,⟨h1,h2⟩,hn=>by
  have ed:(x::y::W).dropLast=x::(y::W).dropLast:=rfl;rw[ed] at hn ⊢;obtain⟨n1,n2⟩:=fN.mp hn;obtain⟨i1,i2⟩:=XV c W y h2 n2;have mb:∀r∈fk L x y,r=ap x\/(af L x*af L y<0/\r=jI L x y):=by
   intro r hr;unfold fk at hr;rcases cS.mp hr with h | h
   ·split at h
    ·simp at h;exact cW h
    ·simp at h
   ·split at h
    ·rename_i hx;simp at h;exact cV ⟨hx,h⟩
    ·simp at h
  refine⟨?_,?_⟩
  ·rw[Pl,vW];refine⟨?_,i1,?_⟩
   ·unfold fk;by_cases ha:af L x<=0 <;> by_cases hb:af L x*af L y<0
    ·rw[if_pos ha,if_pos hb];simp;intro e;have:=GS hb;rw[<-e] at this;simp at this
    all_goals simp[ha,hb]
   ·intro a ha b hb e;subst e;rcases mb a ha with rfl | ⟨hx,rfl⟩ <;> rcases i2 _ hb with ⟨u,hu,e⟩ | ⟨u,v,hu,hc,n_,e⟩
    ·have:x=u:=(by simp only[ap,eQ] at e;exact lD e.1 e.2.1);subst this;exact n1 hu
    ·have:=GS n_;rw[<-e] at this;simp at this
    ·have:=GS hx;rw[e] at this;simp at this
    ·have nu:u≠x:=λe=>n1 (e ▸ hu);have z1:=YT (L:=L) x y;rw[e] at z1;exact (QK c h1 hc n_).elim (λk=>nu k.1) λk=>mH 0 (z1 ▸ k)
  ·intro r hr;rw[Pl] at hr;rcases cS.mp hr with h | h
   ·rcases mb r h with rfl | ⟨hx,rfl⟩
    ·exact cW ⟨x,by simp,rfl⟩
    ·exact cV ⟨x,y,by simp,h1,hx,rfl⟩
   ·rcases i2 r h with ⟨u,hu,e⟩ | ⟨u,v,hu,hc,n_,e⟩
    ·exact cW ⟨u,by simp[hu],e⟩
    ·exact cV ⟨u,v,by simp[hu],hc,n_,e⟩
def WD (u v:Pt) (r:H3):gN (ap u) (jI L u v) r=((af L u).natAbs:Int)*gN (ap u) (ap v) r:=by unfold jI gN wQ;grind
def WC (u v:Pt) (r:H3):gN (jI L u v) (ap v) r=((af L v).natAbs:Int)*gN (ap u) (ap v) r:=by unfold jI gN wQ;grind
theorem GF (c:a_ cs) (dz:∃w∈cs,0<af L w) (en:∃w∈cs,af L w<0) (h:o0 L cs p q) (hr:Pm L cs r) (n1:r≠p) (n2:r≠q):0<gN p q r:=by
 cases h with
 | @full u v hc h1 h2 =>
  refine sW c hc hr n1 n2 (cV λhx=>?_);exact (gq hx).elim (λh=>eV.mpr h.2 h2) λh=>eV.mpr h.1 h1
 | @out u v hc h1 h2 =>
  have hx:=oA (cW ⟨h1,h2⟩);have nv:r≠ap v:=by rintro rfl;have:=hr.exc_le;rw[mM] at this;first | exact eV.mpr h1 this | exact eV.mpr h2 this
  have s:=sW c hc hr n1 nv (cW n2);rw[WD];exact aL (sQ hx).2 s
 | @inn u v hc h1 h2 =>
  have hx:=oA (cV ⟨h1,h2⟩);have nu:r≠ap u:=by rintro rfl;have:=hr.exc_le;rw[mM] at this;first | exact eV.mpr h1 this | exact eV.mpr h2 this
  have s:=sW c hc hr nu n2 (cW n1);rw[WC];exact aL (sQ hx).1 s
 | line hp hq =>
  obtain⟨k,m,k0,m0,f⟩:=KU c hp hq (sP c en hp hq);have le:=hr.exc_le;have lt:fo L r<0:=by
   rcases jR le with h | h
   ·exact h
   ·exfalso;rcases VM c dz hr h with h' | h'
    ·exact n1 (ZA c h' hp)
    ·exact n2 (UL c h' hq)
  have e:=f r;have:0<k*gN p q r:=by rw[e];exact FT (fZ m0 lt)
  exact iJ (by rw[gM];exact this) k0
theorem Lh (c:a_ cs) (en:∃w∈cs,af L w<0) (h:o0 L cs p q) (hr:∀u v,av cs u v->0<=gN (ap u) (ap v) r) (he:fo L r<=0):0<=gN p q r:=by
 cases h with
 | @full u v hc h1 h2=>exact hr u v hc
 | @out u v hc h1 h2 =>
  rw[WD];exact cY (uQ _) (hr u v hc)
 | @inn u v hc h1 h2 =>
  rw[WC];exact cY (uQ _) (hr u v hc)
 | line hp hq =>
  obtain⟨k,m,k0,m0,f⟩:=KU c hp hq (sP c en hp hq);have e:=f r;refine gX.mp λhn=>eV.mpr (fZ k0 hn) ?_;rw[e];exact Int.neg_nonneg_of_nonpos (eM (aQ m0) he)
theorem Ca (c:a_ cs) (en:∃w∈cs,af L w<0) (h:o0 L cs p q) (hr:∀u v,av cs u v->0<gN (ap u) (ap v) r) (he:fo L r<0):0<gN p q r:=by
 cases h with
 | @full u v hc h1 h2=>exact hr u v hc
 | @out u v hc h1 h2 =>
  rw[WD];exact aL (sQ (oA (cW ⟨h1,h2⟩))).2 (hr u v hc)
 | @inn u v hc h1 h2 =>
  rw[WC];exact aL (sQ (oA (cV ⟨h1,h2⟩))).1 (hr u v hc)
 | line hp hq =>
  obtain⟨k,m,k0,m0,f⟩:=KU c hp hq (sP c en hp hq);have e:=f r;have:0<k*gN p q r:=by rw[e];exact FT (fZ m0 he)
  exact iJ (by rw[gM];exact this) k0
theorem Ti (c:a_ cs) (hr:Pm L cs r) (h:av cs u v):0<=gN (ap u) (ap v) r:=by
 cases hr with
 | corner hw _=>rw[KM];exact c.side h hw
 | cross hc hx =>
  unfold jI;rw[KK,KM,KM];obtain⟨f1,f2⟩:=sQ hx;exact OH (cY (aQ f1) (c.side h hc.mem.1)) (cY (aQ f2) (c.side h hc.mem.2))
end
section
variable {L:az} {cs:List Pt}
theorem Jo (h:FZ (kM l X::Y) p q):FZ (l::(X++Y)) p q:=by
 induction X generalizing l with
 | nil=>exact h
 | cons x X ih =>
  obtain⟨a,b,e⟩:=ih (l:=x) h;exact⟨l::a,b,by simp at e ⊢;exact e⟩
theorem OV (hs:nq L cs l u w) (hv:av cs w v):nq L cs (kM l (fk L w v)) w v:=by
 obtain⟨h1,h2⟩:=QS [v] l u w hs ⟨hv,trivial⟩;obtain⟨t,ht,o6⟩:=h2 v (by simp) rfl;have e:Pl L [w,v]=fk L w v:=by simp[Pl]
 have ht':t=w:=ht.symm;rw[e,ht'] at o6;exact o6
theorem BY (k8:af L c0<0):∀(W:List Pt) (l:H3) (u w:Pt),nq L cs l u w->Run (av cs) w W->0<af L w->kM w W=c0->∃p q,gu L cs p/\Entry L cs q/\FZ (l::Pl L (w::W)) p q
 | [],l,u,w,hs,_,hw,e=>by
  exact absurd hw (pD (show af L w<0 from (show w=c0 from e) ▸ k8))
 | v::W,l,u,w,hs,⟨hv,hr⟩,hw,e=>by
  have ex:gu L cs l:=by
   rcases hs.2 with ⟨h0,_⟩ | ⟨h0,_⟩ | ⟨_,h⟩
   ·exact absurd hw (pD h0)
   ·exact absurd h0 (qV hw)
   ·exact h
  have st:=OV hs hv;have eP:Pl L (w::v::W)=fk L w v++Pl L (v::W):=rfl;rcases fK (af L v) 0 with k | k | k
  ·have hx:=oA (cV ⟨hw,k⟩);have eb:fk L w v=[jI L w v]:=(by unfold fk;rw[if_neg (eV.mpr hw),if_pos hx];rfl);refine⟨l,jI L w v,ex,⟨w,v,hv,hw,cW ⟨k,rfl⟩⟩,[],Pl L (v::W),?_⟩;rw[eP,eb];rfl
  ·have eb:fk L w v=[]:=(by unfold fk;rw[if_neg (eV.mpr hw),k];simp);cases W with
   | nil=>exact absurd k (yH (show af L v<0 from (show v=c0 from e) ▸ k8))
   | cons y W =>
    refine⟨l,ap v,ex,⟨w,v,hv,hw,cV ⟨k,rfl⟩⟩,[],(if af L v*af L y<0 then [jI L v y] else [])++Pl L (y::W),?_⟩;rw[eP,eb,Pl];unfold fk;rw[if_pos (Int.le_of_eq k)];simp
  ·have eb:fk L w v=[]:=by
    unfold fk;have:¬af L w*af L v<0:=λh=>(gq h).elim (λh=>pD h.1 hw) λh=>pD h.2 k;rw[if_neg (eV.mpr hw),if_neg this];rfl
   rw[eb] at st;obtain⟨p,q,hp,hq,hn⟩:=BY k8 W l w v st hr k e;exact⟨p,q,hp,hq,by rw[eP,eb];exact hn⟩
theorem Dm (k8:af L c0<0) (W:List Pt):∀(l:H3) (u w:Pt),nq L cs l u w->Run (av cs) w W->(∃x∈w::W,0<af L x)->kM w W=c0->∃p q,gu L cs p/\Entry L cs q/\FZ (l::Pl L (w::W)) p q:=by
 induction W with
 | nil =>
  intro l u w hs hr hx e;obtain⟨x,hx,hp⟩:=hx;rw[dY.mp hx] at hp;exact BY k8 [] l u w hs hr hp e
 | cons v W ih =>
  intro l u w hs hr hx e;by_cases hw:0<af L w
  ·exact BY k8 _ l u w hs hr hw e
  ·obtain⟨x,hx,hp⟩:=hx;obtain⟨p,q,h1,h2,h3⟩:=ih _ _ _ (OV hs hr.1) hr.2 ⟨x,(aO.mp hx).resolve_left λe=>hw (e ▸ hp),hp⟩ e;exact⟨p,q,h1,h2,Jo h3⟩
theorem Jp {P P2 P3:List H3} (e1:P=h::P2) (e2:P=P3++[l]) (hn:FZ (l::P) a b):FZ (P++P.take 1) a b:=by
 have t1:P.take 1=[h]:=by rw[e1];rfl
 rw[t1];obtain⟨x,y,e⟩:=hn;cases x with
 | nil =>
  have e':l::P=a::b::y:=e;rw[e1] at e';injection e' with k1 k2;injection k2 with k2 _;rw[<-k1,<-k2,e2,fL];exact⟨P3,[],rfl⟩
 | cons z x =>
  injection e with _ e;exact⟨x,y++[h],by rw[show P=x++a::b::y from e,fL];rfl⟩
theorem Od {P P2 P3:List H3} (e1:P=h::P2) (e2:P=P3++[l]) (hn:FZ (P++P.take 1) a b):FZ (l::P) a b:=by
 have t1:P.take 1=[h]:=by rw[e1];rfl
 rw[t1] at hn;obtain⟨x,y,e⟩:=hn;rcases fG y with rfl | ⟨y',w,rfl⟩
 ·have e':P++[h]=(x++[a])++[b]:=by rw[e,fL];rfl
  have k1:=lK e' rfl;have k2:=gY (e2.symm.trans k1) rfl;injection k2 with k2 _;have k3:=gY e' rfl;injection k3 with k3 _;rw[e1,k2,k3];exact⟨[],P2,rfl⟩
 ·have e':P++[h]=(x++a::b::y')++[w]:=by rw[e,fL];simp only[AI];rfl
  exact⟨l::x,y',by rw[lK e' rfl];rfl⟩
theorem Ss {P P2:List H3} (e1:P=h::P2) (hn:FZ (P++P.take 1) a b):a∈P/\b∈P:=by
 have t1:P.take 1=[h]:=by rw[e1];rfl
 have k:∀x∈P++P.take 1,x∈P:=λx hx=>(cS.mp hx).elim id λh=>jZ h;obtain⟨x,y,e⟩:=hn;have m:∀z,z∈a::b::y->z∈P:=λz hz=>k z (e ▸ bP x hz);exact⟨m _ (.head _),m _ (.tail _ (.head _))⟩
def G9 (A B:List H3):Prop:=∃X Y,A=X++Y/\B=Y++X
structure ni (L:az) (cs:List Pt) (P:List H3):Prop where
 nodup:P.Nodup
 pm:∀r∈P,Pm L cs r
 adj:∀p q,FZ (P++P.take 1) p q->o0 L cs p q
 len:3<=P.length
 line:∃p q,gu L cs p/\Entry L cs q/\FZ (P++P.take 1) p q
def dw {α:Type} (f:α->α->Int):α->List α->Int
 | _,[]=>0
 | a,b::l=>f a b+dw f b l
theorem sJ {α:Type} (f:α->α->Int):∀(a:α) (X Y:List α),dw f a (X++Y)=dw f a X+dw f (kM a X) Y
 | a,[],Y=>by simp[dw,kM]
 | a,b::X,Y=>by
  show f a b+dw f b (X++Y)=f a b+dw f b X+dw f (kM b X) Y;rw[sJ f b X Y];lia
def iF {α:Type} (f:α->α->Int):List α->Int
 | []=>0
 | z::T=>dw f z (T++[z])
theorem UP {α:Type}:∀(h:α) (T X:List α) (l:α),h::T=X++[l]->kM h T=l
 | h,[],X,l,e=>by
  cases X with
  | nil=>simp at e;exact e
  | cons x X=>simp at e
 | h,y::T,X,l,e=>by
  cases X with
  | nil=>simp at e
  | cons x X=>simp at e;exact UP y T X l (by simpa using e.2)
theorem UI {α:Type} (f:α->α->Int) {P X:List α} {l:α} (e:P=X++[l]):dw f l P=iF f P:=by
 cases P with
 | nil=>simp at e
 | cons h P2 =>
  show f l h+dw f h P2=dw f h (P2++[h]);rw[sJ,UP h P2 X l e];simp only[dw];lia
theorem YM {α:Type} (f:α->α->Int) (X Y:List α):iF f (X++Y)=iF f (Y++X):=by
 cases X with
 | nil=>simp
 | cons x X =>
  cases Y with
  | nil=>simp
  | cons y Y =>
   show dw f x ((X++y::Y)++[x])=dw f y ((Y++x::X)++[y]);rw[show (X++y::Y)++[x]=(X++[y])++(Y++[x]) by simp,show (Y++x::X)++[y]=(Y++[x])++(X++[y]) by simp,sJ,sJ f y,mB,mB];lia
def dl (d:Pt->Pt->Int):Pt->Pt->List Pt->Int
 | u,w,[]=>d u w
 | _,w,v::W=>dl d w v W
theorem Gf (d:Pt->Pt->Int):∀(A:List Pt) (u w x y:Pt),dl d u w (A++[x,y])=d x y
 | [],_,_,_,_=>rfl
 | a::A,u,w,x,y=>Gf d A w a x y
theorem Ah {f:H3->H3->Int} {d e:Pt->Pt->Int} (hf:∀l u w v,nq L cs l u w->av cs w v->dw f l (fk L w v)=d u w+e w v):∀(W:List Pt) (l:H3) (u w:Pt),nq L cs l u w->Run (av cs) w W->dw f l (Pl L (w::W))+dl d u w W=d u w+dw (λa b=>d a b+e a b) w W
 | [],l,u,w,hs,_=>by simp[Pl,dw,dl]
 | v::W,l,u,w,hs,hr=>by
  have ih:=Ah hf W (kM l (fk L w v)) w v (OV hs hr.1) hr.2;show dw f l (fk L w v++Pl L (v::W))+dl d w v W=d u w+((d w v+e w v)+dw (λa b=>d a b+e a b) v W);rw[sJ,hf l u w v hs hr.1];lia
theorem Zd (Cb:av cs u0 c0) (k8:af L c0<0):∃l0,nq L cs l0 u0 c0/\∀l,nq L cs l u0 c0->l=l0:=by
 have first {l:H3} (hl:nq L cs l u0 c0):=hl.2.resolve_right λh=>h.elim (λk=>absurd k.1 (yH k8)) λk=>pD k.1 k8;by_cases h:af L u0<=0
 ·exact⟨ap u0,⟨Cb,cW ⟨k8,cW ⟨h,rfl⟩⟩⟩,λl hl=>(first hl).2.elim (·.2) λk=>absurd h (eV.mpr k.1)⟩
 ·exact⟨jI L u0 c0,⟨Cb,cW ⟨k8,cV ⟨eV.mp h,rfl⟩⟩⟩,λl hl=>(first hl).2.elim (λk=>absurd k.1 h) (·.2)⟩
theorem Lf (k8:af L c0<0) (Z:List Pt):ap c0∈Pl L (c0::(Z++[c0])):=by
 cases hz:Z++[c0] with
 | nil=>simp at hz
 | cons y r=>rw[Pl];unfold fk;rw[if_pos (aQ k8)];exact .head _
theorem BN (c:a_ cs) (dz:∃w∈cs,0<af L w) (en:∃w∈cs,af L w<0):∃P',G9 (Pl L (cs++cs.take 1)) P'/\ni L cs P'/\∀(f:H3->H3->Int) (d e:Pt->Pt->Int),(∀l u w v,nq L cs l u w->av cs w v->dw f l (fk L w v)=d u w+e w v)->iF f P'=iF (λa b=>d a b+e a b) cs:=by
 obtain⟨c0,x_,k8⟩:=en;have en:∃w∈cs,af L w<0:=⟨c0,x_,k8⟩;obtain⟨X,Y,tv⟩:=nD x_;have c2:a_ ((c0::Y)++X):=by rw[tv] at c;exact c.swap
 have Q_:∀{a b},av ((c0::Y)++X) a b->av cs a b:=λh=>by rw[tv];exact IG h
 rw[aY] at c2 Q_;obtain⟨Z,hZ⟩:∃Z,Z=Y++X:=⟨_,rfl⟩;rw[<-hZ] at c2 Q_;have runs:Run (av cs) c0 (Z++[c0]):=Es _ _ λa b h=>Q_ (by show gz ((c0::Z)++[c0]) a b;exact h);obtain⟨u0,Z2,eZ⟩:∃t Z2,Z=Z2++[t]:=by
  rcases fG Z with h | ⟨Z2,t,h⟩
  ·have:=c2.len;rw[h] at this;simp at this
  ·exact⟨t,Z2,by simpa using h⟩
 have Cb:av cs u0 c0:=Q_ ⟨c0::Z2,[],by rw[eZ];simp⟩;obtain⟨l0,W8⟩:=Zd Cb k8;obtain⟨o6,yr⟩:=W8;obtain⟨r1,r2⟩:=QS (Z++[c0]) l0 u0 c0 o6 runs;obtain⟨t,ht,yq⟩:=r2 c0 (by simp) (mB _ _ _);rw[<-ht,jX,eZ,show kM u0 (c0::(Z2++[u0]))=u0 from mB _ (c0::Z2) _,<-eZ] at yq;have el:=yr _ yq;have top:=Lf (L:=L) k8 Z;have U6:Pl L (c0::(Z++[c0]))≠[]:=λe=>by rw[e] at top;cases top
 have mem:=Lg (L:=L) (c0:=c0) (Z++[c0]) c0 runs;have nd:=(XV (L:=L) c (Z++[c0]) c0 runs (by
  show (c0::(Z++[c0])).dropLast.Nodup;rw[<-aY,jX];exact c2.nodup)).1
 obtain⟨p,q,hp,hq,hn⟩:=Dm k8 (Z++[c0]) l0 u0 c0 o6 runs (by
  obtain⟨w,hw,Z3⟩:=dz;refine⟨w,?_,Z3⟩;rw[tv] at hw;rcases cS.mp hw with h | h
  ·exact .tail _ (fD _ (hZ ▸ bP _ h))
  ·exact (aO.mp h).elim (λe=>e ▸ .head _) λh=>.tail _ (fD _ (hZ ▸ fD _ h))) (mB _ _ _)
 obtain⟨P,hP⟩:∃P,Pl L (c0::(Z++[c0]))=P:=⟨_,rfl⟩;rw[hP] at r1 el U6 top mem nd hn;obtain⟨h,P2,eP⟩:∃h P2,P=h::P2:=by
  cases P with
  | nil=>exact absurd rfl U6
  | cons h P2=>exact⟨h,P2,rfl⟩
 obtain⟨P3,U5⟩:∃P3,P=P3++[l0]:=by
  rcases fG P with h | ⟨P3,x,h⟩
  ·exact absurd h U6
  ·have e:P=P3++[x]:=(by simpa using h);rw[e,mB] at el;exact⟨P3,by rw[e,el]⟩
 have hn:=Jp eP U5 hn;obtain⟨memp,memq⟩:=Ss eP hn;have ne1:q≠p:=sP c en hp hq;have n0:∀z:H3,fo L z=0->ap c0≠z:=λz hz e=>by rw[<-e,mM] at hz;lia
 refine⟨P,?_,⟨nd,mem,λa b c8=>Hl l0 P r1 a b (Od eP U5 c8),?_,p,q,hp,hq,hn⟩,λf d e hf=>?_⟩
 ·-- turned about
  rw[<-hP,tv,hZ];cases X with
  | nil=>exact⟨Pl L (c0::(Y++[c0])),[],by simp,by simp⟩
  | cons x X =>
   have e1:(x::X++c0::Y)++(x::X++c0::Y).take 1=(x::X)++c0::(Y++[x]):=(by simp);have e2:c0::(Y++x::X++[c0])=(c0::Y)++x::(X++[c0]):=(by simp);rw[e1,e2,VU L (x::X) c0 (Y++[x]),VU L (c0::Y) x (X++[c0])];exact⟨_,_,rfl,by simp⟩
 ·exact len_sub [ap c0,p,q] P (fN.mpr ⟨λh=>(aO.mp h).elim (n0 p hp.pm.2) λh=>n0 q hq.pm.2 (dY.mp h),fN.mpr ⟨λh=>ne1 (dY.mp h).symm,xI _ q⟩⟩) λx hx=>(aO.mp hx).elim (λe=>e ▸ top) λhx=>(aO.mp hx).elim (λe=>e ▸ memp) λhx=>dY.mp hx ▸ memq
 ·have ps:=Ah hf (Z++[c0]) l0 u0 c0 o6 runs;rw[hP,UI f U5] at ps;have e1:dl d u0 c0 (Z++[c0])=d u0 c0:=by rw[eZ,fL];exact Gf d Z2 u0 c0 u0 c0
  rw[e1] at ps;have e2:dw (λa b=>d a b+e a b) c0 (Z++[c0])=iF (λa b=>d a b+e a b) cs:=by
   show iF (λa b=>d a b+e a b) (c0::Z)=_;rw[hZ,tv,YM _ X (c0::Y)];rfl
  lia
end
section
open PySem PySem.Spec PyProof.Rows L2
inductive D where
 | non | bl (b:Bool) | int (i:Int) | str (x:Str) | tup (xs:List D) | lst (xs:List D) | dct (ks:List Int) (xs:List D) | dtt (ks:List (List Int)) (xs:List D)
def ph (K:aI) (H:Hp) (a:Addr) (vs:List V):Prop :=
 (∃o,H a=some (.frz o (.lst vs))) \/
  ∃(o:Obj) (its:Array aD) (n:Nat),K.lookup a=some o/\o.cls = .type "list"/\o.dict=none/\o.data = .seq its n/\its.size<=sizeLine/\aq vs its.toList
theorem ph.sq {K:aI} {H:Hp} {a:Addr} {vs:List V}:ph K H a vs->g_ K H a vs
 | .inl ⟨o,h⟩=>.inl (.inr ⟨o,h⟩)
 | .inr h=>.inr h
def K4 (col:Nat):Str:=if col=28 then "rising.<locals>.<lambda>" else if col=59 then "framed_rising.<locals>.<lambda>" else "laid_triangles.<locals>.<lambda>"
abbrev Zk (c:Addr) (q:Str):HO:=.ext λh=>∃oc vs t,h.get? c=some oc/\oc.data = .fields vs/\vs[1]? = some (.str q t)
structure ki (H:Hp) (ps:Array aD):Prop where
 ok:TriplesOk ps.toList
 code:∀pos cv,codeAmong pos ps.toList=some cv->∃c,cv = .ref c/\H c=some (Zk c (K4 pos.col))
def ke (H H':Hp):Prop:=∀b ps,H b=some (.tbl ps)->∃more,H' b=some (.tbl (ps++more))/\(ki H ps->ki H' (ps++more))
def ke.trans (a:ke H H1) (b:ke H1 H2):ke H H2:=λc ps h=>by
 obtain⟨m1,e1,f1⟩:=a c ps h;obtain⟨m2,e2,f2⟩:=b c _ e1;exact⟨m1++m2,by rw[e2,uM],λx=>by rw[<-uM];exact f2 (f1 x)⟩
def ki.mono (x:ki H ps) (k:∀b φ,H b=some (.ext φ)->H' b=some (.ext φ)):ki H' ps:=⟨x.ok,λpos cv e=>let ⟨c,e1,e2⟩:=x.code pos cv e;⟨c,e1,k _ _ e2⟩⟩
def ke.of (k:∀b φ,H b=some (.ext φ)->H' b=some (.ext φ)) (h:∀b ps,H b=some (.tbl ps)->H' b=some (.tbl ps)):ke H H':=λb ps e=>⟨#[],by rw[FO];exact h b ps e,λx=>by rw[FO];exact x.mono k⟩
def NT:HO->Prop
 | .tbl _=>False
 | _=>True
structure ak (H H':Hp):Prop where
 tups:∀b xs,H b=some (.tup xs)->H' b=some (.tup xs)
 frzs:∀b o u,H b=some (.frz o u)->H' b=some (.frz o u)
 exts:∀b φ,H b=some (.ext φ)->H' b=some (.ext φ)
 xds:∀b fs,H b=some (.xd fs)->H' b=some (.xd fs)
 tbls:ke H H'
def ak.refl (H:Hp):ak H H:=⟨λ_ _ h=>h,λ_ _ _ h=>h,λ_ _ h=>h,λ_ _ h=>h,.of (λ_ _ h=>h) λ_ _ h=>h⟩
def ak.trans (a:ak H H1) (b:ak H1 H2):ak H H2 :=
 ⟨λc xs h=>b.tups c xs (a.tups c xs h),λc o u h=>b.frzs c o u (a.frzs c o u h),λc φ h=>b.exts c φ (a.exts c φ h),λc fs h=>b.xds c fs (a.xds c fs h),a.tbls.trans b.tbls⟩
structure ag (H H':Hp):Prop where
 get:∀b o,H b=some o->NT o->H' b=some o
 tbls:ke H H'
def ag.fn (f:∀b o,H b=some o->H' b=some o):ag H H':=⟨λb o h _=>f b o h,.of (λb φ h=>f b _ h) λb ps h=>f b _ h⟩
def ag.refl (H:Hp):ag H H:=.fn λ_ _ h=>h
def ag.trans (a:ag H H1) (b:ag H1 H2):ag H H2:=⟨λc o h n=>b.get c o (a.get c o h n) n,a.tbls.trans b.tbls⟩
theorem ag.free (e:ag H H') (h:H' l=BI):H l=BI:=by
 cases q:H l with
 | none=>rfl
 | some o =>
  cases o with
  | tbl ps=>obtain⟨m,e1,_⟩:=e.tbls l ps q;rw[e1] at h;cases h
  | _=>rw[e.get l _ q trivial] at h;cases h
def ak.of (s:ag H H'):ak H H':=⟨λb xs h=>s.get b _ h trivial,λb o u h=>s.get b _ h trivial,λb φ h=>s.get b _ h trivial,λb fs h=>s.get b _ h trivial,s.tbls⟩
def ak.ofF (f:∀b o,H b=some o->H' b=some o):ak H H':=.of (.fn f)
def WT:List Str:=["rising","framed_rising","laid_triangles"]
def gl (K:aI) (H:Hp):Prop:=∀x c P,x∈WT->SJ K x=some (c,P)->∃ps,H P=some (.tbl ps)/\ki H ps
def gl.tabK {K:aI} {H H':Hp} (t:gl K H) (k:ke H H'):gl K H':=λx c P m e=>by
 obtain⟨ps,h1,h2⟩:=t x c P m e;obtain⟨more,h3,h4⟩:=k P ps h1;exact⟨_,h3,h4 h2⟩
def ak.chg1 (h:H p=some u) (n:(∃xs,u = .lst xs)\/(∃cf,u = .dK cf)\/∃cf,u = .dT cf):ak H (bB H p u'):=by
 have ne:∀b o,H b=some o->(∀xs,o≠.lst xs)->(∀cf,o≠.dK cf)->(∀cf,o≠.dT cf)->bB H p u' b=some o:=λb o q n1 n2 n3=>by
  rw[cX]
  ·exact q
  ·rintro rfl;rw[h] at q;cases q;rcases n with ⟨xs,rfl⟩ | ⟨cf,rfl⟩ | ⟨cf,rfl⟩
   ·exact n1 _ rfl
   ·exact n2 _ rfl
   ·exact n3 _ rfl
 exact⟨λb _ q=>ne b _ q (λ_ z=>by cases z) (λ_ z=>by cases z) (λ_ z=>by cases z),λb _ _ q=>ne b _ q (λ_ z=>by cases z) (λ_ z=>by cases z) (λ_ z=>by cases z),λb _ q=>ne b _ q (λ_ z=>by cases z) (λ_ z=>by cases z) (λ_ z=>by cases z),λb _ q=>ne b _ q (λ_ z=>by cases z) (λ_ z=>by cases z) (λ_ z=>by cases z),
  .of (λb _ q=>ne b _ q (λ_ z=>by cases z) (λ_ z=>by cases z) (λ_ z=>by cases z)) λb _ q=>ne b _ q (λ_ z=>by cases z) (λ_ z=>by cases z) (λ_ z=>by cases z)⟩
def IS (ks:List Int) (vs:List V):List (iu × V):=nG (λk v=>(uB k,v)) ks vs
def yY (ks:List (List Int)) (vs:List V):List (List iu × V):=nG (λk v=>(k.map uB,v)) ks vs
mutual
inductive c7 (K:aI) (H:Hp):D->V->Prop
 | non:c7 K H .non .non
 | bl (b:Bool):c7 K H (.bl b) (.bl b)
 | int (i:Int):c7 K H (.int i) (.int i)
 | str (x:Str):c7 K H (.str x) (.str x)
 | tup {a:Addr} {vs:List V} {ds:List D} (h:H a=some (.tup vs)) (r:ah K H ds vs):c7 K H (.tup ds) (.ref a)
 | lst {a:Addr} {vs:List V} {ds:List D} (h:ph K H a vs) (r:ah K H ds vs):c7 K H (.lst ds) (.ref a)
 | dct {a:Addr} {vs:List V} {ds:List D} {ks:List Int} {o:Obj} (h:H a=some (.frz o (.dK (IS ks vs)))) (hl:ks.length=vs.length) (r:ah K H ds vs):c7 K H (.dct ks ds) (.ref a)
 | dtt {a:Addr} {vs:List V} {ds:List D} {ks:List (List Int)} {o:Obj} (h:H a=some (.frz o (.dT (yY ks vs)))) (hl:ks.length=vs.length) (r:ah K H ds vs):c7 K H (.dtt ks ds) (.ref a)
inductive ah (K:aI) (H:Hp):List D->List V->Prop
 | nil:ah K H [] []
 | cons {d:D} {v:V} {ds:List D} {vs:List V} (h:c7 K H d v) (t:ah K H ds vs):ah K H (d::ds) (v::vs)
end
section
variable {K:aI} {H H':Hp}
theorem ph.keep {a:Addr} {vs:List V} (k:ak H H') (h:ph K H a vs):ph K H' a vs:=by
 rcases h with ⟨o,h⟩ | h
 ·exact .inl ⟨o,k.frzs _ _ _ h⟩
 ·exact .inr h
mutual
theorem c7.keep (k:ak H H'):∀{d:D} {v:V},c7 K H d v->c7 K H' d v
 | _,_,.non=>.non
 | _,_,.bl b=>.bl b
 | _,_,.int i=>.int i
 | _,_,.str x=>.str x
 | _,_,.tup h r=>.tup (k.tups _ _ h) (ah.keep k r)
 | _,_,.lst h r=>.lst (ph.keep k h) (ah.keep k r)
 | _,_,.dct h hl r=>.dct (k.frzs _ _ _ h) hl (ah.keep k r)
 | _,_,.dtt h hl r=>.dtt (k.frzs _ _ _ h) hl (ah.keep k r)
theorem ah.keep (k:ak H H'):∀{ds:List D} {vs:List V},ah K H ds vs->ah K H' ds vs
 | _,_,.nil=>.nil
 | _,_,.cons h t=>.cons (c7.keep k h) (ah.keep k t)
end
theorem ah.length:∀{ds:List D} {vs:List V},ah K H ds vs->ds.length=vs.length
 | _,_,.nil=>rfl
 | _,_,.cons _ t=>by simp[ah.length t]
theorem ah.get:∀{ds:List D} {vs:List V} {i:Nat} {d:D},ah K H ds vs->ds[i]? = some d->∃v,vs[i]? = some v/\c7 K H d v
 | _,_,_,_,.nil,e=>by simp at e
 | _,_,0,_,.cons h _,e=>by simp at e;subst e;exact⟨_,rfl,h⟩
 | _,_,i+1,d,.cons _ t,e=>by
  obtain⟨v,h1,h2⟩:=ah.get (i:=i) (d:=d) t (by simpa using e);exact⟨v,by simpa using h1,h2⟩
theorem ah.append:∀{ds es:List D} {vs us:List V},ah K H ds vs->ah K H es us->ah K H (ds++es) (vs++us)
 | _,_,_,_,.nil,s=>s
 | _,_,_,_,.cons h t,s=>.cons h (ah.append t s)
theorem ah.take:∀{ds:List D} {vs:List V} (n:Nat),ah K H ds vs->ah K H (ds.take n) (vs.take n)
 | _,_,0,_=>.nil
 | _,_,_+1,.nil=>.nil
 | _,_,n+1,.cons r t=>.cons r (ah.take n t)
theorem ah.drop:∀{ds:List D} {vs:List V} (n:Nat),ah K H ds vs->ah K H (ds.drop n) (vs.drop n)
 | _,_,0,r=>r
 | _,_,_+1,.nil=>.nil
 | _,_,n+1,.cons _ t=>ah.drop n t
theorem ah.dropLast:∀{ds:List D} {vs:List V},ah K H ds vs->ah K H ds.dropLast vs.dropLast
 | _,_,.nil=>.nil
 | _,_,.cons _ .nil=>.nil
 | _,_,.cons r (.cons r2 t)=>by
  simp only[SH];exact .cons r (ah.dropLast (.cons r2 t))
theorem ah.reverse:∀{ds:List D} {vs:List V},ah K H ds vs->ah K H ds.reverse vs.reverse
 | _,_,.nil=>.nil
 | _,_,.cons r t=>by
  simp only[vX];exact (ah.reverse t).append (.cons r .nil)
theorem c7.int_inv {i:Int} {v:V} (h:c7 K H (.int i) v):v = .int i:=by cases h;rfl
theorem c7.bl_inv (h:c7 K H (.bl b) v):v = .bl b:=by cases h;rfl
theorem ah.ints:∀{ns:List Int},ah K H (ns.map D.int) (ns.map V.int)
 | []=>.nil
 | _::_=>.cons (.int _) ah.ints
theorem ah.ints_inv:∀{ns:List Int} {vs:List V},ah K H (ns.map D.int) vs->vs=ns.map V.int
 | [],_,h=>by cases h;rfl
 | n::ns,_,h=>by
  cases h with
  | cons h t=>rw[h.int_inv,ah.ints_inv t];rfl
end
def df (K:aI) (H:Hp) (d:D) (v:V):Prop :=
 c7 K H d v\/∃ds a vs,d = .lst ds/\v = .ref a/\H a=some (.lst vs)/\ah K H ds vs
def df.same {K:aI} {H H':Hp} {d:D} {v:V} (s:ag H H') (h:df K H d v):df K H' d v:=by
 rcases h with h | ⟨ds,a,vs,e1,e2,e3,r⟩
 ·exact .inl (h.keep (.of s))
 ·exact .inr ⟨ds,a,vs,e1,e2,s.get _ _ e3 trivial,r.keep (.of s)⟩
def df.lst {K:aI} {H:Hp} {ds:List D} {v:V} (h:df K H (.lst ds) v):∃a vs,v = .ref a/\g_ K H a vs/\ah K H ds vs:=by
 rcases h with h | ⟨ds',a,vs,e1,e2,e3,r⟩
 ·cases h with
  | lst h r=>exact⟨_,_,rfl,h.sq,r⟩
 ·cases e1;exact⟨a,vs,e2,g_.of e3,r⟩
def df.tup {K:aI} {H:Hp} {ds:List D} {v:V} (h:df K H (.tup ds) v):∃a vs,v = .ref a/\H a=some (.tup vs)/\ah K H ds vs:=by
 rcases h with h | ⟨ds',a,vs,e1,e2,e3,r⟩
 ·cases h with
  | tup h r=>exact⟨_,_,rfl,h,r⟩
 ·cases e1
inductive S where
 | d (x:D) | own (xs:List D) | dcl (cf:List (Int × List D)) | box (t:Bool) (jd:List (List D)) | exc (C:Addr) (y:Str) (c:Int) | dt (ks:List (List Int)) (xs:List D) | raw (v:V) | mem (b:Bool) (x:D) (R:aI->Hp->Hp->V->Prop)
def S.val:S->D
 | .d x=>x
 | .own xs=>.lst xs
 | .dcl _=>.non
 | .box _ _=>.non
 | .exc _ _ _=>.non
 | .dt _ _=>.non
 | .raw _=>.non
 | .mem _ x _=>x
abbrev En:=List (Option S)
inductive ml (K:aI) (H₀ H:Hp):List (Int × List D)->List (iu × V)->List Addr->Prop
 | nil:ml K H₀ H [] [] []
 | cons {k:Int} {b:Addr} {vs:List V} {ds:List D} {cf:List (Int × List D)} {du:List (iu × V)} {as:List Addr} (h:H b=some (.lst vs)) (h0:H₀ b=none) (r:ah K H ds vs) (n:b ∉ as) (t:ml K H₀ H cf du as) :
   ml K H₀ H ((k,ds)::cf) ((uB k,.ref b)::du) (b::as)
abbrev Qk (C e dx:Addr):HO:=.ext λh=>∃oe vs,h.get? e=some oe/\oe.cls = .ref C/\oe.data = .fields vs/\oe.dict=some dx
def ja (K:aI) (H₀ H:Hp):S->V->Prop
 | .exc C y c,v=>∃e dx,v = .ref e/\H e=some (Qk C e dx)/\H dx=some (.xd [(y,.int c)])
 | .d x,v=>c7 K H x v
 | .raw u,v=>v=u
 | .mem b x R,v=>(b=true->c7 K H x v)/\∀H',ak H H'->R K H₀ H' v
 | .dt ks xs,v=>∃a vs,v = .ref a/\H a=some (.dT (yY ks vs))/\H₀ a=none/\ks.length=vs.length/\ah K H xs vs
 | .own xs,v=>∃a vs,v = .ref a/\H a=some (.lst vs)/\H₀ a=none/\ah K H xs vs
 | .dcl cf,v=>∃a du as,v = .ref a/\H a=some (.dK du)/\H₀ a=none/\ml K H₀ H cf du as
 | .box false jd,v=>∃a du as,v = .ref a/\H a=some (.lst (as.map V.ref))/\H₀ a=none/\a ∉ as/\ml K H₀ H (jd.map λx=>(0,x)) du as
 | .box true jd,v=>∃a du as,v = .ref a/\H a=some (.tup (as.map V.ref))/\ml K H₀ H (jd.map λx=>(0,x)) du as
def Ow (H:Hp):S->V->Addr->Prop
 | .exc _ _ _,_,_=>False
 | .raw _,_,_=>False
 | .mem _ _ _,_,_=>False
 | .d _,_,_=>False
 | .own _,v,a=>v = .ref a
 | .dt _ _,v,a=>v = .ref a
 | .dcl _,v,a=>∃p du,v = .ref p/\H p=some (.dK du)/\(a=p\/∃k,(k,V.ref a)∈du)
 | .box false _,v,a=>∃p vs,v = .ref p/\H p=some (.lst vs)/\(a=p\/V.ref a∈vs)
 | .box true _,v,a=>∃p vs,v = .ref p/\H p=some (.tup vs)/\V.ref a∈vs
structure au (X:Cx) (ρ:En) (σ:St) (H:Hp):Prop where
 len:ρ.length=σ.length
 same:ag X.H₀ H
 rel:∀(i:Nat) (x:S),ρ[i]? = some (some x)->∃v,σ[i]? = some (some v)/\ja X.K X.H₀ H x v
 sep:∀(i j:Nat) (x y:S) (v u:V) (a:Addr),ρ[i]? = some (some x)->ρ[j]? = some (some y)->σ[i]? = some (some v)->σ[j]? = some (some u)->Ow H x v a->Ow H y u a->i=j
 t0:gl X.K X.H₀
section
variable {K:aI} {H₀ H H':Hp}
theorem ml.keep {cf:List (Int × List D)} {du:List (iu × V)} {as:List Addr} (k:ak H H') (t:ml K H₀ H cf du as) (w:∀a∈as,∀o,H a=some o->H' a=some o):ml K H₀ H' cf du as:=by
 induction t with
 | nil=>exact .nil
 | cons h h0 r n t ih=>exact .cons (w _ (.head _) _ h) h0 (r.keep k) n (ih λa m=>w a (.tail _ m))
theorem ml.mem {cf:List (Int × List D)} {du:List (iu × V)} {as:List Addr} {a:Addr} (t:ml K H₀ H cf du as):a∈as↔∃k,(k,V.ref a)∈du:=by
 induction t with
 | nil=>simp
 | cons h h0 r n t ih =>
  rw[aO,ih];constructor
  ·rintro (rfl | ⟨k,e⟩)
   ·exact⟨_,.head _⟩
   ·exact⟨k,.tail _ e⟩
  ·rintro⟨k,e⟩;rcases aO.mp e with e | e
   ·cases e;exact .inl rfl
   ·exact .inr ⟨k,e⟩
theorem ml.at {cf:List (Int × List D)} {du:List (iu × V)} {as:List Addr} {a:Addr} (t:ml K H₀ H cf du as) (m:a∈as):H₀ a=none/\∃vs,H a=some (.lst vs):=by
 induction t with
 | nil=>cases m
 | cons h h0 r n t ih =>
  rcases aO.mp m with rfl | m
  ·exact⟨h0,_,h⟩
  ·exact ih m
theorem GL:∀{ks:List Int} {vs:List V},ks.length=vs.length->(IS ks vs).map (·.2)=vs
 | [],[],_=>rfl
 | [],_::_,h=>by cases h
 | _::_,[],h=>by cases h
 | k::ks,v::vs,h=>by
  show v::(IS ks vs).map (·.2)=v::vs;rw[GL (by simpa using h)]
theorem ml.refs {cf:List (Int × List D)} {du:List (iu × V)} {as:List Addr} (t:ml K H₀ H cf du as):du.map (·.2)=as.map V.ref:=by
 induction t with
 | nil=>rfl
 | cons h h0 r n t ih=>rw[aV,aV,ih]
theorem Ow.at {x:S} {v:V} {a:Addr} (r:ja K H₀ H x v) (w:Ow H x v a):H₀ a=none/\((∃vs,H a=some (.lst vs))\/(∃du,H a=some (.dK du))\/∃du,H a=some (.dT du)):=by
 cases x with
 | d x=>exact w.elim
 | exc C y c=>exact w.elim
 | raw u=>exact w.elim
 | mem b x R=>exact w.elim
 | own xs =>
  obtain⟨b,vs,rfl,h,h0,_⟩:=r;cases w;exact⟨h0,.inl ⟨vs,h⟩⟩
 | dt ks xs =>
  obtain⟨b,vs,rfl,h,h0,_⟩:=r;cases w;exact⟨h0,.inr (.inr ⟨_,h⟩)⟩
 | dcl cf =>
  obtain⟨b,du,as,rfl,h,h0,t⟩:=r;obtain⟨p,kws',e,h',m⟩:=w;cases e;rw[h] at h';cases h';rcases m with rfl | m
  ·exact⟨h0,.inr (.inl ⟨du,h⟩)⟩
  ·obtain⟨g0,g1⟩:=t.at (t.mem.mpr m);exact⟨g0,.inl g1⟩
 | box t jd =>
  cases t with
  | false =>
   obtain⟨b,du,as,rfl,h,h0,_,t⟩:=r;obtain⟨p,vs,e,h',m⟩:=w;cases e;rw[h] at h';cases h';rcases m with rfl | m
   ·exact⟨h0,.inl ⟨_,h⟩⟩
   ·obtain⟨c,hc,e⟩:=bJ.mp m;cases e;obtain⟨g0,g1⟩:=t.at hc;exact⟨g0,.inl g1⟩
  | true =>
   obtain⟨b,du,as,rfl,h,t⟩:=r;obtain⟨p,vs,e,h',m⟩:=w;cases e;rw[h] at h';cases h';obtain⟨c,hc,e⟩:=bJ.mp m;cases e;obtain⟨g0,g1⟩:=t.at hc;exact⟨g0,.inl g1⟩
theorem ja.move {x:S} {v:V} (k:ak H H') (r:ja K H₀ H x v) (w:∀a,Ow H x v a->∀o,H a=some o->H' a=some o):ja K H₀ H' x v/\∀a,Ow H' x v a->Ow H x v a:=by
 cases x with
 | d x=>exact⟨c7.keep k r,λa e=>e⟩
 | raw u=>exact⟨r,λa e=>e⟩
 | mem b x R=>exact⟨⟨λe=>(r.1 e).keep k,λH2 k2=>r.2 H2 (k.trans k2)⟩,λa e=>e⟩
 | exc C y c =>
  obtain⟨e,dx,rfl,h1,h2⟩:=r;exact⟨⟨e,dx,rfl,k.exts _ _ h1,k.xds _ _ h2⟩,λa e=>e⟩
 | own xs =>
  obtain⟨b,vs,rfl,h,h0,rr⟩:=r;exact⟨⟨b,vs,rfl,w b rfl _ h,h0,rr.keep k⟩,λa e=>e⟩
 | dt ks xs =>
  obtain⟨b,vs,rfl,h,h0,hl,rr⟩:=r;exact⟨⟨b,vs,rfl,w b rfl _ h,h0,hl,rr.keep k⟩,λa e=>e⟩
 | dcl cf =>
  obtain⟨b,du,as,rfl,h,h0,t⟩:=r;have hb:=w b ⟨b,du,rfl,h,.inl rfl⟩ _ h;refine⟨⟨b,du,as,rfl,hb,h0,t.keep k λa m=>w a ⟨b,du,rfl,h,.inr (t.mem.mp m)⟩⟩,λa e=>?_⟩;obtain⟨p,kws',e,h',m⟩:=e;cases e;rw[hb] at h';cases h';exact⟨b,du,rfl,h,m⟩
 | box t jd =>
  cases t with
  | false =>
   obtain⟨b,du,as,rfl,h,h0,nb,t⟩:=r;have hb:=w b ⟨b,_,rfl,h,.inl rfl⟩ _ h;refine⟨⟨b,du,as,rfl,hb,h0,nb,t.keep k λa m=>w a ⟨b,_,rfl,h,.inr (dP m)⟩⟩,λa e=>?_⟩;obtain⟨p,vs,e,h',m⟩:=e;cases e;rw[hb] at h';cases h';exact⟨b,_,rfl,h,m⟩
  | true =>
   obtain⟨b,du,as,rfl,h,t⟩:=r;have hb:=k.tups b _ h;refine⟨⟨b,du,as,rfl,hb,t.keep k λa m=>w a ⟨b,_,rfl,h,dP m⟩⟩,λa e=>?_⟩;obtain⟨p,vs,e,h',m⟩:=e;cases e;rw[hb] at h';cases h';exact⟨b,_,rfl,h,m⟩
theorem ag.own {x:S} {v:V} {a:Addr} {o:HO} (s:ag H H') (r:ja K H₀ H x v) (w:Ow H x v a) (h:H a=some o):H' a=some o:=by
 obtain⟨_,⟨_,q⟩ | ⟨_,q⟩ | ⟨_,q⟩⟩:=Ow.at r w <;> rw[h] at q <;> cases q <;> exact s.get _ _ h trivial
theorem ja.same {x:S} {v:V} (s:ag H H') (h:ja K H₀ H x v):ja K H₀ H' x v:=(h.move (.of s) λa w o e=>s.own h w e).1
end
section
variable {X:Cx} {ρ:En} {σ:St} {H H':Hp}
theorem au.tabs (st:au X ρ σ H):gl X.K H:=st.t0.tabK st.same.tbls
theorem au.ext (st:au X ρ σ H) (s:ag H H'):au X ρ σ H':=by
 refine⟨st.len,st.same.trans s,λi x e=>let ⟨v,h1,h2⟩:=st.rel i x e;⟨v,h1,h2.same s⟩,λi j x y v u a e1 e2 e3 e4 o1 o2=>?_,st.t0⟩;obtain⟨v',h1,h2⟩:=st.rel i x e1;obtain⟨u',g1,g2⟩:=st.rel j y e2;rw[h1] at e3;cases e3;rw[g1] at e4;cases e4;exact st.sep i j x y _ _ a e1 e2 h1 g1 ((h2.move (.of s) λa w o e=>s.own h2 w e).2 a o1) ((g2.move (.of s) λa w o e=>s.own g2 w e).2 a o2)
theorem OB {α:Type} {xs:List (Option α)} {x y:α} (e:(xs.set i (some x))[j]? = some (some y)):(j=i/\y=x/\i<xs.length)\/(i≠j/\xs[j]? = some (some y)):=by
 by_cases hj:i=j
 ·subst hj;by_cases h:i<xs.length
  ·rw[iS h] at e;cases e;exact .inl ⟨rfl,rfl,h⟩
  ·rw[List.set_eq_of_length_le (by lia),iZ (by lia)] at e;cases e
 ·rw[iO hj] at e;exact .inr ⟨hj,e⟩
theorem au.chg (st:au X ρ σ H) {i:Nat} {x':S} {v':V} {W:Addr->Prop} (kp:ak H H') (h0:ag X.H₀ H') (h1:∀b o,H b=some o->NT o->¬W b->H' b=some o) (h2:ja X.K X.H₀ H' x' v')
  (h3:∀a,Ow H' x' v' a->W a\/H a=none) (h4:∀(j:Nat) (y:S) (u:V) (a:Addr),j≠i->ρ[j]? = some (some y)->σ[j]? = some (some u)->Ow H y u a->¬W a):au X (ρ.set i (some x')) (σ.set i (some v')) H':=by
 have old:∀(j:Nat) (y:S),j≠i->ρ[j]? = some (some y)->∃u,σ[j]? = some (some u)/\ja X.K X.H₀ H y u/\ja X.K X.H₀ H' y u/\∀a,Ow H' y u a->Ow H y u a:=λj y hj e=>by
  obtain⟨u,g1,g2⟩:=st.rel j y e;obtain⟨g3,g4⟩:=g2.move kp λa w o e'=>by
   have nw:=h4 j y u a hj e g1 w;obtain⟨_,⟨_,q⟩ | ⟨_,q⟩ | ⟨_,q⟩⟩:=Ow.at g2 w <;> rw[e'] at q <;> cases q <;> exact h1 a _ e' trivial nw
  exact⟨u,g1,g2,g3,g4⟩
 refine⟨by simp[st.len],h0,λj y e=>?_,λj k y z v u a e1 e2 e3 e4 o1 o2=>?_,st.t0⟩
 ·rcases OB e with ⟨rfl,rfl,hl⟩ | ⟨hj,e⟩
  ·exact⟨v',by rw[iS (by rw[<-st.len];exact hl)],h2⟩
  ·obtain⟨u,g1,_,g3,_⟩:=old j y (Ne.symm hj) e;exact⟨u,by rw[iO hj];exact g1,g3⟩
 ·have cross:∀(j:Nat) (y:S) (u:V),i≠j->ρ[j]? = some (some y)->σ[j]? = some (some u)->Ow H' y u a->Ow H' x' v' a->False:=λj y u hj e es o1 o2=>by
   obtain⟨u',g1,g2,g3,g4⟩:=old j y (Ne.symm hj) e;rw[g1] at es;cases es;rcases h3 a o2 with w | n
   ·exact h4 j y _ a (Ne.symm hj) e g1 (g4 a o1) w
   ·obtain⟨_,⟨_,q⟩ | ⟨_,q⟩ | ⟨_,q⟩⟩:=Ow.at g2 (g4 a o1) <;> rw[n] at q <;> cases q
  rcases OB e1 with ⟨rfl,rfl,hl⟩ | ⟨hj,s_⟩
  ·rcases OB e2 with ⟨rfl,rfl,_⟩ | ⟨hk,n8⟩
   ·rfl
   ·rw[iS (by rw[<-st.len];exact hl)] at e3;cases e3;rw[iO hk] at e4;exact (cross k z u hk n8 e4 o2 o1).elim
  ·rw[iO hj] at e3;rcases OB e2 with ⟨rfl,rfl,hl⟩ | ⟨hk,n8⟩
   ·rw[iS (by rw[<-st.len];exact hl)] at e4;cases e4;exact (cross j y v hj s_ e3 o1 o2).elim
   ·rw[iO hk] at e4;obtain⟨v',g1,g2,g3,g4⟩:=old j y (Ne.symm hj) s_;obtain⟨u',f1,f2,f3,f4⟩:=old k z (Ne.symm hk) n8;rw[g1] at e3;cases e3;rw[f1] at e4;cases e4;exact st.sep j k y z _ _ a s_ n8 g1 f1 (g4 a o1) (f4 a o2)
theorem au.put (st:au X ρ σ H) (s:ag H H') (h2:ja X.K X.H₀ H' x' v') (h3:∀a,Ow H' x' v' a->H a=none):au X (ρ.set i (some x')) (σ.set i (some v')) H' :=
 st.chg (W:=λ_=>False) (.of s) (st.same.trans s) (λb o h n _=>s.get b o h n) h2 (λa o=>.inr (h3 a o)) λ_ _ _ _ _ _ _ _ z=>z
theorem au.updW (st:au X ρ σ H) (e:ρ[i]? = some (some x)) (es:σ[i]? = some (some v)) (h1:∀b o,H b=some o->¬Ow H x v b->H' b=some o) (h2:ja X.K X.H₀ H' x' v')
  (h3:∀a,Ow H' x' v' a->Ow H x v a\/H a=none):au X (ρ.set i (some x')) (σ.set i (some v')) H'/\ak H H':=by
 obtain⟨v0,g1,g2⟩:=st.rel i x e;rw[g1] at es;cases es;have no:∀b o,H b=some o->(∀vs,o≠.lst vs)->(∀du,o≠.dK du)->(∀du,o≠.dT du)->¬Ow H x v b:=λb o h n1 n2 n3 w=>by
  obtain⟨_,⟨_,q⟩ | ⟨_,q⟩ | ⟨_,q⟩⟩:=Ow.at g2 w <;> rw[h] at q <;> cases q
  ·exact n1 _ rfl
  ·exact n2 _ rfl
  ·exact n3 _ rfl
 have ne:∀b o,H b=some o->(∀vs,o≠.lst vs)->(∀du,o≠.dK du)->(∀du,o≠.dT du)->H' b=some o:=λb o h n1 n2 n3=>h1 b o h (no b o h n1 n2 n3);have kp:ak H H':=⟨λb xs h=>ne b _ h (λ_ z=>by cases z) (λ_ z=>by cases z) (λ_ z=>by cases z),λb o u h=>ne b _ h (λ_ z=>by cases z) (λ_ z=>by cases z) (λ_ z=>by cases z),λb φ h=>ne b _ h (λ_ z=>by cases z) (λ_ z=>by cases z) (λ_ z=>by cases z),λb fs h=>ne b _ h (λ_ z=>by cases z) (λ_ z=>by cases z) (λ_ z=>by cases z),
  .of (λb φ h=>ne b _ h (λ_ z=>by cases z) (λ_ z=>by cases z) (λ_ z=>by cases z)) λb φ h=>ne b _ h (λ_ z=>by cases z) (λ_ z=>by cases z) (λ_ z=>by cases z)⟩
 refine⟨st.chg (W:=Ow H x v) kp ⟨λb o h n=>h1 b o (st.same.get b o h n) λw=>?_,st.same.tbls.trans kp.tbls⟩ (λb o h _ w=>h1 b o h w) h2 h3 λj y u a hj ej eu o1 o2=>hj (st.sep j i y x u v a ej e eu g1 o1 o2),kp⟩;rw[(Ow.at g2 w).1] at h;cases h
theorem au.set_d (st:au X ρ σ H) (r:c7 X.K H d v):au X (ρ.set i (some (.d d))) (σ.set i (some v)) H:=st.put (x':=.d d) (ag.refl H) r λ_ o=>o.elim
theorem oY {α:Type} {xs:List α} {x:α} (e:xs[i]? = some x):xs.set i x=xs:=by
 apply vV ;intro j;by_cases hj:i=j
 ·subst hj;rw[iS (bI.mp e).1,e]
 ·rw[iO hj]
theorem au.set_own (st:au X ρ σ H) (hp:H p=none) (r:ah X.K H ds vs) :
  au X (ρ.set i (some (.own ds))) (σ.set i (some (.ref p))) (bB H p (.lst vs)):=by
 have sm:ag H (bB H p (.lst vs)):=.fn λb o h=>by rw[cX (fF h hp)];exact h
 exact st.put sm ⟨p,vs,rfl,fT,st.same.free hp,r.keep (.of sm)⟩ λa o=>by cases o;exact hp
theorem au.upd_own (st:au X ρ σ H) (e:ρ[i]? = some (some (.own xs))) (es:σ[i]? = some (some (.ref p))) (hp:H p=some (.lst us)) (h0:X.H₀ p=none)
  (r:ah X.K H ds vs):au X (ρ.set i (some (.own ds))) σ (bB H p (.lst vs))/\ak H (bB H p (.lst vs)):=by
 have kp:ak H (bB H p (.lst vs)):=ak.chg1 hp (.inl ⟨_,rfl⟩);have:=st.updW (x':=.own ds) (v':=.ref p) e es (H':=bB H p (.lst vs)) (λb o h w=>by rw[cX (by rintro rfl;exact w rfl)];exact h) ⟨p,vs,rfl,fT,h0,r.keep kp⟩ λa o=>.inl o;rw[oY es] at this;exact this
end
section
variable {σ:St}
theorem Inv.freezeG (I:Inv X pins σ H s) (h:H a=some x) (ho:s.heap.get? a=some o) (n1:∀ys,HO.tup ys≠x) (n2:∀o w,HO.frz o w≠x) (n3:∀ps,HO.tbl ps≠x) (n4:∀c,HO.own c≠x):Inv X pins σ (bB H a (.frz o x)) s:=by
 have ok:=I.hok a _ h;have m_:∀b u,H b=some u->u≠x->b≠a:=λb u q d z=>by subst z;rw[h] at q;cases q;exact d rfl
 have st:∀{b:Addr} {u:HO},cg X.prog X.w H s.heap b u->cg X.prog X.w (bB H a (.frz o x)) s.heap b u:=λ{b u} q =>
  q.stay (λc v _ w=>w) (λc w=>by rw[cX (m_ c _ w (n4 _))];exact w) λc ys w=>by rw[cX (m_ c _ w (n1 _))];exact w
 refine I.un (t':=s.toks) (h':=s.heap) ⟨λb o q _ _ _=>q,λb o q _ _ _=>⟨o.slots,q⟩,λb o q n _=>?_,λb o q _=>⟨o,q⟩,λb ys q=>?_,λb o u q=>?_,λb ps q=>⟨#[],?_⟩⟩ λb u q=>?_
 ·rw[cX (λz=>by subst z;rw[h] at n;cases n)];exact n
 ·rw[cX (m_ b _ q (n1 _))];exact q
 ·rw[cX (m_ b _ q (n2 _ _))];exact q
 ·rw[cX (m_ b _ q (n3 _)),q];simp
 ·by_cases hb:b=a
  ·subst hb;rw[fT] at q;cases q;exact⟨ho,st ok⟩
  ·rw[cX hb] at q;exact st (I.hok b u q)
theorem Inv.freeze (I:Inv X pins σ H s) (h:H a=some (.lst xs)):∃o,Inv X pins σ (bB H a (.frz o (.lst xs))) s:=by
 obtain⟨z,its,n,r,e⟩:=I.hok a _ h;exact⟨_,Inv.freezeG I h e (λ_ z=>by cases z) (λ_ _ z=>by cases z) (λ_ z=>by cases z) (λ_ z=>by cases z)⟩
theorem Inv.freezeD (I:Inv X pins σ H s) (h:H a=some (.dK cf)):∃o,Inv X pins σ (bB H a (.frz o (.dK cf))) s:=by
 obtain⟨_,_,vs,r,ob,es,ep,e,_⟩:=I.hok a _ h;exact⟨ob,Inv.freezeG I h e (λ_ z=>by cases z) (λ_ _ z=>by cases z) (λ_ z=>by cases z) (λ_ z=>by cases z)⟩
theorem Inv.freezeT (I:Inv X pins σ H s) (h:H a=some (.dT cf)):∃o,Inv X pins σ (bB H a (.frz o (.dT cf))) s:=by
 obtain⟨_,_,_,_,ob,_,_,e,_⟩:=I.hok a _ h;exact⟨ob,Inv.freezeG I h e (λ_ z=>by cases z) (λ_ _ z=>by cases z) (λ_ z=>by cases z) (λ_ z=>by cases z)⟩
theorem ag.upd_new (s:ag H H1) (n:H a=none) (m:∀φ,H1 a≠some (.ext φ)):ag H (bB H1 a o):=by
 refine⟨λb u h nt=>by rw[cX (fF h n)];exact s.get b u h nt,λb ps h=>?_⟩;obtain⟨more,e1,e2⟩:=s.tbls b ps h;refine⟨more,by rw[cX (fF h n)];exact e1,λx=>(e2 x).mono λc φ q=>?_⟩;rw[cX (by rintro rfl;exact m _ q)];exact q
theorem uD:∀(cf:List (Int × List D)) {du:List (iu × V)} {as:List Addr} {H:Hp},Inv X pins σ H s->ml X.K X.H₀ H cf du as ->
  ∃H' vs,Inv X pins σ H' s/\du=IS (cf.map (·.1)) vs/\cf.length=vs.length/\ah X.K H' (cf.map λp=>.lst p.2) vs/\ak H H'/\∀b o,H b=some o->b ∉ as->H' b=some o
 | [],_,_,H,I,t=>by cases t;exact⟨H,[],I,rfl,rfl,.nil,ak.refl H,λb o h _=>h⟩
 | (k,ds)::cf,_,_,H,I,t=>by
  cases t with
  | @cons _ b vs _ _ du as h h0 r n t =>
   obtain⟨o,I1⟩:=Inv.freeze I h;have kp:ak H (bB H b (.frz o (.lst vs))):=ak.chg1 h (.inl ⟨_,rfl⟩);obtain⟨H',us,I2,e1,e2,e3,k2,e4⟩:=uD cf I1 (t.keep kp λa m o e=>by rw[cX (by rintro rfl;exact n m)];exact e);subst e1;refine⟨H',.ref b::us,I2,rfl,by simp[e2],.cons (.lst (.inl ⟨o,k2.frzs _ _ _ fT⟩) (r.keep (kp.trans k2))) e3,kp.trans k2,λc u q m=>?_⟩;rw[aO,not_or] at m;exact e4 c u (by rw[cX m.1];exact q) m.2
def S.fz:S->S
 | .own ds=>.d (.lst ds)
 | .dcl cf=>.d (.dct (cf.map (·.1)) (cf.map λp=>.lst p.2))
 | .box false jd=>.d (.lst (jd.map .lst))
 | .box true jd=>.d (.tup (jd.map .lst))
 | .d x=>.d x
 | .exc C y c=>.exc C y c
 | .raw u=>.raw u
 | .mem b x R=>.mem b x R
 | .dt ks xs=>.d (.dtt ks xs)
theorem au.fz (so:au X ρ σ H) (I:Inv X pins σ H s) (e:ρ[i]? = some (some x)):∃H',Inv X pins σ H' s/\au X (ρ.set i (some x.fz)) σ H'/\ak H H':=by
 obtain⟨v,h1,h2⟩:=so.rel i _ e;cases x with
 | d x=>exact⟨H,I,by rw[show S.fz (.d x) = .d x from rfl,oY e];exact so,ak.refl H⟩
 | exc C y c=>exact⟨H,I,by rw[show S.fz (.exc C y c) = .exc C y c from rfl,oY e];exact so,ak.refl H⟩
 | raw u=>exact⟨H,I,by rw[show S.fz (.raw u) = .raw u from rfl,oY e];exact so,ak.refl H⟩
 | mem b x R=>exact⟨H,I,by rw[show S.fz (.mem b x R) = .mem b x R from rfl,oY e];exact so,ak.refl H⟩
 | own ds =>
  obtain⟨p,vs,ev,hp,h0,rr⟩:=id h2;subst ev;obtain⟨o,I2⟩:=Inv.freeze I hp;have kp:ak H (bB H p (.frz o (.lst vs))):=ak.chg1 hp (.inl ⟨_,rfl⟩);obtain⟨jt,k2⟩:=so.updW (x':=.d (.lst ds)) (v':=.ref p) e h1 (H':=bB H p (.frz o (.lst vs))) (λb o h w=>by rw[cX (by rintro rfl;exact w rfl)];exact h) (.lst (.inl ⟨o,fT⟩) (rr.keep kp)) λa o=>o.elim;rw[oY h1] at jt;exact⟨_,I2,jt,k2⟩
 | dt ks xs =>
  obtain⟨p,vs,ev,hp,h0,hl,rr⟩:=id h2;subst ev;obtain⟨o,I2⟩:=Inv.freezeT I hp;have kp:ak H (bB H p (.frz o (.dT (yY ks vs)))):=ak.chg1 hp (.inr (.inr ⟨_,rfl⟩));obtain⟨jt,k2⟩:=so.updW (x':=.d (.dtt ks xs)) (v':=.ref p) e h1 (H':=bB H p (.frz o (.dT (yY ks vs)))) (λb o h w=>by rw[cX (by rintro rfl;exact w rfl)];exact h) (.dtt fT hl (rr.keep kp)) λa o=>o.elim;rw[oY h1] at jt;exact⟨_,I2,jt,k2⟩
 | dcl cf =>
  obtain⟨p,du,as,ev,hp,h0,t⟩:=id h2;subst ev;obtain⟨H1,vs,I1,e1,e2,e3,k1,e4⟩:=uD cf I t;have np:p ∉ as:=λm=>by obtain⟨_,us,q⟩:=t.at m;rw[hp] at q;cases q
  have la:=e4 p _ hp np;obtain⟨o,I2⟩:=Inv.freezeD I1 la;have kp:ak H1 (bB H1 p (.frz o (.dK du))):=ak.chg1 la (.inr (.inl ⟨_,rfl⟩));obtain⟨jt,k2⟩:=so.updW (x':=.d (.dct (cf.map (·.1)) (cf.map λp=>.lst p.2))) (v':=.ref p) e h1 (H':=bB H1 p (.frz o (.dK du)))
   (λb o h w=>by
    rw[cX (by rintro rfl;exact w ⟨_,du,rfl,hp,.inl rfl⟩)];exact e4 b o h λm=>w ⟨p,du,rfl,hp,.inr (t.mem.mp m)⟩)
   (.dct (by rw[fT,e1]) (by simp[e2]) (e3.keep kp)) λa o=>o.elim
  rw[oY h1] at jt;exact⟨_,I2,jt,k2⟩
 | box t jd =>
  have emap:(jd.map λx=>((0:Int),x)).map (λp=>D.lst p.2)=jd.map D.lst:=by rw[dN];rfl
  cases t with
  | false =>
   obtain⟨p,du,as,ev,hp,h0,np,t⟩:=id h2;subst ev;obtain⟨H1,vs,I1,e1,e2,e3,k1,e4⟩:=uD _ I t;rw[emap] at e3;have ea:as.map V.ref=vs:=(by rw[<-t.refs,e1];exact GL (by rw[cN];simpa using e2));have la:=e4 p _ hp np;obtain⟨o,I2⟩:=Inv.freeze I1 la;have kp:ak H1 (bB H1 p (.frz o (.lst (as.map V.ref)))):=ak.chg1 la (.inl ⟨_,rfl⟩);obtain⟨jt,k2⟩:=so.updW (x':=.d (.lst (jd.map .lst))) (v':=.ref p) e h1 (H':=bB H1 p (.frz o (.lst (as.map V.ref))))
    (λb o h w=>by
     rw[cX (by rintro rfl;exact w ⟨_,_,rfl,hp,.inl rfl⟩)];exact e4 b o h λm=>w ⟨p,_,rfl,hp,.inr (dP m)⟩)
    (.lst (vs:=as.map V.ref) (.inl ⟨o,fT⟩) (by have z:=e3.keep kp;rw[<-ea] at z;exact z)) λa o=>o.elim
   rw[oY h1] at jt;exact⟨_,I2,jt,k2⟩
  | true =>
   obtain⟨p,du,as,ev,hp,t⟩:=id h2;subst ev;obtain⟨H1,vs,I1,e1,e2,e3,k1,e4⟩:=uD _ I t;rw[emap] at e3;have ea:as.map V.ref=vs:=(by rw[<-t.refs,e1];exact GL (by rw[cN];simpa using e2));obtain⟨jt,k2⟩:=so.updW (x':=.d (.tup (jd.map .lst))) (v':=.ref p) e h1 (H':=H1)
    (λb o h w=>e4 b o h λm=>w ⟨p,_,rfl,hp,dP m⟩)
    (.tup (vs:=as.map V.ref) (k1.tups _ _ hp) (by have z:=e3;rw[<-ea] at z;exact z)) λa o=>o.elim
   rw[oY h1] at jt;exact⟨_,I1,jt,k2⟩
end
structure Sz (n:Nat):Prop where
 ok:n<=sizeLine
abbrev RE:=En->(D->Prop)->Prop
abbrev RT:=En->(Bool->Prop)->Prop
abbrev RA:=En->(List D->Prop)->Prop
structure jz where
 nx:En->Prop
 rt:D->Prop
 bk:En->Prop:=λ_=>False
 ct:En->Prop:=λ_=>False
abbrev RS:=jz->En->Prop
abbrev RG:=D->En->(En->Prop)->Prop
def Vh (X:Cx) (t:RE):TE:=λσ H Q=>∃ρ P,au X ρ σ H/\t ρ P/\∀d v H',P d->ag H H'->c7 X.K H' d v->Q v H'
def Nw (X:Cx) (t:RE):TE:=λσ H Q=>∃ρ P,au X ρ σ H/\t ρ P/\∀d v H',P d->ag H H'->df X.K H' d v->Q v H'
def B4 (X:Cx) (t:RA):TE:=λσ H Q=>∃ρ P,au X ρ σ H/\t ρ P/\∀ds p vs H1,P ds->ag H H1->H1 p=none->ah X.K H1 ds vs->Q (.ref p) (bB H1 p (.lst vs))
def liftT (X:Cx) (t:RT):TT:=λσ H Q=>∃ρ P,au X ρ σ H/\t ρ P/\∀b H',P b->ag H H'->Q b H'
def A8 (X:Cx) (t:RA):TA:=λσ H Q=>∃ρ P,au X ρ σ H/\t ρ P/\∀ds vs H',P ds->ag H H'->ah X.K H' ds vs->Q vs H'
def Vj (X:Cx) (t:RS):TS:=λDe σ H=>∃ρ E,au X ρ σ H/\t E ρ/\(∀ρ' σ' H',E.nx ρ'->ak H H'->au X ρ' σ' H'->De.nx σ' H')/\(∀d v H',E.rt d->ak H H'->ag X.H₀ H'->c7 X.K H' d v->De.rt v H') /\
 (∀ρ' σ' H',E.bk ρ'->ak H H'->au X ρ' σ' H'->De.bk σ' H')/\∀ρ' σ' H',E.ct ρ'->ak H H'->au X ρ' σ' H'->De.ct σ' H'
def A9 (X:Cx) (g:RG):TG:=λv σ H Q=>∃d ρ P,c7 X.K H d v/\au X ρ σ H/\g d ρ P/\∀ρ' σ' H',P ρ'->ak H H'->au X ρ' σ' H'->Q σ' H'
def jF {α β:Type} {A B C:α->β->Prop} {R:Prop} (h:∃ρ P,A ρ P/\B ρ P/\C ρ P) (k:∀ρ P,A ρ P->B ρ P->C ρ P->R):R:=let ⟨ρ,P,a,b,c⟩:=h;k ρ P a b c
def WN {α β γ:Type} {A B C E:γ->α->β->Prop} {R:Prop} (h:∃d ρ P,A d ρ P/\B d ρ P/\C d ρ P/\E d ρ P) (k:∀d ρ P,A d ρ P->B d ρ P->C d ρ P->E d ρ P->R):R:=let ⟨d,ρ,P,a,b,c,e⟩:=h;k d ρ P a b c e
def rG {α β:Type} {A B C E F G:α->β->Prop} {R:Prop} (h:∃ρ P,A ρ P/\B ρ P/\C ρ P/\E ρ P/\F ρ P/\G ρ P) (k:∀ρ P,A ρ P->B ρ P->C ρ P->E ρ P->F ρ P->G ρ P->R):R:=let ⟨ρ,P,a,b,c,e,f,g⟩:=h;k ρ P a b c e f g
def DE (X:Cx) (e:Expr) (t:RE):Prop:=PE X e (Vh X t)
def DB (X:Cx) (e:Expr) (t:RE):Prop:=PE X e (Nw X t)
def DO (X:Cx) (e:Expr) (t:RA):Prop:=PE X e (B4 X t)
def DT (X:Cx) (e:Expr) (t:RT):Prop:=PT X e (liftT X t)
def DW (X:Cx) (e:Expr) (t:RT):Prop:=PW X e (liftT X t)
def DA (X:Cx) (es:List Expr) (t:RA):Prop:=PA X es (A8 X t)
def DS (X:Cx) (st:Stmt) (t:RS):Prop:=PS X st (Vj X t)
def o3 (X:Cx) (v8:List Stmt) (t:RS):Prop:=gt X v8 (Vj X t)
def DG (X:Cx) (tg:Expr) (g:RG):Prop:=PG X tg (A9 X g)
def PE.mono (h:PE X e t) (m:∀σ H Q,t' σ H Q->t σ H Q):PE X e t':=λpins s σ H Q I q=>h pins s σ H Q I (m σ H Q q)
def PT.mono (h:PT X e t) (m:∀σ H Q,t' σ H Q->t σ H Q):PT X e t':=λpins s σ H Q I q=>h pins s σ H Q I (m σ H Q q)
def PW.mono (h:PW X e t) (m:∀σ H Q,t' σ H Q->t σ H Q):PW X e t':=λwh pins s σ H Q I q=>h wh pins s σ H Q I (m σ H Q q)
def PA.mono (h:PA X e t) (m:∀σ H Q,t' σ H Q->t σ H Q):PA X e t':=λpos pins s σ H Q I q=>h pos pins s σ H Q I (m σ H Q q)
def PS.mono (h:PS X e t) (m:∀D σ H,t' D σ H->t D σ H):PS X e t':=λpins s σ H D I q=>h pins s σ H D I (m D σ H q)
def gt.mono (h:gt X e t) (m:∀D σ H,t' D σ H->t D σ H):gt X e t':=λpins s σ H D I q=>h pins s σ H D I (m D σ H q)
def PG.mono (h:PG X e t) (m:∀v σ H Q,t' v σ H Q->t v σ H Q):PG X e t':=λpins s σ H v u Q I r q=>h pins s σ H v u Q I r (m v σ H Q q)
section
variable {X:Cx} {e a b c:Expr} {pos:Pos}
theorem DE.bor (h:DE X e t):DB X e t:=PE.mono h λσ H Q hh=>jF hh λρ P st q k=>⟨ρ,P,st,q,λd v H' p s r=>k d v H' p s (.inl r)⟩
theorem DO.val (h:DO X e t):DE X e (λρ Q=>t ρ λds=>Q (.lst ds)):=by
 intro pins s σ H Q I bi;obtain⟨ρ,P,st,q,k⟩:=bi;refine c_ (h pins s σ H (λv H'=>∃ds p vs H1,v = .ref p/\H'=bB H1 p (.lst vs)/\P (.lst ds)/\ag H H1/\H1 p=none/\ah X.K H1 ds vs) I ⟨ρ,_,st,q,λds p vs H1 hp s1 hn r=>⟨ds,p,vs,H1,rfl,rfl,hp,s1,hn,r⟩⟩) λu s1 ⟨v,H',I',rv,ds,p,vs,H1,ev,eH,hp,sm,hn,r⟩=>?_;subst ev eH;obtain⟨o,I2⟩:=Inv.freeze I' (a:=p) (xs:=vs) fT;have sm2:ag H1 (bB (bB H1 p (.lst vs)) p (.frz o (.lst vs))):=ag.fn λb u e=>by rw[cX (fF e hn),cX (fF e hn)];exact e
 exact⟨.ref p,_,I2,rv,k (.lst ds) (.ref p) _ hp (sm.trans sm2) (.lst (.inl ⟨o,fT⟩) (r.keep (.of sm2)))⟩
def cI (i:Nat):RE:=λρ Q=>match ρ[i]? with
 | some (some (.d d))=>Q d
 | some (some (.mem true d _))=>Q d
 | _=>False
def aM (i:Nat):RE:=λρ Q=>match ρ[i]? with
 | some (some (.d d))=>Q d
 | some (some (.own xs))=>Q (.lst xs)
 | some (some (.mem true d _))=>Q d
 | _=>False
theorem dv (i:Nat) {x:Str} (hN:X.N[i]? = some x:=by rfl) (hv:p7 X.env.scope x:=by walk_at "vis") (hd:(x == ("__debug__":Str))=false:=by decide)
  (jx:(x == ("__classdict__":Str))=false:=by decide):DE X (.Name x pos) (cI i):=by
 refine PE.mono (pv i hN hv hd jx) λσ H Q hh=>jF hh λρ P st q k=>?_;unfold cI at q;split at q
 ·rename_i d e;obtain⟨v,h1,h2⟩:=st.rel i _ e;exact⟨v,h1,k d v H q (ag.refl H) h2⟩
 ·rename_i d R e;obtain⟨v,h1,h2⟩:=st.rel i _ e;exact⟨v,h1,k d v H q (ag.refl H) (h2.1 rfl)⟩
 ·exact q.elim
theorem ae (i:Nat) {x:Str} (hN:X.N[i]? = some x:=by rfl) (hv:p7 X.env.scope x:=by walk_at "vis") (hd:(x == ("__debug__":Str))=false:=by decide)
  (jx:(x == ("__classdict__":Str))=false:=by decide):DB X (.Name x pos) (aM i):=by
 refine PE.mono (pv i hN hv hd jx) λσ H Q hh=>jF hh λρ P st q k=>?_;unfold aM at q;split at q
 ·rename_i d e;obtain⟨v,h1,h2⟩:=st.rel i _ e;exact⟨v,h1,k _ v H q (ag.refl H) (.inl h2)⟩
 ·rename_i xs e;obtain⟨v,h1,h2⟩:=st.rel i _ e;obtain⟨a,vs,e1,e2,_,r⟩:=h2;exact⟨v,h1,k _ v H q (ag.refl H) (.inr ⟨xs,a,vs,rfl,e1,e2,r⟩)⟩
 ·rename_i d R e;obtain⟨v,h1,h2⟩:=st.rel i _ e;exact⟨v,h1,k _ v H q (ag.refl H) (.inl (h2.1 rfl))⟩
 ·exact q.elim
def rC (d:D):RE:=λ_ Q=>Q d
theorem iT:DE X (.Constant (.int i) j pos) (rC (.int i)):=PE.mono Oo λσ H Q hh=>jF hh λρ P st q k=>k _ _ H q (ag.refl H) (.int i)
theorem mK:DE X (.Constant (.bool i) j pos) (rC (.bl i)):=PE.mono C5 λσ H Q hh=>jF hh λρ P st q k=>k _ _ H q (ag.refl H) (.bl i)
theorem vE:DE X (.Constant .none j pos) (rC .non):=PE.mono Xw λσ H Q hh=>jF hh λρ P st q k=>k _ _ H q (ag.refl H) .non
abbrev R22:=D->D->(D->Prop)->Prop
def Vi (X:Cx) (r:R22):R2:=λx y H Q=>∃d e P,df X.K H d x/\df X.K H e y/\r d e P/\∀z v H',P z->ag H H'->c7 X.K H' z v->Q v H'
def jn (X:Cx) (f:aD->aD->Sem aD) (r:R22):Prop:=j3 X f (Vi X r)
def r2 (r:R22) (ta tb:RE):RE:=λρ Q=>ta ρ λx=>tb ρ λy=>r x y Q
variable {ta tb tc:RE}
theorem Nv (h:Vh X (r2 r ta tb) σ H Q):zp (Vi X r) (Nw X ta) (Nw X tb) σ H Q:=by
 obtain⟨ρ,P,st,ht,hP⟩:=h;exact⟨ρ,_,st,ht,λx v H1 h1 s1 r1=>⟨ρ,_,st.ext s1,h1,λy u H2 h2 s2 r2=>⟨x,y,P,r1.same s2,r2,h2,λz w H' hz s3 r3=>hP z w H' hz ((s1.trans s2).trans s3) r3⟩⟩⟩
theorem aU (ho:jn X (binaryOp op) r) (ha:DB X a ta) (hb:DB X b tb):DE X (.BinOp a op b pos) (r2 r ta tb):=PE.mono (C6 ho ha hb) λσ H Q h=>Nv h
theorem wS (ho:jn X (compareOp op) r) (ha:DB X a ta) (hb:DB X b tb) (hm:behindInMarks op b=false:=by exact Oa _):DE X (.Compare a [op] [b] pos) (r2 r ta tb):=PE.mono (Te ho ha hb hm) λσ H Q h=>Nv h
def eG (t:RE):RT:=λρ Q=>t ρ λd=>match d with
 | .bl k=>Q k
 | _=>False
theorem gG (ho:jn X (compareOp op) r) (ha:DB X a ta) (hb:DB X b tb) (hm:behindInMarks op b=false:=by exact Oa _):DT X (.Compare a [op] [b] pos) (eG (r2 r ta tb)):=by
 refine PT.mono (Tm ho ha hb hm) λσ H Q hh=>jF hh λρ P st q k=>?_;refine Nv (Q:=λx H'=>∃k,x = .bl k/\Q k H') ⟨ρ,_,st,q,λd v H' hd s r=>?_⟩;cases d with
 | bl b=>exact⟨b,r.bl_inv,k b H' hd s⟩
 | _=>exact hd.elim
theorem lF (h:DE X e ta) (he:∀whole,isTrue e X.env whole=(do let v <-whole;standAt e.pos;holding [v] (truthy v)):=by intro _;rfl):DT X e (eG ta):=by
 refine PT.mono (Yi h he) λσ H Q hh=>jF hh λρ P st q k=>?_;refine⟨ρ,_,st,q,λd v H' hd s r=>?_⟩;cases d with
 | bl b=>exact⟨b,r.bl_inv,k b H' hd s⟩
 | _=>exact hd.elim
def NG (t u:RT):RT:=λρ Q=>t ρ λc=>if c=true then u ρ Q else Q false
def rOr (t u:RT):RT:=λρ Q=>t ρ λc=>if c=true then Q true else u ρ Q
def sV (t:RT):RT:=λρ Q=>t ρ λc=>Q (!c)
variable {tA tB:RT} {rest:List Expr}
theorem WJ (ha:DT X a tA):DW X (.BoolOp .And [a] pos) tA:=To ha
theorem tF (ha:DT X a tA):DW X (.BoolOp .Or [a] pos) tA:=Yp ha
theorem WI (ha:DT X a tA) (hb:DW X (.BoolOp .And (b::rest) pos) tB):DW X (.BoolOp .And (a::b::rest) pos) (NG tA tB) :=
 PW.mono (Yo ha hb) λσ H Q hh=>jF hh λρ P st q k=>⟨ρ,_,st,q,λc H1 hc s1=>by
  cases c with
  | true=>rw[if_pos rfl] at hc ⊢;exact⟨ρ,P,st.ext s1,hc,λd H2 hd s2=>k d H2 hd (s1.trans s2)⟩
  | false=>rw[if_neg cO] at hc ⊢;exact k false H1 hc s1⟩
theorem pT (ha:DT X a tA) (hb:DW X (.BoolOp .Or (b::rest) pos) tB):DW X (.BoolOp .Or (a::b::rest) pos) (rOr tA tB) :=
 PW.mono (D6 ha hb) λσ H Q hh=>jF hh λρ P st q k=>⟨ρ,_,st,q,λc H1 hc s1=>by
  cases c with
  | false=>rw[if_neg cO] at hc ⊢;exact⟨ρ,P,st.ext s1,hc,λd H2 hd s2=>k d H2 hd (s1.trans s2)⟩
  | true=>rw[if_pos rfl] at hc ⊢;exact k true H1 hc s1⟩
theorem DW.tst (h:DW X e tA):DT X e tA:=PW.pt h
theorem lQ (ha:DT X a tA):DT X (.UnaryOp .Not a pos) (sV tA):=PT.mono (Yh ha) λσ H Q hh=>jF hh λρ P st q k=>⟨ρ,_,st,q,λc H1 hc s1=>k _ H1 hc s1⟩
def QZ (ta tb:RE):RE:=λρ Q=>ta ρ λd=>match d with
 | .bl k=>if k=true then tb ρ Q else Q (.bl false)
 | _=>False
def L6 (ta tb:RE):RE:=λρ Q=>ta ρ λd=>match d with
 | .bl k=>if k=true then Q (.bl true) else tb ρ Q
 | _=>False
def Pd (ta:RE):RE:=λρ Q=>ta ρ λd=>match d with
 | .bl k=>Q (.bl (!k))
 | _=>False
theorem WB {op} (h:DE X a ta):DE X (.BoolOp op [a] pos) ta:=Xy h
theorem PC (ha:DE X a ta) (hb:DE X (.BoolOp .And (b::rest) pos) tb):DE X (.BoolOp .And (a::b::rest) pos) (QZ ta tb) :=
 PE.mono (Xu ha hb) λσ H Q hh=>jF hh λρ P st q k=>⟨ρ,_,st,q,λd v H1 hd s1 r=>by
  cases d with
  | bl c =>
   refine⟨c,r.bl_inv,?_⟩;cases c with
   | true=>exact⟨ρ,P,st.ext s1,hd,λd v H2 hd s2=>k d v H2 hd (s1.trans s2)⟩
   | false=>exact k (.bl false) (.bl false) H1 hd s1 (.bl false)
  | _=>exact hd.elim⟩
theorem Wh (ha:DE X a ta):DE X (.UnaryOp .Not a pos) (Pd ta) :=
 PE.mono (Xx ha) λσ H Q hh=>jF hh λρ P st q k=>⟨ρ,_,st,q,λd v H1 hd s1 r=>by
  cases d with
  | bl c=>exact⟨c,r.bl_inv,k (.bl !c) (.bl !c) H1 hd s1 (.bl _)⟩
  | _=>exact hd.elim⟩
def rIf (t:RT) (ta tb:RE):RE:=λρ Q=>t ρ λc=>if c=true then ta ρ Q else tb ρ Q
def B6 (X:Cx) (r:D->(D->Prop)->Prop):V->Hp->VK->Prop:=λx H Q=>∃d P,df X.K H d x/\r d P/\∀z v H',P z->ag H H'->c7 X.K H' z v->Q v H'
def UnD (X:Cx) (f:aD->Sem aD) (r:D->(D->Prop)->Prop):Prop:=A2 X f (B6 X r)
def r1 (r:D->(D->Prop)->Prop) (ta:RE):RE:=λρ Q=>ta ρ λx=>r x Q
theorem xM (ho:UnD X (unaryOp op) r) (ha:DB X a ta):DE X (.UnaryOp op a pos) (r1 r ta) :=
 PE.mono (C7 ho ha) λσ H Q hh=>jF hh λρ P st q k=>⟨ρ,_,st,q,λd v H1 hd s1 rr=>⟨d,P,rr,hd,λz v H2 hz s2 r2=>k z v H2 hz (s1.trans s2) r2⟩⟩
def aX:RA:=λ_ Q=>Q []
def aC (t:RE) (u:RA):RA:=λρ Q=>t ρ λx=>u ρ λxs=>Q (x::xs)
variable {t:RA}
theorem aS:DA X [] aX:=PA.mono QR λσ H Q hh=>jF hh λρ P st q k=>k [] [] H q (ag.refl H) .nil
theorem aB (ha:DE X e ta) (hr:DA X es t) (hs:starEach (e::es) X.env=(false,eval e X.env)::starEach es X.env:=by rfl):DA X (e::es) (aC ta t) :=
 PA.mono (zF ha hr hs) λσ H Q hh=>jF hh λρ P st q k=>⟨ρ,_,st,q,λd v H1 hd s1 r1=>⟨ρ,_,st.ext s1,hd,λds vs H2 t7 s2 r2=>k (d::ds) (v::vs) H2 t7 (s1.trans s2) (.cons (r1.keep (.of s2)) r2)⟩⟩
def kE (t:RA):RE:=λρ Q=>t ρ λds=>Sz ds.length/\Q (.tup ds)
theorem gE {x1} (h:DA X es t):DE X (.Tuple es x1 pos) (kE t) :=
 PE.mono (Op h) λσ H Q hh=>jF hh λρ P st q k=>⟨ρ,_,st,q,λds vs H1 hd s1 r=>⟨by rw[<-r.length];exact hd.1.ok,λp hp=>k (.tup ds) (.ref p) _ hd.2 (ag.upd_new s1 (s1.free hp) λ_ z=>by rw[hp] at z;cases z) (by
  have sm:ag H1 (bB H1 p (.tup vs)):=ag.fn λb u e=>by rw[cX (fF e hp)];exact e
  exact .tup fT (r.keep (.of sm)))⟩⟩
def pV (t:RA):RA:=λρ Q=>t ρ λds=>Sz ds.length/\Q ds
theorem kL (h:DA X es t):DO X (.List es pos) (pV t) :=
 PE.mono (Xv h) λσ H Q hh=>jF hh λρ P st q k=>⟨ρ,_,st,q,λds vs H1 hd s1 r=>⟨by rw[<-r.length];exact hd.1.ok,λp hp=>k ds p vs H1 hd.2 s1 hp r⟩⟩
end
section
variable {X:Cx} {e a b c:Expr} {pos:Pos} {st:Stmt} {rest:List Stmt} {t u:RS} {te:RE}
def dQ (t u:RS):RS:=λE ρ=>t { E with nx:=u E } ρ
def iE:RS:=λE ρ=>E.nx ρ
theorem fV:o3 X [] iE:=gt.mono Tl λDe σ H hh=>rG hh λρ E st q n r b c=>n ρ σ H q (ak.refl H) st
theorem bF (h:DS X st t):o3 X [st] t:=Hb h
theorem aP (h1:DS X st t) (h2:o3 X rest u):o3 X (st::rest) (dQ t u) :=
 gt.mono (QW h1 h2) λDe σ H hh=>rG hh λρ E st q n r b c=>⟨ρ,_,st,q,λρ' σ' H' h k s=>⟨ρ',E,s,h,λρ2 σ2 H2 x k2=>n ρ2 σ2 H2 x (k.trans k2),λd v H2 x k2=>r d v H2 x (k.trans k2),λρ2 σ2 H2 x k2=>b ρ2 σ2 H2 x (k.trans k2),λρ2 σ2 H2 x k2=>c ρ2 σ2 H2 x (k.trans k2)⟩,r,b,c⟩
theorem Mo:DS X st (λ_ _=>False):=PS.mono Ou λDe σ H ⟨ρ,E,st,q,_⟩=>q
def fR (te:RE):RS:=λE ρ=>te ρ E.rt
theorem dA (h:DE X e te):DS X (.Return (some e) pos) (fR te) :=
 PS.mono (Ov h) λDe σ H hh=>rG hh λρ E st q n r b c=>⟨ρ,_,st,q,λd v H1 hd s1 rr=>r d v H1 hd (.of s1) (st.same.trans s1) rr⟩
def D9 (te:RE):RS:=λE ρ=>te ρ λ_=>E.nx ρ
def kD (c:RT) (t u:RS):RS:=λE ρ=>c ρ λk=>if k=true then t E ρ else u E ρ
theorem jN (hc:DT X c tA) (ha:o3 X sa t) (hb:o3 X sb u):DS X (.If c sa sb pos) (kD tA t u) :=
 PS.mono (C9 hc ha hb) λDe σ H hh=>rG hh λρ E st q n r b c=>⟨ρ,_,st,q,λk H1 hk s1=>by
  cases k with
  | true=>rw[if_pos rfl] at hk ⊢;exact⟨ρ,E,st.ext s1,hk,λρ2 σ2 H2 x k2=>n ρ2 σ2 H2 x ((ak.of s1).trans k2),λd v H2 x k2=>r d v H2 x ((ak.of s1).trans k2),λρ2 σ2 H2 x k2=>b ρ2 σ2 H2 x ((ak.of s1).trans k2),λρ2 σ2 H2 x k2=>c ρ2 σ2 H2 x ((ak.of s1).trans k2)⟩
  | false=>rw[if_neg cO] at hk ⊢;exact⟨ρ,E,st.ext s1,hk,λρ2 σ2 H2 x k2=>n ρ2 σ2 H2 x ((ak.of s1).trans k2),λd v H2 x k2=>r d v H2 x ((ak.of s1).trans k2),λρ2 σ2 H2 x k2=>b ρ2 σ2 H2 x ((ak.of s1).trans k2),λρ2 σ2 H2 x k2=>c ρ2 σ2 H2 x ((ak.of s1).trans k2)⟩⟩
def eU (i:Nat):RG:=λd ρ Q=>Q (ρ.set i (some (.d d)))
theorem eT {i:Nat} {x:Str} (hN:X.N.Nodup) (hi:X.N[i]? = some x:=by rfl) (hx:Loc X.env.scope x:=by walk_at "vis") (hf:X.fn x=true\/X.env.scope.names.lookup x=some .local:=by walk_at "loc"):DG X (.Name x pos) (eU i) :=
 PG.mono (Tf hN hi hx hf) λv σ H Q hh=>WN hh λd ρ P r st q k=>k _ _ H q (ak.refl H) (st.set_d r)
abbrev rh:=List D->En->(En->Prop)->Prop
def Xf (X:Cx) (g:rh):sv:=λvs σ H Q=>∃ds ρ P,ah X.K H ds vs/\au X ρ σ H/\g ds ρ P/\∀ρ' σ' H',P ρ'->ak H H'->au X ρ' σ' H'->Q σ' H'
def zw (X:Cx) (ts:List Expr) (g:rh):Prop:=qo X ts (Xf X g)
theorem qo.mono {X:Cx} {e:List Expr} {t t':sv} (h:qo X e t) (m:∀v σ H Q,t' v σ H Q->t v σ H Q):qo X e t':=λpins s σ H v u Q I r q=>h pins s σ H v u Q I r (m v σ H Q q)
def qR:rh:=λds ρ Q=>match ds with
 | []=>Q ρ
 | _=>False
def hE (g:RG) (u:rh):rh:=λds ρ Q=>match ds with
 | []=>False
 | d::r=>g d ρ λρ'=>u r ρ' Q
theorem nM:zw X [] qR:=qo.mono Tg λvs σ H Q hh=>WN hh λds ρ P r st q k=>by
 cases r with
 | nil=>exact⟨rfl,k ρ σ H q (ak.refl H) st⟩
 | cons _ _=>exact q.elim
theorem fO {u:rh} (h1:DG X e g) (h2:zw X es u) (hs:(assignEach (e::es) X.env).map (·.2)=assign e X.env::(assignEach es X.env).map (·.2):=by rfl):zw X (e::es) (hE g u) :=
 qo.mono (Oq h1 h2 hs) λvs σ H Q hh=>WN hh λds ρ P r st q k=>by
  cases r with
  | nil=>exact q.elim
  | cons r rs =>
   refine⟨_,_,rfl,_,ρ,_,r,st,q,λρ' σ' H' hq k1 st1=>⟨_,ρ',P,rs.keep k1,st1,hq,λρ2 σ2 H2 p k2 s2=>k ρ2 σ2 H2 p (k1.trans k2) s2⟩⟩
def qS (n:Nat) (g:rh):RG:=λd ρ Q=>match d with
 | .tup ds=>ds.length=n/\g ds ρ Q
 | _=>False
theorem qK {es:List Expr} {k:Nat} {g:rh} {n:Nat} (hc:X.calm=true) (h:zw X es g) (hn:(assignEach es X.env).length=n:=by rfl) (o6:(assignEach es X.env).findIdx? (·.1)=none:=by rfl):DG X (.Tuple es k pos) (qS n g) :=
 PG.mono (Ya hc h hn o6) λv σ H Q hh=>WN hh λd ρ P r st q kk=>by
  cases d with
  | tup ds =>
   cases r with
   | tup h r=>exact⟨_,_,rfl,fg.of h,by rw[<-r.length];exact q.1,ds,ρ,P,r,st,q.2,kk⟩
  | _=>exact q.elim
def Kj (te:RE) (g:RG):RS:=λE ρ=>te ρ λd=>g d ρ E.nx
theorem WG {tg:Expr} {g:RG} (he:DE X e te) (hg:DG X tg g) (hs:swapsWithSole [tg] e pos.line X.env=pure false:=by rfl) (hw:swappedStores [tg] e X.env=pure none:=by rfl)
  (h1:(assignEach [tg] X.env).map (·.2)=[assign tg X.env]:=by rfl):DS X (.Assign [tg] e pos) (Kj te g) :=
 PS.mono (Ye he hg hs hw h1) λDe σ H hh=>rG hh λρ E st q n r b c=>⟨ρ,_,st,q,λd v H1 hd s1 rr=>⟨d,ρ,_,rr,st.ext s1,hd,λρ2 σ2 H2 x k2 s2=>n ρ2 σ2 H2 x ((ak.of s1).trans k2) s2⟩⟩
def eX (i:Nat) (te:RE):RS:=λE ρ=>te ρ λd=>E.nx (ρ.set i (some (.d d)))
theorem cR {i:Nat} {x:Str} {pos':Pos} (hN:X.N.Nodup) (he:DE X e te) (hi:X.N[i]? = some x:=by rfl) (hx:Loc X.env.scope x:=by walk_at "vis") (hs:swapsWith e (some (.Name x pos')) pos.line X.env=pure false:=by rfl)
  (hf:X.fn x=true\/X.env.scope.names.lookup x=some .local:=by walk_at "loc"):DS X (.Assign [.Name x pos'] e pos) (eX i te) :=
 PS.mono (Ea hN hi hx he hs hf) λDe σ H hh=>rG hh λρ E st q n r b c=>⟨ρ,_,st,q,λd v H1 hd s1 rr=>n _ _ H1 hd (.of s1) ((st.ext s1).set_d rr)⟩
def tP (i:Nat) (t:RA):RS:=λE ρ=>t ρ λds=>E.nx (ρ.set i (some (.own ds)))
theorem yV {i:Nat} {x:Str} {pos':Pos} {t:RA} (hN:X.N.Nodup) (he:DO X e t) (hi:X.N[i]? = some x:=by rfl) (hx:Loc X.env.scope x:=by walk_at "vis") (hs:swapsWith e (some (.Name x pos')) pos.line X.env=pure false:=by rfl)
  (hf:X.fn x=true\/X.env.scope.names.lookup x=some .local:=by walk_at "loc"):DS X (.Assign [.Name x pos'] e pos) (tP i t) :=
 PS.mono (Ea hN hi hx he hs hf) λDe σ H hh=>rG hh λρ E st q n r b c=>⟨ρ,_,st,q,λds p vs H1 hd s1 hp rr=>n _ _ _ hd ((ak.of s1).trans (.of (.fn λb o h=>by rw[cX (fF h hp)];exact h))) ((st.ext s1).set_own hp rr)⟩
def Yr (i j:Nat) (t:RA):RS:=λE ρ=>t ρ λds=>match ds with
 | [x,y]=>E.nx ((ρ.set i (some (.d x))).set j (some (.d y)))
 | _=>False
theorem Wj {i j:Nat} {x y:Str} {t:RA} {px py pt:Pos} {kt k2 vw} (hc:X.calm=true) (hN:X.N.Nodup) (ha:DA X [a,b] t) (hi:X.N[i]? = some x:=by rfl) (hj:X.N[j]? = some y:=by rfl) (md:i≠j:=by decide)
  (hx:X.env.scope.names.lookup x=some .local:=by rfl) (hy:X.env.scope.names.lookup y=some .local:=by rfl)
  (hw:swappedStores [.Tuple [.Name x px,.Name y py] kt pt] (.Tuple [a,b] k2 vw) X.env=pure (some [x,y]):=by rfl)
  (hs:swapsWithSole [.Tuple [.Name x px,.Name y py] kt pt] (.Tuple [a,b] k2 vw) pos.line X.env=pure false:=by rfl) :
  DS X (.Assign [.Tuple [.Name x px,.Name y py] kt pt] (.Tuple [a,b] k2 vw) pos) (Yr i j t) :=
 PS.mono (Yg hc hN hi hj md hx hy ha hw hs) λDe σ H hh=>rG hh λρ E st q n r b c=>⟨ρ,_,st,q,λds vs H1 hd s1 rr=>by
  cases rr with
  | nil=>exact hd.elim
  | cons r1 t1 =>
   cases t1 with
   | nil=>exact hd.elim
   | cons r2 t2 =>
    cases t2 with
    | nil=>exact⟨_,_,rfl,n _ _ H1 hd (.of s1) (((st.ext s1).set_d r1).set_d r2)⟩
    | cons _ _=>exact hd.elim⟩
def wV (i:Nat) (ρ:En):En:=match ρ[i]? with
 | some (some x)=>ρ.set i (some x.fz)
 | _=>ρ
theorem EO (i:Nat) (h:DS X st t):DS X st (λE ρ=>t E (wV i ρ)):=by
 intro pins s σ H De I ⟨ρ,E,so,q,n,r,b,c⟩;have q:t E (wV i ρ):=q;unfold wV at q;split at q
 ·rename_i x e;obtain⟨H2,I2,jt,kp⟩:=so.fz I e;exact h pins s σ _ De I2 ⟨_,E,jt,q,λρ2 σ2 H2 x k2=>n ρ2 σ2 H2 x (kp.trans k2),λd v H2 x k2=>r d v H2 x (kp.trans k2),λρ2 σ2 H2 x k2=>b ρ2 σ2 H2 x (kp.trans k2),λρ2 σ2 H2 x k2=>c ρ2 σ2 H2 x (kp.trans k2)⟩
 ·exact h pins s σ H De I ⟨ρ,E,so,q,n,r,b,c⟩
def oZ (c:RT) (t:RS):Nat->RS
 | 0,_,_=>False
 | n+1,E,ρ=>c ρ λk=>if k=true then t { E with nx:=oZ c t n E,ct:=oZ c t n E,bk:=E.nx } ρ else E.nx ρ
def CK (c:RT) (t:RS):RS:=λE ρ=>∃n,oZ c t n E ρ
theorem IL (hp:PassesOwn (model X.prog X.w) X.A X.env X.xe) (hc:DT X c tA) (hb:o3 X body t):DS X (.While c body [] pos) (CK tA t) :=
 PS.mono (Ox hp hc hb) λDe σ H hh=>rG hh λρ E st mq n r b c=>by
  obtain⟨m,q⟩:=mq;refine⟨λm σ' H'=>∃ρ',au X ρ' σ' H'/\ak H H'/\oZ tA t m E ρ',⟨m,ρ,st,ak.refl H,q⟩,?_⟩;rintro m σ' H' ⟨ρ',e_,kp,hw⟩;cases m with
  | zero=>exact hw.elim
  | succ m =>
   refine⟨ρ',_,e_,hw,λk H1 hk s1=>?_⟩;have qy:=kp.trans (.of s1);cases k with
   | true =>
    dsimp only at hk ⊢;rw[if_pos rfl] at hk ⊢;refine⟨λσ2 H2=>∃ρ2,au X ρ2 σ2 H2/\ak H H2/\oZ tA t m E ρ2,λσ2 H2 ⟨ρ2,a1,a2,a3⟩=>⟨m,mS m,ρ2,a1,a2,a3⟩,?_⟩;exact⟨ρ',_,e_.ext s1,hk,λρ2 σ2 H2 x k2 s2=>⟨ρ2,s2,qy.trans k2,x⟩,λd v H2 x k2=>r d v H2 x (qy.trans k2),λρ2 σ2 H2 x k2=>n ρ2 σ2 H2 x (qy.trans k2),λρ2 σ2 H2 x k2 s2=>⟨ρ2,s2,qy.trans k2,x⟩⟩
   | false =>
    dsimp only at hk ⊢;rw[if_neg cO] at hk ⊢;exact n ρ' σ' H1 hk qy (e_.ext s1)
def Lc (X:Cx) (J:It) (xs:List D) (H0:Hp):Prop:=∀i H,ak H0 H ->
 (∀d,xs[i]? = some d->J.go i H/\∀x H',J.yld i H x H'->ag H H'/\c7 X.K H' d x)/\(xs.length<=i->J.stop i H)
def B0 (X:Cx) (t:RA):TI:=λσ H R=>∃ρ P,au X ρ σ H/\t ρ P/\∀xs J H',P xs->ag H H'->Lc X J xs H'->R J H'
def DI (X:Cx) (tg iter:Expr) (t:RA):Prop:=PI X tg iter (B0 X t)
theorem PI.mono {X:Cx} {tg e:Expr} {t t':TI} (h:PI X tg e t) (m:∀σ H Q,t' σ H Q->t σ H Q):PI X tg e t':=λpins s σ H Q I q=>h pins s σ H Q I (m σ H Q q)
def ZD (g:RG) (t:RS):List D->RS
 | [],E,ρ=>E.nx ρ
 | x::xs,E,ρ=>g x ρ λρ1=>t { E with nx:=ZD g t xs E,ct:=ZD g t xs E,bk:=E.nx } ρ1
def nT (ti:RA) (g:RG) (t:RS):RS:=λE ρ=>ti ρ λxs=>ZD g t xs E ρ
theorem mJ (hp:PassesOwn (model X.prog X.w) X.A X.env X.xe) (hc:X.calm=true) (hi:DI X tg iter ti) (hg:DG X tg g) (hb:o3 X body t)
  (hs:∀x,foldedSetIterable iter X.env x=pure x:=by intro _;rfl):DS X (.For tg iter body [] pos) (nT ti g t) :=
 PS.mono (Yf hp hc hi hg hb hs) λDe σ H hh=>rG hh λρ E st q n r b c=>by
  refine⟨ρ,_,st,q,λxs J H1 hx s1 ok=>?_⟩;refine⟨λi m σ' H'=>m=xs.length-i/\i<=xs.length/\∃ρ',au X ρ' σ' H'/\ak H1 H'/\ZD g t (xs.drop i) E ρ',⟨xs.length,by simp,gU _,ρ,st.ext s1,ak.refl H1,by simpa using hx⟩,?_⟩;rintro i m σ' H' ⟨rfl,hi,ρ',e_,kp,hf⟩;obtain⟨o1,o2⟩:=ok i H' kp;have qy:ak H H':=(ak.of s1).trans kp;by_cases dk:i<xs.length
  ·have e:xs.drop i=xs[i]::xs.drop (i+1):=gW dk;rw[e] at hf;obtain⟨go,yl⟩:=o1 xs[i] (aE dk);refine .inr ⟨go,λσ2 H2=>∃ρ2,au X ρ2 σ2 H2/\ak H1 H2/\ZD g t (xs.drop (i+1)) E ρ2,λσ2 H2 hh=>⟨xs.length-(i+1),by lia,rfl,dk,hh⟩,λx H2 y=>?_⟩;obtain⟨s2,rx⟩:=yl x H2 y;refine⟨xs[i],ρ',_,rx,e_.ext s2,hf,λρ3 σ3 H3 h3 k3 s3=>?_⟩;have k13:ak H1 H3:=(kp.trans (.of s2)).trans k3;have k03:ak H H3:=(qy.trans (.of s2)).trans k3;exact⟨ρ3,_,s3,h3,λρ4 σ4 H4 x4 k4 s4=>⟨ρ4,s4,k13.trans k4,x4⟩,λd v H4 x4 k4=>r d v H4 x4 (k03.trans k4),λρ4 σ4 H4 x4 k4=>n ρ4 σ4 H4 x4 (k03.trans k4),λρ4 σ4 H4 x4 k4 s4=>⟨ρ4,s4,k13.trans k4,x4⟩⟩
  ·have e:i=xs.length:=(by lia);subst e;rw[JV] at hf;exact .inl ⟨o2 (bU _),n ρ' σ' H' hf qy e_⟩
end
section
variable {X:Cx} {tg e:Expr} {te:RE} {pos p:Pos}
def riL (te:RE):RA:=λρ Q=>te ρ λd=>match d with
 | .lst ds=>Q ds
 | _=>False
theorem lY (h:DE X e te):DI X tg e (riL te):=by
 refine PI.mono (Th h) λσ H R hh=>jF hh λρ P st q k=>⟨ρ,_,st,q,λd v H1 hd s1 r=>?_⟩;cases d with
 | lst ds =>
  cases r with
  | @lst a vs _ hz r =>
   refine⟨a,rfl,⟨vs,hz.sq⟩,k ds _ H1 hd s1 λi H2 kp=>⟨λd e=>?_,λhl=>⟨vs,(hz.keep kp).sq,by rw[<-r.length];exact hl⟩⟩⟩;obtain⟨v,h1,h2⟩:=(r.keep kp).get e;refine⟨⟨vs,v,(hz.keep kp).sq,h1⟩,λx H' y=>?_⟩;obtain⟨e1,e2⟩:=y;subst e1;have e3:=e2 vs (hz.keep kp).sq;rw[h1] at e3;cases e3;exact⟨ag.refl _,h2⟩
 | _=>exact hd.elim
def riT (te:RE):RA:=λρ Q=>te ρ λd=>match d with
 | .tup ds=>Q ds
 | _=>False
theorem PF (h:DE X e te):DI X tg e (riT te):=by
 refine PI.mono (Yd h) λσ H R hh=>jF hh λρ P st q k=>⟨ρ,_,st,q,λd v H1 hd s1 r=>?_⟩;cases d with
 | tup ds =>
  cases r with
  | @tup a vs _ hz r =>
   refine⟨a,rfl,⟨vs,fg.of hz⟩,k ds _ H1 hd s1 λi H2 kp=>⟨λd e=>?_,λhl=>⟨vs,fg.of (kp.tups _ _ hz),by rw[<-r.length];exact hl⟩⟩⟩;obtain⟨v,h1,h2⟩:=(r.keep kp).get e;refine⟨⟨vs,v,fg.of (kp.tups _ _ hz),h1⟩,λx H' y=>?_⟩;obtain⟨e1,e2⟩:=y;subst e1;have e3:=e2 vs (fg.of (kp.tups _ _ hz));rw[h1] at e3;cases e3;exact⟨ag.refl _,h2⟩
 | _=>exact hd.elim
def tG (lo:Int) (n:Nat):List D:=(dZ n).map λk:Nat=>D.int (lo+(k:Int))
theorem Wx (lo:Int) (n:Nat):Lc X (z6 lo n) (tG lo n) H0:=λi H kp=>by
 refine⟨λd e=>?_,λhl=>by show n<=i;simpa [tG] using hl⟩;unfold tG at e;rw[bZ] at e;by_cases hi:i<n
 ·rw[tK hi] at e;cases e;exact⟨hi,λx H' y=>by obtain⟨rfl,rfl⟩:=y;exact⟨ag.refl _,.int _⟩⟩
 ·rw[iZ (by simpa using hi)] at e;cases e
structure pj (j:Int):Prop where
 lo:-(2 ^ 62)<=j
 hi:j<2 ^ 62
def RJ (t:RA):RA:=λρ Q=>t ρ λds=>match ds with
 | [.int j]=>pj j/\Q (tG 0 j.toNat)
 | _=>False
def M8 (t:RA):RA:=λρ Q=>t ρ λds=>match ds with
 | [.int i,.int j]=>(pj i/\pj j)/\Q (tG i (j-i).toNat)
 | _=>False
theorem xN {a:Expr} {t:RA} (hm:X.mg "range" = none) (ha:DA X [a] t) (hg:Gl X "range":=by rfl) (hs:starEach [a] X.env=[(false,eval a X.env)]:=by rfl):DI X tg (.Call (.Name "range" p) [a] [] pos) (RJ t):=by
 refine PI.mono (Jz hg hm ha hs) λσ H R hh=>jF hh λρ P st q k=>⟨ρ,_,st,q,λds vs H1 hd s1 r=>?_⟩;split at hd
 ·rename_i j;rw[ah.ints_inv (ns:=[j]) r];exact⟨j,rfl,hd.1.lo,hd.1.hi,k _ _ H1 hd.2 s1 (Wx 0 _)⟩
 ·exact hd.elim
end
abbrev FD:=List D->(D->Prop)->Prop
def q9 (K:aI) (F:FD):Sp:=λvs H Q _=>gl K H/\∃ds P,ah K H ds vs/\F ds P/\∀d v H',P d->ag H H'->c7 K H' d v->Q v H'
def cU (F:FD) (t:RA):RE:=λρ Q=>t ρ λds=>F ds Q
section
variable {X:Cx} {k:Nat} {f:Addr} {fd:mN} {ps:List Str} {F:FD} {x:Str} {p pos:Pos} {e:Expr} {es:List Expr} {t:RA}
theorem Ri (G:im X.prog X.w X.K X.mg X.base jy k f fd ps (q9 X.K F)) (hr:ck k X.A) (hm:X.mg x=some (.ref f)) (hk:mT X.K (.ref f)=true) (hb:Binds X.K fd ps []) (ha:DA X (e::es) t) (hg:Gl X x:=by rfl)
  (ma:(x == ("__debug__":Str))=false:=by decide) (he:starEach (e::es) X.env=(false,eval e X.env)::starEach es X.env:=by rfl) (js:(backTo pos (starEach es X.env)).any (·.1)=false:=by rfl) :
  DE X (.Call (.Name x p) (e::es) [] pos) (cU F t) :=
 PE.mono (Gy (E:=E0) G hr hg hm hk hb .nil Vt ha ma he js) λσ H Q hh=>jF hh λρ P st q kk=>⟨ρ,_,st,q,λds vs H1 hd s1 r=>by
  show q9 X.K F (vs++[]) H1 Q E0;rw[fC];exact⟨(st.ext s1).tabs,ds,P,r,hd,λd v H2 hp s2 r2=>kk d v H2 hp (s1.trans s2) r2⟩⟩
end
def dR (N:List Str) (ds:List D):En:=ds.map (λd=>some (.d d))++fH (N.length-ds.length) none
section
variable {P:cE} {w:dI} {K:aI} {mg:Str->Option aD} {base:Heap}
theorem RQ (tb:gl X.K X.H₀) (r:ah X.K X.H₀ ds vs):au X (dR N ds) (start N vs) X.H₀:=by
 have hl:=r.length;have own:∀(i:Nat) (x:S),(dR N ds)[i]? = some (some x)->∃d,x = .d d:=λi x e=>by
  unfold dR at e;by_cases hi:i<ds.length
  ·rw[cZ (by simpa using hi),bZ,aE hi] at e;cases e;exact⟨_,rfl⟩
  ·rw[dL (by simpa using hi),jE] at e;split at e <;> cases e
 refine⟨by simp[dR,start,hl],ag.refl _,λi x e=>?_,λi j x y v u a e1 _ _ _ o _=>by
  obtain⟨d,rfl⟩:=own i x e1;exact o.elim,tb⟩
 unfold dR at e;by_cases hi:i<ds.length
 ·rw[cZ (by simpa using hi),bZ,aE hi] at e;cases e;obtain⟨v,h1,h2⟩:=r.get (aE hi);refine⟨v,?_,h2⟩;unfold start;rw[cZ (by simpa [<-hl] using hi),bZ,h1];rfl
 ·rw[dL (by simpa using hi),jE] at e;split at e <;> cases e
theorem A3 {x qual:Str} {st:Stmt} {f:Addr} {fd:mN} {N ps:List Str} {k:Nat} {F:FD} {t:RS} (Fu:sk K x qual st f fd) (Sc:f7 N ps (gK st))
  (gg:∀(cdv:aD) (A:dJ) (outer:List Env) (s:aG) (H:Hp) (E:XK),ck k (A.deeper (envOfC qual (gK st) s.heap.objs.size f cdv)) ->
   o3 (EG jy P w K mg base N qual (gK st) f cdv A outer s H E).nox (rF st) t)
  (len:∀ds Q,F ds Q->ds.length=ps.length) (pure:∀ds Q,F ds Q->t { nx:=λ_=>Q .non,rt:=Q } (dR N ds)):im P w K mg base jy (k+1) f fd ps (q9 K F):=by
 refine Fu.ok Sc (λvs H Q E ⟨_,ds,P,r,h,_⟩=>by rw[<-r.length];exact len ds P h) λcdv A outer s H vs Q E hr ⟨tb,ds,P',r,h,kk⟩=>⟨_,gg cdv A outer s H E hr,?_⟩;exact⟨dR N ds,_,RQ (X:=(EG jy P w K mg base N qual (gK st) f cdv A outer s H E).nox) tb r,pure ds P' h,λρ' σ' H' hq k s'=>kk .non .non H' hq s'.same .non,λd v H' hq k sm rv=>kk d v H' hq sm rv,λ_ _ _ z=>z.elim,λ_ _ _ z=>z.elim⟩
end
def BL (n:Nat) (i:Int):Prop:=i.natAbs<2 ^ n
def BL.bits (h:BL n i):DZ i<=n:=PV.mpr h
def BL.of (h:DZ i<=n):BL n i:=PV.mp h
def BL.mono (h:BL m i) (l:m<=n:=by decide):BL n i:=BL.of (fW h.bits l)
def BL.add (a:BL m i) (b:BL n j):BL (max m n+1) (i+j):=BL.of (intBits_add_le a.bits b.bits)
def BL.sub (a:BL m i) (b:BL n j):BL (max m n+1) (i-j):=BL.of (intBits_sub_le a.bits b.bits)
def BL.mul (a:BL m i) (b:BL n j):BL (m+n) (i*j):=BL.of (intBits_mul_le a.bits b.bits)
def BL.neg (a:BL m i):BL m (-i):=BL.of (intBits_neg_le a.bits)
def BL.fdiv (a:BL m i):BL m (i.fdiv j):=BL.of (intBits_fdiv_le a.bits)
def BL.le (a:BL m j) (h:i.natAbs<=j.natAbs):BL m i:=FY h a
def BL.of_lt {m:Nat} {i:Int} (h1:-(2 ^ m:Nat)<i) (h2:i<(2 ^ m:Nat)):BL m i:=by unfold BL;lia
def BL.intMulOk (a:BL m i) (b:BL n j) (h:m+n<=134217728):IntMulOk i j:=IntMulOk.of_le a.bits b.bits h
def BL.noPy (h:BL 9000 j):nN i j=false:=by
 refine PyProof.noPylong_of_log2 ?_;by_cases h0:j.natAbs=0
 ·rw[h0];decide +kernel
 ·exact (Nat.log2_lt h0).mpr h
section
variable {X:Cx} {e a b c:Expr} {pos:Pos}
theorem df.int_inv {K:aI} {H:Hp} {i:Int} {v:V} (h:df K H (.int i) v):v = .int i:=by
 rcases h with h | ⟨ds,a,vs,e1,_⟩
 ·exact h.int_inv
 ·cases e1
theorem df.bl_inv {K:aI} {H:Hp} {i:Bool} {v:V} (h:df K H (.bl i) v):v = .bl i:=by
 rcases h with h | ⟨ds,a,vs,e1,_⟩
 ·exact h.bl_inv
 ·cases e1
theorem df.non_inv {K:aI} {H:Hp} {v:V} (h:df K H .non v):v = .non:=by
 rcases h with h | ⟨ds,a,vs,e1,_⟩
 ·cases h;rfl
 ·cases e1
theorem df.is_non {K:aI} {H:Hp} {d:D} {v:V} (h:df K H d v):decide (v = .non)=(match d with | .non=>true | _=>false):=by
 rcases h with h | ⟨ds,a,vs,e1,e2,_⟩
 ·cases h <;> simp
 ·subst e1 e2;simp
structure MulOk (i j:Int):Prop where
 ok:IntMulOk i j
structure o9 (i j:Int):Prop where
 nz:j≠0
 np:nN i j=false
structure sr (j:Int):Prop where
 nz:j≠0
structure ss (i j:Int):Prop where
 ok:0<=j/\j<=1000000/\i.natAbs<2 ^ 64
theorem BL.mulOk (a:BL m i) (b:BL n j) (h:m+n<=134217728:=by decide):MulOk i j:=⟨a.intMulOk b h⟩
theorem BL.divOk (h:BL 9000 j) (nz:j≠0):o9 i j:=⟨nz,h.noPy⟩
def lX:R22:=λx y Q=>match x,y with
 | .int i,.int j=>Q (.int (i+j))
 | _,_=>False
def mI:R22:=λx y Q=>match x,y with
 | .int i,.int j=>Q (.int (i-j))
 | _,_=>False
def fE:R22:=λx y Q=>match x,y with
 | .int i,.int j=>MulOk i j/\Q (.int (i*j))
 | _,_=>False
def kB:R22:=λx y Q=>match x,y with
 | .int i,.int j=>o9 i j/\Q (.int (i.fdiv j))
 | _,_=>False
def pS:R22:=λx y Q=>match x,y with
 | .int i,.int j=>sr j/\Q (.int (i.fmod j))
 | _,_=>False
def YR:R22:=λx y Q=>match x,y with
 | .int i,.int j=>ss i j/\Q (.int (i ^ j.toNat))
 | _,_=>False
theorem Jw {f:aD->aD->Sem aD} {C:Int->Int->Prop} {g:Int->Int->Int} {r:R22} (h:j3 X f (rI C λi j=>.int (g i j)))
  (hr:∀x y Q,r x y Q->∃i j,x = .int i/\y = .int j/\C i j/\Q (.int (g i j))):jn X f r:=by
 intro pins s σ H x y v u Q I rx ry bi;obtain⟨d,e,P,r1,r2,q,k⟩:=bi;obtain⟨i,j,rfl,rfl,hc,q⟩:=hr _ _ _ q;exact h pins s σ H x y v u Q I rx ry ⟨i,j,r1.int_inv,r2.int_inv,hc,k _ _ H q (ag.refl H) (.int _)⟩
theorem iG:jn X (binaryOp .Add) lX:=Jw (C:=λ_ _=>True) (g:=λi j=>i+j) (w5 λ_ _ _ _ _ _ _ _ q=>add_int q) λx y Q q=>by
 unfold lX at q;split at q
 ·exact⟨_,_,rfl,rfl,trivial,q⟩
 ·exact q.elim
theorem iY:jn X (binaryOp .Sub) mI:=Jw (C:=λ_ _=>True) (g:=λi j=>i-j) (w5 λ_ _ _ _ _ _ _ _ q=>sub_int q) λx y Q q=>by
 unfold mI at q;split at q
 ·exact⟨_,_,rfl,rfl,trivial,q⟩
 ·exact q.elim
theorem cF:jn X (binaryOp .Mult) fE:=Jw (C:=λi j=>IntMulOk i j) (g:=λi j=>i*j) (w5 λ_ _ _ _ _ _ _ hc q=>mul_int q hc) λx y Q q=>by
 unfold fE at q;split at q
 ·exact⟨_,_,rfl,rfl,q.1.ok,q.2⟩
 ·exact q.elim
theorem iH:jn X (binaryOp .FloorDiv) kB:=Jw (C:=λi j=>j≠0/\nN i j=false) (g:=λi j=>i.fdiv j) (w5 λ_ _ _ _ _ _ _ hc q=>floordiv_int hc.1 q (.inl hc.2)) λx y Q q=>by
 unfold kB at q;split at q
 ·exact⟨_,_,rfl,rfl,⟨q.1.nz,q.1.np⟩,q.2⟩
 ·exact q.elim
theorem kN:jn X (binaryOp .Mod) pS:=Jw (C:=λ_ j=>j≠0) (g:=λi j=>i.fmod j) (w5 λ_ _ _ _ _ _ _ hc q=>mod_int' hc q) λx y Q q=>by
 unfold pS at q;split at q
 ·exact⟨_,_,rfl,rfl,q.1.nz,q.2⟩
 ·exact q.elim
theorem XB:jn X (binaryOp .Pow) YR:=Jw (C:=λi j=>0<=j/\j<=1000000/\i.natAbs<2 ^ 64) (g:=λi j=>i ^ j.toNat) (w5 λ_ _ _ _ _ _ _ hc q=>pow_int_small hc.1 hc.2.1 hc.2.2 q) λx y Q q=>by
 unfold YR at q;split at q
 ·exact⟨_,_,rfl,rfl,q.1.ok,q.2⟩
 ·exact q.elim
def wR:D->(D->Prop)->Prop:=λx Q=>match x with
 | .int i=>Q (.int (-i))
 | _=>False
theorem sL:UnD X (unaryOp .USub) wR:=by
 intro pins s σ H x v Q I rx bi;obtain⟨d,P,r,q,k⟩:=bi;unfold wR at q;split at q
 ·rename_i i;exact Zh pins s σ H x v Q I rx ⟨i,r.int_inv,k _ _ H q (ag.refl H) (.int _)⟩
 ·exact q.elim
def oT (p:Int->Int->Bool):R22:=λx y Q=>match x,y with
 | .int i,.int j=>Q (.bl (p i j))
 | _,_=>False
theorem Sy (h:j3 X f (w6 λi j=>.bl (p i j))):jn X f (oT p):=by
 intro pins s σ H x y v u Q I rx ry bi;obtain⟨d,e,P,r1,r2,q,k⟩:=bi;unfold oT at q;split at q
 ·rename_i i j;exact h pins s σ H x y v u Q I rx ry ⟨i,j,r1.int_inv,r2.int_inv,k _ _ H q (ag.refl H) (.bl _)⟩
 ·exact q.elim
theorem CD:jn X (compareOp .Lt) (oT λi j=>decide (i<j)):=Sy Vr
theorem Gs:jn X (compareOp .LtE) (oT λi j=>decide (i<=j)):=Sy Vq
theorem UU:jn X (compareOp .Gt) (oT λi j=>decide (j<i)):=Sy Vp
theorem C4:jn X (compareOp .GtE) (oT λi j=>decide (j<=i)):=Sy Vo
def sT (neg:Bool):R22:=λx y Q=>match x,y with
 | .int i,.int j=>Q (.bl (if neg then !decide (i=j) else decide (i=j)))
 | .bl i,.bl j=>Q (.bl (if neg then !decide (i=j) else decide (i=j)))
 | _,_=>False
theorem vF:jn X (compareOp .Eq) (sT false):=by
 intro pins s σ H x y v u Q I rx ry bi;obtain⟨d,e,P,r1,r2,q,k⟩:=bi;unfold sT at q;split at q
 ·rename_i i j;rw[r1.int_inv] at rx;rw[r2.int_inv] at ry;exact Vn pins s σ H _ _ v u Q I rx ry ⟨rfl,by
   have e:decide (V.int i=V.int j)=decide (i=j):=(by simp);rw[e];exact k _ _ H q (ag.refl H) (.bl _)⟩
 ·rename_i i j;rw[r1.bl_inv] at rx;rw[r2.bl_inv] at ry;exact Vn pins s σ H _ _ v u Q I rx ry ⟨rfl,by
   have e:decide (V.bl i=V.bl j)=decide (i=j):=(by simp);rw[e];exact k _ _ H q (ag.refl H) (.bl _)⟩
 ·exact q.elim
theorem CF:jn X (compareOp .NotEq) (sT true):=by
 intro pins s σ H x y v u Q I rx ry bi;obtain⟨d,e,P,r1,r2,q,k⟩:=bi;unfold sT at q;split at q
 ·rename_i i j;rw[r1.int_inv] at rx;rw[r2.int_inv] at ry;exact Vs pins s σ H _ _ v u Q I rx ry ⟨rfl,by
   have e:decide (V.int i=V.int j)=decide (i=j):=(by simp);rw[e];exact k _ _ H q (ag.refl H) (.bl _)⟩
 ·rename_i i j;rw[r1.bl_inv] at rx;rw[r2.bl_inv] at ry;exact Vs pins s σ H _ _ v u Q I rx ry ⟨rfl,by
   have e:decide (V.bl i=V.bl j)=decide (i=j):=(by simp);rw[e];exact k _ _ H q (ag.refl H) (.bl _)⟩
 ·exact q.elim
def BS:D->Bool
 | .non=>true
 | _=>false
def AM (neg:Bool):R22:=λx y Q=>match y with
 | .non=>Q (.bl (if neg then !BS x else BS x))
 | _=>False
theorem ZJ {K:aI} {H:Hp} {d:D} {v:V} (h:df K H d v):decide (v = .non)=BS d:=by
 rw[h.is_non];cases d <;> rfl
theorem Oe:jn X (compareOp .Is) (AM false):=by
 intro pins s σ H x y v u Q I rx ry bi;obtain⟨d,e,P,r1,r2,q,k⟩:=bi;unfold AM at q;split at q
 ·exact Xs pins s σ H x y v u Q I rx ry ⟨r2.non_inv,by rw[ZJ r1];exact k _ _ H q (ag.refl H) (.bl _)⟩
 ·exact q.elim
theorem XA:jn X (compareOp .IsNot) (AM true):=by
 intro pins s σ H x y v u Q I rx ry bi;obtain⟨d,e,P,r1,r2,q,k⟩:=bi;unfold AM at q;split at q
 ·exact Tc pins s σ H x y v u Q I rx ry ⟨r2.non_inv,by rw[ZJ r1];exact k _ _ H q (ag.refl H) (.bl _)⟩
 ·exact q.elim
def ca:R22:=λx y Q=>match x,y with
 | .lst ds,.int i=>match h9 ds i with
  | some d=>Q d
  | none=>False
 | .tup ds,.int i=>match h9 ds i with
  | some d=>Q d
  | none=>False
 | _,_=>False
theorem YC {K:aI} {H:Hp} {ds:List D} {vs:List V} {i:Int} {d:D} (r:ah K H ds vs) (h:h9 ds i=some d):∃v,h9 vs i=some v/\c7 K H d v:=by
 unfold h9 at h ⊢;rw[<-r.length];cases e:lr ds.length i with
 | none=>rw[e] at h;cases h
 | some j =>
  rw[e] at h;exact r.get h
theorem aT (ha:DB X a ta) (hb:DB X b tb) (hs:Fj b:=by intro _ _;rfl):DE X (.Subscript a b pos) (r2 ca ta tb):=by
 refine PE.mono (Vu (Ry.or Nh) ha hb hs) λσ H Q h=>?_;obtain⟨ρ,P,st,ht,hP⟩:=h;refine⟨ρ,_,st,ht,λx v H1 h1 s1 r1=>⟨ρ,_,st.ext s1,h1,λy u H2 h2 s2 r2=>?_⟩⟩;have r1':=r1.same s2;unfold ca at h2;split at h2
 ·rename_i ds i;split at h2
  ·rename_i d e;obtain⟨p,vs,rfl,hq,rr⟩:=r1'.lst;obtain⟨w',e',mn⟩:=YC rr e;exact .inl ⟨p,vs,i,w',rfl,r2.int_inv,hq,e',hP d w' H2 h2 (s1.trans s2) mn⟩
  ·exact h2.elim
 ·rename_i ds i;split at h2
  ·rename_i d e;obtain⟨p,vs,rfl,hq,rr⟩:=r1'.tup;obtain⟨w',e',mn⟩:=YC rr e;exact .inr ⟨p,vs,i,w',rfl,r2.int_inv,fg.of hq,e',hP d w' H2 h2 (s1.trans s2) mn⟩
  ·exact h2.elim
 ·exact h2.elim
abbrev RO:=En->(Option Int->Prop)->Prop
def B5 (X:Cx) (t:RO):TO:=λσ H Q=>∃ρ P,au X ρ σ H/\t ρ P/\∀o H',P o->ag H H'->Q o H'
def DP (X:Cx) (e:Option Expr) (t:RO):Prop:=PO X e (B5 X t)
def rL:RO:=λ_ Q=>Q none
def CJ (t:RE):RO:=λρ Q=>t ρ λd=>match d with
 | .int i=>Q (some i)
 | _=>False
theorem DH:DP X none rL:=λpins s σ H Q I hh=>jF hh λρ P st q k=>Tj pins s σ H Q I (k none H q (ag.refl H))
theorem DJ (h:DE X e t):DP X (some e) (CJ t):=λpins s σ H Q I hh=>jF hh λρ P st q k=>Tk h pins s σ H Q I ⟨ρ,_,st,q,λd v H1 hd s1 r=>by
 cases d with
 | int i=>exact⟨i,r.int_inv,k (some i) H1 hd s1⟩
 | _=>exact hd.elim⟩
def cutD (xs:List D) (lo hi:Option Int):List D:=(xs.drop (HT.sIx xs.length 0 lo)).take (HT.sIx xs.length xs.length hi-HT.sIx xs.length 0 lo)
def Hg (te:RE) (tl th:RO):RA:=λρ Q=>te ρ λx=>tl ρ λl=>th ρ λu=>match x with
 | .lst ds=>Q (cutD ds l u)
 | _=>False
theorem Mn {lo hi:Option Expr} (he:DB X e te) (hl:DP X lo tl) (hu:DP X hi th):DO X (.Subscript e (.Slice lo hi none p2) pos) (Hg te tl th):=by
 refine PE.mono (Ai Hq he hl hu) λσ H Q hh=>jF hh λρ P st q k=>?_;refine⟨ρ,_,st,q,λd v H1 hd s1 r1=>⟨ρ,_,st.ext s1,hd,λl H2 h2 s2=>⟨ρ,_,(st.ext s1).ext s2,h2,λu H3 h3 s3=>?_⟩⟩⟩;cases d with
 | lst ds =>
  obtain⟨p,vs,rfl,hq,rr⟩:=(r1.same (s2.trans s3)).lst;refine⟨p,vs,rfl,hq,λp' kr=>k (cutD ds l u) p' (SR vs l u) H3 h3 ((s1.trans s2).trans s3) kr ?_⟩;unfold cutD SR;rw[<-rr.length];exact (rr.drop _).take _
 | _=>exact h3.elim
def Xe (X:Cx) (r:List D->(D->Prop)->Prop):List V->Hp->VK->Prop:=λxs H Q=>∃ds P,ah X.K H ds xs/\r ds P/\∀z v H',P z->ag H H'->c7 X.K H' z v->Q v H'
def Fb (X:Cx) (f:aD) (r:List D->(D->Prop)->Prop):Prop:=zM X f (Xe X r)
def rCB (r:List D->(D->Prop)->Prop) (t:RA):RE:=λρ Q=>t ρ λds=>r ds Q
variable {x:Str} {p:Pos} {es:List Expr} {t:RA} {id T:String} {r:List D->(D->Prop)->Prop}
theorem vD (hc:Fb X (.builtin id) r) (hm:X.mg x=none) (hv:bootBuiltins x=some (.builtin id)) (ha:DA X (e::es) t) (hg:Gl X x:=by rfl) (hn:x≠"__name__":=by decide) (ma:(x == ("__debug__":Str))=false:=by decide)
  (he:starEach (e::es) X.env=(false,eval e X.env)::starEach es X.env:=by rfl) (js:(backTo pos (starEach es X.env)).any (·.1)=false:=by rfl):DE X (.Call (.Name x p) (e::es) [] pos) (rCB r t) :=
 PE.mono (xQ hc hg hm hv ha hn ma he js) λσ H Q hh=>jF hh λρ P st q k=>⟨ρ,_,st,q,λds vs H1 hd s1 rr=>⟨ds,P,rr,hd,λz v H2 hz s2 r2=>k z v H2 hz (s1.trans s2) r2⟩⟩
theorem KJ (hc:Fb X (.type T) r) (hm:X.mg x=none) (hv:bootBuiltins x=some (.type T)) (ha:DA X (e::es) t) (hg:Gl X x:=by rfl) (hn:x≠"__name__":=by decide) (ma:(x == ("__debug__":Str))=false:=by decide)
  (he:starEach (e::es) X.env=(false,eval e X.env)::starEach es X.env:=by rfl) (js:(backTo pos (starEach es X.env)).any (·.1)=false:=by rfl):DE X (.Call (.Name x p) (e::es) [] pos) (rCB r t) :=
 PE.mono (LG hc hg hm hv ha hn ma he js) λσ H Q hh=>jF hh λρ P st q k=>⟨ρ,_,st,q,λds vs H1 hd s1 rr=>⟨ds,P,rr,hd,λz v H2 hz s2 r2=>k z v H2 hz (s1.trans s2) r2⟩⟩
def SS:List D->(D->Prop)->Prop:=λds Q=>match ds with
 | [.int i]=>Q (.int (if i<0 then -i else i))
 | _=>False
theorem GI:Fb X (.builtin "abs") SS:=by
 intro pins s σ H xs us Q I rv bi;obtain⟨ds,P,r,q,k⟩:=bi;unfold SS at q;split at q
 ·rename_i i;cases r with
  | cons r1 r2 =>
   cases r2;rw[r1.int_inv] at rv;exact Ln pins s σ H _ us Q I rv ⟨i,rfl,k _ _ H q (ag.refl H) (.int _)⟩
 ·exact q.elim
def Ig:List D->(D->Prop)->Prop:=λds Q=>match ds with
 | [.bl b]=>Q (.int (if b then 1 else 0))
 | [.int i]=>Q (.int i)
 | _=>False
theorem Ci:Fb X (.type "int") Ig:=by
 intro pins s σ H xs us Q I rv bi;obtain⟨ds,P,r,q,k⟩:=bi;unfold Ig at q;split at q
 ·rename_i i;cases r with
  | cons r1 r2 =>
   cases r2;rw[r1.bl_inv] at rv;exact UC pins s σ H _ us Q I rv (.inr ⟨i,rfl,k _ _ H q (ag.refl H) (.int _)⟩)
 ·rename_i i;cases r with
  | cons r1 r2 =>
   cases r2;rw[r1.int_inv] at rv;exact UC pins s σ H _ us Q I rv (.inl ⟨i,rfl,k _ _ H q (ag.refl H) (.int _)⟩)
 ·exact q.elim
def Zs:List D->(D->Prop)->Prop:=λds Q=>match ds with
 | [.int i,.int j]=>Q (.int (if j > i then j else i))
 | _=>False
def Zt:List D->(D->Prop)->Prop:=λds Q=>match ds with
 | [.int i,.int j]=>Q (.int (if j<i then j else i))
 | _=>False
def vC:D->(D->Prop)->Prop:=λd Q=>match d with
 | .lst ds=>Q (.int ds.length)
 | .tup ds=>Q (.int ds.length)
 | _=>False
theorem vH {t:TE} (h:PE X e t) (hs:starEach [e] X.env=[(false,eval e X.env)]:=by rfl) (hn:starEach [] X.env=[]:=by rfl):PA X [e] (λσ H Q=>t σ H λv H'=>Q [v] H') :=
 PA.mono (zF h QR (by rw[hs,hn])) λσ H Q q=>q
theorem qJ (hm:X.mg "len" = none) (h:DB X e te) (hg:Gl X "len":=by rfl) (hs:starEach [e] X.env=[(false,eval e X.env)]:=by rfl) (hn:starEach [] X.env=[]:=by rfl):DE X (.Call (.Name "len" p) [e] [] pos) (r1 vC te):=by
 refine PE.mono (xQ VX hg hm PySem.boot_len (vH h hs hn) (by decide) (by decide) (by rw[hs,hn]) (by rw[hn];rfl)) λσ H Q hh=>jF hh λρ P st q k=>⟨ρ,_,st,q,λd v H1 hd s1 r=>?_⟩;unfold vC at hd;split at hd
 ·obtain⟨p,vs,rfl,hq,rr⟩:=r.lst;exact⟨p,vs,rfl,.inl hq,by rw[<-rr.length];exact k _ _ H1 hd s1 (.int _)⟩
 ·obtain⟨p,vs,rfl,hq,rr⟩:=r.tup;exact⟨p,vs,rfl,.inr (fg.of hq),by rw[<-rr.length];exact k _ _ H1 hd s1 (.int _)⟩
 ·exact hd.elim
end
def Zx (ds:List D):List D:=ds.zipIdx.map λp=>D.tup [.int (p.2:Int),p.1]
section
variable {te:RE}
def M6 (te:RE):RA:=λρ Q=>te ρ λd=>match d with
 | .lst ds=>Q (Zx ds)
 | _=>False
end
def Ct (T:String):D->Option Bool
 | .non=>some (T == "NoneType")
 | .bl _=>some (T == "bool" || T == "int")
 | .int _=>some (T == "int")
 | .str _=>some (T == "str")
 | .tup _=>some (T == "tuple")
 | .lst _=>some (T == "list")
 | .dct _ _=>none
 | .dtt _ _=>none
def IH (T:String):D->(D->Prop)->Prop:=λd Q=>match Ct T d with
 | some b=>Q (.bl b)
 | none=>False
structure l8 (K:aI) (T:String):Prop where
 non:lE K (.type "NoneType") (.type T)=some (T == "NoneType")
 bl:lE K (.type "bool") (.type T)=some (T == "bool" || T == "int")
 int:lE K (.type "int") (.type T)=some (T == "int")
 str:lE K (.type "str") (.type T)=some (T == "str")
 tup:lE K (.type "tuple") (.type T)=some (T == "tuple")
 lst:lE K (.type "list") (.type T)=some (T == "list")
section
variable {X:Cx} {e:Expr} {te:RE} {pos p p2:Pos} {T:String} {x:Str}
theorem wT (tab:l8 X.K T) (hm:X.mg "isinstance" = none) (hT:X.mg x=none) (hb:bootBuiltins x=some (.type T)) (h:DE X e te) (hg:Gl X "isinstance":=by rfl) (hgT:Gl X x:=by rfl) (hn:x≠"__name__":=by decide) (hd:(x == ("__debug__":Str))=false:=by decide)
  (hs:starEach [e,.Name x p2] X.env=(false,eval e X.env)::starEach [.Name x p2] X.env:=by rfl) (vo:starEach [.Name x p2] X.env=(false,eval (.Name x p2) X.env)::starEach [] X.env:=by rfl) (js:(backTo pos (starEach [.Name x p2] X.env)).any (·.1)=false:=by rfl) :
  DE X (.Call (.Name "isinstance" p) [e,.Name x p2] [] pos) (r1 (IH T) te):=by
 have hc:zM X (.builtin "isinstance") (λxs H Q=>∃d v P,xs=[v,.ty T]/\c7 X.K H d v/\IH T d P/\∀b,P (.bl b)->Q (.bl b) H):=by
  intro pins s σ H xs us Q I r bi;obtain⟨d,v,P,ex,rd,q,k⟩:=bi;subst ex;obtain⟨u,w',rfl,r1,r2⟩:=vals2 r;cases r2;unfold IH at q;split at q
  ·rename_i b eb;have fin:∀{t:aD},jh X.K H v t->lE X.K t (.type T)=some b->wpAny (model X.prog X.w) X.A (call (.builtin "isinstance") [u,.type T]) (EP X pins σ Q) X.xe s:=λty e=>Iu I r1 ty e λtk=>⟨.bl b,H,I.tok tk,rfl,k b q⟩;cases rd with
   | non=>cases eb;exact fin .non tab.non
   | bl _=>cases eb;exact fin (.bl _) tab.bl
   | int _=>cases eb;exact fin (.int _) tab.int
   | str _=>cases eb;exact fin (.str _) tab.str
   | tup h _=>cases eb;exact fin (.tup h) tab.tup
   | @lst a vs _ h _ =>
    cases eb;rcases h with ⟨o,h⟩ | ⟨o,its,n,hk,hc,_⟩
    ·exact fin (.frz h) tab.lst
    ·cases (show u=fX a from r1);exact gZ vY I.kIn ⟨o,I.kIn a o hk,hc⟩ tab.lst (λz=>nomatch z) λtk=>⟨.bl _,H,I.tok tk,rfl,k _ q⟩
   | dct _ _ _=>cases eb
   | dtt _ _ _=>cases eb
  ·exact q.elim
 refine PE.mono (xQ hc hg hm PyProof.Rows.boot_isinstance (zF h (zF (Td (v:=.ty T) hgT hT hb rfl hn hd) QR vo) hs) (by decide) (by decide) hs js) λσ H Q hh=>jF hh λρ P st q k=>?_;refine⟨ρ,_,st,q,λd v H1 hd s1 r=>⟨d,v,P,rfl,r,hd,λb hb=>k _ _ H1 hb s1 (.bl b)⟩⟩
end
def sC:bootBuiltins "abs" = some (.builtin "abs"):=by decide +kernel
def DD:bootBuiltins "int" = some (.type "int"):=by decide +kernel
def Cf:bootBuiltins "bool" = some (.type "bool"):=by decide +kernel
def oQ:bootBuiltins "tuple" = some (.type "tuple"):=by decide +kernel
def Cg:bootBuiltins "list" = some (.type "list"):=by decide +kernel
def Ud (K:aI):l8 K "int":=⟨by rfl,by rfl,by rfl,by rfl,by rfl,by rfl⟩
def Py (K:aI):l8 K "bool":=⟨by rfl,by rfl,by rfl,by rfl,by rfl,by rfl⟩
def Qa (K:aI):l8 K "list":=⟨by rfl,by rfl,by rfl,by rfl,by rfl,by rfl⟩
def sK (K:aI):l8 K "tuple":=⟨by rfl,by rfl,by rfl,by rfl,by rfl,by rfl⟩
theorem bind1 {P:List aD->Prop} (h:∀a,P [a]):∀us:List aD,us.length=1->P us
 | [a],_=>h a
theorem bind2 {P:List aD->Prop} (h:∀a b,P [a,b]) (us:List aD) (hl:us.length=2):P us:=by
 cases us with
 | nil=>cases hl
 | cons a us=>exact bind1 (P:=λus=>P (a::us)) (h a) us (yN hl)
theorem bind3 {P:List aD->Prop} (h:∀a b c,P [a,b,c]) (us:List aD) (hl:us.length=3):P us:=by
 cases us with
 | nil=>cases hl
 | cons a us=>exact bind2 (P:=λus=>P (a::us)) (h a) us (yN hl)
theorem bind4 {P:List aD->Prop} (h:∀a b c d,P [a,b,c,d]) (us:List aD) (hl:us.length=4):P us:=by
 cases us with
 | nil=>cases hl
 | cons a us=>exact bind3 (P:=λus=>P (a::us)) (h a) us (yN hl)
theorem bind5 {P:List aD->Prop} (h:∀a b c d e,P [a,b,c,d,e]) (us:List aD) (hl:us.length=5):P us:=by
 cases us with
 | nil=>cases hl
 | cons a us=>exact bind4 (P:=λus=>P (a::us)) (h a) us (yN hl)
structure FnAt (P:cE) (w:dI) (K:aI) (mg:Str->Option aD) (base:Heap) (x:Str) (ps:List Str) (k:Nat) (F:FD):Prop where
 ex:∃f fd,im P w K mg base jy k f fd ps (q9 K F)/\Binds K fd ps []/\mT K (.ref f)=true/\mg x=some (.ref f)
structure aj (K:aI) (mg:Str->Option aD) (x:Str) (st:Stmt) (ps:List Str):Prop where
 ex:∃f fd,sk K x x st f fd/\mg x=some (.ref f)/\∀us:List aD,us.length=ps.length->bindArgs fd ⟨us,[]⟩=pure (ps.zip us)
section
variable {P:cE} {w:dI} {K:aI} {mg:Str->Option aD} {base:Heap}
theorem aj.ok {x:Str} {st:Stmt} {N ps:List Str} {k:Nat} {F:FD} {t:RS} (Z:aj K mg x st ps) (Sc:f7 N ps (gK st))
  (gg:∀{f:Addr} (cdv:aD) (A:dJ) (outer:List Env) (s:aG) (H:Hp) (E:XK),ck k (A.deeper (envOfC x (gK st) s.heap.objs.size f cdv)) ->
   o3 (EG jy P w K mg base N x (gK st) f cdv A outer s H E).nox (rF st) t)
  (len:∀ds Q,F ds Q->ds.length=ps.length) (pure:∀ds Q,F ds Q->t { nx:=λ_=>Q .non,rt:=Q } (dR N ds)):FnAt P w K mg base x ps (k+1) F:=by
 obtain⟨f,fd,a,b,c⟩:=Z.ex;exact⟨f,fd,A3 a Sc (λcdv A outer s H E hr=>gg cdv A outer s H E hr) len pure,.all c,a.kp,b⟩
theorem aj.okL {x:Str} {st:Stmt} {ps:List Str} {k:Nat} {F:FD} (Z:aj K mg x st ps) (h:∀(base:Heap) (f:Addr) (fd:mN),sk K x x st f fd->im P w K mg base jy k f fd ps (q9 K F)) :
  ∃f fd,mg x=some (.ref f)/\(∀us:List aD,us.length=ps.length->bindArgs fd ⟨us,[]⟩=pure (ps.zip us))/\∀base,im P w K mg base jy k f fd ps (q9 K F):=by
 obtain⟨f,fd,a,b,c⟩:=Z.ex;exact⟨f,fd,b,c,λbase=>h base f fd a⟩
end
section
variable {X:Cx} {k:Nat} {ps:List Str} {F:FD} {x:Str} {p pos:Pos} {e:Expr} {es:List Expr} {t:RA}
theorem Mj (C:FnAt X.prog X.w X.K X.mg X.base x ps k F) (hr:ck k X.A) (ha:DA X (e::es) t) (hg:Gl X x:=by rfl)
  (ma:(x == ("__debug__":Str))=false:=by decide) (he:starEach (e::es) X.env=(false,eval e X.env)::starEach es X.env:=by rfl) (js:(backTo pos (starEach es X.env)).any (·.1)=false:=by rfl) :
  DE X (.Call (.Name x p) (e::es) [] pos) (cU F t):=by
 obtain⟨f,fd,G,hb,hk,hm⟩:=C.ex;exact Ri G hr hm hk hb ha hg ma he js
end
def Ky (n:Nat):FD:=λds Q=>∃ns:List Int,ds=[.lst (ns.map .int)]/\ns.length<=n/\Q (.bl true)
def Zb {K:aI} {H:Hp} {a:Addr} {vs:List V} (hO:Qo H) (h:g_ K H a vs):ph K H a vs:=by
 rcases h with (h | ⟨o,h⟩) | h
 ·rcases hO a with z | ⟨o,xs,z⟩
  ·rw[z] at h;cases h
  ·rw[z] at h;cases h
 ·exact .inl ⟨o,h⟩
 ·exact .inr h
def nj (K:aI):Prop:=∀x∈WT,uA K mainGlobals x=some none
def nj.tabs {K:aI} (n:nj K) (H:Hp):gl K H:=λx c P m e=>by
 unfold SJ at e;rw[n x m] at e;cases e
def noLam {K:aI} (a:uA K mainGlobals "rising" = some none) (b:uA K mainGlobals "framed_rising" = some none) (c:uA K mainGlobals "laid_triangles" = some none):nj K:=λx m=>by
 simp only[WT,aO,gB,or_false] at m;rcases m with rfl | rfl | rfl
 ·exact a
 ·exact b
 ·exact c
def walk_law {l:MT} {q:cE} {loose:List Str} {XP:(Str->Option aD)->Heap->Prop} {YP:dI->Heap->Prop} {d:DefRec} {K:Params->aI} {x:Str} {k:Nat}
  (hn:l.most=some 63) (yb:d.params.defaults=[]) (hr:ck k callerA)
  (hY:∀(w:dI) (h:Heap),YP w h->(K w.params).In h) (hd:d.name = "law") (hL:∀w:dI,nj (K w.params))
  (F:∀(w:dI) (mg:Str->Option aD) (h:Heap),(K w.params).In h->h.Ns mainGlobals mg ->
   ∃f fd,mg "law" = some (.ref f)/\(∀us:List aD,us.length=[x].length->bindArgs fd ⟨us,[]⟩=pure ([x].zip us))/\∀base,im l.prog w (K w.params) mg base jy k f fd [x] (q9 (K w.params) (Ky 63))) :
  SI q loose XP YP l.row.toRowW d [] (λf vs=>OO f vs):=by
 refine L2.sj (n:=63) (k:=k) (x:=x) (CX:=λ_=>jy) (sp:=λw=>q9 (K w.params) (Ky 63)) hn (by decide) yb hr hY ?_ ?_ λ_ _ _ _ _ z=>z
 ·intro w mg fa h KX G wo;rw[hd] at wo;obtain⟨f,fd,hm,hb,hF⟩:=F w mg h KX G;rw[wo] at hm;cases hm;exact⟨fd,λs u=>.of_eq (hb [u] rfl),λbase _ _=>hF base⟩
 ·intro w H a ns hl hO hS;exact⟨(hL w).tabs H,[.lst (ns.map .int)],λd=>d = .bl true,.cons (.lst (Zb hO hS) .ints) .nil,⟨ns,rfl,hl,rfl⟩,λd v H' e _ r=>by subst e;exact r.bl_inv⟩
def ji (f:D->D->Option Bool):List D->List D->Option Bool
 | [],[]=>some true
 | [],_::_=>some false
 | _::_,[]=>some false
 | x::xs,y::ys=>match f x y,ji f xs ys with
  | some a,some b=>some (a && b)
  | _,_=>none
def fb:Nat->D->D->Option Bool
 | 0,_,_=>none
 | n+1,d,e=>match d,e with
  | .int a,.int b=>some (decide (a=b))
  | .bl a,.bl b=>some (decide (a=b))
  | .non,.non=>some true
  | .non,.tup _=>some false
  | .tup _,.non=>some false
  | .tup xs,.tup ys=>ji (fb n) xs ys
  | .lst xs,.lst ys=>ji (fb n) xs ys
  | _,_=>none
theorem IN:∀{xs ys:List D} {b:Bool},ji f xs ys=some b->∀(j:Nat) (x y:D),xs[j]? = some x->ys[j]? = some y->∃c,f x y=some c
 | [],_,_,_,j,x,y,e,_=>by simp at e
 | _::_,[],_,_,j,x,y,_,e=>by simp at e
 | a::xs,c::ys,b,h,j,x,y,e1,e2=>by
  unfold ji at h;split at h
  ·rename_i p q hp hq;cases j with
   | zero=>simp at e1 e2;subst e1 e2;exact⟨p,hp⟩
   | succ j=>exact IN hq j x y (by simpa using e1) (by simpa using e2)
  ·cases h
theorem DK:∀{xs ys:List D} {b:Bool},ji f xs ys=some b ->
  ((dZ (min xs.length ys.length)).all (λj=>match xs[j]?,ys[j]? with | some x,some y=>(f x y).getD false | _,_=>false) && xs.length == ys.length)=b
 | [],[],b,h=>by cases h;rfl
 | [],_::_,b,h=>by cases h;rfl
 | _::_,[],b,h=>by cases h;rfl
 | x::xs,y::ys,b,h=>by
  unfold ji at h;split at h
  ·rename_i p q hp hq;cases h;have ih:=DK hq;rw[<-ih];simp only[cG,Nat.succ_min_succ,yJ,EL,aH,hp,lA,List.all_map];rw[Bool.and_assoc];congr 1;congr 1;rw[pY];simp
  ·cases h
section
variable {X:Cx} {σ:St} {H:Hp}
theorem PK {f:D->D->Option Bool} (hf:∀{d e:D} {v:V} {b:Bool},f d e=some b->c7 X.K H d v->c7 X.K H e v->b=true):∀{xs ys:List D} {vs:List V} {b:Bool},ji f xs ys=some b->ah X.K H xs vs->ah X.K H ys vs->b=true:=by
 intro xs
 induction xs with
 | nil=>intro ys vs b h q1 q2;cases q1;cases q2;cases h;rfl
 | cons x xs ih =>
  intro ys vs b h q1 q2;cases q1 with
  | cons r t =>
   cases q2 with
   | cons r' t' =>
    unfold ji at h;split at h
    ·rename_i p q hp hq;cases h;rw[hf hp r r',ih hq t t'];rfl
    ·cases h
theorem IM (I:Inv X pins σ H s):∀(n:Nat) {d e:D} {v:V} {b:Bool},fb n d e=some b->c7 X.K H d v->c7 X.K H e v->b=true
 | 0,_,_,_,_,h,_,_=>by cases h
 | n+1,d,e,v,b,h,r1,r2=>by
  unfold fb at h;split at h
  ·rw[r1.int_inv] at r2;cases r2;cases h;simp
  ·rw[r1.bl_inv] at r2;cases r2;cases h;simp
  ·cases h;rfl
  ·cases r1;cases r2
  ·cases r2;cases r1
  ·rename_i xs ys;cases r1 with
   | @tup a vs _ h1 q1 =>
    cases r2 with
    | @tup _ ws _ h2 q2 =>
     rw[h1] at h2;cases h2;exact PK (λ{d e v b}=>IM I n) h q1 q2
  ·rename_i xs ys;cases r1 with
   | @lst a vs _ h1 q1 =>
    cases r2 with
    | @lst _ ws _ h2 q2 =>
     rw[I.list_inj h2.sq h1.sq] at q2;exact PK (λ{d e v b}=>IM I n) h q1 q2
  ·cases h
theorem PL (I:Inv X pins σ H s) {a c:Addr} (h:ji (fb n) xs ys=some b) (h1:g_ X.K H a vs) (q1:ah X.K H xs vs) (h2:g_ X.K H c ws) (q2:ah X.K H ys ws) (hu:A.units<cLine)
  (ri:∀{d e:D} {v u:V} {x y:aD} {b:Bool},fb n d e=some b->c7 X.K H d v->c7 X.K H e u->RelV v x->RelV u y->GB A.in1 s x y b):uY A s (.ref a) (.ref c) b/\GB A s (.ref a) (.ref c) b:=by
 obtain⟨its,rv,ht,_⟩:=I.list h1;obtain⟨fj,og,t_,_⟩:=I.list h2;have l1:xs.length=its.length:=q1.length.trans rv.length;have l2:ys.length=fj.length:=q2.length.trans og.length;have rc:uY A s (.ref a) (.ref c) b:=by
  by_cases hl:xs.length=ys.length
  ·have:=SeqAt.RcAt.lists (A:=A) (s:=s) (e:=λj=>match xs[j]?,ys[j]? with | some x,some y=>(fb n x y).getD false | _,_=>false) ht.isList t_.isList (by simp;lia) hu (λj g1 g2=>?_)
   ·have al:=DK h;simp only[aZ,<-l1] at this;rw[<-hl,Nat.min_self,beq_self_eq_true,wJ] at al;rw[al] at this;exact this
   ·simp only[aZ] at g1 g2;have e1:xs[j]? = some (xs[j]'(by lia)):=aE _;have e2:ys[j]? = some (ys[j]'(by lia)):=aE _;obtain⟨k,hk⟩:=IN h j _ _ e1 e2;rw[e1,e2];simp only[hk,lA];obtain⟨v1,f1,f2⟩:=q1.get e1;obtain⟨v2,f3,f4⟩:=q2.get e2;obtain⟨u1,g3,g4⟩:=rv.get f1;obtain⟨u2,g5,g6⟩:=og.get f3;have a1:its.toArray[j]=u1:=by
     have:=aE g1;rw[this] at g3;simpa using eB g3
    have a2:fj.toArray[j]=u2:=by
     have:=aE g2;rw[this] at g5;simpa using eB g5
    rw[a1,a2];exact ri hk f2 f4 g4 g6
  ·have al:=DK h;have:(xs.length == ys.length)=false:=(by simpa using hl);rw[this,AT] at al;rw[<-al];exact SeqAt.RcAt.lists_lengths ht.isList t_.isList (by simp;lia) hu
 refine⟨rc,?_⟩;by_cases x5:a=c
 ·subst x5;rw[I.list_inj h2 h1] at q2;rw[PK (λ{d e v b}=>IM I n) h q1 q2];exact tD _
 ·exact GC x5 rc
theorem yW (I:Inv X pins σ H s):∀(n:Nat) {d e:D} {v u:V} {x y:aD} {b:Bool} {A:dJ},fb n d e=some b->c7 X.K H d v->c7 X.K H e u->RelV v x->RelV u y->A.units+n<cLine ->
  uY A s x y b/\GB A s x y b
 | 0,_,_,_,_,_,_,_,_,h,_,_,_,_,_=>by cases h
 | n+1,d,e,v,u,x,y,b,A,h,r1,r2,rx,ry,hu=>by
  have same:=λ(hvu:v=u)=>IM I (n+1) h r1 (hvu ▸ r2);unfold fb at h;split at h
  ·rename_i i j;rw[r1.int_inv] at rx;rw[r2.int_inv] at ry;obtain⟨t,rfl⟩:=rx;obtain⟨t',rfl⟩:=ry;cases h;have e:decide (i=j)=(i == j):=(by rw[nY]);rw[e];exact⟨SeqAt.RcAt.int_int _ _ _ _,uX _ _ _ _⟩
  ·rename_i i j;rw[r1.bl_inv] at rx;rw[r2.bl_inv] at ry;cases rx;cases ry;cases h;have e:decide (i=j)=(i == j):=(by rw[nY]);rw[e];exact⟨SeqAt.RcAt.bool_bool _ _,SeqAt.EqAt.bool_bool _ _⟩
  ·cases r1;cases r2;cases rx;cases ry;cases h;exact⟨SeqAt.RcAt.none_none,tD _⟩
  ·cases r1;cases r2 with
   | tup h2 q2 =>
    cases rx;cases ry;cases h;obtain⟨its,rv,ht,_⟩:=I.tuple (fg.of h2);exact⟨SeqAt.RcAt.none_tuple ht (by lia),SeqAt.EqAt.none_tuple ht (by lia)⟩
  ·cases r2;cases r1 with
   | tup h2 q2 =>
    cases rx;cases ry;cases h;obtain⟨its,rv,ht,_⟩:=I.tuple (fg.of h2);exact⟨SeqAt.RcAt.tuple_none ht (by lia),SeqAt.EqAt.tuple_none ht (by lia)⟩
  ·rename_i xs ys;cases r1 with
   | @tup a vs _ h1 q1 =>
    cases r2 with
    | @tup c ws _ h2 q2 =>
     cases rx;cases ry;obtain⟨its,rv,ht,_⟩:=I.tuple (fg.of h1);obtain⟨fj,og,t_,_⟩:=I.tuple (fg.of h2);have l1:xs.length=its.length:=q1.length.trans rv.length;have l2:ys.length=fj.length:=q2.length.trans og.length;have rc:uY A s (.ref a) (.ref c) b:=by
      have:=SeqAt.RcAt.tuples (A:=A) (s:=s) (e:=λj=>match xs[j]?,ys[j]? with | some x,some y=>(fb n x y).getD false | _,_=>false) ht t_ (by lia) (λj g1 g2=>?_)
      ·simp only[aZ,<-l1,<-l2] at this;rw[DK h] at this;exact this
      ·simp only[aZ] at g1 g2;have e1:xs[j]? = some (xs[j]'(by lia)):=aE _;have e2:ys[j]? = some (ys[j]'(by lia)):=aE _;obtain⟨k,hk⟩:=IN h j _ _ e1 e2;rw[e1,e2];simp only[hk,lA];obtain⟨v1,f1,f2⟩:=q1.get e1;obtain⟨v2,f3,f4⟩:=q2.get e2;obtain⟨u1,g3,g4⟩:=rv.get f1;obtain⟨u2,g5,g6⟩:=og.get f3;have a1:its.toArray[j]=u1:=by
        have:=aE g1;rw[this] at g3;simpa using eB g3
       have a2:fj.toArray[j]=u2:=by
        have:=aE g2;rw[this] at g5;simpa using eB g5
       rw[a1,a2];exact (yW I n hk f2 f4 g4 g6 (by show A.units+1+n<cLine;lia)).2
     refine⟨rc,?_⟩;by_cases x5:a=c
     ·subst x5;rw[same rfl];exact tD _
     ·exact GC x5 rc
  ·rename_i xs ys;cases r1 with
   | @lst a vs _ h1 q1 =>
    cases r2 with
    | @lst c ws _ h2 q2 =>
     cases rx;cases ry;exact PL I h h1.sq q1 h2.sq q2 (by lia) λ{d e v u x y b} hk f2 f4 g4 g6=>(yW I n hk f2 f4 g4 g6 (by show A.units+1+n<cLine;lia)).2
  ·cases h
end
def C_:R22:=λx y Q=>match fb 6 x y with
 | some b=>Q (.bl b)
 | none=>False
section
def Wl {σ:St} (I:Inv X pins σ H s) (h:fb 6 d e=some b) (r1:df X.K H d v) (r2:df X.K H e u) (rx:RelV v x) (ry:RelV u y) (hu:A.units+6<cLine):uY A s x y b:=by
 by_cases hl:∃xs ys,d = .lst xs/\e = .lst ys
 ·obtain⟨xs,ys,rfl,rfl⟩:=hl;obtain⟨a,vs,rfl,h1,q1⟩:=r1.lst;obtain⟨c,ws,rfl,h2,q2⟩:=r2.lst;cases rx;cases ry;exact (PL I (n:=5) h h1 q1 h2 q2 (by lia) λ{d e v u x y b} hk f2 f4 g4 g6=>(yW I 5 hk f2 f4 g4 g6 (by show A.units+1+5<cLine;lia)).2).1
 ·have p1:c7 X.K H d v:=by
   rcases r1 with r | ⟨ds,a,vs,e1,_⟩
   ·exact r
   ·subst e1;cases e <;> first | (cases h;done) | exact absurd ⟨_,_,rfl,rfl⟩ hl
  have p2:c7 X.K H e u:=by
   rcases r2 with r | ⟨ds,a,vs,e1,_⟩
   ·exact r
   ·subst e1;cases d <;> first | (cases h;done) | exact absurd ⟨_,_,rfl,rfl⟩ hl
  exact (yW I 6 h p1 p2 rx ry hu).1
def C0 (hr:ck k X.A):jn X (compareOp .Eq) C_:=by
 intro pins s σ H x y v u Q I rx ry bi;obtain⟨d,e,P,r1,r2,q,kk⟩:=bi;unfold C_ at q;split at q
 ·rename_i b hb;have hu:=hr.units;exact Wl I (A:=X.A) hb r1 r2 rx ry (by lia) _ _ _ _ ⟨.bl b,H,I,rfl,kk _ _ H q (ag.refl H) (.bl b)⟩
 ·exact q.elim
end
theorem BM (env:Env):∀(names:List (Str × NameKind)) (acc:List (Str × Addr)),(∀y∈names,y.2 = .free->∃c,env.cells.lookup y.1=some c) ->
  ∃cl:List (Str × Addr),(do
   let mut cs:=acc
   for (name,kind) in names do
    if kind == .free then cs:=(name,<-cellOf env name)::cs
   return cs:Sem (List (Str × Addr)))=pure cl/\(∀p∈cl,p∈acc\/env.cells.lookup p.1=some p.2)/\(∀p∈acc,p∈cl)/\∀y∈names,y.2 = .free->∃c,(y.1,c)∈cl
 | [],acc,_=>⟨acc,by simp,λp h=>.inl h,λp h=>h,λy h=>by simp at h⟩
 | (n,k)::r,acc,h=>by
  by_cases hk:k = .free
  ·subst hk;obtain⟨c,hc⟩:=h _ dX rfl;obtain⟨cl,e,h1,h2,h3⟩:=BM env r ((n,c)::acc) λy hy=>h y (bQ _ hy);refine⟨cl,?_,λp hp=>?_,λp hp=>h2 p (bQ _ hp),λy hy hf=>?_⟩
   ·rw[<-e];have jq:cellOf env n=pure c:=(by unfold cellOf;rw[hc]);simp only[nQ,jq,beq_self_eq_true,if_true,pure_bind]
   ·rcases h1 p hp with q | q
    ·rcases aO.mp q with rfl | q
     ·exact .inr hc
     ·exact .inl q
    ·exact .inr q
   ·rcases aO.mp hy with rfl | hy
    ·exact⟨c,h2 _ dX⟩
    ·exact h3 y hy hf
  ·obtain⟨cl,e,h1,h2,h3⟩:=BM env r acc λy hy=>h y (bQ _ hy);refine⟨cl,?_,h1,h2,λy hy hf=>?_⟩
   ·rw[<-e];have hb:(k == jB)=false:=(by simpa using hk);simp only[nQ,hb,aN,if_false,pure_bind]
   ·rcases aO.mp hy with rfl | hy
    ·exact absurd hf hk
    ·exact h3 y hy hf
theorem EU {α:Type}:∀{l:List (Str × α)} {x:Str} {c:α},(x,c)∈l->∃c',l.lookup x=some c'
 | [],_,_,h=>by simp at h
 | (y,d)::r,x,c,h=>by
  rw[rY];cases e:x == y with
  | true=>exact⟨d,rfl⟩
  | false =>
   rcases aO.mp h with q | q
   ·cases q;rw[beq_self_eq_true] at e;cases e
   ·exact EU q
def OX (h:∀y∈scope.names,y.2 = .free->∃c,env.cells.lookup y.1=some c) :
  ∃cl,closureFor scope env=pure cl/\(∀x c,cl.lookup x=some c->env.cells.lookup x=some c)/\∀y∈scope.names,y.2 = .free->∃c,cl.lookup y.1=some c:=by
 obtain⟨cl,e,h1,_,h3⟩:=BM env scope.names [] h;refine⟨cl,e,λx c hx=>?_,λy hy hf=>?_⟩
 ·rcases h1 _ (kR hx) with q | q
  ·simp at q
  ·exact q
 ·obtain⟨c,hc⟩:=h3 y hy hf;exact EU hc
def oS (X:Cx) (scope:Scope) (N:List Str) (cl:List (Str × Addr)) (C:Addr) (s:aG) (H:Hp) (fp:List Addr):Cx where
 prog:=X.prog
 w:=X.w
 K:=X.K
 mg:=X.mg
 base:=X.base
 A:=X.A
 N:=N
 s₀:=s
 H₀:=H
 env:=compEnvC scope cl C X.env
 outer:=X.stack
 stack:=X.stack
 ex:=fp
 fn:=λ_=>false
 calm:=X.calm
 pn:=[]
 xe:=λ_ _=>False
structure ku (X:Cx) (scope:Scope):Prop where
 kind:scope.kind = .function
 nocell:∀y∈scope.names,y.2≠.cell
 locs:∀y∈scope.names,y.2 = .local->scope.names.lookup y.1=some .local
 frees:∀y∈scope.names,y.2 = .free->X.env.kindOf y.1=some .cell\/X.env.kindOf y.1=some .free
theorem rH {env:Env}:∀{names:List (Str × NameKind)} {x:Str} {k:NameKind},(names.map λ(n,k)=>if (k == jB && env.scope.kind == .function && env.kindOf n == some .cell) then (n,sO) else (n,k)).lookup x=some k ->
  (k = .cell\/k = .free)->(∀y∈names,y.2≠.cell)->(x,.free)∈names
 | [],_,_,h,_,_=>by simp at h
 | (n,j)::r,x,k,h,hk,hn=>by
  have h:List.lookup x ((if (j == jB && env.scope.kind == .function && env.kindOf n == some .cell)=true then (n,sO) else (n,j))::r.map λ(n,k)=>if (k == jB && env.scope.kind == .function && env.kindOf n == some .cell) then (n,sO) else (n,k))=some k:=h;have me:∀y∈r,y.2≠.cell:=λy hy=>hn y (bQ _ hy);cases hx:x == n with
  | true =>
   have e:x=n:=eq_of_beq hx;subst e;by_cases hc:(j == jB && env.scope.kind == .function && env.kindOf x == some .cell)=true
   ·have hj:j = .free:=by
     rw[hU,hU] at hc;exact eq_of_beq hc.1.1
    subst hj;exact dX
   ·rw[if_neg hc,rY,beq_self_eq_true] at h;cases h;rcases hk with rfl | rfl
    ·exact absurd rfl (hn _ dX)
    ·exact dX
  | false =>
   by_cases hc:(j == jB && env.scope.kind == .function && env.kindOf n == some .cell)=true
   ·rw[if_pos hc,rY,hx] at h;exact bQ _ (rH h hk me)
   ·rw[if_neg hc,rY,hx] at h;exact bQ _ (rH h hk me)
section
variable {X:Cx} {pins:List (Addr × Obj)} {σ:St} {H:Hp} {s:aG} {scope:Scope} {N:List Str} {cl:List (Str × Addr)} {C:Addr} {fp:List Addr}
theorem Qy (I:Inv X pins σ H s) (Sc:ku X scope) (k_:∀x c,cl.lookup x=some c->X.env.cells.lookup x=some c) (cn:∀y∈scope.names,y.2 = .free->∃c,cl.lookup y.1=some c)
  (hC:s.heap.objs.size<=C) (hf:∀b∈fp,SG X pins H b) (dk:∀b∈fp,b<s.heap.objs.size):(oS X scope N cl C s H fp).Ok:=by
 refine⟨I.ok.mod,Sc.kind,I.ok.glob,I.ok.blt,hC,λx y c h1 h2=>I.ok.inj x y c (k_ x c h1) (k_ y c h2),λx hx=>?_,λx c hx=>absurd (show false=true from hx) cO,I.ok.hd,I.ok.frames,.inl rfl,λb hb=>?_,I.bs,fW I.ok.bsz I.sz,λb o e hb=>?_,λb hb W0=>?_,I.stack,I.stkFree⟩
 ·have hx:(scope.names.map λ(n,k)=>if (k == jB && X.env.scope.kind == .function && X.env.kindOf n == some .cell) then (n,sO) else (n,k)).lookup x=some .cell\/(scope.names.map λ(n,k)=>if (k == jB && X.env.scope.kind == .function && X.env.kindOf n == some .cell) then (n,sO) else (n,k)).lookup x=some .free:=hx;have:(x,jB)∈scope.names:=by
   rcases hx with hx | hx
   ·exact rH hx (.inl rfl) Sc.nocell
   ·exact rH hx (.inr rfl) Sc.nocell
  exact cn _ this rfl
 ·obtain⟨f0,f1,f2,f3,f4,f5⟩:=hf b hb;exact⟨bK (cB (dk b hb) hC),λx c e=>f4 x c (k_ x c e)⟩
 ·obtain⟨f0,f1,f2,f3,f4,f5⟩:=hf b hb;rcases f3 with z | z
  ·exact I.ok.noex b o e z
  ·have h1:=(aW e);have h2:=I.ok.bsz;exact absurd (cB h1 (fW h2 z)) (iR _)
 ·obtain⟨f0,f1,f2,f3,f4,f5⟩:=hf b hb;rcases aO.mp (I.stkSub b W0) with e | e
  ·exact f1 e
  ·exact f2 e
def VZ (σ:St) (k:Nat) (ix:List Nat):St:=fH k none++ix.map λi=>(σ[i]?).join
theorem Lr (I:Inv X pins σ H s) (Sc:ku X scope) (k_:∀x c,cl.lookup x=some c->X.env.cells.lookup x=some c) (cn:∀y∈scope.names,y.2 = .free->∃c,cl.lookup y.1=some c)
  {s4:aG} {m:Str->Option aD} {k:Nat} {ix:List Nat} {ys:List Str} (hC:s.heap.objs.size<=C) (hf:∀b∈fp,SG X pins H b) (dk:∀b∈fp,b<s.heap.objs.size)
  (G_:∀b o,s.heap.get? b=some o->s4.heap.get? b=some o) (vi:s4.os=s.os) (hb:AllBare s4.gens) (hns:s4.heap.Ns C m)
  (hN:N.length=k+ys.length) (qe:N.drop k=ys) (hix:ix.length=ys.length) (hiy:∀(j:Nat) (y:Str) (i:Nat),ys[j]? = some y->ix[j]? = some i->X.N[i]? = some y/\(y,jB)∈scope.names)
  (hkind:∀y∈ys,(relabel scope X.env).names.lookup y=some .cell\/(relabel scope X.env).names.lookup y=some .free) :
  Inv (oS X scope N cl C s H fp) [] (VZ σ k ix) H s4:=by
 have V':H C=none:=I.hok.fresh hC;refine⟨Qy I Sc k_ cn hC hf dk,vi,hb,Un.kept G_,⟨m,hns,λi x v e1 e2 e3=>?_⟩,λx c e=>?_,V',λx c e=>I.freeC x c (k_ x c e),λp hp=>absurd (show p∈([]:List (Addr × Obj)) from hp) (by simp),I.hok.kept G_,?_⟩
 ·unfold VZ at e2;by_cases mm:i<k
  ·rw[cZ (by simpa using mm),jE,if_pos mm] at e2;cases e2
  ·rw[dL (by simpa using mm),lM,bZ] at e2;cases eo:ix[i-k]? with
   | none=>rw[eo] at e2;cases e2
   | some o =>
    rw[eo] at e2;have e2:some ((σ[o]?).join)=some (some v):=e2;have n8:σ[o]? = some (some v):=by
     cases q:σ[o]? with
     | none=>rw[q] at e2;cases e2
     | some z=>rw[q] at e2;cases e2;rfl
    have ey:ys[i-k]? = some x:=by
     rw[<-qe,FV];rw[show k+(i-k)=i by lia];exact e1
    obtain⟨h1,h2⟩:=hiy _ _ _ ey eo;have hv:p7 X.env.scope x:=by
     rcases Sc.frees _ h2 rfl with q | q
     ·exact .inr (.inl q)
     ·exact .inr (.inr q)
    obtain⟨m0,hn0,W8⟩:=I.loc;obtain⟨u,ru,lu⟩:=W8 o x v h1 n8 hv;refine⟨u,ru,.inr ⟨hkind x (eS ey),?_⟩⟩;obtain⟨c,hc⟩:=cn _ h2 rfl;refine⟨c,hc,?_⟩;rcases lu with ⟨q,_⟩ | ⟨_,c',k7,jq⟩
    ·rcases Sc.frees _ h2 rfl with z | z
     ·rw[z] at q;cases q
     ·rw[z] at q;cases q
    ·have:=k_ x c hc;rw[this] at k7;cases k7;obtain⟨oc,ho,hd⟩:=jq;exact⟨oc,G_ _ _ ho,hd⟩
 ·obtain⟨v,oc,ho,hd⟩:=I.cell x c (k_ x c e);exact⟨v,oc,G_ _ _ ho,hd⟩
 ·unfold VZ;show _=N.length;rw[dC,lM,cN,hix,hN]
end
abbrev Vf (ifs:List Expr) (env:Env):Sem Bool:=forIn ifs true λc r=>if r=true then do let ok <-isTrue c env (eval c env);pure (MM ok) else pure (MM r)
theorem Ie (I:Nat->aG->Prop)
  (turn:∀n s,I n s->∀E:aD->aG->Prop,wpAny (model prog w) A (pyNext it) (λr s₁=>match r with
   | none=>R (.ok .next) s₁
   | some v=>wpAny (model prog w) A (letOwnedTupleGo target it v) (λ_ s₁=>wpAny (model prog w) A (assign target env v) (λ_ s₂=>wpAny (model prog w) A (Vf ifs env) (λok s₂=>if ok=true then wpAny (model prog w) A (eval elt env) (λx s₃ =>
     wpAny (model prog w) A (call (.builtin "list.append") [acc,x]) (λ_ s₄=>∃m,m<n/\I m s₄) E s₃) E s₂ else ∃m,m<n/\I m s₂) E s₂) E s₁) E s₁) E s)
  (n:Nat) (h:I n s):codeAny (model prog w) A (.compLoop (.ListComp elt [⟨target,iter,ifs,0⟩] scope pos) 0 it acc env) R s:=by
 refine codeAny_loop rfl I (λn s hI=>?_) n h;show wpAny _ _ ((compTurn (.ListComp elt [⟨target,iter,ifs,0⟩] scope pos) 0 it acc env).onRaise (λx=>do noteFrame x env;theTreesLotGoes x)) _ _ s;refine wpAny_noted ?_;rw[compTurn_list];refine aA (FL (aA (jT (turn n s hI _) (λr s₁ h₁=>?_) λ_ _ h'=>h')));cases r with
 | none=>exact aK h₁
 | some v =>
  refine aA (jT h₁ (λ_ s₁' h₁'=>aA (jT h₁' (λ_ s₂ h₂=>aA (jT h₂ (λok s₃ h₃=>?_) λ_ _ h'=>h')) λ_ _ h'=>h')) λ_ _ h'=>h');cases ok with
  | false=>exact aK ⟨rfl,h₃⟩
  | true=>exact aA (aA (jT h₃ (λx s₄ h₄=>aA (jT h₄ (λ_ s₅ h₅=>aK (aK ⟨rfl,h₅⟩)) λ_ _ h'=>h')) λ_ _ h'=>h'))
def Ql (X:Cx) (ifs:List Expr) (t:RT):Prop:=∀(pins:List (Addr × Obj)) (s:aG) (σ:St) (H:Hp) (Q:Bool->Hp->Prop),Inv X pins σ H s->liftT X t σ H Q->wpAny (model X.prog X.w) X.A (Vf ifs X.env) (TP X pins σ Q) X.xe s
def Pf:RT:=λ_ Q=>Q true
def YU:Ql X [] Pf:=λpins s σ H Q I ⟨ρ,P,st,q,k⟩=>wpAny_tests_nil ⟨H,I,k true H q (ag.refl H)⟩
def IC (g:RG) (te:RE):List D->En->List D->(List D->Prop)->Prop
 | [],_,acc,Q=>Q acc
 | x::xs,ρ,acc,Q=>g x ρ λρ'=>te ρ' λd=>IC g te xs ρ' (acc++[d]) Q
def oR (g:RG) (tt:RT) (te:RE):List D->En->List D->(List D->Prop)->Prop
 | [],_,acc,Q=>Q acc
 | x::xs,ρ,acc,Q=>g x ρ λρ'=>tt ρ' λb=>if b=true then te ρ' λd=>oR g tt te xs ρ' (acc++[d]) Q else oR g tt te xs ρ' acc Q
theorem UE:∀{xs:List D} {ρ:En} {acc:List D} {Q:List D->Prop},oR g Pf te xs ρ acc Q=IC g te xs ρ acc Q
 | [],_,_,_=>rfl
 | x::xs,ρ,acc,Q=>by
  show (g x ρ λρ'=>if true=true then te ρ' λd=>oR g Pf te xs ρ' (acc++[d]) Q else oR g Pf te xs ρ' acc Q)=g x ρ λρ'=>te ρ' λd=>IC g te xs ρ' (acc++[d]) Q;congr 1;funext ρ';rw[if_pos rfl];congr 1;funext d;exact UE
def YF (ρ:En) (i:Nat):Option S:=match ρ[i]? with
 | some (some (.d d))=>some (.d d)
 | _=>none
def GH (ρ:En) (k:Nat) (ix:List Nat):En:=fH k none++ix.map (YF ρ)
def Wf (so:au X ρ σ H) (hK:X'.K=X.K) (hH:X'.H₀=H):au X' (GH ρ k ix) (VZ σ k ix) H:=by
 have own:∀(i:Nat) (x:S),(GH ρ k ix)[i]? = some (some x)->∃d,x = .d d:=λi x e=>by
  unfold GH at e;by_cases mm:i<k
  ·rw[cZ (by simpa using mm),jE,if_pos mm] at e;cases e
  ·rw[dL (by simpa using mm),bZ] at e;cases eo:ix[i-(fH k (none:Option S)).length]? with
   | none=>rw[eo] at e;cases e
   | some o =>
    rw[eo] at e;have e:some (YF ρ o)=some (some x):=e;have e:=eB e;unfold YF at e;split at e <;> cases e;exact⟨_,rfl⟩
 refine⟨by simp[GH,VZ],by rw[hH];exact ag.refl H,λi x e=>?_,λi j x y v u a e1 _ _ _ o _=>by
  obtain⟨d,rfl⟩:=own i x e1;exact o.elim,by rw[hK,hH];exact so.tabs⟩
 unfold GH at e;by_cases mm:i<k
 ·rw[cZ (by simpa using mm),jE,if_pos mm] at e;cases e
 ·rw[dL (by simpa using mm),bZ,lM] at e;cases eo:ix[i-k]? with
  | none=>rw[eo] at e;cases e
  | some o =>
   rw[eo] at e;have e:some (YF ρ o)=some (some x):=e;have e:=eB e;unfold YF at e;split at e
   ·rename_i d ed;cases e;obtain⟨v,h1,h2⟩:=so.rel o _ ed;refine⟨v,?_,by rw[hK];exact h2⟩;unfold VZ;rw[dL (by simpa using mm),bZ,lM,eo,qA,h1];rfl
   ·cases e
section
variable {σ:St}
theorem _root_.L2.Inv.track {a:Addr} (I:Inv X pins σ H s) (I':Inv X pins σ H' s') (ha:s.heap.objs.size<=a) (hn:H' a=none)
  (e:s'.heap.get? a=some { cls:=.type "list",data:=.seq its.toArray n }) (rv:aq vs its) (hz:vs.length<=sizeLine):Inv X pins σ (bB H' a (.lst vs)) s':=by
 have hL:X.env.locals≠a:=bK (cB I.lt ha);have jq:∀x c,X.env.cells.lookup x=some c->c≠a:=λx c q z=>by
  obtain⟨v,hv⟩:=I.cell x c q;exact absurd (cB hv.lt (by rw[z];exact ha)) (iR _)
 have hs0:∀{b:Addr} {o:Obj},X.s₀.heap.get? b=some o->b≠a:=λ{b o} q=>bK (cB (aW q) (fW I.sz ha));refine⟨I'.ok,I'.os,I'.bare,⟨I'.base.keep,I'.base.slot,λb o q n hx=>?_,I'.base.there,λb ys q=>?_,λb o u q=>?_,λb ps q=>?_⟩,I'.loc,I'.cell,?_,λx c q=>?_,λp hp=>?_,λb u q=>?_,I'.len⟩
 ·rw[cX (hs0 q)];exact I'.base.free b o q n hx
 ·rw[cX (fF (I'.base.tups b ys q) hn)];exact I'.base.tups b ys q
 ·rw[cX (fF (I'.base.frzs b o u q) hn)];exact I'.base.frzs b o u q
 ·obtain⟨m,q2⟩:=I'.base.tbls b ps q;exact⟨m,by rw[cX (fF q2 hn)];exact q2⟩
 ·rw[cX hL];exact I'.free
 ·rw[cX (jq x c q)];exact I'.freeC x c q
 ·obtain⟨q1,q2,q3,q4,q5⟩:=I'.pin p hp;have la:p.1≠a:=bK (cB (aW (I.pin p hp).1) ha);exact⟨q1,by rw[cX la];exact q2,q3,q4,q5⟩
 ·by_cases hb:b=a
  ·subst hb;rw[fT] at q;cases q;exact⟨hz,its,n,rv,e⟩
  ·rw[cX hb] at q;exact (I'.hok b u q).stay (λc v _ w=>w) (λc w=>by rw[cX (fF w hn)];exact w) λc ys w=>by rw[cX (fF w hn)];exact w
theorem UF (hc:X.calm=true) (Sc:ku X scope) (k_:∀x c,cl.lookup x=some c->X.env.cells.lookup x=some c) (cn:∀y∈scope.names,y.2 = .free->∃c,cl.lookup y.1=some c)
  (hN:N.length=k+ys.length) (qe:N.drop k=ys) (hix:ix.length=ys.length) (hiy:∀(j:Nat) (y:Str) (i:Nat),ys[j]? = some y->ix[j]? = some i->X.N[i]? = some y/\(y,jB)∈scope.names)
  (hkind:∀y∈ys,(relabel scope X.env).names.lookup y=some .cell\/(relabel scope X.env).names.lookup y=some .free)
  (hg:∀C s H fp,DG (oS X scope N cl C s H fp) target g) (yd:∀C s H fp,Ql (oS X scope N cl C s H fp) ifs tt) (he:∀C s H fp,DE (oS X scope N cl C s H fp) elt te)
  (I2:Inv X pins σ H s2) (so:au X ρ σ H) (T:pw X.prog X.w X.K target J fp it tn) (st:tn 0 s2.heap) (hf:∀b∈fp,SG X pins H b) (ok:Lc X J xs H) (hz:xs.length<=sizeLine)
  (hP:oR g tt te xs (GH ρ k ix) [] P) {RR:aD->Addr->Result->aG->Prop} {E:aD->aG->Prop}
  (post:∀(ds:List D) (vs:List V) (its:List aD) (n:Nat) (C:Addr) (s':aG) (H':Hp),P ds->ag H H'->H' s2.heap.objs.size=none->ah X.K H' ds vs->aq vs its->vs.length<=sizeLine ->
   s'.heap.get? s2.heap.objs.size=some { cls:=.type "list",data:=.seq its.toArray n }->Inv X pins σ H' s'->(∃m,s'.heap.Ns C m)->s2.heap.objs.size<C->H' C=none->RR (.ref s2.heap.objs.size) C (.ok .next) s') :
  wpAny (model X.prog X.w) X.A (newList []) (λacc s₃=>wpAny (model X.prog X.w) X.A (newFunctionEnv scope X.env.globals cl [] X.env.qual none .none (some X.env)) (λxk s₄ =>
   codeAny (model X.prog X.w) X.A (.compStart (.ListComp elt [⟨target,iter,ifs,0⟩] scope pos) 0 (.ref it) acc { xk with scope:=relabel scope X.env }) (RR acc xk.locals) s₄) E s₃) E s2:=by
 refine fM (wpAny_newFunctionEnv Sc.nocell (by intro y hy;simp at hy) (λh₁ hns₁ hsb₁=>?_) Sc.kind);dsimp only at hns₁ hsb₁ ⊢;generalize V2:s2.heap.push { cls:=.type "list",dict:=none,data:=.seq ([]:List aD).toArray } = v_ at hns₁ hsb₁ ⊢;have hCs:v_.objs.size=s2.heap.objs.size+1:=by rw[<-V2,gO]
 have i9:s2.heap.objs.size<v_.objs.size:=by rw[hCs];exact mS _
 have dk:∀b∈fp,b<s2.heap.objs.size:=λb hb=>by
  obtain⟨o,ho,_⟩:=T.obj 0 _ st b hb;exact aW ho
 have old:∀b o,s2.heap.get? b=some o->h₁.get? b=some o:=λb o e =>
  hsb₁.extBut b o (bK (rB (aW e) i9)) (aR _ (V2 ▸ aR _ e))
 have V6:h₁.get? s2.heap.objs.size=some { cls:=.type "list",data:=.seq ([]:List aD).toArray 0 } :=
  hsb₁.extBut _ _ (bK i9) (aR _ (V2 ▸ bR _ rfl))
 have V':H s2.heap.objs.size=none:=I2.hok.fresh (bU _);let X':=oS X scope N cl v_.objs.size s2 H fp;have J0:Inv X' [] (VZ σ k ix) H { s2 with heap:=h₁,toks:=s2.toks+([]:List (Str × aD)).length } :=
  Lr I2 Sc k_ cn (nJ i9) hf dk old rfl I2.bare hns₁ hN qe hix hiy hkind
 have S0:au X' (GH ρ k ix) (VZ σ k ix) H:=Wf so rfl rfl;have xw:s2.heap.objs.size ∉ X'.fs:=λhb=>by
  have hb:s2.heap.objs.size∈o4 X.stack:=hb;rcases aO.mp (I2.stkSub _ hb) with e | e
  ·exact absurd (show X.env.locals<X.env.locals from Nat.lt_of_lt_of_eq I2.lt e) (iR _)
  ·exact I2.nofs (bU _) e
 have u4:∀{H':Hp} {o:Obj},(∀b∈fp,H' b=none)->∀b∈fp,SG X' [(s2.heap.objs.size,o)] H' b:=λ{H' o} hn b hb=>by
  obtain⟨f0,f1,f2,f3,f4,f5⟩:=hf b hb;refine⟨hn b hb,bK (rB (dk b hb) i9),λW0=>?_,.inl hb,λx c e=>f4 x c (k_ x c e),λp hp=>?_⟩
  ·rcases aO.mp (I2.stkSub b W0) with e | e
   ·exact f1 e
   ·exact f2 e
  ·have:p=(s2.heap.objs.size,o):=(by simpa [X',oS] using hp);subst this;exact eK (dk b hb)
 have pinD:∀{σ':St} {H':Hp} {s':aG} {its:List aD} {n:Nat},Inv X' [] σ' H' s'->H' s2.heap.objs.size=none->s'.heap.get? s2.heap.objs.size=some { cls:=.type "list",data:=.seq its.toArray n }->Inv X' [(s2.heap.objs.size,{ cls:=.type "list",data:=.seq its.toArray n })] σ' H' s':=λI' hn e =>
  I'.pins_of λp hp=>by
   have:=dY.mp hp;subst this;exact⟨e,hn,bK i9,xw,λv z=>by cases z⟩
 have loop:∀s₃:aG,s₃ = { s2 with heap:=h₁,toks:=s2.toks+([]:List (Str × aD)).length } ->
   codeAny (model X.prog X.w) X.A (.compLoop (.ListComp elt [⟨target,iter,ifs,0⟩] scope pos) 0 (.ref it) (.ref s2.heap.objs.size) (compEnvC scope cl v_.objs.size X.env)) (RR (.ref s2.heap.objs.size) v_.objs.size) s₃:=by
  rintro s₃ rfl;refine Ie (λm s'=>∃(i:Nat) (ρ':En) (σ':St) (H':Hp) (ds:List D) (vs:List V) (its:List aD) (n:Nat),m=xs.length-i/\i<=xs.length/\Inv X' [] σ' H' s'/\au X' ρ' σ' H'/\tn i s'.heap/\(∀b∈fp,H' b=none) /\
   H' s2.heap.objs.size=none/\s'.heap.get? s2.heap.objs.size=some { cls:=.type "list",data:=.seq its.toArray n }/\ah X.K H' ds vs/\aq vs its/\vs.length<=i/\oR g tt te (xs.drop i) ρ' ds P) ?_ xs.length
   ⟨0,GH ρ k ix,VZ σ k ix,H,[],[],[],0,rfl,gU _,J0,S0,T.keep _ _ _ st (λb hb o e=>old b o e),λb hb=>(hf b hb).1,V',V6,.nil,.nil,bU _,by simpa using hP⟩
  rintro m s' ⟨i,ρ',σ',H',ds,vs,its,n,rfl,hi,I',S',e_,fr',me,e',rr,rv,hl,hD⟩ E';obtain⟨o1,o2⟩:=ok i H' (.of S'.same);have I1:=pinD I' me e';by_cases r_:i<xs.length
  ·have e:xs.drop i=xs[i]::xs.drop (i+1):=gW r_;rw[e] at hD;obtain⟨go,yl⟩:=o1 xs[i] (aE r_);refine c_ (T.item X' rfl rfl rfl hc i _ s' σ' H' E' I1 (u4 fr') e_ go) λr s4 ⟨u,hr,h4⟩=>?_;subst hr;refine c_ h4 λ_ s5 ⟨x,H5,I5,r5,y5,sf,U9⟩=>?_;obtain⟨s45,rx5⟩:=yl x H5 y5;have T3:=I5.pinned (u4 U9) (T.obj _ _ sf);refine jT (hg _ _ _ _ _ s5 σ' H5 x u (λσ6 H6=>∃ρ6,tt ρ6 (λb=>if b=true then te ρ6 (λd=>oR g tt te (xs.drop (i+1)) ρ6 (ds++[d]) P) else oR g tt te (xs.drop (i+1)) ρ6 ds P)/\ak H5 H6/\au X' ρ6 σ6 H6) T3 r5 ⟨xs[i],ρ',_,rx5,S'.ext s45,hD,λρ6 σ6 H6 q6 k6 s6=>⟨ρ6,q6,k6,s6⟩⟩) (λ_ s6' ⟨σ6,H6',I6',ρ6,q6',k6',S6'⟩=>?_) λ_ _ z=>z.elim;refine jT (yd _ _ _ _ _ s6' σ6 H6' (λb H6=>(if b=true then te ρ6 (λd=>oR g tt te (xs.drop (i+1)) ρ6 (ds++[d]) P) else oR g tt te (xs.drop (i+1)) ρ6 ds P)/\ag H6' H6) I6' ⟨ρ6,_,S6',q6',λb H6 hb s6=>⟨hb,s6⟩⟩) (λokb s6 ⟨H6,I6,q6,s66⟩=>?_) λ_ _ z=>z.elim;have k6:ak H5 H6:=k6'.trans (.of s66);have S6:au X' ρ6 σ6 H6:=S6'.ext s66;cases okb with
   | false =>
    have q6:oR g tt te (xs.drop (i+1)) ρ6 ds P:=q6;show ∃m,m<xs.length-i/\_;obtain⟨e7,n7,_,_,_⟩:=I6.pin (s2.heap.objs.size,_) (bP _ (fD _ dX));refine⟨xs.length-(i+1),by lia,i+1,ρ6,σ6,H6,ds,vs,its,n,rfl,r_,I6.pins_of λp hp=>absurd hp (by simp),S6,?_,λb hb=>?_,n7,e7,rr.keep ((ak.of s45).trans k6),rv,Nat.le_succ_of_le hl,q6⟩
    ·exact T.keep _ _ _ sf λb hb o q=>(I6.pin (b,o) (bP _ (bP _ (sH hb q)))).1
    ·obtain⟨o,q,_⟩:=T.obj _ _ sf b hb;exact (I6.pin (b,o) (bP _ (bP _ (sH hb q)))).2.1
   | true =>
   have q6:te ρ6 (λd=>oR g tt te (xs.drop (i+1)) ρ6 (ds++[d]) P):=q6;show wpAny _ _ (eval elt _) _ _ s6;refine jT (he _ _ _ _ _ s6 σ6 H6 (λv H7=>∃d,oR g tt te (xs.drop (i+1)) ρ6 (ds++[d]) P/\ag H6 H7/\c7 X.K H7 d v) I6 ⟨ρ6,_,S6,q6,λd v H7 q7 s7 r7=>⟨d,q7,s7,r7⟩⟩) (λu7 s7 ⟨v7,H7,I7,rv7,d,q7,s67,r7⟩=>?_) λ_ _ z=>z.elim;obtain⟨e7,n7,_,_,_⟩:=I7.pin (s2.heap.objs.size,_) (bP _ (fD _ dX));have lq:its.toArray.size+1<=sizeLine:=by
    rw[aZ,<-rv.length];lia
   refine vA F.slot_list_append ⟨_,e7,rfl⟩ F.entry_list_append (F.args_list_append_2 _ _) (HU s2.heap.objs.size its.toArray n u7 (by lia)) ⟨e7,?_⟩;have e8:=KE e7 (λa=>a.push u7);have I8:Inv X' [] σ6 H7 s7:=I7.pins_of λp hp=>absurd hp (by simp);have zr:∀b o,b≠s2.heap.objs.size->s7.heap.get? b=some o->(s7.heap.update s2.heap.objs.size (dH λa=>a.push u7)).get? b=some o:=λb o hb q=>(cQ s7.heap _ (Ne.symm hb)).trans q;have I9:Inv X' [] σ6 H7 { s7 with heap:=s7.heap.update s2.heap.objs.size (dH λa=>a.push u7) } :=
    I8.turned (t':=s7.toks) zr n7 (bK i9) (.inr (bU _)) (λx c q z=>by
     obtain⟨v,hv⟩:=I2.cell x c (k_ x c q);exact absurd hv.lt (by rw[z];exact iR _)) (λp hp=>absurd (show p∈([]:List (Addr × Obj)) from hp) (by simp))
   have k57:ak H5 H7:=k6.trans (.of s67);have k':ak H' H7:=(ak.of s45).trans k57;refine⟨xs.length-(i+1),by lia,i+1,ρ6,σ6,H7,ds++[d],vs++[v7],its++[u7],_,rfl,r_,I9,S6.ext s67,?_,λb hb=>?_,n7,by simpa using e8,(rr.keep k').append (.cons r7 .nil),rv.append (.cons rv7 .nil),by rw[dC];exact KB hl,q7⟩
   ·refine T.keep _ _ _ sf λb hb o q=>?_;have q7':=(I7.pin (b,o) (bP _ (bP _ (sH hb q)))).1;exact zr b o (bK (dk b hb)) q7'
   ·obtain⟨o,q,_⟩:=T.obj _ _ sf b hb;exact (I7.pin (b,o) (bP _ (bP _ (sH hb q)))).2.1
  ·have hie:i=xs.length:=(by lia);subst hie;rw[JV] at hD;refine c_ (T.done X' rfl rfl rfl hc _ _ s' σ' H' E' I1 (u4 fr') e_ (o2 (bU _))) λr s4 ⟨hr,I4⟩=>?_;subst hr;obtain⟨e4,n4,_,_,_⟩:=I4.pin (s2.heap.objs.size,_) (bP _ dX);obtain⟨m4,hn4,_⟩:=I4.loc;have I5:Inv X pins σ H' s4:=I2.call' (ch:=fp) I4.os I4.base I4.hok I4.bare λb hb=>by
    obtain⟨f0,f1,f2,f3,f4,f5⟩:=hf b hb;exact⟨f3,f1,f4,f5⟩
   exact post ds vs its n v_.objs.size s4 H' hD S'.same n4 rr rv (fW hl hz) e4 I5 ⟨m4,hn4⟩ i9 I4.free
 exact codeAny_compStart_list (loop _ rfl) (T.self X.A 0 _ _ _ (T.keep _ _ _ st λb hb o e=>old b o e) (loop _ rfl))
end
def UD (X:Cx) (scope:Scope) (N:List Str) (k:Nat) (ix:List Nat):Bool :=
 scope.kind == .function && scope.names.all (λy=>y.2 != .cell) && scope.names.all (λy=>y.2 != .local || scope.names.lookup y.1 == some .local) &&
 scope.names.all (λy=>y.2 != .free || X.env.kindOf y.1 == some .cell || X.env.kindOf y.1 == some .free) &&
 N.length == k+ix.length && ((N.drop k).zip ix).all (λp=>X.N[p.2]? == some p.1 && scope.names.contains (p.1,.free)) &&
 (N.drop k).all (λy=>(relabel scope X.env).names.lookup y == some .cell || (relabel scope X.env).names.lookup y == some .free)
structure w_ (X:Cx) (scope:Scope) (N:List Str) (k:Nat) (ix:List Nat):Prop where
 sc:ku X scope
 hN:N.length=k+(N.drop k).length
 hix:ix.length=(N.drop k).length
 hiy:∀(j:Nat) (y:Str) (i:Nat),(N.drop k)[j]? = some y->ix[j]? = some i->X.N[i]? = some y/\(y,jB)∈scope.names
 hkind:∀y∈N.drop k,(relabel scope X.env).names.lookup y=some .cell\/(relabel scope X.env).names.lookup y=some .free
def YJ (h:UD X scope N k ix=true):w_ X scope N k ix:=by
 unfold UD at h;simp only[hU,mP,bne_iff_ne,ne_eq,ML,beq_iff_eq] at h;obtain⟨⟨⟨⟨⟨⟨h1,h2⟩,h3⟩,h4⟩,h5⟩,h6⟩,h7⟩:=h;have hl:(N.drop k).length=ix.length:=by rw[mQ];lia
 refine⟨⟨h1,h2,λy hy e=>?_,λy hy e=>?_⟩,by lia,hl.symm,λj y i e1 e2=>?_,h7⟩
 ·rcases h3 y hy with q | q
  ·exact absurd e q
  ·exact q
 ·rcases h4 y hy with (q | q) | q
  ·exact absurd e q
  ·exact .inl q
  ·exact .inr q
 ·have hm:(y,i)∈(N.drop k).zip ix:=by
   refine eS (i:=j) ?_;rw[lP];exact⟨e1,e2⟩
  obtain⟨q1,q2⟩:=h6 _ hm;exact⟨q1,List.contains_iff_mem.mp q2⟩
def wD (ti:RA) (k:Nat) (ix:List Nat) (g:RG) (te:RE):RA:=λρ Q=>ti ρ λxs=>Sz xs.length/\IC g te xs (GH ρ k ix) [] Q
def XM (ti:RA) (k:Nat) (ix:List Nat) (g:RG) (tt:RT) (te:RE):RA:=λρ Q=>ti ρ λxs=>Sz xs.length/\oR g tt te xs (GH ρ k ix) [] Q
def VA:XM ti k ix g Pf te=wD ti k ix g te:=by
 funext ρ Q;unfold XM wD;congr 1;funext xs;rw[UE]
section
variable {X:Cx} {scope:Scope} {elt target iter:Expr} {ifs:List Expr} {pos:Pos} {g:RG} {tt:RT} {te:RE} {ti:RA}
theorem MA {σ:St} {C:Addr} (I2:Inv X pins σ H s) {σ':St} (I':Inv X pins σ' H' s') (hC:s.heap.objs.size<=C) (hn:H' C=none) (hs:nB C s'.heap h') :
  Inv X pins σ' H' { s' with heap:=h',toks:=t' } :=
 I'.turned (λb o hb e=>(hs.2 b hb).trans e) hn (eK (cB I2.lt hC)) (.inr (fW I2.sz hC)) (λx c e z=>by
  obtain⟨v,hv⟩:=I2.cell x c e;exact absurd (cB hv.lt (by rw[z];exact hC)) (iR _)) λp hp z=>absurd (cB (aW (I2.pin p hp).1) (by rw[z];exact hC)) (iR _)
theorem Mm (N:List Str) (k:Nat) (ix:List Nat) (hi:DI X target iter ti) (hg:∀cl C s H fp,DG (oS X scope N cl C s H fp) target g) (yd:∀cl C s H fp,Ql (oS X scope N cl C s H fp) ifs tt) (he:∀cl C s H fp,DE (oS X scope N cl C s H fp) elt te)
  (hc:X.calm=true:=by rfl) (hB:UD X scope N k ix=true:=by rfl) (hs:∀x,foldedSetIterable iter X.env x=pure x:=by intro _;rfl):DO X (.ListComp elt [⟨target,iter,ifs,0⟩] scope pos) (XM ti k ix g tt te):=by
 intro pins s σ H Q I bi;obtain⟨ρ,P,so,q,kk⟩:=bi;have F:=YJ hB;obtain⟨cl,qd,k_,cn⟩:=OX (scope:=scope) (env:=X.env) λy hy hf=>I.ok.has _ (F.sc.frees y hy hf);rw[eval_ListComp];refine xC (use:=none) rfl hs qd F.sc.kind F.sc.locs (c_ (hi pins s σ H (λJ H'=>∃xs,ag H H'/\Lc X J xs H'/\xs.length<=sizeLine/\oR g tt te xs (GH ρ k ix) [] P) I ⟨ρ,_,so,q,λxs J H' hx s1 ok=>⟨xs,s1,ok,hx.1.ok,hx.2⟩⟩) λv s1 h1=>c_ h1 λNo s2 h2=>?_);obtain⟨it,fp,tn,J,H',rfl,I2,T,st,hf,xs,o7,ok,hz,hD⟩:=h2;refine UF (RR:=λacc C=>compPost (model X.prog X.w) X.A X.xe none (EP X pins σ Q) acc C) hc F.sc k_ cn F.hN rfl F.hix F.hiy F.hkind (hg cl) (yd cl) (he cl) I2 (so.ext o7) T st hf ok hz hD ?_;intro ds vs its n C s' H2 hP Pi hn rr rv hl e I' ⟨m,hns⟩ i9 X4;refine⟨m,hns,λh' vn=>?_⟩;have I3:Inv X pins σ H2 { s' with heap:=h' }:=MA (t':=s'.toks) I2 I' (nJ i9) X4 vn;have e3:h'.get? s2.heap.objs.size=some { cls:=.type "list",data:=.seq its.toArray n }:=(vn.2 _ (bK i9)).trans e;exact⟨.ref s2.heap.objs.size,_,I2.track I3 (bU _) hn e3 rv hl,rfl,kk ds _ vs H2 hP (o7.trans Pi) hn rr⟩
theorem Mp {i:Nat} {y:Str} {pos' jm:Pos} (N:List Str) (k:Nat) (ix:List Nat) (hN:X.N.Nodup) (hi:DI X target iter ti) (hg:∀cl C s H fp,DG (oS X scope N cl C s H fp) target g) (yd:∀cl C s H fp,Ql (oS X scope N cl C s H fp) ifs tt) (he:∀cl C s H fp,DE (oS X scope N cl C s H fp) elt te)
  (hy:X.N[i]? = some y:=by rfl) (hx:X.env.scope.names.lookup y=some .local:=by rfl) (hc:X.calm=true:=by rfl) (hB:UD X scope N k ix=true:=by rfl) (hs:∀x,foldedSetIterable iter X.env x=pure x:=by intro _;rfl)
  (oz:swapsWith (.ListComp elt [⟨target,iter,ifs,0⟩] scope pos) (some (.Name y pos')) jm.line X.env=pure true:=by rfl) :
  DS X (.Assign [.Name y pos'] (.ListComp elt [⟨target,iter,ifs,0⟩] scope pos) jm) (tP i (XM ti k ix g tt te)):=by
 intro pins s σ H De I bi;obtain⟨ρ,E,so,q,nn,rt,bk,ct⟩:=bi;have F:=YJ hB;obtain⟨cl,qd,k_,cn⟩:=OX (scope:=scope) (env:=X.env) λy hy hf=>I.ok.has _ (F.sc.frees y hy hf);rw[exec_Assign_Name_used _ _ _ _ oz];refine aA (FL (aA ?_));show wpAny _ X.A (do let _ <-comprehension (.ListComp elt [⟨target,iter,ifs,0⟩] scope pos) scope X.env _ (newList []) false (eval iter X.env) (some (assign (.Name y pos') X.env))) _ _ s;refine aA (jT (xC (use:=some (assign (.Name y pos') X.env)) (Q:=λ_ s'=>SP X pins De .next s') rfl hs qd F.sc.kind F.sc.locs
  (c_ (hi pins s σ H (λJ H'=>∃xs,ag H H'/\Lc X J xs H'/\xs.length<=sizeLine/\oR g tt te xs (GH ρ k ix) [] (λds=>E.nx (ρ.set i (some (.own ds))))) I ⟨ρ,_,so,q,λxs J H' hx s1 ok=>⟨xs,s1,ok,hx.1.ok,hx.2⟩⟩) λv s1 h1=>c_ h1 λNo s2 h2=>?_)) (λ_ s' hq=>aK (aK hq)) λ_ _ e=>e)
 obtain⟨it,fp,tn,J,H',rfl,I2,T,st,hf,xs,o7,ok,hz,hD⟩:=h2;refine UF (RR:=λacc C=>compPost (model X.prog X.w) X.A X.xe (some (assign (.Name y pos') X.env)) (λ_ s'=>SP X pins De .next s') acc C) hc F.sc k_ cn F.hN rfl F.hix F.hiy F.hkind (hg cl) (yd cl) (he cl) I2 (so.ext o7) T st hf ok hz hD ?_;intro ds vs its n C s' H2 hP Pi hn rr rv hl e I' ⟨m,hns⟩ i9 X4;have I3:=I2.track I' (bU _) hn e rv hl;have X5:s2.heap.objs.size≠C:=bK i9;have so3:au X (ρ.set i (some (.own ds))) (σ.set i (some (.ref s2.heap.objs.size))) (bB H2 s2.heap.objs.size (.lst vs)):=(so.ext (o7.trans Pi)).set_own hn rr;have k3:ak H (bB H2 s2.heap.objs.size (.lst vs)):=(ak.of (o7.trans Pi)).trans (.ofF λb o h=>by rw[cX (fF h hn)];exact h);show wpAny (model X.prog X.w) X.A (assign (.Name y pos') X.env (.ref s2.heap.objs.size)) _ _ s';refine JO (VL I3 hN hy (.inl hx) (v:=.ref s2.heap.objs.size) rfl (λs4 I4 ⟨a,sb,ha⟩=>?_) (.inr hx));have hCa:C≠a:=by
  rcases ha with rfl | ha
  ·exact eK (rB I2.lt i9)
  ·obtain⟨v,hv⟩:=I2.cell _ a ha;exact eK (rB hv.lt i9)
 refine⟨m,hns.sameBut sb hCa,λh' vn=>⟨_,_,MA (t':=s4.toks) I2 I4 (nJ i9) (by rw[cX (Ne.symm X5)];exact X4) vn,nn _ _ _ hP k3 so3⟩⟩
theorem WF (N:List Str) (k:Nat) (ix:List Nat) (hi:DI X target iter ti) (hg:∀cl C s H fp,DG (oS X scope N cl C s H fp) target g) (he:∀cl C s H fp,DE (oS X scope N cl C s H fp) elt te)
  (hc:X.calm=true:=by rfl) (hB:UD X scope N k ix=true:=by rfl) (hs:∀x,foldedSetIterable iter X.env x=pure x:=by intro _;rfl):DO X (.ListComp elt [⟨target,iter,[],0⟩] scope pos) (wD ti k ix g te):=by
 rw[<-VA];exact Mm N k ix hi hg (λ_ _ _ _ _=>YU) he hc hB hs
theorem WH {i:Nat} {y:Str} {pos' jm:Pos} (N:List Str) (k:Nat) (ix:List Nat) (hN:X.N.Nodup) (hi:DI X target iter ti) (hg:∀cl C s H fp,DG (oS X scope N cl C s H fp) target g) (he:∀cl C s H fp,DE (oS X scope N cl C s H fp) elt te)
  (hy:X.N[i]? = some y:=by rfl) (hx:X.env.scope.names.lookup y=some .local:=by rfl) (hc:X.calm=true:=by rfl) (hB:UD X scope N k ix=true:=by rfl) (hs:∀x,foldedSetIterable iter X.env x=pure x:=by intro _;rfl)
  (oz:swapsWith (.ListComp elt [⟨target,iter,[],0⟩] scope pos) (some (.Name y pos')) jm.line X.env=pure true:=by rfl) :
  DS X (.Assign [.Name y pos'] (.ListComp elt [⟨target,iter,[],0⟩] scope pos) jm) (tP i (wD ti k ix g te)):=by
 rw[<-VA];exact Mp N k ix hN hi hg (λ_ _ _ _ _=>YU) he hy hx hc hB hs oz
end
section
variable {X:Cx} {e a b:Expr} {pos apos b_ fe:Pos} {te:RE} {x:Str}
def zW (i:Nat) (te:RE):RS:=λE ρ=>match ρ[i]? with
 | some (some (.own xs))=>te ρ λd=>Sz (xs.length+1)/\E.nx (ρ.set i (some (.own (xs++[d]))))
 | _=>False
theorem sD (i:Nat) (he:DE X e te) (hN:X.N[i]? = some x:=by rfl) (hv:p7 X.env.scope x:=by walk_at "vis") (hd:(x == ("__debug__":Str))=false:=by decide) (jx:(x == ("__classdict__":Str))=false:=by decide)
  (fh:attributeBase (.Name x fe) "append" X.env (eval (.Name x fe) X.env)=eval (.Name x fe) X.env:=by rfl)
  (m8:((backTo b_ (starEach [e] X.env)).all (λx=>!x.1) && (backToKw b_ (keywordEach [] X.env)).all (λx=>x.1.isSome) && decide (([e]:List Expr).length+([]:List vT).length+(if ([]:List vT).isEmpty then 0 else 1)<30))=true:=by rfl)
  (fi:(apos.endLine == b_.line)=true:=by rfl) (hs:starEach [e] X.env=[(false,eval e X.env)]:=by rfl) (hn:starEach [] X.env=[]:=by rfl) (oz:swapsWith (.Call (.Attribute (.Name x fe) "append" apos) [e] [] b_) none pos.line X.env=pure false:=by rfl) :
  DS X (.Expr (.Call (.Attribute (.Name x fe) "append" apos) [e] [] b_) pos) (zW i te):=by
 refine PS.mono (OA (Om kF PySem.F.slot_list_append PySem.F.type_list_append Jm (pv i hN hv hd jx) (vH he hs hn) fh m8 fi (by rw[hs,hn]) (by rw[hn];rfl)) oz) λDe σ H hh=>rG hh λρ E so q n r bk ct=>?_;unfold zW at q;split at q
 ·rename_i xs ex;obtain⟨v,h1,p,vs,ev,hp,h0,rr⟩:=so.rel i _ ex;subst ev;refine⟨.ref p,h1,.inl ⟨rfl,vs,g_.of hp⟩,ρ,_,so,q,λd v H1 hd s1 rd=>?_⟩;have la:=s1.get _ _ hp trivial;obtain⟨jt,k2⟩:=(so.ext s1).upd_own ex h1 la h0 ((rr.keep (.of s1)).append (.cons rd .nil));have lq:xs.length+1<=sizeLine:=hd.1.ok;exact⟨p,vs,v,rfl,rfl,la,by rw[<-rr.length];lia,n _ _ _ hd.2 ((ak.of s1).trans k2) jt⟩
 ·exact q.elim
def Hf (i:Nat):RS:=λE ρ=>match ρ[i]? with
 | some (some (.own xs))=>xs≠[]/\E.nx (ρ.set i (some (.own xs.dropLast)))
 | _=>False
theorem Wk (i:Nat) (hN:X.N[i]? = some x:=by rfl) (hv:p7 X.env.scope x:=by walk_at "vis") (hd:(x == ("__debug__":Str))=false:=by decide) (jx:(x == ("__classdict__":Str))=false:=by decide)
  (fh:attributeBase (.Name x fe) "pop" X.env (eval (.Name x fe) X.env)=eval (.Name x fe) X.env:=by rfl)
  (fi:(apos.endLine == b_.line)=true:=by rfl) (oz:swapsWith (.Call (.Attribute (.Name x fe) "pop" apos) [] [] b_) none pos.line X.env=pure false:=by rfl) :
  DS X (.Expr (.Call (.Attribute (.Name x fe) "pop" apos) [] [] b_) pos) (Hf i):=by
 refine PS.mono (OA (On kF PySem.F.slot_list_pop PySem.F.type_list_pop Xi (pv i hN hv hd jx) fh fi) oz) λDe σ H hh=>rG hh λρ E so q n r bk ct=>?_;unfold Hf at q;split at q
 ·rename_i xs ex;obtain⟨v,h1,p,vs,ev,hp,h0,rr⟩:=so.rel i _ ex;subst ev;have hl:=rr.length;have gm:0<xs.length:=kP.mpr q.1;have hg:vs[vs.length-1]? = some (vs[vs.length-1]'(by lia)):=aE _;obtain⟨jt,k2⟩:=so.upd_own ex h1 hp h0 rr.dropLast;exact⟨.ref p,h1,.inl ⟨rfl,vs,g_.of hp⟩,p,vs,_,rfl,rfl,hp,hg,n _ _ _ q.2 k2 jt⟩
 ·exact q.elim
def Ys (i:Nat) (te tk:RE):RS:=λE ρ=>match ρ[i]? with
 | some (some (.own xs))=>te ρ λd=>tk ρ λkd=>match kd with
  | .int k=>match lr xs.length k with
   | some j=>E.nx (ρ.set i (some (.own (xs.set j d))))
   | none=>False
  | _=>False
 | _=>False
end
section
variable {X:Cx} {e a b:Expr} {pos p:Pos}
theorem Ta:j3 X (binaryOp .Add) (λx y H Q=>∃l b xs zs,x = .ref l/\y = .ref b/\g_ X.K H l xs/\g_ X.K H b zs/\xs.length+zs.length<=sizeLine/\∀p,H p=none->Q (.ref p) (bB H p (.lst (xs++zs)))):=by
 intro pins s σ H x y v u Q I rx ry h;obtain⟨l,b,xs,zs,rfl,rfl,hH,hB,hz,q⟩:=h;cases rx;cases ry;obtain⟨its,r,⟨o,n,e,hc,hd,hs⟩,hl⟩:=I.list hH;obtain⟨fj,r2,⟨o2,n2,e2,t6,hd2,vo⟩,HE⟩:=I.list hB;obtain⟨c,d,dt,sl⟩:=o;obtain⟨c2,d2,dt2,ue⟩:=o2;dsimp only at hc hs hd t6 vo hd2;subst hc hs hd t6 vo hd2;have W9:=r.length;have HE:=r2.length;refine ID (T:="list") (id:="list.__add__") ⟨_,e,rfl⟩ ⟨_,e2,rfl⟩ (by kernel_rfl) (by kernel_rfl) PySem.F.slot_list_add PySem.F.entry_list_add (PySem.F.args_list_add_2 _ _)
  (list_addW l b its.toArray fj.toArray n n2 none none sl ue (by rw[aZ,aZ];lia)) ⟨e,e2,?_⟩
 have ea:its.toArray++fj.toArray=(its++fj).toArray:=by simp
 rw[ea];exact⟨.ref _,_,I.lnew (t':=s.toks) (r.append r2) (by rw[dC];lia),rfl,q _ I.fresh⟩
def S_ (X:Cx) (Q:VK):VK:=λv H'=>Q v H'\/∃p vs H1,v = .ref p/\H'=bB H1 p (.lst vs)/\H1 p=none/\∀H2,ag H1 H2->ph X.K H2 p vs->Q v H2
theorem Vb (h:EP X pins σ (S_ X Q) u s):EP X pins σ Q u s:=by
 obtain⟨v,H',I,rv,q | ⟨p,vs,H1,rfl,rfl,hn,q⟩⟩:=h
 ·exact⟨v,H',I,rv,q⟩
 ·obtain⟨o,I2⟩:=Inv.freeze I (a:=p) (xs:=vs) fT;exact⟨.ref p,_,I2,rv,q _ (.fn λb u e=>by rw[cX (fF e hn),cX (fF e hn)];exact e) (.inl ⟨o,fT⟩)⟩
theorem PE.frz (h:PE X e t):PE X e (λσ H Q=>t σ H (S_ X Q)):=λpins s σ H Q I q=>c_ (h pins s σ H _ I q) λ_ _=>Vb
theorem j3.frz (h:j3 X f r):j3 X f (λx y H Q=>r x y H (S_ X Q)):=λpins s σ H x y v u Q I rx ry q=>c_ (h pins s σ H x y v u _ I rx ry q) λ_ _=>Vb
def EN:R22:=λx y Q=>match x,y with
 | .int i,.int j=>Q (.int (i+j))
 | .lst xs,.lst ys=>Sz (xs.length+ys.length)/\Q (.lst (xs++ys))
 | .tup xs,.tup ys=>xs≠[]/\Sz (xs.length+ys.length)/\Q (.tup (xs++ys))
 | _,_=>False
theorem upd_new {p:Addr} (hp:H p=none):ag H (bB H p o):=ag.fn λb u e=>by rw[cX (fF e hp)];exact e
theorem NZ:jn X (binaryOp .Add) EN:=by
 intro pins s σ H x y v u Q I rx ry bi;obtain⟨d,e,P,r1,r2,q,k⟩:=bi;unfold EN at q;split at q
 ·exact iG pins s σ H x y v u Q I rx ry ⟨_,_,P,r1,r2,q,k⟩
 ·rename_i xs ys;obtain⟨a,vs,rfl,ha,ra⟩:=r1.lst;obtain⟨b,ws,rfl,hb,rb⟩:=r2.lst;have lq:xs.length+ys.length<=sizeLine:=q.1.ok;refine j3.frz Ta pins s σ H _ _ v u Q I rx ry ⟨a,b,vs,ws,rfl,rfl,ha,hb,by rw[<-ra.length,<-rb.length];exact lq,λp hp=>.inr ⟨p,_,H,rfl,rfl,hp,λH2 s2 fz=>k _ _ H2 q.2 s2 (.lst fz ((ra.append rb).keep (.of s2)))⟩⟩
 ·rename_i xs ys;obtain⟨a,vs,rfl,ha,ra⟩:=r1.tup;obtain⟨b,ws,rfl,hb,rb⟩:=r2.tup;have lq:xs.length+ys.length<=sizeLine:=q.2.1.ok;have hl:=ra.length;refine Tb pins s σ H _ _ v u Q I rx ry ⟨a,b,vs,ws,rfl,rfl,fg.of ha,fg.of hb,λz=>q.1 (xH.mp (by rw[hl,z];rfl)),by rw[<-ra.length,<-rb.length];exact lq,λz=>?_,λz p hp=>?_⟩
  ·subst z;cases rb;have:=k _ (.ref a) H q.2.2 (ag.refl H);rw[fC] at this;exact this (.tup ha ra)
  ·exact k _ _ _ q.2.2 (upd_new hp) (.tup fT ((ra.append rb).keep (.of (upd_new hp))))
 ·exact q.elim
def XN (te:RE) (tl th:RO):RE:=λρ Q=>te ρ λx=>tl ρ λl=>th ρ λu=>match x with
 | .lst ds=>Q (.lst (cutD ds l u))
 | .tup ds=>¬(HT.sIx ds.length 0 l=0/\HT.sIx ds.length ds.length u=ds.length)/\Q (.tup (cutD ds l u))
 | _=>False
theorem YL {K:aI} {H:Hp} {ds:List D} {vs:List V} (l u:Option Int) (rr:ah K H ds vs):ah K H (cutD ds l u) (SR vs l u):=by
 unfold cutD SR;rw[<-rr.length];exact (rr.drop _).take _
theorem BQ {lo hi:Option Expr} (he:DB X e te) (hl:DP X lo tl) (hu:DP X hi th):DE X (.Subscript e (.Slice lo hi none p2) pos) (XN te tl th):=by
 refine PE.mono (PE.frz (Ai (Hq.or Yz) he hl hu)) λσ H Q hh=>jF hh λρ P st q k=>?_;refine⟨ρ,_,st,q,λd v H1 hd s1 r1=>⟨ρ,_,st.ext s1,hd,λl H2 h2 s2=>⟨ρ,_,(st.ext s1).ext s2,h2,λu H3 h3 s3=>?_⟩⟩⟩;have s03:=(s1.trans s2).trans s3;cases d with
 | lst ds =>
  obtain⟨p,vs,rfl,hq,rr⟩:=(r1.same (s2.trans s3)).lst;exact .inl ⟨p,vs,rfl,hq,λp' kr=>.inr ⟨p',_,H3,rfl,rfl,kr,λH4 s4 fz=>k _ _ H4 h3 (s03.trans s4) (.lst fz ((YL l u rr).keep (.of s4)))⟩⟩
 | tup ds =>
  obtain⟨p,vs,rfl,hq,rr⟩:=(r1.same (s2.trans s3)).tup;refine .inr ⟨p,vs,rfl,fg.of hq,by rw[<-rr.length];exact h3.1,λp' kr=>.inl ?_⟩;exact k _ _ _ h3.2 (s03.trans (upd_new kr)) (.tup fT ((YL l u rr).keep (.of (upd_new kr))))
 | _=>exact h3.elim
def IJ:D->(D->Prop)->Prop:=λd Q=>match d with
 | .lst ds=>Q (.lst ds)
 | .tup ds=>Q (.lst ds)
 | _=>False
theorem boot_list:bootBuiltins "list" = some (.type "list"):=by decide +kernel
theorem boot_tuple:bootBuiltins "tuple" = some (.type "tuple"):=by decide +kernel
theorem UJ (hm:X.mg "list" = none) (h:DB X e te) (hg:Gl X "list":=by rfl) (hs:starEach [e] X.env=[(false,eval e X.env)]:=by rfl) (hn:starEach [] X.env=[]:=by rfl):DE X (.Call (.Name "list" p) [e] [] pos) (r1 IJ te):=by
 refine PE.mono (PE.frz (LG VY hg hm boot_list (vH h hs hn) (by decide) (by decide) (by rw[hs,hn]) (by rw[hn];rfl))) λσ H Q hh=>jF hh λρ P st q k=>⟨ρ,_,st,q,λd v H1 hd s1 r=>?_⟩;unfold IJ at hd;split at hd
 ·obtain⟨p,vs,rfl,hq,rr⟩:=r.lst;exact⟨p,vs,rfl,.inl hq,λp' kr=>.inr ⟨p',_,H1,rfl,rfl,kr,λH4 s4 fz=>k _ _ H4 hd (s1.trans s4) (.lst fz (rr.keep (.of s4)))⟩⟩
 ·obtain⟨p,vs,rfl,hq,rr⟩:=r.tup;exact⟨p,vs,rfl,.inr (fg.of hq),λp' kr=>.inr ⟨p',_,H1,rfl,rfl,kr,λH4 s4 fz=>k _ _ H4 hd (s1.trans s4) (.lst fz (rr.keep (.of s4)))⟩⟩
 ·exact hd.elim
def PB:D->(D->Prop)->Prop:=λd Q=>match d with
 | .lst ds=>Q (.tup ds)
 | .tup ds=>Q (.tup ds)
 | _=>False
theorem YS (hm:X.mg "tuple" = none) (h:DB X e te) (hg:Gl X "tuple":=by rfl) (hs:starEach [e] X.env=[(false,eval e X.env)]:=by rfl) (hn:starEach [] X.env=[]:=by rfl):DE X (.Call (.Name "tuple" p) [e] [] pos) (r1 PB te):=by
 refine PE.mono (LG SO hg hm boot_tuple (vH h hs hn) (by decide) (by decide) (by rw[hs,hn]) (by rw[hn];rfl)) λσ H Q hh=>jF hh λρ P st q k=>⟨ρ,_,st,q,λd v H1 hd s1 r=>?_⟩;unfold PB at hd;split at hd
 ·obtain⟨p,vs,rfl,hq,rr⟩:=r.lst;exact⟨p,vs,rfl,.inl ⟨hq,λp' kr=>k _ _ _ hd (s1.trans (upd_new kr)) (.tup fT (rr.keep (.of (upd_new kr))))⟩⟩
 ·obtain⟨p,vs,rfl,hq,rr⟩:=r.tup;exact⟨p,vs,rfl,.inr ⟨fg.of hq,k _ _ H1 hd s1 (.tup hq rr)⟩⟩
 ·exact hd.elim
theorem BR:∀{ns:List Int} {its:List aD},aq (ns.map V.int) its->∃xs:List (Int × Tok),its.toArray=intItems xs.toArray/\xs.map XW=ns
 | [],_,.nil=>⟨[],by simp[intItems],rfl⟩
 | n::ns,_,.cons ⟨t,rfl⟩ r=>by
  obtain⟨xs,h1,h2⟩:=BR r;refine⟨(n,t)::xs,?_,by simp[h2]⟩;have h3:=congrArg GT h1;simp[intItems] at h3 ⊢;exact h3
theorem DQ {ys:List (Int × Tok)} {ns:List Int} (h:ys.map XW=ns) {i:Nat} (hi:i<ns.length):numAt ys.toArray i=ns[i]:=by
 subst h;have jf:i<ys.length:=by simpa using hi
 simp[numAt,jf]
theorem Hy (hc:X.calm=true):zM X (.builtin "max") (λxs H Q=>∃(p:Addr) (ns:List Int),xs=[.ref p]/\g_ X.K H p (ns.map V.int)/\ns≠[]/\∀M,M∈ns->(∀a∈ns,a<=M)->Q (.int M) H):=by
 intro pins s σ H xs us Q I r h;obtain⟨p,ns,rfl,hq,gm,q⟩:=h;obtain⟨u,rfl,rx⟩:=vals1 r;cases rx;obtain⟨its,r',pl,hz⟩:=I.list hq;obtain⟨ys,h1,h2⟩:=BR r';rw[h1] at pl;have hl:ys.length=ns.length:=by rw[<-h2];simp
 have hp:0<ns.length:=kP.mpr gm;refine max_intList (I.ok.hd hc) pl.isList (by simpa [hl] using hp) λv h' tk hv hk=>?_;obtain⟨t,rfl⟩:=intItems_at hv;obtain⟨g1,g2⟩:=argBest_gt (numAt ys.toArray) (ys.toArray.size-1);have g3:argBest (λi j=>decide (numAt ys.toArray i > numAt ys.toArray j)) (ys.toArray.size-1)<ns.length:=by rw[<-hl];simp at g1 ⊢;lia
 refine⟨.int _,H,I.kept hk,⟨t,rfl⟩,q _ ?_ λa ha=>?_⟩
 ·rw[DQ h2 g3];exact pF g3
 ·obtain⟨j,hj,rfl⟩:=dS ha;rw[<-DQ h2 hj];exact g2 j (by simp[hl];lia)
theorem Ia (hc:X.calm=true):zM X (.builtin "min") (λxs H Q=>∃(p:Addr) (ns:List Int),xs=[.ref p]/\g_ X.K H p (ns.map V.int)/\ns≠[]/\∀M,M∈ns->(∀a∈ns,M<=a)->Q (.int M) H):=by
 intro pins s σ H xs us Q I r h;obtain⟨p,ns,rfl,hq,gm,q⟩:=h;obtain⟨u,rfl,rx⟩:=vals1 r;cases rx;obtain⟨its,r',pl,hz⟩:=I.list hq;obtain⟨ys,h1,h2⟩:=BR r';rw[h1] at pl;have hl:ys.length=ns.length:=by rw[<-h2];simp
 have hp:0<ns.length:=kP.mpr gm;refine min_intList (I.ok.hd hc) pl.isList (by simpa [hl] using hp) λv h' tk hv hk=>?_;obtain⟨t,rfl⟩:=intItems_at hv;obtain⟨g1,g2⟩:=argBest_lt (numAt ys.toArray) (ys.toArray.size-1);have g3:argBest (λi j=>decide (numAt ys.toArray i<numAt ys.toArray j)) (ys.toArray.size-1)<ns.length:=by rw[<-hl];simp at g1 ⊢;lia
 refine⟨.int _,H,I.kept hk,⟨t,rfl⟩,q _ ?_ λa ha=>?_⟩
 ·rw[DQ h2 g3];exact pF g3
 ·obtain⟨j,hj,rfl⟩:=dS ha;rw[<-DQ h2 hj];exact g2 j (by simp[hl];lia)
def J6:D->(D->Prop)->Prop:=λd Q=>match d with
 | .lst ds=>∃ns:List Int,ds=ns.map D.int/\Q (.int ns.sum)
 | _=>False
def Mg:D->(D->Prop)->Prop:=λd Q=>match d with
 | .lst ds=>∃ns:List Int,ds=ns.map D.int/\ns≠[]/\∀M,M∈ns->(∀a∈ns,a<=M)->Q (.int M)
 | _=>False
def Fy:D->(D->Prop)->Prop:=λd Q=>match d with
 | .lst ds=>∃ns:List Int,ds=ns.map D.int/\ns≠[]/\∀M,M∈ns->(∀a∈ns,M<=a)->Q (.int M)
 | _=>False
theorem boot_max:bootBuiltins "max" = some (.builtin "max"):=by decide +kernel
theorem boot_min:bootBuiltins "min" = some (.builtin "min"):=by decide +kernel
theorem Rj (hm:X.mg "max" = none) (hc:X.calm=true) (h:DB X e te) (hg:Gl X "max":=by rfl) (hs:starEach [e] X.env=[(false,eval e X.env)]:=by rfl) (hn:starEach [] X.env=[]:=by rfl):DE X (.Call (.Name "max" p) [e] [] pos) (r1 Mg te):=by
 refine PE.mono (xQ (Hy hc) hg hm boot_max (vH h hs hn) (by decide) (by decide) (by rw[hs,hn]) (by rw[hn];rfl)) λσ H Q hh=>jF hh λρ P st q k=>⟨ρ,_,st,q,λd v H1 hd s1 r=>?_⟩;unfold Mg at hd;split at hd
 ·obtain⟨ns,rfl,gm,hd⟩:=hd;obtain⟨p,vs,rfl,hq,rr⟩:=r.lst;rw[rr.ints_inv] at hq;exact⟨p,ns,rfl,hq,gm,λM m1 m2=>k _ _ H1 (hd M m1 m2) s1 (.int _)⟩
 ·exact hd.elim
theorem Ga (hm:X.mg "min" = none) (hc:X.calm=true) (h:DB X e te) (hg:Gl X "min":=by rfl) (hs:starEach [e] X.env=[(false,eval e X.env)]:=by rfl) (hn:starEach [] X.env=[]:=by rfl):DE X (.Call (.Name "min" p) [e] [] pos) (r1 Fy te):=by
 refine PE.mono (xQ (Ia hc) hg hm boot_min (vH h hs hn) (by decide) (by decide) (by rw[hs,hn]) (by rw[hn];rfl)) λσ H Q hh=>jF hh λρ P st q k=>⟨ρ,_,st,q,λd v H1 hd s1 r=>?_⟩;unfold Fy at hd;split at hd
 ·obtain⟨ns,rfl,gm,hd⟩:=hd;obtain⟨p,vs,rfl,hq,rr⟩:=r.lst;rw[rr.ints_inv] at hq;exact⟨p,ns,rfl,hq,gm,λM m1 m2=>k _ _ H1 (hd M m1 m2) s1 (.int _)⟩
 ·exact hd.elim
end
section
variable {te:RE}
def E6 (te:RE):RA:=λρ Q=>te ρ λd=>match d with
 | .lst ds=>Q ds.reverse
 | _=>False
theorem boot_reversed:bootBuiltins "reversed" = some (.type "reversed"):=by decide +kernel
end
structure Sub (prog:cE) (w:dI) (I a:Addr) (vs:List aD) (T:Nat->Heap->Prop):Prop where
 stay:∀{k:Nat} {h h':Heap},T k h->(∀o,h.get? I=some o->h'.get? I=some o)->(∀o,h.get? a=some o->h'.get? a=some o)->T k h'
 lt:∀{k:Nat} {h:Heap},T k h->I<h.objs.size/\a<h.objs.size
 item:∀{A:dJ} {E:aD->aG->Prop} {s:aG} {k:Nat} {x:aD} {Q:aD->aG->Prop},T k s.heap->vs[k]? = some x->(∀h',T (k+1) h'->nB I s.heap h'->Q x { s with heap:=h' }) ->
  wpAny (model prog w) A (dF (.ref I)) Q E s
 done:∀{A:dJ} {E:aD->aG->Prop} {s:aG} {k:Nat} {Q:aD->aG->Prop},A.handled=none->T k s.heap->vs[k]? = none ->
  (∀h' e,LR I s.heap h'->(∃o,h'.get? e=some o/\o.cls = .type "StopIteration")->E (.ref e) { s with heap:=h' })->wpAny (model prog w) A (dF (.ref I)) Q E s
def Px (ne:a≠I):Sub prog w I a vs (λk h=>h.IsListIter I a k/\h.IsList a vs.toArray) where
 stay:=λt e1 e2=>⟨t.1.at e1,t.2.at e2⟩
 lt:=λt=>by
  obtain⟨⟨o,e,_⟩,o2,e2,_⟩:=t;exact⟨aW e,aW e2⟩
 item:=λt e q=>wpAny_nextOf_list_item t.1 t.2 (by simpa using e) λh' t' sb=>q h' ⟨t',t.2.extBut sb.extBut ne⟩ sb
 done:=λhh t e q=>wpAny_nextOf_list_end hh t.1 t.2 (by simpa using e) q
section
variable {prog:cE} {w:dI} {A:dJ} {E:aD->aG->Prop} {s:aG}
theorem Ds {I a:Addr} {k:Nat} {vs:List aD} {x:aD} {Q:aD->aG->Prop} (hi:s.heap.IsTupleIter I a k) (ht:s.heap.IsTuple a vs.toArray) (hx:vs[k]? = some x)
  (q:∀h',h'.IsTupleIter I a (k+1)->nB I s.heap h'->Q x { s with heap:=h' }):wpAny (model prog w) A (dF (.ref I)) Q E s:=by
 obtain⟨o,eo,co,dO⟩:=id hi;obtain⟨t,et,_,nt,dT⟩:=ht;unfold dF;apply aA;apply iK (name:=lW "__next__") hi.typeIs F.slot_tuple_iterator_next;apply iU F.slot_tuple_iterator_next hi.typeIs F.entry_tuple_iterator_next ?_ (F.args_tuple_iterator_next_1 _);show wpAny _ _ (field (.ref I) 0 >>= _) _ _ s;apply aA;apply fY eo dO (x:=.ref a) rfl;show wpAny _ _ (if (fX a == gI)=true then _ else _) _ _ s;rw[if_neg (by exact cO)];show wpAny _ _ (field (.ref I) 1 >>= _) _ _ s;apply aA;apply fY eo dO (x:=.int k 0) rfl;show wpAny _ _ (seqItems? (.ref a) >>= _) _ _ s;have n_:vs.toArray[k]? = some x:=by simpa using hx
 apply aA;apply eW et dT;simp only[oD,n_];apply aA;apply CY eo dO (by simp);apply aK;refine⟨x,rfl,aK (q _ ⟨_,eD _ eo (Obj.isFreed_of_fields (GA dO _)),(Obj.cls_mapFields ..).trans co,?_⟩ (iB ..))⟩;rw[GA dO];simp[rawInt]
theorem QH {I a:Addr} {k:Nat} {vs:List aD} {Q:aD->aG->Prop} (hh:A.handled=none) (hi:s.heap.IsTupleIter I a k) (ht:s.heap.IsTuple a vs.toArray) (hx:vs[k]? = none)
  (q:∀h' e,LR I s.heap h'->(∃o,h'.get? e=some o/\o.cls = .type "StopIteration")->E (.ref e) { s with heap:=h' }):wpAny (model prog w) A (dF (.ref I)) Q E s:=by
 obtain⟨o,eo,co,dO⟩:=id hi;obtain⟨t,et,_,nt,dT⟩:=ht;unfold dF;apply aA;apply iK (name:=lW "__next__") hi.typeIs F.slot_tuple_iterator_next;apply iU F.slot_tuple_iterator_next hi.typeIs F.entry_tuple_iterator_next ?_ (F.args_tuple_iterator_next_1 _);show wpAny _ _ (field (.ref I) 0 >>= _) _ _ s;apply aA;apply fY eo dO (x:=.ref a) rfl;show wpAny _ _ (if (fX a == gI)=true then _ else _) _ _ s;rw[if_neg (by exact cO)];show wpAny _ _ (field (.ref I) 1 >>= _) _ _ s;apply aA;apply fY eo dO (x:=.int k 0) rfl;show wpAny _ _ (seqItems? (.ref a) >>= _) _ _ s;have n_:vs.toArray[k]? = none:=by simpa using hx
 apply aA;apply eW et dT;simp only[oD,n_];apply aA;apply vL;apply aA;apply CY eo dO (by simp);show wpAny _ _ (newExc (.type "StopIteration") [] >>= _) _ _ _;apply aA;simp only[newExc,newTuple];apply aA;refine fM ?_ (by size_fits);refine aA (m:=firstArgMember _ _) ?_;refine pA (a:=gI) (by first | rfl | (simp only[firstArgMember];rfl)) ?_;refine fM ?_ (by size_fits);simp only[raiseNew];apply aA;apply TN
 first | rw[show A.in1.handled=none from hh] | rw[hh]
 apply wpAny_throw;exact q _ _ (((iB ..).extBut.push _).push _) ⟨_,bR _ rfl,rfl⟩
end
def Ub (ne:a≠I):Sub prog w I a vs (λk h=>h.IsTupleIter I a k/\h.IsTuple a vs.toArray) where
 stay:=λt e1 e2=>⟨t.1.at e1,t.2.at e2⟩
 lt:=λt=>by
  obtain⟨⟨o,e,_⟩,o2,e2,_⟩:=t;exact⟨aW e,aW e2⟩
 item:=λt e q=>Ds t.1 t.2 e λh' t' sb=>q h' ⟨t',t.2.at λo x=>sb.extBut _ o ne x⟩ sb
 done:=λhh t e q=>QH hh t.1 t.2 e q
abbrev pP (h:Heap) (z TI TO:Addr) (f0 f1:aD):Prop:=h.get? z=some { cls:=.type "zip",dict:=none,data:=.fields #[f0,f1,.bool false,.ref TI,.ref TO],slots:=#[] }
def Vy (h:Heap) (z TI TO i1 i2:Addr):Prop:=pP h z TI TO .none (.bool false)\/∃(T:Addr) (b:Bool) (o:Obj),pP h z TI TO (rawInt T) (.bool b)/\(h.get? T=some o/\o.cls = .type "tuple")/\T≠z/\T≠i1/\T≠i2
structure j4 (z TI TO i1 i2 a1 a2:Addr):Prop where
 TIz:TI≠z
 TOz:TO≠z
 i1z:i1≠z
 i2z:i2≠z
 a1z:a1≠z
 a2z:a2≠z
 IO:TI≠TO
 I1:TI≠i1
 I2:TI≠i2
 O1:TO≠i1
 O2:TO≠i2
 i12:i1≠i2
 a1O:a1≠TO
 a2O:a2≠TO
 a1i1:a1≠i1
 a1i2:a1≠i2
 a2i1:a2≠i1
 a2i2:a2≠i2
section
variable {prog:cE} {w:dI} {A:dJ} {E:aD->aG->Prop} {s:aG} {z TI TO i1 i2 a1 a2:Addr} {vs us:List aD} {T1 T2:Nat->Heap->Prop}
structure ii (z TI TO i1 i2:Addr) (T1 T2:Nat->Heap->Prop) (k:Nat) (h:Heap):Prop where
 out:Vy h z TI TO i1 i2
 its:IsPair h TI (.ref i1) (.ref i2)
 own:∃a b,IsPair h TO a b
 one:T1 k h
 two:T2 k h
theorem SE (D:j4 z TI TO i1 i2 a1 a2) (S1:Sub prog w i1 a1 vs T1) (S2:Sub prog w i2 a2 us T2) {k:Nat} {x y a b:aD} {Q:aD->aG->Prop} (hz:pP s.heap z TI TO .none (.bool false)) (hI:IsPair s.heap TI (.ref i1) (.ref i2)) (hO:IsPair s.heap TO a b)
  (t1:T1 k s.heap) (t2:T2 k s.heap) (ex:vs[k]? = some x) (ey:us[k]? = some y)
  (q:∀h',ii z TI TO i1 i2 T1 T2 (k+1) h'->IsPair h' s.heap.objs.size x y->h'.objs.size=s.heap.objs.size+1->(∀c o,c≠z->c≠TO->c≠i1->c≠i2->s.heap.get? c=some o->h'.get? c=some o)->Q (.ref s.heap.objs.size) { s with heap:=h' }) :
  wpAny (model prog w) A (Builtin.«zip.__next__» ⟨[.ref z],[]⟩) (λfin s'=>∃v,fin = .done (.ret v)/\Q v s') E s:=by
 show wpAny _ _ (field (.ref z) 2 >>= _) _ _ _;apply aA;apply fY hz rfl (x:=.bool false) rfl;show wpAny _ _ (field (.ref z) 3 >>= _) _ _ _;apply aA;apply fY hz rfl (x:=.ref TI) rfl;apply aA;apply eW hI rfl;show wpAny _ _ (eJ (.ref z) >>= _) _ _ _;apply aA;unfold eJ;apply aA;apply fY hz rfl (x:=.none) rfl;apply aK;simp only[if_true];apply aA;apply vL;apply aA;apply fY hz rfl (x:=.ref TO) rfl;apply aA;refine jU hz (by simp) λh₁ oa j8=>?_;replace oa:pP h₁ z TI TO .ellipsis (.bool false):=oa;apply aA;simp only[JZ,MQ,nQ,uS];apply aA;apply aA;apply xD;show wpAny _ _ (dF (.ref i1) >>= _) _ _ _;apply aA;refine S1.item (S1.stay t1 (λo e=>j8.extBut _ o D.i1z e) λo e=>j8.extBut _ o D.a1z e) ex λh₂ zo oh=>aK ?_;have xy:IsPair h₂ TO a b:=oh.extBut _ _ D.O1 (j8.extBut _ _ D.TOz hO);apply aA;apply eW xy rfl;apply aA;refine sX xy λh₃ Fn mj=>?_;replace Fn:IsPair h₃ TO x b:=Fn;apply aA;apply jO;apply aK;apply aA;apply aA;apply xD;show wpAny _ _ (dF (.ref i2) >>= _) _ _ _;have gn:∀c o,c≠z->c≠i1->c≠TO->s.heap.get? c=some o->h₃.get? c=some o:=λc o c1 c2 c3 e=>mj.extBut _ _ c3 (oh.extBut _ _ c2 (j8.extBut _ _ c1 e));apply aA;refine S2.item (S2.stay t2 (λo e=>gn _ o D.i2z D.i12.symm D.O2.symm e) λo e=>gn _ o D.a2z D.a2i1 D.a2O e) ey λh₄ t24 w8=>aK ?_;have hO4:IsPair h₄ TO x b:=w8.extBut _ _ D.O2 Fn;apply aA;apply eW hO4 rfl;apply aA;refine sX hO4 λh₅ F_ q8=>?_;replace F_:IsPair h₅ TO x y:=F_;apply aA;apply jO;apply aK;apply aK;apply aA;apply eW F_ rfl;apply aA;refine CW ?_;have z5:h₅.objs.size=s.heap.objs.size:=by rw[q8.1,w8.1,mj.1,oh.1,j8.1]
 have hz5:pP h₅ z TI TO .ellipsis (.bool false):=q8.extBut _ _ D.TOz.symm (w8.extBut _ _ D.i2z.symm (mj.extBut _ _ D.TOz.symm (oh.extBut _ _ D.i1z.symm oa)));have uc:∀c o,c≠z->c≠TO->c≠i1->c≠i2->s.heap.get? c=some o->h₅.get? c=some o:=λc o c1 c2 c3 c4 e=>q8.extBut _ _ c2 (w8.extBut _ _ c4 (gn c o c1 c3 c2 e));have t15:T1 (k+1) h₅:=S1.stay zo (λo e=>q8.extBut _ _ D.O1.symm (w8.extBut _ _ D.i12 (mj.extBut _ _ D.O1.symm e))) λo e=>q8.extBut _ _ D.a1O (w8.extBut _ _ D.a1i2 (mj.extBut _ _ D.a1O e));have t25:T2 (k+1) h₅:=S2.stay t24 (λo e=>q8.extBut _ _ D.O2.symm e) λo e=>q8.extBut _ _ D.a2O e;have zl:z<h₅.objs.size:=aW hz5;show wpAny _ _ (pO (.ref z) (.ref h₅.objs.size) >>= _) _ _ _;apply aA;unfold pO;have hz6:pP (h₅.push { cls:=.type "tuple",data:=.seq #[x,y] }) z TI TO .ellipsis (.bool false):=aR _ hz5;apply aA;refine jU hz6 (by simp) λh₇ Z6 sb7=>?_;replace Z6:pP h₇ z TI TO (rawInt h₅.objs.size) (.bool false):=Z6;refine jU Z6 (by simp) λh₈ L_ sb8=>?_;replace L_:pP h₈ z TI TO (rawInt h₅.objs.size) (.bool false):=L_;have up:∀c o,c≠z->h₅.get? c=some o->h₈.get? c=some o:=λc o c1 e=>sb8.extBut _ _ c1 (sb7.extBut _ _ c1 (aR _ e));have V4:IsPair h₈ h₅.objs.size x y:=sb8.extBut _ _ (eK zl) (sb7.extBut _ _ (eK zl) (bR _ rfl));have s8:h₈.objs.size=h₅.objs.size+1:=by rw[sb8.1,sb7.1,gO]
 apply aK;refine⟨_,rfl,?_⟩;show Q (.ref h₅.objs.size) _;rw[z5] at V4 s8 L_ ⊢;exact q h₈ ⟨.inr ⟨_,_,_,L_,⟨V4,rfl⟩,eK (aW hz),eK (S1.lt t1).1,eK (S2.lt t2).1⟩,up _ _ D.TIz (uc _ _ D.TIz D.IO D.I1 D.I2 hI),⟨_,_,up _ _ D.TOz F_⟩,S1.stay t15 (λo e=>up _ o D.i1z e) (λo e=>up _ o D.a1z e),S2.stay t25 (λo e=>up _ o D.i2z e) λo e=>up _ o D.a2z e⟩ V4 s8 λc o c1 c2 c3 c4 e=>up c o c1 (uc c o c1 c2 c3 c4 e)
theorem Vz (e:s.heap.get? a=some o) (q:Q (some o) s):wpAny (model prog w) A (loadIfAlive a) Q E s:=by
 have q':Q (s.heap.get? a) s:=e ▸ q;exact λ_ _ _=>q'
theorem VN {T:Addr} {b:Bool} {o:Obj} {Q:Bool->aG->Prop} (hz:pP s.heap z TI TO (rawInt T) (.bool b)) (hT:s.heap.get? T=some o)
  (q:∀h',pP h' z TI TO (rawInt T) (.bool true)->nB z s.heap h'->Q false { s with heap:=h' }):wpAny (model prog w) A (eJ (.ref z)) Q E s:=by
 unfold eJ;apply aA;apply fY hz rfl (x:=rawInt T) rfl;show wpAny _ _ (loadIfAlive ((T:Int).toNat) >>= _) _ _ _;apply aA;refine Vz (a:=((T:Int).toNat)) (o:=o) (by simpa using hT) ?_;show wpAny _ _ (field (.ref z) 1 >>= _) _ _ _;apply aA;apply fY hz rfl (x:=.bool b) rfl;cases b with
 | false =>
  show wpAny _ _ (setField (.ref z) 1 (.bool true) >>= _) _ _ _;apply aA;refine jU hz (by simp) λh₁ oa j8=>aK (q h₁ oa j8)
 | true =>
  show wpAny _ _ (pure false) _ _ _;exact aK (q s.heap hz ⟨rfl,λ_ _=>rfl⟩)
theorem SF (D:j4 z TI TO i1 i2 a1 a2) (S1:Sub prog w i1 a1 vs T1) (S2:Sub prog w i2 a2 us T2) {k:Nat} {T:Addr} {f:Bool} {o:Obj} {x y a b:aD} {Q:aD->aG->Prop} (hz:pP s.heap z TI TO (rawInt T) (.bool f)) (hT:s.heap.get? T=some o/\o.cls = .type "tuple")
  (hTz:T≠z) (hT1:T≠i1) (hT2:T≠i2) (hI:IsPair s.heap TI (.ref i1) (.ref i2)) (hO:IsPair s.heap TO a b) (t1:T1 k s.heap) (t2:T2 k s.heap) (ex:vs[k]? = some x) (ey:us[k]? = some y)
  (q:∀h',ii z TI TO i1 i2 T1 T2 (k+1) h'->IsPair h' s.heap.objs.size x y->h'.objs.size=s.heap.objs.size+1->(∀c o,c≠z->c≠TO->c≠i1->c≠i2->s.heap.get? c=some o->h'.get? c=some o)->Q (.ref s.heap.objs.size) { s with heap:=h' }) :
  wpAny (model prog w) A (Builtin.«zip.__next__» ⟨[.ref z],[]⟩) (λfin s'=>∃v,fin = .done (.ret v)/\Q v s') E s:=by
 show wpAny _ _ (field (.ref z) 2 >>= _) _ _ _;apply aA;apply fY hz rfl (x:=.bool false) rfl;show wpAny _ _ (field (.ref z) 3 >>= _) _ _ _;apply aA;apply fY hz rfl (x:=.ref TI) rfl;apply aA;apply eW hI rfl;show wpAny _ _ (eJ (.ref z) >>= _) _ _ _;apply aA;refine VN hz hT.1 λh₁ oa j8=>?_;simp only[aN,if_false];rw[<-qE];apply aA;simp only[nQ,uS];apply aA;apply aA;apply fU;show wpAny _ _ (dF (.ref i1) >>= _) _ _ _;apply aA;refine S1.item (S1.stay t1 (λo e=>j8.extBut _ o D.i1z e) λo e=>j8.extBut _ o D.a1z e) ex λh₂ zo oh=>aK ?_;apply aK;apply aA;apply aA;apply fU;show wpAny _ _ (dF (.ref i2) >>= _) _ _ _;have j6:∀c o,c≠z->c≠i1->s.heap.get? c=some o->h₂.get? c=some o:=λc o c1 c2 e=>oh.extBut _ _ c2 (j8.extBut _ _ c1 e);apply aA;refine S2.item (S2.stay t2 (λo e=>j6 _ o D.i2z D.i12.symm e) λo e=>j6 _ o D.a2z D.a2i1 e) ey λh₃ t23 mj=>aK ?_;apply aK;apply aK;have gn:∀c o,c≠z->c≠i1->c≠i2->s.heap.get? c=some o->h₃.get? c=some o:=λc o c1 c2 c3 e=>mj.extBut _ _ c3 (j6 c o c1 c2 e);have z3:h₃.objs.size=s.heap.objs.size:=by rw[mj.1,oh.1,j8.1]
 have hz3:pP h₃ z TI TO (rawInt T) (.bool true):=mj.extBut _ _ D.i2z.symm (oh.extBut _ _ D.i1z.symm oa);show wpAny _ _ (newTuple [x,y] >>= _) _ _ _;apply aA;refine CW ?_;apply aK;refine⟨_,rfl,?_⟩;show Q (.ref h₃.objs.size) _;have up:∀c o,h₃.get? c=some o->(h₃.push { cls:=.type "tuple",data:=.seq #[x,y] }).get? c=some o:=λc o e=>aR _ e;have hp:IsPair (h₃.push { cls:=.type "tuple",data:=.seq #[x,y] }) h₃.objs.size x y:=bR _ rfl;have sz:(h₃.push { cls:=.type "tuple",data:=.seq #[x,y] }).objs.size=h₃.objs.size+1:=gO ..;have zs:ii z TI TO i1 i2 T1 T2 (k+1) (h₃.push { cls:=.type "tuple",data:=.seq #[x,y] }):=⟨.inr ⟨T,true,o,up _ _ hz3,⟨up _ _ (gn _ _ hTz hT1 hT2 hT.1),hT.2⟩,hTz,hT1,hT2⟩,up _ _ (gn _ _ D.TIz D.I1 D.I2 hI),⟨_,_,up _ _ (gn _ _ D.TOz D.O1 D.O2 hO)⟩,
  S1.stay zo (λo e=>up _ o (mj.extBut _ _ D.i12 e)) (λo e=>up _ o (mj.extBut _ _ D.a1i2 e)),S2.stay t23 (λo e=>up _ o e) λo e=>up _ o e⟩
 rw[z3] at hp sz ⊢;exact q _ zs hp sz λc o c1 c2 c3 c4 e=>up c o (gn c o c1 c3 c4 e)
theorem Qh (D:j4 z TI TO i1 i2 a1 a2) (S1:Sub prog w i1 a1 vs T1) (S2:Sub prog w i2 a2 us T2) (st:ii z TI TO i1 i2 T1 T2 k s.heap) (ex:vs[k]? = some x) (ey:us[k]? = some y)
  (q:∀h',ii z TI TO i1 i2 T1 T2 (k+1) h'->IsPair h' s.heap.objs.size x y->h'.objs.size=s.heap.objs.size+1->(∀c o,c≠z->c≠TO->c≠i1->c≠i2->s.heap.get? c=some o->h'.get? c=some o)->Q (some (.ref s.heap.objs.size)) { s with heap:=h' }) :
  wpAny (model prog w) A (pyNext (.ref z)) Q E s:=by
 obtain⟨a,b,hO⟩:=st.own;have ty:s.TypeIs (.ref z) "zip":=by rcases st.out with hz | ⟨T,f,o,hz,_⟩ <;> exact⟨_,hz,rfl⟩
 unfold pyNext;apply aA;apply xB;apply iK (name:=lW "__next__") ty F.slot_zip_next;refine iU F.slot_zip_next ty F.entry_zip_next ?_ (F.args_zip_next_1 _);rcases st.out with hz | ⟨T,f,o,hz,hT,n1,n2,n3⟩
 ·exact SE D S1 S2 hz st.its hO st.one st.two ex ey λh' b1 b2 b3 b4=>aK (q h' b1 b2 b3 b4)
 ·exact SF D S1 S2 hz hT n1 n2 n3 st.its hO st.one st.two ex ey λh' b1 b2 b3 b4=>aK (q h' b1 b2 b3 b4)
theorem Qj (hh:A.handled=none) (D:j4 z TI TO i1 i2 a1 a2) (S1:Sub prog w i1 a1 vs T1) (S2:Sub prog w i2 a2 us T2) (st:ii z TI TO i1 i2 T1 T2 k s.heap) (ee:vs[k]? = none\/us[k]? = none)
  (q:∀h' e,(∀c o,c≠z->c≠TO->c≠i1->c≠i2->s.heap.get? c=some o->h'.get? c=some o)->(∃o,h'.get? e=some o/\o.cls = .type "StopIteration")->E (.ref e) { s with heap:=h' }) :
  wpAny (model prog w) A (Builtin.«zip.__next__» ⟨[.ref z],[]⟩) Q E s:=by
 obtain⟨a,b,hO⟩:=st.own;have t1:=st.one;have t2:=st.two;have hI:=st.its;rcases st.out with hz | ⟨T,f,o,hz,hT,n1,n2,n3⟩
 ·show wpAny _ _ (field (.ref z) 2 >>= _) _ _ _;apply aA;apply fY hz rfl (x:=.bool false) rfl;show wpAny _ _ (field (.ref z) 3 >>= _) _ _ _;apply aA;apply fY hz rfl (x:=.ref TI) rfl;apply aA;apply eW hI rfl;show wpAny _ _ (eJ (.ref z) >>= _) _ _ _;apply aA;unfold eJ;apply aA;apply fY hz rfl (x:=.none) rfl;apply aK;simp only[if_true];apply aA;apply vL;apply aA;apply fY hz rfl (x:=.ref TO) rfl;apply aA;refine jU hz (by simp) λh₁ oa j8=>?_;replace oa:pP h₁ z TI TO .ellipsis (.bool false):=oa;apply aA;simp only[JZ,MQ,nQ,uS];apply aA;apply aA;apply xD;show wpAny _ _ (dF (.ref i1) >>= _) _ _ _;have zn:=S1.stay t1 (λo e=>j8.extBut _ o D.i1z e) λo e=>j8.extBut _ o D.a1z e;cases ex:vs[k]? with
  | none =>
   apply aA;refine S1.done (s:={ s with heap:=h₁ }) hh zn ex λh₂ e xb he=>?_;obtain⟨oe,h2,ce⟩:=he;have Z5:pP h₂ z TI TO .ellipsis (.bool false):=xb _ _ D.i1z.symm oa;have nez:e≠z:=λy=>(by subst y;rw[Z5] at h2;cases h2;simp at ce);refine jU Z5 (by simp) λh₃ _ mj=>q h₃ e (λc o c1 _ c3 _ y=>mj.extBut _ _ c1 (xb _ _ c3 (j8.extBut _ _ c1 y))) ⟨oe,mj.extBut _ _ nez h2,ce⟩
  | some x =>
   have ey:us[k]? = none:=(by rcases ee with h | h;rw[ex] at h;cases h;exact h);apply aA;refine S1.item zn ex λh₂ zo oh=>aK ?_;have xy:IsPair h₂ TO a b:=oh.extBut _ _ D.O1 (j8.extBut _ _ D.TOz hO);apply aA;apply eW xy rfl;apply aA;refine sX xy λh₃ Fn mj=>?_;apply aA;apply jO;apply aK;apply aA;apply aA;apply xD;show wpAny _ _ (dF (.ref i2) >>= _) _ _ _;have gn:∀c o,c≠z->c≠i1->c≠TO->s.heap.get? c=some o->h₃.get? c=some o:=λc o c1 c2 c3 e=>mj.extBut _ _ c3 (oh.extBut _ _ c2 (j8.extBut _ _ c1 e));apply aA;refine S2.done (s:={ s with heap:=h₃ }) hh (S2.stay t2 (λo e=>gn _ o D.i2z D.i12.symm D.O2.symm e) λo e=>gn _ o D.a2z D.a2i1 D.a2O e) ey λh₄ e xb he=>?_;obtain⟨oe,h2,ce⟩:=he;have hz4:pP h₄ z TI TO .ellipsis (.bool false):=xb _ _ D.i2z.symm (mj.extBut _ _ D.TOz.symm (oh.extBut _ _ D.i1z.symm oa));have nez:e≠z:=λy=>(by subst y;rw[hz4] at h2;cases h2;simp at ce);refine jU hz4 (by simp) λh₅ _ q8=>q h₅ e (λc o c1 c2 c3 c4 y=>q8.extBut _ _ c1 (xb _ _ c4 (gn c o c1 c3 c2 y))) ⟨oe,q8.extBut _ _ nez h2,ce⟩
 ·show wpAny _ _ (field (.ref z) 2 >>= _) _ _ _;apply aA;apply fY hz rfl (x:=.bool false) rfl;show wpAny _ _ (field (.ref z) 3 >>= _) _ _ _;apply aA;apply fY hz rfl (x:=.ref TI) rfl;apply aA;apply eW hI rfl;show wpAny _ _ (eJ (.ref z) >>= _) _ _ _;apply aA;refine VN hz hT.1 λh₁ oa j8=>?_;simp only[aN,if_false];rw[<-qE];apply aA;simp only[nQ,uS];apply aA;apply aA;apply fU;show wpAny _ _ (dF (.ref i1) >>= _) _ _ _;have zn:=S1.stay t1 (λo e=>j8.extBut _ o D.i1z e) λo e=>j8.extBut _ o D.a1z e;cases ex:vs[k]? with
  | none =>
   apply aA;exact S1.done (s:={ s with heap:=h₁ }) hh zn ex λh₂ e xb he=>q h₂ e (λc o c1 _ c3 _ y=>xb _ _ c3 (j8.extBut _ _ c1 y)) he
  | some x =>
   have ey:us[k]? = none:=(by rcases ee with h | h;rw[ex] at h;cases h;exact h);apply aA;refine S1.item zn ex λh₂ zo oh=>aK ?_;apply aK;apply aA;apply aA;apply fU;show wpAny _ _ (dF (.ref i2) >>= _) _ _ _;have j6:∀c o,c≠z->c≠i1->s.heap.get? c=some o->h₂.get? c=some o:=λc o c1 c2 e=>oh.extBut _ _ c2 (j8.extBut _ _ c1 e);apply aA;exact S2.done (s:={ s with heap:=h₂ }) hh (S2.stay t2 (λo e=>j6 _ o D.i2z D.i12.symm e) λo e=>j6 _ o D.a2z D.a2i1 e) ey λh₃ e xb he=>q h₃ e (λc o c1 c2 c3 c4 y=>xb _ _ c4 (j6 c o c1 c3 y)) he
theorem Us (hh:A.handled=none) (D:j4 z TI TO i1 i2 a1 a2) (S1:Sub prog w i1 a1 vs T1) (S2:Sub prog w i2 a2 us T2) (st:ii z TI TO i1 i2 T1 T2 k s.heap) (ee:vs[k]? = none\/us[k]? = none)
  (q:∀h',(∀c o,c≠z->c≠TO->c≠i1->c≠i2->s.heap.get? c=some o->h'.get? c=some o)->Q none { s with heap:=h' }):wpAny (model prog w) A (pyNext (.ref z)) Q E s:=by
 have ty:s.TypeIs (.ref z) "zip":=by rcases st.out with hz | ⟨T,f,o,hz,_⟩ <;> exact⟨_,hz,rfl⟩
 unfold pyNext;apply aA;apply xB;apply iK (name:=lW "__next__") ty F.slot_zip_next;refine iU F.slot_zip_next ty F.entry_zip_next ?_ (F.args_zip_next_1 _);refine Qj (A:=A.in1) hh D S1 S2 st ee λh' e kp he=>?_;obtain⟨o,ho,hc⟩:=he;apply aA;refine sN (T:="StopIteration") (b:=true) ⟨o,ho,hc⟩ PX ?_;exact aK (q h' kp)
end
abbrev xO (c:String) (l:Addr):Obj:={ cls:=.type c,data:=.fields #[.ref l,.int 0 0] }
abbrev S4 (c:String) (h:Heap) (l:Addr):Heap:=h.push (xO c l)
abbrev S5 (c d:String) (h:Heap) (l m:Addr):Heap:=(S4 c h l).push (xO d m)
abbrev S7 (c d:String) (h:Heap) (l m:Addr):Heap:=(S5 c d h l m).push { cls:=.type "tuple",data:=.seq #[.ref h.objs.size,.ref (S4 c h l).objs.size] }
abbrev S8 (c d:String) (h:Heap) (l m:Addr):Heap:=(S7 c d h l m).push { cls:=.type "tuple",data:=.seq #[.none,.none] }
abbrev v9 (c d:String) (h:Heap) (l m:Addr):Heap:=(S8 c d h l m).push { cls:=.type "zip",data:=.fields #[.none,.bool false,.bool false,.ref (S5 c d h l m).objs.size,.ref (S7 c d h l m).objs.size] }
abbrev Hw (c d:String) (l m:Addr) (P:Heap->Prop):Prop:=Meets (Builtin.«zip.__new__» ⟨[.type "zip",.ref l,.ref m],[]⟩) (λ_ R s=>P s.heap/\R (.ok (.ret (.ref (S8 c d s.heap l m).objs.size))) { s with heap:=v9 c d s.heap l m })
def Ut (l m:Addr) (xs ys:Array aD):Hw "list_iterator" "list_iterator" l m (λh=>h.IsList l xs/\h.IsList m ys) :=
 .of_wp λprog w A R s h=>by
  obtain⟨hp,g,d,tk,os⟩:=s;obtain⟨⟨e1,e2⟩,h⟩:=h;have sz:=XT;have f1:AX (lV ⟨hp,g,d,tk,os⟩) l xs:=e1;have f2:AX (lV ⟨hp.push (xO "list_iterator" l),g,d,tk,os⟩) m ys:=e2.at λo e=>aR _ e
  wp_walk using kH f1,kH f2
  exact⟨_,rfl,h⟩
def Uw (l m:Addr) (xs ys:Array aD):Hw "tuple_iterator" "tuple_iterator" l m (λh=>h.IsTuple l xs/\h.IsTuple m ys) :=
 .of_wp λprog w A R s h=>by
  obtain⟨hp,g,d,tk,os⟩:=s;obtain⟨⟨e1,e2⟩,h⟩:=h;have sz:=XT;have f1:yF (lV ⟨hp,g,d,tk,os⟩) l xs:=e1;have f2:yF (lV ⟨hp.push (xO "tuple_iterator" l),g,d,tk,os⟩) m ys:=e2.at λo e=>aR _ e
  wp_walk using lH f1,lH f2
  exact⟨_,rfl,h⟩
def Uv (l m:Addr) (xs ys:Array aD):Hw "tuple_iterator" "list_iterator" l m (λh=>h.IsTuple l xs/\h.IsList m ys) :=
 .of_wp λprog w A R s h=>by
  obtain⟨hp,g,d,tk,os⟩:=s;obtain⟨⟨e1,e2⟩,h⟩:=h;have sz:=XT;have f1:yF (lV ⟨hp,g,d,tk,os⟩) l xs:=e1;have f2:AX (lV ⟨hp.push (xO "tuple_iterator" l),g,d,tk,os⟩) m ys:=e2.at λo e=>aR _ e
  wp_walk using lH f1,kH f2
  exact⟨_,rfl,h⟩
def Uu (l m:Addr) (xs ys:Array aD):Hw "list_iterator" "tuple_iterator" l m (λh=>h.IsList l xs/\h.IsTuple m ys) :=
 .of_wp λprog w A R s h=>by
  obtain⟨hp,g,d,tk,os⟩:=s;obtain⟨⟨e1,e2⟩,h⟩:=h;have sz:=XT;have f1:AX (lV ⟨hp,g,d,tk,os⟩) l xs:=e1;have f2:yF (lV ⟨hp.push (xO "list_iterator" l),g,d,tk,os⟩) m ys:=e2.at λo e=>aR _ e
  wp_walk using kH f1,lH f2
  exact⟨_,rfl,h⟩
def Kw (h1:l<n) (h2:m<n):j4 (n+4) (n+2) (n+3) n (n+1) l m:=by
 constructor <;> (intro e;first | lia | (simp only[Addr] at *;lia))
section
variable {prog:cE} {w:dI} {A:dJ} {E:aD->aG->Prop} {s:aG}
theorem Ib {c d:String} (Z:Hw c d l m P) (hP:P s.heap)
  (q:∀h',pP h' (s.heap.objs.size+4) (s.heap.objs.size+2) (s.heap.objs.size+3) .none (.bool false)->IsPair h' (s.heap.objs.size+2) (.ref s.heap.objs.size) (.ref (s.heap.objs.size+1))->IsPair h' (s.heap.objs.size+3) .none .none ->
   h'.get? s.heap.objs.size=some (xO c l)->h'.get? (s.heap.objs.size+1)=some (xO d m)->h'.objs.size=s.heap.objs.size+5->(∀b o,s.heap.get? b=some o->h'.get? b=some o)->Q (.ref (s.heap.objs.size+4)) { s with heap:=h' }) :
  wpAny (model prog w) A (call (.type "zip") [.ref l,.ref m]) Q E s:=by
 refine callType_new F.called_zip (by decide) (F.typeCall_zip_2 _ _) (F.newCall_zip_2 _ _) (λobj=>F.args_object_init_3 obj _ _) F.entry_zip_new Z ⟨hP,?_⟩;have z1:(S4 c s.heap l).objs.size=s.heap.objs.size+1:=gO ..;have z2:(S5 c d s.heap l m).objs.size=s.heap.objs.size+2:=by rw[gO,z1]
 have z3:(S7 c d s.heap l m).objs.size=s.heap.objs.size+3:=by rw[gO,z2]
 have z4:(S8 c d s.heap l m).objs.size=s.heap.objs.size+4:=by rw[gO,z3]
 have z5:(v9 c d s.heap l m).objs.size=s.heap.objs.size+5:=by rw[gO,z4]
 have up:∀{h:Heap} {o:Obj} {b:Addr} {u:Obj},h.get? b=some u->(h.push o).get? b=some u:=λe=>aR _ e;have g5:(v9 c d s.heap l m).get? (S8 c d s.heap l m).objs.size=some _:=bR _ rfl;have g4:(v9 c d s.heap l m).get? (S7 c d s.heap l m).objs.size=some _:=up (bR _ rfl);have g3:(v9 c d s.heap l m).get? (S5 c d s.heap l m).objs.size=some _:=up (up (bR _ rfl));have g2:(v9 c d s.heap l m).get? (S4 c s.heap l).objs.size=some _:=up (up (up (bR _ rfl)));have g1:(v9 c d s.heap l m).get? s.heap.objs.size=some _:=up (up (up (up (bR _ rfl))));show _/\_;rw[z2,z3,z4] at g5;rw[z1,z2] at g3;rw[z3] at g4;rw[z1] at g2;rw[z4];exact⟨⟨_,g5,rfl⟩,q _ g5 g3 g4 g1 g2 z5 λb o x=>up (up (up (up (up x))))⟩
theorem PM {R:Result->aG->Prop} {S I:Addr} {n:Nat} {J F:List aD->Heap->Prop} {s0:aG} (res:aD) (hn:n<=sizeLine)
  (stay:∀acc h h',J acc h->(∃o,h.get? S=some o/\o.cls = .type "list")->h'.objs.size=h.objs.size->(∀b o,b≠S->h.get? b=some o->h'.get? b=some o)->J acc h')
  (item:∀acc (s:aG) (o:Obj) (Q:Option aD->aG->Prop) (E:aD->aG->Prop),acc.length<n->J acc s.heap->s.heap.get? S=some o->(∀v h',J (acc++[v]) h'->h'.get? S=some o->Q (some v) { s with heap:=h' })->wpAny (model prog w) A.in1 (pyNext (.ref I)) Q E s)
  (done:∀acc (s:aG) (o:Obj) (Q:Option aD->aG->Prop) (E:aD->aG->Prop),acc.length=n->J acc s.heap->s.heap.get? S=some o->(∀h',F acc h'->h'.get? S=some o->Q none { s with heap:=h' })->wpAny (model prog w) A.in1 (pyNext (.ref I)) Q E s)
  (hR:∀h' acc c,acc.size=n->F acc.toList h'->h'.get? S=some { cls:=.type "list",dict:=none,data:=.seq acc c,slots:=#[] }->R (.ok (.ret res)) { s0 with heap:=h' }) :
  ∀(k:Nat) (acc:Array aD) (h:Heap) (c:Nat),k=n-acc.size->acc.size<=n->J acc.toList h->h.get? S=some { cls:=.type "list",dict:=none,data:=.seq acc c,slots:=#[] } ->
   codeAny (model prog w) A (.builtin "list.extend.loop" ⟨[.ref S,.ref I,res],[]⟩) R { s0 with heap:=h }:=by
 intro k
 induction k with
 | zero =>
  intro acc h c hk hle hJ hS;refine gC vO ?_;rw[eY iW _];show wpAny _ A.in1 (pyNext (.ref I) >>= _) _ _ _;apply aA;refine done acc.toList { s0 with heap:=h } _ _ _ (by simp;lia) hJ hS λh' hF i8=>?_;exact aK (hR h' acc c (by lia) hF i8)
 | succ k ih =>
  intro acc h c hk hle hJ hS;refine gC vO ?_;rw[eY iW _];show wpAny _ A.in1 (pyNext (.ref I) >>= _) _ _ _;apply aA;refine item acc.toList { s0 with heap:=h } _ _ _ (by simp;lia) hJ hS λv h' hJ' i8=>?_;show wpAny _ A.in1 (updateSeq S (·.push v) >>= _) _ _ _;have vo:acc.size<n:=by lia
  have e1:(acc.push v).size=acc.size+1:=Array.size_push ..;apply aA;refine gD i8 rfl ?_ (by lia) (by show (acc.push v).size<=sizeLine+1;lia);apply aK;refine⟨gT iW _,?_⟩;refine ih (acc.push v) _ _ (by lia) (by lia) (stay _ _ _ (by simpa using hJ') ⟨_,i8,rfl⟩ (iB ..).1 λb o hb e=>(cQ _ _ (Ne.symm hb)).trans e) (eD _ i8 rfl)
end
def Fa:typeLookup (.type "zip") "__len__" = pure none:=by rw[qD,lN];kernel_rfl
def Bu:typeLookup (.type "zip") "__length_hint__" = pure none:=by rw[qD,lN];kernel_rfl
section
variable {z TI TO i1 i2 a1 a2:Addr} {vs us:List aD} {T1 T2:Nat->Heap->Prop}
structure uv (z TI TO i1 i2:Addr) (T1 T2:Nat->Heap->Prop) (vs us:List aD) (N:Nat) (fixed:Heap) (S:Addr) (acc:List aD) (h:Heap):Prop where
 st:ii z TI TO i1 i2 T1 T2 acc.length h
 size:h.objs.size=N+acc.length
 refs:∀j,j<acc.length->acc[j]? = some (.ref (N+j))
 got:∀j,j<acc.length->∀x y,vs[j]? = some x->us[j]? = some y->IsPair h (N+j) x y
 kept:∀b o,b≠z->b≠TO->b≠i1->b≠i2->b≠S->fixed.get? b=some o->h.get? b=some o
structure p8 (z TO i1 i2:Addr) (vs us:List aD) (N:Nat) (fixed:Heap) (S:Addr) (acc:List aD) (h:Heap):Prop where
 refs:∀j,j<acc.length->acc[j]? = some (.ref (N+j))
 got:∀j,j<acc.length->∀x y,vs[j]? = some x->us[j]? = some y->IsPair h (N+j) x y
 kept:∀b o,b≠z->b≠TO->b≠i1->b≠i2->b≠S->fixed.get? b=some o->h.get? b=some o
theorem SM (hh:A.handled=none) (D:j4 z TI TO i1 i2 a1 a2) (S1:∀{prog w},Sub prog w i1 a1 vs T1) (S2:∀{prog w},Sub prog w i2 a2 us T2) (hl:vs.length=us.length) (hn:vs.length<=sizeLine) (st:ii z TI TO i1 i2 T1 T2 0 s.heap)
  (q:∀h' acc c,acc.size=vs.length->p8 z TO i1 i2 vs us (s.heap.objs.size+1) s.heap s.heap.objs.size acc.toList h'->h'.get? s.heap.objs.size=some { cls:=.type "list",dict:=none,data:=.seq acc c,slots:=#[] }->Q (.ref s.heap.objs.size) { s with heap:=h' }) :
  wpAny (model prog w) A (call (.type "list") [.ref z]) Q E s:=by
 have zl:z<s.heap.objs.size:=by rcases st.out with hz | ⟨T,f,o,hz,_⟩ <;> exact aW hz
 have TIl:TI<s.heap.objs.size:=aW st.its;have A1:TO<s.heap.objs.size:=by obtain⟨a,b,h⟩:=st.own;exact aW h
 obtain⟨L',a1l⟩:=(S1 (prog:=prog) (w:=w)).lt st.one;obtain⟨M_,a2l⟩:=(S2 (prog:=prog) (w:=w)).lt st.two;refine OW (Q₁:=λobj s₁=>obj = .ref s.heap.objs.size/\s₁ = { s with heap:=s.heap.push { cls:=.type "list",data:=.seq #[] } }) F.called_list (F.typeCall_list_1 _) F.entry_list_init (SQ _ ⟨rfl,rfl⟩) λobj s₁ h₁=>?_;obtain⟨rfl,rfl⟩:=h₁;have hS:(s.heap.push { cls:=.type "list",data:=.seq #[] }).get? s.heap.objs.size=some { cls:=.type "list",data:=.seq #[] }:=bR _ rfl;refine⟨⟨_,hS,rfl⟩,F.args_list_init_2 _ _,?_⟩;show wpAny _ _ (do let old <-mX (.ref s.heap.objs.size);qM (.ref s.heap.objs.size) (λ_=>#[]);letGo old.toList.reverse;fP (.ref s.heap.objs.size) (.ref z) .none) _ _ _;apply aA;unfold mX;apply aA;apply eW hS rfl;apply aK;show wpAny _ _ (updateSeq s.heap.objs.size (λ_=>#[]) >>= λ_=>letGo (#[]:Array aD).toList.reverse >>= λ_=>fP (.ref s.heap.objs.size) (.ref z) .none) _ _ _;apply aA;refine gD hS rfl ?_;have wj:=eD (dH (λ_=>(#[]:Array aD))) hS rfl;have kb:∀b o,b≠s.heap.objs.size->s.heap.get? b=some o->((s.heap.push { cls:=.type "list",data:=.seq #[] }).update s.heap.objs.size (dH (λ_=>(#[]:Array aD)))).get? b=some o :=
  λb o hb e=>(cQ _ _ (Ne.symm hb)).trans (aR _ e)
 have z2:((s.heap.push { cls:=.type "list",data:=.seq #[] }).update s.heap.objs.size (dH (λ_=>(#[]:Array aD)))).objs.size=s.heap.objs.size+1:=by rw[(iB ..).1,gO]
 generalize (s.heap.push { cls:=.type "list",data:=.seq #[] }).update s.heap.objs.size (dH (λ_=>(#[]:Array aD)))=h2 at wj kb z2;apply aA;apply jO;have move:∀{h3:Heap},(∀b o,b≠s.heap.objs.size->s.heap.get? b=some o->h3.get? b=some o)->ii z TI TO i1 i2 T1 T2 0 h3:=λ{h3} up=>by
  have ne:∀{b:Addr},b<s.heap.objs.size->b≠s.heap.objs.size:=λh=>bK h;obtain⟨a,b,hO⟩:=st.own;refine⟨?_,up _ _ (ne TIl) st.its,⟨a,b,up _ _ (ne A1) hO⟩,(S1 (prog:=prog) (w:=w)).stay st.one (λo e=>up _ o (ne L') e) (λo e=>up _ o (ne a1l) e),(S2 (prog:=prog) (w:=w)).stay st.two (λo e=>up _ o (ne M_) e) λo e=>up _ o (ne a2l) e⟩;rcases st.out with hz | ⟨T,f,o,hz,hT,n1,n2,n3⟩
  ·exact .inl (up _ _ (ne zl) hz)
  ·exact .inr ⟨T,f,o,up _ _ (ne zl) hz,⟨up _ _ (ne (aW hT.1)) hT.1,hT.2⟩,n1,n2,n3⟩
 have S3:∀{h3:Heap} {g d t os},(∀b o,b≠s.heap.objs.size->s.heap.get? b=some o->h3.get? b=some o)->EM ⟨h3,g,d,t,os⟩ (.ref z) "zip":=λ{h3 g d t os} up=>by
  rcases (move up).out with hz | ⟨T,f,o,hz,_⟩ <;> exact⟨_,hz,rfl⟩
 unfold fP;apply aA;refine rN (T:="zip") (S3 kb) ?_;have g1:jA (.ref s.heap.objs.size) (.ref z)=false:=by simp[jA,eK zl]
 have g2:(iX "zip" == iX "list")=false:=by decide
 have g3:(iX "zip" == iX "tuple")=false:=by decide
 simp only[g1,g2,g3,wK,aN,if_false];have self:∀{s':aG} {Q':aD->aG->Prop} {E':aD->aG->Prop} {A':dJ},s'.TypeIs (.ref z) "zip"->Q' (.ref z) s'->wpAny (model prog w) A' (pyIter (.ref z)) Q' E' s':=λ{s' Q' E' A'} ty h=>by
  refine JP ty F.slot_zip_iter (iU F.slot_zip_iter ty F.entry_zip_iter ?_ (F.args_zip_iter_1 _));show wpAny _ _ (ret (.ref z)) _ _ s';exact aK ⟨_,rfl,"zip",_,ty,F.slot_zip_next.lookup,h⟩
 apply aA;refine self (S3 kb) ?_;apply aA;apply fU;unfold jH;apply aA;refine nU (S3 kb) Fa ?_;show wpAny _ _ (specialOf (fX z) (lW "__length_hint__") >>= _) _ _ _;apply aA;refine nU (S3 kb) Bu ?_;apply aK;show wpAny _ _ (rule "list.extend.makes-room" >>= λ_=>Builtin.List.listTouch (.ref s.heap.objs.size) >>= λ_=>again (.builtin "list.extend.loop" ⟨[.ref s.heap.objs.size,.ref z,.none],[]⟩)) _ _ _;apply aA;apply vL;apply aA;show wpAny _ _ (updateSeq s.heap.objs.size (·.push .none) >>= λ_=>updateSeq s.heap.objs.size (·.pop)) _ _ _;apply aA;refine gD wj rfl ?_;have hS3:=eD (dH (·.push gI)) wj rfl;refine gD (hz:=by seq_fits) hS3 rfl ?_;have hS4:=eD (dH (·.pop)) hS3 rfl;have uf:∀b o,b≠s.heap.objs.size->s.heap.get? b=some o->((h2.update s.heap.objs.size (dH (·.push gI))).update s.heap.objs.size (dH (·.pop))).get? b=some o :=
  λb o hb e=>(cQ _ _ (Ne.symm hb)).trans ((cQ _ _ (Ne.symm hb)).trans (kb b o hb e))
 have z4:((h2.update s.heap.objs.size (dH (·.push gI))).update s.heap.objs.size (dH (·.pop))).objs.size=s.heap.objs.size+1:=by rw[(iB ..).1,(iB ..).1,z2]
 generalize (h2.update s.heap.objs.size (dH (·.push gI))).update s.heap.objs.size (dH (·.pop))=h4 at hS4 uf z4;apply aK;refine⟨gT iW _,?_⟩;refine PM (n:=vs.length) (J:=uv z TI TO i1 i2 T1 T2 vs us (s.heap.objs.size+1) s.heap s.heap.objs.size) (F:=p8 z TO i1 i2 vs us (s.heap.objs.size+1) s.heap s.heap.objs.size) .none hn ?_ ?_ ?_ (λh' acc c lq hF i8=>⟨rfl,q h' acc c lq hF i8⟩) vs.length #[] h4 _ rfl (gU _) ?_ hS4
 ·intro acc h h' J m7 hz up;have ne:∀{b:Addr},b<s.heap.objs.size->b≠s.heap.objs.size:=λh=>bK h;obtain⟨a,b,hO⟩:=J.st.own;refine⟨⟨?_,up _ _ (ne TIl) J.st.its,⟨a,b,up _ _ (ne A1) hO⟩,(S1 (prog:=prog) (w:=w)).stay J.st.one (λo e=>up _ o (ne L') e) (λo e=>up _ o (ne a1l) e),(S2 (prog:=prog) (w:=w)).stay J.st.two (λo e=>up _ o (ne M_) e) λo e=>up _ o (ne a2l) e⟩,hz.trans J.size,J.refs,λj hj x y e1 e2=>up _ _ (by intro e;simp only[Addr] at *;lia) (J.got j hj x y e1 e2),λb o n1 n2 n3 n4 n5 e=>up b o n5 (J.kept b o n1 n2 n3 n4 n5 e)⟩;rcases J.st.out with hz | ⟨T,f,o,hz,hT,n1,n2,n3⟩
  ·exact .inl (up _ _ (ne zl) hz)
  ·have hTS:T≠s.heap.objs.size:=λe=>by
    obtain⟨u,hu,cu⟩:=m7;rw[<-e,hT.1] at hu;cases hu;rw[hT.2] at cu;simp at cu
   exact .inr ⟨T,f,o,up _ _ (ne zl) hz,⟨up _ _ hTS hT.1,hT.2⟩,n1,n2,n3⟩
 ·intro acc s' o Q' E' dk J m7 k;have e1:vs[acc.length]? = some (vs[acc.length]'dk):=aE _;have e2:us[acc.length]? = some (us[acc.length]'(by lia)):=aE _;refine Qh D S1 S2 J.st e1 e2 λh' e_ hp hz kp=>?_;have K_:=J.size;refine k _ h' ⟨by simpa using e_,by simp;lia,λj hj=>?_,λj hj x y f1 f2=>?_,λb o n1 n2 n3 n4 n5 e=>kp b o n1 n2 n3 n4 (J.kept b o n1 n2 n3 n4 n5 e)⟩ (kp _ _ (eK zl) (eK A1) (eK L') (eK M_) m7)
  ·simp only[dC,cG,fJ] at hj;by_cases h:j<acc.length
   ·rw[cZ h];exact J.refs j h
   ·have:j=acc.length:=(by lia);subst this;rw[dL (bU _),K_];simp
  ·simp only[dC,cG,fJ] at hj;by_cases h:j<acc.length
   ·refine kp _ _ ?_ ?_ ?_ ?_ (J.got j h x y f1 f2) <;> (intro e;simp only[Addr] at *;lia)
   ·have:j=acc.length:=(by lia);subst this;rw[e1] at f1;rw[e2] at f2;cases f1;cases f2;rw[<-K_];exact hp
 ·intro acc s' o Q' E' hlen J m7 k;refine Us (A:=A.in1.in1) hh D S1 S2 J.st (.inl (iZ (by lia))) λh' kp=>?_;refine k h' ⟨J.refs,λj hj x y f1 f2=>kp _ _ ?_ ?_ ?_ ?_ (J.got j hj x y f1 f2),λb o n1 n2 n3 n4 n5 e=>kp b o n1 n2 n3 n4 (J.kept b o n1 n2 n3 n4 n5 e)⟩ (kp _ _ (eK zl) (eK A1) (eK L') (eK M_) m7) <;> (intro e;simp only[Addr] at *;lia)
 ·exact⟨move uf,by simpa using z4,by simp,by simp,λb o n1 n2 n3 n4 n5 e=>uf b o n5 e⟩
end
section
variable {σ:St}
theorem _root_.L2.Inv.trackO {a:Addr} (I:Inv X pins σ H s) (I':Inv X pins σ H' s') (ha:s.heap.objs.size<=a) (hn:H' a=none) (new:cg X.prog X.w (bB H' a w) s'.heap a w):Inv X pins σ (bB H' a w) s':=by
 have nL:X.env.locals≠a:=bK (cB I.lt ha);have nC:∀x c,X.env.cells.lookup x=some c->c≠a:=λx c q z=>by
  obtain⟨v,hv⟩:=I.cell x c q;exact absurd (cB hv.lt (by rw[z];exact ha)) (iR _)
 have n0:∀{b:Addr} {o:Obj},X.s₀.heap.get? b=some o->b≠a:=λ{b o} q=>bK (cB (aW q) (fW I.sz ha));refine⟨I'.ok,I'.os,I'.bare,⟨I'.base.keep,I'.base.slot,λb o q n hx=>by rw[cX (n0 q)];exact I'.base.free b o q n hx,I'.base.there,λb ys q=>by rw[cX (fF (I'.base.tups b ys q) hn)];exact I'.base.tups b ys q,λb o u q=>by rw[cX (fF (I'.base.frzs b o u q) hn)];exact I'.base.frzs b o u q,λb ps q=>?_⟩,I'.loc,I'.cell,by rw[cX nL];exact I'.free,λx c q=>by rw[cX (nC x c q)];exact I'.freeC x c q,λp hp=>?_,λb u q=>?_,I'.len⟩
 ·obtain⟨m,q2⟩:=I'.base.tbls b ps q;exact⟨m,by rw[cX (fF q2 hn)];exact q2⟩
 ·obtain⟨q1,q2,q3,q4,q5⟩:=I'.pin p hp;have la:p.1≠a:=bK (cB (aW (I.pin p hp).1) ha);exact⟨q1,by rw[cX la];exact q2,q3,q4,q5⟩
 ·by_cases hb:b=a
  ·subst hb;rw[fT] at q;cases q;exact new
  ·rw[cX hb] at q;exact (I'.hok b u q).stay (λc v _ w=>w) (λc w=>by rw[cX (fF w hn)];exact w) λc ys w=>by rw[cX (fF w hn)];exact w
def MB (H:Hp):Nat->List (V × V)->Hp
 | _,[]=>H
 | N,p::ps=>MB (bB H N (.tup [p.1,p.2])) (N+1) ps
theorem QC:∀(ps:List (V × V)) (H:Hp) (N:Nat),(∀a,N<=a->H a=none)->ag H (MB H N ps)/\(∀a,N+ps.length<=a->MB H N ps a=none)/\∀j p,ps[j]? = some p->MB H N ps (N+j)=some (.tup [p.1,p.2])
 | [],H,N,hn=>⟨ag.refl H,λa ha=>hn a (by simpa using ha),λj p e=>by simp at e⟩
 | p::ps,H,N,hn=>by
  have me:∀a,N+1<=a->bB H N (.tup [p.1,p.2]) a=none:=λa ha=>by rw[cX (eK ha)];exact hn a (HQ ha)
  obtain⟨s1,s2,s3⟩:=QC ps (bB H N (.tup [p.1,p.2])) (N+1) me;refine⟨ag.trans (ag.fn λb o e=>by rw[cX (fF e (hn N (bU _)))];exact e) s1,λa ha=>s2 a (by simp at ha;lia),λj q e=>?_⟩;cases j with
  | zero=>simp at e;subst e;exact s1.get _ _ fT trivial
  | succ j =>
   have:=s3 j q (by simpa using e);rw[show N+(j+1)=N+1+j by lia];exact this
theorem _root_.L2.Inv.lays (I:Inv X pins σ H s):∀(ps:List (V × V)) (us:List (aD × aD)) (H':Hp) (N:Nat),Inv X pins σ H' s'->s.heap.objs.size<=N->(∀a,N<=a->H' a=none)->ps.length=us.length ->
  (∀j p u,ps[j]? = some p->us[j]? = some u->RelV p.1 u.1/\RelV p.2 u.2/\IsPair s'.heap (N+j) u.1 u.2)->Inv X pins σ (MB H' N ps) s'
 | [],_,H',N,I',_,_,_,_=>I'
 | p::ps,[],H',N,I',_,_,hl,_=>by simp at hl
 | p::ps,u::us,H',N,I',hN,hn,hl,hh=>by
  obtain⟨r1,r2,hp⟩:=hh 0 p u rfl rfl;have I2:Inv X pins σ (bB H' N (.tup [p.1,p.2])) s':=I.trackO I' hN (hn N (bU _)) ⟨by show 2<=sizeLine;decide,[u.1,u.2],.cons r1 (.cons r2 .nil),⟨_,hp,rfl,_,rfl⟩⟩;refine Inv.lays I ps us _ (N+1) I2 (by lia) (λa ha=>by rw[cX (eK ha)];exact hn a (HQ ha)) (by simpa using hl) λj q v e1 e2=>?_;obtain⟨q1,q2,q3⟩:=hh (j+1) q v (by simpa using e1) (by simpa using e2);exact⟨q1,q2,by rw[show N+1+j=N+(j+1) by lia];exact q3⟩
end
def Kn:D->Option (List D)
 | .lst xs=>some xs
 | .tup xs=>some xs
 | _=>none
def El (ta tb:RE):RA:=λρ Q=>ta ρ λx=>tb ρ λy=>∃xs ys,Kn x=some xs/\Kn y=some ys/\xs.length=ys.length/\Q (xs.zipWith (λa b=>D.tup [a,b]) ys)
theorem Uq {K:aI} {H:Hp} {N:Nat}:∀{xs ys:List D} {vs us:List V} {ps:List (V × V)} (n:Nat),ps=vs.zip us->ah K H xs vs->ah K H ys us->xs.length=ys.length->(∀j p,ps[j]? = some p->H (N+(n+j))=some (.tup [p.1,p.2])) ->
  ah K H (xs.zipWith (λa b=>D.tup [a,b]) ys) ((dZ ps.length).map λj=>V.ref (N+(n+j))):=by
 intro xs
 induction xs with
 | nil =>
  intro ys vs us ps n e r1 r2 hl _;cases r1;cases r2 with
  | nil=>subst e;exact .nil
  | cons _ _=>simp at hl
 | cons x xs ih =>
  intro ys vs us ps n e r1 r2 hl hh;cases r1 with
  | @cons _ v _ vs r1 t1 =>
   cases r2 with
   | nil=>simp at hl
   | @cons y u ys us r2 t2 =>
    subst e;have h0:=hh 0 (v,u) rfl;have ih:=ih (n:=n+1) (ps:=vs.zip us) rfl t1 t2 (by simpa using hl) λj p e=>by
     have:=hh (j+1) p (by simpa using e);rw[show n+1+j=n+(j+1) by lia];exact this
    simp only[nH,cG,yJ,aV,dN,qY];refine .cons (.tup h0 (.cons r1 (.cons r2 .nil))) ?_;have e2:((λj=>V.ref (N+(n+j))) ∘ Nat.succ)=λj=>V.ref (N+(n+1+j)):=by
     funext j;simp only[EJ,Nat.succ_eq_add_one];congr 2;lia
    rw[e2];exact ih
def boot_zip:bootBuiltins "zip" = some (.type "zip"):=by decide +kernel
structure z9 (h:Heap) (a:Addr) (its:List aD) (c:String) (P:Heap->Prop) (T:Addr->Nat->Heap->Prop):Prop where
 here:P h
 lt:a<h.objs.size
 stay:∀{h1 h2:Heap},P h1->(∀o,h1.get? a=some o->h2.get? a=some o)->P h2
 sub:∀{prog:cE} {w:dI} {I:Addr},a≠I->Sub prog w I a its (T I)
 start:∀{h1:Heap} {I:Addr},h1.get? I=some (xO c a)->P h1->T I 0 h1
def src_list (p:h.IsList a its.toArray):z9 h a its "list_iterator" (λh=>h.IsList a its.toArray) (λI k h=>h.IsListIter I a k/\h.IsList a its.toArray) :=
 ⟨p,by obtain⟨o,e,_⟩:=p;exact aW e,λq e=>q.at e,λne=>Px ne,λe q=>⟨⟨_,e,rfl,rfl⟩,q⟩⟩
def OC (p:h.IsTuple a its.toArray):z9 h a its "tuple_iterator" (λh=>h.IsTuple a its.toArray) (λI k h=>h.IsTupleIter I a k/\h.IsTuple a its.toArray) :=
 ⟨p,by obtain⟨o,e,_⟩:=p;exact aW e,λq e=>q.at e,λne=>Ub ne,λe q=>⟨⟨_,e,rfl,rfl⟩,q⟩⟩
section
variable {p pz pos h_:Pos}
theorem PH (X3:X.mg "list" = none) (yh:X.mg "zip" = none) (hc:X.calm=true) (ha:DB X a ta) (hb:DB X b tb) (W3:Gl X "list":=by rfl) (yc:Gl X "zip":=by rfl)
  (hs:starEach [.Call (.Name "zip" pz) [a,b] [] h_] X.env=[(false,eval (.Call (.Name "zip" pz) [a,b] [] h_) X.env)]:=by rfl) (hn:starEach [] X.env=[]:=by rfl) (h2:starEach [a,b] X.env=(false,eval a X.env)::starEach [b] X.env:=by rfl) (h1:starEach [b] X.env=[(false,eval b X.env)]:=by rfl) :
  DO X (.Call (.Name "list" p) [.Call (.Name "zip" pz) [a,b] [] h_] [] pos) (El ta tb):=by
 intro pins s σ H Q I bi;obtain⟨ρ,P,st,q,k⟩:=bi;refine iQ (wW I W3 X3 boot_list ?_);refine gJ ?_ (by rw[hs,hn]) (by rw[hn];rfl);rw[hs];show wpAny _ _ (spliced ((false,eval (.Call (.Name "zip" pz) [a,b] [] h_) X.env)::backTo pos [])) _ _ s;refine qF (iQ (wW I yc yh boot_zip ?_));refine gJ (c_ (zF ha (zF hb QR (by rw[h1,hn])) h2 h_ pins s σ H (λvs H1=>∃x y xs ys v u,vs=[v,u]/\ag H H1/\df X.K H1 x v/\df X.K H1 y u/\Kn x=some xs/\Kn y=some ys/\xs.length=ys.length/\P (xs.zipWith (λa b=>D.tup [a,b]) ys)) I
  ⟨ρ,_,st,q,λx v H1 hx s1 r1=>⟨ρ,_,st.ext s1,hx,λy u H2 hy s2 r2=>?_⟩⟩) λus s1 ⟨vs,H1,I1,r1,q1⟩=>?_) h2 (by rw[h1];rfl)
 ·obtain⟨xs,ys,e1,e2,e3,e4⟩:=hy;exact⟨x,y,xs,ys,v,u,rfl,s1.trans s2,r1.same s2,r2,e1,e2,e3,e4⟩
 obtain⟨x,y,xs,ys,v,u,rfl,o7,rx,ry,ex,ey,hl,hP⟩:=q1;obtain⟨w1,w2,rfl,rv,ru⟩:=vals2 r1;have src:∀{x:D} {xs:List D} {v:V} {u:aD},df X.K H1 x v->Kn x=some xs->RelV v u->∃(l:Addr) (vs:List V) (its:List aD),u = .ref l/\ah X.K H1 xs vs/\aq vs its/\vs.length<=sizeLine/\(s1.heap.IsList l its.toArray\/s1.heap.IsTuple l its.toArray):=λ{x xs v u} r e rv=>by
  cases x with
  | lst ds =>
   cases e;obtain⟨l,vs,rfl,hq,rr⟩:=r.lst;cases rv;obtain⟨its,mn,pl,hz⟩:=I1.list hq;exact⟨l,vs,its,rfl,rr,mn,hz,.inl pl.isList⟩
  | tup ds =>
   cases e;obtain⟨l,vs,rfl,hq,rr⟩:=r.tup;cases rv;obtain⟨its,mn,pl,hz⟩:=I1.tuple (fg.of hq);exact⟨l,vs,its,rfl,rr,mn,hz,.inr pl⟩
  | _=>cases e
 obtain⟨l,vs,its,rfl,rr1,rv1,oa,k1⟩:=src rx ex rv;obtain⟨m,us,ub,rfl,rr2,og,Z5,k2⟩:=src ry ey ru;have lv:vs.length=us.length:=by rw[<-rr1.length,<-rr2.length,hl]
 have li:=rv1.length;have lj:=og.length;have fin:∀{c d:String} {P1 P2:Heap->Prop} {T1 T2:Addr->Nat->Heap->Prop},Hw c d l m (λh=>P1 h/\P2 h)->z9 s1.heap l its c P1 T1->z9 s1.heap m ub d P2 T2 ->
   wpAny (model X.prog X.w) X.A (call (.type "zip") [.ref l,.ref m]) (λu s₁=>wpAny (model X.prog X.w) X.A (spliced (backTo pos [])) (λvs s₂=>wpAny (model X.prog X.w) X.A (call (.type "list") (u::vs)) (EP X pins σ Q) X.xe s₂) X.xe s₁) X.xe s1:=by
  intro c d P1 P2 T1 T2 Z S1 S2;refine Ib Z ⟨S1.here,S2.here⟩ λh' hz hI hO g1 g2 lq kp=>?_;have lt1:=S1.lt;have lt2:=S2.lt;have D:=Kw lt1 lt2;refine qU ?_;have p1:=S1.stay S1.here λo e=>kp l o e;have p2:=S2.stay S2.here λo e=>kp m o e;refine SM (A:=X.A) (I1.ok.hd hc) D (λ{_ _}=>S1.sub (bK lt1)) (λ{_ _}=>S2.sub (by simp only[Addr] at *;lia)) (by lia) (by lia) ⟨.inl hz,hI,⟨_,_,hO⟩,S1.start g1 p1,S2.start g2 p2⟩ λh2 acc cc ha hd hS=>?_;have Y4:(lV { s1 with heap:=h' }).objs.size=s1.heap.objs.size+5:=lq;rw[Y4] at hd hS ⊢;have Z_:∀b o,s1.heap.get? b=some o->h2.get? b=some o:=λb o e=>by
   have lb:=aW e;refine hd.kept b o ?_ ?_ ?_ ?_ ?_ (kp b o e) <;> (intro z;simp only[Addr] at *;lia)
  have I2:Inv X pins σ H1 { s1 with heap:=h2 }:=I1.kept (t':=s1.toks) Z_;have free:∀x,s1.heap.objs.size+5+1<=x->H1 x=none:=λx hx=>I1.hok.fresh (by lia);have I3:=I1.lays (s':={ s1 with heap:=h2 }) (vs.zip us) (its.zip ub) H1 (s1.heap.objs.size+5+1) I2 (by lia) free (by simp;lia) λj pp uu e1 e2=>by
   have s_:=lP.mp e1;have n8:=lP.mp e2;obtain⟨w1,f1,f2⟩:=rv1.get s_.1;obtain⟨w2,f3,f4⟩:=og.get s_.2;rw[n8.1] at f1;rw[n8.2] at f3;cases f1;cases f3;refine⟨f2,f4,hd.got j ?_ _ _ n8.1 n8.2⟩;have:=(bI.mp n8.1).1;simp;lia
  obtain⟨sm,fr,ri⟩:=QC (vs.zip us) H1 (s1.heap.objs.size+5+1) free;generalize hH:MB H1 (s1.heap.objs.size+5+1) (vs.zip us)=H3 at I3 sm fr ri;have t4:H3 (s1.heap.objs.size+5)=none:=by
   rw[<-hH];have:∀(ps:List (V × V)) (G:Hp) (M:Nat),s1.heap.objs.size+5<M->MB G M ps (s1.heap.objs.size+5)=G (s1.heap.objs.size+5):=λps=>by
    induction ps with
    | nil=>intro G M _;rfl
    | cons p ps ih=>intro G M hM;rw[MB,ih _ _ (by lia),cX (bK hM)]
   rw[this _ _ _ (by lia)];exact I1.hok.fresh (by lia)
  have T9:acc.toList=(dZ (vs.zip us).length).map λj=>fX (s1.heap.objs.size+5+1+(0+j)):=by
   apply vV;intro j;have hla:acc.toList.length=vs.length:=(by simp;lia);by_cases hj:j<vs.length
   ·rw[hd.refs j (by lia),bZ,tK (by simp;lia)];simp
   ·rw[iZ (by lia),iZ (by simp;lia)]
  have RR:=Uq (N:=s1.heap.objs.size+5+1) 0 rfl (rr1.keep (.of sm)) (rr2.keep (.of sm)) hl λj pp e=>by
   have:=ri j pp e;rw[tZ];exact this
  have VV:aq ((dZ (vs.zip us).length).map λj=>V.ref (s1.heap.objs.size+5+1+(0+j))) acc.toList:=by
   rw[T9];generalize dZ (vs.zip us).length=rs
   induction rs with
   | nil=>exact .nil
   | cons r rs ih=>exact .cons rfl ih
  have I4:=I1.trackO (a:=s1.heap.objs.size+5) (w:=.lst ((dZ (vs.zip us).length).map λj=>V.ref (s1.heap.objs.size+5+1+(0+j)))) I3 (by lia) t4 ⟨by simp;lia,acc.toList,cc,VV,by simpa using hS⟩;exact⟨.ref (s1.heap.objs.size+5),_,I4,rfl,k _ _ _ H3 hP (o7.trans sm) t4 RR⟩
 rcases k1 with k1 | k1 <;> rcases k2 with k2 | k2
 ·exact fin (Ut l m its.toArray ub.toArray) (src_list k1) (src_list k2)
 ·exact fin (Uu l m its.toArray ub.toArray) (src_list k1) (OC k2)
 ·exact fin (Uv l m its.toArray ub.toArray) (OC k1) (src_list k2)
 ·exact fin (Uw l m its.toArray ub.toArray) (OC k1) (OC k2)
end
section
variable {a b:Expr} {ta tb:RE}
def E7 (ta tb:RE):RA:=λρ Q=>ta ρ λx=>tb ρ λy=>match x,y with
 | .lst xs,.lst ys=>Q (xs.zipWith (λa b=>D.tup [a,b]) ys)
 | _,_=>False
end
section
variable {prog:cE} {w:dI} {A:dJ} {E:aD->aG->Prop} {s:aG}
theorem Jl {I l S:Addr} {items:Array aD} {bt:Nat->Nat->Bool} {G:Heap->Prop} {R:Result->aG->Prop} {os0:aG} (hh:A.handled=none) (hl:l≠I) (qw:S≠I) (xz:S≠l)
  (cmp:∀(i j:Nat) (u v:aD) (s:aG) (Q:aD->aG->Prop) (E:aD->aG->Prop),items[i]? = some u->items[j]? = some v->G s.heap->Q (.bool (bt i j)) s->wpAny (model prog w) A.in1 (richCompare .Lt u v) Q E s)
  (gs:∀h h',G h->(∀b o,b≠I->b≠S->h.get? b=some o->h'.get? b=some o)->G h') :
  ∀(k j:Nat) (s:aG) (vb:aD) (c:Nat),items.size-(j+1)=k->j+1<=items.size->s.heap.IsListIter I l (j+1)->s.heap.IsList l items->items[argBest bt j]? = some vb->G s.heap ->
   s.heap.get? S=some { cls:=.type "list",dict:=none,data:=.seq #[vb,vb] c,slots:=#[] } ->
   (∀v h' tk,items[argBest bt (items.size-1)]? = some v->(∀b o,b≠I->b≠S->s.heap.get? b=some o->h'.get? b=some o)->R (.ok (.ret v)) { s with heap:=h',toks:=tk }) ->
   codeAny (model prog w) A (.builtin "min.loop" ⟨[.ref I,.none,.ref S],[]⟩) R s:=by
 have nm:(toString "min" ++ toString ".loop":String) = "min.loop":=by decide
 have W:=OR (prog:=prog) (w:=w) (A:=A.in1) hh I l hl items;have wr:∀{b:Addr},b≠I->b ∉ [I]:=λh=>by simpa using h
 intro k
 induction k with
 | zero =>
  intro j s vb c hk hj hi hL hb hG hS q;refine gC F.entry_min_loop ?_;rw[eY F.plain_min_loop _];show wpAny _ A.in1 (seqItems? (.ref S) >>= _) _ _ s;apply aA;apply eW hS rfl;show wpAny _ A.in1 (tryCatch (pyNext (.ref I)) _ >>= _) _ _ s;apply aA;apply lI;refine W.done s _ _ (by rw[show items.size=j+1 by lia];exact⟨hi,hL⟩) λh' tk kp=>?_;have i8:=kp S _ (wr qw) hS;show wpAny _ A.in1 (updateSeq S (λ_=>#[]) >>= _) _ _ _;apply aA;refine gD i8 rfl ?_;apply aA;apply jO;apply aK;exact q vb _ tk (by rw[show items.size-1=j by lia];exact hb) λb o b1 b2 e=>(cQ _ _ (Ne.symm b2)).trans (kp b o (wr b1) e)
 | succ k ih =>
  intro j s vb c hk hj hi hL hb hG hS q;refine gC F.entry_min_loop ?_;rw[eY F.plain_min_loop _];show wpAny _ A.in1 (seqItems? (.ref S) >>= _) _ _ s;apply aA;apply eW hS rfl;show wpAny _ A.in1 (tryCatch (pyNext (.ref I)) _ >>= _) _ _ s;apply aA;apply lI;refine W.item (j+1) s _ _ (by lia) ⟨hi,hL⟩ λv h' tk hv e_ kp=>?_;have i8:=kp S _ (wr qw) hS;have u5:G h':=gs _ _ hG λb o b1 _ e=>kp b o (wr b1) e;show wpAny _ A.in1 (tryCatch (holding [v,v] (richCompare .Lt v vb >>= _)) _ >>= _) _ _ _;apply aA;apply lI;apply fU;apply aA;refine cmp (j+1) (argBest bt j) v vb _ _ _ hv hb u5 ?_;apply aA;apply fU;apply mE;apply aA;apply jO;apply aK;cases x9:bt (j+1) (argBest bt j) with
  | true =>
   simp only[if_true];apply aA;refine gD i8 rfl ?_;apply aA;apply jO;rw[nm];apply aK;have up:∀b o,b≠S->h'.get? b=some o->(h'.update S (dH λ_=>#[v,v])).get? b=some o:=λb o b2 e=>(cQ _ _ (Ne.symm b2)).trans e;refine⟨gT F.plain_min_loop _,ih (j+1) _ v _ (by lia) (by lia) (e_.1.at λo e=>up _ o qw.symm e) (e_.2.at λo e=>up _ o xz.symm e) (by simp only[argBest,x9,if_true];exact hv) (gs _ _ u5 λb o _ b2 e=>up b o b2 e) (eD _ i8 rfl) λv' qb j_ e kk=>?_⟩;exact q v' qb j_ e λb o b1 b2 e=>kk b o b1 b2 (up b o b2 (kp b o (wr b1) e))
  | false =>
   simp only[aN,if_false];apply aA;apply jO;rw[nm];apply aK;refine⟨gT F.plain_min_loop _,ih (j+1) _ vb c (by lia) (by lia) e_.1 e_.2 (by simp only[argBest,x9,aN,if_false];exact hb) u5 i8 λv' qb j_ e kk=>?_⟩;exact q v' qb j_ e λb o b1 b2 e=>kk b o b1 b2 (kp b o (wr b1) e)
theorem Hz {l:Addr} {items:Array aD} {bt:Nat->Nat->Bool} {G:Heap->Prop} {Q:aD->aG->Prop} (hh:A.handled=none) (hL:s.heap.IsList l items) (gm:0<items.size)
  (cmp:∀(i j:Nat) (u v:aD) (s:aG) (Q:aD->aG->Prop) (E:aD->aG->Prop),items[i]? = some u->items[j]? = some v->G s.heap->Q (.bool (bt i j)) s->wpAny (model prog w) A.in1 (richCompare .Lt u v) Q E s)
  (gs:∀h',(∀b o,s.heap.get? b=some o->h'.get? b=some o)->G h') (q:∀v h' tk,items[argBest bt (items.size-1)]? = some v->(∀b o,s.heap.get? b=some o->h'.get? b=some o)->Q v { s with heap:=h',toks:=tk }) :
  wpAny (model prog w) A (call (.builtin "min") [.ref l]) Q E s:=by
 have nm:(toString "min" ++ toString ".loop":String) = "min.loop":=by decide
 have lt:l<s.heap.objs.size:=by obtain⟨_,e,_⟩:=hL;exact aW e
 refine GG F.kind_min F.plain_min F.entry_min (F.args_min1 _) ?_;show wpAny _ A.in1 (kW "min" ["key","default"] 0 ⟨[],[]⟩ >>= _) _ _ s;apply aA;refine pA (show kW "min" ["key","default"] 0 ⟨[],[]⟩=pure [none,none] from rfl) ?_;apply aA;apply aK;apply aA;refine kH hL ?_;apply aA;refine fM ?_;rw[nm];apply aK;have sz1:(s.heap.push (xO "list_iterator" l)).objs.size=s.heap.objs.size+1:=gO ..;generalize hp:s.heap.push (xO "list_iterator" l)=h1 at sz1;have hI:h1.IsListIter s.heap.objs.size l 0:=by rw[<-hp];exact⟨_,bR _ rfl,rfl,rfl⟩
 have k1:∀b o,s.heap.get? b=some o->h1.get? b=some o:=λb o e=>by rw[<-hp];exact aR _ e
 refine⟨gT F.plain_min_loop _,?_⟩;show codeAny _ A (.builtin "min.loop" ⟨[.ref s.heap.objs.size,.none,.ref h1.objs.size],[]⟩) _ { s with heap:=h1.push { cls:=.type "list",dict:=none,data:=.seq ([]:List aD).toArray } };rw[sz1];have hS:(h1.push { cls:=.type "list",dict:=none,data:=.seq ([]:List aD).toArray }).get? (s.heap.objs.size+1)=some { cls:=.type "list",dict:=none,data:=.seq #[] 0,slots:=#[] }:=by rw[<-sz1];exact bR _ rfl
 have k2:∀b o,h1.get? b=some o->(h1.push { cls:=.type "list",dict:=none,data:=.seq ([]:List aD).toArray }).get? b=some o:=λb o e=>aR _ e;generalize h1.push { cls:=.type "list",dict:=none,data:=.seq ([]:List aD).toArray } = h2 at hS k2;have j7:∀{b:Addr} {o:Obj},s.heap.get? b=some o->b≠s.heap.objs.size/\b≠s.heap.objs.size+1:=λe=>⟨bK (aW e),bK (gS (aW e))⟩;have W:=OR (prog:=prog) (w:=w) (A:=A.in1) hh s.heap.objs.size l (bK lt) items;refine gC F.entry_min_loop ?_;rw[eY F.plain_min_loop _];show wpAny _ A.in1 (seqItems? (.ref (s.heap.objs.size+1)) >>= _) _ _ _;apply aA;apply eW hS rfl;show wpAny _ A.in1 (tryCatch (pyNext (.ref s.heap.objs.size)) _ >>= _) _ _ _;have wg:h2.IsList l items:=hL.at λo e=>k2 _ o (k1 _ o e);apply aA;apply lI;refine W.item 0 _ _ _ gm ⟨hI.at λo e=>k2 _ o e,wg⟩ λv h' tk hv e_ kp=>?_;have wr:∀{b:Addr},b≠s.heap.objs.size->b ∉ [s.heap.objs.size]:=λh=>by simpa using h
 have i8:=kp (s.heap.objs.size+1) _ (wr (pH _)) hS;show wpAny _ A.in1 (updateSeq (s.heap.objs.size+1) (λ_=>#[v,v]) >>= _) _ _ _;apply aA;refine gD i8 rfl ?_;rw[nm];apply aK;have up:∀b o,b≠s.heap.objs.size+1->h'.get? b=some o->(h'.update (s.heap.objs.size+1) (dH λ_=>#[v,v])).get? b=some o:=λb o b2 e=>(cQ _ _ (Ne.symm b2)).trans e;have old:∀b o,s.heap.get? b=some o->(h'.update (s.heap.objs.size+1) (dH λ_=>#[v,v])).get? b=some o:=λb o e=>up b o (j7 e).2 (kp b o (wr (j7 e).1) (k2 b o (k1 b o e)));have u6:=eD (dH λ_=>#[v,v]) i8 rfl;refine⟨gT F.plain_min_loop _,?_⟩;refine Jl (A:=A) (G:=λh=>∀b o,s.heap.get? b=some o->h.get? b=some o) (bt:=bt) (items:=items) (I:=s.heap.objs.size) (l:=l) (S:=s.heap.objs.size+1) (os0:=s) hh (bK lt) (pH _) (eK (gS lt)) (λi j u v s' Q' E' e1 e2 g c=>cmp i j u v s' Q' E' e1 e2 (gs _ g) c)
  (λh3 h4 g kk b o e=>kk b o (j7 e).1 (j7 e).2 (g b o e)) (items.size-1) 0 _ v _ (by lia) (by lia) (e_.1.at λo e=>up _ o (bK (mS _)) e) (e_.2.at λo e=>up _ o (bK (gS lt)) e) (by simpa [argBest] using hv) old u6 λv' qb j_ e kk=>?_
 exact q v' qb j_ e λb o e=>kk b o (j7 e).1 (j7 e).2 (old b o e)
theorem Dp {I l S:Addr} {items:Array aD} {bt:Nat->Nat->Bool} {G:Heap->Prop} {R:Result->aG->Prop} {os0:aG} (hh:A.handled=none) (hl:l≠I) (qw:S≠I) (xz:S≠l)
  (cmp:∀(i j:Nat) (u v:aD) (s:aG) (Q:aD->aG->Prop) (E:aD->aG->Prop),items[i]? = some u->items[j]? = some v->G s.heap->Q (.bool (bt i j)) s->wpAny (model prog w) A.in1 (richCompare .Lt u v) Q E s)
  (gs:∀h h',G h->(∀b o,b≠I->b≠S->h.get? b=some o->h'.get? b=some o)->G h') :
  ∀(k j:Nat) (s:aG) (vb:aD) (c:Nat),items.size-(j+1)=k->j+1<=items.size->s.heap.IsTupleIter I l (j+1)->s.heap.IsTuple l items->items[argBest bt j]? = some vb->G s.heap ->
   s.heap.get? S=some { cls:=.type "list",dict:=none,data:=.seq #[vb,vb] c,slots:=#[] } ->
   (∀v h' tk,items[argBest bt (items.size-1)]? = some v->(∀b o,b≠I->b≠S->s.heap.get? b=some o->h'.get? b=some o)->R (.ok (.ret v)) { s with heap:=h',toks:=tk }) ->
   codeAny (model prog w) A (.builtin "min.loop" ⟨[.ref I,.none,.ref S],[]⟩) R s:=by
 have nm:(toString "min" ++ toString ".loop":String) = "min.loop":=by decide
 have W:=Walks.tuple (prog:=prog) (w:=w) (A:=A.in1) hh I l hl items;have wr:∀{b:Addr},b≠I->b ∉ [I]:=λh=>by simpa using h
 intro k
 induction k with
 | zero =>
  intro j s vb c hk hj hi hL hb hG hS q;refine gC F.entry_min_loop ?_;rw[eY F.plain_min_loop _];show wpAny _ A.in1 (seqItems? (.ref S) >>= _) _ _ s;apply aA;apply eW hS rfl;show wpAny _ A.in1 (tryCatch (pyNext (.ref I)) _ >>= _) _ _ s;apply aA;apply lI;refine W.done s _ _ (by rw[show items.size=j+1 by lia];exact⟨hi,hL⟩) λh' tk kp=>?_;have i8:=kp S _ (wr qw) hS;show wpAny _ A.in1 (updateSeq S (λ_=>#[]) >>= _) _ _ _;apply aA;refine gD i8 rfl ?_;apply aA;apply jO;apply aK;exact q vb _ tk (by rw[show items.size-1=j by lia];exact hb) λb o b1 b2 e=>(cQ _ _ (Ne.symm b2)).trans (kp b o (wr b1) e)
 | succ k ih =>
  intro j s vb c hk hj hi hL hb hG hS q;refine gC F.entry_min_loop ?_;rw[eY F.plain_min_loop _];show wpAny _ A.in1 (seqItems? (.ref S) >>= _) _ _ s;apply aA;apply eW hS rfl;show wpAny _ A.in1 (tryCatch (pyNext (.ref I)) _ >>= _) _ _ s;apply aA;apply lI;refine W.item (j+1) s _ _ (by lia) ⟨hi,hL⟩ λv h' tk hv e_ kp=>?_;have i8:=kp S _ (wr qw) hS;have u5:G h':=gs _ _ hG λb o b1 _ e=>kp b o (wr b1) e;show wpAny _ A.in1 (tryCatch (holding [v,v] (richCompare .Lt v vb >>= _)) _ >>= _) _ _ _;apply aA;apply lI;apply fU;apply aA;refine cmp (j+1) (argBest bt j) v vb _ _ _ hv hb u5 ?_;apply aA;apply fU;apply mE;apply aA;apply jO;apply aK;cases x9:bt (j+1) (argBest bt j) with
  | true =>
   simp only[if_true];apply aA;refine gD i8 rfl ?_;apply aA;apply jO;rw[nm];apply aK;have up:∀b o,b≠S->h'.get? b=some o->(h'.update S (dH λ_=>#[v,v])).get? b=some o:=λb o b2 e=>(cQ _ _ (Ne.symm b2)).trans e;refine⟨gT F.plain_min_loop _,ih (j+1) _ v _ (by lia) (by lia) (e_.1.at λo e=>up _ o qw.symm e) (e_.2.at λo e=>up _ o xz.symm e) (by simp only[argBest,x9,if_true];exact hv) (gs _ _ u5 λb o _ b2 e=>up b o b2 e) (eD _ i8 rfl) λv' qb j_ e kk=>?_⟩;exact q v' qb j_ e λb o b1 b2 e=>kk b o b1 b2 (up b o b2 (kp b o (wr b1) e))
  | false =>
   simp only[aN,if_false];apply aA;apply jO;rw[nm];apply aK;refine⟨gT F.plain_min_loop _,ih (j+1) _ vb c (by lia) (by lia) e_.1 e_.2 (by simp only[argBest,x9,aN,if_false];exact hb) u5 i8 λv' qb j_ e kk=>?_⟩;exact q v' qb j_ e λb o b1 b2 e=>kk b o b1 b2 (kp b o (wr b1) e)
theorem Ch {l:Addr} {items:Array aD} {bt:Nat->Nat->Bool} {G:Heap->Prop} {Q:aD->aG->Prop} (hh:A.handled=none) (hL:s.heap.IsTuple l items) (gm:0<items.size)
  (cmp:∀(i j:Nat) (u v:aD) (s:aG) (Q:aD->aG->Prop) (E:aD->aG->Prop),items[i]? = some u->items[j]? = some v->G s.heap->Q (.bool (bt i j)) s->wpAny (model prog w) A.in1 (richCompare .Lt u v) Q E s)
  (gs:∀h',(∀b o,s.heap.get? b=some o->h'.get? b=some o)->G h') (q:∀v h' tk,items[argBest bt (items.size-1)]? = some v->(∀b o,s.heap.get? b=some o->h'.get? b=some o)->Q v { s with heap:=h',toks:=tk }) :
  wpAny (model prog w) A (call (.builtin "min") [.ref l]) Q E s:=by
 have nm:(toString "min" ++ toString ".loop":String) = "min.loop":=by decide
 have lt:l<s.heap.objs.size:=by obtain⟨_,e,_⟩:=hL;exact aW e
 refine GG F.kind_min F.plain_min F.entry_min (F.args_min1 _) ?_;show wpAny _ A.in1 (kW "min" ["key","default"] 0 ⟨[],[]⟩ >>= _) _ _ s;apply aA;refine pA (show kW "min" ["key","default"] 0 ⟨[],[]⟩=pure [none,none] from rfl) ?_;apply aA;apply aK;apply aA;refine lH hL ?_;apply aA;refine fM ?_;rw[nm];apply aK;have sz1:(s.heap.push (xO "tuple_iterator" l)).objs.size=s.heap.objs.size+1:=gO ..;generalize hp:s.heap.push (xO "tuple_iterator" l)=h1 at sz1;have hI:h1.IsTupleIter s.heap.objs.size l 0:=by rw[<-hp];exact⟨_,bR _ rfl,rfl,rfl⟩
 have k1:∀b o,s.heap.get? b=some o->h1.get? b=some o:=λb o e=>by rw[<-hp];exact aR _ e
 refine⟨gT F.plain_min_loop _,?_⟩;show codeAny _ A (.builtin "min.loop" ⟨[.ref s.heap.objs.size,.none,.ref h1.objs.size],[]⟩) _ { s with heap:=h1.push { cls:=.type "list",dict:=none,data:=.seq ([]:List aD).toArray } };rw[sz1];have hS:(h1.push { cls:=.type "list",dict:=none,data:=.seq ([]:List aD).toArray }).get? (s.heap.objs.size+1)=some { cls:=.type "list",dict:=none,data:=.seq #[] 0,slots:=#[] }:=by rw[<-sz1];exact bR _ rfl
 have k2:∀b o,h1.get? b=some o->(h1.push { cls:=.type "list",dict:=none,data:=.seq ([]:List aD).toArray }).get? b=some o:=λb o e=>aR _ e;generalize h1.push { cls:=.type "list",dict:=none,data:=.seq ([]:List aD).toArray } = h2 at hS k2;have j7:∀{b:Addr} {o:Obj},s.heap.get? b=some o->b≠s.heap.objs.size/\b≠s.heap.objs.size+1:=λe=>⟨bK (aW e),bK (gS (aW e))⟩;have W:=Walks.tuple (prog:=prog) (w:=w) (A:=A.in1) hh s.heap.objs.size l (bK lt) items;refine gC F.entry_min_loop ?_;rw[eY F.plain_min_loop _];show wpAny _ A.in1 (seqItems? (.ref (s.heap.objs.size+1)) >>= _) _ _ _;apply aA;apply eW hS rfl;show wpAny _ A.in1 (tryCatch (pyNext (.ref s.heap.objs.size)) _ >>= _) _ _ _;have wg:h2.IsTuple l items:=hL.at λo e=>k2 _ o (k1 _ o e);apply aA;apply lI;refine W.item 0 _ _ _ gm ⟨hI.at λo e=>k2 _ o e,wg⟩ λv h' tk hv e_ kp=>?_;have wr:∀{b:Addr},b≠s.heap.objs.size->b ∉ [s.heap.objs.size]:=λh=>by simpa using h
 have i8:=kp (s.heap.objs.size+1) _ (wr (pH _)) hS;show wpAny _ A.in1 (updateSeq (s.heap.objs.size+1) (λ_=>#[v,v]) >>= _) _ _ _;apply aA;refine gD i8 rfl ?_;rw[nm];apply aK;have up:∀b o,b≠s.heap.objs.size+1->h'.get? b=some o->(h'.update (s.heap.objs.size+1) (dH λ_=>#[v,v])).get? b=some o:=λb o b2 e=>(cQ _ _ (Ne.symm b2)).trans e;have old:∀b o,s.heap.get? b=some o->(h'.update (s.heap.objs.size+1) (dH λ_=>#[v,v])).get? b=some o:=λb o e=>up b o (j7 e).2 (kp b o (wr (j7 e).1) (k2 b o (k1 b o e)));have u6:=eD (dH λ_=>#[v,v]) i8 rfl;refine⟨gT F.plain_min_loop _,?_⟩;refine Dp (A:=A) (G:=λh=>∀b o,s.heap.get? b=some o->h.get? b=some o) (bt:=bt) (items:=items) (I:=s.heap.objs.size) (l:=l) (S:=s.heap.objs.size+1) (os0:=s) hh (bK lt) (pH _) (eK (gS lt)) (λi j u v s' Q' E' e1 e2 g c=>cmp i j u v s' Q' E' e1 e2 (gs _ g) c)
  (λh3 h4 g kk b o e=>kk b o (j7 e).1 (j7 e).2 (g b o e)) (items.size-1) 0 _ v _ (by lia) (by lia) (e_.1.at λo e=>up _ o (bK (mS _)) e) (e_.2.at λo e=>up _ o (bK (gS lt)) e) (by simpa [argBest] using hv) old u6 λv' qb j_ e kk=>?_
 exact q v' qb j_ e λb o e=>kk b o (j7 e).1 (j7 e).2 (old b o e)
end
abbrev oC (ns:List Int):D:=.tup (ns.map .int)
theorem BW:∀{a b c:List Int},HT.lexLt a b=true->HT.lexLt b c=true->HT.lexLt a c=true
 | [],[],_,h,_=>by cases h
 | [],_::_,[],_,h=>by cases h
 | [],_::_,_::_,_,_=>rfl
 | _::_,[],_,h,_=>by cases h
 | _::_,_::_,[],_,h=>by cases h
 | x::xs,y::ys,z::zs,h1,h2=>by
  rw[HT.lexLt_cons] at *;by_cases e1:x=y
  ·subst e1;rw[if_pos rfl] at h1;by_cases e2:x=z
   ·rw[if_pos e2] at h2 ⊢;exact BW h1 h2
   ·rw[if_neg e2] at h2 ⊢;exact h2
  ·rw[if_neg e1] at h1;by_cases e2:y=z
   ·subst e2;rw[if_neg e1];exact h1
   ·rw[if_neg e2] at h2;simp only[decide_eq_true_eq] at h1 h2;rw[if_neg (by lia)];simp only[decide_eq_true_eq];lia
theorem KR:∀(a:List Int),HT.lexLt a a=false
 | []=>rfl
 | x::xs=>by rw[HT.lexLt_cons,if_pos rfl];exact KR xs
theorem BK (tr:∀i j k,bt i j=true->bt j k=true->bt i k=true) (ir:∀i,bt i i=false):∀k,argBest bt k<=k/\∀j,j<=k->bt j (argBest bt k)=false
 | 0=>⟨bU _,λj hj=>by rw[Nat.le_zero.mp hj];exact ir 0⟩
 | k+1=>by
  obtain⟨h1,h2⟩:=BK tr ir k;cases hb:bt (k+1) (argBest bt k) with
  | true =>
   simp only[argBest,hb,if_true];refine⟨bU _,λj hj=>?_⟩;by_cases e:j=k+1
   ·subst e;exact ir _
   ·cases hc:bt j (k+1) with
    | false=>rfl
    | true =>
     have:=tr j (k+1) _ hc hb;rw[h2 j (by lia)] at this;cases this
  | false =>
   simp only[argBest,hb,aN,if_false];refine⟨by lia,λj hj=>?_⟩;by_cases e:j=k+1
   ·subst e;exact hb
   ·exact h2 j (by lia)
theorem ah.tupI_inv {K:aI} {H:Hp} {ns:List Int} {v:V} (r:c7 K H (oC ns) v):∃a,v = .ref a/\H a=some (.tup (ns.map V.int)):=by
 cases r with
 | tup h rr=>rw[rr.ints_inv] at h;exact⟨_,rfl,h⟩
section
variable {X:Cx} {e a b:Expr} {te ta tb:RE} {p pos:Pos}
def Rg:R22:=λx y Q=>∃ns ms:List Int,x=oC ns/\y=oC ms/\Q (.bl (HT.lexLt ns ms))
theorem Of (hr:ck k X.A):jn X (compareOp .Lt) Rg:=by
 intro pins s σ H x y v u Q I rx ry bi;obtain⟨d,e,P,r1,r2,q,kk⟩:=bi;obtain⟨ns,ms,e1,e2,q⟩:=q;subst e1 e2;obtain⟨a,vs,rfl,h1,t1⟩:=r1.tup;obtain⟨b,us,rfl,h2,t2⟩:=r2.tup;rw[t1.ints_inv] at h1;rw[t2.ints_inv] at h2;exact Xt (X:=X) (by have:=hr.un;lia) pins s σ H _ _ v u Q I rx ry ⟨a,b,ns,ms,rfl,rfl,fg.of h1,fg.of h2,kk _ _ H q (ag.refl H) (.bl _)⟩
def Fz:D->(D->Prop)->Prop:=λd Q=>match d with
 | .lst ds=>∃nss:List (List Int),ds=nss.map oC/\nss≠[]/\∀M,M∈nss->(∀x∈nss,HT.lexLt x M=false)->Q (oC M)
 | .tup ds=>∃nss:List (List Int),ds=nss.map oC/\nss≠[]/\∀M,M∈nss->(∀x∈nss,HT.lexLt x M=false)->Q (oC M)
 | _=>False
theorem Gb {k:Nat} (hr:ck k X.A) (hm:X.mg "min" = none) (hc:X.calm=true) (h:DB X e te) (hg:Gl X "min":=by rfl) (hs:starEach [e] X.env=[(false,eval e X.env)]:=by rfl) (hn:starEach [] X.env=[]:=by rfl) :
  DE X (.Call (.Name "min" p) [e] [] pos) (r1 Fz te):=by
 have call:zM X (.builtin "min") (λxs H Q=>∃(d:D) (v:V) (P:D->Prop),xs=[v]/\df X.K H d v/\Fz d P/\∀z w,P z->c7 X.K H z w->Q w H):=by
  intro pins s σ H xs us Q I rs hq;obtain⟨d,v,P,rfl,rb,hd,kk⟩:=hq;cases d with
  | lst ds =>
   obtain⟨nss,rfl,gm,hd⟩:=hd;obtain⟨l,vs,rfl,hq,rr⟩:=rb.lst;obtain⟨u,rfl,rx⟩:=vals1 rs;cases rx;obtain⟨its,rv,pl,hz⟩:=I.list hq;have l1:=rr.length;have l2:=rv.length;have dz:0<nss.length:=kP.mpr gm;rw[cN] at l1;have each:∀(i:Nat) (u:aD),its[i]? = some u->∃ns a ts,nss[i]? = some ns/\vs[i]? = some (.ref a)/\u = .ref a/\aq (ns.map V.int) ts/\IsTup s.heap a ts.toArray:=λi u e=>by
    have hi:i<nss.length:=(by have:=(bI.mp e).1;lia);obtain⟨v,e1,e2⟩:=rr.get (i:=i) (d:=oC nss[i]) (by rw[bZ,aE hi];rfl);obtain⟨a,rfl,ha⟩:=ah.tupI_inv e2;obtain⟨u',f1,f2⟩:=rv.get e1;rw[e] at f1;cases f1;cases f2;obtain⟨ts,g1,g2,_⟩:=I.tuple (fg.of (K:=X.K) ha);exact⟨_,a,ts,aE hi,e1,rfl,g1,g2⟩
   refine Hz (bt:=λi j=>HT.lexLt (nss.getD i []) (nss.getD j [])) (G:=λh=>∀b o,s.heap.get? b=some o->h.get? b=some o) (I.ok.hd hc) pl.isList (by simp;lia) (λi j u v s' Q' E' e1 e2 g c=>?_) (λh' g=>g) λv h' tk ev kp=>?_
   ·obtain⟨ns,a,ts,n1,_,rfl,g1,g2⟩:=each i u (by simpa using e1);obtain⟨ms,b,us,n2,_,rfl,g3,g4⟩:=each j v (by simpa using e2);have q1:nss.getD i []=ns:=(by rw[dW,n1];rfl);have q2:nss.getD j []=ms:=(by rw[dW,n2];rfl);rw[q1,q2] at c;have hu:=hr.un;have ka:∀{a:Addr} {xs:Array aD},IsTup s.heap a xs->IsTup s'.heap a xs:=λ⟨o,e,r⟩=>⟨o,g _ o e,r⟩;refine HT.lt_tupInts (A:=X.A.in1) (ka g2) (ka g4) (intsAre_of g1) (intsAre_of g3) (by show X.A.units+1<cLine;lia) c
   ·obtain⟨b1,b2⟩:=BK (bt:=λi j=>HT.lexLt (nss.getD i []) (nss.getD j [])) (λ_ _ _=>BW) (λ_=>KR _) (its.toArray.size-1);generalize argBest (λi j=>HT.lexLt (nss.getD i []) (nss.getD j [])) (its.toArray.size-1)=m at b1 b2 ev;obtain⟨ns,a,ts,n1,n2,rfl,g1,g2⟩:=each m v (by simpa using ev);have hm:m<nss.length:=(bI.mp n1).1;refine⟨.ref a,H,I.kept kp,rfl,kk _ _ (hd ns (eS n1) λx hx=>?_) ?_⟩
    ·obtain⟨j,hj,rfl⟩:=dS hx;have:=b2 j (by simp;lia);have q1:nss.getD j []=nss[j]:=(by rw[dW,aE hj];rfl);have q2:nss.getD m []=ns:=(by rw[dW,n1];rfl);rw[q1,q2] at this;exact this
    ·obtain⟨w,f1,f2⟩:=rr.get (i:=m) (d:=oC ns) (by rw[bZ,n1];rfl);rw[n2] at f1;cases f1;exact f2
  | tup ds =>
   obtain⟨nss,rfl,gm,hd⟩:=hd;obtain⟨l,vs,rfl,hq,rr⟩:=rb.tup;obtain⟨u,rfl,rx⟩:=vals1 rs;cases rx;obtain⟨its,rv,pl,hz⟩:=I.tuple (fg.of (K:=X.K) hq);have l1:=rr.length;have l2:=rv.length;have dz:0<nss.length:=kP.mpr gm;rw[cN] at l1;have each:∀(i:Nat) (u:aD),its[i]? = some u->∃ns a ts,nss[i]? = some ns/\vs[i]? = some (.ref a)/\u = .ref a/\aq (ns.map V.int) ts/\IsTup s.heap a ts.toArray:=λi u e=>by
    have hi:i<nss.length:=(by have:=(bI.mp e).1;lia);obtain⟨v,e1,e2⟩:=rr.get (i:=i) (d:=oC nss[i]) (by rw[bZ,aE hi];rfl);obtain⟨a,rfl,ha⟩:=ah.tupI_inv e2;obtain⟨u',f1,f2⟩:=rv.get e1;rw[e] at f1;cases f1;cases f2;obtain⟨ts,g1,g2,_⟩:=I.tuple (fg.of (K:=X.K) ha);exact⟨_,a,ts,aE hi,e1,rfl,g1,g2⟩
   refine Ch (bt:=λi j=>HT.lexLt (nss.getD i []) (nss.getD j [])) (G:=λh=>∀b o,s.heap.get? b=some o->h.get? b=some o) (I.ok.hd hc) pl (by simp;lia) (λi j u v s' Q' E' e1 e2 g c=>?_) (λh' g=>g) λv h' tk ev kp=>?_
   ·obtain⟨ns,a,ts,n1,_,rfl,g1,g2⟩:=each i u (by simpa using e1);obtain⟨ms,b,us,n2,_,rfl,g3,g4⟩:=each j v (by simpa using e2);have q1:nss.getD i []=ns:=(by rw[dW,n1];rfl);have q2:nss.getD j []=ms:=(by rw[dW,n2];rfl);rw[q1,q2] at c;have hu:=hr.un;have ka:∀{a:Addr} {xs:Array aD},IsTup s.heap a xs->IsTup s'.heap a xs:=λ⟨o,e,r⟩=>⟨o,g _ o e,r⟩;refine HT.lt_tupInts (A:=X.A.in1) (ka g2) (ka g4) (intsAre_of g1) (intsAre_of g3) (by show X.A.units+1<cLine;lia) c
   ·obtain⟨b1,b2⟩:=BK (bt:=λi j=>HT.lexLt (nss.getD i []) (nss.getD j [])) (λ_ _ _=>BW) (λ_=>KR _) (its.toArray.size-1);generalize argBest (λi j=>HT.lexLt (nss.getD i []) (nss.getD j [])) (its.toArray.size-1)=m at b1 b2 ev;obtain⟨ns,a,ts,n1,n2,rfl,g1,g2⟩:=each m v (by simpa using ev);have hm:m<nss.length:=(bI.mp n1).1;refine⟨.ref a,H,I.kept kp,rfl,kk _ _ (hd ns (eS n1) λx hx=>?_) ?_⟩
    ·obtain⟨j,hj,rfl⟩:=dS hx;have:=b2 j (by simp;lia);have q1:nss.getD j []=nss[j]:=(by rw[dW,aE hj];rfl);have q2:nss.getD m []=ns:=(by rw[dW,n1];rfl);rw[q1,q2] at this;exact this
    ·obtain⟨w,f1,f2⟩:=rr.get (i:=m) (d:=oC ns) (by rw[bZ,n1];rfl);rw[n2] at f1;cases f1;exact f2
  | _=>exact hd.elim
 refine PE.mono (xQ call hg hm boot_min (vH h hs hn) (by decide) (by decide) (by rw[hs,hn]) (by rw[hn];rfl)) λσ H Q hh=>jF hh λρ P st q k=>⟨ρ,_,st,q,λd v H1 hd s1 r=>⟨d,v,P,rfl,r,hd,λz w hz rz=>k z w H1 hz s1 rz⟩⟩
def dNe:R22:=λx y Q=>match x,y with
 | .int i,.int j=>Q (.bl !(decide (i=j)))
 | .bl i,.bl j=>Q (.bl !(decide (i=j)))
 | .tup xs,.tup ys=>match ji (fb 5) xs ys with
  | some b=>Q (.bl !b)
  | none=>False
 | .non,.non=>Q (.bl false)
 | _,_=>False
theorem Vm (hr:ck k X.A):jn X (compareOp .NotEq) dNe:=by
 intro pins s σ H x y v u Q I rx ry bi;obtain⟨d,e,P,r1,r2,q,kk⟩:=bi;have hu:=hr.un;unfold dNe at q;split at q
 ·rename_i i j;rw[r1.int_inv] at rx;rw[r2.int_inv] at ry;obtain⟨t,rfl⟩:=rx;obtain⟨t',rfl⟩:=ry;have e:(!(decide (i=j))) = !(i == j):=by rw[nY]
  rw[e] at q;exact SeqAt.RcNeAt.int_int i t j t' _ _ _ _ ⟨.bl _,H,I,rfl,kk _ _ H q (ag.refl H) (.bl _)⟩
 ·rename_i i j;rw[r1.bl_inv] at rx;rw[r2.bl_inv] at ry;cases rx;cases ry;have e:(!(decide (i=j))) = !(i == j):=by rw[nY]
  rw[e] at q;exact SeqAt.RcNeAt.bool_bool i j _ _ _ _ ⟨.bl _,H,I,rfl,kk _ _ H q (ag.refl H) (.bl _)⟩
 ·rename_i xs ys;split at q
  ·rename_i b h;obtain⟨a,vs,rfl,h1,q1⟩:=r1.tup;obtain⟨c,ws,rfl,h2,q2⟩:=r2.tup;cases rx;cases ry;obtain⟨its,rv,ht,_⟩:=I.tuple (fg.of h1);obtain⟨fj,og,t_,_⟩:=I.tuple (fg.of h2);have l1:xs.length=its.length:=q1.length.trans rv.length;have l2:ys.length=fj.length:=q2.length.trans og.length;have rc:SeqAt.RcNeAt X.A s (.ref a) (.ref c) (!b):=by
    have:=SeqAt.RcNeAt.tuples (A:=X.A) (s:=s) (e:=λj=>match xs[j]?,ys[j]? with | some x,some y=>(fb 5 x y).getD false | _,_=>false) ht t_ (by lia) (λj g1 g2=>?_)
    ·simp only[aZ,<-l1,<-l2] at this;have al:=DK h;rw[<-al];exact this
    ·simp only[aZ] at g1 g2;have e1:xs[j]? = some (xs[j]'(by lia)):=aE _;have e2:ys[j]? = some (ys[j]'(by lia)):=aE _;obtain⟨k,hk⟩:=IN h j _ _ e1 e2;rw[e1,e2];simp only[hk,lA];obtain⟨v1,f1,f2⟩:=q1.get e1;obtain⟨v2,f3,f4⟩:=q2.get e2;obtain⟨u1,g3,g4⟩:=rv.get f1;obtain⟨u2,g5,g6⟩:=og.get f3;have a1:its.toArray[j]=u1:=by
      have:=aE g1;rw[this] at g3;simpa using eB g3
     have a2:fj.toArray[j]=u2:=by
      have:=aE g2;rw[this] at g5;simpa using eB g5
     rw[a1,a2];exact (yW I 5 hk f2 f4 g4 g6 (by show X.A.units+1+5<cLine;lia)).2
   exact rc _ _ _ _ ⟨.bl _,H,I,rfl,kk _ _ H q (ag.refl H) (.bl _)⟩
  ·exact q.elim
 ·have non:∀{v:V},df X.K H .non v->v = .non:=λr=>by
   rcases r with r | ⟨_,_,_,e,_⟩
   ·cases r;rfl
   ·cases e
  rw[non r1] at rx;rw[non r2] at ry;cases rx;cases ry;exact SeqAt.RcNeAt.none_none _ _ _ _ ⟨.bl _,H,I,rfl,kk _ _ H q (ag.refl H) (.bl _)⟩
 ·exact q.elim
def Lx:R22:=λx y Q=>match x with
 | .lst xs=>∃j:Nat,(∃d,xs[j]? = some d/\fb 6 d y=some true)/\(∀(i:Nat) d,i<j->xs[i]? = some d->fb 6 d y=some false)/\(∀d∈xs,∃b,fb 6 d y=some b)/\Q (.int (j:Int))
 | _=>False
theorem RelV.det (h:RelV v u) (h':RelV v' u):v=v':=RelV.inj h h'
end
section
variable {σ:St}
theorem UO:∀{ks ks':List Int} {vs vs':List V},ks.length=vs.length->ks'.length=vs'.length->IS ks vs=IS ks' vs'->ks=ks'/\vs=vs'
 | [],[],[],[],_,_,_=>⟨rfl,rfl⟩
 | [],_::_,[],_::_,_,_,h=>by simp[IS] at h
 | _::_,[],_::_,[],_,_,h=>by simp[IS] at h
 | k::ks,k'::ks',v::vs,v'::vs',h1,h2,h=>by
  simp only[IS,qY,gA,eQ,Sum.inl.injEq] at h;obtain⟨rfl,rfl⟩:=UO (ks:=ks) (ks':=ks') (vs:=vs) (vs':=vs') (by simpa using h1) (by simpa using h2) h.2;obtain⟨⟨rfl,rfl⟩,_⟩:=h;exact⟨rfl,rfl⟩
theorem QB:∀{ks ks':List (List Int)} {vs vs':List V},ks.length=vs.length->ks'.length=vs'.length->yY ks vs=yY ks' vs'->ks=ks'/\vs=vs'
 | [],[],[],[],_,_,_=>⟨rfl,rfl⟩
 | [],_::_,[],_::_,_,_,h=>by simp[yY] at h
 | _::_,[],_::_,[],_,_,h=>by simp[yY] at h
 | k::ks,k'::ks',v::vs,v'::vs',h1,h2,h=>by
  simp only[yY,qY,gA,eQ] at h;obtain⟨rfl,rfl⟩:=QB (ks:=ks) (ks':=ks') (vs:=vs) (vs':=vs') (by simpa using h1) (by simpa using h2) h.2;obtain⟨⟨e,rfl⟩,_⟩:=h;have e':k=k':=by
   have z:=congrArg (uT λx:iu=>match x with | .inl i=>i | .inr _=>0) e;rw[dN,dN] at z;simpa [HG] using z
  exact⟨by rw[e'],rfl⟩
theorem LZ (I:Inv X pins σ H s) (h:H a=some (.frz o (.dT cf))) (h':ph X.K H a vs):False:=by
 obtain⟨its,rv,pl,_⟩:=I.list h'.sq;obtain⟨o',e',c',_⟩:=pl.isList;obtain⟨_,_,_,us,_,ob,es,ep,e,c,_⟩:=I.hok a _ h;rw[e] at e';cases e';rw[c.1] at c';simp at c'
theorem LX (I:Inv X pins σ H s) (h:H a=some (.frz o (.dK cf))) (h':ph X.K H a vs):False:=by
 obtain⟨its,rv,pl,_⟩:=I.list h'.sq;obtain⟨o',e',c',_⟩:=pl.isList;obtain⟨_,_,_,us,_,ob,es,ep,e,c,_⟩:=I.hok a _ h;rw[e] at e';cases e';rw[c.1] at c';simp at c'
mutual
theorem c7.det (I:Inv X pins σ H s):∀{d d':D} {v:V},c7 X.K H d v->c7 X.K H d' v->d=d'
 | _,_,_,.non,r=>by cases r;rfl
 | _,_,_,.bl b,r=>by cases r;rfl
 | _,_,_,.int i,r=>by cases r;rfl
 | _,_,_,.str x,r=>by cases r;rfl
 | _,_,_,.tup h q,r=>by
  cases r with
  | tup h' q'=>rw[h] at h';cases h';rw[ah.det I q q']
  | lst h' q' =>
   obtain⟨its,rv,pl,_⟩:=I.list h'.sq;obtain⟨ub,rv',⟨o,e,c,_⟩,_⟩:=I.tuple (fg.of (K:=X.K) h);obtain⟨o',e',c',_⟩:=pl.isList;rw[e] at e';cases e';rw[c] at c';simp at c'
  | dct h' _ _=>rw[h] at h';cases h'
  | dtt h' _ _=>rw[h] at h';cases h'
 | _,_,_,.dct h hl q,r=>by
  cases r with
  | tup h' q'=>rw[h] at h';cases h'
  | lst h' q'=>exact (LX I h h').elim
  | dct h' W7 q' =>
   rw[h] at h';obtain⟨rfl,rfl⟩:=UO hl W7 (by injection h' with e;injection e with _ e;injection e);rw[ah.det I q q']
  | dtt h' _ _=>rw[h] at h';cases h'
 | _,_,_,.dtt h hl q,r=>by
  cases r with
  | tup h' q'=>rw[h] at h';cases h'
  | lst h' q'=>exact (LZ I h h').elim
  | dct h' _ _=>rw[h] at h';cases h'
  | dtt h' W7 q' =>
   rw[h] at h';obtain⟨rfl,rfl⟩:=QB hl W7 (by injection h' with e;injection e with _ e;injection e);rw[ah.det I q q']
 | _,_,_,.lst h q,r=>by
  cases r with
  | tup h' q' =>
   obtain⟨its,rv,pl,_⟩:=I.list h.sq;obtain⟨ub,rv',⟨o,e,c,_⟩,_⟩:=I.tuple (fg.of (K:=X.K) h');obtain⟨o',e',c',_⟩:=pl.isList;rw[e] at e';cases e';rw[c] at c';simp at c'
  | lst h' q'=>rw[I.list_inj h'.sq h.sq] at q';rw[ah.det I q q']
  | dct h' _ _=>exact (LX I h' h).elim
  | dtt h' _ _=>exact (LZ I h' h).elim
theorem ah.det (I:Inv X pins σ H s):∀{d d':List D} {v:List V},ah X.K H d v->ah X.K H d' v->d=d'
 | _,_,_,.nil,r=>by cases r;rfl
 | _,_,_,.cons h t,r=>by
  cases r with
  | cons h' t'=>rw[c7.det I h h',ah.det I t t']
end
end
section
variable {X:Cx} {e a b:Expr} {te ta tb:RE}
def Ek (ta tb:RE):RE:=λρ Q=>ta ρ λx=>(∃xs,x = .lst xs)/\tb ρ λy=>Lx x y Q
theorem Mk {k:Nat} {apos b_:Pos} (hr:ck k X.A) (ha:DB X a ta) (hb:DE X b tb) (fh:attributeBase a "index" X.env (eval a X.env)=eval a X.env:=by rfl)
  (m8:((backTo b_ (starEach [b] X.env)).all (λx=>!x.1) && (backToKw b_ (keywordEach [] X.env)).all (λx=>x.1.isSome) && decide (([b]:List Expr).length+([]:List vT).length+(if ([]:List vT).isEmpty then 0 else 1)<30))=true:=by rfl)
  (fi:(apos.endLine == b_.line)=true:=by rfl) (hs:starEach [b] X.env=[(false,eval b X.env)]:=by rfl) (hn:starEach [] X.env=[]:=by rfl) :
  DE X (.Call (.Attribute a "index" apos) [b] [] b_) (Ek ta tb):=by
 have mt:T4 X "list.index" (λx vs H Q=>∃(d e:D) (u:V) (P:D->Prop),vs=[u]/\df X.K H d x/\c7 X.K H e u/\Lx d e P/\∀z w,P z->c7 X.K H z w->Q w H):=by
  intro pins s σ H x vs v us Q I rx rv bi;obtain⟨d,e,u,P,ev,rd,re,q,kk⟩:=bi;subst ev;obtain⟨u',rfl,ru⟩:=rv.one;cases d with
  | lst xs =>
   obtain⟨j,⟨dj,ej,hj⟩,yk,cn,q⟩:=q;obtain⟨l,vs,rfl,hq,rr⟩:=rd.lst;cases rx;obtain⟨its,mn,pl,hz⟩:=I.list hq;obtain⟨⟨cls,dd,data,sl⟩,ho,hc,n,hd⟩:=pl.isList;simp only at hc hd;subst hc hd;have l1:=rr.length;have l2:=mn.length;have hu:=hr.un;have hjl:j<xs.length:=(bI.mp ej).1;let ev:aD->Bool:=λy=>(dZ xs.length).any λi=>match xs[i]?,its[i]? with
    | some d,some z=>z == y && fb 6 d e == some true
    | _,_=>false
   have each:∀(i:Nat) (y:aD),its[i]? = some y->∃d v,xs[i]? = some d/\c7 X.K H d v/\RelV v y/\∃b,fb 6 d e=some b:=λi y ey=>by
    have hi:i<xs.length:=(by have:=(bI.mp ey).1;lia);obtain⟨v,e1,e2⟩:=rr.get (aE hi);obtain⟨y',f1,f2⟩:=mn.get e1;rw[ey] at f1;cases f1;exact⟨_,v,aE hi,e2,f2,cn _ (pF hi)⟩
   have uz:∀(i:Nat) (y:aD) (d:D) (b:Bool),its[i]? = some y->xs[i]? = some d->fb 6 d e=some b->ev y=b:=λi y d b ey ed hb=>by
    obtain⟨d',v,q1,q2,q3,_⟩:=each i y ey;rw[ed] at q1;cases q1;cases b with
    | true =>
     have hi:i<xs.length:=(bI.mp ed).1;refine JT.mpr ⟨i,gR.mpr hi,?_⟩;simp only[ed,ey,hb];simp
    | false =>
     refine HK.mpr λi' jf=>?_;cases ex:xs[i']? with
     | none=>simp
     | some d' =>
      cases ez:its[i']? with
      | none=>simp
      | some z =>
       simp only[hU,beq_iff_eq,not_and];intro hz u_;subst hz;obtain⟨d2,v2,p1,p2,p3,_⟩:=each i' z ez;rw[ex] at p1;cases p1;have:=RelV.det q3 p3;subst this;rw[c7.det I q2 p2] at hb;rw[hb] at u_;cases u_
   have xu:∀(i:Nat) (h:i<its.toArray.size),its[i]? = some its.toArray[i]:=λi h=>by
    have h':i<its.length:=(by simpa using h);rw[aE h'];simp
   refine vA F.slot_list_index ⟨_,ho,rfl⟩ F.entry_list_index (F.args_list_index_2 _ _) (SeqAt.list_indexAt l its.toArray n dd sl u' ev j (by simp;lia) ?_ ?_ λm hm dk=>?_) ⟨ho,λy hy=>?_,?_⟩
   ·have hs:(sizeLine:Int)<2 ^ 63-1:=(by decide);lia
   ·exact uz j _ dj true (xu j _) ej hj
   ·have I_:m<xs.length:=(by simp at hm;lia);exact uz m _ xs[m] false (xu m hm) (aE I_) (yk m _ dk (aE I_))
   ·obtain⟨i,hi,rfl⟩:=dS (List.mem_toArray.mp hy);obtain⟨d,v,q1,q2,q3,b,hb⟩:=each i its[i] (aE hi);rw[uz i _ d b (aE hi) q1 hb];exact (yW I 6 hb q2 re q3 ru (by show X.A.units+1+6<cLine;lia)).2
   ·exact⟨.int (j:Int),H,I.tok _,⟨_,rfl⟩,kk _ _ q (.int _)⟩
  | _=>exact q.elim
 refine PE.mono (Om kF PySem.F.slot_list_index PySem.F.type_list_index mt ha (vH hb hs hn) fh m8 fi (by rw[hs,hn]) (by rw[hn];rfl)) λσ H Q hh=>jF hh λρ P st q k=>⟨ρ,_,st,q,λx v H1 hx s1 r1=>⟨?_,ρ,_,st.ext s1,hx.2,λy u H2 hy s2 r2=>⟨x,y,u,P,rfl,r1.same s2,r2,hy,λz w hz rz=>k z w H2 hz (s1.trans s2) rz⟩⟩⟩;obtain⟨⟨xs,rfl⟩,_⟩:=hx;obtain⟨l,vs,rfl,hq,_⟩:=r1.lst;exact .inl ⟨rfl,vs,hq⟩
end
end
section
open PySem PySem.SetTable
def wq (N i:Nat):Nat:=(i*5+1) % N
def WQ (N:Nat):Nat->Nat->Nat
 | 0,i=>i
 | m+1,i=>WQ N m (wq N i)
theorem IP (N:Nat):∀a b i,WQ N (a+b) i=WQ N b (WQ N a i)
 | 0,b,i=>by rw[tZ];rfl
 | a+1,b,i=>by rw[Nat.add_right_comm];exact IP N a b (wq N i)
def Hr (N:Nat):Nat->Nat->List Nat
 | 0,_=>[]
 | m+1,i=>i::Hr N m (wq N i)
theorem KZ:∀{m i:Nat},j∈Hr N m i->∃k,k<m/\WQ N k i=j
 | 0,_,h=>by cases h
 | m+1,i,h=>by
  rcases aO.mp h with rfl | h
  ·exact⟨0,by lia,rfl⟩
  ·obtain⟨k,hk,e⟩:=KZ h;exact⟨k+1,by lia,e⟩
def g7 (N:Nat):Prop:=(∀j,j<N->j∈Hr N N 0)/\WQ N N 0=0
def RK (h:((dZ N).all λj=>(Hr N N 0).contains j)=true) (k:WQ N N 0=0):g7 N :=
 ⟨λj hj=>by have:=mP.mp h j (gR.mpr hj);simpa using this,k⟩
def Yw:g7 8:=RK (by decide +kernel) (by decide +kernel)
def Tx:g7 32:=RK (by decide +kernel) (by decide +kernel)
def Pq:g7 128:=RK (by decide +kernel) (by decide +kernel)
def g7.reach (h:g7 N) (hi:i<N) (hj:j<N):∃k,k<N/\WQ N k i=j:=by
 obtain⟨a,ha,ea⟩:=KZ (h.1 i hi);obtain⟨b,hb,eb⟩:=KZ (h.1 j hj);by_cases c8:a<=b
 ·refine⟨b-a,by lia,?_⟩;rw[<-ea,<-IP,show a+(b-a)=b by lia,eb]
 ·refine⟨b+(N-a),by lia,?_⟩;rw[<-ea,<-IP,show a+(b+(N-a))=N+b by lia,IP,h.2,eb]
def Em (P:Nat->Prop) (mask:Nat):Nat->Nat->Nat->Prop
 | 0,i,_=>P i
 | m+1,i,pt=>Em P mask m (leap mask i pt).1 (leap mask i pt).2
theorem Fc {P:Nat->Prop} {mask:Nat}:∀m i,P (WQ (mask+1) m i)->Em P mask m i 0
 | 0,_,h=>h
 | m+1,i,h=>by
  unfold Em;have e:leap mask i 0=(wq (mask+1) i,0):=by simp[leap,wq]
  rw[e];exact Fc m (wq (mask+1) i) h
theorem Bv {P:Nat->Prop} {mask:Nat} (R:g7 (mask+1)) {j:Nat} (hj:j<=mask) (hP:P j):∀(b i pt:Nat),i<=mask->pt<32 ^ b->∃m,m<=mask+b/\Em P mask m i pt
 | 0,i,pt,hi,hp=>by
  have:pt=0:=by simpa using hp
  subst this;obtain⟨k,hk,e⟩:=R.reach (i:=i) (j:=j) (by lia) (by lia);exact⟨k,by lia,Fc k i (by rw[e];exact hP)⟩
 | b+1,i,pt,hi,hp=>by
  have h1:(leap mask i pt).1<=mask:=by unfold leap;exact jL (jS _ (by lia))
  have h2:(leap mask i pt).2<32 ^ b:=by
   unfold leap;dsimp only;rw[Nat.pow_succ] at hp;lia
  obtain⟨m,hm,e⟩:=Bv R hj hP b _ _ h1 h2;exact⟨m+1,by lia,e⟩
def Fq (h:Int):bits h<32 ^ 13:=by
 unfold bits;have:(h % (2 ^ 64:Int))<2 ^ 64:=uP _ (by decide);have h2:0<=h % (2 ^ 64:Int):=zO _ (by decide);have:(h % (2 ^ 64:Int)).toNat<2 ^ 64:=by lia
 exact cB this (by decide)
theorem wX {α:Type} [DecidableEq α]:∀(l m:List α),l.Nodup->(∀x∈l,x∈m)->l.length<=m.length
 | [],_,_,_=>gU _
 | x::l,m,hn,hs=>by
  have hx:=hs x (by simp);have me:=fN.mp hn;have:=wX l (m.erase x) me.2 λy hy=>by
   have ne:y≠x:=λe=>me.1 (e ▸ hy);exact (BC ne).mpr (hs y (by simp[hy]))
  rw[wN hx] at this;have:0<m.length:=yI hx;simp;lia
structure dc (t:SetTable) (n:Nat):Prop where
 size:t.place.size=n
 dum:t.dummies = #[]
 room:n<=t.mask
 round:g7 (t.mask+1)
 ris:t.place.toList.Pairwise (· < ·)
def slot_of {t:SetTable} (hd:t.dummies = #[]) (j:Nat):t.slot j = .empty\/∃i,t.slot j = .live i/\t.place[i]? = some j:=by
 unfold slot;dsimp only;by_cases h:(t.place[below t.place j]? == some j)=true
 ·rw[if_pos h];exact cV ⟨_,rfl,by simpa using h⟩
 ·rw[if_neg h,hd,if_neg (by simp[has])];exact cW rfl
def Eu (T:dc t n):∃j,j<=t.mask/\t.slot j = .empty:=by
 apply cC;intro hn;have all:∀j∈dZ (t.mask+1),j∈t.place.toList:=by
  intro j hj;rcases slot_of T.dum j with h | ⟨i,h,e⟩
  ·exact absurd ⟨j,by have:=gR.mp hj;lia,h⟩ hn
  ·rw[iM];exact AF e
 have:=wX _ _ JY all;rw[HM,cT,T.size] at this;have:=T.room;lia
def TV (t:SetTable) (p:Probe) (m:Nat):Prop:=p.dummy=none/\p.more<=9/\Em (λj=>t.slot j = .empty) t.mask m p.i p.perturb/\(m=0->p.j=p.i)
def NC (p:Probe) (m:Nat):Nat:=p.more+10*m
def DV (mask i:Nat):runEnd mask i-i<=9:=by unfold runEnd;split <;> lia
def XZ (h:TV t p m) (hn:t.slot p.j≠.empty):∃m',TV t (t.advance p) m'/\NC (t.advance p) m'<NC p m:=by
 obtain⟨hd,hm,he,hj⟩:=h;have m0:m≠0:=by rintro rfl;rw[hj rfl] at hn;exact hn he
 unfold advance;split
 ·refine⟨m,⟨hd,by dsimp only;lia,he,λe=>absurd e m0⟩,by unfold NC;dsimp only;lia⟩
 ·obtain⟨k,rfl⟩:∃k,m=k+1:=⟨m-1,by lia⟩;refine⟨k,⟨hd,DV _ _,he,λ_=>rfl⟩,?_⟩;unfold NC;have:=DV t.mask (leap t.mask p.i p.perturb).1;dsimp only;lia
def Kp (T:dc t n) (h:Int):∃m,TV t (t.probeStart h) m/\NC (t.probeStart h) m<10*turns t.mask:=by
 obtain⟨j,hj,he⟩:=Eu T;obtain⟨m,hm,e⟩:=Bv (P:=λj=>t.slot j = .empty) T.round hj he 13 (bits h % (t.mask+1)) (bits h) (jL (jS _ (by lia))) (Fq h);refine⟨m,⟨rfl,DV _ _,e,λ_=>rfl⟩,?_⟩;have:=DV t.mask (bits h % (t.mask+1));unfold NC probeStart turns;dsimp only;lia
theorem Gh {mask:Nat} {owner:Array (Option Nat)}:∀(fuel m i pt:Nat),i<=mask->owner.size=mask+1->Em (λj=>owner.getD j (some 0)=none) mask m i pt->m<fuel->∃j,jJ mask owner fuel i pt=some j/\j<=mask/\owner.getD j (some 0)=none
 | 0,_,_,_,_,_,_,h=>absurd h (nR _)
 | fuel+1,m,i,pt,hi,hs,he,hf=>by
  unfold jJ;cases hq:(dZ (runEnd mask i+1-i)).find? λk=>(owner.getD (i+k) (some 0)).isNone with
  | some k =>
   have h1:=List.find?_some hq;have h2:=vN hq;have h3:=gR.mp h2;refine⟨i+k,rfl,?_,by simpa using h1⟩;have:runEnd mask i<=mask:=(by unfold runEnd;split <;> lia);lia
  | none =>
   dsimp only;have hn:owner.getD i (some 0)≠none:=by
    have h0:=FU.mp hq 0 (gR.mpr (by unfold runEnd;split <;> lia));simpa using h0
   obtain⟨k,rfl⟩:∃k,m=k+1:=by
    cases m with
    | zero=>exact absurd he hn
    | succ k=>exact⟨k,rfl⟩
   exact Gh fuel k _ _ (by unfold leap;exact jL (jS _ (by lia))) hs he (by lia)
def JA (owner:Array (Option Nat)) (n:Nat):List Nat:=(dZ n).filterMap λj=>owner.getD j none
theorem ZC {α:Type} {f g:Nat->Option α}:∀(l:List Nat),(∀a∈l,f a=g a)->l.filterMap f=l.filterMap g
 | [],_=>rfl
 | a::l,h=>by rw[eO,eO,h a (by simp),ZC l λb hb=>h b (by simp[hb])]
theorem ER {α:Type} {f g:Nat->Option α} {x:α}:∀(l:List Nat),l.Nodup->j∈l->(∀i,i≠j->f i=g i)->f j=none->g j=some x->(l.filterMap g).Perm (x::l.filterMap f)
 | [],_,h,_,_,_=>by cases h
 | i::l,hn,hj,V9,hf,hg=>by
  have me:=fN.mp hn;by_cases e:i=j
  ·subst e;rw[eO,eO,hf,hg];dsimp only;have:l.filterMap g=l.filterMap f:=by
    exact ZC l λa ha=>(V9 a (λe=>me.1 (e ▸ ha))).symm
   rw[this]
  ·have qf:j∈l:=(by rcases aO.mp hj with h | h;exact absurd h.symm e;exact h);have ih:=ER l me.2 qf V9 hf hg;rw[eO,eO,V9 i e];cases g i with
   | none=>exact ih
   | some y=>exact (ih.cons y).trans (List.Perm.swap x y _)
def Jx {N c:Nat} (hp:(JA owner N).Perm (dZ c)) (hs:owner.size=N) (hc:c<N):∃j,j<N/\owner.getD j (some 0)=none:=by
 apply cC;intro hn;have key:∀(l:List Nat),(∀j∈l,∃k,owner.getD j none=some k)->(l.filterMap λj=>owner.getD j none).length=l.length:=by
  intro l
  induction l with
  | nil=>intro _;rfl
  | cons j l ih =>
   intro h;obtain⟨k,e⟩:=h j (by simp);rw[eO,e];have:=ih λj hj=>h j (by simp[hj]);rw[cG,cG,this]
 have:=key (dZ N) (by
  intro j hj;have qf:=gR.mp hj;cases h:owner.getD j none with
  | some k=>exact⟨k,rfl⟩
  | none =>
   refine absurd ⟨j,qf,?_⟩ hn;have lt:j<owner.size:=(by lia);simp[lB,lt] at h ⊢;exact h)
 have e:=hp.length_eq;unfold JA at e;rw[this] at e;simp at e;lia
theorem ZN {mask:Nat} (R:g7 (mask+1)):∀(hs:List Int) (owner:Array (Option Nat)) (c:Nat),owner.size=mask+1->(JA owner (mask+1)).Perm (dZ c)->c+hs.length<=mask+1 ->
  ∃nh ,(hs.foldl (λacc h=>do
    let (owner,k) <-acc;let j <-jJ mask owner (turns mask) (bits h % (mask+1)) (bits h)
    pure (owner.setIfInBounds j (some k),k+1)) (some (owner,c)))=some (nh,c+hs.length)/\nh.size=mask+1/\(JA nh (mask+1)).Perm (dZ (c+hs.length))
 | [],owner,c,hs,hp,_=>⟨owner,rfl,hs,hp⟩
 | h::hs,owner,c,hz,hp,hl=>by
  simp only[cG] at hl;obtain⟨j0,hj0,e0⟩:=Jx hp hz (by lia);obtain⟨m,hm,em⟩:=Bv (P:=λj=>owner.getD j (some 0)=none) R (j:=j0) (by lia) e0 13 (bits h % (mask+1)) (bits h) (jL (jS _ (by lia))) (Fq h);obtain⟨j,ej,hj,ef⟩:=Gh (turns mask) m _ _ (jL (jS _ (by lia))) hz em (by unfold turns;lia);rw[pZ];have step:((do
    let (owner,k) <-some (owner,c);let j <-jJ mask owner (turns mask) (bits h % (mask+1)) (bits h)
    pure (owner.setIfInBounds j (some k),k+1)):Option (Array (Option Nat) × Nat))=some (owner.setIfInBounds j (some c),c+1):=by
   show (jJ mask owner (turns mask) (bits h % (mask+1)) (bits h) >>= λj=>_)=_;rw[ej];rfl
  rw[step];have lt:j<owner.size:=by lia
  have perm:(JA (owner.setIfInBounds j (some c)) (mask+1)).Perm (dZ (c+1)):=by
   unfold JA;refine (ER (f:=λi=>owner.getD i none) (x:=c) (j:=j) _ JY (gR.mpr (by lia)) ?_ ?_ ?_).trans ?_
   ·intro i hi;simp only[eI];rw[rO (Ne.symm hi)]
   ·simp only[eI] at ef ⊢;have:owner[j]? = some owner[j]:=bH lt;rw[this] at ef ⊢;exact ef
   ·simp only[eI];rw[oI lt];rfl
   ·rw[MP (n:=c)];exact (List.Perm.cons c hp).trans (AJ (l₁:=[c]))
  obtain⟨o',r1,r2,r3⟩:=ZN R hs (owner.setIfInBounds j (some c)) (c+1) (by simp[hz]) perm (by lia);refine⟨o',?_,r2,?_⟩
  ·rw[r1,cG,show c+1+hs.length=c+(hs.length+1) by lia]
  ·rw[cG,show c+(hs.length+1)=c+1+hs.length by lia];exact r3
def Rz {mask:Nat} (R:g7 (mask+1)) (finger moves:Nat) (led plain:Bool) (hashes:Array Int) (hl:hashes.size<=mask) :
  ∃t order,laid mask finger moves led plain hashes=some (t,order)/\dc t hashes.size/\t.mask=mask/\t.led=led/\t.plain=plain/\order.toList.Perm (dZ hashes.size):=by
 obtain⟨o,e,sz,pm⟩:=ZN R hashes.toList (zL (mask+1) none) 0 (by simp) (by
  have:JA (zL (mask+1) none) (mask+1)=[]:=by
   unfold JA;rw[List.filterMap_eq_nil_iff];intro j hj;have:=gR.mp hj;simp[eI,this]
  rw[this];exact BA _) (by rw[cT];lia)
 have el:layClean mask hashes=some o:=by
  unfold layClean;rw[<-FP];have e':=e;simp only[tZ] at e';rw[e'];rfl
 unfold laid;rw[el];simp only[tZ,cT] at pm;have e2:∀l:List Nat,(l.filterMap λj=>(o.getD j none).map (j,·)).map (·.2)=l.filterMap λj=>o.getD j none:=by
  intro l
  induction l with
  | nil=>rfl
  | cons j l ih =>
   rw[eO,eO];cases o.getD j none with
   | none=>exact ih
   | some k=>exact congrArg (k :: ·) ih
 have e3:∀l:List Nat,((l.filterMap λj=>(o.getD j none).map (j,·)).map (·.1)).Sublist l:=by
  intro l
  induction l with
  | nil=>exact HJ _
  | cons j l ih =>
   rw[eO];cases o.getD j none with
   | none=>exact ih.cons j
   | some k=>exact ih.cons_cons j
 refine⟨_,_,rfl,⟨?_,rfl,hl,R,lJ (e3 _) List.pairwise_lt_range⟩,rfl,rfl,rfl,?_⟩
 ·have h1:=congrArg fI (e2 (dZ (mask+1)));have h2:=pm.length_eq;unfold JA at h2;simp only[cN,HM] at h1 h2;simp only[aZ,cN];lia
 ·dsimp only;rw[e2];exact pm
theorem OU (hr:xs.toList.Pairwise (· < ·)):∀(fuel lo hi:Nat),lo<=hi->hi<=xs.size->hi-lo<=fuel->(∀i x,i<lo->xs[i]? = some x->x<j)->(∀i x,hi<=i->xs[i]? = some x->j<=x) ->
  OT xs j fuel lo hi<=xs.size/\(∀i x,i<OT xs j fuel lo hi->xs[i]? = some x->x<j)/\(∀i x,OT xs j fuel lo hi<=i->xs[i]? = some x->j<=x)
 | 0,lo,hi,h1,h2,h3,a,b=>by
  have:lo=hi:=by lia
  subst this;exact⟨h2,a,b⟩
 | fuel+1,lo,hi,h1,h2,h3,a,b=>by
  unfold OT;by_cases hl:lo<hi
  ·rw[if_pos hl];dsimp only;have hm:(lo+hi) / 2<xs.size:=(by lia);have em:xs[(lo+hi) / 2]? = some xs[(lo+hi) / 2]:=bH hm;have eg:xs.getD ((lo+hi) / 2) j=xs[(lo+hi) / 2]:=(by simp[lB,hm]);have mono:∀(i k x y:Nat),i<k->xs[i]? = some x->xs[k]? = some y->x<y:=by
    intro i k x y mm ex ey;have hk:k<xs.size:=(jK.mp ey).1;have:=jP.mp hr i k (by simp;lia) (by simpa using hk) mm;rw[bH (by lia)] at ex;rw[bH hk] at ey;cases ex;cases ey;simpa using this
   rw[eg];split
   ·rename_i h;refine OU hr fuel _ _ (by lia) h2 (by lia) (λi x hq ex=>?_) b;by_cases he:i=(lo+hi) / 2
    ·subst he;rw[em] at ex;cases ex;exact h
    ·exact rB (mono i ((lo+hi) / 2) x _ (by lia) ex em) h
   ·rename_i h;refine OU hr fuel _ _ (by lia) (by lia) (by lia) a (λi x hq ex=>?_);by_cases he:i=(lo+hi) / 2
    ·subst he;rw[em] at ex;cases ex;lia
    ·have:=mono ((lo+hi) / 2) i _ x (by lia) em ex;lia
  ·rw[if_neg hl];have:lo=hi:=(by lia);subst this;exact⟨h2,a,b⟩
def IA (j:Nat) (hr:xs.toList.Pairwise (· < ·)):below xs j<=xs.size/\(∀i x,i<below xs j->xs[i]? = some x->x<j)/\(∀i x,below xs j<=i->xs[i]? = some x->j<=x) :=
 OU hr xs.size 0 xs.size (gU _) (bU _) (by lia) (λi x h=>absurd h (nR _)) λi x h e=>by
  have:=(jK.mp e).1;lia
def pU {α:Type} (xs:Array α) (p:Nat) (x:α) (hp:p<=xs.size):(insertAt xs p x).toList=xs.toList.take p++x::xs.toList.drop p:=by
 unfold insertAt;rw[Array.toList_append,vP,AS,AS];simp only[List.extract_eq_drop_take,yM,OL,fL,AK];congr 2;rw[nF (by simp)]
def ES {α:Type} (xs:Array α) (p:Nat) (x:α) (hp:p<=xs.size):(insertAt xs p x).size=xs.size+1:=by
 rw[<-cT,pU xs p x hp];simp;lia
def IQ {α:Type} (xs:Array α) (p:Nat) (x:α) (hp:p<=xs.size) (y:α):y∈(insertAt xs p x).toList↔y=x\/y∈xs.toList:=by
 rw[pU xs p x hp,cS,aO];constructor
 ·rintro (h | h | h)
  ·exact cV (jZ h)
  ·exact cW h
  ·exact cV (BE h)
 ·rintro (h | h)
  ·exact cV (cW h)
  ·rw[<-gL p xs.toList] at h;rcases cS.mp h with h | h
   ·exact cW h
   ·exact cV (cV h)
def Yn (T:dc t n) (he:t.slot j = .empty) (hr:n+1<=t.mask):dc (t.put j).1 (n+1)/\(t.put j).2=below t.place j/\below t.place j<=n/\(t.put j).1.mask=t.mask/\(t.put j).1.led=t.led/\(t.put j).1.plain=t.plain/\(t.put j).1.moves=t.moves:=by
 obtain⟨b1,b2,b3⟩:=IA j T.ris;have hn:t.place[below t.place j]?≠some j:=by
  intro h;unfold slot at he;dsimp only at he;rw[if_pos (by simpa using h)] at he;cases he
 have hd:(if has t.dummies j=true then eraseAt t.dummies (below t.dummies j) else t.dummies) = #[]:=by
  rw[T.dum];simp[has]
 refine⟨⟨?_,hd,hr,T.round,?_⟩,rfl,by rw[<-T.size];exact b1,rfl,rfl,rfl,rfl⟩
 ·show (insertAt t.place _ j).size=_;rw[ES _ _ _ b1,T.size]
 ·show (insertAt t.place _ j).toList.Pairwise _;rw[pU _ _ _ b1];refine kA.mpr ⟨lJ (HN _ _) T.ris,cH.mpr ⟨λx hx=>?_,lJ (List.drop_sublist _ _) T.ris⟩,λx hx y hy=>?_⟩
  ·obtain⟨i,hi,e⟩:=dS hx;simp only[mQ,cT] at hi;rw[HL] at e;have ex:t.place[below t.place j+i]? = some x:=(by rw[bH (by lia),<-e];simp);have:=b3 _ x (by lia) ex;rcases uV this with h | h
   ·exact h
   ·subst h;exfalso;cases i with
    | zero=>exact hn ex
    | succ i =>
     have hp:below t.place j<t.place.size:=(by lia);have e0:t.place[below t.place j]? = some t.place[below t.place j]:=bH hp;have g1:=b3 _ _ (bU _) e0;have g2:=jP.mp T.ris (below t.place j) (below t.place j+(i+1)) (by simpa using hp) (by simp;lia) (by lia);rw[bH (by lia)] at ex;injection ex with ex;simp at g2;lia
  ·obtain⟨i,hi,e⟩:=dS hx;simp only[gQ,cT] at hi;rw[List.getElem_take] at e;have ex:t.place[i]? = some x:=(by rw[bH (by lia),<-e];simp);have lx:=b2 i x (by lia) ex;rcases aO.mp hy with rfl | hy
   ·exact lx
   ·obtain⟨k,hk,e'⟩:=dS hy;simp only[mQ,cT] at hk;rw[HL] at e';have ey:t.place[below t.place j+k]? = some y:=(by rw[bH (by lia),<-e'];simp);have:=b3 _ y (by lia) ey;lia
def uF (t:SetTable) (k:Nat):Nat:=if k=0 then 0 else t.place.getD (k-1) 0+1
def Dt (T:dc t n) (hk:k<=n):below t.place (uF t k)=k:=by
 obtain⟨b1,b2,b3⟩:=IA (uF t k) T.ris;have mono:∀(i k x y:Nat),i<k->t.place[i]? = some x->t.place[k]? = some y->x<y:=by
  intro i k x y mm ex ey;have hk:k<t.place.size:=(jK.mp ey).1;have:=jP.mp T.ris i k (by simp;lia) (by simpa using hk) mm;rw[bH (by lia)] at ex;rw[bH hk] at ey;cases ex;cases ey;simpa using this
 have sz:=T.size;have ri:∀i,i<n->t.place[i]? = some (t.place.getD i 0):=by
  intro i hi;rw[bH (by lia)];have:i<t.place.size:=by lia
  simp[lB,this]
 rcases HR (below t.place (uF t k)) k with h | h | h
 ·exfalso;have:=b3 (k-1) _ (by lia) (ri (k-1) (by lia));unfold uF at this;rw[if_neg (by lia)] at this;lia
 ·exact h
 ·exfalso;have ek:=ri k (by lia);have h1:=b2 k _ h ek;unfold uF at h1;by_cases h0:k=0
  ·rw[if_pos h0] at h1;lia
  ·rw[if_neg h0] at h1;have:=mono (k-1) k _ _ (by lia) (ri (k-1) (by lia)) ek;lia
def zf (mask:Nat) (p:Probe):Probe:=if p.more > 0 then { p with j:=p.j+1,more:=p.more-1 } else
 { p with j:=(leap mask p.i p.perturb).1,more:=runEnd mask (leap mask p.i p.perturb).1-(leap mask p.i p.perturb).1,i:=(leap mask p.i p.perturb).1,perturb:=(leap mask p.i p.perturb).2 }
def U0 (mask i pt:Nat):Probe:={ j:=i,more:=runEnd mask i-i,i,perturb:=pt,dummy:=none }
def w9 (mask:Nat) (h:Int):Probe:=U0 mask (bits h % (mask+1)) (bits h)
inductive jo (mask:Nat) (O:Nat->Prop) (j:Nat):Probe->Prop
 | here {p:Probe} (e:p.j=j):jo mask O j p
 | on {p:Probe} (o:O p.j) (v:jo mask O j (zf mask p)):jo mask O j p
theorem jo.mono {mask j:Nat} {O O':Nat->Prop} {p:Probe} (h:jo mask O j p) (m:∀x,O x->O' x):jo mask O' j p:=by
 induction h with
 | here e=>exact .here e
 | on o v ih=>exact .on (m _ o) ih
def kj (t:SetTable) (x:Nat):Prop:=t.slot x≠.empty
def ZW (e:t.slot j = .live i):kj t j:=by unfold kj;rw[e];exact λz=>nomatch z
theorem UX (hd:t.dummies = #[]) (hashAt:Nat->Int) (h:Int):∀(fuel:Nat) (p:Probe) (m:Nat),TV t p m->NC p m<fuel ->
  (∃j,Am t hashAt h fuel p=some (.empty j none)/\t.slot j = .empty/\jo t.mask (kj t) j p/\∀j1 i1,t.slot j1 = .live i1->hashAt i1=h->¬jo t.mask (kj t) j1 p) \/
  (∃j i next m',Am t hashAt h fuel p=some (.candidate j i next)/\t.slot j = .live i/\t.place[i]? = some j/\TV t next m'/\NC next m'<NC p m/\(∀x,jo t.mask (kj t) x next->jo t.mask (kj t) x p) /\
   ∀j1 i1,t.slot j1 = .live i1->hashAt i1=h->jo t.mask (kj t) j1 p->j1=j\/jo t.mask (kj t) j1 next)
 | 0,_,_,_,h=>absurd h (nR _)
 | fuel+1,p,m,hi,hf=>by
  unfold Am;rcases slot_of hd p.j with e | ⟨i,e,ep⟩
  ·rw[e];dsimp only;rw[hi.1];refine cW ⟨_,rfl,e,.here rfl,λj1 i1 e1 _ v=>?_⟩;cases v with
   | here ej=>rw[ej,e1] at e;cases e
   | on o _=>exact o e
  ·rw[e];dsimp only;have oc:=ZW e;obtain⟨m',jf,hl⟩:=XZ hi (by rw[e];exact λx=>nomatch x);split
   ·refine cV ⟨_,_,_,m',rfl,e,ep,jf,hl,λx v=>.on oc v,λj1 i1 e1 _ v=>?_⟩;cases v with
    | here ej=>exact .inl ej.symm
    | on _ v=>exact .inr v
   ·rename_i ne;have step:∀j1 i1,t.slot j1 = .live i1->hashAt i1=h->jo t.mask (kj t) j1 p->jo t.mask (kj t) j1 (t.advance p):=λj1 i1 e1 eh v=>by
     cases v with
     | here ej=>rw[ej,e1] at e;cases e;exact absurd (by rw[eh];simp) ne
     | on _ v=>exact v
    rcases UX hd hashAt h fuel (t.advance p) m' jf (by lia) with ⟨j,r,r1,r2,r3⟩ | ⟨j,i,nx,m'',r,r2,r3,r4,r5,r6,r7⟩
    ·exact cW ⟨j,r,r1,.on oc r2,λj1 i1 e1 eh v=>r3 j1 i1 e1 eh (step j1 i1 e1 eh v)⟩
    ·exact cV ⟨j,i,nx,m'',r,r2,r3,r4,by lia,λx v=>.on oc (r6 x v),λj1 i1 e1 eh v=>r7 j1 i1 e1 eh (step j1 i1 e1 eh v)⟩
def LN {t:SetTable} (hr:t.place.toList.Pairwise (· < ·)) {i j:Nat} (e:t.place[i]? = some j):t.slot j = .live i:=by
 obtain⟨b1,b2,b3⟩:=IA j hr;obtain⟨hi,ei⟩:=jK.mp e;have le:below t.place j<=i:=by
  apply Nat.not_lt.mp;intro lt;exact iR _ (b2 i j lt e)
 have eq:below t.place j=i:=by
  rcases uV le with lt | eq
  ·exfalso;have hb:below t.place j<t.place.size:=(by lia);have g1:=b3 _ _ (bU _) (bH hb);have g2:=jP.mp hr (below t.place j) i (by simpa using hb) (by simpa using hi) lt;simp at g2;lia
  ·exact eq
 unfold slot;dsimp only;rw[eq,if_pos (by rw[e];simp)]
def WZ (hd:t.dummies = #[]) (hr:t.place.toList.Pairwise (· < ·)):kj t x↔x∈t.place.toList:=by
 constructor
 ·intro h;rcases slot_of hd x with e | ⟨i,_,e⟩
  ·exact absurd e h
  ·exact iM.mpr (AF e)
 ·intro h;obtain⟨i,hi,e⟩:=AQ (iM.mp h);exact ZW (LN hr (by rw[bH hi,e]))
def zv {α:Type} (t:SetTable) (es:List (Int × α)):Prop:=∀x∈t.place.toList.zip es,jo t.mask (kj t) x.1 (w9 t.mask x.2.1)
def Ez {α β:Type} (A:List α) (B:List β) (hl:A.length=B.length) (p:Nat) (a:α) (b:β) {x:α × β} (h:x∈(A.take p++a::A.drop p).zip (B.take p++b::B.drop p)):x=(a,b)\/x∈A.zip B:=by
 rw[zR (by rw[gQ,gQ,hl]),nH] at h;rcases cS.mp h with h | h
 ·refine .inr ?_;rw[<-gL p A,<-gL p B,zR (by rw[gQ,gQ,hl])];exact fD _ h
 ·rcases aO.mp h with h | h
  ·exact .inl h
  ·refine .inr ?_;rw[<-gL p A,<-gL p B,zR (by rw[gQ,gQ,hl])];exact bP _ h
def Qx {α:Type} {es:Array (Int × α)} {e:Int × α} (T:dc t es.size) (T1:dc (t.put j).1 (es.size+1)) (c:zv t es.toList) (v:jo t.mask (kj t) j (w9 t.mask e.1)):zv (t.put j).1 (insertAt es (below t.place j) e).toList:=by
 obtain⟨b1,_,_⟩:=IA j T.ris;have pl:(t.put j).1.place=insertAt t.place (below t.place j) j:=rfl;have up:∀x,kj t x->kj (t.put j).1 x:=λx o=>(WZ T1.dum T1.ris).mpr (by
  rw[pl,IQ _ _ _ b1];exact .inr ((WZ T.dum T.ris).mp o))
 intro x hx;rw[pl,pU _ _ _ b1,pU _ _ _ (by rw[<-T.size];exact b1)] at hx;rcases Ez _ _ (by rw[cT,cT,T.size]) _ _ _ hx with rfl | h
 ·exact v.mono up
 ·exact (c x h).mono up
def xf (mask:Nat) (owner:Array (Option Nat)) (x:Nat):Prop:=x<=mask/\owner.getD x (some 0)≠none
theorem Ht {mask i pt:Nat}:∀(k a m:Nat),k<=m->(∀b,b<k->O (a+b))->jo mask O (a+k) { j:=a,more:=m,i,perturb:=pt,dummy:=none }
 | 0,a,m,_,_=>.here rfl
 | k+1,a,m,h,o=>by
  refine .on (o 0 (by lia)) ?_;have e:zf mask { j:=a,more:=m,i,perturb:=pt,dummy:=none } = { j:=a+1,more:=m-1,i,perturb:=pt,dummy:=none }:=by
   unfold zf;dsimp only;rw[if_pos (by lia)]
  rw[e,show a+(k+1)=(a+1)+k by lia];exact Ht k (a+1) (m-1) (by lia) λb hb=>by rw[show a+1+b=a+(b+1) by lia];exact o (b+1) (by lia)
theorem Br {mask i pt x:Nat}:∀(m a:Nat),(∀b,b<=m->O (a+b))->jo mask O x (U0 mask (leap mask i pt).1 (leap mask i pt).2)->jo mask O x { j:=a,more:=m,i,perturb:=pt,dummy:=none }
 | 0,a,o,v=>.on (o 0 (bU _)) v
 | m+1,a,o,v=>by
  refine .on (o 0 (by lia)) ?_;have e:zf mask { j:=a,more:=m+1,i,perturb:=pt,dummy:=none } = { j:=a+1,more:=m,i,perturb:=pt,dummy:=none }:=by
   unfold zf;dsimp only;rw[if_pos (by lia)];rfl
  rw[e];exact Br m (a+1) (λb hb=>by rw[show a+1+b=a+(b+1) by lia];exact o (b+1) (by lia)) v
def Cq (h:(dZ n).find? p=some k):∀b,b<k->p b=false:=by
 rw[List.find?_range_eq_some] at h;intro b hb;have:=h.2.2 b hb;simpa using this
theorem ZF {mask:Nat} {owner:Array (Option Nat)}:∀(fuel i pt j:Nat),i<=mask->jJ mask owner fuel i pt=some j->j<=mask/\jo mask (xf mask owner) j (U0 mask i pt)
 | 0,_,_,_,_,h=>by cases h
 | fuel+1,i,pt,j,hi,h=>by
  have re:i<=runEnd mask i/\runEnd mask i<=mask:=by unfold runEnd;split <;> lia
  unfold jJ at h;cases hq:(dZ (runEnd mask i+1-i)).find? λk=>(owner.getD (i+k) (some 0)).isNone with
  | some k =>
   rw[hq] at h;cases h;have h3:=gR.mp (vN hq);refine⟨by lia,Ht k i _ (by lia) λb hb=>⟨by lia,?_⟩⟩;have:=Cq hq b hb;intro z;rw[z] at this;cases this
  | none =>
   rw[hq] at h;dsimp only at h;have ho:∀b,b<=runEnd mask i-i->xf mask owner (i+b):=λb hb=>⟨by lia,λz=>by
    have h0:=FU.mp hq b (gR.mpr (by lia));rw[z] at h0;exact h0 rfl⟩
   obtain⟨r1,r2⟩:=ZF fuel _ _ j (by unfold leap;exact jL (jS _ (by lia))) h;exact⟨r1,Br _ i ho r2⟩
def Uy (mask:Nat) (pre:List Int) (owner:Array (Option Nat)):Prop:=∀j k,owner.getD j none=some k->∃hk,pre[k]? = some hk/\jo mask (xf mask owner) j (w9 mask hk)
def IT (mask:Nat) (acc:Option (Array (Option Nat) × Nat)) (h:Int):Option (Array (Option Nat) × Nat):=do
 let (owner,k) <-acc;let j <-jJ mask owner (turns mask) (bits h % (mask+1)) (bits h)
 pure (owner.setIfInBounds j (some k),k+1)
theorem ZO {mask:Nat}:∀hs:List Int,hs.foldl (IT mask) none=none
 | []=>rfl
 | _::hs=>ZO hs
theorem Gj {mask:Nat}:∀(hs pre:List Int) (owner o':Array (Option Nat)) (n:Nat),hs.foldl (IT mask) (some (owner,pre.length))=some (o',n)->owner.size=mask+1->Uy mask pre owner->o'.size=mask+1/\Uy mask (pre++hs) o'
 | [],pre,owner,o',n,e,hz,I=>by cases e;rw[fC];exact⟨hz,I⟩
 | h::hs,pre,owner,o',n,e,hz,I=>by
  rw[pZ] at e;cases ej:jJ mask owner (turns mask) (bits h % (mask+1)) (bits h) with
  | none =>
   have:IT mask (some (owner,pre.length)) h=none:=by
    show (jJ mask owner (turns mask) (bits h % (mask+1)) (bits h) >>= λj=>_)=_;rw[ej];rfl
   rw[this,ZO] at e;cases e
  | some j =>
   obtain⟨hj,vj⟩:=ZF _ _ _ _ (jL (jS _ (by lia))) ej;have st:IT mask (some (owner,pre.length)) h=some (owner.setIfInBounds j (some pre.length),pre.length+1):=by
    show (jJ mask owner (turns mask) (bits h % (mask+1)) (bits h) >>= λj=>_)=_;rw[ej];rfl
   have lt:j<owner.size:=(by lia);have same:∀x,x≠j->∀d,(owner.setIfInBounds j (some pre.length)).getD x d=owner.getD x d:=λx hx d=>by
    simp only[eI];rw[rO (Ne.symm hx)]
   have at_:∀d,(owner.setIfInBounds j (some pre.length)).getD j d=some pre.length:=λd=>by
    simp only[eI];rw[oI lt];rfl
   have up:∀x,xf mask owner x->xf mask (owner.setIfInBounds j (some pre.length)) x:=λx ⟨a,b⟩=>⟨a,by
    by_cases hx:x=j
    ·subst hx;rw[at_];exact λz=>nomatch z
    ·rw[same x hx];exact b⟩
   rw[st,show pre.length+1=(pre++[h]).length by simp] at e;have:=Gj hs (pre++[h]) _ o' n e (by simp[hz]) λj1 k e1=>by
    by_cases hx:j1=j
    ·subst hx;rw[at_] at e1;cases e1;exact⟨h,by simp,vj.mono up⟩
    ·rw[same j1 hx] at e1;obtain⟨hk,g1,g2⟩:=I j1 k e1;exact⟨hk,by rw[cZ (bI.mp g1).1];exact g1,g2.mono up⟩
   rw[fL] at this;exact this
theorem Ni {mask finger moves:Nat} {led plain:Bool} {hashes:Array Int} {t:SetTable} {ord:Array Nat} (e:laid mask finger moves led plain hashes=some (t,ord)) (T:dc t hashes.size) :
  ∀x∈t.place.toList.zip ord.toList,∃hk,hashes.toList[x.2]? = some hk/\jo t.mask (kj t) x.1 (w9 t.mask hk):=by
 unfold laid at e;cases ec:layClean mask hashes with
 | none=>rw[ec] at e;cases e
 | some o =>
  rw[ec] at e;have e:some _=some (t,ord):=e;have rk:((hashes.toList.foldl (IT mask) (some (zL (mask+1) none,0))).map (·.1))=some o:=by
   rw[<-ec];unfold layClean;rw[<-FP];rfl
  obtain⟨⟨o1,n⟩,e1,rfl⟩:=yO.mp rk;obtain⟨sz,I⟩:=Gj hashes.toList [] _ o1 n e1 (by simp) λj k z=>by
   simp only[eI] at z;by_cases hj:j<mask+1
   ·rw[bH (by simpa using hj)] at z;simp at z
   ·rw[qT (by simpa using hj)] at z;cases z
  cases e;dsimp only at T ⊢;intro x hx;rw[<-List.unzip_fst,<-List.unzip_snd] at hx;have hx:x∈(dZ (mask+1)).filterMap λj=>(o1.getD j none).map (j,·):=by
   have z:=List.zip_unzip ((dZ (mask+1)).filterMap λj=>(o1.getD j none).map (j,·));rw[<-z];exact hx
  obtain⟨j,hj,ex⟩:=qH.mp hx;obtain⟨k,ek,rfl⟩:=yO.mp ex;obtain⟨hk,g1,g2⟩:=I j k ek;refine⟨hk,by simpa using g1,g2.mono λy ⟨y1,y2⟩=>(WZ T.dum T.ris).mpr ?_⟩;dsimp only;have lt:y<o1.size:=by lia
  simp only[eI,bH lt] at y2;cases ey:o1[y] with
  | none=>rw[ey] at y2;exact absurd rfl y2
  | some k' =>
   refine bJ.mpr ⟨(y,k'),qH.mpr ⟨y,gR.mpr (by lia),?_⟩,rfl⟩;simp only[eI,bH lt,ey];rfl
theorem Qi {α β γ:Type} {f:β->Option γ}:∀(P:List α) (Q:List β),(∀q∈Q,∃y,f q=some y)->∀x∈P.zip (Q.filterMap f),∃q,(x.1,q)∈P.zip Q/\f q=some x.2
 | [],_,_,x,h=>by cases h
 | _::_,[],_,x,h=>by cases h
 | p::P,q::Q,hf,x,h=>by
  obtain⟨y,ey⟩:=hf q (.head _);rw[eO,ey] at h;rcases aO.mp h with rfl | h
  ·exact⟨q,.head _,ey⟩
  ·obtain⟨q',h1,h2⟩:=Qi P Q (λz hz=>hf z (.tail _ hz)) x h;exact⟨q',.tail _ h1,h2⟩
section
variable {prog:cE} {w:dI} {A:dJ} {E:aD->aG->Prop} {s:aG}
theorem Bk (hk:IsTupleKey (intKind prog w) s.heap ks a) (q:Q false s):wpAny (model prog w) A (ofAClassStatement 8 (.ref a)) Q E s:=by
 have hT:=hk.typeIs;obtain⟨o,items,n,ho,_,hd,hi⟩:=hk;unfold ofAClassStatement;refine aA (rN hT ?_);dsimp only;rw[if_pos (by decide)];refine aA (aK ?_);simp only[fS,aN,if_false];refine aA (eW ho hd ?_)
 try dsimp only
 refine aA ?_;rw[<-qE];refine sM _ (λrest r s'=>r.1=none/\s'=s/\∀v∈rest,carriedByValue v=true) _ ?_ ?_ _ _ ⟨rfl,rfl,hi.byValue⟩
 ·rintro v rest r s' ⟨hr,rfl,cn⟩;have hv:=cn v dX;have e:ofAClassStatement 7 v=pure false:=by
   cases v with
   | ref a=>simp[carriedByValue] at hv
   | _=>first | rfl | (unfold ofAClassStatement;rfl)
  rw[e];refine aA (aK ?_);simp only[aN,if_false];exact aK ⟨rfl,rfl,λu vp=>cn u (bQ _ vp)⟩
 ·rintro⟨r1,r2⟩ s' ⟨hr,rfl,_⟩;simp only at hr;subst hr;exact aK q
theorem Ev (hk:IsTupleKey (intKind prog w) s.heap ks a) (q:Q true s):wpAny (model prog w) A (hashByValue 8 (.ref a)) Q E s:=by
 have hT:=hk.typeIs;obtain⟨o,items,n,ho,_,hd,hi⟩:=hk;unfold hashByValue;refine aA (nU hT F.slot_tuple_hash.lookup ?_)
 try dsimp only
 refine aA (eW ho hd ?_)
 try dsimp only
 refine aA ?_;show wpAny _ _ (forIn items _ _) _ _ s;rw[<-qE];refine sM _ (λrest r s'=>r.1=none/\s'=s/\∃ks',ItemsAre (intKind prog w) ks' rest) _ ?_ ?_ _ _ ⟨rfl,rfl,ks,hi⟩
 ·rintro v rest r s' ⟨hr,rfl,ks',cn⟩;cases cn with
  | @cons k _ ks'' _ h1 h2 =>
   have e:hashByValue 7 v=pure true:=by
    obtain⟨t,rfl⟩:∃t,v = .int k t:=by
     cases v <;> simp[intKind,LV] at h1;exact⟨_,by rw[h1]⟩
    rfl
   rw[e];refine aA (aK ?_);simp only[fS,aN,if_false];exact aK ⟨rfl,rfl,_,h2⟩
 ·rintro⟨r1,r2⟩ s' ⟨hr,rfl,_⟩;simp only at hr;subst hr;exact aK q
theorem Tz {ks:List Int} {a:Addr} {stored:List aD} {Q:Bool->aG->Prop} (hk:IsTupleKey (intKind prog w) s.heap ks a) (hs:∀y∈stored,∃ks' b,y = .ref b/\IsTupleKey (intKind prog w) s.heap ks' b) (q:Q false s) :
  wpAny (model prog w) A (searchCouldBeSeen (.ref a) stored) Q E s:=by
 unfold searchCouldBeSeen;refine aA ?_;refine sM _ (λrest r s'=>r.1=none/\s'=s/\∀y∈rest,y∈stored) _ ?_ ?_ _ _ ⟨rfl,rfl,λ_ h=>h⟩
 ·rintro v rest r s' ⟨hr,rfl,cn⟩;obtain⟨ks',b,rfl,hb⟩:=hs v (cn v dX);have t5:∀y∈rest,y∈stored:=λu vp=>cn u (bQ _ vp);dsimp only;by_cases hv:((a == b) || (carriedByValue (fX a) && carriedByValue (fX b)))=true
  ·rw[if_pos hv];exact aK ⟨rfl,rfl,t5⟩
  ·rw[if_neg hv];refine aA (AO hk ?_);simp only[fS,aN,if_false];refine aA (AO hb ?_);simp only[fS,aN,if_false];refine aA (Bk hk ?_);simp only[aN,if_false];refine aA (Bk hb ?_);simp only[aN,if_false];exact aK ⟨rfl,rfl,t5⟩
 ·rintro⟨r1,r2⟩ s' ⟨hr,rfl,_⟩;simp only at hr;subst hr;exact aK q
def nK (w:dI):Bool:=w.params.followText "set-order"
def Vx (prog:cE) (w:dI) (h:Heap) (es:Array (Int × aD)):Prop:=∀e∈es.toList,∃ks b,e=(tupleKeyHash (intKind prog w) ks,.ref b)/\IsTupleKey (intKind prog w) h ks b
def La (mask n:Nat):Prop:=(mask=7/\n<=4)\/(mask=31/\n<=18)\/(mask=127/\n<=76)
def oB (es:Array (Int × aD)) (ep:Nat) (t:SetTable):Obj:={ cls:=.type "set",dict:=none,data:=.set es ep t }
theorem dc.fits (T:dc t n):t.fits n=true:=by
 unfold SetTable.fits fill;rw[T.dum,T.size];simp;exact T.room
theorem Mw {mask n:Nat} (h:La mask n):(mask % 2 == 0)=false:=by
 rcases h with ⟨rfl,_⟩ | ⟨rfl,_⟩ | ⟨rfl,_⟩ <;> rfl
def gy (prog:cE) (w:dI) (h:Heap):List (Int × aD)->List (List Int)->Prop
 | [],[]=>True
 | e::es,k::ks=>(∃b,e=(tupleKeyHash (intKind prog w) k,.ref b)/\IsTupleKey (intKind prog w) h k b)/\gy prog w h es ks
 | _,_=>False
theorem gy.get:∀{es:List (Int × aD)} {kss:List (List Int)} {i:Nat} {e:Int × aD},gy prog w h es kss->es[i]? = some e->∃k,kss[i]? = some k/\∃b,e=(tupleKeyHash (intKind prog w) k,.ref b)/\IsTupleKey (intKind prog w) h k b
 | _::_,k::_,0,_,K,e=>by cases e;exact⟨k,rfl,K.1⟩
 | _::es,_::ks,i+1,_,K,e=>gy.get (es:=es) (kss:=ks) (i:=i) K.2 e
 | [],_,_,_,_,e=>by cases e
theorem gy.len:∀{es:List (Int × aD)} {kss:List (List Int)},gy prog w h es kss->es.length=kss.length
 | [],[],_=>rfl
 | _::_,_::_,K=>congrArg (· + 1) (gy.len K.2)
theorem gy.mono:∀{es:List (Int × aD)} {kss:List (List Int)},gy prog w h es kss->(∀k b,(∃e∈es,e.2 = .ref b)->IsTupleKey (intKind prog w) h k b->IsTupleKey (intKind prog w) h' k b)->gy prog w h' es kss
 | [],[],_,_=>trivial
 | _::_,_::_,⟨⟨b,e,hb⟩,K⟩,m=>⟨⟨b,e,m _ b ⟨_,.head _,by rw[e]⟩ hb⟩,K.mono λk b ⟨x,hx,ex⟩ q=>m k b ⟨x,.tail _ hx,ex⟩ q⟩
theorem gy.perm (p:es.Perm ov):∀{kss:List (List Int)},gy prog w h es kss->∃se,kss.Perm se/\gy prog w h ov se:=by
 induction p with
 | nil=>exact λ{kss} K=>⟨kss,.refl _,K⟩
 | cons x _ ih =>
  intro kss K;cases kss with
  | nil=>exact K.elim
  | cons k kss =>
   obtain⟨se,p',K'⟩:=ih K.2;exact⟨k::se,.cons k p',K.1,K'⟩
 | swap x y l =>
  intro kss K;cases kss with
  | nil=>exact K.elim
  | cons k kss =>
   cases kss with
   | nil=>exact K.2.elim
   | cons k' kss=>exact⟨k'::k::kss,.swap _ _ _,K.2.1,K.1,K.2.2⟩
 | trans _ _ Z7 Z8 =>
  intro kss K;obtain⟨k1,p1,K1⟩:=Z7 K;obtain⟨k2,p2,K2⟩:=Z8 K1;exact⟨k2,p1.trans p2,K2⟩
theorem VJ {S a:Addr} {ep:Nat} (hu:A.units<cLine) (ho:s.heap.get? S=some (oB es ep t)) (T:dc t es.size) (hf:La t.mask es.size) (he:Vx prog w s.heap es)
  (hk:IsTupleKey (intKind prog w) s.heap ks a) (q1:(∃e∈es.toList,∃b,e.2 = .ref b/\IsTupleKey (intKind prog w) s.heap ks b)->Q (.there none) s) {kss:List (List Int)} (KL:gy prog w s.heap es.toList kss) (q2:∀j,t.slot j = .empty->jo t.mask (kj t) j (w9 t.mask (tupleKeyHash (intKind prog w) ks))->ks ∉ kss->Q (.free j false) s) :
  ∀(fuel:Nat) (j9:Option Probe) (m:Nat),TV t (j9.getD (t.probeStart (tupleKeyHash (intKind prog w) ks))) m->NC (j9.getD (t.probeStart (tupleKeyHash (intKind prog w) ks))) m<10*turns t.mask->NC (j9.getD (t.probeStart (tupleKeyHash (intKind prog w) ks))) m<fuel ->
   (∀x,jo t.mask (kj t) x (j9.getD (t.probeStart (tupleKeyHash (intKind prog w) ks)))->jo t.mask (kj t) x (w9 t.mask (tupleKeyHash (intKind prog w) ks)))->(∀j1 i1:Nat,t.place[i1]? = some j1->kss[i1]? = some ks->jo t.mask (kj t) j1 (j9.getD (t.probeStart (tupleKeyHash (intKind prog w) ks)))) ->
   wpAny (model prog w) A (setSearchFrom S (.ref a) (tupleKeyHash (intKind prog w) ks) true fuel j9) Q E s
 | 0,_,_,_,_,h,_,_=>absurd h (nR _)
 | fuel+1,j9,m,hi,hm,hl,v1,v2=>by
  have hashAt:∀i1:Nat,kss[i1]? = some ks->(es[i1]?.map (·.1)).getD 0=tupleKeyHash (intKind prog w) ks:=λi1 e1=>by
   have lt:i1<es.toList.length:=(by rw[KL.len];exact (bI.mp e1).1);obtain⟨k,g1,b,g2,_⟩:=KL.get (aE lt);rw[e1] at g1;cases g1;have:es[i1]? = some es.toList[i1]:=(by rw[<-jQ,aE lt]);rw[this,g2];rfl
  unfold setSearchFrom;refine aA (jM ho rfl T.fits ?_);dsimp only;rw[if_neg (by unfold SetTable.gaveWay;rw[Mw hf];exact cO)];unfold probe;rcases UX T.dum _ (tupleKeyHash (intKind prog w) ks) (10*turns t.mask) _ m hi hm with ⟨j,e,ej,w1,w2⟩ | ⟨j,i,next,m',e,ej,xt,jf,I_,w1,w2⟩
  ·rw[e];dsimp only;refine aK (q2 j ej (v1 _ w1) λr8=>?_);obtain⟨i1,lt,e1⟩:=dS r8;have e1:kss[i1]? = some ks:=(by rw[aE lt,e1]);have lp:i1<t.place.size:=(by rw[T.size,<-cT,KL.len];exact lt);have we:t.place[i1]? = some t.place[i1]:=bH lp;exact w2 _ i1 (LN T.ris we) (hashAt i1 e1) (v2 _ i1 we e1)
  ·rw[e];dsimp only;have W4:i<es.size:=by
    have:=(jK.mp xt).1;rw[T.size] at this;exact this
   have ei:es[i]? = some es[i]:=bH W4;have mi:es[i]∈es.toList:=(by simp);obtain⟨ks',kk',b,ee,hb⟩:=KL.get (i:=i) (e:=es[i]) (by rw[jQ];exact ei);have rest:wpAny (model prog w) A (match es[i]? with
    | some (fst,y)=>do
     let equal <-holding [y] (eqBool y (fX a));let T8 <-setState S
     if (true && equal)=true then pure (OP none)
      else
       match T8.2.snd.sameMemory t.moves t.mask with
       | some same =>
        let zm <-match if same=true then T8.2.snd.slot j else Slot.empty with
        | Slot.live i' =>
         match T8.fst[i']? with
         | some (fst,y')=>do pure (if <-isSame y' y then some i' else none)
         | none=>pure none
        | _=>pure none
        match zm with
        | none=>do
         rule "set.search.anew"
         setSearchFrom S (fX a) (tupleKeyHash (intKind prog w) ks) true fuel none
        | some i' =>
         if equal=true then pure (OP (some i'))
         else setSearchFrom S (fX a) (tupleKeyHash (intKind prog w) ks) true fuel (some next)
       | _=>unsupported "set.changed-during-lookup:is-the-new-block-at-the-old-address"
    | _=>unsupported "internal:set-entry") Q E s:=by
    rw[ei,ee];dsimp only;refine aA (fU (wpAny_eqBool_tuple hu hb hk ?_));refine aA (jM ho rfl T.fits ?_);dsimp only;by_cases G':ks'=ks
    ·subst G';rw[if_pos (by simp)];exact aK (q1 ⟨_,mi,b,by rw[ee],hb⟩)
    ·rw[if_neg (by simp[G'])];have sm:t.sameMemory t.moves t.mask=some true:=(by unfold sameMemory;rw[if_pos (by simp)]);rw[sm];dsimp only;rw[if_pos rfl,ej];dsimp only;rw[ei,ee];dsimp only;refine aA ?_;have same:isSame (.ref b) (.ref b)=pure true:=by
      show (if (b == b)=true then pure true else _)=_;rw[if_pos (by simp)]
     rw[same];refine aK (aA (aK ?_));rw[if_pos rfl];dsimp only;rw[if_neg (by simp[G'])];refine VJ hu ho T hf he hk q1 KL q2 fuel (some next) m' jf (rB I_ hm) (by simp only[lA];lia) (λx v=>v1 x (w1 x v)) λj1 i1 e1 k1=>?_;have sl:=LN T.ris e1;rcases w2 j1 i1 sl (hashAt i1 k1) (v2 j1 i1 e1 k1) with rfl | h
     ·rw[sl] at ej;cases ej;rw[k1] at kk';cases kk';exact absurd rfl G'
     ·exact h
   cases r9:t.led with
   | true =>
    simp only[fS,aN,if_false];exact rest
   | false =>
    simp only[mL,if_true];refine aA (Tz hk ?_ ?_)
    ·intro y hy;obtain⟨e0,he0,rfl⟩:=bJ.mp hy;have:=(Array.mem_filter.mp (iM.mp he0)).1;obtain⟨ks1,b1,e1,h1⟩:=he e0 (iM.mpr this);exact⟨ks1,b1,by rw[e1],h1⟩
    ·simp only[aN,if_false];exact rest
structure iy (prog:cE) (w:dI) (h:Heap) (S:Addr) (es:Array (Int × aD)):Prop where
 tab:∃ep t,h.get? S=some (oB es ep t)/\dc t es.size/\La t.mask es.size/\t.led = !nK w/\t.plain=true/\zv t es.toList
 els:Vx prog w h es
 dis:∃kss,gy prog w h es.toList kss/\kss.Nodup
theorem qP {S b:Addr} {ep:Nat} (hS:h.get? S=some (oB es ep t)) (up:∀b o,b≠S->h.get? b=some o->h'.get? b=some o) (hk:IsTupleKey (intKind prog w) h ks b):IsTupleKey (intKind prog w) h' ks b:=by
 obtain⟨o,items,n,ho,hc,hd,hi⟩:=hk;refine⟨o,items,n,up b o ?_ ho,hc,hd,hi⟩;rintro rfl;rw[hS] at ho;cases ho;exact nomatch hd
theorem ZG (h:n<100):OQ n=n*4:=by
 unfold OQ;rw[if_neg (by lia)]
theorem Et {S a:Addr} (hu:A.units<cLine) (H:iy prog w s.heap S es) (hk:IsTupleKey (intKind prog w) s.heap ks a) (hn:es.size<76)
  (q:∀b h' tk ov,iy prog w h' S ov->(∀y∈ov.toList,y∈es.toList\/y.2 = .ref a)->(∀y∈es.toList,y∈ov.toList)->(∃y∈ov.toList,∃b,y.2 = .ref b/\IsTupleKey (intKind prog w) h' ks b)->ov.size<=es.size+1 ->
   (∀b o,b≠S->s.heap.get? b=some o->h'.get? b=some o)->h'.objs.size=s.heap.objs.size->s.toks<=tk->Q b { s with heap:=h',toks:=tk }) :
  wpAny (model prog w) A (setAdd S (.ref a)) Q E s:=by
 obtain⟨⟨ep,t,ho,T,hf,r9,js,u9⟩,vd,kss,KL,knd⟩:=H;unfold setAdd;refine fU (aA (wpAny_pyHash_tuple hu hk ?_));unfold setAddHashed;refine fU ?_;unfold setAddHashedIn;refine aA (jM (s:={ s with toks:=s.toks+(ks.length+1) }) ho rfl T.fits ?_);dsimp only;have nb:byScan (.ref a) es=false:=by unfold byScan;simp[Value.scannable]
 rw[nb];simp only[aN,if_false];obtain⟨m,hi,hm⟩:=Kp T (tupleKeyHash (intKind prog w) ks);have hm2:NC (t.probeStart (tupleKeyHash (intKind prog w) ks)) m<100000:=by
  refine cB hm ?_;unfold turns;rcases hf with ⟨e,_⟩ | ⟨e,_⟩ | ⟨e,_⟩ <;> rw[e] <;> decide
 unfold setSearch;refine aA (VJ (s:={ s with toks:=s.toks+(ks.length+1) }) hu ho T hf vd hk ?_ KL ?_ 100000 none m hi hm hm2 (λx v=>v) ?_)
 ·rintro⟨e,he,b,e2,hb⟩;dsimp only;refine aK ?_;exact q false s.heap _ es ⟨⟨ep,t,ho,T,hf,r9,js,u9⟩,vd,kss,KL,knd⟩ (λy hy=>cW hy) (λy hy=>hy) ⟨e,he,b,e2,hb⟩ (by lia) (λb o _ e=>e) rfl (by show s.toks<=s.toks+_;lia)
 ·intro j hj Y9 hnk;dsimp only;refine aA (jM (s:={ s with toks:=s.toks+(ks.length+1) }) ho rfl T.fits ?_);dsimp only;have room:es.size+1<=t.mask:=by rcases hf with ⟨e,h⟩ | ⟨e,h⟩ | ⟨e,h⟩ <;> lia
  obtain⟨T1,p1,p2,p3,p4,p5,p6⟩:=Yn T hj room;rw[p5,js];simp only[if_true];refine aA (Ev (s:={ s with toks:=s.toks+(ks.length+1) }) hk ?_);simp only[if_true];rw[p1];have sz:=ES es (below t.place j) (tupleKeyHash (intKind prog w) ks,fX a) p2;have mem:=IQ es (below t.place j) (tupleKeyHash (intKind prog w) ks,fX a) p2;have xl:=Qx (e:=(tupleKeyHash (intKind prog w) ks,fX a)) T T1 u9 Y9;have qj:=PySem.SetTable.insertAt_perm es (below t.place j) (tupleKeyHash (intKind prog w) ks,fX a);rw[vP] at qj;have qj:=(qj.trans (AJ (l₁:=es.toList) (l₂:=[_]))).symm;generalize insertAt es (below t.place j) (tupleKeyHash (intKind prog w) ks,fX a)=g8 at sz mem xl qj;refine aA (JQ (s:={ s with toks:=s.toks+(ks.length+1) }) ho rfl ?_ (by rw[sz,mD];lia));have up1:∀b o,b≠S->s.heap.get? b=some o->(s.heap.update S (oP g8 (t.put j).1)).get? b=some o:=λb o hb e=>(cQ _ _ (Ne.symm hb)).trans e;obtain⟨we,g1⟩:∃we,(s.heap.update S (oP g8 (t.put j).1)).get? S=some (oB g8 we (t.put j).1):=⟨_,eD _ ho rfl⟩;have z1:(s.heap.update S (oP g8 (t.put j).1)).objs.size=s.heap.objs.size:=(iB ..).1;generalize s.heap.update S (oP g8 (t.put j).1)=h1 at up1 g1 z1;have xq:Vx prog w h1 g8:=by
   intro e he;rcases (mem e).mp he with rfl | he
   ·exact⟨ks,a,rfl,qP ho up1 hk⟩
   ·obtain⟨ks',b,r1,r2⟩:=vd e he;exact⟨ks',b,r1,qP ho up1 r2⟩
  obtain⟨yw,qy,KL1⟩:=gy.perm qj (kss:=ks::kss) ⟨⟨a,rfl,qP ho up1 hk⟩,KL.mono λk b _ q=>qP ho up1 q⟩;have yv:yw.Nodup:=qy.nodup_iff.mp (fN.mpr ⟨hnk,knd⟩);have z_:dc (t.put j).1 g8.size:=by rw[sz];exact T1
  have tx:(t.put j).1.fill=g8.size:=by unfold fill;rw[z_.size,z_.dum];simp
  by_cases tf:(t.put j).1.tooFull=true
  ·rw[tf];simp only[mL,Bool.and_self,if_true];have tf':=tf;unfold tooFull at tf';rw[tx,p3,sz] at tf';simp only[ge_iff_le,decide_eq_true_eq] at tf';have m6:(t.mask=7/\es.size=4)\/(t.mask=31/\es.size=18):=(by rcases hf with ⟨e,h⟩ | ⟨e,h⟩ | ⟨e,h⟩ <;> lia);unfold setRelay;refine aA (aA (jM (s:={ s with heap:=h1,toks:=s.toks+(ks.length+1) }) g1 rfl z_.fits ?_));dsimp only;have hw:SetTable.sizeAbove (grown (es.size+1))=(if t.mask=7 then 32 else 128):=by
    rw[ZG (by lia)];rcases m6 with ⟨e,h⟩ | ⟨e,h⟩ <;> rw[e,h] <;> decide
   rw[if_neg (by rw[hw,mD];split <;> decide)];have R:g7 ((if t.mask=7 then 31 else 127)+1):=by
    split
    ·exact Tx
    ·exact Pq
   obtain⟨t2,order,l1,T2,l3,l4,l5,l6⟩:=Rz R (t.put j).1.finger ((t.put j).1.movedTo (if t.mask=7 then 31 else 127)) (t.put j).1.led (t.put j).1.plain (g8.map (·.1)) (by rw[AR,sz];rcases m6 with ⟨e,h⟩ | ⟨e,h⟩ <;> rw[e,h] <;> decide);have er:(t.put j).1.relaid (g8.map (·.1)) (grown (es.size+1))=some (t2,order):=by
    unfold relaid;rw[hw];have:(if t.mask=7 then 32 else 128)-1=(if t.mask=7 then 31 else 127):=(by split <;> rfl);rw[this];exact l1
   rw[er];rw[AR] at T2 l6;have U8:(order.filterMap (g8[·]?)).toList.Perm g8.toList:=by
    rw[yD];refine (l6.filterMap _).trans ?_;have:(dZ g8.size).filterMap (g8[·]?)=g8.toList:=by
     apply vV;intro i;have key:∀n,n<=g8.size->(dZ n).filterMap (g8[·]?)=g8.toList.take n:=by
      intro n
      induction n with
      | zero=>intro _;rfl
      | succ n ih =>
       intro hn;rw[MP,List.filterMap_append,ih (by lia)];have:g8[n]? = some g8[n]:=bH (by lia);simp only[eO,this,List.filterMap_nil];rw[mR];simp[show n<g8.size by lia]
     rw[key _ (bU _),<-cT,rZ]
    rw[this]
   have l_:(order.filterMap (g8[·]?)).size=g8.size:=(by rw[<-cT,U8.length_eq,cT]);have gm:((order.filterMap (g8[·]?)).size != g8.size)=false:=(by rw[l_];simp);refine aA ?_;show wpAny _ _ (if ((order.filterMap (g8[·]?)).size != g8.size)=true then (unsupported "internal:set-table-lost-an-element" >>= λ_=>pure (order.filterMap (g8[·]?),t2)) else pure (order.filterMap (g8[·]?),t2)) _ _ _;rw[gm];simp only[aN,if_false];refine aK ?_;dsimp only;have qi:∀y,y∈(order.filterMap (g8[·]?)).toList↔y∈g8.toList:=λy=>U8.mem_iff;have xm:zv t2 (order.filterMap (g8[·]?)).toList:=by
    intro x hx;rw[yD] at hx;obtain⟨k,h1,h2⟩:=Qi _ _ (λk r8=>by
     have:=gR.mp (l6.mem_iff.mp r8);exact⟨_,bH this⟩) x hx
    obtain⟨r8,g1,g2⟩:=Ni l1 (by rw[AR];exact T2) _ h1;have:r8=x.2.1:=by
     have h2:g8[k]? = some x.2:=h2;rw[jQ,Array.getElem?_map,h2] at g1;exact (eB g1).symm
    rw[<-this];exact g2
   obtain⟨Z',Z_,KL2⟩:=gy.perm U8.symm KL1;generalize order.filterMap (g8[·]?)=rl at l_ qi xm KL2;refine JQ (s:={ s with heap:=h1,toks:=s.toks+(ks.length+1) }) g1 rfl ?_ (by rw[l_,sz,mD];lia);have kb:∀b o,b≠S->s.heap.get? b=some o->(h1.update S (oP rl t2)).get? b=some o:=λb o hb e=>(cQ _ _ (Ne.symm hb)).trans (up1 b o hb e);have zq:∀b o,b≠S->h1.get? b=some o->(h1.update S (oP rl t2)).get? b=some o:=λb o hb e=>(cQ _ _ (Ne.symm hb)).trans e;obtain⟨U7,g2⟩:∃U7,(h1.update S (oP rl t2)).get? S=some (oB rl U7 t2):=⟨_,eD _ g1 rfl⟩;have z2:(h1.update S (oP rl t2)).objs.size=s.heap.objs.size:=((iB ..).1).trans z1;refine aK (q true (h1.update S (oP rl t2)) _ rl ⟨⟨U7,t2,g2,by rw[l_];exact T2,?_,by rw[l4,p4];exact r9,by rw[l5,p5];exact js,xm⟩,?_,Z',KL2.mono λk b _ q=>qP g1 zq q,Z_.nodup_iff.mp yv⟩ (λy hy=>?_) (λy hy=>(qi y).mpr ((mem y).mpr (cV hy))) ⟨_,(qi _).mpr ((mem _).mpr (cW rfl)),a,rfl,qP ho kb hk⟩ (by lia) kb z2 (by show s.toks<=s.toks+_;lia))
   ·rw[l3,l_,sz];unfold La;rcases m6 with ⟨e,h⟩ | ⟨e,h⟩ <;> rw[e,h] <;> decide
   ·intro e he;obtain⟨ks',b,r1,r2⟩:=xq e ((qi e).mp he);exact⟨ks',b,r1,qP g1 zq r2⟩
   ·rcases (mem y).mp ((qi y).mp hy) with rfl | h
    ·exact cV rfl
    ·exact cW h
  ·have P_:(t.put j).1.tooFull=false:=(by simpa using tf);rw[P_];simp only[AT,aN,if_false];refine aK (q true h1 _ g8 ⟨⟨we,_,g1,z_,?_,by rw[p4];exact r9,by rw[p5];exact js,xl⟩,xq,yw,KL1,yv⟩ (λy hy=>?_) (λy hy=>(mem y).mpr (cV hy)) ⟨_,(mem _).mpr (cW rfl),a,rfl,qP ho up1 hk⟩ (by lia) up1 z1 (by show s.toks<=s.toks+_;lia))
   ·unfold tooFull at P_;rw[tx,p3,sz] at P_;simp only[ge_iff_le,decide_eq_false_iff_not] at P_;rw[p3,sz];unfold La;rcases hf with ⟨e,h⟩ | ⟨e,h⟩ | ⟨e,h⟩ <;> lia
   ·rcases (mem y).mp hy with rfl | h
    ·exact cV rfl
    ·exact cW h
 ·intro j1 i1 e1 k1;have lt:i1<es.toList.length:=by rw[KL.len];exact (bI.mp k1).1
  obtain⟨k,g1,b,g2,_⟩:=KL.get (aE lt);rw[k1] at g1;cases g1;have:=u9 (j1,es.toList[i1]) (List.mem_iff_getElem?.mpr ⟨i1,by rw[lP];exact⟨by rw[jQ];exact e1,aE lt⟩⟩);rw[g2] at this;exact this
end
end
section
open PySem PySem.SetTable PyProof.Rows
section
variable {prog:cE} {w:dI}
theorem iy.other {S:Addr} (H:iy prog w h S es) (up:∀b o,h.get? b=some o->(∃e∈es.toList,e.2 = .ref b)\/b=S->h'.get? b=some o):iy prog w h' S es:=by
 obtain⟨⟨ep,t,ho,r⟩,els,kss,KL,nd⟩:=H;refine⟨⟨ep,t,up _ _ ho (cV rfl),r⟩,λe he=>?_,kss,KL.mono λk b hb ⟨o,items,n,h1,h2,h3,h4⟩=>⟨o,items,n,up b o h1 (cW hb),h2,h3,h4⟩,nd⟩;obtain⟨ks,b,e1,o,items,n,h1,h2,h3,h4⟩:=els e he;exact⟨ks,b,e1,o,items,n,up b o h1 (cW ⟨e,he,by rw[e1]⟩),h2,h3,h4⟩
structure g9 (prog:cE) (w:dI) (items:Array aD) (key:Nat->List Int) (S:Addr) (i:Nat) (h:Heap):Prop where
 ex:∃es,iy prog w h S es/\(∀y∈es.toList,∃j,j<i/\items[j]? = some y.2)/\(∀j,j<i->∃y∈es.toList,∃b,y.2 = .ref b/\IsTupleKey (intKind prog w) h (key j) b)/\es.size<=i
theorem Pu (hh:A.in1.handled=none) (gm:l≠I) (hu:A.in1.units<cLine) (S:Addr) (qw:S≠I) (xz:S≠l)
  (hi:∀i v,items[i]? = some v->∃a,v = .ref a/\IsTupleKey (intKind prog w) h0 (key i) a/\a≠S/\a≠I) (hb:items.size<=76) :
  ∀(k i:Nat) (s:aG),items.size-i=k->i<=items.size->s.heap.IsListIter I l i/\s.heap.IsList l items->g9 prog w items key S i s.heap ->
   (∀b o,b≠S->b≠I->h0.get? b=some o->s.heap.get? b=some o) ->
   (∀h' tk,g9 prog w items key S items.size h'->(∀b o,b≠S->b≠I->h0.get? b=some o->h'.get? b=some o)->R (.ok (.ret .none)) { s with heap:=h',toks:=tk }) ->
   codeAny (model prog w) A (.builtin "set.update.loop" ⟨[.ref S,.ref I],[]⟩) R s:=by
 have W:=OR (prog:=prog) (w:=w) (A:=A.in1) hh I l gm items;have wr:∀{b:Addr},b≠I->b ∉ [I]:=λh=>by simpa using h
 have qg:∀{h:Heap} {i:Nat} {a:Addr},(∀b o,b≠S->b≠I->h0.get? b=some o->h.get? b=some o)->IsTupleKey (intKind prog w) h0 (key i) a->a≠S->a≠I->IsTupleKey (intKind prog w) h (key i) a:=by
  intro h i a up hk n1 n2;obtain⟨o,its,n,h1,h2,h3,h4⟩:=hk;exact⟨o,its,n,up a o n1 n2 h1,h2,h3,h4⟩
 have move:∀{h h':Heap} {i:Nat},i<=items.size->g9 prog w items key S i h->(∀b o,b≠I->h.get? b=some o->h'.get? b=some o)->g9 prog w items key S i h':=by
  intro h h' i jf ⟨es,D,d1,d2,d3⟩ up;refine⟨es,D.other λb o e hm=>up b o ?_ e,d1,λj hj=>?_,d3⟩
  ·rcases hm with ⟨y,hy,ey⟩ | rfl
   ·obtain⟨j,hj,ej⟩:=d1 y hy;obtain⟨a,ea,_,_,na⟩:=hi j y.2 ej;rw[ey] at ea;cases ea;exact na
   ·exact qw
  ·obtain⟨y,hy,b,e1,o,its,n,h1,h2,h3,h4⟩:=d2 j hj;refine⟨y,hy,b,e1,o,its,n,up b o ?_ h1,h2,h3,h4⟩;obtain⟨j',qf,ej⟩:=d1 y hy;obtain⟨a,ea,_,_,na⟩:=hi j' y.2 ej;rw[e1] at ea;cases ea;exact na
 intro k
 induction k with
 | zero =>
  intro i s hk jf st D up hR;have hin:i=items.size:=by lia
  subst hin;refine gC F.entry_set_update_loop ?_;rw[eY F.plain_set_update_loop _];show wpAny _ A.in1 (pyNext (.ref I) >>= _) _ _ s;refine aA (W.done s _ _ st λh' tk kp=>?_);show wpAny _ A.in1 (ret gI) _ _ _;exact aK (hR h' tk (move (bU _) D λb o hb e=>kp b o (wr hb) e) λb o n1 n2 e=>kp b o (wr n2) (up b o n1 n2 e))
 | succ k ih =>
  intro i s hk jf st D up hR;have dk:i<items.size:=by lia
  refine gC F.entry_set_update_loop ?_;rw[eY F.plain_set_update_loop _];show wpAny _ A.in1 (pyNext (.ref I) >>= _) _ _ s;refine aA (W.item i s _ _ dk st λv h' tk hv e_ kp=>?_);obtain⟨a,rfl,hka,na1,na2⟩:=hi i v hv;obtain⟨es,D1,d1,d2,d3⟩:=move jf D (λb o hb e=>kp b o (wr hb) e);have up':∀b o,b≠S->b≠I->h0.get? b=some o->h'.get? b=some o:=λb o n1 n2 e=>kp b o (wr n2) (up b o n1 n2 e);show wpAny _ A.in1 (holding [fX a] (setAdd S (.ref a)) >>= _) _ _ _;refine aA (fU ?_);refine Et (s:={ s with heap:=h',toks:=tk }) hu D1 (qg up' hka na1 na2) (by lia) λ_ h2 tk2 rl D2 m1 m2 m3 m4 kb z2 _=>?_;refine aK ⟨gT F.plain_set_update_loop _,ih (i+1) _ (by lia) dk ⟨e_.1.at λo e=>kb _ o (Ne.symm qw) e,e_.2.at λo e=>kb _ o (Ne.symm xz) e⟩ ?_ (λb o n1 n2 e=>kb b o n1 (up' b o n1 n2 e)) λh3 tk3 D3 ap=>hR h3 tk3 D3 ap⟩;refine⟨rl,D2,λy hy=>?_,λj hj=>?_,by lia⟩
  ·rcases m1 y hy with h | h
   ·obtain⟨j,hj,ej⟩:=d1 y h;exact⟨j,by lia,ej⟩
   ·exact⟨i,by lia,by rw[h];exact hv⟩
  ·by_cases hji:j=i
   ·subst hji;exact m3
   ·obtain⟨y,hy,b,e1,o,its,n,h1,D_,h3,h4⟩:=d2 j (by lia);refine⟨y,m2 y hy,b,e1,o,its,n,kb b o ?_ h1,D_,h3,h4⟩;obtain⟨j',qf,ej⟩:=d1 y hy;obtain⟨a',ea,_,na,_⟩:=hi j' y.2 ej;rw[e1] at ea;cases ea;exact na
theorem Bi (a:aD) (h:Q₁ (.ref s.heap.objs.size) { s with heap:=s.heap.push (oB #[] 0 (.fresh 0 0 (!nK w))) }) :
  codeAny (model prog w) A (.call (.builtin "set.__new__") ⟨[.type "set",a],[]⟩) (wants Q₁ E) s:=by
 apply MW;show wpAny _ A.in1 (checkBuiltinCall "set.__new__" ⟨[.type "set",a],[]⟩ >>= λ_=>again (.builtin "set.__new__" ⟨[.type "set",a],[]⟩)) _ _ s;apply aA;refine pA (PySem.F.newCall_set_1 a) (aK ⟨gT AL _,gC PySem.F.entry_set_new ?_⟩);rw[eY AL _];unfold Builtin.«set.__new__» Builtin.Frozenset.newClass;have Y3:=sub_set_self;obtain⟨hp,g,d,tk,os⟩:=s;dsimp only;wp_walk;refine pL (aK ?_);dsimp only;simp only[newObj];apply aA;refine wpAny_alloc (aK ?_);exact aK h
theorem Kq (b:Bool):dc (.fresh 0 0 b) 0:=⟨rfl,rfl,gU _,Yw,oF⟩
def ZV (l:Addr):Obj:={ cls:=.type "list_iterator",data:=.fields #[.ref l,.int 0 0] }
theorem SN (hh:A.handled=none) (hu:A.units+8<cLine) (hl:s.heap.IsList l items)
  (hi:∀i v,items[i]? = some v->∃a,v = .ref a/\IsTupleKey (intKind prog w) s.heap (key i) a) (hb:items.size<=76)
  (q:∀h' tk,g9 prog w items key s.heap.objs.size items.size h'->(∀b o,s.heap.get? b=some o->h'.get? b=some o)->Q (.ref s.heap.objs.size) { s with heap:=h',toks:=tk }) :
  wpAny (model prog w) A (call (.type "set") [.ref l]) Q E s:=by
 obtain⟨c,tl,hmro⟩:=PySem.F.called_set.mro;have hmade:=PySem.F.called_set.made;have Y3:=PySem.F.called_set.sub;apply wpAny_call;apply MW;show wpAny _ _ (callAny (.type "set") _) _ _ _;refine aK ⟨Code.quiet_builtin _ (by decide +kernel),gC PySem.F.entry_type_call ?_⟩;rw[Around.under_plain (weight_type_call_type "set" [.ref l] []) rfl];have h1:=PySem.F.called_set.notType;have h2:=PySem.F.called_set.canCreate;have hct:=PySem.F.typeCall_set_1 (.ref l)
 repeat (any_goals (first | assumption | wp_step))
 refine uC (Bi (.ref l) (E:=E) (Q₁:=λobj s₁=>obj = .ref s.heap.objs.size/\s₁ = { s with heap:=s.heap.push (oB #[] 0 (.fresh 0 0 (!nK w))) }) ⟨rfl,rfl⟩) λr s₁ hr=>?_
 match r,hr with
 | .error e,hr=>exact hr
 | .ok (.ret obj),hr =>
  obtain⟨rfl,rfl⟩:=hr;have hS:(s.heap.push (oB #[] 0 (.fresh 0 0 (!nK w)))).get? s.heap.objs.size=some (oB #[] 0 (.fresh 0 0 (!nK w))):=bR _ rfl;have zS:(s.heap.push (oB #[] 0 (.fresh 0 0 (!nK w)))).objs.size=s.heap.objs.size+1:=gO ..;have kS:∀b o,s.heap.get? b=some o->(s.heap.push (oB #[] 0 (.fresh 0 0 (!nK w)))).get? b=some o:=λb o e=>aR _ e;have hT:EM { s with heap:=s.heap.push (oB #[] 0 (.fresh 0 0 (!nK w))) } (.ref s.heap.objs.size) "set":=⟨_,hS,rfl⟩;have hli:=PySem.F.called_set.init.lookup;have hbi:=PySem.F.called_set.init.bind (.ref s.heap.objs.size)
  repeat (any_goals (first | assumption | wp_step))
  generalize s.heap.push (oB #[] 0 (.fresh 0 0 (!nK w)))=h2 at hS zS kS hT;refine uC (codeAny_call_builtin (R:=wants (λr s₂=>r = .none/\∃h' tk,s₂ = { s with heap:=h',toks:=tk }/\g9 prog w items key s.heap.objs.size items.size h'/\(∀b o,s.heap.get? b=some o->h'.get? b=some o)) E) PySem.F.called_set.init.plain PySem.F.entry_set_init (check_set_init_1 hT ?_)) λr₂ s₂ hr₂=>?_
  ·obtain⟨ol,hol,k_,nl,hdl⟩:=hl;obtain⟨ocls,odict,odata,oslots⟩:=ol;simp only at k_ hdl;subst k_;subst hdl;have X9:=kS _ _ hol;have hsls:=PySem.F.sub_list_set;have hslf:=PySem.F.sub_list_frozenset;have gm:(iX "list" == iX "dict")=false:=(by decide);have W9:h2.IsList l items:=⟨_,X9,rfl,nl,rfl⟩;have lt:l<s.heap.objs.size:=aW hol;unfold Builtin.«set.__init__» noKeywords Builtin.Frozenset.updateFrom;generalize hPI:pyIter=PI;unfold oB at hS
   wp_walk
   subst hPI;refine kH W9 ?_;apply aA;apply SD;rw[zS];have zI:(h2.push (ZV l)).get? (s.heap.objs.size+1)=some (ZV l):=(by rw[<-zS];exact bR _ rfl);have kI:∀b o,h2.get? b=some o->(h2.push (ZV l)).get? b=some o:=λb o e=>aR _ e;show codeAny _ _ _ _ { s with heap:=h2.push (ZV l) };generalize h2.push (ZV l)=h3 at zI kI;have ne1:∀{b:Addr} {o:Obj},s.heap.get? b=some o->b≠s.heap.objs.size/\b≠s.heap.objs.size+1:=λe=>⟨bK (aW e),bK (gS (aW e))⟩;refine Pu (A:=A.in1.in1) (s:={ s with heap:=h3 }) (key:=key) (h0:=s.heap) (by simp[hh]) (bK (gS lt)) (by show A.units+3<cLine;lia) s.heap.objs.size (bK (mS _)) (eK lt) (λi v e=>?_) hb items.size 0 (yM _) (gU _) ⟨⟨_,zI,rfl,rfl⟩,W9.at λo e=>kI _ o e⟩ ?_ (λb o _ _ e=>kI b o (kS b o e)) λh' tk D up=>?_
   ·obtain⟨a,rfl,hk⟩:=hi i v e;refine⟨a,rfl,hk,?_⟩;obtain⟨o,_,_,ho,_⟩:=hk;exact ne1 ho
   ·exact⟨#[],⟨⟨0,_,kI _ _ hS,Kq _,cW ⟨rfl,gU _⟩,rfl,rfl,(λx hx=>by cases hx)⟩,(λe he=>by simp at he),[],trivial,.nil⟩,λy hy=>by simp at hy,λj hj=>absurd hj (nR _),gU _⟩
   ·show wpAny _ _ _ _ _ _;apply aK;show wpAny _ _ (ret gI) _ _ _;exact aK ⟨rfl,h',tk,rfl,D,λb o e=>up b o (ne1 e).1 (ne1 e).2 e⟩
  ·match r₂,hr₂ with
   | .error e,hr₂=>exact hr₂
   | .ok (.ret r),hr₂ =>
    obtain⟨rfl,h',tk,rfl,D,up⟩:=hr₂
    repeat (any_goals (first | assumption | wp_step))
    exact q _ _ D up
end
theorem Gz {α:Type} (next:Nat->Nat):∀(fuel k:Nat) (left:List α) (out:Array α),left.length<=fuel->(JB next fuel k left out).toList.Perm (out.toList++left)
 | 0,k,left,out,h=>by
  have:left=[]:=List.eq_nil_of_length_eq_zero (by lia);subst this;simp[JB]
 | fuel+1,k,left,out,h=>by
  unfold JB;cases e:left[next k % left.length]? with
  | none =>
   dsimp only;have:left=[]:=by
    cases left with
    | nil=>rfl
    | cons x r =>
     have:=List.getElem?_eq_none_iff.mp e;have:=jS (next k) (show 0<(x::r).length by simp);lia
   subst this;simp
  | some x =>
   dsimp only;have hi:next k % left.length<left.length:=(bI.mp e).1;refine (Gz next fuel (k+1) (left.eraseIdx (next k % left.length)) (out.push x) (by rw[List.length_eraseIdx_of_lt hi];lia)).trans ?_;rw[vP,fL];refine List.Perm.append_left _ ?_;have ex:left[next k % left.length]=x:=(bI.mp e).2;have el:left=left.take (next k % left.length)++x::left.drop (next k % left.length+1):=by
    rw[<-ex,<-gW hi,gL]
   rw[List.eraseIdx_eq_take_drop_succ]
   conv=>rhs;rw[el]
   rw[AK];exact (List.perm_middle (a:=x)).symm
def Ka {α:Type} (next:Nat->Nat) (xs:Array α):(pickOrder next xs).toList.Perm xs.toList:=by
 have:=Gz next xs.size 0 xs.toList #[] (by simp);simpa [pickOrder] using this
def Ol:Manifest.owners.lookup (String.ofList ['r','o','t','a','r','e','t','i','_','t','e','s'].reverse)=some Manifest.sig_set_iterator:=by kernel_rfl
def rM:Slot "set_iterator" "__next__" "set_iterator.__next__" :=
 .of (owner:="set_iterator") (n:="__next__") (by rw[qD,lN];kernel_rfl) (by decide +kernel) (by decide +kernel) (by decide +kernel) (by first | exact .inl (by decide +kernel) | exact .inr (by decide +kernel)) (by rw[PY];kernel_rfl)
def EQ:entryFor table "set_iterator.__next__" = some Builtin.«set_iterator.__next__»:=entryFor_of_tree (by kernel_rfl)
def HY (a:aD):argsOk "set_iterator.__next__" ⟨[a],[]⟩:=by
 unfold argsOk;rw[signature?_of (id:="set_iterator.__next__") (n:=['_','_','t','x','e','n','_','_']) (o:=['r','o','t','a','r','e','t','i','_','t','e','s']) (by kernel_rfl) Ol];kernel_rfl
def WK:entryFor table "set.__iter__" = some Builtin.«frozenset.__iter__»:=entryFor_alias (id':="frozenset.__iter__") (by kernel_rfl) rfl (by decide +kernel) (by kernel_rfl)
section
variable {w:dI}
def kO (w:dI) (S:Addr) (ep:Nat) (es:Array (Int × aD)):Array (Int × aD):=if nK w=true then pickOrder (w.params.setOrder S ep) es else es
theorem LQ (S:Addr) (ep:Nat) (es:Array (Int × aD)):(kO w S ep es).toList.Perm es.toList:=by
 unfold kO;split
 ·exact Ka _ _
 ·exact BA _
def slotAt (w:dI) (t:SetTable) (k:Nat):Nat:=if nK w=true then 0 else uF t k
def xA (w:dI) (S:Addr) (n ep:Nat) (t:SetTable) (k:Nat):Obj:={ cls:=.type "set_iterator",data:=.fields #[rawInt (slotAt w t k),rawInt k,.ref S,rawInt n,rawInt ep] }
theorem Bj {S:Addr} {ep k:Nat} (ho:s.heap.get? S=some (oB es ep t)) (T:dc t es.size) (hl:t.led = !nK w) (hp:t.plain=true) (hk:k<=es.size)
  (q:Q ((kO w S ep es)[k]?.map λe=>(e.2,slotAt w t (k+1))) s):wpAny (model prog w) A (setNext S (slotAt w t k) k ep) Q E s:=by
 unfold setNext;apply aA;refine jM ho rfl T.fits ?_;unfold setsByText;apply aA;apply aA;refine pL (aK ?_);show wpAny _ _ (if nK w=true then _ else _) _ _ _;by_cases hb:nK w=true
 ·rw[if_pos hb,if_neg (by simp)];apply aA;unfold setWalk;apply aA;refine jM ho rfl T.fits ?_;unfold setsByText;apply aA;apply aA;refine pL (aK ?_);show wpAny _ _ (if nK w=true then _ else _) _ _ _;rw[if_pos hb];apply aA;refine pL (aK (aK ?_));unfold kO slotAt at q;simp only[if_pos hb] at q;unfold slotAt;simp only[if_pos hb];exact q
 ·have hb0:nK w=false:=by simpa using hb
  rw[if_neg hb];show wpAny _ _ (if (!t.plain && decide (es.size > 1))=true then _ else _) _ _ _;rw[hp];simp only[fS,AU,aN,if_false];show wpAny _ _ ((if (!t.led && !es.isEmpty)=true then unsupported "set:maker-not-led" else pure ()) >>= _) _ _ _;rw[hl,hb0];simp only[mL,fS,AU,aN,if_false];apply aA;apply aK;apply aK;have np:=Dt T hk;unfold kO slotAt at q;simp only[if_neg hb] at q;unfold slotAt;simp only[if_neg hb];rw[np];by_cases dk:k<es.size
  ·have e1:es[k]? = some es[k]:=bH dk;have e2:t.place[k]? = some (t.place.getD k 0):=by
    have:k<t.place.size:=(by rw[T.size];exact dk);rw[bH this];simp[lB,this]
   rw[e1] at q;rw[e1,e2];have e3:uF t (k+1)=t.place.getD k 0+1:=(by unfold uF;rw[if_neg (by lia)];simp);rw[e3] at q;exact q
  ·have e1:es[k]? = none:=qT (by lia);rw[e1] at q;rw[e1];exact q
theorem CV {c:aD} (ho:s.heap.get? I=some { cls:=c,dict:=d,data:=.fields vs,slots:=sl }) (hi:i<vs.size)
  (q:∀h',h'.get? I=some { cls:=c,dict:=d,data:=.fields (vs.setIfInBounds i x),slots:=sl }->nB I s.heap h'->Q () { s with heap:=h' }):wpAny (model prog w) A (setField (.ref I) i x) Q E s:=by
 refine CY ho rfl hi (q _ ?_ (iB ..));have:=eD (Obj.mapFields λvs=>vs.setIfInBounds i x) ho rfl;rw[this];rfl
structure km (w:dI) (S I:Addr) (es:Array (Int × aD)) (ep:Nat) (t:SetTable) (k:Nat) (h:Heap):Prop where
 set:h.get? S=some (oB es ep t)
 it:h.get? I=some (xA w S es.size ep t k)
theorem Jn {S I:Addr} {ep k:Nat} (D:km w S I es ep t k s.heap) (ne:S≠I) (T:dc t es.size) (hl:t.led = !nK w) (hp:t.plain=true) (hk:k<es.size) (hx:(kO w S ep es)[k]? = some x)
  (q:∀h',km w S I es ep t (k+1) h'->nB I s.heap h'->Q (some x.2) { s with heap:=h' }):wpAny (model prog w) A (pyNext (.ref I)) Q E s:=by
 have ty:s.TypeIs (.ref I) "set_iterator":=⟨_,D.it,rfl⟩;unfold pyNext;apply aA;apply xB;refine iK (name:=lW "__next__") ty rM (iU rM ty EQ ?_ (HY _));unfold Builtin.«set_iterator.__next__»;apply aA;refine pA (a:=(fX I,[])) rfl ?_;apply aA;refine SC D.it rfl ?_;dsimp only[rawInt];apply aA;refine tV D.set rfl T.fits ?_;rw[if_neg (by simp)];apply aA;show wpAny _ _ (setNext S ((slotAt w t k:Nat):Int).toNat ((k:Nat):Int).toNat ((ep:Nat):Int).toNat) _ _ _;simp only[oD];refine Bj D.set T hl hp (nJ hk) ?_;rw[hx];dsimp only[Option.map];have xo:=D.it;unfold xA at xo;apply aA;refine CV xo (by simp) λh1 g1 s1=>?_;apply aA;refine CV (s:={ s with heap:=h1 }) g1 (by simp) λh2 g2 s2=>?_;refine aK ⟨x.2,rfl,aK (q h2 ⟨?_,?_⟩ (s1.trans s2))⟩
 ·rw[s2.2 S ne,s1.2 S ne];exact D.set
 ·rw[g2];rfl
theorem Nz {S I:Addr} {ep:Nat} (hh:A.handled=none) (D:km w S I es ep t es.size s.heap) (ne:S≠I) (T:dc t es.size) (hl:t.led = !nK w) (hp:t.plain=true)
  (q:∀h',LR I s.heap h'->Q none { s with heap:=h' }):wpAny (model prog w) A (pyNext (.ref I)) Q E s:=by
 have ty:s.TypeIs (.ref I) "set_iterator":=⟨_,D.it,rfl⟩;have hx:(kO w S ep es)[es.size]? = none:=by
  apply qT;rw[<-cT,(LQ S ep es).length_eq,cT];exact bU _
 unfold pyNext;apply aA;apply xB;refine iK (name:=lW "__next__") ty rM (iU rM ty EQ ?_ (HY _));unfold Builtin.«set_iterator.__next__»;apply aA;refine pA (a:=(fX I,[])) rfl ?_;apply aA;refine SC D.it rfl ?_;dsimp only[rawInt];apply aA;refine tV D.set rfl T.fits ?_;rw[if_neg (by simp)];apply aA;show wpAny _ _ (setNext S ((slotAt w t es.size:Nat):Int).toNat ((es.size:Nat):Int).toNat ((ep:Nat):Int).toNat) _ _ _;simp only[oD];refine Bj D.set T hl hp (bU _) ?_;rw[hx];dsimp only[Option.map];have xo:=D.it;unfold xA at xo;apply aA;refine CV xo (by simp) λh1 g1 s1=>?_;show wpAny _ _ (newExc (.type "StopIteration") [] >>= _) _ _ _;apply aA;simp only[newExc,newTuple];apply aA;refine fM ?_ (by size_fits);refine aA (m:=firstArgMember _ _) ?_;refine pA (a:=gI) (by first | rfl | (simp only[firstArgMember];rfl)) ?_;refine fM ?_ (by size_fits);simp only[raiseNew];apply aA;apply TN
 first | rw[show A.in1.handled=none from hh] | rw[hh]
 refine aA (aK (wpAny_throw ?_));apply aA;refine sN (T:="StopIteration") (b:=true) ⟨_,bR _ rfl,rfl⟩ PX ?_;exact aK (q _ ((s1.extBut.push _).push _))
theorem Ng {S:Addr} {ep:Nat} (ho:s.heap.get? S=some (oB es ep t)) (T:dc t es.size) (hp:t.plain=true)
  (q:Q (.ref s.heap.objs.size) { s with heap:=s.heap.push (xA w S es.size ep t 0) }):wpAny (model prog w) A (pyIter (.ref S)) Q E s:=by
 have ty:s.TypeIs (.ref S) "set":=⟨_,ho,rfl⟩;refine JP ty F.slot_set_iter (iU F.slot_set_iter ty WK ?_ (F.args_set_iter_1 _));unfold Builtin.«frozenset.__iter__» Builtin.Frozenset.slot0 Builtin.Frozenset.sizeOf;apply aA;refine pA (a:=S) rfl ?_;apply aA;apply aA;refine tV ho rfl T.fits (aK ?_);apply aA;unfold setDrawn;apply aA;refine jM ho rfl T.fits ?_;unfold setsByText;apply aA;apply aA;refine pL (aK (aK ?_));have dr:(!(model prog w).w.params.followText "set-order" && (!t.plain && decide (es.size > 1)))=false:=by rw[hp];simp
 show wpAny _ _ (if (!(model prog w).w.params.followText "set-order" && (!t.plain && decide (es.size > 1)))=true then _ else _) _ _ _;rw[dr];simp only[aN,if_false];apply aA;apply aK;apply aA;refine wpAny_setEpoch_of ho rfl T.fits ?_;apply aA;unfold newFields;refine fM ?_;have e0:slotAt w t 0=0:=by unfold slotAt uF;split <;> rfl
 refine aK ⟨_,rfl,"set_iterator",_,⟨_,bR _ rfl,rfl⟩,rM.lookup,?_⟩;unfold xA at q;rw[e0] at q;exact q
end
section
def Ps {S:Addr} (ty:s.TypeIs (.ref S) "set") (q:Q false s):wpAny (model prog w) A (jH (.ref S)) Q E s:=by
 unfold jH;apply aA;refine nU ty F.slot_set_len.lookup ?_;dsimp only;have sp:splitId "set.__len__" = some ("set","__len__"):=by decide +kernel
 rw[sp];dsimp only;apply aA;refine sN (b:=true) ty sub_set_self ?_;simp only[fS,aN,if_false];have key:∀(c:Bool) (X Y:Sem Bool),c=true->wpAny (model prog w) A X Q E s->wpAny (model prog w) A (if c=true then X else Y) Q E s:=λc X Y hc h=>by rw[if_pos hc];exact h
 refine key _ _ _ (by decide +kernel) ?_;apply aA;refine rN ty ?_;exact aK q
def Bh {S I:Addr} {ep k:Nat} (D:km w S I es ep t k h) (up:∀b o,b=S\/b=I->h.get? b=some o->h'.get? b=some o):km w S I es ep t k h' :=
 ⟨up _ _ (cW rfl) D.set,up _ _ (cV rfl) D.it⟩
def YI {S:Addr} {ep:Nat} (hh:A.handled=none) (ho:s.heap.get? S=some (oB es ep t)) (T:dc t es.size) (hl:t.led = !nK w) (hp:t.plain=true) (hz:es.size<=100)
  (q:∀h',(∀b o,s.heap.get? b=some o->h'.get? b=some o)->s.heap.objs.size<=h'.objs.size->Q ((kO w S ep es).toList.map (·.2)) { s with heap:=h' }):wpAny (model prog w) A (collect (.ref S)) Q E s:=by
 have ltS:S<s.heap.objs.size:=aW ho;have wl:(kO w S ep es).size=es.size:=by rw[<-cT,(LQ S ep es).length_eq,cT]
 unfold collect;apply aA;apply SD;refine gC F.entry_proto_collect ?_;rw[eY F.plain_proto_collect _];show wpAny _ A.in1 (newList [] >>= λl=>again (.builtin "list.__iadd__" ⟨[l,.ref S],[]⟩)) _ _ s;apply aA;refine fM ?_;refine aK ⟨gT F.plain_list_iadd _,gC F.entry_list_iadd ?_⟩;rw[eY F.plain_list_iadd _];show wpAny _ A.in1 (fP (.ref s.heap.objs.size) (.ref S) (.ref s.heap.objs.size)) _ _ { s with heap:=s.heap.push { cls:=.type "list",data:=.seq ([]:List aD).toArray } };have z1:(s.heap.push { cls:=.type "list",data:=.seq ([]:List aD).toArray }).objs.size=s.heap.objs.size+1:=gO ..;have hL:(s.heap.push { cls:=.type "list",data:=.seq ([]:List aD).toArray }).get? s.heap.objs.size=some { cls:=.type "list",data:=.seq ([]:List aD).toArray }:=bR _ rfl;have k1:∀b o,s.heap.get? b=some o->(s.heap.push { cls:=.type "list",data:=.seq ([]:List aD).toArray }).get? b=some o:=λb o e=>aR _ e;generalize s.heap.push { cls:=.type "list",data:=.seq ([]:List aD).toArray } = h1 at z1 hL k1;have ty:∀{h:Heap} {g d t os},(∀b o,s.heap.get? b=some o->h.get? b=some o)->EM ⟨h,g,d,t,os⟩ (.ref S) "set":=λup=>⟨_,up _ _ ho,rfl⟩;unfold fP;apply aA;refine rN (T:="set") (ty k1) ?_;have g1:jA (.ref s.heap.objs.size) (.ref S)=false:=by simp[jA,eK ltS]
 have g2:(iX "set" == iX "list")=false:=by decide
 have g3:(iX "set" == iX "tuple")=false:=by decide
 simp only[g1,g2,g3,wK,aN,if_false];apply aA;refine Ng (s:={ s with heap:=h1 }) (k1 _ _ ho) T hp ?_;show wpAny _ _ _ _ _ { s with heap:=h1.push (xA w S es.size ep t 0) };have hI:(h1.push (xA w S es.size ep t 0)).get? (s.heap.objs.size+1)=some (xA w S es.size ep t 0):=by rw[<-z1];exact bR _ rfl
 have k2:∀b o,h1.get? b=some o->(h1.push (xA w S es.size ep t 0)).get? b=some o:=λb o e=>aR _ e;rw[z1];generalize h1.push (xA w S es.size ep t 0)=h2 at hI k2;apply aA;apply fU;refine Ps (ty λb o e=>k2 b o (k1 b o e)) ?_;have key:∀(c:Bool) (X Y:Sem Fin) {Q':Fin->aG->Prop} {E':aD->aG->Prop} {s':aG},c=true->wpAny (model prog w) A.in1 X Q' E' s'->wpAny (model prog w) A.in1 (if c=true then X else Y) Q' E' s':=λc X Y _ _ _ hc h=>by rw[if_pos hc];exact h
 refine key _ _ _ (by decide +kernel) ?_;have wg:=k2 _ _ hL;apply aA;apply vL;apply aA;show wpAny _ _ (updateSeq s.heap.objs.size (·.push .none) >>= λ_=>updateSeq s.heap.objs.size (·.pop)) _ _ _;apply aA;refine gD wg rfl ?_;have hL3:=eD (dH (·.push gI)) wg rfl;refine gD (hz:=by seq_fits) hL3 rfl ?_;have hL4:=eD (dH (·.pop)) hL3 rfl;have uf:∀b o,b≠s.heap.objs.size->h2.get? b=some o->((h2.update s.heap.objs.size (dH (·.push gI))).update s.heap.objs.size (dH (·.pop))).get? b=some o :=
  λb o hb e=>(cQ _ _ (Ne.symm hb)).trans ((cQ _ _ (Ne.symm hb)).trans e)
 generalize (h2.update s.heap.objs.size (dH (·.push gI))).update s.heap.objs.size (dH (·.pop))=h4 at hL4 uf;apply aK;refine⟨gT iW _,?_⟩;have zc:S≠s.heap.objs.size+1:=bK (gS ltS);have neS:S≠s.heap.objs.size:=bK ltS;have j7:s.heap.objs.size+1≠s.heap.objs.size:=pH _;have old:∀{b:Addr} {o:Obj},s.heap.get? b=some o->b≠s.heap.objs.size/\b≠s.heap.objs.size+1:=λe=>⟨bK (aW e),bK (gS (aW e))⟩;refine PM (A:=A) (s0:=s) (n:=es.size) (J:=λacc h=>km w S (s.heap.objs.size+1) es ep t acc.length h/\acc=((kO w S ep es).toList.map (·.2)).take acc.length/\∀b o,s.heap.get? b=some o->h.get? b=some o)
  (F:=λacc h=>acc=(kO w S ep es).toList.map (·.2)/\∀b o,s.heap.get? b=some o->h.get? b=some o) (.ref s.heap.objs.size) (by rw[mD];lia) ?_ ?_ ?_ (λh' acc c lq hF i8=>?_) es.size #[] h4 _ rfl (gU _) ?_ hL4
 ·rintro acc h h' ⟨J1,J2,J3⟩ m7 hz up;refine⟨Bh J1 λb o hb e=>up b o ?_ e,J2,λb o e=>up b o (old e).1 (J3 b o e)⟩;rcases hb with rfl | rfl
  ·exact neS
  ·exact j7
 ·rintro acc s' o Q' E' dk ⟨J1,J2,J3⟩ m7 k;have hw:acc.length<(kO w S ep es).size:=by lia
  refine Jn J1 zc T hl hp dk (bH hw) λh' D' sb=>k _ h' ⟨by simpa using D',?_,λb o e=>?_⟩ ?_
  ·rw[dC,rQ,mR,<-J2];simp[hw]
  ·rw[sb.2 b (old e).2];exact J3 b o e
  ·rw[sb.2 _ (Ne.symm j7)];exact m7
 ·rintro acc s' o Q' E' hlen ⟨J1,J2,J3⟩ m7 k;rw[hlen] at J1 J2;refine Nz (A:=A.in1) (by simp[hh]) J1 zc T hl hp λh' eb=>k h' ⟨?_,λb o e=>eb b o (old e).2 (J3 b o e)⟩ (eb _ _ (Ne.symm j7) m7);rw[J2,nF];simp[wl]
 ·show wpAny _ A (load s.heap.objs.size >>= _) _ _ _;apply aA;refine wpAny_load i8 ?_;refine aK ?_;rw[hF.1];exact q h' hF.2 (nJ (aW i8))
 ·refine⟨⟨uf _ _ neS (k2 _ _ (k1 _ _ ho)),uf _ _ j7 hI⟩,rfl,λb o e=>uf b o (old e).1 (k2 b o (k1 b o e))⟩
end
end
section
open PySem PySem.W PyProof.Rows
def jG {α:Type} (lt:Nat->Nat->Bool):KasT α->α
 | .ret a=>a
 | .ask i j k=>jG lt (k (lt i j))
theorem uI {α β:Type} {lt:Nat->Nat->Bool} {f:α->KasT β}:∀t:KasT α,jG lt (t.bind f)=jG lt (f (jG lt t))
 | .ret _=>rfl
 | .ask i j k=>uI (k (lt i j))
def kIn {α:Type} (lt:Nat->Nat->Bool) (n:Nat):KasT α->Prop
 | .ret _=>True
 | .ask i j k=>i<n/\j<n/\kIn lt n (k (lt i j))
theorem oU {α β:Type} {lt:Nat->Nat->Bool} {f:α->KasT β}:∀t:KasT α,kIn lt n t->kIn lt n (f (jG lt t))->kIn lt n (t.bind f)
 | .ret _,_,h=>h
 | .ask i j k,⟨h1,h2,h3⟩,h=>⟨h1,h2,oU (k (lt i j)) h3 h⟩
theorem PZ {α:Type} {cmp:Nat->Nat->(Bool->aG->Prop)->aG->Prop} {lt:Nat->Nat->Bool} {n:Nat} {s:aG} {Q:α->aG->Prop} (hc:∀i j (C:Bool->aG->Prop),i<n->j<n->C (lt i j) s->cmp i j C s) :
  ∀t:KasT α,kIn lt n t->Q (jG lt t) s->t.kasWp cmp Q s
 | .ret _,_,h=>h
 | .ask i j k,⟨h1,h2,h3⟩,h=>hc i j _ h1 h2 (PZ hc (k (lt i j)) h3 h)
section
variable {O:KeyOrd} {key:Nat->O.α} {N:Nat}
def di (O:KeyOrd) (key:Nat->O.α) (i j:Nat):Bool:=O.blt (key i) (key j)
def kk (O:KeyOrd) (key:Nat->O.α) (p:Array Nat) (i:Nat):O.α:=key (p.getD i 0)
def Up (O:KeyOrd) (key:Nat->O.α) (p:Array Nat) (n:Nat):Prop:=∀i j,i<=j->j<n->O.kle (kk O key p i) (kk O key p j)
def Dn (O:KeyOrd) (key:Nat->O.α) (p:Array Nat) (n:Nat):Prop:=∀i j,i<=j->j<n->O.kle (kk O key p j) (kk O key p i)
def Lo (p:Array Nat) (N:Nat):Prop:=∀i,p.getD i 0<N
theorem zA (h:p.Perm q) (hq:Lo q N):Lo p N:=by
 intro i;by_cases hi:i<p.size
 ·have m:p[i]∈p:=Array.getElem_mem hi;have m2:p[i]∈q:=h.mem_iff.mp m;obtain⟨j,hj,e⟩:=AQ m2;have:=hq j;simp[lB,hj] at this;simp[lB,hi];rw[<-e];exact this
 ·have h0:=hq q.size;simp[lB] at h0;simp[lB,hi];exact h0
theorem BV (h:p[i]? = q[j]?):kk O key p i=kk O key q j:=by
 unfold kk;rw[eI,eI,h]
theorem Cu (hj:j<=p.size) (k:Nat):kk O key (DL p i j) k=if i<=k/\k<j then kk O key p (i+j-1-k) else kk O key p k:=by
 have e:=getElem?_mirror_all (i:=i) hj k;unfold DL;by_cases h1:i<=k/\k<j
 ·rw[if_pos h1] at e ⊢;exact BV e
 ·rw[if_neg h1] at e ⊢;exact BV e
theorem KQ (hj:j<=p.size) (h:∀k,i<=k->k<j->kk O key p k=kk O key p (j-1)) (k:Nat):kk O key (DL p i j) k=kk O key p k:=by
 rw[Cu hj];split
 ·rw[h _ (by lia) (by lia),h k (by lia) (by lia)]
 ·rfl
theorem Iv (hs:src<p.size) (hd:d<=src) (k:Nat) :
  kk O key (bubble p src d) k=if k=src-d then kk O key p src else if src-d<k/\k<=src then kk O key p (k-1) else kk O key p k:=by
 have e:=getElem?_bubble hs d hd k;by_cases h1:k=src-d
 ·rw[if_pos h1] at e ⊢;exact BV e
 ·rw[if_neg h1] at e ⊢;by_cases h2:src-d<k/\k<=src
  ·rw[if_pos h2] at e ⊢;exact BV e
  ·rw[if_neg h2] at e ⊢;exact BV e
theorem CT (p:Array Nat) (i j:Nat):(DL p i j).Perm p:=mirror_perm _ _ _ _
theorem Uj (h1:1<=n) (h:Up O key p n) (hl:O.kle (kk O key p (n-1)) (kk O key p n)):Up O key p (n+1):=by
 intro i j md hj;by_cases W5:j<n
 ·exact h i j md W5
 ·have qf:j=n:=by lia
  subst qf;by_cases jf:i=j
  ·subst jf;exact kJ _
  ·exact rV (h i (j-1) (by lia) (by lia)) hl
theorem WE (h1:1<=n) (h:Dn O key p n) (hl:O.kle (kk O key p n) (kk O key p (n-1))):Dn O key p (n+1):=by
 intro i j md hj;by_cases W5:j<n
 ·exact h i j md W5
 ·have qf:j=n:=by lia
  subst qf;by_cases jf:i=j
  ·subst jf;exact kJ _
  ·exact rV hl (h i (j-1) (by lia) (by lia))
theorem Cd (lo:Lo p N):∀(f n:Nat),1<=n->Up O key p n->kIn (di O key) N (wB p f n)/\n<=jG (di O key) (wB p f n)/\jG (di O key) (wB p f n)<=n+f/\Up O key p (jG (di O key) (wB p f n)) /\
  (jG (di O key) (wB p f n)=n+f\/O.klt (kk O key p (jG (di O key) (wB p f n))) (kk O key p (jG (di O key) (wB p f n)-1)))
 | 0,n,_,h=>⟨trivial,bU _,bU _,h,cW rfl⟩
 | f+1,n,h1,h=>by
  simp only[wB,jG,kIn];cases hb:di O key (p.getD n 0) (p.getD (n-1) 0) with
  | true =>
   simp only[if_true];exact⟨⟨lo _,lo _,trivial⟩,bU _,by simp only[jG];lia,h,cV hb⟩
  | false =>
   simp only[aN,if_false];obtain⟨i1,i2,i3,i4,i5⟩:=Cd lo f (n+1) (by lia) (Uj h1 h hb);refine⟨⟨lo _,lo _,i1⟩,by lia,by lia,i4,?_⟩;rcases i5 with e | e
   ·exact cW (by lia)
   ·exact cV e
theorem Bl (lo:Lo p N) (h1:1<=n) (hn:n<=nrem) (hz:nrem<=p.size) (h:Dn O key p n) :
  kIn (di O key) N (uJ n nrem p)/\1<=(jG (di O key) (uJ n nrem p)).1/\(jG (di O key) (uJ n nrem p)).1<=nrem/\(jG (di O key) (uJ n nrem p)).2.Perm p/\Up O key (jG (di O key) (uJ n nrem p)).2 (jG (di O key) (uJ n nrem p)).1:=by
 unfold uJ;have up:Up O key (DL p 0 n) n:=by
  intro i j md hj;rw[Cu (by lia),Cu (by lia),if_pos (by lia),if_pos (by lia)];exact h _ _ (by lia) (by lia)
 obtain⟨i1,i2,i3,i4,_⟩:=Cd (zA (CT p 0 n) lo) (nrem-n) n h1 up;rw[uI];refine⟨oU _ i1 trivial,?_,?_,CT p 0 n,i4⟩
 ·show 1<=_;simp only[jG];lia
 ·simp only[jG];lia
theorem NS:∀(f:Nat) (p:Array Nat) (n q:Nat),Lo p N->1<=n->n+f<=p.size->Dn O key p n->q+1<=n->(∀i,n-(q+1)<=i->i<n->kk O key p i=kk O key p (n-1)) ->
  kIn (di O key) N (lG f p n q)/\(jG (di O key) (lG f p n q)).1.Perm p/\n<=(jG (di O key) (lG f p n q)).2.1/\(jG (di O key) (lG f p n q)).2.1<=n+f /\
  Dn O key (jG (di O key) (lG f p n q)).1 (jG (di O key) (lG f p n q)).2.1/\(jG (di O key) (lG f p n q)).2.2+1<=(jG (di O key) (lG f p n q)).2.1 /\
  (∀i,(jG (di O key) (lG f p n q)).2.1-((jG (di O key) (lG f p n q)).2.2+1)<=i->i<(jG (di O key) (lG f p n q)).2.1->kk O key (jG (di O key) (lG f p n q)).1 i=kk O key (jG (di O key) (lG f p n q)).1 ((jG (di O key) (lG f p n q)).2.1-1))
 | 0,p,n,q,lo,h1,hz,h,hq,he=>⟨trivial,pX _,bU _,bU _,h,hq,he⟩
 | f+1,p,n,q,lo,h1,hz,h,hq,he=>by
  simp only[lG,jG,kIn];cases hb:di O key (p.getD n 0) (p.getD (n-1) 0) with
  | true =>
   simp only[if_true];by_cases h0:q > 0
   ·simp only[if_pos h0];have hk:=KQ (O:=O) (key:=key) (p:=p) (i:=n-(q+1)) (j:=n) (by lia) he;have pm:=CT p (n-(q+1)) n;have dn:Dn O key (DL p (n-(q+1)) n) (n+1):=by
     have d0:=WE h1 h (oE hb);intro i j md hj;rw[hk,hk];exact d0 i j md hj
    obtain⟨i1,i2,i3,i4,i5,i6,i7⟩:=NS f (DL p (n-(q+1)) n) (n+1) 0 (zA pm lo) (by lia) (by rw[pm.size_eq];lia) dn (by lia) (λi a b=>by congr 1;lia);exact⟨⟨lo _,lo _,i1⟩,i2.trans pm,by lia,by lia,i5,i6,i7⟩
   ·simp only[if_neg h0];obtain⟨i1,i2,i3,i4,i5,i6,i7⟩:=NS f p (n+1) 0 lo (by lia) (by lia) (WE h1 h (oE hb)) (by lia) (λi a b=>by congr 1;lia);exact⟨⟨lo _,lo _,i1⟩,i2,by lia,by lia,i5,i6,i7⟩
  | false =>
   simp only[aN,if_false,jG,kIn];cases hc:di O key (p.getD (n-1) 0) (p.getD n 0) with
   | true =>
    simp only[if_true];exact⟨⟨lo _,lo _,lo _,lo _,trivial⟩,pX _,bU _,by simp only[jG];lia,h,hq,he⟩
   | false =>
    simp only[aN,if_false];have e:kk O key p n=kk O key p (n-1):=EC hc hb;obtain⟨i1,i2,i3,i4,i5,i6,i7⟩:=NS f p (n+1) (q+1) lo (by lia) (by lia) (WE h1 h (by rw[e];exact kJ _)) (by lia) (λi a b=>by
     rw[show n+1-1=n by lia];by_cases hi:i=n
     ·subst hi;rfl
     ·rw[e];exact he i (by lia) (by lia))
    exact⟨⟨lo _,lo _,lo _,lo _,i1⟩,i2,by lia,by lia,i5,i6,i7⟩
theorem LY (lo:Lo p N) (hn:n+1<=nrem) (hz:nrem<=p.size) (h:Dn O key p (n+1)) :
  kIn (di O key) N (pJ n nrem p)/\1<=(jG (di O key) (pJ n nrem p)).1/\(jG (di O key) (pJ n nrem p)).1<=nrem/\(jG (di O key) (pJ n nrem p)).2.Perm p/\Up O key (jG (di O key) (pJ n nrem p)).2 (jG (di O key) (pJ n nrem p)).1:=by
 unfold pJ;obtain⟨i1,i2,i3,i4,i5,i6,i7⟩:=NS (N:=N) (nrem-(n+1)) p (n+1) 0 lo (by lia) (by lia) h (by lia) (λi a b=>by congr 1;lia);rw[uI];generalize hr:jG (di O key) (lG (nrem-(n+1)) p (n+1) 0)=r at *;by_cases h0:r.2.2 > 0
 ·have sz:r.1.size=p.size:=i2.size_eq;have hk:=KQ (O:=O) (key:=key) (p:=r.1) (i:=r.2.1-(r.2.2+1)) (j:=r.2.1) (by lia) i7;have pm:=(CT r.1 (r.2.1-(r.2.2+1)) r.2.1).trans i2;have t:=Bl (O:=O) (key:=key) (N:=N) (zA pm lo) (n:=r.2.1) (nrem:=nrem) (by lia) (by lia) (by rw[pm.size_eq];lia) (λi j md hj=>by rw[hk,hk];exact i5 i j md hj);rw[if_pos h0];refine⟨oU _ i1 ?_,t.2.1,t.2.2.1,t.2.2.2.1.trans pm,t.2.2.2.2⟩;rw[hr,if_pos h0];exact t.1
 ·have t:=Bl (O:=O) (key:=key) (N:=N) (zA i2 lo) (n:=r.2.1) (nrem:=nrem) (by lia) (by lia) (by rw[i2.size_eq];lia) i5;rw[if_neg h0];refine⟨oU _ i1 ?_,t.2.1,t.2.2.1,t.2.2.2.1.trans i2,t.2.2.2.2⟩;rw[hr,if_neg h0];exact t.1
theorem Lu (lo:Lo p N) (h1:1<=nrem) (hz:nrem<=p.size) :
  kIn (di O key) N (sG nrem p)/\1<=(jG (di O key) (sG nrem p)).1/\(jG (di O key) (sG nrem p)).1<=nrem/\(jG (di O key) (sG nrem p)).2.Perm p/\Up O key (jG (di O key) (sG nrem p)).2 (jG (di O key) (sG nrem p)).1:=by
 unfold sG;obtain⟨i1,i2,i3,i4,i5⟩:=Cd (O:=O) (key:=key) lo (nrem-1) 1 (bU _) (λi j md hj=>by have:i=j:=(by lia);subst this;exact kJ _);rw[uI];generalize hr:jG (di O key) (wB p (nrem-1) 1)=n at *;by_cases hn:n=nrem
 ·rw[if_pos (by simpa using hn)];exact⟨oU _ i1 (by rw[hr,if_pos (by simpa using hn)];trivial),i2,by show n<=nrem;lia,pX _,i4⟩
 ·rw[if_neg (by simpa using hn)];have dk:O.klt (kk O key p n) (kk O key p (n-1)):=i5.resolve_left (by lia);by_cases hg:n > 1
  ·rw[if_pos hg];simp only[jG];cases hb:di O key (p.getD 0 0) (p.getD (n-1) 0) with
   | true =>
    simp only[if_true];exact⟨oU _ i1 (by rw[hr,if_neg (by simpa using hn),if_pos hg];exact⟨lo _,lo _,by rw[hb];trivial⟩),by show 1<=n;lia,by show n<=nrem;lia,pX _,i4⟩
   | false =>
    simp only[aN,if_false];have cn:∀k,0<=k->k<n->kk O key p k=kk O key p (n-1):=by
     intro k _ hk;have a1:=i4 0 k (by lia) hk;have a2:=i4 k (n-1) (by lia) (by lia);exact EC a2 (rV hb a1)
    have hk:=KQ (O:=O) (key:=key) (p:=p) (i:=0) (j:=n) (by lia) cn;have pm:=CT p 0 n;have t:=LY (O:=O) (key:=key) (N:=N) (zA pm lo) (n:=n) (nrem:=nrem) (by lia) (by rw[pm.size_eq];lia) (λi j md hj=>by
     rw[hk,hk];by_cases hjn:j<n
     ·rw[cn i (by lia) (by lia),cn j (by lia) hjn];exact kJ _
     ·have qf:j=n:=(by lia);subst qf;by_cases jf:i=j
      ·subst jf;exact kJ _
      ·rw[cn i (by lia) (by lia)];exact oE dk)
    exact⟨oU _ i1 (by rw[hr,if_neg (by simpa using hn),if_pos hg];exact⟨lo _,lo _,by rw[hb];exact t.1⟩),t.2.1,t.2.2.1,t.2.2.2.1.trans pm,t.2.2.2.2⟩
  ·rw[if_neg hg];have n1:n=1:=(by lia);have t:=LY (O:=O) (key:=key) (N:=N) lo (n:=n) (nrem:=nrem) (by lia) hz (λi j md hj=>by
    by_cases jf:i=j
    ·subst jf;exact kJ _
    ·have e1:i=n-1:=(by lia);have e2:j=n:=(by lia);rw[e1,e2];exact oE dk)
   exact⟨oU _ i1 (by rw[hr,if_neg (by simpa using hn),if_neg hg];exact t.1),t.2⟩
theorem QT (lo:Lo p N) (hs:Up O key p k):∀(f l r:Nat),l<=r->r<=k->r-l<=f->(∀i,i<l->O.kle (kk O key p i) (kk O key p k))->(∀i,r<=i->i<k->O.klt (kk O key p k) (kk O key p i)) ->
  kIn (di O key) N (xP p k f l r)/\jG (di O key) (xP p k f l r)<=k/\(∀i,i<jG (di O key) (xP p k f l r)->O.kle (kk O key p i) (kk O key p k))/\(∀i,jG (di O key) (xP p k f l r)<=i->i<k->O.klt (kk O key p k) (kk O key p i))
 | 0,l,r,hlr,J_,hf,a,b=>by
  have:l=r:=by lia
  subst this;exact⟨trivial,J_,a,b⟩
 | f+1,l,r,hlr,J_,hf,a,b=>by
  simp only[xP];by_cases hge:l ≥ r
  ·have:l=r:=(by lia);subst this;rw[if_pos hge];exact⟨trivial,J_,a,b⟩
  ·rw[if_neg hge];simp only[jG,kIn];cases hb:di O key (p.getD k 0) (p.getD ((l+r) / 2) 0) with
   | true =>
    simp only[if_true];have t:=QT lo hs f l ((l+r) / 2) (by lia) (by lia) (by lia) a (λi h1 h2=>KeyOrd.klt_of_klt_of_kle hb (hs _ _ h1 h2));exact⟨⟨lo _,lo _,t.1⟩,t.2⟩
   | false =>
    simp only[aN,if_false];have t:=QT lo hs f ((l+r) / 2+1) r (by lia) J_ (by lia) (λi h1=>rV (hs i ((l+r) / 2) (by lia) (by lia)) hb) b;exact⟨⟨lo _,lo _,t.1⟩,t.2⟩
theorem Ll:∀(f:Nat) (p:Array Nat) (k:Nat),Lo p N->k+f<=p.size->Up O key p k->kIn (di O key) N (WS f p k)/\(jG (di O key) (WS f p k)).Perm p/\Up O key (jG (di O key) (WS f p k)) (k+f)
 | 0,p,k,lo,hz,h=>⟨trivial,pX _,h⟩
 | f+1,p,k,lo,hz,h=>by
  simp only[WS];obtain⟨i1,i2,i3,i4⟩:=QT lo h k 0 k (by lia) (by lia) (by lia) (λi hi=>absurd hi (by lia)) (λi h1 h2=>absurd h2 (by lia));rw[uI];generalize hr:jG (di O key) (xP p k k 0 k)=l at *;have pm:=bubble_perm p k (k-l);have hb:=λi=>Iv (O:=O) (key:=key) (p:=p) (src:=k) (d:=k-l) (by lia) (by lia) i;have up:Up O key (bubble p k (k-l)) (k+1):=by
   intro i j md hj;rw[hb,hb,show k-(k-l)=l by lia];by_cases e1:i=l
   ·rw[if_pos e1];by_cases e2:j=l
    ·rw[if_pos e2];exact kJ _
    ·rw[if_neg e2,if_pos (by lia)];exact oE (i4 _ (by lia) (by lia))
   ·rw[if_neg e1];by_cases e2:j=l
    ·rw[if_pos e2,if_neg (by lia)];exact i3 _ (by lia)
    ·rw[if_neg e2];by_cases e3:l<i/\i<=k
     ·rw[if_pos e3,if_pos (by lia)];exact h _ _ (by lia) (by lia)
     ·rw[if_neg e3];by_cases e4:l<j/\j<=k
      ·rw[if_pos e4];exact h _ _ (by lia) (by lia)
      ·rw[if_neg e4];exact h _ _ (by lia) (by lia)
  obtain⟨t1,t2,t3⟩:=Ll f (bubble p k (k-l)) (k+1) (zA pm lo) (by rw[pm.size_eq];lia) up;refine⟨oU _ i1 (by rw[hr];exact t1),t2.trans pm,?_⟩;rw[show k+(f+1)=k+1+f by lia];exact t3
theorem Ty (h1:1<=n):kIn (di O key) n (BU n)/\(jG (di O key) (BU n)).Perm (kY (dZ n))/\Up O key (jG (di O key) (BU n)) n:=by
 have lo:Lo (kY (dZ n)) n:=by
  intro i;by_cases hi:i<n
  ·simp[lB,hi]
  ·simp[lB,hi];lia
 unfold BU;obtain⟨i1,i2,i3,i4,i5⟩:=Lu (O:=O) (key:=key) lo (nrem:=n) h1 (by simp);rw[uI];generalize hr:jG (di O key) (sG n (kY (dZ n)))=r at *;have sz:r.2.size=n:=by rw[i4.size_eq];simp
 by_cases h:r.1<n
 ·have t:=Ll (O:=O) (key:=key) (N:=n) (n-max r.1 1) r.2 (max r.1 1) (zA i4 lo) (by lia) (by rw[show max r.1 1=r.1 by lia];exact i5);rw[if_pos h];refine⟨oU _ i1 (by rw[hr,if_pos h];exact t.1),t.2.1.trans i4,?_⟩;have:=t.2.2
  rwa [show max r.1 1+(n-max r.1 1)=n by lia] at this
 ·rw[if_neg h];refine⟨oU _ i1 (by rw[hr,if_neg h];trivial),i4,?_⟩;rw[show n=r.1 by lia];exact i5
end
end
section
open PySem PySem.W PySem.SetTable PyProof.Rows
def oV:List Int->List Int->Bool
 | [],[]=>false
 | [],_::_=>true
 | _::_,[]=>false
 | a::as,b::bs=>if a=b then oV as bs else decide (a<b)
theorem ZT:∀a,oV a a=false
 | []=>rfl
 | a::as=>by simp only[oV,if_true];exact ZT as
theorem GN:∀a b c,oV a b=true->oV b c=true->oV a c=true
 | [],[],c,h,_=>by simp[oV] at h
 | [],_::_,[],_,h=>by simp[oV] at h
 | [],_::_,_::_,_,_=>rfl
 | _::_,[],_,h,_=>by simp[oV] at h
 | _::_,_::_,[],_,h=>by simp[oV] at h
 | a::as,b::bs,c::cs,h,k=>by
  simp only[oV] at h k ⊢;by_cases e1:a=b
  ·subst e1;rw[if_pos rfl] at h;by_cases e2:a=c
   ·subst e2;rw[if_pos rfl] at k ⊢;exact GN as bs cs h k
   ·rw[if_neg e2] at k ⊢;exact k
  ·rw[if_neg e1] at h;by_cases e2:b=c
   ·subst e2;rw[if_neg e1];exact h
   ·rw[if_neg e2] at k;simp only[decide_eq_true_eq] at h k;rw[if_neg (by lia)];simp only[decide_eq_true_eq];lia
theorem GM:∀a b,oV a b=false->oV b a=false->a=b
 | [],[],_,_=>rfl
 | [],_::_,h,_=>by simp[oV] at h
 | _::_,[],_,h=>by simp[oV] at h
 | a::as,b::bs,h,k=>by
  simp only[oV] at h k;by_cases e:a=b
  ·subst e;rw[if_pos rfl] at h k;rw[GM as bs h k]
  ·rw[if_neg e] at h;rw[if_neg (Ne.symm e)] at k;simp only[decide_eq_false_iff_not] at h k;lia
theorem Nu (a b c:List Int) (h:oV a c=true):oV a b=true\/oV b c=true:=by
 cases h1:oV a b with
 | true=>exact cW rfl
 | false =>
  right;cases h2:oV b a with
  | true=>exact GN b a c h2 h
  | false=>rw[<-GM a b h1 h2];exact h
def Sl:KeyOrd:=⟨List Int,oV,ZT,GN,Nu,GM⟩
section
variable {prog:cE} {w:dI} {A:dJ} {E:aD->aG->Prop} {s:aG}
theorem int_inv (h:(intKind prog w).is k v=true):∃t,v = .int k t:=by
 cases v <;> simp[intKind,LV] at h;exact⟨_,by rw[h]⟩
theorem Sm:∀(ns ms:List Int) (vs us:List aD) (i:Nat),ItemsAre (intKind prog w) ns vs->ItemsAre (intKind prog w) ms us->fin=decide (vs.length<us.length)->Q (oV ns ms) s->KatLex prog w A true fin Q (vs.zip us) i s:=by
 intro ns
 induction ns with
 | nil =>
  intro ms vs us i h1 h2 hf q;cases h1;cases h2 with
  | nil=>simp at hf;subst hf;exact kat_nil q
  | cons _ _=>simp at hf;subst hf;exact kat_nil q
 | cons n ns ih =>
  intro ms vs us i h1 h2 hf q;cases h1 with
  | cons h1 t1 =>
   cases h2 with
   | nil=>simp at hf;subst hf;exact kat_nil q
   | @cons m u ms us h2 t2 =>
    rw[nH];refine kat_cons ((intKind prog w).eqBool h1 h2 ?_);by_cases e:n=m
    ·subst e;rw[decide_eq_true rfl];exact kat_yes (ih ms _ us (i+1) t1 t2 (by simpa using hf) (by simpa [oV] using q))
    ·rw[decide_eq_false e];obtain⟨tn,rfl⟩:=int_inv h1;obtain⟨tm,rfl⟩:=int_inv h2;have q':Q (decide (n<m)) s:=(by simpa [oV,e] using q);refine kat_no ?_;cases hi:(i == 0) with
     | true=>exact oneLt_int q'
     | false=>exact kat_one _ _ (PySem.wpAny_lt_int (by exact q'))
def gj (prog:cE) (w:dI) (h:Heap) (vs:List aD) (nss:List (List Int)):Prop:=vs.length=nss.length/\∀i v,vs[i]? = some v->∃a,v = .ref a/\IsTupleKey (intKind prog w) h (nss.getD i []) a
theorem QA:∀(vs:List aD) (nss:List (List Int)),gj prog w h vs nss->(∀ns∈nss,ns≠[])->∃fs:List aD,KatTups h vs fs/\fs.length=vs.length/\∀f∈fs,∃k t,f = .int k t
 | [],nss,_,_=>⟨[],trivial,rfl,λf hf=>by cases hf⟩
 | v::vs,nss,H,hn=>by
  match nss,H with
  | [],H=>exact absurd H.1 (by simp)
  | ns::nss,H =>
   obtain⟨a,rfl,o,items,n,ho,hc,hd,hi⟩:=H.2 0 v rfl;obtain⟨fs,f1,f2,f3⟩:=QA vs nss ⟨by have:=H.1;simpa using this,λi v e=>H.2 (i+1) v e⟩ λms hm=>hn ms (bQ _ hm);simp only[List.getD_cons_zero] at hi
   match ns,hi,hn ns (dX ..) with
   | [],_,h=>exact absurd rfl h
   | k::ks,hi,_ =>
    generalize e:items.toList=its at hi;cases hi with
    | cons h1 h2 =>
     obtain⟨t,rfl⟩:=int_inv h1;refine⟨.int k t::fs,⟨⟨a,o,items,n,rfl,ho,hc,hd,?_⟩,f1⟩,by simp[f2],λf hf=>?_⟩
     ·rw[<-jQ,e];rfl
     ·rcases aO.mp hf with rfl | hf
      ·exact⟨k,t,rfl⟩
      ·exact f3 f hf
theorem gj.other (K:gj prog w h vs nss) (ho:h.get? a=some (seqObj "list" xs n)) (up:∀b o,b≠a->h.get? b=some o->h'.get? b=some o):gj prog w h' vs nss:=by
 refine⟨K.1,λi v e=>?_⟩;obtain⟨b,rfl,o,its,m,h1,h2,h3,h4⟩:=K.2 i v e;refine⟨b,rfl,o,its,m,up b o ?_ h1,h2,h3,h4⟩;rintro rfl;rw[ho] at h1;cases h1;exact absurd h2 (by simp[seqObj])
theorem range_getD {α:Type} (d:α) (xs:List α):(dZ xs.length).map (λi=>xs.getD i d)=xs:=by
 apply JW (by simp);intro i h1 h2;simp[h2]
theorem Ko (ho:s.heap.get? a=some (seqObj "list" vs.toArray n)) (K:gj prog w s.heap vs nss) (hn:∀ns∈nss,ns≠[]) (EE:vs.length<64)
  (q:∀h' out mss c,h'.get? a=some (seqObj "list" (kY out) c)->gj prog w h' out mss->(∀v∈out,v∈vs)->mss.Perm nss->mss.Pairwise (λx y=>oV y x=false)->(∀b o,b≠a->s.heap.get? b=some o->h'.get? b=some o)->P (.done (.ret .none)) { s with heap:=h' }) :
  wpAny (model prog w) A (Builtin.«list.sort» ⟨[.ref a],[]⟩) P E s:=by
 have lt:a<s.heap.objs.size:=aW ho;rw[list_sort_plain];apply aA;refine listItems_at ho rfl ?_;apply aA;refine SW ho rfl ?_ (by rw[aZ,mD];lia) (gU _);obtain⟨e1,X6⟩:∃e1,(s.heap.update a (dH λ_=>(#[]:Array aD))).get? a=some (seqObj "list" #[] e1):=⟨_,MX ho λ_=>#[]⟩;have up1:∀b o,b≠a->s.heap.get? b=some o->(s.heap.update a (dH λ_=>(#[]:Array aD))).get? b=some o:=λb o hb e=>(cQ _ _ (Ne.symm hb)).trans e;generalize s.heap.update a (dH λ_=>(#[]:Array aD))=h1 at X6 up1;apply aA;refine seqEpoch_at X6 rfl ?_;apply aA;refine CW ?_ (by show vs.length<=_;rw[mD];lia);apply aA;refine TQ ?_ (gU _);apply fU;show wpAny (model prog w) A _ P E { s with heap:=(h1.push (seqObj "tuple" vs.toArray 0)).push (seqObj "list" #[] 0) };have kb:∀b o,b≠a->s.heap.get? b=some o->((h1.push (seqObj "tuple" vs.toArray 0)).push (seqObj "list" #[] 0)).get? b=some o:=λb o hb e=>aR _ (aR _ (up1 b o hb e));have ow:((h1.push (seqObj "tuple" vs.toArray 0)).push (seqObj "list" #[] 0)).get? a=some (seqObj "list" #[] e1):=aR _ (aR _ X6);generalize (h1.push (seqObj "tuple" vs.toArray 0)).push (seqObj "list" #[] 0)=h2 at kb ow;have K2:=K.other ho kb;have fin:∀(out:List aD) (mss:List (List Int)) (e_:SortSt),(arrOf e_).map (·.2)=out.toArray->failedOf e_=none->gj prog w h2 out mss->(∀v∈out,v∈vs)->mss.Perm nss->mss.Pairwise (λx y=>oV y x=false)->out.length<=64 ->
   wpAny (model prog w) A (do
    let sorted:=(arrOf e_).map (·.2);let touched:=(<-seqEpoch a) != e1
    qM (.ref a) λ_=>sorted
    if let some e:=failedOf e_ then rule "list.sort.comparison-raised";throw e
    if touched then rule "list.sort.modified";raiseError "ValueError" "list modified during sort"
    ret .none) P E { s with heap:=h2 }:=by
  intro out mss e_ h1 hf KO hv hp hs hlen;dsimp only;apply aA;refine seqEpoch_at (s:={ s with heap:=h2 }) ow rfl ?_;rw[h1];apply aA;refine SW (s:={ s with heap:=h2 }) ow rfl ?_ (gU _) (by show out.toArray.size<=_;rw[aZ,mD];lia);obtain⟨c,hc⟩:∃c,(h2.update a (dH λ_=>out.toArray)).get? a=some (seqObj "list" out.toArray c):=⟨_,MX ow λ_=>out.toArray⟩;have ap:∀b o,b≠a->h2.get? b=some o->(h2.update a (dH λ_=>out.toArray)).get? b=some o:=λb o hb e=>(cQ _ _ (Ne.symm hb)).trans e;generalize h2.update a (dH λ_=>out.toArray)=h3 at hc ap;rw[hf];simp only[bne_self_eq_false,aN,if_false];exact aK (q h3 out mss c hc (KO.other ow ap) hv hp hs λb o hb e=>ap b o hb (kb b o hb e))
 have ln:=K.1;dsimp only;by_cases D_:vs.length<2
 ·have c2:vs.toArray.size<2:=by rw[aZ];exact D_
  rw[if_pos c2,if_pos c2];apply aA;apply aK;apply aA;show wpAny _ _ (pure ((),SortSt.mk' general' (vs.toArray.zip vs.toArray) #[] 7 none)) _ _ _;apply aK;refine fin vs nss _ ?_ rfl K2 (λ_ h=>h) (BA _) ?_ (by lia)
  ·show (vs.toArray.zip vs.toArray).map (·.2)=vs.toArray;apply Array.toList_inj.mp;simp[List.map_snd_zip]
  ·match nss,ln with
   | [],_=>exact oF
   | [x],_=>exact xI _ _
   | _::_::_,ln=>simp at ln;lia
 ·have c2:¬vs.toArray.size<2:=by rw[aZ];exact D_
  rw[if_neg c2,if_neg c2];obtain⟨fs,f1,f2,f3⟩:=QA vs nss K2 hn;apply aA;refine kat_kind (s:={ s with heap:=h2 }) (T:=.type "int") f1 (by lia) (λv hv=>?_) (by decide) ?_
  ·obtain⟨k,t,rfl⟩:=f3 v hv;exact Looks.now
  have hT:(iX "int" != iX "tuple")=true:=by decide
  rw[hT];obtain⟨i1,i2,i3⟩:=Ty (O:=Sl) (key:=λi=>nss.getD i []) (n:=vs.length) (by lia);have psz:(jG (di Sl λi=>nss.getD i []) (BU vs.length)).size=vs.length:=by rw[i2.size_eq];simp
  generalize hp:jG (di Sl λi=>nss.getD i []) (BU vs.length)=p at i2 i3 psz;apply aA;refine jT (kat_run (ks:=vs) (vs:=vs) (Q:=λe_ s'=>s' = { s with heap:=h2 }/\arrOf e_=p.map (kas_item (vs.toArray.zip vs.toArray))/\failedOf e_=none) (G:=λp' s'=>p'=p/\s' = { s with heap:=h2 }) rfl (by lia) EE (λp' e_ s' a1 a2 a3 a4=>⟨a4.2,by rw[a2,a4.1],a3⟩) ?_) ?_ λ_ _ e=>e
  ·refine PZ (lt:=di Sl λi=>nss.getD i []) (n:=vs.length) (s:={ s with heap:=h2 }) (λi j C hi hj c=>?_) _ i1 ⟨hp,rfl⟩;unfold kas_ask;obtain⟨x,ex,ox,xs,nx,hx1,hx2,hx3,hx4⟩:=K2.2 i (vs.getD i gI) (by simp[hi]);obtain⟨y,ey,oy,ys,ny,hy1,hy2,hy3,hy4⟩:=K2.2 j (vs.getD j gI) (by simp[hj]);rw[ex,ey];refine kat_lt (s:={ s with heap:=h2 }) hx1 hx3 hy1 hy3 (Sm _ _ _ _ 0 hx4 hy4 (by simp) ?_);exact c
  ·rintro⟨⟨⟩,e_⟩ s' ⟨rfl,har,hf⟩;have X_:=kat_snds (ks:=vs) (vs:=vs) rfl har;refine fin (p.toList.map λi=>vs.getD i gI) (p.toList.map λi=>nss.getD i []) e_ X_ hf ⟨by simp,λi v e=>?_⟩ (λv hv=>?_) ?_ ?_ (by simp[psz];lia)
   ·rw[bZ] at e;cases e2:p.toList[i]? with
    | none=>rw[e2] at e;simp at e
    | some j =>
     rw[e2] at e;simp only[qA,rD] at e;have hj:j<vs.length:=by
      have m:j∈p.toList:=eS e2;have:=(FN i2).mp (iM.mp m);simpa using this
     obtain⟨b,hb1,hb2⟩:=K2.2 j v (by rw[<-e];simp[hj]);refine⟨b,hb1,?_⟩;have g:(p.toList.map λi=>nss.getD i []).getD i []=nss.getD j []:=by
      rw[dW,bZ,e2];rfl
     rw[g];exact hb2
   ·obtain⟨j,m,rfl⟩:=bJ.mp hv;have hj:j<vs.length:=by
     have:=(FN i2).mp (iM.mp m);simpa using this
    simp[hj]
   ·have pl:p.toList.Perm (dZ vs.length):=(by simpa using i2.toList);refine (pl.map _).trans ?_;rw[ln,range_getD]
   ·refine oG.mpr (jP.mpr λi j hi hj md=>?_);have:=i3 i j (by lia) (by simp at hj;lia);unfold kk at this;simp only[cT] at hi hj;have e1:p.getD i 0=p[i]:=(by simp[lB,hi]);have e2:p.getD j 0=p[j]:=(by simp[lB,hj]);rw[e1,e2] at this;exact this
theorem MV {S:Addr} {es:Array (Int × aD)} {Q:aD->aG->Prop} (hh:A.handled=none) (H:iy prog w s.heap S es) (EE:es.size<64) {nss:List (List Int)} (hn:∀ns∈nss,ns≠[])
  (hk:∀e∈es.toList,∃ns∈nss,∃a,e.2 = .ref a/\IsTupleKey (intKind prog w) s.heap ns a)
  (q:∀h' D out mss c,s.heap.objs.size<=D->h'.get? D=some (seqObj "list" (kY out) c)->gj prog w h' out mss->(∀v∈out,∃e∈es.toList,e.2=v)->(∀ns,ns∈mss↔∃e∈es.toList,∃a,e.2 = .ref a/\IsTupleKey (intKind prog w) s.heap ns a)->mss.Pairwise (λx y=>oV y x=false) ->
   mss.length=es.size->(∀b o,s.heap.get? b=some o->h'.get? b=some o)->Q (.ref D) { s with heap:=h' }) :
  wpAny (model prog w) A (call (.builtin "sorted") [.ref S]) Q E s:=by
 obtain⟨⟨ep,t,ho,T,hf,hl,hp,_⟩,els,_⟩:=H;have wp:=LQ (w:=w) S ep es;have wl:(kO w S ep es).toList.length=es.size:=by rw[wp.length_eq,cT]
 refine Calls.call_function_entry kind_sorted plain_sorted entry_sorted (args_sorted1 _) ?_;unfold Builtin.«sorted»;refine aA (m:=checkCount "sorted" 1 1 _) (aK ?_);apply aA;refine YI (A:=A.in1) (by simp[hh]) ho T hl hp (by lia) λh1 k1 qt=>?_;apply aA;refine TQ ?_ (by rw[cN,wl,mD];lia);show wpAny _ _ _ _ _ { s with heap:=h1.push (seqObj "list" (kY ((kO w S ep es).toList.map (·.2))) 0) };have hL:(h1.push (seqObj "list" (kY ((kO w S ep es).toList.map (·.2))) 0)).get? h1.objs.size=some (seqObj "list" (kY ((kO w S ep es).toList.map (·.2))) 0):=bR _ rfl;have k2:∀b o,s.heap.get? b=some o->(h1.push (seqObj "list" (kY ((kO w S ep es).toList.map (·.2))) 0)).get? b=some o:=λb o e=>aR _ (k1 b o e);generalize h1.push (seqObj "list" (kY ((kO w S ep es).toList.map (·.2))) 0)=h2 at hL k2;have ex:∀(i:Nat) (v:aD),((kO w S ep es).toList.map (·.2))[i]? = some v->∃ns∈nss,∃a,v = .ref a/\IsTupleKey (intKind prog w) s.heap ns a:=by
  intro i v e;rw[bZ] at e;cases e2:(kO w S ep es).toList[i]? with
  | none=>rw[e2] at e;simp at e
  | some x =>
   rw[e2] at e;simp only[qA,rD] at e;have m:x∈es.toList:=wp.mem_iff.mp (eS e2);obtain⟨ns,h1,a,h2,h3⟩:=hk x m;exact⟨ns,h1,a,by rw[<-e];exact h2,h3⟩
 obtain⟨kss,kl,kk⟩:∃kss:List (List Int),kss.length=((kO w S ep es).toList.map (·.2)).length/\∀(i:Nat) (v:aD),((kO w S ep es).toList.map (·.2))[i]? = some v->kss.getD i []∈nss/\∃a,v = .ref a/\IsTupleKey (intKind prog w) s.heap (kss.getD i []) a:=by
  generalize ((kO w S ep es).toList.map (·.2))=vs at ex;clear hL
  induction vs with
  | nil=>exact⟨[],rfl,λi v e=>by simp at e⟩
  | cons v vs ih =>
   obtain⟨kss,k1,k2⟩:=ih λi v e=>ex (i+1) v (by simpa using e);obtain⟨ns,h1,a,h2,h3⟩:=ex 0 v rfl;refine⟨ns::kss,by simp[k1],λi u e=>?_⟩;cases i with
   | zero=>simp at e;subst e;exact⟨h1,a,h2,h3⟩
   | succ i=>exact k2 i u (by simpa using e)
 have KA:gj prog w h2 ((kO w S ep es).toList.map (·.2)) kss:=by
  refine⟨kl.symm,λi v e=>?_⟩;obtain⟨_,a,h1,o,its,m,g1,g2⟩:=kk i v e;exact⟨a,h1,o,its,m,k2 _ _ g1,g2⟩
 have yu:∀ns,ns∈kss↔∃e∈es.toList,∃a,e.2 = .ref a/\IsTupleKey (intKind prog w) s.heap ns a:=by
  intro ns;constructor
  ·intro h;obtain⟨i,hi,e⟩:=dS h;have jf:i<((kO w S ep es).toList.map (·.2)).length:=(by lia);obtain⟨_,a,h1,h2⟩:=kk i _ (aE jf);have g:kss.getD i []=ns:=(by simp[hi,e]);rw[g] at h2;simp only[List.getElem_map] at h1;exact⟨_,wp.mem_iff.mp (pF _),a,h1,h2⟩
  ·rintro⟨e,he,a,h1,h2⟩;obtain⟨i,hi,e'⟩:=dS (wp.mem_iff.mpr he);obtain⟨_,b,g1,g2⟩:=kk i e.2 (by rw[bZ,aE hi,e'];rfl);rw[h1] at g1;cases g1;have:=g2.inj h2;rw[<-this];have jf:i<kss.length:=(by rw[kl];simpa using hi);simp[jf]
 refine aA (fU (iU slot_list_sort ⟨_,hL,rfl⟩ entry_list_sort ?body (args_list_sort _)))
 case body =>
  refine Ko (s:={ s with heap:=h2 }) hL KA (λns h=>?_) (by rw[cN,wl];exact EE) λh3 out mss c g1 g2 g3 g4 g5 g6=>?_
  ·obtain⟨e,he,a,e1,e2⟩:=(yu ns).mp h;obtain⟨ms,m1,b,e3,e4⟩:=hk e he;rw[e1] at e3;cases e3;rw[e2.inj e4];exact hn ms m1
  ·refine⟨_,rfl,aK ⟨_,rfl,q h3 h1.objs.size out mss c qt g1 g2 (λv hv=>?_) (λns=>(g4.mem_iff).trans (yu ns)) g5 ?_ λb o e=>?_⟩⟩
   ·obtain⟨e,he,rfl⟩:=bJ.mp (g3 v hv);exact⟨e,wp.mem_iff.mp he,rfl⟩
   ·rw[g4.length_eq,kl,cN,wl]
   ·have:=aW e;exact g6 b o (by intro z;simp only[Addr] at *;lia) (k2 b o e)
end
end
section
open PySem PySem.W PyProof.Rows
def Do:typeLookup (.type "list_reverseiterator") "__len__" = pure none:=by rw[qD,lN];kernel_rfl
def Nx:typeLookup (.type "list_reverseiterator") "__length_hint__" = pure (some (.builtin "list_reverseiterator.__length_hint__")):=by rw[qD,lN];kernel_rfl
def XS:isSubtype (.type "list_reverseiterator") (.type "list_reverseiterator")=pure true:=by rw[PY];kernel_rfl
section
def Pp (ty:s.TypeIs (.ref I) "list_reverseiterator") (q:Q false s):wpAny (model prog w) A (jH (.ref I)) Q E s:=by
 unfold jH;apply aA;refine nU ty Do ?_;show wpAny _ _ (specialOf (fX I) (lW "__length_hint__") >>= _) _ _ _;apply aA;refine nU ty Nx ?_;dsimp only;have sp:splitId "list_reverseiterator.__length_hint__" = some ("list_reverseiterator","__length_hint__"):=by decide +kernel
 rw[sp];dsimp only;apply aA;refine sN (b:=true) ty XS ?_;simp only[fS,aN,if_false];have key:∀(c:Bool) (X Y:Sem Bool),c=true->wpAny (model prog w) A X Q E s->wpAny (model prog w) A (if c=true then X else Y) Q E s:=λc X Y hc h=>by rw[if_pos hc];exact h
 refine key _ _ _ (by decide +kernel) ?_;rw[if_neg (by decide +kernel)];exact aK q
def SK (hh:A.handled=none) (ne:l≠I) (hz:items.size<=sizeLine) (hi:s.heap.IsRevIter I l ((items.size:Int)-1)) (hl:s.heap.IsList l items)
  (q:∀h' c,h'.get? s.heap.objs.size=some (seqObj "list" items.toList.reverse.toArray c)->(∀b o,b≠I->s.heap.get? b=some o->h'.get? b=some o)->Q (.ref s.heap.objs.size) { s with heap:=h' }) :
  wpAny (model prog w) A (call (.type "list") [.ref I]) Q E s:=by
 have ltI:I<s.heap.objs.size:=by obtain⟨o,e,_⟩:=hi;exact aW e
 have ltl:l<s.heap.objs.size:=by obtain⟨o,e,_⟩:=hl;exact aW e
 refine OW (Q₁:=λobj s₁=>obj = .ref s.heap.objs.size/\s₁ = { s with heap:=s.heap.push { cls:=.type "list",data:=.seq #[] } }) F.called_list (F.typeCall_list_1 _) F.entry_list_init (SQ _ ⟨rfl,rfl⟩) λobj s₁ h₁=>?_;obtain⟨rfl,rfl⟩:=h₁;have hS:(s.heap.push { cls:=.type "list",data:=.seq #[] }).get? s.heap.objs.size=some { cls:=.type "list",data:=.seq #[] }:=bR _ rfl;refine⟨⟨_,hS,rfl⟩,F.args_list_init_2 _ _,?_⟩;show wpAny _ _ (do let old <-mX (.ref s.heap.objs.size);qM (.ref s.heap.objs.size) (λ_=>#[]);letGo old.toList.reverse;fP (.ref s.heap.objs.size) (.ref I) .none) _ _ _;apply aA;unfold mX;apply aA;apply eW hS rfl;apply aK;show wpAny _ _ (updateSeq s.heap.objs.size (λ_=>#[]) >>= λ_=>letGo (#[]:Array aD).toList.reverse >>= λ_=>fP (.ref s.heap.objs.size) (.ref I) .none) _ _ _;apply aA;refine gD hS rfl ?_;have wj:=eD (dH (λ_=>(#[]:Array aD))) hS rfl;have kb:∀b o,b≠s.heap.objs.size->s.heap.get? b=some o->((s.heap.push { cls:=.type "list",data:=.seq #[] }).update s.heap.objs.size (dH (λ_=>(#[]:Array aD)))).get? b=some o :=
  λb o hb e=>(cQ _ _ (Ne.symm hb)).trans (aR _ e)
 generalize (s.heap.push { cls:=.type "list",data:=.seq #[] }).update s.heap.objs.size (dH (λ_=>(#[]:Array aD)))=h2 at wj kb;apply aA;apply jO;have j7:I≠s.heap.objs.size:=bK ltI;have nel:l≠s.heap.objs.size:=bK ltl;have F':h2.IsRevIter I l ((items.size:Int)-1):=hi.at λo e=>kb _ o j7 e;have HE:h2.IsList l items:=hl.at λo e=>kb _ o nel e;unfold fP;apply aA;refine rN (T:="list_reverseiterator") F'.typeIs ?_;have g1:jA (.ref s.heap.objs.size) (.ref I)=false:=by simp[jA,eK ltI]
 have g2:(iX "list_reverseiterator" == iX "list")=false:=by decide
 have g3:(iX "list_reverseiterator" == iX "tuple")=false:=by decide
 simp only[g1,g2,g3,wK,aN,if_false];apply aA;refine wpAny_pyIter_revIter F' ?_;apply aA;apply fU;refine Pp F'.typeIs ?_;have key:∀(c:Bool) (X Y:Sem Fin) {Q':Fin->aG->Prop} {E':aD->aG->Prop} {s':aG} {A':dJ},c=false->wpAny (model prog w) A' Y Q' E' s'->wpAny (model prog w) A' (if c=true then X else Y) Q' E' s':=λc X Y _ _ _ _ hc h=>by rw[hc,if_neg cO];exact h
 refine key _ _ _ (by decide +kernel) ?_;apply aK;refine⟨gT iW _,?_⟩;refine PM (s0:=s) (n:=items.size) (J:=λacc h=>h.IsRevIter I l ((items.size:Int)-1-(acc.length:Int))/\h.IsList l items/\acc=items.toList.reverse.take acc.length/\∀b o,b≠I->b≠s.heap.objs.size->s.heap.get? b=some o->h.get? b=some o)
  (F:=λacc h=>acc=items.toList.reverse/\∀b o,b≠I->b≠s.heap.objs.size->s.heap.get? b=some o->h.get? b=some o) .none hz ?_ ?_ ?_ (λh' acc c lq hF i8=>⟨rfl,?_⟩) items.size #[] h2 _ rfl (gU _) ?_ wj
 ·rintro acc h h' ⟨J1,J2,J3,J4⟩ m7 hz up;exact⟨J1.at λo e=>up _ o j7 e,J2.at λo e=>up _ o nel e,J3,λb o n1 n2 e=>up b o n2 (J4 b o n1 n2 e)⟩
 ·rintro acc s' o Q' E' dk ⟨J1,J2,J3,J4⟩ m7 k;have e:items[items.size-1-acc.length]? = some (items[items.size-1-acc.length]'(by lia)):=bH _;refine wpAny_pyNext_rev_item (i:=items.size-1-acc.length) (by rw[show ((items.size-1-acc.length:Nat):Int)=(items.size:Int)-1-(acc.length:Int) by lia];exact J1) J2 e λh' it' sb=>k _ h' ⟨?_,J2.at λo e=>?_,?_,λb o n1 n2 e=>?_⟩ ?_
  ·rw[show ((items.size-1-acc.length:Nat):Int)-1=(items.size:Int)-1-((acc++[items[items.size-1-acc.length]'(by lia)]).length:Int) by simp;lia] at it';exact it'
  ·rw[sb.2 _ ne];exact e
  ·rw[dC,rQ,mR,<-J3];congr 1;rw[aE (by simp;lia),List.getElem_reverse];simp
  ·rw[sb.2 b n1];exact J4 b o n1 n2 e
  ·rw[sb.2 _ (Ne.symm j7)];exact m7
 ·rintro acc s' o Q' E' hlen ⟨J1,J2,J3,J4⟩ m7 k;rw[hlen] at J3;refine wpAny_pyNext_rev_end (l:=l) (by simp[hh]) (by rw[show (-1:Int)=(items.size:Int)-1-(acc.length:Int) by lia];exact J1) λh' eb=>k h' ⟨?_,λb o n1 n2 e=>eb b o n1 (J4 b o n1 n2 e)⟩ (eb _ _ (Ne.symm j7) m7);rw[J3,nF];simp
 ·exact⟨by simpa using F',HE,rfl,λb o _ n2 e=>kb b o n2 e⟩
 ·refine q h' c ?_ λb o n1 e=>hF.2 b o n1 (bK (aW e)) e;rw[i8,<-hF.1]
end
end
section
open PySem PySem.Spec PyProof.Rows L2
def boot_sorted:bootBuiltins "sorted" = some (.builtin "sorted"):=by decide +kernel
def boot_set:bootBuiltins "set" = some (.type "set"):=by decide +kernel
theorem ZK:∀{ns:List Int} {us:List aD},aq (ns.map V.int) us->ItemsAre (intKind prog w) ns us
 | [],_,h=>by cases h;exact .nil
 | n::ns,_,h=>by
  cases h with
  | cons h1 t =>
   obtain⟨t',rfl⟩:=h1;exact .cons (intKind_is _ _ _ _) (ZK t)
def RC (te:RE):RA:=λρ Q=>te ρ λx=>∃nss:List (List Int),x = .lst (nss.map oC)/\nss.length<64/\(∀ns∈nss,ns≠[])/\∀mss:List (List Int),mss.Pairwise (λx y=>oV y x=false)->(∀ns,ns∈mss↔ns∈nss)->mss.length<=nss.length->Q (mss.map oC)
def RB (te:RE):RA:=λρ Q=>te ρ λx=>∃ds:List D,x = .lst ds/\Q ds.reverse
theorem Bc {K:aI} {H:Hp}:∀(out:List aD) (mss:List (List Int)),out.length=mss.length->(∀(i:Nat) (v:aD),out[i]? = some v->∃a,v = .ref a/\H a=some (.tup ((mss.getD i []).map V.int)))->∃ws:List V,aq ws out/\ah K H (mss.map oC) ws
 | [],[],_,_=>⟨[],.nil,.nil⟩
 | [],_::_,h,_=>by simp at h
 | _::_,[],h,_=>by simp at h
 | v::out,ms::mss,h,k=>by
  obtain⟨ws,h1,h2⟩:=Bc (K:=K) (H:=H) out mss (by simpa using h) λi v e=>k (i+1) v (by simpa using e);obtain⟨a,rfl,ha⟩:=k 0 v rfl;exact⟨.ref a::ws,.cons rfl h1,.cons (.tup ha ah.ints) h2⟩
section
variable {p pz pos h_:Pos}
theorem Cn (hr:ck k X.A) (hms:X.mg "sorted" = none) (yh:X.mg "set" = none) (hc:X.calm=true) (h:DB X e te) (hgs:Gl X "sorted":=by rfl) (yc:Gl X "set":=by rfl)
  (hs:starEach [.Call (.Name "set" pz) [e] [] h_] X.env=[(false,eval (.Call (.Name "set" pz) [e] [] h_) X.env)]:=by rfl) (hn:starEach [] X.env=[]:=by rfl) (h1:starEach [e] X.env=[(false,eval e X.env)]:=by rfl) :
  DO X (.Call (.Name "sorted" p) [.Call (.Name "set" pz) [e] [] h_] [] pos) (RC te):=by
 intro pins s σ H Q I bi;obtain⟨ρ,P,st,q,kq⟩:=bi;refine iQ (wW I hgs hms boot_sorted ?_);refine sA ?_ (by rw[hs,hn]) (by rw[hn];rfl);rw[hs];show wpAny _ _ (spliced ((false,eval (.Call (.Name "set" pz) [e] [] h_) X.env)::backTo pos [])) _ _ s;refine qF (iQ (wW I yc yh boot_set ?_));refine gJ (c_ (vH h h1 hn h_ pins s σ H (λvs H1=>∃(nss:List (List Int)) (v:V),vs=[v]/\ag H H1/\df X.K H1 (.lst (nss.map oC)) v/\nss.length<64/\(∀ns∈nss,ns≠[])/\∀mss:List (List Int),mss.Pairwise (λx y=>oV y x=false)->(∀ns,ns∈mss↔ns∈nss)->mss.length<=nss.length->P (mss.map oC)) I
  ⟨ρ,_,st,q,λx v H1 hx s1 r1=>?_⟩) λus s1 ⟨vs,H1,I1,r1,q1⟩=>?_) (by rw[h1,hn]) (by rw[hn];rfl)
 ·obtain⟨nss,rfl,a1,a2,a3⟩:=hx;exact⟨nss,v,rfl,s1,r1,a1,a2,a3⟩
 obtain⟨nss,v,rfl,o7,rb,EE,gm,hP⟩:=q1;obtain⟨l,vs,rfl,hq,rr⟩:=rb.lst;obtain⟨u,rfl,rx⟩:=vals1 r1;cases rx;obtain⟨its,rv,pl,hz⟩:=I1.list hq;have l1:=rr.length;have l2:=rv.length;rw[cN] at l1;have each:∀(i:Nat) (u:aD),its[i]? = some u->∃ns a,nss[i]? = some ns/\vs[i]? = some (.ref a)/\u = .ref a/\IsTupleKey (intKind X.prog X.w) s1.heap ns a:=λi u e=>by
  have hi:i<nss.length:=by have:=(bI.mp e).1;lia
  obtain⟨v,e1,e2⟩:=rr.get (i:=i) (d:=oC nss[i]) (by rw[bZ,aE hi];rfl);obtain⟨a,rfl,ha⟩:=ah.tupI_inv e2;obtain⟨u',f1,f2⟩:=rv.get e1;rw[e] at f1;cases f1;cases f2;obtain⟨ts,g1,g2,_⟩:=I1.tuple (fg.of (K:=X.K) ha);obtain⟨o,go,gc,n,gd⟩:=g2;exact⟨_,a,aE hi,e1,rfl,o,ts.toArray,n,go,gc,gd,by simpa using ZK g1⟩
 have hu:=hr.un;refine SN (key:=λi=>nss.getD i []) (I1.ok.hd hc) (by lia) pl.isList (λi u e=>?_) (by simp;lia) λh2 tk D up=>?_
 ·obtain⟨ns,a,n1,_,rfl,hk⟩:=each i u (by simpa using e);refine⟨a,rfl,?_⟩;have:nss.getD i []=ns:=by rw[dW,n1];rfl
  rw[this];exact hk
 refine qU ?_;obtain⟨es,ST,d1,d2,d3⟩:=D;have qg:∀{ns:List Int} {a:Addr},IsTupleKey (intKind X.prog X.w) s1.heap ns a->IsTupleKey (intKind X.prog X.w) h2 ns a:=λ⟨o,its,n,g1,g2⟩=>⟨o,its,n,up _ _ g1,g2⟩;have elem:∀e∈es.toList,∃(i:Nat) (ns:List Int) (a:Addr),nss[i]? = some ns/\vs[i]? = some (.ref a)/\e.2 = .ref a/\IsTupleKey (intKind X.prog X.w) h2 ns a:=λe he=>by
  obtain⟨j,hj,ej⟩:=d1 e he;obtain⟨ns,a,n1,n2,n3,hk⟩:=each j e.2 (by simpa using ej);exact⟨j,ns,a,n1,n2,n3,qg hk⟩
 refine MV (s:={ s1 with heap:=h2,toks:=tk }) (A:=X.A) (I1.ok.hd hc) ST (by simp at d3;lia) (nss:=nss) gm (λe he=>?_) λh3 Dd out mss c qt g1 g2 g3 g4 g5 g6 ap=>?_
 ·obtain⟨i,ns,a,n1,n2,n3,hk⟩:=elem e he;exact⟨ns,eS n1,a,n3,hk⟩
 have kp:∀b o,s1.heap.get? b=some o->h3.get? b=some o:=λb o e=>ap b o (up b o e);have I3:Inv X pins σ H1 { s1 with heap:=h3,toks:=tk }:=I1.kept kp;have szS:s1.heap.objs.size<h2.objs.size:=by obtain⟨⟨ep,t,ho,_⟩,_⟩:=ST;exact aW ho
 have xi:s1.heap.objs.size<=Dd:=by have:h2.objs.size<=Dd:=qt;lia
 have t4:H1 Dd=none:=I1.hok.fresh xi;have ka:∀{i:Nat} {ns:List Int} {a:Addr},nss[i]? = some ns->vs[i]? = some (.ref a)->H1 a=some (.tup (ns.map V.int)):=λ{i ns a} n1 n2=>by
  obtain⟨w,f1,f2⟩:=rr.get (i:=i) (d:=oC ns) (by rw[bZ,n1];rfl);rw[n2] at f1;cases f1;obtain⟨b,e,hb⟩:=ah.tupI_inv f2;cases e;exact hb
 obtain⟨ws,VV,RR⟩:=Bc (K:=X.K) (H:=H1) out mss g2.1 λi v e=>by
  obtain⟨x,hx,ex⟩:=g3 v (eS e);obtain⟨j,ns,a,n1,n2,n3,hk⟩:=elem x hx;obtain⟨b,eb,hb⟩:=g2.2 i v e;rw[<-ex,n3] at eb;cases eb;refine⟨a,by rw[<-ex,n3],?_⟩;have hk3:IsTupleKey (intKind X.prog X.w) h3 ns a:=by obtain⟨o,its,n,q1,q2⟩:=hk;exact⟨o,its,n,ap _ _ q1,q2⟩
  rw[hb.inj hk3];exact ka n1 n2
 have lo:out.length<=64:=by rw[g2.1,g6];simp at d3;lia
 have lw:=VV.length;have I4:=I1.trackO (a:=Dd) (w:=.lst ws) I3 xi t4 ⟨by rw[mD];lia,out,c,VV,g1⟩;refine⟨.ref Dd,_,I4,rfl,kq _ _ _ H1 (hP mss g5 (λns=>?_) (by rw[g6];simp at d3;lia)) o7 t4 RR⟩;rw[g4 ns];constructor
 ·rintro⟨x,hx,a,e1,e2⟩;obtain⟨j,ms,b,n1,n2,n3,hk⟩:=elem x hx;rw[e1] at n3;cases n3;rw[e2.inj hk];exact eS n1
 ·intro h;obtain⟨j,hj,rfl⟩:=dS h;obtain⟨y,hy,b,e1,e2⟩:=d2 j (by simp;lia);refine⟨y,hy,b,e1,?_⟩;have:nss.getD j []=nss[j]:=by simp[hj]
  rw[this] at e2;exact e2
theorem Cm (X3:X.mg "list" = none) (yh:X.mg "reversed" = none) (hc:X.calm=true) (h:DB X e te) (W3:Gl X "list":=by rfl) (yc:Gl X "reversed":=by rfl)
  (hs:starEach [.Call (.Name "reversed" pz) [e] [] h_] X.env=[(false,eval (.Call (.Name "reversed" pz) [e] [] h_) X.env)]:=by rfl) (hn:starEach [] X.env=[]:=by rfl) (h1:starEach [e] X.env=[(false,eval e X.env)]:=by rfl) :
  DO X (.Call (.Name "list" p) [.Call (.Name "reversed" pz) [e] [] h_] [] pos) (RB te):=by
 intro pins s σ H Q I bi;obtain⟨ρ,P,st,q,kq⟩:=bi;refine iQ (wW I W3 X3 boot_list ?_);refine gJ ?_ (by rw[hs,hn]) (by rw[hn];rfl);rw[hs];show wpAny _ _ (spliced ((false,eval (.Call (.Name "reversed" pz) [e] [] h_) X.env)::backTo pos [])) _ _ s;refine qF (iQ (wW I yc yh boot_reversed ?_));refine gJ (c_ (vH h h1 hn h_ pins s σ H (λvs H1=>∃(ds:List D) (v:V),vs=[v]/\ag H H1/\df X.K H1 (.lst ds) v/\P ds.reverse) I
  ⟨ρ,_,st,q,λx v H1 hx s1 r1=>?_⟩) λus s1 ⟨vs,H1,I1,r1,q1⟩=>?_) (by rw[h1,hn]) (by rw[hn];rfl)
 ·obtain⟨ds,rfl,a1⟩:=hx;exact⟨ds,v,rfl,s1,r1,a1⟩
 obtain⟨ds,v,rfl,o7,rb,hP⟩:=q1;obtain⟨l,vs,rfl,hq,rr⟩:=rb.lst;obtain⟨u,rfl,rx⟩:=vals1 r1;cases rx;obtain⟨its,rv,pl,hz⟩:=I1.list hq;have l1:=rr.length;have l2:=rv.length;have lt:l<s1.heap.objs.size:=by obtain⟨o,e,_⟩:=pl.isList;exact aW e
 refine call_reversed_list pl.isList ?_;refine qU ?_;have g0:(s1.heap.push (revObj l ((its.toArray.size:Int)-1))).get? s1.heap.objs.size=some (revObj l ((its.toArray.size:Int)-1)):=bR _ rfl;have k1:∀b o,s1.heap.get? b=some o->(s1.heap.push (revObj l ((its.toArray.size:Int)-1))).get? b=some o:=λb o e=>aR _ e;have z1:(s1.heap.push (revObj l ((its.toArray.size:Int)-1))).objs.size=s1.heap.objs.size+1:=gO ..;generalize s1.heap.push (revObj l ((its.toArray.size:Int)-1))=h2 at g0 k1 z1;refine SK (s:={ s1 with heap:=h2 }) (A:=X.A) (l:=l) (I1.ok.hd hc) (bK lt) (by simp;lia) ⟨_,g0,rfl,rfl⟩ (pl.isList.at λo e=>k1 _ o e) λh3 c g1 up=>?_;show EP X pins σ Q (.ref h2.objs.size) _;rw[show (lV { s1 with heap:=h2 }).objs.size=s1.heap.objs.size+1 from z1] at g1;rw[z1];have kp:∀b o,s1.heap.get? b=some o->h3.get? b=some o:=λb o e=>up b o (bK (aW e)) (k1 b o e);have I3:Inv X pins σ H1 { s1 with heap:=h3 }:=I1.kept (t':=s1.toks) kp;have t4:H1 (s1.heap.objs.size+1)=none:=I1.hok.fresh (Nat.le_succ _);have VV:aq vs.reverse its.reverse:=by
  clear hq pl hz l1 l2 rr g1 g0
  induction rv with
  | nil=>exact .nil
  | cons r t ih =>
   simp only[vX];exact aq.append ih (.cons r .nil)
 have I4:=I1.trackO (a:=s1.heap.objs.size+1) (w:=.lst vs.reverse) I3 (Nat.le_succ _) t4 ⟨by simp;lia,its.reverse,c,VV,by simpa using g1⟩;exact⟨.ref (s1.heap.objs.size+1),_,I4,rfl,kq _ _ _ H1 hP o7 t4 rr.reverse⟩
end
section
def F3 (lo:Int) (n:Nat):List D:=(dZ n).map λk:Nat=>D.int (lo+(k:Int)*2)
structure su (j:Int):Prop where
 lo:-(2 ^ 60)<=j
 hi:j<2 ^ 60
def Yv (t:RA):RA:=λρ Q=>t ρ λds=>match ds with
 | [.int i,.int j,.int c]=>(su i/\su j/\c=2)/\Q (F3 i ((j-i+1) / 2).toNat)
 | _=>False
end
end
end L2.R2
namespace L2
open PySem PySem.Spec PyProof.Rows
section
variable {κ:Type} [DecidableEq κ]
def Ey (cf:List (κ × V)) (k:κ):Option V:=(cf.find? λkv=>decide (kv.1=k)).map (·.2)
theorem Bp {p:κ × V} {r:List (κ × V)} {k:κ} (e:p.1=k):Ey (p::r) k=some p.2:=by simp[Ey,nO,e]
theorem Bo {p:κ × V} {r:List (κ × V)} {k:κ} (e:¬p.1=k):Ey (p::r) k=Ey r k:=by simp[Ey,nO,e]
theorem m5.getD (r:m5 o u) (rd:RelV d d'):RelV (o.getD d) (u.getD d'):=by
 cases o with
 | none=>cases u with
  | none=>exact rd
  | some _=>exact (show False from r).elim
 | some _=>cases u with
  | none=>exact (show False from r).elim
  | some _=>exact r
theorem KV.val (r:KV cf vs) (k:κ):m5 (Ey cf k) (valueAt vs k):=by
 unfold KV at r
 induction r with
 | nil=>exact sB
 | @cons p q ps qs h t ih =>
  obtain⟨h1,h2⟩:=h;by_cases e:p.1=k
  ·have e':q.1=k:=h1.symm.trans e;have b:valueAt (q::qs) k=some q.2:=(by simp[valueAt,nO,e']);rw[Bp e,b];exact h2
  ·have e':¬q.1=k:=λz=>e (h1.trans z);have b:valueAt (q::qs) k=valueAt qs k:=(by simp[valueAt,nO,e']);rw[Bo e,b];exact ih
end
abbrev KT (H:Hp):List (List iu × V)->List (List iu × Addr × aD)->Prop:=Paired λp q=>p.1=q.1/\H q.2.1=some (.tup (p.1.map kV))/\RelV p.2 q.2.2
theorem KT.val (r:KT H cf xs) (k:List iu):m5 (Ey cf k) ((atKey xs k).map (·.2)):=by
 induction r with
 | nil=>exact sB
 | @cons p q ps qs h t ih =>
  obtain⟨h1,_,h2⟩:=h;by_cases e:p.1=k
  ·have e':q.1=k:=h1.symm.trans e;have b:atKey (q::qs) k=some q.2:=(by simp[atKey,nO,e']);rw[Bp e,b];exact h2
  ·have e':¬q.1=k:=λz=>e (h1.trans z);have b:atKey (q::qs) k=atKey qs k:=(by simp[atKey,nO,e']);rw[Bo e,b];exact ih
abbrev VV:List (V × V)->List (aD × aD)->Prop:=Paired λp q=>RelV p.1 q.1/\RelV p.2 q.2
end L2
namespace L2.R2
section
open PySem PySem.Spec PyProof.Rows L2
def D4:List (Int × List D)->Int->List (Int × List D)
 | [],k=>[(k,[])]
 | (k',ds)::r,k=>if k'=k then (k',ds)::r else (k',ds)::D4 r k
def putL:List (Int × List D)->Int->D->List (Int × List D)
 | [],k,d=>[(k,[d])]
 | (k',ds)::r,k,d=>if k'=k then (k',ds++[d])::r else (k',ds)::putL r k d
section
variable {e k:Expr} {pos pos' p apos b_ fe jm dpos lpos:Pos} {te tk:RE} {x:Str}
def D8 (i:Nat):RS:=λE ρ=>E.nx (ρ.set i (some (.dcl [])))
def rDApp (i:Nat) (tk te:RE):RS:=λE ρ=>match ρ[i]? with
 | some (some (.dcl cf))=>tk ρ λkd=>match kd with
  | .int k=>Sz (cf.length+1)/\te (ρ.set i (some (.dcl (D4 cf k)))) λd=>(∀p∈cf,Sz (p.2.length+1))/\E.nx (ρ.set i (some (.dcl (putL cf k d))))
  | _=>False
 | _=>False
def Mi:List Int->List D->Int->Option D
 | k'::ks,d::ds,k=>if k'=k then some d else Mi ks ds k
 | _,_,_=>none
def dKey:R22:=λx y Q=>match x,y with
 | .dct ks ds,.int k=>∃d,Mi ks ds k=some d/\Q d
 | _,_=>False
end
end
section
open PySem PySem.Spec PyProof.Rows L2 PySem.W
theorem DY:∀{ns:List Int} {us:List aD},IntsAre us ns->aq (ns.map V.int) us
 | [],[],_=>.nil
 | n::ns,u::us,h=>by
  cases h with
  | cons _ t h=>exact .cons ⟨_,rfl⟩ (DY h)
def M1 (te:RE):RA:=λρ Q=>te ρ λx=>∃ns:List Int,x = .lst (ns.map .int)/\ns.length<64/\∀ms:List Int,ms.Perm ns->ms.Pairwise (·<=·)->Q (ms.map .int)
def M3 (te:RE):RA:=λρ Q=>te ρ λx=>∃nss:List (List Int),x = .lst (nss.map oC)/\nss.length<64/\(∀ns∈nss,ns≠[])/\∀mss:List (List Int),mss.Perm nss->mss.Pairwise (λx y=>oV y x=false)->Q (mss.map oC)
def L3 (te:RE):RA:=λρ Q=>te ρ λx=>∃(ks:List Int) (ds:List D),x = .dct ks ds/\ks.length=ds.length/\Q (ks.map .int)
end
section
open PySem PySem.Spec PyProof.Rows L2
def MZ (l:Addr) (items:Array aD) (n:Nat) (b:Addr) (c9:Array aD) (n2:Nat) (sl:Array (Option aD)) (k8:¬(!items.isEmpty && mF (items.size+c9.size))=true) (hc1:items.size<=sizeLine) (vo:items.size+c9.size<=sizeLine+1) :
  Meets (Builtin.«list.extend» ⟨[.ref l,.ref b],[]⟩) (λ_ R s=>s.heap.get? l=some { cls:=.type "list",dict:=none,data:=.seq items n,slots:=#[] }/\s.heap.get? b=some { cls:=.type "list",dict:=none,data:=.seq c9 n2,slots:=sl }/\R (.ok (.ret gI)) { s with heap:=s.heap.update l (dH λx=>x++c9),toks:=s.toks }) :=
 .of_wp λprog w A R s h=>by
  obtain⟨hp,g,d,tk,os⟩:=s;obtain⟨hl,hb,h⟩:=h;have K_:(items++c9).size<=sizeLine+1:=by rw[Array.size_append];exact vo
  wp_walk using (gD hl rfl (hz:=hc1) (_hz':=K_)),tI hl,tI hb;exact⟨_,rfl,h⟩
def Pc (K:aI):V->List V->Hp->VK->Prop:=λx vs H Q=>∃l b xs zs,x = .ref l/\vs=[.ref b]/\H l=some (.lst xs)/\g_ K H b zs/\xs.length+zs.length<=sizeLine/\Q .non (bB H l (.lst (xs++zs)))
section
variable {X:Cx} {e:Expr} {pos apos b_ fe p2 p3 p4:Pos} {te:RE} {x:Str}
theorem Dr:z7 X "list.extend" (Pc X.K):=by
 intro pins s σ H x vs v us Q I rx rv h;obtain⟨l,b,xs,zs,rfl,rfl,hH,hB,hz,q⟩:=h;cases rx;obtain⟨u,rfl,ru⟩:=rv.one;cases ru;obtain⟨z,its,n,r,hl,e⟩:=I.lstM hH;obtain⟨fj,r2,pl,z2⟩:=I.list hB;have HE:=r2.length;obtain⟨o,n2,e2,c1,c2,c3⟩:=pl;obtain⟨oc,od,oda,qz⟩:=o;dsimp only at c1 c2 c3;subst c1 c2 c3;have lq:its.toArray.size+fj.toArray.size<=sizeLine:=by rw[aZ,aZ];lia
 have yg:¬(!its.toArray.isEmpty && mF (its.toArray.size+fj.toArray.size))=true:=by
  rw[Ob lq,AT];exact cO
 refine vA F.slot_list_extend ⟨_,e,rfl⟩ F.entry_list_extend (F.args_list_extend_2 _ _)
  (MZ l its.toArray n b fj.toArray n2 qz yg (by rw[aZ];lia) (by lia)) ⟨e,e2,?_⟩
 refine⟨.non,_,I.lset (its':=its++fj) hH e (by simp) (r.append r2) ?_,rfl,q⟩;rw[dC];lia
def Ax (i:Nat) (te:RE):RS:=λE ρ=>match ρ[i]? with
 | some (some (.own xs))=>te ρ λd=>match d with
  | .lst ys=>Sz (xs.length+ys.length)/\E.nx (ρ.set i (some (.own (xs++ys))))
  | _=>False
 | _=>False
theorem Ik (i:Nat) (he:DE X e te) (hN:X.N[i]? = some x:=by rfl) (hv:p7 X.env.scope x:=by walk_at "vis") (hd:(x == ("__debug__":Str))=false:=by decide) (jx:(x == ("__classdict__":Str))=false:=by decide)
  (fh:attributeBase (.Name x fe) "extend" X.env (eval (.Name x fe) X.env)=eval (.Name x fe) X.env:=by rfl)
  (m8:((backTo b_ (starEach [e] X.env)).all (λx=>!x.1) && (backToKw b_ (keywordEach [] X.env)).all (λx=>x.1.isSome) && decide (([e]:List Expr).length+([]:List vT).length+(if ([]:List vT).isEmpty then 0 else 1)<30))=true:=by rfl)
  (fi:(apos.endLine == b_.line)=true:=by rfl) (hs:starEach [e] X.env=[(false,eval e X.env)]:=by rfl) (hn:starEach [] X.env=[]:=by rfl) (oz:swapsWith (.Call (.Attribute (.Name x fe) "extend" apos) [e] [] b_) none pos.line X.env=pure false:=by rfl) :
  DS X (.Expr (.Call (.Attribute (.Name x fe) "extend" apos) [e] [] b_) pos) (Ax i te):=by
 refine PS.mono (OA (Om kF PySem.F.slot_list_extend PySem.F.type_list_extend Dr (pv i hN hv hd jx) (vH he hs hn) fh m8 fi (by rw[hs,hn]) (by rw[hn];rfl)) oz) λDe σ H hh=>rG hh λρ E so q n r bk ct=>?_;unfold Ax at q;split at q
 ·rename_i xs ex;obtain⟨v,h1,p,vs,ev,hp,h0,rr⟩:=so.rel i _ ex;subst ev;refine⟨.ref p,h1,.inl ⟨rfl,vs,g_.of hp⟩,ρ,_,so,q,λd v H1 hd s1 rd=>?_⟩;have la:=s1.get _ _ hp trivial;cases d with
  | lst ys =>
   cases rd with
   | @lst b us _ hz rd =>
    obtain⟨jt,k2⟩:=(so.ext s1).upd_own ex h1 la h0 ((rr.keep (.of s1)).append rd);have lq:xs.length+ys.length<=sizeLine:=hd.1.ok;exact⟨p,b,vs,us,rfl,rfl,la,hz.sq,by rw[<-rr.length,<-rd.length];exact lq,n _ _ _ hd.2 ((ak.of s1).trans k2) jt⟩
  | _=>exact hd.elim
 ·exact q.elim
def alt {α:Type}:List α->List α
 | []=>[]
 | [x]=>[x]
 | x::_::r=>x::alt r
def rAlt (k:Nat) (te:RE):RA:=λρ Q=>te ρ λx=>match x with
 | .lst ds=>Q (alt (ds.drop k))
 | _=>False
end
section
def riFar (t:RA):RA:=λρ Q=>t ρ λds=>match ds with
 | [.int i,.int j]=>Q (tG i (j-i).toNat)
 | _=>False
def Zu:R22:=λx y Q=>match x,y with
 | .bl a,.bl b=>Q (.int ((if a then 1 else 0)-(if b then 1 else 0)))
 | _,_=>False
end
end
end L2.R2
namespace HT
open PySem PyProof.Rows
section
open PySem.SeqAt
open PySem.AutoSeq1 (wpAny_loadPart')
open PySem.MeetsSeq PySem.MeetsSeq2 PySem.MeetsSeq3
end
end HT
namespace L2.R2
section
open PySem PySem.Spec PyProof.Rows L2
section
def J5:List D->(D->Prop)->Prop:=λds Q=>∃ns ms,ds=[oC ns,oC ms]/\Q (oC (if HT.lexLt ms ns=true then ms else ns))
def H9:List D->(D->Prop)->Prop:=λds Q=>∃ns ms,ds=[oC ns,oC ms]/\Q (oC (if HT.lexLt ns ms=true then ms else ns))
end
section
variable {σ:St}
theorem Inv.thaw (I:Inv X pins σ H s) (h:H a=some (.frz o (.lst xs))) (h0:X.H₀ a=none):Inv X pins σ (bB H a (.lst xs)) s:=by
 have nn:∀b,H b=none->bB H a (.lst xs) b=none:=λb q=>by rw[cX (by rintro rfl;rw[h] at q;cases q)];exact q
 have ne0:∀b u,X.H₀ b=some u->b≠a:=λb u q z=>by subst z;rw[h0] at q;cases q
 refine⟨I.ok,I.os,I.bare,⟨I.base.keep,I.base.slot,λb o q n x=>nn b (I.base.free b o q n x),I.base.there,λb ys q=>?_,λb o u q=>?_,λb ps q=>?_⟩,I.loc,I.cell,nn _ I.free,λx c e=>nn _ (I.freeC x c e),λp hp=>?_,λb u q=>?_,I.len⟩
 ·rw[cX (ne0 b _ q)];exact I.base.tups b ys q
 ·rw[cX (ne0 b _ q)];exact I.base.frzs b o u q
 ·rw[cX (ne0 b _ q)];exact I.base.tbls b ps q
 ·obtain⟨p1,p2,p3⟩:=I.pin p hp;exact⟨p1,nn _ p2,p3⟩
 ·have st:∀{b:Addr} {u:HO},cg X.prog X.w H s.heap b u->cg X.prog X.w (bB H a (.lst xs)) s.heap b u:=λ{b u} q =>
   q.stay (λc v _ w=>w) (λc w=>by rw[cX (by rintro rfl;rw[h] at w;cases w)];exact w) λc ys w=>by rw[cX (by rintro rfl;rw[h] at w;cases w)];exact w
  by_cases hb:b=a
  ·subst hb;rw[fT] at q;cases q;exact st (show cg X.prog X.w H s.heap b (.frz o (.lst xs)) from I.hok b _ h).2
  ·rw[cX hb] at q;exact st (I.hok b u q)
end
section
def K5 (i:Nat) (ρ:En):En:=match ρ[i]? with
 | some (some (.own ds))=>ρ.set i (some (.d (.lst ds)))
 | _=>ρ
end
def Ay (t u:RS):RS:=λE ρ=>t { nx:=u E,rt:=λ_=>False } ρ
def rRetO (i:Nat):RS:=λE ρ=>match ρ[i]? with
 | some (some (.own xs))=>E.rt (.lst xs)
 | _=>False
def K6 (F:FD) (t:RA):RA:=λρ Q=>t ρ λds=>F ds λd=>match d with
 | .lst xs=>Q xs
 | _=>False
section
variable {t:RA}
structure T6 (j:Int):Prop where
 lo:0<=j
 hi:j<2 ^ 62
def M9 (t:RA):RA:=λρ Q=>t ρ λds=>match ds with
 | [.int j]=>T6 j/\Q (tG 0 j.toNat).reverse
 | _=>False
end
def dNeL:R22:=λx y Q=>match x,y with
 | .lst xs,.lst ys=>xs.length=ys.length/\match ji (fb 5) xs ys with
  | some b=>Q (.bl !b)
  | none=>False
 | _,_=>False
section
variable {e k:Expr} {te tk:RE}
def rBNew (i:Nat):RS:=λE ρ=>E.nx (ρ.set i (some (.box false [[],[]])))
def rBApp (i:Nat) (tk te:RE):RS:=λE ρ=>match ρ[i]? with
 | some (some (.box false jd))=>tk ρ λkd=>match kd with
  | .int k=>∃(j:Nat) (ds:List D),(k=(j:Int)/\jd[j]? = some ds/\Sz (ds.length+1))/\te ρ λd=>E.nx (ρ.set i (some (.box false (jd.set j (ds++[d])))))
  | _=>False
 | _=>False
end
def rRetB (i:Nat) (ta tb:RA):RS:=λE ρ=>match ρ[i]? with
 | some (some (.own xs))=>ta ρ λys=>tb ρ λzs=>E.rt (.tup [.lst xs,.lst ys,.lst zs])
 | _=>False
def rSetB (j:Nat) (F:FD) (t:RA):RS:=λE ρ=>t ρ λds=>F ds λd=>∃jd:List (List D),d = .tup (jd.map .lst)/\E.nx (ρ.set j (some (.box true jd)))
def lendB (i:Nat) (ρ:En):En:=match ρ[i]? with
 | some (some (.box true jd))=>ρ.set i (some (.d (.tup (jd.map .lst))))
 | _=>ρ
def rBFor (i j:Nat):RS:=λE ρ=>match ρ[i]? with
 | some (some (.box true jd))=>(j<ρ.length/\∀ds∈jd,Sz (ds.length+1))/\E.nx ((ρ.set j none).set i (some (.box true (jd.map (· ++ [.non])))))
 | _=>False
def rGet2 (ta tk tf:RE):RE:=λρ Q=>ta ρ λx=>match x with
 | .dct ks ds=>tk ρ λy=>match y with
  | .int k=>tf ρ λz=>Q ((Mi ks ds k).getD z)
  | _=>False
 | _=>False
def dInI:R22:=λx y Q=>match x,y with
 | .int i,.lst ds=>∃ns:List Int,ds=ns.map .int/\Q (.bl (decide (i∈ns)))
 | _,_=>False
def rgLst (n:Nat) (g:rh):RG:=λd ρ Q=>match d with
 | .lst ds=>ds.length=n/\g ds ρ Q
 | _=>False
def Re:R22:=λx y Q=>match fb 9 x y with
 | some b=>Q (.bl b)
 | none=>False
section
def Xl (hr:ck k X.A):jn X (compareOp .Eq) Re:=by
 intro pins s σ H x y v u Q I rx ry bi;obtain⟨d,e,P,r1,r2,q,kk⟩:=bi;unfold Re at q;split at q
 ·rename_i b hb;have hu:=hr.units;have:uY X.A s v u b:=by
   by_cases hl:∃xs ys,d = .lst xs/\e = .lst ys
   ·obtain⟨xs,ys,rfl,rfl⟩:=hl;obtain⟨a,vs,rfl,h1,q1⟩:=r1.lst;obtain⟨c,ws,rfl,h2,q2⟩:=r2.lst;cases rx;cases ry;exact (PL I (A:=X.A) (n:=8) hb h1 q1 h2 q2 (by lia) λ{d e v u x y b} hk f2 f4 g4 g6=>(yW I 8 hk f2 f4 g4 g6 (by show X.A.units+1+8<cLine;lia)).2).1
   ·have p1:c7 X.K H d x:=by
     rcases r1 with r | ⟨ds,a,vs,e1,_⟩
     ·exact r
     ·subst e1;cases e <;> first | (cases hb;done) | exact absurd ⟨_,_,rfl,rfl⟩ hl
    have p2:c7 X.K H e y:=by
     rcases r2 with r | ⟨ds,a,vs,e1,_⟩
     ·exact r
     ·subst e1;cases d <;> first | (cases hb;done) | exact absurd ⟨_,_,rfl,rfl⟩ hl
    exact (yW I (A:=X.A) 9 hb p1 p2 rx ry (by lia)).1
  exact this _ _ _ _ ⟨.bl b,H,I,rfl,kk _ _ H q (ag.refl H) (.bl b)⟩
 ·exact q.elim
end
open PySem.W in
section
open PySem.W Builtin Builtin.ObjectAttr Builtin.Getset_descriptor
end
open PySem.W in
section
open PySem.W in
end
section
open PySem.W Builtin Builtin.ObjectAttr
end
open PySem.W in
open PySem.W in
open PySem.W in
def L8 (PP:Int->Prop) (te:RE):RS:=λ_ ρ=>te ρ λd=>match d with
 | .int c=>PP c
 | _=>False
abbrev FDX:=List D->(D->Prop)->(Int->Prop)->Prop
def K7 (F:FDX) (PP:Int->Prop) (t:RA):RE:=λρ Q=>t ρ λds=>F ds Q PP
abbrev FDE:=List D->(Int->Prop)->Prop
def rSetE (j:Nat) (F:FDE) (C:Addr) (y:Str) (t:RA):RS:=λE ρ=>t ρ λds=>∃PP,F ds PP/\∀c,PP c->E.nx (ρ.set j (some (.exc C y c)))
def rIsiE (i:Nat) (C:Addr) (b:Bool):RE:=λρ Q=>match ρ[i]? with
 | some (some (.exc C' _ _))=>C'=C/\Q (.bl b)
 | _=>False
def rColE (i:Nat) (C:Addr) (y:Str):RE:=λρ Q=>match ρ[i]? with
 | some (some (.exc C' y' c))=>(C'=C/\y'=y)/\Q (.int c)
 | _=>False
def rColN (te:RE):RE:=λρ Q=>te ρ λd=>match d with
 | .int c=>Q (.int c)
 | _=>False
end
section
open PySem PySem.W PyProof.Rows
section
def ri (a:Array Keyed) (i:Nat):Keyed:=a.getD i (gI,gI)
end
end
section
open PySem PySem.W PySem.SetTable PyProof.Rows
end
section
open PySem PySem.Spec PyProof.Rows L2
def Zj (te:RE):RA:=λρ Q=>te ρ λx=>∃nss:List (List Int),x = .lst (nss.map oC)/\nss.length<76/\(∀ns∈nss,ns≠[])/\∀mss:List (List Int),mss.Pairwise (λx y=>oV y x=false)->(∀ns,ns∈mss↔ns∈nss)->mss.length<=nss.length->Q (mss.map oC)
def G5 (te:RE):RE:=λρ Q=>te ρ λx=>∃nss:List (List Int),x = .lst (nss.map oC)/\nss.length<=75/\∀mss:List (List Int),mss.Nodup->(∀ns,ns∈mss↔ns∈nss)->Q (.int mss.length)
def G4:R22:=λx y Q=>match y with
 | .lst ds=>∃(ks:List Int) (nss:List (List Int)),x=oC ks/\ds=nss.map oC/\Q (.bl (!decide (ks∈nss)))
 | _=>False
end
section
open PySem PySem.Spec PyProof.Rows L2 PySem.W
def Zm (ks:List (List Int)) (k:List Int):List (List Int):=if k∈ks then ks else ks++[k]
def D5 {α:Type} (ks:List (List Int)) (xs:List α) (k:List Int) (x:α):List α:=if k∈ks then nG (λk' y=>if k'=k then x else y) ks xs else xs++[x]
def YX:List (List Int)->List D->List Int->Option D
 | k'::ks,d::ds,k=>if k'=k then some d else YX ks ds k
 | _,_,_=>none
section
variable {te tk tf:RE}
def rTNew (i:Nat):RS:=λE ρ=>E.nx (ρ.set i (some (.dt [] [])))
def rTPut (i:Nat) (tk te:RE):RS:=λE ρ=>match ρ[i]? with
 | some (some (.dt ks xs))=>te ρ λd=>tk ρ λkd=>∃kk:List Int,kd = .tup (kk.map .int)/\Sz (ks.length+1)/\E.nx (ρ.set i (some (.dt (Zm ks kk) (D5 ks xs kk d))))
 | _=>False
def rTGet (i:Nat) (tk tf:RE):RE:=λρ Q=>match ρ[i]? with
 | some (some (.dt ks xs))=>tk ρ λkd=>tf ρ λz=>∃kk:List Int,kd = .tup (kk.map .int)/\Q ((YX ks xs kk).getD z)
 | _=>False
def M4 (i:Nat):RA:=λρ Q=>match ρ[i]? with
 | some (some (.dt ks xs))=>Q (ks.map oC)
 | _=>False
end
section
variable {te ta tk tf:RE}
def L4 (te:RE):RA:=λρ Q=>te ρ λx=>∃(ks:List (List Int)) (ds:List D),x = .dtt ks ds/\Q (ks.map oC)
def dKeyU:R22:=λx y Q=>match x with
 | .dtt ks ds=>∃(kk:List Int) (d:D),y = .tup (kk.map .int)/\YX ks ds kk=some d/\Q d
 | _=>False
def rGetU (ta tk tf:RE):RE:=λρ Q=>ta ρ λx=>match x with
 | .dtt ks ds=>tk ρ λy=>tf ρ λz=>∃kk:List Int,y = .tup (kk.map .int)/\Q ((YX ks ds kk).getD z)
 | _=>False
end
def M7 (te:RE):RA:=λρ Q=>te ρ λd=>match d with
 | .dtt ks _=>Q (ks.map oC)
 | _=>False
def G7 (te:RE):RA:=λρ Q=>te ρ λd=>match d with
 | .dtt ks ds=>Q (nG (λk x=>D.tup [oC k,x]) ks ds)
 | _=>False
end
section
open PySem PySem.Spec PyProof.Rows L2
section
variable {te ta:RE}
def rInsD (i:Nat) (ta te:RE):RS:=λE ρ=>match ρ[i]? with
 | some (some (.own xs))=>ta ρ λk=>te ρ λd=>∃j:Nat,k = .int (j:Int)/\j<=xs.length/\Sz (xs.length+1)/\E.nx (ρ.set i (some (.own (xs.take j++d::xs.drop j))))
 | _=>False
def L1 (i:Nat) (te:RE):RE:=λρ Q=>te (K5 i ρ) λd=>∃n:Int,d = .int n/\Q d
end
end
section
open PySem PySem.W PySem.Spec PySem.SetTable PyProof.Rows L2
section
open PySem.SeqAt
open PySem.AutoSeq1 (wpAny_loadPart')
open PySem.MeetsSeq PySem.MeetsSeq2 PySem.MeetsSeq3
end
def Vd:List (Int × Int)->List Int
 | []=>[]
 | z::r=>z.1::z.2::Vd r
def A7 (p:Int × List (Int × Int)):List Int:=p.1::Vd p.2
abbrev pnt (z:Int × Int):D:=.tup [.int z.1,.int z.2]
abbrev pcD (p:Int × List (Int × Int)):D:=.tup [.int p.1,.tup (p.2.map pnt)]
def M2 (te:RE):RA:=λρ Q=>te ρ λx=>∃ps:List (Int × List (Int × Int)),x = .lst (ps.map pcD)/\ps.length<64/\∀qs:List (Int × List (Int × Int)),qs.Perm ps->qs.Pairwise (λx y=>oV (A7 y) (A7 x)=false)->Q (qs.map pcD)
end
section
open PySem PySem.Spec PyProof.Rows L2
def rTryE (je:Nat) (C:Addr) (y:Str) (F:FDX) (t:RA) (rb:RS):RS:=λE ρ=>t ρ λds=>∃PP,F ds (λ_=>False) PP/\∀c,PP c->rb { nx:=λρ'=>E.nx (ρ'.set je none),rt:=λ_=>False } (ρ.set je (some (.exc C y c)))
abbrev Vv (i j:Nat) (ds:List D) (ρ:En):En:=(ρ.set i none).set j (some (.own ds))
def rBPop (i jw:Nat) (tk:RE) (tt:RT) (tj:RE):RS:=λE ρ=>match ρ[i]? with
 | some (some (.box false jd))=>tk ρ λkd=>match kd with
  | .int k=>∃(j:Nat) (ds:List D),(k=(j:Int)/\jd[j]? = some ds/\jw<ρ.length)/\tt (Vv i jw ds ρ) λb=>if b=true then tj (Vv i jw ds ρ) λd=>∃m:Nat,(d = .int (m:Int)/\m<ds.length/\Sz ds.length)/\E.nx ((ρ.set i (some (.box false (jd.set j (ds.eraseIdx m))))).set jw none) else E.nx (ρ.set jw none)
  | _=>False
 | _=>False
def dNeZ:R22:=λx y Q=>match x,y with
 | .lst xs,.lst []=>Q (.bl !xs.isEmpty)
 | _,_=>False
abbrev FM:=List (List Int)->List D->List D->(List Int->D->Prop)->Prop
def rMut (i:Nat) (F:FM) (t:RA):RS:=λE ρ=>match ρ[i]? with
 | some (some (.dt ks xs))=>t ρ λds=>Sz (ks.length+1)/\F ks xs ds λkk d=>E.nx (ρ.set i (some (.dt (Zm ks kk) (D5 ks xs kk d))))
 | _=>False
section
variable {te tk tf:RE} {a:Addr} {ks:List (List Int)} {xs:List D}
def rRGet (i:Nat) (a:Addr) (ks:List (List Int)) (xs:List D) (tk tf:RE):RE:=λρ Q=>ρ[i]? = some (some (.raw (.ref a)))/\tk ρ λkd=>tf ρ λz=>∃kk:List Int,kd = .tup (kk.map .int)/\Q ((YX ks xs kk).getD z)
end
abbrev RM:=(List Int->D->Prop)->En->Prop
def rSeqM (t:RS) (u:RM):RM:=λP ρ=>t { nx:=u P,rt:=λ_=>False } ρ
def rPutM (i:Nat) (a:Addr) (tk te:RE):RM:=λP ρ=>ρ[i]? = some (some (.raw (.ref a)))/\te ρ λd=>tk ρ λkd=>∃kk:List Int,kd = .tup (kk.map .int)/\P kk d
def rRetF (t:RA):RS:=λE ρ=>t ρ λxs=>E.rt (.lst xs)
end
section
open PySem PySem.Spec PySem.W PyProof.Rows L2
end
section
open PySem PySem.Spec PyProof.Rows L2
abbrev pr2 (p:Int × Int):D:=.tup [.int p.1,.int p.2]
def G6 (j:Nat) (te:RE):RA:=λρ Q=>te ρ λx=>∃(B:Int) (fs:List (Int × Int)),ρ[j]? = some (some (.d (.int B)))/\x = .lst (fs.map pr2)/\fs.length<64/\(∀f∈fs,o9 B f.2/\MulOk f.1 (B.fdiv f.2)) /\
 ∀gs:List (Int × Int),gs.Perm fs->gs.Pairwise (λp q=>p.1*B.fdiv p.2<=q.1*B.fdiv q.2)->Q (gs.map pr2)
section
variable {P:cE} {w:dI} {K:aI} {mg:Str->Option aD} {base:Heap} {x:Str} {st:Stmt} {N ps:List Str} {k:Nat} {F:FD} {t:RS}
theorem aj.mkD (Z:aj K mg x st ps) (len:∀ds Q,F ds Q->ds.length=ps.length) (pure:∀ds Q,F ds Q->t { nx:=λ_=>Q .non,rt:=Q } (dR N ds))
  (gg:∀{f:Addr} {cdv:aD} {A:dJ} {outer:List Env} {s:aG} {H:Hp} {E:XK},N.Nodup->ck k (A.deeper (envOfC x (gK st) s.heap.objs.size f cdv)) ->
   o3 (EG jy P w K mg base N x (gK st) f cdv A outer s H E).nox (rF st) t)
  (Sc:f7 N ps (gK st):=by exact⟨rfl,rfl,rfl,by decide +kernel,rfl,by decide +kernel,by decide +kernel⟩):FnAt P w K mg base x ps (k+1) F :=
 Z.ok Sc (λ_ _ _ _ _ _=>gg Sc.nd) len pure
theorem def_mk {kV doc pm cdv ct:aD} (X:K.In h) (G:h.Ns mainGlobals mg) (a:uA K mainGlobals x=some (some (.ref f)))
  (l:K.lookup f=some ⟨oc,od,.func (pI x x (IK st) (rF st) (gK st) .none kV doc pm an cdv ct),qz⟩) (c:uW K cdv x=true) (k:mT K (.ref f)=true)
  (b:∀us:List aD,us.length=ps.length->bindArgs (pI x x (IK st) (rF st) (gK st) .none kV doc pm an cdv ct) ⟨us,[]⟩=pure (ps.zip us)):aj K mg x st ps :=
 ⟨_,_,Wo (st:=st) l c k,PySem.W.mg_of X G a,b⟩
end
section
variable {X:Cx} {k n:Nat} {ps:List Str} {F:FD} {x:Str} {p pos:Pos} {e:Expr} {es:List Expr} {t:RA}
theorem bG (C:FnAt X.prog X.w X.K X.mg X.base x ps k F) (hr:ck n X.A) (ha:DA X (e::es) t) (hk:k<=n:=by decide) (hg:Gl X x:=by rfl)
  (ma:(x == ("__debug__":Str))=false:=by decide) (he:starEach (e::es) X.env=(false,eval e X.env)::starEach es X.env:=by rfl) (js:(backTo pos (starEach es X.env)).any (·.1)=false:=by rfl) :
  DE X (.Call (.Name x p) (e::es) [] pos) (cU F t):=Mj C (hr.mono hk) ha hg ma he js
theorem aF:DB X (.Constant (.int i) j pos) (rC (.int i)):=DE.bor iT
theorem eb {t:RE} (h:DE X e t):DB X e t:=DE.bor h
end
mutual
inductive jv (G H:Hp):D->V->Prop
 | non {v:V}:jv G H .non v
 | bl {b:Bool} {v:V}:jv G H (.bl b) v
 | int {i:Int} {v:V}:jv G H (.int i) v
 | str {x:Str} {v:V}:jv G H (.str x) v
 | tup {a:Addr} {vs:List V} {ds:List D} (h:H a=some (.tup vs)) (r:fc G H ds vs):jv G H (.tup ds) (.ref a)
 | lst {a:Addr} {o:Obj} {vs:List V} {ds:List D} (h:H a=some (.frz o (.lst vs))) (g:G a=none):jv G H (.lst ds) (.ref a)
inductive fc (G H:Hp):List D->List V->Prop
 | nil:fc G H [] []
 | cons {d:D} {v:V} {ds:List D} {vs:List V} (h:jv G H d v) (t:fc G H ds vs):fc G H (d::ds) (v::vs)
end
inductive ot:D->Prop
 | non:ot .non
 | bl {b:Bool}:ot (.bl b)
 | int {i:Int}:ot (.int i)
 | str {x:Str}:ot (.str x)
 | nil:ot (.tup [])
 | cons {d:D} {ds:List D} (h:ot d) (t:ot (.tup ds)):ot (.tup (d::ds))
section
variable {K:aI} {G H H':Hp}
mutual
theorem jv.keep (k:∀b xs,H b=some (.tup xs)->H' b=some (.tup xs)) (f:∀b o u,H b=some (.frz o (.lst u))->∃o' u',H' b=some (.frz o' (.lst u'))):∀{d:D} {v:V},jv G H d v->jv G H' d v
 | _,_,.non=>.non
 | _,_,.bl=>.bl
 | _,_,.int=>.int
 | _,_,.str=>.str
 | _,_,.tup h r=>.tup (k _ _ h) (fc.keep k f r)
 | _,_,.lst h g=>let ⟨_,_,e⟩:=f _ _ _ h;.lst e g
theorem fc.keep (k:∀b xs,H b=some (.tup xs)->H' b=some (.tup xs)) (f:∀b o u,H b=some (.frz o (.lst u))->∃o' u',H' b=some (.frz o' (.lst u'))):∀{ds:List D} {vs:List V},fc G H ds vs->fc G H' ds vs
 | _,_,.nil=>.nil
 | _,_,.cons h t=>.cons (jv.keep k f h) (fc.keep k f t)
end
theorem jv.kp (k:ak H H') (s:jv G H d v):jv G H' d v:=s.keep k.tups λb o u h=>⟨o,u,k.frzs b o _ h⟩
theorem fc.kp (k:ak H H') (s:fc G H d v):fc G H' d v:=s.keep k.tups λb o u h=>⟨o,u,k.frzs b o _ h⟩
theorem fc.get:∀{ds:List D} {vs:List V} {i:Nat} {d:D},fc G H ds vs->ds[i]? = some d->∃v,vs[i]? = some v/\jv G H d v
 | _,_,_,_,.nil,e=>by simp at e
 | _,_,0,_,.cons h _,e=>by simp at e;subst e;exact⟨_,rfl,h⟩
 | _,_,i+1,d,.cons _ t,e=>by
  obtain⟨v,h1,h2⟩:=fc.get (i:=i) (d:=d) t (by simpa using e);exact⟨v,by simpa using h1,h2⟩
theorem ot.spn {d:D} (n:ot d):∀{v:V},c7 K H d v->jv G H d v:=by
 have key:∀{d:D},ot d->(∀{v:V},c7 K H d v->jv G H d v)/\∀{ds:List D} {vs:List V},d = .tup ds->ah K H ds vs->fc G H ds vs:=by
  intro d n
  induction n with
  | non=>exact⟨λ_=>.non,λe=>by cases e⟩
  | bl=>exact⟨λ_=>.bl,λe=>by cases e⟩
  | int=>exact⟨λ_=>.int,λe=>by cases e⟩
  | str=>exact⟨λ_=>.str,λe=>by cases e⟩
  | nil =>
   have q:∀{ds:List D} {vs:List V},D.tup [] = .tup ds->ah K H ds vs->fc G H ds vs:=λe r=>(by cases e;cases r;exact .nil);exact⟨λr=>by cases r with | tup h r=>exact .tup h (q rfl r),q⟩
  | @cons d ds h t Z7 Z8 =>
   have q:∀{es:List D} {vs:List V},D.tup (d::ds) = .tup es->ah K H es vs->fc G H es vs:=λe r=>by
    cases e;cases r with
    | cons r1 r2=>exact .cons (Z7.1 r1) (Z8.2 rfl r2)
   exact⟨λr=>by cases r with | tup h r=>exact .tup h (q rfl r),q⟩
 intro v r;exact (key n).1 r
end
def U_ (d:D):aI->Hp->Hp->V->Prop:=λ_ H₀ H v=>jv H₀ H d v
def Oj (G:Hp) (d:D):aI->Hp->Hp->V->Prop:=λK _ H v=>c7 K G d v/\ak G H
def TL (G:Hp) (d:D):aI->Hp->Hp->V->Prop:=λ_ H₀ H v=>ag H₀ G/\jv G H d v
def B3 (X:Cx) (t:RE):TE:=λσ H Q=>∃ρ P,au X ρ σ H/\t ρ P/\∀d v H',P d->ag H H'->c7 X.K H' d v->jv X.H₀ H' d v->Q v H'
def DN (X:Cx) (e:Expr) (t:RE):Prop:=PE X e (B3 X t)
def Xg (X:Cx) (t:RA):TA:=λσ H Q=>∃ρ P,au X ρ σ H/\t ρ P/\∀ds vs H',P ds->ag H H'->ah X.K H' ds vs->fc X.H₀ H' ds vs->Q vs H'
def zx (X:Cx) (es:List Expr) (t:RA):Prop:=PA X es (Xg X t)
def Tr (t:RE):RE:=λρ Q=>t ρ λd=>ot d/\Q d
def O_ (i:Nat):RE:=λρ Q=>match ρ[i]? with
 | some (some (.mem true d R))=>R=U_ d/\Q d
 | _=>False
def Mu (i:Nat) (ρ:En):En:=match ρ[i]? with
 | some (some (.own ds))=>ρ.set i (some (.mem true (.lst ds) (U_ (.lst ds))))
 | _=>ρ
section
variable {X:Cx} {pos:Pos}
theorem Zw (h:DE X e te):DN X e (Tr te):=PE.mono h λσ H Q hh=>jF hh λρ P st q k=>⟨ρ,_,st,q,λd v H' p s r=>k d v H' p.2 s r (p.1.spn r)⟩
theorem Zv (i:Nat) {x:Str} (hN:X.N[i]? = some x:=by rfl) (hv:p7 X.env.scope x:=by walk_at "vis") (hd:(x == ("__debug__":Str))=false:=by decide)
  (jx:(x == ("__classdict__":Str))=false:=by decide):DN X (.Name x pos) (O_ i):=by
 refine PE.mono (pv i hN hv hd jx) λσ H Q hh=>jF hh λρ P st q k=>?_;unfold O_ at q;split at q
 ·rename_i d R e;obtain⟨v,h1,h2⟩:=st.rel i _ e;obtain⟨rfl,q⟩:=q;exact⟨v,h1,k d v H q (ag.refl H) (h2.1 rfl) (h2.2 H (ak.refl H))⟩
 ·exact q.elim
theorem Rk:zx X [] aX:=PA.mono QR λσ H Q hh=>jF hh λρ P st q k=>k [] [] H q (ag.refl H) .nil .nil
theorem YV (ha:DN X e te) (hr:zx X es t) (hs:starEach (e::es) X.env=(false,eval e X.env)::starEach es X.env:=by rfl):zx X (e::es) (aC te t) :=
 PA.mono (zF ha hr hs) λσ H Q hh=>jF hh λρ P st q k=>⟨ρ,_,st,q,λd v H1 hd s1 r1 p1=>⟨ρ,_,st.ext s1,hd,λds vs H2 t7 s2 r2 p2=>k (d::ds) (v::vs) H2 t7 (s1.trans s2) (.cons (r1.keep (.of s2)) r2) (.cons (p1.kp (.of s2)) p2)⟩⟩
theorem Wi {x1} (h:zx X es t):DN X (.Tuple es x1 pos) (kE t) :=
 PE.mono (Op h) λσ H Q hh=>jF hh λρ P st q k=>⟨ρ,_,st,q,λds vs H1 hd s1 r p1=>⟨by rw[<-r.length];exact hd.1.ok,λp hp=>by
  have sm:ag H1 (bB H1 p (.tup vs)):=ag.fn λb u e=>by rw[cX (fF e hp)];exact e
  exact k (.tup ds) (.ref p) _ hd.2 (s1.trans sm) (.tup fT (r.keep (.of sm))) (.tup fT (p1.kp (.of sm)))⟩⟩
end
def KS (X:Cx) (t:RS):TS:=λDe σ H=>∃ρ E,au X ρ σ H/\t E ρ/\(∀ρ,¬E.nx ρ)/\∀d v H',E.rt d->ag X.H₀ H'->c7 X.K H' d v->jv X.H₀ H' d v->De.rt v H'
section
variable {X:Cx} {st:Stmt} {rest v8:List Stmt} {t u:RS}
theorem UK (h1:DS X st t) (h2:gt X rest (KS X u)):gt X (st::rest) (KS X (Ay t u)) :=
 gt.mono (QW h1 h2) λDe σ H ⟨ρ,E,so,q,n,r⟩=>⟨ρ,_,so,q,λρ' σ' H' hq k s'=>⟨ρ',E,s',hq,n,r⟩,λ_ _ _ z=>z.elim,λ_ _ _ z=>z.elim,λ_ _ _ z=>z.elim⟩
theorem Mq (h:DN X e te):gt X [.Return (some e) pos] (KS X (fR te)) :=
 gt.mono (Hb (Ov h)) λDe σ H ⟨ρ,E,so,q,n,r⟩=>⟨ρ,_,so,q,λd v H' hd s' rr p=>r d v H' hd (so.same.trans s') rr p⟩
theorem Rm (i:Nat) (h:gt X v8 (KS X t)):gt X v8 (KS X (λE ρ=>t E (Mu i ρ))):=by
 intro pins s σ H De I ⟨ρ,E,so,q,n,r⟩;have q:t E (Mu i ρ):=q;unfold Mu at q;split at q
 ·rename_i ds ex;obtain⟨v,h1,p,vs,rfl,hp,h0,rr⟩:=so.rel i _ ex;obtain⟨o,I2⟩:=Inv.freeze I hp;have kp:ak H (bB H p (.frz o (.lst vs))):=ak.chg1 hp (.inl ⟨_,rfl⟩);have rep:c7 X.K (bB H p (.frz o (.lst vs))) (.lst ds) (.ref p):=.lst (.inl ⟨o,fT⟩) (rr.keep kp);obtain⟨jt,k2⟩:=so.updW (x':=.mem true (.lst ds) (U_ (.lst ds))) (v':=.ref p) ex h1 (H':=bB H p (.frz o (.lst vs))) (λb o h w=>by rw[cX (by rintro rfl;exact w rfl)];exact h)
   ⟨λ_=>rep,λH2 k=>.lst (k.frzs _ _ _ fT) h0⟩ λa o=>o.elim
  rw[oY h1] at jt;exact h pins s σ _ De I2 ⟨_,E,jt,q,n,r⟩
 ·exact h pins s σ H De I ⟨ρ,E,so,q,n,r⟩
end
def spN (K:aI) (F:FD):Sp:=λvs H Q _=>gl K H/\∃ds P,ah K H ds vs/\F ds P/\∀d v H1,P d->ag H H1->c7 K H1 d v->jv H H1 d v->Q v H1
structure pf (P:cE) (w:dI) (K:aI) (mg:Str->Option aD) (base:Heap) (x:Str) (ps:List Str) (k:Nat) (F:FD):Prop where
 ex:∃f fd,im P w K mg base jy k f fd ps (spN K F)/\Binds K fd ps []/\mT K (.ref f)=true/\mg x=some (.ref f)
section
variable {P:cE} {w:dI} {K:aI} {mg:Str->Option aD} {base:Heap} {x:Str} {st:Stmt} {N ps:List Str} {k:Nat} {F:FD} {t:RS}
theorem aj.mkN (Z:aj K mg x st ps) (len:∀ds Q,F ds Q->ds.length=ps.length) (pure:∀ds Q,F ds Q->t { nx:=λ_=>False,rt:=Q } (dR N ds))
  (gg:∀{f:Addr} {cdv:aD} {A:dJ} {outer:List Env} {s:aG} {H:Hp} {E:XK},N.Nodup->ck k (A.deeper (envOfC x (gK st) s.heap.objs.size f cdv)) ->
   gt (EG jy P w K mg base N x (gK st) f cdv A outer s H E).nox (rF st) (KS (EG jy P w K mg base N x (gK st) f cdv A outer s H E).nox t))
  (Sc:f7 N ps (gK st):=by exact⟨rfl,rfl,rfl,by decide +kernel,rfl,by decide +kernel,by decide +kernel⟩):pf P w K mg base x ps (k+1) F:=by
 obtain⟨f,fd,a,b,c⟩:=Z.ex;refine⟨f,fd,?_,.all c,a.kp,b⟩;refine a.ok Sc (λvs H Q E ⟨_,ds,P',r,h,_⟩=>by rw[<-r.length];exact len ds P' h) λcdv A outer s H vs Q E hr ⟨tb,ds,P',r,h,kk⟩=>⟨_,gg (cdv:=cdv) (A:=A) (outer:=outer) (s:=s) (H:=H) (E:=E) Sc.nd hr,?_⟩;exact⟨dR N ds,_,RQ (X:=(EG jy P w K mg base N x (gK st) f cdv A outer s H E).nox) tb r,pure ds P' h,λ_ z=>z,λd v H' hq sm rr sp=>kk d v H' hq sm rr sp⟩
def BX (X:Cx) (t:RS):TS:=λDe σ H=>∃ρ E,au X ρ σ H/\t E ρ/\(∀ρ,¬E.nx ρ)/\(∀ρ,¬E.bk ρ)/\(∀ρ,¬E.ct ρ)/\∀d v H',E.rt d->ag X.H₀ H'->c7 X.K H' d v->De.rt v H'
theorem Sr {qual:Str} {f:Addr} {fd:mN} (Fu:sk K x qual st f fd) (len:∀ds Q,F ds Q->ds.length=ps.length) (pure:∀ds Q,F ds Q->t { nx:=λ_=>False,rt:=Q } (dR N ds))
  (gg:∀{cdv:aD} {A:dJ} {outer:List Env} {s:aG} {H:Hp} {E:XK},N.Nodup->ck k (A.deeper (envOfC qual (gK st) s.heap.objs.size f cdv)) ->
   gt (EG jy P w K mg base N qual (gK st) f cdv A outer s H E).nox (rF st) (BX (EG jy P w K mg base N qual (gK st) f cdv A outer s H E).nox t))
  (Sc:f7 N ps (gK st):=by exact⟨rfl,rfl,rfl,by decide +kernel,rfl,by decide +kernel,by decide +kernel⟩):im P w K mg base jy (k+1) f fd ps (q9 K F):=by
 refine Fu.ok Sc (λvs H Q E ⟨_,ds,P,r,h,_⟩=>by rw[<-r.length];exact len ds P h) λcdv A outer s H vs Q E hr ⟨tb,ds,P',r,h,kk⟩=>⟨_,gg (cdv:=cdv) (A:=A) (outer:=outer) (s:=s) (H:=H) (E:=E) Sc.nd hr,?_⟩;exact⟨dR N ds,_,RQ (X:=(EG jy P w K mg base N qual (gK st) f cdv A outer s H E).nox) tb r,pure ds P' h,λ_ z=>z,λ_ z=>z,λ_ z=>z,λd v H' hq sm rv=>kk d v H' hq sm rv⟩
end
def xS (t u:RS):RS:=λE ρ=>t { nx:=u E,rt:=E.rt } ρ
section
variable {X:Cx} {st:Stmt} {rest v8:List Stmt} {t u:RS}
theorem nW (h1:DS X st t) (h2:gt X rest (BX X u)):gt X (st::rest) (BX X (xS t u)) :=
 gt.mono (QW h1 h2) λDe σ H ⟨ρ,E,so,q,n,b,c,r⟩=>⟨ρ,_,so,q,λρ' σ' H' hq k s'=>⟨ρ',E,s',hq,n,b,c,r⟩,λd v H' hd k s' rr=>r d v H' hd s' rr,λ_ _ _ z=>z.elim,λ_ _ _ z=>z.elim⟩
theorem Rn (h:o3 X v8 t):gt X v8 (BX X t) :=
 gt.mono h λDe σ H ⟨ρ,E,so,q,n,b,c,r⟩=>⟨ρ,E,so,q,λρ' _ _ z=>(n ρ' z).elim,λd v H' hd _ s' rr=>r d v H' hd s' rr,λρ' _ _ z=>(b ρ' z).elim,λρ' _ _ z=>(c ρ' z).elim⟩
end
def Oi (G:Hp):Option S->Option S
 | some (.d x)=>some (.mem true x (Oj G x))
 | y=>y
def Pe (j:Nat) (F:FD) (t:RA):RS:=λE ρ=>t ρ λds=>F ds λd=>∀G,E.nx ((ρ.map (Oi G)).set j (some (.mem true d (TL G d))))
def au.old (so:au X ρ σ H):au X (ρ.map (Oi H)) σ H:=by
 have back:∀(i:Nat) (x:S),(ρ.map (Oi H))[i]? = some (some x)->(∃d,x = .mem true d (Oj H d)/\ρ[i]? = some (some (.d d)))\/ρ[i]? = some (some x):=λi x e=>by
  rw[bZ] at e;cases q:ρ[i]? with
  | none=>rw[q] at e;cases e
  | some y =>
   rw[q] at e;cases y with
   | none=>cases e
   | some y =>
    cases y with
    | d d=>cases e;exact .inl ⟨d,rfl,rfl⟩
    | _=>cases e;exact .inr rfl
 refine⟨by rw[cN];exact so.len,so.same,λi x e=>?_,λi j x y v u a e1 e2 e3 e4 o1 o2=>?_,so.t0⟩
 ·rcases back i x e with ⟨d,rfl,e2⟩ | e2
  ·obtain⟨v,h1,h2⟩:=so.rel i _ e2;exact⟨v,h1,λ_=>h2,λH2 k=>⟨h2,k⟩⟩
  ·exact so.rel i x e2
 ·rcases back i x e1 with ⟨d,rfl,_⟩ | s_
  ·exact o1.elim
  ·rcases back j y e2 with ⟨d,rfl,_⟩ | n8
   ·exact o2.elim
   ·exact so.sep i j x y v u a s_ n8 e3 e4 o1 o2
section
variable {X:Cx} {k n j:Nat} {ps:List Str} {F:FD} {x y:Str} {p pos pos' b_:Pos} {e:Expr} {es:List Expr} {t:RA}
theorem Rl (hN:X.N.Nodup) (C:pf X.prog X.w X.K X.mg X.base x ps k F) (hr:ck n X.A) (ha:DA X (e::es) t) (r8:k<=n:=by decide) (hg:Gl X x:=by rfl) (hi:X.N[j]? = some y:=by rfl) (hx:Loc X.env.scope y:=by walk_at "vis")
  (hs:swapsWith (.Call (.Name x p) (e::es) [] b_) (some (.Name y pos')) pos.line X.env=pure false:=by rfl) (hf:X.fn y=true\/X.env.scope.names.lookup y=some .local:=by walk_at "loc")
  (ma:(x == ("__debug__":Str))=false:=by decide) (he:starEach (e::es) X.env=(false,eval e X.env)::starEach es X.env:=by rfl) (js:(backTo b_ (starEach es X.env)).any (·.1)=false:=by rfl) :
  DS X (.Assign [.Name y pos'] (.Call (.Name x p) (e::es) [] b_) pos) (Pe j F t):=by
 obtain⟨f,fd,G,hb,hk,hm⟩:=C.ex;refine PS.mono (Ea hN hi hx (Gy (E:=E0) G (hr.mono r8) hg hm hk hb .nil Vt ha ma he js) hs hf) λDe σ H hh=>rG hh λρ E so q n r bk ct=>?_;refine⟨ρ,_,so,q,λds vs H1 hd s1 rr=>?_⟩;show spN X.K F (vs++[]) H1 _ E0;rw[fC];have so1:=so.ext s1;refine⟨so1.tabs,ds,_,rr,hd,λd v H2 hn s2 rp sp=>?_⟩;exact n _ _ _ (hn H1) (.of (s1.trans s2)) ((so1.old).put s2 (x':=.mem true d (TL H1 d)) ⟨λ_=>rp,λH3 k3=>⟨so1.same,sp.kp k3⟩⟩ λa o=>o.elim)
end
def Tq (j:Nat) (Pt:D->Prop) (t:RS):RS:=λE ρ=>∃d b G ρ',ρ[j]? = some (some (.mem b d (TL G d)))/\Pt d/\ρ'.length=ρ.length /\
 (∀i x,ρ'[i]? = some (some x)->(i=j/\x = .mem false d (TL G d))\/∃y,x = .mem true y (Oj G y)/\ρ[i]? = some (some x))/\t E ρ'
def Qp (k:Int) (d:D):Prop:=∃ds xs,d = .tup ds/\h9 ds k=some (.lst xs)
section
variable {X:Cx} {ρ ρ':En} {σ:St} {H G:Hp}
theorem au.clr {j:Nat} {d:D} {b:Bool} {a:Addr} {o o':Obj} {us:List V} (so:au X ρ σ H) (e:ρ[j]? = some (some (.mem b d (TL G d)))) (ha:H a=some (.frz o (.lst us))) (g:G a=none) (hl:ρ'.length=ρ.length)
  (h:∀i x,ρ'[i]? = some (some x)->(i=j/\x = .mem false d (TL G d))\/∃y,x = .mem true y (Oj G y)/\ρ[i]? = some (some x)):X.H₀ a=none/\au X ρ' σ (bB H a (.frz o' (.lst []))):=by
 obtain⟨v,h1,_,h2⟩:=so.rel j _ e;obtain⟨sg,sp⟩:=h2 H (ak.refl H);have h0:=sg.free g;have ne:∀c u,H c=some u->(∀o u',u≠.frz o u')->bB H a (.frz o' (.lst [])) c=some u:=λc u q n=>by
  rw[cX (by rintro rfl;rw[ha] at q;cases q;exact n _ _ rfl)];exact q
 have ng:∀{Z:Hp} (c:Addr) (u:HO),Z a=none->Z c=some u->c≠a:=λc u n q z=>by subst z;rw[n] at q;cases q
 have lam:ke H (bB H a (.frz o' (.lst []))):=.of (λc φ q=>ne c _ q λ_ _ z=>by cases z) λc ps q=>ne c _ q λ_ _ z=>by cases z
 have sm:ag X.H₀ (bB H a (.frz o' (.lst []))):=⟨λc u q nt=>by rw[cX (ng c u h0 q)];exact so.same.get c u q nt,so.same.tbls.trans lam⟩;have kg:ak G H->ak G (bB H a (.frz o' (.lst []))):=λk=>⟨λc xs q=>by rw[cX (ng c _ g q)];exact k.tups c xs q,λc ob u q=>by rw[cX (ng c _ g q)];exact k.frzs c ob u q,λc φ q=>by rw[cX (ng c _ g q)];exact k.exts c φ q,
  λc fs q=>by rw[cX (ng c _ g q)];exact k.xds c fs q,k.tbls.trans lam⟩
 refine⟨h0,by rw[hl];exact so.len,sm,λi x ei=>?_,λi k x y v u a' e1 e2 e3 e4 o1 o2=>?_,so.t0⟩
 ·rcases h i x ei with ⟨rfl,rfl⟩ | ⟨y,rfl,ey⟩
  ·refine⟨v,h1,λz=>(by cases z),λH3 k3=>⟨sg,jv.kp k3 (sp.keep (λc xs q=>ne c _ q λ_ _ z=>by cases z) λc ob u q=>?_)⟩⟩;by_cases hc:c=a
   ·subst hc;exact⟨_,_,fT⟩
   ·exact⟨ob,u,by rw[cX hc];exact q⟩
  ·obtain⟨w,g1,g2,g3⟩:=so.rel i _ ey;obtain⟨r0,k0⟩:=g3 H (ak.refl H);exact⟨w,g1,λ_=>r0.keep (kg k0),λH3 k3=>⟨r0,(kg k0).trans k3⟩⟩
 ·rcases h i x e1 with ⟨rfl,rfl⟩ | ⟨y,rfl,ey⟩ <;> exact o1.elim
end
section
variable {fe jm zk apos b_ pos kp lp:Pos} {rest:List Stmt}
theorem Lq {Pt:D->Prop} (he:PE X e to)
  (hto:∀{ρ:En} {σ:St} {H H':Hp} {d:D} {G:Hp} {b:Bool},au X ρ σ H->ρ[j]? = some (some (.mem b d (TL G d)))->Pt d->∃a o us,H a=some (.frz o (.lst us))/\G a=none/\∀(H':Hp) Q,(∀c xs,H c=some (.tup xs)->H' c=some (.tup xs))->Q (.ref a) H'->to σ H' Q)
  (fh:attributeBase e "clear" X.env (eval e X.env)=eval e X.env) (fi:(apos.endLine == b_.line)=true) (oz:swapsWith (.Call (.Attribute e "clear" apos) [] [] b_) none pos.line X.env=pure false) (h2:gt X rest (BX X u)) :
  gt X (.Expr (.Call (.Attribute e "clear" apos) [] [] b_) pos::rest) (BX X (Tq j Pt u)):=by
 intro pins s σ H De I ⟨ρ,E,so,q,n,bk,ct,r⟩;obtain⟨d,b,G,ρ',e1,pt,hl,hk,hn⟩:=q;obtain⟨a,o,us,ha,ga,hQ⟩:=hto (H':=H) so e1 pt;have h0:X.H₀ a=none:=(so.clr (o':=o) e1 ha ga hl hk).1;have I1:=Inv.thaw I ha h0;have tu:∀c xs,H c=some (.tup xs)->bB H a (.lst us) c=some (.tup xs):=λc xs q=>by rw[cX (by rintro rfl;rw[ha] at q;cases q)];exact q
 refine yC (c_ (OA (pos:=pos) (On kF PySem.F.slot_list_clear PySem.F.type_list_clear Ny he fh fi) oz pins s σ _ { nx:=λσ' H'=>σ'=σ/\H'=bB (bB H a (.lst us)) a (.lst []),rt:=λ_ _=>False,bk:=λ_ _=>False,ct:=λ_ _=>False } I1 ?_) λf s1 q=>?_)
 ·refine hQ _ _ tu ⟨.inl ⟨rfl,us,g_.of fT⟩,a,us,rfl,rfl,fT,rfl,rfl⟩
 ·cases f with
  | next =>
   obtain⟨σ',H',I2,rfl,rfl⟩:=q;obtain⟨o',I3⟩:=Inv.freeze I2 (a:=a) (xs:=[]) fT;have eH:bB (bB (bB H a (.lst us)) a (.lst [])) a (.frz o' (.lst []))=bB H a (.frz o' (.lst [])):=by
    funext c;by_cases hc:c=a
    ·subst hc;rw[fT,fT]
    ·rw[cX hc,cX hc,cX hc,cX hc]
   rw[eH] at I3;exact h2 pins s1 σ' _ De I3 ⟨ρ',E,(so.clr e1 ha ga hl hk).2,hn,n,bk,ct,r⟩
  | ret v=>obtain⟨_,_,_,_,_,z⟩:=q;exact z.elim
  | brk=>obtain⟨_,_,_,z⟩:=q;exact z.elim
  | cont=>obtain⟨_,_,_,z⟩:=q;exact z.elim
end
theorem fc.length:∀{ds:List D} {vs:List V},fc G H ds vs->ds.length=vs.length
 | _,_,.nil=>rfl
 | _,_,.cons _ t=>by simp[fc.length t]
theorem fc.at (r:fc G H ds vs) (h:h9 ds i=some d):∃v,h9 vs i=some v/\jv G H d v:=by
 unfold h9 at h ⊢;rw[<-r.length];cases e:lr ds.length i with
 | none=>rw[e] at h;cases h
 | some j =>
  rw[e] at h;exact r.get h
section
variable {X:Cx} {x:Str} {fe jm zk apos b_ pos kp lp:Pos} {k l:Int} {jk jl:Nat} {rest:List Stmt} {u:RS}
theorem Il (j:Nat) (h2:gt X rest (BX X u)) (hN:X.N[j]? = some x:=by rfl) (hv:p7 X.env.scope x:=by walk_at "vis") (hd:(x == ("__debug__":Str))=false:=by decide) (jx:(x == ("__classdict__":Str))=false:=by decide)
  (fh:attributeBase (.Subscript (.Name x fe) (.Constant (.int k) jk kp) jm) "clear" X.env (eval (.Subscript (.Name x fe) (.Constant (.int k) jk kp) jm) X.env)=eval (.Subscript (.Name x fe) (.Constant (.int k) jk kp) jm) X.env:=by rfl)
  (fi:(apos.endLine == b_.line)=true:=by rfl) (oz:swapsWith (.Call (.Attribute (.Subscript (.Name x fe) (.Constant (.int k) jk kp) jm) "clear" apos) [] [] b_) none pos.line X.env=pure false:=by rfl) :
  gt X (.Expr (.Call (.Attribute (.Subscript (.Name x fe) (.Constant (.int k) jk kp) jm) "clear" apos) [] [] b_) pos::rest) (BX X (Tq j (Qp k) u)):=by
 refine Lq (Vu Nh (pv j hN hv hd jx) Oo (λ_ _=>rfl)) ?_ fh fi oz h2;intro ρ σ H H' d G b so e pt;obtain⟨ds,xs,rfl,e1⟩:=pt;obtain⟨v,h1,_,h3⟩:=so.rel j _ e;obtain⟨_,sp⟩:=h3 H (ak.refl H);cases sp with
 | tup hp r =>
  obtain⟨v2,f1,s2⟩:=r.at e1;cases s2 with
  | lst ha ga=>exact⟨_,_,_,ha,ga,λH2 Q kt q=>⟨_,h1,_,_,_,_,rfl,rfl,fg.of (kt _ _ hp),f1,q⟩⟩
end
def Rh:R22:=λx y Q=>match x,y with
 | .lst xs,.lst ys=>xs.length=ys.length/\match ji (fb 8) xs ys with
  | some b=>Q (.bl !b)
  | none=>False
 | _,_=>False
section
def Xn (hr:ck k X.A):jn X (compareOp .NotEq) Rh:=by
 intro pins s σ H x y v u Q I rx ry bi;obtain⟨d,e,P,r1,r2,q,kk⟩:=bi;have hu:=hr.un;unfold Rh at q;split at q
 ·rename_i xs ys;obtain⟨hl,q⟩:=q;split at q
  ·rename_i b h;obtain⟨a,vs,rfl,h1,q1⟩:=r1.lst;obtain⟨c,ws,rfl,h2,q2⟩:=r2.lst;cases rx;cases ry;obtain⟨its,rv,ht,_⟩:=I.list h1;obtain⟨fj,og,t_,_⟩:=I.list h2;have l1:xs.length=its.length:=q1.length.trans rv.length;have l2:ys.length=fj.length:=q2.length.trans og.length;have rc:SeqAt.RcNeAt X.A s (.ref a) (.ref c) (!b):=by
    have:=SeqAt.RcNeAt.lists (A:=X.A) (s:=s) (e:=λj=>match xs[j]?,ys[j]? with | some x,some y=>(fb 8 x y).getD false | _,_=>false) ht.isList t_.isList (by simp;lia) (by lia) (λj g1 g2=>?_)
    ·have al:=DK h;simp only[aZ,<-l1] at this;rw[<-hl,Nat.min_self,beq_self_eq_true,wJ] at al;rw[<-al];exact this
    ·simp only[aZ] at g1 g2;have e1:xs[j]? = some (xs[j]'(by lia)):=aE _;have e2:ys[j]? = some (ys[j]'(by lia)):=aE _;obtain⟨k,hk⟩:=IN h j _ _ e1 e2;rw[e1,e2];simp only[hk,lA];obtain⟨v1,f1,f2⟩:=q1.get e1;obtain⟨v2,f3,f4⟩:=q2.get e2;obtain⟨u1,g3,g4⟩:=rv.get f1;obtain⟨u2,g5,g6⟩:=og.get f3;have a1:its.toArray[j]=u1:=by
      have:=aE g1;rw[this] at g3;simpa using eB g3
     have a2:fj.toArray[j]=u2:=by
      have:=aE g2;rw[this] at g5;simpa using eB g5
     rw[a1,a2];exact (yW I 8 hk f2 f4 g4 g6 (by show X.A.units+1+8<cLine;lia)).2
   exact rc _ _ _ _ ⟨.bl _,H,I,rfl,kk _ _ H q (ag.refl H) (.bl _)⟩
  ·exact q.elim
 ·exact q.elim
end
def Mh:R22:=λx y Q=>y = .lst [.int 1,.non]/\match x with
 | .int i=>Q (.bl !decide (i=1))
 | .non=>Q (.bl false)
 | _=>False
def M':aD->aD->Bool
 | .int i _,.int n _=>n == i
 | .none,.none=>true
 | _,_=>false
section
def Og (hr:ck k X.A):jn X (compareOp .NotIn) Mh:=by
 intro pins s σ H x y v u Q I rx ry bi;obtain⟨d,e,P,r1,r2,q,kk⟩:=bi;have hu:=hr.un;obtain⟨rfl,q⟩:=q;obtain⟨a,vs,rfl,h1,q1⟩:=r2.lst;cases ry;obtain⟨its,rv,ht,_⟩:=I.list h1;obtain⟨t1,rfl⟩:∃t,its=[.int 1 t,.none]:=by
  cases q1 with
  | cons a1 q2 =>
   cases q2 with
   | cons a2 q3 =>
    cases q3;rw[a1.int_inv] at rv;cases a2;cases rv with
    | cons b1 rv =>
     obtain⟨t,rfl⟩:=b1;cases rv with
     | cons b2 rv=>cases rv;cases b2;exact⟨t,rfl⟩
 split at q
 ·rename_i i;rw[r1.int_inv] at rx;obtain⟨t,rfl⟩:=rx;refine GD (M' (.int i t)) ht.isList (λy hy=>?_) ?_
  ·have hy:y = .int 1 t1\/y = .none:=(by simpa using hy);rcases hy with rfl | rfl
   ·exact uX 1 t1 i t
   ·exact SeqAt.EqAt.none_int i t
  ·have e:(!([.int 1 t1,.none]:List aD).toArray.any (M' (.int i t))) = !decide (i=1):=by
    rw[JU];show (!((1 == i) || (false || false)))=_;by_cases z:i=1
    ·subst z;rfl
    ·have:¬(1:Int)=i:=λk=>z k.symm;simp[z,this]
   rw[e];exact⟨.bl _,H,I,rfl,kk _ _ H q (ag.refl H) (.bl _)⟩
 ·have r1:c7 X.K H .non x:=by
   rcases r1 with r | ⟨ds,a,vs,e1,_⟩
   ·exact r
   ·cases e1
  cases r1;cases rx;refine GD (M' .none) ht.isList (λy hy=>?_) ?_
  ·have hy:y = .int 1 t1\/y = .none:=(by simpa using hy);rcases hy with rfl | rfl
   ·exact SeqAt.EqAt.int_none 1 t1
   ·exact tD _
  ·have e:(!([.int 1 t1,.none]:List aD).toArray.any (M' .none))=false:=(by rw[JU];rfl);rw[e];exact⟨.bl _,H,I,rfl,kk _ _ H q (ag.refl H) (.bl _)⟩
 ·exact q.elim
end
abbrev am (i:Int):RE:=rC (.int i)
abbrev ai (i:Nat) (k:Int):RE:=r2 ca (aM i) (rC (.int k))
abbrev aa (d:D):Option S:=some (.d d)
def oX:RS :=
 dQ (eX 4 (r2 pS (aM 2) (aM 3)))
 (dQ (eX 2 (cI 3))
 (eX 3 (cI 4)))
def wI:RS :=
 dQ (eX 2 (rCB SS (aC (cI 0) aX)))
 (dQ (eX 3 (rCB SS (aC (cI 1) aX)))
 (dQ (CK (eG (r2 (sT true) (aM 3) (am 0))) oX)
 (fR (cI 2))))
def Az (aw:FD):RS :=
 dQ (kD (eG (r2 (sT false) (aM 1) (am 0))) ((λ_ _=>False)) iE)
 (dQ (eX 2 (cU aw (aC (cI 0) (aC (cI 1) aX))))
 (dQ (kD (eG (r2 (oT λi j=>decide (i<j)) (aM 1) (am 0))) (eX 2 (r1 wR (aM 2))) iE)
 (fR (kE (aC (r2 kB (aM 0) (aM 2)) (aC (r2 kB (aM 1) (aM 2)) aX))))))
def FE:RS :=
 fR (QZ (r1 (IH "int") (cI 0)) (Pd (r1 (IH "bool") (cI 0))))
def Hj (mY:FD):RS :=
 fR (cU mY (aC (r2 lX (r2 fE (ai 0 0) (ai 1 1)) (r2 fE (ai 1 0) (ai 0 1))) (aC (r2 fE (ai 0 1) (ai 1 1)) aX)))
def Ba (mY:FD):RS :=
 fR (cU mY (aC (r2 fE (ai 0 0) (ai 1 0)) (aC (r2 fE (ai 0 1) (ai 1 1)) aX)))
def qL:RS :=
 Yr 0 1 (aC (cI 1) (aC (r2 pS (aM 0) (aM 1)) aX))
def zZ:RS :=
 dQ (eX 0 (rCB SS (aC (cI 0) aX)))
 (dQ (eX 1 (rCB SS (aC (cI 1) aX)))
 (dQ (CK (eG (r2 (oT λi j=>decide (j<i)) (aM 1) (am 0))) qL)
 (fR (cI 0))))
def Hi (mY:FD):RS :=
 fR (cU mY (aC (r2 fE (ai 0 0) (ai 1 1)) (aC (r2 fE (ai 0 1) (ai 1 0)) aX)))
def MI:RS :=
 fR (r2 kB (ai 0 0) (ai 0 1))
def VG:RS :=
 fR (kE (aC (r2 fE (aM 0) (ai 1 0)) (aC (ai 1 1) aX)))
def Pk (JR:FD) (oJ:FD):RS :=
 dQ (eX 2 (ai 0 0))
 (fR (kE (aC (cU JR (aC (cU oJ (aC (cI 2) (aC (ai 1 0) aX))) (aC (ai 0 1) aX))) (aC (cU JR (aC (cU oJ (aC (cI 2) (aC (ai 1 1) aX))) (aC (ai 0 2) aX))) aX))))
def VB (TR:FD):RS :=
 dQ (eX 2 (cU TR (aC (cI 1) (aC (kE (aC (ai 0 1) (aC (ai 0 2) aX))) aX))))
 (fR (kE (aC (r2 fE (ai 0 0) (ai 1 0)) (aC (ai 2 0) (aC (ai 2 1) aX)))))
def MK (oJ:FD):RS :=
 dQ (eX 1 (ai 0 0))
 (fR (kE (aC (cI 1) (aC (cU oJ (aC (r1 wR (aM 1)) (aC (ai 0 1) aX))) (aC (cU oJ (aC (r1 wR (aM 1)) (aC (ai 0 2) aX))) aX)))))
def vK (aw:FD):RS :=
 fR (r2 fE (aM 0) (r2 kB (aM 1) (cU aw (aC (cI 0) (aC (cI 1) aX)))))
def Hk:RS :=
 dQ (eX 3 (r2 fE (r2 mI (ai 1 0) (ai 0 0)) (r2 mI (ai 2 1) (ai 0 1))))
 (dQ (eX 4 (r2 fE (r2 mI (ai 1 1) (ai 0 1)) (r2 mI (ai 2 0) (ai 0 0))))
 (fR (r2 mI (aM 3) (aM 4))))
def pK:RS :=
 Hf 1
def yA (wM:FD):RS :=
 dQ (CK (NG (eG (r2 (oT λi j=>decide (j<i)) (r1 vC (aM 1)) (am 1))) (eG (r2 (oT λi j=>decide (i<=j)) (cU wM (aC (r2 ca (aM 1) (r1 wR (am 2))) (aC (r2 ca (aM 1) (r1 wR (am 1))) (aC (cI 2) aX)))) (am 0)))) pK)
 (zW 1 (cI 2))
def FF (wM:FD):RS :=
 dQ (tP 1 (pV aX))
 (dQ (nT (riL (cI 0)) (eU 2) (yA wM))
 (fR (XN (aM 1) rL (CJ (r1 wR (am 1))))))
def xU:RS :=
 eX 0 (r2 kB (aM 0) (aM 1))
def FB:RS :=
 dQ (nT (RJ (aC (cI 2) aX)) (eU 3) xU)
 (fR (r2 pS (aM 0) (aM 1)))
def xW (O6:FD):RS :=
 dQ (eX 2 (cU O6 (aC (cI 0) (aC (cI 1) aX))))
 (fR (kE (aC (r2 kB (aM 0) (aM 2)) (aC (r2 kB (aM 1) (aM 2)) aX))))
def AB:RS :=
 fR (r2 ca ((λρ Q=>(pV (aC (am 1) (aC (r2 lX (am 1) (r2 pS (r2 kB (aM 0) (am 3)) (am 12))) (aC (r2 lX (am 1) (r2 pS (r2 kB (aM 0) (am 3)) (r2 YR (am 10) (am 9)))) aX)))) ρ λds=>Q (.lst ds))) (r2 pS (aM 0) (am 3)))
def CM (O6:FD):RS :=
 eX 2 (cU O6 (aC (cU O6 (aC (cI 2) (aC (cI 3) aX))) (aC (cI 4) aX)))
def MF (O6:FD):RS :=
 dQ (eX 2 (cI 0))
 (dQ (nT (riL (cI 1)) (qS 2 (hE (eU 3) (hE (eU 4) qR))) (CM O6))
 (dQ (tP 5 (wD (riL (cI 1)) 2 [2] (qS 2 (hE (eU 0) (hE (eU 1) qR))) (kE (aC (r2 kB (aM 0) (aM 2)) (aC (r2 kB (aM 1) (aM 2)) aX)))))
 (dQ (eX 6 (Ek (aM 5) (r1 Fz (aM 5))))
 (fR (kE (aC (r2 kB (aM 0) (aM 2)) (aC (r1 PB (r2 EN (XN (aM 5) (CJ (cI 6)) rL) (XN (aM 5) rL (CJ (cI 6))))) aX)))))))
def FI:RS :=
 fR ((λρ Q=>(El (aM 0) (r2 EN (XN (aM 0) (CJ (am 1)) rL) (XN (aM 0) rL (CJ (am 1))))) ρ λds=>Q (.lst ds)))
def VC:RS :=
 fR (r2 mI (r2 lX (r2 fE (ai 0 0) (ai 1 0)) (r2 fE (ai 0 1) (ai 1 1))) (r2 fE (ai 0 2) (aM 2)))
def RH (i_:FD):RS :=
 dQ (eX 1 ((λρ Q=>(RC (aM 0)) ρ λds=>Q (.lst ds))))
 (fR (r2 EN (cU i_ (aC (cI 1) aX)) (cU i_ (aC ((λρ Q=>(RB (aM 1)) ρ λds=>Q (.lst ds))) aX))))
def FJ (aw:FD):RS :=
 eX 3 (cU aw (aC (cU aw (aC (cI 3) (aC (cI 4) aX))) (aC (cI 5) aX)))
def RI (uH:FD) (aw:FD):RS :=
 dQ (eX 2 (cU uH (aC (cI 1) aX)))
 (dQ (kD (eG (r2 (oT λi j=>decide (i<j)) (r1 vC (aM 2)) (am 3))) (fR (rC .non)) iE)
 (dQ (eX 3 (cI 0))
 (dQ (nT (riL (cI 2)) (qS 2 (hE (eU 4) (hE (eU 5) qR))) (FJ aw))
 (fR (kE (aC (r2 kB (aM 0) (aM 3)) (aC (r1 PB ((λρ Q=>(wD (riL (cI 2)) 2 [3] (qS 2 (hE (eU 0) (hE (eU 1) qR))) (kE (aC (r2 kB (aM 0) (aM 2)) (aC (r2 kB (aM 1) (aM 2)) aX)))) ρ λds=>Q (.lst ds)))) aX)))))))
def MH:RS :=
 dQ (eX 4 (rCB SS (aC (cI 1) aX)))
 (dQ (eX 5 (rCB SS (aC (cI 3) aX)))
 (fR (kE (aC (r2 lX (r2 fE (ai 0 0) (aM 5)) (r2 fE (ai 2 0) (aM 4))) (aC (r2 lX (r2 fE (ai 0 1) (aM 5)) (r2 fE (ai 2 1) (aM 4))) (aC (r2 lX (aM 4) (aM 5)) aX))))))
def tU (ij:FD):RS :=
 dQ (kD (eG (r2 (oT λi j=>decide (i<=j)) (ai 3 1) (am 0))) (zW 2 (kE (aC (r2 ca (ai 3 0) (am 0)) (aC (r2 ca (ai 3 0) (am 1)) (aC (am 1) aX))))) iE)
 (kD (eG (r2 (oT λi j=>decide (i<j)) (r2 fE (ai 3 1) (ai 4 1)) (am 0))) (zW 2 (cU ij (aC (ai 3 0) (aC (ai 3 1) (aC (ai 4 0) (aC (ai 4 1) aX)))))) iE)
def yB (ij:FD) (kx:FD):RS :=
 dQ (tP 2 (pV aX))
 (dQ (nT (riL (cU kx (aC ((λρ Q=>(El (aM 0) (aM 1)) ρ λds=>Q (.lst ds))) aX))) (qS 2 (hE (eU 3) (hE (eU 4) qR))) (tU ij))
 ((λE ρ=>(fR (cI 2)) E (wV 2 ρ))))
def wH:RS :=
 eX 5 (r2 fE (aM 5) (ai 6 2))
def CS (xF:FD) (jr:FD) (pB:FD):RS :=
 dQ (eX 2 (ai 0 0))
 (dQ (tP 3 (wD (riT (ai 0 1)) 1 [1,2] (eU 0) (cU xF (aC (cI 1) (aC (cI 0) (aC (cI 2) aX))))))
 (dQ (kD (eG (r2 (oT λi j=>decide (i<=j)) (r1 Mg (aM 3)) (am 0))) (fR (cI 0)) iE)
 (dQ (kD (eG (r2 (oT λi j=>decide (j<=i)) (r1 Fy (aM 3)) (am 0))) (fR (rC .non)) iE)
 (dQ ((λE ρ=>(eX 4 (cU jr (aC (ai 0 1) (aC (cI 3) aX)))) E (wV 3 ρ)))
 (dQ (eX 5 (am 1))
 (dQ (nT (riL (cI 4)) (eU 6) wH)
 (dQ (tP 7 (wD (riL (cI 4)) 3 [5] (qS 3 (hE (eU 0) (hE (eU 1) (hE (eU 2) qR)))) (kE (aC (r2 fE (aM 0) (r2 kB (aM 3) (aM 2))) (aC (r2 fE (aM 1) (r2 kB (aM 3) (aM 2))) aX)))))
 ((λE ρ=>(fR (cU pB (aC (r2 fE (aM 2) (aM 5)) (aC (cI 7) aX)))) E (wV 7 ρ))))))))))
def Pj (ie:FD):RS :=
 dQ (eX 2 (kE (aC (r1 wR (ai 1 0)) (aC (r1 wR (ai 1 1)) (aC (r1 wR (ai 1 2)) aX)))))
 (fR (kE (aC (cU ie (aC (cI 0) (aC (cI 1) aX))) (aC (cU ie (aC (cI 0) (aC (cI 2) aX))) aX))))
def wG:RS :=
 dQ (eX 6 (r2 ca (aM 3) (r2 mI (aM 5) (am 1))))
 (dQ (eX 7 (r2 mI (r2 fE (ai 1 0) (aM 2)) (r2 fE (ai 6 0) (ai 1 2))))
 (dQ (eX 8 (r2 mI (r2 fE (ai 1 1) (aM 2)) (r2 fE (ai 6 1) (ai 1 2))))
 (dQ (eX 9 (r2 mI (r2 fE (r2 mI (r2 ca (r2 ca (aM 3) (aM 5)) (am 0)) (ai 6 0)) (aM 8)) (r2 fE (r2 mI (r2 ca (r2 ca (aM 3) (aM 5)) (am 1)) (ai 6 1)) (aM 7))))
 (kD (rOr (eG (r2 (AM false) (aM 4) (rC .non))) (eG (r2 (oT λi j=>decide (i<j)) (aM 9) (aM 4)))) (eX 4 (cI 9)) iE))))
def CP:RS :=
 dQ (Kj (cI 0) (qS 2 (hE (eU 2) (hE (eU 3) qR))))
 (dQ (eX 4 (rC .non))
 (dQ (nT (RJ (aC (r1 vC (aM 3)) aX)) (eU 5) wG)
 (fR (r2 mI (rCB Ig (aC (r2 (oT λi j=>decide (j<i)) (aM 4) (am 0)) aX)) (rCB Ig (aC (r2 (oT λi j=>decide (i<j)) (aM 4) (am 0)) aX))))))
def JJ:RS :=
 dQ (eX 3 (r2 fE (r2 mI (ai 1 0) (ai 0 0)) (r2 mI (ai 2 1) (ai 1 1))))
 (fR (r2 mI (aM 3) (r2 fE (r2 mI (ai 1 1) (ai 0 1)) (r2 mI (ai 2 0) (ai 1 0)))))
def pW (O8:FD):RS :=
 dQ (kD (rOr (sV (eG (r1 (IH "tuple") (cI 1)))) (eG (r2 (sT true) (r1 vC (aM 1)) (am 2)))) (fR (rC (.bl false))) iE)
 (kD (rOr (sV (eG (cU O8 (aC (ai 1 0) aX)))) (sV (eG (cU O8 (aC (ai 1 1) aX))))) (fR (rC (.bl false))) iE)
def rR (O8:FD):RS :=
 dQ (kD (rOr (sV (eG (r1 (IH "tuple") (cI 0)))) (rOr (eG (r2 (sT true) (r1 vC (aM 0)) (am 2))) (rOr (sV (eG (cU O8 (aC (ai 0 0) aX)))) (eG (r2 (oT λi j=>decide (i<j)) (ai 0 0) (am 1)))))) (fR (rC (.bl false))) iE)
 (dQ (kD (rOr (sV (eG (r1 (IH "tuple") (ai 0 1)))) (eG (r2 (oT λi j=>decide (i<j)) (r1 vC (ai 0 1)) (am 3)))) (fR (rC (.bl false))) iE)
 (dQ (nT (riT (ai 0 1)) (eU 1) (pW O8))
 (fR (rC (.bl true)))))
def tT (O6:FD) (Q8:FD):RS :=
 dQ (eX 3 (cU O6 (aC (cU O6 (aC (cI 3) (aC (r2 ca (r2 ca (aM 2) (aM 5)) (am 0)) aX))) (aC (r2 ca (r2 ca (aM 2) (aM 5)) (am 1)) aX))))
 (dQ (kD (eG (r2 (oT λi j=>decide (i<=j)) (cU Q8 (aC (r2 ca (aM 2) (r2 mI (aM 5) (am 2))) (aC (r2 ca (aM 2) (r2 mI (aM 5) (am 1))) (aC (r2 ca (aM 2) (aM 5)) aX)))) (am 0))) (fR (rC (.bl false))) iE)
 (kD (NG (eG (r2 Rg (r2 ca (aM 2) (r2 mI (aM 5) (am 1))) (r2 ca (aM 2) (r2 mI (aM 5) (am 2))))) (eG (r2 Rg (r2 ca (aM 2) (r2 mI (aM 5) (am 1))) (r2 ca (aM 2) (aM 5))))) (eX 4 (r2 lX (aM 4) (am 1))) iE))
def xY (O6:FD) (Q2:FD) (Q8:FD):RS :=
 dQ (kD (sV (eG (cU Q2 (aC (cI 0) aX)))) (fR (rC (.bl false))) iE)
 (dQ (Kj (cI 0) (qS 2 (hE (eU 1) (hE (eU 2) qR))))
 (dQ (eX 3 (cI 1))
 (dQ (eX 4 (am 0))
 (dQ (nT (RJ (aC (r1 vC (aM 2)) aX)) (eU 5) (tT O6 Q8))
 (fR (QZ (r2 (sT false) (aM 3) (am 1)) (QZ (r2 (sT false) (aM 4) (am 1)) (r2 C_ (ai 2 0) (r1 Fz (aM 2))))))))))
def VF (pB:FD) (f6:FD):RS :=
 dQ (eX 2 (ai 1 1))
 (dQ (eX 3 (ai 1 2))
 (dQ (eX 4 (cU f6 (aC (cU f6 (aC (ai 0 0) (aC (ai 2 1) aX))) (aC (ai 3 1) aX))))
 (dQ (eX 5 (r2 fE (ai 1 0) (r2 kB (aM 4) (ai 0 0))))
 (dQ (eX 6 (r2 fE (ai 2 0) (r2 kB (aM 4) (ai 2 1))))
 (dQ (eX 7 (r2 fE (ai 3 0) (r2 kB (aM 4) (ai 3 1))))
 (fR (cU pB (aC (cI 4) (aC ((λρ Q=>(wD (riT (ai 0 1)) 2 [5,6,7] (qS 2 (hE (eU 0) (hE (eU 1) qR))) (kE (aC (r2 lX (r2 fE (aM 2) (aM 0)) (aM 3)) (aC (r2 lX (r2 fE (aM 2) (aM 1)) (aM 4)) aX)))) ρ λds=>Q (.lst ds))) aX)))))))))
def tS (O6:FD) (O8:FD):RS :=
 dQ (kD (rOr (sV (eG (r1 (IH "tuple") (cI 0)))) (rOr (eG (r2 (sT true) (r1 vC (aM 0)) (am 2))) (rOr (sV (eG (cU O8 (aC (ai 0 0) aX)))) (sV (eG (cU O8 (aC (ai 0 1) aX))))))) (fR (rC (.bl false))) iE)
 (fR (QZ (r2 (oT λi j=>decide (j<i)) (ai 0 1) (am 0)) (r2 (sT false) (cU O6 (aC (ai 0 0) (aC (ai 0 1) aX))) (am 1))))
def CO (O9:FD) (R4:FD) (O8:FD):RS :=
 dQ (kD (rOr (sV (eG (r1 (IH "tuple") (cI 0)))) (rOr (eG (r2 (sT true) (r1 vC (aM 0)) (am 2))) (sV (eG (cU R4 (aC (ai 0 0) aX)))))) (fR (rC (.bl false))) iE)
 (dQ (eX 1 (ai 0 1))
 (dQ (kD (rOr (sV (eG (r1 (IH "tuple") (cI 1)))) (rOr (eG (r2 (sT true) (r1 vC (aM 1)) (am 3))) (rOr (sV (eG (cU O8 (aC (ai 1 0) aX)))) (eG (r2 (sT true) (rCB SS (aC (ai 1 0) aX)) (am 1)))))) (fR (rC (.bl false))) iE)
 (fR (QZ (cU O9 (aC (ai 1 1) aX)) (cU O9 (aC (ai 1 2) aX))))))
def zX (P9:FD):RS :=
 kD (sV (eG (cU P9 (aC (cI 1) aX)))) (fR (rC (.bl false))) iE
def JG (P9:FD):RS :=
 dQ (kD (sV (eG (r1 (IH "list") (cI 0)))) (fR (rC (.bl false))) iE)
 (dQ (nT (riL (cI 0)) (eU 1) (zX P9))
 (fR (rC (.bl true))))
def JF:RS :=
 dQ (Kj (cI 1) (qS 3 (hE (eU 2) (hE (eU 3) (hE (eU 4) qR)))))
 (dQ (eX 5 (r2 fE (r2 fE (aM 2) (r2 mI (r2 fE (ai 0 0) (ai 3 1)) (r2 fE (ai 3 0) (ai 0 2)))) (ai 4 1)))
 (dQ (eX 6 (r2 fE (r2 fE (aM 2) (r2 mI (r2 fE (ai 0 1) (ai 4 1)) (r2 fE (ai 4 0) (ai 0 2)))) (ai 3 1)))
 (fR (kE (aC (cI 5) (aC (cI 6) (aC (r2 fE (r2 fE (ai 0 2) (ai 3 1)) (ai 4 1)) aX)))))))
def AA (Q5:FD) (P0:FD):RS :=
 dQ (eX 6 (cI 1))
 (dQ (kD (eG (cI 2)) (eX 6 (cU Q5 (aC (cI 1) (aC (cI 5) aX)))) iE)
 (dQ (eX 7 (cU P0 (aC (cI 4) (aC (cI 6) aX))))
 (dQ (kD (eG (r2 (sT false) (aM 7) (am 0))) (fR (rC .non)) iE)
 (eX 3 (r2 lX (aM 3) (rCB Ig (aC (r2 (sT false) (aM 7) (am 1)) aX)))))))
def JI (Q5:FD) (P0:FD):RS :=
 dQ (eX 3 (am 0))
 (dQ (nT (riL (cI 0)) (qS 2 (hE (eU 4) (hE (eU 5) qR))) (AA Q5 P0))
 (fR (cI 3)))
def wE:RS :=
 dQ (eX 3 (r2 ca (ai 0 1) (r2 mI (aM 2) (am 1))))
 (dQ (eX 4 (r2 ca (ai 0 1) (aM 2)))
 (eX 1 (r2 mI (r2 lX (aM 1) (r2 fE (ai 3 0) (ai 4 1))) (r2 fE (ai 3 1) (ai 4 0)))))
def CL:RS :=
 dQ (eX 1 (am 0))
 (dQ (nT (RJ (aC (r1 vC (ai 0 1)) aX)) (eU 2) wE)
 (fR (kE (aC (cI 1) (aC (r2 fE (ai 0 0) (ai 0 0)) aX)))))
def sR:RS :=
 fR (kE (aC (r2 lX (r2 fE (ai 0 0) (ai 1 1)) (r2 fE (ai 1 0) (ai 0 1))) (aC (r2 fE (ai 0 1) (ai 1 1)) aX)))
def xT (Q0:FD) (Q4:FD):RS :=
 eX 1 (cU Q0 (aC (cI 1) (aC (cU Q4 (aC (ai 2 0) aX)) aX)))
def FA (Q0:FD) (Q4:FD):RS :=
 dQ (eX 1 (kE (aC (am 0) (aC (am 1) aX))))
 (dQ (nT (riL (cI 0)) (eU 2) (xT Q0 Q4))
 (fR (cI 1)))
def wF:RS :=
 dQ (kD (rOr (eG (r2 (oT λi j=>decide (i<j)) (aM 3) (am 0))) (eG (r2 (oT λi j=>decide (j<i)) (aM 3) (ai 0 0)))) (fR (rC (.bl false))) iE)
 (dQ (eX 5 (r2 mI (r2 fE (aM 4) (ai 1 1)) (r2 fE (aM 3) (ai 1 0))))
 (kD (rOr (eG (r2 (oT λi j=>decide (i<j)) (aM 5) (am 0))) (eG (r2 (oT λi j=>decide (j<i)) (r2 fE (aM 5) (ai 2 1)) (r2 fE (r2 fE (ai 2 0) (ai 1 1)) (ai 0 0))))) (fR (rC (.bl false))) iE))
def CN:RS :=
 dQ (nT (riT (ai 0 1)) (qS 2 (hE (eU 3) (hE (eU 4) qR))) wF)
 (fR (rC (.bl true)))
def AC:RS :=
 dQ (eX 3 (r2 pS (r2 fE (r2 fE (r2 lX (r2 pS (aM 0) (r2 YR (am 10) (am 9))) (am 7)) (r2 lX (r2 pS (aM 0) (r2 YR (am 10) (am 9))) (am 31))) (am 48271)) (am 2147483629)))
 (dQ (eX 4 (r2 lX (am 1) (r2 pS (aM 3) (am 1008))))
 (dQ (eX 5 (r2 lX (am 1) (r2 pS (r2 pS (r2 fE (aM 3) (am 69621)) (am 2147483587)) (am 9972))))
 (dQ (eX 6 (r2 fE (r2 fE (r2 fE (am 1009) (am 9973)) (ai 1 1)) (ai 2 1)))
 (fR (kE (aC (r2 fE (r2 fE (r2 fE (aM 4) (am 9973)) (ai 1 1)) (ai 2 1)) (aC (r2 lX (r2 fE (r2 fE (r2 fE (aM 4) (ai 1 0)) (am 9973)) (ai 2 1)) (r2 fE (r2 fE (r2 fE (aM 5) (ai 2 0)) (am 1009)) (ai 1 1))) (aC (cI 6) aX))))))))
def xZ (P6:FD) (O7:FD):RS :=
 dQ (eX 4 (r2 lX (am 1) (cU P6 (aC (r2 kB (aM 0) (am 18)) (aC (am 3) (aC (cI 3) aX))))))
 (dQ (eX 5 (r2 lX (am 1) (r2 pS (cU P6 (aC (r2 kB (aM 0) (am 35)) (aC (am 4) (aC (cI 3) aX)))) (am 3))))
 (zW 2 (cU O7 (aC (r2 lX (r2 fE (r2 ca (r2 ca (aM 2) (r1 wR (am 1))) (am 0)) (aM 5)) (r2 fE (aM 4) (r2 ca (r2 ca (aM 2) (r1 wR (am 1))) (am 1)))) (aC (r2 fE (r2 ca (r2 ca (aM 2) (r1 wR (am 1))) (am 1)) (aM 5)) aX)))))
def FC (P6:FD) (O7:FD):RS :=
 dQ (tP 2 (pV (aC (cU O7 (aC (r2 mI (r2 pS (aM 0) (am 9)) (am 4)) (aC (r2 lX (am 1) (r2 pS (r2 kB (aM 0) (am 9)) (am 2))) aX))) aX)))
 (dQ (nT (RJ (aC (r2 mI (aM 1) (am 1)) aX)) (eU 3) (xZ P6 O7))
 ((λE ρ=>(fR (cI 2)) E (wV 2 ρ))))
def CQ (O7:FD):RS :=
 dQ (eX 1 (r2 ca ((λρ Q=>(pV (aC (am 9) (aC (r2 YR (am 10) (am 30)) aX))) ρ λds=>Q (.lst ds))) (r2 pS (r2 kB (aM 0) (am 2)) (am 2))))
 (dQ (eX 2 (cU O7 (aC (r2 mI (r2 pS (r2 fE (r2 pS (r2 fE (aM 0) (am 48271)) (am 1000000007)) (am 69621)) (r2 lX (r2 fE (am 2) (aM 1)) (am 1))) (aM 1)) (aC (r2 lX (am 1) (r2 pS (r2 kB (aM 0) (am 4)) (am 4))) aX))))
 (dQ (eX 3 (cU O7 (aC (r2 mI (r2 pS (aM 0) (r2 lX (r2 fE (am 2) (aM 1)) (am 1))) (aM 1)) (aC (r2 lX (am 1) (r2 pS (r2 kB (aM 0) (am 16)) (am 3))) aX))))
 (fR (kE (aC (r2 mI (am 1) (r2 fE (am 2) (r2 pS (aM 0) (am 2)))) (aC (cI 2) (aC (cI 3) aX)))))))
def JH:RS :=
 dQ (kD (eG (r2 (oT λi j=>decide (i<j)) (aM 1) (r1 vC (aM 0)))) (fR (r2 pS (r2 ca (aM 0) (aM 1)) (r2 lX (r2 YR (am 10) (am 60)) (am 7)))) iE)
 (fR (am 0))
def RD (xE:FD) (xG:FD) (rT:FD):RS :=
 fR (kE (aC (cU xG (aC (ai 0 0) (aC (cI 1) aX))) (aC (cU xE (aC (cU rT (aC (cI 1) aX)) (aC (ai 0 1) aX))) aX)))
def VD (oo:FD):RS :=
 fR (cU oo (aC (cI 0) (aC (kE (aC (am 1) (aC (kE (aC (am 0) (aC (am 1) aX))) (aC (cI 1) aX)))) aX)))
def zY (P4:FD):RS :=
 dQ (eX 3 (r2 fE (r2 ca (aM 0) (rC (.int 1))) (r2 ca (aM 1) (rC (.int 1)))))
 (dQ (eX 4 (r2 fE (r2 ca (aM 0) (rC (.int 0))) (r2 ca (aM 1) (rC (.int 1)))))
 (dQ (eX 5 (r2 fE (r2 ca (aM 1) (rC (.int 0))) (r2 ca (aM 0) (rC (.int 1)))))
 (dQ (kD (eG (r2 (oT λi j=>decide (i<j)) (aM 2) (rC (.int 3)))) (dQ (eX 6 (kE (aC (rC (.int 0)) (aC (rC (.int 0)) aX))))
 (dQ (eX 7 (kE (aC (cI 3) (aC (cI 4) aX))))
 (dQ (eX 8 (kE (aC (cI 3) (aC (r2 lX (aM 4) (aM 5)) aX))))
 (dQ (eX 9 (kE (aC (rC (.int 0)) (aC (cI 5) aX))))
 (dQ (kD (eG (r2 (sT false) (aM 2) (rC (.int 0)))) (fR ((λρ Q=>(pV (aC (cU P4 (aC (cI 3) (aC ((λρ Q=>(pV (aC (cI 6) (aC (cI 7) (aC (cI 8) (aC (cI 9) aX))))) ρ λds=>Q (.lst ds))) aX))) aX)) ρ λds=>Q (.lst ds)))) iE)
 (dQ (kD (eG (r2 (sT false) (aM 2) (rC (.int 1)))) (fR ((λρ Q=>(pV (aC (cU P4 (aC (cI 3) (aC ((λρ Q=>(pV (aC (cI 6) (aC (cI 7) (aC (cI 8) aX)))) ρ λds=>Q (.lst ds))) aX))) (aC (cU P4 (aC (cI 3) (aC ((λρ Q=>(pV (aC (cI 6) (aC (cI 8) (aC (cI 9) aX)))) ρ λds=>Q (.lst ds))) aX))) aX))) ρ λds=>Q (.lst ds)))) iE)
 (fR ((λρ Q=>(pV (aC (cU P4 (aC (cI 3) (aC ((λρ Q=>(pV (aC (cI 6) (aC (cI 7) (aC (cI 9) aX)))) ρ λds=>Q (.lst ds))) aX))) (aC (cU P4 (aC (cI 3) (aC ((λρ Q=>(pV (aC (cI 7) (aC (cI 8) (aC (cI 9) aX)))) ρ λds=>Q (.lst ds))) aX))) aX))) ρ λds=>Q (.lst ds)))))))))) iE)
 (dQ (eX 10 ((λρ Q=>(pV (aC (kE (aC (cI 3) (aC (cI 4) aX))) (aC (kE (aC (cI 3) (aC (r2 lX (aM 4) (r2 fE (rC (.int 3)) (aM 5))) aX))) aX))) ρ λds=>Q (.lst ds))))
 (dQ (eX 11 (cU P4 (aC (r2 fE (rC (.int 3)) (aM 3)) (aC ((λρ Q=>(pV (aC (kE (aC (rC (.int 0)) (aC (rC (.int 0)) aX))) (aC (r2 ca (aM 10) (rC (.int 0))) (aC (r2 ca (aM 10) (rC (.int 1))) (aC (kE (aC (rC (.int 0)) (aC (r2 fE (rC (.int 3)) (aM 5)) aX))) aX))))) ρ λds=>Q (.lst ds))) aX))))
 (fR ((λρ Q=>(pV (aC (cI 11) (aC (cU P4 (aC (r2 fE (rC (.int 3)) (aM 3)) (aC ((λρ Q=>(pV (aC (r2 ca (aM 10) (rC (.int 0))) (aC (kE (aC (r2 fE (rC (.int 3)) (aM 3)) (aC (r2 fE (rC (.int 3)) (aM 4)) aX))) (aC (kE (aC (r2 fE (rC (.int 3)) (aM 3)) (aC (r2 lX (r2 fE (rC (.int 3)) (aM 4)) (r2 fE (rC (.int 3)) (aM 5))) aX))) (aC (r2 ca (aM 10) (rC (.int 1))) aX))))) ρ λds=>Q (.lst ds))) aX))) aX))) ρ λds=>Q (.lst ds)))))))))
def MG:RS :=
 dQ (Kj (cI 0) (qS 3 (hE (eU 2) (hE (eU 3) (hE (eU 4) qR)))))
 (dQ (eX 5 (r2 fE (r2 lX (r2 fE (r2 fE (aM 2) (ai 1 0)) (ai 3 1)) (r2 fE (ai 3 0) (ai 1 2))) (ai 4 1)))
 (dQ (eX 6 (r2 fE (r2 lX (r2 fE (r2 fE (aM 2) (ai 1 1)) (ai 4 1)) (r2 fE (ai 4 0) (ai 1 2))) (ai 3 1)))
 (fR (kE (aC (cI 5) (aC (cI 6) (aC (r2 fE (r2 fE (ai 1 2) (ai 3 1)) (ai 4 1)) aX)))))))
def tR (Q9:FD) (P0:FD):RS :=
 dQ (eX 5 (cU P0 (aC (cI 3) (aC (cI 1) aX))))
 (dQ (kD (eG (r2 (sT false) (aM 5) (am 0))) (fR (rC .non)) iE)
 (kD (eG (r2 (sT false) (aM 5) (am 1))) (zW 2 (cU Q9 (aC (cI 4) (aC (cI 1) aX)))) iE))
def xX (Q9:FD) (P0:FD):RS :=
 dQ (tP 2 (pV aX))
 (dQ (nT (riL (cI 0)) (qS 2 (hE (eU 3) (hE (eU 4) qR))) (tR Q9 P0))
 ((λE ρ=>(fR (cI 2)) E (wV 2 ρ))))
def VE (mY:FD):RS :=
 fR (cU mY (aC (r1 Fy ((λρ Q=>(wD (riT (ai 0 1)) 2 [] (qS 2 (hE (eU 0) (hE (eU 1) qR))) (cI 1)) ρ λds=>Q (.lst ds)))) (aC (ai 0 0) aX)))
def vJ (o_:FD) (j2:FD) (vQ:FD):RS :=
 dQ (eX 5 (cU o_ (aC (cI 2) (aC (kE (aC (am 0) (aC (ai 1 1) (aC (r2 fE (r2 lX (aM 3) (am 1)) (ai 1 0)) aX)))) aX))))
 (dQ (zW 4 (cU j2 (aC (kE (aC (ai 5 0) (aC (ai 0 1) aX))) (aC (cU vQ (aC (cI 1) (aC (kE (aC (r1 wR (aM 3)) (aC (am 1) aX))) aX))) aX))))
 (dQ (eX 2 (ai 5 1))
 (eX 3 (r2 lX (aM 3) (am 1)))))
def MJ (o_:FD) (mo:FD) (j2:FD) (pe:FD) (uj:FD) (vQ:FD):RS :=
 dQ (eX 2 (ai 0 0))
 (dQ (eX 3 (cU mo (aC (cU uj (aC (cU pe (aC (cI 2) aX)) (aC (cI 1) aX))) aX)))
 (dQ (tP 4 (pV aX))
 (dQ (CK (eG (r2 (AM true) (aM 2) (rC .non))) (vJ o_ j2 vQ))
 ((λE ρ=>(fR (cI 4)) E (wV 4 ρ))))))
def vI (P8:FD):RS :=
 kD (sV (eG (cU P8 (aC (ai 2 0) (aC (kE (aC (am 0) (aC (am 1) aX))) (aC (cI 1) aX)))))) (fR (rC (.bl false))) iE
def AD (R7:FD) (R9:FD) (P8:FD) (O9:FD):RS :=
 dQ (kD (rOr (sV (eG (r1 (IH "tuple") (cI 0)))) (rOr (eG (r2 (sT true) (r1 vC (aM 0)) (am 2))) (rOr (eG (r2 dNe (ai 0 0) (aM 1))) (sV (eG (cU O9 (aC (ai 0 0) aX))))))) (fR (rC (.bl false))) iE)
 (dQ (kD (sV (eG (cU R9 (aC (ai 0 1) aX)))) (fR (rC (.bl false))) iE)
 (dQ (nT (riL (ai 0 1)) (eU 2) (vI P8))
 (dQ (eX 3 (cU R7 (aC (ai 0 1) aX)))
 (fR (r2 (sT false) (r2 fE (ai 3 0) (ai 1 1)) (r2 fE (r2 fE (am 2) (ai 1 0)) (ai 3 1)))))))
def AE (ik:FD):RS :=
 Ax 2 (cU ik (aC (cI 3) (aC (ai 0 1) aX)))
def JK (ik:FD):RS :=
 Ay (tP 2 (pV aX))
 (Ay (nT (riL (ai 0 2)) (eU 3) (AE ik))
 ((λE ρ=>(fR (kE (aC (Tr (ai 0 1)) (aC (O_ 2) aX)))) E (Mu 2 ρ))))
def tQ (P5:FD):RS :=
 dQ (eX 7 (cU P5 (aC (cI 1) (aC (cI 6) (aC (rC (.bl true)) aX)))))
 (dQ (eX 8 (cU P5 (aC (ai 0 1) (aC (cI 6) (aC (rC (.bl true)) aX)))))
 (kD (NG (eG (r2 (AM true) (aM 7) (rC .non))) (NG (eG (r2 (AM true) (aM 8) (rC .non))) (eG (r2 dNe (aM 7) (aM 8))))) (fR (rC (.bl false))) iE))
def xV (R3:FD) (P5:FD) (Q3:FD):RS :=
 dQ (kD (eG (r2 Mh (cU P5 (aC (ai 0 1) (aC (cU Q3 (aC (cI 4) (aC (kE (aC (am 0) (aC (am 1) aX))) (aC (cI 3) aX)))) (aC (rC (.bl false)) aX)))) ((λρ Q=>(pV (aC (am 1) (aC (rC .non) aX))) ρ λds=>Q (.lst ds))))) (fR (rC (.bl false))) iE)
 (dQ (eX 5 (cU R3 (aC (cI 1) (aC (cU Q3 (aC (cI 4) (aC (cI 2) (aC (cI 3) aX)))) aX))))
 (dQ (kD (eG (r2 (AM false) (aM 5) (rC .non))) (fR (rC (.bl true))) iE)
 (dQ (nT (riL (cI 5)) (eU 6) (tQ P5))
 (fR (rC (.bl true))))))
def FG (P7:FD):RS :=
 (λE ρ=>(kD (sV (eG (cU P7 (aC (cI 8) (aC (cI 5) (aC (r2 ca (aM 1) (aM 3)) (aC (cI 4) (aC (cI 9) aX)))))))) (fR (rC (.bl false))) iE) E (wV 5 ρ))
def FH (Q7:FD):RS :=
 zW 5 (kE (aC (cI 6) (aC (cU Q7 (aC (r2 lX (r2 kB (aM 2) (am 288)) (r2 fE (am 31) (r1 vC (aM 5)))) aX)) aX)))
def RF (Q6:FD) (R5:FD) (P7:FD) (O7:FD) (R8:FD) (Q7:FD) (R6:FD) (oq:FD):RS :=
 xS (eX 1 (cU R8 (aC (r2 kB (cU Q6 (aC (cI 0) (aC (am 0) aX))) (am 4)) (aC (r2 lX (am 1) (r2 pS (cU Q6 (aC (cI 0) (aC (am 0) aX))) (am 4))) aX))))
 (xS (eX 2 (cU Q6 (aC (cI 0) (aC (am 1) aX))))
 (xS (eX 3 (r2 pS (aM 2) (r1 vC (aM 1))))
 (xS (eX 4 (cU O7 (aC (r2 lX (am 1) (r2 pS (r2 kB (aM 2) (am 4)) (am 6))) (aC (r2 lX (am 1) (r2 pS (r2 kB (aM 2) (am 24)) (am 2))) aX))))
 (xS (tP 5 (pV aX))
 (xS (nT (riL (cU R5 (aC (r2 ca (aM 1) (aM 3)) (aC (cI 4) (aC (r2 pS (r2 kB (aM 2) (am 72)) (am 4)) aX))))) (eU 6) (FH Q7))
 (xS (eX 7 ((λρ Q=>(pV (aC (r1 IJ (aM 5)) (aC (r1 IJ (aM 1)) aX))) ρ λds=>Q (.lst ds))))
 (xS ((λE ρ=>(Pe 8 oq (aC (kE (aC (cI 3) (aC (cI 4) (aC (ai 7 0) aX)))) (aC (ai 7 1) aX))) E (wV 5 ρ)))
 (xS ((λE ρ=>(kD (rOr (sV (eG (cU R6 (aC (cI 8) (aC (cI 4) aX))))) (eG (r2 Rh (aM 7) ((λρ Q=>(pV (aC (cI 5) (aC (cI 1) aX))) ρ λds=>Q (.lst ds)))))) (fR (rC (.bl false))) iE) E (wV 5 ρ)))
 (xS (nT (riL (r2 EN ((λρ Q=>(Hg (aM 0) rL (CJ (am 6))) ρ λds=>Q (.lst ds))) ((λρ Q=>(pV (aC (cI 2) aX)) ρ λds=>Q (.lst ds))))) (eU 9) (FG P7))
 (Tq 8 (Qp 1)
 ((λE ρ=>(fR (r2 Re (aM 7) ((λρ Q=>(pV (aC (cI 5) (aC (cI 1) aX))) ρ λds=>Q (.lst ds))))) E (wV 5 ρ)))))))))))))
def Zn {α:Type} (x:α) (xs:List α):h9 (x::xs) 0=some x:=by
 unfold h9 lr;simp
def Zo {α:Type} (x y:α) (xs:List α):h9 (x::y::xs) 1=some y:=by
 unfold h9 lr;rw[if_pos (by decide),if_pos (by simp only[cG];lia)];rfl
def Zp {α:Type} (x y z:α) (xs:List α):h9 (x::y::z::xs) 2=some z:=by
 unfold h9 lr;rw[if_pos (by decide),if_pos (by simp only[cG];lia)];rfl
def Ce {α:Type} {xs:List α} {i:Int} {j:Nat} {x:α} (h:i=(j:Int)) (e:xs[j]? = some x):h9 xs i=some x:=by
 subst h;exact Fp e
def Wg:C_ x y Q=(match fb 6 x y with | some b=>Q (.bl b) | none=>False):=rfl
def BL.const (h:i.natAbs<2 ^ n:=by decide):BL n i:=h
def QV (h:0<=j/\j<=1000000/\i.natAbs<2 ^ 64:=by decide):ss i j:=⟨h⟩
def mU (h:j≠0:=by decide):sr j:=⟨h⟩
def Gk (h:n<=1000):n<=sizeLine:=fW h (by decide)
def rE:ca (.tup (x::xs)) (.int 0) Q=Q x:=by simp only[ca,Zn]
def kT:ca (.tup (x::y::xs)) (.int 1) Q=Q y:=by simp only[ca,Zo]
def II:ca (.tup (x::y::z::xs)) (.int 2) Q=Q z:=by simp only[ca,Zp]
def yU (e:h9 xs i=some x) (h:Q x):ca (.lst xs) (.int i) Q:=by simp only[ca,e];exact h
def Fx (h0:0<=i) (h1:i<xs.length) (h:∀x,x∈xs->Q x):ca (.lst xs) (.int i) Q:=by
 have hj:i.toNat<xs.length:=by lia
 exact yU (Ce (j:=i.toNat) (by lia) (aE hj)) (h _ (pF hj))
def tE {xs:List D} {k:Nat} {x:D} {Q:D->Prop} (e:xs[k]? = some x):ca (.lst xs) (.int (k:Int)) Q=Q x:=by simp only[ca,Fp e]
def YO:ca (.lst (a0::r)) (.int 0) Q=Q a0:=tE (k:=0) rfl
def YQ:ca (.lst (a0::a1::r)) (.int 1) Q=Q a1:=tE (k:=1) rfl
def Ly:ca (.lst (a0::a1::a2::r)) (.int 2) Q=Q a2:=tE (k:=2) rfl
def Lz:ca (.lst (a0::a1::a2::a3::r)) (.int 3) Q=Q a3:=tE (k:=3) rfl
def Ma:ca (.lst (a0::a1::a2::a3::a4::r)) (.int 4) Q=Q a4:=tE (k:=4) rfl
def Mb:ca (.lst (a0::a1::a2::a3::a4::a5::r)) (.int 5) Q=Q a5:=tE (k:=5) rfl
def Mc:ca (.lst (a0::a1::a2::a3::a4::a5::a6::r)) (.int 6) Q=Q a6:=tE (k:=6) rfl
def Md:ca (.lst (a0::a1::a2::a3::a4::a5::a6::a7::r)) (.int 7) Q=Q a7:=tE (k:=7) rfl
def Me:ca (.lst (a0::a1::a2::a3::a4::a5::a6::a7::a8::r)) (.int 8) Q=Q a8:=tE (k:=8) rfl
def Mf:ca (.lst (a0::a1::a2::a3::a4::a5::a6::a7::a8::a9::r)) (.int 9) Q=Q a9:=tE (k:=9) rfl
def Ih:ca (.lst (a0::a1::a2::a3::a4::a5::a6::a7::a8::a9::a10::r)) (.int 10) Q=Q a10:=tE (k:=10) rfl
def Ii:ca (.lst (a0::a1::a2::a3::a4::a5::a6::a7::a8::a9::a10::a11::r)) (.int 11) Q=Q a11:=tE (k:=11) rfl
def iP (n:Nat) (ds:List D):En:=ds.map (λd=>aa d)++fH n none
def cL (n:Nat) (h:N.length=ds.length+n):dR N ds=iP n ds:=by
 unfold dR iP;rw[h,Nat.add_sub_cancel_left]
def Wv:Ct "int" (.int i)=some true:=rfl
def Wt:Ct "bool" (.int i)=some false:=rfl
def Wu:Ct "int" (.bl i)=some true:=rfl
def Ws:Ct "bool" (.bl i)=some true:=rfl
def Ww:Ct "tuple" (.tup xs)=some true:=rfl
def E1 {α:Type} {x:α}:fH 0 x=[]:=rfl
def Er {α:Type} {x:α}:fH 1 x=[x]:=rfl
def Pn {α:Type} {x:α}:fH 2 x=[x,x]:=rfl
def Po {α:Type} {x:α}:fH 3 x=[x,x,x]:=rfl
def Bb {α:Type} {x:α}:fH 4 x=[x,x,x,x]:=rfl
def Kk {α:Type} {x:α}:fH 5 x=[x,x,x,x,x]:=rfl
def Yt {α:Type} {x:α}:fH 6 x=[x,x,x,x,x,x]:=rfl
def M5 {α:Type} {x:α}:fH 7 x=[x,x,x,x,x,x,x]:=rfl
def E5 {α:Type} {x:α}:fH 8 x=[x,x,x,x,x,x,x,x]:=rfl
def Yu {α:Type} {x:α}:fH 9 x=[x,x,x,x,x,x,x,x,x]:=rfl
def E2 {α:Type} {x:α}:fH 10 x=[x,x,x,x,x,x,x,x,x,x]:=rfl
def E3 {α:Type} {x:α}:fH 11 x=[x,x,x,x,x,x,x,x,x,x,x]:=rfl
def E4 {α:Type} {x:α}:fH 12 x=[x,x,x,x,x,x,x,x,x,x,x,x]:=rfl
def sz2:Sz (0+1+1):=⟨by decide⟩
def sz3:Sz (0+1+1+1):=⟨by decide⟩
def sz4:Sz (0+1+1+1+1):=⟨by decide⟩
def sz1:Sz (0+1):=⟨by decide⟩
def sz0:Sz 0:=⟨by decide⟩
local macro_rules | `(tactic| walk_at "rd")=>do
 let a <- ("Tr Ay xS S.fz D8 Ax Zu dQ iE fR D9 kD eX tP Yr Kj eU qS hE qR cI aM rC r2 r1 eG NG rOr sV QZ L6 Pd rIf aX aC kE pV cU rCB rL CJ Hg nT M6 riL riT RJ M8 Yv wD IC GH YF wV zW Hf Ys El Kn XN EN IJ PB J6 dNe Ek E6 E7 lX mI fE kB pS YR wR oT sT AM Wg BS rE kT II YO YQ Ly Lz Ma Mb Mc Md Me Mf Ih Ii SS Ig Zs Zt vC IH Wv Wt Wu Ws Ww S.val iP E1 Er Pn Po Bb Kk Yt M5 E5 Yu E2 E3 E4 aV cD aY bV cG fJ aH aJ bD bC fC wK Bool.or_true Bool.false_or Bool.true_or fS mL if_true if_false aN sz0 sz1 sz2 sz3 sz4 true_and decide_eq_true_eq Int.reduceToNat Int.reducePow Int.reduceMul Int.reduceSub Int.reduceAdd Int.reduceNeg".splitOn " ").toArray.mapM λx=>`(Lean.Parser.Tactic.simpLemma| $(Lean.mkIdent x.toName):term)
 `(tactic| simp only[$a,*])
local macro_rules | `(tactic| walk_at "side")=>`(tactic| first | exact QV | exact mU | exact (BL.const (n:=9000) (by decide)).divOk (by decide) | exact (BL.const (n:=300) (by decide)).mulOk (BL.const (n:=300) (by decide)))
local macro_rules | `(tactic| walk_at "sides")=>`(tactic| repeat (refine And.intro (by walk_at "side") ?_))
def HV (i:Int):(if i<0 then -i else i)=((i.natAbs:Nat):Int):=by split <;> lia
def UM (x y:Nat):((x:Nat):Int).fmod (y:Nat)=((x % y:Nat):Int):=by
 rw[Int.fmod_eq_emod_of_nonneg _ (uQ y)];exact (Int.natCast_emod x y).symm
def zN:FD:=λds Q=>∃a b:Int,ds=[.int a,.int b]/\Q (.int (cJ a b:Nat))
def Gm:∀ds Q,zN ds Q->ds.length=2:=by rintro ds Q ⟨a,b,rfl,_⟩;rfl
theorem KY (E:jz):∀(y x:Nat),E.nx [aa (.int (Nat.gcd x y:Nat)),aa (.int (0:Nat))] ->
  CK (eG (r2 (oT λi j=>decide (j<i)) (aM 1) (am 0))) qL E [aa (.int (x:Nat)),aa (.int (y:Nat))]:=by
 intro y
 induction y using MS with
 | ind y ih =>
  intro x h;cases uU y with
  | inl hy =>
   subst hy;refine⟨1,?_⟩;unfold oZ;walk_at "rd";rw[if_neg (by decide)];rw[FX] at h;exact h
  | inr hy =>
   have h2:=ih (x % y) (jS x hy) y (by
    rw[yK y,<-Nat.gcd_rec,yK];exact h)
   obtain⟨n,hn⟩:=h2;refine⟨n+1,?_⟩;unfold oZ qL;walk_at "rd";rw[if_pos (by lia)];refine⟨⟨by lia⟩,?_⟩;rw[UM];exact hn
def LJ:∀ds Q,zN ds Q->zZ { nx:=λ_=>Q .non,rt:=Q } (dR ["_law_one","_law_other"] ds):=by
 rintro ds Q ⟨a,b,rfl,q⟩;rw[cL 0 rfl];unfold zZ;walk_at "rd";rw[HV,HV];refine KY _ _ _ ?_;walk_at "rd";exact q
theorem EH (E:jz) (u v:Option S):∀(y x:Nat) (r:Option S),(∀r,E.nx [u,v,aa (.int (Nat.gcd x y:Nat)),aa (.int (0:Nat)),r]) ->
  CK (eG (r2 (sT true) (aM 3) (am 0))) oX E [u,v,aa (.int (x:Nat)),aa (.int (y:Nat)),r]:=by
 intro y
 induction y using MS with
 | ind y ih =>
  intro x r h;cases uU y with
  | inl hy =>
   subst hy;refine⟨1,?_⟩;unfold oZ;walk_at "rd";rw[if_neg (by simp)];rw[FX] at h;exact h r
  | inr hy =>
   obtain⟨n,hn⟩:=ih (x % y) (jS x hy) y (aa (.int ((x % y:Nat)))) (by
    rw[yK y,<-Nat.gcd_rec,yK];exact h)
   refine⟨n+1,?_⟩;unfold oZ oX;walk_at "rd";rw[if_pos (by simp;lia)];refine⟨⟨by lia⟩,?_⟩;rw[UM];exact hn
def EI:∀ds Q,zN ds Q->wI { nx:=λ_=>Q .non,rt:=Q } (dR ["one","other","larger","smaller","rest"] ds):=by
 rintro ds Q ⟨a,b,rfl,q⟩;rw[cL 3 rfl];unfold wI;walk_at "rd";rw[HV,HV];refine EH _ _ _ _ _ _ λr=>?_;walk_at "rd";exact q
abbrev fr (a b:Int):D:=.tup [.int a,.int b]
def NX (h:b≠0):0<(cJ a b:Int):=by
 have:0<cJ a b:=Int.gcd_pos_of_ne_zero_right a h;lia
def BL.gcd (hb:b≠0) (h:BL n b):BL n (cJ a b:Int):=by
 refine h.le ?_;rw[Int.natAbs_natCast];exact wO (by lia) (Int.gcd_dvd_natAbs_right a b)
structure my (a b p q:Int):Prop where
 pos:0<q
 cop:cJ p q=1
 worth:p*b=a*q
 lea:p.natAbs<=a.natAbs
 leb:q.natAbs<=b.natAbs
def WV (hb:0<b):my a b (a.fdiv (cJ a b:Nat)) (b.fdiv (cJ a b:Nat)):=by
 have hg:0<(cJ a b:Int):=NX (by lia);have ea:((cJ a b:Nat):Int)∣a:=mO ..;have eb:((cJ a b:Nat):Int)∣b:=lU ..;rw[cK _ (by lia),cK _ (by lia)];have e1:a / (cJ a b:Int)*(cJ a b:Int)=a:=tJ ea;have e2:b / (cJ a b:Int)*(cJ a b:Int)=b:=tJ eb;have hc:cJ (a / (cJ a b:Int)) (b / (cJ a b:Int))=1:=vM (by lia);generalize (cJ a b:Int)=g at *;generalize a / g=p at *;generalize b / g=q at *;subst e1 e2;refine⟨?_,hc,by rw[nV,gM q g],?_,?_⟩
 ·exact iJ hb (by lia)
 ·rw[lC];exact qO _ (by lia)
 ·rw[lC];exact qO _ (by lia)
def So (hb:b<0):my a b (a.fdiv (-(cJ a b:Nat))) (b.fdiv (-(cJ a b:Nat))):=by
 have h:=WV (a:=-a) (b:=-b) (by lia);have e:cJ (-a) (-b)=cJ a b:=by rw[Int.neg_gcd,Int.gcd_neg]
 rw[e] at h;have f:∀x g:Int,(-x).fdiv g=x.fdiv (-g):=λx g=>by
  have:=Int.neg_fdiv_neg (-x) g;rw[Int.neg_neg] at this;exact this.symm
 rw[f,f] at h;refine⟨h.pos,h.cop,?_,by have:=h.lea;lia,by have:=h.leb;lia⟩;have w:=h.worth;rw[LS,Int.neg_mul] at w;exact Int.neg_inj.mp w
def mY:FD:=λds Q=>∃a b:Int,ds=[.int a,.int b]/\(b≠0/\BL 9000 b)/\∀p q,my a b p q->Q (fr p q)
def Jh:∀ds Q,mY ds Q->ds.length=2:=by rintro ds Q ⟨a,b,rfl,_⟩;rfl
def Ei:∀ds Q,mY ds Q->Az zN { nx:=λ_=>Q .non,rt:=Q } (dR ["top","bottom","divisor"] ds):=by
 rintro ds Q ⟨a,b,rfl,⟨h0,hb⟩,q⟩;rw[cL 1 rfl];unfold Az;walk_at "rd";rw[if_neg h0];refine⟨a,b,rfl,?_⟩;have hg:=NX (a:=a) h0;have bg:=BL.gcd (a:=a) h0 hb;walk_at "rd";split
 ·rename_i dk;refine⟨bg.neg.divOk (by lia),bg.neg.divOk (by lia),q _ _ (So dk)⟩
 ·rename_i dk;refine⟨bg.divOk (by lia),bg.divOk (by lia),q _ _ (WV (by lia))⟩
def Kz (f:Int->Int->Int->Int->Int):FD:=λds Q=>∃a b c d:Int,ds=[fr a b,fr c d]/\(0<b/\0<d)/\(BL 4000 a/\BL 4000 b/\BL 4000 c/\BL 4000 d)/\∀p q,my (f a b c d) (b*d) p q->Q (fr p q)
def ZR:∀ds Q,Kz f ds Q->ds.length=2:=by rintro ds Q ⟨a,b,c,d,rfl,_⟩;rfl
abbrev JR:FD:=Kz λa b c d=>a*d+c*b
abbrev vQ:FD:=Kz λa b c d=>a*c
def Kh:∀ds Q,JR ds Q->Hj mY { nx:=λ_=>Q .non,rt:=Q } (dR ["one","other"] ds):=by
 rintro ds Q ⟨a,b,c,d,rfl,⟨h1,h2⟩,⟨ba,bb,bc,bd⟩,q⟩;rw[cL 0 rfl];unfold Hj;walk_at "rd";refine⟨ba.mulOk bd,bc.mulOk bb,bb.mulOk bd,_,_,rfl,⟨qV (aL h1 h2),(bb.mul bd).mono⟩,q⟩
def Ej:∀ds Q,vQ ds Q->Ba mY { nx:=λ_=>Q .non,rt:=Q } (dR ["one","other"] ds):=by
 rintro ds Q ⟨a,b,c,d,rfl,⟨h1,h2⟩,⟨ba,bb,bc,bd⟩,q⟩;rw[cL 0 rfl];unfold Ba;walk_at "rd";refine⟨ba.mulOk bc,bb.mulOk bd,_,_,rfl,⟨qV (aL h1 h2),(bb.mul bd).mono⟩,q⟩
def TU:FD:=λds Q=>∃a b:Int,ds=[.int a,.int b]/\(0<b/\BL 9000 b)/\∀p q,my a b p q->Q (fr p q)
def Si:∀ds Q,TU ds Q->ds.length=2:=by rintro ds Q ⟨a,b,rfl,_⟩;rfl
def CZ:FD:=λds Q=>∃a:Int,ds=[.int a]/\Q (.bl true)
def Ji:∀ds Q,CZ ds Q->ds.length=1:=by rintro ds Q ⟨a,rfl,_⟩;rfl
def QY:∀ds Q,CZ ds Q->FE { nx:=λ_=>Q .non,rt:=Q } (dR ["_law_found"] ds):=by
 rintro ds Q ⟨a,rfl,q⟩;rw[cL 0 rfl];unfold FE;walk_at "rd";exact q
def fQ {a b:Int} (h:0<b):0<=a.fmod b/\a.fmod b<b:=⟨Int.fmod_nonneg_of_pos a h,Int.fmod_lt_of_pos a h⟩
def Se:∀ds Q,Ky 63 ds Q->ds.length=1:=by rintro ds Q ⟨a,rfl,_⟩;rfl
theorem kG (J:List D->En->Prop)
  (step:∀x xs ρ,J (x::xs) ρ->∀F:jz,F.rt=E.rt->F.bk=E.nx->(∀ρ',J xs ρ'->F.nx ρ')->(∀ρ',J xs ρ'->F.ct ρ')->g x ρ λρ1=>t F ρ1) (last:∀ρ,J [] ρ->E.nx ρ):∀xs ρ,J xs ρ->ZD g t xs E ρ
 | [],ρ,h=>last ρ h
 | x::xs,ρ,h=>step x xs ρ h _ rfl rfl (λρ' h'=>kG J step last xs ρ' h') λρ' h'=>kG J step last xs ρ' h'
theorem YK {α:Type} (R:En->Prop) (iI f:α->D):∀(src:List α) {Q:List D->Prop},(∀a∈src,∀ρ,R ρ->∀K:En->D->Prop,(∀ρ1,R ρ1->K ρ1 (f a))->g (iI a) ρ λρ1=>te ρ1 λd=>K ρ1 d) ->
  ∀(ρ:En) (acc:List D),R ρ->Q (acc++src.map f)->IC g te (src.map iI) ρ acc Q
 | [],Q,_,ρ,acc,_,q=>by
  show Q acc;simpa using q
 | a::src,Q,step,ρ,acc,h,q=>by
  show g (iI a) ρ λρ'=>te ρ' λd=>IC g te (src.map iI) ρ' (acc++[d]) Q;refine step a dX ρ h (λρ1 d=>IC g te (src.map iI) ρ1 (acc++[d]) Q) λρ1 h1=>?_;exact YK R iI f src (λb hb=>step b (bQ _ hb)) ρ1 _ h1 (by simpa using q)
def xL {α:Type} (R:En->Prop) (iI f:α->D) (src:List α) (step:∀a∈src,∀ρ,R ρ->∀K:En->D->Prop,(∀ρ1,R ρ1->K ρ1 (f a))->g (iI a) ρ λρ1=>te ρ1 λd=>K ρ1 d)
  (h:R ρ) (q:Q (src.map f)):IC g te (src.map iI) ρ [] Q:=YK R iI f src step ρ [] h (by simpa using q)
abbrev il (ns:List Int):D:=.lst (ns.map .int)
abbrev pt (p:Int × Int):D:=.tup [.int p.1,.int p.2]
abbrev gh (ps:List (Int × Int)):D:=.lst (ps.map pt)
def rS (h:n<=100000):Sz n:=⟨fW h (by decide)⟩
abbrev qt:Int:=1000000000000000000000000000000000000000000000000000000000007
structure Drawn (m:Nat) (xs:List Int):Prop where
 len:xs.length=m
 lo:∀x∈xs,0<=x
 hi:∀x∈xs,x<qt
def Ep {lo:Int}:(tG lo n).length=n:=by simp[tG]
def YB {α:Type} {xs:List α} {x:α} (h:xs.getLast? = some x):h9 xs (-1)=some x:=by
 have gm:xs≠[]:=λe=>by rw[e] at h;cases h
 have hl:0<xs.length:=kP.mpr gm;unfold h9 lr;rw[if_neg (by decide),if_pos (by lia)];rw[List.getLast?_eq_getElem?] at h;show xs[((-1:Int)+(xs.length:Int)).toNat]? = some x;rw[<-h];congr 1;lia
abbrev aff (p q r s ox oy:Int) (z:Int × Int):Int × Int:=(p*z.1+q*z.2+ox,r*z.1+s*z.2+oy)
def cM (I:En->Prop) (h1:∀K:En->Prop,(∀ρ',I ρ'->K ρ')->t { E with nx:=K } ρ) (h2:∀ρ',I ρ'->u E ρ'):dQ t u E ρ:=h1 (u E) h2
def Qn:FD:=λds Q=>∃n:Int,ds=[.int n]/\∀s,1<=s->s<=1000000000->Q (.int s)
def Kf:∀ds Q,Qn ds Q->AB { nx:=λ_=>Q .non,rt:=Q } (dR ["_law_number"] ds):=by
 rintro ds Q ⟨n,rfl,q⟩;rw[cL 0 rfl];unfold AB;walk_at "rd";walk_at "sides";obtain⟨a0,a1⟩:=fQ (a:=n) (b:=3) (by decide);obtain⟨b0,b1⟩:=fQ (a:=n.fdiv 3) (b:=12) (by decide);obtain⟨c0,c1⟩:=fQ (a:=n.fdiv 3) (b:=1000000000) (by decide);refine Fx a0 (by simpa using a1) λx hx=>?_;simp only[aO,gB,or_false] at hx;rcases hx with rfl | rfl | rfl
 ·exact q _ (by decide) (by decide)
 ·exact q _ (by lia) (by lia)
 ·exact q _ (by lia) (by lia)
def JD:∀ds Q,TU ds Q->xW zN { nx:=λ_=>Q .non,rt:=Q } (dR ["_law_top","_law_bottom","_law_most"] ds):=by
 rintro ds Q ⟨a,b,rfl,⟨h0,hb⟩,q⟩;rw[cL 1 rfl];unfold xW;walk_at "rd";refine⟨a,b,rfl,?_⟩;have hg:=NX (a:=a) (b:=b) (by lia);have bg:=BL.gcd (a:=a) (b:=b) (by lia) hb;walk_at "rd";exact⟨bg.divOk (by lia),bg.divOk (by lia),q _ _ (WV h0)⟩
structure kh (share:Int) (cs:List (Int × Int)) (m sh:Int) (ds:List (Int × Int)) (j:Nat):Prop where
 mpos:0<m
 sh_eq:share=m*sh
 cs_eq:cs=ds.map λz=>(m*z.1,m*z.2)
 j_lt:j<ds.length
 least:∀z∈ds,∀w,ds[j]? = some w->HT.lexLt [z.1,z.2] [w.1,w.2]=false
 cop:∀d:Nat,(d:Int)∣sh->(∀z∈ds,(d:Int)∣z.1/\(d:Int)∣z.2)->d=1
abbrev turned {α:Type} (j:Nat) (ds:List α):List α:=ds.drop j++ds.take j
def OG:FD:=λds Q=>∃(share:Int) (cs:List (Int × Int)),ds=[.int share,gh cs]/\(0<share/\BL 100 share)/\(cs≠[]/\cs.length<=100) /\
 ∀m sh zs j,kh share cs m sh zs j->Q (.tup [.int sh,.tup ((turned j zs).map pt)])
def Sb:∀ds Q,OG ds Q->ds.length=2:=by rintro ds Q ⟨_,_,rfl,_⟩;rfl
structure f8 (share:Int) (zs:List (Int × Int)) (g:Nat):Prop where
 pos:0<g
 sh:(g:Int)∣share
 all:∀z∈zs,(g:Int)∣z.1/\(g:Int)∣z.2
 most:∀d:Nat,(d:Int)∣share->(∀z∈zs,(d:Int)∣z.1/\(d:Int)∣z.2)->d∣g
def f8.bl (h:f8 share zs g) (hs:0<share) (b:BL n share):BL n (g:Int):=by
 refine b.le ?_;have:=EK hs h.sh;lia
def f8.snoc (h:f8 share zs g) (z:Int × Int):f8 share (zs++[z]) (cJ (cJ g z.1:Nat) z.2):=by
 have d1:((cJ (cJ g z.1:Nat) z.2:Nat):Int)∣((cJ g z.1:Nat):Int):=mO ..;have d2:((cJ g z.1:Nat):Int)∣(g:Int):=mO ..;have d3:((cJ g z.1:Nat):Int)∣z.1:=lU ..;have d4:((cJ (cJ g z.1:Nat) z.2:Nat):Int)∣z.2:=lU ..;have dg:=kZ d1 d2;refine⟨?_,kZ dg h.sh,λw hw=>?_,λd e1 e2=>?_⟩
 ·have:=h.pos;have h1:0<cJ g z.1:=kX _ (by lia);exact kX _ (by lia)
 ·rcases cS.mp hw with h' | h'
  ·obtain⟨a,b⟩:=h.all w h';exact⟨kZ dg a,kZ dg b⟩
  ·rw[dY.mp h'];exact⟨kZ d1 d3,d4⟩
 ·obtain⟨a,b⟩:=e2 z (by simp);have:=h.most d e1 λw hw=>e2 w (fD _ hw);have h1:(d:Int)∣((cJ g z.1:Nat):Int):=MN (by exact_mod_cast this) a
  exact_mod_cast MN h1 b
def UH {xs:List D} {j:Nat} (h:j<=xs.length):cutD xs (some (j:Int)) none=xs.drop j:=by
 unfold cutD;rw[HT.sIx_nat,HT.sIx_none,MR h,nF (by simp)]
def Ft {xs:List D} {j:Nat} (h:j<=xs.length):cutD xs none (some (j:Int))=xs.take j:=by
 unfold cutD;rw[HT.sIx_nat,HT.sIx_none,MR h];simp
def WL (z w:Int × Int):fb 6 (pt z) (pt w)=some (decide (z=w)):=by
 obtain⟨a,b⟩:=z;obtain⟨c,d⟩:=w;simp only[fb,ji];congr 1;by_cases h1:a=c <;> by_cases h2:b=d <;> simp[h1,h2]
def XI:∀ds Q,OG ds Q->MF zN { nx:=λ_=>Q .non,rt:=Q } (dR ["_law_share_here","_law_ring_here","_law_most","_law_x","_law_y","_law_corners","_law_at"] ds):=by
 rintro ds Q ⟨share,cs,rfl,⟨hs,bs⟩,⟨gm,hlen⟩,q⟩;rw[cL 5 rfl];unfold MF;simp only[iP,Kk,aV,cD,aY,bV];refine cM (λρ=>ρ=[aa (.int share),aa (gh cs),aa (.int share),none,none,none,none]) (λK hK=>?_) ?_
 ·walk_at "rd";exact hK _ rfl
 rintro ρ rfl;refine cM (λρ=>∃(g:Nat) (x y:Option S),f8 share cs g/\ρ=[aa (.int share),aa (gh cs),aa (.int g),x,y,none,none]) (λK hK=>?_) ?_
 ·walk_at "rd";refine kG (λxs ρ=>∃(done rest:List (Int × Int)) (g:Nat) (x y:Option S),cs=done++rest/\xs=rest.map pt/\f8 share done g/\ρ=[aa (.int share),aa (gh cs),aa (.int g),x,y,none,none]) ?_ ?_ _ _ ⟨[],cs,share.toNat,none,none,rfl,rfl,⟨by lia,?_,by simp,λd e1 _=>?_⟩,?_⟩
  ·rintro x xs ρ ⟨done,rest,g,u,v,e,ex,hg,rfl⟩ F _ _ hn _;cases rest with
   | nil=>cases ex
   | cons z rest =>
    cases ex;unfold CM;walk_at "rd";refine⟨_,_,rfl,_,_,rfl,?_⟩;exact hn _ ⟨done++[z],rest,_,_,_,by simpa using e,rfl,hg.snoc z,rfl⟩
  ·rintro ρ ⟨done,rest,g,u,v,e,ex,hg,rfl⟩;have:rest=[]:=(by simpa using ex.symm);subst this;rw[fC] at e;subst e;exact hK _ ⟨g,u,v,hg,rfl⟩
  ·have:(share.toNat:Int)=share:=(by lia);rw[this];exact pC _
  ·have:(share.toNat:Int)=share:=by lia
   exact_mod_cast (by rw[this];exact e1:(d:Int)∣(share.toNat:Int))
  ·have:(share.toNat:Int)=share:=(by lia);rw[this]
 rintro ρ ⟨g,x,y,hg,rfl⟩;have gp:(0:Int)<g:=by have:=hg.pos;lia
 have gb:BL 9000 (g:Int):=(hg.bl hs bs).mono;obtain⟨zs,ez⟩:∃zs,zs=cs.map λz=>(z.1 / (g:Int),z.2 / (g:Int)):=⟨_,rfl⟩;have ec:cs=zs.map λz=>((g:Int)*z.1,(g:Int)*z.2):=by
  rw[ez,dN];symm
  conv=>rhs;rw[<-oO cs]
  refine kQ λz hz=>?_;obtain⟨a,b⟩:=hg.all z hz;simp only[EJ,id,jD a,jD b]
 refine cM (λρ=>ρ=[aa (.int share),aa (gh cs),aa (.int g),x,y,some (.own (zs.map pt)),none]) (λK hK=>?_) ?_
 ·walk_at "rd";refine⟨rS (by simp;lia),?_⟩;refine xL (λρ=>∃a b,ρ=[a,b,aa (.int g)]) pt (λz=>pt (z.1 / (g:Int),z.2 / (g:Int))) cs ?_ ⟨_,_,rfl⟩ ?_
  ·rintro z hz ρ ⟨a,b,rfl⟩ K' kf;walk_at "rd";refine⟨gb.divOk (by lia),gb.divOk (by lia),?_⟩;rw[cK _ (by lia),cK _ (by lia)];exact kf _ ⟨_,_,rfl⟩
  ·refine hK _ ?_;rw[ez,dN];rfl
 rintro ρ rfl;have lz:zs.length=cs.length:=by rw[ez];simp
 have hz:zs≠[]:=by intro e;rw[e] at lz;exact gm (xH.mp lz.symm)
 refine cM (λρ=>∃j:Nat,(j<zs.length/\∀z∈zs,∀w,zs[j]? = some w->HT.lexLt [z.1,z.2] [w.1,w.2]=false)/\ρ=[aa (.int share),aa (gh cs),aa (.int g),x,y,some (.own (zs.map pt)),aa (.int j)]) (λK hK=>?_) ?_
 ·walk_at "rd";refine⟨⟨_,rfl⟩,zs.map λz=>[z.1,z.2],by rw[dN];rfl,by simpa using hz,λM hM X0=>?_⟩;obtain⟨w,hw,rfl⟩:=bJ.mp hM;have dk:zs.findIdx (λz=>decide (z=w))<zs.length:=List.findIdx_lt_length_of_exists ⟨w,hw,by simp⟩;have hat:=List.findIdx_getElem (w:=dk);have x6:zs[zs.findIdx (λz=>decide (z=w))]=w:=by simpa using hat
  refine⟨zs.findIdx (λz=>decide (z=w)),⟨pt w,?_,?_⟩,λi d hi ed=>?_,λd hd=>?_,hK _ ⟨_,⟨dk,λz hz v ev=>?_⟩,rfl⟩⟩
  ·rw[bZ,aE dk,x6];rfl
  ·show fb 6 (pt w) (pt w)=_;rw[WL];simp
  ·rw[bZ] at ed;cases e:zs[i]? with
   | none=>rw[e] at ed;cases ed
   | some z =>
    rw[e] at ed;cases ed;show fb 6 (pt z) (pt w)=_;have W4:i<zs.length:=(bI.mp e).1;have:=List.not_of_lt_findIdx hi;rw[WL];have e2:zs[i]=z:=(by rw[aE W4] at e;exact eB e);rw[e2] at this;simpa using this
  ·obtain⟨z,_,rfl⟩:=bJ.mp hd;exact⟨_,WL z w⟩
  ·rw[aE dk,x6] at ev;cases ev;exact X0 _ (bJ.mpr ⟨z,hz,rfl⟩)
 rintro ρ ⟨j,⟨hj,ve⟩,rfl⟩;walk_at "rd";have lm:(zs.map pt).length=zs.length:=by simp
 rw[UH (by lia),Ft (by lia)];refine⟨gb.divOk (by lia),rS (by simp;lia),?_⟩;rw[cK _ (by lia)];have:=q g (share / g) zs j ⟨gp,(jD hg.sh).symm,ec,hj,ve,λd e1 e2=>?_⟩
 ·rw[dM,List.map_drop,jV] at this;exact this
 ·have h1:((g*d:Nat):Int)∣share:=by
   rw[<-jD hg.sh]
   push_cast
   exact zP (pC _) e1
  have h2:=hg.most (g*d) h1 λz hz=>by
   rw[ec] at hz;obtain⟨w,hw,rfl⟩:=bJ.mp hz;obtain⟨a,b⟩:=e2 w hw
   push_cast
   exact⟨zP (pC _) a,zP (pC _) b⟩
  have h3:=wO hg.pos h2;have h4:d≠0:=λe=>by
   subst e;simp at h2;have:=hg.pos;lia
  have h5:=hg.pos;rcases Nat.lt_or_ge 1 d with h | h
  ·have:g*2<=g*d:=EF _ h;lia
  ·lia
def BP (z:Pt):Prop:=BL 20000 z.1/\BL 20000 z.2
def wM:FD:=λds Q=>∃a b c:Pt,ds=[pt a,pt b,pt c]/\(BP a/\BP b/\BP c)/\Q (.int (bT a b c))
def Nt:∀ds Q,wM ds Q->ds.length=3:=by rintro ds Q ⟨_,_,_,rfl,_⟩;rfl
def Ki:∀ds Q,wM ds Q->Hk { nx:=λ_=>Q .non,rt:=Q } (dR ["one","middle","other","along","across"] ds):=by
 rintro ds Q ⟨a,b,c,rfl,⟨ba,bb,bc⟩,q⟩;rw[cL 2 rfl];unfold Hk;walk_at "rd";exact⟨(bb.1.sub ba.1).mulOk (bc.2.sub ba.2),(bb.2.sub ba.2).mulOk (bc.1.sub ba.1),q⟩
def VQ:FD:=λds Q=>∃ps:List Pt,ds=[gh ps]/\(∀z∈ps,BP z)/\ps.length<=900/\Q (gh (tN ps))
def Np:∀ds Q,VQ ds Q->ds.length=1:=by rintro ds Q ⟨_,rfl,_⟩;rfl
def Lj {α:Type} (xs:List α) (x:α):h9 (xs++[x]) (-1)=some x:=by
 unfold h9 lr;rw[if_neg (by decide),if_pos (by simp;lia)];have:((-1:Int)+((xs++[x]).length:Nat)).toNat=xs.length:=by simp;lia
 simp only[this,KC];simp
def Lk {α:Type} (xs:List α) (x y:α):h9 (xs++[x,y]) (-2)=some x:=by
 unfold h9 lr;rw[if_neg (by decide),if_pos (by simp;lia)];have:((-2:Int)+((xs++[x,y]).length:Nat)).toNat=xs.length:=by simp;lia
 simp only[this,KC];simp
theorem PR (E:jz) (u:Option S) (p:Pt) (hp:BP p):∀s:List Pt,(∀z∈s,BP z)->E.nx [u,some (.own ((kC p s).reverse.map pt)),aa (pt p)] ->
  CK (NG (eG (r2 (oT λi j=>decide (j<i)) (r1 vC (aM 1)) (am 1))) (eG (r2 (oT λi j=>decide (i<=j)) (cU wM (aC (r2 ca (aM 1) (r1 wR (am 2))) (aC (r2 ca (aM 1) (r1 wR (am 1))) (aC (cI 2) aX)))) (am 0)))) pK E [u,some (.own (s.reverse.map pt)),aa (pt p)]
 | [],_,h=>by
  refine⟨1,?_⟩;unfold oZ;walk_at "rd";simp;exact h
 | [x],_,h=>by
  refine⟨1,?_⟩;unfold oZ;walk_at "rd";simp;exact h
 | b::a::r,hs,h=>by
  have ea:((b::a::r).reverse.map pt)=(r.reverse.map pt)++[pt a,pt b]:=by simp
  have eb:((b::a::r).reverse.map pt)=((a::r).reverse.map pt)++[pt b]:=by simp
  have i2:=Lk (r.reverse.map pt) (pt a) (pt b);have i1:=Lj ((a::r).reverse.map pt) (pt b);rw[<-ea] at i2;rw[<-eb] at i1;by_cases ht:bT a b p<=0
  ·have e:kC p (b::a::r)=kC p (a::r):=(by rw[kC,if_pos ht]);rw[e] at h;obtain⟨n,hn⟩:=PR E u p hp (a::r) (λz hz=>hs z (bQ _ hz)) h;refine⟨n+1,?_⟩;unfold oZ;generalize hW:oZ (NG (eG (r2 (oT λi j=>decide (j<i)) (r1 vC (aM 1)) (am 1))) (eG (r2 (oT λi j=>decide (i<=j)) (cU wM (aC (r2 ca (aM 1) (r1 wR (am 2))) (aC (r2 ca (aM 1) (r1 wR (am 1))) (aC (cI 2) aX)))) (am 0)))) pK n E=W at hn;walk_at "rd";rw[if_pos (by simp;lia)];refine yU i2 (yU i1 ⟨a,b,p,rfl,⟨hs a (by simp),hs b (by simp),hp⟩,?_⟩);show if bT a b p<=0 then _ else _;rw[if_pos ht];unfold pK;walk_at "rd";refine⟨by simp,?_⟩;rw[eb,jX];exact hn
  ·have e:kC p (b::a::r)=b::a::r:=(by rw[kC,if_neg ht]);rw[e] at h;refine⟨1,?_⟩;unfold oZ;walk_at "rd";rw[if_pos (by simp;lia)];refine yU i2 (yU i1 ⟨a,b,p,rfl,⟨hs a (by simp),hs b (by simp),hp⟩,?_⟩);show if bT a b p<=0 then _ else _;rw[if_neg ht];exact h
def Aj (p:Pt) (s:List Pt):(kC p s).length<=s.length:=(xR p s).length_le
def ND:∀ds Q,VQ ds Q->FF wM { nx:=λ_=>Q .non,rt:=Q } (dR ["points","chain","point"] ds):=by
 rintro ds Q ⟨ps,rfl,hb,hl,q⟩;rw[cL 2 rfl];unfold FF;simp only[iP,Pn,aV,cD,aY,bV];refine cM (λρ=>ρ=[aa (gh ps),some (.own []),none]) (λK hK=>?_) ?_
 ·walk_at "rd";exact hK _ rfl
 rintro ρ rfl;refine cM (λρ=>∃x:Option S,ρ=[aa (gh ps),some (.own ((kU ps).reverse.map pt)),x]) (λK hK=>?_) ?_
 ·walk_at "rd";refine kG (λxs ρ=>∃(done rest:List Pt) (x:Option S),ps=done++rest/\xs=rest.map pt/\ρ=[aa (gh ps),some (.own ((kU done).reverse.map pt)),x]) ?_ ?_ _ _ ⟨[],ps,none,rfl,rfl,rfl⟩
  ·rintro x xs ρ ⟨done,rest,u,e,ex,rfl⟩ F _ _ hn _;cases rest with
   | nil=>cases ex
   | cons z rest =>
    cases ex;have bd:∀w∈done,BP w:=λw hw=>hb w (by rw[e];simp[hw]);have bz:BP z:=hb z (by rw[e];simp);have ld:done.length<ps.length:=(by rw[e];simp);have sub:∀(L s:List Pt),(∀q∈L.foldl (λs p=>p::kC p s) s,q∈L\/q∈s)/\(L.foldl (λs p=>p::kC p s) s).length<=L.length+s.length:=by
     intro L
     induction L with
     | nil=>intro s;exact⟨λq h=>cV h,by simp⟩
     | cons y L ih =>
      intro s;obtain⟨i1,i2⟩:=ih (y::kC y s);refine⟨λq h=>?_,?_⟩
      ·rcases i1 q h with h | h
       ·exact cW (by simp[h])
       ·rcases aO.mp h with h | h
        ·exact cW (by simp[h])
        ·exact cV ((xR y s).subset h)
      ·have:=Aj y s;simp only[pZ,cG] at i2 ⊢;lia
    obtain⟨s1,s2⟩:=sub done [];unfold yA;simp only[eU,bD,bC];refine PR _ _ z bz (kU done) (λw hw=>?_) ?_
    ·rcases s1 w hw with h | h
     ·exact bd w h
     ·cases h
    ·walk_at "rd";have l1:=Aj z (kU done);have l2:(kU done).length<=done.length:=(by simpa [kU] using s2);refine⟨⟨Gk (by simp;lia)⟩,hn _ ⟨done++[z],rest,aa (pt z),by simpa using e,rfl,?_⟩⟩;unfold kU;simp
  ·rintro ρ ⟨done,rest,u,e,ex,rfl⟩;have:rest=[]:=(by simpa using ex.symm);subst this;rw[fC] at e;subst e;exact hK _ ⟨u,rfl⟩
 rintro ρ ⟨x,rfl⟩;walk_at "rd";have e:cutD ((kU ps).reverse.map pt) none (some (-1))=(tN ps).map pt:=by
  unfold cutD tN;rw[List.map_dropLast];generalize (kU ps).reverse.map pt=xs;have h1:HT.sIx xs.length 0 none=0:=rfl;have h2:HT.sIx xs.length xs.length (some (-1))=xs.length-1:=by
   unfold HT.sIx;simp;lia
  rw[h1,h2,OL,yM,List.dropLast_eq_take]
 rw[e];exact q
def Sk (z w:Pt):oV [z.1,z.2] [w.1,w.2]=decide (bj z w):=by
 unfold bj;simp only[oV];by_cases h:z.1=w.1
 ·rw[if_pos h];by_cases h2:z.2=w.2
  ·rw[if_pos h2];simp[h,h2]
  ·rw[if_neg h2];simp[h]
 ·rw[if_neg h];simp[h]
def uH:FD:=λds Q=>∃ps:List Pt,ds=[gh ps]/\(∀z∈ps,BP z)/\ps.length<64/\∀D r:List Pt,gw D->(∀z,z∈D↔z∈ps)->(2<=D.length->r=EZ D)->(D.length<=1->r.length<3)->r.length<=200->Q (gh r)
def ZP:∀ds Q,uH ds Q->ds.length=1:=by rintro ds Q ⟨_,rfl,_⟩;rfl
def XJ:∀ds Q,uH ds Q->RH VQ { nx:=λ_=>Q .non,rt:=Q } (dR ["points","rising"] ds):=by
 rintro ds Q ⟨ps,rfl,hb,hl,q⟩;rw[cL 1 rfl];unfold RH;walk_at "rd";unfold RC RB;walk_at "rd";refine⟨ps.map λz=>[z.1,z.2],by rw[dN];rfl,by simpa using hl,λns h=>?_,λmss hs hm hlen=>?_⟩
 ·obtain⟨z,_,rfl⟩:=bJ.mp h;simp
 obtain⟨L,hL⟩:∃L:List Pt,mss=L.map λz=>[z.1,z.2]:=by
  have:∀ms∈mss,∃z:Pt,ms=[z.1,z.2]:=λms h=>by
   obtain⟨z,_,e⟩:=bJ.mp ((hm ms).mp h);exact⟨z,e.symm⟩
  clear hs hm hlen
  induction mss with
  | nil=>exact⟨[],rfl⟩
  | cons m mss ih =>
   obtain⟨L,e⟩:=ih λms h=>this ms (bQ _ h);obtain⟨z,e2⟩:=this m (by simp);exact⟨z::L,by rw[e,e2];rfl⟩
 subst hL;have inj:∀z w:Pt,[z.1,z.2]=[w.1,w.2]->z=w:=λz w h=>by simp at h;exact lD h.1 h.2
 have yz:∀z,z∈L↔z∈ps:=λz=>by
  have:=hm [z.1,z.2];constructor
  ·intro h;obtain⟨w,hw,e⟩:=bJ.mp (this.mp (bJ.mpr ⟨z,h,rfl⟩));rw[<-inj _ _ e];exact hw
  ·intro h;obtain⟨w,hw,e⟩:=bJ.mp (this.mpr (bJ.mpr ⟨z,h,rfl⟩));rw[<-inj _ _ e];exact hw
 have wL:Bz L:=by
  unfold Bz;refine (oG.mp hs).imp λ{a b} h=>?_;rw[Sk] at h;simpa using h
 have eL:D.lst (uT oC (uT (λz:Pt=>[z.1,z.2]) L))=gh L:=by rw[dN];rfl
 have lL:L.length<=63:=by simp at hlen;lia
 have bL:∀z∈L,BP z:=λz hz=>hb z ((yz z).mp hz);obtain⟨D,HD⟩:=Ms L wL;obtain⟨o1,o2⟩:=YZ wL HD.inc HD.mem;have h1:∀M:List Pt,(tN M).length<=M.length:=λM=>by
  unfold tN;have:=Nc M;simp;lia
 rw[eL];refine⟨L,rfl,bL,by lia,L.map pt,rfl,L.reverse,by rw[<-JX],λz hz=>bL z (pG.mp hz),by simp;lia,?_⟩;have a1:=h1 L;have a2:=h1 L.reverse;rw[tL] at a2;show Sz (((tN L).map pt).length+((tN L.reverse).map pt).length)/\Q (.lst ((tN L).map pt++(tN L.reverse).map pt));refine⟨⟨Gk (by simp;lia)⟩,?_⟩;rw[<-dM];exact q D (EZ L) HD.inc (λz=>(HD.mem z).trans (yz z)) o1 o2 (by unfold EZ;simp;lia)
structure gf (share:Int) (cs:List Pt) (m sh:Int) (zs:List Pt):Prop where
 mpos:0<m
 sh_eq:share=m*sh
 cs_eq:cs=zs.map λz=>(m*z.1,m*z.2)
 cop:∀d:Nat,(d:Int)∣sh->(∀z∈zs,(d:Int)∣z.1/\(d:Int)∣z.2)->d=1
def wU (ha:0<a) (hb:0<b) (e:a*x=b*y):a / (cJ a b:Nat)∣y:=by
 have hg:(0:Int)<(cJ a b:Nat):=by
  have:=kX (a:=a) b (by lia);lia
 obtain⟨a',ea⟩:((cJ a b:Nat):Int)∣a:=mO ..;obtain⟨b',eb⟩:((cJ a b:Nat):Int)∣b:=lU ..;have e1:a / (cJ a b:Nat)=a':=by
  have:a / ((cJ a b:Nat):Int)=(((cJ a b:Nat):Int)*a') / ((cJ a b:Nat):Int):=congrArg (· / ((cJ a b:Nat):Int)) ea;rw[this,gH _ (by lia)]
 have e2:b / (cJ a b:Nat)=b':=by
  have:b / ((cJ a b:Nat):Int)=(((cJ a b:Nat):Int)*b') / ((cJ a b:Nat):Int):=congrArg (· / ((cJ a b:Nat):Int)) eb;rw[this,gH _ (by lia)]
 have cop:cJ a' b'=1:=by
  have:=vM (i:=a) (j:=b) (by have:=hg;lia);rw[e1,e2] at this;exact this
 rw[e1];have h:a'*x=b'*y:=by
  have:((cJ a b:Nat):Int)*(a'*x)=((cJ a b:Nat):Int)*(b'*y):=by
   rw[<-nV,<-nV,<-ea,<-eb];exact e
  exact dG (by lia) this
 have d:a'∣b'*y:=⟨x,h.symm⟩;have d2:a'.natAbs∣b'.natAbs*y.natAbs:=by rw[<-lC];exact AH.mpr d
 exact AH.mp (Nat.Coprime.dvd_of_dvd_mul_left (show Nat.Coprime a'.natAbs b'.natAbs from cop) d2)
def UT {a b sh br:Int} {zs oi:List Pt} (ha:0<a) (hb:0<b) (e1:a*sh=b*br) (e2:zs.map (λz=>(a*z.1,a*z.2))=oi.map λz=>(b*z.1,b*z.2))
  (cop:∀d:Nat,(d:Int)∣br->(∀z∈oi,(d:Int)∣z.1/\(d:Int)∣z.2)->d=1):a∣b:=by
 have len:zs.length=oi.length:=by have:=congrArg fI e2;simpa using this
 have hg:(0:Int)<(cJ a b:Nat):=by
  have:=kX (a:=a) b (by lia);lia
 obtain⟨a',ea⟩:((cJ a b:Nat):Int)∣a:=mO ..;have e0:a / (cJ a b:Nat)=a':=by
  have:a / ((cJ a b:Nat):Int)=(((cJ a b:Nat):Int)*a') / ((cJ a b:Nat):Int):=congrArg (· / ((cJ a b:Nat):Int)) ea;rw[this,gH _ (by lia)]
 have pa:0<a':=by
  apply eV.mp;intro hn;have:((cJ a b:Nat):Int)*a'<=0:=eM (by lia) hn;lia
 have one:=cop a'.toNat (by
  rw[EB (by lia),<-e0];exact wU ha hb e1) λz hz=>by
  rw[EB (by lia),<-e0];obtain⟨i,hi,rfl⟩:=dS hz;have jf:i<zs.length:=by lia
  have ei:(zs.map λz=>(a*z.1,a*z.2))[i]? = (oi.map λz=>(b*z.1,b*z.2))[i]?:=by rw[e2]
  rw[bZ,bZ,aE hi,aE jf] at ei;simp only[qA,rD,eQ] at ei;exact⟨wU ha hb ei.1,wU ha hb ei.2⟩
 have:a'=1:=by lia
 rw[this,vS] at ea;rw[ea];exact lU ..
def MC {a b sh br:Int} {zs oi:List Pt} (ha:0<a) (hb:0<b) (e1:a*sh=b*br) (e2:zs.map (λz=>(a*z.1,a*z.2))=oi.map λz=>(b*z.1,b*z.2))
  (c1:∀d:Nat,(d:Int)∣sh->(∀z∈zs,(d:Int)∣z.1/\(d:Int)∣z.2)->d=1) (c2:∀d:Nat,(d:Int)∣br->(∀z∈oi,(d:Int)∣z.1/\(d:Int)∣z.2)->d=1):sh=br/\zs=oi:=by
 have h1:=UT ha hb e1 e2 c2;have h2:=UT hb ha e1.symm e2.symm c1;have c8:a=b:=Int.le_antisymm (EK hb h1) (EK ha h2);subst c8;refine⟨dG (by lia) e1,?_⟩;have len:zs.length=oi.length:=by have:=congrArg fI e2;simpa using this
 apply JW len;intro i hi jf;have ei:(zs.map λz=>(a*z.1,a*z.2))[i]? = (oi.map λz=>(a*z.1,a*z.2))[i]?:=by rw[e2]
 rw[bZ,bZ,aE hi,aE jf] at ei;simp only[qA,rD,eQ] at ei;exact lD (dG (by lia) ei.1) (dG (by lia) ei.2)
def gf.same (h:gf share cs m sh zs) (h':gf v5 cs' m' br oi) (hk:0<k) (r8:0<k') (e1:k*share=k'*v5) (e2:cs.map (λz=>(k*z.1,k*z.2))=cs'.map λz=>(k'*z.1,k'*z.2)):sh=br/\zs=oi:=by
 refine MC (a:=k*m) (b:=k'*m') (aL hk h.mpos) (aL r8 h'.mpos) ?_ ?_ h.cop h'.cop
 ·rw[nV,nV,<-h.sh_eq,<-h'.sh_eq];exact e1
 ·rw[h.cs_eq,h'.cs_eq,dN,dN] at e2;simp only[HG,<-nV] at e2;exact e2
structure ur (ps:List Pt) (z:Pt) (T:List Pt):Prop where
 cvx:a_ (z::T)
 least:∀q∈T,¬bj q z
 mem:∀q∈z::T,q∈ps
 left:∀a b,av (z::T) a b->∀q∈ps,0<=bT a b q
def G8 (ps:List Pt):Prop:=∀D,gw D->(∀z,z∈D↔z∈ps)->2<=D.length->(EZ D).length<3
def pB:FD:=λds Q=>∃(share:Int) (ps:List Pt),ds=[.int share,gh ps]/\(0<share/\BL 9000 share)/\(∀z∈ps,BP z)/\ps.length<64 /\
 ((∃z T,ur ps z T/\∀m sh zs,gf share (z::T) m sh zs->Q (.tup [.int sh,.tup (zs.map pt)]))\/(G8 ps/\Q .non))
def ZQ:∀ds Q,pB ds Q->ds.length=2:=by rintro ds Q ⟨_,_,rfl,_⟩;rfl
def XL:∀ds Q,pB ds Q->RI uH zN { nx:=λ_=>Q .non,rt:=Q } (dR ["share","points","corners","divisor","x","y"] ds):=by
 rintro ds Q ⟨share,ps,rfl,⟨hs,bs⟩,hb,hl,hq⟩;rw[cL 4 rfl];unfold RI;simp only[iP,Bb,aV,cD,aY,bV];refine cM (λρ=>∃r:List Pt,r.length<=200/\((r.length<3/\Q .non)\/(3<=r.length/\∀m sh zs,gf share r m sh zs->Q (.tup [.int sh,.tup (zs.map pt)])))/\ρ=[aa (.int share),aa (gh ps),aa (gh r),none,none,none]) (λK hK=>?_) ?_
 ·walk_at "rd";refine⟨ps,rfl,hb,hl,λD r iD hm h2 h1 hr=>hK _ ⟨r,hr,?_,rfl⟩⟩;rcases hq with ⟨z,T,R,q⟩ | ⟨fl,q⟩
  ·have sub:3<=D.length:=by
    have:=wX (z::T) D R.cvx.nodup λx hx=>(hm x).mpr (R.mem x hx);have:=R.cvx.len;lia
   have e:=zH (L:=ps) iD R.cvx R.least (λx hx=>(hm x).mpr (R.mem x hx)) λa b c8 x hx=>R.left a b c8 x ((hm x).mp hx);have er:=h2 (by lia);rw[e] at er;subst er;exact cV ⟨R.cvx.len,q⟩
  ·refine cW ⟨?_,q⟩;by_cases hd:2<=D.length
   ·rw[h2 hd];exact fl D iD hm hd
   ·exact h1 (by lia)
 rintro ρ ⟨r,hr,hq,rfl⟩;rcases hq with ⟨h3,q⟩ | ⟨h3,q⟩
 ·walk_at "rd";rw[if_pos (by simp;lia)];exact q
 refine cM (λρ=>ρ=[aa (.int share),aa (gh ps),aa (gh r),none,none,none]) (λK hK=>?_) ?_
 ·walk_at "rd";rw[if_neg (by simp;lia)];exact hK _ rfl
 rintro ρ rfl;refine cM (λρ=>ρ=[aa (.int share),aa (gh ps),aa (gh r),aa (.int share),none,none]) (λK hK=>?_) ?_
 ·walk_at "rd";exact hK _ rfl
 rintro ρ rfl;refine cM (λρ=>∃(g:Nat) (x y:Option S),f8 share r g/\ρ=[aa (.int share),aa (gh ps),aa (gh r),aa (.int g),x,y]) (λK hK=>?_) ?_
 ·walk_at "rd";refine kG (λxs ρ=>∃(done rest:List Pt) (g:Nat) (x y:Option S),r=done++rest/\xs=rest.map pt/\f8 share done g/\ρ=[aa (.int share),aa (gh ps),aa (gh r),aa (.int g),x,y]) ?_ ?_ _ _ ⟨[],r,share.toNat,none,none,rfl,rfl,⟨by lia,?_,by simp,λd e1 _=>?_⟩,?_⟩
  ·rintro x xs ρ ⟨done,rest,g,u,v,e,ex,hg,rfl⟩ F _ _ hn _;cases rest with
   | nil=>cases ex
   | cons z rest =>
    cases ex;unfold FJ;walk_at "rd";refine⟨_,_,rfl,_,_,rfl,?_⟩;exact hn _ ⟨done++[z],rest,_,_,_,by simpa using e,rfl,hg.snoc z,rfl⟩
  ·rintro ρ ⟨done,rest,g,u,v,e,ex,hg,rfl⟩;have:rest=[]:=(by simpa using ex.symm);subst this;rw[fC] at e;subst e;exact hK _ ⟨g,u,v,hg,rfl⟩
  ·have:(share.toNat:Int)=share:=(by lia);rw[this];exact pC _
  ·have:(share.toNat:Int)=share:=by lia
   exact_mod_cast (by rw[this];exact e1:(d:Int)∣(share.toNat:Int))
  ·have:(share.toNat:Int)=share:=(by lia);rw[this]
 rintro ρ ⟨g,x,y,hg,rfl⟩;have gp:(0:Int)<g:=by have:=hg.pos;lia
 have gb:BL 9000 (g:Int):=hg.bl hs bs;obtain⟨zs,ez⟩:∃zs,zs=r.map λz=>(z.1 / (g:Int),z.2 / (g:Int)):=⟨_,rfl⟩;have ec:r=zs.map λz=>((g:Int)*z.1,(g:Int)*z.2):=by
  rw[ez,dN];symm
  conv=>rhs;rw[<-oO r]
  refine kQ λz hz=>?_;obtain⟨a,b⟩:=hg.all z hz;simp only[EJ,id,jD a,jD b]
 obtain⟨sh,es⟩:=hg.sh;have ediv:share.fdiv g=sh:=by
  rw[cK _ (by lia),es,gH _ (by lia)]
 walk_at "rd";refine⟨gb.divOk (by lia),?_⟩;refine⟨rS (by simp;lia),?_⟩;refine xL (λρ=>∃a b,ρ=[a,b,aa (.int g)]) pt (λz=>pt (z.1 / (g:Int),z.2 / (g:Int))) r ?_ ⟨_,_,rfl⟩ ?_
 ·rintro z hz ρ ⟨a,b,rfl⟩ K' kf;walk_at "rd";refine⟨gb.divOk (by lia),gb.divOk (by lia),?_⟩;rw[cK _ (by lia),cK _ (by lia)];exact kf _ ⟨_,_,rfl⟩
 ·have e:uT (λz:Pt=>pt (z.1 / (g:Int),z.2 / (g:Int))) r=zs.map pt:=by rw[ez,dN];rfl
  rw[ediv,e];refine q g sh zs ⟨gp,es,ec,λd h1 h2=>?_⟩;have:=hg.most (d*g) (by
   rw[es];push_cast;obtain⟨c,ec⟩:=h1;exact⟨c,by rw[ec];grind⟩) λz hz=>by
   rw[ec] at hz;obtain⟨w,hw,rfl⟩:=bJ.mp hz;obtain⟨⟨c1,e1⟩,c2,e2⟩:=h2 w hw
   push_cast
   exact⟨⟨c1,by rw[e1];grind⟩,c2,by rw[e2];grind⟩
  have le:=wO hg.pos this;have d0:d≠0:=by
   rintro rfl;rw[Nat.zero_mul] at this;have:=xJ this;have:=hg.pos;lia
  apply Nat.le_antisymm ?_ (by lia);apply Nat.not_lt.mp;intro h;have:2*g<=d*g:=BG _ h;have:=hg.pos;lia
def f9 {α:Type} (A B:List α):Prop:=∃X Y,A=X++Y/\B=Y++X
def f9.refl {α:Type} (A:List α):f9 A A:=⟨A,[],by simp,by simp⟩
def f9.symm {α:Type} {A B:List α} (h:f9 A B):f9 B A:=by obtain⟨X,Y,a,b⟩:=h;exact⟨Y,X,b,a⟩
def f9.trans {α:Type} {A B C:List α} (h:f9 A B) (k:f9 B C):f9 A C:=by
 obtain⟨X,Y,rfl,rfl⟩:=h;obtain⟨X',Y',e,rfl⟩:=k;rcases List.append_eq_append_iff.mp e with ⟨W,e1,e2⟩ | ⟨W,e1,e2⟩
 ·-- X'=Y++W
  exact⟨W,Y'++Y,by rw[e2];simp,by rw[e1];simp⟩
 ·exact⟨X++X',W,by rw[e1];simp,by rw[e2];simp⟩
def f9.map {α β:Type} {A B:List α} (f:α->β) (h:f9 A B):f9 (A.map f) (B.map f):=by
 obtain⟨X,Y,rfl,rfl⟩:=h;exact⟨X.map f,Y.map f,by simp,by simp⟩
def f9.mem {α:Type} {A B:List α} (h:f9 A B) (x:α):x∈A↔x∈B:=by
 obtain⟨X,Y,rfl,rfl⟩:=h;simp[or_comm]
def f9.nodup {α:Type} {A B:List α} (h:f9 A B) (n:A.Nodup):B.Nodup:=by
 obtain⟨X,Y,rfl,rfl⟩:=h;rw[vW] at n ⊢;exact⟨n.2.1,n.1,λa ha b hb e=>n.2.2 b hb a ha e.symm⟩
theorem f9.head {α:Type} {z:α} {S T:List α} (h:f9 (z::S) (z::T)) (n:(z::S).Nodup):S=T:=by
 obtain⟨X,Y,e1,e2⟩:=h;cases X with
 | nil=>simp at e1 e2;rw[<-e1] at e2;exact (List.cons.inj e2).2.symm
 | cons x X =>
  cases Y with
  | nil=>simp at e1 e2;rw[e1.2,e2.2]
  | cons y Y =>
   simp at e1 e2;have h1:=(fN.mp n).1;rw[e1.2] at h1;exact absurd (by rw[<-e2.1];simp) h1
def f9.least {S T:List Pt} (h:f9 (z::S) (w::T)) (n:(z::S).Nodup) (l1:∀q∈S,¬bj q z) (l2:∀q∈T,¬bj q w):z::S=w::T:=by
 have hz:z∈w::T:=(h.mem z).mp (by simp);have hw:w∈z::S:=(h.mem w).mpr (by simp);have e:z=w:=by
  rcases aO.mp hz with e | hz
  ·exact e
  ·rcases aO.mp hw with e | hw
   ·exact e.symm
   ·rcases qB z w with h | h | h
    ·exact absurd h (l2 z hz)
    ·exact h
    ·exact absurd h (l1 w hw)
 subst e;rw[h.head n]
def a_.rot (h:f9 A B) (c:a_ A):a_ B:=by obtain⟨X,Y,rfl,rfl⟩:=h;exact c.swap
def wC (cs:List Pt) (gm:cs≠[]):∃z T,f9 cs (z::T)/\∀q∈T,¬bj q z:=by
 have:∃z∈cs,∀q∈cs,¬bj q z:=by
  induction cs with
  | nil=>exact absurd rfl gm
  | cons c cs ih =>
   by_cases hc:cs=[]
   ·subst hc;exact⟨c,by simp,λq hq=>by simp at hq;subst hq;exact uE⟩
   ·obtain⟨z,hz,hl⟩:=ih hc;rcases qB c z with h | h | h
    ·refine⟨c,by simp,λq hq=>?_⟩;rcases aO.mp hq with rfl | hq
     ·exact uE
     ·exact λk=>hl q hq (qQ k h)
    ·subst h;refine⟨c,by simp,λq hq=>?_⟩;rcases aO.mp hq with rfl | hq
     ·exact uE
     ·exact hl q hq
    ·refine⟨z,by simp[hz],λq hq=>?_⟩;rcases aO.mp hq with rfl | hq
     ·exact uK h
     ·exact hl q hq
 obtain⟨z,hz,hl⟩:=this;obtain⟨X,Y,rfl⟩:=nD hz;exact⟨z,Y++X,⟨X,z::Y,rfl,rfl⟩,λq hq=>hl q (by simp at hq ⊢;rcases hq with h | h <;> simp[h])⟩
abbrev scl (k:Int) (z:Pt):Pt:=(k*z.1,k*z.2)
def CU (hk:0<k):bj (scl k a) (scl k b)↔bj a b:=by
 unfold bj scl;dsimp only;rw[EA hk,EA hk];constructor
 ·rintro (h | ⟨h,h'⟩)
  ·exact cW h
  ·exact cV ⟨dG (by lia) h,h'⟩
 ·rintro (h | ⟨h,h'⟩)
  ·exact cW h
  ·exact cV ⟨by rw[h],h'⟩
def JL (hk:0<k) (h:scl k a=scl k b):a=b:=by
 simp only[scl,eQ] at h;exact lD (dG (by lia) h.1) (dG (by lia) h.2)
def Bf (k:Int) (a b c:Pt):bT (scl k a) (scl k b) (scl k c)=k*k*bT a b c:=by unfold bT scl;dsimp only;grind
def a_.unscl (hk:0<k) (h:a_ (cs.map (scl k))):a_ cs:=by
 refine⟨by simpa using h.len,?_,λa b c8 q hq n1 n2=>?_⟩
 ·exact AZ (scl k) (λa b hn e=>hn (by rw[e])) h.nodup
 ·have c:av (cs.map (scl k)) (scl k a) (scl k b):=by
   obtain⟨l,r,e⟩:=c8;refine⟨l.map (scl k),r.map (scl k),?_⟩;rw[<-jV,<-dM,e];simp
  have:=h.strict _ _ c (scl k q) (dP hq) (λe=>n1 (JL hk e)) λe=>n2 (JL hk e);rw[Bf] at this;exact iJ (by rw[gM];exact this) (aL hk hk)
def Fe:FD:=λds Q=>∃a b:Int,ds=[.int a,.int b]/\(0<a/\0<b)/\(BL 8000 a/\BL 8000 b)/\∀l,0<l->a∣l->b∣l->l<=a*b->Q (.int l)
def Sf:∀ds Q,Fe ds Q->ds.length=2:=by rintro ds Q ⟨_,_,rfl,_⟩;rfl
def CI:∀ds Q,Fe ds Q->vK zN { nx:=λ_=>Q .non,rt:=Q } (dR ["one","other"] ds):=by
 rintro ds Q ⟨a,b,rfl,⟨ha,hb⟩,⟨ba,bb⟩,q⟩;rw[cL 0 rfl];unfold vK;walk_at "rd";refine⟨a,b,rfl,?_⟩;have hg:=NX (a:=a) (b:=b) (by lia);have bg:=BL.gcd (a:=a) (b:=b) (by lia) bb;walk_at "rd";have b2:BL 8000 (b.fdiv (cJ a b:Nat)):=bb.fdiv;refine⟨(bg.mono).divOk (by lia),ba.mulOk b2,?_⟩;obtain⟨c,ec⟩:((cJ a b:Nat):Int)∣b:=lU ..;obtain⟨d,ed⟩:((cJ a b:Nat):Int)∣a:=mO ..;have e1:b.fdiv (cJ a b:Nat)=c:=by
  rw[cK _ (by lia)];have:b / ((cJ a b:Nat):Int)=(((cJ a b:Nat):Int)*c) / ((cJ a b:Nat):Int):=congrArg (· / ((cJ a b:Nat):Int)) ec;rw[this,gH _ (by lia)]
 rw[e1];generalize hG:((cJ a b:Nat):Int)=g at *;have pc:0<c:=by
  apply eV.mp;intro hn;have:g*c<=0:=eM (by lia) hn;lia
 refine q _ (aL ha pc) (vR ..) ⟨d,by rw[ed,ec];grind⟩ ?_;rw[ec];have:0<=a*((g-1)*c):=cY (by lia) (cY (by lia) (by lia));have e:a*(g*c)=a*c+a*((g-1)*c):=by grind
 lia
abbrev mv (k r w:Int) (z:Pt):Pt:=(k*z.1+r,k*z.2+w)
structure pi (ao:Int) (cs:List Pt) (sign p q u v:Int) (sh:Int) (zs:List Pt):Prop where
 ex:∃(κ s r w m:Int) (z:Pt) (T:List Pt),(0<κ/\s=κ*ao/\s<=ao*q*v)/\(r*q=p*s/\w*v=u*s)/\f9 (cs.map (mv (sign*κ) r w)) (z::T)/\(∀q∈T,¬bj q z)/\a_ (z::T)/\gf s (z::T) m sh zs
def xG:FD:=λds Q=>∃(ao sign p q u v:Int) (cs:List Pt),ds=[.tup [.int ao,.tup (cs.map pt)],.tup [.int sign,.tup [.int p,.int q],.tup [.int u,.int v]]]/\(0<ao/\0<q/\0<v/\(sign=1\/sign = -1)) /\
 (BL 2000 ao/\BL 2000 q/\BL 2000 v/\BL 7000 p/\BL 7000 u)/\(∀z∈cs,BL 7000 z.1/\BL 7000 z.2)/\a_ cs/\cs.length<64/\∀sh zs,pi ao cs sign p q u v sh zs->Q (.tup [.int sh,.tup (zs.map pt)])
def Dj:∀ds Q,xG ds Q->ds.length=2:=by rintro ds Q ⟨_,_,_,_,_,_,_,rfl,_⟩;rfl
def Gq (k r w:Int) (a b c:Pt):bT (mv k r w a) (mv k r w b) (mv k r w c)=k*k*bT a b c:=by unfold bT mv;dsimp only;grind
def Xj (hk:k≠0) (h:mv k r w a=mv k r w b):a=b:=by
 simp only[mv,eQ] at h;have h1:k*a.1=k*b.1:=by lia
 have h2:k*a.2=k*b.2:=by lia
 exact lD (dG hk h1) (dG hk h2)
def Zc {k:Int} (h:k≠0):0<k*k:=by
 rcases FQ h with h | h
 ·have:=aL (a:=-k) (b:=-k) (by lia) (by lia)
  rwa [Int.neg_mul_neg] at this
 ·exact aL h h
def YD (h0:0<a) (h:a<=b) (hb:BL n b):BL n a:=hb.le (by lia)
def Av:∀ds Q,xG ds Q->VF pB Fe { nx:=λ_=>Q .non,rt:=Q } (dR ["piece","move","dx","dy","share","scale","right","up"] ds):=by
 rintro ds Q ⟨ao,sign,p,q,u,v,cs,rfl,⟨h0,hq,hv,hs⟩,⟨b0,bq,bv,bp,bu⟩,bc,cv,hl,hQ⟩;rw[cL 6 rfl];unfold VF;simp only[iP,Yt,aV,cD,aY,bV];generalize hP:D.tup [.int ao,.tup (cs.map pt)]=PD;generalize hM:D.tup [.int sign,.tup [.int p,.int q],.tup [.int u,.int v]]=MD;refine cM (λρ=>ρ=[aa PD,aa MD,aa (.tup [.int p,.int q]),none,none,none,none,none]) (λK hK=>?_) ?_
 ·rw[<-hP,<-hM] at hK ⊢;walk_at "rd";exact hK _ rfl
 rintro ρ rfl;refine cM (λρ=>ρ=[aa PD,aa MD,aa (.tup [.int p,.int q]),aa (.tup [.int u,.int v]),none,none,none,none]) (λK hK=>?_) ?_
 ·rw[<-hP,<-hM] at hK ⊢;walk_at "rd";exact hK _ rfl
 rintro ρ rfl;refine cM (λρ=>∃s:Int,(0<s/\ao∣s/\q∣s/\v∣s/\s<=ao*q*v)/\ρ=[aa PD,aa MD,aa (.tup [.int p,.int q]),aa (.tup [.int u,.int v]),aa (.int s),none,none,none]) (λK hK=>?_) ?_
 ·rw[<-hP,<-hM] at hK ⊢;walk_at "rd";refine⟨ao,q,rfl,⟨h0,hq⟩,⟨b0.mono,bq.mono⟩,λl l0 l1 l2 l3=>?_⟩;refine⟨l,v,rfl,⟨l0,hv⟩,⟨(YD l0 l3 (b0.mul bq)).mono,bv.mono⟩,λs s0 s1 s2 s3=>?_⟩;refine hK _ ⟨s,⟨s0,kZ l1 s1,kZ l2 s1,s2,?_⟩,rfl⟩;exact yG s3 (bO l3 (by lia))
 rintro ρ ⟨s,⟨s0,⟨κ,e1⟩,⟨cq,e2⟩,⟨qu,e3⟩,s4⟩,rfl⟩;have bs:BL 6000 s:=YD s0 s4 ((b0.mul bq).mul bv);have pk:0<κ:=by
  apply eV.mp;intro hn;have:ao*κ<=0:=eM (by lia) hn;lia
 have d1:s.fdiv ao=κ:=by rw[cK _ (by lia),e1,gH _ (by lia)]
 have d2:s.fdiv q=cq:=by rw[cK _ (by lia),e2,gH _ (by lia)]
 have d3:s.fdiv v=qu:=by rw[cK _ (by lia),e3,gH _ (by lia)]
 have bk:BL 6000 κ:=by rw[<-d1];exact bs.fdiv
 have bcq:BL 6000 cq:=by rw[<-d2];exact bs.fdiv
 have bcv:BL 6000 qu:=by rw[<-d3];exact bs.fdiv
 have B2:BL 1 sign:=by rcases hs with rfl | rfl <;> exact BL.const (by decide)
 refine cM (λρ=>ρ=[aa PD,aa MD,aa (.tup [.int p,.int q]),aa (.tup [.int u,.int v]),aa (.int s),aa (.int (sign*κ)),none,none]) (λK hK=>?_) ?_
 ·rw[<-hP,<-hM] at hK ⊢;walk_at "rd";rw[d1];exact⟨(b0.mono).divOk (by lia),B2.mulOk bk,hK _ rfl⟩
 rintro ρ rfl;refine cM (λρ=>ρ=[aa PD,aa MD,aa (.tup [.int p,.int q]),aa (.tup [.int u,.int v]),aa (.int s),aa (.int (sign*κ)),aa (.int (p*cq)),none]) (λK hK=>?_) ?_
 ·rw[<-hP,<-hM] at hK ⊢;walk_at "rd";rw[d2];exact⟨(bq.mono).divOk (by lia),bp.mulOk bcq,hK _ rfl⟩
 rintro ρ rfl;refine cM (λρ=>ρ=[aa PD,aa MD,aa (.tup [.int p,.int q]),aa (.tup [.int u,.int v]),aa (.int s),aa (.int (sign*κ)),aa (.int (p*cq)),aa (.int (u*qu))]) (λK hK=>?_) ?_
 ·rw[<-hP,<-hM] at hK ⊢;walk_at "rd";rw[d3];exact⟨(bv.mono).divOk (by lia),bu.mulOk bcv,hK _ rfl⟩
 rintro ρ rfl;rw[<-hP];have A_:=B2.mul bk;walk_at "rd";refine⟨rS (by simp;lia),?_⟩;refine xL (λρ=>∃a b,ρ=[a,b,aa (.int (sign*κ)),aa (.int (p*cq)),aa (.int (u*qu))]) pt (λz=>pt (mv (sign*κ) (p*cq) (u*qu) z)) cs ?_ ⟨_,_,rfl⟩ ?_
 ·rintro z hz ρ ⟨a,b,rfl⟩ K' kf;walk_at "rd";obtain⟨z1,z2⟩:=bc z hz;exact⟨A_.mulOk z1,A_.mulOk z2,kf _ ⟨_,_,rfl⟩⟩
 have hk0:sign*κ≠0:=by rcases hs with rfl | rfl <;> lia
 have cv2:a_ (cs.map (mv (sign*κ) (p*cq) (u*qu))):=cv.map (Zc hk0) (Gq _ _ _) λa b h=>Xj hk0 h;obtain⟨z,T,rot,least⟩:=wC (cs.map (mv (sign*κ) (p*cq) (u*qu))) (by intro e;have:=cv2.len;rw[e] at this;simp at this);have cz:=a_.rot rot cv2;refine⟨s,cs.map (mv (sign*κ) (p*cq) (u*qu)),by show _=[D.int s,.lst (uT pt (uT (mv (sign*κ) (p*cq) (u*qu)) cs))];rw[dN];rfl,⟨s0,bs.mono⟩,λw hw=>?_,by simpa using hl,cW ⟨z,T,⟨cz,least,λa ha=>(rot.mem a).mpr ha,λa b c8 c hc=>cz.side c8 ((rot.mem c).mp hc)⟩,λm sh zs N=>hQ sh zs ⟨κ,s,p*cq,u*qu,m,z,T,⟨pk,by rw[e1];exact gM ..,s4⟩,⟨by rw[e2];grind,by rw[e3];grind⟩,rot,least,cz,N⟩⟩⟩;obtain⟨x,hx,rfl⟩:=bJ.mp hw;obtain⟨x1,x2⟩:=bc x hx;exact⟨((A_.mul x1).add (bp.mul bcq)).mono,((A_.mul x2).add (bu.mul bcv)).mono⟩
section
abbrev gF (F:Int) (t:H3):Pt:=(t.1*(F / t.2.2),t.2.1*(F / t.2.2))
structure cm (F:Int) (t:H3):Prop where
 w:0<t.2.2
 f:0<F / t.2.2
 e:F / t.2.2*t.2.2=F
def cm.of (hF:0<F) (hw:0<t.2.2) (hd:t.2.2∣F):cm F t:=by
 have e:=tJ hd;refine⟨hw,?_,e⟩;apply eV.mp;intro h;have:F / t.2.2*t.2.2<=0:=dU h (by lia);lia
def WO (hp:cm F p) (hq:cm F q) (hr:cm F r):F*bT (gF F p) (gF F q) (gF F r)=(F / p.2.2*(F / q.2.2)*(F / r.2.2))*gN p q r:=by
 have e1:=hp.e;have e2:=hq.e;have e3:=hr.e;unfold bT gF gN;dsimp only;generalize F / p.2.2=f1 at *;generalize F / q.2.2=f2 at *;generalize F / r.2.2=f3 at *;grind
def Cp (hp:cm F p) (hq:cm F q) (hr:cm F r):0<F / p.2.2*(F / q.2.2)*(F / r.2.2):=aL (aL hp.f hq.f) hr.f
def sI {a b:Int} (ha:0<a) (h:0<a*b):0<b:=by
 apply eV.mp;intro hb;have:a*b<=0:=eM (by lia) hb;lia
def EW {a b:Int} (ha:0<a) (h:0<=a*b):0<=b:=by
 apply gX.mp;intro hb;have:0<a*(-b):=aL ha (by lia);have:a*(-b) = -(a*b):=LS ..;lia
theorem Pm.w_pos (h:Pm L cs t):0<t.2.2:=by
 cases h with
 | corner hu h=>exact (by decide:(0:Int)<1)
 | cross hc h=>have:=GS h;lia
def Aa (h:gz (l.map f) a b):∃p q,FZ l p q/\a=f p/\b=f q:=by
 obtain⟨x,y,e⟩:=h;obtain⟨l1,l2,rfl,e1,e2⟩:=nE.mp e;obtain⟨p,l3,rfl,e3,e4⟩:=jY.mp e2;obtain⟨q,l4,rfl,e5,e6⟩:=jY.mp e4;exact⟨p,q,⟨l1,l4,rfl⟩,e3.symm,e5.symm⟩
theorem B9 (hp:p∈P):∃q∈P,FZ (P++P.take 1) p q:=by
 obtain⟨X,Y,rfl⟩:=nD hp;cases Y with
 | cons q Y=>exact⟨q,by simp,X,Y++(X++p::q::Y).take 1,by simp⟩
 | nil =>
  cases X with
  | nil=>exact⟨p,by simp,[],[],by simp⟩
  | cons x X=>exact⟨x,by simp,x::X,[],by simp⟩
def Ui (a b:Pt):bT a a b=0:=by unfold bT;grind
def Mx (c:a_ cs) (dz:∃w∈cs,0<af L w) (en:∃w∈cs,af L w<0) (h:ni L cs P) (hF:0<F) (jb:∀t∈P,cm F t):a_ (P.map (gF F)):=by
 have inj:∀p∈P,∀q∈P,gF F p=gF F q->p=q:=by
  intro p hp q hq e;apply cC;intro ne;obtain⟨q',vm,hn⟩:=B9 hp;have A:=h.adj p q' hn;by_cases e':q'=q
  ·subst e';have:∃r∈P,r≠p/\r≠q':=by
    apply cC;intro yk;have:=len_sub P [p,q'] h.nodup λx hx=>by
     apply cC;intro n_;simp at n_;exact yk ⟨x,hx,n_.1,n_.2⟩
    have:=h.len;simp at *;lia
   obtain⟨r,hr,r1,r2⟩:=this;have s:=GF c dz en A (h.pm r hr) r1 r2;have t:=WO (jb p hp) (jb q' vm) (jb r hr);rw[e,Ui] at t;have:=aL (Cp (jb p hp) (jb q' vm) (jb r hr)) s;lia
  ·have s:=GF c dz en A (h.pm q hq) (Ne.symm ne) (Ne.symm e');have t:=WO (jb p hp) (jb q' vm) (jb q hq);rw[<-e,Qc] at t;have:=aL (Cp (jb p hp) (jb q' vm) (jb q hq)) s;lia
 refine⟨by simpa using h.len,?_,λa b c8 q hq n1 n2=>?_⟩
 ·unfold rW;rw[oG];refine List.Pairwise.imp_of_mem ?_ h.nodup;intro a b ha hb hn e;exact hn (inj a ha b hb e)
 ·have V5:gz ((P++P.take 1).map (gF F)) a b:=by rw[dM,jV];exact c8
  obtain⟨p,p',hn,rfl,rfl⟩:=Aa V5;obtain⟨r,hr,rfl⟩:=bJ.mp hq;have mem:p∈P/\p'∈P:=by
   obtain⟨x,y,e⟩:=hn;have sub:∀t,t∈P++P.take 1->t∈P:=λt ht=>by
    rcases cS.mp ht with h | h
    ·exact h
    ·exact jZ h
   exact⟨sub p (by rw[e];simp),sub p' (by rw[e];simp)⟩
  have s:=GF c dz en (h.adj p p' hn) (h.pm r hr) (λe=>n1 (by rw[e])) λe=>n2 (by rw[e]);have t:=WO (jb p mem.1) (jb p' mem.2) (jb r hr);have u:=aL (Cp (jb p mem.1) (jb p' mem.2) (jb r hr)) s;rw[<-t] at u;exact sI hF u
def LO (c:a_ cs) (dz:∃w∈cs,0<af L w) (h:ni L cs P):(P.filter λt=>decide (t.2.2≠1)).length<=2:=by
 obtain⟨p,q,hp,hq,_⟩:=h.line;have:=len_sub (P.filter λt=>decide (t.2.2≠1)) [p,q] (h.nodup.filter _) λx hx=>by
  obtain⟨hx,hw⟩:=lR.mp hx;simp only[decide_eq_true_eq] at hw;have pm:=h.pm x hx;have z:fo L x=0:=by
   cases pm with
   | corner hu h=>exact absurd rfl hw
   | cross hc h=>exact AV h
  rcases VM c dz pm z with k | k
  ·rw[ZA c k hp];simp
  ·rw[UL c k hq];simp
 simpa using this
def iC:List H3->Int
 | []=>1
 | t::P=>t.2.2*iC P
theorem JC:∀(A B:List H3),iC (A++B)=iC A*iC B
 | [],B=>by simp[iC]
 | a::A,B=>by show a.2.2*iC (A++B)=a.2.2*iC A*iC B;rw[JC A B];grind
theorem uG:∀(P:List H3),iC P=iC (P.filter λt=>decide (t.2.2≠1))
 | []=>rfl
 | t::P=>by
  rw[rX];by_cases h:t.2.2=1
  ·rw[if_neg (by simp[h])];show t.2.2*iC P=_;rw[h,Int.one_mul];exact uG P
  ·rw[if_pos (by simp[h])];show t.2.2*iC P=t.2.2*_;rw[uG P]
theorem LH:∀(P:List H3),∀t∈P,t.2.2∣iC P
 | [],t,h=>by simp at h
 | a::P,t,h=>by
  rcases aO.mp h with rfl | h
  ·exact vR ..
  ·exact kZ (LH P t h) (Int.dvd_mul_left ..)
theorem LI:∀(P:List H3),(∀t∈P,0<t.2.2)->0<iC P
 | [],_=>by simp[iC]
 | a::P,h=>aL (h a (by simp)) (LI P λt ht=>h t (by simp[ht]))
end
def ci (x y:Pt):Int:=x.1*y.2-x.2*y.1
def Qd (o x y:Pt):bT o x y=ci x y+ci o x-ci o y:=by unfold bT ci;grind
theorem UZ (o:Pt):∀(a:Pt) (l:List Pt),dw (bT o) a l=dw ci a l+ci o a-ci o (kM a l)
 | a,[]=>by show (0:Int)=0+ci o a-ci o a;lia
 | a,b::l=>by
  show bT o a b+dw (bT o) b l=ci a b+dw ci b l+ci o a-ci o (kM b l);rw[UZ o b l,Qd];lia
theorem yT (o:Pt) (l:List Pt):iF (bT o) l=iF ci l:=by
 cases l with
 | nil=>rfl
 | cons z T =>
  show dw (bT o) z (T++[z])=dw ci z (T++[z]);rw[UZ,mB];lia
theorem Hd {α β:Type} (f:β->β->Int) (g:α->β):∀(a:α) (l:List α),dw f (g a) (l.map g)=dw (λx y=>f (g x) (g y)) a l
 | a,[]=>rfl
 | a,b::l=>by
  show f (g a) (g b)+dw f (g b) (l.map g)=f (g a) (g b)+_;rw[Hd f g b l]
theorem BO {α β:Type} (f:β->β->Int) (g:α->β) (l:List α):iF f (l.map g)=iF (λx y=>f (g x) (g y)) l:=by
 cases l with
 | nil=>rfl
 | cons z T =>
  show dw f (g z) (T.map g++[g z])=dw _ z (T++[z]);rw[<-Hd f g z (T++[z])];simp
theorem UY {α:Type} {f g:α->α->Int}:∀(a:α) (l:List α),Run (λx y=>f x y=g x y) a l->dw f a l=dw g a l
 | a,[],_=>rfl
 | a,b::l,h=>by
  show f a b+dw f b l=g a b+dw g b l;rw[h.1,UY b l h.2]
theorem Ck (h:∀a b,av cs a b->f a b=g a b):iF f cs=iF g cs:=by
 cases cs with
 | nil=>rfl
 | cons z T=>exact UY z (T++[z]) (Es z (T++[z]) λa b c8=>h a b c8)
theorem Hc {α:Type} (f g:α->α->Int):∀(a:α) (l:List α),dw (λx y=>f x y+g x y) a l=dw f a l+dw g a l
 | a,[]=>rfl
 | a,b::l=>by
  show f a b+g a b+dw _ b l=(f a b+dw f b l)+(g a b+dw g b l);rw[Hc f g b l];lia
theorem Lw {α:Type} (f g:α->α->Int) (l:List α):iF (λx y=>f x y+g x y) l=iF f l+iF g l:=by
 cases l with
 | nil=>rfl
 | cons z T=>exact Hc f g z (T++[z])
theorem He {α:Type} (k:Int) (f:α->α->Int):∀(a:α) (l:List α),dw (λx y=>k*f x y) a l=k*dw f a l
 | a,[]=>by show (0:Int)=k*0;lia
 | a,b::l=>by
  show k*f a b+dw _ b l=k*(f a b+dw f b l);rw[He k f b l,Int.mul_add]
theorem OY {α:Type} (k:Int) (f:α->α->Int) (l:List α):iF (λx y=>k*f x y) l=k*iF f l:=by
 cases l with
 | nil=>show (0:Int)=k*0;lia
 | cons z T=>exact He k f z (T++[z])
def vB (k:Int) (l:List Pt):iF ci (l.map (scl k))=k*k*iF ci l:=by
 rw[BO,<-OY];congr 1;funext x y;unfold ci scl;dsimp only;grind
def yS {f:Pt->Pt->Int} {A B:List Pt} (h:f9 A B):iF f A=iF f B:=by
 obtain⟨X,Y,rfl,rfl⟩:=h;exact YM f X Y
section
variable {L:az} {cs:List Pt}
def lg (L:az) (G:Int) (x:Pt):Prop:=L.a*x.1+L.b*x.2=L.k*G
theorem CH (c8:L.a≠0\/L.b≠0) (hx:lg L G x) (hy:lg L G y) (hz:lg L G z):bT x y z=0:=by
 unfold lg at *;rcases c8 with h | h
 ·refine dG h ?_;have e1:L.a*(y.1-x.1) = -(L.b*(y.2-x.2)):=by grind
  have e2:L.a*(z.1-x.1) = -(L.b*(z.2-x.2)):=by grind
  have:L.a*bT x y z=(L.a*(y.1-x.1))*(z.2-x.2)-(L.a*(z.1-x.1))*(y.2-x.2):=by unfold bT;grind
  rw[this,e1,e2];grind
 ·refine dG h ?_;have e1:L.b*(y.2-x.2) = -(L.a*(y.1-x.1)):=by grind
  have e2:L.b*(z.2-x.2) = -(L.a*(z.1-x.1)):=by grind
  have:L.b*bT x y z=(L.b*(z.2-x.2))*(y.1-x.1)-(L.b*(y.2-x.2))*(z.1-x.1):=by unfold bT;grind
  rw[this,e1,e2];grind
theorem QP (ft:cm G t) (h:fo L t=0):lg L G (gF G t):=by
 have e:=ft.e;unfold lg gF;unfold fo at h;dsimp only;generalize G / t.2.2=f at *;grind
theorem PQ (G:Int) (u:Pt):gF G (ap u)=scl G u:=by
 refine lD ?_ ?_
 ·show u.1*(G / 1)=G*u.1;rw[HH,gM]
 ·show u.2*(G / 1)=G*u.2;rw[HH,gM]
theorem Gg (hG:0<G) (u:Pt):cm G (ap u):=cm.of hG (by show (0:Int)<1;decide) ⟨G,by show G=1*G;lia⟩
def GJ (L:az) (G:Int) (o:Pt) (u v:Pt):Int :=
 if af L u<=0 then (if af L v<=0 then bT o (scl G u) (scl G v) else if af L u<0 then bT o (scl G u) (gF G (jI L u v)) else 0)
 else (if af L v<0 then bT o (gF G (jI L u v)) (scl G v) else 0)
theorem Lp (hG:0<G) (ho:lg L G o) (c8:L.a≠0\/L.b≠0) (jb:∀t,Pm L cs t->cm G t):∀l u w v,nq L cs l u w->av cs w v->dw (λp q=>bT o (gF G p) (gF G q)) l (fk L w v)=(if af L w<=0 then GJ L G o u w else 0)+(if af L v<=0 then 0 else GJ L G o w v):=by
 intro l u w v hs hc;have ex0:∀{t},gu L cs t->lg L G (gF G t):=λh=>QP (jb _ h.pm.1) h.pm.2;have z0:∀{x:Pt},af L x=0->lg L G (scl G x):=λ{x} h=>by rw[<-PQ];exact QP (Gg hG x) (by rw[mM];exact h)
 rcases hs.2 with ⟨hw,hl⟩ | ⟨hw,hl⟩ | ⟨hw,hl⟩
 ·have d:bT o (gF G l) (scl G w)=GJ L G o u w:=by
   unfold GJ;rcases hl with ⟨hu,rfl⟩ | ⟨hu,rfl⟩
   ·rw[if_pos hu,if_pos (by lia),PQ]
   ·rw[if_neg (by lia),if_pos hw]
  rw[if_pos (by lia:af L w<=0),<-d];unfold fk;rw[if_pos (by lia:af L w<=0)];by_cases hv:af L v<=0
  ·rw[if_pos hv,if_neg (λh=>by rcases gq h with ⟨_,k⟩ | ⟨k,_⟩ <;> lia)];show bT o (gF G l) (gF G (ap w))+0=_;rw[PQ]
  ·rw[if_neg hv,if_pos (oA (cW ⟨hw,by lia⟩))];show bT o (gF G l) (gF G (ap w))+(bT o (gF G (ap w)) (gF G (jI L w v))+0)=_;unfold GJ;rw[if_pos (by lia:af L w<=0),if_neg hv,if_pos hw,PQ];lia
 ·have d:bT o (gF G l) (scl G w)=GJ L G o u w:=by
   unfold GJ;rcases hl with ⟨hu,rfl⟩ | ⟨hu,h⟩
   ·rw[if_pos hu,if_pos (by lia),PQ]
   ·rw[if_neg (by lia),if_neg (by lia)];exact CH c8 ho (ex0 h) (z0 hw)
  rw[if_pos (by lia:af L w<=0),<-d];unfold fk;rw[if_pos (by lia:af L w<=0),if_neg (by rw[hw];lia)];show bT o (gF G l) (gF G (ap w))+0=_;rw[PQ];by_cases hv:af L v<=0
  ·rw[if_pos hv]
  ·rw[if_neg hv];unfold GJ;rw[if_pos (by lia:af L w<=0),if_neg hv,if_neg (by lia)]
 ·rw[if_neg (by lia:¬af L w<=0)];unfold fk;rw[if_neg (by lia:¬af L w<=0)];by_cases hv:af L v<0
  ·have hx:=oA (x:=af L w) (y:=af L v) (cV ⟨hw,hv⟩);rw[if_pos hx,if_pos (by lia)];show bT o (gF G l) (gF G (jI L w v))+0=0+0;rw[CH c8 ho (ex0 hl) (QP (jb _ (Pm.cross hc hx)) (AV hx))]
  ·rw[if_neg (λh=>by rcases gq h with ⟨k,_⟩ | ⟨_,k⟩ <;> lia)];unfold GJ;rw[if_neg (by lia:¬af L w<=0),if_neg hv];split <;> rfl
def mh (L:az):az:=⟨-L.a,-L.b,-L.k⟩
theorem KI (u:Pt):af (mh L) u = -af L u:=by unfold af mh;dsimp only;grind
theorem Uo (u v:Pt):jI (mh L) u v=jI L u v:=by unfold jI;rw[KI,KI,OI,OI]
theorem Xq (h:lg L G x):lg (mh L) G x:=by unfold lg mh at *;dsimp only;grind
theorem UG (hx:af L u*af L v<0) (ft:cm G (jI L u v)):bT o (scl G u) (gF G (jI L u v))+bT o (gF G (jI L u v)) (scl G v)=bT o (scl G u) (scl G v):=by
 have e:=ft.e;have e2:(jI L u v).2.2=((af L v).natAbs:Int)+(af L u).natAbs:=by unfold jI wQ ap;dsimp only;lia
 have e3:(jI L u v).1=((af L v).natAbs:Int)*u.1+(af L u).natAbs*v.1:=rfl;have e4:(jI L u v).2.1=((af L v).natAbs:Int)*u.2+(af L u).natAbs*v.2:=rfl;unfold gF scl bT;dsimp only;rw[e3,e4];generalize G / (jI L u v).2.2=f at *;rw[e2] at e;generalize ((af L v).natAbs:Int)=α at *;generalize ((af L u).natAbs:Int)=β at *;subst e;grind
theorem Ic (hG:0<G) (ho:lg L G o) (c8:L.a≠0\/L.b≠0) (jb:∀t,Pm L cs t->cm G t) (hc:av cs u v):GJ L G o u v+GJ (mh L) G o u v=bT o (scl G u) (scl G v):=by
 have z0:∀{x:Pt},af L x=0->lg L G (scl G x):=λ{x} h=>by rw[<-PQ];exact QP (Gg hG x) (by rw[mM];exact h)
 unfold GJ;rw[KI,KI,Uo];rcases fK (af L u) 0 with hu | hu | hu
 ·rcases fK (af L v) 0 with hv | hv | hv
  ·rw[if_pos (by lia),if_pos (by lia),if_neg (by lia),if_neg (by lia)];lia
  ·rw[if_pos (by lia),if_pos (by lia),if_neg (by lia),if_neg (by lia)];lia
  ·have hx:=oA (x:=af L u) (y:=af L v) (cW ⟨hu,hv⟩);rw[if_pos (by lia),if_neg (by lia),if_pos (by lia),if_neg (by lia),if_pos (by lia)];exact UG hx (jb _ (Pm.cross hc hx))
 ·rcases fK (af L v) 0 with hv | hv | hv
  ·rw[if_pos (by lia),if_pos (by lia),if_pos (by lia),if_neg (by lia),if_neg (by lia)];lia
  ·rw[if_pos (by lia),if_pos (by lia),if_pos (by lia),if_pos (by lia),CH c8 ho (z0 hu) (z0 hv)];rfl
  ·rw[if_pos (by lia),if_neg (by lia),if_neg (by lia),if_pos (by lia),if_pos (by lia)];lia
 ·rcases fK (af L v) 0 with hv | hv | hv
  ·have hx:=oA (x:=af L u) (y:=af L v) (cV ⟨hu,hv⟩);rw[if_neg (by lia),if_pos (by lia),if_pos (by lia),if_neg (by lia),if_pos (by lia),Int.add_comm];exact UG hx (jb _ (Pm.cross hc hx))
  ·rw[if_neg (by lia),if_neg (by lia),if_pos (by lia),if_pos (by lia)];lia
  ·rw[if_neg (by lia),if_neg (by lia),if_pos (by lia),if_pos (by lia)];lia
theorem By:∀(X:List Pt) (u v:Pt),gz X u v->∀t∈fk L u v,t∈Pl L X
 | [],u,v,h,t,ht=>by obtain⟨a,b,e⟩:=h;simp at e
 | [x],u,v,h,t,ht=>by
  obtain⟨a,b,e⟩:=h;have:=congrArg fI e;simp at this;lia
 | x::y::X,u,v,h,t,ht=>by
  rw[Pl];obtain⟨a,b,e⟩:=h;cases a with
  | nil =>
   simp at e;obtain⟨rfl,rfl,_⟩:=e;exact fD _ ht
  | cons a0 a =>
   simp at e;exact bP _ (By (y::X) u v ⟨a,b,e.2⟩ t ht)
theorem Pm.mem (c:a_ cs) (h:Pm L cs t):t∈Pl L (cs++cs.take 1):=by
 cases h with
 | @corner u hu h =>
  obtain⟨_,v,_,hv,_⟩:=OZ c hu;refine By _ u v hv _ ?_;unfold fk;rw[if_pos h];simp
 | @cross u v hc h =>
  refine By _ u v hc _ ?_;unfold fk;rw[if_pos h];simp
theorem Uz (dz:∃w∈cs,0<af L w) (en:∃w∈cs,af L w<0):L.a≠0\/L.b≠0:=by
 apply cC;intro h;have h1:L.a=0:=cC λk=>h (cW k);have h2:L.b=0:=cC λk=>h (cV k);obtain⟨w,_,hw⟩:=dz;obtain⟨v,_,hv⟩:=en;unfold af at hw hv;rw[h1,h2] at hw hv;simp at hw hv;lia
theorem My (ft:cm F t):gF (F*H) t=scl H (gF F t):=by
 have e:F*H / t.2.2=F / t.2.2*H:=by
  have:F*H=F / t.2.2*H*t.2.2:=by
   have:=ft.e;generalize F / t.2.2=f at *;subst this;grind
  rw[this,Int.mul_ediv_cancel _ (by have:=ft.w;lia)]
 unfold gF scl;dsimp only;rw[e];refine lD ?_ ?_ <;> (dsimp only;grind)
theorem ZB (hF:0<F) (hH:0<H) (ft:cm F t):cm (F*H) t :=
 cm.of (aL hF hH) ft.w (kZ ⟨F / t.2.2,by rw[gM];exact ft.e.symm⟩ (vR ..))
theorem UN (c:a_ cs) (dz:∃w∈cs,0<af L w) (en:∃w∈cs,af L w<0) (hG:0<G) (ho:lg L G o) (jb:∀t,Pm L cs t->cm G t):iF ci ((Pl L (cs++cs.take 1)).map (gF G))=iF (GJ L G o) cs:=by
 obtain⟨P',rot,cut,sum⟩:=BN c dz en;have c8:=Uz dz en;have e:=sum _ _ _ (Lp hG ho c8 jb);have e1:iF ci ((Pl L (cs++cs.take 1)).map (gF G))=iF ci (P'.map (gF G)):=yS (by
  obtain⟨X,Y,a,b⟩:=rot;exact⟨X.map (gF G),Y.map (gF G),by rw[a,dM],by rw[b,dM]⟩)
 rw[e1,<-yT o,BO,e];congr 1;funext u v;split <;> lia
theorem Li (c:a_ cs) (dz:∃w∈cs,0<af L w) (en:∃w∈cs,af L w<0) (h1:0<F1) (h2:0<F2) (rm:∀t∈Pl L (cs++cs.take 1),cm F1 t) (rn:∀t∈Pl (mh L) (cs++cs.take 1),cm F2 t) :
  F2*F2*iF ci ((Pl L (cs++cs.take 1)).map (gF F1))+F1*F1*iF ci ((Pl (mh L) (cs++cs.take 1)).map (gF F2))=F1*F2*(F1*F2)*iF ci cs:=by
 have ym:∃w∈cs,0<af (mh L) w:=by obtain⟨w,hw,k⟩:=en;exact⟨w,hw,by rw[KI];lia⟩
 have yj:∃w∈cs,af (mh L) w<0:=by obtain⟨w,hw,k⟩:=dz;exact⟨w,hw,by rw[KI];lia⟩
 obtain⟨P',rot,cut,_⟩:=BN c dz en;obtain⟨p,q,hp,hq,_⟩:=cut.line;have fA:∀t,Pm L cs t->cm (F1*F2) t:=λt ht=>ZB h1 h2 (rm t (ht.mem c));have fB:∀t,Pm (mh L) cs t->cm (F1*F2) t:=λt ht=>by rw[gM];exact ZB h2 h1 (rn t (ht.mem c))
 have hG:=aL h1 h2;have ho:=QP (fA p hp.pm.1) hp.pm.2;have a1:=UN c dz en hG ho fA;have a2:=UN c ym yj hG (Xq ho) fB;have s:iF (GJ L (F1*F2) (gF (F1*F2) p)) cs+iF (GJ (mh L) (F1*F2) (gF (F1*F2) p)) cs=F1*F2*(F1*F2)*iF ci cs:=by
  rw[<-Lw,<-vB,<-yT (gF (F1*F2) p),BO];exact Ck λu v wu=>Ic hG ho (Uz dz en) fA wu
 have m1:(Pl L (cs++cs.take 1)).map (gF (F1*F2))=((Pl L (cs++cs.take 1)).map (gF F1)).map (scl F2):=by
  rw[dN];exact kQ λt ht=>My (rm t ht)
 have m2:(Pl (mh L) (cs++cs.take 1)).map (gF (F1*F2))=((Pl (mh L) (cs++cs.take 1)).map (gF F2)).map (scl F1):=by
  rw[dN];refine kQ λt ht=>?_;rw[gM F1 F2];exact My (rn t ht)
 rw[m1,vB] at a1;rw[m2,vB] at a2;rw[a1,a2];exact s
end
def NP:FD:=λds Q=>∃(x:D) (a b:D) (t:List D),ds=[x]/\(x = .tup (a::b::t)\/x = .lst (a::b::t))/\t.length<=1000/\Q (.lst (nG (λu v=>D.tup [u,v]) (a::b::t) (b::t++[a])))
def Jf:∀ds Q,NP ds Q->ds.length=1:=by rintro ds Q ⟨_,_,_,_,rfl,_⟩;rfl
def NF:∀ds Q,NP ds Q->FI { nx:=λ_=>Q .non,rt:=Q } (dR ["ones"] ds):=by
 rintro ds Q ⟨x,a,b,t,rfl,hx,hl,q⟩;rw[cL 0 rfl];unfold FI;have c1:cutD (a::b::t) (some 1) none=b::t:=UH (j:=1) (by simp);have c2:cutD (a::b::t) none (some 1)=[a]:=Ft (j:=1) (by simp);have s1:HT.sIx (a::b::t).length 0 (some 1)=1:=by rw[show (some (1:Int))=some ((1:Nat):Int) from rfl,HT.sIx_nat];simp
 have s2:HT.sIx (a::b::t).length (a::b::t).length (some 1)=1:=by rw[show (some (1:Int))=some ((1:Nat):Int) from rfl,HT.sIx_nat];simp
 rcases hx with rfl | rfl
 ·simp only[iP,fR,El,aM,r2,XN,CJ,rL,rC,EN,aV,cD,ED,fC,aH,S.val];refine⟨λh=>by rw[s1] at h;exact absurd h.1 (by decide),λh=>by rw[s2] at h;have:=h.2;simp at this,?_⟩;rw[c1,c2];refine⟨by simp,rS (by simp;lia),_,_,rfl,rfl,by simp,q⟩
 ·simp only[iP,fR,El,aM,r2,XN,CJ,rL,rC,EN,aV,cD,ED,fC,aH,S.val];rw[c1,c2];refine⟨rS (by simp;lia),_,_,rfl,rfl,by simp,q⟩
abbrev cr (a b:Int × Int):Int:=a.1*b.2-a.2*b.1
def chain (a:Int × Int):List (Int × Int)->Int
 | []=>0
 | b::r=>cr a b+chain b r
def XY (n:Nat) (zs:List (Int × Int)):Prop:=∀z∈zs,BL n z.1/\BL n z.2
namespace K12
end K12
structure iv where
 a:Int
 b:Int
 c:Int
abbrev ln (l:iv):D:=.tup [.int l.a,.int l.b,.int l.c]
def iv.BLn (n:Nat) (l:iv):Prop:=BL n l.a/\BL n l.b/\BL n l.c
abbrev exc (l:iv) (p:Int × Int) (s:Int):Int:=l.a*p.1+l.b*p.2-l.c*s
def xF:FD:=λds Q=>∃(l:iv) (p:Int × Int) (s:Int),ds=[ln l,pt p,.int s]/\(l.BLn 100000/\BL 100000 p.1/\BL 100000 p.2/\BL 100000 s)/\Q (.int (exc l p s))
def Cz:∀ds Q,xF ds Q->ds.length=3:=by rintro ds Q ⟨_,_,_,rfl,_⟩;rfl
def Aq:∀ds Q,xF ds Q->VC { nx:=λ_=>Q .non,rt:=Q } (dR ["line","point","share"] ds):=by
 rintro ds Q ⟨l,p,s,rfl,⟨⟨b1,b2,b3⟩,b4,b5,b6⟩,q⟩;rw[cL 0 rfl];unfold VC;walk_at "rd";exact⟨b1.mulOk b4,b2.mulOk b5,b3.mulOk b6,q⟩
abbrev uw (z:Int × Int) (t:List (Int × Int)):List ((Int × Int) × (Int × Int)):=OM (z::t) (t++[z])
def Rc (h:w∈uw z t):w.1∈z::t/\w.2∈z::t:=by
 obtain⟨w1,w2⟩:=w;have m:=sZ h;refine⟨m.1,?_⟩;rcases cS.mp m.2 with h | h
 ·exact bQ _ h
 ·rw[dY.mp h];exact dX
abbrev h3 (t:H3):D:=.tup [.int t.1,.int t.2.1,.int t.2.2]
abbrev nS (l:iv) (sh:Int):az:=⟨l.a,l.b,l.c*sh⟩
def qI (l:iv) (sh:Int) (z:Pt):af (nS l sh) z=exc l z sh:=rfl
def KG (h:BL n i):BL n (i.natAbs:Int):=by unfold BL at *;simpa using h
def NJ:FD:=λds Q=>∃(L:az) (u v:Pt),ds=[pt u,.int (af L u),pt v,.int (af L v)]/\(BL 2000 u.1/\BL 2000 u.2/\BL 2000 v.1/\BL 2000 v.2)/\(BL 2000 (af L u)/\BL 2000 (af L v))/\Q (h3 (jI L u v))
def Iy:∀ds Q,NJ ds Q->ds.length=4:=by rintro ds Q ⟨_,_,_,rfl,_⟩;rfl
def Um (L:az) (u v:Pt):h3 (jI L u v) = .tup [.int (u.1*((af L v).natAbs:Int)+v.1*((af L u).natAbs:Int)),.int (u.2*((af L v).natAbs:Int)+v.2*((af L u).natAbs:Int)),.int (((af L u).natAbs:Int)+((af L v).natAbs:Int))]:=by
 have e1:(jI L u v).1=u.1*((af L v).natAbs:Int)+v.1*((af L u).natAbs:Int):=by unfold jI wQ ap;dsimp only;rw[gM,gM v.1]
 have e2:(jI L u v).2.1=u.2*((af L v).natAbs:Int)+v.2*((af L u).natAbs:Int):=by unfold jI wQ ap;dsimp only;rw[gM,gM v.2]
 have e3:(jI L u v).2.2=((af L u).natAbs:Int)+((af L v).natAbs:Int):=by unfold jI wQ ap;dsimp only;lia
 show D.tup [.int (jI L u v).1,.int (jI L u v).2.1,.int (jI L u v).2.2]=_;rw[e1,e2,e3]
def TC:∀ds Q,NJ ds Q->MH { nx:=λ_=>Q .non,rt:=Q } (dR ["one","one_excess","other","other_excess","near","far"] ds):=by
 rintro ds Q ⟨L,u,v,rfl,⟨b1,b2,b3,b4⟩,⟨c1,c2⟩,q⟩;rw[cL 2 rfl];rw[Um] at q;have a1:=KG c1;have a2:=KG c2;unfold MH;walk_at "rd";have ab:∀i:Int,(if i<0 then -i else i)=(i.natAbs:Int):=λi=>by split <;> lia
 simp only[ab];exact⟨b1.mulOk a2,b3.mulOk a1,b2.mulOk a2,b4.mulOk a1,q⟩
theorem Ur {α β:Type} (f:α->D) (g:β->D) (xs:List α):∀(ys:List β),nG (λu v=>D.tup [u,v]) (xs.map f) (ys.map g)=(OM xs ys).map λw=>D.tup [f w.1,g w.2]:=by
 induction xs with
 | nil=>intro ys;simp
 | cons x xs ih =>
  intro ys;cases ys with
  | nil=>simp
  | cons y ys=>simp[ih]
def KH (L:az) (ws:List (Pt × Pt)):List H3:=ws.flatMap λw=>fk L w.1 w.2
theorem Fi (L:az):∀(r:List Pt) (a z:Pt),Pl L (a::(r++[z]))=KH L (OM (a::r) (r++[z]))
 | [],a,z=>by simp[Pl,KH]
 | b::r,a,z=>by
  have ih:=Fi L r b z;show fk L a b++Pl L (b::(r++[z]))=fk L a b++KH L (OM (b::r) (r++[z]));rw[ih]
abbrev iI (L:az) (z:Pt):D:=.tup [pt z,.int (af L z)]
def HF:FD:=λds Q=>∃(L:az) (z u:Pt) (r:List Pt),ds=[.tup ((z::u::r).map pt),il ((z::u::r).map (af L))]/\(∀w∈z::u::r,BL 2000 w.1/\BL 2000 w.2/\BL 2000 (af L w))/\r.length<=900/\Q (.lst ((Pl L ((z::u::r)++(z::u::r).take 1)).map h3))
def Di:∀ds Q,HF ds Q->ds.length=2:=by rintro ds Q ⟨_,_,_,_,rfl,_⟩;rfl
def Qv (L:az) (u v:Pt):(fk L u v).length<=2:=by
 unfold fk;split <;> split <;> simp
theorem YE (L:az):∀ws,(KH L ws).length<=2*ws.length
 | []=>by simp[KH]
 | w::ws=>by
  have:=YE L ws;have:=Qv L w.1 w.2;unfold KH at *;rw[List.flatMap_cons,dC,cG];lia
def Hx (L:az) (ws:List (Pt × Pt)) (w:Pt × Pt):KH L (ws++[w])=KH L ws++fk L w.1 w.2:=by unfold KH;simp
def GO:∀ds Q,HF ds Q->yB NJ NP { nx:=λ_=>Q .non,rt:=Q } (dR ["corners","excesses","points","one","other"] ds):=by
 rintro ds Q ⟨L,z,u,r,rfl,hB,hl,q⟩;rw[cL 3 rfl];unfold yB;have eP:Pl L ((z::u::r)++(z::u::r).take 1)=KH L (uw z (u::r)):=Fi L (u::r) z z;rw[eP] at q;have lc:(uw z (u::r)).length=r.length+2:=by simp
 simp only[iP,Po,aY,bV];generalize hA:D.tup ((z::u::r).map pt)=A;generalize hX:il ((z::u::r).map (af L))=X;simp only[aV,cD,aY,bV];refine cM (λρ=>ρ=[aa A,aa X,some (.own []),none,none]) (λK hK=>?_) ?_
 ·walk_at "rd";exact hK _ rfl
 rintro ρ rfl;refine cM (λρ=>∃a b:Option S,ρ=[aa A,aa X,some (.own ((KH L (uw z (u::r))).map h3)),a,b]) (λK hK=>?_) ?_
 ·rw[<-hA,<-hX] at hK ⊢;simp only[nT,riL,cU,aC,aX,El,aM,aH,aJ,S.val];refine⟨_,_,rfl,rfl,by simp,?_⟩;have e1:nG (λa b=>D.tup [a,b]) ((z::u::r).map pt) (((z::u::r).map (af L)).map D.int)=(z::u::r).map (iI L):=by
   rw[dN,List.zipWith_map,List.zipWith_self];rfl
  rw[e1];refine⟨_,iI L z,iI L u,r.map (iI L),rfl,cV rfl,by simp;lia,?_⟩;have e2:nG (λa b=>D.tup [a,b]) (iI L z::iI L u::r.map (iI L)) (iI L u::r.map (iI L)++[iI L z])=(uw z (u::r)).map λw=>D.tup [iI L w.1,iI L w.2]:=by
   rw[<-Ur (iI L) (iI L)];simp
  rw[e2];refine kG (λxs ρ=>∃(done rest:List (Pt × Pt)) (a b:Option S),uw z (u::r)=done++rest/\xs=rest.map (λw=>D.tup [iI L w.1,iI L w.2])/\ρ=[aa (.tup ((z::u::r).map pt)),aa (il ((z::u::r).map (af L))),some (.own ((KH L done).map h3)),a,b]) ?_ ?_ _ _ ⟨[],uw z (u::r),none,none,rfl,rfl,rfl⟩
  ·rintro x xs ρ ⟨done,rest,a,b,e,ex,rfl⟩ F _ _ hn _;cases rest with
   | nil=>cases ex
   | cons w rest =>
    cases ex;have mw:=Rc (z:=z) (t:=u::r) (w:=w) (by rw[e];simp);obtain⟨p1,p2,p3⟩:=hB _ mw.1;obtain⟨q1,q2,q3⟩:=hB _ mw.2;have ld:done.length<r.length+2:=(by rw[<-lc,e];simp);have lb:=YE L done;generalize hA':D.tup ((z::u::r).map pt)=A' at *;generalize hX':il ((z::u::r).map (af L))=X' at *;have fin:∀ρ,ρ=[aa A',aa X',some (.own ((KH L (done++[w])).map h3)),aa (iI L w.1),aa (iI L w.2)]->F.nx ρ:=λρ h=>hn _ ⟨done++[w],rest,aa (iI L w.1),aa (iI L w.2),by simpa using e,rfl,h⟩;rw[Hx] at fin;unfold fk at fin;unfold tU;walk_at "rd";by_cases h1:af L w.1<=0
    ·rw[if_pos h1] at fin ⊢;refine⟨rS (by simp;lia),p3.mulOk q3,?_⟩;by_cases h2:af L w.1*af L w.2<0
     ·rw[if_pos h2] at fin ⊢;refine⟨L,w.1,w.2,rfl,⟨p1,p2,q1,q2⟩,⟨p3,q3⟩,rS (by simp;lia),fin _ (by simp)⟩
     ·rw[if_neg h2] at fin ⊢;exact fin _ (by simp)
    ·rw[if_neg h1] at fin ⊢;refine⟨p3.mulOk q3,?_⟩;by_cases h2:af L w.1*af L w.2<0
     ·rw[if_pos h2] at fin ⊢;refine⟨L,w.1,w.2,rfl,⟨p1,p2,q1,q2⟩,⟨p3,q3⟩,rS (by simp;lia),fin _ (by simp)⟩
     ·rw[if_neg h2] at fin ⊢;exact fin _ (by simp)
  ·rintro ρ ⟨done,rest,a,b,e,ex,rfl⟩;have:rest=[]:=(by simpa using ex.symm);subst this;rw[fC] at e;rw[e] at hK;exact hK _ ⟨a,b,rfl⟩
 rintro ρ ⟨a,b,rfl⟩;walk_at "rd";exact q
abbrev pc (sh:Int) (zs:List Pt):D:=.tup [.int sh,.tup (zs.map pt)]
abbrev JM (L:az) (cs:List Pt):List H3:=Pl L (cs++cs.take 1)
structure iw (L:az) (sh:Int) (cs:List Pt) (br:Int) (zs:List Pt):Prop where
 ex:∃(F m:Int) (z:Pt) (T:List Pt),0<F/\(∀t∈JM L cs,cm F t)/\f9 ((JM L cs).map (gF F)) (z::T)/\(∀q∈T,¬bj q z)/\a_ (z::T)/\gf (sh*F) (z::T) m br zs/\(BL 4003 F/\zs.length<=cs.length+2)
inductive db (L:az) (sh:Int) (cs:List Pt):D->Prop
 | whole (h:∀z∈cs,af L z<=0):db L sh cs (pc sh cs)
 | nothing (h:∀z∈cs,0<=af L z) (n:¬ ∀z∈cs,af L z<=0):db L sh cs .non
 | part (hp:∃z∈cs,0<af L z) (hn:∃z∈cs,af L z<0) {br:Int} {zs:List Pt} (h:iw L sh cs br zs):db L sh cs (pc br zs)
def VS:FD:=λds Q=>∃(l:iv) (sh:Int) (cs:List Pt),ds=[pc sh cs,ln l]/\(0<sh/\BL 2000 sh/\l.BLn 10000)/\(∀w∈cs,BL 2000 w.1/\BL 2000 w.2/\BL 2000 (exc l w sh))/\(a_ cs/\cs.length<60)/\∀d,db (nS l sh) sh cs d->Q d
def Nr:∀ds Q,VS ds Q->ds.length=2:=by rintro ds Q ⟨_,_,_,rfl,_⟩;rfl
theorem IB:∀(P:List H3),(∀t∈P,BL n t.2.2)->BL (n*P.length+1) (iC P)
 | [],_=>BL.mono (m:=1) (BL.const (by decide)) (by lia)
 | t::P,h=>by
  have a:=(h t (by simp)).mul (IB P λx hx=>h x (by simp[hx]));exact a.mono (by rw[cG,Nat.mul_add,Nat.mul_one];lia)
theorem C8 (hB:∀w∈cs,BL 2000 w.1/\BL 2000 w.2/\BL 2000 (af L w)) (h:Pm L cs t):BL 4001 t.1/\BL 4001 t.2.1/\BL 2001 t.2.2:=by
 cases h with
 | @corner u hu h =>
  obtain⟨a,b,_⟩:=hB u hu;exact⟨a.mono,b.mono,(BL.const (n:=1) (i:=1) (by decide)).mono⟩
 | @cross u v hc h =>
  obtain⟨a,b,c⟩:=hB u hc.mem.1;obtain⟨a',b',c'⟩:=hB v hc.mem.2;have c:=KG c;have c':=KG c';refine⟨((c'.mul a).add (c.mul a')).mono,((c'.mul b).add (c.mul b')).mono,?_⟩;have e:(jI L u v).2.2=((af L u).natAbs:Int)+((af L v).natAbs:Int):=by unfold jI wQ ap;dsimp only;lia
  rw[e];exact (c.add c').mono
theorem PN {α:Type} (p:α->Bool):∀l:List α,l.length=(l.filter p).length+(l.filter λx=>!p x).length
 | []=>rfl
 | x::l=>by
  have:=PN p l;rw[rX,rX];cases h:p x <;> simp <;> lia
def VI (c:a_ cs) (hp:∃z∈cs,0<af L z) (h:ni L cs P):P.length<=cs.length+2:=by
 have h2:=LO c hp h;have h1:=len_sub (P.filter λt=>!decide (t.2.2≠1)) (cs.map ap) (h.nodup.filter _) λx hx=>by
  obtain⟨hx,hw⟩:=lR.mp hx;simp only[ne_eq,decide_not,Bool.not_not,decide_eq_true_eq] at hw;have pm:=h.pm x hx;cases pm with
  | @corner u hu h=>exact dP hu
  | cross hc h=>have:=GS h;lia
 have e:=PN (λt:H3=>decide (t.2.2≠1)) P;rw[cN] at h1;lia
def LK:∀ds Q,VS ds Q->CS xF HF pB { nx:=λ_=>Q .non,rt:=Q } (dR ["piece","line","share","excesses","points","factor","point","grown"] ds):=by
 rintro ds Q ⟨l,sh,cs,rfl,⟨h0,b0,bl⟩,hB,⟨cv,hl⟩,q⟩;rw[cL 6 rfl];unfold CS;obtain⟨z0,u0,r0,tv⟩:∃z u r,cs=z::u::r:=by
  have:=cv.len
  match cs,this with
  | z::u::r,_=>exact⟨z,u,r,rfl⟩
 have cne:cs.map (λz=>exc l z sh)≠[]:=by rw[tv];simp
 simp only[iP,Yt,aY,bV];generalize hP:pc sh cs=PD;generalize hL:ln l=LD;simp only[aV,cD,aY,bV];refine cM (λρ=>ρ=[aa PD,aa LD,aa (.int sh),none,none,none,none,none]) (λK hK=>?_) ?_
 ·rw[<-hP] at hK ⊢;walk_at "rd";exact hK _ rfl
 rintro ρ rfl;refine cM (λρ=>ρ=[aa PD,aa LD,aa (.int sh),some (.own ((cs.map λz=>exc l z sh).map D.int)),none,none,none,none]) (λK hK=>?_) ?_
 ·rw[<-hP,<-hL] at hK ⊢;simp only[tP,wD,riT,r2,aM,rC,kT,GH,YF,aH,aJ,aV,cD,Er,aY,bV,S.val];refine⟨rS (by simp;lia),?_⟩;refine xL (λρ=>∃a,ρ=[a,aa (ln l),aa (.int sh)]) pt (λz=>D.int (exc l z sh)) cs ?_ ⟨none,rfl⟩ ?_
  ·rintro z hz ρ ⟨a,rfl⟩ K' kf;obtain⟨z1,z2,_⟩:=hB z hz;walk_at "rd";exact⟨l,z,sh,rfl,⟨⟨bl.1.mono,bl.2.1.mono,bl.2.2.mono⟩,z1.mono,z2.mono,b0.mono⟩,kf _ ⟨aa (pt z),rfl⟩⟩
  ·refine hK _ ?_;rw[dN];rfl
 rintro ρ rfl;by_cases hw:∀z∈cs,exc l z sh<=0
 ·have fin:=q _ (db.whole hw);refine cM (λρ=>False) (λK hK=>?_) (λρ h=>h.elim);walk_at "rd";refine⟨_,rfl,cne,λM m1 m2=>?_⟩;obtain⟨z,hz,rfl⟩:=bJ.mp m1;dsimp only;rw[if_pos (hw z hz),<-hP];exact fin
 refine cM (λρ=>ρ=[aa PD,aa LD,aa (.int sh),some (.own ((cs.map λz=>exc l z sh).map D.int)),none,none,none,none]) (λK hK=>?_) ?_
 ·walk_at "rd";refine⟨_,rfl,cne,λM m1 m2=>?_⟩;dsimp only;rw[if_neg (λh=>hw λz hz=>yG (m2 _ (dP hz)) h)];exact hK _ rfl
 rintro ρ rfl;by_cases hg:∀z∈cs,0<=exc l z sh
 ·have fin:=q _ (db.nothing hg hw);refine cM (λρ=>False) (λK hK=>?_) (λρ h=>h.elim);walk_at "rd";refine⟨_,rfl,cne,λM m1 m2=>?_⟩;obtain⟨z,hz,rfl⟩:=bJ.mp m1;dsimp only;rw[if_pos (hg z hz)];exact fin
 refine cM (λρ=>ρ=[aa PD,aa LD,aa (.int sh),some (.own ((cs.map λz=>exc l z sh).map D.int)),none,none,none,none]) (λK hK=>?_) ?_
 ·walk_at "rd";refine⟨_,rfl,cne,λM m1 m2=>?_⟩;dsimp only;rw[if_neg (λh=>hg λz hz=>yG h (m2 _ (dP hz)))];exact hK _ rfl
 rintro ρ rfl;have hp:∃z∈cs,0<af (nS l sh) z:=cC λk=>hw λz hz=>gX.mp λh=>k ⟨z,hz,h⟩;have hn:∃z∈cs,af (nS l sh) z<0:=cC λk=>hg λz hz=>gX.mp λh=>k ⟨z,hz,h⟩;obtain⟨P',rot,cut,_⟩:=BN cv hp hn;have ic:f9 (JM (nS l sh) cs) P':=rot;have lP':=VI cv hp cut;generalize wk:JM (nS l sh) cs=SP at *;have lSP:SP.length=P'.length:=by obtain⟨X,Y,e1,e2⟩:=ic;rw[e1,e2];simp;lia
 have qk:∀t∈SP,Pm (nS l sh) cs t:=λt ht=>cut.pm t ((ic.mem t).mp ht);have zh:∀t∈SP,BL 4001 t.1/\BL 4001 t.2.1/\BL 2001 t.2.2:=λt ht=>C8 (L:=nS l sh) (λw hw=>hB w hw) (qk t ht);have ky:0<iC SP:=LI SP λt ht=>(qk t ht).w_pos;have qa:∀t∈SP,cm (iC SP) t:=λt ht=>cm.of ky (qk t ht).w_pos (LH SP t ht);have rf:BL 4003 (iC SP):=by
  rw[uG];have l2:(SP.filter λt=>decide (t.2.2≠1)).length<=2:=by
   have:=LO cv hp cut;obtain⟨X,Y,e1,e2⟩:=ic;rw[e2] at this;rw[e1];rw[qG,dC] at this ⊢;lia
  refine (IB _ λt ht=>(zh t (lR.mp ht).1).2.2).mono ?_;lia
 refine cM (λρ=>ρ=[aa PD,aa LD,aa (.int sh),aa (il (cs.map λz=>exc l z sh)),aa (.lst (SP.map h3)),none,none,none]) (λK hK=>?_) ?_
 ·rw[<-hP] at hK ⊢;walk_at "rd";subst tv;refine⟨nS l sh,z0,u0,r0,rfl,hB,by simp at hl;lia,?_⟩;show K _;rw[show Pl (nS l sh) ((z0::u0::r0)++(z0::u0::r0).take 1)=SP from wk];exact hK _ rfl
 rintro ρ rfl;refine cM (λρ=>ρ=[aa PD,aa LD,aa (.int sh),aa (il (cs.map λz=>exc l z sh)),aa (.lst (SP.map h3)),aa (.int 1),none,none]) (λK hK=>?_) ?_
 ·walk_at "rd";exact hK _ rfl
 rintro ρ rfl;refine cM (λρ=>∃a:Option S,ρ=[aa PD,aa LD,aa (.int sh),aa (il (cs.map λz=>exc l z sh)),aa (.lst (SP.map h3)),aa (.int (iC SP)),a,none]) (λK hK=>?_) ?_
 ·walk_at "rd";refine kG (λxs ρ=>∃(done rest:List H3) (a:Option S),SP=done++rest/\xs=rest.map h3/\ρ=[aa PD,aa LD,aa (.int sh),aa (il (cs.map λz=>exc l z sh)),aa (.lst (SP.map h3)),aa (.int (iC done)),a,none]) ?_ ?_ _ _ ⟨[],SP,none,rfl,rfl,rfl⟩
  ·rintro x xs ρ ⟨done,rest,a,e,ex,rfl⟩ E _ _ vf _;cases rest with
   | nil=>cases ex
   | cons t rest =>
    cases ex;have bt:=(zh t (by rw[e];simp)).2.2;have bd:=IB done λx hx=>(zh x (by rw[e];simp[hx])).2.2;have ld:done.length<=64:=(by have:=congrArg fI e;simp at this;lia);have e2:iC (done++[t])=iC done*t.2.2:=(by rw[JC];show _*(t.2.2*1)=_;rw[vS]);unfold wH;walk_at "rd";refine⟨bd.mulOk bt (by lia),vf _ ⟨done++[t],rest,aa (h3 t),by simpa using e,rfl,by rw[e2]⟩⟩
  ·rintro ρ ⟨done,rest,a,e,ex,rfl⟩;have:rest=[]:=(by simpa using ex.symm);subst this;rw[fC] at e;subst e;exact hK _ ⟨a,rfl⟩
 rintro ρ ⟨a,rfl⟩;refine cM (λρ=>ρ=[aa PD,aa LD,aa (.int sh),aa (il (cs.map λz=>exc l z sh)),aa (.lst (SP.map h3)),aa (.int (iC SP)),a,some (.own ((SP.map (gF (iC SP))).map pt))]) (λK hK=>?_) ?_
 ·simp only[tP,wD,riL,cI,GH,YF,aH,aJ,aV,cD,Po,aY,bV,S.val];refine⟨rS (by simp;lia),?_⟩;refine xL (λρ=>∃a b c,ρ=[a,b,c,aa (.int (iC SP))]) h3 (λt=>pt (gF (iC SP) t)) SP ?_ ⟨none,none,none,rfl⟩ ?_
  ·rintro t ht ρ ⟨a,b,c,rfl⟩ K' kf;obtain⟨t1,t2,t3⟩:=zh t ht;have tw:=(qk t ht).w_pos;have bq:BL 4003 ((iC SP).fdiv t.2.2):=rf.fdiv;walk_at "rd";refine⟨(t3.mono).divOk (by lia),t1.mulOk bq,(t3.mono).divOk (by lia),t2.mulOk bq,?_⟩;rw[cK _ (by lia)];exact kf _ ⟨aa (.int t.1),aa (.int t.2.1),aa (.int t.2.2),rfl⟩
  ·refine hK _ ?_;rw[dN];rfl
 rintro ρ rfl;walk_at "rd";refine⟨b0.mulOk rf,?_⟩;have u3:∀t∈P',cm (iC SP) t:=λt ht=>qa t ((ic.mem t).mpr ht);have U4:=Mx cv hp hn cut ky u3;have xn:a_ (SP.map (gF (iC SP))):=a_.rot ((ic.map (gF (iC SP))).symm) U4;obtain⟨z,T,rt,least⟩:=wC (SP.map (gF (iC SP))) (by intro e;have:=xn.len;rw[e] at this;simp at this);have cz:=a_.rot rt xn;refine⟨sh*iC SP,SP.map (gF (iC SP)),rfl,⟨aL h0 ky,(b0.mul rf).mono⟩,λw hw=>?_,by simp;lia,cW ⟨z,T,⟨cz,least,λa ha=>(rt.mem a).mpr ha,λa b c8 c hc=>cz.side c8 ((rt.mem c).mp hc)⟩,λm br zs N=>q _ (db.part hp hn ⟨iC SP,m,z,T,ky,?_,?_,least,cz,N,rf,?_⟩)⟩⟩
 ·obtain⟨t,ht,rfl⟩:=bJ.mp hw;obtain⟨t1,t2,t3⟩:=zh t ht;have bq:BL 4003 (iC SP / t.2.2):=by
   have:BL 4003 ((iC SP).fdiv t.2.2):=rf.fdiv
   rwa [cK _ (by have:=(qk t ht).w_pos;lia)] at this
  exact⟨(t1.mul bq).mono,(t2.mul bq).mono⟩
 ·rw[wk];exact qa
 ·rw[wk];exact rt
 ·have e1:=congrArg fI N.cs_eq;have e2:(z::T).length=SP.length:=by obtain⟨X,Y,a1,a2⟩:=rt;have:=congrArg fI a1;rw[a2];simp at this ⊢;lia
  rw[e2,cN] at e1;lia
def rg (cs:List Pt) (i:Nat):Pt:=cs.getD (i % cs.length) (0,0)
section
def LL (h:0<cs.length) (i:Nat):cs[i % cs.length]? = some (rg cs i):=by
 unfold rg;rw[dW,aE (jS _ h)];rfl
def wZ (h:0<cs.length) (i:Nat):rg cs i∈cs:=eS (LL h i)
def FK (h:i<cs.length):cs[i]? = some (rg cs i):=by
 have:=LL (cs:=cs) (by lia) i
 rwa [hV h] at this
def Du (h1:l[i]? = some a) (h2:l[i+1]? = some b):gz l a b:=by
 obtain⟨l1,e1⟩:=bI.mp h1;obtain⟨l2,e2⟩:=bI.mp h2;refine⟨l.take i,l.drop (i+2),?_⟩
 conv=>lhs;rw[<-gL i l]
 rw[gW l1,gW l2,e1,e2]
def Cs (h:gz l a b):∃i,l[i]? = some a/\l[i+1]? = some b:=by
 obtain⟨x,y,e⟩:=h;refine⟨x.length,?_,?_⟩
 ·rw[e,dL (by lia)];simp
 ·rw[e,dL (by lia)];simp
def Cl (h:0<cs.length) (i:Nat):av cs (rg cs i) (rg cs (i+1)):=by
 have hj:=jS i h;refine Du (i:=i % cs.length) ?_ ?_
 ·rw[cZ hj];exact LL h i
 ·have g:=LL h (i+1);by_cases hl:i % cs.length+1<cs.length
  ·rw[cZ hl,<-g];congr 1;rw[LU];by_cases h1:cs.length=1
   ·lia
   ·rw[show 1 % cs.length=1 from hV (by lia),hV hl]
  ·rw[dL (by lia),show i % cs.length+1-cs.length=0 by lia,FW,if_pos (by lia),<-g];congr 1;rw[LU];by_cases h1:cs.length=1
   ·rw[h1];lia
   ·rw[show 1 % cs.length=1 from hV (by lia),show i % cs.length+1=cs.length by lia,Nat.mod_self]
def GQ (i:Nat):rg cs (i+cs.length)=rg cs i:=by unfold rg;rw[HP]
def Rb (h:av cs a b):∃k,k<cs.length/\a=rg cs (k+(cs.length-1))/\b=rg cs k:=by
 obtain⟨i,h1,h2⟩:=Cs h;have l2:i+1<(cs++cs.take 1).length:=(bI.mp h2).1;rw[dC,gQ] at l2;have hi:i<cs.length:=by lia
 have dz:0<cs.length:=by lia
 rw[cZ hi,FK hi] at h1;have h1:rg cs i=a:=eB h1;by_cases hl:i+1<cs.length
 ·rw[cZ hl,FK hl] at h2;refine⟨i+1,hl,?_,(eB h2).symm⟩;rw[show i+1+(cs.length-1)=i+cs.length by lia,GQ,h1]
 ·rw[dL (by lia),show i+1-cs.length=0 by lia,FW,if_pos (by lia),FK dz] at h2;refine⟨0,dz,?_,(eB h2).symm⟩;rw[show 0+(cs.length-1)=i by lia,h1]
def YN (h:0<cs.length) (k:Nat):av cs (rg cs (k+(cs.length-1))) (rg cs k):=by
 have:=Cl h (k+(cs.length-1))
 rwa [show k+(cs.length-1)+1=k+cs.length by lia,GQ] at this
def XO (n:cs.Nodup) (h:0<cs.length) (e:rg cs i=rg cs j):i % cs.length=j % cs.length:=by
 refine (List.getElem?_inj (jS i h) n).mp ?_;rw[LL h i,LL h j,e]
def Dq (h:0<d) (hd:d<n):(i+d) % n≠i % n:=by
 have h0:=jS i (show 0<n by lia);rw[LU,hV hd];rcases Nat.lt_or_ge (i % n+d) n with h' | h'
 ·rw[hV h'];lia
 ·rw[Nat.mod_eq_sub_mod h',hV (by lia)];lia
def a_.bend_rg (c:a_ cs) (i:Nat):0<bT (rg cs i) (rg cs (i+1)) (rg cs (i+2)):=by
 have h3:=c.len;refine c.strict _ _ (Cl (by lia) i) _ (wZ (by lia) _) (λe=>?_) λe=>?_
 ·exact Dq (i:=i) (d:=2) (by lia) (by lia) (XO c.nodup (by lia) e)
 ·exact Dq (i:=i+1) (d:=1) (by lia) (by lia) (XO c.nodup (by lia) e)
theorem Hv:∀(l:List Pt),∃M:Int,0<M/\∀p∈l,-M<p.2/\p.2<M
 | []=>⟨1,by decide,by simp⟩
 | p::l=>by
  obtain⟨M,h,hM⟩:=Hv l;refine⟨M+p.2.natAbs+1,by lia,λq hq=>?_⟩;rcases aO.mp hq with rfl | hq
  ·lia
  ·have:=hM q hq;lia
def ZX (c:a_ cs) (h1:av cs t u) (h2:av cs u v) (nt:t≠v) (e1:bj u t) (e2:bj u v):∀w∈cs,¬bj w u:=by
 obtain⟨M,hM,hb⟩:=Hv cs;have mono:∀p∈cs,∀q∈cs,bj p q->af ⟨2*M,1,0⟩ p<af ⟨2*M,1,0⟩ q:=by
  intro p hp q hq hl;have b1:=hb p hp;have b2:=hb q hq;unfold af;dsimp only;rcases hl with h | ⟨h,h'⟩
  ·have:2*M*(q.1-p.1-1) ≥ 0:=cY (by lia) (by lia);have e:2*M*(q.1-p.1-1)=2*M*q.1-2*M*p.1-2*M:=(by grind);lia
  ·rw[h];lia
 have mu:=(av.mem h1).2;have mt:=(av.mem h1).1;have mv:=(av.mem h2).2;have lb:=UR (L:=⟨2*M,1,0⟩) c h1 h2 nt (aQ (mono u mu t mt e1)) (aQ (mono u mu v mv e2));intro w hw hl;have:=mono w hw u mu hl;have:=lb w hw;lia
def Im (c:a_ (z::T)) (least:∀q∈T,¬bj q z) (hk:k<(z::T).length):(bj (rg (z::T) (k+((z::T).length-1))) (rg (z::T) (k+((z::T).length-2)))/\bj (rg (z::T) (k+((z::T).length-1))) (rg (z::T) k))↔k=1:=by
 have h3:=c.len;have z0:rg (z::T) 0=z:=by have:=FK (cs:=z::T) (i:=0) (by lia);simp at this;exact this.symm
 have qh:∀i,i % (z::T).length≠0->bj z (rg (z::T) i):=by
  intro i hi;have m:=wZ (cs:=z::T) (by lia) i;have ne:rg (z::T) i≠z:=λe=>hi (by
   have:=XO c.nodup (by lia) (i:=i) (j:=0) (by rw[e,z0])
   rwa [Nat.zero_mod] at this)
  rcases qB z (rg (z::T) i) with h | h | h
  ·exact h
  ·exact absurd h.symm ne
  ·rcases aO.mp m with e | m
   ·exact absurd e ne
   ·exact absurd h (least _ m)
 generalize hn:(z::T).length=n at *;constructor
 ·rintro⟨a,b⟩;have c1:av (z::T) (rg (z::T) (k+(n-2))) (rg (z::T) (k+(n-1))):=by
   have:=Cl (cs:=z::T) (by lia) (k+(n-2))
   rwa [show k+(n-2)+1=k+(n-1) by lia] at this
  have c2:av (z::T) (rg (z::T) (k+(n-1))) (rg (z::T) k):=by
   have:=YN (cs:=z::T) (by lia) k
   rwa [hn] at this
  have nt:rg (z::T) (k+(n-2))≠rg (z::T) k:=λe=>by
   have:=XO c.nodup (by lia) e;rw[hn] at this;exact Dq (by lia) (by lia) this
  have ll:=ZX c c1 c2 nt a b z (by simp);apply cC;intro hk1;refine ll (qh _ ?_);intro e;by_cases h0:k=0
  ·subst h0;rw[hV (by lia)] at e;lia
  ·rw[show k+(n-1)=(k-1)+n by lia,HP,hV (by lia)] at e;lia
 ·rintro rfl;have e1:rg (z::T) (1+(n-1))=z:=by rw[show 1+(n-1)=0+(z::T).length by lia,GQ,z0]
  rw[e1];exact⟨qh _ (by rw[hV (by lia)];lia),qh _ (by rw[hV (by lia)];lia)⟩
end
section
variable {L:az} {cs zs:List Pt} {sh br:Int}
structure gV (L:az) (sh:Int) (cs:List Pt) (br:Int) (zs:List Pt):Prop where
 pos:0<br
 cvx:a_ zs
 first:∃z T,zs=z::T/\∀q∈T,¬bj q z
 cop:∀d:Nat,(d:Int)∣br->(∀z∈zs,(d:Int)∣z.1/\(d:Int)∣z.2)->d=1
 corner:∀z∈zs,∃(t:H3) (k f:Int),Pm L cs t/\0<k/\0<f/\k*(sh*z.1)=f*t.1/\k*(sh*z.2)=f*t.2.1/\k*br=f*t.2.2
 side:∀a b,av zs a b->∃(t1 t2:H3) (κ μ:Int),o0 L cs t1 t2/\0<κ/\0<μ/\∀X Y W,κ*gN (ap a) (ap b) (br*X,br*Y,W)=μ*gN t1 t2 (sh*X,sh*Y,W)
 line:∃(a b:Pt) (t1 t2:H3) (κ μ:Int),av zs a b/\gu L cs t1/\Entry L cs t2/\0<κ/\0<μ/\∀X Y W,κ*gN (ap a) (ap b) (br*X,br*Y,W)=μ*gN t1 t2 (sh*X,sh*Y,W)
 area:∃F m:Int,0<F/\0<m/\m*br=sh*F/\m*m*iF ci zs=iF ci ((JM L cs).map (gF F))/\∀t∈JM L cs,cm F t
 len:zs.length<=cs.length+2
theorem DF (h:f9 A B) (k:av B a b):av A a b:=by
 obtain⟨X,Y,rfl,rfl⟩:=h;exact IG k
theorem IF (h:av l a b):av (l.map f) (f a) (f b):=by
 obtain⟨x,y,e⟩:=h;refine⟨x.map f,y.map f,?_⟩;rw[<-jV,<-dM,e];simp
theorem Ho (fp:cm F p) (fq:cm F q) (ea:scl m a=gF F p) (eb:scl m b=gF F q) (es:m*br=sh*F) (X Y W:Int):m*m*gN (ap a) (ap b) (br*X,br*Y,W)=(F / p.2.2*(F / q.2.2))*gN p q (sh*X,sh*Y,W):=by
 have e1:=fp.e;have e2:=fq.e;unfold scl gF at ea eb;simp only[eQ] at ea eb;obtain⟨a1,a2⟩:=ea;obtain⟨b1,b2⟩:=eb;generalize F / p.2.2=f1 at *;generalize F / q.2.2=f2 at *;have l:m*m*gN (ap a) (ap b) (br*X,br*Y,W)=(m*a.1)*((m*b.2)*W-(m*br)*Y)-(m*a.2)*((m*b.1)*W-(m*br)*X)+(m*br)*((m*b.1)*Y-(m*b.2)*X):=by unfold gN ap;dsimp only;grind
 rw[l,a1,a2,b1,b2,es];unfold gN;dsimp only;have g1:(p.1*f1)*((q.2.1*f2)*W-sh*F*Y)=f1*f2*(p.1*(q.2.1*W-q.2.2*(sh*Y))):=by rw[<-e2];grind
 have g2:(p.2.1*f1)*((q.1*f2)*W-sh*F*X)=f1*f2*(p.2.1*(q.1*W-q.2.2*(sh*X))):=by rw[<-e2];grind
 have g3:sh*F*((q.1*f2)*Y-(q.2.1*f2)*X)=f1*f2*(p.2.2*(q.1*(sh*Y)-q.2.1*(sh*X))):=by rw[<-e1];grind
 rw[g1,g2,g3];grind
theorem iw.facts (c:a_ cs) (hp:∃z∈cs,0<af L z) (hn:∃z∈cs,af L z<0) (h0:0<sh) (h:iw L sh cs br zs):gV L sh cs br zs:=by
 obtain⟨F,m,z,T,hF,jb,rot,least,cz,N,_,hl⟩:=h;obtain⟨P',ic,cut,_⟩:=BN c hp hn;have ic:f9 (JM L cs) P':=ic;have k5:∀t∈P',cm F t:=λt ht=>jb t ((ic.mem t).mpr ht);have mp:=N.mpos;have es:=N.sh_eq;have ec:z::T=zs.map (scl m):=N.cs_eq;have sF:0<sh*F:=aL h0 hF;have pos:0<br:=by rw[es] at sF;exact sI mp sF
 have vz:f9 (P'.map (gF F)) (z::T):=((ic.map (gF F)).symm).trans rot;have y6:∀p q,FZ (P'++P'.take 1) p q->p∈P'/\q∈P':=λp q ⟨x,y,e⟩=>by
  have sub:∀t,t∈P'++P'.take 1->t∈P':=λt ht=>by
   rcases cS.mp ht with h | h
   ·exact h
   ·exact jZ h
  exact⟨sub p (by rw[e];simp),sub q (by rw[e];simp)⟩
 refine⟨pos,a_.unscl mp (by rw[<-ec];exact cz),?_,N.cop,?_,?_,?_,⟨F,m,hF,mp,es.symm,?_,jb⟩,hl⟩
 ·cases zs with
  | nil=>simp at ec
  | cons z' T' =>
   simp only[aV,gA] at ec;refine⟨z',T',rfl,λq hq dk=>?_⟩;refine least (scl m q) (by rw[ec.2];exact dP hq) ?_;rw[ec.1];exact (CU mp).mpr dk
 ·intro x hx;have m1:scl m x∈z::T:=by rw[ec];exact dP hx
  obtain⟨t,ht,e⟩:=bJ.mp ((vz.mem _).mpr m1);have ft:=k5 t ht;have ee:=ft.e;have ff:=ft.f;unfold scl gF at e;simp only[eQ] at e;refine⟨t,m,sh*(F / t.2.2),cut.pm t ht,mp,aL h0 ff,?_,?_,?_⟩
  ·have:=e.1;grind
  ·have:=e.2;grind
  ·rw[<-es,nV,ee]
 ·intro a b c8;have k1:av (z::T) (scl m a) (scl m b):=by rw[ec];exact IF c8
  have k2:gz ((P'++P'.take 1).map (gF F)) (scl m a) (scl m b):=by
   have:=DF vz k1;rw[dM,jV];exact this
  obtain⟨p,q,yn,ea,eb⟩:=Aa k2;obtain⟨y9,y_⟩:=y6 p q yn;exact⟨p,q,m*m,_,cut.adj p q yn,aL mp mp,aL (k5 p y9).f (k5 q y_).f,λX Y W=>Ho (k5 p y9) (k5 q y_) ea eb es.symm X Y W⟩
 ·obtain⟨p,q,hx,hy,yn⟩:=cut.line;obtain⟨y9,y_⟩:=y6 p q yn;have k1:av (P'.map (gF F)) (gF F p) (gF F q):=by
   obtain⟨x,y,e⟩:=yn;refine⟨x.map (gF F),y.map (gF F),?_⟩;rw[<-jV,<-dM,e];simp
  have k2:av (zs.map (scl m)) (gF F p) (gF F q):=by rw[<-ec];exact DF vz.symm k1
  have k3:gz ((zs++zs.take 1).map (scl m)) (gF F p) (gF F q):=by rw[dM,jV];exact k2
  obtain⟨a,b,c8,ea,eb⟩:=WY k3;exact⟨a,b,p,q,m*m,_,c8,hx,hy,aL mp mp,aL (k5 p y9).f (k5 q y_).f,λX Y W=>Ho (k5 p y9) (k5 q y_) ea.symm eb.symm es.symm X Y W⟩
 ·rw[<-vB,<-ec];exact (yS rot).symm
theorem Ij (p q:H3) (h1:k*r.1=f*t.1) (h2:k*r.2.1=f*t.2.1) (h3:k*r.2.2=f*t.2.2):k*gN p q r=f*gN p q t:=by
 have l:k*gN p q r=p.1*(q.2.1*(k*r.2.2)-q.2.2*(k*r.2.1))-p.2.1*(q.1*(k*r.2.2)-q.2.2*(k*r.1))+p.2.2*(q.1*(k*r.2.1)-q.2.1*(k*r.1)):=by unfold gN;grind
 rw[l,h1,h2,h3];unfold gN;grind
theorem gV.left (c:a_ cs) (h:gV L sh cs br zs) (hz:z∈zs) (hc:av cs u v):0<=gN (ap u) (ap v) (sh*z.1,sh*z.2,br):=by
 obtain⟨t,k,f,pm,hk,hf,e1,e2,e3⟩:=h.corner z hz;have e:=Ij (ap u) (ap v) (r:=(sh*z.1,sh*z.2,br)) e1 e2 e3;have p:=Ti c pm hc;exact EW hk (by rw[e];exact cY (by lia) p)
theorem gV.value (h:gV L sh cs br zs) (hz:z∈zs):fo L (sh*z.1,sh*z.2,br)<=0:=by
 obtain⟨t,k,f,pm,hk,hf,e1,e2,e3⟩:=h.corner z hz;have e:k*fo L (sh*z.1,sh*z.2,br)=f*fo L t:=by
  have l:k*fo L (sh*z.1,sh*z.2,br)=L.a*(k*(sh*z.1))+L.b*(k*(sh*z.2))-L.k*(k*br):=by unfold fo;dsimp only;grind
  rw[l,e1,e2,e3];unfold fo;grind
 have:=pm.exc_le;apply gX.mp;intro hp;have h1:=aL hk hp;have h2:f*fo L t<=0:=eM (by lia) this;lia
theorem gV.inside (c:a_ cs) (hn:∃z∈cs,af L z<0) (h:gV L sh cs br zs) (hr:∀u v,av cs u v->0<gN (ap u) (ap v) (sh*X,sh*Y,W)) (he:fo L (sh*X,sh*Y,W)<0):∀a b,av zs a b->0<gN (ap a) (ap b) (br*X,br*Y,W):=by
 intro a b c8;obtain⟨t1,t2,κ,μ,A,hk,hm,e⟩:=h.side a b c8;have:=Ca c hn A hr he;exact sI hk (by rw[e];exact aL hm this)
theorem Dy (c:a_ cs) (hp:∃z∈cs,0<af L z) (hn:∃z∈cs,af L z<0) (h0:0<sh) (h1:gV L sh cs s1 z1) (h2:gV (mh L) sh cs s2 z2):(iF ci z1*(s2*s2)+iF ci z2*(s1*s1))*(sh*sh)=iF ci cs*(s1*s1)*(s2*s2):=by
 obtain⟨F1,m1,f1,p1,e1,a1,rm⟩:=h1.area;obtain⟨F2,m2,f2,p2,e2,a2,rn⟩:=h2.area;have A:=Li c hp hn f1 f2 rm rn;rw[<-a1,<-a2] at A;have k1:(0:Int)<m1*m1*(m2*m2):=aL (aL p1 p1) (aL p2 p2);refine dG (a:=m1*m1*(m2*m2)) (by lia) ?_;have r:m1*m1*(m2*m2)*(iF ci cs*(s1*s1)*(s2*s2))=iF ci cs*((m1*s1)*(m1*s1))*((m2*s2)*(m2*s2)):=by grind
 have l:m1*m1*(m2*m2)*((iF ci z1*(s2*s2)+iF ci z2*(s1*s1))*(sh*sh))=(m1*m1*iF ci z1*((m2*s2)*(m2*s2))+m2*m2*iF ci z2*((m1*s1)*(m1*s1)))*(sh*sh):=by grind
 rw[r,l,e1,e2];have l2:(m1*m1*iF ci z1*(sh*F2*(sh*F2))+m2*m2*iF ci z2*(sh*F1*(sh*F1)))*(sh*sh)=(F2*F2*(m1*m1*iF ci z1)+F1*F1*(m2*m2*iF ci z2))*(sh*sh*(sh*sh)):=by grind
 rw[l2,A];grind
end
abbrev lo (x:Int):Pt:=(x,x*x)
abbrev hi (top x:Int):Pt:=(x,top-x*x)
def YA (p q r s ox oy:Int) (a b c:Pt):bT (aff p q r s ox oy a) (aff p q r s ox oy b) (aff p q r s ox oy c)=(p*s-q*r)*bT a b c:=by
 unfold bT aff;dsimp only;grind
def Fl (hd:0<p*s-q*r) (a b:Pt) (h:aff p q r s ox oy a=aff p q r s ox oy b):a=b:=by
 unfold aff at h;simp only[eQ] at h;obtain⟨h1,h2⟩:=h;have e1:(p*s-q*r)*(a.1-b.1)=0:=by grind
 have e2:(p*s-q*r)*(a.2-b.2)=0:=by grind
 have k1:=(sY.mp e1).resolve_left (by lia);have k2:=(sY.mp e2).resolve_left (by lia);exact lD (by lia) (by lia)
def IU (z w:Pt):HT.lexLt [z.1,z.2] [w.1,w.2]=decide (bj z w):=by
 unfold bj;simp only[HT.lexLt];by_cases h:z.1=w.1
 ·rw[if_pos h];by_cases h2:z.2=w.2
  ·rw[if_pos h2];simp[h,h2]
  ·rw[if_neg h2];simp[h]
 ·rw[if_neg h];simp[h]
def GR {α:Type} (j:Nat) (xs:List α):f9 xs (turned j xs):=⟨xs.take j,xs.drop j,by rw[gL],rfl⟩
def RY {α β:Type} (j:Nat) (f:α->β) (xs:List α):turned j (xs.map f)=(turned j xs).map f:=by unfold turned;simp
def kh.norm {cs:List Pt} {ds:List Pt} (h:kh share cs m sh ds j):gf share (turned j cs) m sh (turned j ds):=by
 refine⟨h.mpos,h.sh_eq,?_,λd h1 h2=>h.cop d h1 λz hz=>h2 z (((GR j ds).mem z).mp hz)⟩
 conv=>lhs;rw[h.cs_eq]
 exact RY j _ ds
def kh.first {cs:List Pt} {ds:List Pt} (h:kh share cs m sh ds j):∃w T,turned j cs=w::T/\∀x∈T,¬bj x w:=by
 obtain⟨z,T,e⟩:∃z T,turned j ds=z::T:=by
  have hj:=h.j_lt;refine⟨ds[j],ds.drop (j+1)++ds.take j,?_⟩;show ds.drop j++ds.take j=_;rw[gW hj];rfl
 have ez:ds[j]? = some z:=by
  have:(turned j ds)[0]? = some z:=by rw[e];rfl
  have hj:=h.j_lt;unfold turned at this;rw[cZ (by simp;lia),FV] at this;simpa using this
 refine⟨scl m z,T.map (scl m),?_,λx hx=>?_⟩
 ·conv=>lhs;rw[h.cs_eq]
  rw[RY,e];rfl
 ·obtain⟨y,hy,rfl⟩:=bJ.mp hx;rw[CU h.mpos];have:=h.least y (((GR j ds).mem y).mpr (by rw[e];simp[hy])) z ez;rw[IU] at this;simpa using this
theorem sU:∀(xs:List D),(∀x∈xs,f x x=some true)->ji f xs xs=some true
 | [],_=>rfl
 | x::xs,h=>by
  simp only[ji,h x (by simp),sU xs λy hy=>h y (by simp[hy])];rfl
def NU (n:Nat) (i:Int):fb (n+1) (.int i) (.int i)=some true:=by simp[fb]
def NV (n:Nat) (z:Pt):fb (n+2) (pt z) (pt z)=some true:=by
 show ji (fb (n+1)) _ _=_;refine sU _ λx hx=>?_;simp only[aO,gB,or_false] at hx;rcases hx with rfl | rfl <;> exact NU n _
def ZE (xs:List D) (J:Nat->En->Prop) (step:∀i x ρ,xs[i]? = some x->J i ρ->∀F:jz,F.rt=E.rt->F.bk=E.nx->(∀ρ',J (i+1) ρ'->F.nx ρ')->(∀ρ',J (i+1) ρ'->F.ct ρ')->g x ρ λρ1=>t F ρ1)
  (last:∀ρ,J xs.length ρ->E.nx ρ) (ρ:En) (h:J 0 ρ):ZD g t xs E ρ:=by
 refine kG (λys ρ=>∃i,i<=xs.length/\ys=xs.drop i/\J i ρ) ?_ ?_ xs ρ ⟨0,gU _,rfl,h⟩
 ·rintro x ys ρ ⟨i,hi,e,hJ⟩ F f1 f2 f3 f4;have dk:i<xs.length:=by
   apply Nat.not_le.mp;intro hn;rw[List.drop_of_length_le hn] at e;cases e
  rw[gW dk] at e;cases e;exact step i _ ρ (aE dk) hJ F f1 f2 (λρ' h=>f3 ρ' ⟨i+1,by lia,rfl,h⟩) λρ' h=>f4 ρ' ⟨i+1,by lia,rfl,h⟩
 ·rintro ρ ⟨i,hi,e,hJ⟩;have:i=xs.length:=by
   have:=congrArg fI e;simp at this;lia
  subst this;exact last ρ hJ
def Eo {lo:Int} (h:(tG lo n)[i]? = some x):x = .int (lo+i)/\i<n:=by
 unfold tG at h;rw[bZ] at h;by_cases hi:i<n
 ·rw[tK hi] at h;cases h;exact⟨rfl,hi⟩
 ·rw[iZ (by simpa using hi)] at h;cases h
def NW (lo:Int) (n:Nat) (J:Nat->En->Prop) (step:∀i ρ,i<n->J i ρ->∀F:jz,F.rt=E.rt->F.bk=E.nx->(∀ρ',J (i+1) ρ'->F.nx ρ')->(∀ρ',J (i+1) ρ'->F.ct ρ')->g (.int (lo+i)) ρ λρ1=>t F ρ1)
  (last:∀ρ,J n ρ->E.nx ρ) (ρ:En) (h:J 0 ρ):ZD g t (tG lo n) E ρ:=by
 refine ZE _ J (λi x ρ e hJ=>?_) (λρ h=>last ρ (by rwa [Ep] at h)) ρ h;obtain⟨rfl,hi⟩:=Eo e;exact step i ρ hi hJ
def NK:FD:=λds Q=>∃n b p:Int,ds=[.int n,.int b,.int p]/\(0<b/\BL 9000 b)/\(0<=p/\p<=1000)/\∀x,0<=x->x<b->Q (.int x)
def Iz:∀ds Q,NK ds Q->ds.length=3:=by rintro ds Q ⟨_,_,_,rfl,_⟩;rfl
def QX:∀ds Q,NK ds Q->FB { nx:=λ_=>Q .non,rt:=Q } (dR ["_law_number","_law_base","_law_place","_law_k"] ds):=by
 rintro ds Q ⟨n,b,p,rfl,⟨b0,b1⟩,⟨p0,p1⟩,q⟩;rw[cL 1 rfl];unfold FB;simp only[iP,Er,aV,cD,aY,bV];refine cM (λρ=>∃(m:Int) (o:Option S),ρ=[aa (.int m),aa (.int b),aa (.int p),o]) (λK hK=>?_) ?_
 ·walk_at "rd";refine⟨⟨by lia,by lia⟩,?_⟩;refine kG (λ_ ρ=>∃(m:Int) (o:Option S),ρ=[aa (.int m),aa (.int b),aa (.int p),o]) ?_ ?_ _ _ ⟨n,none,rfl⟩
  ·rintro x xs ρ ⟨m,o,rfl⟩ F _ _ hn _;unfold xU;walk_at "rd";exact⟨b1.divOk (by lia),hn _ ⟨m.fdiv b,aa x,rfl⟩⟩
  ·rintro ρ ⟨m,o,rfl⟩;exact hK _ ⟨m,o,rfl⟩
 rintro ρ ⟨m,o,rfl⟩;walk_at "rd";obtain⟨a0,a1⟩:=fQ (a:=m) b0;exact⟨⟨by lia⟩,q _ a0 a1⟩
abbrev gr (x y w:Int):D:=.tup [.int x,.int y,.int w]
def VW {cs:List Pt} {k j:Nat} (hk:k<cs.length) (hj:j<=cs.length):h9 (cs.map pt) (0+(k:Int)-(j:Int))=some (pt (rg cs (k+(cs.length-j)))):=by
 unfold h9 lr;rw[cN];by_cases h:j<=k
 ·rw[if_pos (by lia),if_pos (by lia)];have e:(0+(k:Int)-(j:Int)).toNat=k-j:=by lia
  rw[e];show (cs.map pt)[k-j]? = _;rw[bZ,FK (by lia),show k+(cs.length-j)=(k-j)+cs.length by lia,GQ];rfl
 ·rw[if_neg (by lia),if_pos (by lia)];have e:(0+(k:Int)-(j:Int)+(cs.length:Int)).toNat=k+(cs.length-j):=by lia
  rw[e];show (cs.map pt)[k+(cs.length-j)]? = _;rw[bZ,FK (by lia)];rfl
def BT {cs:List Pt} {k:Nat} (hk:k<cs.length) {Q:D->Prop}:ca (.tup (cs.map pt)) (.int (0+(k:Int))) Q=Q (pt (rg cs k)):=by
 have:=VW hk (j:=0) (by lia);simp only[Int.natCast_zero,Int.sub_zero,yM,GQ] at this;simp only[ca,this]
def IR {cs:List Pt} {k:Nat} (hk:k<cs.length) {Q:D->Prop}:ca (.tup (cs.map pt)) (.int (0+(k:Int)-1)) Q=Q (pt (rg cs (k+(cs.length-1)))):=by
 have:=VW hk (j:=1) (by lia);simp only[Int.natCast_one] at this;simp only[ca,this]
def ZL {cs:List Pt} {k:Nat} (hk:k<cs.length) (h2:2<=cs.length) {Q:D->Prop}:ca (.tup (cs.map pt)) (.int (0+(k:Int)-2)) Q=Q (pt (rg cs (k+(cs.length-2)))):=by
 have:=VW hk (j:=2) (by lia);have e:((2:Nat):Int)=2:=rfl;rw[e] at this;simp only[ca,this]
theorem ZM:∀{i:Nat},i<=zs.length->kM (rg zs (zs.length-1)) (zs.take i)=rg zs (i+(zs.length-1))
 | 0,_=>by rw[tZ];rfl
 | j+1,h=>by
  rw[mR,FK (by lia)];show kM _ (zs.take j++[rg zs j])=_;rw[mB,show j+1+(zs.length-1)=j+zs.length by lia,GQ]
def Oy (f:Pt->Pt->Int) (h:i<zs.length):dw f (rg zs (zs.length-1)) (zs.take (i+1))=dw f (rg zs (zs.length-1)) (zs.take i)+f (rg zs (i+(zs.length-1))) (rg zs i):=by
 rw[mR,FK h,sJ,ZM (by lia)];show _+(f _ _+0)=_;rw[tW]
def Tn (f:Pt->Pt->Int) (h:0<zs.length):dw f (rg zs (zs.length-1)) zs=iF f zs:=by
 refine UI f (X:=zs.take (zs.length-1)) ?_
 conv=>lhs;rw[<-rZ (l:=zs),show zs.length=(zs.length-1)+1 by lia]
 rw[mR,FK (by lia)];rfl
def NN:FD:=λds Q=>∃a b c:Pt,ds=[pt a,pt b,pt c]/\(BP a/\BP b/\BP c)/\Q (.int (bT a b c))
def Jd:∀ds Q,NN ds Q->ds.length=3:=by rintro ds Q ⟨_,_,_,rfl,_⟩;rfl
def TF:∀ds Q,NN ds Q->JJ { nx:=λ_=>Q .non,rt:=Q } (dR ["_law_one","_law_two","_law_three","_law_ahead"] ds):=by
 rintro ds Q ⟨a,b,c,rfl,⟨ba,bb,bc⟩,q⟩;rw[cL 1 rfl];unfold JJ;walk_at "rd";have e:(b.1-a.1)*(c.2-b.2)-(b.2-a.2)*(c.1-b.1)=bT a b c:=by unfold bT;grind
 refine⟨(bb.1.sub ba.1).mulOk (bc.2.sub bb.2),(bb.2.sub ba.2).mulOk (bc.1.sub bb.1),?_⟩;rw[e];exact q
abbrev zj (m:Int):Int:=(if 0<m then 1 else 0)-(if m<0 then 1 else 0)
abbrev d_ (sh X Y W:Int) (a b:Pt):Int:=gN (ap a) (ap b) (sh*X,sh*Y,W)
def AW:FD:=λds Q=>∃(sh:Int) (cs:List Pt) (X Y W:Int),ds=[pc sh cs,gr X Y W]/\(BL 9000 sh/\XY 9000 cs/\1<=cs.length/\cs.length<=100)/\(BL 9000 X/\BL 9000 Y/\BL 9000 W) /\
 ∀M,(∃a b,av cs a b/\M=d_ sh X Y W a b)->(∀a b,av cs a b->M<=d_ sh X Y W a b)->Q (.int (zj M))
def Dg:∀ds Q,AW ds Q->ds.length=2:=by rintro ds Q ⟨_,_,_,_,_,rfl,_⟩;rfl
def XQ (sh X Y W:Int) (a b:Pt):(b.1-a.1)*(Y*sh-a.2*W)-(b.2-a.2)*(X*sh-a.1*W)=d_ sh X Y W a b:=by unfold d_ gN ap;dsimp only;grind
def NE:∀ds Q,AW ds Q->CP { nx:=λ_=>Q .non,rt:=Q } (dR ["_law_piece","_law_spot","_law_share_here","_law_corners","_law_least","_law_k","_law_one","_law_x","_law_y","_law_side"] ds):=by
 rintro ds Q ⟨sh,cs,X,Y,W,rfl,⟨bs,hS,l1,l2⟩,⟨bX,bY,bW⟩,q⟩;rw[cL 8 rfl];unfold CP;simp only[iP,E5,aV,cD,aY,bV];generalize hP:pc sh cs=PD;generalize hT:gr X Y W=TD;have pos:0<cs.length:=by lia
 refine cM (λρ=>ρ=[aa PD,aa TD,aa (.int sh),aa (.tup (cs.map pt)),none,none,none,none,none,none]) (λK hK=>?_) ?_
 ·rw[<-hP] at hK ⊢;walk_at "rd";exact hK _ rfl
 rintro ρ rfl;refine cM (λρ=>ρ=[aa PD,aa TD,aa (.int sh),aa (.tup (cs.map pt)),aa .non,none,none,none,none,none]) (λK hK=>?_) ?_
 ·walk_at "rd";exact hK _ rfl
 rintro ρ rfl;refine cM (λρ=>∃(M:Int) (a b c d e:Option S),((∃a b,av cs a b/\M=d_ sh X Y W a b)/\∀a b,av cs a b->M<=d_ sh X Y W a b)/\ρ=[aa PD,aa TD,aa (.int sh),aa (.tup (cs.map pt)),aa (.int M),a,b,c,d,e]) (λK hK=>?_) ?_
 ·simp only[nT,RJ,aC,aX,r1,vC,aM,aH,aJ,S.val,cN];refine⟨by constructor <;> lia,?_⟩;have nn:(((cs.length:Nat):Int)).toNat=cs.length:=by lia
  simp only[nn];refine NW 0 cs.length (λi ρ=>∃(lo:D) (a b c d e:Option S),((i=0/\lo = .non)\/(∃M k0:Int × Nat,k0.2<i/\M.1=d_ sh X Y W (rg cs (k0.2+(cs.length-1))) (rg cs k0.2)/\(∀k,k<i->M.1<=d_ sh X Y W (rg cs (k+(cs.length-1))) (rg cs k))/\lo = .int M.1))/\ρ=[aa PD,aa TD,aa (.int sh),aa (.tup (cs.map pt)),aa lo,a,b,c,d,e]) ?_ ?_ _ ⟨.non,none,none,none,none,none,cW ⟨rfl,rfl⟩,rfl⟩
  ·rintro i ρ hi ⟨lo,a,b,c,d,e,H_,rfl⟩ F _ _ hn _;obtain⟨p1,p2⟩:=hS _ (wZ pos (i+(cs.length-1)));obtain⟨q1,q2⟩:=hS _ (wZ pos i);unfold wG;subst hT;obtain⟨u,hu⟩:∃u,u=rg cs (i+(cs.length-1)):=⟨_,rfl⟩;have bx:=(bX.mul bs).sub (p1.mul bW);have rj:=(bY.mul bs).sub (p2.mul bW);have e1:∀{Q:D->Prop},ca (.tup (cs.map pt)) (.int (0+(i:Int)-1)) Q=Q (pt u):=λ{Q}=>(by rw[hu];exact IR hi);rw[<-hu] at p1 p2 bx rj;simp only[eU,bC,bD];refine cM (λρ=>ρ=[aa PD,aa (gr X Y W),aa (.int sh),aa (.tup (cs.map pt)),aa lo,aa (.int (0+(i:Int))),aa (pt u),c,d,e]) (λK' kf=>?_) ?_
   ·simp only[eX,r2,aM,rC,S.val,mI,aJ,aH,e1,bC,bD];exact kf _ rfl
   rintro ρ rfl;refine cM (λρ=>ρ=[aa PD,aa (gr X Y W),aa (.int sh),aa (.tup (cs.map pt)),aa lo,aa (.int (0+(i:Int))),aa (pt u),aa (.int (X*sh-u.1*W)),d,e]) (λK' kf=>?_) ?_
   ·simp only[eX,r2,aM,rC,S.val,mI,fE,rE,II,aJ,aH,bC,bD];exact⟨bX.mulOk bs,p1.mulOk bW,kf _ rfl⟩
   rintro ρ rfl;refine cM (λρ=>ρ=[aa PD,aa (gr X Y W),aa (.int sh),aa (.tup (cs.map pt)),aa lo,aa (.int (0+(i:Int))),aa (pt u),aa (.int (X*sh-u.1*W)),aa (.int (Y*sh-u.2*W)),e]) (λK' kf=>?_) ?_
   ·simp only[eX,r2,aM,rC,S.val,mI,fE,kT,II,aJ,aH,bC,bD];exact⟨bY.mulOk bs,p2.mulOk bW,kf _ rfl⟩
   rintro ρ rfl;refine cM (λρ=>ρ=[aa PD,aa (gr X Y W),aa (.int sh),aa (.tup (cs.map pt)),aa lo,aa (.int (0+(i:Int))),aa (pt u),aa (.int (X*sh-u.1*W)),aa (.int (Y*sh-u.2*W)),aa (.int (d_ sh X Y W u (rg cs i)))]) (λK' kf=>?_) ?_
   ·simp only[eX,r2,aM,rC,S.val,mI,fE,BT hi,rE,kT,aJ,aH,bC,bD];refine⟨(q1.sub p1).mulOk rj,(q2.sub p2).mulOk bx,?_⟩;rw[XQ];exact kf _ rfl
   rintro ρ rfl;subst hu;walk_at "rd";have mk:∀(M:Int) (k0:Nat) (a b c d e:Option S),k0<i+1->M=d_ sh X Y W (rg cs (k0+(cs.length-1))) (rg cs k0)->(∀k,k<i+1->M<=d_ sh X Y W (rg cs (k+(cs.length-1))) (rg cs k))->F.nx [aa PD,aa (gr X Y W),aa (.int sh),aa (.tup (cs.map pt)),aa (.int M),a,b,c,d,e] :=
    λM k0 a b c d e h1 h2 h3=>hn _ ⟨_,a,b,c,d,e,cV ⟨(M,0),(0,k0),h1,h2,h3,rfl⟩,rfl⟩
   have le:∀{M:Int},M<=d_ sh X Y W (rg cs (i+(cs.length-1))) (rg cs i)->(∀k,k<i->M<=d_ sh X Y W (rg cs (k+(cs.length-1))) (rg cs k))->∀k,k<i+1->M<=d_ sh X Y W (rg cs (k+(cs.length-1))) (rg cs k):=λh h' k hk=>by
    rcases uV (jL hk) with h0 | rfl
    ·exact h' k h0
    ·exact h
   rcases H_ with ⟨h0,rfl⟩ | ⟨M,k0,h1,h2,h3,rfl⟩
   ·subst h0;simp only[if_true];exact mk _ 0 _ _ _ _ _ (Nat.zero_lt_succ _) rfl (le (qN _) λk hk=>absurd hk (nR k))
   ·simp only[aN,if_false];split
    ·rename_i dk;exact mk _ i _ _ _ _ _ (mS i) rfl (le (qN _) λk hk=>yG (aQ dk) (h3 k hk))
    ·rename_i dk;exact mk _ k0.2 _ _ _ _ _ (gS h1) h2 (le (gX.mp dk) h3)
  ·rintro ρ ⟨lo,a,b,c,d,e,H_,rfl⟩;rcases H_ with ⟨h0,rfl⟩ | ⟨M,k0,h1,h2,h3,rfl⟩
   ·lia
   ·refine hK _ ⟨M.1,a,b,c,d,e,⟨⟨_,_,YN pos k0.2,h2⟩,λx y Z4=>?_⟩,rfl⟩;obtain⟨k,hk,rfl,rfl⟩:=Rb Z4;exact h3 k hk
 rintro ρ ⟨M,a,b,c,d,e,⟨m1,m2⟩,rfl⟩;have fin:=q M m1 m2;walk_at "rd";exact fin
def HC:FD:=λds Q=>∃(sh:Int) (zs:List Pt),ds=[pc sh zs]/\1<=sh/\3<=zs.length/\Q (.bl true)
def Dh:∀ds Q,HC ds Q->ds.length=1:=by rintro ds Q ⟨_,_,rfl,_⟩;rfl
def zG:∀ds Q,HC ds Q->rR CZ { nx:=λ_=>Q .non,rt:=Q } (dR ["_law_piece","_law_corner"] ds):=by
 rintro ds Q ⟨sh,zs,rfl,h1,h3,q⟩;rw[cL 1 rfl];unfold rR;simp only[iP,Er,aV,cD,aY,bV];refine cM (λρ=>ρ=[aa (pc sh zs),none]) (λK hK=>?_) ?_
 ·walk_at "rd";refine⟨sh,rfl,?_⟩;walk_at "rd";rw[if_neg (by lia)];exact hK _ rfl
 rintro ρ rfl;refine cM (λρ=>ρ=[aa (pc sh zs),none]) (λK hK=>?_) ?_
 ·walk_at "rd";rw[if_neg (by simp;lia)];exact hK _ rfl
 rintro ρ rfl;refine cM (λρ=>True) (λK hK=>?_) ?_
 ·walk_at "rd";refine kG (λxs ρ=>∃(rest:List Pt) (x:Option S),xs=rest.map pt/\ρ=[aa (pc sh zs),x]) ?_ ?_ _ _ ⟨zs,none,rfl,rfl⟩
  ·rintro x xs ρ ⟨rest,u,ex,rfl⟩ F _ _ hn _;cases rest with
   | nil=>cases ex
   | cons z rest =>
    cases ex;unfold pW;walk_at "rd";exact⟨_,rfl,_,rfl,hn _ ⟨rest,aa (pt z),rfl,rfl⟩⟩
  ·rintro ρ _;exact hK _ trivial
 rintro ρ _;walk_at "rd";exact q
structure c6 (sh:Int) (zs:List Pt):Prop where
 pos:0<sh
 cvx:a_ zs
 first:∃z T,zs=z::T/\∀q∈T,¬bj q z
 cop:∀d:Nat,(d:Int)∣sh->(∀z∈zs,(d:Int)∣z.1/\(d:Int)∣z.2)->d=1
def Fd:FD:=λds Q=>∃(sh:Int) (zs:List Pt),ds=[pc sh zs]/\c6 sh zs/\(∀z∈zs,BP z)/\zs.length<=100/\Q (.bl true)
def Sd:∀ds Q,Fd ds Q->ds.length=1:=by rintro ds Q ⟨_,_,rfl,_⟩;rfl
def JE:∀ds Q,Fd ds Q->xY zN HC NN { nx:=λ_=>Q .non,rt:=Q } (dR ["_law_piece","_law_share_here","_law_corners","_law_most","_law_falls","_law_k"] ds):=by
 rintro ds Q ⟨sh,zs,rfl,ip,hB,hl,q⟩;have h3:=ip.cvx.len;have pos:0<zs.length:=by lia
 rw[cL 5 rfl];unfold xY;simp only[iP,Kk,aV,cD,aY,bV];generalize hP:pc sh zs=PD;refine cM (λρ=>ρ=[aa PD,none,none,none,none,none]) (λK hK=>?_) ?_
 ·walk_at "rd";refine⟨sh,zs,by rw[hP],by have:=ip.pos;lia,h3,?_⟩;walk_at "rd";exact hK _ rfl
 rintro ρ rfl;refine cM (λρ=>ρ=[aa PD,aa (.int sh),aa (.tup (zs.map pt)),none,none,none]) (λK hK=>?_) ?_
 ·rw[<-hP] at hK ⊢;walk_at "rd";exact hK _ rfl
 rintro ρ rfl;refine cM (λρ=>ρ=[aa PD,aa (.int sh),aa (.tup (zs.map pt)),aa (.int sh),none,none]) (λK hK=>?_) ?_
 ·walk_at "rd";exact hK _ rfl
 rintro ρ rfl;refine cM (λρ=>ρ=[aa PD,aa (.int sh),aa (.tup (zs.map pt)),aa (.int sh),aa (.int 0),none]) (λK hK=>?_) ?_
 ·walk_at "rd";exact hK _ rfl
 rintro ρ rfl;refine cM (λρ=>∃(a:Option S),ρ=[aa PD,aa (.int sh),aa (.tup (zs.map pt)),aa (.int 1),aa (.int 1),a]) (λK hK=>?_) ?_
 ·simp only[nT,RJ,aC,aX,r1,vC,aM,aH,aJ,S.val,cN];refine⟨by constructor <;> lia,?_⟩;have nn:(((zs.length:Nat):Int)).toNat=zs.length:=by lia
  have sn:(sh.toNat:Int)=sh:=by have:=ip.pos;lia
  simp only[nn];refine NW 0 zs.length (λi ρ=>∃(g:Nat) (a:Option S),f8 sh (zs.take i) g/\ρ=[aa PD,aa (.int sh),aa (.tup (zs.map pt)),aa (.int g),aa (.int (if 2<=i then 1 else 0)),a]) ?_ ?_ _ ⟨sh.toNat,none,⟨by have:=ip.pos;lia,?_,by simp,λd e1 _=>?_⟩,by rw[sn];rfl⟩
  ·rintro i ρ hi ⟨g,a,hg,rfl⟩ F hrt _ hn _;have p0:=hB _ (wZ pos i);have p1:=hB _ (wZ pos (i+(zs.length-1)));have p2:=hB _ (wZ pos (i+(zs.length-2)));have tp:0<bT (rg zs (i+(zs.length-2))) (rg zs (i+(zs.length-1))) (rg zs i):=by
    have:=ip.cvx.bend_rg (i+(zs.length-2))
    rwa [show i+(zs.length-2)+1=i+(zs.length-1) by lia,show i+(zs.length-2)+2=i+zs.length by lia,GQ] at this
   have ff:(bj (rg zs (i+(zs.length-1))) (rg zs (i+(zs.length-2)))/\bj (rg zs (i+(zs.length-1))) (rg zs i))↔i=1:=by
    obtain⟨z,T,e,least⟩:=ip.first;have cv:=ip.cvx;subst e;exact Im cv least hi
   have hg':f8 sh (zs.take (i+1)) (cJ (cJ g (rg zs i).1:Nat) (rg zs i).2):=by
    rw[mR,FK hi];exact hg.snoc _
   have fin:∀v:Int,v=(if 2<=i+1 then 1 else 0)->F.nx [aa PD,aa (.int sh),aa (.tup (zs.map pt)),aa (.int (cJ (cJ g (rg zs i).1:Nat) (rg zs i).2:Nat)),aa (.int v),aa (.int (0+(i:Int)))]:=λv hv=>hn _ ⟨_,aa (.int (0+(i:Int))),hg',by rw[hv]⟩;unfold tT;simp only[eU,bC,bD];refine cM (λρ=>ρ=[aa PD,aa (.int sh),aa (.tup (zs.map pt)),aa (.int (cJ (cJ g (rg zs i).1:Nat) (rg zs i).2:Nat)),aa (.int (if 2<=i then 1 else 0)),aa (.int (0+(i:Int)))]) (λK' kf=>?_) ?_
   ·simp only[eX,cU,aC,aX,r2,cI,aM,rC,S.val,BT hi,rE,kT,aJ,aH,bC,bD];exact⟨_,_,rfl,_,_,rfl,kf _ rfl⟩
   rintro ρ rfl;refine cM (λρ=>ρ=[aa PD,aa (.int sh),aa (.tup (zs.map pt)),aa (.int (cJ (cJ g (rg zs i).1:Nat) (rg zs i).2:Nat)),aa (.int (if 2<=i then 1 else 0)),aa (.int (0+(i:Int)))]) (λK' kf=>?_) ?_
   ·simp only[kD,eG,cU,aC,aX,r2,aM,rC,iE,S.val,mI,oT,BT hi,IR hi,ZL hi (show 2<=zs.length by lia),aJ,aH];refine⟨_,_,_,rfl,⟨p2,p1,p0⟩,?_⟩;dsimp only;rw[if_neg (by simp only[decide_eq_true_eq];lia)];exact kf _ rfl
   rintro ρ rfl;simp only[kD,NG,eG,eX,iE,r2,aM,rC,S.val,mI,lX,Rg,BT hi,IR hi,ZL hi (show 2<=zs.length by lia),aJ,aH,bC,bD];refine⟨[_,_],[_,_],rfl,rfl,?_⟩;rw[IU];by_cases h1:bj (rg zs (i+(zs.length-1))) (rg zs (i+(zs.length-2)))
   ·simp only[h1,decide_true,if_true];refine⟨[_,_],[_,_],rfl,rfl,?_⟩;rw[IU];by_cases h2:bj (rg zs (i+(zs.length-1))) (rg zs i)
    ·simp only[h2,decide_true,if_true];have:=ff.mp ⟨h1,h2⟩;subst this;exact fin _ (by simp)
    ·simp only[h2,decide_false,if_false,aN];have:i≠1:=λe=>h2 (ff.mpr e).2;refine fin _ ?_;by_cases h4:2<=i
     ·rw[if_pos h4,if_pos (by lia)]
     ·rw[if_neg h4,if_neg (by lia)]
   ·simp only[h1,decide_false,if_false,aN];have:i≠1:=λe=>h1 (ff.mpr e).1;refine fin _ ?_;by_cases h4:2<=i
    ·rw[if_pos h4,if_pos (by lia)]
    ·rw[if_neg h4,if_neg (by lia)]
  ·rintro ρ ⟨g,a,hg,rfl⟩;rw[rZ] at hg;have:=ip.cop g hg.sh hg.all;subst this;refine hK _ ⟨a,?_⟩;rw[if_pos (by lia)];rfl
  ·rw[sn];exact pC _
  ·exact_mod_cast (by rw[sn];exact e1:(d:Int)∣(sh.toNat:Int))
 rintro ρ ⟨a,rfl⟩;obtain⟨z,T,e,least⟩:=ip.first;subst e;walk_at "rd";refine⟨(z::T).map λp=>[p.1,p.2],by rw[dN];rfl,by simp,λM m1 m2=>?_⟩;obtain⟨p,hp,rfl⟩:=bJ.mp m1;have ep:z=p:=by
  rcases aO.mp hp with h | h
  ·exact h.symm
  ·have h1:=least p h;have h2:=m2 [z.1,z.2] (by simp);rw[IU] at h2;simp only[decide_eq_false_iff_not] at h2;rcases qB z p with k | k | k
   ·exact absurd k h2
   ·exact k
   ·exact absurd k h1
 subst ep;have ee:fb 6 (pt z) (pt z)=some true:=by rw[WL];simp
 rw[show oC [z.1,z.2]=pt z from rfl]
 first
  | (rw[ee];exact q)
  | (show (match fb 6 (pt z) (pt z) with | some b=>Q (.bl b) | none=>False);rw[ee];exact q)
def gV.isPc (h:gV L sh cs br zs):c6 br zs:=⟨h.pos,h.cvx,h.first,h.cop⟩
def Fr:BL (n+1) 0:=(BL.const (n:=1) (i:=0) (by decide)).mono (by lia)
theorem Lm:∀(l:List Pt) (a:Pt),(BL n a.1/\BL n a.2)->XY n l->BL (2*n+1+l.length) (dw ci a l)
 | [],a,_,_=>Fr
 | b::l,a,ha,hl=>by
  obtain⟨b1,b2⟩:=hl b (by simp);have ih:=Lm l b ⟨b1,b2⟩ λz hz=>hl z (by simp[hz]);have c:BL (2*n+1) (ci a b):=((ha.1.mul b2).sub (ha.2.mul b1)).mono (by lia);refine (c.add ih).mono ?_;rw[cG];lia
theorem Wd {zs:List Pt} (h:XY n zs):BL (2*n+1+zs.length) (iF ci zs):=by
 cases zs with
 | nil=>exact Fr
 | cons z T =>
  have:=Lm (T++[z]) z (h z (by simp)) λw hw=>h w (by simp at hw ⊢;rcases hw with k | k <;> simp[k]);rw[dC] at this;exact this
namespace K33
abbrev P2:=Int × Int
abbrev Mv:=Int × P2 × P2
def jc (m:Mv):D:=.tup [.int m.1,pt m.2.1,pt m.2.2]
def Zz (h:x∈[D.int 9,D.int 1000000000000000000000000000000]):∃f:Int,x = .int f/\0<=f/\BL 200 f:=by
 rcases aO.mp h with rfl | h
 ·exact⟨9,rfl,by decide,BL.const (by decide)⟩
 ·rcases aO.mp h with rfl | h
  ·exact⟨_,rfl,by decide,BL.const (by decide)⟩
  ·cases h
structure jg (n:Nat) (f:P2):Prop where
 pos:0<f.2
 top:BL n f.1
 bot:BL n f.2
def jg.mono (h:jg n f) (k:n<=m:=by decide):jg m f:=⟨h.pos,h.top.mono k,h.bot.mono k⟩
def Rf (h:xs.getLast? = some x):ca (.lst xs) (.int (-1)) Q=Q x:=by simp only[ca,YB h]
def Nk (ha:BL n a) (hb:BL n b) (b0:0<b) (t0:1<=t) (t1:t<=3) (w0:1<=w) (w1:w<=3) (h:my (a*w+t*b) (b*w) p q):jg (n+5) (p,q):=by
 have bw:BL 2 w:=BL.of_lt (m:=2) (by lia) (by lia);have bt:BL 2 t:=BL.of_lt (m:=2) (by lia) (by lia);have h1:BL (n+2+1) (a*w+t*b):=by
  have:=(ha.mul bw).add (show BL (n+2) (t*b) by have:=bt.mul hb;rwa [Nat.add_comm] at this)
  rwa [Nat.max_self] at this
 exact⟨h.pos,(h1.le h.lea).mono (by lia),((hb.mul bw).le h.leb).mono (by lia)⟩
def Yj {fs:List P2} {i:Int} {Q:D->Prop} (h0:0<=i) (h1:i<fs.length) (q:∀f,fs[i.toNat]? = some f->Q (pt f)):ca (gh fs) (.int i) Q:=by
 have hj:i.toNat<fs.length:=by lia
 exact yU (Ce (j:=i.toNat) (by lia) (by rw[bZ,aE hj];rfl)) (q _ (aE hj))
def Hn (I:En->Prop) (h1:∀K:En->Prop,(∀ρ',I ρ'->K ρ')->t { nx:=K,rt:=λ_=>False } ρ) (h2:∀ρ',I ρ'->u E ρ'):Ay t u E ρ:=h1 (u E) h2
end K33
def dm (s:Int):Prop:=s=1\/s = -1
def dm.bl (h:dm s):BL 10 s:=by rcases h with rfl | rfl <;> exact BL.const
def dm.abs (h:dm s):s.natAbs=1:=by rcases h with rfl | rfl <;> rfl
def dm.natAbs_mul (h:dm s):(s*a).natAbs=a.natAbs:=by rw[lC,h.abs,Nat.one_mul]
def oJ:FD:=λds Q=>∃s a b:Int,ds=[.int s,fr a b]/\dm s/\BL 4000 a/\Q (fr (s*a) b)
def Dk:∀ds Q,oJ ds Q->ds.length=2:=by rintro ds Q ⟨a,b,c,rfl,_⟩;rfl
def Aw:∀ds Q,oJ ds Q->VG { nx:=λ_=>Q .non,rt:=Q } (dR ["sign","one"] ds):=by
 rintro ds Q ⟨s,a,b,rfl,hs,ba,q⟩;rw[cL 0 rfl];unfold VG;walk_at "rd";exact⟨hs.bl.mulOk ba,q⟩
abbrev ww (s c d e f:Int):D:=.tup [.int s,fr c d,fr e f]
abbrev sp (a b g h:Int):D:=.tup [fr a b,fr g h]
def TR:FD:=λds Q=>∃s c d e f a b g h:Int,ds=[ww s c d e f,sp a b g h]/\dm s/\(0<d/\0<f/\0<b/\0<h)/\(BL 4000 c/\BL 4000 d/\BL 4000 e/\BL 4000 f/\BL 4000 a/\BL 4000 b/\BL 4000 g/\BL 4000 h) /\
 ∀p q r t,my (s*a*d+c*b) (b*d) p q->my (s*g*f+e*h) (h*f) r t->Q (sp p q r t)
def Sg:∀ds Q,TR ds Q->ds.length=2:=by rintro ds Q ⟨_,_,_,_,_,_,_,_,_,rfl,_⟩;rfl
def Oz:∀ds Q,TR ds Q->Pk JR oJ { nx:=λ_=>Q .non,rt:=Q } (dR ["move","spot","sign"] ds):=by
 rintro ds Q ⟨s,c,d,e,f,a,b,g,h,rfl,hs,⟨d0,f0,b0,h0⟩,⟨bc,bd,be,bf,ba,bb,bg,bh⟩,q⟩;rw[cL 1 rfl];unfold Pk;walk_at "rd";refine⟨s,a,b,rfl,hs,ba,_,_,_,_,rfl,⟨b0,d0⟩,⟨ba.le (yL hs.natAbs_mul),bb,bc,bd⟩,λp q' l1=>?_⟩;refine⟨s,g,h,rfl,hs,bg,_,_,_,_,rfl,⟨h0,f0⟩,⟨bg.le (yL hs.natAbs_mul),bh,be,bf⟩,λr t l2=>?_⟩;exact q _ _ _ _ l1 l2
def xE:FD:=λds Q=>∃s c d e f s' c' d' e' f':Int,ds=[ww s c d e f,ww s' c' d' e' f']/\(dm s/\dm s')/\(0<d/\0<f/\0<d'/\0<f')/\(BL 4000 c/\BL 4000 d/\BL 4000 e/\BL 4000 f/\BL 4000 c'/\BL 4000 d'/\BL 4000 e'/\BL 4000 f') /\
 ∀p q r t,my (s'*c*d'+c'*d) (d*d') p q->my (s'*e*f'+e'*f) (f*f') r t->Q (ww (s*s') p q r t)
def Cy:∀ds Q,xE ds Q->ds.length=2:=by rintro ds Q ⟨_,_,_,_,_,_,_,_,_,_,rfl,_⟩;rfl
def Ap:∀ds Q,xE ds Q->VB TR { nx:=λ_=>Q .non,rt:=Q } (dR ["first","second","shift"] ds):=by
 rintro ds Q ⟨s,c,d,e,f,s',c',d',e',f',rfl,⟨hs,vn⟩,⟨d0,f0,d0',f0'⟩,⟨bc,bd,be,bf,bc',bd',be',bf'⟩,q⟩;rw[cL 1 rfl];unfold VB;walk_at "rd";refine⟨s',c',d',e',f',c,d,e,f,rfl,vn,⟨d0',f0',d0,f0⟩,⟨bc',bd',be',bf',bc,bd,be,bf⟩,λp q' r t l1 l2=>?_⟩;walk_at "rd";exact⟨hs.bl.mulOk vn.bl,q _ _ _ _ l1 l2⟩
def rT:FD:=λds Q=>∃s c d e f:Int,ds=[ww s c d e f]/\dm s/\(BL 4000 c/\BL 4000 e)/\Q (ww s (-s*c) d (-s*e) f)
def WU:∀ds Q,rT ds Q->ds.length=1:=by rintro ds Q ⟨_,_,_,_,_,rfl,_⟩;rfl
def dm.neg (h:dm s):dm (-s):=by rcases h with rfl | rfl;exact .inr rfl;exact .inl rfl
def TH:∀ds Q,rT ds Q->MK oJ { nx:=λ_=>Q .non,rt:=Q } (dR ["move","sign"] ds):=by
 rintro ds Q ⟨s,c,d,e,f,rfl,hs,⟨bc,be⟩,q⟩;rw[cL 1 rfl];unfold MK;walk_at "rd";exact⟨_,_,_,rfl,hs.neg,bc,_,_,_,rfl,hs.neg,be,q⟩
namespace K34
open K33
structure Told (e:Int) (A:List Pt) (sh:Int) (zs:List Pt):Prop where
 ex:∃(w:Pt) (T:List Pt) (m:Int),f9 A (w::T)/\(∀x∈T,¬bj x w)/\gf e (w::T) m sh zs
def Told.same (a:Told e1 A sh1 zs1) (b:Told e2 B ud uh) (h1:0<e1) (h2:0<e2) (eq:A.map (scl e2)=B.map (scl e1)) (nd:A.Nodup):sh1=ud/\zs1=uh:=by
 obtain⟨w1,T1,m1,ra,l1,N1⟩:=a;obtain⟨w2,T2,m2,rb,l2,N2⟩:=b;have rr:f9 ((w1::T1).map (scl e2)) ((w2::T2).map (scl e1)):=((ra.symm.map (scl e2)).trans (by rw[eq];exact f9.refl _)).trans (rb.map (scl e1));have nd1:((w1::T1).map (scl e2)).Nodup:=vU (scl e2) (λa b hn h=>hn (JL h2 h)) (ra.nodup nd);rw[aV,aV] at rr;rw[aV] at nd1;have eq:=rr.least nd1 (λx hx=>by obtain⟨y,hy,rfl⟩:=bJ.mp hx;rw[CU h2];exact l1 y hy) λx hx=>by obtain⟨y,hy,rfl⟩:=bJ.mp hx;rw[CU h1];exact l2 y hy
 exact N1.same N2 h2 h1 (gM ..) (by simpa using eq)
def Told.ring (a:Told e A sh zs):∃A',f9 A A'/\zs.map (scl e)=A'.map (scl sh):=by
 obtain⟨w,T,m,ra,l,N⟩:=a;refine⟨w::T,ra,?_⟩;have h1:=N.cs_eq;have h2:=N.sh_eq;rw[h1,dN];refine kQ λz _=>?_;show scl e z=(sh*(m*z.1),sh*(m*z.2));rw[h2];exact lD (by dsimp only[scl];grind) (by dsimp only[scl];grind)
def Mr {cs:List Pt} {ds:List Pt} (h:kh share cs m sh ds j):Told share cs sh (turned j ds):=by
 obtain⟨w,T,e,l⟩:=h.first;have N:=h.norm;rw[e] at N;exact⟨w,T,m,by rw[<-e];exact GR j cs,l,N⟩
def Wp (share:Int) (hs:0<share) (cs:List Pt):∃g,f8 share cs g:=by
 have key:∀(todo done:List Pt),(∃g,f8 share done g)->∃g,f8 share (done++todo) g:=by
  intro todo
  induction todo with
  | nil=>intro done h;simpa using h
  | cons z todo ih =>
   intro done ⟨g,h⟩;have:=ih (done++[z]) ⟨_,h.snoc z⟩;simpa using this
 refine key cs [] ⟨share.natAbs,?_⟩;refine⟨by lia,Int.natAbs_dvd.mpr (pC _),λz hz=>absurd hz gB,λd h1 _=>?_⟩;exact Int.ofNat_dvd.mp (Int.dvd_natAbs.mpr h1)
def Gr (he:0<e) (cs:List Pt):∃m sh zs,gf e cs m sh zs:=by
 obtain⟨g,G⟩:=Wp e he cs;have gp:(0:Int)<g:=by have:=G.pos;lia
 have back:∀x:Int,(g:Int)∣x->(g:Int)*(x / g)=x:=λx h=>jD h;refine⟨g,e / g,cs.map λz=>(z.1 / g,z.2 / g),⟨gp,(back e G.sh).symm,?_,λd h1 h2=>?_⟩⟩
 ·rw[dN]
  conv=>lhs;rw[<-oO cs]
  refine kQ λz hz=>?_;obtain⟨a,b⟩:=G.all z hz;exact lD (back _ a).symm (back _ b).symm
 ·have dg:((d*g:Nat):Int)∣e:=by
   rw[<-back e G.sh];obtain⟨c,hc⟩:=h1;exact⟨c,by rw[hc];push_cast;grind⟩
  have da:∀z∈cs,((d*g:Nat):Int)∣z.1/\((d*g:Nat):Int)∣z.2:=λz hz=>by
   obtain⟨a,b⟩:=G.all z hz;obtain⟨⟨c1,h3⟩,⟨c2,h4⟩⟩:=h2 _ (bJ.mpr ⟨z,hz,rfl⟩);dsimp only at h3 h4;exact⟨⟨c1,by rw[<-back z.1 a,h3];push_cast;grind⟩,⟨c2,by rw[<-back z.2 b,h4];push_cast;grind⟩⟩
  have:=G.most _ dg da;have le:=wO G.pos this;have dp:0<d:=by
   rcases uU d with h | h
   ·subst h;rw[Nat.zero_mul] at this;have:=xJ this;have:=G.pos;lia
   ·exact h
  have g0:=G.pos;by_cases h:d=1
  ·exact h
  ·have:2*g<=d*g:=BG g (by lia);lia
def Ug (he:0<e) (hA:A≠[]):∃sh zs,Told e A sh zs:=by
 obtain⟨w,T,r,l⟩:=wC A hA;obtain⟨m,sh,zs,N⟩:=Gr he (w::T);exact⟨sh,zs,w,T,m,r,l,N⟩
def f9.mapOf {α β:Type} {f:α->β} {A:List α} {B':List β} (r:f9 (A.map f) B'):∃B,f9 A B/\B'=B.map f:=by
 obtain⟨X,Y,e1,e2⟩:=r;obtain⟨X',Y',h1,h2,h3⟩:=nE.mp e1;exact⟨Y'++X',⟨X',Y',h1,rfl⟩,by rw[e2,dM,h2,h3]⟩
def cellOf (ns:List Int) (k:Int):Int:=if k<(ns.length:Int) then (ns.getD k.toNat 0).fmod qt else 0
def F_cell34:FD:=λds Q=>∃(ns:List Int) (k:Int),ds=[il ns,.int k]/\0<=k/\∀c,0<=c->c<qt->c=cellOf ns k->Q (.int c)
def len_cell34:∀ds Q,F_cell34 ds Q->ds.length=2:=by rintro ds Q ⟨_,_,rfl,_⟩;rfl
def pure_law_cell34:∀ds Q,F_cell34 ds Q->JH { nx:=λ_=>Q .non,rt:=Q } (dR ["_law_script","_law_k"] ds):=by
 rintro ds Q ⟨ns,k,rfl,hk,q⟩;rw[cL 0 rfl];unfold JH;walk_at "rd";split
 ·rename_i dk;have dk:k<(ns.length:Int):=by simpa using dk
  have hj:k.toNat<ns.length:=by lia
  refine yU (x:=.int ns[k.toNat]) (Ce (j:=k.toNat) (by lia) (by rw[bZ,aE hj];rfl)) ?_;refine⟨QV,mU,?_⟩;obtain⟨e0,e1⟩:=fQ (a:=ns[k.toNat]) (b:=qt) (by decide);refine q _ e0 e1 ?_;unfold cellOf;rw[if_pos dk,dW,aE hj,lA]
 ·rename_i dk;have dk:¬k<(ns.length:Int):=by simpa using dk
  refine q 0 (by decide) (by decide) ?_;unfold cellOf;rw[if_neg dk]
structure mr (f:P2):Prop where
 pos:0<f.2
 top:BL 40 f.1
 bot:BL 12 f.2
def Vc (h0:0<=f) (h1:BL 200 f) (a0:0<=x) (a1:x<2*f+1):BL 210 (x-f):=by
 refine (h1.mono).le ?_;lia
end K34
namespace K36
open K34 K33
def Ue (a:Told e1 A sh zs) (h1:0<e1) (h2:0<e2) (hB:B≠[]) (eq:A.map (scl e2)=B.map (scl e1)) (nd:A.Nodup):Told e2 B sh zs:=by
 obtain⟨ud,uh,b⟩:=Ug h2 hB;obtain⟨rfl,rfl⟩:=Told.same a b h1 h2 eq nd;exact b
def aff (S lo hi:Int) (z:Pt):Pt:=(z.1*S,z.1*lo+z.2*hi)
def YA (S lo hi:Int) (a b c:Pt):bT (aff S lo hi a) (aff S lo hi b) (aff S lo hi c)=S*hi*bT a b c:=by unfold bT aff;dsimp only;grind
def Qq (S lo hi:Int) (a b:Pt):ci (aff S lo hi a) (aff S lo hi b)=S*hi*ci a b:=by unfold ci aff;dsimp only;grind
def Fl {S lo hi:Int} (hS:0<S) (hh:0<hi) (h:aff S lo hi a=aff S lo hi b):a=b:=by
 unfold aff at h;simp only[eQ] at h;have e1:a.1=b.1:=oK (by lia) h.1;have e2:a.2=b.2:=oK (a:=hi) (by lia) (by have:=h.2;rw[e1] at this;lia);exact lD e1 e2
def Fk {S lo hi:Int} (hS:0<S) (hh:0<hi) (c:a_ P):a_ (P.map (aff S lo hi)):=c.map (aL hS hh) (YA S lo hi) λa b h=>Fl hS hh h
def gx (t:Int) (a b:Pt):Pt:=((((b.2-t).natAbs:Int)*a.1+((a.2-t).natAbs:Int)*b.1) / (((a.2-t).natAbs:Int)+((b.2-t).natAbs:Int)),t)
def J9 (σ t:Int) (a b:Pt):List Pt:=(if σ*(a.2-t)<=0 then [a] else [])++(if (a.2-t)*(b.2-t)<0 then [gx t a b] else [])
def gPl (σ t:Int):List Pt->List Pt
 | []=>[]
 | [_]=>[]
 | a::b::r=>J9 σ t a b++gPl σ t (b::r)
def U' (t:Int):List Pt->Bool
 | []=>true
 | [_]=>true
 | a::b::r=>(decide (¬(a.2-t)*(b.2-t)<0) || decide ((((a.2-t).natAbs:Int)+((b.2-t).natAbs:Int))*(gx t a b).1=((b.2-t).natAbs:Int)*a.1+((a.2-t).natAbs:Int)*b.1)) && U' t (b::r)
abbrev Io (σ t:Int) (P:List Pt):List Pt:=gPl σ t (P++P.take 1)
def E9 (P:List Pt):List (List Pt):=(dZ (P.length+1)).map λk=>P.drop k++P.take k
def Tw (h:f9 P P'):P'∈E9 P:=by
 obtain⟨X,Y,rfl,rfl⟩:=h;refine bJ.mpr ⟨X.length,gR.mpr (by simp;lia),?_⟩;simp
def E8 (A B:List Pt):Bool:=(dZ (A.length+1)).any λk=>decide (B=A.drop k++A.take k)
def Tv (h:E8 A B=true):f9 A B:=by
 obtain⟨k,_,e⟩:=JT.mp h;have e:=of_decide_eq_true e;exact⟨A.take k,A.drop k,(gL k A).symm,e⟩
def QJ:List Pt->List (Pt × Pt)
 | []=>[]
 | [_]=>[]
 | a::b::r=>(a,b)::QJ (b::r)
theorem CC:∀{l:List Pt} {a b:Pt},gz l a b->(a,b)∈QJ l
 | l,a,b,⟨[],r,e⟩=>by subst e;exact dX
 | l,a,b,⟨[x],r,e⟩=>by subst e;exact bQ _ (CC ⟨[],r,rfl⟩)
 | l,a,b,⟨x::y::t,r,e⟩=>by subst e;exact bQ _ (CC ⟨y::t,r,rfl⟩)
def Ra (P:List Pt):Bool:=decide (3<=P.length) && decide P.Nodup && (QJ (P++P.take 1)).all λp=>P.all λq=>decide (q=p.1) || decide (q=p.2) || decide (0<bT p.1 p.2 q)
def Fv (h:Ra P=true):a_ P:=by
 unfold Ra at h;simp only[hU,decide_eq_true_eq] at h;refine⟨h.1.1,h.1.2,λa b c8 q hq n1 n2=>?_⟩;have:=mP.mp (mP.mp h.2 _ (CC c8)) q hq;simp only[ML,decide_eq_true_eq] at this;rcases this with (z | z) | z
 ·exact absurd z n1
 ·exact absurd z n2
 ·exact z
def tO:List (List Pt):=[[(0,0),(24,0),(24,24),(0,24)],[(0,0),(24,0),(24,24)],[(0,0),(24,24),(0,24)],[(0,0),(24,0),(0,24)],[(24,0),(24,24),(0,24)],[(0,0),(8,0),(8,24),(0,24)],[(8,0),(24,0),(24,24),(8,24)]]
def Vw:List Int:=[3,6,9,12,15,18,21]
def B_ (σ t:Int) (P:List Pt):Bool:=Ra P && Ra (Io σ t P) && decide ((0,0)∈P.map λa:Pt=>((0:Int),a.2)) && decide ((0,24)∈P.map λa:Pt=>((0:Int),a.2)) && (E9 P).all λP'=>U' t (P'++P'.take 1) && E8 (Io σ t P) (Io σ t P')
def Qw:∀P∈tO,∀t∈Vw,B_ 1 t P=true/\B_ (-1) t P=true:=by decide +kernel
def Cj (hσ:σ=1\/σ = -1) (hP:P∈tO) (ht:t∈Vw):(a_ P/\a_ (Io σ t P))/\((∃a∈P,a.2=0)/\∃a∈P,a.2=24)/\∀P',f9 P P'->U' t (P'++P'.take 1)=true/\f9 (Io σ t P) (Io σ t P'):=by
 have c:B_ σ t P=true:=by
  obtain⟨a,b⟩:=Qw P hP t ht;rcases hσ with rfl | rfl
  ·exact a
  ·exact b
 unfold B_ at c;simp only[hU,decide_eq_true_eq] at c;obtain⟨⟨⟨⟨c1,c2⟩,c3⟩,c4⟩,c5⟩:=c;refine⟨⟨Fv c1,Fv c2⟩,⟨?_,?_⟩,λP' r=>?_⟩
 ·obtain⟨a,ha,e⟩:=bJ.mp c3;exact⟨a,ha,by simpa using congrArg XX e⟩
 ·obtain⟨a,ha,e⟩:=bJ.mp c4;exact⟨a,ha,by simpa using congrArg XX e⟩
 ·have:=mP.mp c5 P' (Tw r);rw[hU] at this;exact⟨this.1,Tv this.2⟩
section
variable {e sh br c σ t S lo hi:Int}
theorem Bm (T0:Told e A sh cs):(∀z∈cs,∃a∈A,scl e z=scl sh a)/\∀a∈A,∃z∈cs,scl e z=scl sh a:=by
 obtain⟨A',r,eq⟩:=T0.ring;constructor
 ·intro z hz;have:scl e z∈A'.map (scl sh):=by rw[<-eq];exact dP hz
  obtain⟨a,ha,ee⟩:=bJ.mp this;exact⟨a,(r.mem a).mpr ha,ee.symm⟩
 ·intro a ha;have:scl sh a∈cs.map (scl e):=by rw[eq];exact dP ((r.mem a).mp ha)
  obtain⟨z,hz,ee⟩:=bJ.mp this;exact⟨z,hz,ee⟩
end
structure Fm (s h:Pt):Prop where
 ls:mr s
 h1:0<h.1
 b1:BL 10 h.1
 h2:0<h.2
 b2:BL 10 h.2
abbrev nI (s h:Pt) (z:Pt):Pt:=aff (s.2*h.2) (s.1*h.2) (h.1*s.2) z
abbrev eF (s h:Pt):Int:=24*(s.2*h.2)
def zy (P:List Pt):Prop:=∀a∈P,(0<=a.1/\a.1<=24)/\0<=a.2/\a.2<=24
def Gp (s h:Pt) (P:List Pt) (sh:Int) (cs:List Pt):Prop:=Told (eF s h) (P.map (nI s h)) sh cs
section
def Fm.sp (f:Fm s h):0<s.2*h.2:=aL f.ls.pos f.h2
def Fm.hp (f:Fm s h):0<h.1*s.2:=aL f.h1 f.ls.pos
def Fm.ep (f:Fm s h):0<eF s h:=aL (by decide) f.sp
def Zq (h0:0<=x) (h1:x<=24):BL 5 x:=(BL.const (n:=5) (i:=24) (by decide)).le (by lia)
def RV (he:0<e) (T:Told e A sh zs):0<sh:=by
 obtain⟨w,T',m,_,_,N⟩:=T;have:=N.sh_eq;rw[this] at he;exact sI N.mpos he
def Uf (he:0<e) (T:Told e A sh zs) (be:BL k e) (bA:∀a∈A,BL n a.1/\BL n a.2):BL k sh/\(∀z∈zs,BL n z.1/\BL n z.2)/\zs.length=A.length:=by
 obtain⟨w,T',m,r,_,N⟩:=T;have mp:=N.mpos;have le:∀x:Int,x.natAbs<=(m*x).natAbs:=λx=>by
  rw[lC];exact qZ _ (by lia)
 refine⟨be.le (by rw[N.sh_eq];exact le sh),λz hz=>?_,?_⟩
 ·have mz:((m*z.1,m*z.2):Pt)∈A:=(r.mem _).mpr (by rw[N.cs_eq];exact bJ.mpr ⟨z,hz,rfl⟩);obtain⟨c1,c2⟩:=bA _ mz;exact⟨c1.le (le _),c2.le (le _)⟩
 ·obtain⟨X,Y,e1,e2⟩:=r;have l1:=congrArg fI e1;have l2:=congrArg fI e2;have l3:=congrArg fI N.cs_eq;simp at l1 l2 l3;lia
theorem Uh (he:0<e) (T:Told e A sh zs) (c:a_ A):c6 sh zs:=by
 have hp:=RV he T;obtain⟨w,T',m,r,l,N⟩:=T;have ec:w::T'=zs.map (scl m):=N.cs_eq;refine⟨hp,a_.unscl N.mpos (by rw[<-ec];exact c.rot r),?_,N.cop⟩;cases zs with
 | nil=>simp at ec
 | cons z' T2 =>
  simp only[aV,gA] at ec;refine⟨z',T2,rfl,λq hq dk=>?_⟩;refine l (scl m q) (by rw[ec.2];exact dP hq) ?_;rw[ec.1];exact (CU N.mpos).mpr dk
def Gp.facts (f:Fm s h) (g:zy P) (c:a_ P) (T:Gp s h P sh cs):c6 sh cs/\BL 40 sh/\(∀z∈cs,BL 70 z.1/\BL 70 z.2)/\cs.length=P.length:=by
 have bS:BL 22 (s.2*h.2):=(f.ls.bot.mul f.b2).mono;have bl:BL 50 (s.1*h.2):=(f.ls.top.mul f.b2).mono;have bh:BL 22 (h.1*s.2):=(f.b1.mul f.ls.bot).mono;have be:BL 40 (eF s h):=((BL.const (n:=5) (i:=24) (by decide)).mul bS).mono;obtain⟨q1,q2,q3⟩:=Uf f.ep T be (n:=70) (λa ha=>by
  obtain⟨z,hz,rfl⟩:=bJ.mp ha;obtain⟨⟨x0,x1⟩,y0,y1⟩:=g z hz;have bx:=Zq x0 x1;have rj:=Zq y0 y1;exact⟨(bx.mul bS).mono,((bx.mul bl).add (rj.mul bh)).mono⟩)
 exact⟨Uh f.ep T (Fk f.sp f.hp c),q1,q2,by rw[q3,cN]⟩
end
def QU:∀P∈tO,zy P:=by unfold zy;decide +kernel
structure lh (m:Mv):Prop where
 sg:m.1=1\/m.1 = -1
 q0:0<m.2.1.2
 v0:0<m.2.2.2
 cx:cJ m.2.1.1 m.2.1.2=1
 cy:cJ m.2.2.1 m.2.2.2=1
 bp:BL 400 m.2.1.1
 bq:BL 400 m.2.1.2
 bu:BL 400 m.2.2.1
 bv:BL 400 m.2.2.2
structure T5 (dn:Pt) (m m':Mv):Prop where
 sg:m'.1=m.1
 x:m'.2.1.1*m.2.1.2=m.2.1.1*m'.2.1.2
 y:m'.2.2.1*(dn.2*m.2.2.2)=(m.1 * -dn.1*m.2.2.2+m.2.2.1*dn.2)*m'.2.2.2
abbrev Bt:=List Pt × Int × List Pt × Mv
def j5 (b:Bt):D:=.tup [pc b.2.1 b.2.2.1,jc b.2.2.2]
structure ui (s h:Pt) (b:Bt):Prop where
 poly:b.1∈tO
 gp:Gp s h b.1 b.2.1 b.2.2.1
 mf:lh b.2.2.2
 bp:BL 210 b.2.2.2.2.1.1
 bq:BL 210 b.2.2.2.2.1.2
 bu:BL 210 b.2.2.2.2.2.1
 bv:BL 210 b.2.2.2.2.2.2
def Xk {z:Pt}:ot (pt z):=.cons .int (.cons .int .nil)
def Qm:FD:=λds Q=>∃a b c d:Int,ds=[.tup [.int a,.int b],.tup [.int c,.int d]]/\(BL 5000 a/\BL 5000 b/\BL 5000 c/\BL 5000 d)/\Q (.tup [.int (a*d+c*b),.int (b*d)])
def Yk:∀ds Q,Qm ds Q->sR { nx:=λ_=>Q .non,rt:=Q } (dR ["_law_one","_law_other"] ds):=by
 rintro ds Q ⟨a,b,c,d,rfl,⟨b1,b2,b3,b4⟩,q⟩;rw[cL 0 rfl];unfold sR;walk_at "rd";exact⟨b1.mulOk b4,b3.mulOk b2,b2.mulOk b4,q⟩
def F_area3:FD:=λds Q=>∃(sh:Int) (zs:List Pt),ds=[pc sh zs]/\(BL 9000 sh/\XY 9000 zs/\1<=zs.length/\zs.length<=100)/\Q (.tup [.int (iF ci zs),.int (sh*sh)])
def len_area3:∀ds Q,F_area3 ds Q->ds.length=1:=by rintro ds Q ⟨_,_,rfl,_⟩;rfl
def pure_area3:∀ds Q,F_area3 ds Q->CL { nx:=λ_=>Q .non,rt:=Q } (dR ["_law_piece","_law_total","_law_k","_law_one","_law_two"] ds):=by
 rintro ds Q ⟨sh,zs,rfl,⟨bs,hS,l1,l2⟩,q⟩;rw[cL 4 rfl];unfold CL;simp only[iP,Bb,aV,cD,aY,bV];have pos:0<zs.length:=by lia
 refine cM (λρ=>ρ=[aa (pc sh zs),aa (.int 0),none,none,none]) (λK hK=>?_) ?_
 ·walk_at "rd";exact hK _ rfl
 rintro ρ rfl;refine cM (λρ=>∃a b c:Option L2.R2.S,ρ=[aa (pc sh zs),aa (.int (iF ci zs)),a,b,c]) (λK hK=>?_) ?_
 ·simp only[nT,RJ,aC,aX,r1,r2,rC,kT,vC,aM,aH,aJ,S.val,cN];refine⟨by constructor <;> lia,?_⟩;have nn:(((zs.length:Nat):Int)).toNat=zs.length:=by lia
  simp only[nn];refine NW 0 zs.length (λi ρ=>∃a b c:Option L2.R2.S,ρ=[aa (pc sh zs),aa (.int (dw ci (rg zs (zs.length-1)) (zs.take i))),a,b,c]) ?_ ?_ _ ⟨none,none,none,rfl⟩
  ·rintro i ρ hi ⟨a,b,c,rfl⟩ F _ _ hn _;obtain⟨p1,p2⟩:=hS _ (wZ pos (i+(zs.length-1)));obtain⟨q1,q2⟩:=hS _ (wZ pos i);unfold wE;walk_at "rd";rw[IR hi];walk_at "rd";simp only[BT hi];walk_at "rd";refine⟨p1.mulOk q2,p2.mulOk q1,hn _ ⟨aa (.int (0+(i:Int))),aa (pt (rg zs (i+(zs.length-1)))),aa (pt (rg zs i)),?_⟩⟩;rw[Oy ci hi];unfold ci;rw[Int.add_sub_assoc]
  ·rintro ρ ⟨a,b,c,rfl⟩;rw[rZ,Tn ci pos];exact hK _ ⟨a,b,c,rfl⟩
 rintro ρ ⟨a,b,c,rfl⟩;walk_at "rd";exact⟨bs.mulOk bs,q⟩
section
def Rq (g:Gp s h P sh zs):eF s h*eF s h*iF ci zs=sh*sh*((s.2*h.2)*(h.1*s.2)*iF ci P):=by
 obtain⟨A',r,eq⟩:=Told.ring g;have e1:=vB (eF s h) zs;rw[eq,vB] at e1;have:(λx y=>ci (nI s h x) (nI s h y))=λx y=>s.2*h.2*(h.1*s.2)*ci x y:=by funext x y;exact Qq _ _ _ x y
 rw[<-e1,<-yS r,BO,this,OY]
end
def F_isfr:FD:=λds Q=>∃p:Pt,ds=[pt p]/\(0<p.2/\cJ p.1 p.2=1)/\Q (.bl true)
def len_isfr:∀ds Q,F_isfr ds Q->ds.length=1:=by rintro ds Q ⟨_,rfl,_⟩;rfl
def pure_isfr:∀ds Q,F_isfr ds Q->tS zN CZ { nx:=λ_=>Q .non,rt:=Q } (dR ["_law_found"] ds):=by
 rintro ds Q ⟨p,rfl,⟨h1,h2⟩,q⟩;rw[cL 0 rfl];unfold tS;walk_at "rd";refine⟨p.1,rfl,?_⟩;walk_at "rd";refine⟨p.2,rfl,?_⟩;walk_at "rd";simp only[h1,decide_true,if_true];refine⟨p.1,p.2,rfl,?_⟩;walk_at "rd";rw[h2];exact q
def IE (h:av (R.map f) a b):∃x y,av R x y/\f x=a/\f y=b:=by
 obtain⟨l,r,e⟩:=h;rw[<-jV,<-dM] at e;obtain⟨l',r',e1,rfl,e2⟩:=nE.mp e;obtain⟨x,r2,rfl,e3,e4⟩:=jY.mp e2;obtain⟨y,r3,rfl,e5,e6⟩:=jY.mp e4;exact⟨x,y,⟨l',r3,e1⟩,e3,e5⟩
theorem QG:∀{l:List Pt} {a b:Pt},(a,b)∈QJ l->gz l a b
 | [],_,_,h=>by cases h
 | [_],_,_,h=>by cases h
 | x::y::r,a,b,h=>by
  rcases aO.mp h with e | h
  ·cases e;exact⟨[],r,rfl⟩
  ·exact (QG h).cons x
def fu (I J N:Int) (a b:Pt):Int:=(b.1-a.1)*(J-a.2*N)-(b.2-a.2)*(I-a.1*N)
structure qq (s h:Pt) (X Y W I J N:Int):Prop where
 w:0<W
 n:0<N
 x:eF s h*X*N=W*(I*(s.2*h.2))
 y:eF s h*Y*N=W*(I*(s.1*h.2)+J*(h.1*s.2))
def gv (I J N:Int) (P:List Pt):Int:=if ((QJ (P++P.take 1)).all λp=>decide (0<fu I J N p.1 p.2))=true then 1 else if ((QJ (P++P.take 1)).all λp=>decide (0<=fu I J N p.1 p.2))=true then 0 else -1
section
def HW [DecidablePred p]:((QJ (P++P.take 1)).all λx=>decide (p x))=true↔∀a b,av P a b->p (a,b):=by
 rw[mP];constructor
 ·intro h a b c;exact of_decide_eq_true (h _ (CC c))
 ·intro h x hx;exact decide_eq_true (h x.1 x.2 (QG hx))
def Wr (h:∀a b,av P a b->0<fu I J N a b):gv I J N P=1:=by
 unfold gv;rw[if_pos (HW.mpr h)]
def Rt (h:∀a b,av P a b->0<=fu I J N a b) (z:∃a b,av P a b/\fu I J N a b<=0):gv I J N P=0:=by
 obtain⟨a,b,c,z⟩:=z;unfold gv;rw[if_neg (λk=>by have:=HW.mp k a b c;dsimp only at this;lia),if_pos (HW.mpr h)]
def Wq (z:∃a b,av P a b/\fu I J N a b<0):gv I J N P = -1:=by
 obtain⟨a,b,c,z⟩:=z;unfold gv;rw[if_neg (λk=>by have:=HW.mp k a b c;dsimp only at this;lia),if_neg (λk=>by have:=HW.mp k a b c;dsimp only at this;lia)]
def mC {c1 c2 x y:Int} (h1:0<c1) (h2:0<c2) (e:c1*x=c2*y):(0<x↔0<y)/\(x<0↔y<0):=by
 rcases fK x 0 with k | rfl | k
 ·have:=fZ h1 k;have hy:y<0:=by
   apply eV.mp;intro z;have:=cY (aQ h2) z;lia
  lia
 ·rw[pE] at e;rcases sY.mp e.symm with z | z <;> lia
 ·have:=aL h1 k;have hy:0<y:=by
   apply eV.mp;intro z;have:=eM (aQ h2) z;lia
  lia
def VH (sp:qq s h X Y W I J N) (ea:scl (eF s h) a=scl sh (nI s h p)) (eb:scl (eF s h) b=scl sh (nI s h q)) :
  eF s h*eF s h*N*d_ sh X Y W a b=sh*sh*W*(s.2*h.2)*(h.1*s.2)*fu I J N p q:=by
 obtain⟨_,_,sx,sy⟩:=sp;unfold scl nI aff at ea eb;simp only[eQ] at ea eb;obtain⟨a1,a2⟩:=ea;obtain⟨b1,b2⟩:=eb;rw[<-XQ];unfold fu;generalize eF s h=e at *;generalize s.2*h.2=A at *;generalize s.1*h.2=B at *;generalize h.1*s.2=C at *;have l:e*e*N*((b.1-a.1)*(Y*sh-a.2*W)-(b.2-a.2)*(X*sh-a.1*W))=(e*b.1-e*a.1)*(sh*(e*Y*N)-W*N*(e*a.2))-(e*b.2-e*a.2)*(sh*(e*X*N)-W*N*(e*a.1)):=by grind
 rw[l,a1,a2,b1,b2,sx,sy];grind
def UQ (f:Fm s h) (g:Gp s h P sh cs) (sp:qq s h X Y W I J N) (h1:∃a b,av cs a b/\M=d_ sh X Y W a b) (h2:∀a b,av cs a b->M<=d_ sh X Y W a b):zj M=gv I J N P:=by
 have h0:=RV f.ep g;have c1:0<eF s h*eF s h*N:=aL (aL f.ep f.ep) sp.n;have c2:0<sh*sh*W*(s.2*h.2)*(h.1*s.2):=aL (aL (aL (aL h0 h0) sp.w) f.sp) f.hp;obtain⟨A',r,eq⟩:=Told.ring g;have l1:∀a b,av cs a b->∃p q,av P p q/\eF s h*eF s h*N*d_ sh X Y W a b=sh*sh*W*(s.2*h.2)*(h.1*s.2)*fu I J N p q:=λa b c=>by
  have k:=IF (f:=scl (eF s h)) c;rw[eq] at k;obtain⟨x,y,k1,ex,ey⟩:=IE k;obtain⟨p,q,k2,rfl,rfl⟩:=IE (DF r k1);exact⟨p,q,k2,VH sp ex.symm ey.symm⟩
 have l2:∀p q,av P p q->∃a b,av cs a b/\eF s h*eF s h*N*d_ sh X Y W a b=sh*sh*W*(s.2*h.2)*(h.1*s.2)*fu I J N p q:=λp q c=>by
  have c:=IF (f:=scl sh) (DF r.symm (IF (f:=nI s h) c));rw[<-eq] at c;obtain⟨x,y,c,ex,ey⟩:=IE c;exact⟨x,y,c,VH sp ex ey⟩
 obtain⟨a,b,c,e⟩:=h1;obtain⟨p,q,c',ee⟩:=l1 a b c;rw[<-e] at ee;have sg:=mC c1 c2 ee;have ge:∀p q,av P p q->∃x,M<=x/\(0<x↔0<fu I J N p q)/\(x<0↔fu I J N p q<0):=λp q c=>by
  obtain⟨a,b,k,ee⟩:=l2 p q c;exact⟨_,h2 a b k,mC c1 c2 ee⟩
 unfold zj;rcases fK M 0 with k | k | k
 ·rw[Wq ⟨p,q,c',sg.2.mp k⟩,if_neg (by lia),if_pos k];decide
 ·rw[Rt (λp q c=>by obtain⟨x,u,v,w⟩:=ge p q c;lia) ⟨p,q,c',by lia⟩,if_neg (by lia),if_neg (by lia)];decide
 ·rw[Wr (λp q c=>by obtain⟨x,u,v,w⟩:=ge p q c;lia),if_pos k,if_neg (by lia)];decide
end
def Kt (w:Int):List (List Pt):=if w=0 then [[(0,0),(24,0),(24,24),(0,24)]] else if w=1 then [[(0,0),(24,0),(24,24)],[(0,0),(24,24),(0,24)]] else if w=2 then [[(0,0),(24,0),(0,24)],[(24,0),(24,24),(0,24)]] else [[(0,0),(8,0),(8,24),(0,24)],[(8,0),(24,0),(24,24),(8,24)]]
def RZ:List (List (List Pt)):=[Kt 0,Kt 1,Kt 2,Kt 3]
def Zi (h0:0<=w) (h1:w<4):Kt w∈RZ:=by
 unfold RZ;have:w=0\/w=1\/w=2\/w=3:=by lia
 rcases this with rfl | rfl | rfl | rfl <;> simp
def Ku:∀w∈RZ,w.length<=2/\∀P∈w,P∈tO:=by decide +kernel
def qv (a b c:Pt):gv I J N [a,b,c]=if 0<fu I J N a b/\0<fu I J N b c/\0<fu I J N c a then 1 else if 0<=fu I J N a b/\0<=fu I J N b c/\0<=fu I J N c a then 0 else -1:=by
 unfold gv;simp only[QJ,tM,BF,aY,bV,EL,List.all_nil,wJ,hU,decide_eq_true_eq]
def ro (a b c d:Pt):gv I J N [a,b,c,d]=if 0<fu I J N a b/\0<fu I J N b c/\0<fu I J N c d/\0<fu I J N d a then 1 else if 0<=fu I J N a b/\0<=fu I J N b c/\0<=fu I J N c d/\0<=fu I J N d a then 0 else -1:=by
 unfold gv;simp only[QJ,tM,BF,aY,bV,EL,List.all_nil,wJ,hU,decide_eq_true_eq]
def KP {A B:Prop} [Decidable A] [Decidable B] {D:Int} (h1:0<D->A) (h2:D=0->¬A/\B) (h3:D<0->¬A/\¬B):(D=0/\(if A then 1 else if B then 0 else -1:Int)=0)\/(0<D/\(if A then 1 else if B then 0 else -1:Int)=1)\/(D<0/\(if A then 1 else if B then 0 else -1:Int) = -1):=by
 rcases fK D 0 with k | k | k
 ·obtain⟨a,b⟩:=h3 k;rw[if_neg a,if_neg b];exact .inr (.inr ⟨k,rfl⟩)
 ·obtain⟨a,b⟩:=h2 k;rw[if_neg a,if_pos b];exact .inl ⟨k,rfl⟩
 ·rw[if_pos (h1 k)];exact .inr (.inl ⟨k,rfl⟩)
def XU {I J N D:Int} (h1:(D=0/\gv I J N P=0)\/(0<D/\gv I J N P=1)\/(D<0/\gv I J N P = -1)) (h2:(-D=0/\gv I J N R=0)\/(0 < -D/\gv I J N R=1)\/(-D<0/\gv I J N R = -1)) (h:∀T∈[P,R],gv I J N T≠0) :
  ([P,R].filter λT=>decide (gv I J N T=1)).length=1:=by
 have n1:=h P (by simp);rcases h1 with ⟨d,e⟩ | ⟨d,e⟩ | ⟨d,e⟩
 ·exact absurd e n1
 ·rcases h2 with ⟨d',e'⟩ | ⟨d',e'⟩ | ⟨d',e'⟩
  ·lia
  ·lia
  ·simp[e,e']
 ·rcases h2 with ⟨d',e'⟩ | ⟨d',e'⟩ | ⟨d',e'⟩
  ·lia
  ·simp[e,e']
  ·lia
def Ul (i0:0<I) (i1:I<24*N) (j0:0<J) (j1:J<24*N):∀w∈RZ,(∀P∈w,gv I J N P≠0)->(w.filter λP=>decide (gv I J N P=1)).length=1:=by
 intro w hw h;unfold RZ at hw;simp only[aO,gB,or_false] at hw;rcases hw with rfl | rfl | rfl | rfl
 ·have e:gv I J N [(0,0),(24,0),(24,24),(0,24)]=1:=by
   rw[ro,if_pos];unfold fu;dsimp only;lia
  show ([[(0,0),(24,0),(24,24),(0,24)]].filter _).length=1;simp[e]
 ·refine XU (P:=[(0,0),(24,0),(24,24)]) (R:=[(0,0),(24,24),(0,24)]) (D:=I-J) ?_ ?_ h
  ·rw[qv];unfold fu;dsimp only;exact KP (λ_=>by lia) (λ_=>by lia) λ_=>by lia
  ·rw[qv];unfold fu;dsimp only;exact KP (λ_=>by lia) (λ_=>by lia) λ_=>by lia
 ·refine XU (P:=[(0,0),(24,0),(0,24)]) (R:=[(24,0),(24,24),(0,24)]) (D:=24*N-I-J) ?_ ?_ h
  ·rw[qv];unfold fu;dsimp only;exact KP (λ_=>by lia) (λ_=>by lia) λ_=>by lia
  ·rw[qv];unfold fu;dsimp only;exact KP (λ_=>by lia) (λ_=>by lia) λ_=>by lia
 ·refine XU (P:=[(0,0),(8,0),(8,24),(0,24)]) (R:=[(8,0),(24,0),(24,24),(8,24)]) (D:=8*N-I) ?_ ?_ h
  ·rw[ro];unfold fu;dsimp only;exact KP (λ_=>by lia) (λ_=>by lia) λ_=>by lia
  ·rw[ro];unfold fu;dsimp only;exact KP (λ_=>by lia) (λ_=>by lia) λ_=>by lia
abbrev Iw (m:Mv) (X Y W:Int):D:=gr ((m.1*X*m.2.1.2+m.2.1.1*W)*m.2.2.2) ((m.1*Y*m.2.2.2+m.2.2.1*W)*m.2.1.2) (W*m.2.1.2*m.2.2.2)
def F_ledL:FD:=λds Q=>∃(m:Mv) (X Y W:Int),ds=[jc m,gr X Y W]/\(lh m/\BL 400 X/\BL 400 Y/\BL 400 W)/\Q (Iw m X Y W)
def len_ledL:∀ds Q,F_ledL ds Q->ds.length=2:=by rintro ds Q ⟨_,_,_,_,rfl,_⟩;rfl
def pure_ledL:∀ds Q,F_ledL ds Q->MG { nx:=λ_=>Q .non,rt:=Q } (dR ["_law_move_here","_law_spot","_law_sign","_law_dx","_law_dy","_law_x","_law_y"] ds):=by
 rintro ds Q ⟨⟨sg,⟨p,q'⟩,u,v⟩,X,Y,W,rfl,⟨mf,bX,bY,bW⟩,q⟩;have bs:BL 2 sg:=by have:=mf.sg;exact BL.of_lt (m:=2) (by dsimp only at this;lia) (by dsimp only at this;lia)
 have bp:BL 400 p:=mf.bp;have bq:BL 400 q':=mf.bq;have bu:BL 400 u:=mf.bu;have bv:BL 400 v:=mf.bv;rw[cL 5 rfl];unfold MG jc;simp only[iP,Kk,aV,cD,aY,bV];walk_at "rd";refine⟨bs.mulOk bX,(bs.mul bX).mulOk bq,bp.mulOk bW,(((bs.mul bX).mul bq).add (bp.mul bW)).mulOk bv,bs.mulOk bY,(bs.mul bY).mulOk bv,bu.mulOk bW,(((bs.mul bY).mul bv).add (bu.mul bW)).mulOk bq,bW.mulOk bq,(bW.mul bq).mulOk bv,q⟩
def F_spotin:FD:=λds Q=>∃(n:Int) (s h:Pt),ds=[.int n,pt s,pt h]/\Fm s h/\∀X Y W I J N,qq s h X Y W I J N->((0<I/\I<24*N)/\0<J/\J<24*N)->(BL 200 X/\BL 200 Y/\BL 200 W)->Q (gr X Y W)
def len_spotin:∀ds Q,F_spotin ds Q->ds.length=3:=by rintro ds Q ⟨_,_,_,rfl,_⟩;rfl
def pure_spotin:∀ds Q,F_spotin ds Q->AC { nx:=λ_=>Q .non,rt:=Q } (dR ["_law_cell_here","_law_s","_law_h","_law_number","_law_x","_law_y","_law_share"] ds):=by
 rintro ds Q ⟨n,s,h,rfl,f,q⟩;rw[cL 4 rfl];unfold AC;simp only[iP,Bb,aV,cD,aY,bV];refine cM (λρ=>∃k:Int,(0<=k/\k<2147483629)/\ρ=[aa (.int n),aa (pt s),aa (pt h),aa (.int k),none,none,none]) (λK hK=>?_) ?_
 ·obtain⟨a0,a1⟩:=fQ (a:=n) (b:=1000000000) (by decide);have b7:BL 41 (n.fmod 1000000000+7):=BL.of_lt (m:=41) (by lia) (by lia);have b31:BL 41 (n.fmod 1000000000+31):=BL.of_lt (m:=41) (by lia) (by lia);obtain⟨c0,c1⟩:=fQ (a:=(n.fmod 1000000000+7)*(n.fmod 1000000000+31)*48271) (b:=2147483629) (by decide);walk_at "rd";exact⟨QV,mU,QV,mU,b7.mulOk b31,(b7.mul b31).mulOk (BL.const (n:=20) (by decide)),mU,hK _ ⟨_,⟨c0,c1⟩,rfl⟩⟩
 rintro ρ ⟨k,hk,rfl⟩;have bk:BL 40 k:=BL.of_lt (m:=40) (by lia) (by lia);refine cM (λρ=>∃x:Int,(1<=x/\x<=1008)/\ρ=[aa (.int n),aa (pt s),aa (pt h),aa (.int k),aa (.int x),none,none]) (λK hK=>?_) ?_
 ·obtain⟨a0,a1⟩:=fQ (a:=k) (b:=1008) (by decide);walk_at "rd";exact⟨mU,hK _ ⟨_,⟨by lia,by lia⟩,rfl⟩⟩
 rintro ρ ⟨x,hx,rfl⟩;refine cM (λρ=>∃y:Int,(1<=y/\y<=9972)/\ρ=[aa (.int n),aa (pt s),aa (pt h),aa (.int k),aa (.int x),aa (.int y),none]) (λK hK=>?_) ?_
 ·obtain⟨a0,a1⟩:=fQ (a:=(k*69621).fmod 2147483587) (b:=9972) (by decide);walk_at "rd";exact⟨bk.mulOk (BL.const (n:=20) (by decide)),mU,mU,hK _ ⟨_,⟨by lia,by lia⟩,rfl⟩⟩
 rintro ρ ⟨y,hy,rfl⟩;have b1:=f.ls.top;have b2:=f.ls.bot;have b3:=f.b1;have b4:=f.b2;have bx:BL 11 x:=BL.of_lt (m:=11) (by lia) (by lia);have rj:BL 14 y:=BL.of_lt (m:=14) (by lia) (by lia);have k9:BL 14 9973:=BL.const (by decide);have k1:BL 14 1009:=BL.const (by decide);have kk:BL 30 10062757:=BL.const (by decide);refine cM (λρ=>ρ=[aa (.int n),aa (pt s),aa (pt h),aa (.int k),aa (.int x),aa (.int y),aa (.int (10062757*s.2*h.2))]) (λK hK=>?_) ?_
 ·walk_at "rd";exact⟨k1.mulOk k9,kk.mulOk b2,(kk.mul b2).mulOk b4,hK _ rfl⟩
 rintro ρ rfl;walk_at "rd";refine⟨bx.mulOk k9,(bx.mul k9).mulOk b2,((bx.mul k9).mul b2).mulOk b4,bx.mulOk b1,(bx.mul b1).mulOk k9,((bx.mul b1).mul k9).mulOk b4,rj.mulOk b3,(rj.mul b3).mulOk k1,((rj.mul b3).mul k1).mulOk b2,?_⟩;have S0:=f.sp;refine q _ _ _ (24*x*9973) (24*y*1009) 10062757 ⟨?_,by decide,?_,?_⟩ ⟨⟨by lia,by lia⟩,by lia,by lia⟩ ⟨?_,?_,?_⟩
 ·have:10062757*s.2*h.2=10062757*(s.2*h.2):=by grind
  rw[this];lia
 ·unfold eF;grind
 ·unfold eF;grind
 ·exact (((bx.mul k9).mul b2).mul b4).mono
 ·exact ((((bx.mul b1).mul k9).mul b4).add (((rj.mul b3).mul k1).mul b2)).mono
 ·exact ((kk.mul b2).mul b4).mono
structure HB (s h:Pt) (L:List Bt):Prop where
 fm:Fm s h
 len:L.length<=4
 each:∀b∈L,Gp s h b.1 b.2.1 b.2.2.1/\(a_ b.1/\b.1.length<=10)/\zy b.1/\lh b.2.2.2
abbrev o5 (I J N:Int) (b:Bt):Bool:=decide (gv I J N b.1=1)
def F_homesG:FD:=λds Q=>∃(s h:Pt) (L:List Bt) (X Y W I J N:Int),ds=[.lst (L.map j5),gr X Y W]/\(HB s h L/\qq s h X Y W I J N)/\(BL 400 X/\BL 400 Y/\BL 400 W) /\
 ((∃b∈L,gv I J N b.1=0)->Q .non)/\((∀b∈L,gv I J N b.1≠0)->Q (.lst ((L.filter (o5 I J N)).map λb=>Iw b.2.2.2 X Y W)))
def len_homesG:∀ds Q,F_homesG ds Q->ds.length=2:=by rintro ds Q ⟨_,_,_,_,_,_,_,_,_,rfl,_⟩;rfl
def pure_homesG:∀ds Q,F_homesG ds Q->xX F_ledL AW { nx:=λ_=>Q .non,rt:=Q } (dR ["_law_bits_here","_law_spot","_law_found","_law_piece","_law_move_here","_law_where"] ds):=by
 rintro ds Q ⟨s,h,L,X,Y,W,I,J,N,rfl,⟨hb,sp⟩,⟨bX,bY,bW⟩,q0,q1⟩;rw[cL 4 rfl];unfold xX;simp only[iP,Bb,aV,cD,aY,bV];refine cM (λρ=>ρ=[aa (.lst (L.map j5)),aa (gr X Y W),some (.own []),none,none,none]) (λK hK=>?_) ?_
 ·walk_at "rd";exact hK _ rfl
 rintro ρ rfl;refine cM (λρ=>∃u v w,(∀b∈L,gv I J N b.1≠0)/\ρ=[aa (.lst (L.map j5)),aa (gr X Y W),some (.own ((L.filter (o5 I J N)).map λb=>Iw b.2.2.2 X Y W)),u,v,w]) (λK hK=>?_) ?_
 ·simp only[nT,riL,cI,aH];refine kG (λys ρ=>∃(dn td:List Bt) (u v w:Option L2.R2.S),L=dn++td/\ys=td.map j5/\(∀b∈dn,gv I J N b.1≠0)/\ρ=[aa (.lst (L.map j5)),aa (gr X Y W),some (.own ((dn.filter (o5 I J N)).map λb=>Iw b.2.2.2 X Y W)),u,v,w]) ?_ ?_ _ _ ⟨[],L,none,none,none,rfl,rfl,by simp,rfl⟩
  ·rintro y ys ρ ⟨dn,td,u,v,w,ec,ey,hd,rfl⟩ F hr rq hn _;cases td with
   | nil=>cases ey
   | cons b td =>
    cases ey;have mb:b∈L:=(by rw[ec];simp);obtain⟨g,⟨cv,l10⟩,gi,mf⟩:=hb.each b mb;obtain⟨ip,bs,bz,lz⟩:=Gp.facts hb.fm gi cv g;have l3:=cv.len;unfold tR j5;simp only[qS,hE,qR,eU,cG,fJ,true_and,bD,bC];refine cM (λρ=>ρ=[aa (.lst (L.map j5)),aa (gr X Y W),some (.own ((dn.filter (o5 I J N)).map λb=>Iw b.2.2.2 X Y W)),aa (pc b.2.1 b.2.2.1),aa (jc b.2.2.2),aa (.int (gv I J N b.1))]) (λK jp=>?_) ?_
    ·simp only[eX,cU,aC,aX,cI,aH,aJ,bD,bC];refine⟨b.2.1,b.2.2.1,X,Y,W,rfl,⟨bs.mono,λz hz=>⟨(bz z hz).1.mono,(bz z hz).2.mono⟩,by lia,by lia⟩,⟨bX.mono,bY.mono,bW.mono⟩,λM h1 h2=>?_⟩;rw[UQ hb.fm g sp h1 h2];exact jp _ rfl
    rintro ρ rfl;generalize hm:jc b.2.2.2=MD;generalize hp:pc b.2.1 b.2.2.1=PD;refine cM (λρ=>gv I J N b.1≠0/\ρ=[aa (.lst (L.map j5)),aa (gr X Y W),some (.own ((dn.filter (o5 I J N)).map λb=>Iw b.2.2.2 X Y W)),aa PD,aa MD,aa (.int (gv I J N b.1))]) (λK jp=>?_) ?_
    ·by_cases z:gv I J N b.1=0
     ·simp only[z];walk_at "rd";exact hr ▸ q0 ⟨b,mb,z⟩
     ·walk_at "rd";simp only[z,decide_false,aN,if_false];exact jp _ ⟨z,rfl⟩
    rintro ρ ⟨hz,rfl⟩;have hd2:∀x∈dn++[b],gv I J N x.1≠0:=λx hx=>by
     rcases cS.mp hx with k | k
     ·exact hd x k
     ·rw[dY.mp k];exact hz
    have le:(dn.filter (o5 I J N)).length<=4:=by
     have:=congrArg fI ec;have:=hb.len;have:=List.length_filter_le (o5 I J N) dn;simp at *;lia
    by_cases z:gv I J N b.1=1
    ·simp only[z];simp only[kD,eG,r2,aM,rC,sT,zW,cU,aC,aX,cI,aH,aJ,bD,bC,decide_true,if_true,aN,if_false];refine⟨b.2.2.2,X,Y,W,by rw[hm],⟨mf,bX,bY,bW⟩,rS (by simp;lia),hn _ ⟨dn++[b],td,aa PD,aa MD,aa (.int 1),by rw[ec];simp,rfl,hd2,?_⟩⟩;rw[qG,dM];have:[b].filter (o5 I J N)=[b]:=(by simp[o5,z]);rw[this];rfl
    ·walk_at "rd";simp only[z,decide_false,aN,if_false];refine hn _ ⟨dn++[b],td,aa PD,aa MD,aa (.int (gv I J N b.1)),by rw[ec];simp,rfl,hd2,?_⟩;rw[qG,dM];have:[b].filter (o5 I J N)=[]:=(by simp[o5,z]);rw[this];simp
  ·rintro ρ ⟨dn,td,u,v,w,ec,ey,hd,rfl⟩;have:td=[]:=(by simpa using ey.symm);subst this;rw[fC] at ec;subst ec;exact hK _ ⟨u,v,w,hd,rfl⟩
 rintro ρ ⟨u,v,w,hd,rfl⟩;simp only[wV,S.fz,fR,cI,aH,aJ,bD,bC];exact q1 hd
section
def We (mf:lh m) (bX:BL 400 X) (bY:BL 400 Y) (bW:BL 400 W):BL 4000 ((m.1*X*m.2.1.2+m.2.1.1*W)*m.2.2.2)/\BL 4000 ((m.1*Y*m.2.2.2+m.2.2.1*W)*m.2.1.2)/\BL 4000 (W*m.2.1.2*m.2.2.2):=by
 have bs:BL 2 m.1:=by have:=mf.sg;exact BL.of_lt (m:=2) (by lia) (by lia)
 exact⟨(((((bs.mul bX).mul mf.bq).add (mf.bp.mul bW)).mul mf.bv)).mono,(((((bs.mul bY).mul mf.bv).add (mf.bu.mul bW)).mul mf.bq)).mono,((bW.mul mf.bq).mul mf.bv).mono⟩
end
def Va {A P:List Pt} (f:Fm s h) (hP:P∈tO) (h0:0<share) (h1:BL 100 share) (hA:A.length<=10) (eq:A.map (scl (eF s h))=(P.map (nI s h)).map (scl share)) (q:∀sh zs,Gp s h P sh zs->Q (pc sh zs)):OG [.int share,gh A] Q:=by
 obtain⟨⟨cP,_⟩,_⟩:=Cj (σ:=1) (.inl rfl) hP (t:=3) (by decide);have cA:=Fk f.sp f.hp cP (lo:=s.1*h.2);have nP:(P.map (nI s h)).Nodup:=cA.nodup;have n1:((P.map (nI s h)).map (scl share)).Nodup:=vU (scl share) (λa b hn k=>hn (JL h0 k)) nP;have nA:A.Nodup:=by
  rw[<-eq] at n1;exact AZ (scl (eF s h)) (λa b hn k=>hn (by rw[k])) n1
 have l3:3<=A.length:=by
  have l:=congrArg fI eq;have:=cP.len;simp at l;lia
 refine⟨share,A,rfl,⟨h0,h1⟩,⟨by rintro rfl;simp at l3,by lia⟩,λm sh zs j d=>?_⟩;exact q _ _ (Ue (Mr d) h0 f.ep (λk=>by have:=cA.len;rw[k] at this;simp at this) eq nA)
def F_cutbox:FD:=λds Q=>∃(s h:Pt) (w:Int),ds=[pt s,pt h,.int w]/\(Fm s h/\0<=w/\w<4)/\∀L:List (List Pt × Int × List Pt),L.map (·.1)=Kt w->(∀p∈L,Gp s h p.1 p.2.1 p.2.2)->Q (.lst (L.map λp=>pc p.2.1 p.2.2))
def len_cutbox:∀ds Q,F_cutbox ds Q->ds.length=3:=by rintro ds Q ⟨_,_,_,rfl,_⟩;rfl
def pure_cutbox:∀ds Q,F_cutbox ds Q->zY OG { nx:=λ_=>Q .non,rt:=Q } (dR ["_law_s","_law_h","_law_way","_law_share","_law_low","_law_high","_law_one","_law_two","_law_three","_law_four","_law_amid","_law_first"] ds):=by
 rintro ds Q ⟨s,h,w,rfl,⟨f,w0,w4⟩,q⟩;have sp:=f.sp;have bS:BL 90 (s.2*h.2):=(f.ls.bot.mul f.b2).mono;have bl:BL 90 (s.1*h.2):=(f.ls.top.mul f.b2).mono;have bh:BL 90 (h.1*s.2):=(f.b1.mul f.ls.bot).mono;have p_:∀{P A:List Pt} {R:D->Prop},P∈tO->A.length<=10->A.map (scl (eF s h))=(P.map (nI s h)).map (scl (s.2*h.2))->(∀sh zs,Gp s h P sh zs->R (pc sh zs))->OG [.int (s.2*h.2),gh A] R:=λhP hA e q=>Va f hP sp (bS.mono) hA e q;have xp:∀{P A:List Pt} {R:D->Prop},P∈tO->A.length<=10->A.map (scl (eF s h))=(P.map (nI s h)).map (scl (3*(s.2*h.2)))->(∀sh zs,Gp s h P sh zs->R (pc sh zs))->OG [.int (3*(s.2*h.2)),gh A] R:=λhP hA e q=>Va f hP (by lia) (((BL.const (n:=3) (i:=3) (by decide)).mul bS).mono) hA e q;rw[cL 9 rfl];unfold zY;simp only[iP,Yu,aV,cD,aY,bV];refine cM (λρ=>ρ=[aa (pt s),aa (pt h),aa (.int w),aa (.int (s.2*h.2)),none,none,none,none,none,none,none,none]) (λK hK=>?_) ?_
 ·walk_at "rd";exact⟨f.ls.bot.mulOk f.b2,hK _ rfl⟩
 rintro ρ rfl;refine cM (λρ=>ρ=[aa (pt s),aa (pt h),aa (.int w),aa (.int (s.2*h.2)),aa (.int (s.1*h.2)),none,none,none,none,none,none,none]) (λK hK=>?_) ?_
 ·walk_at "rd";exact⟨f.ls.top.mulOk f.b2,hK _ rfl⟩
 rintro ρ rfl;refine cM (λρ=>ρ=[aa (pt s),aa (pt h),aa (.int w),aa (.int (s.2*h.2)),aa (.int (s.1*h.2)),aa (.int (h.1*s.2)),none,none,none,none,none,none]) (λK hK=>?_) ?_
 ·walk_at "rd";exact⟨f.b1.mulOk f.ls.bot,hK _ rfl⟩
 rintro ρ rfl;have eE:eF s h=24*(s.2*h.2):=rfl;have eA:∀z,nI s h z=(z.1*(s.2*h.2),z.1*(s.1*h.2)+z.2*(h.1*s.2)):=λ_=>rfl;generalize hS:s.2*h.2=A at *;generalize hL:s.1*h.2=B at *;generalize hH:h.1*s.2=C at *;have cw:w=0\/w=1\/w=2\/w=3:=by lia
 refine cM (λρ=>w=3/\ρ=[aa (pt s),aa (pt h),aa (.int w),aa (.int A),aa (.int B),aa (.int C),none,none,none,none,none,none]) (λK hK=>?_) ?_
 ·rcases cw with rfl | rfl | rfl | rfl
  ·walk_at "rd";rw[if_pos (by decide)];refine p_ (P:=[(0,0),(24,0),(24,24),(0,24)]) (A:=[(0,0),(A,B),(A,B+C),(0,C)]) (by decide) (by simp) ?_ λsh zs g=>?_
   ·simp only[aV,cD,eA,eE,scl];simp only[gA,eQ,and_true];refine⟨⟨?_,?_⟩,⟨?_,?_⟩,⟨?_,?_⟩,?_,?_⟩ <;> grind
   ·exact q [(_,sh,zs)] rfl (by simpa using g)
  ·walk_at "rd";rw[if_pos (by decide),if_neg (by decide)];refine p_ (P:=[(0,0),(24,0),(24,24)]) (A:=[(0,0),(A,B),(A,B+C)]) (by decide) (by simp) ?_ λsh zs g=>?_
   ·simp only[aV,cD,eA,eE,scl];simp only[gA,eQ,and_true];refine⟨⟨?_,?_⟩,⟨?_,?_⟩,?_,?_⟩ <;> grind
   refine p_ (P:=[(0,0),(24,24),(0,24)]) (A:=[(0,0),(A,B+C),(0,C)]) (by decide) (by simp) ?_ λud uh g2=>?_
   ·simp only[aV,cD,eA,eE,scl];simp only[gA,eQ,and_true];refine⟨⟨?_,?_⟩,⟨?_,?_⟩,?_,?_⟩ <;> grind
   ·exact q [(_,sh,zs),(_,ud,uh)] rfl (by simpa using ⟨g,g2⟩)
  ·walk_at "rd";rw[if_pos (by decide),if_neg (by decide),if_neg (by decide)];refine p_ (P:=[(0,0),(24,0),(0,24)]) (A:=[(0,0),(A,B),(0,C)]) (by decide) (by simp) ?_ λsh zs g=>?_
   ·simp only[aV,cD,eA,eE,scl];simp only[gA,eQ,and_true];refine⟨⟨?_,?_⟩,⟨?_,?_⟩,?_,?_⟩ <;> grind
   refine p_ (P:=[(24,0),(24,24),(0,24)]) (A:=[(A,B),(A,B+C),(0,C)]) (by decide) (by simp) ?_ λud uh g2=>?_
   ·simp only[aV,cD,eA,eE,scl];simp only[gA,eQ,and_true];refine⟨⟨?_,?_⟩,⟨?_,?_⟩,?_,?_⟩ <;> grind
   ·exact q [(_,sh,zs),(_,ud,uh)] rfl (by simpa using ⟨g,g2⟩)
  ·walk_at "rd";rw[if_neg (by decide)];exact hK _ ⟨rfl,rfl⟩
 rintro ρ ⟨rfl,rfl⟩;refine cM (λρ=>ρ=[aa (pt s),aa (pt h),aa (.int 3),aa (.int A),aa (.int B),aa (.int C),none,none,none,none,aa (.lst [pt (A,B),pt (A,B+3*C)]),none]) (λK hK=>?_) ?_
 ·walk_at "rd";exact⟨(BL.const (n:=3) (i:=3) (by decide)).mulOk bh,hK _ rfl⟩
 rintro ρ rfl;refine cM (λρ=>∃sh zs,Gp s h [(0,0),(8,0),(8,24),(0,24)] sh zs/\ρ=[aa (pt s),aa (pt h),aa (.int 3),aa (.int A),aa (.int B),aa (.int C),none,none,none,none,aa (.lst [pt (A,B),pt (A,B+3*C)]),aa (pc sh zs)]) (λK hK=>?_) ?_
 ·walk_at "rd";refine⟨(BL.const (n:=3) (i:=3) (by decide)).mulOk bS,(BL.const (n:=3) (i:=3) (by decide)).mulOk bh,?_⟩;refine xp (P:=[(0,0),(8,0),(8,24),(0,24)]) (A:=[(0,0),(A,B),(A,B+3*C),(0,3*C)]) (by decide) (by simp) ?_ λsh zs g=>hK _ ⟨sh,zs,g,rfl⟩;simp only[aV,cD,eA,eE,scl];simp only[gA,eQ,and_true];refine⟨⟨?_,?_⟩,⟨?_,?_⟩,⟨?_,?_⟩,?_,?_⟩ <;> grind
 rintro ρ ⟨sh,zs,g,rfl⟩;generalize V3:pc sh zs=PD;walk_at "rd";refine⟨(BL.const (n:=3) (i:=3) (by decide)).mulOk bS,(BL.const (n:=3) (i:=3) (by decide)).mulOk bS,(BL.const (n:=3) (i:=3) (by decide)).mulOk bl,(BL.const (n:=3) (i:=3) (by decide)).mulOk bS,(BL.const (n:=3) (i:=3) (by decide)).mulOk bl,(BL.const (n:=3) (i:=3) (by decide)).mulOk bh,?_⟩;refine xp (P:=[(8,0),(24,0),(24,24),(8,24)]) (A:=[(A,B),(3*A,3*B),(3*A,3*B+3*C),(A,B+3*C)]) (by decide) (by simp) ?_ λud uh g2=>?_
 ·simp only[aV,cD,eA,eE,scl];simp only[gA,eQ,and_true];refine⟨⟨?_,?_⟩,⟨?_,?_⟩,⟨?_,?_⟩,?_,?_⟩ <;> grind
 ·rw[<-V3];exact q [(_,sh,zs),(_,ud,uh)] rfl (by simpa using ⟨g,g2⟩)
def F_move36:FD:=λds Q=>∃n:Int,ds=[.int n]/\BL 210 n/\∀m:Mv,lh m->(BL 210 m.2.1.1/\BL 210 m.2.1.2/\BL 210 m.2.2.1/\BL 210 m.2.2.2)->Q (jc m)
def len_move36:∀ds Q,F_move36 ds Q->ds.length=1:=by rintro ds Q ⟨_,rfl,_⟩;rfl
def pure_move36:∀ds Q,F_move36 ds Q->CQ TU { nx:=λ_=>Q .non,rt:=Q } (dR ["_law_number","_law_far","_law_dx","_law_dy"] ds):=by
 rintro ds Q ⟨n,rfl,bn,q⟩;rw[cL 3 rfl];unfold CQ;simp only[iP,Po,aV,cD,aY,bV];refine cM (λρ=>∃f:Int,(0<=f/\BL 200 f)/\ρ=[aa (.int n),aa (.int f),none,none]) (λK hK=>?_) ?_
 ·walk_at "rd";obtain⟨a0,a1⟩:=fQ (a:=n.fdiv 2) (b:=2) (by decide);refine⟨QV,(BL.const (n:=9000) (by decide)).divOk (by decide),mU,?_⟩;refine Fx a0 (by simpa using a1) λx hx=>?_;obtain⟨f,rfl,f0,f1⟩:=Zz hx;exact hK _ ⟨f,⟨f0,f1⟩,rfl⟩
 rintro ρ ⟨f,⟨f0,f1⟩,rfl⟩;have fp:(2*f+1)≠0:=by lia
 refine cM (λρ=>∃x:Pt,(0<x.2/\BL 210 x.1/\BL 3 x.2/\cJ x.1 x.2=1)/\ρ=[aa (.int n),aa (.int f),aa (pt x),none]) (λK hK=>?_) ?_
 ·walk_at "rd";obtain⟨a0,a1⟩:=fQ (a:=n*48271) (b:=1000000007) (by decide);obtain⟨b0,b1⟩:=fQ (a:=n.fdiv 4) (b:=4) (by decide);obtain⟨c0,c1⟩:=fQ (a:=(n*48271).fmod 1000000007*69621) (b:=2*f+1) (by lia);refine⟨bn.mulOk (BL.const (n:=20)),mU,(BL.of_lt (m:=40) (by lia) (by lia)).mulOk (BL.const (n:=20)),(BL.const (n:=20)).mulOk f1,⟨fp⟩,(BL.const (n:=9000) (by decide)).divOk (by decide),mU,?_⟩;have bq:BL 3 (1+(n.fdiv 4).fmod 4):=BL.of_lt (m:=3) (by lia) (by lia);refine⟨_,_,rfl,⟨by lia,bq.mono⟩,λp q' l=>hK _ ⟨(p,q'),⟨l.pos,(Vc f0 f1 c0 c1).le l.lea,bq.le l.leb,l.cop⟩,rfl⟩⟩
 rintro ρ ⟨x,hx,rfl⟩;refine cM (λρ=>∃y:Pt,(0<y.2/\BL 210 y.1/\BL 3 y.2/\cJ y.1 y.2=1)/\ρ=[aa (.int n),aa (.int f),aa (pt x),aa (pt y)]) (λK hK=>?_) ?_
 ·walk_at "rd";obtain⟨b0,b1⟩:=fQ (a:=n.fdiv 16) (b:=3) (by decide);obtain⟨c0,c1⟩:=fQ (a:=n) (b:=2*f+1) (by lia);refine⟨(BL.const (n:=20)).mulOk f1,⟨fp⟩,(BL.const (n:=9000) (by decide)).divOk (by decide),mU,?_⟩;have bq:BL 3 (1+(n.fdiv 16).fmod 3):=BL.of_lt (m:=3) (by lia) (by lia);refine⟨_,_,rfl,⟨by lia,bq.mono⟩,λp q' l=>hK _ ⟨(p,q'),⟨l.pos,(Vc f0 f1 c0 c1).le l.lea,bq.le l.leb,l.cop⟩,rfl⟩⟩
 rintro ρ ⟨y,hy,rfl⟩;walk_at "rd";obtain⟨b0,b1⟩:=fQ (a:=n) (b:=2) (by decide);obtain⟨x1,x2,x3,x4⟩:=hx;obtain⟨y1,y2,y3,y4⟩:=hy;exact⟨mU,(BL.const (n:=20)).mulOk (BL.of_lt (m:=20) (by lia) (by lia)),q (_,x,y) ⟨by dsimp only;lia,x1,y1,x4,y4,x2.mono,x3.mono,y2.mono,y3.mono⟩ ⟨x2,x3.mono,y2,y3.mono⟩⟩
def sS (I:En->Prop) (h1:∀K:En->Prop,(∀ρ',I ρ'->K ρ')->t { nx:=K,rt:=E.rt } ρ) (h2:∀ρ',I ρ'->u E ρ'):xS t u E ρ:=h1 (u E) h2
def WM {α:Type} {f:α->D} {xs:List α} (h:∀x∈xs,fb n (f x) (f x)=some true):ji (fb n) (xs.map f) (xs.map f)=some true :=
 sU _ λx hx=>by
  obtain⟨y,hy,rfl⟩:=bJ.mp hx;exact h y hy
def Zy (b:Bt):fb 7 (j5 b) (j5 b)=some true:=by
 show ji (fb 6) _ _=_;refine sU _ λx hx=>?_;simp only[aO,gB,or_false] at hx;rcases hx with rfl | rfl
 ·show ji (fb 5) _ _=_;refine sU _ λx hx=>?_;simp only[aO,gB,or_false] at hx;rcases hx with rfl | rfl
  ·exact NU 4 _
  ·show ji (fb 4) _ _=_;exact WM λz _=>NV 2 z
 ·show ji (fb 5) _ _=_;refine sU _ λx hx=>?_;simp only[aO,gB,or_false] at hx;rcases hx with rfl | rfl | rfl
  ·exact NU 4 _
  ·exact NV 3 _
  ·exact NV 3 _
def Ro (bs:List Bt) (fs:List Pt):ji (fb 8) [.lst (bs.map j5),gh fs] [.lst (bs.map j5),gh fs]=some true:=by
 refine sU _ λx hx=>?_;simp only[aO,gB,or_false] at hx;rcases hx with rfl | rfl
 ·show ji (fb 7) _ _=_;exact WM λb _=>Zy b
 ·show ji (fb 7) _ _=_;exact WM λz _=>NV 5 z
def Xh {s h:Pt} (ls:mr s) (l:my a b h.1 h.2) (ha:0<a) (hb:0<b) (ba:BL 10 a) (bb:BL 10 b):Fm s h:=by
 refine⟨ls,?_,ba.le l.lea,l.pos,bb.le l.leb⟩;have w:=l.worth;have:=aL ha l.pos;rw[<-w,gM] at this;exact sI hb this
abbrev om (G:Hp) (x:D):Option L2.R2.S:=some (.mem true x (Oj G x))
end K36
section
theorem RW:∀(l:List Pt),l≠[]->∃u∈l,∀z∈l,af L z<=af L u
 | [],h=>absurd rfl h
 | [x],_=>⟨x,by simp,λz hz=>by simp at hz;subst hz;exact qN _⟩
 | x::y::l,_=>by
  obtain⟨u,hu,h⟩:=RW (y::l) (by simp);by_cases k:af L x<=af L u
  ·exact⟨u,by simp at hu ⊢;exact cV hu,λz hz=>by
    rcases aO.mp hz with rfl | hz
    ·exact k
    ·exact h z hz⟩
  ·exact⟨x,by simp,λz hz=>by
    rcases aO.mp hz with rfl | hz
    ·exact qN _
    ·have:=h z hz;lia⟩
def Qb (t u v:Pt) (r:H3):fo L r*bT t u v=(af L t-af L u)*gN (ap u) (ap v) r+(af L v-af L u)*gN (ap t) (ap u) r+af L u*r.2.2*bT t u v:=by
 unfold fo af gN bT ap;dsimp only;grind
def Bd (c:a_ cs):∃t u v,av cs t u/\av cs u v/\u∈cs/\0<bT t u v/\∀z∈cs,af L z<=af L u:=by
 obtain⟨u,hu,top⟩:=RW (L:=L) cs (by intro e;have:=c.len;rw[e] at this;simp at this);obtain⟨t,v,h1,h2,nt⟩:=OZ c hu;exact⟨t,u,v,h1,h2,hu,c.strict t u h1 v (av.mem h2).2 (Ne.symm nt) (Ne.symm (c.ne h2)),top⟩
def Tt (c:a_ cs) (hle:∀z∈cs,af L z<=0) (hw:0<=r.2.2) (hr:∀u v,av cs u v->0<=gN (ap u) (ap v) r):fo L r<=0:=by
 obtain⟨t,u,v,h1,h2,hu,D,top⟩:=Bd (L:=L) c;have e:=Qb (L:=L) t u v r;have a1:=dU (show af L t-af L u<=0 by have:=top t (av.mem h1).1;lia) (hr u v h2);have a2:=dU (show af L v-af L u<=0 by have:=top v (av.mem h2).2;lia) (hr t u h1);have a3:=dU (dU (hle u hu) hw) (aQ D);apply gX.mp;intro h;have:=aL h D;lia
def Tu (c:a_ cs) (hle:∀z∈cs,af L z<=0) (gm:∃z∈cs,af L z≠0) (hw:0<r.2.2) (hr:∀u v,av cs u v->0<gN (ap u) (ap v) r):fo L r<0:=by
 obtain⟨t,u,v,h1,h2,hu,D,top⟩:=Bd (L:=L) c;have e:=Qb (L:=L) t u v r;have lt:=top t (av.mem h1).1;have lv:=top v (av.mem h2).2;have a1:=dU (show af L t-af L u<=0 by lia) (aQ (hr u v h2));have a2:=dU (show af L v-af L u<=0 by lia) (aQ (hr t u h1));have a3:=dU (dU (hle u hu) (aQ hw)) (aQ D);have key:fo L r*bT t u v<0:=by
  rcases jR (hle u hu) with k | k
  ·have:=iV (iV k hw) D;lia
  ·by_cases kt:af L t<af L u
   ·have:=iV (show af L t-af L u<0 by lia) (hr u v h2);lia
   ·by_cases kv:af L v<af L u
    ·have:=iV (show af L v-af L u<0 by lia) (hr t u h1);lia
    ·exfalso;have et:af L t=0:=(by lia);have ev:af L v=0:=(by lia);have on:∀z,af L z=0->lg L 1 z:=λz hz=>(by unfold af at hz;unfold lg;lia);by_cases c8:L.a≠0\/L.b≠0
     ·rw[CH c8 (on t et) (on u k) (on v ev)] at D;lia
     ·have z1:L.a=0:=cC λq=>c8 (cW q);have z2:L.b=0:=cC λq=>c8 (cV q);obtain⟨z,_,hz⟩:=gm;unfold af at hz k;rw[z1,z2] at hz k;simp at hz k;lia
 apply eV.mp;intro h;have:=cY h (aQ D);lia
end
theorem Nd:∀(l:List Pt),∃D,gw D/\∀z,z∈D↔z∈l
 | []=>⟨[],by unfold gw;simp,by simp⟩
 | x::l=>by
  obtain⟨D,h,e⟩:=Nd l;have ins:∀(D:List Pt),gw D->∃D',gw D'/\∀z,z∈D'↔z=x\/z∈D:=by
   intro D
   induction D with
   | nil=>intro _;exact⟨[x],by unfold gw;simp,by simp⟩
   | cons y D ih =>
    intro h;unfold gw at h;have h':=cH.mp h;rcases qB x y with k | k | k
    ·refine⟨x::y::D,?_,by simp⟩;unfold gw;refine cH.mpr ⟨λz hz=>?_,h⟩;rcases aO.mp hz with rfl | hz
     ·exact k
     ·exact qQ k (h'.1 z hz)
    ·subst k;exact⟨x::D,h,by simp⟩
    ·obtain⟨D',i,m⟩:=ih h'.2;refine⟨y::D',?_,λz=>?_⟩
     ·unfold gw;refine cH.mpr ⟨λz hz=>?_,i⟩;rcases (m z).mp hz with rfl | hz
      ·exact k
      ·exact h'.1 z hz
     ·simp only[aO,m z];constructor
      ·rintro (a | a | a) <;> simp[a]
      ·rintro (a | a | a) <;> simp[a]
  obtain⟨D',i,m⟩:=ins D h;exact⟨D',i,λz=>by rw[m z,e z];simp⟩
def Be {S T:List Pt} (c1:a_ (z::S)) (c2:a_ (w::T)) (l1:∀q∈S,¬bj q z) (l2:∀q∈T,¬bj q w) (h1:∀a b,av (z::S) a b->∀q∈w::T,0<=bT a b q) (h2:∀a b,av (w::T) a b->∀q∈z::S,0<=bT a b q):z::S=w::T:=by
 obtain⟨D,i,m⟩:=Nd ((z::S)++(w::T));have e1:=zH (L:=z::S) i c1 l1 (λq hq=>(m q).mpr (fD _ hq)) λa b c8 q hq=>by
  rcases cS.mp ((m q).mp hq) with k | k
  ·exact c1.side c8 k
  ·exact h1 a b c8 q k
 have e2:=zH (L:=z::S) i c2 l2 (λq hq=>(m q).mpr (bP _ hq)) λa b c8 q hq=>by
  rcases cS.mp ((m q).mp hq) with k | k
  ·exact h2 a b c8 q k
  ·exact c2.side c8 k
 rw[<-e1,e2]
def Hm (s1 s2:Int) (a b q:Pt):bT (scl s2 a) (scl s2 b) (scl s1 q)=s2*d_ s1 q.1 q.2 s2 a b:=by unfold d_ gN ap bT scl;dsimp only;grind
def a_.scl (hk:0<k) (c:a_ l):a_ (l.map (L2.R2.scl k)):=c.map (aL hk hk) (Bf k) λa b h=>JL hk h
def Jy (p1:c6 s1 z1) (p2:c6 s2 z2) (h1:∀q∈z2,∀a b,av z1 a b->0<=d_ s1 q.1 q.2 s2 a b) (h2:∀q∈z1,∀a b,av z2 a b->0<=d_ s2 q.1 q.2 s1 a b):s1=s2/\z1=z2:=by
 obtain⟨z,S,e1,l1⟩:=p1.first;obtain⟨w,T,e2,l2⟩:=p2.first;have q1:=p1.pos;have q2:=p2.pos;have c1:=p1.cvx.scl q2;have c2:=p2.cvx.scl q1;have back:∀{k:Int} {l:List Pt} {x y:Pt},av (l.map (scl k)) x y->∃a b,av l a b/\x=scl k a/\y=scl k b:=by
  intro k l x y h;have h':gz ((l++l.take 1).map (scl k)) x y:=by rw[dM,jV];exact h
  exact WY h'
 have eq:z1.map (scl s2)=z2.map (scl s1):=by
  subst e1 e2;rw[aV,aV] at *;refine Be c1 c2 (λq hq=>?_) (λq hq=>?_) (λa b c8 q hq=>?_) λa b c8 q hq=>?_
  ·obtain⟨y,hy,rfl⟩:=bJ.mp hq;rw[CU q2];exact l1 y hy
  ·obtain⟨y,hy,rfl⟩:=bJ.mp hq;rw[CU q1];exact l2 y hy
  ·obtain⟨a',b',h,rfl,rfl⟩:=back (l:=z::S) c8;obtain⟨y,hy,rfl⟩:=bJ.mp (show q∈(w::T).map (scl s1) from hq);rw[Hm];exact cY (by lia) (h1 y hy a' b' h)
  ·obtain⟨a',b',h,rfl,rfl⟩:=back (l:=w::T) c8;obtain⟨y,hy,rfl⟩:=bJ.mp (show q∈(z::S).map (scl s2) from hq);rw[Hm];exact cY (by lia) (h2 y hy a' b' h)
 exact MC (a:=s2) (b:=s1) q2 q1 (gM ..) eq p1.cop p2.cop
def P2 (l:iv) (sh:Int) (cs:List Pt) (s:Int) (d:D):Prop:=d = .non\/∃(br:Int) (zs:List Pt),d=pc br zs/\c6 br zs/\(BL 9000 br/\XY 9000 zs/\zs.length<=100)/\∀z∈zs,0<=(l.a*z.1+l.b*z.2-l.c*br)*s/\∀a b,av cs a b->0<=d_ sh z.1 z.2 br a b
def Oc (c:a_ cs) (c8:L.a≠0\/L.b≠0):¬ ∀z∈cs,af L z=0:=by
 intro h;have h3:=c.len;have on:∀i,lg L 1 (rg cs i):=λi=>by
  have:=h _ (wZ (cs:=cs) (by lia) i);unfold af at this;unfold lg;lia
 have:=c.bend_rg 0;rw[CH c8 (on _) (on _) (on _)] at this;lia
def NH (l:iv) (sh X Y W:Int):fo (nS l sh) (sh*X,sh*Y,W)=sh*(l.a*X+l.b*Y-l.c*W):=by unfold fo nS;dsimp only;grind
def Vq (h:-x<=0):0<=x:=by lia
def Vo (h:0<=-x):x<=0:=by lia
def Vr (h:-x<0) (k:x<=0):False:=by lia
def Vp (h:0 < -x) (k:0<=x):False:=by lia
def iq (sh:Int) (cs:List Pt) (X Y W:Int):Prop:=∀a b,av cs a b->0<=d_ sh X Y W a b
def ig (sh:Int) (cs:List Pt) (X Y W:Int):Prop:=∀a b,av cs a b->0<d_ sh X Y W a b
def qC (c:a_ zs) (h0:0<sh) (h:∀z∈zs,α*z.1+β*z.2+γ*sh<=0) (hw:0<=W) (hr:iq sh zs X Y W):α*X+β*Y+γ*W<=0:=by
 have e:=Tt (L:=⟨α,β,-γ*sh⟩) c (λz hz=>by have:=h z hz;unfold af;dsimp only;grind) (r:=(sh*X,sh*Y,W)) hw hr;have e2:fo ⟨α,β,-γ*sh⟩ (sh*X,sh*Y,W)=sh*(α*X+β*Y+γ*W):=by unfold fo;dsimp only;grind
 rw[e2] at e;apply gX.mp;intro k;have:=aL h0 k;lia
def zJ (c:a_ zs) (h0:0<sh) (c8:α≠0\/β≠0) (h:∀z∈zs,α*z.1+β*z.2+γ*sh<=0) (hw:0<W) (hr:ig sh zs X Y W):α*X+β*Y+γ*W<0:=by
 have nf:=Oc (L:=⟨α,β,-γ*sh⟩) c c8;have e:=Tu (L:=⟨α,β,-γ*sh⟩) c (λz hz=>by have:=h z hz;unfold af;dsimp only;grind) (cC λk=>nf λz hz=>cC λq=>k ⟨z,hz,q⟩) (r:=(sh*X,sh*Y,W)) hw hr;have e2:fo ⟨α,β,-γ*sh⟩ (sh*X,sh*Y,W)=sh*(α*X+β*Y+γ*W):=by unfold fo;dsimp only;grind
 rw[e2] at e;apply eV.mp;intro k;have:=cY (aQ h0) k;lia
def DX (sh X Y W:Int) (u v:Pt):d_ sh X Y W u v=sh*(u.2-v.2)*X+sh*(v.1-u.1)*Y+(u.1*v.2-u.2*v.1)*W:=by unfold d_ gN ap;dsimp only;grind
structure o8 (l:iv) (sh:Int) (cs:List Pt) (br:Int) (zs:List Pt):Prop where
 ip:c6 br zs
 closed:∀X Y W,0<=W->(iq br zs X Y W↔iq sh cs X Y W/\l.a*X+l.b*Y-l.c*W<=0)
 opened:∀X Y W,0<W->(ig br zs X Y W↔ig sh cs X Y W/\l.a*X+l.b*Y-l.c*W<0)
def OE (l:iv) (X Y W:Int):l.a*X+l.b*Y-l.c*W=l.a*X+l.b*Y + -l.c*W:=by grind
theorem yR (ip:c6 sh cs) (ab:l.a≠0\/l.b≠0) (r:db (nS l sh) sh cs d) :
  (d = .non/\∀X Y W,0<W->ig sh cs X Y W->¬l.a*X+l.b*Y-l.c*W<0)\/∃br zs,d=pc br zs/\o8 l sh cs br zs:=by
 have c:=ip.cvx;have h0:=ip.pos;cases r with
 | whole h =>
  refine cV ⟨sh,cs,rfl,ip,λX Y W hw=>⟨λk=>⟨k,?_⟩,λk=>k.1⟩,λX Y W hw=>⟨λk=>⟨k,?_⟩,λk=>k.1⟩⟩
  ·rw[OE];exact qC c h0 (λz hz=>by have:=h z hz;rw[qI] at this;unfold exc at this;grind) hw k
  ·rw[OE];exact zJ c h0 ab (λz hz=>by have:=h z hz;rw[qI] at this;unfold exc at this;grind) hw k
 | nothing h n =>
  refine cW ⟨rfl,λX Y W hw k=>?_⟩;have:=zJ (α:=-l.a) (β:=-l.b) (γ:=l.c) c h0 (by lia) (λz hz=>by have:=h z hz;rw[qI] at this;unfold exc at this;grind) hw k;grind
 | @part hp hn br zs h =>
  have f:=h.facts c hp hn h0;refine cV ⟨br,zs,rfl,f.isPc,λX Y W hw=>⟨λk=>⟨λu v wu=>?_,?_⟩,λk=>λa b c8=>?_⟩,λX Y W hw=>⟨λk=>⟨λu v wu=>?_,?_⟩,λk=>f.inside c hn k.1 ?_⟩⟩
  ·have:=qC (α:=-(sh*(u.2-v.2))) (β:=-(sh*(v.1-u.1))) (γ:=-(u.1*v.2-u.2*v.1)) f.cvx f.pos (λz hz=>by
    have:=f.left c hz wu;rw[show gN (ap u) (ap v) (sh*z.1,sh*z.2,br)=d_ sh z.1 z.2 br u v from rfl,DX] at this;grind) hw k
   rw[DX];grind
  ·rw[OE];refine qC f.cvx f.pos (λz hz=>?_) hw k;have:=f.value hz;rw[NH] at this;have k2:l.a*z.1+l.b*z.2-l.c*br<=0:=by
    apply gX.mp;intro q;have:=aL h0 q;lia
   grind
  ·obtain⟨t1,t2,κ,μ,A,hk,hm,e⟩:=f.side a b c8;have:=Lh c hn A k.1 (by
    rw[NH];exact eM (aQ h0) k.2)
   exact EW hk (by rw[e];exact cY (aQ hm) this)
  ·have ne:=c.ne wu;have:=zJ (α:=-(sh*(u.2-v.2))) (β:=-(sh*(v.1-u.1))) (γ:=-(u.1*v.2-u.2*v.1)) f.cvx f.pos (by
    by_cases e1:u.2=v.2
    ·refine cV ?_;have:v.1-u.1≠0:=λe=>ne (lD (by lia) e1);exact λz=>zQ (show sh≠0 by lia) this (MO.mp z)
    ·refine cW ?_;have:u.2-v.2≠0:=(by lia);exact λz=>zQ (show sh≠0 by lia) this (MO.mp z)) (λz hz=>by
    have:=f.left c hz wu;rw[show gN (ap u) (ap v) (sh*z.1,sh*z.2,br)=d_ sh z.1 z.2 br u v from rfl,DX] at this;grind) hw k
   rw[DX];grind
  ·rw[OE];refine zJ f.cvx f.pos ab (λz hz=>?_) hw k;have:=f.value hz;rw[NH] at this;have k2:l.a*z.1+l.b*z.2-l.c*br<=0:=by
    apply gX.mp;intro q;have:=aL h0 q;lia
   grind
  ·rw[NH];exact fZ h0 k.2
namespace K37
open K36 K34 K33
section
theorem Ot (hB:∀w∈cs,BL n w.1/\BL n w.2/\BL e (af L w)) (h:Pm L cs t):BL (n+e+1) t.1/\BL (n+e+1) t.2.1/\BL (e+1) t.2.2:=by
 cases h with
 | @corner u hu h =>
  obtain⟨a,b,_⟩:=hB u hu;exact⟨a.mono (by lia),b.mono (by lia),(BL.const (n:=1) (i:=1) (by decide)).mono (by lia)⟩
 | @cross u v hc h =>
  obtain⟨a,b,c⟩:=hB u hc.mem.1;obtain⟨a',b',c'⟩:=hB v hc.mem.2;have c:=KG c;have c':=KG c';refine⟨((c'.mul a).add (c.mul a')).mono (by lia),((c'.mul b).add (c.mul b')).mono (by lia),?_⟩;have e:(jI L u v).2.2=((af L u).natAbs:Int)+((af L v).natAbs:Int):=by unfold jI wQ ap;dsimp only;lia
  rw[e];exact (c.add c').mono (by lia)
def Gx (ip:c6 sh cs) (hp:∃z∈cs,0<af L z) (hn:∃z∈cs,af L z<0) (bs:BL a sh) (hB:∀w∈cs,BL n w.1/\BL n w.2/\BL e (af L w)) (he:e<=2000) :
  ∃br zs,iw L sh cs br zs/\BL (a+2*e+3) br/\∀z∈zs,BL (n+3*e+4) z.1/\BL (n+3*e+4) z.2:=by
 have cv:=ip.cvx;obtain⟨P',rot,cut,_⟩:=BN cv hp hn;have ic:f9 (JM L cs) P':=rot;have lP':=VI cv hp cut;generalize wk:JM L cs=SP at *;have lSP:SP.length=P'.length:=by obtain⟨X,Y,e1,e2⟩:=ic;rw[e1,e2];simp;lia
 have qk:∀t∈SP,Pm L cs t:=λt ht=>cut.pm t ((ic.mem t).mp ht);have ky:0<iC SP:=LI SP λt ht=>(qk t ht).w_pos;have qa:∀t∈SP,cm (iC SP) t:=λt ht=>cm.of ky (qk t ht).w_pos (LH SP t ht);have rf:BL (2*e+3) (iC SP):=by
  rw[uG];have l2:(SP.filter λt=>decide (t.2.2≠1)).length<=2:=by
   have:=LO cv hp cut;obtain⟨X,Y,e1,e2⟩:=ic;rw[e2] at this;rw[e1];rw[qG,dC] at this ⊢;lia
  refine (IB _ λt ht=>(Ot hB (qk t (lR.mp ht).1)).2.2).mono ?_;have:=EF (e+1) l2;lia
 have u3:∀t∈P',cm (iC SP) t:=λt ht=>qa t ((ic.mem t).mpr ht);have U4:=Mx cv hp hn cut ky u3;have xn:a_ (SP.map (gF (iC SP))):=a_.rot ((ic.map (gF (iC SP))).symm) U4;obtain⟨z,T,rt,least⟩:=wC (SP.map (gF (iC SP))) (by intro e;have:=xn.len;rw[e] at this;simp at this);have cz:=a_.rot rt xn;obtain⟨m,br,zs,N⟩:=Gr (aL ip.pos ky) (z::T);have mp:=N.mpos;have le:∀x:Int,x.natAbs<=(m*x).natAbs:=λx=>by
  rw[lC];exact qZ _ (by lia)
 have lz:zs.length=SP.length:=by
  have l1:=congrArg fI N.cs_eq;obtain⟨X,Y,e1,e2⟩:=rt;have l2:=congrArg fI e1;have l3:=congrArg fI e2;simp at l1 l2 l3;lia
 refine⟨br,zs,⟨iC SP,m,z,T,ky,by rw[wk];exact qa,by rw[wk];exact rt,least,cz,N,rf.mono (by lia),by lia⟩,?_,λw hw=>?_⟩
 ·refine BL.le ?_ (le br);rw[<-N.sh_eq];exact (bs.mul rf).mono (by lia)
 ·have mw:((m*w.1,m*w.2):Pt)∈SP.map (gF (iC SP)):=(rt.mem _).mpr (by rw[N.cs_eq];exact bJ.mpr ⟨w,hw,rfl⟩);obtain⟨t,ht,et⟩:=bJ.mp mw;obtain⟨t1,t2,_⟩:=Ot hB (qk t ht);have bq:BL (2*e+3) (iC SP / t.2.2):=by
   have:BL (2*e+3) ((iC SP).fdiv t.2.2):=rf.fdiv
   rwa [cK _ (by have:=(qk t ht).w_pos;lia)] at this
  have g1:m*w.1=t.1*(iC SP / t.2.2):=(congrArg XW et).symm;have g2:m*w.2=t.2.1*(iC SP / t.2.2):=(congrArg XX et).symm;exact⟨BL.le (by rw[g1];exact (t1.mul bq).mono (by lia)) (le w.1),BL.le (by rw[g2];exact (t2.mul bq).mono (by lia)) (le w.2)⟩
def wY (h:pc s1 z1=pc s2 z2):s1=s2/\z1=z2:=by
 simp only[pc,D.tup.injEq,gA,D.int.injEq,and_true] at h;refine⟨h.1,(List.map_inj_right λa b e=>?_).mp h.2⟩;simp only[pt,D.tup.injEq,gA,D.int.injEq,and_true] at e;exact lD e.1 e.2
def QQ (ip:c6 sh zs) (hq:q∈zs):iq sh zs q.1 q.2 sh:=λa b c=>by
 have e:d_ sh q.1 q.2 sh a b=sh*bT a b q:=by unfold d_ gN ap bT;dsimp only;grind
 rw[e];exact cY (aQ ip.pos) (ip.cvx.side c hq)
def GP (p1:c6 s1 z1) (p2:c6 s2 z2) (h:∀X Y W,0<=W->(iq s1 z1 X Y W↔iq s2 z2 X Y W)):s1=s2/\z1=z2 :=
 Jy p1 p2 (λq hq=>(h _ _ _ (aQ p2.pos)).mpr (QQ p2 hq)) λq hq=>(h _ _ _ (aQ p1.pos)).mp (QQ p1 hq)
theorem Nf (ip:c6 sh zs):∃X Y W,0<W/\ig sh zs X Y W:=by
 have c:=ip.cvx;have l3:=c.len;have nd:=c.nodup
 match zs,l3,nd with
 | p::q::r::t,_,nd =>
  have h0:=ip.pos;refine⟨p.1+q.1+r.1,p.2+q.2+r.2,3*sh,by lia,λa b cc=>?_⟩;have e:d_ sh (p.1+q.1+r.1) (p.2+q.2+r.2) (3*sh) a b=sh*(bT a b p+bT a b q+bT a b r):=by unfold d_ gN ap bT;dsimp only;grind
  rw[e];refine aL h0 ?_;have k1:=c.side cc (q:=p) (by simp);have k2:=c.side cc (q:=q) (by simp);have k3:=c.side cc (q:=r) (by simp);have st:=c.strict a b cc;simp only[fN,aO,not_or] at nd;obtain⟨⟨pq,pr,_⟩,⟨qr,_⟩,_⟩:=nd;by_cases la:p=a
  ·by_cases yo:q=b
   ·have:=st r (by simp) (λk=>pr (la.trans k.symm)) (λk=>qr (yo.trans k.symm));lia
   ·have:=st q (by simp) (λk=>pq (la.trans k.symm)) yo;lia
  ·by_cases Y0:p=b
   ·by_cases yo:q=a
    ·have:=st r (by simp) (λk=>qr (yo.trans k.symm)) (λk=>pr (Y0.trans k.symm));lia
    ·have:=st q (by simp) yo (λk=>pq (Y0.trans k.symm));lia
   ·have:=st p (by simp) la Y0;lia
def Lv (ip:c6 sh cs) (ab:l.a≠0\/l.b≠0) (bs:BL a sh) (hB:∀w∈cs,BL n w.1/\BL n w.2/\BL e (exc l w sh)) (he:e<=2000) (r:db (nS l sh) sh cs d) (ed:d=pc br zs) :
  BL (a+2*e+3) br/\∀z∈zs,BL (n+3*e+4) z.1/\BL (n+3*e+4) z.2:=by
 have cr:=yR ip ab r;rcases cr with ⟨rfl,_⟩ | ⟨s1,z1,rfl,C1⟩
 ·cases ed
 obtain⟨rfl,rfl⟩:=wY ed;by_cases hp:∃z∈cs,0<af (nS l sh) z
 ·by_cases hn:∃z∈cs,af (nS l sh) z<0
  ·obtain⟨s2,z2,p2,b1,b2⟩:=Gx (L:=nS l sh) ip hp hn bs hB he;rcases yR ip ab (db.part hp hn p2) with ⟨z,_⟩ | ⟨s3,z3,e3,C3⟩
   ·cases z
   obtain⟨rfl,rfl⟩:=wY e3;obtain⟨rfl,rfl⟩:=GP C1.ip C3.ip λX Y W hw=>(C1.closed X Y W hw).trans (C3.closed X Y W hw).symm;exact⟨b1,b2⟩
  ·exfalso;obtain⟨X,Y,W,w0,io⟩:=Nf C1.ip;obtain⟨i0,v0⟩:=(C1.opened X Y W w0).mp io;have ge:∀z∈cs,0<=af (nS l sh) z:=λz hz=>gX.mp λk=>hn ⟨z,hz,k⟩;have:=zJ (α:=-l.a) (β:=-l.b) (γ:=l.c) ip.cvx ip.pos (by lia) (λz hz=>by have:=ge z hz;rw[qI] at this;unfold exc at this;grind) w0 i0;grind
 ·have le:∀z∈cs,af (nS l sh) z<=0:=λz hz=>gX.mp λk=>hp ⟨z,hz,k⟩;rcases yR ip ab (db.whole (sh:=sh) le) with ⟨z,_⟩ | ⟨s3,z3,e3,C3⟩
  ·cases z
  obtain⟨rfl,rfl⟩:=wY e3;obtain⟨rfl,rfl⟩:=GP C1.ip C3.ip λX Y W hw=>(C1.closed X Y W hw).trans (C3.closed X Y W hw).symm;exact⟨bs.mono (by lia),λz hz=>⟨(hB z hz).1.mono (by lia),(hB z hz).2.1.mono (by lia)⟩⟩
end
def ko (sh:Int) (c:Int):Rat:=(c:Rat) / ((sh:Rat)*(sh:Rat))
def pR {s:Int} (h:0<s):(s:Rat)≠0:=by
 intro k;have:(s:Rat)=((0:Int):Rat):=by rw[k];rfl
 have:=MU.mp this;lia
def Qs {c1 c2 c s1 s2 s:Int} (h1:0<s1) (h2:0<s2) (h:0<s) (e:(c1*(s2*s2)+c2*(s1*s1))*(s*s)=c*(s1*s1)*(s2*s2)):ko s1 c1+ko s2 c2=ko s c:=by
 have n1:=pR h1;have n2:=pR h2;have n:=pR h;have e':=congrArg (λx:Int=>(x:Rat)) e;simp only[kK,zU] at e';unfold ko;grind
abbrev fv (h:Pt) (L:Int):iv:=⟨0,h.2,L*h.1⟩
abbrev gq (l:iv):iv:=⟨-l.a,-l.b,-l.c⟩
structure Hh (h:Pt):Prop where
 h1:0<h.1
 h2:0<h.2
 b1:BL 10 h.1
 b2:BL 10 h.2
structure Pz (h:Pt) (sh:Int) (cs:List Pt):Prop where
 ip:c6 sh cs
 bs:BL 40 sh
 bz:∀z∈cs,BL 70 z.1/\BL 70 z.2
 len:cs.length<=10
 rows:∀z∈cs,-26*h.1*sh<=h.2*z.2/\h.2*z.2<=27*h.1*sh
structure ly (h:Pt) (ao:Int) (cj:List Pt) (L sh:Int) (zs:List Pt):Prop where
 ip:c6 sh zs
 closed:∀X Y W,0<=W->(iq sh zs X Y W↔iq ao cj X Y W/\L*h.1*W<=h.2*Y)
 opened:∀X Y W,0<W->(ig sh zs X Y W↔ig ao cj X Y W/\L*h.1*W<h.2*Y)
structure uq (h:Pt) (ao:Int) (cj:List Pt) (L sh:Int) (zs:List Pt):Prop where
 ip:c6 sh zs
 len:zs.length<=14
 bs:BL 1300 sh
 bz:∀z∈zs,BL 1800 z.1/\BL 1800 z.2
 closed:∀X Y W,0<=W->(iq sh zs X Y W↔iq ao cj X Y W/\L*h.1*W<=h.2*Y/\h.2*Y<=(L+1)*h.1*W)
 opened:∀X Y W,0<W->(ig sh zs X Y W↔ig ao cj X Y W/\L*h.1*W<h.2*Y/\h.2*Y<(L+1)*h.1*W)
section
def Ag (h:iw L sh cs br zs):zs.length<=cs.length+2:=by
 obtain⟨_,_,_,_,_,_,_,_,_,_,_,e⟩:=h.ex;exact e
theorem Qz (r:db (nS l sh) sh cs d) (ed:d=pc br zs):zs.length<=cs.length+2:=by
 cases r with
 | whole _=>obtain⟨_,rfl⟩:=wY ed;lia
 | nothing _ _=>cases ed
 | part _ _ k=>obtain⟨_,rfl⟩:=wY ed;exact Ag k
def xj (h0:-30<=L) (h1:L<=30):BL 6 L:=BL.of_lt (m:=6) (by lia) (by lia)
def DU (h:Pt) (L X Y W:Int):(gq (fv h L)).a*X+(gq (fv h L)).b*Y-(gq (fv h L)).c*W=L*h.1*W-h.2*Y:=by unfold gq fv;dsimp only;grind
def Gn (h:Pt) (L X Y W:Int):(fv h L).a*X+(fv h L).b*Y-(fv h L).c*W=h.2*Y-L*h.1*W:=by unfold fv;dsimp only;grind
def wA (h:Pt) (L sh:Int) (z:Pt):exc (fv h L) z sh=h.2*z.2-L*h.1*sh:=by unfold exc fv;dsimp only;grind
def yX (h:Pt) (L sh:Int) (z:Pt):exc (gq (fv h L)) z sh=L*h.1*sh-h.2*z.2:=by unfold exc gq fv;dsimp only;grind
def ly.size (H:Hh h) (P:Pz h ao cj) (R:ly h ao cj L sh zs) (l0:-30<=L) (l1:L<=30):BL 300 sh/\(∀z∈zs,BL 400 z.1/\BL 400 z.2)/\zs.length<=12:=by
 have ab:(gq (fv h L)).a≠0\/(gq (fv h L)).b≠0:=.inr (by have:=H.h2;show -h.2≠0;lia);have hB:∀w∈cj,BL 70 w.1/\BL 70 w.2/\BL 85 (exc (gq (fv h L)) w ao):=λw hw=>by
  obtain⟨b1,b2⟩:=P.bz w hw;refine⟨b1,b2,?_⟩;rw[yX];exact ((((xj l0 l1).mul H.b1).mul P.bs).sub (H.b2.mul b2)).mono
 have key:∀{s1:Int} {z1:List Pt},o8 (gq (fv h L)) ao cj s1 z1->BL 213 s1/\(∀z∈z1,BL 329 z.1/\BL 329 z.2)/\z1.length<=12->BL 300 sh/\(∀z∈zs,BL 400 z.1/\BL 400 z.2)/\zs.length<=12:=λC b=>by
  obtain⟨rfl,rfl⟩:=GP R.ip C.ip λX Y W hw=>(R.closed X Y W hw).trans (by
   rw[C.closed X Y W hw];exact⟨λ⟨a,b⟩=>⟨a,by rw[DU];lia⟩,λ⟨a,b⟩=>⟨a,by rw[DU] at b;lia⟩⟩)
  exact⟨b.1.mono,λz hz=>⟨(b.2.1 z hz).1.mono,(b.2.1 z hz).2.mono⟩,b.2.2⟩
 by_cases hp:∃z∈cj,0<af (nS (gq (fv h L)) ao) z
 ·by_cases hn:∃z∈cj,af (nS (gq (fv h L)) ao) z<0
  ·obtain⟨s2,z2,p2,b1,b2⟩:=Gx (L:=nS (gq (fv h L)) ao) P.ip hp hn P.bs hB (by decide);rcases yR P.ip ab (db.part hp hn p2) with ⟨z,_⟩ | ⟨s3,z3,e3,C3⟩
   ·cases z
   obtain⟨rfl,rfl⟩:=wY e3;exact key C3 ⟨b1,b2,by have:=Ag p2;have:=P.len;lia⟩
  ·exfalso;obtain⟨X,Y,W,w0,io⟩:=Nf R.ip;obtain⟨i0,v0⟩:=(R.opened X Y W w0).mp io;have:=zJ (α:=0) (β:=h.2) (γ:=-(L*h.1)) P.ip.cvx P.ip.pos (.inr (by have:=H.h2;lia)) (λz hz=>by
    have k:0<=af (nS (gq (fv h L)) ao) z:=gX.mp λk=>hn ⟨z,hz,k⟩;rw[qI,yX] at k;have e:0*z.1+h.2*z.2 + -(L*h.1)*ao=h.2*z.2-L*h.1*ao:=(by grind);rw[e];lia) w0 i0
   have e:0*X+h.2*Y + -(L*h.1)*W=h.2*Y-L*h.1*W:=(by grind);rw[e] at this;lia
 ·have le:∀z∈cj,af (nS (gq (fv h L)) ao) z<=0:=λz hz=>gX.mp λk=>hp ⟨z,hz,k⟩;rcases yR P.ip ab (db.whole (sh:=ao) le) with ⟨z,_⟩ | ⟨s3,z3,e3,C3⟩
  ·cases z
  obtain⟨rfl,rfl⟩:=wY e3;exact key C3 ⟨P.bs.mono,λz hz=>⟨(P.bz z hz).1.mono,(P.bz z hz).2.mono⟩,by have:=P.len;lia⟩
def NR (ip:c6 sh zs) (hz:z∈zs) (hw:w∈zs) (ha:0<=α) (hb:0<=β):iq sh zs (α*z.1+β*w.1) (α*z.2+β*w.2) ((α+β)*sh):=λa b c=>by
 have e:d_ sh (α*z.1+β*w.1) (α*z.2+β*w.2) ((α+β)*sh) a b=sh*(α*bT a b z+β*bT a b w):=by unfold d_ gN ap bT;dsimp only;grind
 rw[e];exact cY (aQ ip.pos) (OH (cY ha (ip.cvx.side c hz)) (cY hb (ip.cvx.side c hw)))
def ly.cut (H:Hh h) (P:Pz h ao cj) (R:ly h ao cj L sh zs) (l0:-30<=L) (l1:L<=28) (low:∃z∈zs,h.2*z.2<(L+1)*h.1*sh)
  (r1:db (nS (fv h (L+1)) sh) sh zs d1) (r2:db (nS (gq (fv h (L+1))) sh) sh zs d2) :
  ∃s1 z1,d1=pc s1 z1/\uq h ao cj L s1 z1/\((d2 = .non/\(∀z∈zs,h.2*z.2<=(L+1)*h.1*sh)/\ko s1 (iF ci z1)=ko sh (iF ci zs)) \/
   ∃s2 z2,d2=pc s2 z2/\ly h ao cj (L+1) s2 z2/\(∃z∈z2,h.2*z.2<(L+2)*h.1*s2)/\(∃z∈zs,(L+1)*h.1*sh<h.2*z.2)/\ko s1 (iF ci z1)+ko s2 (iF ci z2)=ko sh (iF ci zs)):=by
 have ip:=R.ip;have h0:=ip.pos;have ab:(fv h (L+1)).a≠0\/(fv h (L+1)).b≠0:=.inr (by have:=H.h2;show h.2≠0;lia);have ab':(gq (fv h (L+1))).a≠0\/(gq (fv h (L+1))).b≠0:=.inr (by have:=H.h2;show -h.2≠0;lia);obtain⟨bs,bz,lz⟩:=R.size H P l0 (by lia);have hB:∀w∈zs,BL 400 w.1/\BL 400 w.2/\BL 415 (exc (fv h (L+1)) w sh):=λw hw=>by
  obtain⟨b1,b2⟩:=bz w hw;refine⟨b1,b2,?_⟩;rw[wA];exact ((H.b2.mul b2).sub (((xj (L:=L+1) (by lia) (by lia)).mul H.b1).mul bs)).mono
 obtain⟨zl,vq,vl⟩:=low;rcases yR ip ab r1 with ⟨rfl,k⟩ | ⟨s1,z1,rfl,C1⟩
 ·exfalso;cases r1 with
  | nothing kk _=>have:=kk zl vq;rw[qI,wA] at this;lia
 obtain⟨sb,zb⟩:=Lv ip ab bs hB (by decide) r1 rfl;have RM:uq h ao cj L s1 z1:=by
  refine⟨C1.ip,by have:=Qz r1 rfl;lia,sb.mono,λz hz=>⟨(zb z hz).1.mono,(zb z hz).2.mono⟩,λX Y W hw=>?_,λX Y W hw=>?_⟩
  ·rw[C1.closed X Y W hw,R.closed X Y W hw,Gn];constructor
   ·rintro⟨⟨a,b⟩,c⟩;exact⟨a,b,by lia⟩
   ·rintro⟨a,b,c⟩;exact⟨⟨a,b⟩,by lia⟩
  ·rw[C1.opened X Y W hw,R.opened X Y W hw,Gn];constructor
   ·rintro⟨⟨a,b⟩,c⟩;exact⟨a,b,by lia⟩
   ·rintro⟨a,b,c⟩;exact⟨⟨a,b⟩,by lia⟩
 refine⟨s1,z1,rfl,RM,?_⟩;rcases yR ip ab' r2 with ⟨rfl,k⟩ | ⟨s2,z2,rfl,C2⟩
 ·refine .inl ⟨rfl,?_⟩;have all:∀z∈zs,h.2*z.2<=(L+1)*h.1*sh:=by
   cases r2 with
   | nothing kk _=>intro z hz;have:=kk z hz;rw[qI,yX] at this;lia
  refine⟨all,?_⟩;have e:pc s1 z1=pc sh zs:=by
   generalize hd:pc s1 z1=d at r1 ⊢;cases r1 with
   | whole _=>rfl
   | nothing _ n=>exact absurd (λz hz=>by rw[qI,wA];have:=all z hz;lia) n
   | part hp _ _ =>
    obtain⟨z,hz,kz⟩:=hp;rw[qI,wA] at kz;have:=all z hz;lia
  obtain⟨rfl,rfl⟩:=wY e;rfl
 ·have up:∃z∈zs,(L+1)*h.1*sh<h.2*z.2:=by
   apply cC;intro n;obtain⟨X,Y,W,w0,io⟩:=Nf C2.ip;obtain⟨i0,v0⟩:=(C2.opened X Y W w0).mp io;rw[DU] at v0;have:=qC (α:=0) (β:=h.2) (γ:=-((L+1)*h.1)) ip.cvx h0 (λz hz=>by
    have k:¬(L+1)*h.1*sh<h.2*z.2:=λk=>n ⟨z,hz,k⟩;have e:0*z.1+h.2*z.2 + -((L+1)*h.1)*sh=h.2*z.2-(L+1)*h.1*sh:=(by grind);rw[e];lia) (aQ w0) (λa b c=>aQ (i0 a b c))
   have e:0*X+h.2*Y + -((L+1)*h.1)*W=h.2*Y-(L+1)*h.1*W:=(by grind);rw[e] at this;lia
  obtain⟨zu,vt,vu⟩:=up;have hp:∃z∈zs,0<af (nS (fv h (L+1)) sh) z:=⟨zu,vt,by rw[qI,wA];lia⟩;have hn:∃z∈zs,af (nS (fv h (L+1)) sh) z<0:=⟨zl,vq,by rw[qI,wA];lia⟩;have RU:ly h ao cj (L+1) s2 z2:=by
   refine⟨C2.ip,λX Y W hw=>?_,λX Y W hw=>?_⟩
   ·rw[C2.closed X Y W hw,R.closed X Y W hw,DU];constructor
    ·rintro⟨⟨a,b⟩,c⟩;exact⟨a,by lia⟩
    ·rintro⟨a,b⟩;refine⟨⟨a,?_⟩,by lia⟩;have:=cY (aQ H.h1) hw;have e:(L+1)*h.1*W=L*h.1*W+h.1*W:=(by grind);lia
   ·rw[C2.opened X Y W hw,R.opened X Y W hw,DU];constructor
    ·rintro⟨⟨a,b⟩,c⟩;exact⟨a,by lia⟩
    ·rintro⟨a,b⟩;refine⟨⟨a,?_⟩,by lia⟩;have:=cY (aQ H.h1) (aQ hw);have e:(L+1)*h.1*W=L*h.1*W+h.1*W:=(by grind);lia
  refine .inr ⟨s2,z2,rfl,RU,?_,⟨zu,vt,vu⟩,?_⟩
  ·apply cC;intro n;have α0:0<=h.2*zu.2-(L+1)*h.1*sh:=(by lia);have β0:0<=(L+1)*h.1*sh-h.2*zl.2:=(by lia);have bt:=NR ip vq vt α0 β0;have w0:0<((h.2*zu.2-(L+1)*h.1*sh)+((L+1)*h.1*sh-h.2*zl.2))*sh:=aL (by lia) h0;have mid:h.2*((h.2*zu.2-(L+1)*h.1*sh)*zl.2+((L+1)*h.1*sh-h.2*zl.2)*zu.2)=(L+1)*h.1*(((h.2*zu.2-(L+1)*h.1*sh)+((L+1)*h.1*sh-h.2*zl.2))*sh):=(by grind);have i2:=(C2.closed _ _ _ (aQ w0)).mpr ⟨bt,by rw[DU,mid];lia⟩;have:=qC (α:=0) (β:=-h.2) (γ:=(L+2)*h.1) C2.ip.cvx C2.ip.pos (λz hz=>by
    have k:¬h.2*z.2<(L+2)*h.1*s2:=λk=>n ⟨z,hz,k⟩;have e:0*z.1 + -h.2*z.2+(L+2)*h.1*s2=(L+2)*h.1*s2-h.2*z.2:=(by grind);rw[e];lia) (aQ w0) i2
   generalize hW:((h.2*zu.2-(L+1)*h.1*sh)+((L+1)*h.1*sh-h.2*zl.2))*sh=W at *;generalize hY:(h.2*zu.2-(L+1)*h.1*sh)*zl.2+((L+1)*h.1*sh-h.2*zl.2)*zu.2=Y at *;have e:0*((h.2*zu.2-(L+1)*h.1*sh)*zl.1+((L+1)*h.1*sh-h.2*zl.2)*zu.1) + -h.2*Y+(L+2)*h.1*W=(L+2)*h.1*W-h.2*Y:=(by grind);rw[e,mid] at this;have:=aL H.h1 w0;have e2:(L+2)*h.1*W=(L+1)*h.1*W+h.1*W:=(by grind);lia
  ·have pd1:iw (nS (fv h (L+1)) sh) sh zs s1 z1:=by
    generalize hd:pc s1 z1=d at r1;cases r1 with
    | whole k=>have:=k zu vt;rw[qI,wA] at this;lia
    | nothing k _=>cases hd
    | part _ _ k=>obtain⟨rfl,rfl⟩:=wY hd;exact k
   have pd2:iw (nS (gq (fv h (L+1))) sh) sh zs s2 z2:=by
    generalize hd:pc s2 z2=d at r2;cases r2 with
    | whole k=>have:=k zl vq;rw[qI,yX] at this;lia
    | nothing k _=>cases hd
    | part _ _ k=>obtain⟨rfl,rfl⟩:=wY hd;exact k
   have f1:=pd1.facts ip.cvx hp hn h0;have eo:nS (gq (fv h (L+1))) sh=mh (nS (fv h (L+1)) sh):=by
    unfold mh nS gq fv;dsimp only;rw[Int.neg_mul]
   have f2:=pd2.facts ip.cvx ⟨zl,vq,by rw[qI,yX];lia⟩ ⟨zu,vt,by rw[qI,yX];lia⟩ h0;rw[eo] at f2;exact Qs f1.pos f2.pos h0 (Dy ip.cvx hp hn h0 f1 f2)
end
structure nk (dn:Pt) (ao:Int) (cs:List Pt) (sh:Int) (zs:List Pt):Prop where
 ip:c6 sh zs
 closed:∀X Y W,iq sh zs X Y W↔iq ao cs (X*dn.2) (Y*dn.2-dn.1*W) (W*dn.2)
 opened:∀X Y W,ig sh zs X Y W↔ig ao cs (X*dn.2) (Y*dn.2-dn.1*W) (W*dn.2)
 area:ko sh (iF ci zs)=ko ao (iF ci cs)
 len:zs.length=cs.length
 size:∀{a n d:Nat},BL a ao->(∀z∈cs,BL n z.1/\BL n z.2)->BL d dn.1->BL d dn.2->BL (a+d) sh/\∀z∈zs,BL (a+n+2*d+1) z.1/\BL (a+n+2*d+1) z.2
def Fw {f g:Pt->Pt} (e:A.map f=B.map g) (c:av A a b):∃p q,av B p q/\f a=g p/\f b=g q:=by
 have k:=IF (f:=f) c;rw[e] at k;obtain⟨p,q,k,e1,e2⟩:=IE k;exact⟨p,q,k,e1.symm,e2.symm⟩
def Yl (ip0:c6 ao cs) (hd:0<dn.2) (P:pi ao cs 1 0 1 dn.1 dn.2 sh zs):nk dn ao cs sh zs:=by
 obtain⟨κ,s,r,w,m,z,T,⟨pk,rfl,le⟩,⟨er,ew⟩,rot,least,cz,N⟩:=P;have h0:=ip0.pos;have mp:=N.mpos;have r0:r=0:=by rw[qW] at er;lia
 subst r0;have shp:0<sh:=by
  have e:=N.sh_eq;have:=aL pk h0;rw[e] at this;exact sI mp this
 obtain⟨A',rA,eA⟩:∃A',f9 cs A'/\(z::T)=A'.map (L2.R2.mv (1*κ) 0 w):=f9.mapOf rot;have ez:zs.map (scl m)=A'.map (L2.R2.mv (1*κ) 0 w):=by rw[<-eA];exact N.cs_eq.symm
 have side:∀{a b p q:Pt},scl m a=L2.R2.mv (1*κ) 0 w p->scl m b=L2.R2.mv (1*κ) 0 w q->∀X Y W,m*m*dn.2*d_ sh X Y W a b=κ*κ*d_ ao (X*dn.2) (Y*dn.2-dn.1*W) (W*dn.2) p q:=λ{a b p q} e1 e2 X Y W=>by
  have es:=N.sh_eq;unfold scl L2.R2.mv at e1 e2;simp only[eQ] at e1 e2;obtain⟨a1,a2⟩:=e1;obtain⟨b1,b2⟩:=e2;rw[<-XQ,<-XQ];have l:m*m*dn.2*((b.1-a.1)*(Y*sh-a.2*W)-(b.2-a.2)*(X*sh-a.1*W))=dn.2*((m*b.1-m*a.1)*(Y*(m*sh)-m*a.2*W)-(m*b.2-m*a.2)*(X*(m*sh)-m*a.1*W)):=by grind
  rw[l,a1,a2,b1,b2,<-es];have l2:dn.2*((1*κ*q.1+0-(1*κ*p.1+0))*(Y*(κ*ao)-(1*κ*p.2+w)*W)-(1*κ*q.2+w-(1*κ*p.2+w))*(X*(κ*ao)-(1*κ*p.1+0)*W))=κ*((q.1-p.1)*(Y*dn.2*(κ*ao)-(κ*p.2*dn.2+w*dn.2)*W)-(q.2-p.2)*(X*dn.2*(κ*ao)-κ*p.1*dn.2*W)):=by grind
  rw[l2,ew];grind
 have c1:0<m*m*dn.2:=aL (aL mp mp) hd;have c2:0<κ*κ:=aL pk pk;have fw:∀{a b:Pt},av zs a b->∃p q,av cs p q/\∀X Y W,m*m*dn.2*d_ sh X Y W a b=κ*κ*d_ ao (X*dn.2) (Y*dn.2-dn.1*W) (W*dn.2) p q:=λc=>by
  obtain⟨p,q,k,e1,e2⟩:=Fw ez c;exact⟨p,q,DF rA k,side e1 e2⟩
 have bw:∀{p q:Pt},av cs p q->∃a b,av zs a b/\∀X Y W,m*m*dn.2*d_ sh X Y W a b=κ*κ*d_ ao (X*dn.2) (Y*dn.2-dn.1*W) (W*dn.2) p q:=λc=>by
  obtain⟨a,b,k,e1,e2⟩:=Fw ez.symm (DF rA.symm c);exact⟨a,b,k,side e1.symm e2.symm⟩
 have len:zs.length=cs.length:=by
  have l1:=congrArg fI ez;obtain⟨X,Y,e1,e2⟩:=rA;rw[e2] at l1;rw[e1];simp at l1 ⊢;lia
 have ec:(z::T)=zs.map (scl m):=N.cs_eq;refine⟨⟨shp,a_.unscl mp (by rw[<-ec];exact cz),?_,N.cop⟩,λX Y W=>⟨λh p q c=>?_,λh a b c=>?_⟩,λX Y W=>⟨λh p q c=>?_,λh a b c=>?_⟩,?_,len,λ{a n d} ba bn b1 b2=>?_⟩
 ·cases zs with
  | nil=>simp at ec
  | cons z' T2 =>
   simp only[aV,gA] at ec;refine⟨z',T2,rfl,λq hq dk=>?_⟩;refine least (scl m q) (by rw[ec.2];exact dP hq) ?_;rw[ec.1];exact (CU mp).mpr dk
 ·obtain⟨a,b,k,e⟩:=bw c;have:=(mC c1 c2 (e X Y W)).2;have:=h a b k;lia
 ·obtain⟨p,q,k,e⟩:=fw c;have:=(mC c1 c2 (e X Y W)).2;have:=h p q k;lia
 ·obtain⟨a,b,k,e⟩:=bw c;exact (mC c1 c2 (e X Y W)).1.mp (h a b k)
 ·obtain⟨p,q,k,e⟩:=fw c;exact (mC c1 c2 (e X Y W)).1.mpr (h p q k)
 ·have e1:=vB m zs;rw[ez] at e1;have l3:0<cs.length:=by have:=ip0.cvx.len;lia
  have e2:iF ci (A'.map (L2.R2.mv (1*κ) 0 w))=κ*κ*iF ci A':=by
   have:=yT (L2.R2.mv (1*κ) 0 w (0,0)) (A'.map (L2.R2.mv (1*κ) 0 w));rw[<-this,BO];have t:(λx y=>bT (L2.R2.mv (1*κ) 0 w (0,0)) (L2.R2.mv (1*κ) 0 w x) (L2.R2.mv (1*κ) 0 w y))=λx y=>κ*κ*bT (0,0) x y:=by
    funext x y;rw[Gq];grind
   rw[t,OY,yT]
  have e3:m*m*iF ci zs=κ*κ*iF ci cs:=by rw[<-e1,e2,<-yS rA]
  have es:=N.sh_eq;have n1:=pR shp;have n2:=pR h0;have n3:=pR mp;have n4:=pR pk;have e3':=congrArg (λx:Int=>(x:Rat)) e3;have ov:=congrArg (λx:Int=>(x:Rat)) es;simp only[kK] at e3' ov;unfold ko;grind
 ·have le':∀x:Int,x.natAbs<=(m*x).natAbs:=λx=>by
   rw[lC];exact qZ _ (by lia)
  have bκ:BL d κ:=by
   refine b2.le ?_;have:κ<=dn.2:=by
    apply gX.mp;intro k;have:=oN k h0;have e1:ao*1*dn.2=ao*dn.2:=(by grind);have e2:κ*ao=ao*κ:=(by grind);lia
   lia
  have bs:BL (a+d) (κ*ao):=(bκ.mul ba).mono (by lia);have bw':BL (a+2*d) w:=by
   have:BL (a+2*d) (w*dn.2):=(by rw[ew];exact (b1.mul bs).mono (by lia));refine this.le ?_;rw[lC];exact qO _ (by lia)
  refine⟨BL.le (by rw[<-N.sh_eq];exact bs) (le' sh),λx hx=>?_⟩;have mx:scl m x∈A'.map (L2.R2.mv (1*κ) 0 w):=by rw[<-ez];exact dP hx
  obtain⟨p,hp,ep⟩:=bJ.mp mx;obtain⟨p1,p2⟩:=bn p ((rA.mem p).mpr hp);unfold scl L2.R2.mv at ep;simp only[eQ] at ep;have bk1:BL d (1*κ):=by rw[Int.one_mul];exact bκ
  exact⟨BL.le (by rw[<-ep.1,tW];exact (bk1.mul p1).mono (by lia)) (le' x.1),BL.le (by rw[<-ep.2];exact ((bk1.mul p2).add bw').mono (by lia)) (le' x.2)⟩
def OF:FD:=λds Q=>∃(sh:Int) (zs:List Pt) (h:Pt) (L:Int),ds=[pc sh zs,ln (fv h L)]/\(Hh h/\-30<=L/\L<=30)/\(c6 sh zs/\zs.length<=12/\BL 300 sh/\∀z∈zs,BL 400 z.1/\BL 400 z.2) /\
 ∀d1 d2,db (nS (fv h L) sh) sh zs d1->db (nS (gq (fv h L)) sh) sh zs d2->Q (.tup [d1,d2])
def Nn:∀ds Q,OF ds Q->ds.length=2:=by rintro ds Q ⟨_,_,_,_,rfl,_⟩;rfl
def Ke:∀ds Q,OF ds Q->Pj VS { nx:=λ_=>Q .non,rt:=Q } (dR ["piece","line","opposite"] ds):=by
 rintro ds Q ⟨sh,zs,h,L,rfl,⟨H,l0,l1⟩,⟨ip,lz,bs,bz⟩,q⟩;have bc:BL 20 (L*h.1):=((xj l0 l1).mul H.b1).mono;have bl:(fv h L).BLn 10000:=⟨((BL.const (n:=1) (i:=0) (by decide)).mono:BL 10000 0),H.b2.mono,bc.mono⟩;have bo:(gq (fv h L)).BLn 10000:=⟨bl.1.neg,bl.2.1.neg,bl.2.2.neg⟩;have bE:∀w∈zs,BL 2000 (exc (fv h L) w sh):=λw hw=>by
  rw[wA];exact ((H.b2.mul (bz w hw).2).sub (bc.mul bs)).mono
 have bE':∀w∈zs,BL 2000 (exc (gq (fv h L)) w sh):=λw hw=>by
  rw[yX];exact ((bc.mul bs).sub (H.b2.mul (bz w hw).2)).mono
 rw[cL 1 rfl];unfold Pj;simp only[iP,Er,aV,cD,aY,bV];generalize hl:fv h L=l at *;refine cM (λρ=>ρ=[aa (pc sh zs),aa (ln l),aa (ln (gq l))]) (λK hK=>?_) ?_
 ·walk_at "rd";exact hK _ rfl
 rintro ρ rfl;generalize hP':pc sh zs=PD;generalize hL:ln l=LD;generalize hO:ln (gq l)=OD;walk_at "rd";refine⟨l,sh,zs,by rw[hP',hL],⟨ip.pos,bs.mono,bl⟩,λw hw=>⟨(bz w hw).1.mono,(bz w hw).2.mono,bE w hw⟩,⟨ip.cvx,by lia⟩,λd1 r1=>?_⟩;exact⟨gq l,sh,zs,by rw[hP',hO],⟨ip.pos,bs.mono,bo⟩,λw hw=>⟨(bz w hw).1.mono,(bz w hw).2.mono,bE' w hw⟩,⟨ip.cvx,by lia⟩,λd2 r2=>q d1 d2 r1 r2⟩
def VP:FD:=λds Q=>∃(dn:Pt) (sh:Int) (cs:List Pt) (m:Mv),ds=[.tup [pc sh cs,jc m],.tup [.int 1,.tup [.int 0,.int 1],pt dn]]/\(0<dn.2/\BL 30 dn.1/\BL 30 dn.2)/\(c6 sh cs/\BL 1300 sh/\(∀z∈cs,BL 1800 z.1/\BL 1800 z.2)/\cs.length<=14)/\(lh m/\BL 210 m.2.1.1/\BL 210 m.2.1.2/\BL 210 m.2.2.1/\BL 210 m.2.2.2) /\
 ∀br zs m',nk dn sh cs br zs->T5 dn m m'->lh m'->Q (.tup [pc br zs,jc m'])
def Nm:∀ds Q,VP ds Q->ds.length=2:=by rintro ds Q ⟨_,_,_,_,rfl,_⟩;rfl
def Kd:∀ds Q,VP ds Q->RD xE xG rT { nx:=λ_=>Q .non,rt:=Q } (dR ["bit","move"] ds):=by
 rintro ds Q ⟨⟨d1,d2⟩,sh,cs,⟨sg,⟨p,q'⟩,u,v⟩,rfl,⟨dp,xg,xh⟩,⟨ip,bs,bz,lz⟩,⟨mf,bp,bq,bu,bv⟩,q⟩;rw[cL 0 rfl];unfold RD jc;walk_at "rd";have q0:0<q':=mf.q0;have v0:0<v:=mf.v0;dsimp only at bp bq bu bv dp xg xh;refine⟨sh,1,0,1,d1,d2,cs,rfl,⟨ip.pos,by decide,dp,.inl rfl⟩,⟨bs.mono,BL.const (by decide),xh.mono,BL.const (by decide),xg.mono⟩,λz hz=>⟨(bz z hz).1.mono,(bz z hz).2.mono⟩,ip.cvx,by lia,λbr zs P'=>?_⟩;refine⟨1,0,1,d1,d2,rfl,.inl rfl,⟨BL.const (by decide),xg.mono⟩,?_⟩;have b1:BL 4000 (-1*0):=BL.const (by decide);have b2:BL 4000 (-1*d1):=by rw[show (-1*d1:Int) = -d1 by lia];exact xg.neg.mono
 refine⟨1,-1*0,1,-1*d1,d2,sg,p,q',u,v,rfl,⟨.inl rfl,mf.sg⟩,⟨by decide,dp,q0,v0⟩,⟨b1,BL.const (by decide),b2,xh.mono,bp.mono,bq.mono,bu.mono,bv.mono⟩,λP1 Q1 R1 W1 l1 l2=>?_⟩;have B2:BL 1 sg:=by rcases mf.sg with e | e <;> (rw[show sg=_ from e];exact BL.const (by decide))
 have e1:sg*(-1*0)*q'+p*1=p:=by grind
 have e2:1*q'=q':=by lia
 rw[e1,e2] at l1;have bt:BL 400 (sg*(-1*d1)*v+u*d2):=by
  have e3:sg*(-1*d1)*v+u*d2=sg*(-d1)*v+u*d2:=by grind
  rw[e3];exact (((B2.mul xg.neg).mul bv).add (bu.mul xh)).mono
 refine q br zs (1*sg,(P1,Q1),(R1,W1)) (Yl (dn:=(d1,d2)) ip dp P') ⟨by dsimp only;lia,l1.worth,?_⟩ ⟨by have:=mf.sg;dsimp only at *;lia,l1.pos,l2.pos,l1.cop,l2.cop,(bp.mono:BL 400 _).le l1.lea,(bq.mono:BL 400 _).le l1.leb,bt.le l2.lea,((xh.mul bv).mono:BL 400 _).le l2.leb⟩;have:=l2.worth;dsimp only at *;rw[this];grind
def HA:FD:=λds Q=>∃(dn:Pt) (sh:Int) (cs:List Pt) (m:Mv),ds=[.tup [pc sh cs,jc m],pt dn]/\(0<dn.2/\BL 30 dn.1/\BL 30 dn.2)/\(c6 sh cs/\BL 1300 sh/\(∀z∈cs,BL 1800 z.1/\BL 1800 z.2)/\cs.length<=14)/\(lh m/\BL 210 m.2.1.1/\BL 210 m.2.1.2/\BL 210 m.2.2.1/\BL 210 m.2.2.2) /\
 ∀br zs m',nk dn sh cs br zs->T5 dn m m'->lh m'->Q (.tup [pc br zs,jc m'])
def Jc:∀ds Q,HA ds Q->ds.length=2:=by rintro ds Q ⟨_,_,_,_,rfl,_⟩;rfl
def Ef:∀ds Q,HA ds Q->VD VP { nx:=λ_=>Q .non,rt:=Q } (dR ["bit","height"] ds):=by
 rintro ds Q ⟨dn,sh,cs,m,rfl,h1,h2,h3,q⟩;rw[cL 0 rfl];unfold VD;walk_at "rd";exact⟨dn,sh,cs,m,rfl,h1,h2,h3,q⟩
def VR:FD:=λds Q=>∃(sh:Int) (cs:List Pt),ds=[pc sh cs]/\(0<sh/\BL 9000 sh/\cs≠[]/\cs.length<=100)/\∀z∈cs,(∀w∈cs,z.2<=w.2)->∀p q,my z.2 sh p q->Q (fr p q)
def Nq:∀ds Q,VR ds Q->ds.length=1:=by rintro ds Q ⟨_,_,rfl,_⟩;rfl
def Kg:∀ds Q,VR ds Q->VE mY { nx:=λ_=>Q .non,rt:=Q } (dR ["piece"] ds):=by
 rintro ds Q ⟨sh,cs,rfl,⟨h0,bs,ne,lc⟩,q⟩;rw[cL 0 rfl];unfold VE;simp only[iP,E1,aV,cD,aY,bV,fR,cU,aC,aX,r1,r2,aM,rC,wD,riT,rE,kT,aH];refine⟨rS (by simp;lia),?_⟩;refine xL (λρ=>∃a b,ρ=[a,b]) pt (λz=>.int z.2) cs ?_ ⟨none,none,rfl⟩ ?_
 ·rintro z hz ρ ⟨a,b,rfl⟩ K hK;walk_at "rd";exact hK _ ⟨aa (.int z.1),aa (.int z.2),rfl⟩
 ·refine⟨cs.map (·.2),by rw[dN];rfl,by simpa using ne,λM hM le=>?_⟩;obtain⟨z,hz,rfl⟩:=bJ.mp hM;exact⟨z.2,sh,rfl,⟨by lia,bs⟩,λp q' l=>q z hz (λw hw=>le _ (dP hw)) p q' l⟩
def NQ:FD:=λds Q=>∃a b c d:Int,ds=[fr a b,fr c d]/\(0<b/\c≠0)/\(BL 4000 a/\BL 4000 b/\BL 4000 c/\BL 4000 d)/\∀p q,my (a*d) (b*c) p q->Q (fr p q)
def Jg:∀ds Q,NQ ds Q->ds.length=2:=by rintro ds Q ⟨a,b,c,d,rfl,_⟩;rfl
def Eh:∀ds Q,NQ ds Q->Hi mY { nx:=λ_=>Q .non,rt:=Q } (dR ["one","other"] ds):=by
 rintro ds Q ⟨a,b,c,d,rfl,⟨h1,h2⟩,⟨ba,bb,bc,bd⟩,q⟩;rw[cL 0 rfl];unfold Hi;walk_at "rd";refine⟨ba.mulOk bd,bb.mulOk bc,_,_,rfl,⟨zQ (by lia) h2,(bb.mul bc).mono⟩,q⟩
def GW:FD:=λds Q=>∃a b:Int,ds=[fr a b]/\(0<b/\BL 9000 b)/\Q (.int (a.fdiv b))
def Da:∀ds Q,GW ds Q->ds.length=1:=by rintro ds Q ⟨a,b,rfl,_⟩;rfl
def Ar:∀ds Q,GW ds Q->MI { nx:=λ_=>Q .non,rt:=Q } (dR ["one"] ds):=by
 rintro ds Q ⟨a,b,rfl,⟨h0,bb⟩,q⟩;rw[cL 0 rfl];unfold MI;walk_at "rd";exact⟨bb.divOk (by lia),q⟩
abbrev Lb:=Int × List Pt × Mv
def f_ (b:Lb):D:=.tup [pc b.1 b.2.1,jc b.2.2]
def ZI (h1:0<k1) (h2:0<k2) (ex:k1*X1=k2*X2) (ey:k1*Y1=k2*Y2) (ew:k1*W1=k2*W2):(iq sh cs X1 Y1 W1↔iq sh cs X2 Y2 W2)/\(ig sh cs X1 Y1 W1↔ig sh cs X2 Y2 W2):=by
 have e:∀a b,k1*d_ sh X1 Y1 W1 a b=k2*d_ sh X2 Y2 W2 a b:=λa b=>by
  rw[DX,DX];have l:k1*(sh*(a.2-b.2)*X1+sh*(b.1-a.1)*Y1+(a.1*b.2-a.2*b.1)*W1)=sh*(a.2-b.2)*(k1*X1)+sh*(b.1-a.1)*(k1*Y1)+(a.1*b.2-a.2*b.1)*(k1*W1):=by grind
  rw[l,ex,ey,ew];grind
 refine⟨⟨λh a b c=>?_,λh a b c=>?_⟩,⟨λh a b c=>(mC h1 h2 (e a b)).1.mp (h a b c),λh a b c=>(mC h1 h2 (e a b)).1.mpr (h a b c)⟩⟩
 ·have:=(mC h1 h2 (e a b)).2;have:=h a b c;lia
 ·have:=(mC h1 h2 (e a b)).2;have:=h a b c;lia
structure qm (h:Pt) (ao:Int) (cj:List Pt) (m:Mv) (L:Int) (b:Lb):Prop where
 ip:c6 b.1 b.2.1
 closed:∀X Y W,0<=W->(iq b.1 b.2.1 X Y W↔iq ao cj (X*h.2) (Y*h.2+L*h.1*W) (W*h.2)/\0<=Y/\h.2*Y<=h.1*W)
 opened:∀X Y W,0<W->(ig b.1 b.2.1 X Y W↔ig ao cj (X*h.2) (Y*h.2+L*h.1*W) (W*h.2)/\0<Y/\h.2*Y<h.1*W)
 sg:b.2.2.1=m.1
 x:b.2.2.2.1.1*m.2.1.2=m.2.1.1*b.2.2.2.1.2
 y:b.2.2.2.2.1*(h.2*m.2.2.2)=(m.1*(L*h.1)*m.2.2.2+m.2.2.1*h.2)*b.2.2.2.2.2
 mf:lh b.2.2
 bs:BL 1400 b.1
 bz:∀z∈b.2.1,BL 3300 z.1/\BL 3300 z.2
 len:b.2.1.length<=14
def yZ {k a b:Int} (hk:0<k):k*a<=k*b↔a<=b:=⟨λh=>pN h hk,λh=>dE h (aQ hk)⟩
def zC {k a b:Int} (hk:0<k):k*a<k*b↔a<b:=⟨λh=>Int.lt_of_mul_lt_mul_left h (aQ hk),λh=>oN h hk⟩
def B8 (H:Hh h) (R:uq h ao cj L s1 z1) (d0:0<dn.2) (de:dn.1*h.2 = -(L*h.1*dn.2)) (b1:BL 30 dn.1) (b2:BL 30 dn.2) (P:nk dn s1 z1 b.1 b.2.1) (ms:T5 dn m b.2.2) (mf:lh b.2.2):qm h ao cj m L b:=by
 obtain⟨sz,zz⟩:=P.size R.bs R.bz b1 b2;have ey:∀Y W:Int,h.2*(Y*dn.2-dn.1*W)=dn.2*(Y*h.2+L*h.1*W):=λY W=>by
  have:h.2*(Y*dn.2-dn.1*W)=h.2*Y*dn.2-dn.1*h.2*W:=by grind
  rw[this,de];grind
 have pr:∀X Y W:Int,(iq ao cj (X*dn.2) (Y*dn.2-dn.1*W) (W*dn.2)↔iq ao cj (X*h.2) (Y*h.2+L*h.1*W) (W*h.2))/\(ig ao cj (X*dn.2) (Y*dn.2-dn.1*W) (W*dn.2)↔ig ao cj (X*h.2) (Y*h.2+L*h.1*W) (W*h.2)):=λX Y W =>
  ZI H.h2 d0 (by grind) (ey Y W) (by grind)
 have g1:∀Y W:Int,h.2*(Y*dn.2-dn.1*W)=dn.2*(h.2*Y)+L*h.1*(W*dn.2):=λY W=>by rw[ey];grind
 have g2:∀W:Int,(L+1)*h.1*(W*dn.2)=dn.2*(h.1*W)+L*h.1*(W*dn.2):=λW=>by grind
 refine⟨P.ip,λX Y W hw=>?_,λX Y W hw=>?_,ms.sg,ms.x,?_,mf,sz.mono,λz hz=>⟨(zz z hz).1.mono,(zz z hz).2.mono⟩,by rw[P.len];exact R.len⟩
 ·rw[P.closed,R.closed _ _ _ (cY hw (aQ d0)),(pr X Y W).1,g1,g2];have k1:L*h.1*(W*dn.2)<=dn.2*(h.2*Y)+L*h.1*(W*dn.2)↔0<=Y:=by
   have a:0<=dn.2*(h.2*Y)↔0<=Y:=by
    have z:=yZ (a:=h.2*0) (b:=h.2*Y) d0;rw[yZ H.h2,pE,pE] at z;exact z
   lia
  have k2:dn.2*(h.2*Y)+L*h.1*(W*dn.2)<=dn.2*(h.1*W)+L*h.1*(W*dn.2)↔h.2*Y<=h.1*W:=by
   have a:dn.2*(h.2*Y)<=dn.2*(h.1*W)↔h.2*Y<=h.1*W:=yZ d0;lia
  rw[k1,k2]
 ·rw[P.opened,R.opened _ _ _ (aL hw d0),(pr X Y W).2,g1,g2];have k1:L*h.1*(W*dn.2)<dn.2*(h.2*Y)+L*h.1*(W*dn.2)↔0<Y:=by
   have a:0<dn.2*(h.2*Y)↔0<Y:=by
    have z:=zC (a:=h.2*0) (b:=h.2*Y) d0;rw[zC H.h2,pE,pE] at z;exact z
   lia
  have k2:dn.2*(h.2*Y)+L*h.1*(W*dn.2)<dn.2*(h.1*W)+L*h.1*(W*dn.2)↔h.2*Y<h.1*W:=by
   have a:dn.2*(h.2*Y)<dn.2*(h.1*W)↔h.2*Y<h.1*W:=zC d0;lia
  rw[k1,k2]
 ·have e:=ms.y;refine dG (a:=dn.2) (by lia) ?_;have l:dn.2*(b.2.2.2.2.1*(h.2*m.2.2.2))=b.2.2.2.2.1*(dn.2*m.2.2.2)*h.2:=by grind
  rw[l,e];have l2:(m.1 * -dn.1*m.2.2.2+m.2.2.1*dn.2)*b.2.2.2.2.2*h.2=(-(m.1*m.2.2.2*(dn.1*h.2))+m.2.2.1*dn.2*h.2)*b.2.2.2.2.2:=by grind
  rw[l2,de];grind
def p9 (b:Lb):Rat:=ko b.1 (iF ci b.2.1)
def kc:List Lb->Rat
 | []=>0
 | b::l=>p9 b+kc l
theorem HX:∀(l:List Lb) (b:Lb),kc (l++[b])=kc l+p9 b
 | [],b=>by show p9 b+0=0+p9 b;grind
 | a::l,b=>by show p9 a+kc (l++[b])=p9 a+kc l+p9 b;rw[HX l b];grind
structure wa (h:Pt) (ao:Int) (cj:List Pt) (m:Mv) (L0:Int) (bs:List Lb):Prop where
 each:∀(i:Nat) (b:Lb),bs[i]? = some b->qm h ao cj m (L0+i) b
 lo:∀z∈cj,L0*h.1*ao<=h.2*z.2
 hi:∀z∈cj,h.2*z.2<=(L0+bs.length)*h.1*ao
 area:kc bs=ko ao (iF ci cj)
 len:bs.length<=60
 ne:0<bs.length
def Ff:FD:=λds Q=>∃(h:Pt) (ao:Int) (cj:List Pt) (m:Mv),ds=[.tup [pc ao cj,jc m],pt h]/\(Hh h/\Pz h ao cj)/\(lh m/\BL 210 m.2.1.1/\BL 210 m.2.1.2/\BL 210 m.2.2.1/\BL 210 m.2.2.2)/\∀L0 bs,wa h ao cj m L0 bs->Q (.lst (bs.map f_))
def Sh:∀ds Q,Ff ds Q->ds.length=2:=by rintro ds Q ⟨_,_,_,_,rfl,_⟩;rfl
def Xd {c d:Int} (H:Hh h) (P:Pz h ao cj) (hz:z∈cj) (l:my z.2 ao p q) (l2:my (p*h.2) (q*h.1) c d):((c.fdiv d)*h.1*ao<=h.2*z.2/\h.2*z.2<(c.fdiv d+1)*h.1*ao)/\-26<=c.fdiv d/\c.fdiv d<=27:=by
 have h0:=P.ip.pos;have w1:=l.worth;have w2:=l2.worth;have qp:=l.pos;have dp:=l2.pos;have hs:0<h.1*ao:=aL H.h1 h0;have key:c*(h.1*ao)=h.2*z.2*d:=by
  refine dG (a:=q) (by lia) ?_;have e1:q*(c*(h.1*ao))=c*(q*h.1)*ao:=by grind
  rw[e1,w2];have e2:p*h.2*d*ao=p*ao*h.2*d:=by grind
  rw[e2,w1];grind
 rw[cK _ (by lia)];have f1:c / d*d<=c:=Int.ediv_mul_le c (by lia);have f2:c<(c / d+1)*d:=Int.lt_ediv_add_one_mul_self c dp;generalize c / d=F at *;have g1:d*(F*h.1*ao)<=d*(h.2*z.2):=by
  have e:d*(h.2*z.2)=c*(h.1*ao):=by rw[key];grind
  rw[e];have:=bO f1 (aQ hs);have e2:F*d*(h.1*ao)=d*(F*h.1*ao):=by grind
  lia
 have g2:d*(h.2*z.2)<d*((F+1)*h.1*ao):=by
  have e:d*(h.2*z.2)=c*(h.1*ao):=by rw[key];grind
  rw[e];have:=tX f2 hs;have e2:(F+1)*d*(h.1*ao)=d*((F+1)*h.1*ao):=by grind
  lia
 have k1:=(yZ dp).mp g1;have k2:=(zC dp).mp g2;obtain⟨r1,r2⟩:=P.rows z hz;refine⟨⟨k1,k2⟩,?_,?_⟩
 ·have:-26*(h.1*ao)<(F+1)*(h.1*ao):=by
   have e1:-26*(h.1*ao) = -26*h.1*ao:=(by grind);have e2:(F+1)*(h.1*ao)=(F+1)*h.1*ao:=(by grind);lia
  have:=oM this (aQ hs);lia
 ·have:F*(h.1*ao)<=27*(h.1*ao):=by
   have e1:27*(h.1*ao)=27*h.1*ao:=(by grind);have e2:F*(h.1*ao)=F*h.1*ao:=(by grind);lia
  exact gP this hs
def Pa:∀ds Q,Ff ds Q->MJ OF GW HA VR NQ vQ { nx:=λ_=>Q .non,rt:=Q } (dR ["bit","height","rest","level","told","halves"] ds):=by
 rintro ds Q ⟨h,ao,cj,m,rfl,⟨H,P⟩,⟨mf,bp,bq,bu,bv⟩,q⟩;have c3:=P.ip.cvx.len;rw[cL 4 rfl];unfold MJ;simp only[iP,Bb,aV,cD,aY,bV];refine cM (λρ=>ρ=[aa (.tup [pc ao cj,jc m]),aa (pt h),aa (pc ao cj),none,none,none]) (λK hK=>?_) ?_
 ·simp only[eX,r2,aM,rC,rE,aH,aJ,bD,bC];exact hK _ rfl
 rintro ρ rfl;refine cM (λρ=>∃L0:Int,((∀z∈cj,L0*h.1*ao<=h.2*z.2)/\(∃z∈cj,h.2*z.2<(L0+1)*h.1*ao)/\-26<=L0/\L0<=27)/\ρ=[aa (.tup [pc ao cj,jc m]),aa (pt h),aa (pc ao cj),aa (.int L0),none,none]) (λK hK=>?_) ?_
 ·simp only[eX,cU,aC,aX,cI,aH,aJ,bD,bC];refine⟨ao,cj,rfl,⟨P.ip.pos,P.bs.mono,by rintro rfl;simp at c3,by have:=P.len;lia⟩,λz hz least p q' l=>?_⟩;have bp':BL 70 p:=(P.bz z hz).2.le l.lea;have bq':BL 40 q':=P.bs.le l.leb;refine⟨p,q',h.1,h.2,rfl,⟨l.pos,by have:=H.h1;lia⟩,⟨bp'.mono,bq'.mono,H.b1.mono,H.b2.mono⟩,λc d l2=>?_⟩;have bd:BL 50 d:=((bq'.mul H.b1).mono:BL 50 _).le l2.leb;refine⟨c,d,rfl,⟨l2.pos,bd.mono⟩,?_⟩;obtain⟨⟨k1,k2⟩,k3,k4⟩:=Xd H P hz l l2;refine hK _ ⟨_,⟨λw hw=>?_,⟨z,hz,k2⟩,k3,k4⟩,rfl⟩;have:=dE (least w hw) (aQ H.h2);lia
 rintro ρ ⟨L0,⟨lo,⟨zl,vq,vl⟩,l0,l1⟩,rfl⟩;refine cM (λρ=>ρ=[aa (.tup [pc ao cj,jc m]),aa (pt h),aa (pc ao cj),aa (.int L0),some (.own []),none]) (λK hK=>?_) ?_
 ·walk_at "rd";exact hK _ rfl
 rintro ρ rfl;refine cM (λρ=>∃(bs:List Lb) (a b c:Option L2.R2.S),wa h ao cj m L0 bs/\ρ=[aa (.tup [pc ao cj,jc m]),aa (pt h),a,b,some (.own (bs.map f_)),c]) (λK hK=>?_) ?_
 ·have R0:ly h ao cj L0 ao cj:=by
   refine⟨P.ip,λX Y W hw=>⟨λk=>⟨k,?_⟩,λk=>k.1⟩,λX Y W hw=>⟨λk=>⟨k,?_⟩,λk=>k.1⟩⟩
   ·have:=qC (α:=0) (β:=-h.2) (γ:=L0*h.1) P.ip.cvx P.ip.pos (λz hz=>by
     have k:=lo z hz;have e:0*z.1 + -h.2*z.2+L0*h.1*ao=L0*h.1*ao-h.2*z.2:=(by grind);rw[e];lia) hw k
    have e:0*X + -h.2*Y+L0*h.1*W=L0*h.1*W-h.2*Y:=(by grind);rw[e] at this;lia
   ·have:=zJ (α:=0) (β:=-h.2) (γ:=L0*h.1) P.ip.cvx P.ip.pos (.inr (by have:=H.h2;lia)) (λz hz=>by
     have k:=lo z hz;have e:0*z.1 + -h.2*z.2+L0*h.1*ao=L0*h.1*ao-h.2*z.2:=(by grind);rw[e];lia) hw k
    have e:0*X + -h.2*Y+L0*h.1*W=L0*h.1*W-h.2*Y:=(by grind);rw[e] at this;lia
  have loop:∀(n:Nat) (bs:List Lb) (L sh:Int) (zs:List Pt) (u:Option L2.R2.S),L=L0+bs.length->L<=27->28-L<=n->ly h ao cj L sh zs->(∃z∈zs,h.2*z.2<(L+1)*h.1*sh)->(∀(i:Nat) (b:Lb),bs[i]? = some b->qm h ao cj m (L0+i) b)->kc bs+ko sh (iF ci zs)=ko ao (iF ci cj) ->
    oZ (eG (r2 (AM true) (aM 2) (rC .non))) (vJ OF HA vQ) (n+1) { nx:=K,rt:=Q } [aa (.tup [pc ao cj,jc m]),aa (pt h),aa (pc sh zs),aa (.int L),some (.own (bs.map f_)),u]:=by
   intro n
   induction n with
   | zero=>intro bs L sh zs u _ a b;exfalso;lia
   | succ n ih =>
    intro bs L sh zs u eL lL ln' R low each ar;obtain⟨sz,zz,lz⟩:=R.size H P (by lia) (by lia);have bL:BL 6 L:=xj (by lia) (by lia);have bL1:BL 6 (L+1):=xj (L:=L+1) (by lia) (by lia);unfold oZ;simp only[eG,r2,aM,rC,AM,BS,aH,aJ,if_true,mL];unfold vJ;refine cM (λρ=>∃d1 d2,(db (nS (fv h (L+1)) sh) sh zs d1/\db (nS (gq (fv h (L+1))) sh) sh zs d2)/\ρ=[aa (.tup [pc ao cj,jc m]),aa (pt h),aa (pc sh zs),aa (.int L),some (.own (bs.map f_)),aa (.tup [d1,d2])]) (λK2 jp=>?_) ?_
    ·simp only[eX,cU,kE,aC,aX,cI,aM,r2,rC,lX,fE,rE,kT,aH,aJ,bD,bC,cG,fJ,sz3,true_and];refine⟨bL1.mulOk H.b1,sh,zs,h,L+1,rfl,⟨H,by lia,by lia⟩,⟨R.ip,lz,sz,zz⟩,λd1 d2 r1 r2=>jp _ ⟨d1,d2,⟨r1,r2⟩,rfl⟩⟩
    rintro ρ ⟨d1,d2,⟨r1,r2⟩,rfl⟩;obtain⟨s1,z1,rfl,RM,cs⟩:=R.cut H P (by lia) (by lia) low r1 r2;refine cM (λρ=>∃b:Lb,(qm h ao cj m L b/\p9 b=ko s1 (iF ci z1))/\ρ=[aa (.tup [pc ao cj,jc m]),aa (pt h),aa (pc sh zs),aa (.int L),some (.own ((bs++[b]).map f_)),aa (.tup [pc s1 z1,d2])]) (λK2 jp=>?_) ?_
    ·simp only[zW,cU,kE,aC,aX,cI,aM,r1,L2.R2.r1,L2.R2.r2,rC,wR,rE,kT,aH,aJ,bD,bC,cG,fJ,sz2,true_and];refine⟨h.1,h.2,-L,1,rfl,⟨H.h2,by decide⟩,⟨H.b1.mono,H.b2.mono,bL.neg.mono,BL.const (by decide)⟩,λp q' l=>?_⟩;have bp1:BL 30 p:=((H.b1.mul bL.neg).mono:BL 30 _).le l.lea;have bq1:BL 30 q':=((H.b2.mul (BL.const (n:=1) (i:=1) (by decide))).mono:BL 30 _).le l.leb;refine⟨(p,q'),s1,z1,m,rfl,⟨l.pos,bp1,bq1⟩,⟨RM.ip,RM.bs,RM.bz,RM.len⟩,⟨mf,bp,bq,bu,bv⟩,λbr oi m' pd ms mf'=>?_⟩;have w:=l.worth;have de:p*h.2 = -(L*h.1*q'):=by
      have e:p*h.2=p*(h.2*1):=(by grind);rw[e,w];grind
     refine⟨rS (by simp;lia),jp _ ⟨(br,oi,m'),⟨B8 (dn:=(p,q')) H RM l.pos de bp1 bq1 pd ms mf',pd.area⟩,?_⟩⟩;rw[dM];rfl
    rintro ρ ⟨b,⟨lf,ab⟩,rfl⟩;have tq:∀(i:Nat) (c:Lb),(bs++[b])[i]? = some c->qm h ao cj m (L0+i) c:=λi c hc=>by
     rcases HR i bs.length with k | k | k
     ·rw[cZ k] at hc;exact each i c hc
     ·subst k;rw[dL (bU _)] at hc;simp at hc;subst hc;rw[<-eL];exact lf
     ·rw[iZ (by simp;lia)] at hc;cases hc
    simp only[dQ,eX,cI,aM,L2.R2.r2,rC,lX,kT,aH,aJ,bD,bC];rcases cs with ⟨rfl,all,T_⟩ | ⟨s2,z2,rfl,RU,low',⟨zu,vt,vu⟩,T_⟩
    ·obtain⟨n,rfl⟩:∃k,n=k:=⟨n,rfl⟩;unfold oZ;simp only[eG,L2.R2.r2,aM,rC,AM,BS,aH,aJ,if_true,fS,aN,if_false];refine hK _ ⟨bs++[b],aa .non,aa (.int (L+1)),aa (.tup [pc s1 z1,.non]),⟨tq,lo,λz hz=>?_,?_,by simp;lia,by simp⟩,rfl⟩
     ·have e:(L0+((bs++[b]).length:Nat):Int)=L+1:=(by simp;lia);rw[e];apply gX.mp;intro k;have iz:=QQ P.ip hz;have e1:(L+1)*h.1*ao=L*h.1*ao+h.1*ao:=(by grind);have hs:=aL H.h1 P.ip.pos;have ir:=(R.closed z.1 z.2 ao (aQ P.ip.pos)).mpr ⟨iz,by lia⟩;have:=qC (α:=0) (β:=h.2) (γ:=-((L+1)*h.1)) R.ip.cvx R.ip.pos (λw hw=>by
       have k:=all w hw;have e:0*w.1+h.2*w.2 + -((L+1)*h.1)*sh=h.2*w.2-(L+1)*h.1*sh:=(by grind);rw[e];lia) (aQ P.ip.pos) ir
      have e:0*z.1+h.2*z.2 + -((L+1)*h.1)*ao=h.2*z.2-(L+1)*h.1*ao:=(by grind);rw[e] at this;lia
     ·rw[HX,ab,T_,ar]
    ·have lL':L+1<=27:=by
      have iz:=(R.closed zu.1 zu.2 sh (aQ R.ip.pos)).mp (QQ R.ip vt);have:=qC (α:=0) (β:=h.2) (γ:=-(27*h.1)) P.ip.cvx P.ip.pos (λw hw=>by
       have k:=(P.rows w hw).2;have e:0*w.1+h.2*w.2 + -(27*h.1)*ao=h.2*w.2-27*h.1*ao:=(by grind);rw[e];lia) (aQ R.ip.pos) iz.1
      have e:0*zu.1+h.2*zu.2 + -(27*h.1)*sh=h.2*zu.2-27*h.1*sh:=(by grind);rw[e] at this;have hs:=aL H.h1 R.ip.pos;have k:(L+1)*(h.1*sh)<27*(h.1*sh):=by
       have e1:(L+1)*(h.1*sh)=(L+1)*h.1*sh:=(by grind);have e2:27*(h.1*sh)=27*h.1*sh:=(by grind);lia
      have:=oM k (aQ hs);lia
     refine ih (bs++[b]) (L+1) s2 z2 (aa (.tup [pc s1 z1,pc s2 z2])) (by simp;lia) lL' (by lia) RU ?_ tq ?_
     ·rw[show L+1+1=L+2 by lia];exact low'
     ·rw[HX,ab,<-ar,<-T_];grind
  exact⟨60+1,loop 60 [] L0 ao cj none (by simp) l1 (by lia) R0 ⟨zl,vq,vl⟩ (λi b hb=>by simp at hb) (by show (0:Rat)+_=_;grind)⟩
 rintro ρ ⟨bs,a,b,c,ls,rfl⟩;simp only[wV,L2.R2.S.fz,fR,cI,aH,aJ,bD,bC];exact q L0 bs ls
inductive kn (h:Pt):List Bt->List (Int × List Lb)->Prop
 | nil:kn h [] []
 | cons {b:Bt} {bs:List Bt} {L0:Int} {ls:List Lb} {us:List (Int × List Lb)}:wa h b.2.1 b.2.2.1 b.2.2.2 L0 ls->kn h bs us->kn h (b::bs) ((L0,ls)::us)
theorem kn.snoc {bs:List Bt} (U:kn h bs us) (s:wa h b.2.1 b.2.2.1 b.2.2.2 L0 ls):kn h (bs++[b]) (us++[(L0,ls)]):=by
 induction U with
 | nil=>exact .cons s .nil
 | cons a _ ih=>exact .cons a ih
abbrev mW (us:List (Int × List Lb)):List Lb:=us.flatMap (·.2)
structure BtZ (h:Pt) (b:Bt):Prop where
 pz:Pz h b.2.1 b.2.2.1
 mf:lh b.2.2.2
 bp:BL 210 b.2.2.2.2.1.1
 bq:BL 210 b.2.2.2.2.1.2
 bu:BL 210 b.2.2.2.2.2.1
 bv:BL 210 b.2.2.2.2.2.2
theorem kn.len {bs:List Bt} (U:kn h bs us):(mW us).length<=60*bs.length:=by
 induction U with
 | nil=>simp[mW]
 | @cons b bs L0 ls us a _ ih =>
  have:=a.len;show ((ls++mW us).length)<=60*(bs.length+1);rw[dC];lia
def Fg:FD:=λds Q=>∃(h:Pt) (place:Int) (fs:List Pt) (bs:List Bt),ds=[.tup [.int place,pt h,.lst (bs.map j5)],gh fs]/\(Hh h/\bs.length<=4/\∀b∈bs,BtZ h b)/\∀us,kn h bs us->Q (.tup [pt h,.lst ((mW us).map f_)])
def Sj:∀ds Q,Fg ds Q->ds.length=2:=by rintro ds Q ⟨_,_,_,_,rfl,_⟩;rfl
def Pb:∀ds Q,Fg ds Q->JK Ff { nx:=λ_=>False,rt:=Q } (dR ["box","leans","bits","bit"] ds):=by
 rintro ds Q ⟨h,place,fs,bs,rfl,⟨H,lb,hb⟩,q⟩;rw[cL 2 rfl];unfold JK;simp only[iP,Pn,aV,cD,aY,bV];generalize hF:gh fs=FS;refine Hn (λρ=>ρ=[aa (.tup [.int place,pt h,.lst (bs.map j5)]),aa FS,some (.own []),none]) (λK hK=>?_) ?_
 ·walk_at "rd";exact hK _ rfl
 rintro ρ rfl;refine Hn (λρ=>∃us u,kn h bs us/\ρ=[aa (.tup [.int place,pt h,.lst (bs.map j5)]),aa FS,some (.own ((mW us).map f_)),u]) (λK hK=>?_) ?_
 ·simp only[nT,riL,r2,aM,rC,II,aH];refine kG (λys ρ=>∃(dn td:List Bt) (us:List (Int × List Lb)) (u:Option L2.R2.S),bs=dn++td/\ys=td.map j5/\kn h dn us/\ρ=[aa (.tup [.int place,pt h,.lst (bs.map j5)]),aa FS,some (.own ((mW us).map f_)),u]) ?_ ?_ _ _ ⟨[],bs,[],none,rfl,rfl,.nil,rfl⟩
  ·rintro y ys ρ ⟨dn,td,us,u,ec,ey,U,rfl⟩ F hr rq hn _;cases td with
   | nil=>cases ey
   | cons b td =>
    cases ey;have mb:b∈bs:=(by rw[ec];simp);obtain⟨pz,mf,b1,b2,b3,b4⟩:=hb b mb;have ld:dn.length+1<=4:=(by have:=congrArg fI ec;simp at this;lia);have lu:=U.len;unfold AE;simp only[eU,Ax,cU,aC,aX,r2,cI,aM,rC,kT,aH,aJ,bD,bC];refine⟨h,b.2.1,b.2.2.1,b.2.2.2,rfl,⟨H,pz⟩,⟨mf,b1,b2,b3,b4⟩,λL0 ls s=>?_⟩;have:=s.len;refine⟨rS (by rw[cN,cN];lia),hn _ ⟨dn++[b],td,us++[(L0,ls)],aa (j5 b),by rw[ec];simp,rfl,U.snoc s,?_⟩⟩;have:mW (us++[(L0,ls)])=mW us++ls:=(by unfold mW;rw[List.flatMap_append];simp);rw[this,dM]
  ·rintro ρ ⟨dn,td,us,u,ec,ey,U,rfl⟩;have:td=[]:=(by simpa using ey.symm);subst this;rw[fC] at ec;subst ec;exact hK _ ⟨us,u,U,rfl⟩
 rintro ρ ⟨us,u,U,rfl⟩;simp only[Mu,aH,aJ,bD,bC,fR,kE,aC,aX,Tr,r2,aM,rC,O_,kT,true_and,cG,fJ];exact⟨Xk,sz2,q us U⟩
structure ul (b:Lb):Prop where
 ip:c6 b.1 b.2.1
 bs:BL 1400 b.1
 bz:∀z∈b.2.1,BL 3300 z.1/\BL 3300 z.2
 len:b.2.1.length<=14
 mf:lh b.2.2
def qm.lb (f:qm h ao cj m L b):ul b:=⟨f.ip,f.bs,f.bz,f.len,f.mf⟩
def GY:FD:=λds Q=>∃b:Lb,ds=[f_ b]/\ul b/\Q (.bl true)
def Dc:∀ds Q,GY ds Q->ds.length=1:=by rintro ds Q ⟨_,rfl,_⟩;rfl
def At:∀ds Q,GY ds Q->CO F_isfr Fd CZ { nx:=λ_=>Q .non,rt:=Q } (dR ["_law_bit","_law_move_here"] ds):=by
 rintro ds Q ⟨⟨sh,zs,sg,x,y⟩,rfl,⟨ip,bs,bz,len,mf⟩,q⟩;rw[cL 1 rfl];unfold CO f_ jc;simp only[iP,Er,aV,cD,aY,bV];generalize hP:pc sh zs=PD;refine cM (λρ=>ρ=[aa (.tup [PD,.tup [.int sg,pt x,pt y]]),none]) (λK hK=>?_) ?_
 ·walk_at "rd";refine⟨sh,zs,by rw[hP],ip,λz hz=>⟨(bz z hz).1.mono,(bz z hz).2.mono⟩,by dsimp only at len;lia,?_⟩;walk_at "rd";exact hK _ rfl
 rintro ρ rfl;refine cM (λρ=>ρ=[aa (.tup [PD,.tup [.int sg,pt x,pt y]]),aa (.tup [.int sg,pt x,pt y])]) (λK hK=>?_) ?_
 ·walk_at "rd";exact hK _ rfl
 rintro ρ rfl;refine cM (λρ=>ρ=[aa (.tup [PD,.tup [.int sg,pt x,pt y]]),aa (.tup [.int sg,pt x,pt y])]) (λK hK=>?_) ?_
 ·walk_at "rd";refine⟨sg,rfl,?_⟩;walk_at "rd";have:(if sg<0 then -sg else sg)=1:=by have:=mf.sg;dsimp only at this;split <;> lia
  simp only[this,decide_true,fS,aN,if_false];exact hK _ rfl
 rintro ρ rfl;walk_at "rd";refine⟨x,rfl,⟨mf.q0,mf.cx⟩,?_⟩;walk_at "rd";exact⟨y,rfl,⟨mf.v0,mf.cy⟩,q⟩
def NI:FD:=λds Q=>∃L:List Lb,ds=[.lst (L.map f_)]/\(∀b∈L,ul b)/\Q (.bl true)
def Ix:∀ds Q,NI ds Q->ds.length=1:=by rintro ds Q ⟨_,rfl,_⟩;rfl
def Eb:∀ds Q,NI ds Q->JG GY { nx:=λ_=>Q .non,rt:=Q } (dR ["_law_bits_here","_law_bit"] ds):=by
 rintro ds Q ⟨L,rfl,hL,q⟩;rw[cL 1 rfl];unfold JG;simp only[iP,Er,aV,cD,aY,bV];have il':Ct "list" (.lst (L.map f_))=some true:=rfl;refine cM (λρ=>ρ=[aa (.lst (L.map f_)),none]) (λK hK=>?_) ?_
 ·walk_at "rd";simp only[il'];walk_at "rd";exact hK _ rfl
 rintro ρ rfl;refine cM (λρ=>∃u,ρ=[aa (.lst (L.map f_)),u]) (λK hK=>?_) ?_
 ·simp only[nT,riL,cI,aH];refine kG (λys ρ=>∃(dn td:List Lb) (u:Option L2.R2.S),L=dn++td/\ys=td.map f_/\ρ=[aa (.lst (L.map f_)),u]) ?_ ?_ _ _ ⟨[],L,none,rfl,rfl,rfl⟩
  ·rintro y ys ρ ⟨dn,td,u,ec,ey,rfl⟩ F hr rq hn _;cases td with
   | nil=>cases ey
   | cons b td =>
    cases ey;unfold zX;walk_at "rd";refine⟨b,rfl,hL b (by rw[ec];simp),?_⟩;walk_at "rd";exact hn _ ⟨dn++[b],td,aa (f_ b),by rw[ec];simp,rfl,rfl⟩
  ·rintro ρ ⟨dn,td,u,ec,ey,rfl⟩;exact hK _ ⟨u,rfl⟩
 rintro ρ ⟨u,rfl⟩;walk_at "rd";exact q
def GX:FD:=λds Q=>∃(sh:Int) (cs:List Pt) (s hh:Pt),ds=[pc sh cs,pt s,pt hh]/\(BL 4000 sh/\(∀z∈cs,BL 4000 z.1/\BL 4000 z.2)/\BL 100 s.1/\BL 100 s.2/\BL 100 hh.1/\BL 100 hh.2)/\cs.length<=100 /\
 (∀z∈cs,(0<=z.1/\z.1<=sh)/\0<=z.2*s.2-z.1*s.1/\(z.2*s.2-z.1*s.1)*hh.2<=hh.1*s.2*sh)/\Q (.bl true)
def Db:∀ds Q,GX ds Q->ds.length=3:=by rintro ds Q ⟨_,_,_,_,rfl,_⟩;rfl
def As:∀ds Q,GX ds Q->CN { nx:=λ_=>Q .non,rt:=Q } (dR ["_law_piece","_law_s","_law_h","_law_x","_law_y","_law_above"] ds):=by
 rintro ds Q ⟨sh,cs,s,hh,rfl,⟨bs,bz,s1,s2,h1,h2⟩,lc,hz,q⟩;rw[cL 3 rfl];unfold CN;simp only[iP,Po,aV,cD,aY,bV];refine cM (λρ=>∃u v w,ρ=[aa (pc sh cs),aa (pt s),aa (pt hh),u,v,w]) (λK hK=>?_) ?_
 ·simp only[nT,riT,r2,aM,rC,kT,aH];refine kG (λys ρ=>∃(dn td:List Pt) (u v w:Option L2.R2.S),cs=dn++td/\ys=td.map pt/\ρ=[aa (pc sh cs),aa (pt s),aa (pt hh),u,v,w]) ?_ ?_ _ _ ⟨[],cs,none,none,none,rfl,rfl,rfl⟩
  ·rintro y ys ρ ⟨dn,td,u,v,w,ec,ey,rfl⟩ F hr rq hn _;cases td with
   | nil=>cases ey
   | cons z td =>
    cases ey;have mz:z∈cs:=(by rw[ec];simp);obtain⟨b1,b2⟩:=bz z mz;obtain⟨⟨x0,x1⟩,a0,a1⟩:=hz z mz;unfold wF;simp only[qS,hE,qR,eU,cG,fJ,true_and,bD,bC];refine cM (λρ=>ρ=[aa (pc sh cs),aa (pt s),aa (pt hh),aa (.int z.1),aa (.int z.2),w]) (λK jp=>?_) ?_
    ·walk_at "rd";rw[if_neg (by lia),if_neg (by lia)];exact jp _ rfl
    rintro ρ rfl;refine cM (λρ=>ρ=[aa (pc sh cs),aa (pt s),aa (pt hh),aa (.int z.1),aa (.int z.2),aa (.int (z.2*s.2-z.1*s.1))]) (λK jp=>?_) ?_
    ·walk_at "rd";exact⟨b2.mulOk s2,b1.mulOk s1,jp _ rfl⟩
    rintro ρ rfl;have ba:BL 4200 (z.2*s.2-z.1*s.1):=((b2.mul s2).sub (b1.mul s1)).mono;generalize hA:z.2*s.2-z.1*s.1=A at *;walk_at "rd";rw[if_neg (by lia)];refine⟨ba.mulOk h2,h1.mulOk s2,(h1.mul s2).mulOk bs,?_⟩;rw[if_neg (by lia)];exact hn _ ⟨dn++[z],td,aa (.int z.1),aa (.int z.2),aa (.int A),by rw[ec];simp,rfl,rfl⟩
  ·rintro ρ ⟨dn,td,u,v,w,ec,ey,rfl⟩;exact hK _ ⟨u,v,w,rfl⟩
 rintro ρ ⟨u,v,w,rfl⟩;walk_at "rd";exact q
def GU:FD:=λds Q=>∃a b c d:Int,ds=[.tup [.int a,.int b],.tup [.int c,.int d]]/\(BL 3000000 a/\BL 3000000 b/\BL 3000000 c/\BL 3000000 d)/\Q (.tup [.int (a*d+c*b),.int (b*d)])
def Cv:∀ds Q,GU ds Q->ds.length=2:=by rintro ds Q ⟨_,_,_,_,rfl,_⟩;rfl
def An:∀ds Q,GU ds Q->sR { nx:=λ_=>Q .non,rt:=Q } (dR ["_law_one","_law_other"] ds):=by
 rintro ds Q ⟨a,b,c,d,rfl,⟨b1,b2,b3,b4⟩,q⟩;rw[cL 0 rfl];unfold sR;walk_at "rd";exact⟨b1.mulOk b4,b3.mulOk b2,b2.mulOk b4,q⟩
def GV:FD:=λds Q=>∃L:List Lb,ds=[.lst (L.map f_)]/\(L.length<=240/\∀b∈L,ul b)/\∀N M,(BL 2900000 N/\BL 2900000 M)->(0<M/\(N:Rat) / (M:Rat)=kc L)->Q (.tup [.int N,.int M])
def Cw:∀ds Q,GV ds Q->ds.length=1:=by rintro ds Q ⟨_,rfl,_⟩;rfl
def Ao:∀ds Q,GV ds Q->FA GU F_area3 { nx:=λ_=>Q .non,rt:=Q } (dR ["_law_bits_here","_law_total","_law_bit"] ds):=by
 rintro ds Q ⟨L,rfl,⟨lL,hL⟩,q⟩;rw[cL 2 rfl];unfold FA;simp only[iP,Pn,aV,cD,aY,bV];refine cM (λρ=>ρ=[aa (.lst (L.map f_)),aa (.tup [.int 0,.int 1]),none]) (λK hK=>?_) ?_
 ·walk_at "rd";exact hK _ rfl
 rintro ρ rfl;refine cM (λρ=>∃N M u,((BL 2900000 N/\BL 2900000 M)/\0<M/\(N:Rat) / (M:Rat)=kc L)/\ρ=[aa (.lst (L.map f_)),aa (.tup [.int N,.int M]),u]) (λK hK=>?_) ?_
 ·simp only[nT,riL,cI,aH];refine kG (λys ρ=>∃(dn td:List Lb) (N M:Int) (u:Option L2.R2.S),L=dn++td/\ys=td.map f_/\((BL (10000*(dn.length+1)) N/\BL (10000*(dn.length+1)) M)/\0<M/\(N:Rat) / (M:Rat)=kc dn)/\ρ=[aa (.lst (L.map f_)),aa (.tup [.int N,.int M]),u]) ?_ ?_ _ _ ⟨[],L,0,1,none,rfl,rfl,⟨⟨(BL.const (n:=2) (i:=0) (by decide)).mono,(BL.const (n:=2) (i:=1) (by decide)).mono⟩,by decide,by show ((0:Int):Rat) / ((1:Int):Rat)=0;rw[show ((0:Int):Rat)=0 from rfl];grind⟩,rfl⟩
  ·rintro y ys ρ ⟨dn,td,N,M,u,ec,ey,⟨⟨bN,bM⟩,mp,eq⟩,rfl⟩ F hr rq hn _;cases td with
   | nil=>cases ey
   | cons b td =>
    cases ey;have mb:b∈L:=(by rw[ec];simp);obtain⟨ip,bs,bz,lz,mf⟩:=hL b mb;have l3:=ip.cvx.len;have le:dn.length+1<=240:=(by have:=congrArg fI ec;simp at this;lia);have bc:BL 6700 (iF ci b.2.1):=(Wd (n:=3300) bz).mono (by lia);have U1:BL 2800 (b.1*b.1):=(bs.mul bs).mono;unfold xT f_;simp only[eU,eX,cU,aC,aX,r2,aM,cI,rC,rE,aH,aJ,bD,bC];refine⟨b.1,b.2.1,rfl,⟨bs.mono,λz hz=>⟨(bz z hz).1.mono,(bz z hz).2.mono⟩,by lia,by lia⟩,?_⟩;refine⟨N,M,iF ci b.2.1,b.1*b.1,rfl,⟨bN.mono (by lia),bM.mono (by lia),bc.mono,U1.mono⟩,?_⟩;refine hn _ ⟨dn++[b],td,_,_,aa (.tup [pc b.1 b.2.1,jc b.2.2]),by rw[ec];simp,rfl,⟨⟨?_,?_⟩,aL mp (aL ip.pos ip.pos),?_⟩,rfl⟩
    ·exact ((bN.mul U1).add (bc.mul bM)).mono (by rw[dC];simp;lia)
    ·exact (bM.mul U1).mono (by rw[dC];simp;lia)
    ·rw[HX,<-eq];unfold p9 ko;have n1:=pR mp;have n2:=pR ip.pos;simp only[kK,zU];grind
  ·rintro ρ ⟨dn,td,N,M,u,ec,ey,⟨⟨bN,bM⟩,mp,eq⟩,rfl⟩;have:td=[]:=(by simpa using ey.symm);subst this;rw[fC] at ec;subst ec;exact hK _ ⟨N,M,u,⟨⟨bN.mono (by lia),bM.mono (by lia)⟩,mp,eq⟩,rfl⟩
 rintro ρ ⟨N,M,u,⟨bb,mp,eq⟩,rfl⟩;walk_at "rd";exact q N M bb ⟨mp,eq⟩
open Classical in
noncomputable def jj (sh:Int) (cs:List Pt) (X Y W:Int):Int:=if ig sh cs X Y W then 1 else if iq sh cs X Y W then 0 else -1
section
def DM:(jj sh cs X Y W=1/\ig sh cs X Y W)\/(jj sh cs X Y W=0/\iq sh cs X Y W/\¬ig sh cs X Y W)\/(jj sh cs X Y W = -1/\¬iq sh cs X Y W/\¬ig sh cs X Y W):=by
 unfold jj;by_cases h:ig sh cs X Y W
 ·exact .inl ⟨by rw[if_pos h],h⟩
 ·by_cases k:iq sh cs X Y W
  ·exact .inr (.inl ⟨by rw[if_neg h,if_pos k],k,h⟩)
  ·exact .inr (.inr ⟨by rw[if_neg h,if_neg k],k,h⟩)
def WW (h:ig sh cs X Y W):jj sh cs X Y W=1:=by unfold jj;rw[if_pos h]
def QF (h:iq sh cs X Y W) (k:¬ig sh cs X Y W):jj sh cs X Y W=0:=by unfold jj;rw[if_neg k,if_pos h]
def ig.c (h:ig sh cs X Y W):iq sh cs X Y W:=λa b c=>aQ (h a b c)
def NY (h:¬iq sh cs X Y W):jj sh cs X Y W = -1:=by unfold jj;rw[if_neg (λk=>h (ig.c k)),if_neg h]
def ZU (h1:∃a b,av cs a b/\M=d_ sh X Y W a b) (h2:∀a b,av cs a b->M<=d_ sh X Y W a b):zj M=jj sh cs X Y W:=by
 obtain⟨a,b,c,e⟩:=h1;unfold zj;rcases fK M 0 with k | k | k
 ·rw[NY (λz=>by have:=z a b c;lia),if_neg (by lia),if_pos k];decide
 ·rw[QF (λx y c=>by have:=h2 x y c;lia) (λz=>by have:=z a b c;lia),if_neg (by lia),if_neg (by lia)];decide
 ·rw[WW (λx y c=>by have:=h2 x y c;lia),if_pos k,if_neg (by lia)];decide
end
def B7 (f:Fm s h) (g:Gp s h P sh cs) (c3:3<=cs.length) (sp:qq s h X Y W I J N):jj sh cs X Y W=gv I J N P:=by
 obtain⟨M,h1,h2⟩:∃M,(∃a b,av cs a b/\M=d_ sh X Y W a b)/\∀a b,av cs a b->M<=d_ sh X Y W a b:=by
  have ex:∀l:List (Pt × Pt),l≠[]->∃p∈l,∀q∈l,d_ sh X Y W p.1 p.2<=d_ sh X Y W q.1 q.2:=by
   intro l
   induction l with
   | nil=>intro h;exact absurd rfl h
   | cons x l ih =>
    intro _;by_cases hl:l=[]
    ·subst hl;exact⟨x,by simp,λq hq=>by rw[dY.mp hq];exact qN _⟩
    ·obtain⟨p,hp,k⟩:=ih hl;by_cases z:d_ sh X Y W x.1 x.2<=d_ sh X Y W p.1 p.2
     ·exact⟨x,by simp,λq hq=>by
       rcases aO.mp hq with rfl | hq
       ·exact qN _
       ·have:=k q hq;lia⟩
     ·exact⟨p,by simp[hp],λq hq=>by
       rcases aO.mp hq with rfl | hq
       ·lia
       ·exact k q hq⟩
  have ne:QJ (cs++cs.take 1)≠[]:=by
   match cs,c3 with
   | a::b::r,_=>intro k;simp[QJ] at k
  obtain⟨p,hp,k⟩:=ex _ ne;exact⟨_,⟨p.1,p.2,QG hp,rfl⟩,λa b c=>k (a,b) (CC c)⟩
 rw[<-ZU h1 h2,UQ f g sp h1 h2]
abbrev bX (m:Mv) (X W:Int):Int:=m.1*(X*m.2.1.2-m.2.1.1*W)*m.2.2.2
abbrev bY (m:Mv) (Y W:Int):Int:=m.1*(Y*m.2.2.2-m.2.2.1*W)*m.2.1.2
abbrev bW (m:Mv) (W:Int):Int:=W*m.2.1.2*m.2.2.2
def Qu (mf:lh m) (b1:BL 4000 X) (b2:BL 4000 Y) (b3:BL 4000 W):BL 5000 (bX m X W)/\BL 5000 (bY m Y W)/\BL 5000 (bW m W):=by
 have bs:BL 2 m.1:=by have:=mf.sg;exact BL.of_lt (m:=2) (by lia) (by lia)
 exact⟨((bs.mul ((b1.mul mf.bq).sub (mf.bp.mul b3))).mul mf.bv).mono,((bs.mul ((b2.mul mf.bv).sub (mf.bu.mul b3))).mul mf.bq).mono,((b3.mul mf.bq).mul mf.bv).mono⟩
def VO:FD:=λds Q=>∃(m:Mv) (X Y W:Int),ds=[gr X Y W,jc m]/\(lh m/\BL 4000 X/\BL 4000 Y/\BL 4000 W)/\Q (gr (bX m X W) (bY m Y W) (bW m W))
def Nl:∀ds Q,VO ds Q->ds.length=2:=by rintro ds Q ⟨_,_,_,_,rfl,_⟩;rfl
def Kc:∀ds Q,VO ds Q->JF { nx:=λ_=>Q .non,rt:=Q } (dR ["_law_spot","_law_move_here","_law_sign","_law_dx","_law_dy","_law_x","_law_y"] ds):=by
 rintro ds Q ⟨⟨sg,⟨p,q'⟩,u,v⟩,X,Y,W,rfl,⟨mf,b1,b2,b3⟩,q⟩;have bs:BL 2 sg:=by have:=mf.sg;exact BL.of_lt (m:=2) (by dsimp only at this;lia) (by dsimp only at this;lia)
 have bp:BL 400 p:=mf.bp;have bq:BL 400 q':=mf.bq;have bu:BL 400 u:=mf.bu;have bv:BL 400 v:=mf.bv;rw[cL 5 rfl];unfold JF jc;simp only[iP,Kk,aV,cD,aY,bV];walk_at "rd";refine⟨b1.mulOk bq,bp.mulOk b3,bs.mulOk ((b1.mul bq).sub (bp.mul b3)),(bs.mul ((b1.mul bq).sub (bp.mul b3))).mulOk bv,b2.mulOk bv,bu.mulOk b3,bs.mulOk ((b2.mul bv).sub (bu.mul b3)),(bs.mul ((b2.mul bv).sub (bu.mul b3))).mulOk bq,b3.mulOk bq,(b3.mul bq).mulOk bv,q⟩
noncomputable abbrev h8 (dh:Bool) (X Y W:Int) (b:Lb):Int:=if dh=true then jj b.1 b.2.1 (bX b.2.2 X W) (bY b.2.2 Y W) (bW b.2.2 W) else jj b.1 b.2.1 X Y W
noncomputable def cnt (f:Lb->Int):List Lb->Int
 | []=>0
 | b::l=>(if f b=1 then 1 else 0)+cnt f l
theorem YH (f:Lb->Int):∀(l:List Lb) (b:Lb),cnt f (l++[b])=cnt f l+if f b=1 then 1 else 0
 | [],b=>by show _+(0:Int)=0+_;lia
 | a::l,b=>by show _+cnt f (l++[b])=_+cnt f l+_;rw[YH f l b];lia
theorem cnt_append (f:Lb->Int):∀(l k:List Lb),cnt f (l++k)=cnt f l+cnt f k
 | [],k=>by show _=(0:Int)+_;rw[bV];lia
 | a::l,k=>by show _+cnt f (l++k)=_+cnt f l+_;rw[cnt_append f l k];lia
theorem cnt_none:∀{l:List Lb},(∀b∈l,f b≠1)->cnt f l=0
 | [],_=>rfl
 | a::l,h=>by
  show (if f a=1 then (1:Int) else 0)+cnt f l=0;rw[if_neg (h a (by simp)),cnt_none λb hb=>h b (by simp[hb])];rfl
theorem WA:∀{l:List Lb} {k:Nat} {b:Lb},l[k]? = some b->f b=1->(∀i c,i≠k->l[i]? = some c->f c≠1)->cnt f l=1
 | [],k,b,h,_,_=>by simp at h
 | a::l,0,b,h,h1,h2=>by
  simp at h;subst h;show (if f a=1 then (1:Int) else 0)+cnt f l=1;rw[if_pos h1,cnt_none λc hc=>by
   obtain⟨i,hi,e⟩:=dS hc;exact h2 (i+1) c (by lia) (by simp[hi,e])];rfl
 | a::l,k+1,b,h,h1,h2=>by
  show (if f a=1 then (1:Int) else 0)+cnt f l=1;rw[if_neg (h2 0 a (by lia) rfl),WA (k:=k) (by simpa using h) h1 λi c hi hc=>h2 (i+1) c (by lia) (by simpa using hc)];rfl
def NO:FD:=λds Q=>∃(L:List Lb) (X Y W:Int) (dh:Bool),ds=[.lst (L.map f_),gr X Y W,.bl dh]/\(L.length<=240/\∀b∈L,ul b)/\(BL 4000 X/\BL 4000 Y/\BL 4000 W) /\
 ((∃b∈L,h8 dh X Y W b=0)->Q .non)/\((∀b∈L,h8 dh X Y W b≠0)->Q (.int (cnt (h8 dh X Y W) L)))
def Je:∀ds Q,NO ds Q->ds.length=3:=by rintro ds Q ⟨_,_,_,_,_,rfl,_⟩;rfl
def Eg:∀ds Q,NO ds Q->JI VO AW { nx:=λ_=>Q .non,rt:=Q } (dR ["_law_bits_here","_law_spot","_law_home","_law_found","_law_piece","_law_move_here","_law_place","_law_where"] ds):=by
 rintro ds Q ⟨L,X,Y,W,dh,rfl,⟨lL,hL⟩,⟨b1,b2,b3⟩,q0,q1⟩;rw[cL 5 rfl];unfold JI;simp only[iP,Kk,aV,cD,aY,bV];refine cM (λρ=>ρ=[aa (.lst (L.map f_)),aa (gr X Y W),aa (.bl dh),aa (.int 0),none,none,none,none]) (λK hK=>?_) ?_
 ·walk_at "rd";exact hK _ rfl
 rintro ρ rfl;refine cM (λρ=>∃u v w x,(∀b∈L,h8 dh X Y W b≠0)/\ρ=[aa (.lst (L.map f_)),aa (gr X Y W),aa (.bl dh),aa (.int (cnt (h8 dh X Y W) L)),u,v,w,x]) (λK hK=>?_) ?_
 ·simp only[nT,riL,cI,aH];refine kG (λys ρ=>∃(dn td:List Lb) (u v w x:Option L2.R2.S),L=dn++td/\ys=td.map f_/\(∀b∈dn,h8 dh X Y W b≠0)/\ρ=[aa (.lst (L.map f_)),aa (gr X Y W),aa (.bl dh),aa (.int (cnt (h8 dh X Y W) dn)),u,v,w,x]) ?_ ?_ _ _ ⟨[],L,none,none,none,none,rfl,rfl,by simp,rfl⟩
  ·rintro y ys ρ ⟨dn,td,u,v,w,x,ec,ey,hd,rfl⟩ F hr rq hn _;cases td with
   | nil=>cases ey
   | cons b td =>
    cases ey;have mb:b∈L:=(by rw[ec];simp);obtain⟨ip,bs,bz,lz,mf⟩:=hL b mb;have l3:=ip.cvx.len;obtain⟨c1,c2,c3⟩:=Qu mf b1 b2 b3;generalize E_:D.lst (L.map f_)=LD;unfold AA f_;simp only[qS,hE,qR,eU,cG,fJ,true_and,bD,bC];refine cM (λρ=>ρ=[aa LD,aa (gr X Y W),aa (.bl dh),aa (.int (cnt (h8 dh X Y W) dn)),aa (pc b.1 b.2.1),aa (jc b.2.2),aa (gr X Y W),x]) (λK jp=>?_) ?_
    ·simp only[eX,cI,aH,aJ,bD,bC];exact jp _ rfl
    rintro ρ rfl;refine cM (λρ=>∃X' Y' W',((BL 9000 X'/\BL 9000 Y'/\BL 9000 W')/\jj b.1 b.2.1 X' Y' W'=h8 dh X Y W b)/\ρ=[aa LD,aa (gr X Y W),aa (.bl dh),aa (.int (cnt (h8 dh X Y W) dn)),aa (pc b.1 b.2.1),aa (jc b.2.2),aa (gr X' Y' W'),x]) (λK jp=>?_) ?_
    ·cases dh with
     | true =>
      simp only[kD,eG,eX,cU,aC,aX,cI,aH,aJ,bD,bC,if_true];exact⟨b.2.2,X,Y,W,rfl,⟨mf,b1,b2,b3⟩,jp _ ⟨_,_,_,⟨⟨c1.mono,c2.mono,c3.mono⟩,by unfold h8;rw[if_pos rfl]⟩,rfl⟩⟩
     | false =>
      simp only[kD,eG,cI,iE,aH,aJ,aN,if_false];exact jp _ ⟨X,Y,W,⟨⟨b1.mono,b2.mono,b3.mono⟩,by unfold h8;rw[if_neg (by decide)]⟩,rfl⟩
    rintro ρ ⟨X',Y',W',⟨⟨d1,d2,d3⟩,ev⟩,rfl⟩;refine cM (λρ=>ρ=[aa LD,aa (gr X Y W),aa (.bl dh),aa (.int (cnt (h8 dh X Y W) dn)),aa (pc b.1 b.2.1),aa (jc b.2.2),aa (gr X' Y' W'),aa (.int (h8 dh X Y W b))]) (λK jp=>?_) ?_
    ·simp only[eX,cU,aC,aX,cI,aH,aJ,bD,bC];refine⟨b.1,b.2.1,X',Y',W',rfl,⟨bs.mono,λz hz=>⟨(bz z hz).1.mono,(bz z hz).2.mono⟩,by lia,by lia⟩,⟨d1,d2,d3⟩,λM h1 h2=>?_⟩;rw[ZU h1 h2,ev];exact jp _ rfl
    rintro ρ rfl;have hd2:h8 dh X Y W b≠0->∀c∈dn++[b],h8 dh X Y W c≠0:=λk c hc=>by
     rcases cS.mp hc with z | z
     ·exact hd c z
     ·rw[dY.mp z];exact k
    have es:=YH (h8 dh X Y W) dn b;have q0':h8 dh X Y W b=0->Q .non:=λz=>q0 ⟨b,mb,z⟩;generalize h8 dh X Y W b=V at *;generalize hP:pc b.1 b.2.1=PD;generalize hM:jc b.2.2=MD;generalize i8:gr X' Y' W'=T7;generalize hS:gr X Y W=SP;refine cM (λρ=>V≠0/\ρ=[aa LD,aa SP,aa (.bl dh),aa (.int (cnt (h8 dh X Y W) dn)),aa PD,aa MD,aa T7,aa (.int V)]) (λK jp=>?_) ?_
    ·by_cases z:V=0
     ·subst z;walk_at "rd";exact hr ▸ q0' rfl
     ·walk_at "rd";simp only[z,decide_false,aN,if_false];exact jp _ ⟨z,rfl⟩
    rintro ρ ⟨z,rfl⟩;walk_at "rd";subst E_ hS;by_cases o:V=1
    ·rw[if_pos o] at es;simp only[o,decide_true,if_true];refine hn _ ⟨dn++[b],td,aa PD,aa MD,aa T7,aa (.int 1),by rw[ec];simp,rfl,hd2 z,?_⟩;rw[es]
    ·rw[if_neg o] at es;simp only[o,decide_false,aN,if_false];refine hn _ ⟨dn++[b],td,aa PD,aa MD,aa T7,aa (.int V),by rw[ec];simp,rfl,hd2 z,?_⟩;rw[es]
  ·rintro ρ ⟨dn,td,u,v,w,x,ec,ey,hd,rfl⟩;have:td=[]:=(by simpa using ey.symm);subst this;rw[fC] at ec;subst ec;exact hK _ ⟨u,v,w,x,hd,rfl⟩
 rintro ρ ⟨u,v,w,x,hd,rfl⟩;walk_at "rd";exact q1 hd
def Na (i0:0<I) (i1:I<24*N) (h:J<0\/24*N<J):∀P∈tO,gv I J N P = -1:=by
 intro P hP;unfold tO at hP;simp only[aO,gB,or_false] at hP;rcases hP with rfl | rfl | rfl | rfl | rfl | rfl | rfl
 ·rw[ro];unfold fu;dsimp only;rw[if_neg (by lia),if_neg (by lia)]
 ·rw[qv];unfold fu;dsimp only;rw[if_neg (by lia),if_neg (by lia)]
 ·rw[qv];unfold fu;dsimp only;rw[if_neg (by lia),if_neg (by lia)]
 ·rw[qv];unfold fu;dsimp only;rw[if_neg (by lia),if_neg (by lia)]
 ·rw[qv];unfold fu;dsimp only;rw[if_neg (by lia),if_neg (by lia)]
 ·rw[ro];unfold fu;dsimp only;rw[if_neg (by lia),if_neg (by lia)]
 ·rw[ro];unfold fu;dsimp only;rw[if_neg (by lia),if_neg (by lia)]
def Qg (i0:0<I) (i1:I<24*N):∀w∈RZ,∃P∈w,gv I 0 N P=0:=by
 intro w hw;unfold RZ at hw;simp only[aO,gB,or_false] at hw;rcases hw with rfl | rfl | rfl | rfl
 ·exact⟨[(0,0),(24,0),(24,24),(0,24)],by decide,by rw[ro];unfold fu;dsimp only;rw[if_neg (by lia),if_pos (by lia)]⟩
 ·exact⟨[(0,0),(24,0),(24,24)],by decide,by rw[qv];unfold fu;dsimp only;rw[if_neg (by lia),if_pos (by lia)]⟩
 ·exact⟨[(0,0),(24,0),(0,24)],by decide,by rw[qv];unfold fu;dsimp only;rw[if_neg (by lia),if_pos (by lia)]⟩
 ·by_cases k:I<=8*N
  ·exact⟨[(0,0),(8,0),(8,24),(0,24)],by decide,by rw[ro];unfold fu;dsimp only;rw[if_neg (by lia),if_pos (by lia)]⟩
  ·exact⟨[(8,0),(24,0),(24,24),(8,24)],by decide,by rw[ro];unfold fu;dsimp only;rw[if_neg (by lia),if_pos (by lia)]⟩
section
def Za (f:Fm s h) (sp:qq (0,1) h X Y W I J N):qq s h (X*h.2) (Y*h.2+L*h.1*W) (W*h.2) (I*(h.1*s.2)) (J*(h.1*s.2)-I*(s.1*h.2)+24*(N*(h.1*s.2))*L) (N*(h.1*s.2)):=by
 obtain⟨sw,sn,sx,sy⟩:=sp;have hh:=f.hp;unfold eF at sx sy;dsimp only at sx sy;refine⟨aL sw f.h2,aL sn hh,?_,?_⟩
 ·have l:eF s h*(X*h.2)*(N*(h.1*s.2))=s.2*h.2*(h.1*s.2)*(24*(1*h.2)*X*N):=by unfold eF;grind
  rw[l,sx];grind
 ·have l:eF s h*(Y*h.2+L*h.1*W)*(N*(h.1*s.2))=s.2*h.2*(h.1*s.2)*(24*(1*h.2)*Y*N)+24*(s.2*h.2)*(L*h.1*W)*(N*(h.1*s.2)):=by unfold eF;grind
  rw[l,sy];grind
def Pw (f:Fm s h) (sp:qq (0,1) h X Y W I J N) (j0:0<J) (j1:J<24*N):0<Y/\h.2*Y<h.1*W:=by
 obtain⟨sw,sn,sx,sy⟩:=sp;have h1:=f.h1;have h2:=f.h2;unfold eF at sy;dsimp only at sy;have e:(24*h.2*N)*Y=(W*h.1)*J:=by
  have l:(24*h.2*N)*Y=24*(1*h.2)*Y*N:=by grind
  rw[l,sy];grind
 have c1:0<24*h.2*N:=aL (by lia) sn;have c2:0<W*h.1:=aL sw h1;refine⟨(mC c1 c2 e).1.mpr j0,?_⟩;have e2:(24*N)*(h.1*W-h.2*Y)=(W*h.1)*(24*N-J):=by
  have l:(24*N)*(h.1*W-h.2*Y)=24*N*(h.1*W)-(24*h.2*N)*Y:=by grind
  rw[l,e];grind
 have:=(mC (show 0<24*N by lia) c2 e2).1.mpr (by lia);lia
end
section
variable {c:Lb}
theorem Vk (hw:0<W) (h0:0<Y) (h1:h.2*Y<h.1*W) (F:qm h ao cj m L c):jj c.1 c.2.1 X Y W=jj ao cj (X*h.2) (Y*h.2+L*h.1*W) (W*h.2):=by
 have e1:=F.closed X Y W (aQ hw);have e2:=F.opened X Y W hw;rcases DM (sh:=ao) (cs:=cj) (X:=X*h.2) (Y:=Y*h.2+L*h.1*W) (W:=W*h.2) with ⟨e,k⟩ | ⟨e,k,n⟩ | ⟨e,n,_⟩
 ·rw[e,WW (e2.mpr ⟨k,h0,h1⟩)]
 ·rw[e,QF (e1.mpr ⟨k,aQ h0,aQ h1⟩) λz=>n (e2.mp z).1]
 ·rw[e,NY λz=>n (e1.mp z).1]
theorem Pr (ip:c6 ao cj) (S':wa h ao cj m L0 ls) (hw:0<=W) (k:iq ao cj X Y W):L0*(h.1*W)<=h.2*Y/\h.2*Y<=(L0+ls.length)*(h.1*W):=by
 constructor
 ·have:=qC (α:=0) (β:=-h.2) (γ:=L0*h.1) ip.cvx ip.pos (λz hz=>by
   have k:=S'.lo z hz;have e:0*z.1 + -h.2*z.2+L0*h.1*ao=L0*h.1*ao-h.2*z.2:=(by grind);rw[e];lia) hw k
  have e:0*X + -h.2*Y+L0*h.1*W=L0*(h.1*W)-h.2*Y:=by grind
  rw[e] at this;lia
 ·have:=qC (α:=0) (β:=h.2) (γ:=-((L0+ls.length)*h.1)) ip.cvx ip.pos (λz hz=>by
   have k:=S'.hi z hz;have e:0*z.1+h.2*z.2 + -((L0+ls.length)*h.1)*ao=h.2*z.2-(L0+ls.length)*h.1*ao:=(by grind);rw[e];lia) hw k
  have e:0*X+h.2*Y + -((L0+ls.length)*h.1)*W=h.2*Y-(L0+ls.length)*(h.1*W):=by grind
  rw[e] at this;lia
theorem rJ {k a b:Int} (hk:0<k) (e:a*k<b*k):a<b:=oM e (aQ hk)
theorem ZS (h1:0<h.1) (ip:c6 ao cj) (S':wa h ao cj m L0 ls) (hw:0<W) (k:iq ao cj X Y W) (a:L*(h.1*W)<h.2*Y) (b:h.2*Y<(L+1)*(h.1*W)):∃(i:Nat) (c:Lb),L=L0+i/\ls[i]? = some c:=by
 have p:=aL h1 hw;obtain⟨r1,r2⟩:=Pr ip S' (aQ hw) k;have k1:L0<L+1:=rJ p (by lia);have k2:L<L0+ls.length:=rJ p (by lia);have hi:(L-L0).toNat<ls.length:=by lia
 exact⟨(L-L0).toNat,ls[(L-L0).toNat],by lia,aE hi⟩
end
structure Up7 (s h:Pt) (bs:List Bt):Prop where
 fm:Fm s h
 each:∀b∈bs,b.1∈tO/\Gp s h b.1 b.2.1 b.2.2.1/\c6 b.2.1 b.2.2.1
def Xr {bs:List Bt} (U:kn h bs us) (O:Up7 s h bs) (hw:bs.map (·.1)∈RZ) (sp:qq (0,1) h X Y W I J N) (i0:0<I) (i1:I<24*N) (j0:0<J) (j1:J<24*N)
  (nz:∀c∈mW us,jj c.1 c.2.1 X Y W≠0):cnt (λc=>jj c.1 c.2.1 X Y W) (mW us)=1:=by
 have f:=O.fm;have hh:=f.hp;have w0:=sp.w;obtain⟨y0,y1⟩:=Pw f sp j0 j1;have n0:0<N*(h.1*s.2):=aL sp.n hh;have D0:0<24*(N*(h.1*s.2)):=by lia
 have I0:0<I*(h.1*s.2):=aL i0 hh;have I1:I*(h.1*s.2)<24*(N*(h.1*s.2)):=by
  have:=tX i1 hh;have e:24*N*(h.1*s.2)=24*(N*(h.1*s.2)):=by grind
  lia
 have up:∀L,qq s h (X*h.2) (Y*h.2+L*h.1*W) (W*h.2) (I*(h.1*s.2)) (J*(h.1*s.2)-I*(s.1*h.2)+24*(N*(h.1*s.2))*L) (N*(h.1*s.2)):=λL=>Za f sp;generalize hI:I*(h.1*s.2)=I' at *;generalize hN:N*(h.1*s.2)=N' at *;generalize hJ:J*(h.1*s.2)-I*(s.1*h.2)=J0 at *;obtain⟨R,Ls,eR,R0,R1⟩:∃R Ls:Int,J0+24*N'*Ls=R/\0<=R/\R<24*N':=⟨J0 % (24*N'),-(J0 / (24*N')),by
  have:=AG J0 (24*N');rw[LS];lia,zO _ (by lia),uP _ D0⟩
 have off:∀L,L≠Ls->J0+24*N'*L<0\/24*N'<=J0+24*N'*L/\(0<R->24*N'<J0+24*N'*L):=λL hL=>by
  have e:J0+24*N'*L=R+24*N'*(L-Ls):=by rw[<-eR];grind
  rw[e];rcases FQ hL with k | k
  ·have:=dE (show L-Ls<=-1 by lia) (aQ D0);left;lia
  ·have:=dE (show 1<=L-Ls by lia) (aQ D0);right;lia
 have band:∀L:Int,L*(h.1*(W*h.2))<h.2*(Y*h.2+L*h.1*W)/\h.2*(Y*h.2+L*h.1*W)<(L+1)*(h.1*(W*h.2)):=λL=>by
  have p1:=aL f.h2 (aL y0 f.h2);have p2:=oN y1 f.h2;have e1:h.2*(Y*h.2+L*h.1*W)=h.2*(h.2*Y)+L*(h.1*(W*h.2)):=by grind
  have e2:(L+1)*(h.1*(W*h.2))=h.2*(h.1*W)+L*(h.1*(W*h.2)):=by grind
  have e3:h.2*(Y*h.2)=h.2*(h.2*Y):=by grind
  rw[e1,e2];lia
 have wp:0<W*h.2:=aL w0 f.h2;have val:∀b∈bs,∀L,jj b.2.1 b.2.2.1 (X*h.2) (Y*h.2+L*h.1*W) (W*h.2)=gv I' (J0+24*N'*L) N' b.1:=λb hb L=>by
  obtain⟨_,g,ip⟩:=O.each b hb;exact B7 f g ip.cvx.len (up L)
 have zi:∀b∈bs,gv I' R N' b.1≠0:=by
  have key:∀{bs:List Bt} {us:List (Int × List Lb)},kn h bs us->(∀b∈bs,b.1∈tO/\Gp s h b.1 b.2.1 b.2.2.1/\c6 b.2.1 b.2.2.1)->(∀b∈bs,∀L,jj b.2.1 b.2.2.1 (X*h.2) (Y*h.2+L*h.1*W) (W*h.2)=gv I' (J0+24*N'*L) N' b.1)->(∀c∈mW us,jj c.1 c.2.1 X Y W≠0)->∀b∈bs,gv I' R N' b.1≠0:=by
   intro bs us U
   induction U with
   | nil=>intro _ _ _ b hb;cases hb
   | @cons b bs L0 ls us a _ ih =>
    intro oe va nz x hx;rcases aO.mp hx with rfl | hx
    ·intro z;have v:=va x (by simp) Ls;rw[eR,z] at v;rcases DM (sh:=x.2.1) (cs:=x.2.2.1) (X:=X*h.2) (Y:=Y*h.2+Ls*h.1*W) (W:=W*h.2) with ⟨e,_⟩ | ⟨e,k,_⟩ | ⟨e,_⟩
     ·lia
     ·obtain⟨i,c,e1,hc⟩:=ZS f.h1 (oe x (by simp)).2.2 a wp k (band Ls).1 (band Ls).2;have lf:=a.each i c hc;rw[<-e1] at lf;have mc:c∈mW ((L0,ls)::us):=(by show c∈ls++mW us;exact fD _ (eS hc));exact nz c mc (by rw[Vk w0 y0 y1 lf];exact e)
     ·lia
    ·exact ih (λy hy=>oe y (by simp[hy])) (λy hy=>va y (by simp[hy])) (λc hc=>nz c (by show c∈ls++mW us;exact bP _ hc)) x hx
  exact key U O.each val nz
 by_cases hR:R=0
 ·exfalso;obtain⟨P,hP,e⟩:=Qg I0 I1 _ hw;obtain⟨b,hb,rfl⟩:=bJ.mp hP;exact zi b hb (by rw[hR];exact e)
 ·have Rp:0<R:=by lia
  have w1:=Ul I0 I1 Rp R1 _ hw (λP hP=>by
   obtain⟨b,hb,rfl⟩:=bJ.mp hP;exact zi b hb)
  have key:∀{bs:List Bt} {us:List (Int × List Lb)},kn h bs us->(∀b∈bs,b.1∈tO/\Gp s h b.1 b.2.1 b.2.2.1/\c6 b.2.1 b.2.2.1)->(∀b∈bs,∀L,jj b.2.1 b.2.2.1 (X*h.2) (Y*h.2+L*h.1*W) (W*h.2)=gv I' (J0+24*N'*L) N' b.1) ->
    cnt (λc=>jj c.1 c.2.1 X Y W) (mW us)=(((bs.map (·.1)).filter λP=>decide (gv I' R N' P=1)).length:Int):=by
   intro bs us U
   induction U with
   | nil=>intro _ _;rfl
   | @cons b bs L0 ls us a _ ih =>
    intro oe va;have i:=ih (λy hy=>oe y (by simp[hy])) (λy hy=>va y (by simp[hy]));obtain⟨bp,g,ip⟩:=oe b (by simp);have vb:∀(j:Nat) (c:Lb),ls[j]? = some c->jj c.1 c.2.1 X Y W=gv I' (J0+24*N'*(L0+j)) N' b.1:=λj c hc=>by
     rw[Vk w0 y0 y1 (a.each j c hc)];exact va b (by simp) _
    show cnt _ (ls++mW us)=_;rw[cnt_append,i,aV,rX];by_cases z:gv I' R N' b.1=1
    ·rw[if_pos (by simpa using z)];have v:=va b (by simp) Ls;rw[eR,z] at v;have io:iq b.2.1 b.2.2.1 (X*h.2) (Y*h.2+Ls*h.1*W) (W*h.2):=by
      rcases DM (sh:=b.2.1) (cs:=b.2.2.1) (X:=X*h.2) (Y:=Y*h.2+Ls*h.1*W) (W:=W*h.2) with ⟨e,k⟩ | ⟨e,_⟩ | ⟨e,_⟩
      ·exact ig.c k
      ·lia
      ·lia
     obtain⟨j,c,e1,hc⟩:=ZS f.h1 ip a wp io (band Ls).1 (band Ls).2;rw[WA hc (by rw[vb j c hc,<-e1,eR];exact z) (λk d hk hd=>by
      rw[vb k d hd];have:=off (L0+k) (by lia);rw[Na I0 I1 (by lia) b.1 bp];decide)]
     simp;lia
    ·rw[if_neg (by simpa using z),cnt_none (λc hc=>by
      obtain⟨j,hj,e⟩:=dS hc;have k7:ls[j]? = some c:=(by rw[aE hj,e]);rw[vb j c k7];by_cases q:(L0+j:Int)=Ls
      ·rw[q,eR];exact z
      ·have:=off (L0+j) q;rw[Na I0 I1 (by lia) b.1 bp];decide)]
     lia
  rw[key U O.each val,w1];rfl
abbrev si (b:Bt):Lb:=(b.2.1,b.2.2.1,b.2.2.2)
def Sq {c:Lb} (h1:0<h.1) (h2:0<h.2) (hw:0<W) (mf:lh m) (F:qm h ao cj m L c) :
  (iq c.1 c.2.1 (bX c.2.2 X W) (bY c.2.2 Y W) (bW c.2.2 W)↔iq ao cj (bX m X W) (bY m Y W) (bW m W)/\L*(h.1*bW m W)<=h.2*bY m Y W/\h.2*bY m Y W<=(L+1)*(h.1*bW m W)) /\
  (ig c.1 c.2.1 (bX c.2.2 X W) (bY c.2.2 Y W) (bW c.2.2 W)↔ig ao cj (bX m X W) (bY m Y W) (bW m W)/\L*(h.1*bW m W)<h.2*bY m Y W/\h.2*bY m Y W<(L+1)*(h.1*bW m W)):=by
 have q0:=mf.q0;have v0:=mf.v0;have qc:=F.mf.q0;have vc:=F.mf.v0;have wc:0<bW c.2.2 W:=aL (aL hw qc) vc;have fx:=F.x;have fy:=F.y;have fs:=F.sg;have sq:m.1*m.1=1:=by rcases mf.sg with e | e <;> rw[e] <;> decide
 have ex:(m.2.1.2*m.2.2.2)*(bX c.2.2 X W*h.2)=(c.2.2.2.1.2*c.2.2.2.2.2*h.2)*bX m X W:=by
  unfold bX;rw[fs];have l:m.2.1.2*m.2.2.2*(m.1*(X*c.2.2.2.1.2-c.2.2.2.1.1*W)*c.2.2.2.2.2*h.2)=m.2.2.2*m.1*c.2.2.2.2.2*h.2*(X*c.2.2.2.1.2*m.2.1.2-c.2.2.2.1.1*m.2.1.2*W):=by grind
  rw[l,fx];grind
 have ey:(m.2.1.2*m.2.2.2)*(bY c.2.2 Y W*h.2+L*h.1*bW c.2.2 W)=(c.2.2.2.1.2*c.2.2.2.2.2*h.2)*bY m Y W:=by
  unfold bY bW;rw[fs];have l:m.2.1.2*m.2.2.2*(m.1*(Y*c.2.2.2.2.2-c.2.2.2.2.1*W)*c.2.2.2.1.2*h.2+L*h.1*(W*c.2.2.2.1.2*c.2.2.2.2.2))=m.2.1.2*c.2.2.2.1.2*(m.1*(Y*c.2.2.2.2.2*m.2.2.2*h.2-c.2.2.2.2.1*(h.2*m.2.2.2)*W)+(1*L)*h.1*W*c.2.2.2.2.2*m.2.2.2):=by grind
  rw[l,fy,<-sq];grind
 have ew:(m.2.1.2*m.2.2.2)*(bW c.2.2 W*h.2)=(c.2.2.2.1.2*c.2.2.2.2.2*h.2)*bW m W:=by unfold bW;grind
 have k1:0<m.2.1.2*m.2.2.2:=aL q0 v0;have k2:0<c.2.2.2.1.2*c.2.2.2.2.2*h.2:=aL (aL qc vc) h2;obtain⟨pc1,po1⟩:=ZI (sh:=ao) (cs:=cj) k1 k2 ex ey ew;generalize bX c.2.2 X W=Xc at *;generalize bY c.2.2 Y W=Yc at *;generalize bW c.2.2 W=Wc at *;generalize bX m X W=Xm at *;generalize bY m Y W=Ym at *;generalize bW m W=Wm at *;generalize m.2.1.2*m.2.2.2=K1 at *;generalize c.2.2.2.1.2*c.2.2.2.2.2*h.2=K2 at *;have a1:K2*(h.2*Ym-L*(h.1*Wm))=(K1*h.2*h.2)*Yc:=by
  have l:K2*(h.2*Ym-L*(h.1*Wm))=h.2*(K2*Ym)-L*h.1*(K2*Wm):=by grind
  rw[l,<-ey,<-ew];grind
 have a2:K2*((L+1)*(h.1*Wm)-h.2*Ym)=(K1*h.2)*(h.1*Wc-h.2*Yc):=by
  have l:K2*((L+1)*(h.1*Wm)-h.2*Ym)=(L+1)*h.1*(K2*Wm)-h.2*(K2*Ym):=by grind
  rw[l,<-ey,<-ew];grind
 have s1:=mC k2 (aL (aL k1 h2) h2) a1;have s2:=mC k2 (aL k1 h2) a2;constructor
 ·rw[F.closed _ _ _ (aQ wc),pc1];constructor
  ·rintro⟨a,b,c⟩;exact⟨a,by lia,by lia⟩
  ·rintro⟨a,b,c⟩;exact⟨a,by lia,by lia⟩
 ·rw[F.opened _ _ _ wc,po1];constructor
  ·rintro⟨a,b,c⟩;exact⟨a,by lia,by lia⟩
  ·rintro⟨a,b,c⟩;exact⟨a,by lia,by lia⟩
theorem Cr (h1:0<h.1) (h2:0<h.2) (hw:0<W) {bs:List Bt} (U:kn h bs us):(∀b∈bs,c6 b.2.1 b.2.2.1/\lh b.2.2.2)->(∀b∈bs.map si,h8 true X Y W b≠0)->(∀c∈mW us,h8 true X Y W c≠0)->cnt (h8 true X Y W) (bs.map si)=cnt (h8 true X Y W) (mW us):=by
 induction U with
 | nil=>intro _ _ _;rfl
 | @cons b bs L0 ls us a _ ih =>
  intro ob n1 n2;have i:=ih (λx hx=>ob x (by simp[hx])) (λx hx=>n1 x (by rw[aV];exact bQ _ hx)) (λc hc=>n2 c (by show c∈ls++mW us;exact bP _ hc));obtain⟨ip,mf⟩:=ob b (by simp);have lv:=λ(j:Nat) (c:Lb) (hc:ls[j]? = some c)=>Sq (X:=X) (Y:=Y) h1 h2 hw mf (a.each j c hc);have nc:∀(j:Nat) (c:Lb),ls[j]? = some c->h8 true X Y W c≠0:=λj c hc=>n2 c (by show c∈ls++mW us;exact fD _ (eS hc));have nb:=n1 (si b) (by simp);have pv:∀c:Lb,h8 true X Y W c=jj c.1 c.2.1 (bX c.2.2 X W) (bY c.2.2 Y W) (bW c.2.2 W):=λc=>by unfold h8;rw[if_pos rfl]
  have wp:0<bW b.2.2.2 W:=aL (aL hw mf.q0) mf.v0;have p:=aL h1 wp;show (if h8 true X Y W (si b)=1 then (1:Int) else 0)+cnt _ (bs.map si)=cnt _ (ls++mW us);rw[cnt_append,i];rw[pv] at nb;rcases DM (sh:=b.2.1) (cs:=b.2.2.1) (X:=bX b.2.2.2 X W) (Y:=bY b.2.2.2 Y W) (W:=bW b.2.2.2 W) with ⟨e,k⟩ | ⟨e,_⟩ | ⟨e,n,_⟩
  ·rw[pv,if_pos e];obtain⟨r1,r2⟩:=Pr ip a (aQ wp) (ig.c k);generalize hWb:h.1*bW b.2.2.2 W=Wb at *;generalize hYb:h.2*bY b.2.2.2 Y W=Yb at *;have e1:=AG Yb Wb;have e2:=zO Yb (show Wb≠0 by lia);have e3:=uP Yb p;generalize Yb / Wb=T at *;generalize Yb % Wb=Z at *;have ne:=a.ne;have t1:L0<=T:=by
    have:L0*Wb<(T+1)*Wb:=by
     have l:(T+1)*Wb=Wb*T+Wb:=(by grind);lia
    have:=rJ p this;lia
   have t2:T<L0+ls.length\/(Z=0/\T=L0+ls.length):=by
    have:T*Wb<=(L0+ls.length)*Wb:=by
     have l:T*Wb=Wb*T:=(by grind);lia
    have:=gP this p;by_cases q:T<L0+ls.length
    ·exact .inl q
    ·refine .inr ⟨?_,by lia⟩;have e:T=L0+ls.length:=(by lia);subst e;have l:Wb*(L0+ls.length)=(L0+ls.length)*Wb:=(by grind);lia
   have hz:Z≠0:=by
    intro z;subst z;have zi:∀(j:Nat) (c:Lb),ls[j]? = some c->((L0+j)*Wb<=Yb/\Yb<=(L0+j+1)*Wb)->((L0+j)*Wb=Yb\/Yb=(L0+j+1)*Wb)->False:=λj c hc hb hr=>by
     obtain⟨lc,lo⟩:=lv j c hc;refine nc j c hc ?_;rw[pv];exact QF (lc.mpr ⟨ig.c k,hb⟩) λz=>by have:=(lo.mp z).2;lia
    have ey:Yb=T*Wb:=(by rw[<-e1];grind);rcases t2 with q | ⟨_,q⟩
    ·have hj:(T-L0).toNat<ls.length:=(by lia);refine zi (T-L0).toNat _ (aE hj) ?_ (.inl ?_)
     ·have e:(L0+((T-L0).toNat:Int))=T:=(by lia);rw[e,ey];have l:(T+1)*Wb=T*Wb+Wb:=(by grind);lia
     ·have e:(L0+((T-L0).toNat:Int))=T:=(by lia);rw[e,ey]
    ·have hj:ls.length-1<ls.length:=(by lia);refine zi (ls.length-1) _ (aE hj) ?_ (.inr ?_)
     ·have e:(L0+((ls.length-1:Nat):Int))=T-1:=(by lia);rw[e,ey];have l:(T-1)*Wb=T*Wb-Wb:=(by grind);have l2:(T-1+1)*Wb=T*Wb:=(by grind);lia
     ·have e:(L0+((ls.length-1:Nat):Int))+1=T:=(by lia);rw[e,ey]
   have t3:T<L0+ls.length:=(by rcases t2 with q | ⟨q,_⟩ <;> lia);have hj:(T-L0).toNat<ls.length:=(by lia);have ej:(L0+((T-L0).toNat:Int))=T:=(by lia);have in1:T*Wb<Yb/\Yb<(T+1)*Wb:=by
    have l:T*Wb=Wb*T:=(by grind);have l2:(T+1)*Wb=Wb*T+Wb:=(by grind);lia
   rw[WA (aE hj) (by
    obtain⟨lc,lo⟩:=lv _ _ (aE hj);rw[pv];rw[ej] at lo;exact WW (lo.mpr ⟨k,in1⟩)) (λj d u_ hd=>by
    obtain⟨lc,lo⟩:=lv j d hd;rw[pv,NY λz=>?_]
    ·decide
    ·obtain⟨_,z1,z2⟩:=lc.mp z;have u1:(L0+j:Int)<T+1:=rJ p (by lia);have u2:T<L0+j+1:=rJ p (by lia);lia)]
  ·exact absurd e nb
  ·rw[pv,if_neg (by show jj b.2.1 b.2.2.1 _ _ _≠1;rw[e];decide),cnt_none (l:=ls) (λc hc=>by
    obtain⟨j,hj,e'⟩:=dS hc;have k7:ls[j]? = some c:=(by rw[aE hj,e']);rw[pv,NY λz=>n ((lv j c k7).1.mp z).1];decide)]
structure um (f:Pt):Prop where
 ln:mr f
 lo:-4*f.2<=f.1
 hi:f.1<=13*f.2
def GZ:FD:=λds Q=>∃n m:Int,ds=[.int n,.int m]/\(1<=m/\m<=4)/\∀fs:List Pt,(fs.length:Int)=m->(∀f∈fs,um f)->Q (gh fs)
def Df:∀ds Q,GZ ds Q->ds.length=2:=by rintro ds Q ⟨_,_,rfl,_⟩;rfl
def Au:∀ds Q,GZ ds Q->FC NK TU { nx:=λ_=>Q .non,rt:=Q } (dR ["_law_number","_law_many_here","_law_found","_law_k","_law_top","_law_bottom"] ds):=by
 rintro ds Q ⟨n,m,rfl,⟨m0,m1⟩,q⟩;rw[cL 4 rfl];unfold FC;simp only[iP,Bb,aV,cD,aY,bV];refine cM (λρ=>∃f:Pt,(jg 10 f/\BL 2 f.2/\-4*f.2<=f.1/\f.1<=4*f.2)/\ρ=[aa (.int n),aa (.int m),some (.own ([f].map pt)),none,none,none]) (λK hK=>?_) ?_
 ·walk_at "rd";obtain⟨a0,a1⟩:=fQ (a:=n) (b:=9) (by decide);obtain⟨b0,b1⟩:=fQ (a:=n.fdiv 9) (b:=2) (by decide);refine⟨mU,(BL.const (n:=9000) (by decide)).divOk (by decide),mU,?_⟩;have w:BL 2 (1+(n.fdiv 9).fmod 2):=BL.of_lt (m:=2) (by lia) (by lia);have t:BL 10 (n.fmod 9-4):=BL.of_lt (m:=10) (by lia) (by lia);refine⟨_,_,rfl,⟨by lia,w.mono⟩,λp q' l=>hK _ ⟨(p,q'),⟨⟨l.pos,t.le l.lea,(w.le l.leb).mono⟩,w.le l.leb,?_,?_⟩,rfl⟩⟩
  ·have:=l.worth;have lp:=l.pos;have hB1:1<=1+(n.fdiv 9).fmod 2:=(by lia);generalize 1+(n.fdiv 9).fmod 2=B at *;dsimp only;have b1:(-4)*q'<=(n.fmod 9-4)*q':=bO (by lia) (aQ lp);refine gP (a:=B) ?_ (by lia);have bq:=bO (show 1<=B by lia) (show 0<=4*q' by lia);have e:-4*q'*B = -(B*(4*q')):=(by grind);lia
  ·have:=l.worth;have lp:=l.pos;have hB1:1<=1+(n.fdiv 9).fmod 2:=(by lia);generalize 1+(n.fdiv 9).fmod 2=B at *;dsimp only;have b1:(n.fmod 9-4)*q'<=4*q':=bO (by lia) (aQ lp);refine gP (a:=B) ?_ (by lia);have bq:=bO (show 1<=B by lia) (show 0<=4*q' by lia);have e:4*q'*B=B*(4*q'):=(by grind);lia
 rintro ρ ⟨f,⟨hf,hf2,hf3,hf4⟩,rfl⟩;refine cM (λρ=>∃(fs:List Pt) (u v w:Option L2.R2.S),((fs.length:Int)=m/\∀f∈fs,um f)/\ρ=[aa (.int n),aa (.int m),some (.own (fs.map pt)),u,v,w]) (λK hK=>?_) ?_
 ·simp only[nT,RJ,aC,aX,r2,mI,aM,rC,aH,aJ,L2.R2.S.val];refine⟨⟨by lia,by lia⟩,?_⟩;refine NW 0 (m-1).toNat (λi ρ=>∃(gs:List Pt) (g:Pt) (u v w:Option L2.R2.S),(gs.length=i/\(∀f∈gs++[g],um f)/\(jg (10+5*i) g/\BL (2+2*i) g.2)/\g.1<=(4+3*i)*g.2)/\ρ=[aa (.int n),aa (.int m),some (.own ((gs++[g]).map pt)),u,v,w]) ?_ ?_ _ ⟨[],f,none,none,none,⟨rfl,λz hz=>by rw[dY.mp hz];exact⟨⟨hf.pos,hf.top.mono,hf2.mono⟩,hf3,by have:=hf.pos;lia⟩,⟨hf,hf2⟩,by simpa using hf4⟩,rfl⟩
  ·rintro i ρ hi ⟨gs,g,u,v,w,⟨hl,cn,⟨hg,hg2⟩,hg3⟩,rfl⟩ F hr hb hn hc;have yf:((gs++[g]).map pt).getLast? = some (.tup [.int g.1,.int g.2]):=(by rw[dM,aV,cD,List.getLast?_concat]);unfold xZ;walk_at "rd";refine⟨(BL.const (n:=9000) (by decide)).divOk (by decide),?_⟩;refine⟨_,_,_,rfl,⟨by decide,BL.const (by decide)⟩,⟨by lia,by lia⟩,λt t0 t1=>?_⟩;walk_at "rd";refine⟨(BL.const (n:=9000) (by decide)).divOk (by decide),?_⟩;refine⟨_,_,_,rfl,⟨by decide,BL.const (by decide)⟩,⟨by lia,by lia⟩,λy y0 y1=>?_⟩;obtain⟨c0,c1⟩:=fQ (a:=y) (b:=3) (by decide);walk_at "rd";simp only[Rf yf];walk_at "rd";have bw:BL 2 (1+y.fmod 3):=BL.of_lt (m:=2) (by lia) (by lia);have bt:BL 2 (1+t):=BL.of_lt (m:=2) (by lia) (by lia);have mg:=cn g (bP _ (.head _));refine⟨mU,mg.ln.top.mulOk bw,bt.mulOk mg.ln.bot,mg.ln.bot.mulOk bw,?_⟩;refine⟨_,_,rfl,⟨aL hg.pos (by lia),(hg.bot.mul bw).mono (by lia)⟩,λp q' l=>?_⟩;have nw:=Nk hg.top hg.bot hg.pos (by lia) (by lia) (by lia) (by lia) l;have nb:BL (2+2*i+2) q':=(hg2.mul bw).le l.leb;have wt:=l.worth;have lp:=l.pos;have gp:=hg.pos;have glo:=mg.lo;have key:-4*q'<=p/\p<=(4+3*(i+1))*q':=by
    generalize hB:1+y.fmod 3=B at *;have B1:1<=B:=(by lia);have cp:0<g.2*B:=aL gp (by lia);constructor
    ·refine gP (a:=g.2*B) ?_ cp;rw[wt];have k1:=bO glo (show 0<=B by lia);have k2:=cY (show 0<=1+t by lia) (aQ gp);have k3:=bO (show -4*g.2*B<=g.1*B+(1+t)*g.2 by lia) (aQ lp);have e:-4*q'*(g.2*B) = -4*g.2*B*q':=(by grind);lia
    ·refine gP (a:=g.2*B) ?_ cp;rw[wt];have k1:=bO hg3 (show 0<=B by lia);have k2:(1+t)*g.2<=3*g.2*B:=by
      have a:=bO (show 1+t<=3 by lia) (aQ gp);have b:=dE B1 (show 0<=3*g.2 by lia);lia
     have e0:(4+3*(i+1))*q'*(g.2*B)=((4+3*i)*g.2*B+3*g.2*B)*q':=(by grind);rw[e0];exact bO (by lia) (aQ lp)
   have jf:(i:Int)+1<=3:=(by lia);refine⟨rS (by rw[cN,dC];simp;lia),hn _ ⟨gs++[g],(p,q'),_,_,_,⟨by simp;lia,λz hz=>?_,⟨nw.mono (by lia),nb.mono (by lia)⟩,by have:=key.2;simpa using this⟩,by rw[show (gs++[g]++[(p,q')]).map pt=(gs++[g]).map pt++[fr p q'] from dM]⟩⟩;rcases cS.mp hz with hz | hz
   ·exact cn z hz
   ·rw[dY.mp hz];refine⟨⟨l.pos,nw.top.mono (by lia),nb.mono (by lia)⟩,key.1,?_⟩;have:=key.2;have:=bO (show 4+3*((i:Int)+1)<=13 by lia) (aQ lp);dsimp only;lia
  ·rintro ρ ⟨gs,g,u,v,w,⟨hl,cn,_⟩,rfl⟩;exact hK _ ⟨gs++[g],u,v,w,⟨by simp;lia,cn⟩,rfl⟩
 rintro ρ ⟨fs,u,v,w,⟨hl,cn⟩,rfl⟩;simp only[wV,L2.R2.S.fz,fR,cI,aH,aJ,bD,bC];exact q fs hl cn
section
def Rs (f:Fm s h) (g:Gp s h P sh cs) (hz:z∈cs):∃a∈P,24*z.1=sh*a.1/\24*s.2*(h.2*z.2)=sh*(a.1*(s.1*h.2)+a.2*(h.1*s.2)):=by
 obtain⟨A,hA,e⟩:=(Bm g).1 z hz;obtain⟨a,ha,rfl⟩:=bJ.mp hA;unfold scl nI K36.aff at e;simp only[eQ] at e;obtain⟨e1,e2⟩:=e;have S0:=f.sp;refine⟨a,ha,oK (a:=s.2*h.2) (by lia) (by unfold eF at e1;grind),?_⟩;have l:24*s.2*(h.2*z.2)=eF s h*z.2:=by unfold eF;grind
 rw[l,e2]
def Gi (f:Fm s h) (l7:um s) (h22:h.2<=2) (hP:P∈tO) (g:Gp s h P sh cs):Pz h sh cs/\∀z∈cs,0<=z.1/\z.1<=sh:=by
 obtain⟨⟨cP,_⟩,_⟩:=Cj (σ:=1) (.inl rfl) hP (t:=3) (by decide);obtain⟨ip,bs,bz,lz⟩:=Gp.facts f (QU P hP) cP g;have l4:∀P∈tO,P.length<=4:=by decide
 have h0:=ip.pos;have h1:=f.h1;have h2:=f.h2;have s0:=f.ls.pos;have hs:=f.hp;have b1:s.1*h.2<=26*(h.1*s.2):=by
  have a1:=bO l7.hi (aQ h2);have a2:=dE h22 (show 0<=13*s.2 by lia);have a3:=bO (show 1<=h.1 by lia) (aQ s0);lia
 have b2:-26*(h.1*s.2)<=s.1*h.2:=by
  have a1:=bO l7.lo (aQ h2);have a2:=dE h22 (show 0<=4*s.2 by lia);have a3:=bO (show 1<=h.1 by lia) (aQ s0);have e:-4*s.2*h.2 = -(4*s.2*h.2):=by grind
  lia
 have row:∀z∈cs,(-26*h.1*sh<=h.2*z.2/\h.2*z.2<=27*h.1*sh)/\0<=z.1/\z.1<=sh:=λz hz=>by
  obtain⟨a,ha,e1,e2⟩:=Rs f g hz;obtain⟨⟨x0,x1⟩,y0,y1⟩:=QU P hP a ha;have m0:=cY (aQ h0) x0;have m1:=dE x1 (aQ h0);refine⟨⟨?_,?_⟩,by lia,by lia⟩
  ·refine pN (a:=24*s.2) ?_ (by lia);rw[e2];have k1:=dE b2 x0;have k2:=cY y0 (aQ hs);have k3:-(24*(26*(h.1*s.2)))<=a.1*(-26*(h.1*s.2)):=by
    have:=bO x1 (show 0<=26*(h.1*s.2) by lia);have e:a.1*(-26*(h.1*s.2)) = -(a.1*(26*(h.1*s.2))):=(by grind);lia
   have k4:=dE (show -(24*(26*(h.1*s.2)))<=a.1*(s.1*h.2)+a.2*(h.1*s.2) by lia) (aQ h0);have e:24*s.2*(-26*h.1*sh)=sh * -(24*(26*(h.1*s.2))):=(by grind);lia
  ·refine pN (a:=24*s.2) ?_ (by lia);rw[e2];have k1:=dE b1 x0;have k2:=bO y1 (aQ hs);have k3:=bO x1 (show 0<=26*(h.1*s.2) by lia);have k4:=dE (show a.1*(s.1*h.2)+a.2*(h.1*s.2)<=24*(27*(h.1*s.2)) by lia) (aQ h0);have e:24*s.2*(27*h.1*sh)=sh*(24*(27*(h.1*s.2))):=(by grind);lia
 exact⟨⟨ip,bs,bz,by have:=l4 P hP;lia,λz hz=>(row z hz).1⟩,λz hz=>(row z hz).2⟩
def Rr (f:Fm s h) (g:Gp s h P sh cs):ko sh (iF ci cs)=((h.1*iF ci P:Int):Rat) / ((576*h.2:Int):Rat):=by
 have h0:=RV f.ep g;have e:=Rq g;have n1:=pR h0;have n2:=pR f.h2;have n3:=pR f.ls.pos;have e':=congrArg (λx:Int=>(x:Rat)) e;unfold eF at e';simp only[kK] at e';unfold ko;simp only[kK];rw[show ((24:Int):Rat)=24 from rfl] at e';rw[show ((576:Int):Rat)=576 from rfl];grind
end
def Kv:∀w∈RZ,(w.map λP=>iF ci P).sum=1152:=by decide +kernel
theorem OS:∀(l k:List Lb),kc (l++k)=kc l+kc k
 | [],k=>by show kc k=0+kc k;grind
 | a::l,k=>by show p9 a+kc (l++k)=p9 a+kc l+kc k;rw[OS l k];grind
theorem Qf (f:Fm s h) {bs:List Bt} (U:kn h bs us):(∀b∈bs,Gp s h b.1 b.2.1 b.2.2.1)->kc (mW us)=((h.1*((bs.map (·.1)).map λP=>iF ci P).sum:Int):Rat) / ((576*h.2:Int):Rat):=by
 induction U with
 | nil =>
  intro _;show (0:Rat)=((h.1*(0:Int):Int):Rat) / _;rw[pE,show ((0:Int):Rat)=0 from rfl];grind
 | @cons b bs L0 ls us a _ ih =>
  intro hg;show kc (ls++mW us)=_;rw[OS,a.area,ih λx hx=>hg x (by simp[hx]),Rr f (hg b (by simp))];simp only[aV,List.sum_cons];have n2:=pR f.h2;rw[Int.mul_add];simp only[kK,zU];grind
structure gk (s h:Pt) (bs:List Bt) (us:List (Int × List Lb)):Prop where
 fm:Fm s h
 l7:um s
 h22:h.2<=2
 cop:cJ h.1 h.2=1
 lb:bs.length<=4
 ok:∀b∈bs,ui s h b
 way:bs.map (·.1)∈RZ
 U:kn h bs us
theorem kn.mem {bs:List Bt} (U:kn h bs us) {c:Lb} (hc:c∈mW us):∃b∈bs,∃L,qm h b.2.1 b.2.2.1 b.2.2.2 L c:=by
 induction U with
 | nil=>cases hc
 | @cons b bs L0 ls us a _ ih =>
  have hc:c∈ls++mW us:=hc;rcases cS.mp hc with k | k
  ·obtain⟨i,hi,e⟩:=dS k;exact⟨b,by simp,_,a.each i c (by rw[aE hi,e])⟩
  ·obtain⟨x,hx,L,f⟩:=ih k;exact⟨x,by simp[hx],L,f⟩
section
variable {bs:List Bt}
theorem gk.pz (l:gk s h bs us) (hb:b∈bs):Pz h b.2.1 b.2.2.1/\∀z∈b.2.2.1,0<=z.1/\z.1<=b.2.1:=Gi l.fm l.l7 l.h22 (l.ok b hb).poly (l.ok b hb).gp
theorem gk.hb (l:gk s h bs us):HB s h bs:=⟨l.fm,l.lb,λb hb=>by
 obtain⟨p,g,mf,_⟩:=l.ok b hb;have c:=Cj (σ:=1) (.inl rfl) p (t:=3) (by decide);have l4:∀P∈tO,P.length<=4:=by decide
 exact⟨g,⟨c.1.1,by have:=l4 _ p;lia⟩,QU _ p,mf⟩⟩
theorem gk.u7 (l:gk s h bs us):Up7 s h bs:=⟨l.fm,λb hb=>⟨(l.ok b hb).poly,(l.ok b hb).gp,(l.pz hb).1.ip⟩⟩
theorem gk.len (l:gk s h bs us):(mW us).length<=240:=by have:=l.U.len;have:=l.lb;lia
theorem gk.lb7 (l:gk s h bs us):∀c∈mW us,ul c:=λc hc=>by
 obtain⟨b,hb,L,f⟩:=l.U.mem hc;exact f.lb
theorem gk.bt7 (l:gk s h bs us):∀c∈bs.map si,ul c:=λc hc=>by
 obtain⟨b,hb,rfl⟩:=bJ.mp hc;obtain⟨p,_⟩:=l.pz hb;exact⟨p.ip,p.bs.mono,λz hz=>⟨(p.bz z hz).1.mono,(p.bz z hz).2.mono⟩,by have:=p.len;dsimp only;lia,(l.ok b hb).mf⟩
theorem gk.inb (l:gk s h bs us) {c:Lb} (hc:c∈mW us) (hz:z∈c.2.1):(0<=z.1/\z.1<=c.1)/\0<=z.2/\h.2*z.2<=h.1*c.1:=by
 obtain⟨b,hb,L,f⟩:=l.U.mem hc;obtain⟨p,xr⟩:=l.pz hb;have c0:=f.ip.pos;obtain⟨k,y0,y1⟩:=(f.closed _ _ _ (aQ c0)).mp (QQ f.ip hz);have h2:=l.fm.h2;have wp:=aL c0 h2;refine⟨⟨?_,?_⟩,y0,y1⟩
 ·have:=qC (α:=-1) (β:=0) (γ:=0) p.ip.cvx p.ip.pos (λw hw=>by have:=(xr w hw).1;lia) (aQ wp) k;have:0<=z.1*h.2:=by lia
  apply gX.mp;intro n;have:=iV n h2;lia
 ·have:=qC (α:=1) (β:=0) (γ:=-1) p.ip.cvx p.ip.pos (λw hw=>by have:=(xr w hw).2;lia) (aQ wp) k;have:z.1*h.2<=c.1*h.2:=by lia
  exact gP this h2
theorem gk.area (l:gk s h bs us):kc (mW us)=((2*h.1:Int):Rat) / (h.2:Rat):=by
 rw[Qf l.fm l.U λb hb=>(l.ok b hb).gp,Kv _ l.way];have n:=pR l.fm.h2;simp only[kK];rw[show ((1152:Int):Rat)=1152 from rfl,show ((576:Int):Rat)=576 from rfl,show ((2:Int):Rat)=2 from rfl];grind
end
abbrev ug (h:Pt) (us:List (Int × List Lb)):D:=.tup [pt h,.lst ((mW us).map f_)]
def NM:FD:=λds Q=>∃(s h:Pt) (bs:List Bt) (us:List (Int × List Lb)),ds=[ug h us,pt h]/\gk s h bs us/\Q (.bl true)
def Jb:∀ds Q,NM ds Q->ds.length=2:=by rintro ds Q ⟨_,_,_,_,rfl,_⟩;rfl
def Ee:∀ds Q,NM ds Q->AD GV NI GX F_isfr { nx:=λ_=>Q .non,rt:=Q } (dR ["_law_found","_law_height","_law_bit","_law_total"] ds):=by
 rintro ds Q ⟨s,h,bs,us,rfl,l,q⟩;rw[cL 2 rfl];unfold AD;simp only[iP,Pn,aV,cD,aY,bV];have lb7:=l.lb7;have inb:=λ{c:Lb} (hc:c∈mW us) {z:Pt} (hz:z∈c.2.1)=>l.inb hc hz;have ar:=l.area;have ll:=l.len;unfold ug;generalize mW us=L at *;have ep:ji (fb 5) [.int h.1,.int h.2] [.int h.1,.int h.2]=some true:=sU _ λx hx=>by
  simp only[aO,gB,or_false] at hx;rcases hx with rfl | rfl <;> exact NU 4 _
 refine cM (λρ=>ρ=[aa (.tup [pt h,.lst (L.map f_)]),aa (pt h),none,none]) (λK hK=>?_) ?_
 ·generalize hL:D.lst (L.map f_)=LD at *;walk_at "rd";simp only[ep,fS,aN,if_false];refine⟨h,rfl,⟨l.fm.h2,l.cop⟩,?_⟩;walk_at "rd";exact hK _ rfl
 rintro ρ rfl;refine cM (λρ=>ρ=[aa (.tup [pt h,.lst (L.map f_)]),aa (pt h),none,none]) (λK hK=>?_) ?_
 ·generalize hL:D.lst (L.map f_)=LD at *;walk_at "rd";refine⟨L,by rw[hL],lb7,?_⟩;walk_at "rd";exact hK _ rfl
 rintro ρ rfl;refine cM (λρ=>∃u,ρ=[aa (.tup [pt h,.lst (L.map f_)]),aa (pt h),u,none]) (λK hK=>?_) ?_
 ·simp only[nT,riL,r2,aM,rC,kT,aH];refine kG (λys ρ=>∃(dn td:List Lb) (u:Option L2.R2.S),L=dn++td/\ys=td.map f_/\ρ=[aa (.tup [pt h,.lst (L.map f_)]),aa (pt h),u,none]) ?_ ?_ _ _ ⟨[],L,none,rfl,rfl,rfl⟩
  ·rintro y ys ρ ⟨dn,td,u,ec,ey,rfl⟩ F hr rq hn _;cases td with
   | nil=>cases ey
   | cons b td =>
    cases ey;have mb:b∈L:=(by rw[ec];simp);obtain⟨ip,bs',bz,lz,mf⟩:=lb7 b mb;generalize hL:D.lst (L.map f_)=LD;unfold vI f_;walk_at "rd";refine⟨b.1,b.2.1,(0,1),h,rfl,⟨bs'.mono,λz hz=>⟨(bz z hz).1.mono,(bz z hz).2.mono⟩,BL.const (by decide),BL.const (by decide),l.fm.b1.mono,l.fm.b2.mono⟩,by lia,λz hz=>?_,?_⟩
    ·obtain⟨x,y0,y1⟩:=inb mb hz;refine⟨x,by dsimp only;lia,?_⟩;dsimp only;have e1:(z.2*1-z.1*0)*h.2=h.2*z.2:=(by grind);have e2:h.1*1*b.1=h.1*b.1:=(by grind);rw[e1,e2];exact y1
    ·walk_at "rd";exact hn _ ⟨dn++[b],td,aa (.tup [pc b.1 b.2.1,jc b.2.2]),by rw[ec];simp,rfl,by rw[hL]⟩
  ·rintro ρ ⟨dn,td,u,ec,ey,rfl⟩;exact hK _ ⟨u,rfl⟩
 rintro ρ ⟨u,rfl⟩;refine cM (λρ=>∃N M,((BL 2900000 N/\BL 2900000 M)/\0<M/\(N:Rat) / (M:Rat)=kc L)/\ρ=[aa (.tup [pt h,.lst (L.map f_)]),aa (pt h),u,aa (.tup [.int N,.int M])]) (λK hK=>?_) ?_
 ·generalize hL:D.lst (L.map f_)=LD at *;walk_at "rd";exact⟨L,by rw[hL],⟨ll,lb7⟩,λN M b e=>hK _ ⟨N,M,⟨b,e⟩,rfl⟩⟩
 rintro ρ ⟨N,M,⟨⟨bN,bM⟩,mp,eq⟩,rfl⟩;have fin:N*h.2=2*h.1*M:=by
  rw[ar] at eq;have n1:=pR mp;have n2:=pR l.fm.h2;apply MU.mp;simp only[kK] at eq ⊢;grind
 generalize hL:D.lst (L.map f_)=LD;walk_at "rd";have b2:BL 4 2:=BL.const (by decide);refine⟨bN.mulOk l.fm.b2,b2.mulOk l.fm.b1,(b2.mul l.fm.b1).mulOk bM,?_⟩;rw[fin];simp only[decide_true];exact q
def eq6 (a:Int):fb 6 (.int a) (.int a)=some true:=by simp[fb]
def NL:FD:=λds Q=>∃(s h:Pt) (bs:List Bt) (us:List (Int × List Lb)) (n:Int),ds=[ug h us,.lst (bs.map j5),pt s,pt h,.int n]/\gk s h bs us/\Q (.bl true)
def Ja:∀ds Q,NL ds Q->ds.length=5:=by rintro ds Q ⟨_,_,_,_,_,rfl,_⟩;rfl
def Ec:∀ds Q,NL ds Q->xV F_homesG NO F_spotin { nx:=λ_=>Q .non,rt:=Q } (dR ["_law_found","_law_bits_here","_law_lean","_law_height","_law_cell_here","_law_homes","_law_home","_law_one","_law_other"] ds):=by
 rintro ds Q ⟨s,h,bs,us,n,rfl,l,q⟩;have f:=l.fm;have f0:Fm (0,1) h:=⟨⟨by decide,BL.const (by decide),BL.const (by decide)⟩,f.h1,f.b1,f.h2,f.b2⟩;have lb7:=l.lb7;have ll:=l.len;rw[cL 4 rfl];unfold xV;simp only[iP,Bb,aV,cD,aY,bV];unfold ug;generalize E_:D.lst ((mW us).map f_)=LD;generalize wf:D.lst (bs.map j5)=BD;refine cM (λρ=>ρ=[aa (.tup [pt h,LD]),aa BD,aa (pt s),aa (pt h),aa (.int n),none,none,none,none]) (λK hK=>?_) ?_
 ·simp only[kD,eG,r2,cU,kE,pV,aC,aX,cI,aM,rC,iE,kT,aH,aJ,cG,fJ,sz2,true_and];refine⟨n,(0,1),h,rfl,f0,λX Y W I J N sp rg bb=>?_⟩;refine⟨mW us,X,Y,W,false,by rw[E_],⟨ll,lb7⟩,⟨bb.1.mono,bb.2.1.mono,bb.2.2.mono⟩,λ_=>⟨rfl,?_⟩,λnz=>⟨rfl,?_⟩⟩
  ·dsimp only;simp only[aN,if_false];exact hK _ rfl
  ·have e:cnt (h8 false X Y W) (mW us)=1:=Xr l.U l.u7 l.way sp rg.1.1 rg.1.2 rg.2.1 rg.2.2 nz;rw[e];dsimp only;simp only[decide_true,fS,aN,if_false];exact hK _ rfl
 rintro ρ rfl;refine cM (λρ=>∃x:D,(x = .non\/∃hs:List (Int × Int × Int),(∀t∈hs,0<t.2.2/\BL 4000 t.1/\BL 4000 t.2.1/\BL 4000 t.2.2)/\x = .lst (hs.map λt=>gr t.1 t.2.1 t.2.2))/\ρ=[aa (.tup [pt h,LD]),aa BD,aa (pt s),aa (pt h),aa (.int n),aa x,none,none,none]) (λK hK=>?_) ?_
 ·simp only[eX,cU,aC,aX,cI,aH,aJ,bD,bC];refine⟨n,s,h,rfl,f,λX Y W I J N sp rg bb=>?_⟩;refine⟨s,h,bs,X,Y,W,I,J,N,by rw[wf],⟨l.hb,sp⟩,⟨bb.1.mono,bb.2.1.mono,bb.2.2.mono⟩,λ_=>hK _ ⟨.non,.inl rfl,rfl⟩,λ_=>hK _ ⟨_,.inr ⟨(bs.filter (o5 I J N)).map λb=>((b.2.2.2.1*X*b.2.2.2.2.1.2+b.2.2.2.2.1.1*W)*b.2.2.2.2.2.2,(b.2.2.2.1*Y*b.2.2.2.2.2.2+b.2.2.2.2.2.1*W)*b.2.2.2.2.1.2,W*b.2.2.2.2.1.2*b.2.2.2.2.2.2),λt ht=>?_,by rw[dN];rfl⟩,rfl⟩⟩;obtain⟨b,hb,rfl⟩:=bJ.mp ht;have mb:=(lR.mp hb).1;have mf:=(l.ok b mb).mf;exact⟨aL (aL sp.w mf.q0) mf.v0,We mf (bb.1.mono) (bb.2.1.mono) (bb.2.2.mono)⟩
 rintro ρ ⟨x,hx,rfl⟩;rcases hx with rfl | ⟨hs,hh,rfl⟩
 ·simp only[dQ,kD,eG,r2,fR,aM,rC,AM,BS,aH,aJ,if_true];exact q
 refine cM (λρ=>ρ=[aa (.tup [pt h,LD]),aa BD,aa (pt s),aa (pt h),aa (.int n),aa (.lst (hs.map λt=>gr t.1 t.2.1 t.2.2)),none,none,none]) (λK hK=>?_) ?_
 ·simp only[kD,eG,r2,iE,aM,rC,AM,BS,aH,aJ,aN,if_false];exact hK _ rfl
 rintro ρ rfl;refine cM (λρ=>∃a b c,ρ=[aa (.tup [pt h,LD]),aa BD,aa (pt s),aa (pt h),aa (.int n),aa (.lst (hs.map λt=>gr t.1 t.2.1 t.2.2)),a,b,c]) (λK hK=>?_) ?_
 ·simp only[nT,riL,cI,aH,aJ];refine kG (λys ρ=>∃(dn td:List (Int × Int × Int)) (a b c:Option L2.R2.S),hs=dn++td/\ys=td.map (λt=>gr t.1 t.2.1 t.2.2)/\ρ=[aa (.tup [pt h,LD]),aa BD,aa (pt s),aa (pt h),aa (.int n),aa (.lst (hs.map λt=>gr t.1 t.2.1 t.2.2)),a,b,c]) ?_ ?_ _ _ ⟨[],hs,none,none,none,rfl,rfl,rfl⟩
  ·rintro y ys ρ ⟨dn,td,a,b,c,ec,ey,rfl⟩ F hr rq vf _;cases td with
   | nil=>cases ey
   | cons t td =>
    cases ey;obtain⟨t0,b1,b2,b3⟩:=hh t (by rw[ec];simp);generalize xx:D.lst (hs.map λt=>gr t.1 t.2.1 t.2.2)=HD;obtain⟨X,Y,W⟩:=t;dsimp only at t0 b1 b2 b3;unfold tQ;simp only[eU,bD,bC];have fin:∀a b c,F.nx [aa (.tup [pt h,LD]),aa BD,aa (pt s),aa (pt h),aa (.int n),aa HD,a,b,c]:=λa b c=>vf _ ⟨dn++[(X,Y,W)],td,a,b,c,by rw[ec];simp,rfl,by rw[xx]⟩;refine cM (λρ=>∃x:D,(x = .non\/(∀b∈bs.map si,h8 true X Y W b≠0)/\x = .int (cnt (h8 true X Y W) (bs.map si)))/\ρ=[aa (.tup [pt h,LD]),aa BD,aa (pt s),aa (pt h),aa (.int n),aa HD,aa (gr X Y W),aa x,c]) (λK jp=>?_) ?_
    ·simp only[eX,cU,aC,aX,cI,rC,aH,aJ,bD,bC];refine⟨bs.map si,X,Y,W,true,by rw[<-wf,dN];rfl,⟨by rw[cN];have:=l.lb;lia,l.bt7⟩,⟨b1,b2,b3⟩,λ_=>jp _ ⟨.non,.inl rfl,rfl⟩,λnz=>jp _ ⟨_,.inr ⟨nz,rfl⟩,rfl⟩⟩
    rintro ρ ⟨x1,h1,rfl⟩;refine cM (λρ=>∃x:D,(x = .non\/(∀b∈mW us,h8 true X Y W b≠0)/\x = .int (cnt (h8 true X Y W) (mW us)))/\ρ=[aa (.tup [pt h,LD]),aa BD,aa (pt s),aa (pt h),aa (.int n),aa HD,aa (gr X Y W),aa x1,aa x]) (λK jp=>?_) ?_
    ·simp only[eX,r2,cU,aC,aX,cI,aM,rC,kT,aH,aJ,bD,bC];refine⟨mW us,X,Y,W,true,by rw[E_],⟨ll,lb7⟩,⟨b1,b2,b3⟩,λ_=>jp _ ⟨.non,.inl rfl,rfl⟩,λnz=>jp _ ⟨_,.inr ⟨nz,rfl⟩,rfl⟩⟩
    rintro ρ ⟨x2,h2,rfl⟩;rcases h1 with rfl | ⟨n1,rfl⟩
    ·simp only[kD,NG,eG,r2,iE,aM,rC,AM,BS,aH,aJ,if_true,fS,aN,if_false];exact fin _ _ _
    ·rcases h2 with rfl | ⟨n2,rfl⟩
     ·simp only[kD,NG,eG,r2,iE,aM,rC,AM,BS,aH,aJ,if_true,fS,mL,aN,if_false];exact fin _ _ _
     ·have e:=Cr f.h1 f.h2 t0 l.U (λb hb=>⟨(l.pz hb).1.ip,(l.ok b hb).mf⟩) n1 n2;rw[e];generalize cnt (h8 true X Y W) (mW us)=C;simp only[kD,NG,eG,r2,iE,aM,rC,AM,BS,dNe,eq6,aH,aJ,if_true,fS,mL,aN,if_false];exact fin _ _ _
  ·rintro ρ ⟨dn,td,a,b,c,ec,ey,rfl⟩;exact hK _ ⟨a,b,c,rfl⟩
 rintro ρ ⟨a,b,c,rfl⟩;simp only[fR,rC];exact q
abbrev Gv (G:Hp) (a b:D) (n p:Int) (h:Pt) (c:List D) (u:Option L2.R2.S) (d x:D) (w:Option L2.R2.S):En :=
 [om G a,om G b,om G (.int n),om G (.int p),om G (pt h),om G (.lst c),u,om G d,some (.mem true x (TL G x)),w]
abbrev Vl (G:Hp) (b c d x:D):En:=[none,om G b,none,none,none,om G c,none,om G d,some (.mem false x (TL G x)),none]
theorem Zr {b c d x:D} (h:Qp 1 x) (q:t E (Vl G b c d x)):Tq 8 (Qp 1) t E [a0,om G b,a2,a3,a4,om G c,a6,om G d,some (.mem y x (TL G x)),a9]:=by
 refine⟨x,y,G,Vl G b c d x,rfl,h,rfl,λi z e=>?_,q⟩
 match i,e with
 | 1,e=>cases e;exact .inr ⟨_,rfl,rfl⟩
 | 5,e=>cases e;exact .inr ⟨_,rfl,rfl⟩
 | 7,e=>cases e;exact .inr ⟨_,rfl,rfl⟩
 | 8,e=>cases e;exact .inl ⟨rfl,rfl⟩
 | 0,e=>cases e
 | 2,e=>cases e
 | 3,e=>cases e
 | 4,e=>cases e
 | 6,e=>cases e
 | 9,e=>cases e
 | i+10,e=>cases e
def Ed:∀ds Q,Ky 63 ds Q->RF F_cell34 F_cutbox NL TU GZ F_move36 NM Fg { nx:=λ_=>False,rt:=Q } (dR ["_law_script","_law_leans_here","_law_number","_law_place","_law_height","_law_bits_here","_law_piece","_law_handed","_law_found","_law_cell_here"] ds):=by
 rintro ds Q ⟨ns,rfl,hn,Qt⟩;rw[cL 9 rfl];unfold RF;simp only[iP,Yu,aV,cD,aY,bV];refine sS (λρ=>∃fs:List Pt,((1<=fs.length/\fs.length<=4)/\∀f∈fs,um f)/\ρ=[aa (il ns),aa (gh fs),none,none,none,none,none,none,none,none]) (λK hK=>?_) ?_
 ·walk_at "rd";refine⟨ns,0,rfl,by decide,λc c0 c1 _=>?_⟩;walk_at "rd";refine⟨(BL.const (n:=9000) (by decide)).divOk (by decide),?_⟩;refine⟨ns,0,rfl,by decide,λd d0 d1 _=>?_⟩;walk_at "rd";obtain⟨a0,a1⟩:=fQ (a:=d) (b:=4) (by decide);refine⟨mU,?_⟩;exact⟨_,_,rfl,⟨by lia,by lia⟩,λfs h1 h2=>hK _ ⟨fs,⟨⟨by lia,by lia⟩,h2⟩,rfl⟩⟩
 rintro ρ ⟨fs,⟨fl,hf⟩,rfl⟩;refine sS (λρ=>∃n:Int,(0<=n/\n<qt)/\ρ=[aa (il ns),aa (gh fs),aa (.int n),none,none,none,none,none,none,none]) (λK hK=>?_) ?_
 ·walk_at "rd";exact⟨ns,1,rfl,by decide,λc c0 c1 _=>hK _ ⟨c,⟨c0,c1⟩,rfl⟩⟩
 rintro ρ ⟨n,⟨n0,n1⟩,rfl⟩;refine sS (λρ=>∃(place:Int) (s:Pt),(0<=place/\fs[place.toNat]? = some s)/\ρ=[aa (il ns),aa (gh fs),aa (.int n),aa (.int place),none,none,none,none,none,none]) (λK hK=>?_) ?_
 ·walk_at "rd";simp only[cN];obtain⟨a0,a1⟩:=fQ (a:=n) (b:=((fs.length:Nat):Int)) (by lia);refine⟨⟨by lia⟩,hK _ ⟨_,fs[(n.fmod ((fs.length:Nat):Int)).toNat]'(by lia),⟨a0,?_⟩,rfl⟩⟩;exact aE _
 rintro ρ ⟨place,s,⟨p0,hs⟩,rfl⟩;have l7:um s:=hf s (eS hs);have ixs:∀K:D->Prop,K (pt s)->ca (gh fs) (.int place) K:=λK k=>Yj (by lia) (by have:=(bI.mp hs).1;lia) λg hg=>by rw[hs] at hg;cases hg;exact k
 refine sS (λρ=>∃h:Pt,(Fm s h/\h.2<=2/\cJ h.1 h.2=1)/\ρ=[aa (il ns),aa (gh fs),aa (.int n),aa (.int place),aa (pt h),none,none,none,none,none]) (λK hK=>?_) ?_
 ·walk_at "rd";obtain⟨a0,a1⟩:=fQ (a:=n.fdiv 4) (b:=6) (by decide);obtain⟨b0,b1⟩:=fQ (a:=n.fdiv 24) (b:=2) (by decide);refine⟨(BL.const (n:=9000) (by decide)).divOk (by decide),mU,(BL.const (n:=9000) (by decide)).divOk (by decide),mU,?_⟩;have bb:BL 10 (1+(n.fdiv 24).fmod 2):=BL.of_lt (m:=10) (by lia) (by lia);have ba:BL 10 (1+(n.fdiv 4).fmod 6):=BL.of_lt (m:=10) (by lia) (by lia);exact⟨_,_,rfl,⟨by lia,bb.mono⟩,λp q l=>hK _ ⟨(p,q),⟨Xh l7.ln l (by lia) (by lia) ba bb,by have:=l.leb;have:=l.pos;dsimp only;lia,l.cop⟩,rfl⟩⟩
 rintro ρ ⟨h,⟨f,h22,cop⟩,rfl⟩;refine sS (λρ=>ρ=[aa (il ns),aa (gh fs),aa (.int n),aa (.int place),aa (pt h),some (.own []),none,none,none,none]) (λK hK=>?_) ?_
 ·walk_at "rd";exact hK _ rfl
 rintro ρ rfl;generalize V1:gh fs=FS at *;refine sS (λρ=>∃(bs:List Bt) (u:Option L2.R2.S),(bs.length<=4/\(∀b∈bs,ui s h b)/\bs.map (·.1)∈RZ)/\ρ=[aa (il ns),aa FS,aa (.int n),aa (.int place),aa (pt h),some (.own (bs.map j5)),u,none,none,none]) (λK hK=>?_) ?_
 ·simp only[nT,riL,cU,aC,aX,cI,aM,r2,rC,pS,kB,aH,aJ];refine ixs _ ?_;obtain⟨a0,a1⟩:=fQ (a:=n.fdiv 72) (b:=4) (by decide);refine⟨(BL.const (n:=9000) (by decide)).divOk (by decide),mU,?_⟩;refine⟨s,h,_,rfl,⟨f,a0,a1⟩,λL hL hg=>?_⟩;have wi:=Zi a0 a1;obtain⟨wl,wp⟩:=Ku _ wi;rw[<-hL] at wi wl wp;rw[cN] at wl;refine kG (λys ρ=>∃(dn td:List (List Pt × Int × List Pt)) (bs:List Bt) (u:Option L2.R2.S),L=dn++td/\ys=td.map (λp=>pc p.2.1 p.2.2)/\(bs.map (λb=>(b.1,b.2.1,b.2.2.1))=dn/\∀b∈bs,ui s h b)/\ρ=[aa (il ns),aa FS,aa (.int n),aa (.int place),aa (pt h),some (.own (bs.map j5)),u,none,none,none]) ?_ ?_ _ _ ⟨[],L,[],none,rfl,rfl,⟨rfl,by simp⟩,rfl⟩
  ·rintro y ys ρ ⟨dn,td,bs,u,ec,ey,⟨eb,ho⟩,rfl⟩ F hr rq vf _;cases td with
   | nil=>cases ey
   | cons b td =>
    cases ey;have mb:b∈L:=(by rw[ec];simp);have gb:=hg b mb;have pb:=wp b.1 (dP mb);have lb:bs.length<=2:=by
     have l1:=congrArg fI eb;have l2:=congrArg fI ec;simp at l1 l2;lia
    generalize V3:pc b.2.1 b.2.2=PD;unfold FH;walk_at "rd";simp only[cN];have bd:BL 201 (n.fdiv 288):=by
     have e:qt<((2 ^ 200:Nat):Int):=(by decide);rw[cK _ (by decide)];exact BL.of_lt (m:=201) (by lia) (by lia)
    refine⟨(BL.const (n:=9000) (by decide)).divOk (by decide),(BL.const (n:=9000) (by decide)).mulOk (BL.of_lt (m:=20) (by lia) (by lia)),?_⟩;refine⟨_,rfl,(bd.add (BL.of_lt (m:=20) (by lia) (by lia))).mono,λm mf bm=>?_⟩;walk_at "rd";refine⟨rS (by simp;lia),vf _ ⟨dn++[b],td,bs++[(b.1,b.2.1,b.2.2,m)],aa PD,by rw[ec];simp,rfl,⟨by rw[dM,eb];rfl,λx hx=>?_⟩,?_⟩⟩
    ·rcases cS.mp hx with k | k
     ·exact ho x k
     ·rw[dY.mp k];exact⟨pb,gb,mf,bm.1,bm.2.1,bm.2.2.1,bm.2.2.2⟩
    ·rw[dM,<-V3];rfl
  ·rintro ρ ⟨dn,td,bs,u,ec,ey,⟨eb,ho⟩,rfl⟩;have:td=[]:=(by simpa using ey.symm);subst this;rw[fC] at ec;subst ec;refine hK _ ⟨bs,u,⟨?_,ho,?_⟩,rfl⟩
   ·have l1:=congrArg fI eb;simp at l1;lia
   ·rw[<-eb,dN] at wi;exact wi
 rintro ρ ⟨bs,u,⟨lb,ho,hw⟩,rfl⟩;generalize wf:bs.map j5=BD;refine sS (λρ=>ρ=[aa (il ns),aa FS,aa (.int n),aa (.int place),aa (pt h),some (.own BD),u,aa (.lst [.lst BD,FS]),none,none]) (λK hK=>?_) ?_
 ·subst V1;walk_at "rd";exact hK _ rfl
 rintro ρ rfl;have eh:ji (fb 8) [.lst BD,FS] [.lst BD,FS]=some true:=by rw[<-wf,<-V1];exact Ro bs fs
 generalize xx:D.lst [.lst BD,FS]=HD;have bz:∀b∈bs,BtZ h b:=λb hb=>by
  obtain⟨p,g,mf,b1,b2,b3,b4⟩:=ho b hb;exact⟨(Gi f l7 h22 p g).1,mf,b1,b2,b3,b4⟩
 refine sS (λρ=>∃(G:Hp) (us:List (Int × List Lb)),kn h bs us/\ρ=Gv G (il ns) FS n place h BD (Oi G u) HD (ug h us) none) (λK hK=>?_) ?_
 ·subst xx;simp only[Pe,wV,L2.R2.S.fz,kE,aC,aX,cI,aM,r2,rC,YO,YQ,aH,aJ,bD,bC,cG,fJ,sz3,true_and];exact⟨h,place,fs,bs,by rw[<-wf,<-V1],⟨⟨f.h1,f.h2,f.b1,f.b2⟩,lb,bz⟩,λus U G=>hK _ ⟨G,us,U,rfl⟩⟩
 rintro ρ ⟨G,us,U,rfl⟩;have l:gk s h bs us:=⟨f,l7,h22,cop,lb,ho,hw,U⟩;generalize hu:Oi G u=u';refine sS (λρ=>ρ=Gv G (il ns) FS n place h BD u' HD (ug h us) none) (λK hK=>?_) ?_
 ·subst xx;simp only[wV,L2.R2.S.fz,kD,rOr,sV,eG,r2,cU,cI,aM,rC,Rh,pV,aC,aX,eh,aH,aJ,bD,bC,cG,fJ,sz2,true_and,iE];refine⟨s,h,bs,us,rfl,l,?_⟩;exact hK _ rfl
 rintro ρ rfl;refine sS (λρ=>∃w,ρ=Gv G (il ns) FS n place h BD u' HD (ug h us) w) (λK hK=>?_) ?_
 ·simp only[nT,riL,r2,cI,aM,rC,EN,Hg,rL,CJ,pV,aC,aX,aH,aJ,cG,fJ,sz1,true_and];have lc:(cutD (ns.map D.int) none (some 6)).length<=63:=by
   unfold cutD;rw[gQ,mQ,cN];lia
  have hi:∀d∈cutD (ns.map D.int) none (some 6)++[D.int n],∃i,d = .int i:=λd hd=>by
   rcases cS.mp hd with z | z
   ·obtain⟨i,_,e⟩:=bJ.mp (BE (jZ z));exact⟨i,e.symm⟩
   ·exact⟨n,dY.mp z⟩
  refine⟨rS (by lia),?_⟩;generalize hys:cutD (ns.map D.int) none (some 6)++[D.int n]=ys0 at *;refine kG (λys ρ=>∃w:Option L2.R2.S,(∀d∈ys,∃i,d=D.int i)/\ρ=Gv G (il ns) FS n place h BD u' HD (ug h us) w) ?_ ?_ _ _ ⟨none,hi,rfl⟩
  ·rintro y ys ρ ⟨w,hy,rfl⟩ F hr rq vf _;obtain⟨i,rfl⟩:=hy y (dX ..);unfold FG;simp only[eU,wV,L2.R2.S.fz,kD,sV,eG,cU,r2,cI,aM,aC,aX,aH,aJ,bD,bC];refine ixs _ ?_;refine⟨s,h,bs,us,i,by rw[<-wf],l,?_⟩;simp only[fS,aN,if_false,iE];exact vf _ ⟨aa (.int i),λd hd=>hy d (bQ _ hd),rfl⟩
  ·rintro ρ ⟨w,_,rfl⟩;exact hK _ ⟨w,rfl⟩
 rintro ρ ⟨w,rfl⟩;refine Zr ⟨_,_,rfl,rfl⟩ ?_;subst xx;have e9:fb 9 (.lst [.lst BD,FS]) (.lst [.lst BD,FS])=some true:=eh;simp only[wV,L2.R2.S.fz,fR,r2,cI,aM,Re,pV,aC,aX,e9,aH,aJ,bD,bC,cG,fJ,sz2,true_and];exact Qt
def top (i:Nat):Stmt:=PySem.Challenge.pw_recut_k37_a_box_upright.main.body.getD i (.Pass ⟨0,0,0,0⟩)
structure TopF (K:aI) (mg:Str->Option aD):Prop where
 d0:aj K mg "_law_cell" (top 60) ["_law_script","_law_k"]
 d1:aj K mg "_law_divisor" (top 38) ["_law_one","_law_other"]
 d2:aj K mg "_law_due" (top 40) ["_law_share","_law_ring"]
 d3:aj K mg "_law_cut_box" (top 56) ["_law_s","_law_h","_law_way"]
 d4:aj K mg "_law_led" (top 58) ["_law_move_here","_law_spot"]
 d5:aj K mg "_law_lies" (top 47) ["_law_piece","_law_spot"]
 d6:aj K mg "_law_homes_of" (top 59) ["_law_bits_here","_law_spot"]
 d7:aj K mg "_law_back" (top 53) ["_law_spot","_law_move_here"]
 d8:aj K mg "_law_many" (top 54) ["_law_bits_here","_law_spot","_law_home"]
 d9:aj K mg "_law_spot_in" (top 57) ["_law_cell_here","_law_s","_law_h"]
 d10:aj K mg "_law_filled" (top 62) ["_law_found","_law_bits_here","_law_lean","_law_height","_law_cell_here"]
 d11:aj K mg "_law_fraction" (top 39) ["_law_top","_law_bottom"]
 d12:aj K mg "_law_digit" (top 36) ["_law_number","_law_base","_law_place"]
 d13:aj K mg "_law_leans" (top 51) ["_law_number","_law_many_here"]
 d14:aj K mg "_law_move" (top 52) ["_law_number"]
 d15:aj K mg "_law_added" (top 49) ["_law_one","_law_other"]
 d16:aj K mg "_law_area" (top 48) ["_law_piece"]
 d17:aj K mg "_law_areas" (top 50) ["_law_bits_here"]
 d18:aj K mg "_law_whole" (top 37) ["_law_found"]
 d19:aj K mg "_law_is_fraction" (top 44) ["_law_found"]
 d20:aj K mg "_law_numbers_whole" (top 42) ["_law_piece"]
 d21:aj K mg "_law_turn" (top 41) ["_law_one","_law_two","_law_three"]
 d22:aj K mg "_law_is_piece" (top 43) ["_law_piece"]
 d23:aj K mg "_law_is_bit" (top 45) ["_law_bit"]
 d24:aj K mg "_law_bits" (top 46) ["_law_bits_here"]
 d25:aj K mg "_law_in_box" (top 55) ["_law_piece","_law_s","_law_h"]
 d26:aj K mg "_law_upright" (top 61) ["_law_found","_law_height"]
 d27:aj K mg "excess" (top 22) ["line","point","share"]
 d28:aj K mg "crossing" (top 23) ["one","one_excess","other","other_excess"]
 d29:aj K mg "neighbours" (top 17) ["ones"]
 d30:aj K mg "points_within" (top 24) ["corners","excesses"]
 d31:aj K mg "turn" (top 18) ["one","middle","other"]
 d32:aj K mg "half_round" (top 19) ["points"]
 d33:aj K mg "outline" (top 20) ["points"]
 d34:aj K mg "shared_divisor" (top 4) ["one","other"]
 d35:aj K mg "settled" (top 21) ["share","points"]
 d36:aj K mg "part_within" (top 25) ["piece","line"]
 d37:aj K mg "cut" (top 26) ["piece","line"]
 d38:aj K mg "floor_of" (top 10) ["one"]
 d39:aj K mg "ratio" (top 6) ["top","bottom"]
 d40:aj K mg "plus" (top 7) ["one","other"]
 d41:aj K mg "signed" (top 12) ["sign","one"]
 d42:aj K mg "led" (top 13) ["move","spot"]
 d43:aj K mg "behind" (top 14) ["first","second"]
 d44:aj K mg "shared_multiple" (top 5) ["one","other"]
 d45:aj K mg "pushed" (top 27) ["piece","move"]
 d46:aj K mg "way_back" (top 15) ["move"]
 d47:aj K mg "carried" (top 29) ["bit","move"]
 d48:aj K mg "lifted" (top 30) ["bit","height"]
 d49:aj K mg "lowest" (top 32) ["piece"]
 d50:aj K mg "over" (top 9) ["one","other"]
 d51:aj K mg "times" (top 8) ["one","other"]
 d52:aj K mg "levelled" (top 33) ["bit","height"]
 d53:aj K mg "upright" (top 34) ["box","leans"]
 d54:aj K mg "law" (top 63) ["_law_script"]
 b0:mg "len" = none
 b1:mg "abs" = none
 b2:mg "tuple" = none
 b3:mg "min" = none
 b4:mg "int" = none
 b5:mg "range" = none
 b6:mg "isinstance" = none
 b7:mg "bool" = none
 b8:mg "list" = none
 b9:mg "zip" = none
 b10:mg "reversed" = none
 b11:mg "sorted" = none
 b12:mg "set" = none
 b13:mg "max" = none
section
variable {P:cE} {w:dI} {K:aI} {mg:Str->Option aD} {base:Heap} (T:TopF K mg)
theorem BZ:rW (["_law_x","_law_y","_law_most"]:List Str):=by decide +kernel
theorem EV:rW (["x","y","divisor"]:List Str):=by decide +kernel
theorem rK:rW (["x","y","own","factor"]:List Str):=by decide +kernel
theorem IW:rW (["corner","line","share"]:List Str):=by decide +kernel
theorem IX:rW (["x","y","scale","right","up"]:List Str):=by decide +kernel
theorem IV:rW (["x","y"]:List Str):=by decide +kernel
include T
theorem zD:FnAt P w K mg base "_law_cell" ["_law_script","_law_k"] 1 K34.F_cell34 :=
 T.d0.mkD K34.len_cell34 K34.pure_law_cell34 λnd hr =>
 aP (jN (gG CD (ae 1) (eb (qJ T.b0 (ae 0)))) (bF (dA (aU kN (eb (aT (ae 0) (ae 1))) (eb (aU iG (eb (aU XB aF aF)) aF))))) fV)
 (bF (dA iT))
theorem lS:FnAt P w K mg base "_law_divisor" ["_law_one","_law_other"] 1 zN :=
 T.d1.mkD Gm LJ λnd hr =>
 aP (cR nd (vD GI T.b1 sC (aB (dv 0) aS)))
 (aP (cR nd (vD GI T.b1 sC (aB (dv 1) aS)))
 (aP (IL dD (gG UU (ae 1) aF) (bF (Wj rfl nd (aB (dv 1) (aB (aU kN (ae 0) (ae 1)) aS)))))
 (bF (dA (dv 0)))))
theorem oW:FnAt P w K mg base "_law_due" ["_law_share","_law_ring"] 2 OG :=
 T.d2.mkD (N:=["_law_share","_law_ring","_law_most","_law_x","_law_y","_law_corners","_law_at"]) Sb XI λnd hr =>
 aP (cR nd (dv 0))
 (aP (mJ dD rfl (lY (dv 1)) (qK rfl (fO (eT nd) (fO (eT nd) nM))) (bF (cR nd (bG (lS T) hr (aB (bG (lS T) hr (aB (dv 2) (aB (dv 3) aS))) (aB (dv 4) aS))))))
 (aP (WH ["_law_x","_law_y","_law_most"] 2 [2] nd (lY (dv 1)) (λcl C s H fp=>qK rfl (fO (eT BZ) (fO (eT BZ) nM))) (λcl C s H fp=>gE (aB (aU iH (ae 0) (ae 2)) (aB (aU iH (ae 1) (ae 2)) aS))))
 (aP (cR nd (Mk hr (ae 5) (Gb hr T.b3 rfl (ae 5))))
 (bF (dA (gE (aB (aU iH (ae 0) (ae 2)) (aB (YS T.b2 (eb (aU NZ (eb (BQ (ae 5) (DJ (dv 6)) DH)) (eb (BQ (ae 5) DH (DJ (dv 6))))))) aS))))))))
theorem NA:FnAt P w K mg base "_law_cut_box" ["_law_s","_law_h","_law_way"] 3 K36.F_cutbox :=
 T.d3.mkD K36.len_cutbox K36.pure_cutbox λnd hr =>
 aP (cR nd (aU cF (eb (aT (ae 0) aF)) (eb (aT (ae 1) aF))))
 (aP (cR nd (aU cF (eb (aT (ae 0) aF)) (eb (aT (ae 1) aF))))
 (aP (cR nd (aU cF (eb (aT (ae 1) aF)) (eb (aT (ae 0) aF))))
 (aP (jN (gG CD (ae 2) aF) (aP (cR nd (gE (aB iT (aB iT aS))))
 (aP (cR nd (gE (aB (dv 3) (aB (dv 4) aS))))
 (aP (cR nd (gE (aB (dv 3) (aB (aU iG (ae 4) (ae 5)) aS))))
 (aP (cR nd (gE (aB iT (aB (dv 5) aS))))
 (aP (jN (gG vF (ae 2) aF) (bF (dA (DO.val (kL (aB (bG (oW T) hr (aB (dv 3) (aB (DO.val (kL (aB (dv 6) (aB (dv 7) (aB (dv 8) (aB (dv 9) aS)))))) aS))) aS))))) fV)
 (aP (jN (gG vF (ae 2) aF) (bF (dA (DO.val (kL (aB (bG (oW T) hr (aB (dv 3) (aB (DO.val (kL (aB (dv 6) (aB (dv 7) (aB (dv 8) aS))))) aS))) (aB (bG (oW T) hr (aB (dv 3) (aB (DO.val (kL (aB (dv 6) (aB (dv 8) (aB (dv 9) aS))))) aS))) aS)))))) fV)
 (bF (dA (DO.val (kL (aB (bG (oW T) hr (aB (dv 3) (aB (DO.val (kL (aB (dv 6) (aB (dv 7) (aB (dv 9) aS))))) aS))) (aB (bG (oW T) hr (aB (dv 3) (aB (DO.val (kL (aB (dv 7) (aB (dv 8) (aB (dv 9) aS))))) aS))) aS)))))))))))) fV)
 (aP (cR nd (DO.val (kL (aB (gE (aB (dv 3) (aB (dv 4) aS))) (aB (gE (aB (dv 3) (aB (aU iG (ae 4) (eb (aU cF aF (ae 5)))) aS))) aS)))))
 (aP (cR nd (bG (oW T) hr (aB (aU cF aF (ae 3)) (aB (DO.val (kL (aB (gE (aB iT (aB iT aS))) (aB (aT (ae 10) aF) (aB (aT (ae 10) aF) (aB (gE (aB iT (aB (aU cF aF (ae 5)) aS))) aS)))))) aS))))
 (bF (dA (DO.val (kL (aB (dv 11) (aB (bG (oW T) hr (aB (aU cF aF (ae 3)) (aB (DO.val (kL (aB (aT (ae 10) aF) (aB (gE (aB (aU cF aF (ae 3)) (aB (aU cF aF (ae 4)) aS))) (aB (gE (aB (aU cF aF (ae 3)) (aB (aU iG (eb (aU cF aF (ae 4))) (eb (aU cF aF (ae 5)))) aS))) (aB (aT (ae 10) aF) aS)))))) aS))) aS)))))))))))
theorem Ab:FnAt P w K mg base "_law_led" ["_law_move_here","_law_spot"] 1 K36.F_ledL :=
 T.d4.mkD K36.len_ledL K36.pure_ledL λnd hr =>
 aP (WG (dv 0) (qK rfl (fO (eT nd) (fO (eT nd) (fO (eT nd) nM)))))
 (aP (cR nd (aU cF (eb (aU iG (eb (aU cF (eb (aU cF (ae 2) (eb (aT (ae 1) aF)))) (eb (aT (ae 3) aF)))) (eb (aU cF (eb (aT (ae 3) aF)) (eb (aT (ae 1) aF)))))) (eb (aT (ae 4) aF))))
 (aP (cR nd (aU cF (eb (aU iG (eb (aU cF (eb (aU cF (ae 2) (eb (aT (ae 1) aF)))) (eb (aT (ae 4) aF)))) (eb (aU cF (eb (aT (ae 4) aF)) (eb (aT (ae 1) aF)))))) (eb (aT (ae 3) aF))))
 (bF (dA (gE (aB (dv 5) (aB (dv 6) (aB (aU cF (eb (aU cF (eb (aT (ae 1) aF)) (eb (aT (ae 3) aF)))) (eb (aT (ae 4) aF))) aS))))))))
theorem IY:FnAt P w K mg base "_law_lies" ["_law_piece","_law_spot"] 1 AW :=
 T.d5.mkD (N:=["_law_piece","_law_spot","_law_share","_law_corners","_law_least","_law_k","_law_one","_law_x","_law_y","_law_side"]) Dg NE λnd hr =>
 aP (WG (dv 0) (qK rfl (fO (eT nd) (fO (eT nd) nM))))
 (aP (cR nd vE)
 (aP (mJ dD rfl (xN T.b5 (aB (qJ T.b0 (ae 3)) aS)) (eT nd) (aP (cR nd (aT (ae 3) (eb (aU iY (ae 5) aF))))
 (aP (cR nd (aU iY (eb (aU cF (eb (aT (ae 1) aF)) (ae 2))) (eb (aU cF (eb (aT (ae 6) aF)) (eb (aT (ae 1) aF))))))
 (aP (cR nd (aU iY (eb (aU cF (eb (aT (ae 1) aF)) (ae 2))) (eb (aU cF (eb (aT (ae 6) aF)) (eb (aT (ae 1) aF))))))
 (aP (cR nd (aU iY (eb (aU cF (eb (aU iY (eb (aT (eb (aT (ae 3) (ae 5))) aF)) (eb (aT (ae 6) aF)))) (ae 8))) (eb (aU cF (eb (aU iY (eb (aT (eb (aT (ae 3) (ae 5))) aF)) (eb (aT (ae 6) aF)))) (ae 7)))))
 (bF (jN (DW.tst (pT (gG Oe (ae 4) (eb vE)) (tF (gG CD (ae 9) (ae 4))))) (bF (cR nd (dv 9))) fV)))))))
 (bF (dA (aU iY (eb (KJ Ci T.b4 DD (aB (wS UU (ae 4) aF) aS))) (eb (KJ Ci T.b4 DD (aB (wS CD (ae 4) aF) aS))))))))
theorem LB:FnAt P w K mg base "_law_homes_of" ["_law_bits_here","_law_spot"] 2 K36.F_homesG :=
 T.d6.mkD K36.len_homesG K36.pure_homesG λnd hr =>
 aP (yV nd (kL aS))
 (aP (mJ dD rfl (lY (dv 0)) (qK rfl (fO (eT nd) (fO (eT nd) nM))) (aP (cR nd (bG (IY T) hr (aB (dv 3) (aB (dv 1) aS))))
 (aP (jN (gG vF (ae 5) aF) (bF (dA vE)) fV)
 (bF (jN (gG vF (ae 5) aF) (bF (sD 2 (bG (Ab T) hr (aB (dv 4) (aB (dv 1) aS))))) fV)))))
 (bF (EO 2 (dA (dv 2)))))
theorem XD:FnAt P w K mg base "_law_back" ["_law_spot","_law_move_here"] 1 VO :=
 T.d7.mkD Nl Kc λnd hr =>
 aP (WG (dv 1) (qK rfl (fO (eT nd) (fO (eT nd) (fO (eT nd) nM)))))
 (aP (cR nd (aU cF (eb (aU cF (ae 2) (eb (aU iY (eb (aU cF (eb (aT (ae 0) aF)) (eb (aT (ae 3) aF)))) (eb (aU cF (eb (aT (ae 3) aF)) (eb (aT (ae 0) aF)))))))) (eb (aT (ae 4) aF))))
 (aP (cR nd (aU cF (eb (aU cF (ae 2) (eb (aU iY (eb (aU cF (eb (aT (ae 0) aF)) (eb (aT (ae 4) aF)))) (eb (aU cF (eb (aT (ae 4) aF)) (eb (aT (ae 0) aF)))))))) (eb (aT (ae 3) aF))))
 (bF (dA (gE (aB (dv 5) (aB (dv 6) (aB (aU cF (eb (aU cF (eb (aT (ae 0) aF)) (eb (aT (ae 3) aF)))) (eb (aT (ae 4) aF))) aS))))))))
theorem zE:FnAt P w K mg base "_law_many" ["_law_bits_here","_law_spot","_law_home"] 2 NO :=
 T.d8.mkD Je Eg λnd hr =>
 aP (cR nd iT)
 (aP (mJ dD rfl (lY (dv 0)) (qK rfl (fO (eT nd) (fO (eT nd) nM))) (aP (cR nd (dv 1))
 (aP (jN (lF (dv 2)) (bF (cR nd (bG (XD T) hr (aB (dv 1) (aB (dv 5) aS))))) fV)
 (aP (cR nd (bG (IY T) hr (aB (dv 4) (aB (dv 6) aS))))
 (aP (jN (gG vF (ae 7) aF) (bF (dA vE)) fV)
 (bF (cR nd (aU iG (ae 3) (eb (KJ Ci T.b4 DD (aB (wS vF (ae 7) aF) aS)))))))))))
 (bF (dA (dv 3))))
theorem zV:FnAt P w K mg base "_law_spot_in" ["_law_cell_here","_law_s","_law_h"] 1 K36.F_spotin :=
 T.d9.mkD K36.len_spotin K36.pure_spotin λnd hr =>
 aP (cR nd (aU kN (eb (aU cF (eb (aU cF (eb (aU iG (eb (aU kN (ae 0) (eb (aU XB aF aF)))) aF)) (eb (aU iG (eb (aU kN (ae 0) (eb (aU XB aF aF)))) aF)))) aF)) aF))
 (aP (cR nd (aU iG aF (eb (aU kN (ae 3) aF))))
 (aP (cR nd (aU iG aF (eb (aU kN (eb (aU kN (eb (aU cF (ae 3) aF)) aF)) aF))))
 (aP (cR nd (aU cF (eb (aU cF (eb (aU cF aF aF)) (eb (aT (ae 1) aF)))) (eb (aT (ae 2) aF))))
 (bF (dA (gE (aB (aU cF (eb (aU cF (eb (aU cF (ae 4) aF)) (eb (aT (ae 1) aF)))) (eb (aT (ae 2) aF))) (aB (aU iG (eb (aU cF (eb (aU cF (eb (aU cF (ae 4) (eb (aT (ae 1) aF)))) aF)) (eb (aT (ae 2) aF)))) (eb (aU cF (eb (aU cF (eb (aU cF (ae 5) (eb (aT (ae 2) aF)))) aF)) (eb (aT (ae 1) aF))))) (aB (dv 6) aS)))))))))
theorem QL:FnAt P w K mg base "_law_filled" ["_law_found","_law_bits_here","_law_lean","_law_height","_law_cell_here"] 3 NL :=
 T.d10.mkD Ja Ec λnd hr =>
 aP (jN (gG (Og hr) (eb (bG (zE T) hr (aB (aT (ae 0) aF) (aB (bG (zV T) hr (aB (dv 4) (aB (gE (aB iT (aB iT aS))) (aB (dv 3) aS)))) (aB mK aS))))) (eb (DO.val (kL (aB iT (aB vE aS))))) rfl) (bF (dA mK)) fV)
 (aP (cR nd (bG (LB T) hr (aB (dv 1) (aB (bG (zV T) hr (aB (dv 4) (aB (dv 2) (aB (dv 3) aS)))) aS))))
 (aP (jN (gG Oe (ae 5) (eb vE)) (bF (dA mK)) fV)
 (aP (mJ dD rfl (lY (dv 5)) (eT nd) (aP (cR nd (bG (zE T) hr (aB (dv 1) (aB (dv 6) (aB mK aS)))))
 (aP (cR nd (bG (zE T) hr (aB (aT (ae 0) aF) (aB (dv 6) (aB mK aS)))))
 (bF (jN (DW.tst (WI (gG XA (ae 7) (eb vE)) (WI (gG XA (ae 8) (eb vE)) (WJ (gG (Vm hr) (ae 7) (ae 8)))))) (bF (dA mK)) fV)))))
 (bF (dA mK)))))
theorem mV:FnAt P w K mg base "_law_fraction" ["_law_top","_law_bottom"] 2 TU :=
 T.d11.mkD Si JD λnd hr =>
 aP (cR nd (bG (lS T) hr (aB (dv 0) (aB (dv 1) aS))))
 (bF (dA (gE (aB (aU iH (ae 0) (ae 2)) (aB (aU iH (ae 1) (ae 2)) aS)))))
theorem EX:FnAt P w K mg base "_law_digit" ["_law_number","_law_base","_law_place"] 1 NK :=
 T.d12.mkD Iz QX λnd hr =>
 aP (mJ dD rfl (xN T.b5 (aB (dv 2) aS)) (eT nd) (bF (cR nd (aU iH (ae 0) (ae 1)))))
 (bF (dA (aU kN (ae 0) (ae 1))))
theorem SZ:FnAt P w K mg base "_law_leans" ["_law_number","_law_many_here"] 3 GZ :=
 T.d13.mkD Df Au λnd hr =>
 aP (yV nd (kL (aB (bG (mV T) hr (aB (aU iY (eb (aU kN (ae 0) aF)) aF) (aB (aU iG aF (eb (aU kN (eb (aU iH (ae 0) aF)) aF))) aS))) aS)))
 (aP (mJ dD rfl (xN T.b5 (aB (aU iY (ae 1) aF) aS)) (eT nd) (aP (cR nd (aU iG aF (eb (bG (EX T) hr (aB (aU iH (ae 0) aF) (aB iT (aB (dv 3) aS)))))))
 (aP (cR nd (aU iG aF (eb (aU kN (eb (bG (EX T) hr (aB (aU iH (ae 0) aF) (aB iT (aB (dv 3) aS))))) aF))))
 (bF (sD 2 (bG (mV T) hr (aB (aU iG (eb (aU cF (eb (aT (eb (aT (ae 2) (eb (xM sL aF)))) aF)) (ae 5))) (eb (aU cF (ae 4) (eb (aT (eb (aT (ae 2) (eb (xM sL aF)))) aF))))) (aB (aU cF (eb (aT (eb (aT (ae 2) (eb (xM sL aF)))) aF)) (ae 5)) aS))))))))
 (bF (EO 2 (dA (dv 2)))))
theorem XF:FnAt P w K mg base "_law_move" ["_law_number"] 3 K36.F_move36 :=
 T.d14.mkD K36.len_move36 K36.pure_move36 λnd hr =>
 aP (cR nd (aT (eb (DO.val (kL (aB iT (aB (aU XB aF aF) aS))))) (eb (aU kN (eb (aU iH (ae 0) aF)) aF))))
 (aP (cR nd (bG (mV T) hr (aB (aU iY (eb (aU kN (eb (aU cF (eb (aU kN (eb (aU cF (ae 0) aF)) aF)) aF)) (eb (aU iG (eb (aU cF aF (ae 1))) aF)))) (ae 1)) (aB (aU iG aF (eb (aU kN (eb (aU iH (ae 0) aF)) aF))) aS))))
 (aP (cR nd (bG (mV T) hr (aB (aU iY (eb (aU kN (ae 0) (eb (aU iG (eb (aU cF aF (ae 1))) aF)))) (ae 1)) (aB (aU iG aF (eb (aU kN (eb (aU iH (ae 0) aF)) aF))) aS))))
 (bF (dA (gE (aB (aU iY aF (eb (aU cF aF (eb (aU kN (ae 0) aF))))) (aB (dv 2) (aB (dv 3) aS))))))))
theorem SX:FnAt P w K mg base "_law_added" ["_law_one","_law_other"] 1 GU :=
 T.d15.mkD Cv An λnd hr =>
 bF (dA (gE (aB (aU iG (eb (aU cF (eb (aT (ae 0) aF)) (eb (aT (ae 1) aF)))) (eb (aU cF (eb (aT (ae 1) aF)) (eb (aT (ae 0) aF))))) (aB (aU cF (eb (aT (ae 0) aF)) (eb (aT (ae 1) aF))) aS))))
theorem XC:FnAt P w K mg base "_law_area" ["_law_piece"] 1 K36.F_area3 :=
 T.d16.mkD K36.len_area3 K36.pure_area3 λnd hr =>
 aP (cR nd iT)
 (aP (mJ dD rfl (xN T.b5 (aB (qJ T.b0 (eb (aT (ae 0) aF))) aS)) (eT nd) (aP (cR nd (aT (eb (aT (ae 0) aF)) (eb (aU iY (ae 2) aF))))
 (aP (cR nd (aT (eb (aT (ae 0) aF)) (ae 2)))
 (bF (cR nd (aU iY (eb (aU iG (ae 1) (eb (aU cF (eb (aT (ae 3) aF)) (eb (aT (ae 4) aF)))))) (eb (aU cF (eb (aT (ae 3) aF)) (eb (aT (ae 4) aF))))))))))
 (bF (dA (gE (aB (dv 1) (aB (aU cF (eb (aT (ae 0) aF)) (eb (aT (ae 0) aF))) aS))))))
theorem SY:FnAt P w K mg base "_law_areas" ["_law_bits_here"] 2 GV :=
 T.d17.mkD Cw Ao λnd hr =>
 aP (cR nd (gE (aB iT (aB iT aS))))
 (aP (mJ dD rfl (lY (dv 0)) (eT nd) (bF (cR nd (bG (SX T) hr (aB (dv 1) (aB (bG (XC T) hr (aB (aT (ae 2) aF) aS)) aS))))))
 (bF (dA (dv 1))))
theorem nX:FnAt P w K mg base "_law_whole" ["_law_found"] 1 CZ :=
 T.d18.mkD Ji QY λnd hr =>
 bF (dA (PC (wT (Ud _) T.b6 T.b4 DD (dv 0)) (WB (Wh (wT (Py _) T.b6 T.b7 Cf (dv 0))))))
theorem pQ:FnAt P w K mg base "_law_is_fraction" ["_law_found"] 2 K36.F_isfr :=
 T.d19.mkD K36.len_isfr K36.pure_isfr λnd hr =>
 aP (jN (DW.tst (pT (lQ (lF (wT (sK _) T.b6 T.b2 oQ (dv 0)))) (pT (gG CF (eb (qJ T.b0 (ae 0))) aF) (pT (lQ (lF (bG (nX T) hr (aB (aT (ae 0) aF) aS)))) (tF (lQ (lF (bG (nX T) hr (aB (aT (ae 0) aF) aS))))))))) (bF (dA mK)) fV)
 (bF (dA (PC (wS UU (eb (aT (ae 0) aF)) aF) (WB (wS vF (eb (bG (lS T) hr (aB (aT (ae 0) aF) (aB (aT (ae 0) aF) aS)))) aF)))))
theorem AN:FnAt P w K mg base "_law_numbers_whole" ["_law_piece"] 2 HC :=
 T.d20.mkD Dh zG λnd hr =>
 aP (jN (DW.tst (pT (lQ (lF (wT (sK _) T.b6 T.b2 oQ (dv 0)))) (pT (gG CF (eb (qJ T.b0 (ae 0))) aF) (pT (lQ (lF (bG (nX T) hr (aB (aT (ae 0) aF) aS)))) (tF (gG CD (eb (aT (ae 0) aF)) aF)))))) (bF (dA mK)) fV)
 (aP (jN (DW.tst (pT (lQ (lF (wT (sK _) T.b6 T.b2 oQ (aT (ae 0) aF)))) (tF (gG CD (eb (qJ T.b0 (eb (aT (ae 0) aF)))) aF)))) (bF (dA mK)) fV)
 (aP (mJ dD rfl (PF (aT (ae 0) aF)) (eT nd) (aP (jN (DW.tst (pT (lQ (lF (wT (sK _) T.b6 T.b2 oQ (dv 1)))) (tF (gG CF (eb (qJ T.b0 (ae 1))) aF)))) (bF (dA mK)) fV)
 (bF (jN (DW.tst (pT (lQ (lF (bG (nX T) hr (aB (aT (ae 1) aF) aS)))) (tF (lQ (lF (bG (nX T) hr (aB (aT (ae 1) aF) aS))))))) (bF (dA mK)) fV))))
 (bF (dA mK))))
theorem XG:FnAt P w K mg base "_law_turn" ["_law_one","_law_two","_law_three"] 1 NN :=
 T.d21.mkD Jd TF λnd hr =>
 aP (cR nd (aU cF (eb (aU iY (eb (aT (ae 1) aF)) (eb (aT (ae 0) aF)))) (eb (aU iY (eb (aT (ae 2) aF)) (eb (aT (ae 1) aF))))))
 (bF (dA (aU iY (ae 3) (eb (aU cF (eb (aU iY (eb (aT (ae 1) aF)) (eb (aT (ae 0) aF)))) (eb (aU iY (eb (aT (ae 2) aF)) (eb (aT (ae 1) aF)))))))))
theorem LC:FnAt P w K mg base "_law_is_piece" ["_law_piece"] 3 Fd :=
 T.d22.mkD (N:=["_law_piece","_law_share","_law_corners","_law_most","_law_falls","_law_k"]) Sd JE λnd hr =>
 aP (jN (lQ (lF (bG (AN T) hr (aB (dv 0) aS)))) (bF (dA mK)) fV)
 (aP (WG (dv 0) (qK rfl (fO (eT nd) (fO (eT nd) nM))))
 (aP (cR nd (dv 1))
 (aP (cR nd iT)
 (aP (mJ dD rfl (xN T.b5 (aB (qJ T.b0 (ae 2)) aS)) (eT nd) (aP (cR nd (bG (lS T) hr (aB (bG (lS T) hr (aB (dv 3) (aB (aT (eb (aT (ae 2) (ae 5))) aF) aS))) (aB (aT (eb (aT (ae 2) (ae 5))) aF) aS))))
 (aP (jN (gG Gs (eb (bG (XG T) hr (aB (aT (ae 2) (eb (aU iY (ae 5) aF))) (aB (aT (ae 2) (eb (aU iY (ae 5) aF))) (aB (aT (ae 2) (ae 5)) aS))))) aF) (bF (dA mK)) fV)
 (bF (jN (DW.tst (WI (gG (Of hr) (eb (aT (ae 2) (eb (aU iY (ae 5) aF)))) (eb (aT (ae 2) (eb (aU iY (ae 5) aF))))) (WJ (gG (Of hr) (eb (aT (ae 2) (eb (aU iY (ae 5) aF)))) (eb (aT (ae 2) (ae 5))))))) (bF (cR nd (aU iG (ae 4) aF))) fV)))))
 (bF (dA (PC (wS vF (ae 3) aF) (PC (wS vF (ae 4) aF) (WB (wS (C0 hr) (eb (aT (ae 2) aF)) (eb (Gb hr T.b3 rfl (ae 2)))))))))))))
theorem QN:FnAt P w K mg base "_law_is_bit" ["_law_bit"] 4 GY :=
 T.d23.mkD Dc At λnd hr =>
 aP (jN (DW.tst (pT (lQ (lF (wT (sK _) T.b6 T.b2 oQ (dv 0)))) (pT (gG CF (eb (qJ T.b0 (ae 0))) aF) (tF (lQ (lF (bG (LC T) hr (aB (aT (ae 0) aF) aS)))))))) (bF (dA mK)) fV)
 (aP (cR nd (aT (ae 0) aF))
 (aP (jN (DW.tst (pT (lQ (lF (wT (sK _) T.b6 T.b2 oQ (dv 1)))) (pT (gG CF (eb (qJ T.b0 (ae 1))) aF) (pT (lQ (lF (bG (nX T) hr (aB (aT (ae 1) aF) aS)))) (tF (gG CF (eb (vD GI T.b1 sC (aB (aT (ae 1) aF) aS))) aF)))))) (bF (dA mK)) fV)
 (bF (dA (PC (bG (pQ T) hr (aB (aT (ae 1) aF) aS)) (WB (bG (pQ T) hr (aB (aT (ae 1) aF) aS))))))))
theorem XE:FnAt P w K mg base "_law_bits" ["_law_bits_here"] 5 NI :=
 T.d24.mkD Ix Eb λnd hr =>
 aP (jN (lQ (lF (wT (Qa _) T.b6 T.b8 Cg (dv 0)))) (bF (dA mK)) fV)
 (aP (mJ dD rfl (lY (dv 0)) (eT nd) (bF (jN (lQ (lF (bG (QN T) hr (aB (dv 1) aS)))) (bF (dA mK)) fV)))
 (bF (dA mK)))
theorem QM:FnAt P w K mg base "_law_in_box" ["_law_piece","_law_s","_law_h"] 1 GX :=
 T.d25.mkD Db As λnd hr =>
 aP (mJ dD rfl (PF (aT (ae 0) aF)) (qK rfl (fO (eT nd) (fO (eT nd) nM))) (aP (jN (DW.tst (pT (gG CD (ae 3) aF) (tF (gG UU (ae 3) (eb (aT (ae 0) aF)))))) (bF (dA mK)) fV)
 (aP (cR nd (aU iY (eb (aU cF (ae 4) (eb (aT (ae 1) aF)))) (eb (aU cF (ae 3) (eb (aT (ae 1) aF))))))
 (bF (jN (DW.tst (pT (gG CD (ae 5) aF) (tF (gG UU (eb (aU cF (ae 5) (eb (aT (ae 2) aF)))) (eb (aU cF (eb (aU cF (eb (aT (ae 2) aF)) (eb (aT (ae 1) aF)))) (eb (aT (ae 0) aF)))))))) (bF (dA mK)) fV)))))
 (bF (dA mK))
theorem NB:FnAt P w K mg base "_law_upright" ["_law_found","_law_height"] 6 NM :=
 T.d26.mkD Jb Ee λnd hr =>
 aP (jN (DW.tst (pT (lQ (lF (wT (sK _) T.b6 T.b2 oQ (dv 0)))) (pT (gG CF (eb (qJ T.b0 (ae 0))) aF) (pT (gG (Vm hr) (eb (aT (ae 0) aF)) (ae 1)) (tF (lQ (lF (bG (pQ T) hr (aB (aT (ae 0) aF) aS))))))))) (bF (dA mK)) fV)
 (aP (jN (lQ (lF (bG (XE T) hr (aB (aT (ae 0) aF) aS)))) (bF (dA mK)) fV)
 (aP (mJ dD rfl (lY (aT (ae 0) aF)) (eT nd) (bF (jN (lQ (lF (bG (QM T) hr (aB (aT (ae 2) aF) (aB (gE (aB iT (aB iT aS))) (aB (dv 1) aS)))))) (bF (dA mK)) fV)))
 (aP (cR nd (bG (SY T) hr (aB (aT (ae 0) aF) aS)))
 (bF (dA (wS vF (eb (aU cF (eb (aT (ae 3) aF)) (eb (aT (ae 1) aF)))) (eb (aU cF (eb (aU cF aF (eb (aT (ae 1) aF)))) (eb (aT (ae 3) aF))))))))))
theorem Js:FnAt P w K mg base "excess" ["line","point","share"] 1 xF :=
 T.d27.mkD Cz Aq λnd hr =>
 bF (dA (aU iY (eb (aU iG (eb (aU cF (eb (aT (ae 0) aF)) (eb (aT (ae 1) aF)))) (eb (aU cF (eb (aT (ae 0) aF)) (eb (aT (ae 1) aF)))))) (eb (aU cF (eb (aT (ae 0) aF)) (ae 2)))))
theorem Ac:FnAt P w K mg base "crossing" ["one","one_excess","other","other_excess"] 1 NJ :=
 T.d28.mkD Iy TC λnd hr =>
 aP (cR nd (vD GI T.b1 sC (aB (dv 1) aS)))
 (aP (cR nd (vD GI T.b1 sC (aB (dv 3) aS)))
 (bF (dA (gE (aB (aU iG (eb (aU cF (eb (aT (ae 0) aF)) (ae 5))) (eb (aU cF (eb (aT (ae 2) aF)) (ae 4)))) (aB (aU iG (eb (aU cF (eb (aT (ae 0) aF)) (ae 5))) (eb (aU cF (eb (aT (ae 2) aF)) (ae 4)))) (aB (aU iG (ae 4) (ae 5)) aS)))))))
theorem TB:FnAt P w K mg base "neighbours" ["ones"] 1 NP :=
 T.d29.mkD Jf NF λnd hr =>
 bF (dA (DO.val (PH T.b8 T.b9 rfl (ae 0) (eb (aU NZ (eb (BQ (ae 0) (DJ iT) DH)) (eb (BQ (ae 0) DH (DJ iT))))))))
theorem LF:FnAt P w K mg base "points_within" ["corners","excesses"] 2 HF :=
 T.d30.mkD Di GO λnd hr =>
 aP (yV nd (kL aS))
 (aP (mJ dD rfl (lY (bG (TB T) hr (aB (DO.val (PH T.b8 T.b9 rfl (ae 0) (ae 1))) aS))) (qK rfl (fO (eT nd) (fO (eT nd) nM))) (aP (jN (gG Gs (eb (aT (ae 3) aF)) aF) (bF (sD 2 (gE (aB (aT (eb (aT (ae 3) aF)) aF) (aB (aT (eb (aT (ae 3) aF)) aF) (aB iT aS)))))) fV)
 (bF (jN (gG CD (eb (aU cF (eb (aT (ae 3) aF)) (eb (aT (ae 4) aF)))) aF) (bF (sD 2 (bG (Ac T) hr (aB (aT (ae 3) aF) (aB (aT (ae 3) aF) (aB (aT (ae 4) aF) (aB (aT (ae 4) aF) aS))))))) fV))))
 (bF (EO 2 (dA (dv 2)))))
theorem Sw:FnAt P w K mg base "turn" ["one","middle","other"] 1 wM :=
 T.d31.mkD Nt Ki λnd hr =>
 aP (cR nd (aU cF (eb (aU iY (eb (aT (ae 1) aF)) (eb (aT (ae 0) aF)))) (eb (aU iY (eb (aT (ae 2) aF)) (eb (aT (ae 0) aF))))))
 (aP (cR nd (aU cF (eb (aU iY (eb (aT (ae 1) aF)) (eb (aT (ae 0) aF)))) (eb (aU iY (eb (aT (ae 2) aF)) (eb (aT (ae 0) aF))))))
 (bF (dA (aU iY (ae 3) (ae 4)))))
theorem EY:FnAt P w K mg base "half_round" ["points"] 2 VQ :=
 T.d32.mkD Np ND λnd hr =>
 aP (yV nd (kL aS))
 (aP (mJ dD rfl (lY (dv 0)) (eT nd) (aP (IL dD (DW.tst (WI (gG UU (eb (qJ T.b0 (ae 1))) aF) (WJ (gG Gs (eb (bG (Sw T) hr (aB (aT (ae 1) (eb (xM sL aF))) (aB (aT (ae 1) (eb (xM sL aF))) (aB (dv 2) aS))))) aF)))) (bF (Wk 1)))
 (bF (sD 1 (dv 2)))))
 (bF (dA (BQ (ae 1) DH (DJ (xM sL aF))))))
theorem Dw:FnAt P w K mg base "outline" ["points"] 3 uH :=
 T.d33.mkD ZP XJ λnd hr =>
 aP (cR nd (DO.val (Cn hr T.b11 T.b12 rfl (ae 0))))
 (bF (dA (aU NZ (eb (bG (EY T) hr (aB (dv 1) aS))) (eb (bG (EY T) hr (aB (DO.val (Cm T.b8 T.b10 rfl (ae 1))) aS))))))
theorem oH:FnAt P w K mg base "shared_divisor" ["one","other"] 1 zN :=
 T.d34.mkD Gm EI λnd hr =>
 aP (cR nd (vD GI T.b1 sC (aB (dv 0) aS)))
 (aP (cR nd (vD GI T.b1 sC (aB (dv 1) aS)))
 (aP (IL dD (gG CF (ae 3) aF) (aP (cR nd (aU kN (ae 2) (ae 3)))
 (aP (cR nd (dv 3))
 (bF (cR nd (dv 4))))))
 (bF (dA (dv 2)))))
theorem QO:FnAt P w K mg base "settled" ["share","points"] 4 pB :=
 T.d35.mkD ZQ XL λnd hr =>
 aP (cR nd (bG (Dw T) hr (aB (dv 1) aS)))
 (aP (jN (gG CD (eb (qJ T.b0 (ae 2))) aF) (bF (dA vE)) fV)
 (aP (cR nd (dv 0))
 (aP (mJ dD rfl (lY (dv 2)) (qK rfl (fO (eT nd) (fO (eT nd) nM))) (bF (cR nd (bG (oH T) hr (aB (bG (oH T) hr (aB (dv 3) (aB (dv 4) aS))) (aB (dv 5) aS))))))
 (bF (dA (gE (aB (aU iH (ae 0) (ae 3)) (aB (YS T.b2 (eb (DO.val (WF ["x","y","divisor"] 2 [3] (lY (dv 2)) (λcl C s H fp=>qK rfl (fO (eT EV) (fO (eT EV) nM))) (λcl C s H fp=>gE (aB (aU iH (ae 0) (ae 2)) (aB (aU iH (ae 1) (ae 2)) aS))))))) aS))))))))
theorem CG:FnAt P w K mg base "part_within" ["piece","line"] 5 VS :=
 T.d36.mkD Nr LK λnd hr =>
 aP (cR nd (aT (ae 0) aF))
 (aP (WH ["corner","line","share"] 1 [1,2] nd (PF (aT (ae 0) aF)) (λcl C s H fp=>eT IW) (λcl C s H fp=>bG (Js T) hr (aB (dv 1) (aB (dv 0) (aB (dv 2) aS)))))
 (aP (jN (gG Gs (eb (Rj T.b13 rfl (ae 3))) aF) (bF (dA (dv 0))) fV)
 (aP (jN (gG C4 (eb (Ga T.b3 rfl (ae 3))) aF) (bF (dA vE)) fV)
 (aP (EO 3 (cR nd (bG (LF T) hr (aB (aT (ae 0) aF) (aB (dv 3) aS)))))
 (aP (cR nd iT)
 (aP (mJ dD rfl (lY (dv 4)) (eT nd) (bF (cR nd (aU cF (ae 5) (eb (aT (ae 6) aF))))))
 (aP (WH ["x","y","own","factor"] 3 [5] nd (lY (dv 4)) (λcl C s H fp=>qK rfl (fO (eT rK) (fO (eT rK) (fO (eT rK) nM)))) (λcl C s H fp=>gE (aB (aU cF (ae 0) (eb (aU iH (ae 3) (ae 2)))) (aB (aU cF (ae 1) (eb (aU iH (ae 3) (ae 2)))) aS))))
 (bF (EO 7 (dA (bG (QO T) hr (aB (aU cF (ae 2) (ae 5)) (aB (dv 7) aS)))))))))))))
theorem Xo:FnAt P w K mg base "cut" ["piece","line"] 6 OF :=
 T.d37.mkD Nn Ke λnd hr =>
 aP (cR nd (gE (aB (xM sL (eb (aT (ae 1) aF))) (aB (xM sL (eb (aT (ae 1) aF))) (aB (xM sL (eb (aT (ae 1) aF))) aS)))))
 (bF (dA (gE (aB (bG (CG T) hr (aB (dv 0) (aB (dv 1) aS))) (aB (bG (CG T) hr (aB (dv 0) (aB (dv 2) aS))) aS)))))
theorem Ad:FnAt P w K mg base "floor_of" ["one"] 1 GW :=
 T.d38.mkD Da Ar λnd hr =>
 bF (dA (aU iH (eb (aT (ae 0) aF)) (eb (aT (ae 0) aF))))
theorem IZ:FnAt P w K mg base "ratio" ["top","bottom"] 2 mY :=
 T.d39.mkD Jh Ei λnd hr =>
 aP (jN (gG vF (ae 1) aF) (bF Mo) fV)
 (aP (cR nd (bG (oH T) hr (aB (dv 0) (aB (dv 1) aS))))
 (aP (jN (gG CD (ae 1) aF) (bF (cR nd (xM sL (ae 2)))) fV)
 (bF (dA (gE (aB (aU iH (ae 0) (ae 2)) (aB (aU iH (ae 1) (ae 2)) aS)))))))
theorem Gu:FnAt P w K mg base "plus" ["one","other"] 3 JR :=
 T.d40.mkD ZR Kh λnd hr =>
 bF (dA (bG (IZ T) hr (aB (aU iG (eb (aU cF (eb (aT (ae 0) aF)) (eb (aT (ae 1) aF)))) (eb (aU cF (eb (aT (ae 1) aF)) (eb (aT (ae 0) aF))))) (aB (aU cF (eb (aT (ae 0) aF)) (eb (aT (ae 1) aF))) aS))))
theorem DR:FnAt P w K mg base "signed" ["sign","one"] 1 oJ :=
 T.d41.mkD Dk Aw λnd hr =>
 bF (dA (gE (aB (aU cF (ae 0) (eb (aT (ae 1) aF))) (aB (aT (ae 1) aF) aS))))
theorem Xp:FnAt P w K mg base "led" ["move","spot"] 4 TR :=
 T.d42.mkD Sg Oz λnd hr =>
 aP (cR nd (aT (ae 0) aF))
 (bF (dA (gE (aB (bG (Gu T) hr (aB (bG (DR T) hr (aB (dv 2) (aB (aT (ae 1) aF) aS))) (aB (aT (ae 0) aF) aS))) (aB (bG (Gu T) hr (aB (bG (DR T) hr (aB (dv 2) (aB (aT (ae 1) aF) aS))) (aB (aT (ae 0) aF) aS))) aS)))))
theorem Jr:FnAt P w K mg base "behind" ["first","second"] 5 xE :=
 T.d43.mkD Cy Ap λnd hr =>
 aP (cR nd (bG (Xp T) hr (aB (dv 1) (aB (gE (aB (aT (ae 0) aF) (aB (aT (ae 0) aF) aS))) aS))))
 (bF (dA (gE (aB (aU cF (eb (aT (ae 0) aF)) (eb (aT (ae 1) aF))) (aB (aT (ae 2) aF) (aB (aT (ae 2) aF) aS))))))
theorem vG:FnAt P w K mg base "shared_multiple" ["one","other"] 2 Fe :=
 T.d44.mkD Sf CI λnd hr =>
 bF (dA (aU cF (ae 0) (eb (aU iH (ae 1) (eb (bG (oH T) hr (aB (dv 0) (aB (dv 1) aS))))))))
theorem Jv:FnAt P w K mg base "pushed" ["piece","move"] 5 xG :=
 T.d45.mkD Dj Av λnd hr =>
 aP (cR nd (aT (ae 1) aF))
 (aP (cR nd (aT (ae 1) aF))
 (aP (cR nd (bG (vG T) hr (aB (bG (vG T) hr (aB (aT (ae 0) aF) (aB (aT (ae 2) aF) aS))) (aB (aT (ae 3) aF) aS))))
 (aP (cR nd (aU cF (eb (aT (ae 1) aF)) (eb (aU iH (ae 4) (eb (aT (ae 0) aF))))))
 (aP (cR nd (aU cF (eb (aT (ae 2) aF)) (eb (aU iH (ae 4) (eb (aT (ae 2) aF))))))
 (aP (cR nd (aU cF (eb (aT (ae 3) aF)) (eb (aU iH (ae 4) (eb (aT (ae 3) aF))))))
 (bF (dA (bG (QO T) hr (aB (dv 4) (aB (DO.val (WF ["x","y","scale","right","up"] 2 [5,6,7] (PF (aT (ae 0) aF)) (λcl C s H fp=>qK rfl (fO (eT IX) (fO (eT IX) nM))) (λcl C s H fp=>gE (aB (aU iG (eb (aU cF (ae 2) (ae 0))) (ae 3)) (aB (aU iG (eb (aU cF (ae 2) (ae 1))) (ae 4)) aS))))) aS))))))))))
theorem Af:FnAt P w K mg base "way_back" ["move"] 2 rT :=
 T.d46.mkD WU TH λnd hr =>
 aP (cR nd (aT (ae 0) aF))
 (bF (dA (gE (aB (dv 1) (aB (bG (DR T) hr (aB (xM sL (ae 1)) (aB (aT (ae 0) aF) aS))) (aB (bG (DR T) hr (aB (xM sL (ae 1)) (aB (aT (ae 0) aF) aS))) aS))))))
theorem Dv:FnAt P w K mg base "carried" ["bit","move"] 6 VP :=
 T.d47.mkD Nm Kd λnd hr =>
 bF (dA (gE (aB (bG (Jv T) hr (aB (aT (ae 0) aF) (aB (dv 1) aS))) (aB (bG (Jr T) hr (aB (bG (Af T) hr (aB (dv 1) aS)) (aB (aT (ae 0) aF) aS))) aS))))
theorem Jt:FnAt P w K mg base "lifted" ["bit","height"] 7 HA :=
 T.d48.mkD Jc Ef λnd hr =>
 bF (dA (bG (Dv T) hr (aB (dv 0) (aB (gE (aB iT (aB (gE (aB iT (aB iT aS))) (aB (dv 1) aS)))) aS))))
theorem Ju:FnAt P w K mg base "lowest" ["piece"] 3 VR :=
 T.d49.mkD Nq Kg λnd hr =>
 bF (dA (bG (IZ T) hr (aB (Ga T.b3 rfl (eb (DO.val (WF ["x","y"] 2 [] (PF (aT (ae 0) aF)) (λcl C s H fp=>qK rfl (fO (eT IV) (fO (eT IV) nM))) (λcl C s H fp=>dv 1))))) (aB (aT (ae 0) aF) aS))))
theorem Sv:FnAt P w K mg base "over" ["one","other"] 3 NQ :=
 T.d50.mkD Jg Eh λnd hr =>
 bF (dA (bG (IZ T) hr (aB (aU cF (eb (aT (ae 0) aF)) (eb (aT (ae 1) aF))) (aB (aU cF (eb (aT (ae 0) aF)) (eb (aT (ae 1) aF))) aS))))
theorem Oh:FnAt P w K mg base "times" ["one","other"] 3 vQ :=
 T.d51.mkD ZR Ej λnd hr =>
 bF (dA (bG (IZ T) hr (aB (aU cF (eb (aT (ae 0) aF)) (eb (aT (ae 1) aF))) (aB (aU cF (eb (aT (ae 0) aF)) (eb (aT (ae 1) aF))) aS))))
theorem Ae:FnAt P w K mg base "levelled" ["bit","height"] 8 Ff :=
 T.d52.mkD Sh Pa λnd hr =>
 aP (cR nd (aT (ae 0) aF))
 (aP (cR nd (bG (Ad T) hr (aB (bG (Sv T) hr (aB (bG (Ju T) hr (aB (dv 2) aS)) (aB (dv 1) aS))) aS)))
 (aP (yV nd (kL aS))
 (aP (IL dD (gG XA (ae 2) (eb vE)) (aP (cR nd (bG (Xo T) hr (aB (dv 2) (aB (gE (aB iT (aB (aT (ae 1) aF) (aB (aU cF (eb (aU iG (ae 3) aF)) (eb (aT (ae 1) aF))) aS)))) aS))))
 (aP (sD 4 (bG (Jt T) hr (aB (gE (aB (aT (ae 5) aF) (aB (aT (ae 0) aF) aS))) (aB (bG (Oh T) hr (aB (dv 1) (aB (gE (aB (xM sL (ae 3)) (aB iT aS))) aS))) aS))))
 (aP (cR nd (aT (ae 5) aF))
 (bF (cR nd (aU iG (ae 3) aF)))))))
 (bF (EO 4 (dA (dv 4)))))))
theorem Dx:pf P w K mg base "upright" ["box","leans"] 9 Fg :=
 T.d53.mkN Sj Pb λnd hr =>
 UK (yV nd (kL aS))
 (UK (mJ dD rfl (lY (aT (ae 0) aF)) (eT nd) (bF (Ik 2 (bG (Ae T) hr (aB (dv 3) (aB (aT (ae 0) aF) aS))))))
 (Rm 2 (Mq (Wi (YV (Zw (aT (ae 0) aF)) (YV (Zv 2) Rk))))))
theorem fo_law {f:Addr} {fd:mN} (Fu:sk K "law" "law" (top 63) f fd):im P w K mg base jy 10 f fd ["_law_script"] (q9 K (Ky 63)) :=
 Sr Fu Se Ed λnd hr =>
 nW (cR nd (bG (SZ T) hr (aB (aU iH (eb (bG (zD T) hr (aB (dv 0) (aB iT aS)))) aF) (aB (aU iG aF (eb (aU kN (eb (bG (zD T) hr (aB (dv 0) (aB iT aS)))) aF))) aS))))
 (nW (cR nd (bG (zD T) hr (aB (dv 0) (aB iT aS))))
 (nW (cR nd (aU kN (ae 2) (eb (qJ T.b0 (ae 1)))))
 (nW (cR nd (bG (mV T) hr (aB (aU iG aF (eb (aU kN (eb (aU iH (ae 2) aF)) aF))) (aB (aU iG aF (eb (aU kN (eb (aU iH (ae 2) aF)) aF))) aS))))
 (nW (yV nd (kL aS))
 (nW (mJ dD rfl (lY (bG (NA T) hr (aB (aT (ae 1) (ae 3)) (aB (dv 4) (aB (aU kN (eb (aU iH (ae 2) aF)) aF) aS))))) (eT nd) (bF (sD 5 (gE (aB (dv 6) (aB (bG (XF T) hr (aB (aU iG (eb (aU iH (ae 2) aF)) (eb (aU cF aF (eb (qJ T.b0 (ae 5)))))) aS)) aS))))))
 (nW (cR nd (DO.val (kL (aB (UJ T.b8 (ae 5)) (aB (UJ T.b8 (ae 1)) aS)))))
 (nW (EO 5 (Rl nd (Dx T) hr (aB (gE (aB (dv 3) (aB (dv 4) (aB (aT (ae 7) aF) aS)))) (aB (aT (ae 7) aF) aS))))
 (nW (EO 5 (jN (DW.tst (pT (lQ (lF (bG (NB T) hr (aB (dv 8) (aB (dv 4) aS))))) (tF (gG (Xn hr) (ae 7) (eb (DO.val (kL (aB (dv 5) (aB (dv 1) aS))))))))) (bF (dA mK)) fV))
 (nW (mJ dD rfl (lY (aU NZ (eb (DO.val (Mn (ae 0) DH (DJ iT)))) (eb (DO.val (kL (aB (dv 2) aS)))))) (eT nd) (bF (EO 5 (jN (lQ (lF (bG (QL T) hr (aB (dv 8) (aB (dv 5) (aB (aT (ae 1) (ae 3)) (aB (dv 4) (aB (dv 9) aS)))))))) (bF (dA mK)) fV))))
 (Il 8
 (Rn (bF (EO 5 (dA (wS (Xl hr) (ae 7) (eb (DO.val (kL (aB (dv 5) (aB (dv 1) aS))))))))))))))))))))
end
end K37
end
end L2.R2
namespace PySem.W.Fast
theorem tw1396272387027210671:True:=⟨⟩
theorem tw649794377126412190:True:=⟨⟩
theorem tw5332881932176637280:True:=⟨⟩
theorem tw4122336674975328376:True:=⟨⟩
theorem tw7178416518992281177:True:=⟨⟩
theorem tw6565145698660643043:True:=⟨⟩
theorem tw16299307283660516850:True:=⟨⟩
theorem tw3783493697759274416:True:=⟨⟩
theorem tw7003135593942226634:True:=⟨⟩
theorem tw12711294073639679787:True:=⟨⟩
theorem tw11236873067005815744:True:=⟨⟩
theorem tw10757232227800918625:True:=⟨⟩
theorem tw17432374898279079682:True:=⟨⟩
theorem tw11992381470387458797:True:=⟨⟩
theorem tw16404276163428574501:True:=⟨⟩
theorem tw16059122985227228073:True:=⟨⟩
theorem tw16814857286174581788:True:=⟨⟩
theorem tw16429567699486003529:True:=⟨⟩
theorem tw17275543936193354157:True:=⟨⟩
theorem tw1922275594707896643:True:=⟨⟩
theorem tw6331153902147698029:True:=⟨⟩
theorem tw7713293261281525502:True:=⟨⟩
theorem tw2978860608492437177:True:=⟨⟩
theorem tw6769910552764698106:True:=⟨⟩
theorem tw7231411331268270499:True:=⟨⟩
theorem tw7363198873927559748:True:=⟨⟩
theorem tw15246163972088464692:True:=⟨⟩
theorem tw203009644619489951:True:=⟨⟩
theorem tw17447494494096176078:True:=⟨⟩
theorem tw960695451107893262:True:=⟨⟩
theorem tw13899619200865314881:True:=⟨⟩
theorem tw6680109746551211162:True:=⟨⟩
end PySem.W.Fast
open PySem PySem.W PyProof.Rows
set_option maxRecDepth 100000 in
set_option maxHeartbeats 0 in
theorem PySem.Challenge.cw_recut_k37_a_box_upright_holds : PySem.Challenge.rw_recut_k37_a_box_upright.Holds := by
 w_on;o_law;k_head;(case hw=>w_witness2)
 k_fill
 refine L2.R2.walk_law (l:=PySem.Challenge.rw_recut_k37_a_box_upright) (k:=10) (x:="_law_script") rfl rfl ⟨rfl,by decide,by decide⟩ (λw h Y=>PySem.W.kIn_of Y) rfl ?L ?F
 case L =>
  intro w
  refine' L2.R2.noLam ?q1 ?q2 ?q3
  (case q1=>k_is)
  (case q2=>k_is)
  (case q3=>k_is)
 case F =>
  intro w mg h KX G;have T:L2.R2.K37.TopF (L2.KOf KX) mg:=by
   dsimp only[L2.KOf];constructor
   all_goals first | (refine PySem.W.mg_none_of KX G ?z;(case z=>k_is)) | (refine' L2.R2.def_mk KX G ?a ?l ?c ?k ?b;(case a=>k_is);(case l=>k_is);(case c=>k_is);(case k=>k_is);(case b=>first | exact L2.R2.bind1 (λ_=>rfl) | exact L2.R2.bind2 (λ_ _=>rfl) | exact L2.R2.bind3 (λ_ _ _=>rfl) | exact L2.R2.bind4 (λ_ _ _ _=>rfl) | exact L2.R2.bind5 (λ_ _ _ _ _=>rfl)))
  exact T.d54.okL λbase f fd Fu=>L2.R2.K37.fo_law T Fu
