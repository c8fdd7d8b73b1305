import PyProof.Rows.All
import Wide.All
import OpenK.AllK
import Wide.FinOn
import Lean
import PyProof.EqAt
import PyProof.EqKinds
import PyProof.TupleCall
import PySem.Challenge.RW_recut_k35_boxes_stacked
set_option Elab.async false
set_option linter.all false
set_option maxRecDepth 100000
set_option maxHeartbeats 4000000
noncomputable section
open Array renaming append_assoc->tR,append_empty->FC,foldl_toList->FE,forIn_toList->FF,getD->jJ,getD_eq_getD_getElem?->dS,getElem?_eq_getElem->bH,getElem?_eq_none->qH,getElem?_eq_some_iff->iV,getElem?_setIfInBounds_ne->rE,getElem?_setIfInBounds_self_of_lt->nN,getElem?_toList->hZ,getElem_of_mem->AH,length_toList->cI,mem_of_getElem?->zU,mem_toList_iff->gD,replicate->zB,size_map->AI,toList_extract->AJ,toList_filterMap->xP,toList_inj->IY,toList_push->qI
open Array.Perm renaming mem_iff->FB,refl->pK
open Bool renaming and_assoc->MY,and_eq_true->iG,and_false->AK,and_true->vU,beq_eq_decide_eq->mZ,eq_iff_iff->pL,false_and->AL,false_eq_true->aN,false_ne_true->cM,false_or->RK,not_false->nQ,not_true->eY,or_eq_true->LY,or_false->DR,true_and->RL
open Classical renaming byContradiction->fA
open False renaming elim->mN
open ForInStep renaming yield->LZ
open Function renaming comp->RN,comp_def->GK
open Int renaming add_nonneg->NM,add_zero->sY,dvd_coe_gcd->MA,dvd_refl->oD,dvd_trans->mY,ediv_mul_cancel->DD,emod_lt_of_pos->tV,emod_nonneg->zC,eq_of_mul_eq_mul_left->dQ,eq_of_mul_eq_mul_right->fH,fdiv_eq_ediv_of_nonneg->dC,gcd->cJ,gcd_dvd_left->mB,gcd_dvd_right->lK,gcd_ediv_gcd_ediv_gcd->uW,gcd_pos_of_ne_zero_left->kE,le_of_dvd->vV,le_of_lt->aU,le_of_mul_le_mul_right->dD,le_refl->sC,lt_irrefl->oZ,lt_or_eq_of_le->tW,lt_or_gt_of_ne->FH,lt_trichotomy->iW,mul_assoc->lU,mul_comm->fL,mul_dvd_mul->zD,mul_ediv_add_emod->zV,mul_ediv_cancel'->iH,mul_ediv_cancel_left->fR,mul_eq_zero->sH,mul_le_mul_of_nonneg_left->eI,mul_le_mul_of_nonneg_right->aW,mul_lt_mul_left->DF,mul_lt_mul_of_pos_left->kO,mul_lt_mul_of_pos_right->iP,mul_neg_of_neg_of_pos->lE,mul_neg_of_pos_of_neg->jG,mul_nonneg->cV,mul_nonpos_of_nonneg_of_nonpos->gG,mul_nonpos_of_nonpos_of_nonneg->gH,mul_pos->aL,mul_zero->sZ,natAbs_dvd_natAbs->nD,natAbs_mul->iX,neg_lt_neg_iff->FI,not_le->mO,not_lt->jU,pos_of_mul_pos_left->jQ,sub_pos_of_lt->GL,toNat_natCast->vA,toNat_of_nonneg->DH,zero_mul->qL
open List renaming Nodup->nS,all_cons->DV,all_eq_true->oE,any_cons->DX,any_eq_false->GN,append_assoc->iY,append_inj_left'->rJ,append_inj_right'->iZ,append_nil->dN,append_of_mem->tY,concat_eq_append->zX,cons_append->bI,dropLast->RP,dropLast_concat->nT,drop_eq_getElem_cons->gE,drop_length->JB,drop_zero->NO,eq_nil_or_concat->fM,ext_getElem->JC,ext_getElem?->GO,filterMap_cons->eD,filter_append->tZ,filter_congr->vB,filter_filter->FJ,find?_cons->mT,find?_eq_none->FK,flatMap_append->jD,foldl_append->vC,foldl_cons->pN,forIn_cons->MB,getD_eq_getElem?_getD->cE,getElem?_append_left->dJ,getElem?_append_right->dE,getElem?_cons_succ->aH,getElem?_cons_zero->aE,getElem?_drop->FL,getElem?_eq_getElem->aD,getElem?_eq_none->lB,getElem?_eq_some_iff->bC,getElem?_map->bT,getElem?_range->DK,getElem?_replicate->iJ,getElem?_set_ne->fG,getElem?_set_self->fP,getElem?_take->FN,getElem?_toArray->zY,getElem?_zip_eq_some->uX,getElem_drop->GP,getElem_mem->oF,getElem_of_mem->dU,length->fU,length_append->bJ,length_cons->cD,length_drop->mC,length_dropLast->AS,length_eq_zero_iff->mD,length_erase_of_mem->vX,length_filter_le->jI,length_map->aS,length_nil->eK,length_pos_iff->oW,length_pos_of_mem->xU,length_range->qO,length_replicate->lC,length_reverse->sP,length_singleton->rK,length_take->fY,lookup_cons->rP,map->uA,map_append->cX,map_congr_left->lY,map_cons->aQ,map_eq_append_iff->qP,map_eq_cons_iff->nU,map_id->mL,map_map->dA,map_nil->bZ,map_reverse->JD,map_snd_zip->JE,map_take->pA,mem_append->cC,mem_append_left->dL,mem_append_right->bG,mem_cons->aJ,mem_cons_of_mem->aO,mem_cons_self->cF,mem_erase_of_ne->AT,mem_filter->mU,mem_filterMap->pV,mem_map->bF,mem_map_of_mem->dI,mem_of_find?_eq_some->uY,mem_of_getElem?->dM,mem_of_mem_drop->AU,mem_of_mem_take->sD,mem_range->fZ,mem_reverse->oG,mem_singleton->cR,nil_append->bV,nodup_append->jA,nodup_cons->eS,nodup_nil->NP,nodup_range->JF,not_mem_nil->cY,of_mem_zip->zE,pairwise_append->jO,pairwise_cons->cG,pairwise_iff_getElem->gY,pairwise_map->lN,pairwise_reverse->nE,pairwise_singleton->mE,perm_append_comm->rL,range->dY,range_succ->MC,replicate->eO,reverse_cons->vD,set_cons_succ->aV,set_cons_zero->aR,singleton_append->zZ,size_toArray->aY,take_append_drop->gM,take_length->rQ,take_of_length_le->kF,take_sublist->GQ,take_succ->kP,take_succ_cons->sQ,take_zero->AV,toArray->fV,zipWith->xV,zipWith_cons_cons->xW,zip_append->zF,zip_cons_cons->kQ,zip_nil_left->GR,zip_nil_right->FO
open List.Pairwise renaming map->qN,nil->lM,of_map->AR,sublist->kZ
open List.Perm renaming append_left->zW,eq_of_pairwise->vW,refl->tX
open List.Sublist renaming refl->GM
open List.cons renaming injEq->fX
open Nat renaming add_mod->LF,add_mod_right->GS,eq_zero_of_zero_dvd->wO,eq_zero_or_pos->uB,gcd_comm->xX,gcd_zero_right->FP,le_mul_of_pos_left->xY,le_mul_of_pos_right->jR,le_of_dvd->vY,le_of_eq->xZ,le_of_lt->lO,le_of_lt_succ->jB,le_refl->bK,le_succ->vE,le_succ_of_le->qQ,le_trans->eJ,lt_irrefl->gT,lt_of_le_of_lt->uC,lt_of_lt_of_le->bQ,lt_or_eq_of_le->uD,lt_succ_of_lt->gP,lt_succ_self->kL,lt_trans->oH,min_eq_left->ME,mod_eq_of_lt->gL,mod_lt->jK,mul_le_mul_right->AW,ne_of_gt->kG,ne_of_lt->bO,not_lt_zero->lH,strongRecOn->MF,sub_le_sub_right->AX,sub_zero->tE,succ_le_succ->JG,succ_ne_self->rR,zero_add->yA,zero_le->eV
open Nat.Coprime renaming dvd_of_dvd_mul_left->rG
open Nat.succ renaming inj->GT
open Option renaming bind_some->JH,getD_none->JI,getD_some->mF,map_eq_some_iff->qR,map_some->pO,none->AY
open Option.some renaming inj->dO,injEq->qS
open Or renaming inl->fD,inr->fE
open Prod renaming ext->kR
open Prod.mk renaming injEq->eM
open PyProof.Rows renaming args_list_sort->BE,args_sorted1->HA,assignInOrder_cons->uH,assignInOrder_nil->HB,callWith_builtin1->gU,callWith_type1->eP,entry_sorted->HL,get?_update_seq->sL,kind_sorted->LM,listUpdate_at->wH,list_sort_plain->MK,plain_sorted->ID,seqEpoch_at->CH,slicePart_none->QW,slot_tuple_getitem->rH,subscriptTail_builtinR->yZ
open PyProof.Rows.IsTup renaming new->JA
open PyProof.Rows.KeyOrd renaming kle_antisymm->DJ,kle_of_klt->nH,kle_refl->jV,kle_trans->rO
open PySem renaming Around->cZ,FuncData->lZ,Keyword->pM,Program->bR,Shared->aG,Value->aB,World->cT,builtinLookup_eq_fast->rM,call->NS,call_list_seq->RY,call_meets->uI,check_set_init_1->JO,codeAny_builtin->fO,codeAny_call_builtin->BG,codeAny_mono->oK,codeAny_of_tree->zJ,concat_meets->HF,evalPart_none->SF,eval_ListComp->SG,intBits_le_iff->PF,isSubtype_type->PJ,list_append->GV,mem_of_lookup->jY,noFill_tuple_add->KH,plainId_quiet->iU,richCompare_meets_room->yV,seq_tuple_add->SU,sizeLine_eq->fQ,typeLookup_type->zT,weight_type_call_type->AF,wpAny_Call_Name_kw->fJ,wpAny_Name->RC,wpAny_askSetting->oR,wpAny_assign_Name->IX,wpAny_attempt->SY,wpAny_bind->aA,wpAny_bindName->RD,wpAny_call->RF,wpAny_callSpecial?_slot->qF,wpAny_call_entry->kN,wpAny_comprehension_free->pJ,wpAny_eqIsQuiet_tuple->AG,wpAny_execs_cons->LA,wpAny_execs_nil->sO,wpAny_field->LX,wpAny_fieldsOf->RH,wpAny_forIn_list->oS,wpAny_holding->fN,wpAny_isInstance->xO,wpAny_letGo->vQ,wpAny_loadPart'->mX,wpAny_mono->gS,wpAny_newList->sB,wpAny_newObj_type->gB,wpAny_newTuple->RI,wpAny_of_eq->oB,wpAny_passesOwn->lJ,wpAny_pure->aK,wpAny_pyHash_int->LB,wpAny_pyIter_list->rD,wpAny_pyIter_tuple->GF,wpAny_pyIter_zip->LC,wpAny_rule->RJ,wpAny_runValue->CK,wpAny_seqItems->oC,wpAny_setEntries_of->sW,wpAny_setState_of->hV,wpAny_specialOf->pT,wpAny_standAt->EZ,wpAny_storeSet_of->vR,wpAny_truthy_bool->nM,wpAny_tryCatch->uV,wpAny_typeOf->tK,wpAny_updateSeq->jX
open PySem.Around renaming under_plain->FA,under_plainId->eU
open PySem.AutoSeq1 renaming sub_tuple_tuple->vT
open PySem.Builtin renaming divisionGoesByPylong->mS
open PySem.Builtin.Builtins renaming bindParams->sX
open PySem.Builtin.Frozenset renaming updateFrom->sG
open PySem.Builtin.Int renaming intBits->DC
open PySem.Builtin.List renaming listExtendWith->iO,listItems->xQ,listLengthHint->kD,listSameRef->lR,listTooLong->lS,listUpdate->qC
open PySem.Builtin.Slice renaming sliceAdjust->oT,sliceApplied->tS,slicePlaces->lD
open PySem.Builtin.Tuple renaming tupleCompareSizes->rF,tupleExact->lT
open PySem.Calls renaming Name_function_global->tT,callWith_builtin->xR,call_function_entry->oU,spliced_cons->pU,spliced_nil->qJ
open PySem.Code renaming quiet_builtin->FG
open PySem.F renaming args_tuple_add_2->vZ,args_tuple_lt_2->wP,entry_extend_loop->uZ,entry_set_init->yB,entry_tuple_add->wQ,entry_tuple_lt->yC,entry_type_call->wR,plainAttrs_list->iK,plain_extend_loop->jH,plain_set_new->AA,slot_dict_setdefault->sI,slot_list_append->wA,slot_tuple_add->yD,slot_tuple_lt->AB,sub_list_frozenset->uE,sub_list_set->AZ,typeCall_set_1->yE,type_list_append->wB
open PySem.Heap renaming SameBut->qK,get?_push_of_some->aP,get?_push_size->cL,get?_update_other->cW,get?_update_self->fK,lt_size->aX,size_push->nR
open PySem.Heap.SameBut renaming update->lX
open PySem.IsL renaming update->JJ
open PySem.NameKind renaming cell->rY,free->iB
open PySem.Obj renaming mapSeq->eG,putSet->mP
open PySem.Paired renaming length->RQ
open PySem.PassesOwn renaming never->dF
open PySem.SeqAt renaming EqAt->yG,RcAt->uG
open PySem.SeqAt.EqAt renaming int_int->FQ,of_refs->FR,same->zH
open PySem.SetFound renaming there->NU
open PySem.SetTable renaming grown->NV,insertAt_perm->sJ
open PySem.SetTable.below renaming go->NX
open PySem.SetTable.layClean renaming free->iT
open PySem.SetTable.probe renaming go->IE
open PySem.Shared renaming TypeIs->DY
open PySem.Str renaming ofString->yH
open PySem.Value renaming bool->yI,int->oJ,isInt->nV,isStrOf->RW,none->fF,notImplemented->BB,ref->fS,str->JL,type->gZ
open PySem.W renaming Frag->aI,OpenLaw->MG,WalkO->RU,cellsFrom_some->yF,codeIn->uF,findIn->NR,fnOf->oI,instObj->zG,kas_asc->vH,kas_bin->WC,kas_count->rV,kas_desc->kY,kas_descPart->oP,kas_place->wX,kas_rev->CT,kas_sort->uN,kas_tail3->tN,kat_cons->ZD,kat_nil->WD,keepIn->kT,kia_one->gJ,kitOne->kU,kitx_dict->GU,kitx_list->vF,lookIn->BA,methodObj->vG,nsIn->tF,plainGet->JK,tabIn->RV
open PySem.Walks renaming list->NW
open PySem.pickOrder renaming go->IC
open Rat renaming intCast_add->pP,intCast_inj->pQ,intCast_mul->gK
open Sum renaming inl->gR,inr->CN
open True renaming intro->pW
set_option compiler.extract_closed false
local macro_rules | `(tactic| walk_at "vis")=>`(tactic| first | exact fD rfl | exact fE (fD rfl) | exact fE (fE rfl) | exact fE rfl)
local macro_rules | `(tactic| walk_at "loc")=>`(tactic| first | exact .inl rfl | exact .inr rfl | assumption)
namespace L2
open PySem PySem.Spec PyProof.Rows
abbrev f6:=Sum Int Str
def PL:f6->aB->Bool
 | .inl k,v=>nV k v
 | .inr x,v=>RW x v
def D7 (w:cT):f6->Int
 | .inl k=>hashInt k
 | .inr x=>hashStr w x
theorem kK:∀{k:f6} {v:aB},PL k v=true->(∃i t,k=gR i/\v=oJ i t)\/(∃x t,k=CN x/\v=JL x t)
 | .inl i,v,h=>by
  obtain⟨t,e⟩:=Value.isInt_shape (k:=i) (v:=v) h;exact .inl ⟨i,t,rfl,e⟩
 | .inr x,v,h=>by
  obtain⟨t,e⟩:=Value.isStrOf_shape (x:=x) (v:=v) h;exact .inr ⟨x,t,rfl,e⟩
def Hl (i:Int) (t:Tok):PL (.inl i) (.int i t)=true:=by simp[PL,nV]
def Hm (x:Str) (t:Tok):PL (.inr x) (.str x t)=true:=by simp[PL,RW]
def Vg (a b:Int):decide ((gR a:f6)=gR b)=(a == b):=by
 by_cases e:a=b
 ·subst e;simp
 ·have h:¬(gR a:f6)=gR b:=λq=>e (Sum.inl.inj q);rw[decide_eq_false h];exact (beq_eq_false_iff_ne.mpr e).symm
def Vj (a b:Str):decide ((CN a:f6)=CN b)=decide (a=b):=by
 by_cases e:a=b
 ·subst e;simp
 ·have h:¬(CN a:f6)=CN b:=λq=>e (Sum.inr.inj q);rw[decide_eq_false h,decide_eq_false e]
def Vh (a:Int) (b:Str):decide ((gR a:f6)=CN b)=false:=decide_eq_false (λq=>nomatch q)
def Vi (a:Str) (b:Int):decide ((CN a:f6)=gR b)=false:=decide_eq_false (λq=>nomatch q)
def mR (prog:bR) (w:cT):PySem.KeyKind prog w f6 where
 is:=PL
 hash:=D7 w
 inj:=λv a b ha hb=>by
  rcases kK ha with ⟨i,t,rfl,rfl⟩ | ⟨x,t,rfl,rfl⟩
  ·rcases kK hb with ⟨j,u,rfl,e⟩ | ⟨y,u,rfl,e⟩
   ·injection e with e1 _;rw[e1]
   ·exact nomatch e
  ·rcases kK hb with ⟨j,u,rfl,e⟩ | ⟨y,u,rfl,e⟩
   ·exact nomatch e
   ·injection e with e1 _;rw[e1]
 byValue:=λk v h=>by
  rcases kK h with ⟨i,t,rfl,rfl⟩ | ⟨x,t,rfl,rfl⟩ <;> rfl
 pyHash:=λhv h=>by
  rcases kK hv with ⟨i,t,rfl,rfl⟩ | ⟨x,t,rfl,rfl⟩
  ·exact LB h
  ·exact wpAny_pyHash_str h
 eqBool:=λhu hv h=>by
  rcases kK hu with ⟨i,t,rfl,rfl⟩ | ⟨x,t,rfl,rfl⟩
  ·rcases kK hv with ⟨j,u,rfl,rfl⟩ | ⟨y,u,rfl,rfl⟩
   ·rw[Vg] at h;exact wpAny_eqBool_int h
   ·rw[Vh] at h;exact SeqAt.EqAt.int_str i t y u _ _ _ _ h
  ·rcases kK hv with ⟨j,u,rfl,rfl⟩ | ⟨y,u,rfl,rfl⟩
   ·rw[Vi] at h;exact SeqAt.EqAt.str_int x t j u _ _ _ _ h
   ·rw[Vj] at h;exact wpAny_eqBool_str h
 «strs»:=λk x t v h=>by
  rcases kK h with ⟨i,u,rfl,e⟩ | ⟨y,u,rfl,e⟩
  ·exact nomatch e
  ·injection e with e1 _;subst e1;cases v <;> rfl
def ZO (prog:bR) (w:cT) (i:Int) (t:Tok):(mR prog w).is (.inl i) (.int i t)=true:=Hl i t
def ZP (prog:bR) (w:cT) (x:Str) (t:Tok):(mR prog w).is (.inr x) (.str x t)=true:=Hm x t
inductive V where
 | non | bl (b:Bool) | int (i:Int) | str (x:Str) | byt (b:Array UInt8) | flt (b:UInt64) | ref (a:Addr) | ty (n:String)
 deriving DecidableEq
def RelV:V->aB->Prop
 | .non,u=>u=fF
 | .bl b,u=>u=yI b
 | .int i,u=>∃t,u=oJ i t
 | .str x,u=>∃t,u=JL x t
 | .byt b,u=>∃t,u=Value.bytes b t
 | .flt b,u=>∃t,u=Value.float b t
 | .ref a,u=>u=fS a
 | .ty n,u=>u=gZ n
abbrev am:List V->List aB->Prop:=Paired RelV
def am.length (r:am xs us):xs.length=us.length:=RQ r
theorem am.get:∀{xs:List V} {us:List aB} {i:Nat} {x:V},am xs us->xs[i]? = some x->∃u,us[i]? = some u/\RelV x u
 | _,_,_,_,.nil,e=>by simp at e
 | _,_,0,_,.cons r _,e=>by simp at e;subst e;exact⟨_,rfl,r⟩
 | _,_,i+1,x,.cons _ t,e=>by
  obtain⟨u,h1,h2⟩:=am.get (i:=i) (x:=x) t (by simpa using e);exact⟨u,by simpa using h1,h2⟩
theorem am.append:∀{xs ys:List V} {us ws:List aB},am xs us->am ys ws->am (xs++ys) (us++ws)
 | _,_,_,_,.nil,s=>s
 | _,_,_,_,.cons r t,s=>.cons r (am.append t s)
theorem am.take:∀{xs:List V} {us:List aB} (n:Nat),am xs us->am (xs.take n) (us.take n)
 | _,_,0,_=>.nil
 | _,_,_+1,.nil=>.nil
 | _,_,n+1,.cons r t=>.cons r (am.take n t)
theorem am.drop:∀{xs:List V} {us:List aB} (n:Nat),am xs us->am (xs.drop n) (us.drop n)
 | _,_,0,r=>r
 | _,_,_+1,.nil=>.nil
 | _,_,n+1,.cons _ t=>am.drop n t
def km:Option V->Option aB->Prop
 | some v,some u=>RelV v u
 | none,none=>True
 | _,_=>False
def KV {a:Type}:List (a × V)->List (a × aB)->Prop:=Paired λ(p:a × V) (q:a × aB)=>p.1=q.1/\RelV p.2 q.2
def kV:f6->V
 | .inl i=>.int i
 | .inr x=>.str x
inductive HO where
  | lst (xs:List V)
  | tup (xs:List V)
  | dK (kvs:List (f6 × V)) | dT (kvs:List (List f6 × V))
  | set (S:Int->Bool) (n:Nat)
  | ins (C dx:Addr) (fs:List (Str × V))
  | own (x:Addr)
  | xd (fs:List (Str × V))
  | met (f x:Addr)
  | rng (lo hi:Int)
  | frz (o:Obj) (u:HO)
  | tbl (ps:Array aB)
  | ext (φ:Heap->Prop)
abbrev Hp:=Addr->Option HO
def au (H:Hp) (a:Addr) (o:HO):Hp:=λb=>if b=a then some o else H b
def eB:au H a o a=some o:=by unfold au;rw[if_pos rfl]
def cH (h:b≠a):au H a o b=H b:=by unfold au;rw[if_neg h]
def dG {H:Hp} {a b:Addr} {o:HO} (h:H a=some o) (h':H b=none):a≠b:=by
 intro e;subst e;rw[h] at h';cases h'
section
variable (P:bR) (w:cT)
def bi (H:Hp) (h:Heap) (a:Addr):HO->Prop
 | .lst xs=>xs.length<=sizeLine/\∃(its:List aB) (n:Nat),am xs its/\h.get? a=some { cls:=.type "list",data:=.seq its.toArray n }
 | .tup xs=>xs.length<=sizeLine/\∃its:List aB,am xs its/\IsTup h a its.toArray
 | .dK kvs=>kvs.length<=sizeLine/\(a == sysModules)=false/\∃vs,KV kvs vs/\h.DictOf (mR P w) a vs
 | .dT kvs=>kvs.length<=sizeLine/\(a == sysModules)=false/\∃xs:List (List f6 × Addr × aB),
   Paired (λ(p:List f6 × V) (q:List f6 × Addr × aB)=>p.1=q.1/\H q.2.1=some (.tup (p.1.map kV))/\RelV p.2 q.2.2) kvs xs /\
   ∃o es ep,h.get? a=some o/\o.ExactDict/\o.data = .dict es ep/\es.toList=xs.map (entryOfKey (tupleKind (mR P w)))/\(xs.map (·.1)).Nodup
 | .set S n=>h.SetOf (intKind P w) a S n
 | .ins C dx fs=>H dx=some (.own a)/\fs.length<=1000/\dx≠a/\h.get? a=some (zG C dx) /\
   ∃mA,h.Ns1 dx mA/\(∀f,km (fs.lookup f) (mA f))/\PySem.Within mA (fs.map (·.1))
 | .own _=>∃o,h.get? a=some o
 | .xd fs=>∃mA,h.Ns1 a mA/\∀f,km (fs.lookup f) (mA f)
 | .rng lo hi=>∃t u v,h.get? a=some { cls:=.type "range",data:=.fields #[.int lo t,.int hi u,.int 1 v] }
 | .frz o u=>h.get? a=some o/\bi H h a u
 | .tbl ps=>h.get? a=some { cls:=.none,data:=.fields ps }
 | .met f x=>h.get? a=some (vG (.ref f) (.ref x))
 | .ext b=>b h/\(∃o,h.get? a=some o)/\∀h1 h2:Heap,b h1->(∀o,h1.get? a=some o->h2.get? a=some o)->b h2
def fe (H:Hp) (h:Heap):Prop:=∀a o,H a=some o->bi P w H h a o
end
section
variable {a:Addr}
theorem bi.lt (x:bi P w H h a o):a<h.objs.size:=by
 cases o with
 | lst xs=>obtain⟨_,_,_,_,e⟩:=x;exact aX e
 | tup xs=>obtain⟨_,_,_,p⟩:=x;exact p.lt
 | dK kvs=>obtain⟨_,_,_,_,o,_,_,e,_⟩:=x;exact aX e
 | dT kvs=>obtain⟨_,_,_,_,o,_,_,e,_⟩:=x;exact aX e
 | set S n=>obtain⟨o,_,_,_,e,_⟩:=x;exact aX e
 | ins C dx fs=>obtain⟨_,_,_,e,_⟩:=x;exact aX e
 | own y=>obtain⟨_,e⟩:=x;exact aX e
 | xd fs=>obtain⟨_,⟨_,_,_,e,_⟩,_⟩:=x;exact aX e
 | rng lo hi=>obtain⟨_,_,_,e⟩:=x;exact aX e
 | frz ob u=>obtain⟨e,_⟩:=x;exact aX e
 | tbl ps=>exact aX (show h.get? a=some _ from x)
 | met f y=>exact aX (show h.get? a=some _ from x)
 | ext b=>obtain⟨_,⟨_,e⟩,_⟩:=x;exact aX e
theorem Paired.mapP {α β:Type} {F G:α->β->Prop}:∀{l₁:List α} {l₂:List β},Paired F l₁ l₂->(∀a b,F a b->G a b)->Paired G l₁ l₂
 | _,_,.nil,_=>.nil
 | _,_,.cons r t,f=>.cons (f _ _ r) (Paired.mapP t f)
theorem bi.stay (x:bi P w H h a o) (k:∀b u,(b=a\/H b=some (.own a))->h.get? b=some u->h'.get? b=some u)
  (ho:∀b,H b=some (.own a)->H' b=some (.own a)) (ht:∀b xs,H b=some (.tup xs)->H' b=some (.tup xs)):bi P w H' h' a o:=by
 induction o with
 | lst xs=>obtain⟨z,its,n,r,e⟩:=x;exact⟨z,its,n,r,k _ _ (.inl rfl) e⟩
 | tup xs=>obtain⟨z,its,r,ob,e,c⟩:=x;exact⟨z,its,r,ob,k _ _ (.inl rfl) e,c⟩
 | dK kvs=>obtain⟨z,y,vs,r,ob,es,ep,e,c⟩:=x;exact⟨z,y,vs,r,ob,es,ep,k _ _ (.inl rfl) e,c⟩
 | dT kvs =>
  obtain⟨z,y,xs,r,ob,es,ep,e,c⟩:=x;exact⟨z,y,xs,Paired.mapP r λp q z=>⟨z.1,ht _ _ z.2.1,z.2.2⟩,ob,es,ep,k _ _ (.inl rfl) e,c⟩
 | set S n=>obtain⟨ob,es,ep,t,e,c⟩:=x;exact⟨ob,es,ep,t,k _ _ (.inl rfl) e,c⟩
 | ins C dx fs =>
  obtain⟨d,z,ne,e,mA,⟨od,es,ep,e2,c⟩,r⟩:=x;exact⟨ho _ d,z,ne,k _ _ (.inl rfl) e,mA,⟨od,es,ep,k _ _ (.inr d) e2,c⟩,r⟩
 | own y=>obtain⟨ob,e⟩:=x;exact⟨ob,k _ _ (.inl rfl) e⟩
 | xd fs=>obtain⟨mA,⟨od,es,ep,e,c⟩,r⟩:=x;exact⟨mA,⟨od,es,ep,k _ _ (.inl rfl) e,c⟩,r⟩
 | rng lo hi=>obtain⟨t,u,v,e⟩:=x;exact⟨t,u,v,k _ _ (.inl rfl) e⟩
 | frz ob u ih=>obtain⟨e,q⟩:=x;exact⟨k _ _ (.inl rfl) e,ih q⟩
 | tbl ps =>
  have e:h.get? a=some { cls:=.none,data:=.fields ps }:=x;show h'.get? a=some { cls:=.none,data:=.fields ps };exact k a _ (.inl rfl) e
 | met f y =>
  have e:h.get? a=some (vG (.ref f) (.ref y)):=x;show h'.get? a=some (vG (.ref f) (.ref y));exact k a _ (.inl rfl) e
 | ext g=>obtain⟨p,⟨o,e⟩,st⟩:=x;exact⟨st _ _ p λo q=>k _ _ (.inl rfl) q,⟨o,k _ _ (.inl rfl) e⟩,st⟩
theorem fe.lt (x:fe P w H h) (e:H a=some o):a<h.objs.size:=(x a o e).lt
theorem fe.fresh (x:fe P w H h) (e:h.objs.size<=a):H a=none:=by
 cases q:H a with
 | none=>rfl
 | some u=>exact absurd (bQ (x.lt q) e) (gT _)
theorem fe.kept (x:fe P w H h) (k:∀b u,h.get? b=some u->h'.get? b=some u):fe P w H h':=λa o e =>
 (x a o e).stay (λb u _ q=>k b u q) (λ_ q=>q) λ_ _ q=>q
theorem fe.laid (x:fe P w H h) (k:∀b u,h.get? b=some u->h'.get? b=some u) (hp:h.objs.size<=a) (new:bi P w (au H a o) h' a o):fe P w (au H a o) h':=λb u e=>by
 have hn:=x.fresh hp;by_cases hb:b=a
 ·subst hb;rw[eB] at e;cases e;exact new
 ·rw[cH hb] at e;exact (x b u e).stay (λc v _ q=>k c v q) (λc q=>by rw[cH (dG q hn)];exact q) λc xs q=>by rw[cH (dG q hn)];exact q
end
def Rd (H:Hp) (a:Addr) (u:HO):Prop:=H a=some u\/∃o,H a=some (.frz o u)
def Rd.ok (r:Rd H a u) (x:fe P w H h):bi P w H h a u:=by
 rcases r with r | ⟨o,r⟩
 ·exact x a u r
 ·obtain⟨_,q⟩:=x a _ r;exact q
def xu:Option HO->Prop
 | some (.lst _)=>True
 | some (.dK _)=>True
 | some (.dT _)=>True
 | some (.set _ _)=>True
 | some (.ins _ _ _)=>True
 | some (.ext _)=>True
 | _=>False
section
def fe.write (ok:fe P w H h) (mu:xu (H x)) (he:e=x\/H e=some (.own x)) (k:∀b u,b≠e->h.get? b=some u->h'.get? b=some u) (wv:∃u,h'.get? e=some u)
  (new:bi P w (au H x o') h' x o'):fe P w (au H x o') h':=λb u q=>by
 have zu:∀c y,H c=some (.own y)->c≠x:=λc y r z=>by subst z;rw[r] at mu;exact mu
 have nI:∀c xs,H c=some (.tup xs)->c≠x:=λc xs r z=>by subst z;rw[r] at mu;exact mu
 by_cases hb:b=x
 ·subst hb;rw[eB] at q;cases q;exact new
 ·rw[cH hb] at q;by_cases vg:b=e
  ·have q':H b=some (.own x):=by
    rcases he with z | z
    ·exact absurd (vg.trans z) hb
    ·rw[vg];exact z
   rw[q] at q';cases q';obtain⟨v,hv⟩:=wv;exact⟨v,by rw[vg];exact hv⟩
  ·refine (ok b u q).stay (λc v hc r=>k c v ?_ r) (λc r=>by rw[cH (zu c b r)];exact r) λc xs r=>by rw[cH (nI c xs r)];exact r
   rcases hc with rfl | hc
   ·exact vg
   ·rintro rfl;rcases he with z | z
    ·exact zu c b hc z
    ·rw[hc] at z;cases z;exact hb rfl
end
structure Un (fs ex:List Addr) (H H':Hp) (h h':Heap):Prop where
 keep:∀b o,h.get? b=some o->H b=none->b ∉ fs->b ∉ ex->h'.get? b=some o
 slot:∀b o,h.get? b=some o->H b=none->b∈fs->b ∉ ex->∃sl,h'.get? b=some { o with slots:=sl }
 free:∀b o,h.get? b=some o->H b=none->b ∉ ex->H' b=none
 there:∀b o,h.get? b=some o->b ∉ ex->∃o',h'.get? b=some o'
 tups:∀b xs,H b=some (.tup xs)->H' b=some (.tup xs)
 frzs:∀b o u,H b=some (.frz o u)->H' b=some (.frz o u)
 tbls:∀b ps,H b=some (.tbl ps)->∃more,H' b=some (.tbl (ps++more))
section
variable {fs fs' ex ex':List Addr}
theorem Un.any (u:Un fs ex H H1 h h1) (q:h.get? b=some ob) (n:H b=none) (hx:b ∉ ex):∃sl,h1.get? b=some { ob with slots:=sl }:=by
 by_cases hb:b∈fs
 ·exact u.slot b ob q n hb hx
 ·exact⟨ob.slots,u.keep b ob q n hb hx⟩
theorem Un.kept (k:∀b u,h.get? b=some u->h'.get? b=some u):Un fs ex H H h h' :=
 ⟨λb ob q _ _ _=>k b ob q,λb ob q _ _ _=>⟨ob.slots,k b ob q⟩,λ_ _ _ n _=>n,λb ob q _=>⟨ob,k b ob q⟩,λ_ _ q=>q,λ_ _ _ q=>q,λ_ ps q=>⟨#[],by rw[q];simp⟩⟩
theorem Un.refl:Un fs ex H H h h:=Un.kept λ_ _ q=>q
theorem Un.laid (k:∀b u,h.get? b=some u->h'.get? b=some u) (hp:h.objs.size<=a) (hn:H a=none):Un fs ex H (au H a o) h h' where
 keep:=λb u q _ _ _=>k b u q
 slot:=λb u q _ _ _=>⟨u.slots,k b u q⟩
 free:=λb u q n _=>by rw[cH (bO (bQ (aX q) hp))];exact n
 there:=λb u q _=>⟨u,k b u q⟩
 tups:=λb xs q=>by rw[cH (dG q hn)];exact q
 frzs:=λb u xs q=>by rw[cH (dG q hn)];exact q
 tbls:=λb ps q=>⟨#[],by rw[cH (dG q hn),q];simp⟩
theorem Un.write (mu:xu (H x)) (he:e=x\/H e=some (.own x)) (k:∀b u,b≠e->h.get? b=some u->h'.get? b=some u) (wv:∃u,h'.get? e=some u):Un fs ex H (au H x o) h h':=by
 have hx:∀b,H b=none->b≠x:=λb n z=>by subst z;rw[n] at mu;exact mu
 have hb:∀b,H b=none->b≠e:=λb n z=>by
  subst z;rcases he with r | r
  ·exact hx b n r
  ·rw[n] at r;cases r
 have hm:∀b u,H b=some u->¬xu (some u)->b≠x:=λb u q nm z=>by subst z;rw[q] at mu;exact nm mu
 refine⟨λb u q n _ _=>k b u (hb b n) q,λb u q n _ _=>⟨u.slots,k b u (hb b n) q⟩,λb u q n _=>by rw[cH (hx b n)];exact n,λb u q _=>?_,
  λb xs q=>by rw[cH (hm b _ q λz=>z)];exact q,λb u xs q=>by rw[cH (hm b _ q λz=>z)];exact q,λb ps q=>⟨#[],by rw[cH (hm b _ q λz=>z),q];simp⟩⟩
 by_cases vg:b=e
 ·subst vg;exact wv
 ·exact⟨u,k b u vg q⟩
end
def O3 (h:Heap) (H:Hp):List Addr:=(dY h.objs.size).filter λa=>(H a).isSome
def VY (h:Heap) (H:Hp):Heap:=PySem.W.hideAll h (O3 h H)
def Hg (h:Heap) (H:Hp):(VY h H).objs.size=h.objs.size:=PySem.W.hideAll_size _ _
def Lg (e:h.get? b=some o) (n:H b=none):(VY h H).get? b=some o :=
 PySem.W.hideAll_get _ e λhm=>by
  have q:(H b).isSome=true:=(mU.mp hm).2;rw[n] at q;simp at q
theorem Ra (e:(VY h H).get? b=some o):h.get? b=some o/\H b=none:=by
 have e':h.get? b=some o:=PySem.W.of_hideAll (O3 h H) e;refine⟨e',?_⟩;cases q:H b with
 | none=>rfl
 | some x =>
  have hm:b∈O3 h H:=mU.mpr ⟨fZ.mpr (aX e'),by simp[q]⟩;have z:(VY h H).get? b=none:=PySem.W.hideAll_none (O3 h H) hm;rw[z] at e;cases e
def Oz (g h:Heap) (L:Addr):List (Addr × Obj):=(dY h.objs.size).filterMap λa=>if a=L\/(g.get? a).isSome=true then none else (h.get? a).map λo=>(a,o)
def rest (g h:Heap) (L d:Addr):List (Addr × Obj):=(Oz g h L).filter λp=>decide (p.1≠d)
structure Mod (K:aI) (mg:Str->Option aB) (base:Heap):Prop where
 kin:K.In base
 glob:base.Ns mainGlobals mg
 blt:∃mb,base.Ns builtinsNs mb/\∀x:Str,x≠"__name__"->mb x=bootBuiltins x
 nolimit:base.NoLimit
structure Cx where
 prog:bR
 w:cT
 K:aI
 mg:Str->Option aB
 base:Heap
 A:cZ
 N:List Str
 s₀:aG
 H₀:Hp
 env:Env
 outer:List Env
 stack:List Env
 ex:List Addr
 fn:Str->Bool
 calm:Bool
 pn:List (Addr × Obj)
 xe:aB->aG->Prop
def o9 (l:List Env):List Addr:=l.filterMap (·.frame)
abbrev Cx.fs (X:Cx):List Addr:=o9 X.outer
def kn (sc:Scope) (x:Str):Prop:=sc.names.lookup x=some .local\/sc.names.lookup x=some .cell\/sc.names.lookup x=some .free
def Loc (sc:Scope) (x:Str):Prop:=sc.names.lookup x=some .local\/sc.names.lookup x=some .cell
def Look (env:Env) (h:Heap) (m:Str->Option aB) (x:Str) (u:aB):Prop :=
 (env.kindOf x=some .local/\m x=some u)\/((env.kindOf x=some .cell\/env.kindOf x=some .free)/\∃c,env.cells.lookup x=some c/\h.IsCell c (some u))
structure Cx.Ok (X:Cx):Prop where
 mod:Mod X.K X.mg X.base
 kind:X.env.scope.kind = .function
 glob:X.env.globals=mainGlobals
 blt:X.env.builtins=builtinsNs
 above:X.s₀.heap.objs.size<=X.env.locals
 inj:∀x y c,X.env.cells.lookup x=some c->X.env.cells.lookup y=some c->x=y
 has:∀x,(X.env.kindOf x=some .cell\/X.env.kindOf x=some .free)->∃c,X.env.cells.lookup x=some c
 cab:∀x c,X.fn x=true->X.env.cells.lookup x=some c->X.s₀.heap.objs.size<=c
 hd:X.calm=true->X.A.handled=none
 frames:X.A.frames=some X.stack
 stk:X.stack=X.outer\/(X.stack=X.env::X.outer/\X.env.frame=some X.env.locals)
 exf:∀b∈X.ex,b≠X.env.locals/\∀x c,X.env.cells.lookup x=some c->c≠b
 bs:∀b o,X.base.get? b=some o->X.s₀.heap.get? b=some o/\X.H₀ b=none
 bsz:X.base.objs.size<=X.s₀.heap.objs.size
 noex:∀b o,X.base.get? b=some o->b ∉ X.ex
 exfs:∀b∈X.ex,b ∉ X.fs
 funs:X.s₀.heap.FunFrames X.base X.outer
 frf:∀b∈X.fs,X.H₀ b=none
structure Inv (X:Cx) (pins:List (Addr × Obj)) (σ:List (Option V)) (H:Hp) (s:aG):Prop where
 ok:X.Ok
 os:s.os=X.s₀.os
 bare:AllBare s.gens
 base:Un X.fs X.ex X.H₀ H X.s₀.heap s.heap
 loc:∃m,s.heap.Ns X.env.locals m/\∀(i:Nat) (x:Str) (v:V),X.N[i]? = some x->σ[i]? = some (some v)->kn X.env.scope x->∃u,RelV v u/\Look X.env s.heap m x u
 cell:∀x c,X.env.cells.lookup x=some c->∃v,s.heap.IsCell c v
 free:H X.env.locals=none
 freeC:∀x c,X.env.cells.lookup x=some c->H c=none
 pin:∀p∈X.pn++pins,s.heap.get? p.1=some p.2/\H p.1=none/\p.1≠X.env.locals/\p.1 ∉ X.fs/\∀v,p.2.data≠.cell v
 hok:fe X.prog X.w H s.heap
 len:σ.length=X.N.length
section
variable {X:Cx} {pins:List (Addr × Obj)} {σ:List (Option V)} {H H':Hp} {s:aG} {h':Heap}
theorem Cx.Ok.nofr (ok:X.Ok) {b:Addr} {o:Obj} (e:X.base.get? b=some o):b ∉ X.fs:=λhb=>by
 have:=(ok.funs.mem hb).1;rw[e] at this;cases this
theorem Inv.bs (I:Inv X pins σ H s):∀b o,X.base.get? b=some o->s.heap.get? b=some o/\H b=none:=λb o e =>
 ⟨I.base.keep b o (I.ok.bs b o e).1 (I.ok.bs b o e).2 (I.ok.nofr e) (I.ok.noex b o e),I.base.free b o (I.ok.bs b o e).1 (I.ok.bs b o e).2 (I.ok.noex b o e)⟩
theorem Inv.bk (I:Inv X pins σ H s):∀b o,X.base.get? b=some o->s.heap.get? b=some o:=λb o e=>(I.bs b o e).1
theorem Inv.mod (I:Inv X pins σ H s):Mod X.K X.mg X.base:=I.ok.mod
theorem Inv.kIn (I:Inv X pins σ H s):X.K.In s.heap:=I.ok.mod.kin.keeps I.bk
theorem Inv.lt (I:Inv X pins σ H s):X.env.locals<s.heap.objs.size:=let ⟨_,hn,_⟩:=I.loc;hn.lt
theorem Inv.sz (I:Inv X pins σ H s):X.s₀.heap.objs.size<=s.heap.objs.size:=eJ I.ok.above (lO I.lt)
theorem Inv.nofs (I:Inv X pins σ H s) {a:Addr} (h:s.heap.objs.size<=a):a ∉ X.fs:=λhb=>by
 obtain⟨_,o,ho,_⟩:=I.ok.funs.mem hb;exact absurd (bQ (aX ho) (eJ I.sz h)) (gT _)
theorem Inv.cne (I:Inv X pins σ H s):∀x c,X.env.cells.lookup x=some c->c≠X.env.locals:=λx c e z=>by
 obtain⟨v,o,ho,hd⟩:=I.cell x c e;obtain⟨m,⟨o',es,ep,qj,sr,_⟩,_⟩:=I.loc;rw[z,qj] at ho;cases ho;rw[sr] at hd;cases hd
theorem Inv.funs (I:Inv X pins σ H s):s.heap.FunFrames X.base X.outer:=by
 have all:∀(l:List Env),(∀b∈o9 l,b∈X.fs)->X.s₀.heap.FunFrames X.base l->s.heap.FunFrames X.base l:=by
  intro l
  induction l with
  | nil=>intro _ _;trivial
  | cons env r ih =>
   intro hs hl;obtain⟨hk,⟨L,o,hf,hn,ho,hd⟩,hr⟩:=hl;have hL:L∈X.fs:=hs L (by unfold o9;rw[eD,hf];exact cF);obtain⟨sl,e⟩:=I.base.slot L o ho (I.ok.frf L hL) hL λz=>I.ok.exfs L z hL;exact⟨hk,⟨L,_,hf,hn,e,hd⟩,ih (λb hb=>hs b (by unfold o9;rw[eD,hf];exact aO _ hb)) hr⟩
 exact all X.outer (λ_ hb=>hb) I.ok.funs
theorem Inv.stack (I:Inv X pins σ H s):s.heap.FunFrames X.base X.stack:=by
 rcases I.ok.stk with e | ⟨e,hf⟩
 ·rw[e];exact I.funs
 ·rw[e];obtain⟨m,hn,_⟩:=I.loc;refine .cons (by rw[I.ok.kind];decide) hf hn ?_ I.funs;exact Heap.get?_none_of_le (eJ I.ok.bsz I.ok.above)
theorem Inv.stkSub (I:Inv X pins σ H s):∀b∈o9 X.stack,b∈X.env.locals::X.fs:=λb hb=>by
 rcases I.ok.stk with e | ⟨e,hf⟩
 ·rw[e] at hb;exact aO _ hb
 ·rw[e] at hb;unfold o9 at hb;rw[eD,hf] at hb;exact hb
theorem Inv.stkFree (I:Inv X pins σ H s):∀b∈o9 X.stack,H b=none:=λb hb=>by
 rcases aJ.mp (I.stkSub b hb) with e | hb
 ·rw[e];exact I.free
 ·obtain⟨_,o,ho,_⟩:=I.ok.funs.mem hb;exact I.base.free b o ho (I.ok.frf b hb) λz=>I.ok.exfs b z hb
theorem Inv.step {g':Array GenState} {t':Nat} {d':Drawn} {ch:List Addr} (I:Inv X pins σ H s)
  (q8:∀b∈ch,(b∈X.ex\/X.s₀.heap.objs.size<=b)/\b≠X.env.locals/\(∀x c,X.env.cells.lookup x=some c->c≠b)/\∀p∈X.pn++pins,p.1≠b)
  (keep:∀b o,b≠X.env.locals->b ∉ X.fs->b ∉ ch->s.heap.get? b=some o->H b=none->h'.get? b=some o)
  (slot:∀b o,b≠X.env.locals->b∈X.fs->b ∉ ch->s.heap.get? b=some o->H b=none->∃sl,h'.get? b=some { o with slots:=sl }) (free:∀b o,b ∉ ch->s.heap.get? b=some o->H b=none->H' b=none)
  (there:∀b o,b ∉ ch->s.heap.get? b=some o->∃o',h'.get? b=some o')
  (tups:∀b xs,H b=some (.tup xs)->H' b=some (.tup xs)) (frzs:∀b o u,H b=some (.frz o u)->H' b=some (.frz o u)) (tbls:∀b ps,H b=some (.tbl ps)->∃more,H' b=some (.tbl (ps++more)))
  (ns:∀m,s.heap.Ns X.env.locals m->h'.Ns X.env.locals m) (hok:fe X.prog X.w H' h') (hg:AllBare g') :
  Inv X pins σ H' { s with heap:=h',gens:=g',drawn:=d',toks:=t' }:=by
 have neL:∀b o,X.s₀.heap.get? b=some o->b≠X.env.locals:=λb o e=>bO (bQ (aX e) I.ok.above);have N7:∀b o,X.s₀.heap.get? b=some o->b ∉ X.ex->b ∉ ch:=λb o e hx hb=>by
  rcases (q8 b hb).1 with z | z
  ·exact hx z
  ·exact absurd (bQ (aX e) z) (gT _)
 have cellK:∀x c,X.env.cells.lookup x=some c->∀v,s.heap.IsCell c v->h'.IsCell c v:=λx c e v ⟨o,ho,hd⟩=>by
  have zq:c ∉ ch:=λz=>(q8 c z).2.2.1 x c e rfl;by_cases hc:c∈X.fs
  ·obtain⟨sl,q⟩:=slot c o (I.cne x c e) hc zq ho (I.freeC x c e);exact⟨_,q,hd⟩
  ·exact⟨o,keep c o (I.cne x c e) hc zq ho (I.freeC x c e),hd⟩
 refine⟨I.ok,I.os,hg,⟨λb o e n hb hx=>?_,λb o e n hb hx=>?_,λb o e n hx=>?_,λb o e hx=>?_,λb xs e=>tups b xs (I.base.tups b xs e),λb o xs e=>frzs b o xs (I.base.frzs b o xs e),λb ps e=>?_⟩,?_,λx c e=>?_,?_,λx c e=>?_,λp hp=>?_,hok,I.len⟩
 ·exact keep b o (neL b o e) hb (N7 b o e hx) (I.base.keep b o e n hb hx) (I.base.free b o e n hx)
 ·obtain⟨sl,e1⟩:=I.base.slot b o e n hb hx;obtain⟨sl',e2⟩:=slot b _ (neL b o e) hb (N7 b o e hx) e1 (I.base.free b o e n hx);exact⟨sl',e2⟩
 ·obtain⟨o',e1⟩:=I.base.there b o e hx;exact free b o' (N7 b o e hx) e1 (I.base.free b o e n hx)
 ·obtain⟨o',e1⟩:=I.base.there b o e hx;exact there b o' (N7 b o e hx) e1
 ·obtain⟨m1,e1⟩:=I.base.tbls b ps e;obtain⟨m2,e2⟩:=tbls b _ e1;exact⟨m1++m2,by rw[e2,tR]⟩
 ·obtain⟨m,hn,hl⟩:=I.loc;refine⟨m,ns m hn,λi x v e1 e2 e3=>?_⟩;obtain⟨u,r,l⟩:=hl i x v e1 e2 e3;refine⟨u,r,?_⟩;rcases l with l | ⟨k,c,e,z⟩
  ·exact .inl l
  ·exact .inr ⟨k,c,e,cellK x c e _ z⟩
 ·obtain⟨v,z⟩:=I.cell x c e;exact⟨v,cellK x c e v z⟩
 ·obtain⟨m,⟨o,_,_,ho,_⟩,_⟩:=I.loc;exact free _ o (λz=>(q8 _ z).2.1 rfl) ho I.free
 ·obtain⟨v,o,ho,hd⟩:=I.cell x c e;exact free c o (λz=>(q8 c z).2.2.1 x c e rfl) ho (I.freeC x c e)
 ·obtain⟨e,n,ne,nf,d⟩:=I.pin p hp;have zq:p.1 ∉ ch:=λz=>(q8 p.1 z).2.2.2 p hp rfl;exact⟨keep p.1 p.2 ne nf zq e n,free p.1 p.2 zq e n,ne,nf,d⟩
theorem Inv.un (I:Inv X pins σ H s) (u:Un X.fs [] H H' s.heap h') (hok:fe X.prog X.w H' h'):Inv X pins σ H' { s with heap:=h',toks:=t' }:=by
 obtain⟨m,⟨o,es,ep,ho,r⟩,_⟩:=id I.loc;obtain⟨sl,hL⟩:=u.any ho I.free (by simp);exact I.step (g':=s.gens) (d':=s.drawn) (ch:=[]) (λ_ z=>nomatch z) (λb o _ hb _ e n=>u.keep b o e n hb (by simp)) (λb o _ hb _ e n=>u.slot b o e n hb (by simp)) (λb o _ e n=>u.free b o e n (by simp)) (λb o _ e=>u.there b o e (by simp)) u.tups u.frzs u.tbls (λm' hm=>by
  obtain⟨o',mo,yh,qj,r'⟩:=hm;rw[ho] at qj;cases qj;exact⟨_,mo,yh,hL,r'⟩) hok I.bare
theorem Inv.call (I:Inv X pins σ H s) (u:Un (o9 X.stack) ch H H' s.heap h') (hok:fe X.prog X.w H' h') (hg:AllBare g')
  (q8:∀b∈ch,(b∈X.ex\/X.s₀.heap.objs.size<=b)/\b≠X.env.locals/\(∀x c,X.env.cells.lookup x=some c->c≠b)/\∀p∈X.pn++pins,p.1≠b) :
  Inv X pins σ H' { s with heap:=h',gens:=g',drawn:=d',toks:=t' }:=by
 obtain⟨m,⟨o,es,ep,ho,r⟩,_⟩:=id I.loc;obtain⟨sl,hL⟩:=u.any ho I.free λz=>(q8 _ z).2.1 rfl;exact I.step (ch:=ch) q8 (λb o hL hb hc e n=>u.keep b o e n (λz=>(aJ.mp (I.stkSub b z)).elim hL hb) hc) (λb o _ _ hc e n=>u.any e n hc) (λb o hc e n=>u.free b o e n hc) (λb o hc e=>u.there b o e hc) u.tups u.frzs u.tbls (λm' hm=>by
  obtain⟨o',mo,yh,qj,r'⟩:=hm;rw[ho] at qj;cases qj;exact⟨_,mo,yh,hL,r'⟩) hok hg
theorem Inv.turned (I:Inv X pins σ H s) (k:∀b o,b≠it->s.heap.get? b=some o->h'.get? b=some o) (hn:H it=none) (hL:it≠X.env.locals)
  (h1:it∈X.ex\/X.s₀.heap.objs.size<=it) (h2:∀x c,X.env.cells.lookup x=some c->c≠it) (h3:∀p∈X.pn++pins,p.1≠it):Inv X pins σ H { s with heap:=h',toks:=t' }:=by
 have ul:∀b u,H b=some u->b≠it:=λb u e z=>by rw[z,hn] at e;cases e
 refine I.step (g':=s.gens) (d':=s.drawn) (ch:=[it]) (λb hb=>?_) (λb o _ _ hc e _=>k b o (λz=>hc (by simp[z])) e) (λb o _ _ hc e _=>⟨o.slots,k b o (λz=>hc (by simp[z])) e⟩) (λ_ _ _ _ n=>n)
  (λb o hc e=>⟨o,k b o (λz=>hc (by simp[z])) e⟩) (λ_ _ e=>e) (λ_ _ _ e=>e) (λb ps e=>⟨#[],by rw[e];simp⟩) (λm hm=>?_) (λb u e=>?_) I.bare
 ·have e:b=it:=by simpa using hb
  subst e;exact⟨h1,hL,h2,h3⟩
 ·obtain⟨o,es,ep,ho,r⟩:=hm;exact⟨o,es,ep,k _ o (Ne.symm hL) ho,r⟩
 ·refine (I.hok b u e).stay (λc v hc q=>k c v ?_ q) (λ_ q=>q) λ_ _ q=>q;rcases hc with z | z
  ·rw[z];exact ul b u e
  ·exact ul c _ z
theorem Inv.tok (I:Inv X pins σ H s) (t:Nat):Inv X pins σ H { s with toks:=t }:=I.un (h':=s.heap) (t':=t) Un.refl I.hok
theorem Inv.kept (I:Inv X pins σ H s) (k:∀b u,s.heap.get? b=some u->h'.get? b=some u):Inv X pins σ H { s with heap:=h',toks:=t' }:=I.un (Un.kept k) (I.hok.kept k)
theorem Inv.laid {a:Addr} (I:Inv X pins σ H s) (k:∀b u,s.heap.get? b=some u->h'.get? b=some u) (hp:s.heap.objs.size<=a) (new:bi X.prog X.w (au H a o) h' a o) :
  Inv X pins σ (au H a o) { s with heap:=h',toks:=t' }:=I.un (Un.laid k hp (I.hok.fresh hp)) (I.hok.laid k hp new)
theorem Inv.write (I:Inv X pins σ H s) (mu:xu (H x)) (he:e=x\/H e=some (.own x)) (k:∀b u,b≠e->s.heap.get? b=some u->h'.get? b=some u) (wv:∃u,h'.get? e=some u)
  (new:bi X.prog X.w (au H x o) h' x o):Inv X pins σ (au H x o) { s with heap:=h',toks:=t' }:=I.un (Un.write mu he k wv) (I.hok.write mu he k wv new)
theorem Inv.pins_of (I:Inv X pins σ H s) (h:∀p∈zy,s.heap.get? p.1=some p.2/\H p.1=none/\p.1≠X.env.locals/\p.1 ∉ X.fs/\∀v,p.2.data≠.cell v):Inv X zy σ H s :=
 ⟨I.ok,I.os,I.bare,I.base,I.loc,I.cell,I.free,I.freeC,λp hp=>(cC.mp hp).elim (λz=>I.pin p (dL _ z)) (h p),I.hok,I.len⟩
theorem ZS {N:List Str} (hN:N.Nodup) {i j:Nat} {x:Str} (a:N[i]? = some x) (b:N[j]? = some x):i=j:=by
 obtain⟨h1,e1⟩:=bC.mp a;obtain⟨h2,e2⟩:=bC.mp b;exact (List.getElem_inj hN).mp (e1.trans e2.symm)
theorem UR (I:Inv X pins σ H s) (hN:X.N.Nodup) (hi:X.N[i]? = some x) (hx:Loc X.env.scope x) (r:RelV v u)
  (h:∀s',Inv X pins (σ.set i (some v)) H s'->(∃a,qK a s.heap s'.heap/\(a=X.env.locals\/X.env.cells.lookup x=some a))->Q () s') (hf:X.fn x=true\/X.env.scope.names.lookup x=some .local:=by walk_at "loc"):wpAny M A (storeName X.env x u) Q E s:=by
 obtain⟨m,hn,hl⟩:=id I.loc;have R8:(X.env.scope.kind == .class || (X.env.scope.kind == .module && X.env.locals != X.env.globals))=false:=by rw[I.ok.kind];rfl
 have hiσ:i<σ.length:=by rw[I.len];exact (bC.mp hi).1
 have cne:=I.cne;have tracked:∀{a:Addr} {h':Heap},(∃o,s.heap.get? a=some o/\H a=none)->qK a s.heap h'->fe X.prog X.w H h':=λ{a h'} ha hs b ob e=>by
  obtain⟨_,_,uh⟩:=ha;refine (I.hok b ob e).stay (λc w' hc q=>(hs.2 c ?_).trans q) (λ_ q=>q) λ_ _ q=>q;rintro rfl;rcases hc with rfl | hc
  ·rw[uh] at e;cases e
  ·rw[uh] at hc;cases hc
 rcases hx with hk | hk
 ·refine wpAny_storeName_local hk hn (λh' ni hs=>?_) R8;obtain⟨oL,_,_,hoL,_⟩:=id hn;refine h _ ⟨I.ok,I.os,I.bare,⟨λb o e n hb hx=>?_,λb o e n hb hx=>?_,I.base.free,λb o e hx=>?_,I.base.tups,I.base.frzs,I.base.tbls⟩,⟨_,ni,λj y v' e1 e2 e3=>?_⟩,λy c e=>?_,I.free,I.freeC,λp hp=>?_,tracked ⟨oL,hoL,I.free⟩ hs,by simpa using I.len⟩ ⟨_,hs,.inl rfl⟩
  ·exact (hs.2 b (bO (bQ (aX e) I.ok.above))).trans (I.base.keep b o e n hb hx)
  ·obtain⟨sl,e1⟩:=I.base.slot b o e n hb hx;exact⟨sl,(hs.2 b (bO (bQ (aX e) I.ok.above))).trans e1⟩
  ·obtain⟨o',e1⟩:=I.base.there b o e hx;exact⟨o',(hs.2 b (bO (bQ (aX e) I.ok.above))).trans e1⟩
  ·by_cases hj:j=i
   ·subst hj;rw[hi] at e1;cases e1;rw[fP hiσ] at e2;cases e2;exact⟨u,r,.inl ⟨hk,by simp⟩⟩
   ·rw[fG (Ne.symm hj)] at e2;obtain⟨u',r',q⟩:=hl j y v' e1 e2 e3;refine⟨u',r',?_⟩;rcases q with ⟨k,e⟩ | ⟨k,c,e,z⟩
    ·refine .inl ⟨k,?_⟩;have:y≠x:=λe=>hj (ZS hN e1 (e ▸ hi));simp[this,e]
    ·exact .inr ⟨k,c,e,z.sameBut hs (cne y c e)⟩
  ·obtain⟨w',z⟩:=I.cell y c e;exact⟨w',z.sameBut hs (cne y c e)⟩
  ·obtain⟨e,n,ne,nf,d⟩:=I.pin p hp;exact⟨(hs.2 p.1 ne).trans e,n,ne,nf,d⟩
 ·have R_:X.fn x=true:=by
   rcases hf with z | z
   ·exact z
   ·rw[z] at hk;cases hk
  obtain⟨c,hc⟩:=I.ok.has x (.inl hk);obtain⟨w',z⟩:=I.cell x c hc;refine wpAny_storeName_cell I.ok.kind hk hc z (λh' sk hs=>?_);obtain⟨oc,hoc,T7⟩:=id z;refine h { s with heap:=h' } ⟨I.ok,I.os,I.bare,⟨λb o e n hb hx=>?_,λb o e n hb hx=>?_,I.base.free,λb o e hx=>?_,I.base.tups,I.base.frzs,I.base.tbls⟩,⟨m,hn.sameBut hs (Ne.symm (cne x c hc)),λj y v' e1 e2 e3=>?_⟩,λy c' e=>?_,I.free,I.freeC,λp hp=>?_,tracked ⟨oc,hoc,I.freeC x c hc⟩ hs,by simpa using I.len⟩ ⟨c,hs,.inr hc⟩
  ·exact (hs.2 b (bO (bQ (aX e) (I.ok.cab x c R_ hc)))).trans (I.base.keep b o e n hb hx)
  ·obtain⟨sl,e1⟩:=I.base.slot b o e n hb hx;exact⟨sl,(hs.2 b (bO (bQ (aX e) (I.ok.cab x c R_ hc)))).trans e1⟩
  ·obtain⟨o',e1⟩:=I.base.there b o e hx;exact⟨o',(hs.2 b (bO (bQ (aX e) (I.ok.cab x c R_ hc)))).trans e1⟩
  ·by_cases hj:j=i
   ·subst hj;rw[hi] at e1;cases e1;rw[fP hiσ] at e2;cases e2;exact⟨u,r,.inr ⟨.inl hk,c,hc,sk⟩⟩
   ·rw[fG (Ne.symm hj)] at e2;obtain⟨u',r',q⟩:=hl j y v' e1 e2 e3;refine⟨u',r',?_⟩;rcases q with q | ⟨k,c',e,z'⟩
    ·exact .inl q
    ·refine .inr ⟨k,c',e,z'.sameBut hs ?_⟩;rintro rfl;exact hj (ZS hN e1 (I.ok.inj _ _ _ e hc ▸ hi))
  ·by_cases yr:c'=c
   ·subst yr;exact⟨_,sk⟩
   ·obtain⟨w2,z2⟩:=I.cell y c' e;exact⟨w2,z2.sameBut hs yr⟩
  ·obtain⟨e,n,ne,nf,d⟩:=I.pin p hp;refine⟨(hs.2 p.1 ?_).trans e,n,ne,nf,d⟩;intro q;rw[q,hoc] at e;have q':oc=p.2:=dO e;exact d w' (by rw[<-q'];exact T7)
theorem IV (I:Inv X pins σ H s) (hN:X.N.Nodup) (hi:X.N[i]? = some x) (hx:Loc X.env.scope x) (r:RelV v u)
  (h:∀s',Inv X pins (σ.set i (some v)) H s'->Q () s') (hf:X.fn x=true\/X.env.scope.names.lookup x=some .local:=by walk_at "loc"):wpAny M A (storeName X.env x u) Q E s :=
 UR I hN hi hx r (λs' I' _=>h s' I') hf
theorem Inv.call' (I:Inv X pins σ H s) (ho:s'.os=s.os) (u:Un (o9 X.stack) ch H H' s.heap s'.heap) (hok:fe X.prog X.w H' s'.heap) (hg:AllBare s'.gens)
  (q8:∀b∈ch,(b∈X.ex\/X.s₀.heap.objs.size<=b)/\b≠X.env.locals/\(∀x c,X.env.cells.lookup x=some c->c≠b)/\∀p∈X.pn++pins,p.1≠b):Inv X pins σ H' s':=by
 obtain⟨h',g',d',t',o'⟩:=s';have e:o'=s.os:=ho;subst e;exact I.call (g':=g') (t':=t') (d':=d') u hok hg q8
end
abbrev XK:=aB->Option Addr->Hp->Prop
abbrev St:=List (Option V)
abbrev VK:=V->Hp->Prop
abbrev TE:=St->Hp->VK->Prop
abbrev TT:=St->Hp->(Bool->Hp->Prop)->Prop
abbrev TA:=St->Hp->(List V->Hp->Prop)->Prop
structure oq where
 nx:St->Hp->Prop
 rt:VK
 bk:St->Hp->Prop:=λ_ _=>False
 ct:St->Hp->Prop:=λ_ _=>False
abbrev TS:=oq->St->Hp->Prop
def EP (X:Cx) (pins:List (Addr × Obj)) (Z:St) (Q:VK) (u:aB) (s':aG):Prop:=∃v H',Inv X pins Z H' s'/\RelV v u/\Q v H'
def TP (X:Cx) (pins:List (Addr × Obj)) (Z:St) (Q:Bool->Hp->Prop) (b:Bool) (s':aG):Prop:=∃H',Inv X pins Z H' s'/\Q b H'
def AP (X:Cx) (pins:List (Addr × Obj)) (Z:St) (Q:List V->Hp->Prop) (us:List aB) (s':aG):Prop:=∃vs H',Inv X pins Z H' s'/\am vs us/\Q vs H'
def SP (X:Cx) (pins:List (Addr × Obj)) (D:oq) (f:Flow) (s':aG):Prop :=
 match f with
 | .next=>∃Z' H',Inv X pins Z' H' s'/\D.nx Z' H'
 | .brk=>∃Z' H',Inv X pins Z' H' s'/\D.bk Z' H'
 | .cont=>∃Z' H',Inv X pins Z' H' s'/\D.ct Z' H'
 | .ret u=>∃v Z' H',Inv X pins Z' H' s'/\RelV v u/\D.rt v H'
def PE (X:Cx) (e:Expr) (t:TE):Prop :=
 ∀(pins:List (Addr × Obj)) (s:aG) (Z:St) (H:Hp) (Q:VK),Inv X pins Z H s->t Z H Q->wpAny (model X.prog X.w) X.A (eval e X.env) (EP X pins Z Q) X.xe s
def PT (X:Cx) (e:Expr) (t:TT):Prop :=
 ∀(pins:List (Addr × Obj)) (s:aG) (Z:St) (H:Hp) (Q:Bool->Hp->Prop),Inv X pins Z H s->t Z H Q->wpAny (model X.prog X.w) X.A (isTrue e X.env (eval e X.env)) (TP X pins Z Q) X.xe s
def PW (X:Cx) (e:Expr) (t:TT):Prop :=
 ∀(whole:Sem aB) (pins:List (Addr × Obj)) (s:aG) (Z:St) (H:Hp) (Q:Bool->Hp->Prop),Inv X pins Z H s->t Z H Q->wpAny (model X.prog X.w) X.A (isTrue e X.env whole) (TP X pins Z Q) X.xe s
def PW.pt (h:PW X e t):PT X e t:=h _
def PA (X:Cx) (es:List Expr) (t:TA):Prop :=
 ∀(pos:Pos) (pins:List (Addr × Obj)) (s:aG) (Z:St) (H:Hp) (Q:List V->Hp->Prop),Inv X pins Z H s->t Z H Q->wpAny (model X.prog X.w) X.A (spliced (backTo pos (starEach es X.env))) (AP X pins Z Q) X.xe s
def PS (X:Cx) (st:Stmt) (t:TS):Prop :=
 ∀(pins:List (Addr × Obj)) (s:aG) (Z:St) (H:Hp) (D:oq),Inv X pins Z H s->t D Z H->wpAny (model X.prog X.w) X.A (exec st X.env) (SP X pins D) X.xe s
def fk (X:Cx) (st:List Stmt) (t:TS):Prop :=
 ∀(pins:List (Addr × Obj)) (s:aG) (Z:St) (H:Hp) (D:oq),Inv X pins Z H s->t D Z H->wpAny (model X.prog X.w) X.A (execs st X.env) (SP X pins D) X.xe s
def ci {α:Type} {t:Sem α} {Q Q':α->aG->Prop} {s:aG} (h:wpAny M A t Q E s) (hQ:∀a s,Q a s->Q' a s):wpAny M A t Q' E s:=gS h hQ λ_ _ x=>x
section
variable {X:Cx}
def B7 (i:Nat):TE:=λZ H Q=>∃v,Z[i]? = some (some v)/\Q v H
def tC (v:V):TE:=λ_ H Q=>Q v H
theorem Wf {i:Nat} {x:Str} {pos:Pos} (hN:X.N[i]? = some x) (hv:kn X.env.scope x) (hd:(x == ("__debug__":Str))=false:=by decide) (g_:(x == ("__classdict__":Str))=false:=by decide):PE X (.Name x pos) (B7 i):=by
 intro pins s Z H Q I h;obtain⟨v,e,h⟩:=h;obtain⟨m,hn,hl⟩:=I.loc;obtain⟨u,r,l⟩:=hl i x v hN e hv;have fin:EP X pins Z Q u s:=⟨v,H,I,r,h⟩;rcases l with ⟨hk,hm⟩ | ⟨hk,c,hc,jh⟩
 ·exact RC (wpAny_loadName_local I.ok.kind hk hn hm fin) hd
 ·rcases hk with hk | hk
  ·exact RC (wpAny_loadName_cell I.ok.kind hk hc jh fin) hd
  ·exact RC (wpAny_loadName_free I.ok.kind hk hc jh fin g_) hd
theorem Mx {i j pos}:PE X (.Constant (.int i) j pos) (tC (.int i)):=λ_ _ _ H _ I h=>wpAny_Constant_int ⟨.int i,H,I.tok _,⟨_,rfl⟩,h⟩
theorem Zh {b j pos}:PE X (.Constant (.bool b) j pos) (tC (.bl b)):=λ_ _ _ H _ I h=>Constant_bool ⟨.bl b,H,I,rfl,h⟩
theorem Vz {j pos}:PE X (.Constant .none j pos) (tC .non):=λ_ _ _ H _ I h=>Constant_none ⟨.non,H,I,rfl,h⟩
def Gl (X:Cx) (x:Str):Prop:=X.env.kindOf x=some .globalImplicit
theorem Qm {s:aG} {Z:St} (I:Inv X pins Z H s) (hg:Gl X x) (hm:X.mg x=some u) (h:Q u s)
  (hd:(x == ("__debug__":Str))=false:=by decide):wpAny (model X.prog X.w) X.A (eval (.Name x pos) X.env) Q E s :=
 tT I.ok.kind hg (Calls.loadGlobal_global (by rw[I.ok.glob];exact I.mod.glob.keeps I.bk) hm h) hd
theorem pY {E:aB->aG->Prop} {pins:List (Addr × Obj)} {s:aG} {Z:St} {H:Hp} {x:Str} {u:aB} {pos:Pos} {Q:aB->aG->Prop} (I:Inv X pins Z H s) (hg:Gl X x) (hm:X.mg x=none) (hv:bootBuiltins x=some u) (h:Q u s)
  (hn:x≠"__name__":=by decide) (hd:(x == ("__debug__":Str))=false:=by decide):wpAny (model X.prog X.w) X.A (eval (.Name x pos) X.env) Q E s:=by
 obtain⟨mb,h1,h2⟩:=I.mod.blt;exact tT I.ok.kind hg (Calls.loadGlobal_builtin (by rw[I.ok.glob];exact I.mod.glob.keeps I.bk) hm (by rw[I.ok.blt];exact h1.keeps I.bk) ((h2 x hn).trans hv) h) hd
theorem Ri {x:Str} {v:V} {u:aB} {pos:Pos} (hg:Gl X x) (hm:X.mg x=none) (hv:bootBuiltins x=some u) (r:RelV v u) (hn:x≠"__name__":=by decide) (hd:(x == ("__debug__":Str))=false:=by decide):PE X (.Name x pos) (tC v) :=
 λ_ _ _ H _ I h=>pY I hg hm hv ⟨v,H,I,r,h⟩ hn hd
variable {ta tb:TE}
def tB (t:TE):TT:=λZ H Q=>t Z H λx H1=>∃c,x = .bl c/\Q c H1
theorem Wk (h:PE X e t) (he:∀whole,isTrue e X.env whole=(do let v <-whole;standAt e.pos;holding [v] (truthy v)):=by intro _;rfl):PT X e (tB t):=by
 intro pins s Z H Q I hw;refine isTrue_plain (ci (h pins s Z H _ I hw) λv s1 ⟨x,H1,I1,r1,q1⟩=>?_) (he _);obtain⟨d,rfl,q⟩:=q1;cases r1;exact nM ⟨H1,I1,q⟩
variable {rest:List Expr}
def G0 (t u:TT):TT:=λZ H Q=>t Z H λc H1=>if c=true then u Z H1 Q else Q false H1
def tOr (t u:TT):TT:=λZ H Q=>t Z H λc H1=>if c=true then Q true H1 else u Z H1 Q
def G7 (t:TT):TT:=λZ H Q=>t Z H λc H1=>Q (!c) H1
theorem Rw (ha:PT X a tA):PW X (.BoolOp .And [a] pos) tA:=by
 intro wh pins s Z H Q I h;refine isTrue_and (ci (ha pins s Z H Q I h) λc s1 e=>?_);cases c with
 | true=>exact isTrue_and_nil e
 | false=>exact e
theorem Wq (ha:PT X a tA):PW X (.BoolOp .Or [a] pos) tA:=by
 intro wh pins s Z H Q I h;refine isTrue_or (ci (ha pins s Z H Q I h) λc s1 e=>?_);cases c with
 | false=>exact isTrue_or_nil e
 | true=>exact e
theorem Wp (ha:PT X a tA) (hb:PW X (.BoolOp .And (b::rest) pos) X6):PW X (.BoolOp .And (a::b::rest) pos) (G0 tA X6):=by
 intro wh pins s Z H Q I h;refine isTrue_and (ci (ha pins s Z H _ I h) λc s1 ⟨H1,I1,q1⟩=>?_);cases c with
 | true=>exact hb wh pins s1 Z H1 Q I1 q1
 | false=>exact⟨H1,I1,q1⟩
theorem Zn (ha:PT X a tA) (hb:PW X (.BoolOp .Or (b::rest) pos) X6):PW X (.BoolOp .Or (a::b::rest) pos) (tOr tA X6):=by
 intro wh pins s Z H Q I h;refine isTrue_or (ci (ha pins s Z H _ I h) λc s1 ⟨H1,I1,q1⟩=>?_);cases c with
 | true=>exact⟨H1,I1,q1⟩
 | false=>exact hb wh pins s1 Z H1 Q I1 q1
theorem Wj (ha:PT X a tA):PT X (.UnaryOp .Not a pos) (G7 tA):=by
 intro pins s Z H Q I h;exact isTrue_not (ha pins s Z H (λc H1=>Q (!c) H1) I h)
def A4 (ta tb:TE):TE:=λZ H Q=>ta Z H λx H1=>∃c,x = .bl c/\if c=true then tb Z H1 Q else Q (.bl false) H1
def B4 (ta:TE):TE:=λZ H Q=>ta Z H λx H1=>∃c,x = .bl c/\Q (.bl (!c)) H1
theorem We {op} (h:PE X a t):PE X (.BoolOp op [a] pos) t:=λpins s Z H Q I hw=>BoolOp_one (h pins s Z H Q I hw)
theorem Vy (ha:PE X a ta) (hb:PE X (.BoolOp .And (b::rest) pos) tb):PE X (.BoolOp .And (a::b::rest) pos) (A4 ta tb):=by
 intro pins s Z H Q I h;refine BoolOp_and (ci (ha pins s Z H _ I h) λv s1 ⟨x,H1,I1,r1,q1⟩=>?_);obtain⟨c,rfl,q1⟩:=q1;cases r1;refine nM ?_;cases c with
 | true=>exact hb pins s1 Z H1 Q I1 q1
 | false=>exact⟨.bl false,H1,I1,rfl,q1⟩
theorem Wa (ha:PE X a ta):PE X (.UnaryOp .Not a pos) (B4 ta):=by
 intro pins s Z H Q I h;refine UnaryOp_ (ci (ha pins s Z H _ I h) λv s1 ⟨x,H1,I1,r1,q1⟩=>?_);obtain⟨c,rfl,q1⟩:=q1;cases r1;exact not_of (nM ⟨.bl (!c),H1,I1,rfl,q1⟩)
end
def f8 (K:aI) (H:Hp) (a:Addr) (xs:List V):Prop :=
 Rd H a (.lst xs) \/
  ∃(o:Obj) (its:Array aB) (n:Nat),K.lookup a=some o/\o.cls = .type "list"/\o.dict=none/\o.data = .seq its n/\its.size<=sizeLine/\am xs its.toList
def di (K:aI) (H:Hp) (a:Addr) (xs:List V):Prop :=
 Rd H a (.tup xs) \/
  ∃(o:Obj) (its:Array aB) (n:Nat),K.lookup a=some o/\o.cls = .type "tuple"/\o.data = .seq its n/\its.size<=sizeLine/\am xs its.toList
def C4:aB->Option V
 | .none=>some .non
 | .bool b=>some (.bl b)
 | .int i _=>some (.int i)
 | .str x _=>some (.str x)
 | .bytes b _=>some (.byt b)
 | .float b _=>some (.flt b)
 | .ref a=>some (.ref a)
 | .type n=>some (.ty n)
 | _=>none
theorem RelV.abs (r:RelV x u):C4 u=some x:=by
 cases x with
 | non=>cases r;rfl
 | bl _=>cases r;rfl
 | int _=>obtain⟨t,rfl⟩:=r;rfl
 | str _=>obtain⟨t,rfl⟩:=r;rfl
 | byt _=>obtain⟨t,rfl⟩:=r;rfl
 | flt _=>obtain⟨t,rfl⟩:=r;rfl
 | ref _=>cases r;rfl
 | ty _=>cases r;rfl
def RelV.inj (r:RelV x u) (q:RelV y u):x=y:=dO (r.abs.symm.trans q.abs)
theorem am.inj:∀{xs ys:List V} {us:List aB},am xs us->am ys us->xs=ys
 | _,_,_,.nil,.nil=>rfl
 | _,_,_,.cons r t,.cons r' t'=>by rw[r.inj r',am.inj t t']
section
variable {σ:St} {H:Hp} {s:aG} {a:Addr} {xs ys:List V}
theorem f8.of {K:aI} (h:H a=some (.lst xs)):f8 K H a xs:=.inl (.inl h)
theorem di.of {K:aI} (h:H a=some (.tup xs)):di K H a xs:=.inl (.inl h)
theorem Inv.list (I:Inv X pins σ H s) (h:f8 X.K H a xs):∃its:List aB,am xs its/\PlainL s.heap a its.toArray/\xs.length<=sizeLine:=by
 rcases h with h | ⟨o,its,n,hk,hc,hd,hs,hz,r⟩
 ·obtain⟨z,its,n,r,e⟩:=h.ok I.hok;exact⟨its,r,⟨_,n,e,rfl,rfl,rfl⟩,z⟩
 ·refine⟨its.toList,r,⟨o,n,I.kIn a o hk,hc,hd,by simpa using hs⟩,?_⟩;have e:=r.length;simp only[cI] at e;lia
theorem Inv.tuple (I:Inv X pins σ H s) (h:di X.K H a xs):∃its:List aB,am xs its/\IsTup s.heap a its.toArray/\xs.length<=sizeLine:=by
 rcases h with h | ⟨o,its,n,hk,hc,hs,hz,r⟩
 ·obtain⟨z,its,r,p⟩:=h.ok I.hok;exact⟨its,r,p,z⟩
 ·refine⟨its.toList,r,⟨o,I.kIn a o hk,hc,n,by simpa using hs⟩,?_⟩;have e:=r.length;simp only[cI] at e;lia
theorem Inv.list_inj (I:Inv X pins σ H s) (h:f8 X.K H a xs) (h':f8 X.K H a ys):xs=ys:=by
 obtain⟨its,r,⟨o,n,e,_,_,d⟩,_⟩:=I.list h;obtain⟨its',r',⟨o',n',e',_,_,d'⟩,_⟩:=I.list h';rw[e] at e';cases e';rw[d] at d';injection d' with d1 _;have:its=its':=by simpa using congrArg Array.toList d1
 subst this;exact r.inj r'
theorem Inv.tuple_inj (I:Inv X pins σ H s) (h:di X.K H a xs) (h':di X.K H a ys):xs=ys:=by
 obtain⟨its,r,⟨o,e,_,n,d⟩,_⟩:=I.tuple h;obtain⟨its',r',⟨o',e',_,n',d'⟩,_⟩:=I.tuple h';rw[e] at e';cases e';rw[d] at d';injection d' with d1 _;have:its=its':=by simpa using congrArg Array.toList d1
 subst this;exact r.inj r'
end
abbrev Cx.wish (X:Cx) (E:aB->aG->Prop):Cx:={ X with xe:=E }
abbrev Cx.nox (X:Cx):Cx:=X.wish λ_ _=>False
def Cx.Ok.wish {X:Cx} (ok:X.Ok) (E:aB->aG->Prop):(X.wish E).Ok :=
 ⟨ok.mod,ok.kind,ok.glob,ok.blt,ok.above,ok.inj,ok.has,ok.cab,ok.hd,ok.frames,ok.stk,ok.exf,ok.bs,ok.bsz,ok.noex,ok.exfs,ok.funs,ok.frf⟩
def Cx.Ok.unwish {X:Cx} {E:aB->aG->Prop} (ok:(X.wish E).Ok):X.Ok :=
 ⟨ok.mod,ok.kind,ok.glob,ok.blt,ok.above,ok.inj,ok.has,ok.cab,ok.hd,ok.frames,ok.stk,ok.exf,ok.bs,ok.bsz,ok.noex,ok.exfs,ok.funs,ok.frf⟩
section
variable {X:Cx} {σ:St} {s:aG}
theorem Inv.wish (I:Inv X pins σ H s) (E:aB->aG->Prop):Inv (X.wish E) pins σ H s:=⟨I.ok.wish E,I.os,I.bare,I.base,I.loc,I.cell,I.free,I.freeC,I.pin,I.hok,I.len⟩
theorem Inv.unwish (I:Inv (X.wish E) pins σ H s):Inv X pins σ H s:=⟨I.ok.unwish,I.os,I.bare,I.base,I.loc,I.cell,I.free,I.freeC,I.pin,I.hok,I.len⟩
theorem SP.unwish {D:oq} (h:SP (X.wish E) pins D f s'):SP X pins D f s':=by
 cases f with
 | next=>obtain⟨Z',H',I,q⟩:=h;exact⟨Z',H',I.unwish,q⟩
 | brk=>obtain⟨Z',H',I,q⟩:=h;exact⟨Z',H',I.unwish,q⟩
 | cont=>obtain⟨Z',H',I,q⟩:=h;exact⟨Z',H',I.unwish,q⟩
 | ret u=>obtain⟨v,Z',H',I,r,q⟩:=h;exact⟨v,Z',H',I.unwish,r,q⟩
theorem fk.nox {st:List Stmt} {t:TS} (h:fk X.nox st t):fk X st t:=λpins s σ H D I hw =>
 gS (h pins s σ H D (I.wish _) hw) (λ_ _ q=>q.unwish) λ_ _ z=>mN z
end
section
variable {X:Cx} {st:Stmt} {rest:List Stmt} {t u:TS} {te:TE}
def B3:TS:=λD Z H=>D.nx Z H
def H8 (t u:TS):TS:=λD Z H=>t { D with nx:=u D } Z H
theorem Rs:fk X [] B3:=λ_ _ Z H _ I h=>sO ⟨Z,H,I,h⟩
theorem uQ (h1:PS X st t) (h2:fk X rest u):fk X (st::rest) (H8 t u):=by
 intro pins s Z H D I h;refine LA (ci (h1 pins s Z H { D with nx:=u D } I h) λf s1 q=>?_);cases f with
 | next =>
  obtain⟨Z',H',I',q⟩:=q;exact h2 pins s1 Z' H' D I' q
 | ret v=>exact q
 | brk=>exact q
 | cont=>exact q
theorem MV (h1:PS X st t):fk X [st] t:=by
 intro pins s Z H D I h;refine LA (ci (h1 pins s Z H D I h) λf s1 q=>?_);cases f with
 | next=>exact sO q
 | ret v=>exact q
 | brk=>exact q
 | cont=>exact q
theorem Inv.quiet {Z:St} {s:aG} (I:Inv X pins Z H s):interactive X.env=false:=by simp[interactive,I.ok.kind]
def A9 (te:TE):TS:=λD Z H=>te Z H λ_ H1=>D.nx Z H1
theorem IF (he:PE X e te) (hs:swapsWith e none pos.line X.env=pure false:=by rfl):PS X (.Expr e pos) (A9 te):=by
 intro pins s Z H D I h;exact wpAny_Expr_any (ci (he pins s Z H _ I h) λv s1 ⟨x,H1,I1,r1,q1⟩=>⟨Z,H1,I1,q1⟩) I.quiet hs
def G9 (te:TE):TS:=λD Z H=>te Z H D.rt
theorem Cz (he:PE X e te):PS X (.Return (some e) pos) (G9 te):=by
 intro pins s Z H D I h;exact wpAny_Return_some (ci (he pins s Z H _ I h) λv s1 ⟨x,H1,I1,r1,q1⟩=>⟨x,Z,H1,I1,r1,q1⟩)
def G4 (c:TT) (t u:TS):TS:=λD Z H=>c Z H λb H1=>if b=true then t D Z H1 else u D Z H1
theorem Zk {c:Expr} (hc:PT X c tc) (ha:fk X a t) (hb:fk X b u):PS X (.If c a b pos) (G4 tc t u):=by
 intro pins s Z H D I h;refine wpAny_If (ci (hc pins s Z H _ I h) λd s1 ⟨H1,I1,q1⟩=>?_);cases d with
 | true=>exact ha pins s1 Z H1 D I1 q1
 | false=>exact hb pins s1 Z H1 D I1 q1
def Xk:TS:=λ_ _ _=>False
theorem Nd:PS X st Xk:=λ_ _ _ _ _ _ h=>h.elim
end
abbrev TG:=V->St->Hp->(St->Hp->Prop)->Prop
abbrev t7:=List V->St->Hp->(St->Hp->Prop)->Prop
def PG (X:Cx) (target:Expr) (t:TG):Prop :=
 ∀(pins:List (Addr × Obj)) (s:aG) (Z:St) (H:Hp) (v:V) (u:aB) (Q:St->Hp->Prop),Inv X pins Z H s->RelV v u->t v Z H Q ->
  wpAny (model X.prog X.w) X.A (assign target X.env u) (λ_ s'=>∃Z' H',Inv X pins Z' H' s'/\Q Z' H') X.xe s
def qu (X:Cx) (ts:List Expr) (t:t7):Prop :=
 ∀(pins:List (Addr × Obj)) (s:aG) (Z:St) (H:Hp) (vs:List V) (us:List aB) (Q:St->Hp->Prop),Inv X pins Z H s->am vs us->t vs Z H Q ->
  wpAny (model X.prog X.w) X.A (assignInOrder ((assignEach ts X.env).map (·.2)) us) (λ_ s'=>∃Z' H',Inv X pins Z' H' s'/\Q Z' H') X.xe s
section
variable {X:Cx} {pos:Pos}
def Tb (i:Nat):TG:=λv Z H Q=>Q (Z.set i (some v)) H
theorem WV (hN:X.N.Nodup) (hi:X.N[i]? = some x) (hx:Loc X.env.scope x) (hf:X.fn x=true\/X.env.scope.names.lookup x=some .local:=by walk_at "loc"):PG X (.Name x pos) (Tb i):=by
 intro pins s Z H v u Q I r h;exact IX (IV I hN hi hx r (λs' I'=>⟨_,H,I',h⟩) hf)
def D4:t7:=λvs Z H Q=>vs=[]/\Q Z H
def Yr (t:TG) (u:t7):t7:=λvs Z H Q=>∃v r,vs=v::r/\t v Z H λZ' H'=>u r Z' H' Q
theorem Fs:qu X [] D4:=by
 intro pins s Z H vs us Q I r h;obtain⟨e,h⟩:=h;subst e;cases r;exact HB ⟨Z,H,I,h⟩
theorem QF (h1:PG X e t) (h2:qu X es u)
  (hs:(assignEach (e::es) X.env).map (·.2)=assign e X.env::(assignEach es X.env).map (·.2):=by rfl):qu X (e::es) (Yr t u):=by
 intro pins s Z H vs us Q I r h;obtain⟨v,vr,e1,h⟩:=h;subst e1;cases r with
 | cons r rr =>
  rw[hs];refine uH (ci (h1 pins s Z H _ _ _ I r h) λ_ s1 ⟨Z1,H1,I1,q1⟩=>?_);exact h2 pins s1 Z1 H1 _ _ Q I1 rr q1
def D5 (K:aI) (n:Nat) (t:t7):TG:=λv Z H Q=>∃a xs,v = .ref a/\di K H a xs/\xs.length=n/\t xs Z H Q
theorem Na {es:List Expr} {k:Nat} {t:t7} {n:Nat} (hc:X.calm=true) (h:qu X es t)
  (hn:(assignEach es X.env).length=n:=by rfl) (w_:(assignEach es X.env).findIdx? (·.1)=none:=by rfl):PG X (.Tuple es k pos) (D5 X.K n t):=by
 intro pins s Z H v u Q I r hw;obtain⟨a,xs,e1,hq,hl,hw⟩:=hw;subst e1;cases r;obtain⟨its,rv,ht,hz⟩:=I.tuple hq;refine assign_Tuple_tuple (I.ok.hd hc) ht (by simp[hn,<-hl,rv.length]) w_ λh' hx=>?_;have I1:Inv X pins Z H { s with heap:=h' }:=I.kept (t':=s.toks) λb o e=>hx b o (bO (aX e)) e;exact h pins _ Z H xs _ Q I1 (by simpa using rv) hw
def A5 (te:TE) (g:TG):TS:=λD Z H=>te Z H λx H1=>g x Z H1 D.nx
theorem Wh {tg e:Expr} {te:TE} {g:TG} (he:PE X e te) (hg:PG X tg g) (hs:swapsWithSole [tg] e pos.line X.env=pure false:=by rfl) (hw:swappedStores [tg] e X.env=pure none:=by rfl)
  (h1:(assignEach [tg] X.env).map (·.2)=[assign tg X.env]:=by rfl):PS X (.Assign [tg] e pos) (A5 te g):=by
 intro pins s Z H D I h;refine wpAny_Assign_stores (ci (he pins s Z H _ I h) λv s1 ⟨x,H1,I1,r1,q1⟩=>?_) hs hw;rw[h1];exact ci (hg pins s1 Z H1 x v _ I1 r1 q1) λ_ s2 q=>q
theorem WX {i:Nat} {x:Str} {e:Expr} {te:TE} {pos':Pos} (hN:X.N.Nodup) (hi:X.N[i]? = some x) (hx:Loc X.env.scope x) (he:PE X e te) (hs:swapsWith e (some (.Name x pos')) pos.line X.env=pure false:=by rfl) (hf:X.fn x=true\/X.env.scope.names.lookup x=some .local:=by walk_at "loc") :
  PS X (.Assign [.Name x pos'] e pos) (A5 te (Tb i)):=by
 intro pins s Z H D I h;refine wpAny_Assign_Name (ci (he pins s Z H _ I h) λv s1 ⟨y,H1,I1,r1,q1⟩=>?_) hs;exact IV I1 hN hi hx r1 (λs2 I2=>⟨_,H1,I2,q1⟩) hf
def G8 (i j:Nat) (ta:TA):TS:=λD Z H=>ta Z H λvs H1=>∃v w,vs=[v,w]/\D.nx ((Z.set i (some v)).set j (some w)) H1
theorem Wi {px py pt:Pos} {kt k2 wa} (hc:X.calm=true) (hN:X.N.Nodup) (hi:X.N[i]? = some x) (hj:X.N[j]? = some y) (k_:i≠j)
  (hx:X.env.scope.names.lookup x=some .local) (hy:X.env.scope.names.lookup y=some .local) (ha:PA X [a,b] ta)
  (hw:swappedStores [.Tuple [.Name x px,.Name y py] kt pt] (.Tuple [a,b] k2 wa) X.env=pure (some [x,y]))
  (hs:swapsWithSole [.Tuple [.Name x px,.Name y py] kt pt] (.Tuple [a,b] k2 wa) pos.line X.env=pure false:=by rfl) :
  PS X (.Assign [.Tuple [.Name x px,.Name y py] kt pt] (.Tuple [a,b] k2 wa) pos) (G8 i j ta):=by
 intro pins s Z H D I h;rw[exec_Assign_arm];refine aA (EZ ?_);rw[hs];refine aA (aK ?_);rw[if_neg (by decide)];refine aA (Tuple_ (ci (ha _ pins s Z H _ I h) λus s1 ⟨vs,H1,I1,r1,q1⟩=>?_));obtain⟨v,w,e1,q1⟩:=q1;subst e1;obtain⟨u1,u2,rfl,rv,jl⟩:∃u1 u2,us=[u1,u2]/\RelV v u1/\RelV w u2:=by
  cases r1 with
  | cons p q =>
   cases q with
   | cons p' q' =>
    cases q';exact⟨_,_,rfl,p,p'⟩
 refine gB ?_ (by show 2<=sizeLine;decide);have I2:Inv X pins Z H1 { s1 with heap:=s1.heap.push { cls:=.type "tuple",data:=.seq [u1,u2].toArray } }:=I1.kept (t':=s1.toks) λb o e=>aP _ e;rw[hw];refine aA (aK ?_);show wpAny (model X.prog X.w) X.A (do rule "assign.swapped-stores";let items <-unpackItems (.ref s1.heap.objs.size) 2 none;assignInOrder [λv=>bindName X.env y v,λv=>bindName X.env x v] items.reverse;pure Flow.next) _ _ _;refine aA (RJ (aA (unpackItems_tuple (items:=#[u1,u2]) (I.ok.hd hc) (JA s1.heap _) λh' U_=>?_)));have I3:=I2.kept (h':=h') (t':=s1.toks) λb o e=>U_ b o (bO (aX e)) e;show wpAny _ _ (assignInOrder [λv=>bindName X.env y v,λv=>bindName X.env x v] [u2,u1] >>= λ_=>pure Flow.next) _ _ _;refine aA (uH (RD (IV I3 hN hj (.inl hy) jl (λs2 I4=>?_) (.inr hy))));refine uH (RD (IV I4 hN hi (.inl hx) rv (λs3 I5=>HB (aK ?_)) (.inr hx)));rw[List.set_comm _ _ (Ne.symm k_)] at I5;exact⟨_,H1,I5,q1⟩
end
section
def Xl (c:TT) (tb:TS):TS:=λD Z H=>∃W:Nat->St->Hp->Prop,(∃m,W m Z H)/\∀m Z H,W m Z H ->
 c Z H λb H1=>if b=true then ∃N:St->Hp->Prop,(∀Z' H',N Z' H'->∃m',m'<m/\W m' Z' H')/\tb { D with nx:=N,ct:=N,bk:=D.nx } Z H1 else D.nx Z H1
theorem Nf {c:Expr} (hp:PassesOwn (model X.prog X.w) X.A X.env X.xe) (hc:PT X c tc) (hb:fk X body tb):PS X (.While c body [] pos) (Xl tc tb):=by
 intro pins s Z H D I h;obtain⟨W,⟨m0,w0⟩,turn⟩:=h;refine wpAny_While (codeAny_whileLoop (λn s'=>∃Z' H',Inv X pins Z' H' s'/\W n Z' H') ?_ m0 ⟨Z,H,I,w0⟩);rintro n s1 ⟨Z1,H1,I1,w1⟩;refine lJ hp (ci (hc pins s1 Z1 H1 _ I1 (turn n Z1 H1 w1)) λb s2 ⟨H2,I2,q2⟩=>?_);cases b with
 | true =>
  obtain⟨N,hN,q2⟩:=q2;rw[if_pos rfl];refine lJ hp (ci (hb pins s2 Z1 H2 _ I2 q2) λf s3 q3=>?_);cases f with
  | next =>
   obtain⟨Z3,H3,I3,n3⟩:=q3;obtain⟨m',hm,w3⟩:=hN Z3 H3 n3;exact⟨m',hm,Z3,H3,I3,w3⟩
  | cont =>
   obtain⟨Z3,H3,I3,n3⟩:=q3;obtain⟨m',hm,w3⟩:=hN Z3 H3 n3;exact⟨m',hm,Z3,H3,I3,w3⟩
  | brk=>exact q3
  | ret v=>exact q3
 | false =>
  rw[if_neg cM];exact sO ⟨Z1,H2,I2,q2⟩
end
structure It where
 go:Nat->Hp->Prop
 yld:Nat->Hp->V->Hp->Prop
 stop:Nat->Hp->Prop
def IZ (X:Cx) (pins:List (Addr × Obj)) (H:Hp) (b:Addr):Prop :=
 H b=none/\b≠X.env.locals/\b ∉ X.fs/\(b∈X.ex\/X.s₀.heap.objs.size<=b)/\(∀x c,X.env.cells.lookup x=some c->c≠b)/\∀p∈X.pn++pins,p.1≠b
def Inv.fpOk {Z:St} {s:aG} {b:Addr} (I:Inv X pins Z H s) (hb:s.heap.objs.size<=b) (hn:H' b=none):IZ X pins H' b:=by
 refine⟨hn,kG (bQ I.lt hb),I.nofs hb,.inr (eJ I.sz hb),λx c e z=>?_,λp hp z=>?_⟩
 ·obtain⟨v,q⟩:=I.cell x c e;exact absurd (bQ q.lt (by rw[z];exact hb)) (gT _)
 ·exact absurd (bQ (aX (I.pin p hp).1) (by rw[z];exact hb)) (gT _)
structure o0 (P:bR) (w:cT) (K:aI) (tg:Expr) (J:It) (fp:List Addr) (it:Addr) (tn:Nat->Heap->Prop):Prop where
 mem:it∈fp
 obj:∀i h,tn i h->∀b∈fp,∃o,h.get? b=some o/\∀v,o.data≠.cell v
 keep:∀i h h',tn i h->(∀b∈fp,∀o,h.get? b=some o->h'.get? b=some o)->tn i h'
 item:∀(X:Cx),X.prog=P->X.w=w->X.K=K->X.calm=true->∀(i:Nat) (pins:List (Addr × Obj)) (s:aG) (σ:St) (H:Hp) (E:aB->aG->Prop),Inv X pins σ H s->(∀b∈fp,IZ X pins H b)->tn i s.heap->J.go i H ->
  wpAny (model P w) X.A (pyNext (.ref it)) (λr s1=>∃u,r=some u /\
   wpAny (model P w) X.A (letOwnedTupleGo tg (.ref it) u) (λ_ s2=>∃x H',Inv X pins σ H' s2/\RelV x u/\J.yld i H x H'/\tn (i+1) s2.heap/\∀b∈fp,H' b=none) E s1) E s
 done:∀(X:Cx),X.prog=P->X.w=w->X.K=K->X.calm=true->∀(i:Nat) (pins:List (Addr × Obj)) (s:aG) (σ:St) (H:Hp) (E:aB->aG->Prop),Inv X pins σ H s->(∀b∈fp,IZ X pins H b)->tn i s.heap->J.stop i H ->
  wpAny (model P w) X.A (pyNext (.ref it)) (λr s1=>r=none/\Inv X pins σ H s1) E s
 self:∀(A:cZ) (i:Nat) (s:aG) (Q:aB->aG->Prop) (E:aB->aG->Prop),tn i s.heap->Q (.ref it) s->wpAny (model P w) A (pyIter (.ref it)) Q E s
abbrev TI:=St->Hp->(It->Hp->Prop)->Prop
def Y8 (X:Cx) (pins:List (Addr × Obj)) (Z:St) (tg:Expr) (R:It->Hp->Prop) (zf:aB) (s2:aG):Prop :=
 ∃(it:Addr) (fp:List Addr) (tn:Nat->Heap->Prop) (J:It) (H':Hp),zf = .ref it/\Inv X pins Z H' s2/\o0 X.prog X.w X.K tg J fp it tn/\tn 0 s2.heap/\(∀b∈fp,IZ X pins H' b)/\R J H'
def PI (X:Cx) (tg iter:Expr) (wi:TI):Prop :=
 ∀(pins:List (Addr × Obj)) (s:aG) (Z:St) (H:Hp) (R:It->Hp->Prop),Inv X pins Z H s->wi Z H R ->
  wpAny (model X.prog X.w) X.A (eval iter X.env) (λv s1=>wpAny (model X.prog X.w) X.A (pyIter v) (Y8 X pins Z tg R) X.xe s1) X.xe s
def Le {s:aG} {n:String} (ho:s.heap.get? it=some o) (hc:o.cls = .type n) (hd:o.data = .fields vs)
  (hn:["enumerate","zip","dict_itemiterator","dict_reverseitemiterator","odict_iterator","itertools.zip_longest","itertools.pairwise"].contains n=false) (hQ:Q () s):wpAny M A (letOwnedTupleGo tg (.ref it) u) Q E s:=by
 unfold letOwnedTupleGo;cases tg <;> first
  | exact aK hQ
  | (cases u <;> first
    | exact aK hQ
    | (refine aA (wpAny_load ho ?_);rw[hc,hd];show wpAny M A (if (["enumerate","zip","dict_itemiterator","dict_reverseitemiterator","odict_iterator","itertools.zip_longest","itertools.pairwise"].contains n && vs[0]? == some (rawInt _))=true then _ else _) Q E s;rw[if_neg (by intro h;rw[hn,AL] at h;cases h)];exact aK hQ))
def xp (K:aI) (a:Addr):It :=
 ⟨λi H=>∃xs x,f8 K H a xs/\xs[i]? = some x,λi H x H'=>H'=H/\∀xs,f8 K H a xs->xs[i]? = some x,λi H=>∃xs,f8 K H a xs/\xs.length<=i⟩
def Y4 (K:aI) (a:Addr):It :=
 ⟨λi H=>∃xs x,di K H a xs/\xs[i]? = some x,λi H x H'=>H'=H/\∀xs,di K H a xs->xs[i]? = some x,λi H=>∃xs,di K H a xs/\xs.length<=i⟩
def xq (lo:Int) (n:Nat):It:=⟨λi _=>i<n,λi H x H'=>H'=H/\x = .int (lo+i),λi _=>n<=i⟩
def Jd {P:bR} {w:cT} {K:aI} {tg:Expr} (a it:Addr):o0 P w K tg (xp K a) [it] it (λi h=>h.IsListIter it a i) where
 mem:=by simp
 obj:=λi h st b hb=>by
  have e:b=it:=by simpa using hb
  subst e;obtain⟨o,e,c,d⟩:=st;exact⟨o,e,λv z=>by rw[d] at z;cases z⟩
 keep:=λi h h' st k=>st.at λo e=>k it (by simp) o e
 item:=by
  intro X hP hw hK hc i pins s Z H E I hf st hg;subst hP hw hK;obtain⟨xs,x,hq,hx⟩:=hg;obtain⟨its,rv,p,hz⟩:=I.list hq;obtain⟨u,hu,ru⟩:=rv.get hx;obtain⟨f0,f1,f2,f3,f4,f5⟩:=hf it (by simp);refine wpAny_pyNext_list_item st p.isList (x:=u) (by simpa using hu) λh' du sb=>?_;have I1:Inv X pins Z H { s with heap:=h' }:=I.turned (t':=s.toks) (λb o hb e=>(sb.2 b hb).trans e) f0 f1 f3 f4 f5;obtain⟨o,e,c,d⟩:=id du;exact⟨u,rfl,Le (s:={ s with heap:=h' }) e c d (by decide) ⟨x,H,I1,ru,⟨rfl,λys hy=>by rw[I.list_inj hy hq];exact hx⟩,du,λb hb=>(hf b hb).1⟩⟩
 done:=by
  intro X hP hw hK hc i pins s Z H E I hf st hg;subst hP hw hK;obtain⟨xs,hq,hx⟩:=hg;obtain⟨its,rv,p,hz⟩:=I.list hq;obtain⟨f0,f1,f2,f3,f4,f5⟩:=hf it (by simp);have hl:=rv.length;exact wpAny_pyNext_list_end (I.ok.hd hc) st p.isList (by simp;lia) λh' eb=>⟨rfl,I.turned (t':=s.toks) (λb o hb e=>eb b o hb e) f0 f1 f3 f4 f5⟩
 self:=λ_ _ _ _ _ st h=>wpAny_pyIter_listiter st h
def Ec {P:bR} {w:cT} {K:aI} {tg:Expr} (a it:Addr):o0 P w K tg (Y4 K a) [it] it (λi h=>h.IsTupleIter it a i) where
 mem:=by simp
 obj:=λi h st b hb=>by
  have e:b=it:=by simpa using hb
  subst e;obtain⟨o,e,c,d⟩:=st;exact⟨o,e,λv z=>by rw[d] at z;cases z⟩
 keep:=λi h h' st k=>st.at λo e=>k it (by simp) o e
 item:=by
  intro X hP hw hK hc i pins s Z H E I hf st hg;subst hP hw hK;obtain⟨xs,x,hq,hx⟩:=hg;obtain⟨its,rv,p,hz⟩:=I.tuple hq;obtain⟨u,hu,ru⟩:=rv.get hx;obtain⟨f0,f1,f2,f3,f4,f5⟩:=hf it (by simp);refine wpAny_pyNext_tuple_item st (show s.heap.IsTuple a its.toArray from p) (x:=u) (by simpa using hu) λh' du sb=>?_;have I1:Inv X pins Z H { s with heap:=h' }:=I.turned (t':=s.toks) (λb o hb e=>(sb.2 b hb).trans e) f0 f1 f3 f4 f5;obtain⟨o,e,c,d⟩:=id du;exact⟨u,rfl,Le (s:={ s with heap:=h' }) e c d (by decide) ⟨x,H,I1,ru,⟨rfl,λys hy=>by rw[I.tuple_inj hy hq];exact hx⟩,du,λb hb=>(hf b hb).1⟩⟩
 done:=by
  intro X hP hw hK hc i pins s Z H E I hf st hg;subst hP hw hK;obtain⟨xs,hq,hx⟩:=hg;obtain⟨its,rv,p,hz⟩:=I.tuple hq;obtain⟨f0,f1,f2,f3,f4,f5⟩:=hf it (by simp);have hl:=rv.length;exact wpAny_pyNext_tuple_end (I.ok.hd hc) st (show s.heap.IsTuple a its.toArray from p) (by simp;lia) λh' eb=>⟨rfl,I.turned (t':=s.toks) (λb o hb e=>eb b o hb e) f0 f1 f3 f4 f5⟩
 self:=λ_ _ _ _ _ st h=>wpAny_pyIter_tupleiter st h
def Eb {P:bR} {w:cT} {K:aI} {tg:Expr} (it:Addr) (lo:Int) (n:Nat):o0 P w K tg (xq lo n) [it] it (λi h=>IsRangeIter h it (lo+(i:Nat)*1) ((n:Int)-(i:Nat)) 1) where
 mem:=by simp
 obj:=λi h st b hb=>by
  have e:b=it:=by simpa using hb
  subst e;exact⟨_,st,λv z=>by
   have z':Data.fields _=Data.cell v:=z;cases z'⟩
 keep:=λi h h' st k=>k it (by simp) _ st
 item:=by
  intro X hP hw hK hc i pins s Z H E I hf st hg;subst hP hw hK;obtain⟨f0,f1,f2,f3,f4,f5⟩:=hf it (by simp);have W:=Walks.range (prog:=X.prog) (w:=X.w) (I.ok.hd hc) it lo 1 n;refine W.item i s _ _ hg st λv h' tk hv du kk=>?_;obtain⟨t,rfl⟩:=hv;have I1:Inv X pins Z H { s with heap:=h',toks:=tk }:=I.turned (λb o hb e=>kk b o (by simpa using hb) e) f0 f1 f3 f4 f5;refine⟨_,rfl,Le (s:={ s with heap:=h',toks:=tk }) (n:="range_iterator") du rfl rfl (by decide) ⟨.int (lo+i),H,I1,⟨t,?_⟩,⟨rfl,rfl⟩,du,λb hb=>(hf b hb).1⟩⟩;rw[Int.mul_one]
 done:=by
  intro X hP hw hK hc i pins s Z H E I hf st hg;subst hP hw hK;obtain⟨f0,f1,f2,f3,f4,f5⟩:=hf it (by simp);exact wpAny_pyNext_range_end (I.ok.hd hc) st (by have:n<=i:=hg;lia) λh' eb=>⟨rfl,I.turned (t':=s.toks) (λb o hb e=>eb b o hb e) f0 f1 f3 f4 f5⟩
 self:=λ_ _ _ _ _ st h=>wpAny_pyIter_rangeiter st h
section
variable {X:Cx} {tg:Expr}
def Yt (K:aI) (tl:TE):TI:=λZ H R=>tl Z H λx H1=>∃a,x = .ref a/\(∃xs,f8 K H1 a xs)/\R (xp K a) H1
def D6 (K:aI) (tl:TE):TI:=λZ H R=>tl Z H λx H1=>∃a,x = .ref a/\(∃xs,di K H1 a xs)/\R (Y4 K a) H1
theorem Rm (hl:PE X l tl):PI X tg l (Yt X.K tl):=by
 intro pins s Z H R I h;refine ci (hl pins s Z H _ I h) λv s1 ⟨x,H1,I1,r1,q1⟩=>?_;obtain⟨a,e,⟨xs,hq⟩,q⟩:=q1;subst e;cases r1;obtain⟨its,rv,p,hz⟩:=I1.list hq;refine rD p.isList ?_;refine⟨s1.heap.objs.size,[s1.heap.objs.size],_,_,H1,rfl,I1.kept (t':=s1.toks) λb o e=>aP _ e,Jd a _,⟨_,cL _ rfl,rfl,rfl⟩,λb hb=>?_,q⟩;have e:b=s1.heap.objs.size:=by simpa using hb
 subst e;exact I1.fpOk (bK _) (I1.hok.fresh (bK _))
theorem Wg (hl:PE X l tl):PI X tg l (D6 X.K tl):=by
 intro pins s Z H R I h;refine ci (hl pins s Z H _ I h) λv s1 ⟨x,H1,I1,r1,q1⟩=>?_;obtain⟨a,e,⟨xs,hq⟩,q⟩:=q1;subst e;cases r1;obtain⟨its,rv,p,hz⟩:=I1.tuple hq;refine GF (show s1.heap.IsTuple a its.toArray from p) ?_;refine⟨s1.heap.objs.size,[s1.heap.objs.size],_,_,H1,rfl,I1.kept (t':=s1.toks) λb o e=>aP _ e,Ec a _,⟨_,cL _ rfl,rfl,rfl⟩,λb hb=>?_,q⟩;have e:b=s1.heap.objs.size:=by simpa using hb
 subst e;exact I1.fpOk (bK _) (I1.hok.fresh (bK _))
theorem Av {Z:St} {s:aG} {lo hi:Int} (I:Inv X pins Z H s) (h1:-(2 ^ 62)<=lo) (h2:lo<2 ^ 62) (h3:-(2 ^ 62)<=hi) (h4:hi<2 ^ 62)
  (q:R (xq lo (hi-lo).toNat) H):wpAny (model X.prog X.w) X.A (pyIter (.ref s.heap.objs.size)) (Y8 X pins Z tg R) E { s with heap:=s.heap.push { cls:=.type "range",data:=.fields #[.int lo t,.int hi u,.int 1 v] },toks:=tk }:=by
 refine wpAny_pyIter_range (IsRange.new ..) (small_one h1 h2 h3 h4) ?_;have I1:Inv X pins Z H { s with heap:=s.heap.push { cls:=.type "range",data:=.fields #[.int lo t,.int hi u,.int 1 v] },toks:=tk }:=I.kept λb o e=>aP _ e;refine⟨(s.heap.push { cls:=.type "range",data:=.fields #[.int lo t,.int hi u,.int 1 v] }).objs.size,[(s.heap.push { cls:=.type "range",data:=.fields #[.int lo t,.int hi u,.int 1 v] }).objs.size],_,_,H,rfl,
  I1.kept (t':=tk) λb o e=>aP _ e,Eb _ lo (hi-lo).toNat,?_,λb hb=>?_,q⟩
 ·have e1:lo+((0:Nat):Int)*1=lo:=by simp
  have e2:(((hi-lo).toNat:Nat):Int)-((0:Nat):Int)=Builtin.Range.rangeSize lo hi 1:=by rw[rangeSize_one];split <;> lia
  show IsRangeIter _ _ (lo+((0:Nat):Int)*1) ((((hi-lo).toNat:Nat):Int)-((0:Nat):Int)) 1;rw[e1,e2];exact cL _ rfl
 ·have e:b=(s.heap.push { cls:=.type "range",data:=.fields #[.int lo t,.int hi u,.int 1 v] }).objs.size:=by simpa using hb
  subst e;exact I1.fpOk (bK _) (I1.hok.fresh (bK _))
def Yu (ta:TA):TI:=λZ H R=>ta Z H λvs H1=>∃j:Int,vs=[.int j]/\-(2 ^ 62)<=j/\j<2 ^ 62/\R (xq 0 j.toNat) H1
def Yv (ta:TA):TI:=λZ H R=>ta Z H λvs H1=>∃i j:Int,vs=[.int i,.int j]/\(-(2 ^ 62)<=i/\i<2 ^ 62/\-(2 ^ 62)<=j/\j<2 ^ 62)/\R (xq i (j-i).toNat) H1
theorem Ij (hg:Gl X "range") (hm:X.mg "range" = none) (ha:PA X [a] ta) (hs:starEach [a] X.env=[(false,eval a X.env)]:=by rfl):PI X tg (.Call (.Name "range" p) [a] [] pos) (Yu ta):=by
 intro pins s Z H R I h;refine Call_ (pY I hg hm boot_range (eP (ci (ha pos pins s Z H _ I h) λus s1 ⟨vs,H1,I1,r1,q1⟩=>?_) hs rfl));obtain⟨j,e,q1,q2,q⟩:=q1;subst e;cases r1 with
 | cons r rr =>
  cases rr;obtain⟨t,rfl⟩:=r;exact call_range_1 (Av I1 (by lia) (by lia) q1 q2 (by simpa using q))
theorem Ik {a b:Expr} {ta:TA} {p pos:Pos} (hg:Gl X "range") (hm:X.mg "range" = none) (ha:PA X [a,b] ta) (hs:starEach [a,b] X.env=[(false,eval a X.env),(false,eval b X.env)]:=by rfl) (oi:starEach [b] X.env=[(false,eval b X.env)]:=by rfl) :
  PI X tg (.Call (.Name "range" p) [a,b] [] pos) (Yv ta):=by
 intro pins s Z H R I h;refine Call_ (pY I hg hm boot_range (eP (ci (ha pos pins s Z H _ I h) λus s1 ⟨vs,H1,I1,r1,q1⟩=>?_) (by rw[hs,oi]) (by rw[oi];rfl)));obtain⟨i,j,e,⟨q1,q2,q3,q4⟩,q⟩:=q1;subst e;cases r1 with
 | cons r rr =>
  cases rr with
  | cons r' rr =>
   cases rr;obtain⟨t,rfl⟩:=r;obtain⟨t',rfl⟩:=r';exact call_range_2 (Av I1 q1 q2 q3 q4 q)
def G3 (wi:TI) (g:TG) (tb:TS):TS:=λD Z H=>wi Z H λJ H1=>∃W:Nat->Nat->St->Hp->Prop,(∃m,W 0 m Z H1)/\∀i m Z H,W i m Z H ->
 (J.stop i H/\D.nx Z H)\/(J.go i H/\∃N:St->Hp->Prop,(∀Z' H',N Z' H'->∃m',m'<m/\W (i+1) m' Z' H')/\∀x H',J.yld i H x H'->g x Z H' λZ2 H2=>tb { D with nx:=N,ct:=N,bk:=D.nx } Z2 H2)
def WW (fp:List Addr) (h:Heap):List (Addr × Obj):=fp.filterMap λb=>(h.get? b).map λo=>(b,o)
theorem rW (hb:b∈fp) (e:h.get? b=some o):(b,o)∈WW fp h:=pV.mpr ⟨b,hb,by rw[e];rfl⟩
theorem Ia (hp:p∈WW fp h):p.1∈fp/\h.get? p.1=some p.2:=by
 obtain⟨b,hb,e⟩:=pV.mp hp;cases q:h.get? b with
 | none=>rw[q] at e;cases e
 | some o =>
  rw[q] at e;have e':(b,o)=p:=dO e;subst e';exact⟨hb,q⟩
theorem Inv.pinned {Z:St} {s:aG} (I:Inv X pins Z H s) (hf:∀b∈fp,IZ X pins H b) (ho:∀b∈fp,∃o,s.heap.get? b=some o/\∀v,o.data≠.cell v):Inv X (pins++WW fp s.heap) Z H s :=
 I.pins_of λp hp=>(cC.mp hp).elim (λz=>I.pin p (bG _ z)) λz=>by
  obtain⟨hb,e⟩:=Ia z;obtain⟨f0,f1,f2,_⟩:=hf p.1 hb;obtain⟨o,e',d⟩:=ho p.1 hb;rw[e] at e';cases e';exact⟨e,f0,f1,f2,d⟩
theorem Inv.unpinned {Z:St} {s:aG} (I:Inv X (pins++pl) Z H s):Inv X pins Z H s:=I.pins_of λp hp=>I.pin p (bG _ (dL _ hp))
theorem Nc (hp:PassesOwn (model X.prog X.w) X.A X.env X.xe) (hc:X.calm=true) (hi:PI X tg iter wi) (hg:PG X tg g) (hb:fk X body tb)
  (hs:∀x,foldedSetIterable iter X.env x=pure x:=by intro _;rfl):PS X (.For tg iter body [] pos) (G3 wi g tb):=by
 intro pins s Z H D I h;refine wpAny_For (ci (hi pins s Z H _ I h) λv s1 h1=>ci h1 λzf s2 h2=>?_) hs;obtain⟨it,fp,tn,J,H2,e,I2,T,wd,f2,W,⟨m0,w0⟩,turn⟩:=h2;subst e;have we:∀{H':Hp},(∀b∈fp,H' b=none)->∀b∈fp,IZ X pins H' b:=λhn b hb=>⟨hn b hb,(f2 b hb).2⟩;refine codeAny_forLoop_any (λn s'=>∃i Z' H',Inv X pins Z' H' s'/\tn i s'.heap/\(∀b∈fp,H' b=none)/\W i n Z' H') ?_ m0 ⟨0,Z,H2,I2,wd,λb hb=>(f2 b hb).1,w0⟩;rintro n s3 ⟨i,Z3,H3,I3,st3,fr3,w3⟩;rcases turn i n Z3 H3 w3 with ⟨stop,qn⟩ | ⟨go,N,hN,step⟩
 ·refine lJ hp (ci (T.done X rfl rfl rfl hc i pins s3 Z3 H3 X.xe I3 (we fr3) st3 stop) λr s4 ⟨hr,I4⟩=>?_);subst hr;exact sO ⟨Z3,H3,I4,qn⟩
 ·refine lJ hp (ci (T.item X rfl rfl rfl hc i pins s3 Z3 H3 X.xe I3 (we fr3) st3 go) λr s4 ⟨u,hr,h4⟩=>?_);subst hr;refine lJ hp (ci h4 λ_ s5 ⟨x,H5,I5,r5,y5,tu,Q3⟩=>?_);have Pi:=I5.pinned (we Q3) (T.obj _ _ tu);refine lJ hp (ci (hg _ s5 Z3 H5 x u _ Pi r5 (step x H5 y5)) λ_ s6 ⟨Z6,H6,I6,q6⟩=>?_);refine lJ hp (ci (hb _ s6 Z6 H6 _ I6 q6) λf s7 q7=>?_);have again:∀{Z7:St} {H7:Hp},Inv X (pins++WW fp s5.heap) Z7 H7 s7->N Z7 H7->∃m,m<n/\∃i Z' H',Inv X pins Z' H' s7/\tn i s7.heap/\(∀b∈fp,H' b=none)/\W i m Z' H':=λ{Z7 H7} I7 n7=>by
   obtain⟨m',hm,w7⟩:=hN Z7 H7 n7;refine⟨m',hm,i+1,Z7,H7,I7.unpinned,T.keep _ _ _ tu λb hb o e=>(I7.pin (b,o) (bG _ (bG _ (rW hb e)))).1,λb hb=>?_,w7⟩;obtain⟨o,e,d⟩:=T.obj _ _ tu b hb;exact (I7.pin (b,o) (bG _ (bG _ (rW hb e)))).2.1
  cases f with
  | next=>obtain⟨Z7,H7,I7,n7⟩:=q7;exact again I7 n7
  | cont=>obtain⟨Z7,H7,I7,n7⟩:=q7;exact again I7 n7
  | brk=>obtain⟨Z7,H7,I7,q7⟩:=q7;exact⟨Z7,H7,I7.unpinned,q7⟩
  | ret v=>obtain⟨x7,Z7,H7,I7,r7,q7⟩:=q7;exact⟨x7,Z7,H7,I7.unpinned,r7,q7⟩
end
def YS {K:aI} {a:Addr} {xs:List V} {g:TG} {tb:TS} {D:oq} {Z:St} {H:Hp} (Pv:Nat->St->Hp->Prop) (h0:Pv 0 Z H) (hl:∀i Z H,i<=xs.length->Pv i Z H->f8 K H a xs)
  (hs:∀i x Z H,xs[i]? = some x->Pv i Z H->g x Z H λZ2 H2=>tb { D with nx:=Pv (i+1),ct:=Pv (i+1),bk:=D.nx } Z2 H2) (hd:∀Z H,Pv xs.length Z H->D.nx Z H) :
  ∃W:Nat->Nat->St->Hp->Prop,(∃m,W 0 m Z H)/\∀i m Z H,W i m Z H ->
   ((xp K a).stop i H/\D.nx Z H)\/((xp K a).go i H/\∃N:St->Hp->Prop,(∀Z' H',N Z' H'->∃m',m'<m/\W (i+1) m' Z' H')/\∀x H',(xp K a).yld i H x H'->g x Z H' λZ2 H2=>tb { D with nx:=N,ct:=N,bk:=D.nx } Z2 H2):=by
 refine⟨λi m Z H=>m=xs.length-i/\i<=xs.length/\Pv i Z H,⟨xs.length,by simp,eV _,h0⟩,?_⟩;rintro i m Z H ⟨rfl,hi,p⟩;have q:=hl i Z H hi p;by_cases c9:i<xs.length
 ·refine .inr ⟨⟨xs,xs[i],q,by simp[c9]⟩,Pv (i+1),λZ' H' p'=>⟨xs.length-(i+1),by lia,rfl,c9,p'⟩,λx H' y=>?_⟩;obtain⟨e,y⟩:=y;subst e;exact hs i x Z _ (y xs q) p
 ·have e:i=xs.length:=by lia
  subst e;exact .inl ⟨⟨xs,q,bK _⟩,hd Z H p⟩
abbrev R2:=V->V->Hp->VK->Prop
def jv (X:Cx) (f:aB->aB->Sem aB) (r:R2):Prop :=
 ∀(pins:List (Addr × Obj)) (s:aG) (Z:St) (H:Hp) (x y:V) (v u:aB) (Q:VK),Inv X pins Z H s->RelV x v->RelV y u->r x y H Q ->
  wpAny (model X.prog X.w) X.A (f v u) (EP X pins Z Q) X.xe s
def E_ (X:Cx) (f:aB->Sem aB) (r:V->Hp->VK->Prop):Prop :=
 ∀(pins:List (Addr × Obj)) (s:aG) (Z:St) (H:Hp) (x:V) (v:aB) (Q:VK),Inv X pins Z H s->RelV x v->r x H Q ->
  wpAny (model X.prog X.w) X.A (f v) (EP X pins Z Q) X.xe s
def AM (X:Cx) (f:aB) (r:List V->Hp->VK->Prop):Prop :=
 ∀(pins:List (Addr × Obj)) (s:aG) (Z:St) (H:Hp) (xs:List V) (us:List aB) (Q:VK),Inv X pins Z H s->am xs us->r xs H Q ->
  wpAny (model X.prog X.w) X.A (call f us) (EP X pins Z Q) X.xe s
def z9 (r:R2) (ta tb:TE):TE:=λZ H Q=>ta Z H λx H1=>tb Z H1 λy H2=>r x y H2 Q
def tUn (r:V->Hp->VK->Prop) (ta:TE):TE:=λZ H Q=>ta Z H λx H1=>r x H1 Q
def rI (C:Int->Int->Prop) (g:Int->Int->V):R2:=λx y H Q=>∃i j,x = .int i/\y = .int j/\C i j/\Q (g i j) H
def zz (g:Int->Int->V):R2:=λx y H Q=>∃i j,x = .int i/\y = .int j/\Q (g i j) H
def rU (g:Int->V):V->Hp->VK->Prop:=λx H Q=>∃i,x = .int i/\Q (g i) H
section
variable {X:Cx} {a b c:Expr} {ta tb tc:TE}
theorem Ud (ha:PE X a ta) (hb:PE X b tb) {pins:List (Addr × Obj)} {s:aG} {Z:St} {H:Hp} {R:V->V->Hp->Prop} (I:Inv X pins Z H s)
  (h:ta Z H λx H1=>tb Z H1 λy H2=>R x y H2) {Q:aB->aG->Prop} {f:aB->aB->Sem aB}
  (hf:∀v u s2 x y H2,Inv X pins Z H2 s2->RelV x v->RelV y u->R x y H2->wpAny (model X.prog X.w) X.A (f v u) Q X.xe s2) :
  wpAny (model X.prog X.w) X.A (eval a X.env) (λv s₁=>wpAny (model X.prog X.w) X.A (eval b X.env) (λu s₂=>wpAny (model X.prog X.w) X.A (f v u) Q X.xe s₂) X.xe s₁) X.xe s:=by
 refine ci (ha pins s Z H _ I h) λv s1 ⟨x,H1,I1,r1,q1⟩=>?_;refine ci (hb pins s1 Z H1 _ I1 q1) λu s2 ⟨y,H2,I2,r2,q2⟩=>?_;exact hf v u s2 x y H2 I2 r1 r2 q2
theorem Zi (ho:jv X (binaryOp op) r) (ha:PE X a ta) (hb:PE X b tb):PE X (.BinOp a op b pos) (z9 r ta tb):=by
 intro pins s Z H Q I h;exact wpAny_BinOp (Ud ha hb I h λv u s2 x y H2 I2 rx ry q=>ho pins s2 Z H2 x y v u Q I2 rx ry q)
theorem Zj (ho:E_ X (unaryOp op) r) (ha:PE X a ta):PE X (.UnaryOp op a pos) (tUn r ta):=by
 intro pins s Z H Q I h;exact UnaryOp_ (ci (ha pins s Z H _ I h) λv s1 ⟨x,H1,I1,r1,q1⟩=>ho pins s1 Z H1 x v Q I1 r1 q1)
theorem xc {f:aB->aB->Sem aB} {C:Int->Int->Prop} {g:Int->Int->Int}
  (rule:∀(i j:Int) (t u:Tok) (s:aG) (Q:aB->aG->Prop) (E:aB->aG->Prop),C i j->Q (.int (g i j) s.toks) { s with toks:=s.toks+1 }->wpAny (model X.prog X.w) X.A (f (.int i t) (.int j u)) Q E s) :
  jv X f (rI C λi j=>.int (g i j)):=by
 intro pins s Z H x y v u Q I rx ry h;obtain⟨i,j,rfl,rfl,hc,q⟩:=h;obtain⟨t,rfl⟩:=rx;obtain⟨t',rfl⟩:=ry;exact rule i j t t' s _ _ hc ⟨.int (g i j),H,I.tok _,⟨_,rfl⟩,q⟩
theorem Vu {f:aB->aB->Sem aB} {g:Int->Int->Bool}
  (rule:∀(i j:Int) (t u:Tok) (s:aG) (Q:aB->aG->Prop) (E:aB->aG->Prop),Q (.bool (g i j)) s->wpAny (model X.prog X.w) X.A (f (.int i t) (.int j u)) Q E s) :
  jv X f (zz λi j=>.bl (g i j)):=by
 intro pins s Z H x y v u Q I rx ry h;obtain⟨i,j,rfl,rfl,q⟩:=h;obtain⟨t,rfl⟩:=rx;obtain⟨t',rfl⟩:=ry;exact rule i j t t' s _ _ ⟨.bl (g i j),H,I,rfl,q⟩
theorem unI {f:aB->Sem aB} {g:Int->Int}
  (rule:∀(i:Int) (t:Tok) (s:aG) (Q:aB->aG->Prop) (E:aB->aG->Prop),Q (.int (g i) s.toks) { s with toks:=s.toks+1 }->wpAny (model X.prog X.w) X.A (f (.int i t)) Q E s) :
  E_ X f (rU λi=>.int (g i)):=by
 intro pins s Z H x v Q I rx h;obtain⟨i,rfl,q⟩:=h;obtain⟨t,rfl⟩:=rx;exact rule i t s _ _ ⟨.int (g i),H,I.tok _,⟨_,rfl⟩,q⟩
theorem Xr:E_ X (unaryOp .USub) (rU λi=>.int (-i)):=unI λ_ _ _ _ _ q=>neg_int q
end
def Zz:V->V->Bool
 | .non,.non=>true | .non,.int _=>true | .int _,.non=>true | .non,.bl _=>true | .bl _,.non=>true | .non,.str _=>true | .str _,.non=>true
 | .int _,.int _=>true | .bl _,.bl _=>true | .str _,.str _=>true | .byt _,.byt _=>true
 | .int _,.str _=>true | .str _,.int _=>true | .bl _,.str _=>true | .str _,.bl _=>true
 | _,_=>false
def rEq:R2:=λx y H Q=>Zz x y=true/\Q (.bl (decide (x=y))) H
def rNe:R2:=λx y H Q=>Zz x y=true/\Q (.bl (!decide (x=y))) H
def Ez:decide (V.int i=V.int j)=(i == j):=by
 rw[pL];simp
def Ko:decide (V.bl i=V.bl j)=(i == j):=by
 rw[pL];simp
def Fa:decide (V.str i=V.str j)=(i == j):=by
 rw[pL];simp
def Ey:decide (V.byt i=V.byt j)=(i.toList == j.toList):=by
 rw[pL];cases i;cases j;simp
section
variable {a b c:Expr}
theorem iC {Z:St} {s:aG} (I:Inv X pins Z H s) (q:Q (.bl k) H) (e:k=k'):EP X pins Z Q (.bool k') s:=by
 subst e;exact⟨.bl k,H,I,rfl,q⟩
theorem Tj:jv X (compareOp .Eq) rEq:=by
 intro pins s Z H x y v u Q I rx ry h;obtain⟨hs,q⟩:=h;cases x with
 | non =>
  cases rx;cases y with
  | non=>cases ry;exact PySem.EqNone.eq_none_none (iC I q (by simp))
  | bl j=>cases ry;exact PySem.EqNone.eq_none_bool (iC I q (by simp))
  | int j=>obtain⟨t',rfl⟩:=ry;exact PySem.EqNone.eq_none_int (iC I q (by simp))
  | str j=>obtain⟨t',rfl⟩:=ry;exact PySem.EqNone.eq_none_str (iC I q (by simp))
  | _=>exact absurd (show false=true from hs) cM
 | bl i =>
  cases rx;cases y with
  | non=>cases ry;exact PySem.EqNone.eq_bool_none (iC I q (by simp))
  | bl j=>cases ry;exact eq_bool (iC I q Ko)
  | str j=>obtain⟨t',rfl⟩:=ry;exact PySem.EqMixed.eq_bool_str (iC I q (by simp))
  | _=>exact absurd (show false=true from hs) cM
 | int i =>
  obtain⟨t,rfl⟩:=rx;cases y with
  | non=>cases ry;exact PySem.EqNone.eq_int_none (iC I q (by simp))
  | int j=>obtain⟨t',rfl⟩:=ry;exact eq_int (iC I q Ez)
  | str j=>obtain⟨t',rfl⟩:=ry;exact PySem.EqMixed.eq_int_str (iC I q (by simp))
  | _=>exact absurd (show false=true from hs) cM
 | str i =>
  obtain⟨t,rfl⟩:=rx;cases y with
  | non=>cases ry;exact PySem.EqNone.eq_str_none (iC I q (by simp))
  | bl j=>cases ry;exact PySem.EqMixed.eq_str_bool (iC I q (by simp))
  | int j=>obtain⟨t',rfl⟩:=ry;exact PySem.EqMixed.eq_str_int (iC I q (by simp))
  | str j=>obtain⟨t',rfl⟩:=ry;exact eq_str (iC I q Fa)
  | _=>exact absurd (show false=true from hs) cM
 | byt i =>
  obtain⟨t,rfl⟩:=rx;cases y with
  | byt j=>obtain⟨t',rfl⟩:=ry;exact PySem.W.eq_bytes (iC I q Ey)
  | _=>exact absurd (show false=true from hs) cM
 | _=>cases y <;> exact absurd (show false=true from hs) cM
theorem Tn:jv X (compareOp .NotEq) rNe:=by
 intro pins s Z H x y v u Q I rx ry h;obtain⟨hs,q⟩:=h;cases x with
 | non =>
  cases rx;cases y with
  | non=>cases ry;exact PySem.EqNone.ne_none_none (iC I q (by simp))
  | bl j=>cases ry;exact PySem.EqNone.ne_none_bool (iC I q (by simp))
  | int j=>obtain⟨t',rfl⟩:=ry;exact PySem.EqNone.ne_none_int (iC I q (by simp))
  | str j=>obtain⟨t',rfl⟩:=ry;exact PySem.EqNone.ne_none_str (iC I q (by simp))
  | _=>exact absurd (show false=true from hs) cM
 | bl i =>
  cases rx;cases y with
  | non=>cases ry;exact PySem.EqNone.ne_bool_none (iC I q (by simp))
  | bl j=>cases ry;exact ne_bool (iC I q (congrArg not Ko))
  | str j=>obtain⟨t',rfl⟩:=ry;exact PySem.EqMixed.ne_bool_str (iC I q (by simp))
  | _=>exact absurd (show false=true from hs) cM
 | int i =>
  obtain⟨t,rfl⟩:=rx;cases y with
  | non=>cases ry;exact PySem.EqNone.ne_int_none (iC I q (by simp))
  | int j=>obtain⟨t',rfl⟩:=ry;exact ne_int (iC I q (congrArg not Ez))
  | str j=>obtain⟨t',rfl⟩:=ry;exact PySem.EqMixed.ne_int_str (iC I q (by simp))
  | _=>exact absurd (show false=true from hs) cM
 | str i =>
  obtain⟨t,rfl⟩:=rx;cases y with
  | non=>cases ry;exact PySem.EqNone.ne_str_none (iC I q (by simp))
  | bl j=>cases ry;exact PySem.EqMixed.ne_str_bool (iC I q (by simp))
  | int j=>obtain⟨t',rfl⟩:=ry;exact PySem.EqMixed.ne_str_int (iC I q (by simp))
  | str j=>obtain⟨t',rfl⟩:=ry;exact ne_str (iC I q (congrArg not Fa))
  | _=>exact absurd (show false=true from hs) cM
 | byt i =>
  obtain⟨t,rfl⟩:=rx;cases y with
  | byt j=>obtain⟨t',rfl⟩:=ry;exact PySem.W.ne_bytes (iC I q (congrArg not Ey))
  | _=>exact absurd (show false=true from hs) cM
 | _=>cases y <;> exact absurd (show false=true from hs) cM
theorem Tm:jv X (compareOp .Lt) (zz λi j=>.bl (decide (i<j))):=Vu λ_ _ _ _ _ _ _ q=>lt_int q
theorem Tl:jv X (compareOp .LtE) (zz λi j=>.bl (decide (i<=j))):=Vu λ_ _ _ _ _ _ _ q=>le_int q
theorem Tk:jv X (compareOp .Gt) (zz λi j=>.bl (decide (j<i))):=Vu λ_ _ _ _ _ _ _ q=>gt_int q
theorem Vw:jv X (compareOp .Is) (λx y H Q=>y = .non/\Q (.bl (decide (x = .non))) H):=by
 intro pins s Z H x y v u Q I rx ry h;obtain⟨rfl,q⟩:=h;cases ry;refine is_none_gen (iC I q ?_);cases x <;> first
  | (cases rx;rfl)
  | (obtain⟨t,rfl⟩:=rx;rfl)
theorem Rh:jv X (compareOp .IsNot) (λx y H Q=>y = .non/\Q (.bl (!decide (x = .non))) H):=by
 intro pins s Z H x y v u Q I rx ry h;obtain⟨rfl,q⟩:=h;cases ry;refine isnot_none_gen (iC I q ?_);cases x <;> first
  | (cases rx;rfl)
  | (obtain⟨t,rfl⟩:=rx;rfl)
theorem Mk (b:Expr) (h:op≠.In:=by decide) (h2:op≠.NotIn:=by decide):behindInMarks op b=false:=by
 have e1:(op == CmpOp.In)=false:=by cases op <;> first | rfl | exact absurd rfl h
 have e2:(op == CmpOp.NotIn)=false:=by cases op <;> first | rfl | exact absurd rfl h2
 cases b <;> simp[behindInMarks,e1,e2]
theorem Rj (ho:jv X (compareOp op) r) (ha:PE X a ta) (hb:PE X b tb) (hm:behindInMarks op b=false):PE X (.Compare a [op] [b] pos) (z9 r ta tb):=by
 intro pins s Z H Q I h;exact wpAny_Compare1 (Ud ha hb I h λv u s2 x y H2 I2 rx ry q=>ho pins s2 Z H2 x y v u Q I2 rx ry q) hm
def B6 (t:TE):TT:=λZ H Q=>t Z H λx H'=>∃k,x = .bl k/\Q k H'
theorem Rt (ho:jv X (compareOp op) r) (ha:PE X a ta) (hb:PE X b tb) (hm:behindInMarks op b=false):PT X (.Compare a [op] [b] pos) (B6 (z9 r ta tb)):=by
 intro pins s Z H Q I h;refine wpAny_isTrue_Compare1 (ci (ha pins s Z H _ I h) λv s1 ⟨x,H1,I1,r1,q1⟩=>ci (hb pins s1 Z H1 _ I1 q1) λu s2 ⟨y,H2,I2,r2,q2⟩ =>
  ci (ho pins s2 Z H2 x y v u _ I2 r1 r2 q2) λc s3 ⟨z,H3,I3,r3,k,e,q3⟩=>?_) hm
 subst e;cases r3;exact nM ⟨H3,I3,q3⟩
theorem Cm:(sizeLine:Nat)<2 ^ 63:=by rw[fQ];decide
theorem vals1 (r:am [x] us):∃u,us=[u]/\RelV x u:=by
 cases r with
 | cons r1 r2=>cases r2;exact⟨_,rfl,r1⟩
theorem vals2 (r:am [x,y] us):∃u w',us=[u,w']/\RelV x u/\RelV y w':=by
 cases r with
 | cons r1 r2 =>
  cases r2 with
  | cons r3 r4=>cases r4;exact⟨_,_,rfl,r1,r3⟩
theorem Ju:AM X (.builtin "abs") (λxs H Q=>∃i,xs=[.int i]/\Q (.int (if i<0 then -i else i)) H):=by
 intro pins s Z H xs us Q I r h;obtain⟨i,rfl,q⟩:=h;obtain⟨u,rfl,t,rfl⟩:=vals1 r;exact call_abs_int λu tk=>⟨.int (if i<0 then -i else i),H,I.tok _,⟨_,rfl⟩,q⟩
theorem Gr (hc:X.calm=true):AM X (.builtin "min") (λxs H Q=>∃i j,xs=[.int i,.int j]/\Q (.int (if j<i then j else i)) H):=by
 intro pins s Z H xs us Q I r h;obtain⟨i,j,rfl,q⟩:=h;obtain⟨u,w',rfl,⟨t,rfl⟩,⟨t',rfl⟩⟩:=vals2 r;refine min_two_ints (I.ok.hd hc) λh' tk k=>⟨_,H,I.kept k,?_,q⟩;by_cases hj:j<i
 ·rw[if_pos hj,if_pos hj];exact⟨_,rfl⟩
 ·rw[if_neg hj,if_neg hj];exact⟨_,rfl⟩
theorem TK:AM X (.type "int") (λxs H Q=>(∃i,xs=[.int i]/\Q (.int i) H)\/∃k,xs=[.bl k]/\Q (.int (if k then 1 else 0)) H):=by
 intro pins s Z H xs us Q I r h;rcases h with ⟨i,rfl,q⟩ | ⟨k,rfl,q⟩
 ·obtain⟨u,rfl,t,rfl⟩:=vals1 r;exact call_int_int ⟨.int i,H,I,⟨_,rfl⟩,q⟩
 ·obtain⟨u,rfl,r1⟩:=vals1 r;cases r1;exact call_int_bool ⟨.int (if k then 1 else 0),H,I.tok _,⟨_,rfl⟩,q⟩
end
structure u3 (h:Heap) (x dx C:Addr) (mA:Str->Option aB):Prop where
 obj:h.get? x=some (zG C dx)
 ns:h.Ns1 dx mA
 ne:dx≠x
def Hv {h:Heap} {dx:Addr} {mA:Str->Option aB} (n:h.Ns1 dx mA):∃od,h.get? dx=some od/\∀name,BA name od=some (mA name):=by
 obtain⟨o,es,ep,ho,hd,hk,_,hm⟩:=n;refine⟨o,ho,λname=>?_⟩;have e:=hm name;unfold nsFind findBy at e;rw[<-Array.find?_toList] at e;unfold BA;rw[hd];dsimp only;split
 ·rename_i y q;rw[q] at e;exact congrArg some e
 ·rename_i q;rw[q] at e;have a:es.toList.any (·.refKey)=false:=by
   rw[GN];intro y hy;obtain⟨z,t,S8⟩:=hk y (gD.mp hy);simp[DictEntry.refKey,S8]
  have a':¬es.toList.any (·.refKey)=true:=by rw[a];exact cM
  rw[if_neg a'];exact congrArg some e
def u3.look (I:u3 h x dx C mA):∃od,PySem.W.InstAt h x (zG C dx) C (some od)/\∀name,BA name od=some (mA name) :=
 let ⟨od,ho,hl⟩:=Hv I.ns
 ⟨od,⟨I.obj,rfl,rfl,ho⟩,hl⟩
theorem km.some_of (r:km (some v) o):∃u,o=some u/\RelV v u:=by
 cases o with
 | none=>exact (show False from r).elim
 | some u=>exact⟨u,rfl,r⟩
section
variable {fs fs':List (Str × V)}
theorem Qi (hok:fe P w H h) (e:H a=some (.ins C dx fs)):∃mA,u3 h a dx C mA/\(∀f,km (fs.lookup f) (mA f))/\PySem.Within mA (fs.map (·.1))/\fs.length<=1000/\H dx=some (.own a):=by
 obtain⟨d,z,ne,ob,mA,n,r,q⟩:=(show bi P w H h a (.ins C dx fs) from hok a _ e);exact⟨mA,⟨ob,n,ne⟩,r,q,z,d⟩
end
structure O7 (K:aI) (C:Addr):Prop where
 pg:JK K C Str.empty=true
 hd:PySem.W.hasDictIn K C=true
 po:PySem.W.plainOver K C=true
 sa:NR K (.ref C) "__setattr__" = some (some (.builtin "object.__setattr__"))
def O7.get {K:aI} {C:Addr} (c:O7 K C) (f:Str):JK K C f=true:=c.pg
section
variable {σ:St} {H:Hp} {s:aG} {c:aB}
inductive i_ (K:aI) (H:Hp):V->aB->Prop where
 | non:i_ K H .non (.type "NoneType")
 | bl (x:Bool):i_ K H (.bl x) (.type "bool")
 | int (i:Int):i_ K H (.int i) (.type "int")
 | str (x:Str):i_ K H (.str x) (.type "str")
 | flt (x:UInt64):i_ K H (.flt x) (.type "float")
 | lst {a:Addr} {xs:List V} (e:H a=some (.lst xs)):i_ K H (.ref a) (.type "list")
 | frz {a:Addr} {o:Obj} {xs:List V} (e:H a=some (.frz o (.lst xs))):i_ K H (.ref a) (.type "list")
 | tup {a:Addr} {xs:List V} (e:H a=some (.tup xs)):i_ K H (.ref a) (.type "tuple")
 | dK {a:Addr} {kvs:List (f6 × V)} (e:H a=some (.dK kvs)):i_ K H (.ref a) (.type "dict")
 | dT {a:Addr} {kvs:List (List f6 × V)} (e:H a=some (.dT kvs)):i_ K H (.ref a) (.type "dict")
 | ins {a C dx:Addr} {fs:List (Str × V)} (e:H a=some (.ins C dx fs)) (cl:O7 K C) (ha:NR K (.ref C) "__class__" = some (some (.builtin "object.__class__")))
   (hn:PySem.W.specialIn K (.builtin "object.__class__") "__get__" = some (some (.builtin "getset_descriptor.__get__"))) (htk:PySem.W.takesIn K (.builtin "object.__class__")=some true)
   (hm:PySem.W.mroIn K C (.type "object")=some true):i_ K H (.ref a) (.ref C)
theorem Hk (I:Inv X pins σ H s) (rx:RelV x u) (ty:i_ X.K H x t) (e:kU X.K t c=some b) (h:∀tk,Q (.bool b) { s with toks:=tk }) :
  wpAny (model X.prog X.w) A (call (.builtin "isinstance") [u,c]) Q E s:=by
 cases ty with
 | non=>cases (show u=fF from rx);exact gJ PySem.W.kitx_none I.kIn pW e (λz=>nomatch z) h
 | bl y=>cases (show u=yI y from rx);exact gJ PySem.W.kitx_bool I.kIn pW e (λz=>nomatch z) h
 | int i=>obtain⟨t,q⟩:=(show ∃t,u=oJ i t from rx);cases q;exact gJ PySem.W.kitx_int I.kIn pW e (λz=>nomatch z) h
 | str y=>obtain⟨t,q⟩:=(show ∃t,u=JL y t from rx);cases q;exact gJ PySem.W.kitx_str I.kIn pW e (λz=>nomatch z) h
 | flt y=>obtain⟨t,q⟩:=(show ∃t,u=Value.float y t from rx);cases q;exact gJ PySem.W.kitx_float I.kIn pW e (λz=>nomatch z) h
 | @lst a xs ea =>
  cases (show u=fS a from rx);obtain⟨_,_,n,_,h1⟩:=(show bi X.prog X.w H s.heap a (.lst xs) from I.hok a _ ea);exact gJ vF I.kIn ⟨_,h1,rfl⟩ e (λz=>nomatch z) h
 | @frz a ob xs ea =>
  cases (show u=fS a from rx);obtain⟨_,_,_,n,_,h1⟩:=(show bi X.prog X.w H s.heap a (.frz ob (.lst xs)) from I.hok a _ ea);exact gJ vF I.kIn ⟨_,h1,rfl⟩ e (λz=>nomatch z) h
 | @tup a xs ea =>
  cases (show u=fS a from rx);obtain⟨_,_,_,p⟩:=(show bi X.prog X.w H s.heap a (.tup xs) from I.hok a _ ea);obtain⟨o,h1,h2,_⟩:=p;exact gJ PySem.W.kitx_tuple I.kIn ⟨o,h1,h2⟩ e (λz=>nomatch z) h
 | @dK a kvs ea =>
  cases (show u=fS a from rx);obtain⟨_,_,vs,_,p⟩:=(show bi X.prog X.w H s.heap a (.dK kvs) from I.hok a _ ea);obtain⟨o,es,ep,h1,h2,_⟩:=p;exact gJ GU I.kIn ⟨o,h1,h2.1⟩ e (λz=>nomatch z) h
 | @dT a kvs ea =>
  cases (show u=fS a from rx);obtain⟨_,_,xs,_,o,es,ep,h1,h2,_⟩:=(show bi X.prog X.w H s.heap a (.dT kvs) from I.hok a _ ea);exact gJ GU I.kIn ⟨o,h1,h2.1⟩ e (λz=>nomatch z) h
 | @ins a C dx fs ea cl ha hn htk hm =>
  cases (show u=fS a from rx);obtain⟨mA,O,_⟩:=Qi I.hok ea;obtain⟨od,J,_⟩:=O.look;exact gJ (PySem.W.kitx_own (cl.get _) cl.hd ha hn htk hm) I.kIn J e (λz=>nomatch z) h
end
structure ce (k:Nat) (A:cZ):Prop where
 hd:A.handled=none
 dp:A.depth+3*k+5<recursionLimit
 un:A.units+16*k+200<cLine
def ce.mono (r:ce k A) (h:j<=k:=by decide):ce j A:=⟨r.hd,by have:=r.dp;lia,by have:=r.un;lia⟩
def ce.deeper (r:ce (k+1) A) (env:Env):ce k (A.deeper env) :=
 ⟨r.hd,by have:=r.dp;show A.depth+1+3*k+5<_;lia,by have:=r.un;show A.units+3+16*k+200<_;lia⟩
def ce.depth (r:ce k A):A.depth<recursionLimit:=by have:=r.dp;lia
def ce.units (r:ce k A):A.units+64<cLine:=by have:=r.un;lia
def G6:TA:=λ_ H Q=>Q [] H
def A7 (ta:TE) (tr:TA):TA:=λZ H Q=>ta Z H λx H1=>tr Z H1 λxs H2=>Q (x::xs) H2
section
variable {t:TA}
theorem FZ:PA X [] G6:=λ_ _ _ _ H Q I h=>qJ ⟨[],H,I,.nil,h⟩
theorem tI (ha:PE X e te) (hr:PA X es t) (hs:starEach (e::es) X.env=(false,eval e X.env)::starEach es X.env:=by rfl):PA X (e::es) (A7 te t):=by
 intro pos pins s Z H Q I h;rw[hs];show wpAny _ _ (spliced ((false,eval e X.env)::backTo pos (starEach es X.env))) _ _ s;refine pU (ci (ha pins s Z H _ I h) λu s1 ⟨x,H1,I1,r1,q1⟩=>?_);exact ci (hr pos pins s1 Z H1 _ I1 q1) λus s2 ⟨xs,H2,I2,r2,q2⟩=>⟨x::xs,H2,I2,.cons r1 r2,q2⟩
def H9 (t:TA):TE:=λZ H Q=>t Z H λxs H1=>xs.length<=sizeLine/\∀p,H1 p=none->Q (.ref p) (au H1 p (.tup xs))
def G5 (t:TA):TE:=λZ H Q=>t Z H λxs H1=>xs.length<=sizeLine/\∀p,H1 p=none->Q (.ref p) (au H1 p (.lst xs))
theorem Mz {x1} (h:PA X es t):PE X (.Tuple es x1 pos) (H9 t):=by
 intro pins s Z H Q I hq;refine wpAny_Tuple_spliced (ci (h pos pins s Z H _ I hq) λus s1 ⟨xs,H1,I1,r,z,q⟩=>⟨by rw[<-r.length];exact z,?_⟩);have hf:H1 s1.heap.objs.size=none:=I1.hok.fresh (bK _);refine⟨.ref s1.heap.objs.size,au H1 s1.heap.objs.size (.tup xs),I1.laid (t':=s1.toks) (λb u e=>aP _ e) (bK _) ?_,rfl,q _ hf⟩;exact⟨z,us,r,⟨_,cL _ rfl,rfl,_,rfl⟩⟩
theorem My (h:PA X es t):PE X (.List es pos) (G5 t):=by
 intro pins s Z H Q I hq;refine wpAny_List_spliced (ci (h pos pins s Z H _ I hq) λus s1 ⟨xs,H1,I1,r,z,q⟩=>⟨by rw[<-r.length];exact z,?_⟩);have hf:H1 s1.heap.objs.size=none:=I1.hok.fresh (bK _);refine⟨.ref s1.heap.objs.size,au H1 s1.heap.objs.size (.lst xs),I1.laid (t':=s1.toks) (λb u e=>aP _ e) (bK _) ?_,rfl,q _ hf⟩;exact⟨z,us,0,r,cL _ rfl⟩
end
abbrev Sp:=List V->Hp->VK->XK->Prop
abbrev qt:=List Env->Hp->aG->XK->aB->aG->Prop
structure ro (P:bR) (w:cT) (K:aI) (mg:Str->Option aB) (base:Heap) (A:cZ) (outer:List Env) (s:aG) (H:Hp):Prop where
 frames:A.frames=some outer
 mod:Mod K mg base
 bs:∀b o,base.get? b=some o->s.heap.get? b=some o/\H b=none
 bsz:base.objs.size<=s.heap.objs.size
 funs:s.heap.FunFrames base outer
 frf:∀b∈o9 outer,H b=none
 hok:fe P w H s.heap
 bare:AllBare s.gens
def CE (outer:List Env) (P:bR) (w:cT) (H:Hp) (s:aG) (Q:VK) (u:aB) (s':aG):Prop :=
 ∃v H',s'.os=s.os/\AllBare s'.gens/\Un (o9 outer) [] H H' s.heap s'.heap/\fe P w H' s'.heap/\RelV v u/\Q v H'
def CR (CX:qt) (outer:List Env) (P:bR) (w:cT) (H:Hp) (s:aG) (Q:VK) (E:XK) (r:Result) (s':aG):Prop :=
 match r with
 | .ok (.ret u)=>CE outer P w H s Q u s'
 | .ok _=>False
 | .error e=>CX outer H s E e s'
structure gu (P:bR) (w:cT) (K:aI) (mg:Str->Option aB) (base:Heap) (CX:qt) (k:Nat) (f:Addr) (fd:lZ) (ps:List Str) (sp:Sp):Prop where
 len:∀vs H Q E,sp vs H Q E->vs.length=ps.length
 run:∀(A:cZ) (outer:List Env) (s:aG) (H:Hp) (args:Args) (us:List aB) (vs:List V) (Q:VK) (E:XK),ce k A->ro P w K mg base A outer s H->BindsTo s fd args (ps.zip us)->am vs us->sp vs H Q E ->
  codeAny (model P w) A (.call (.ref f) args) (CR CX outer P w H s Q E) s
section
variable {σ:St} {s s':aG}
theorem Inv.env0 (I:Inv X pins σ H s):ro X.prog X.w X.K X.mg X.base X.A X.stack s H :=
 ⟨I.ok.frames,I.ok.mod,I.bs,eJ I.ok.bsz I.sz,I.stack,I.stkFree,I.hok,I.bare⟩
theorem Inv.after (I:Inv X pins σ H s) (h:CE X.stack X.prog X.w H s Q u s'):EP X pins σ Q u s':=by
 obtain⟨v,H',os,bare,un,hok,r,q⟩:=h;obtain⟨hh,g,d,t,os'⟩:=s';obtain rfl:os'=s.os:=os;exact⟨v,H',I.call (h':=hh) (g':=g) (d':=d) (t':=t) (ch:=[]) un hok bare (λb z=>absurd z (by simp)),r,q⟩
end
def A6 (sp:Sp) (t_:List V) (E:XK) (t:TA):TE:=λZ H Q=>t Z H λvs H1=>sp (vs++t_) H1 Q E
def Binds (K:aI) (fd:lZ) (ps:List Str) (ds:List aB):Prop :=
 ∀(s:aG) (us:List aB),K.In s.heap->(us++ds).length=ps.length->BindsTo s fd ⟨us,[]⟩ (ps.zip (us++ds))
def Binds.all {K:aI} {fd:lZ} {ps:List Str} (h:∀us:List aB,us.length=ps.length->bindArgs fd ⟨us,[]⟩=pure (ps.zip us)):Binds K fd ps []:=λs us _ hl=>by
 rw[dN] at hl ⊢;exact .of_eq (h us hl)
def Bu (CX:qt) (X:Cx) (E:XK):Prop:=∀(pins:List (Addr × Obj)) (Z:St) (H:Hp) (s:aG) (e:aB) (s':aG),Inv X pins Z H s->CX X.stack H s E e s'->X.xe e s'
section
variable {X:Cx} {CX:qt} {k:Nat} {f C:Addr} {fd:lZ} {ps:List Str} {sp:Sp} {t_:List V} {ds:List aB} {E:XK} {x m:Str} {p pos apos:Pos} {e o:Expr} {es:List Expr} {t:TA}
theorem Wx {Z:St} {s:aG} (F:gu X.prog X.w X.K X.mg X.base CX k f fd ps sp) (hr:ce k X.A) (hb:Binds X.K fd ps ds) (hd:am t_ ds) (hx:Bu CX X E)
  (I:Inv X pins Z H s) (r:am vs us) (h:sp (vs++t_) H Q E):wpAny (model X.prog X.w) X.A (call (.ref f) us) (EP X pins Z Q) X.xe s:=by
 have r2:am (vs++t_) (us++ds):=r.append hd;have hl:(us++ds).length=ps.length:=by rw[<-r2.length];exact F.len _ _ _ _ h
 refine RF (oK (F.run X.A X.stack s H ⟨us,[]⟩ (us++ds) (vs++t_) Q E hr I.env0 (hb s us I.kIn hl) r2 h) λr s' hq=>?_);cases r with
 | error e=>exact hx pins Z H s e s' I hq
 | ok fl =>
  cases fl with
  | ret u=>exact I.after hq
  | next=>exact mN hq
  | brk=>exact mN hq
  | cont=>exact mN hq
theorem WU (F:gu X.prog X.w X.K X.mg X.base CX k f fd ps sp) (hr:ce k X.A) (hg:Gl X x) (hm:X.mg x=some (.ref f)) (hk:kT X.K (.ref f)=true) (hb:Binds X.K fd ps ds) (hd:am t_ ds) (hx:Bu CX X E)
  (ha:PA X (e::es) t) (kw:(x == ("__debug__":Str))=false:=by decide) (he:starEach (e::es) X.env=(false,eval e X.env)::starEach es X.env:=by rfl) (h8:(backTo pos (starEach es X.env)).any (·.1)=false:=by rfl) :
  PE X (.Call (.Name x p) (e::es) [] pos) (A6 sp t_ E t):=by
 intro pins s Z H Q I h;refine fJ (Qm I hg hm ?_ kw);refine PySem.W.callWith_K (h₀:=X.base) I.ok.mod.kin hk (ci (ha pos pins s Z H _ I h) λus s1 ⟨vs,H1,I1,r,q⟩=>⟨I1.kIn,?_⟩) he h8;exact Wx F hr hb hd hx I1 r q
end
structure dz (N P:List Str) (sc:Scope):Prop where
 kind:sc.kind = .function
 co:sc.isCoroutine=false
 gen:sc.isGenerator=false
 nd:N.Nodup
 pre:N.take P.length=P
 par:∀x∈P,sc.names.lookup x=some .local\/sc.names.lookup x=some .cell
 nofree:∀y∈sc.names,y.2≠.free
theorem TJ {kindOf:Str->Option NameKind} {x:Str}:∀{binds:List (Str × aB)} {m:Str->Option aB},(∀v,(x,v) ∉ binds)->bindL kindOf binds m x=m x
 | [],_,_=>rfl
 | (n,v)::r,m,h=>by
  unfold bindL;rw[TJ λw hw=>h w (aO _ hw)];split
  ·have:x≠n:=(by rintro rfl;exact h v cF);simp[this]
  ·rfl
theorem TF {kindOf:Str->Option NameKind} {x:Str}:∀{binds:List (Str × aB)} {m:Str->Option aB},(∀v,(x,v) ∉ binds)->bindC kindOf binds m x=m x
 | [],_,_=>rfl
 | (n,v)::r,m,h=>by
  unfold bindC;rw[TF λw hw=>h w (aO _ hw)];split
  ·rfl
  ·have:x≠n:=(by rintro rfl;exact h v cF);simp[this]
theorem TH {kindOf:Str->Option NameKind} {x:Str} {v:aB}:∀{P:List Str} {vs:List aB} {i:Nat} {m:Str->Option aB},P.Nodup->P[i]? = some x->vs[i]? = some v->kindOf x=some .local ->
  bindL kindOf (P.zip vs) m x=some v
 | [],_,_,_,_,h,_,_=>by simp at h
 | _::_,[],_,_,_,_,h,_=>by simp at h
 | p::P,w::vs,0,m,nd,h1,h2,hk=>by
  simp at h1 h2;subst h1;subst h2;show bindL kindOf ((p,w)::P.zip vs) m p=_;unfold bindL;rw[TJ λv hv=>(eS.mp nd).1 (zE hv).1,if_pos hk];simp
 | p::P,w::vs,i+1,m,nd,h1,h2,hk=>by
  show bindL kindOf ((p,w)::P.zip vs) m x=_;unfold bindL;exact TH (i:=i) (eS.mp nd).2 (by simpa using h1) (by simpa using h2) hk
theorem TC {kindOf:Str->Option NameKind} {x:Str} {v:aB}:∀{P:List Str} {vs:List aB} {i:Nat} {m:Str->Option aB},P.Nodup->P[i]? = some x->vs[i]? = some v->kindOf x≠some .local ->
  bindC kindOf (P.zip vs) m x=some v
 | [],_,_,_,_,h,_,_=>by simp at h
 | _::_,[],_,_,_,_,h,_=>by simp at h
 | p::P,w::vs,0,m,nd,h1,h2,hk=>by
  simp at h1 h2;subst h1;subst h2;show bindC kindOf ((p,w)::P.zip vs) m p=_;unfold bindC;rw[TF λv hv=>(eS.mp nd).1 (zE hv).1,if_neg hk];simp
 | p::P,w::vs,i+1,m,nd,h1,h2,hk=>by
  show bindC kindOf ((p,w)::P.zip vs) m x=_;unfold bindC;exact TC (i:=i) (eS.mp nd).2 (by simpa using h1) (by simpa using h2) hk
def start (N:List Str) (vs:List V):St:=vs.map some++eO (N.length-vs.length) none
def yK (CX:qt) (P:bR) (w:cT) (K:aI) (mg:Str->Option aB) (base:Heap) (N:List Str) (qual:Str) (scope:Scope) (f:Addr) (cd:aB) (A:cZ) (outer:List Env) (s:aG) (H:Hp) (E:XK):Cx where
 prog:=P
 w:=w
 K:=K
 mg:=mg
 base:=base
 A:=A.deeper (envOfC qual scope s.heap.objs.size f cd)
 N:=N
 s₀:=s
 H₀:=H
 env:=envOfC qual scope s.heap.objs.size f cd
 outer:=outer
 stack:=envOfC qual scope s.heap.objs.size f cd::outer
 ex:=[]
 calm:=true
 fn:=λ_=>true
 pn:=[]
 xe:=λe s'=>wpAny (model P w) (A.deeper (envOfC qual scope s.heap.objs.size f cd)) (leaving (envOfC qual scope s.heap.objs.size f cd) e) (λ_ X4=>CX outer H s E e X4) (λe' X4=>CX outer H s E e' X4) s'
def XT {sc:Scope} {n:Nat} {x:Str} (h:sc.names.lookup x=some .cell):∃c,(cellsFrom n sc.names []).lookup x=some c:=by
 have q:=yF sc.names n [] (.inl h);exact Option.isSome_iff_exists.mp q
def Hj {CX:qt} {P:bR} {w:cT} {K:aI} {mg:Str->Option aB} {base:Heap} {N ps:List Str} {qual:Str} {scope:Scope} {f:Addr} {cd:aB} {A:cZ} {outer:List Env} {s s1:aG} {H:Hp} {E:XK} {us:List aB} {vs:List V}
  (S:dz N ps scope) (hd:A.handled=none) (e0:ro P w K mg base A outer s H) (hl:vs.length=ps.length) (r:am vs us)
  (x:InCallC s s.heap.objs.size (bindL (envOfC qual scope s.heap.objs.size f cd).kindOf (ps.zip us) λ_=>none) (cellsFrom (s.heap.objs.size+1) scope.names []) (bindC (envOfC qual scope s.heap.objs.size f cd).kindOf (ps.zip us) λ_=>none) s1) :
  Inv (yK CX P w K mg base N qual scope f cd A outer s H E) [] (start N vs) H s1:=by
 have h8:ps.length<=N.length:=by have:=congrArg fU S.pre;rw[fY] at this;lia
 obtain⟨h1,tk,rfl,hk⟩:=x.done;have zt:∀b:Addr,b ∉ (yK CX P w K mg base N qual scope f cd A outer s H E).ex:=λb z=>absurd (show b∈([]:List Addr) from z) (by simp);refine⟨⟨e0.mod,S.kind,rfl,rfl,bK _,λy z c h1 h2=>?_,λy hy=>?_,λy c _ h=>?_,λ_=>hd,Around.frames_deeper e0.frames,.inr ⟨rfl,rfl⟩,λb z=>absurd z (zt b),e0.bs,e0.bsz,λb _ _=>zt b,λb z=>absurd z (zt b),e0.funs,e0.frf⟩,
  rfl,e0.bare,Un.kept hk,⟨_,x.toInCall.ns,λi y v h1 h2 h3=>?_⟩,λy c h=>⟨_,x.cell y c h⟩,e0.hok.fresh (bK _),λy c h=>?_,λp hp=>absurd (show p∈([]:List (Addr × Obj)) from hp) (by simp),e0.hok.kept hk,?_⟩
 ·exact name_of_addr x.apart (jY h1) (jY h2)
 ·have hy:scope.names.lookup y=some .cell\/scope.names.lookup y=some .free:=hy;rcases hy with hy | hy
  ·exact XT hy
  ·exact absurd rfl (S.nofree _ (jY hy))
 ·exact lO (x.above y c (jY h))
 ·have hi:i<vs.length:=by
   unfold start at h2;by_cases hi:i<vs.length
   ·exact hi
   ·rw[dE (by simpa using hi)] at h2;rw[iJ] at h2;split at h2 <;> cases h2
  have ha:vs[i]? = some v:=by
   unfold start at h2;rw[dJ (by simpa using hi),bT] at h2;cases e:vs[i]? with
   | none=>rw[e] at h2;cases h2
   | some a=>rw[e] at h2;cases h2;rfl
  obtain⟨u,hu,rv⟩:=r.get ha;have hp:ps[i]? = some y:=by
   rw[<-S.pre,List.getElem?_take_of_lt (by lia)];exact h1
  have ndP:ps.Nodup:=by rw[<-S.pre];exact S.nd.sublist (GQ _ _)
  refine⟨u,rv,?_⟩;rcases S.par y (dM hp) with k | k
  ·exact .inl ⟨k,TH ndP hp hu k⟩
  ·obtain⟨c,e⟩:=XT (n:=s.heap.objs.size+1) k;refine .inr ⟨.inl k,c,e,?_⟩;have q:=x.cell y c e;rw[TC ndP hp hu (by show scope.names.lookup y≠_;rw[k];decide)] at q;exact q
 ·exact e0.hok.fresh (lO (x.above y c (jY h)))
 ·unfold start;show _=N.length;rw[bJ,aS,lC];lia
theorem Yp {CX:qt} {P:bR} {w:cT} {K:aI} {mg:Str->Option aB} {base:Heap} {k:Nat} {f:Addr} {name qual:Str} {params:Arguments} {body:List Stmt} {scope:Scope} {dV kV doc pm cdv ct oc:aB} {an od:Option Addr}
  {rh:Array (Option aB)} {N ps:List Str} {sp:Sp} (lk:K.lookup f=some ⟨oc,od,.func (oI name qual params body scope dV kV doc pm an cdv ct),rh⟩) (g_:uF K cdv qual=true) (S:dz N ps scope)
  (len:∀vs H Q E,sp vs H Q E->vs.length=ps.length)
  (fc:∀(A:cZ) (outer:List Env) (s:aG) (H:Hp) (vs:List V) (Q:VK) (E:XK),ce k (A.deeper (envOfC qual scope s.heap.objs.size f cdv))->sp vs H Q E ->
   ∃t,fk (yK CX P w K mg base N qual scope f cdv A outer s H E) body t/\t { nx:=λ_ H'=>Q .non H',rt:=Q } (start N vs) H) :
  gu P w K mg base CX (k+1) f (oI name qual params body scope dV kV doc pm an cdv ct) ps sp:=by
 refine⟨len,λA outer s H args us vs Q E hr e0 hb r ui=>?_⟩;have hl:=len _ _ _ _ ui;have KX:K.In s.heap:=e0.mod.kin.keeps λb o e=>(e0.bs b o e).1;have lim:s.heap.NoLimit:=e0.mod.nolimit.keeps λb o e=>(e0.bs b o e).1;have hkind:∀y∈ps.zip us,scope.names.lookup y.1=some .local\/(scope.names.lookup y.1=some .cell/\((cellsFrom (s.heap.objs.size+1) scope.names []).lookup y.1).isSome=true):=λ⟨n,v⟩ hy=>by
  rcases S.par n (zE hy).1 with q | q
  ·exact .inl q
  ·exact .inr ⟨q,yF _ _ _ (.inl q)⟩
 refine codeAny_call_function hr.depth (KX _ _ lk) rfl S.co S.gen rfl (PySem.W.codeRec_of KX g_) (hb _ _ _ _ ?_);refine wpAny_newFunctionEnv_cells S.kind hkind λenv he s1 x=>?_;subst he;refine⟨lim.keeps x.toInCall.keep,codeAny_func ?_⟩;obtain⟨t,ht,hq⟩:=fc A outer s H vs Q E (hr.deeper _) ui;have I:Inv (yK CX P w K mg base N qual scope f cdv A outer s H E) [] (start N vs) H s1:=Hj S hr.hd e0 hl r x;refine gS (ht [] s1 (start N vs) H _ I hq) (λfl s' hs=>?_) λe s' hs=>hs;have fin:∀{Z':St} {H':Hp} {v:V} {u:aB},Inv (yK CX P w K mg base N qual scope f cdv A outer s H E) [] Z' H' s'->RelV v u->Q v H'->CE outer P w H s Q u s' :=
  λ{Z' H' v u} J rv q=>⟨v,H',J.os,J.bare,J.base,J.hok,rv,q⟩
 cases fl with
 | ret u =>
  obtain⟨v,Z',H',J,rv,q⟩:=hs;exact fin J rv q
 | next =>
  obtain⟨Z',H',J,q⟩:=hs;exact fin (v:=V.non) (u:=fF) J rfl q
 | brk =>
  obtain⟨_,_,_,q⟩:=hs;exact mN q
 | cont =>
  obtain⟨_,_,_,q⟩:=hs;exact mN q
section
variable {X:Cx} {x:Str} {p pos:Pos} {e:Expr} {es:List Expr} {t:TA} {id T:String} {r:List V->Hp->VK->Prop}
def tCB (r:List V->Hp->VK->Prop) (t:TA):TE:=λZ H Q=>t Z H λvs H1=>r vs H1 Q
theorem IB (hc:AM X (.builtin id) r) (hg:Gl X x) (hm:X.mg x=none) (hv:bootBuiltins x=some (.builtin id)) (ha:PA X (e::es) t) (hn:x≠"__name__":=by decide) (kw:(x == ("__debug__":Str))=false:=by decide)
  (he:starEach (e::es) X.env=(false,eval e X.env)::starEach es X.env:=by rfl) (h8:(backTo pos (starEach es X.env)).any (·.1)=false:=by rfl):PE X (.Call (.Name x p) (e::es) [] pos) (tCB r t):=by
 intro pins s Z H Q I h;refine fJ (pY I hg hm hv ?_ hn kw);exact gU (ci (ha pos pins s Z H _ I h) λus s1 ⟨vs,H1,I1,r1,q1⟩=>hc pins s1 Z H1 vs us Q I1 r1 q1) he h8
theorem KM (hc:AM X (.type T) r) (hg:Gl X x) (hm:X.mg x=none) (hv:bootBuiltins x=some (.type T)) (ha:PA X (e::es) t) (hn:x≠"__name__":=by decide) (kw:(x == ("__debug__":Str))=false:=by decide)
  (he:starEach (e::es) X.env=(false,eval e X.env)::starEach es X.env:=by rfl) (h8:(backTo pos (starEach es X.env)).any (·.1)=false:=by rfl):PE X (.Call (.Name x p) (e::es) [] pos) (tCB r t):=by
 intro pins s Z H Q I h;refine fJ (pY I hg hm hv ?_ hn kw);exact eP (ci (ha pos pins s Z H _ I h) λus s1 ⟨vs,H1,I1,r1,q1⟩=>hc pins s1 Z H1 vs us Q I1 r1 q1) he h8
end
end L2
namespace HT
open PySem PyProof.Rows
def lexLt:List Int->List Int->Bool
 | [],[]=>false
 | [],_::_=>true
 | _::_,[]=>false
 | x::xs,y::ys=>if x=y then lexLt xs ys else decide (x<y)
def lexLt_cons (x y:Int) (xs ys:List Int):lexLt (x::xs) (y::ys)=if x=y then lexLt xs ys else decide (x<y):=rfl
def SH:lexLt [] []=false:=rfl
def PU (y:Int) (ys:List Int):lexLt [] (y::ys)=true:=rfl
def PR (x:Int) (xs:List Int):lexLt (x::xs) []=false:=rfl
def La (A:cZ) (s:aG) (a:Int) (t:Tok) (c:Int) (u:Tok):∃e,yG A s (.int a t) (.int c u) e/\(e=true↔a=c) :=
 ⟨(a == c),FQ a t c u,by simp⟩
def Nt (A:cZ) (s:aG) (a:Int) (t:Tok) (c:Int) (u:Tok) (prog:bR) (w:cT) (E:aB->aG->Prop) (Q:aB->aG->Prop) (h:Q (.bool (decide (a<c))) s) :
  wpAny (model prog w) A (richCompare .Lt (.int a t) (.int c u)) Q E s :=
 (PyProof.Rows.lt_int h:wpAny (model prog w) A (compareOp .Lt (.int a t) (.int c u)) Q E s)
section
open PySem.SeqAt
open PySem.AutoSeq1 (wpAny_loadPart')
open PySem.MeetsSeq PySem.MeetsSeq2 PySem.MeetsSeq3
def SW (l b:Addr) (items a_:Array aB) (n n2:Nat) (dd qw:Option Addr) (sl pf:Array (Option aB)) (ns ms:List Int) (hi:IntsAre items.toList ns) (hj:IntsAre a_.toList ms) :
  Meets (Builtin.«tuple.__lt__» ⟨[.ref l,.ref b],[]⟩)
   (λ_ R s=>s.heap.get? l=some { cls:=.type "tuple",dict:=dd,data:=.seq items n,slots:=sl }/\s.heap.get? b=some { cls:=.type "tuple",dict:=qw,data:=.seq a_ n2,slots:=pf } /\
    R (.ok (.ret (.bool (lexLt ns ms)))) s) :=
 .of_wp λprog w A R s h=>by
  obtain⟨hp,g,d,tk,os⟩:=s;obtain⟨hl,hb,h⟩:=h;have f2:=vT;have z1:items.size=ns.length:=by rw[<-hi.length];simp
  have z2:a_.size=ms.length:=by rw[<-hj.length];simp
  wp_walk using mX hl,mX hb,oS _ (λrest b s'=>b.1=none/\s'=⟨hp,g,d,tk,os⟩/\∃(vs ws:List aB) (uo mj:List Int),rest=vs.zip ws /\
   IntsAre vs uo/\IntsAre ws mj/\uo.length+a_.size=mj.length+items.size/\R (.ok (.ret (.bool (lexLt uo mj)))) ⟨hp,g,d,tk,os⟩) _
  case turn =>
   rintro⟨y,x⟩ rest b s' ⟨ku,rfl,vs,ws,uo,mj,hz,U5,N3,hlen,hR⟩;cases U5 with
   | nil=>rw[GR] at hz;cases hz
   | cons a t U6 =>
    cases N3 with
    | nil=>rw[FO] at hz;cases hz
    | cons c u U8 =>
     rw[kQ] at hz;injection hz with V4 qk;injection V4 with hy hx;subst hy hx;rw[lexLt_cons] at hR;simp only[cD] at hlen;obtain⟨e,he,yw⟩:=La A.in1 ⟨hp,g,d,tk,os⟩ a t c u;refine aA (he prog w _ _ ?_);cases e with
     | true =>
      rw[if_pos (yw.mp rfl)] at hR
      wp_walk
      exact⟨rfl,rfl,_,_,_,_,qk,U6,U8,by lia,hR⟩
     | false =>
      rw[if_neg (λq=>absurd (yw.mpr q) cM)] at hR;have T_:=Nt A.in1 ⟨hp,g,d,tk,os⟩ a t c u prog w
      wp_walk using T_
      exact⟨_,rfl,by simpa using hR⟩
  case fin =>
   rintro⟨b1,b2⟩ s' ⟨ku,rfl,vs,ws,uo,mj,hz,U5,N3,hlen,hR⟩;simp only at ku;subst ku;have hv:lexLt uo mj=decide (items.size<a_.size):=by
    cases U5 with
    | nil =>
     cases N3 with
     | nil =>
      simp only[eK] at hlen;rw[SH];exact (decide_eq_false (by lia)).symm
     | cons c u hw =>
      simp only[eK,cD] at hlen;rw[PU];exact (decide_eq_true (by lia)).symm
    | cons a t hv =>
     cases N3 with
     | nil =>
      simp only[eK,cD] at hlen;rw[PR];exact (decide_eq_false (by lia)).symm
     | cons c u hw =>
      rw[kQ] at hz;cases hz
   rw[hv] at hR
   wp_walk
   exact⟨_,rfl,by simpa [rF] using hR⟩
  case h =>
   exact⟨rfl,rfl,items.toList,a_.toList,ns,ms,rfl,hi,hj,by lia,h⟩
end
section
variable {s:aG}
theorem lt_tupInts (hl:IsTup s.heap l items) (hb:IsTup s.heap b a_) (hi:IntsAre items.toList ns) (hj:IntsAre a_.toList ms)
  (hu:A.units<cLine) (h:Q (.bool (lexLt ns ms)) s):wpAny (model prog w) A (compareOp .Lt (.ref l) (.ref b)) Q E s:=by
 obtain⟨⟨cls,dd,data,sl⟩,ho,hc,n,hd⟩:=id hl;obtain⟨⟨yc,qw,data2,pf⟩,j6,qe,n2,hd2⟩:=id hb;simp only at hc hd qe hd2;subst hc hd qe hd2;exact yV (op:=.Lt) ⟨_,ho,rfl⟩ ⟨_,j6,rfl⟩ AB yC (wP _ _) (SW l b items a_ n n2 dd qw sl pf ns ms hi hj)
  ⟨ho,j6,show yI (lexLt ns ms)≠BB/\Q (.bool (lexLt ns ms)) s from ⟨(λx=>nomatch x),h⟩⟩ hu
theorem cat_tup (ht:IsTup s.heap t vs.toArray) (hb:IsTup s.heap b ws.toArray) (hv:vs≠[])
  (h1:ws=[]->Q (.ref t) s) (h2:ws≠[]->Q (.ref s.heap.objs.size) { s with heap:=s.heap.push { cls:=.type "tuple",data:=.seq (vs++ws).toArray } })
  (nu:vs.length+ws.length<=sizeLine):wpAny (model prog w) A (binaryOp .Add (.ref t) (.ref b)) Q E s:=by
 obtain⟨⟨cls,dd,data,sl⟩,ho,hc,n,hd⟩:=id ht;obtain⟨⟨yc,qw,data2,pf⟩,j6,qe,n2,hd2⟩:=id hb;simp only at hc hd qe hd2;subst hc hd qe hd2;have e:vs.toArray++ws.toArray=(vs++ws).toArray:=by simp
 by_cases hw:ws=[]
 ·exact HF ⟨_,ho,rfl⟩ ⟨_,j6,rfl⟩ KH SU yD wQ (vZ _ _)
   (tuple_addW1 t b vs.toArray ws.toArray n n2 dd qw sl pf (by simpa using hv) (by simp[hw])) ⟨ho,j6,h1 hw⟩
 ·refine HF ⟨_,ho,rfl⟩ ⟨_,j6,rfl⟩ KH SU yD wQ (vZ _ _)
   (tuple_addW2 t b vs.toArray ws.toArray n n2 dd qw sl pf (by simpa using hv) (by simpa using hw) (by rw[aY,aY];exact nu)) ⟨ho,j6,?_⟩
  rw[e];exact h2 hw
def sIx (n d:Nat):Option Int->Nat
 | none=>d
 | some v=>if v<0 then (v+(n:Int)).toNat else min v.toNat n
theorem sIx_none (n d:Nat):sIx n d none=d:=rfl
theorem sIx_nat (n d k:Nat):sIx n d (some (k:Int))=min k n:=by
 show (if (k:Int)<0 then ((k:Int)+(n:Int)).toNat else min (k:Int).toNat n)=min k n;rw[if_neg (by lia),vA]
theorem Wy (n d:Nat) (hd:d<=n) (o:Option Int):sIx n d o<=n:=by
 cases o with
 | none=>exact hd
 | some v =>
  show (if v<0 then (v+(n:Int)).toNat else min v.toNat n)<=n;by_cases hv:v<0
  ·rw[if_pos hv];lia
  ·rw[if_neg hv];exact Nat.min_le_right _ _
theorem Er (v:Int) (n d:Nat):(if v<0 then max (v+(n:Int)) 0 else min v (n:Int))=((sIx n d (some v):Nat):Int):=by
 show (if v<0 then max (v+(n:Int)) 0 else min v (n:Int))=(((if v<0 then (v+(n:Int)).toNat else min v.toNat n):Nat):Int);by_cases hv:v<0
 ·simp only[if_pos hv];lia
 ·simp only[if_neg hv];lia
theorem Bw (lo hi:Option Int) (n:Nat):oT lo hi 1 (n:Int)=(((sIx n 0 lo:Nat):Int),((sIx n n hi:Nat):Int)):=by
 have h1:¬((1:Int)<0):=by lia
 unfold oT;simp only[h1,if_false];refine kR ?_ ?_
 ·cases lo with
  | none=>rfl
  | some v=>exact Er v n 0
 ·cases hi with
  | none=>rfl
  | some v=>exact Er v n n
theorem Cy (i j:Nat):lD (i:Int) (j:Int) 1=j-i:=by
 unfold lD;have h1:(1:Int) > 0:=by lia
 simp only[h1,if_true,Int.ediv_one];split <;> lia
theorem QV (p:IsPart v o) (h:Q o s):wpAny (model prog w) A (Builtin.Slice.slicePartIndex v) Q E s:=by
 cases p with
 | none=>exact QW h
 | int i t=>exact slicePart_int h
theorem KY {lo hi:Option Int} {n:Nat} (hs:s.heap.IsSliceOf sl vl vu .none) (pl:IsPart vl lo) (pu:IsPart vu hi)
  (h:Q (((sIx n 0 lo:Nat):Int),1,sIx n n hi-sIx n 0 lo) s):wpAny (model prog w) A (tS (.ref sl) (pure (n:Int))) Q E s:=by
 obtain⟨os,v3,hcs,o_⟩:=id hs;unfold tS Builtin.Slice.sliceFields;refine aA (aA (LX v3 o_ (x:=vl) rfl (aA (LX v3 o_ (x:=vu) rfl (aA (LX v3 o_ (x:=.none) rfl (aK ?_)))))));refine aA (QW ?_);show wpAny _ _ (if ((1:Int) == 0)=true then _ else _) _ _ s;rw[if_neg (by decide)];refine aA (QV pl (aA (QV pu (aA (aK ?_)))));show wpAny _ _ (match oT lo hi 1 (n:Int) with | (lo,hi)=>pure (lo,(1:Int),lD lo hi 1)) _ _ s;rw[Bw lo hi n];show wpAny _ _ (pure (((sIx n 0 lo:Nat):Int),(1:Int),lD ((sIx n 0 lo:Nat):Int) ((sIx n n hi:Nat):Int) 1)) _ _ s;rw[Cy];exact aK h
theorem Nb (xs:Array aB) (i k:Nat):((dY k).filterMap λ(m:Nat)=>xs[((i:Int)+(m:Int)*1).toNat]?).toArray=((xs.toList.drop i).take k).toArray:=by
 have e:(λ(m:Nat)=>xs[((i:Int)+(m:Int)*1).toNat]?)=λm=>xs[i+m]?:=by
  funext m;have:((i:Int)+(m:Int)*1).toNat=i+m:=by lia
  rw[this]
 rw[e];have:=pick_run xs i k;rw[List.filterMap_map] at this;have e2:((λx=>xs[x]?) ∘ λx=>i+x)=λm=>xs[i+m]?:=rfl;rw[e2] at this;rw[this]
theorem getItem_tuple_cut {lo hi:Option Int} (ht:IsTup s.heap t items) (hs:s.heap.IsSliceOf sl vl vu .none) (pl:IsPart vl lo) (pu:IsPart vu hi)
  (hw:¬(sIx items.size 0 lo=0/\sIx items.size items.size hi=items.size))
  (h:Q (.ref s.heap.objs.size) { s with heap:=s.heap.push { cls:=.type "tuple",data:=.seq ((items.toList.drop (sIx items.size 0 lo)).take (sIx items.size items.size hi-sIx items.size 0 lo)).toArray } })
  (nu:items.size<=sizeLine):wpAny (model prog w) A (getItem (.ref t) (.ref sl)) Q E s:=by
 have oj:sizeOk (.seq ((items.toList.drop (sIx items.size 0 lo)).take (sIx items.size items.size hi-sIx items.size 0 lo)).toArray):=by
  show ((items.toList.drop (sIx items.size 0 lo)).take (sIx items.size items.size hi-sIx items.size 0 lo)).toArray.size<=sizeLine;rw[aY,fY,mC,cI];lia
 have hj:sIx items.size items.size hi<=items.size:=Wy _ _ (bK _) hi;obtain⟨os,v3,hcs,o_⟩:=id hs;have hTs:s.TypeIs (.ref sl) "slice":=⟨os,v3,hcs⟩;unfold getItem
 try with_reducible refine fN ?_
 first | refine aA (aK ?_) | skip
 refine aA (wpAny_sequenceKey ht.typeIs (by decide) ?_);refine aA (qF (name:=yH "__getitem__") ht.typeIs rH
  (kN rH ht.typeIs entry_tuple_getitem ?_ (args_tuple_getitem _ _)))
 show wpAny _ _ (Builtin.Tuple.tupleItemsOf (.ref t) >>= _) _ _ s;refine aA (tupleItemsOf_ ht ?_);refine aA (tK hTs ?_);rw[if_pos (by decide)];refine aA (KY hs pl pu ?_);have T6:¬((((sIx items.size 0 lo:Nat):Int) == 0 && (1:Int) == 1 && (sIx items.size items.size hi-sIx items.size 0 lo) == items.size)=true):=by
  intro q;rw[iG,iG] at q;have q1:((sIx items.size 0 lo:Nat):Int)=0:=eq_of_beq q.1.1;have q2:sIx items.size items.size hi-sIx items.size 0 lo=items.size:=eq_of_beq q.2;exact hw ⟨by lia,by lia⟩
 show wpAny _ _ (if (((sIx items.size 0 lo:Nat):Int) == 0 && (1:Int) == 1 && (sIx items.size items.size hi-sIx items.size 0 lo) == items.size)=true then _ else _) _ _ s;rw[if_neg T6,Nb]
 first
  | exact aA (m:=lT _) (gB (aK ⟨_,rfl,aK h⟩) oj)
  | exact aA (m:=lT _) (gB (aA (aK (aK ⟨_,rfl,aK h⟩))) oj)
  | exact aA (aA (m:=lT _) (gB (aK (aK ⟨_,rfl,aK h⟩)) oj))
  | exact aA (aA (m:=lT _) (gB (aK ⟨_,rfl,aK h⟩) oj))
end
end HT
namespace L2
open PySem PySem.Spec PyProof.Rows
abbrev TO:=St->Hp->(Option Int->Hp->Prop)->Prop
def PO (X:Cx) (e:Option Expr) (t:TO):Prop :=
 ∀(pins:List (Addr × Obj)) (s:aG) (Z:St) (H:Hp) (Q:Option Int->Hp->Prop),Inv X pins Z H s->t Z H Q ->
  wpAny (model X.prog X.w) X.A (evalPart e X.env) (λu s'=>∃o H',Inv X pins Z H' s'/\IsPart u o/\Q o H') X.xe s
def Sj:TO:=λ_ H Q=>Q none H
def B5 (t:TE):TO:=λZ H Q=>t Z H λx H1=>∃i,x = .int i/\Q (some i) H1
theorem intsAre_of:∀{us:List aB},am (ns.map V.int) us->IntsAre us ns:=by
 induction ns with
 | nil=>intro us r;rw[bZ] at r;cases r;exact .nil
 | cons n ns ih =>
  intro us r;rw[aQ] at r;cases r with
  | cons r1 r2 =>
   obtain⟨t,e⟩:=r1;subst e;exact .cons n t (ih r2)
section
variable {X:Cx} {te:TE} {lo hi:Option Expr} {tl th:TO}
theorem Ro:PO X none Sj:=by
 intro pins s Z H Q I h;rw[SF];exact aK ⟨none,H,I,.none,h⟩
theorem Rq (h:PE X e te):PO X (some e) (B5 te):=by
 intro pins s Z H Q I hw;rw[evalPart_some];refine ci (h pins s Z H _ I hw) λu s1 ⟨x,H1,I1,r1,q1⟩=>?_;obtain⟨i,rfl,q⟩:=q1;obtain⟨t,rfl⟩:=r1;exact⟨some i,H1,I1,.int i t,q⟩
def u8 (X:Cx) (r:V->Option Int->Option Int->Hp->VK->Prop):Prop :=
 ∀(pins:List (Addr × Obj)) (s:aG) (Z:St) (H:Hp) (x:V) (v vl vu:aB) (lo hi:Option Int) (sl:Addr) (Q:VK),Inv X pins Z H s->RelV x v->s.heap.IsSliceOf sl vl vu .none->IsPart vl lo->IsPart vu hi->r x lo hi H Q ->
  ∃T id,typeLookup (.type T) "__getitem__" = pure (some (.builtin id))/\s.TypeIs v T/\wpAny (model X.prog X.w) X.A (getItem v (.ref sl)) (EP X pins Z Q) X.xe s
theorem u8.or (h:u8 X r) (h':u8 X r'):u8 X (λx lo hi H Q=>r x lo hi H Q\/r' x lo hi H Q):=by
 intro pins s Z H x v vl vu lo hi sl Q I rx hs pl pu q;rcases q with q | q
 ·exact h pins s Z H x v vl vu lo hi sl Q I rx hs pl pu q
 ·exact h' pins s Z H x v vl vu lo hi sl Q I rx hs pl pu q
def tSl (r:V->Option Int->Option Int->Hp->VK->Prop) (te:TE) (tl th:TO):TE:=λZ H Q=>te Z H λx H1=>tl Z H1 λl H2=>th Z H2 λu H3=>r x l u H3 Q
theorem ZY (hr:u8 X r) (he:PE X e te) (hl:PO X lo tl) (hu:PO X hi th):PE X (.Subscript e (.Slice lo hi none p2) pos) (tSl r te tl th):=by
 intro pins s Z H Q I h;refine Subscript_ (ci (he pins s Z H _ I h) λv s1 ⟨x,H1,I1,r1,q1⟩=>?_);refine wpAny_Slice (ci (hl pins s1 Z H1 _ I1 q1) λvl s2 ⟨l,H2,I2,pl,q2⟩=>ci (hu pins s2 Z H2 _ I2 q2) λvu s3 ⟨u,H3,I3,pu,q3⟩=>?_);rw[SF];refine aK ?_;have I4:Inv X pins Z H3 { s3 with heap:=s3.heap.push { cls:=.type "slice",data:=.fields #[vl,vu,.none] } }:=I3.kept (t':=s3.toks) λb ob q=>aP _ q;obtain⟨T,id,hT,ht,hg⟩:=hr pins { s3 with heap:=s3.heap.push { cls:=.type "slice",data:=.fields #[vl,vu,.none] } } Z H3 x v vl vu l u s3.heap.objs.size Q I4 r1 (Heap.IsSliceOf.new ..) pl pu q3;show wpAny (model X.prog X.w) X.A (subscriptTail e (.Slice lo hi none p2) v (.ref s3.heap.objs.size)) (EP X pins Z Q) X.xe { s3 with heap:=s3.heap.push { cls:=.type "slice",data:=.fields #[vl,vu,.none] } };exact tail_any (ops:=[.ref s3.heap.objs.size,v]) ht hT hg (by with_unfolding_all rfl)
def SC (xs:List V) (lo hi:Option Int):List V:=(xs.drop (HT.sIx xs.length 0 lo)).take (HT.sIx xs.length xs.length hi-HT.sIx xs.length 0 lo)
theorem LI (xs:List V) (lo hi:Option Int):(SC xs lo hi).length<=xs.length:=by
 unfold SC;rw[fY,mC];lia
def F2 (K:aI):V->Option Int->Option Int->Hp->VK->Prop:=λx lo hi H Q=>∃a xs,x = .ref a/\di K H a xs /\
 ¬(HT.sIx xs.length 0 lo=0/\HT.sIx xs.length xs.length hi=xs.length)/\∀p,H p=none->Q (.ref p) (au H p (.tup (SC xs lo hi)))
theorem Xa:u8 X (F2 X.K):=by
 intro pins s Z H x v vl vu lo hi sl Q I rx hs pl pu h;obtain⟨a,xs,rfl,hx,hw,q⟩:=h;cases rx;obtain⟨its,r,ht,hz⟩:=I.tuple hx;have hlen:its.toArray.size=xs.length:=by rw[aY];exact r.length.symm
 refine⟨"tuple",_,PyProof.Rows.slot_tuple_getitem.lookup,ht.typeIs,?_⟩;refine HT.getItem_tuple_cut ht hs pl pu (by rw[hlen];exact hw) ?_ (by rw[hlen];exact hz);rw[hlen];refine⟨.ref s.heap.objs.size,_,I.laid (t':=s.toks) (o:=.tup (SC xs lo hi)) (λb ob q=>aP _ q) (bK _) ?_,rfl,q _ (I.hok.fresh (bK _))⟩;exact⟨eJ (LI xs lo hi) hz,_,(r.drop (HT.sIx xs.length 0 lo)).take (HT.sIx xs.length xs.length hi-HT.sIx xs.length 0 lo),JA _ _⟩
def E7 (K:aI):R2:=λx y H Q=>∃a b ns ms,x = .ref a/\y = .ref b/\di K H a (ns.map V.int)/\di K H b (ms.map V.int)/\Q (.bl (HT.lexLt ns ms)) H
theorem Vx (hu:X.A.units<cLine):jv X (compareOp .Lt) (E7 X.K):=by
 intro pins s Z H x y v u Q I rx ry h;obtain⟨a,b,ns,ms,rfl,rfl,ha,hb,q⟩:=h;cases rx;cases ry;obtain⟨its,r1,p1,_⟩:=I.tuple ha;obtain⟨dh,r2,p2,_⟩:=I.tuple hb;have i1:IntsAre its.toArray.toList ns:=intsAre_of r1;have i2:IntsAre dh.toArray.toList ms:=intsAre_of r2;exact HT.lt_tupInts p1 p2 i1 i2 hu ⟨.bl (HT.lexLt ns ms),H,I,rfl,q⟩
def Zo (K:aI):R2:=λx y H Q=>∃a b xs ys,x = .ref a/\y = .ref b/\di K H a xs/\di K H b ys/\xs≠[]/\xs.length+ys.length<=sizeLine /\
 (ys=[]->Q (.ref a) H)/\(ys≠[]->∀p,H p=none->Q (.ref p) (au H p (.tup (xs++ys))))
theorem am.nil_iff (r:am xs us):us=[]↔xs=[]:=by
 cases r with
 | nil=>simp
 | cons _ _=>simp
theorem Rg:jv X (binaryOp .Add) (Zo X.K):=by
 intro pins s Z H x y v u Q I rx ry h;obtain⟨a,b,xs,ys,rfl,rfl,ha,hb,hx,hz,q1,q2⟩:=h;cases rx;cases ry;obtain⟨its,r1,p1,_⟩:=I.tuple ha;obtain⟨dh,r2,p2,_⟩:=I.tuple hb;refine HT.cat_tup p1 p2 (λz=>hx (r1.nil_iff.mp z)) (λz=>⟨.ref a,H,I,rfl,q1 (r2.nil_iff.mp z)⟩) (λz=>?_) (by rw[<-r1.length,<-r2.length];exact hz);refine⟨.ref s.heap.objs.size,_,I.laid (t':=s.toks) (o:=.tup (xs++ys)) (λb ob q=>aP _ q) (bK _) ?_,rfl,q2 (λw=>z (r2.nil_iff.mpr w)) _ (I.hok.fresh (bK _))⟩;exact⟨by rw[bJ];exact hz,_,r1.append r2,JA _ _⟩
end
def me (n:Nat) (i:Int):Option Nat:=if 0<=i then (if i<n then some i.toNat else none) else if -(n:Int)<=i then some (i+n).toNat else none
def ik {α:Type} (xs:List α) (i:Int):Option α:=(me xs.length i).bind λj=>xs[j]?
def Qj {n:Nat} (h:me n i=some j):seqIndex? i n=some j/\j<n/\-(n:Int)<=i/\i<n:=by
 unfold me at h;by_cases h0:0<=i
 ·rw[if_pos h0] at h;by_cases h1:i<n
  ·rw[if_pos h1] at h;have e:i.toNat=j:=dO h;exact⟨by rw[seqIndex_of h0 h1,e],by lia,by lia,h1⟩
  ·rw[if_neg h1] at h;cases h
 ·rw[if_neg h0] at h;by_cases h1:-(n:Int)<=i
  ·rw[if_pos h1] at h;have e:(i+n).toNat=j:=dO h;exact⟨by rw[seqIndex_neg (by lia) h1,e],by lia,h1,by lia⟩
  ·rw[if_neg h1] at h;cases h
theorem Ej {α:Type} {xs:List α} {v:α} (h:ik xs i=some v):∃j,seqIndex? i xs.length=some j/\xs[j]? = some v/\j<xs.length/\-(xs.length:Int)<=i/\i<xs.length:=by
 unfold ik at h;cases e:me xs.length i with
 | none=>rw[e] at h;cases h
 | some j =>
  rw[e] at h;obtain⟨h1,h2,h3,h4⟩:=Qj e;exact⟨j,h1,h,h2,h3,h4⟩
def Ek {α:Type} {xs:List α} {j:Nat} {v:α} (h:xs[j]? = some v):ik xs (j:Int)=some v:=by
 have hj:j<xs.length:=(bC.mp h).1;have e:me xs.length (j:Int)=some j:=by
  unfold me;rw[if_pos (by lia),if_pos (by lia)];simp
 unfold ik;rw[e];exact h
def XO {α:Type} (xs:List α) (v:α):ik (xs++[v]) (-1)=some v:=by
 have hl:(xs++[v]).length=xs.length+1:=by simp
 have e:me (xs++[v]).length (-1)=some xs.length:=by
  unfold me;rw[hl,if_neg (by decide),if_pos (by lia)];congr 1;lia
 unfold ik;rw[e];show (xs++[v])[xs.length]? = some v;simp
def Eh (b:Expr):Prop:=∀o i,subscripted b false o i=operate [o,i] (getItem o i)
def uz (X:Cx) (r:R2):Prop :=
 ∀(value slice:Expr) (pins:List (Addr × Obj)) (s:aG) (Z:St) (H:Hp) (x y:V) (v u:aB) (Q:VK),Inv X pins Z H s->RelV x v->RelV y u->r x y H Q ->
  subscripted slice false v u=operate [v,u] (getItem v u)->wpAny (model X.prog X.w) X.A (subscriptTail value slice v u) (EP X pins Z Q) X.xe s
def D_ (X:Cx) (id:String) (r:V->List V->Hp->VK->Prop):Prop :=
 ∀(pins:List (Addr × Obj)) (s:aG) (Z:St) (H:Hp) (x:V) (xs:List V) (v:aB) (us:List aB) (Q:VK),Inv X pins Z H s->RelV x v->am xs us->r x xs H Q ->
  wpAny (model X.prog X.w) X.A (call (.builtin id) (v::us)) (EP X pins Z Q) X.xe s
section
variable {X:Cx} {a b:Expr}
theorem uz.or (h:uz X r) (h':uz X r'):uz X (λx y H Q=>r x y H Q\/r' x y H Q):=by
 intro value slice pins s Z H x y v u Q I rx ry q hs;rcases q with q | q
 ·exact h value slice pins s Z H x y v u Q I rx ry q hs
 ·exact h' value slice pins s Z H x y v u Q I rx ry q hs
theorem Tp (hr:uz X r) (ha:PE X a ta) (hb:PE X b tb) (hs:Eh b):PE X (.Subscript a b pos) (z9 r ta tb):=by
 intro pins s Z H Q I h;exact Subscript_ (Ud ha hb I h λv u s2 x y H2 I2 rx ry q=>hr a b pins s2 Z H2 x y v u Q I2 rx ry q (hs _ _))
def E3 (K:aI):R2:=λx y H Q=>∃p xs i v,x = .ref p/\y = .int i/\f8 K H p xs/\ik xs i=some v/\Q v H
def E4 (K:aI):R2:=λx y H Q=>∃p xs i v,x = .ref p/\y = .int i/\di K H p xs/\ik xs i=some v/\Q v H
theorem Qk:uz X (E3 X.K):=by
 intro value slice pins s Z H x y v u Q I rx ry h hs;obtain⟨p,xs,i,z,rfl,rfl,hq,he,q⟩:=h;cases rx;obtain⟨t,rfl⟩:=ry;obtain⟨its,r,pl,hz⟩:=I.list hq;obtain⟨j,h1,h2,h3,h4,h5⟩:=Ej he;obtain⟨w,ew,jl⟩:=r.get h2;have hl:=r.length;have hn:=Cm;have fin:EP X pins Z Q w s:=⟨z,H,I,jl,q⟩;by_cases h0:0<=i
 ·have hj:i.toNat=j:=by
   rw[seqIndex_of h0 h5] at h1;exact dO h1
  exact item_listR pl.isList h0 (by lia) (by rw[hj];simpa using ew) fin hs
 ·have hj:(i+(its.toArray.size:Int)).toNat=j:=by
   rw[seqIndex_neg (by lia) h4] at h1;rw[aY,<-hl];exact dO h1
  exact yZ (x:=w) pl.isList.typeIs slot_list_getitem.lookup
   (wpAny_getItem_list_neg (Q:=λr s'=>r=w/\EP X pins Z Q r s') pl.isList (by lia) (by rw[aY] <;> lia) (by lia) (by rw[hj];simpa using ew) ⟨rfl,fin⟩) hs
theorem Ln:uz X (E4 X.K):=by
 intro value slice pins s Z H x y v u Q I rx ry h hs;obtain⟨p,xs,i,z,rfl,rfl,hq,he,q⟩:=h;cases rx;obtain⟨t,rfl⟩:=ry;obtain⟨its,r,pl,hz⟩:=I.tuple hq;obtain⟨j,h1,h2,h3,h4,h5⟩:=Ej he;obtain⟨w,ew,jl⟩:=r.get h2;have hl:=r.length;have hn:=Cm;have fin:EP X pins Z Q w s:=⟨z,H,I,jl,q⟩;exact yZ (x:=w) pl.typeIs slot_tuple_getitem.lookup
  (getItem_tuple (j:=j) (Q:=λr s'=>r=w/\EP X pins Z Q r s') pl (by lia) (by lia) (by rw[aY,<-hl];exact h1) (by simpa using ew) ⟨rfl,fin⟩) hs
theorem XE (lo hi:Option Int) (n:Nat):(sliceBounds lo hi none n).1=((HT.sIx n 0 lo:Nat):Int)/\(sliceBounds lo hi none n).2.1=((HT.sIx n n hi:Nat):Int)/\(sliceBounds lo hi none n).2.2=1:=by
 refine⟨?_,?_,rfl⟩
 ·cases lo with
  | none=>simp[sliceBounds,HT.sIx]
  | some i =>
   simp only[sliceBounds,HT.sIx,JI,show (1:Int) > 0 by decide,if_true];by_cases h:i<0
   ·simp only[h,if_true] <;> lia
   ·simp only[h,if_false] <;> lia
 ·cases hi with
  | none=>simp[sliceBounds,HT.sIx]
  | some i =>
   simp only[sliceBounds,HT.sIx,JI,show (1:Int) > 0 by decide,if_true];by_cases h:i<0
   ·simp only[h,if_true] <;> lia
   ·simp only[h,if_false] <;> lia
theorem SV (its:List aB) (lo hi:Option Int):slicePick its.toArray lo hi none=((its.drop (HT.sIx its.length 0 lo)).take (HT.sIx its.length its.length hi-HT.sIx its.length 0 lo)).toArray:=by
 obtain⟨h1,h2,h3⟩:=XE lo hi its.toArray.size;unfold slicePick;rw[h1,h2,h3];simp only[sliceRange_one,pick_run,aY] <;> rfl
def F1 (K:aI):V->Option Int->Option Int->Hp->VK->Prop:=λx lo hi H Q=>∃a xs,x = .ref a/\f8 K H a xs/\∀p,H p=none->Q (.ref p) (au H p (.lst (SC xs lo hi)))
theorem Ge:u8 X (F1 X.K):=by
 intro pins s Z H x v vl vu lo hi sl Q I rx hs pl pu h;obtain⟨a,xs,rfl,hx,q⟩:=h;cases rx;obtain⟨its,r,ht,hz⟩:=I.list hx;have hlen:=r.length;refine⟨"list",_,slot_list_getitem.lookup,ht.isList.typeIs,?_⟩;refine wpAny_getItem_list_slice ht.isList hs pl pu .none (by simp) ?_ (by rw[aY] <;> lia);rw[SV,<-hlen];refine⟨.ref s.heap.objs.size,_,I.laid (t':=s.toks) (o:=.lst (SC xs lo hi)) (λb ob q=>aP _ q) (bK _) ?_,rfl,q _ (I.hok.fresh (bK _))⟩;exact⟨eJ (LI xs lo hi) hz,_,0,(r.drop (HT.sIx xs.length 0 lo)).take (HT.sIx xs.length xs.length hi-HT.sIx xs.length 0 lo),cL _ rfl⟩
theorem VF:AM X (.builtin "len") (λxs H Q=>∃p ys,xs=[.ref p]/\(f8 X.K H p ys\/di X.K H p ys)/\Q (.int ys.length) H):=by
 intro pins s Z H xs us Q I r h;obtain⟨p,ys,rfl,hq,q⟩:=h;obtain⟨u,rfl,rx⟩:=vals1 r;cases rx;have hn:=Cm;rcases hq with hq | hq
 ·obtain⟨its,r',pl,hz⟩:=I.list hq;have hlen:=r'.length;exact Calls.call_len_list pl.isList (by simp only[aY] <;> lia) ⟨.int ys.length,H,I.tok _,⟨s.toks+1,by rw[aY,hlen]⟩,q⟩
 ·obtain⟨its,r',pl,hz⟩:=I.tuple hq;have hlen:=r'.length;exact len_tuple pl (by simp only[aY] <;> lia) ⟨.int ys.length,H,I.tok _,⟨s.toks+1,by rw[aY,hlen]⟩,q⟩
theorem VG:AM X (.type "list") (λxs H Q=>∃p ys,xs=[.ref p]/\(f8 X.K H p ys\/di X.K H p ys)/\∀l,H l=none->Q (.ref l) (au H l (.lst ys))):=by
 intro pins s Z H xs us Q I r h;obtain⟨p,ys,rfl,hq,q⟩:=h;obtain⟨u,rfl,rx⟩:=vals1 r;cases rx;have fin:∀(its:List aB),am ys its->ys.length<=sizeLine->∀(h':Heap) (c':Nat),(∀b o',s.heap.get? b=some o'->h'.get? b=some o') ->
   h'.get? s.heap.objs.size=some { cls:=.type "list",dict:=none,data:=.seq its.toArray c',slots:=#[] }->EP X pins Z Q (.ref s.heap.objs.size) { s with heap:=h' }:=λits r' hz h' c' kp e =>
  ⟨.ref s.heap.objs.size,_,I.laid (t':=s.toks) kp (bK _) (show bi X.prog X.w _ h' _ (.lst ys) from ⟨hz,its,c',r',e⟩),rfl,q _ (I.hok.fresh (bK _))⟩
 rcases hq with hq | hq
 ·obtain⟨its,r',pl,hz⟩:=I.list hq;have hlen:=r'.length;obtain⟨o,ho,hc,n,hd⟩:=pl.isList;exact RY p (.inl rfl) ho hc hd (λh' c' kp e=>fin its r' hz h' c' kp e) (by simp only[aY] <;> lia)
 ·obtain⟨its,r',pl,hz⟩:=I.tuple hq;have hlen:=r'.length;obtain⟨o,ho,hc,n,hd⟩:=pl;exact RY p (.inr rfl) ho hc hd (λh' c' kp e=>fin its r' hz h' c' kp e) (by simp only[aY] <;> lia)
theorem SB:AM X (.type "tuple") (λxs H Q=>∃p ys,xs=[.ref p]/\((f8 X.K H p ys/\∀l,H l=none->Q (.ref l) (au H l (.tup ys)))\/(di X.K H p ys/\Q (.ref p) H))):=by
 intro pins s Z H xs us Q I r h;obtain⟨p,ys,rfl,h⟩:=h;obtain⟨u,rfl,rx⟩:=vals1 r;cases rx;rcases h with ⟨hq,q⟩ | ⟨hq,q⟩
 ·obtain⟨its,r',pl,hz⟩:=I.list hq;have hlen:=r'.length;refine call_tuple_list pl.isList (λh' kp=>?_) (by simp only[aY] <;> lia);have I1:Inv X pins Z H { s with heap:=h' }:=I.kept (t':=s.toks) kp;have I2:Inv X pins Z (au H h'.objs.size (.tup ys)) { s with heap:=h'.push { cls:=.type "tuple",data:=.seq its.toArray } } :=
   I1.laid (t':=s.toks) (λb o e=>aP _ e) (bK _) (show bi X.prog X.w _ _ _ (.tup ys) from ⟨hz,its,r',JA _ _⟩)
  exact⟨.ref h'.objs.size,_,I2,rfl,q _ (I1.hok.fresh (bK _))⟩
 ·obtain⟨its,r',pl,hz⟩:=I.tuple hq;exact call_tuple_same pl ⟨.ref p,H,I,rfl,q⟩
def O4 (K:aI) (T:String) (x:V) (H:Hp):Prop:=match x with
 | .str _=>T = "str"
 | .int _=>T = "int"
 | .ref p=>(T = "list"/\∃xs,f8 K H p xs)\/(T = "tuple"/\∃o,K.lookup p=some o/\o.cls = .type "tuple"/\o.dict=none) \/
   (T = "dict"/\((∃kvs,H p=some (.dK kvs))\/∃kvs,H p=some (.dT kvs)))\/(T = "set"/\∃S n,H p=some (.set S n))
 | _=>False
theorem Ol {Z:St} {s:aG} (I:Inv X pins Z H s) (r:RelV x v) (ty:O4 X.K T x H) :
  s.TypeIs v T/\∀a,v = .ref a->∃ob,s.heap.get? a=some ob/\ob.dict=none:=by
 cases x with
 | str z =>
  obtain⟨t,rfl⟩:=r;cases (show T = "str" from ty);exact⟨typeIs_str s z t,λ_ e=>nomatch e⟩
 | int i =>
  obtain⟨t,rfl⟩:=r;cases (show T = "int" from ty);exact⟨typeIs_int s i t,λ_ e=>nomatch e⟩
 | ref p =>
  cases r;rcases ty with ⟨rfl,xs,hq⟩ | ⟨rfl,o,hk,hc,hd⟩ | ⟨rfl,hk⟩ | ⟨rfl,S,n,hk⟩
  ·obtain⟨its,_,pl,_⟩:=I.list hq;refine⟨pl.isList.typeIs,λa e=>?_⟩;cases e;obtain⟨o,n,e,c,hd,_⟩:=pl;exact⟨o,e,hd⟩
  ·refine⟨⟨o,I.kIn p o hk,hc⟩,λa e=>?_⟩;cases e;exact⟨o,I.kIn _ o hk,hd⟩
  ·have z:∃o,s.heap.get? p=some o/\o.ExactDict:=by
    rcases hk with ⟨kvs,hk⟩ | ⟨kvs,hk⟩
    ·obtain⟨_,_,_,_,o,_,_,e,ex,_⟩:=I.hok p _ hk;exact⟨o,e,ex⟩
    ·obtain⟨_,_,_,_,o,_,_,e,ex,_⟩:=I.hok p _ hk;exact⟨o,e,ex⟩
   obtain⟨o,e,ex⟩:=z;refine⟨⟨o,e,ex.1⟩,λa e2=>?_⟩;cases e2;exact⟨o,e,ex.2.1⟩
  ·obtain⟨o,_,_,_,e,ex,_⟩:=I.hok p _ hk;refine⟨⟨o,e,ex.1⟩,λa e2=>?_⟩;cases e2;exact⟨o,e,ex.2.1⟩
 | _=>exact mN ty
def G1 (K:aI) (T:String) (r:V->List V->Hp->VK->Prop) (to:TE):TE:=λZ H Q=>to Z H λx H1=>O4 K T x H1/\r x [] H1 Q
def tBM (K:aI) (T:String) (r:V->List V->Hp->VK->Prop) (to:TE) (t:TA):TE:=λZ H Q=>to Z H λx H1=>O4 K T x H1/\t Z H1 λxs H2=>r x xs H2 Q
variable {o e:Expr} {es:List Expr} {to:TE} {t:TA} {name:Str} {apos cpos:Pos} {T id:String} {r:V->List V->Hp->VK->Prop}
theorem Ms (pa:PlainAttrs T) (slot:Slot T name id) (U3:typeOf (.builtin id)=pure (.type "method_descriptor")) (hm:D_ X id r) (ho:PE X o to)
  (dm:attributeBase o name X.env (eval o X.env)=eval o X.env:=by rfl) (dq:(apos.endLine == cpos.line)=true:=by rfl):PE X (.Call (.Attribute o name apos) [] [] cpos) (G1 X.K T r to):=by
 intro pins s Z H Q I h;refine wpAny_Call_method0_late dm dq (ci (ho pins s Z H _ I h) λv s1 ⟨x,H1,I1,r1,ty,q1⟩=>?_);obtain⟨h1,h2⟩:=Ol I1 r1 ty;exact⟨T,id,pa,slot,U3,h1,h2,xR rfl (PySem.evalArgs_none (hm pins s1 Z H1 x [] v [] Q I1 r1 .nil q1))⟩
theorem ZX (pa:PlainAttrs T) (slot:Slot T name id) (U3:typeOf (.builtin id)=pure (.type "method_descriptor")) (hm:D_ X id r) (ho:PE X o to) (ha:PA X (e::es) t)
  (dm:attributeBase o name X.env (eval o X.env)=eval o X.env:=by rfl)
  (kz:((backTo cpos (starEach (e::es) X.env)).all (λx=>!x.1) && (backToKw cpos (keywordEach [] X.env)).all (λx=>x.1.isSome)
   && decide ((e::es).length+([]:List pM).length+(if ([]:List pM).isEmpty then 0 else 1)<30))=true:=by rfl)
  (dq:(apos.endLine == cpos.line)=true:=by rfl) (hs:starEach (e::es) X.env=(false,eval e X.env)::starEach es X.env:=by rfl) (v5:(backTo cpos (starEach es X.env)).any (·.1)=false:=by rfl) :
  PE X (.Call (.Attribute o name apos) (e::es) [] cpos) (tBM X.K T r to t):=by
 intro pins s Z H Q I h;refine wpAny_Call_method_late dm kz dq rfl (ci (ho pins s Z H _ I h) λv s1 ⟨x,H1,I1,r1,ty,q1⟩=>?_);obtain⟨h1,h2⟩:=Ol I1 r1 ty;refine⟨T,id,pa,slot,U3,h1,h2,?_⟩;have hA:=ha cpos pins s1 Z H1 _ I1 q1;rw[hs] at hA ⊢;refine xR (by show (false || (backTo cpos (starEach es X.env)).any (·.1))=false;rw[v5] <;> rfl) (Calls.evalArgs_plain ?_);exact ci hA λus s2 ⟨vs,H2,I2,r2,q2⟩=>hm pins s2 Z H2 x vs v us Q I2 r1 r2 q2
end
def C_ (X:Cx) (id:String) (r:V->List V->Hp->VK->Prop):Prop :=
 ∀(pins:List (Addr × Obj)) (s:aG) (Z:St) (H:Hp) (x:V) (xs:List V) (v:aB) (us:List aB) (Q:VK),Inv X pins Z H s->RelV x v->am xs us->r x xs H Q ->
  wpAny (model X.prog X.w) X.A (call (.builtin id) (v::us)) (EP X pins Z Q) X.xe s
theorem am.one:∀{x:V} {us:List aB},am [x] us->∃u,us=[u]/\RelV x u
 | _,_,.cons r .nil=>⟨_,rfl,r⟩
theorem am.two:∀{x y:V} {us:List aB},am [x,y] us->∃u v,us=[u,v]/\RelV x u/\RelV y v
 | _,_,_,.cons r (.cons q .nil)=>⟨_,_,rfl,r,q⟩
theorem am.zero:∀{us:List aB},am [] us->us=[]
 | _,.nil=>rfl
theorem am.dropLast (h:am xs us):am xs.dropLast us.dropLast:=by
 induction h with
 | nil=>exact .nil
 | cons r t ih =>
  cases t with
  | nil=>exact .nil
  | cons q t'=>exact .cons r ih
theorem Cg {α:Type} (l:List α):l.eraseIdx (l.length-1)=l.dropLast:=by
 induction l with
 | nil=>rfl
 | cons a r ih =>
  cases r with
  | nil=>rfl
  | cons b r =>
   have e:(a::b::r).length-1=((b::r).length-1)+1:=by
    have h1:(a::b::r).length=r.length+2:=rfl;have h2:(b::r).length=r.length+1:=rfl;lia
   rw[e,List.eraseIdx_cons_succ,ih]
   all_goals rfl
section
variable {X:Cx} {pins:List (Addr × Obj)} {σ:St} {H:Hp} {s:aG} {l b:Addr} {xs ys zs:List V}
theorem Inv.lset {its its':List aB} {n:Nat} {f:Array aB->Array aB} {t':Nat} (I:Inv X pins σ H s) (hH:H l=some (.lst xs))
  (e:s.heap.get? l=some { cls:=.type "list",data:=.seq its.toArray n }) (hf:f its.toArray=its'.toArray) (hv:am ys its') (hz:ys.length<=sizeLine) :
  Inv X pins σ (au H l (.lst ys)) { s with heap:=s.heap.update l (eG f),toks:=t' }:=by
 have q:=JJ e f;rw[hf] at q;refine I.write (x:=l) (e:=l) (by rw[hH];exact trivial) (.inl rfl) (λb' u hb hu=>(cW s.heap (eG f) (Ne.symm hb)).trans hu) ⟨_,q⟩ ?_;exact⟨hz,its',_,hv,q⟩
theorem Inv.lnew (I:Inv X pins σ H s) (hv:am ys its) (hz:ys.length<=sizeLine) :
  Inv X pins σ (au H s.heap.objs.size (.lst ys)) { s with heap:=s.heap.push { cls:=.type "list",data:=.seq its.toArray },toks:=t' } :=
 I.laid (λ_ _ q=>aP _ q) (bK _) ⟨hz,its,0,hv,cL _ rfl⟩
theorem Inv.fresh (I:Inv X pins σ H s):H s.heap.objs.size=none:=I.hok.fresh (bK _)
theorem Inv.lstM (I:Inv X pins σ H s) (hH:H l=some (.lst xs)):xs.length<=sizeLine/\∃(its:List aB) (n:Nat),am xs its/\xs.length=its.length/\s.heap.get? l=some { cls:=.type "list",data:=.seq its.toArray n }:=by
 obtain⟨z,its,n,r,e⟩:=I.hok l _ hH;exact⟨z,its,n,r,r.length,e⟩
theorem Ml {n:Nat} (h:n<=sizeLine):lS n=false:=by
 unfold lS;exact decide_eq_false (by lia)
end
section
def Fy:V->List V->Hp->VK->Prop:=λx vs H Q=>∃l xs y,x = .ref l/\vs=[y]/\H l=some (.lst xs)/\xs.length<sizeLine/\Q .non (au H l (.lst (xs++[y])))
def UB:C_ X "list.append" Fy:=by
 intro pins s Z H x vs v us Q I rx rv h;obtain⟨l,xs,y,rfl,rfl,hH,hz,q⟩:=h;cases rx;obtain⟨u,rfl,ru⟩:=rv.one;obtain⟨z,its,n,r,hl,e⟩:=I.lstM hH;refine uI F.slot_list_append ⟨_,e,rfl⟩ F.entry_list_append (F.args_list_append_2 _ _) (GV l its.toArray n u (by rw[aY];lia)) ⟨e,?_⟩;refine⟨.non,_,I.lset (its':=its++[u]) hH e (by simp) (r.append (.cons ru .nil)) ?_,rfl,q⟩;rw[bJ,rK];lia
def E9:V->List V->Hp->VK->Prop:=λx vs H Q=>∃l xs y,x = .ref l/\vs=[]/\H l=some (.lst xs)/\xs[xs.length-1]? = some y/\Q y (au H l (.lst xs.dropLast))
def Vq:C_ X "list.pop" E9:=by
 intro pins s Z H x vs v us Q I rx rv h;obtain⟨l,xs,y,rfl,rfl,hH,hy,q⟩:=h;cases rx;have U4:=rv.zero;subst U4;obtain⟨z,its,n,r,hl,e⟩:=I.lstM hH;obtain⟨u,hu,ru⟩:=r.get hy;have hy':its.toArray[its.toArray.size-1]? = some u:=by
  show its.toArray[its.length-1]? = some u;rw[<-hZ,<-hl];exact hu
 refine uI F.slot_list_pop ⟨_,e,rfl⟩ F.entry_list_pop (F.args_list_pop_1 _) (MeetsSeq.list_pop_last l its.toArray n u hy' (by rw[aY];lia)) ⟨e,?_⟩;refine⟨y,_,I.lset (its':=its.dropLast) hH e ?_ r.dropLast ?_,ru,q⟩
 ·show its.toArray.eraseIdxIfInBounds (its.toArray.size-1)=its.dropLast.toArray;rw[aY,List.eraseIdxIfInBounds_toArray,Cg]
 ·rw[AS];lia
def Wr:V->List V->Hp->VK->Prop:=λx vs H Q=>∃l xs,x = .ref l/\vs=[]/\H l=some (.lst xs)/\Q .non (au H l (.lst []))
def Mi:C_ X "list.clear" Wr:=by
 intro pins s Z H x vs v us Q I rx rv h;obtain⟨l,xs,rfl,rfl,hH,q⟩:=h;cases rx;have U4:=rv.zero;subst U4;obtain⟨z,its,n,r,hl,e⟩:=I.lstM hH;refine uI F.slot_list_clear ⟨_,e,rfl⟩ F.entry_list_clear (F.args_list_clear_1 _) (AutoSeq1.list_clear_list_0 l its.toArray n (by rw[aY];lia)) ⟨e,?_⟩;exact⟨.non,_,I.lset (its':=[]) (ys:=[]) hH e rfl .nil (eV _),rfl,q⟩
end
end L2
namespace X9
open PySem PySem.W PySem.Calls PyProof.Rows
theorem MI:∀(ns:List Int) (vs:List aB),WellAll P h vs (ns.map WData.int)->IntsAre vs ns:=by
 intro ns
 induction ns with
 | nil =>
  intro vs w;rw[bZ] at w;cases w;exact .nil
 | cons n ns ih =>
  intro vs w;rw[aQ] at w;cases w with
  | cons a b =>
   cases a;exact .cons _ _ (ih _ b)
theorem Ja {l:OpenLaw} {n:Nat} (hn:l.most=some n) {P:Params} {h:Heap} {args:List WData} {vals:List aB}
  (s8:l.row.toRowW.claim.pre args=true) (U9:WellAll P h vals args) :
  ∃a vs ns,vals=[fS a]/\args=[WData.list (ns.map WData.int)]/\h.get? a=some { cls:=.type "list",data:=.seq vs.toArray }/\IntsAre vs ns/\ns.length<=n:=by
 have hsh:WShape.hasAll [] args [.list .int]=true:=(pre_splitW s8).1;have hc:l.pre.holds [] { args:=args } = true:=(pre_splitW s8).2;obtain⟨d,r,rfl,h1,h2⟩:=hasAllW_cons hsh;obtain rfl:=hasAllW_nil h2;obtain⟨xs,rfl,h3⟩:=hasW_list h1;obtain⟨ns,rfl⟩:=items_int h3;have hlen:ns.length<=n:=by
  unfold OpenLaw.pre at hc;have h4:(WTm.not (.lt (.lit (.int (n:Int))) (.len (.arg 0)))).holds [] { args:=[.list (ns.map .int)] } = true:=by
   have h4:=(holds_andW hc).1;rw[hn] at h4;exact h4
  have h5:=condW_of h4 (w_not (w_lt w_lit (w_len_list (w_arg rfl))));rw[aS] at h5;refine Nat.le_of_not_lt λq=>?_;have q':(n:Int)<((ns.length:Nat):Int):=by lia
  first
   | (rw[decide_eq_true q'] at h5;exact absurd h5 (by decide))
   | (simp at h5;lia)
 cases U9 with
 | cons w1 w2 =>
  cases w2;cases w1 with
  | list ho cg=>exact⟨_,_,ns,rfl,rfl,ho,MI ns _ cg,hlen⟩
def Im (l:OpenLaw) (args:List WData):l.row.toRowW.claim.post args (.bool true) args=true :=
 postW_of (r:=l.row.toRowW) (X:=(true == true))
  (show WShape.has [] (.bool true) .bool=true by first | rfl | decide | simp[WShape.has,WShape.arms,WShape.armsAll])
  (show (WTm.eq .res (.lit (.bool true))).value [] { args:=args,res:=some (.bool true),after:=args } = some (.bool (true == true)) from w_eq_bool (w_res rfl) w_lit) rfl
def attach_call {l:OpenLaw} {n:Nat} {q:bR} {loose:List Str} {XP:(Str->Option aB)->Heap->Prop} {YP:cT->Heap->Prop} {d:DefRec}
  (hn:l.most=some n) (vk:d.params.defaults=[])
  (call:∀(w:cT) (s₀ s₁:aG) (mg mb:Str->Option aB) (fa:Addr) (o:Obj) (pm cd doc:aB) (a:Addr) (vs:List aB) (ns:List Int),
   Ground q loose [] XP w s₀ mg mb s₁.heap->YP w s₁.heap ->
   s₁.heap.get? fa=some o->o.data = .func (docDef d.name d.params d.body d.scope pm cd doc)->s₁.heap.CodeRec cd d.name->mg d.name=some (.ref fa) ->
   s₁.heap.get? a=some { cls:=.type "list",data:=.seq vs.toArray }->IntsAre vs ns->ns.length<=n->s₁.gens = #[] ->
   codeAny (model l.prog w) callerA (.call (.ref fa) ⟨[.ref a],[]⟩) (λr s'=>r = .ok (.ret (.bool true))/\OldK s₁.heap s'.heap/\s'.os=s₁.os/\AllBare s'.gens) s₁) :
  WalkO q loose XP YP l.row.toRowW d [] (λf vs=>NS f vs):=by
 intro w s₀ s₁ mg mb G Y fa o pm cd doc dV kV ho hd g_ hD w8 hg args vals as s8 hlay hrd U9 M9;obtain rfl:dV = .none:=Dflts.none hD vk;obtain rfl:kV = .none:=Dflts.noKw hD;obtain⟨a,vs,ns,rfl,rfl,vw,hints,hlen⟩:=Ja hn s8 U9;refine enter_call (oK (call w s₀ s₁ mg mb fa o pm cd doc a vs ns G Y ho (fd_plain hd) g_ w8 vw hints hlen hg) λr s' hq=>?_);obtain⟨rfl,h2,h3,h4⟩:=hq;exact⟨.inl ⟨.bool true,.bool true,[],rfl,λ_=>rfl,.bool true,Im l _,λ_=>⟨lM,λ_ hm=>(nomatch hm)⟩⟩,h2,h3,h4⟩
end X9
namespace L2
open PySem PySem.Spec PyProof.Rows
theorem tQ:∀{vs:List aB} {ns:List Int},IntsAre vs ns->am (ns.map V.int) vs
 | _,_,.nil=>.nil
 | _,_,.cons n t h=>.cons ⟨t,rfl⟩ (tQ h)
def Ov (H:Hp):Prop:=∀b,H b=none\/∃o xs,H b=some (.frz o (.lst xs))
theorem Ly {P:bR} {w:cT} {K:aI} {mg mb:Str->Option aB} {CX:qt} {k:Nat} {fa a:Addr} {fd:lZ} {x:Str} {sp:Sp} {s₁:aG} {vs:List aB} {ns:List Int}
  (KX:K.In s₁.heap) (hns:s₁.heap.Ns mainGlobals mg) (hb:s₁.heap.Ns builtinsNs mb) (hbb:∀x:Str,x≠"__name__"->mb x=bootBuiltins x) (S9:s₁.heap.NoLimit) (hg:s₁.gens = #[])
  (ha:s₁.heap.get? a=some { cls:=.type "list",data:=.seq vs.toArray }) (hi:IntsAre vs ns) (hl:ns.length<=sizeLine) (hr:ce k callerA)
  (F:∀base:Heap,K.In base->base.Ns mainGlobals mg->gu P w K mg base CX k fa fd [x] sp) (yq:∀(s:aG) (u:aB),BindsTo s fd ⟨[u],[]⟩ [(x,u)])
  (ui:∀H:Hp,Ov H->f8 K H a (ns.map V.int)->sp [.ref a] H (λv _=>v = .bl true) λ_ _ _=>False)
  (Q6:∀H e s',CX [] H s₁ (λ_ _ _=>False) e s'->False) :
  codeAny (model P w) callerA (.call (.ref fa) ⟨[.ref a],[]⟩) (λr s'=>r = .ok (.ret (.bool true))/\OldK s₁.heap s'.heap/\s'.os=s₁.os/\AllBare s'.gens) s₁:=by
 have rv:=tQ hi;have W4:=hi.length;have core:∀H:Hp,Ov H->f8 K H a (ns.map V.int)->fe P w H s₁.heap->(∀b,H b≠none->b=a)->(H a≠none->K.lookup a=none) ->
   codeAny (model P w) callerA (.call (.ref fa) ⟨[.ref a],[]⟩) (λr s'=>r = .ok (.ret (.bool true))/\OldK s₁.heap s'.heap/\s'.os=s₁.os/\AllBare s'.gens) s₁:=by
  intro H hO hS hok hA hK;have oh:∀{b:Addr} {o:Obj},s₁.heap.get? b=some o->H b=none->(VY s₁.heap H).get? b=some o:=λe n=>Lg e n;have zt:∀{b:Addr} {o:Obj} {es:Array DictEntry} {ep:Nat},s₁.heap.get? b=some o->o.data = .dict es ep->H b=none:=λ{b o es ep} e d=>by
   cases q:H b with
   | none=>rfl
   | some u =>
    have e':b=a:=hA b (by rw[q];simp);subst e';rw[ha] at e;cases e;have d':Data.seq vs.toArray _=Data.dict es ep:=d;cases d'
  have N8:∀{b:Addr} {m:Str->Option aB},s₁.heap.Ns b m->(VY s₁.heap H).Ns b m:=λ{b m} ⟨o,es,ep,e,d,r⟩=>⟨o,es,ep,oh e (zt e d),d,r⟩;have hKb:K.In (VY s₁.heap H):=λb o e=>oh (KX b o e) (by
   cases q:H b with
   | none=>rfl
   | some u =>
    have e':b=a:=hA b (by rw[q];simp);subst e';rw[hK (by rw[q];simp)] at e;cases e)
  have hM:Mod K mg (VY s₁.heap H):=⟨hKb,N8 hns,⟨mb,N8 hb,hbb⟩,let ⟨mc,h1,h2⟩:=S9;⟨mc,N8 h1,h2⟩⟩;have e0:ro P w K mg (VY s₁.heap H) callerA [] s₁ H:=⟨rfl,hM,λb o e=>Ra e,xZ (Hg _ _),trivial,λb hb=>absurd (show b∈([]:List Addr) from hb) (by simp),hok,.of_eq hg⟩;refine oK ((F _ hKb (N8 hns)).run callerA [] s₁ H ⟨[.ref a],[]⟩ [.ref a] [.ref a] _ _ hr e0 (yq s₁ (.ref a)) (.cons rfl .nil) (ui H hO hS)) λr s' h=>?_;cases r with
  | error e=>exact (Q6 H e s' h).elim
  | ok fl =>
   cases fl with
   | next=>exact mN h
   | brk=>exact mN h
   | cont=>exact mN h
   | ret u =>
    obtain⟨v,H',os,bare,un,T8,r',q⟩:=h;have q':v = .bl true:=q;subst q';obtain rfl:u=yI true:=r';refine⟨rfl,OldK.of_keep λb o e=>?_,os,bare⟩;cases q:H b with
    | none=>exact un.keep b o e q (by intro z;exact absurd (show b∈([]:List Addr) from z) (by simp)) (by simp)
    | some u =>
     rcases hO b with z | ⟨ob,xs,z⟩
     ·rw[q] at z;cases z
     ·have z2:=un.frzs b ob _ z;obtain⟨e1,_⟩:=hok b _ z;obtain⟨e2,_⟩:=T8 b _ z2;rw[e] at e1;cases e1;exact e2
 cases hk:K.lookup a with
 | some o =>
  have e:=KX a o hk;rw[ha] at e;cases e;refine core (λ_=>none) (λ_=>.inl rfl) (.inr ⟨_,vs.toArray,_,hk,rfl,rfl,rfl,by rw[aY,W4];exact hl,by simpa using rv⟩) (λb u z=>by have z':(none:Option HO)=some u:=z;cases z') (λb z=>absurd rfl z) λz=>absurd rfl z
 | none =>
  refine core (λb=>if b=a then some (.frz { cls:=.type "list",data:=.seq vs.toArray } (.lst (ns.map V.int))) else none) (λb=>?_) (.inl (.inr ⟨{ cls:=.type "list",data:=.seq vs.toArray },if_pos rfl⟩)) (λb u z=>?_) (λb z=>?_) λ_=>hk
  ·by_cases hb:b=a
   ·exact .inr ⟨_,_,if_pos hb⟩
   ·exact .inl (if_neg hb)
  ·by_cases hb:b=a
   ·have z':=(if_pos hb).symm.trans z;cases z';subst hb;exact⟨ha,by rw[aS];exact hl,vs,_,rv,ha⟩
   ·have z':=(if_neg hb).symm.trans z;cases z'
  ·by_cases hb:b=a
   ·exact hb
   ·exact absurd (if_neg hb) z
abbrev KOf {K:aI} {h:Heap} (_:K.In h):aI:=K
def tw {l:MG} {n k:Nat} {q:bR} {loose:List Str} {XP:(Str->Option aB)->Heap->Prop} {YP:cT->Heap->Prop} {d:DefRec} {K:Params->aI} {CX:cT->qt} {sp:cT->Sp} {x:Str}
  (hn:l.most=some n) (hn2:n<=sizeLine) (vk:d.params.defaults=[]) (hr:ce k callerA)
  (hY:∀(w:cT) (h:Heap),YP w h->(K w.params).In h)
  (F:∀(w:cT) (mg:Str->Option aB) (fa:Addr) (h:Heap),(K w.params).In h->h.Ns mainGlobals mg->mg d.name=some (.ref fa) ->
   ∃fd:lZ,(∀(s:aG) (u:aB),BindsTo s fd ⟨[u],[]⟩ [(x,u)]) /\
    ∀base:Heap,(K w.params).In base->base.Ns mainGlobals mg->gu l.prog w (K w.params) mg base (CX w) k fa fd [x] (sp w))
  (ui:∀(w:cT) (H:Hp) (a:Addr) (ns:List Int),ns.length<=n->Ov H->f8 (K w.params) H a (ns.map V.int)->sp w [.ref a] H (λv _=>v = .bl true) λ_ _ _=>False)
  (Q6:∀(w:cT) (H:Hp) (s:aG) (e:aB) (s':aG),CX w [] H s (λ_ _ _=>False) e s'->False) :
  RU q loose XP YP l.row.toRowW d [] (λf vs=>NS f vs):=by
 refine X9.attach_call hn vk λw s₀ s₁ mg mb fa o pm cd doc a vs ns G Y ho hd g_ w8 vw hints hlen hg=>?_;have KX:=hY w _ Y;obtain⟨fd,hb,hF⟩:=F w mg fa _ KX G.T.g w8;exact Ly KX G.T.g G.T.b G.T.builtins G.T.nolimit hg vw hints (eJ hlen hn2) hr hF hb (λH hO hS=>ui w H a ns hlen hO hS) λH e s'=>Q6 w H s₁ e s'
def HJ (s:Stmt):Arguments:=match s with
 | .FunctionDef _ a _ _ _ _ _ _ _ _=>a
 | _=>{ posonlyargs:=[],args:=[],vararg:=none,kwonlyargs:=[],kw_defaults:=[],kwarg:=none,defaults:=[] }
def pR (s:Stmt):List Stmt:=match s with
 | .FunctionDef _ _ b _ _ _ _ _ _ _=>b
 | _=>[]
def fB (s:Stmt):Scope:=match s with
 | .FunctionDef _ _ _ _ _ _ sc _ _ _=>sc
 | _=>{ kind:=.function,names:=[],isGenerator:=false,isCoroutine:=false }
abbrev iz:qt:=λ_ _ _ _ _ _=>False
abbrev E0:XK:=λ_ _ _=>False
def Mr:Bu iz X E0:=λ_ _ _ _ _ _ _ h=>h.elim
structure tx (K:aI) (x qual:Str) (st:Stmt) (f:Addr) (fd:lZ):Prop where
 ex:∃(oc:aB) (od:Option Addr) (kV doc pm:aB) (an:Option Addr) (cdv ct:aB) (rh:Array (Option aB)),
  fd=oI x qual (HJ st) (pR st) (fB st) .none kV doc pm an cdv ct/\K.lookup f=some ⟨oc,od,.func fd,rh⟩/\uF K cdv qual=true
 kp:kT K (.ref f)=true
section
variable {P:bR} {w:cT} {K:aI} {mg:Str->Option aB} {base:Heap}
theorem tx.ok {x qual:Str} {st:Stmt} {f:Addr} {fd:lZ} {N ps:List Str} {k:Nat} {sp:Sp} (F:tx K x qual st f fd) (S:dz N ps (fB st)) (len:∀vs H Q E,sp vs H Q E->vs.length=ps.length)
  (fc:∀(cdv:aB) (A:cZ) (outer:List Env) (s:aG) (H:Hp) (vs:List V) (Q:VK) (E:XK),ce k (A.deeper (envOfC qual (fB st) s.heap.objs.size f cdv))->sp vs H Q E ->
   ∃t,fk (yK iz P w K mg base N qual (fB st) f cdv A outer s H E).nox (pR st) t/\t { nx:=λ_ H'=>Q .non H',rt:=Q } (start N vs) H):gu P w K mg base iz (k+1) f fd ps sp:=by
 obtain⟨oc,od,kV,doc,pm,an,cdv,ct,rh,rfl,lk,g_⟩:=F.ex;refine Yp lk g_ S len λA outer s H vs Q E hr ui=>?_;obtain⟨t,h,q⟩:=fc cdv A outer s H vs Q E hr ui;exact⟨t,h.nox,q⟩
theorem Uw {x qual:Str} {st:Stmt} {f:Addr} {oc:aB} {od an:Option Addr} {rh:Array (Option aB)} {kV doc pm cdv ct:aB} (l:K.lookup f=some ⟨oc,od,.func (oI x qual (HJ st) (pR st) (fB st) .none kV doc pm an cdv ct),rh⟩)
  (c:uF K cdv qual=true) (k:kT K (.ref f)=true):tx K x qual st f (oI x qual (HJ st) (pR st) (fB st) .none kV doc pm an cdv ct):=⟨⟨oc,od,kV,doc,pm,an,cdv,ct,rh,rfl,l,c⟩,k⟩
end
section
variable {X:Cx}
theorem pv (i:Nat) {x:Str} {pos:Pos} (hN:X.N[i]? = some x:=by rfl) (hv:kn X.env.scope x:=by walk_at "vis") (hd:(x == ("__debug__":Str))=false:=by decide)
  (g_:(x == ("__classdict__":Str))=false:=by decide):PE X (.Name x pos) (B7 i):=Wf hN hv hd g_
end
def ae (H H':Hp):Prop:=∀b o,H b=some o->H' b=some o
def ae.refl (H:Hp):ae H H:=λ_ _ h=>h
def ae.trans (a:ae H H1) (b:ae H1 H2):ae H H2:=λc o h=>b c o (a c o h)
theorem ae.free (e:ae H H') (h:H' l=AY):H l=AY:=by
 cases q:H l with
 | none=>rfl
 | some o =>
  rw[e l o q] at h;cases h
end L2
namespace L2.R2
abbrev Pt:=Int × Int
def cK (a b c:Pt):Int:=(b.1-a.1)*(c.2-a.2)-(b.2-a.2)*(c.1-a.1)
def br (a b:Pt):Prop:=a.1<b.1\/(a.1=b.1/\a.2<b.2)
instance (a b:Pt):Decidable (br a b):=by unfold br;infer_instance
def tH:¬br a a:=λh=>h.elim (oZ _) λh=>oZ _ h.2
def qE {a b c:Pt} (h:br a b) (k:br b c):br a c:=by
 rcases h with h | ⟨h,h'⟩
 ·exact fD (k.elim (Int.lt_trans h) λk=>k.1 ▸ h)
 ·exact k.elim (λk=>fD (h ▸ k)) λk=>fE ⟨h.trans k.1,Int.lt_trans h' k.2⟩
def pS (a b:Pt):br a b\/a=b\/br b a:=by
 rcases iW a.1 b.1 with h | h | h
 ·exact fD (fD h)
 ·rcases iW a.2 b.2 with k | k | k
  ·exact fD (fE ⟨h,k⟩)
  ·exact fE (fD (kR h k))
  ·exact fE (fE (fE ⟨h.symm,k⟩))
 ·exact fE (fE (fD h))
def tO (h:br a b):¬br b a:=λk=>tH (qE h k)
def LP (x y:Int):Prop:=0<x\/(x=0/\0<y)
def qM (h:br a b):LP (b.1-a.1) (b.2-a.2):=h.elim (λh=>fD (GL h)) λh=>fE ⟨by rw[h.1,Int.sub_self],GL h.2⟩
def NN (h:LP x y) (k:LP x' y'):LP (x+x') (y+y'):=by
 rcases h with h | ⟨rfl,h'⟩ <;> rcases k with k | ⟨rfl,k'⟩
 ·exact fD (Int.add_pos h k)
 ·exact fD (by rw[sY];exact h)
 ·exact fD (by rw[Int.zero_add];exact k)
 ·exact fE ⟨rfl,Int.add_pos h' k'⟩
def tD (hk:0<k) (h:LP x y):LP (k*x) (k*y):=by
 unfold LP at *;rcases h with h | ⟨h,h'⟩
 ·exact fD (aL hk h)
 ·exact fE ⟨by rw[h,sZ],aL hk h'⟩
def Eg (hk:0<=k) (h:LP x y) (h0:LP z w):LP (z+k*x) (w+k*y):=by
 rcases tW hk with h' | rfl
 ·exact NN h0 (tD h' h)
 ·rw[qL,qL,sY,sY];exact h0
def Ss (h:LP 0 0):False:=h.elim (oZ _) λh=>oZ _ h.2
def Bs (h:LP x y) (hk:LP (k*x) (k*y)):0<k:=by
 unfold LP at *;rcases h with h | ⟨h,h'⟩
 ·rcases hk with hk | ⟨hk,_⟩
  ·exact jQ hk h |> λh=>h
  ·rcases sH.mp hk with e | e
   ·subst e;simp at *;
   ·lia
 ·subst h;rcases hk with hk | ⟨_,hk⟩
  ·simp at hk
  ·exact jQ hk h'
def VB (hu:LP ux uy) (hv:LP vx vy) (hw:LP wx wy) (h:0<ux*vy-uy*vx) (k:0<vx*wy-vy*wx) :
  0<ux*(vy+wy)-uy*(vx+wx)/\0<(ux+vx)*wy-(uy+vy)*wx:=by
 constructor
 ·refine Bs hv (?_:LP _ _);have:=NN (tD h (NN hv hw)) (tD k hu);have e1:(ux*(vy+wy)-uy*(vx+wx))*vx=(ux*vy-uy*vx)*(vx+wx)+(vx*wy-vy*wx)*ux:=by grind
  have e2:(ux*(vy+wy)-uy*(vx+wx))*vy=(ux*vy-uy*vx)*(vy+wy)+(vx*wy-vy*wx)*uy:=by grind
  rw[e1,e2];exact this
 ·refine Bs hv (?_:LP _ _);have:=NN (tD h hw) (tD k (NN hu hv));have e1:((ux+vx)*wy-(uy+vy)*wx)*vx=(ux*vy-uy*vx)*wx+(vx*wy-vy*wx)*(ux+vx):=by grind
  have e2:((ux+vx)*wy-(uy+vy)*wx)*vy=(ux*vy-uy*vx)*wy+(vx*wy-vy*wx)*(uy+vy):=by grind
  rw[e1,e2];exact this
def Bi {a b c d:Pt} (ab:br a b) (bc:br b c) (cd:br c d) (h:0<cK a b c) (k:0<cK b c d):0<cK a b d/\0<cK a c d:=by
 have:=VB (qM ab) (qM bc) (qM cd) (by unfold cK at h;grind) (by unfold cK at k;grind);unfold cK;constructor
 ·have:=this.1;grind
 ·have:=this.2;grind
def Sq (A:LP ax ay) (P:LP px py) (V:LP vx vy) (hc:0<ux*vy-uy*vx) (m0:0<=-(ux*ay-uy*ax)) (x0:0<=ax*vy-ay*vx) (y0:0<=ux*py-uy*px) (n0:0<=vx*py-vy*px):0<ax*py-ay*px:=by
 have CA:=tD hc A;have S:=Eg m0 V CA;rw[show (ux*vy-uy*vx)*ax + -(ux*ay-uy*ax)*vx=(ax*vy-ay*vx)*ux by grind,show (ux*vy-uy*vx)*ay + -(ux*ay-uy*ax)*vy=(ax*vy-ay*vx)*uy by grind] at S;have hx:0<ax*vy-ay*vx:=by
  rcases tW x0 with h | h
  ·exact h
  ·rw[<-h,qL,qL] at S;exact (Ss S).elim
 have T:=Eg n0 CA (tD hx (tD hc P));rw[show (ax*vy-ay*vx)*((ux*vy-uy*vx)*px)+(vx*py-vy*px)*((ux*vy-uy*vx)*ax)=((ax*py-ay*px)*(ux*vy-uy*vx))*vx by grind,show (ax*vy-ay*vx)*((ux*vy-uy*vx)*py)+(vx*py-vy*px)*((ux*vy-uy*vx)*ay)=((ax*py-ay*px)*(ux*vy-uy*vx))*vy by grind] at T;exact jQ (Bs V T) hc
def Bk (h0:br b c0) (ha:br a b) (hp:br b p) (hc:0<cK a0 b c0) (h1:0<=cK a0 b a) (h2:0<=cK b c0 a) (h3:0<=cK a0 b p) (h4:0<=cK b c0 p):0<cK a b p:=by
 have A:=qM ha;have P:=qM hp;have U2:=qM h0;have sk:0<(b.1-a0.1)*(c0.2-b.2)-(b.2-a0.2)*(c0.1-b.1):=by
  have e:cK a0 b c0=(b.1-a0.1)*(c0.2-b.2)-(b.2-a0.2)*(c0.1-b.1):=by { unfold cK;grind }
  rw[<-e];exact hc
 have m0:0<=-((b.1-a0.1)*(b.2-a.2)-(b.2-a0.2)*(b.1-a.1)):=by
  have e:cK a0 b a = -((b.1-a0.1)*(b.2-a.2)-(b.2-a0.2)*(b.1-a.1)):=by unfold cK;grind
  rw[<-e];exact h1
 have x0:0<=(b.1-a.1)*(c0.2-b.2)-(b.2-a.2)*(c0.1-b.1):=by
  have e:cK b c0 a=(b.1-a.1)*(c0.2-b.2)-(b.2-a.2)*(c0.1-b.1):=by unfold cK;grind
  rw[<-e];exact h2
 have y0:0<=(b.1-a0.1)*(p.2-b.2)-(b.2-a0.2)*(p.1-b.1):=by
  have e:cK a0 b p=(b.1-a0.1)*(p.2-b.2)-(b.2-a0.2)*(p.1-b.1):=by unfold cK;grind
  rw[<-e];exact h3
 have n0:0<=(c0.1-b.1)*(p.2-b.2)-(c0.2-b.2)*(p.1-b.1):=by
  have e:cK b c0 p=(c0.1-b.1)*(p.2-b.2)-(c0.2-b.2)*(p.1-b.1):=by unfold cK;grind
  rw[<-e];exact h4
 have goal:cK a b p=(b.1-a.1)*(p.2-b.2)-(b.2-a.2)*(p.1-b.1):=by unfold cK;grind
 rw[goal];exact Sq A P U2 sk m0 x0 y0 n0
def jP (p:Pt):List Pt->List Pt
 | b::a::r=>if cK a b p<=0 then jP p (a::r) else b::a::r
 | s=>s
def kC (L:List Pt):List Pt:=L.foldl (λs p=>p::jP p s) []
def kh (s:List Pt):Prop:=s.Pairwise λx y=>br y x
def gh (s:List Pt):Prop:=s.Pairwise br
def wm (s:List Pt):Prop:=∀c b a,[c,b,a].Sublist s->0<cK a b c
def Seen (p:Pt) (s:List Pt):Prop:=∀b a,[b,a].Sublist s->0<cK a b p
theorem LQ (p:Pt):∀s,∃l,s=l++jP p s
 | []=>⟨[],rfl⟩
 | [_]=>⟨[],rfl⟩
 | b::a::r=>by
  unfold jP;split
  ·obtain⟨l,e⟩:=LQ p (a::r);exact⟨b::l,by rw[bI,<-e]⟩
  ·exact⟨[],rfl⟩
def xB (p:Pt) (s:List Pt):(jP p s).Sublist s:=by
 obtain⟨l,e⟩:=LQ p s
 conv=>rhs;rw[e]
 exact List.sublist_append_right _ _
theorem Fv (p:Pt):∀s,s≠[]->jP p s≠[]
 | [],h=>h
 | [_],_=>by simp[jP]
 | b::a::r,_=>by
  unfold jP;split
  ·exact Fv p (a::r) (by simp)
  ·simp
theorem Ae (p:Pt):∀s b a r,jP p s=b::a::r->0<cK a b p
 | [],_,_,_,h=>by simp[jP] at h
 | [_],_,_,_,h=>by simp[jP] at h
 | b'::a'::r',b,a,r,h=>by
  unfold jP at h;split at h
  ·exact Ae p (a'::r') b a r h
  ·rename_i hn;cases h;lia
def kh.mem {s:List Pt} (h:kh (b::r)) (ha:a∈r):br a b:=(cG.mp h).1 a ha
theorem F9 {α:Type} {b a b0:α} {r:List α} (h:[b,a].Sublist (b0::r)):(b=b0/\a∈r)\/[b,a].Sublist r:=by
 cases h with
 | cons _ h=>exact fE h
 | cons_cons _ h=>exact fD ⟨rfl,by simpa using h⟩
def Bb (d:kh (b0::a0::r)) (t:wm (b0::a0::r)) (hp:br b0 p) (h:0<cK a0 b0 p):Seen p (b0::a0::r):=by
 have top:∀a,a∈a0::r->0<cK a b0 p:=by
  intro a ha;rcases aJ.mp ha with rfl | ha
  ·exact h
  ·have t1:0<cK a a0 b0:=t b0 a0 a (by simpa using ha);exact (Bi (kh.mem (s:=[]) (cG.mp d).2 ha) (kh.mem (s:=[]) d (by simp)) hp t1 h).2
 intro b a hs;rcases F9 hs with ⟨rfl,ha⟩ | hs
 ·exact top a ha
 ·have hb:b∈a0::r:=hs.subset (by simp);have t1:0<cK a b b0:=t b0 b a (hs.cons_cons b0);have g9:br a b:=by
   have d':kh [b,a]:=kZ hs (cG.mp d).2;exact (cG.mp d').1 a (by simp)
  exact (Bi g9 (kh.mem (s:=[]) d hb) hp t1 (top b hb)).1
theorem Sg {s:List Pt} (d:kh s) (t:wm s) (hp:∀q∈s,br q p):kh (p::jP p s)/\wm (p::jP p s):=by
 have hs:=xB p s;have d':kh (jP p s):=kZ hs d;have t':wm (jP p s):=λc b a h=>t c b a (h.trans hs);have ke:∀q∈jP p s,br q p:=λq hq=>hp q (hs.subset hq);have sn:Seen p (jP p s):=by
  generalize e:jP p s=u at *
  match u,e with
  | [],_=>intro b a h;cases h
  | [x],_=>intro b a h;have:=h.length_le;simp at this
  | b::a::r,e=>exact Bb d' t' (ke b (by simp)) (Ae p s b a r e)
 refine⟨cG.mpr ⟨ke,d'⟩,?_⟩;intro c b a h;cases h with
 | cons _ h=>exact t' c b a h
 | cons_cons _ h=>exact sn b a h
structure dc (L C:List Pt):Prop where
 inc:gh C
 mem:∀q∈C,q∈L
 first:∀q∈L,∀c r,C=c::r->¬br q c
 last:∀q∈L,∀c l,C=l++[c]->¬br c q
 side:∀l a b r,C=l++a::b::r->∀q∈L,0<=cK a b q
 bend:∀l a b c r,C=l++a::b::c::r->0<cK a b c
def dc.vertex (H:dc L C) (hb:b∈C) (ha:a∈L) (hp:p∈L) (ab:br a b) (bp:br b p):0<cK a b p:=by
 obtain⟨l,r,e⟩:=tY hb;rcases fM l with rfl | ⟨l',a0,rfl⟩
 ·exact absurd ab (H.first a ha b r e)
 ·match r with
  | []=>exact absurd bp (H.last p hp b _ e)
  | c0::r' =>
   have e1:C=l'++a0::b::c0::r':=(by simpa using e);have e2:C=(l'++[a0])++b::c0::r':=(by simpa using e);have i:=H.inc;rw[e2] at i;have bc:br b c0:=(cG.mp (jO.mp i).2.1).1 c0 (by simp);exact Bk bc ab bp (H.bend _ _ _ _ _ e1) (H.side _ _ _ _ e1 a ha) (H.side _ _ _ _ e2 a ha) (H.side _ _ _ _ e1 p hp) (H.side _ _ _ _ e2 p hp)
theorem UG (H:dc L C) (hp:p∈L):∀s,kh s->(∀q∈s,q∈L)->(∀q∈s,br q p)->∀c∈C,c∈s->c∈jP p s
 | [],_,_,_,_,_,h=>h
 | [_],_,_,_,_,_,h=>h
 | b::a::r,d,m,lt,c,hc,h=>by
  unfold jP;split
  ·rename_i ht;rcases aJ.mp h with rfl | h
   ·exact absurd (H.vertex hc (m a (by simp)) hp (kh.mem (s:=[]) d (by simp)) (lt _ (by simp))) (by lia)
   ·exact UG H hp (a::r) (cG.mp d).2 (λq hq=>m q (aO _ hq)) (λq hq=>lt q (aO _ hq)) c hc h
  ·exact h
theorem Gn (H:dc L C):∀(R:List Pt) (s:List Pt),(∀q∈R,q∈L)->gh R->kh s->wm s->(∀q∈s,q∈L)->(∀q∈s,∀p∈R,br q p)->(∀c∈C,c∈s\/c∈R) ->
  let S:=R.foldl (λs p=>p::jP p s) s
  kh S/\wm S/\(∀q∈S,q∈L)/\(∀c∈C,c∈S)
 | [],s,_,_,d,t,m,_,hc=>⟨d,t,m,λc h=>by simpa using hc c h⟩
 | p::R,s,hR,i,d,t,m,lt,hc=>by
  have ok:=Sg d t (p:=p) (λq hq=>lt q hq p (by simp));refine Gn H R (p::jP p s) (λq hq=>hR q (aO _ hq)) (cG.mp i).2 ok.1 ok.2 ?_ ?_ ?_
  ·intro q hq;rcases aJ.mp hq with rfl | hq
   ·exact hR _ (by simp)
   ·exact m q ((xB p s).subset hq)
  ·intro q hq r hr;rcases aJ.mp hq with rfl | hq
   ·exact (cG.mp i).1 r hr
   ·exact lt q ((xB p s).subset hq) r (aO _ hr)
  ·intro c yr;rcases hc c yr with h | h
   ·exact fD (aO _ (UG H (hR p (by simp)) s d m (λq hq=>lt q hq p (by simp)) c yr h))
   ·rcases aJ.mp h with rfl | h
    ·exact fD (by simp)
    ·exact fE h
theorem El:∀(C:List Pt) (t:Pt),t ∉ C->(∃c∈C,br c t)->(∃d∈C,br t d)->gh C->∃l c d r,C=l++c::d::r/\br c t/\br t d
 | [],_,_,⟨_,h,_⟩,_,_=>by cases h
 | [x],t,_,⟨c,hc,h⟩,⟨d,hd,k⟩,_=>by
  simp at hc hd;subst hc;subst hd;exact absurd k (tO h)
 | x::y::r,t,ht,⟨c,hc,h⟩,⟨d,hd,k⟩,i=>by
  have hxt:br x t:=by
   rcases aJ.mp hc with rfl | hc
   ·exact h
   ·exact qE ((cG.mp i).1 c hc) h
  rcases pS y t with hy | rfl | hy
  ·have sr:d∈y::r:=by
    rcases aJ.mp hd with rfl | hd
    ·exact absurd k (tO hxt)
    ·exact hd
   obtain⟨l,c',d',r',e,h1,h2⟩:=El (y::r) t (λh=>ht (aO _ h)) ⟨y,by simp,hy⟩ ⟨d,sr,k⟩ (cG.mp i).2;exact⟨x::l,c',d',r',by rw[e];rfl,h1,h2⟩
  ·simp at ht
  ·exact⟨[],x,y,r,rfl,hxt,hy⟩
theorem WA:∀(A B:List Pt),gh A->gh B->(∀q,q∈A↔q∈B)->A=B
 | [],[],_,_,_=>rfl
 | [],b::B,_,_,h=>absurd ((h b).mpr (by simp)) (by simp)
 | a::A,[],_,_,h=>absurd ((h a).mp (by simp)) (by simp)
 | a::A,b::B,ia,ib,h=>by
  have v6:=cG.mp ia;have uj:=cG.mp ib;have e:a=b:=by
   rcases aJ.mp ((h a).mp (by simp)) with e | ha
   ·exact e
   ·rcases aJ.mp ((h b).mpr (by simp)) with e | hb
    ·exact e.symm
    ·exact absurd (uj.1 a ha) (tO (v6.1 b hb))
  subst e;congr 1;refine WA A B v6.2 uj.2 λq=>⟨λhq=>?_,λhq=>?_⟩
  ·rcases aJ.mp ((h q).mp (aO _ hq)) with rfl | h'
   ·exact absurd (v6.1 q hq) tH
   ·exact h'
  ·rcases aJ.mp ((h q).mpr (aO _ hq)) with rfl | h'
   ·exact absurd (uj.1 q hq) tH
   ·exact h'
theorem Qh (A B:List Pt) (ia:gh A) (ib:gh B) (h:∀x∈A,x∈B):A.Sublist B:=by
 induction B generalizing A with
 | nil =>
  cases A with
  | nil=>exact GM _
  | cons a A=>cases h a (.head _)
 | cons b B ih =>
  cases A with
  | nil=>exact List.nil_sublist _
  | cons a A =>
   have v6:=cG.mp ia;have uj:=cG.mp ib;rcases aJ.mp (h a (.head _)) with rfl | ha
   ·exact (ih A v6.2 uj.2 λx hx=>(aJ.mp (h x (.tail _ hx))).resolve_left λe=>tH (e ▸ v6.1 x hx)).cons_cons a
   ·refine (ih (a::A) ia uj.2 λx hx=>(aJ.mp (h x hx)).resolve_left λe=>?_).cons b;rcases aJ.mp hx with k | hx
    ·exact tH (k ▸ e ▸ uj.1 a ha)
    ·exact tO (v6.1 x hx) (e ▸ uj.1 a ha)
def YX (iL:gh L) (H:dc L C) (gz:C≠[]):(kC L).reverse=C:=by
 obtain⟨d,t,m,k⟩:=Gn H L [] (λ_ h=>h) iL lM (λ_ _ _ h=>by cases h) (λ_ h=>by cases h) (λ_ h=>by cases h) (λc hc=>fE (H.mem c hc));have inc:gh (kC L).reverse:=nE.mpr d;refine WA _ _ inc H.inc λq=>⟨λhq=>?_,λhq=>oG.mpr (k q hq)⟩;apply Decidable.byContradiction;intro hn;have hq':q∈kC L:=oG.mp hq;have hL:=m q hq';have h1:∃c∈C,br c q:=by
  match C,gz with
  | c::r,_ =>
   refine⟨c,by simp,?_⟩;rcases pS c q with h | rfl | h
   ·exact h
   ·simp at hn
   ·exact absurd h (H.first q hL c r rfl)
 have h2:∃d∈C,br q d:=by
  rcases fM C with e | ⟨l,c,e⟩
  ·exact absurd e gz
  ·refine⟨c,by simp[e],?_⟩;rcases pS q c with h | rfl | h
   ·exact h
   ·simp[e] at hn
   ·exact absurd h (H.last q hL c l (by simpa using e))
 obtain⟨l,c,e,r,eC,hc,he⟩:=El C q hn h1 h2 H.inc;have hs:[e,q,c].Sublist (kC L):=by
  have i3:gh [c,q,e]:=by
   exact .cons (λx hx=>(aJ.mp hx).elim (λe=>e ▸ hc) λh=>cR.mp h ▸ qE hc he) (.cons (λx hx=>cR.mp hx ▸ he) (.cons (λx hx=>by cases hx) .nil))
  have:[c,q,e].Sublist (kC L).reverse:=by
   refine Qh _ _ i3 inc λx hx=>?_;rw[oG];rcases aJ.mp hx with rfl | hx
   ·exact k _ (eC ▸ bG _ (.head _))
   ·rcases aJ.mp hx with rfl | hx
    ·exact hq'
    ·exact k _ (cR.mp hx ▸ eC ▸ bG _ (.tail _ (.head _)))
  simpa using this.reverse
 have t1:=t e q c hs;have t2:=H.side l c e r eC q hL;have:cK c e q = - cK c q e:=by unfold cK;grind
 lia
namespace K33
abbrev fu {α:Type} (k:α->Int) (es:List α) (c:Int):List α:=es.filter λe=>decide (k e=c)
end K33
abbrev Ox:=Pt × Pt
def wid (s:Ox):Int:=s.2.1-s.1.1
def hB (B:Int) (s:Ox) (t:Int):Int:=(s.1.2*wid s+(s.2.2-s.1.2)*(t-s.1.1))*B.fdiv (wid s)
def jN (p:Pt):Pt:=(-p.1,-p.2)
def BR (p:Pt):jN (jN p)=p:=by unfold jN;simp
def tP (a b c:Pt):cK (jN a) (jN b) (jN c)=cK a b c:=by unfold cK jN;grind
def yS:br (jN a) (jN b)↔br b a:=or_congr FI (and_congr (Int.neg_inj.trans eq_comm) FI)
theorem Ad (p:Pt):∀s,jP (jN p) (s.map jN)=(jP p s).map jN
 | []=>rfl
 | [_]=>rfl
 | b::a::r=>by
  have ih:=Ad p (a::r);simp only[aQ] at ih ⊢;rw[jP,jP,tP];split
  ·exact ih
  ·rfl
theorem Bm:∀(L s:List Pt),(L.map jN).foldl (λs p=>p::jP p s) (s.map jN)=(L.foldl (λs p=>p::jP p s) s).map jN
 | [],_=>rfl
 | p::L,s=>by
  simp only[aQ,pN];rw[Ad,<-aQ];exact Bm L (p::jP p s)
def PC (L:List Pt):kC (L.map jN)=(kC L).map jN:=Bm L []
def FV (h:kh L):gh (L.map jN):=by
 unfold gh;rw[lN];exact h.imp λk=>yS.mpr k
def Qf (iL:gh L) (H:dc (L.map jN) (C.map jN)) (gz:C≠[]):(kC L.reverse).reverse=C:=by
 have i1:gh (L.reverse.map jN):=FV (nE.mpr iL);have H':dc (L.reverse.map jN) (C.map jN):=by
  have m:∀q,q∈L.reverse.map jN↔q∈L.map jN:=by intro q;simp
  exact⟨H.inc,λq h=>(m q).mpr (H.mem q h),λq h=>H.first q ((m q).mp h),λq h=>H.last q ((m q).mp h),λl a b r e q h=>H.side l a b r e q ((m q).mp h),H.bend⟩
 have:=YX i1 H' (by simpa using gz);rw[PC,<-JD] at this;have k:=congrArg (uA jN) this;rw[dA,dA] at k;have e:jN ∘ jN=id:=by funext p;exact BR p
 rwa [e,mL,mL] at k
def Qs (A:LP ax ay) (V:LP vx vy) (U:LP ux uy) (hc:0<ux*vy-uy*vx) (k1:0<=vx*ay-vy*ax) (k2:0<=-(ux*ay-uy*ax)):False:=by
 have S:=Eg k2 V (Eg k1 U (tD hc A));rw[show (ux*vy-uy*vx)*ax+(vx*ay-vy*ax)*ux + -(ux*ay-uy*ax)*vx=0 by grind,show (ux*vy-uy*vx)*ay+(vx*ay-vy*ax)*uy + -(ux*ay-uy*ax)*vy=0 by grind] at S;exact Ss S
def KB {a b c q:Pt} (ba:br b a) (bc:br b c) (h:0<cK a b c) (h1:0<=cK a b q) (h2:0<=cK b c q):¬br q b:=by
 intro hq;have A:=qM hq;have V:=qM ba;have U:=qM bc;have hc:0<(c.1-b.1)*(a.2-b.2)-(c.2-b.2)*(a.1-b.1):=by
  have e:cK a b c=(c.1-b.1)*(a.2-b.2)-(c.2-b.2)*(a.1-b.1):=by unfold cK;grind
  rw[<-e];exact h
 have k1:0<=(a.1-b.1)*(b.2-q.2)-(a.2-b.2)*(b.1-q.1):=by
  have e:cK a b q=(a.1-b.1)*(b.2-q.2)-(a.2-b.2)*(b.1-q.1):=by unfold cK;grind
  rw[<-e];exact h1
 have k2:0<=-((c.1-b.1)*(b.2-q.2)-(c.2-b.2)*(b.1-q.1)):=by
  have e:cK b c q = -((c.1-b.1)*(b.2-q.2)-(c.2-b.2)*(b.1-q.1)):=by unfold cK;grind
  rw[<-e];exact h2
 exact Qs A V U hc k1 k2
def Ht {a b c q:Pt} (ab:br a b) (cb:br c b) (h:0<cK a b c) (h1:0<=cK a b q) (h2:0<=cK b c q):¬br b q:=λhq =>
 KB (yS.mpr ab) (yS.mpr cb) (by rw[tP];exact h) (by rw[tP];exact h1) (by rw[tP];exact h2) (yS.mpr hq)
def Jn (R:List Pt):Prop:=∀l a b c s,R=l++a::b::c::s->¬(br b a/\br b c)
def Jo (R:List Pt):Prop:=∀l a b s,R=l++a::b::s->a≠b
theorem YH:∀(s:List Pt) (a b:Pt),br b a->Jn (a::b::s)->Jo (a::b::s)->kh (a::b::s)
 | [],a,b,h,_,_=>by simp only[kh,cG,aJ,cY,or_false];exact⟨λx e=>e ▸ h,by simp⟩
 | c::s,a,b,h,nd,nr=>by
  have hc:br c b:=by
   rcases pS c b with h' | h' | h'
   ·exact h'
   ·exact absurd h'.symm (nr [a] b c s rfl)
   ·exact absurd ⟨h,h'⟩ (nd [] a b c s rfl)
  have ih:=YH s b c hc (λl x y z w e=>nd (a::l) x y z w (by rw[e];rfl)) (λl x y w e=>nr (a::l) x y w (by rw[e];rfl));refine cG.mpr ⟨λq hq=>?_,ih⟩;rcases aJ.mp hq with rfl | hq
  ·exact h
  ·exact qE ((cG.mp ih).1 q hq) h
theorem ZQ:∀(R:List Pt),R≠[]->Jn R->Jo R->∃A m B,R=A++m::B/\gh (A++[m])/\kh (m::B)
 | [],h,_,_=>absurd rfl h
 | [x],_,_,_=>⟨[],x,[],rfl,by simp[gh],by simp[kh]⟩
 | a::b::s,_,nd,nr=>by
  rcases pS a b with h | h | h
  ·obtain⟨A,m,B,e,i,d⟩:=ZQ (b::s) (by simp) (λl x y z w e=>nd (a::l) x y z w (by rw[e];rfl)) (λl x y w e=>nr (a::l) x y w (by rw[e];rfl));refine⟨a::A,m,B,by rw[e];rfl,?_,d⟩;refine cG.mpr ⟨λq hq=>?_,i⟩;have hb:q=b\/br b q:=by
    match A,e,i,hq with
    | [],e,i,hq=>simp at hq;simp at e;exact fD (hq.trans e.1.symm)
    | x::A,e,i,hq =>
     simp at e;obtain⟨rfl,e⟩:=e;rcases aJ.mp hq with rfl | hq
     ·exact fD rfl
     ·exact fE ((cG.mp i).1 q hq)
   rcases hb with rfl | hb
   ·exact h
   ·exact qE h hb
  ·exact absurd h (nr [] a b s rfl)
  ·exact⟨[],a,b::s,rfl,by simp[gh],YH s a b h nd nr⟩
structure oz (L:List Pt) (z y:Pt) (t:List Pt):Prop where
 mem:∀q∈z::y::t,q∈L
 least:∀q∈y::t,br z q
 side:∀l a b r,(z::y::t)++[z]=l++a::b::r->∀q∈L,0<=cK a b q
 bend:∀l a b c r,(z::y::t)++[z,y]=l++a::b::c::r->0<cK a b c
def Gk {a b c:Pt} (h:0<cK a b c):a≠b/\b≠c:=by
 constructor <;> rintro rfl <;> unfold cK at h <;> grind
def sR (L:List Pt):List Pt:=(kC L).reverse.dropLast
theorem Hi {z b a c:Pt} {T l s:List Pt} (e:(z::T)++[z]=l++a::b::c::s):b∈T:=by
 have h:((z::T)++[z]).dropLast=(l++a::b::c::s).dropLast:=congrArg RP e;have h2:(l++a::b::c::s).dropLast=(l++[a])++(b::(c::s).dropLast):=by
  have:l++a::b::c::s=(l++[a,b])++(c::s):=by simp
  rw[this,List.dropLast_append_of_ne_nil (by simp)];simp
 rw[nT,h2] at h;cases l with
 | nil=>simp at h;rw[h.2];simp
 | cons l0 l=>simp at h;rw[h.2];simp
def Iz (iL:gh L) (H:oz L z y t):sR L++sR L.reverse=z::y::t:=by
 have A_:br z y:=H.least y (by simp);have l9:∀l a b c s,(z::y::t)++[z]=l++a::b::c::s->0<cK a b c:=by
  intro l a b c s e;refine H.bend l a b c (s++[y]) ?_;have:(z::y::t)++[z,y]=((z::y::t)++[z])++[y]:=by simp
  rw[this,e];simp
 have rep:Jo ((z::y::t)++[z]):=by
  intro l a b s e
  match s with
  | c::s=>exact (Gk (l9 l a b c s e)).1
  | [] =>
   have:(z::y::t)++[z,y]=l++a::b::[y]:=by
    have:(z::y::t)++[z,y]=((z::y::t)++[z])++[y]:=(by simp);rw[this,e];simp
   exact (Gk (H.bend l a b y [] this)).1
 have zo:∀q∈(z::y::t)++[z],q∈L:=by
  intro q hq;rcases cC.mp hq with h | h
  ·exact H.mem q h
  ·simp at h;subst h;exact H.mem _ (by simp)
 have hz:z∈L:=H.mem z (by simp);have dip:Jn ((z::y::t)++[z]):=by
  intro l a b c s e ⟨h1,h2⟩;have nb:=KB h1 h2 (l9 l a b c s e) (H.side l a b (c::s) e z hz) (H.side (l++[a]) b c s (by rw[e];simp) z hz);exact nb (H.least b (Hi e))
 obtain⟨A,m,B,e,iA,dB⟩:=ZQ _ (by simp) dip rep;have hA:∃A',A=z::A':=by
  match A,e with
  | [],e =>
   exfalso;simp at e;obtain⟨rfl,e5⟩:=e;have hy:y∈B:=(by rw[<-e5];simp);exact tO A_ ((cG.mp dB).1 y hy)
  | x::A',e=>simp at e;exact⟨A',by rw[e.1]⟩
 obtain⟨A',rfl⟩:=hA;have hB:∃B',B=B'++[z]:=by
  rcases fM B with rfl | ⟨B',x,rfl⟩
  ·exfalso;have e':(z::y::t)++[z]=(z::A')++[m]:=e;have:=iZ e' rfl;simp at this;subst this;exact tH ((cG.mp iA).1 z (by simp))
  ·have e':(z::y::t)++[z]=(z::A'++m::B')++[x]:=(by rw[e];simp);have:=iZ e' rfl;simp at this;exact⟨B',by rw[this];simp⟩
 obtain⟨B',rfl⟩:=hB;have e2:(z::y::t)++[z]=(z::A'++m::B')++[z]:=by rw[e];simp
 have er:z::y::t=z::A'++m::B':=rJ e2 rfl;have zp:∀q∈L,¬br q z:=by
  intro q hq;rcases fM (y::t) with h | ⟨u,x,hu⟩
  ·simp at h
  ·have e3:(z::y::t)++[z,y]=(z::u)++x::z::y::[]:=(by rw[hu];simp);have hx:br z x:=H.least x (by rw[hu];simp);exact KB hx A_ (H.bend _ _ _ _ _ e3) (H.side (z::u) x z [] (by rw[hu];simp) q hq) (H.side [] z y (t++[z]) (by simp) q hq)
 have zm:∀q∈L,¬br m q:=by
  intro q hq;rcases fM (z::A') with h | ⟨u,x,hu⟩
  ·simp at h
  ·have hxm:br x m:=by
    have iA':=iA;rw[hu] at iA';exact (jO.mp iA').2.2 x (by simp) m (by simp)
   match hB':B'++[z],dB with
   | [],_=>simp at hB'
   | c::s,dB =>
    have e3:(z::y::t)++[z]=u++x::m::c::s:=(by rw[e,<-hB',hu];simp);have hcm:br c m:=by
     exact (cG.mp dB).1 c (by simp)
    exact Ht hxm hcm (l9 _ _ _ _ _ e3) (H.side _ _ _ _ e3 q hq) (H.side (u++[x]) m c s (by rw[e3];simp) q hq)
 have low:dc L (z::A'++[m]):=by
  refine⟨iA,λq hq=>zo q ?_,λq hq c r ec=>?_,λq hq c l ec=>?_,λl a b r ec q hq=>?_,λl a b c r ec=>?_⟩
  ·rw[e];simp at hq ⊢;rcases hq with h | h | h <;> simp[h]
  ·simp at ec;rw[<-ec.1];exact zp q hq
  ·have:=iZ ec rfl;simp at this;rw[<-this];exact zm q hq
  ·refine H.side l a b (r++(B'++[z])) ?_ q hq;have:z::A'++m::(B'++[z])=(z::A'++[m])++(B'++[z]):=(by simp);rw[e,this,ec];simp
  ·refine l9 l a b c (r++(B'++[z])) ?_;have:z::A'++m::(B'++[z])=(z::A'++[m])++(B'++[z]):=(by simp);rw[e,this,ec];simp
 have nv:∀q∈L.map jN,∃p∈L,q=jN p:=by
  intro q hq;obtain⟨p,hp,rfl⟩:=bF.mp hq;exact⟨p,hp,rfl⟩
 have eN:∀(X Y:List Pt),X.map jN=Y->X=Y.map jN:=by
  rintro X Y rfl;rw[dA];have e:jN ∘ jN=id:=by funext p;exact BR p
  rw[e,mL]
 have up:dc (L.map jN) ((m::(B'++[z])).map jN):=by
  refine⟨FV dB,λq hq=>?_,λq hq c r ec=>?_,λq hq c l ec=>?_,λl a b r ec q hq=>?_,λl a b c r ec=>?_⟩
  ·obtain⟨p,hp,rfl⟩:=bF.mp hq;refine dI (zo p ?_);rw[e];exact bG _ hp
  ·obtain⟨p,hp,rfl⟩:=nv q hq;simp at ec;rw[<-ec.1,yS];exact zm p hp
  ·obtain⟨p,hp,rfl⟩:=nv q hq;have sd:(m::B').map jN++[jN z]=l++[c]:=(by simpa using ec);have:=iZ sd rfl;simp at this;rw[<-this,yS];exact zp p hp
  ·obtain⟨p,hp,rfl⟩:=nv q hq;have sd:=eN _ _ ec;simp only[cX,aQ] at sd;have:=H.side (z::A'++l.map jN) (jN a) (jN b) (r.map jN) (by rw[e,sd];simp) p hp;rw[<-tP,BR,BR] at this;exact this
  ·have sd:=eN _ _ ec;simp only[cX,aQ] at sd;have:=l9 (z::A'++l.map jN) (jN a) (jN b) (jN c) (r.map jN) (by rw[e,sd];simp);rw[tP] at this;exact this
 have h1:=YX iL low (by simp);have h2:=Qf iL up (by simp);unfold sR;rw[h1,h2,er];have:m::(B'++[z])=(m::B')++[z]:=by simp
 rw[this,nT,nT]
def Bv (L:List Pt):Prop:=L.Pairwise λx y=>¬br y x
theorem UF (p:Pt):∀s,jP p (jP p s)=jP p s
 | []=>rfl
 | [_]=>rfl
 | b::a::r=>by
  by_cases h:cK a b p<=0
  ·rw[jP,if_pos h];exact UF p (a::r)
  ·have e:jP p (b::a::r)=b::a::r:=(by rw[jP,if_neg h]);rw[e,e]
def Je (a p:Pt):cK a p p<=0:=by
 unfold cK;have:(p.1-a.1)*(p.2-a.2)-(p.2-a.2)*(p.1-a.1)=0:=by grind
 lia
def QZ (a p:Pt):cK a a p<=0:=by
 unfold cK;have:(a.1-a.1)*(p.2-a.2)-(a.2-a.2)*(p.1-a.1)=0:=by grind
 lia
def rT (L:List Pt) (p:Pt):kC (L++[p])=p::jP p (kC L):=by unfold kC;rw[vC];rfl
def Lj:∀(L:List Pt),(kC L).length<=L.length:=by
 have sub:∀(L s:List Pt),(L.foldl (λs p=>p::jP p s) s).length<=L.length+s.length:=by
  intro L
  induction L with
  | nil=>intro s;simp
  | cons y L ih =>
   intro s;have i2:=ih (y::jP y s);have:=(xB y s).length_le;simp only[pN,cD] at i2 ⊢;lia
 intro L;simpa [kC] using sub L []
structure xm (L D:List Pt):Prop where
 inc:gh D
 mem:∀z,z∈D↔z∈L
 many:2<=D.length->kC L=kC D
 one:∀c,D=[c]->kC L=[c]\/kC L=[c,c]
 none:D=[]->kC L=[]
def Sa {α:Type} {P:List α->Prop} (h0:P []) (h1:∀l x,P l->P (l++[x])):∀l,P l:=by
 intro l;have:∀m:List α,P m.reverse:=by
  intro m
  induction m with
  | nil=>exact h0
  | cons x m ih=>rw[vD];exact h1 _ _ ih
 have:=this l.reverse
 rwa [List.reverse_reverse] at this
def Kz:∀(L:List Pt),Bv L->∃D,xm L D:=by
 refine Sa ?_ ?_
 ·intro _;exact⟨[],lM,λz=>Iff.rfl,λh=>absurd h (by simp),λc h=>by simp at h,λ_=>rfl⟩
 ·intro L p ih hw;have N0:=jO.mp hw;obtain⟨D,H⟩:=ih N0.1;have top:∀z∈L,¬br p z:=λz hz=>N0.2.2 z hz p (by simp);rcases fM D with hD | ⟨D',c,hD⟩
  ·-- nothing so far
   have hL:L=[]:=by
    apply List.eq_nil_iff_forall_not_mem.mpr;intro z hz;have:=(H.mem z).mpr hz;rw[hD] at this;cases this
   subst hL;refine⟨[p],by simp[gh],λz=>by simp,λh=>absurd h (by simp),λc h=>?_,λh=>by simp at h⟩;simp at h;subst h;exact fD rfl
  ·have hD:D=D'++[c]:=(by simpa using hD);subst hD;have hcL:c∈L:=(H.mem c).mp (by simp);have cl:∀z∈D'++[c],z=c\/br z c:=by
    intro z hz;rcases cC.mp hz with h | h
    ·exact fE ((jO.mp H.inc).2.2 z h c (by simp))
    ·exact fD (by simpa using h)
   by_cases hpc:p=c
   ·subst hpc;refine⟨D'++[p],H.inc,λz=>?_,λh2=>?_,λc hc=>?_,λh=>by simp at h⟩
    ·rw[H.mem z];simp only[cC,cR];exact⟨fD,λh=>h.elim id λe=>e ▸ hcL⟩
    ·rw[rT,H.many h2,rT];have gz:kC D'≠[]:=by
      rcases fM D' with h | ⟨D'',d,h⟩
      ·rw[h] at h2;simp at h2
      ·have:D'=D''++[d]:=(by simpa using h);rw[this,rT];simp
     have y_:=Fv p _ gz;generalize hu:jP p (kC D')=u at y_;cases u with
     | nil=>exact absurd rfl y_
     | cons a r =>
      rw[jP,if_pos (Je a p)];congr 1;rw[<-hu,UF]
    ·have hD':D'=[]/\p=c:=by
      cases D' with
      | nil=>simp at hc;exact⟨rfl,hc⟩
      | cons x D'=>simp at hc
     obtain⟨rfl,rfl⟩:=hD';rw[rT];rcases H.one p rfl with e | e
     ·rw[e];exact fE rfl
     ·rw[e,jP,if_pos (QZ p p)];exact fE rfl
   ·have zl:br c p:=by
     rcases pS c p with h | h | h
     ·exact h
     ·exact absurd h.symm hpc
     ·exact absurd h (top c hcL)
    have V6:gh ((D'++[c])++[p]):=by
     refine jO.mpr ⟨H.inc,by simp,λz hz w hw=>?_⟩;have:w=p:=(by simpa using hw);subst this;rcases cl z hz with rfl | h
     ·exact zl
     ·exact qE h zl
    refine⟨(D'++[c])++[p],V6,λz=>?_,λ_=>?_,λd hd=>by have:=congrArg fU hd;simp at this,λh=>by simp at h⟩
    ·rw[cC,H.mem z,cC]
    ·rw[rT,rT (D'++[c])];by_cases h2:2<=(D'++[c]).length
     ·rw[H.many h2]
     ·have:D'=[]:=by
       cases D' with
       | nil=>rfl
       | cons x D'=>simp at h2
      subst this;rcases H.one c rfl with e | e
      ·rw[e];rfl
      ·rw[e,jP,if_pos (QZ c p)];rfl
theorem YL {L D:List Pt} (hw:Bv L) (iD:gh D) (hm:∀z,z∈D↔z∈L):(2<=D.length->kC L=kC D)/\(D.length<=1->(kC L).length<=2):=by
 obtain⟨D1,H⟩:=Kz L hw;have:D1=D:=WA _ _ H.inc iD λq=>(H.mem q).trans (hm q).symm;subst this;refine⟨H.many,λh=>?_⟩
 match D1,H,h with
 | [],H,_=>rw[H.none rfl];simp
 | [c],H,_=>rcases H.one c rfl with e | e <;> rw[e] <;> simp
 | _::_::_,_,h=>simp at h
def EK (L:List Pt):List Pt:=sR L++sR L.reverse
def YM {L D:List Pt} (hw:Bv L) (iD:gh D) (hm:∀z,z∈D↔z∈L):(2<=D.length->EK L=EK D)/\(D.length<=1->(EK L).length<3):=by
 have a:=YL hw iD hm;have wn:Bv (L.reverse.map jN):=by
  unfold Bv;rw[lN,nE];exact hw.imp λh k=>h (yS.mp k)
 have iN:gh (D.reverse.map jN):=FV (nE.mpr iD);have b:=YL wn iN λz=>by simp only[bF,oG];constructor <;> (rintro⟨w,h1,h2⟩;exact⟨w,by first | exact (hm w).mp h1 | exact (hm w).mpr h1,h2⟩)
 rw[PC,PC] at b;simp only[aS,sP] at b;have inj:∀(X Y:List Pt),X.map jN=Y.map jN->X=Y:=by
  intro X Y h;have:=congrArg (uA jN) h;rw[dA,dA] at this;have e:jN ∘ jN=id:=by funext p;exact BR p
  rwa [e,mL,mL] at this
 constructor
 ·intro h;unfold EK sR;rw[a.1 h,inj _ _ (b.1 h)]
 ·intro h;have h1:=a.2 h;have h2:=b.2 h;unfold EK sR;simp only[bJ,AS,sP];exact uC (Nat.add_le_add (AX h1 1) (AX h2 1)) (by decide)
def iw (L:List Pt) (a b:Pt):Prop:=∃l r,L=l++a::b::r
def iw.cons (x:Pt) (h:iw L a b):iw (x::L) a b:=by
 obtain⟨l,r,rfl⟩:=h;exact⟨x::l,r,rfl⟩
def iw.left (B:List Pt) (h:iw A a b):iw (A++B) a b:=by
 obtain⟨l,r,rfl⟩:=h;exact⟨l,r++B,by simp⟩
def iw.right (A:List Pt) (h:iw B a b):iw (A++B) a b:=by
 obtain⟨l,r,rfl⟩:=h;exact⟨A++l,r,by simp⟩
theorem PZ:∀(A B:List Pt) (a b:Pt),iw (A++B) a b->iw A a b\/((∃A',A=A'++[a])/\∃B',B=b::B')\/iw B a b
 | [],B,a,b,h=>fE (fE h)
 | [x],B,a,b,⟨l,r,e⟩=>by
  cases l with
  | nil =>
   simp at e;obtain⟨rfl,e⟩:=e;exact fE (fD ⟨⟨[],rfl⟩,r,e⟩)
  | cons y l=>simp at e;exact fE (fE ⟨l,r,e.2⟩)
 | x::y::A,B,a,b,⟨l,r,e⟩=>by
  cases l with
  | nil =>
   simp at e;obtain⟨rfl,rfl,e⟩:=e;exact fD ⟨[],A,rfl⟩
  | cons u l =>
   simp at e;obtain⟨rfl,e⟩:=e;rcases PZ (y::A) B a b ⟨l,r,by simpa using e⟩ with h | ⟨⟨A',h1⟩,h2⟩ | h
   ·exact fD (h.cons x)
   ·exact fE (fD ⟨⟨x::A',by rw[h1];rfl⟩,h2⟩)
   ·exact fE (fE h)
def Fr (h:iw (L.map f) a b):∃x y,iw L x y/\a=f x/\b=f y:=by
 obtain⟨l,r,e⟩:=h;obtain⟨l1,l2,rfl,rfl,e2⟩:=qP.mp e;obtain⟨x,l3,rfl,rfl,e3⟩:=nU.mp e2;obtain⟨y,l4,rfl,rfl,e4⟩:=nU.mp e3;exact⟨x,y,⟨l1,l4,rfl⟩,rfl,rfl⟩
def iw.mem (h:iw L a b):a∈L/\b∈L:=by
 obtain⟨l,r,rfl⟩:=h;simp
def cc (cs:List Pt) (a b:Pt):Prop:=iw (cs++cs.take 1) a b
structure dk (cs:List Pt):Prop where
 len:3<=cs.length
 nodup:cs.Nodup
 strict:∀a b,cc cs a b->∀q∈cs,q≠a->q≠b->0<cK a b q
def Xp (a b:Pt):cK a b a=0:=by unfold cK;grind
def Xq (a b:Pt):cK a b b=0:=by unfold cK;grind
def dk.side (h:dk cs) (g9:cc cs a b) (hq:q∈cs):0<=cK a b q:=by
 by_cases h1:q=a
 ·subst h1;rw[Xp];decide
 ·by_cases h2:q=b
  ·subst h2;rw[Xq];decide
  ·exact aU (h.strict a b g9 q hq h1 h2)
def dk.map (h:dk cs) (hk:0<k) (hf:∀a b c,cK (f a) (f b) (f c)=k*cK a b c) (inj:∀a b,f a=f b->a=b):dk (cs.map f):=by
 refine⟨by simpa using h.len,?_,λa b g9 q hq n1 n2=>?_⟩
 ·exact qN f (λa b hn e=>hn (inj a b e)) h.nodup
 ·unfold cc at g9;rw[<-pA,<-cX] at g9;obtain⟨x,y,V1,rfl,rfl⟩:=Fr g9;obtain⟨p,hp,rfl⟩:=bF.mp hq;rw[hf];exact aL hk (h.strict x y V1 p hp (λe=>n1 (by rw[e])) λe=>n2 (by rw[e]))
theorem OL (h:cc (Y++X) a b):cc (X++Y) a b:=by
 unfold cc at *;cases Y with
 | nil=>simpa using h
 | cons y Y =>
  cases X with
  | nil=>simpa using h
  | cons x X =>
   simp only[bI,sQ,AV] at h ⊢;have e:y::(Y++x::X++[y])=(y::Y)++((x::X)++[y]):=(by simp);rw[e] at h;have yk:∀{a b},iw ((x::X)++[y]) a b->iw (x::(X++y::Y++[x])) a b:=by
    intro a b h;have:=h.left (Y++[x]);simpa using this
   have uc:∀{a b},iw ((y::Y)++[x]) a b->iw (x::(X++y::Y++[x])) a b:=by
    intro a b h;have:=h.right (x::X);simpa using this
   rcases PZ _ _ a b h with h | ⟨⟨A',h1⟩,B',h2⟩ | h
   ·exact uc (h.left _)
   ·simp at h2;refine uc ?_;rw[h1,<-h2.1];exact⟨A',[],by simp⟩
   ·exact yk h
def dk.swap (h:dk (X++Y)):dk (Y++X):=by
 refine⟨by have:=h.len;simp at this ⊢;lia,?_,λa b g9 q hq=>h.strict a b (OL g9) q (by simp at hq ⊢;exact hq.symm)⟩;have:=h.nodup;rw[jA] at this ⊢;exact⟨this.2.1,this.1,λa ha b hb e=>this.2.2 b hb a ha e.symm⟩
def cc.mem (h:cc cs a b):a∈cs/\b∈cs:=by
 have k:∀x,x∈cs++cs.take 1->x∈cs:=λx hx=>(cC.mp hx).elim id sD;exact⟨k a (iw.mem h).1,k b (iw.mem h).2⟩
theorem len_sub {α:Type} [DecidableEq α]:∀(l m:List α),l.Nodup->(∀x∈l,x∈m)->l.length<=m.length
 | [],_,_,_=>eV _
 | x::l,m,hn,hs=>by
  have hx:=hs x (.head _);have ni:=eS.mp hn;have:=len_sub l (m.erase x) ni.2 λy hy=>(AT λ(e:y=x)=>ni.1 (e ▸ hy)).mpr (hs y (.tail _ hy));rw[vX hx] at this;exact eJ (JG this) (xZ (Nat.succ_pred_eq_of_pos (xU hx)))
def dk.third (c:dk cs) (u v:Pt):∃w∈cs,w≠u/\w≠v:=by
 apply fA;intro hn;have:=len_sub cs [u,v] c.nodup λw hw=>by
  by_cases h1:w=u
  ·exact h1 ▸ .head _
  ·by_cases h2:w=v
   ·exact h2 ▸ .tail _ (.head _)
   ·exact absurd ⟨w,hw,h1,h2⟩ hn
 exact absurd (eJ c.len this) (show ¬ 3<=2 by decide)
def dk.ne (c:dk cs) (h:cc cs u v):u≠v:=by
 obtain⟨w,hw,n1,n2⟩:=c.third u v;rintro rfl;have:=c.strict u u h w hw n1 n2;rw[show cK u u w=0 by unfold cK;grind] at this;exact oZ _ this
def Qx (c:dk cs) (h:cc cs u v) (h':cc cs v u):False:=by
 obtain⟨w,hw,w1,w2⟩:=c.third u v;have t1:=c.strict _ _ h w hw w1 w2;rw[show cK u v w = - cK v u w by unfold cK;grind] at t1;exact Int.lt_asymm (c.strict _ _ h' w hw w2 w1) (Int.neg_pos.mp t1)
def dk.bend (h:dk R) {a b c:Pt} (e:R++R.take 2=l++a::b::c::r):0<cK a b c:=by
 obtain⟨x,y,R',eR⟩:∃x y R',R=x::y::R':=by
  match R,h.len with
  | x::y::R',_=>exact⟨x,y,R',rfl⟩
 have t1:R.take 1=[x]:=by rw[eR];rfl
 have t2:R++R.take 2=(R++R.take 1)++[y]:=by rw[t1,iY,eR];rfl
 rw[t2] at e;have ⟨ab,bc⟩:cc R a b/\cc R b c:=by
  rcases fM r with rfl | ⟨r',w,rfl⟩
  ·have e':(R++R.take 1)++[y]=(l++[a,b])++[c]:=(by rw[e,iY];rfl);have k:=rJ e' rfl;have ec:=iZ e' rfl;injection ec with ec _;refine⟨⟨l,[],k⟩,?_⟩;have k':R++[x]=(l++[a])++[b]:=(by rw[<-t1,k,iY];rfl);have eb:=iZ k' rfl;injection eb with eb _;rw[<-eb,<-ec];exact⟨[],R'++[x],by rw[t1,eR];rfl⟩
  ·have e':(R++R.take 1)++[y]=(l++a::b::c::r')++[w]:=(by rw[e,iY,zX];rfl);have k:=rJ e' rfl;exact⟨⟨l,c::r',k⟩,l++[a],r',by rw[k,iY];rfl⟩
 exact h.strict a b ab c bc.mem.2 (λhc=>Qx h ab (hc ▸ bc)) λhc=>h.ne bc hc.symm
def yW {L D:List Pt} (iD:gh D) (h:dk (z::T)) (least:∀q∈T,¬br q z) (mem:∀q∈z::T,q∈D) (left:∀a b,cc (z::T) a b->∀q∈D,0<=cK a b q):EK D=z::T:=by
 obtain⟨y,t,rfl⟩:∃y t,T=y::t:=by
  have:=h.len;cases T with
  | nil=>simp at this
  | cons y t=>exact⟨y,t,rfl⟩
 refine Iz iD ⟨mem,λq hq=>?_,λl a b r e=>left a b ⟨l,r,e⟩,λl a b c r e=>h.bend (l:=l) (r:=r) e⟩;rcases pS z q with h' | h' | h'
 ·exact h'
 ·subst h';exact absurd hq (eS.mp h.nodup).1
 ·exact absurd h' (least q hq)
abbrev H3:=Int × Int × Int
def SE (p q r:H3):Int:=p.1*(q.2.1*r.2.2-q.2.2*r.2.1)-p.2.1*(q.1*r.2.2-q.2.2*r.1)+p.2.2*(q.1*r.2.1-q.2.1*r.1)
abbrev g7 (z:Pt):H3:=(z.1,z.2,1)
abbrev C5 (α:Int) (p:H3) (β:Int) (q:H3):H3:=(α*p.1+β*q.1,α*p.2.1+β*q.2.1,α*p.2.2+β*q.2.2)
structure j7 where
 a:Int
 b:Int
 k:Int
section
variable (L:j7)
def c6 (z:Pt):Int:=L.a*z.1+L.b*z.2-L.k
def xn (p:H3):Int:=L.a*p.1+L.b*p.2.1-L.k*p.2.2
def I0 (u v:Pt):H3:=C5 (c6 L v).natAbs (g7 u) (c6 L u).natAbs (g7 v)
def blk (u v:Pt):List H3:=(if c6 L u<=0 then [g7 u] else [])++(if c6 L u*c6 L v<0 then [I0 L u v] else [])
def Pl:List Pt->List H3
 | []=>[]
 | [_]=>[]
 | u::v::r=>blk L u v++Pl (v::r)
end
section
def tq {x y:Int} (h:x*y<0):(x<0/\0<y)\/(0<x/\y<0):=by
 rcases iW x 0 with hx | rfl | hx
 ·exact fD ⟨hx,mO.mp λhy=>mO.mpr h (Int.mul_nonneg_of_nonpos_of_nonpos (aU hx) hy)⟩
 ·rw[qL] at h;exact absurd h (oZ _)
 ·exact fE ⟨hx,mO.mp λhy=>mO.mpr h (cV (aU hx) hy)⟩
def Hu (c:dk cs) (h1:cc cs t u) (h2:cc cs u v) (nt:t≠v) (e1:c6 L t<=c6 L u) (e2:c6 L v<=c6 L u):∀w∈cs,c6 L w<=c6 L u:=by
 intro w hw;have D:0<cK t u v:=c.strict t u h1 v h2.mem.2 (Ne.symm nt) (Ne.symm (c.ne h2));have C:=c.side h1 hw;have A:=c.side h2 hw;have key:cK t u v*c6 L w=cK t u v*c6 L u-cK u v w*(c6 L u-c6 L t)-cK t u w*(c6 L u-c6 L v):=by
  unfold cK c6;grind
 apply jU.mp;intro hn;have k1:0<cK t u v*(c6 L w-c6 L u):=aL D (by lia);have k2:=cV A (show 0<=c6 L u-c6 L t by lia);have k3:=cV C (show 0<=c6 L u-c6 L v by lia);have e:cK t u v*(c6 L w-c6 L u)=cK t u v*c6 L w-cK t u v*c6 L u:=by grind
 lia
def Hs (c:dk cs) (h1:cc cs t u) (h2:cc cs u v) (nt:t≠v) (e1:c6 L u<=c6 L t) (e2:c6 L u<=c6 L v):∀w∈cs,c6 L u<=c6 L w:=by
 intro w hw;have:=Hu (L:=⟨-L.a,-L.b,-L.k⟩) c h1 h2 nt (by unfold c6 at *;dsimp only at *;grind) (by unfold c6 at *;dsimp only at *;grind) w hw;unfold c6 at *;dsimp only at *;grind
end
section
theorem Jz (c:dk cs) (hu:u∈cs):∃t v,cc cs t u/\cc cs u v/\t≠v:=by
 obtain⟨X,Y,rfl⟩:=tY hu;have c2:dk ((u::Y)++X):=c.swap;have len:=c2.len;have nd:=c2.nodup;have bk:∀{a b},cc ((u::Y)++X) a b->cc (X++u::Y) a b:=λh=>OL h;rw[bI] at len nd bk;generalize Y++X=Z at len nd bk;obtain⟨v,Z1,hv⟩:∃v Z1,Z=v::Z1:=by
  cases Z with
  | nil=>simp at len
  | cons v Z1=>exact⟨v,Z1,rfl⟩
 obtain⟨t,Z2,ht⟩:∃t Z2,Z=Z2++[t]:=by
  rcases fM Z with h | ⟨Z2,t,h⟩
  ·rw[h] at len;simp at len
  ·exact⟨t,Z2,by simpa using h⟩
 refine⟨t,v,bk ⟨u::Z2,[],by rw[ht];simp⟩,bk ⟨[],Z1++[u],by rw[hv];simp⟩,?_⟩;rintro rfl;have tj:=(eS.mp nd).2;rw[hv] at tj;cases Z1 with
 | nil=>rw[hv] at len;simp at len
 | cons x Z1 =>
  have:t∈x::Z1:=by
   have e:t::x::Z1=Z2++[t]:=(by rw[<-hv,ht]);cases Z2 with
   | nil=>simp at e
   | cons y Z2 =>
    simp at e;rw[e.2];simp
  exact (eS.mp tj).1 this
def wG {α:Type} (a:α):List α->α
 | []=>a
 | b::r=>wG b r
end
section
theorem sE {α:Type}:∀(a:α) (X:List α) (b:α),wG a (X++[b])=b
 | _,[],_=>rfl
 | _,x::X,b=>sE x X b
end
section
def gk {α:Type} (f:α->α->Int):α->List α->Int
 | _,[]=>0
 | a,b::l=>f a b+gk f b l
theorem uR {α:Type} (f:α->α->Int):∀(a:α) (X Y:List α),gk f a (X++Y)=gk f a X+gk f (wG a X) Y
 | a,[],Y=>by simp[gk,wG]
 | a,b::X,Y=>by
  show f a b+gk f b (X++Y)=f a b+gk f b X+gk f (wG b X) Y;rw[uR f b X Y];lia
def oM {α:Type} (f:α->α->Int):List α->Int
 | []=>0
 | z::T=>gk f z (T++[z])
theorem TY {α:Type}:∀(h:α) (T X:List α) (l:α),h::T=X++[l]->wG h T=l
 | h,[],X,l,e=>by
  cases X with
  | nil=>simp at e;exact e
  | cons x X=>simp at e
 | h,y::T,X,l,e=>by
  cases X with
  | nil=>simp at e
  | cons x X=>simp at e;exact TY y T X l (by simpa using e.2)
theorem Gw {α:Type} (f:α->α->Int) {P X:List α} {l:α} (e:P=X++[l]):gk f l P=oM f P:=by
 cases P with
 | nil=>simp at e
 | cons h P2 =>
  show f l h+gk f h P2=gk f h (P2++[h]);rw[uR,TY h P2 X l e];simp only[gk];lia
theorem Jy {α:Type} (f:α->α->Int) (X Y:List α):oM f (X++Y)=oM f (Y++X):=by
 cases X with
 | nil=>simp
 | cons x X =>
  cases Y with
  | nil=>simp
  | cons y Y =>
   show gk f x ((X++y::Y)++[x])=gk f y ((Y++x::X)++[y]);rw[show (X++y::Y)++[x]=(X++[y])++(Y++[x]) by simp,show (Y++x::X)++[y]=(Y++[x])++(X++[y]) by simp,uR,uR f y,sE,sE];lia
end
section
open PySem PySem.Spec PyProof.Rows L2
inductive D where
 | non | bl (b:Bool) | int (i:Int) | str (x:Str) | tup (xs:List D) | lst (xs:List D) | dct (ks:List Int) (xs:List D) | dtt (ks:List (List Int)) (xs:List D)
def jj (K:aI) (H:Hp) (a:Addr) (vs:List V):Prop :=
 (∃o,H a=some (.frz o (.lst vs))) \/
  ∃(o:Obj) (its:Array aB) (n:Nat),K.lookup a=some o/\o.cls = .type "list"/\o.dict=none/\o.data = .seq its n/\its.size<=sizeLine/\am vs its.toList
theorem jj.sq {K:aI} {H:Hp} {a:Addr} {vs:List V}:jj K H a vs->f8 K H a vs
 | .inl ⟨o,h⟩=>.inl (.inr ⟨o,h⟩)
 | .inr h=>.inr h
def D8 (col:Nat):Str:=if col=28 then "rising.<locals>.<lambda>" else if col=59 then "framed_rising.<locals>.<lambda>" else "laid_triangles.<locals>.<lambda>"
abbrev Xv (c:Addr) (q:Str):HO:=.ext λh=>∃oc vs t,h.get? c=some oc/\oc.data = .fields vs/\vs[1]? = some (.str q t)
structure j9 (H:Hp) (ps:Array aB):Prop where
 ok:TriplesOk ps.toList
 code:∀pos cv,codeAmong pos ps.toList=some cv->∃c,cv = .ref c/\H c=some (Xv c (D8 pos.col))
def kj (H H':Hp):Prop:=∀b ps,H b=some (.tbl ps)->∃more,H' b=some (.tbl (ps++more))/\(j9 H ps->j9 H' (ps++more))
def kj.trans (a:kj H H1) (b:kj H1 H2):kj H H2:=λc ps h=>by
 obtain⟨m1,e1,f1⟩:=a c ps h;obtain⟨m2,e2,f2⟩:=b c _ e1;exact⟨m1++m2,by rw[e2,tR],λx=>by rw[<-tR];exact f2 (f1 x)⟩
def j9.mono (x:j9 H ps) (k:∀b a,H b=some (.ext a)->H' b=some (.ext a)):j9 H' ps:=⟨x.ok,λpos cv e=>let ⟨c,e1,e2⟩:=x.code pos cv e;⟨c,e1,k _ _ e2⟩⟩
def kj.of (k:∀b a,H b=some (.ext a)->H' b=some (.ext a)) (h:∀b ps,H b=some (.tbl ps)->H' b=some (.tbl ps)):kj H H':=λb ps e=>⟨#[],by rw[FC];exact h b ps e,λx=>by rw[FC];exact x.mono k⟩
def NT:HO->Prop
 | .tbl _=>False
 | _=>True
structure ag (H H':Hp):Prop where
 tups:∀b xs,H b=some (.tup xs)->H' b=some (.tup xs)
 frzs:∀b o u,H b=some (.frz o u)->H' b=some (.frz o u)
 exts:∀b φ,H b=some (.ext φ)->H' b=some (.ext φ)
 xds:∀b fs,H b=some (.xd fs)->H' b=some (.xd fs)
 tbls:kj H H'
def ag.refl (H:Hp):ag H H:=⟨λ_ _ h=>h,λ_ _ _ h=>h,λ_ _ h=>h,λ_ _ h=>h,.of (λ_ _ h=>h) λ_ _ h=>h⟩
def ag.trans (a:ag H H1) (b:ag H1 H2):ag H H2 :=
 ⟨λc xs h=>b.tups c xs (a.tups c xs h),λc o u h=>b.frzs c o u (a.frzs c o u h),λc d h=>b.exts c d (a.exts c d h),λc fs h=>b.xds c fs (a.xds c fs h),a.tbls.trans b.tbls⟩
structure ae (H H':Hp):Prop where
 get:∀b o,H b=some o->NT o->H' b=some o
 tbls:kj H H'
def ae.fn (f:∀b o,H b=some o->H' b=some o):ae H H':=⟨λb o h _=>f b o h,.of (λb a h=>f b _ h) λb ps h=>f b _ h⟩
def ae.refl (H:Hp):ae H H:=.fn λ_ _ h=>h
def ae.trans (a:ae H H1) (b:ae H1 H2):ae H H2:=⟨λc o h n=>b.get c o (a.get c o h n) n,a.tbls.trans b.tbls⟩
theorem ae.free (e:ae H H') (h:H' l=AY):H l=AY:=by
 cases q:H l with
 | none=>rfl
 | some o =>
  cases o with
  | tbl ps=>obtain⟨m,e1,_⟩:=e.tbls l ps q;rw[e1] at h;cases h
  | _=>rw[e.get l _ q trivial] at h;cases h
def ag.of (s:ae H H'):ag H H':=⟨λb xs h=>s.get b _ h trivial,λb o u h=>s.get b _ h trivial,λb a h=>s.get b _ h trivial,λb fs h=>s.get b _ h trivial,s.tbls⟩
def ag.ofF (f:∀b o,H b=some o->H' b=some o):ag H H':=.of (.fn f)
def WE:List Str:=["rising","framed_rising","laid_triangles"]
def fo (K:aI) (H:Hp):Prop:=∀x c P,x∈WE->RV K x=some (c,P)->∃ps,H P=some (.tbl ps)/\j9 H ps
def fo.tabK {K:aI} {H H':Hp} (t:fo K H) (k:kj H H'):fo K H':=λx c P m e=>by
 obtain⟨ps,h1,h2⟩:=t x c P m e;obtain⟨more,h3,h4⟩:=k P ps h1;exact⟨_,h3,h4 h2⟩
def ag.chg1 (h:H p=some u) (n:(∃xs,u = .lst xs)\/(∃kvs,u = .dK kvs)\/∃kvs,u = .dT kvs):ag H (au H p u'):=by
 have ne:∀b o,H b=some o->(∀xs,o≠.lst xs)->(∀kvs,o≠.dK kvs)->(∀kvs,o≠.dT kvs)->au H p u' b=some o:=λb o q n1 n2 n3=>by
  rw[cH]
  ·exact q
  ·rintro rfl;rw[h] at q;cases q;rcases n with ⟨xs,rfl⟩ | ⟨kvs,rfl⟩ | ⟨kvs,rfl⟩
   ·exact n1 _ rfl
   ·exact n2 _ rfl
   ·exact n3 _ rfl
 exact⟨λb _ q=>ne b _ q (λ_ z=>by cases z) (λ_ z=>by cases z) (λ_ z=>by cases z),λb _ _ q=>ne b _ q (λ_ z=>by cases z) (λ_ z=>by cases z) (λ_ z=>by cases z),λb _ q=>ne b _ q (λ_ z=>by cases z) (λ_ z=>by cases z) (λ_ z=>by cases z),λb _ q=>ne b _ q (λ_ z=>by cases z) (λ_ z=>by cases z) (λ_ z=>by cases z),
  .of (λb _ q=>ne b _ q (λ_ z=>by cases z) (λ_ z=>by cases z) (λ_ z=>by cases z)) λb _ q=>ne b _ q (λ_ z=>by cases z) (λ_ z=>by cases z) (λ_ z=>by cases z)⟩
def wY (ks:List Int) (vs:List V):List (f6 × V):=xV (λk v=>(gR k,v)) ks vs
def yP (ks:List (List Int)) (vs:List V):List (List f6 × V):=xV (λk v=>(k.map gR,v)) ks vs
mutual
inductive b_ (K:aI) (H:Hp):D->V->Prop
 | non:b_ K H .non .non
 | bl (b:Bool):b_ K H (.bl b) (.bl b)
 | int (i:Int):b_ K H (.int i) (.int i)
 | str (x:Str):b_ K H (.str x) (.str x)
 | tup {a:Addr} {vs:List V} {ds:List D} (h:H a=some (.tup vs)) (r:af K H ds vs):b_ K H (.tup ds) (.ref a)
 | lst {a:Addr} {vs:List V} {ds:List D} (h:jj K H a vs) (r:af K H ds vs):b_ K H (.lst ds) (.ref a)
 | dct {a:Addr} {vs:List V} {ds:List D} {ks:List Int} {o:Obj} (h:H a=some (.frz o (.dK (wY ks vs)))) (hl:ks.length=vs.length) (r:af K H ds vs):b_ K H (.dct ks ds) (.ref a)
 | dtt {a:Addr} {vs:List V} {ds:List D} {ks:List (List Int)} {o:Obj} (h:H a=some (.frz o (.dT (yP ks vs)))) (hl:ks.length=vs.length) (r:af K H ds vs):b_ K H (.dtt ks ds) (.ref a)
inductive af (K:aI) (H:Hp):List D->List V->Prop
 | nil:af K H [] []
 | cons {d:D} {v:V} {ds:List D} {vs:List V} (h:b_ K H d v) (t:af K H ds vs):af K H (d::ds) (v::vs)
end
section
variable {K:aI} {H H':Hp}
theorem jj.keep {a:Addr} {vs:List V} (k:ag H H') (h:jj K H a vs):jj K H' a vs:=by
 rcases h with ⟨o,h⟩ | h
 ·exact .inl ⟨o,k.frzs _ _ _ h⟩
 ·exact .inr h
mutual
theorem b_.keep (k:ag H H'):∀{d:D} {v:V},b_ K H d v->b_ K H' d v
 | _,_,.non=>.non
 | _,_,.bl b=>.bl b
 | _,_,.int i=>.int i
 | _,_,.str x=>.str x
 | _,_,.tup h r=>.tup (k.tups _ _ h) (af.keep k r)
 | _,_,.lst h r=>.lst (jj.keep k h) (af.keep k r)
 | _,_,.dct h hl r=>.dct (k.frzs _ _ _ h) hl (af.keep k r)
 | _,_,.dtt h hl r=>.dtt (k.frzs _ _ _ h) hl (af.keep k r)
theorem af.keep (k:ag H H'):∀{ds:List D} {vs:List V},af K H ds vs->af K H' ds vs
 | _,_,.nil=>.nil
 | _,_,.cons h t=>.cons (b_.keep k h) (af.keep k t)
end
theorem af.length:∀{ds:List D} {vs:List V},af K H ds vs->ds.length=vs.length
 | _,_,.nil=>rfl
 | _,_,.cons _ t=>by simp[af.length t]
theorem af.get:∀{ds:List D} {vs:List V} {i:Nat} {d:D},af K H ds vs->ds[i]? = some d->∃v,vs[i]? = some v/\b_ K H d v
 | _,_,_,_,.nil,e=>by simp at e
 | _,_,0,_,.cons h _,e=>by simp at e;subst e;exact⟨_,rfl,h⟩
 | _,_,i+1,d,.cons _ t,e=>by
  obtain⟨v,h1,h2⟩:=af.get (i:=i) (d:=d) t (by simpa using e);exact⟨v,by simpa using h1,h2⟩
theorem af.append:∀{ds es:List D} {vs us:List V},af K H ds vs->af K H es us->af K H (ds++es) (vs++us)
 | _,_,_,_,.nil,s=>s
 | _,_,_,_,.cons h t,s=>.cons h (af.append t s)
theorem af.take:∀{ds:List D} {vs:List V} (n:Nat),af K H ds vs->af K H (ds.take n) (vs.take n)
 | _,_,0,_=>.nil
 | _,_,_+1,.nil=>.nil
 | _,_,n+1,.cons r t=>.cons r (af.take n t)
theorem af.drop:∀{ds:List D} {vs:List V} (n:Nat),af K H ds vs->af K H (ds.drop n) (vs.drop n)
 | _,_,0,r=>r
 | _,_,_+1,.nil=>.nil
 | _,_,n+1,.cons _ t=>af.drop n t
theorem af.dropLast:∀{ds:List D} {vs:List V},af K H ds vs->af K H ds.dropLast vs.dropLast
 | _,_,.nil=>.nil
 | _,_,.cons _ .nil=>.nil
 | _,_,.cons r (.cons r2 t)=>by
  simp only[RP];exact .cons r (af.dropLast (.cons r2 t))
theorem af.reverse:∀{ds:List D} {vs:List V},af K H ds vs->af K H ds.reverse vs.reverse
 | _,_,.nil=>.nil
 | _,_,.cons r t=>by
  simp only[vD];exact (af.reverse t).append (.cons r .nil)
theorem b_.int_inv {i:Int} {v:V} (h:b_ K H (.int i) v):v = .int i:=by cases h;rfl
theorem b_.bl_inv {b:Bool} {v:V} (h:b_ K H (.bl b) v):v = .bl b:=by cases h;rfl
theorem af.ints:∀{ns:List Int},af K H (ns.map D.int) (ns.map V.int)
 | []=>.nil
 | _::_=>.cons (.int _) af.ints
theorem af.ints_inv:∀{ns:List Int} {vs:List V},af K H (ns.map D.int) vs->vs=ns.map V.int
 | [],_,h=>by cases h;rfl
 | n::ns,_,h=>by
  cases h with
  | cons h t=>rw[h.int_inv,af.ints_inv t];rfl
end
def c8 (K:aI) (H:Hp) (d:D) (v:V):Prop :=
 b_ K H d v\/∃ds a vs,d = .lst ds/\v = .ref a/\H a=some (.lst vs)/\af K H ds vs
def c8.same {K:aI} {H H':Hp} {d:D} {v:V} (s:ae H H') (h:c8 K H d v):c8 K H' d v:=by
 rcases h with h | ⟨ds,a,vs,e1,e2,e3,r⟩
 ·exact .inl (h.keep (.of s))
 ·exact .inr ⟨ds,a,vs,e1,e2,s.get _ _ e3 trivial,r.keep (.of s)⟩
def c8.lst {K:aI} {H:Hp} {ds:List D} {v:V} (h:c8 K H (.lst ds) v):∃a vs,v = .ref a/\f8 K H a vs/\af K H ds vs:=by
 rcases h with h | ⟨ds',a,vs,e1,e2,e3,r⟩
 ·cases h with
  | lst h r=>exact⟨_,_,rfl,h.sq,r⟩
 ·cases e1;exact⟨a,vs,e2,f8.of e3,r⟩
def c8.tup {K:aI} {H:Hp} {ds:List D} {v:V} (h:c8 K H (.tup ds) v):∃a vs,v = .ref a/\H a=some (.tup vs)/\af K H ds vs:=by
 rcases h with h | ⟨ds',a,vs,e1,e2,e3,r⟩
 ·cases h with
  | tup h r=>exact⟨_,_,rfl,h,r⟩
 ·cases e1
inductive S where
 | d (x:D) | own (xs:List D) | dcl (kvs:List (Int × List D)) | box (t:Bool) (iy:List (List D)) | exc (C:Addr) (y:Str) (c:Int) | dt (ks:List (List Int)) (xs:List D) | raw (v:V) | mem (b:Bool) (x:D) (R:aI->Hp->Hp->V->Prop)
def S.val:S->D
 | .d x=>x
 | .own xs=>.lst xs
 | .dcl _=>.non
 | .box _ _=>.non
 | .exc _ _ _=>.non
 | .dt _ _=>.non
 | .raw _=>.non
 | .mem _ x _=>x
abbrev En:=List (Option S)
inductive h9 (K:aI) (H₀ H:Hp):List (Int × List D)->List (f6 × V)->List Addr->Prop
 | nil:h9 K H₀ H [] [] []
 | cons {k:Int} {b:Addr} {vs:List V} {ds:List D} {kvs:List (Int × List D)} {bB:List (f6 × V)} {as:List Addr} (h:H b=some (.lst vs)) (h0:H₀ b=none) (r:af K H ds vs) (n:b ∉ as) (t:h9 K H₀ H kvs bB as) :
   h9 K H₀ H ((k,ds)::kvs) ((gR k,.ref b)::bB) (b::as)
abbrev Oq (C e dx:Addr):HO:=.ext λh=>∃oe vs,h.get? e=some oe/\oe.cls = .ref C/\oe.data = .fields vs/\oe.dict=some dx
def iq (K:aI) (H₀ H:Hp):S->V->Prop
 | .exc C y c,v=>∃e dx,v = .ref e/\H e=some (Oq C e dx)/\H dx=some (.xd [(y,.int c)])
 | .d x,v=>b_ K H x v
 | .raw u,v=>v=u
 | .mem b x R,v=>(b=true->b_ K H x v)/\∀H',ag H H'->R K H₀ H' v
 | .dt ks xs,v=>∃a vs,v = .ref a/\H a=some (.dT (yP ks vs))/\H₀ a=none/\ks.length=vs.length/\af K H xs vs
 | .own xs,v=>∃a vs,v = .ref a/\H a=some (.lst vs)/\H₀ a=none/\af K H xs vs
 | .dcl kvs,v=>∃a bB as,v = .ref a/\H a=some (.dK bB)/\H₀ a=none/\h9 K H₀ H kvs bB as
 | .box false iy,v=>∃a bB as,v = .ref a/\H a=some (.lst (as.map V.ref))/\H₀ a=none/\a ∉ as/\h9 K H₀ H (iy.map λx=>(0,x)) bB as
 | .box true iy,v=>∃a bB as,v = .ref a/\H a=some (.tup (as.map V.ref))/\h9 K H₀ H (iy.map λx=>(0,x)) bB as
def Ow (H:Hp):S->V->Addr->Prop
 | .exc _ _ _,_,_=>False
 | .raw _,_,_=>False
 | .mem _ _ _,_,_=>False
 | .d _,_,_=>False
 | .own _,v,a=>v = .ref a
 | .dt _ _,v,a=>v = .ref a
 | .dcl _,v,a=>∃p bB,v = .ref p/\H p=some (.dK bB)/\(a=p\/∃k,(k,V.ref a)∈bB)
 | .box false _,v,a=>∃p vs,v = .ref p/\H p=some (.lst vs)/\(a=p\/V.ref a∈vs)
 | .box true _,v,a=>∃p vs,v = .ref p/\H p=some (.tup vs)/\V.ref a∈vs
structure ao (X:Cx) (ρ:En) (σ:St) (H:Hp):Prop where
 len:ρ.length=σ.length
 same:ae X.H₀ H
 rel:∀(i:Nat) (x:S),ρ[i]? = some (some x)->∃v,σ[i]? = some (some v)/\iq X.K X.H₀ H x v
 sep:∀(i j:Nat) (x y:S) (v u:V) (a:Addr),ρ[i]? = some (some x)->ρ[j]? = some (some y)->σ[i]? = some (some v)->σ[j]? = some (some u)->Ow H x v a->Ow H y u a->i=j
 t0:fo X.K X.H₀
section
variable {K:aI} {H₀ H H':Hp}
theorem h9.keep {kvs:List (Int × List D)} {bB:List (f6 × V)} {as:List Addr} (k:ag H H') (t:h9 K H₀ H kvs bB as) (w:∀a∈as,∀o,H a=some o->H' a=some o):h9 K H₀ H' kvs bB as:=by
 induction t with
 | nil=>exact .nil
 | cons h h0 r n t ih=>exact .cons (w _ (.head _) _ h) h0 (r.keep k) n (ih λa m=>w a (.tail _ m))
theorem h9.mem {kvs:List (Int × List D)} {bB:List (f6 × V)} {as:List Addr} {a:Addr} (t:h9 K H₀ H kvs bB as):a∈as↔∃k,(k,V.ref a)∈bB:=by
 induction t with
 | nil=>simp
 | cons h h0 r n t ih =>
  rw[aJ,ih];constructor
  ·rintro (rfl | ⟨k,e⟩)
   ·exact⟨_,.head _⟩
   ·exact⟨k,.tail _ e⟩
  ·rintro⟨k,e⟩;rcases aJ.mp e with e | e
   ·cases e;exact .inl rfl
   ·exact .inr ⟨k,e⟩
theorem h9.at {kvs:List (Int × List D)} {bB:List (f6 × V)} {as:List Addr} {a:Addr} (t:h9 K H₀ H kvs bB as) (m:a∈as):H₀ a=none/\∃vs,H a=some (.lst vs):=by
 induction t with
 | nil=>cases m
 | cons h h0 r n t ih =>
  rcases aJ.mp m with rfl | m
  ·exact⟨h0,_,h⟩
  ·exact ih m
theorem h9.same {kvs:List (Int × List D)} {bB:List (f6 × V)} {as:List Addr} (t:h9 K H₀ H kvs bB as) (s:ae H H'):h9 K H₀ H' kvs bB as :=
 t.keep (.of s) λc m o h=>by
  obtain⟨_,vs,q⟩:=t.at m;rw[h] at q;cases q;exact s.get _ _ h trivial
theorem FX:∀{ks:List Int} {vs:List V},ks.length=vs.length->(wY ks vs).map (·.2)=vs
 | [],[],_=>rfl
 | [],_::_,h=>by cases h
 | _::_,[],h=>by cases h
 | k::ks,v::vs,h=>by
  show v::(wY ks vs).map (·.2)=v::vs;rw[FX (by simpa using h)]
theorem h9.refs {kvs:List (Int × List D)} {bB:List (f6 × V)} {as:List Addr} (t:h9 K H₀ H kvs bB as):bB.map (·.2)=as.map V.ref:=by
 induction t with
 | nil=>rfl
 | cons h h0 r n t ih=>rw[aQ,aQ,ih]
theorem Ow.at {x:S} {v:V} {a:Addr} (r:iq K H₀ H x v) (w:Ow H x v a):H₀ a=none/\((∃vs,H a=some (.lst vs))\/(∃bB,H a=some (.dK bB))\/∃bB,H a=some (.dT bB)):=by
 cases x with
 | d x=>exact w.elim
 | exc C y c=>exact w.elim
 | raw u=>exact w.elim
 | mem b x R=>exact w.elim
 | own xs =>
  obtain⟨b,vs,rfl,h,h0,_⟩:=r;cases w;exact⟨h0,.inl ⟨vs,h⟩⟩
 | dt ks xs =>
  obtain⟨b,vs,rfl,h,h0,_⟩:=r;cases w;exact⟨h0,.inr (.inr ⟨_,h⟩)⟩
 | dcl kvs =>
  obtain⟨b,bB,as,rfl,h,h0,t⟩:=r;obtain⟨p,zk,e,h',m⟩:=w;cases e;rw[h] at h';cases h';rcases m with rfl | m
  ·exact⟨h0,.inr (.inl ⟨bB,h⟩)⟩
  ·obtain⟨g0,g1⟩:=t.at (t.mem.mpr m);exact⟨g0,.inl g1⟩
 | box t iy =>
  cases t with
  | false =>
   obtain⟨b,bB,as,rfl,h,h0,_,t⟩:=r;obtain⟨p,vs,e,h',m⟩:=w;cases e;rw[h] at h';cases h';rcases m with rfl | m
   ·exact⟨h0,.inl ⟨_,h⟩⟩
   ·obtain⟨c,hc,e⟩:=bF.mp m;cases e;obtain⟨g0,g1⟩:=t.at hc;exact⟨g0,.inl g1⟩
  | true =>
   obtain⟨b,bB,as,rfl,h,t⟩:=r;obtain⟨p,vs,e,h',m⟩:=w;cases e;rw[h] at h';cases h';obtain⟨c,hc,e⟩:=bF.mp m;cases e;obtain⟨g0,g1⟩:=t.at hc;exact⟨g0,.inl g1⟩
theorem iq.move {x:S} {v:V} (k:ag H H') (r:iq K H₀ H x v) (w:∀a,Ow H x v a->∀o,H a=some o->H' a=some o):iq K H₀ H' x v/\∀a,Ow H' x v a->Ow H x v a:=by
 cases x with
 | d x=>exact⟨b_.keep k r,λa e=>e⟩
 | raw u=>exact⟨r,λa e=>e⟩
 | mem b x R=>exact⟨⟨λe=>(r.1 e).keep k,λH2 k2=>r.2 H2 (k.trans k2)⟩,λa e=>e⟩
 | exc C y c =>
  obtain⟨e,dx,rfl,h1,h2⟩:=r;exact⟨⟨e,dx,rfl,k.exts _ _ h1,k.xds _ _ h2⟩,λa e=>e⟩
 | own xs =>
  obtain⟨b,vs,rfl,h,h0,rr⟩:=r;exact⟨⟨b,vs,rfl,w b rfl _ h,h0,rr.keep k⟩,λa e=>e⟩
 | dt ks xs =>
  obtain⟨b,vs,rfl,h,h0,hl,rr⟩:=r;exact⟨⟨b,vs,rfl,w b rfl _ h,h0,hl,rr.keep k⟩,λa e=>e⟩
 | dcl kvs =>
  obtain⟨b,bB,as,rfl,h,h0,t⟩:=r;have hb:=w b ⟨b,bB,rfl,h,.inl rfl⟩ _ h;refine⟨⟨b,bB,as,rfl,hb,h0,t.keep k λa m=>w a ⟨b,bB,rfl,h,.inr (t.mem.mp m)⟩⟩,λa e=>?_⟩;obtain⟨p,zk,e,h',m⟩:=e;cases e;rw[hb] at h';cases h';exact⟨b,bB,rfl,h,m⟩
 | box t iy =>
  cases t with
  | false =>
   obtain⟨b,bB,as,rfl,h,h0,nb,t⟩:=r;have hb:=w b ⟨b,_,rfl,h,.inl rfl⟩ _ h;refine⟨⟨b,bB,as,rfl,hb,h0,nb,t.keep k λa m=>w a ⟨b,_,rfl,h,.inr (dI m)⟩⟩,λa e=>?_⟩;obtain⟨p,vs,e,h',m⟩:=e;cases e;rw[hb] at h';cases h';exact⟨b,_,rfl,h,m⟩
  | true =>
   obtain⟨b,bB,as,rfl,h,t⟩:=r;have hb:=k.tups b _ h;refine⟨⟨b,bB,as,rfl,hb,t.keep k λa m=>w a ⟨b,_,rfl,h,dI m⟩⟩,λa e=>?_⟩;obtain⟨p,vs,e,h',m⟩:=e;cases e;rw[hb] at h';cases h';exact⟨b,_,rfl,h,m⟩
theorem ae.own {x:S} {v:V} {a:Addr} {o:HO} (s:ae H H') (r:iq K H₀ H x v) (w:Ow H x v a) (h:H a=some o):H' a=some o:=by
 obtain⟨_,⟨_,q⟩ | ⟨_,q⟩ | ⟨_,q⟩⟩:=Ow.at r w <;> rw[h] at q <;> cases q <;> exact s.get _ _ h trivial
theorem iq.same {x:S} {v:V} (s:ae H H') (h:iq K H₀ H x v):iq K H₀ H' x v:=(h.move (.of s) λa w o e=>s.own h w e).1
end
section
def ao.tabs (st:ao X a Z H):fo X.K H:=st.t0.tabK st.same.tbls
def ao.ext (st:ao X b Z H) (s:ae H H'):ao X b Z H':=by
 refine⟨st.len,st.same.trans s,λi x e=>let ⟨v,h1,h2⟩:=st.rel i x e;⟨v,h1,h2.same s⟩,λi j x y v u a e1 e2 e3 e4 o1 o2=>?_,st.t0⟩;obtain⟨v',h1,h2⟩:=st.rel i x e1;obtain⟨u',g1,g2⟩:=st.rel j y e2;rw[h1] at e3;cases e3;rw[g1] at e4;cases e4;exact st.sep i j x y _ _ a e1 e2 h1 g1 ((h2.move (.of s) λa w o e=>s.own h2 w e).2 a o1) ((g2.move (.of s) λa w o e=>s.own g2 w e).2 a o2)
def MX {α:Type} {xs:List (Option α)} {x y:α} (e:(xs.set i (some x))[j]? = some (some y)):(j=i/\y=x/\i<xs.length)\/(i≠j/\xs[j]? = some (some y)):=by
 by_cases hj:i=j
 ·subst hj;by_cases h:i<xs.length
  ·rw[fP h] at e;cases e;exact .inl ⟨rfl,rfl,h⟩
  ·rw[List.set_eq_of_length_le (by lia),lB (by lia)] at e;cases e
 ·rw[fG hj] at e;exact .inr ⟨hj,e⟩
def ao.chg (st:ao X c Z H) {W:Addr->Prop} (kp:ag H H') (h0:ae X.H₀ H') (h1:∀b o,H b=some o->NT o->¬W b->H' b=some o) (h2:iq X.K X.H₀ H' x' v')
  (h3:∀a,Ow H' x' v' a->W a\/H a=none) (h4:∀(j:Nat) (y:S) (u:V) (a:Addr),j≠i->c[j]? = some (some y)->Z[j]? = some (some u)->Ow H y u a->¬W a):ao X (c.set i (some x')) (Z.set i (some v')) H':=by
 have old:∀(j:Nat) (y:S),j≠i->c[j]? = some (some y)->∃u,Z[j]? = some (some u)/\iq X.K X.H₀ H y u/\iq X.K X.H₀ H' y u/\∀a,Ow H' y u a->Ow H y u a:=λj y hj e=>by
  obtain⟨u,g1,g2⟩:=st.rel j y e;obtain⟨g3,g4⟩:=g2.move kp λa w o e'=>by
   have nw:=h4 j y u a hj e g1 w;obtain⟨_,⟨_,q⟩ | ⟨_,q⟩ | ⟨_,q⟩⟩:=Ow.at g2 w <;> rw[e'] at q <;> cases q <;> exact h1 a _ e' trivial nw
  exact⟨u,g1,g2,g3,g4⟩
 refine⟨by simp[st.len],h0,λj y e=>?_,λj k y z v u a e1 e2 e3 e4 o1 o2=>?_,st.t0⟩
 ·rcases MX e with ⟨rfl,rfl,hl⟩ | ⟨hj,e⟩
  ·exact⟨v',by rw[fP (by rw[<-st.len];exact hl)],h2⟩
  ·obtain⟨u,g1,_,g3,_⟩:=old j y (Ne.symm hj) e;exact⟨u,by rw[fG hj];exact g1,g3⟩
 ·have t9:∀(j:Nat) (y:S) (u:V),i≠j->c[j]? = some (some y)->Z[j]? = some (some u)->Ow H' y u a->Ow H' x' v' a->False:=λj y u hj e es o1 o2=>by
   obtain⟨u',g1,g2,g3,g4⟩:=old j y (Ne.symm hj) e;rw[g1] at es;cases es;rcases h3 a o2 with w | n
   ·exact h4 j y _ a (Ne.symm hj) e g1 (g4 a o1) w
   ·obtain⟨_,⟨_,q⟩ | ⟨_,q⟩ | ⟨_,q⟩⟩:=Ow.at g2 (g4 a o1) <;> rw[n] at q <;> cases q
  rcases MX e1 with ⟨rfl,rfl,hl⟩ | ⟨hj,yf⟩
  ·rcases MX e2 with ⟨rfl,rfl,_⟩ | ⟨hk,ua⟩
   ·rfl
   ·rw[fP (by rw[<-st.len];exact hl)] at e3;cases e3;rw[fG hk] at e4;exact (t9 k z u hk ua e4 o2 o1).elim
  ·rw[fG hj] at e3;rcases MX e2 with ⟨rfl,rfl,hl⟩ | ⟨hk,ua⟩
   ·rw[fP (by rw[<-st.len];exact hl)] at e4;cases e4;exact (t9 j y v hj yf e3 o1 o2).elim
   ·rw[fG hk] at e4;obtain⟨v',g1,g2,g3,g4⟩:=old j y (Ne.symm hj) yf;obtain⟨u',f1,f2,f3,f4⟩:=old k z (Ne.symm hk) ua;rw[g1] at e3;cases e3;rw[f1] at e4;cases e4;exact st.sep j k y z _ _ a yf ua g1 f1 (g4 a o1) (f4 a o2)
def ao.put (st:ao X c Z H) (s:ae H H') (h2:iq X.K X.H₀ H' x' v') (h3:∀a,Ow H' x' v' a->H a=none):ao X (c.set i (some x')) (Z.set i (some v')) H' :=
 st.chg (W:=λ_=>False) (.of s) (st.same.trans s) (λb o h n _=>s.get b o h n) h2 (λa o=>.inr (h3 a o)) λ_ _ _ _ _ _ _ _ z=>z
def ao.updW (st:ao X c Z H) (e:c[i]? = some (some x)) (es:Z[i]? = some (some v)) (h1:∀b o,H b=some o->¬Ow H x v b->H' b=some o) (h2:iq X.K X.H₀ H' x' v')
  (h3:∀a,Ow H' x' v' a->Ow H x v a\/H a=none):ao X (c.set i (some x')) (Z.set i (some v')) H'/\ag H H':=by
 obtain⟨v0,g1,g2⟩:=st.rel i x e;rw[g1] at es;cases es;have no:∀b o,H b=some o->(∀vs,o≠.lst vs)->(∀bB,o≠.dK bB)->(∀bB,o≠.dT bB)->¬Ow H x v b:=λb o h n1 n2 n3 w=>by
  obtain⟨_,⟨_,q⟩ | ⟨_,q⟩ | ⟨_,q⟩⟩:=Ow.at g2 w <;> rw[h] at q <;> cases q
  ·exact n1 _ rfl
  ·exact n2 _ rfl
  ·exact n3 _ rfl
 have ne:∀b o,H b=some o->(∀vs,o≠.lst vs)->(∀bB,o≠.dK bB)->(∀bB,o≠.dT bB)->H' b=some o:=λb o h n1 n2 n3=>h1 b o h (no b o h n1 n2 n3);have kp:ag H H':=⟨λb xs h=>ne b _ h (λ_ z=>by cases z) (λ_ z=>by cases z) (λ_ z=>by cases z),λb o u h=>ne b _ h (λ_ z=>by cases z) (λ_ z=>by cases z) (λ_ z=>by cases z),λb d h=>ne b _ h (λ_ z=>by cases z) (λ_ z=>by cases z) (λ_ z=>by cases z),λb fs h=>ne b _ h (λ_ z=>by cases z) (λ_ z=>by cases z) (λ_ z=>by cases z),
  .of (λb d h=>ne b _ h (λ_ z=>by cases z) (λ_ z=>by cases z) (λ_ z=>by cases z)) λb d h=>ne b _ h (λ_ z=>by cases z) (λ_ z=>by cases z) (λ_ z=>by cases z)⟩
 refine⟨st.chg (W:=Ow H x v) kp ⟨λb o h n=>h1 b o (st.same.get b o h n) λw=>?_,st.same.tbls.trans kp.tbls⟩ (λb o h _ w=>h1 b o h w) h2 h3 λj y u a hj ej eu o1 o2=>hj (st.sep j i y x u v a ej e eu g1 o1 o2),kp⟩;rw[(Ow.at g2 w).1] at h;cases h
def ao.set_d (st:ao X a Z H) (r:b_ X.K H d v):ao X (a.set i (some (.d d))) (Z.set i (some v)) H:=st.put (x':=.d d) (ae.refl H) r λ_ o=>o.elim
def lQ {α:Type} {xs:List α} {x:α} (e:xs[i]? = some x):xs.set i x=xs:=by
 apply GO ;intro j;by_cases hj:i=j
 ·subst hj;rw[fP (bC.mp e).1,e]
 ·rw[fG hj]
def ao.set_own (st:ao X c Z H) (hp:H p=none) (r:af X.K H ds vs) :
  ao X (c.set i (some (.own ds))) (Z.set i (some (.ref p))) (au H p (.lst vs)):=by
 have sm:ae H (au H p (.lst vs)):=.fn λb o h=>by rw[cH (dG h hp)];exact h
 exact st.put sm ⟨p,vs,rfl,eB,st.same.free hp,r.keep (.of sm)⟩ λa o=>by cases o;exact hp
def ao.upd_own (st:ao X c Z H) (e:c[i]? = some (some (.own xs))) (es:Z[i]? = some (some (.ref p))) (hp:H p=some (.lst us)) (h0:X.H₀ p=none)
  (r:af X.K H ds vs):ao X (c.set i (some (.own ds))) Z (au H p (.lst vs))/\ag H (au H p (.lst vs)):=by
 have kp:ag H (au H p (.lst vs)):=ag.chg1 hp (.inl ⟨_,rfl⟩);have:=st.updW (x':=.own ds) (v':=.ref p) e es (H':=au H p (.lst vs)) (λb o h w=>by rw[cH (by rintro rfl;exact w rfl)];exact h) ⟨p,vs,rfl,eB,h0,r.keep kp⟩ λa o=>.inl o;rw[lQ es] at this;exact this
end
section
variable {σ:St} {s:aG}
theorem Inv.freezeG (I:Inv X pins σ H s) (h:H a=some x) (ho:s.heap.get? a=some o) (n1:∀ys,HO.tup ys≠x) (n2:∀o w,HO.frz o w≠x) (n3:∀ps,HO.tbl ps≠x) (n4:∀c,HO.own c≠x):Inv X pins σ (au H a (.frz o x)) s:=by
 have ok:=I.hok a _ h;have nI:∀b u,H b=some u->u≠x->b≠a:=λb u q d z=>by subst z;rw[h] at q;cases q;exact d rfl
 have st:∀{b:Addr} {u:HO},bi X.prog X.w H s.heap b u->bi X.prog X.w (au H a (.frz o x)) s.heap b u:=λ{b u} q =>
  q.stay (λc v _ w=>w) (λc w=>by rw[cH (nI c _ w (n4 _))];exact w) λc ys w=>by rw[cH (nI c _ w (n1 _))];exact w
 refine I.un (t':=s.toks) (h':=s.heap) ⟨λb o q _ _ _=>q,λb o q _ _ _=>⟨o.slots,q⟩,λb o q n _=>?_,λb o q _=>⟨o,q⟩,λb ys q=>?_,λb o u q=>?_,λb ps q=>⟨#[],?_⟩⟩ λb u q=>?_
 ·rw[cH (λz=>by subst z;rw[h] at n;cases n)];exact n
 ·rw[cH (nI b _ q (n1 _))];exact q
 ·rw[cH (nI b _ q (n2 _ _))];exact q
 ·rw[cH (nI b _ q (n3 _)),q];simp
 ·by_cases hb:b=a
  ·subst hb;rw[eB] at q;cases q;exact⟨ho,st ok⟩
  ·rw[cH hb] at q;exact st (I.hok b u q)
theorem Inv.freeze (I:Inv X pins σ H s) (h:H a=some (.lst xs)):∃o,Inv X pins σ (au H a (.frz o (.lst xs))) s:=by
 obtain⟨z,its,n,r,e⟩:=I.hok a _ h;exact⟨_,Inv.freezeG I h e (λ_ z=>by cases z) (λ_ _ z=>by cases z) (λ_ z=>by cases z) (λ_ z=>by cases z)⟩
theorem Inv.freezeD (I:Inv X pins σ H s) (h:H a=some (.dK kvs)):∃o,Inv X pins σ (au H a (.frz o (.dK kvs))) s:=by
 obtain⟨_,_,vs,r,ob,es,ep,e,_⟩:=I.hok a _ h;exact⟨ob,Inv.freezeG I h e (λ_ z=>by cases z) (λ_ _ z=>by cases z) (λ_ z=>by cases z) (λ_ z=>by cases z)⟩
theorem Inv.freezeT (I:Inv X pins σ H s) (h:H a=some (.dT kvs)):∃o,Inv X pins σ (au H a (.frz o (.dT kvs))) s:=by
 obtain⟨_,_,_,_,ob,_,_,e,_⟩:=I.hok a _ h;exact⟨ob,Inv.freezeG I h e (λ_ z=>by cases z) (λ_ _ z=>by cases z) (λ_ z=>by cases z) (λ_ z=>by cases z)⟩
theorem ae.upd_new (s:ae H H1) (n:H a=none) (m:∀d,H1 a≠some (.ext d)):ae H (au H1 a o):=by
 refine⟨λb u h nt=>by rw[cH (dG h n)];exact s.get b u h nt,λb ps h=>?_⟩;obtain⟨more,e1,e2⟩:=s.tbls b ps h;refine⟨more,by rw[cH (dG h n)];exact e1,λx=>(e2 x).mono λc d q=>?_⟩;rw[cH (by rintro rfl;exact m _ q)];exact q
theorem tG:∀(kvs:List (Int × List D)) {bB:List (f6 × V)} {as:List Addr} {H:Hp},Inv X pins σ H s->h9 X.K X.H₀ H kvs bB as ->
  ∃H' vs,Inv X pins σ H' s/\bB=wY (kvs.map (·.1)) vs/\kvs.length=vs.length/\af X.K H' (kvs.map λp=>.lst p.2) vs/\ag H H'/\∀b o,H b=some o->b ∉ as->H' b=some o
 | [],_,_,H,I,t=>by cases t;exact⟨H,[],I,rfl,rfl,.nil,ag.refl H,λb o h _=>h⟩
 | (k,ds)::kvs,_,_,H,I,t=>by
  cases t with
  | @cons _ b vs _ _ bB as h h0 r n t =>
   obtain⟨o,I1⟩:=Inv.freeze I h;have kp:ag H (au H b (.frz o (.lst vs))):=ag.chg1 h (.inl ⟨_,rfl⟩);obtain⟨H',us,I2,e1,e2,e3,k2,e4⟩:=tG kvs I1 (t.keep kp λa m o e=>by rw[cH (by rintro rfl;exact n m)];exact e);subst e1;refine⟨H',.ref b::us,I2,rfl,by simp[e2],.cons (.lst (.inl ⟨o,k2.frzs _ _ _ eB⟩) (r.keep (kp.trans k2))) e3,kp.trans k2,λc u q m=>?_⟩;rw[aJ,not_or] at m;exact e4 c u (by rw[cH m.1];exact q) m.2
def S.fz:S->S
 | .own ds=>.d (.lst ds)
 | .dcl kvs=>.d (.dct (kvs.map (·.1)) (kvs.map λp=>.lst p.2))
 | .box false iy=>.d (.lst (iy.map .lst))
 | .box true iy=>.d (.tup (iy.map .lst))
 | .d x=>.d x
 | .exc C y c=>.exc C y c
 | .raw u=>.raw u
 | .mem b x R=>.mem b x R
 | .dt ks xs=>.d (.dtt ks xs)
theorem ao.fz (so:ao X f σ H) (I:Inv X pins σ H s) (e:f[i]? = some (some x)):∃H',Inv X pins σ H' s/\ao X (f.set i (some x.fz)) σ H'/\ag H H':=by
 obtain⟨v,h1,h2⟩:=so.rel i _ e;cases x with
 | d x=>exact⟨H,I,by rw[show S.fz (.d x) = .d x from rfl,lQ e];exact so,ag.refl H⟩
 | exc C y c=>exact⟨H,I,by rw[show S.fz (.exc C y c) = .exc C y c from rfl,lQ e];exact so,ag.refl H⟩
 | raw u=>exact⟨H,I,by rw[show S.fz (.raw u) = .raw u from rfl,lQ e];exact so,ag.refl H⟩
 | mem b x R=>exact⟨H,I,by rw[show S.fz (.mem b x R) = .mem b x R from rfl,lQ e];exact so,ag.refl H⟩
 | own ds =>
  obtain⟨p,vs,ev,hp,h0,rr⟩:=id h2;subst ev;obtain⟨o,I2⟩:=Inv.freeze I hp;have kp:ag H (au H p (.frz o (.lst vs))):=ag.chg1 hp (.inl ⟨_,rfl⟩);obtain⟨gg,k2⟩:=so.updW (x':=.d (.lst ds)) (v':=.ref p) e h1 (H':=au H p (.frz o (.lst vs))) (λb o h w=>by rw[cH (by rintro rfl;exact w rfl)];exact h) (.lst (.inl ⟨o,eB⟩) (rr.keep kp)) λa o=>o.elim;rw[lQ h1] at gg;exact⟨_,I2,gg,k2⟩
 | dt ks xs =>
  obtain⟨p,vs,ev,hp,h0,hl,rr⟩:=id h2;subst ev;obtain⟨o,I2⟩:=Inv.freezeT I hp;have kp:ag H (au H p (.frz o (.dT (yP ks vs)))):=ag.chg1 hp (.inr (.inr ⟨_,rfl⟩));obtain⟨gg,k2⟩:=so.updW (x':=.d (.dtt ks xs)) (v':=.ref p) e h1 (H':=au H p (.frz o (.dT (yP ks vs)))) (λb o h w=>by rw[cH (by rintro rfl;exact w rfl)];exact h) (.dtt eB hl (rr.keep kp)) λa o=>o.elim;rw[lQ h1] at gg;exact⟨_,I2,gg,k2⟩
 | dcl kvs =>
  obtain⟨p,bB,as,ev,hp,h0,t⟩:=id h2;subst ev;obtain⟨H1,vs,I1,e1,e2,e3,k1,e4⟩:=tG kvs I t;have np:p ∉ as:=λm=>by obtain⟨_,us,q⟩:=t.at m;rw[hp] at q;cases q
  have nj:=e4 p _ hp np;obtain⟨o,I2⟩:=Inv.freezeD I1 nj;have kp:ag H1 (au H1 p (.frz o (.dK bB))):=ag.chg1 nj (.inr (.inl ⟨_,rfl⟩));obtain⟨gg,k2⟩:=so.updW (x':=.d (.dct (kvs.map (·.1)) (kvs.map λp=>.lst p.2))) (v':=.ref p) e h1 (H':=au H1 p (.frz o (.dK bB)))
   (λb o h w=>by
    rw[cH (by rintro rfl;exact w ⟨_,bB,rfl,hp,.inl rfl⟩)];exact e4 b o h λm=>w ⟨p,bB,rfl,hp,.inr (t.mem.mp m)⟩)
   (.dct (by rw[eB,e1]) (by simp[e2]) (e3.keep kp)) λa o=>o.elim
  rw[lQ h1] at gg;exact⟨_,I2,gg,k2⟩
 | box t iy =>
  have emap:(iy.map λx=>((0:Int),x)).map (λp=>D.lst p.2)=iy.map D.lst:=by rw[dA];rfl
  cases t with
  | false =>
   obtain⟨p,bB,as,ev,hp,h0,np,t⟩:=id h2;subst ev;obtain⟨H1,vs,I1,e1,e2,e3,k1,e4⟩:=tG _ I t;rw[emap] at e3;have ea:as.map V.ref=vs:=(by rw[<-t.refs,e1];exact FX (by rw[aS];simpa using e2));have nj:=e4 p _ hp np;obtain⟨o,I2⟩:=Inv.freeze I1 nj;have kp:ag H1 (au H1 p (.frz o (.lst (as.map V.ref)))):=ag.chg1 nj (.inl ⟨_,rfl⟩);obtain⟨gg,k2⟩:=so.updW (x':=.d (.lst (iy.map .lst))) (v':=.ref p) e h1 (H':=au H1 p (.frz o (.lst (as.map V.ref))))
    (λb o h w=>by
     rw[cH (by rintro rfl;exact w ⟨_,_,rfl,hp,.inl rfl⟩)];exact e4 b o h λm=>w ⟨p,_,rfl,hp,.inr (dI m)⟩)
    (.lst (vs:=as.map V.ref) (.inl ⟨o,eB⟩) (by have z:=e3.keep kp;rw[<-ea] at z;exact z)) λa o=>o.elim
   rw[lQ h1] at gg;exact⟨_,I2,gg,k2⟩
  | true =>
   obtain⟨p,bB,as,ev,hp,t⟩:=id h2;subst ev;obtain⟨H1,vs,I1,e1,e2,e3,k1,e4⟩:=tG _ I t;rw[emap] at e3;have ea:as.map V.ref=vs:=(by rw[<-t.refs,e1];exact FX (by rw[aS];simpa using e2));obtain⟨gg,k2⟩:=so.updW (x':=.d (.tup (iy.map .lst))) (v':=.ref p) e h1 (H':=H1)
    (λb o h w=>e4 b o h λm=>w ⟨p,_,rfl,hp,dI m⟩)
    (.tup (vs:=as.map V.ref) (k1.tups _ _ hp) (by have z:=e3;rw[<-ea] at z;exact z)) λa o=>o.elim
   rw[lQ h1] at gg;exact⟨_,I1,gg,k2⟩
end
structure Sz (n:Nat):Prop where
 ok:n<=sizeLine
abbrev RE:=En->(D->Prop)->Prop
abbrev RT:=En->(Bool->Prop)->Prop
abbrev RA:=En->(List D->Prop)->Prop
structure jd where
 nx:En->Prop
 rt:D->Prop
 bk:En->Prop:=λ_=>False
 ct:En->Prop:=λ_=>False
abbrev RS:=jd->En->Prop
abbrev RG:=D->En->(En->Prop)->Prop
def Md (X:Cx) (t:RE):TE:=λZ H Q=>∃a P,ao X a Z H/\t a P/\∀d v H',P d->ae H H'->b_ X.K H' d v->Q v H'
def Mc (X:Cx) (t:RE):TE:=λZ H Q=>∃a P,ao X a Z H/\t a P/\∀d v H',P d->ae H H'->c8 X.K H' d v->Q v H'
def Zb (X:Cx) (t:RA):TE:=λZ H Q=>∃a P,ao X a Z H/\t a P/\∀ds p vs H1,P ds->ae H H1->H1 p=none->af X.K H1 ds vs->Q (.ref p) (au H1 p (.lst vs))
def liftT (X:Cx) (t:RT):TT:=λZ H Q=>∃a P,ao X a Z H/\t a P/\∀b H',P b->ae H H'->Q b H'
def Yx (X:Cx) (t:RA):TA:=λZ H Q=>∃a P,ao X a Z H/\t a P/\∀ds vs H',P ds->ae H H'->af X.K H' ds vs->Q vs H'
def Tf (X:Cx) (t:RS):TS:=λDe Z H=>∃a E,ao X a Z H/\t E a/\(∀a' Z' H',E.nx a'->ag H H'->ao X a' Z' H'->De.nx Z' H')/\(∀d v H',E.rt d->ag H H'->ae X.H₀ H'->b_ X.K H' d v->De.rt v H') /\
 (∀a' Z' H',E.bk a'->ag H H'->ao X a' Z' H'->De.bk Z' H')/\∀a' Z' H',E.ct a'->ag H H'->ao X a' Z' H'->De.ct Z' H'
def Yy (X:Cx) (g:RG):TG:=λv Z H Q=>∃d a P,b_ X.K H d v/\ao X a Z H/\g d a P/\∀a' Z' H',P a'->ag H H'->ao X a' Z' H'->Q Z' H'
def iM {α β:Type} {A B C:α->β->Prop} {R:Prop} (h:∃d P,A d P/\B d P/\C d P) (k:∀d P,A d P->B d P->C d P->R):R:=let ⟨d,P,a,b,c⟩:=h;k d P a b c
def VW {α β γ:Type} {A B C E:γ->α->β->Prop} {R:Prop} (h:∃d f P,A d f P/\B d f P/\C d f P/\E d f P) (k:∀d f P,A d f P->B d f P->C d f P->E d f P->R):R:=let ⟨d,f,P,a,b,c,e⟩:=h;k d f P a b c e
def oX {α β:Type} {A B C E F G:α->β->Prop} {R:Prop} (h:∃d P,A d P/\B d P/\C d P/\E d P/\F d P/\G d P) (k:∀d P,A d P->B d P->C d P->E d P->F d P->G d P->R):R:=let ⟨d,P,a,b,c,e,f,g⟩:=h;k d P a b c e f g
def DE (X:Cx) (e:Expr) (t:RE):Prop:=PE X e (Md X t)
def DB (X:Cx) (e:Expr) (t:RE):Prop:=PE X e (Mc X t)
def DO (X:Cx) (e:Expr) (t:RA):Prop:=PE X e (Zb X t)
def DT (X:Cx) (e:Expr) (t:RT):Prop:=PT X e (liftT X t)
def DW (X:Cx) (e:Expr) (t:RT):Prop:=PW X e (liftT X t)
def DA (X:Cx) (es:List Expr) (t:RA):Prop:=PA X es (Yx X t)
def DS (X:Cx) (st:Stmt) (t:RS):Prop:=PS X st (Tf X t)
def om (X:Cx) (tv:List Stmt) (t:RS):Prop:=fk X tv (Tf X t)
def DG (X:Cx) (tg:Expr) (g:RG):Prop:=PG X tg (Yy X g)
def PE.mono (h:PE X e t) (m:∀Z H Q,t' Z H Q->t Z H Q):PE X e t':=λpins s Z H Q I q=>h pins s Z H Q I (m Z H Q q)
def PT.mono (h:PT X e t) (m:∀Z H Q,t' Z H Q->t Z H Q):PT X e t':=λpins s Z H Q I q=>h pins s Z H Q I (m Z H Q q)
def PW.mono (h:PW X e t) (m:∀Z H Q,t' Z H Q->t Z H Q):PW X e t':=λwh pins s Z H Q I q=>h wh pins s Z H Q I (m Z H Q q)
def PA.mono (h:PA X e t) (m:∀Z H Q,t' Z H Q->t Z H Q):PA X e t':=λpos pins s Z H Q I q=>h pos pins s Z H Q I (m Z H Q q)
def PS.mono (h:PS X e t) (m:∀D Z H,t' D Z H->t D Z H):PS X e t':=λpins s Z H D I q=>h pins s Z H D I (m D Z H q)
def fk.mono (h:fk X e t) (m:∀D Z H,t' D Z H->t D Z H):fk X e t':=λpins s Z H D I q=>h pins s Z H D I (m D Z H q)
def PG.mono (h:PG X e t) (m:∀v Z H Q,t' v Z H Q->t v Z H Q):PG X e t':=λpins s Z H v u Q I r q=>h pins s Z H v u Q I r (m v Z H Q q)
section
variable {X:Cx} {e a b c:Expr} {pos:Pos}
theorem DE.bor (h:DE X e t):DB X e t:=PE.mono h λZ H Q hh=>iM hh λf P st q k=>⟨f,P,st,q,λd v H' p s r=>k d v H' p s (.inl r)⟩
theorem DO.val (h:DO X e t):DE X e (λd Q=>t d λds=>Q (.lst ds)):=by
 intro pins s Z H Q I aw;obtain⟨d,P,st,q,k⟩:=aw;refine ci (h pins s Z H (λv H'=>∃ds p vs H1,v = .ref p/\H'=au H1 p (.lst vs)/\P (.lst ds)/\ae H H1/\H1 p=none/\af X.K H1 ds vs) I ⟨d,_,st,q,λds p vs H1 hp s1 hn r=>⟨ds,p,vs,H1,rfl,rfl,hp,s1,hn,r⟩⟩) λu s1 ⟨v,H',I',rv,ds,p,vs,H1,ev,eH,hp,sm,hn,r⟩=>?_;subst ev eH;obtain⟨o,I2⟩:=Inv.freeze I' (a:=p) (xs:=vs) eB;have o6:ae H1 (au (au H1 p (.lst vs)) p (.frz o (.lst vs))):=ae.fn λb u e=>by rw[cH (dG e hn),cH (dG e hn)];exact e
 exact⟨.ref p,_,I2,rv,k (.lst ds) (.ref p) _ hp (sm.trans o6) (.lst (.inl ⟨o,eB⟩) (r.keep (.of o6)))⟩
def cB (i:Nat):RE:=λf Q=>match f[i]? with
 | some (some (.d d))=>Q d
 | some (some (.mem true d _))=>Q d
 | _=>False
def aM (i:Nat):RE:=λf Q=>match f[i]? with
 | some (some (.d d))=>Q d
 | some (some (.own xs))=>Q (.lst xs)
 | some (some (.mem true d _))=>Q d
 | _=>False
theorem dv (i:Nat) {x:Str} (hN:X.N[i]? = some x:=by rfl) (hv:kn X.env.scope x:=by walk_at "vis") (hd:(x == ("__debug__":Str))=false:=by decide)
  (g_:(x == ("__classdict__":Str))=false:=by decide):DE X (.Name x pos) (cB i):=by
 refine PE.mono (pv i hN hv hd g_) λZ H Q hh=>iM hh λf P st q k=>?_;unfold cB at q;split at q
 ·rename_i d e;obtain⟨v,h1,h2⟩:=st.rel i _ e;exact⟨v,h1,k d v H q (ae.refl H) h2⟩
 ·rename_i d R e;obtain⟨v,h1,h2⟩:=st.rel i _ e;exact⟨v,h1,k d v H q (ae.refl H) (h2.1 rfl)⟩
 ·exact q.elim
theorem ah (i:Nat) {x:Str} (hN:X.N[i]? = some x:=by rfl) (hv:kn X.env.scope x:=by walk_at "vis") (hd:(x == ("__debug__":Str))=false:=by decide)
  (g_:(x == ("__classdict__":Str))=false:=by decide):DB X (.Name x pos) (aM i):=by
 refine PE.mono (pv i hN hv hd g_) λZ H Q hh=>iM hh λf P st q k=>?_;unfold aM at q;split at q
 ·rename_i d e;obtain⟨v,h1,h2⟩:=st.rel i _ e;exact⟨v,h1,k _ v H q (ae.refl H) (.inl h2)⟩
 ·rename_i xs e;obtain⟨v,h1,h2⟩:=st.rel i _ e;obtain⟨a,vs,e1,e2,_,r⟩:=h2;exact⟨v,h1,k _ v H q (ae.refl H) (.inr ⟨xs,a,vs,rfl,e1,e2,r⟩)⟩
 ·rename_i d R e;obtain⟨v,h1,h2⟩:=st.rel i _ e;exact⟨v,h1,k _ v H q (ae.refl H) (.inl (h2.1 rfl))⟩
 ·exact q.elim
def rC (d:D):RE:=λ_ Q=>Q d
theorem iQ:DE X (.Constant (.int i) j pos) (rC (.int i)):=PE.mono Mx λZ H Q hh=>iM hh λd P st q k=>k _ _ H q (ae.refl H) (.int i)
theorem nJ:DE X (.Constant (.bool i) j pos) (rC (.bl i)):=PE.mono Zh λZ H Q hh=>iM hh λd P st q k=>k _ _ H q (ae.refl H) (.bl i)
theorem OP:DE X (.Constant .none j pos) (rC .non):=PE.mono Vz λZ H Q hh=>iM hh λd P st q k=>k _ _ H q (ae.refl H) .non
abbrev R22:=D->D->(D->Prop)->Prop
def Te (X:Cx) (r:R22):R2:=λx y H Q=>∃d e P,c8 X.K H d x/\c8 X.K H e y/\r d e P/\∀z v H',P z->ae H H'->b_ X.K H' z v->Q v H'
def jn (X:Cx) (f:aB->aB->Sem aB) (r:R22):Prop:=jv X f (Te X r)
def r2 (r:R22) (ta tb:RE):RE:=λd Q=>ta d λx=>tb d λy=>r x y Q
variable {ta tb tc:RE}
theorem Mb (h:Md X (r2 r ta tb) Z H Q):z9 (Te X r) (Mc X ta) (Mc X tb) Z H Q:=by
 obtain⟨d,P,st,ht,hP⟩:=h;exact⟨d,_,st,ht,λx v H1 h1 s1 r1=>⟨d,_,st.ext s1,h1,λy u H2 h2 s2 r2=>⟨x,y,P,r1.same s2,r2,h2,λz w H' hz s3 r3=>hP z w H' hz ((s1.trans s2).trans s3) r3⟩⟩⟩
theorem dP (ho:jn X (binaryOp op) r) (ha:DB X a ta) (hb:DB X b tb):DE X (.BinOp a op b pos) (r2 r ta tb):=PE.mono (Zi ho ha hb) λZ H Q h=>Mb h
theorem wC (ho:jn X (compareOp op) r) (ha:DB X a ta) (hb:DB X b tb) (hm:behindInMarks op b=false:=by exact Mk _):DE X (.Compare a [op] [b] pos) (r2 r ta tb):=PE.mono (Rj ho ha hb hm) λZ H Q h=>Mb h
def dZ (t:RE):RT:=λf Q=>t f λd=>match d with
 | .bl k=>Q k
 | _=>False
theorem gI (ho:jn X (compareOp op) r) (ha:DB X a ta) (hb:DB X b tb) (hm:behindInMarks op b=false:=by exact Mk _):DT X (.Compare a [op] [b] pos) (dZ (r2 r ta tb)):=by
 refine PT.mono (Rt ho ha hb hm) λZ H Q hh=>iM hh λf P st q k=>?_;refine Mb (Q:=λx H'=>∃k,x = .bl k/\Q k H') ⟨f,_,st,q,λd v H' hd s r=>?_⟩;cases d with
 | bl b=>exact⟨b,r.bl_inv,k b H' hd s⟩
 | _=>exact hd.elim
theorem kX (h:DE X e ta) (he:∀whole,isTrue e X.env whole=(do let v <-whole;standAt e.pos;holding [v] (truthy v)):=by intro _;rfl):DT X e (dZ ta):=by
 refine PT.mono (Wk h he) λZ H Q hh=>iM hh λf P st q k=>?_;refine⟨f,_,st,q,λd v H' hd s r=>?_⟩;cases d with
 | bl b=>exact⟨b,r.bl_inv,k b H' hd s⟩
 | _=>exact hd.elim
def SR (t u:RT):RT:=λd Q=>t d λc=>if c=true then u d Q else Q false
def rOr (t u:RT):RT:=λd Q=>t d λc=>if c=true then Q true else u d Q
def qA (t:RT):RT:=λd Q=>t d λc=>Q (!c)
variable {tA tB:RT} {rest:List Expr}
theorem VR (ha:DT X a tA):DW X (.BoolOp .And [a] pos) tA:=Rw ha
theorem rS (ha:DT X a tA):DW X (.BoolOp .Or [a] pos) tA:=Wq ha
theorem Cf (ha:DT X a tA) (hb:DW X (.BoolOp .And (b::rest) pos) tB):DW X (.BoolOp .And (a::b::rest) pos) (SR tA tB) :=
 PW.mono (Wp ha hb) λZ H Q hh=>iM hh λf P st q k=>⟨f,_,st,q,λc H1 hc s1=>by
  cases c with
  | true=>rw[if_pos rfl] at hc ⊢;exact⟨f,P,st.ext s1,hc,λd H2 hd s2=>k d H2 hd (s1.trans s2)⟩
  | false=>rw[if_neg cM] at hc ⊢;exact k false H1 hc s1⟩
theorem nY (ha:DT X a tA) (hb:DW X (.BoolOp .Or (b::rest) pos) tB):DW X (.BoolOp .Or (a::b::rest) pos) (rOr tA tB) :=
 PW.mono (Zn ha hb) λZ H Q hh=>iM hh λf P st q k=>⟨f,_,st,q,λc H1 hc s1=>by
  cases c with
  | false=>rw[if_neg cM] at hc ⊢;exact⟨f,P,st.ext s1,hc,λd H2 hd s2=>k d H2 hd (s1.trans s2)⟩
  | true=>rw[if_pos rfl] at hc ⊢;exact k true H1 hc s1⟩
theorem DW.tst (h:DW X e tA):DT X e tA:=PW.pt h
theorem kW (ha:DT X a tA):DT X (.UnaryOp .Not a pos) (qA tA):=PT.mono (Wj ha) λZ H Q hh=>iM hh λd P st q k=>⟨d,_,st,q,λc H1 hc s1=>k _ H1 hc s1⟩
def IK (ta tb:RE):RE:=λf Q=>ta f λd=>match d with
 | .bl k=>if k=true then tb f Q else Q (.bl false)
 | _=>False
def E8 (ta tb:RE):RE:=λf Q=>ta f λd=>match d with
 | .bl k=>if k=true then Q (.bl true) else tb f Q
 | _=>False
def Nn (ta:RE):RE:=λf Q=>ta f λd=>match d with
 | .bl k=>Q (.bl (!k))
 | _=>False
theorem OQ {op} (h:DE X a ta):DE X (.BoolOp op [a] pos) ta:=We h
theorem JQ (ha:DE X a ta) (hb:DE X (.BoolOp .And (b::rest) pos) tb):DE X (.BoolOp .And (a::b::rest) pos) (IK ta tb) :=
 PE.mono (Vy ha hb) λZ H Q hh=>iM hh λf P st q k=>⟨f,_,st,q,λd v H1 hd s1 r=>by
  cases d with
  | bl c =>
   refine⟨c,r.bl_inv,?_⟩;cases c with
   | true=>exact⟨f,P,st.ext s1,hd,λd v H2 hd s2=>k d v H2 hd (s1.trans s2)⟩
   | false=>exact k (.bl false) (.bl false) H1 hd s1 (.bl false)
  | _=>exact hd.elim⟩
theorem Uk (ha:DE X a ta):DE X (.UnaryOp .Not a pos) (Nn ta) :=
 PE.mono (Wa ha) λZ H Q hh=>iM hh λf P st q k=>⟨f,_,st,q,λd v H1 hd s1 r=>by
  cases d with
  | bl c=>exact⟨c,r.bl_inv,k (.bl !c) (.bl !c) H1 hd s1 (.bl _)⟩
  | _=>exact hd.elim⟩
def rIf (t:RT) (ta tb:RE):RE:=λd Q=>t d λc=>if c=true then ta d Q else tb d Q
def Zd (X:Cx) (r:D->(D->Prop)->Prop):V->Hp->VK->Prop:=λx H Q=>∃d P,c8 X.K H d x/\r d P/\∀z v H',P z->ae H H'->b_ X.K H' z v->Q v H'
def Y_ (X:Cx) (f:aB->Sem aB) (r:D->(D->Prop)->Prop):Prop:=E_ X f (Zd X r)
def r1 (r:D->(D->Prop)->Prop) (ta:RE):RE:=λd Q=>ta d λx=>r x Q
theorem HI (ho:Y_ X (unaryOp op) r) (ha:DB X a ta):DE X (.UnaryOp op a pos) (r1 r ta) :=
 PE.mono (Zj ho ha) λZ H Q hh=>iM hh λf P st q k=>⟨f,_,st,q,λd v H1 hd s1 rr=>⟨d,P,rr,hd,λz v H2 hz s2 r2=>k z v H2 hz (s1.trans s2) r2⟩⟩
def aZ:RA:=λ_ Q=>Q []
def aC (t:RE) (u:RA):RA:=λd Q=>t d λx=>u d λxs=>Q (x::xs)
variable {t:RA}
theorem bD:DA X [] aZ:=PA.mono FZ λZ H Q hh=>iM hh λd P st q k=>k [] [] H q (ae.refl H) .nil
theorem aF (ha:DE X e ta) (hr:DA X es t) (hs:starEach (e::es) X.env=(false,eval e X.env)::starEach es X.env:=by rfl):DA X (e::es) (aC ta t) :=
 PA.mono (tI ha hr hs) λZ H Q hh=>iM hh λf P st q k=>⟨f,_,st,q,λd v H1 hd s1 r1=>⟨f,_,st.ext s1,hd,λds vs H2 o_ s2 r2=>k (d::ds) (v::vs) H2 o_ (s1.trans s2) (.cons (r1.keep (.of s2)) r2)⟩⟩
def jW (t:RA):RE:=λd Q=>t d λds=>Sz ds.length/\Q (.tup ds)
theorem gN {x1} (h:DA X es t):DE X (.Tuple es x1 pos) (jW t) :=
 PE.mono (Mz h) λZ H Q hh=>iM hh λd P st q k=>⟨d,_,st,q,λds vs H1 hd s1 r=>⟨by rw[<-r.length];exact hd.1.ok,λp hp=>k (.tup ds) (.ref p) _ hd.2 (ae.upd_new s1 (s1.free hp) λ_ z=>by rw[hp] at z;cases z) (by
  have sm:ae H1 (au H1 p (.tup vs)):=ae.fn λb u e=>by rw[cH (dG e hp)];exact e
  exact .tup eB (r.keep (.of sm)))⟩⟩
def sM (t:RA):RA:=λd Q=>t d λds=>Sz ds.length/\Q ds
theorem mG (h:DA X es t):DO X (.List es pos) (sM t) :=
 PE.mono (My h) λZ H Q hh=>iM hh λd P st q k=>⟨d,_,st,q,λds vs H1 hd s1 r=>⟨by rw[<-r.length];exact hd.1.ok,λp hp=>k ds p vs H1 hd.2 s1 hp r⟩⟩
end
section
variable {X:Cx} {e a b c:Expr} {pos:Pos} {st:Stmt} {rest:List Stmt} {t u:RS} {te:RE}
def dW (t u:RS):RS:=λE d=>t { E with nx:=u E } d
def gQ:RS:=λE d=>E.nx d
theorem fW:om X [] gQ:=fk.mono Rs λDe Z H hh=>oX hh λd E st q n r b c=>n d Z H q (ag.refl H) st
theorem fT (h:DS X st t):om X [st] t:=MV h
theorem aT (h1:DS X st t) (h2:om X rest u):om X (st::rest) (dW t u) :=
 fk.mono (uQ h1 h2) λDe Z H hh=>oX hh λf E st q n r b c=>⟨f,_,st,q,λf' Z' H' h k s=>⟨f',E,s,h,λf2 Z2 H2 x k2=>n f2 Z2 H2 x (k.trans k2),λd v H2 x k2=>r d v H2 x (k.trans k2),λf2 Z2 H2 x k2=>b f2 Z2 H2 x (k.trans k2),λf2 Z2 H2 x k2=>c f2 Z2 H2 x (k.trans k2)⟩,r,b,c⟩
theorem Kv:DS X st (λ_ _=>False):=PS.mono Nd λDe Z H ⟨d,E,st,q,_⟩=>q
def fI (te:RE):RS:=λE d=>te d E.rt
theorem VQ (h:DE X e te):DS X (.Return (some e) pos) (fI te) :=
 PS.mono (Cz h) λDe Z H hh=>oX hh λf E st q n r b c=>⟨f,_,st,q,λd v H1 hd s1 rr=>r d v H1 hd (.of s1) (st.same.trans s1) rr⟩
def Zp (te:RE):RS:=λE d=>te d λ_=>E.nx d
def kJ (c:RT) (t u:RS):RS:=λE d=>c d λk=>if k=true then t E d else u E d
theorem kB (hc:DT X c tA) (ha:om X sa t) (hb:om X sb u):DS X (.If c sa sb pos) (kJ tA t u) :=
 PS.mono (Zk hc ha hb) λDe Z H hh=>oX hh λf E st q n r b c=>⟨f,_,st,q,λk H1 hk s1=>by
  cases k with
  | true=>rw[if_pos rfl] at hk ⊢;exact⟨f,E,st.ext s1,hk,λf2 Z2 H2 x k2=>n f2 Z2 H2 x ((ag.of s1).trans k2),λd v H2 x k2=>r d v H2 x ((ag.of s1).trans k2),λf2 Z2 H2 x k2=>b f2 Z2 H2 x ((ag.of s1).trans k2),λf2 Z2 H2 x k2=>c f2 Z2 H2 x ((ag.of s1).trans k2)⟩
  | false=>rw[if_neg cM] at hk ⊢;exact⟨f,E,st.ext s1,hk,λf2 Z2 H2 x k2=>n f2 Z2 H2 x ((ag.of s1).trans k2),λd v H2 x k2=>r d v H2 x ((ag.of s1).trans k2),λf2 Z2 H2 x k2=>b f2 Z2 H2 x ((ag.of s1).trans k2),λf2 Z2 H2 x k2=>c f2 Z2 H2 x ((ag.of s1).trans k2)⟩⟩
def dH (i:Nat):RG:=λd f Q=>Q (f.set i (some (.d d)))
theorem dX {i:Nat} {x:Str} (hN:X.N.Nodup) (hi:X.N[i]? = some x:=by rfl) (hx:Loc X.env.scope x:=by walk_at "vis") (hf:X.fn x=true\/X.env.scope.names.lookup x=some .local:=by walk_at "loc"):DG X (.Name x pos) (dH i) :=
 PG.mono (WV hN hi hx hf) λv Z H Q hh=>VW hh λd f P r st q k=>k _ _ H q (ag.refl H) (st.set_d r)
abbrev r8:=List D->En->(En->Prop)->Prop
def Vm (X:Cx) (g:r8):t7:=λvs Z H Q=>∃ds d P,af X.K H ds vs/\ao X d Z H/\g ds d P/\∀d' Z' H',P d'->ag H H'->ao X d' Z' H'->Q Z' H'
def B_ (X:Cx) (ts:List Expr) (g:r8):Prop:=qu X ts (Vm X g)
theorem qu.mono {X:Cx} {e:List Expr} {t t':t7} (h:qu X e t) (m:∀v Z H Q,t' v Z H Q->t v Z H Q):qu X e t':=λpins s Z H v u Q I r q=>h pins s Z H v u Q I r (m v Z H Q q)
def pG:r8:=λds d Q=>match ds with
 | []=>Q d
 | _=>False
def gC (g:RG) (u:r8):r8:=λds f Q=>match ds with
 | []=>False
 | d::r=>g d f λf'=>u r f' Q
theorem mQ:B_ X [] pG:=qu.mono Fs λvs Z H Q hh=>VW hh λds d P r st q k=>by
 cases r with
 | nil=>exact⟨rfl,k d Z H q (ag.refl H) st⟩
 | cons _ _=>exact q.elim
theorem eW {u:r8} (h1:DG X e g) (h2:B_ X es u) (hs:(assignEach (e::es) X.env).map (·.2)=assign e X.env::(assignEach es X.env).map (·.2):=by rfl):B_ X (e::es) (gC g u) :=
 qu.mono (QF h1 h2 hs) λvs Z H Q hh=>VW hh λds d P r st q k=>by
  cases r with
  | nil=>exact q.elim
  | cons r rs =>
   refine⟨_,_,rfl,_,d,_,r,st,q,λd' Z' H' hq k1 O1=>⟨_,d',P,rs.keep k1,O1,hq,λd2 Z2 H2 p k2 s2=>k d2 Z2 H2 p (k1.trans k2) s2⟩⟩
def pH (n:Nat) (g:r8):RG:=λd f Q=>match d with
 | .tup ds=>ds.length=n/\g ds f Q
 | _=>False
theorem pX {es:List Expr} {k:Nat} {g:r8} {n:Nat} (hc:X.calm=true) (h:B_ X es g) (hn:(assignEach es X.env).length=n:=by rfl) (w_:(assignEach es X.env).findIdx? (·.1)=none:=by rfl):DG X (.Tuple es k pos) (pH n g) :=
 PG.mono (Na hc h hn w_) λv Z H Q hh=>VW hh λd f P r st q kk=>by
  cases d with
  | tup ds =>
   cases r with
   | tup h r=>exact⟨_,_,rfl,di.of h,by rw[<-r.length];exact q.1,ds,f,P,r,st,q.2,kk⟩
  | _=>exact q.elim
def Dk (te:RE) (g:RG):RS:=λE f=>te f λd=>g d f E.nx
theorem OU {tg:Expr} {g:RG} (he:DE X e te) (hg:DG X tg g) (hs:swapsWithSole [tg] e pos.line X.env=pure false:=by rfl) (hw:swappedStores [tg] e X.env=pure none:=by rfl)
  (h1:(assignEach [tg] X.env).map (·.2)=[assign tg X.env]:=by rfl):DS X (.Assign [tg] e pos) (Dk te g) :=
 PS.mono (Wh he hg hs hw h1) λDe Z H hh=>oX hh λf E st q n r b c=>⟨f,_,st,q,λd v H1 hd s1 rr=>⟨d,f,_,rr,st.ext s1,hd,λf2 Z2 H2 x k2 s2=>n f2 Z2 H2 x ((ag.of s1).trans k2) s2⟩⟩
def eQ (i:Nat) (te:RE):RS:=λE f=>te f λd=>E.nx (f.set i (some (.d d)))
theorem cU {i:Nat} {x:Str} {pos':Pos} (hN:X.N.Nodup) (he:DE X e te) (hi:X.N[i]? = some x:=by rfl) (hx:Loc X.env.scope x:=by walk_at "vis") (hs:swapsWith e (some (.Name x pos')) pos.line X.env=pure false:=by rfl)
  (hf:X.fn x=true\/X.env.scope.names.lookup x=some .local:=by walk_at "loc"):DS X (.Assign [.Name x pos'] e pos) (eQ i te) :=
 PS.mono (WX hN hi hx he hs hf) λDe Z H hh=>oX hh λf E st q n r b c=>⟨f,_,st,q,λd v H1 hd s1 rr=>n _ _ H1 hd (.of s1) ((st.ext s1).set_d rr)⟩
def uS (i:Nat) (t:RA):RS:=λE d=>t d λds=>E.nx (d.set i (some (.own ds)))
theorem CQ {i:Nat} {x:Str} {pos':Pos} {t:RA} (hN:X.N.Nodup) (he:DO X e t) (hi:X.N[i]? = some x:=by rfl) (hx:Loc X.env.scope x:=by walk_at "vis") (hs:swapsWith e (some (.Name x pos')) pos.line X.env=pure false:=by rfl)
  (hf:X.fn x=true\/X.env.scope.names.lookup x=some .local:=by walk_at "loc"):DS X (.Assign [.Name x pos'] e pos) (uS i t) :=
 PS.mono (WX hN hi hx he hs hf) λDe Z H hh=>oX hh λd E st q n r b c=>⟨d,_,st,q,λds p vs H1 hd s1 hp rr=>n _ _ _ hd ((ag.of s1).trans (.of (.fn λb o h=>by rw[cH (dG h hp)];exact h))) ((st.ext s1).set_own hp rr)⟩
def Ws (i j:Nat) (t:RA):RS:=λE f=>t f λds=>match ds with
 | [x,y]=>E.nx ((f.set i (some (.d x))).set j (some (.d y)))
 | _=>False
theorem Uo {i j:Nat} {x y:Str} {t:RA} {px py pt:Pos} {kt k2 wa} (hc:X.calm=true) (hN:X.N.Nodup) (ha:DA X [a,b] t) (hi:X.N[i]? = some x:=by rfl) (hj:X.N[j]? = some y:=by rfl) (k_:i≠j:=by decide)
  (hx:X.env.scope.names.lookup x=some .local:=by rfl) (hy:X.env.scope.names.lookup y=some .local:=by rfl)
  (hw:swappedStores [.Tuple [.Name x px,.Name y py] kt pt] (.Tuple [a,b] k2 wa) X.env=pure (some [x,y]):=by rfl)
  (hs:swapsWithSole [.Tuple [.Name x px,.Name y py] kt pt] (.Tuple [a,b] k2 wa) pos.line X.env=pure false:=by rfl) :
  DS X (.Assign [.Tuple [.Name x px,.Name y py] kt pt] (.Tuple [a,b] k2 wa) pos) (Ws i j t) :=
 PS.mono (Wi hc hN hi hj k_ hx hy ha hw hs) λDe Z H hh=>oX hh λd E st q n r b c=>⟨d,_,st,q,λds vs H1 hd s1 rr=>by
  cases rr with
  | nil=>exact hd.elim
  | cons r1 t1 =>
   cases t1 with
   | nil=>exact hd.elim
   | cons r2 t2 =>
    cases t2 with
    | nil=>exact⟨_,_,rfl,n _ _ H1 hd (.of s1) (((st.ext s1).set_d r1).set_d r2)⟩
    | cons _ _=>exact hd.elim⟩
def wE (i:Nat) (d:En):En:=match d[i]? with
 | some (some x)=>d.set i (some x.fz)
 | _=>d
theorem YI (i:Nat) (h:DS X st t):DS X st (λE f=>t E (wE i f)):=by
 intro pins s Z H De I ⟨f,E,so,q,n,r,b,c⟩;have q:t E (wE i f):=q;unfold wE at q;split at q
 ·rename_i x e;obtain⟨H2,I2,gg,kp⟩:=so.fz I e;exact h pins s Z _ De I2 ⟨_,E,gg,q,λf2 Z2 H2 x k2=>n f2 Z2 H2 x (kp.trans k2),λd v H2 x k2=>r d v H2 x (kp.trans k2),λf2 Z2 H2 x k2=>b f2 Z2 H2 x (kp.trans k2),λf2 Z2 H2 x k2=>c f2 Z2 H2 x (kp.trans k2)⟩
 ·exact h pins s Z H De I ⟨f,E,so,q,n,r,b,c⟩
def rB (c:RT) (t:RS):Nat->RS
 | 0,_,_=>False
 | n+1,E,d=>c d λk=>if k=true then t { E with nx:=rB c t n E,ct:=rB c t n E,bk:=E.nx } d else E.nx d
def GA (c:RT) (t:RS):RS:=λE d=>∃n,rB c t n E d
theorem OV (hp:PassesOwn (model X.prog X.w) X.A X.env X.xe) (hc:DT X c tA) (hb:om X body t):DS X (.While c body [] pos) (GA tA t) :=
 PS.mono (Nf hp hc hb) λDe Z H hh=>oX hh λf E st mq n r b c=>by
  obtain⟨m,q⟩:=mq;refine⟨λm Z' H'=>∃f',ao X f' Z' H'/\ag H H'/\rB tA t m E f',⟨m,f,st,ag.refl H,q⟩,?_⟩;rintro m Z' H' ⟨f',du,kp,hw⟩;cases m with
  | zero=>exact hw.elim
  | succ m =>
   refine⟨f',_,du,hw,λk H1 hk s1=>?_⟩;have rf:=kp.trans (.of s1);cases k with
   | true =>
    dsimp only at hk ⊢;rw[if_pos rfl] at hk ⊢;refine⟨λZ2 H2=>∃f2,ao X f2 Z2 H2/\ag H H2/\rB tA t m E f2,λZ2 H2 ⟨f2,a1,a2,a3⟩=>⟨m,kL m,f2,a1,a2,a3⟩,?_⟩;exact⟨f',_,du.ext s1,hk,λf2 Z2 H2 x k2 s2=>⟨f2,s2,rf.trans k2,x⟩,λd v H2 x k2=>r d v H2 x (rf.trans k2),λf2 Z2 H2 x k2=>n f2 Z2 H2 x (rf.trans k2),λf2 Z2 H2 x k2 s2=>⟨f2,s2,rf.trans k2,x⟩⟩
   | false =>
    dsimp only at hk ⊢;rw[if_neg cM] at hk ⊢;exact n f' Z' H1 hk rf (du.ext s1)
def ou (X:Cx) (J:It) (xs:List D) (H0:Hp):Prop:=∀i H,ag H0 H ->
 (∀d,xs[i]? = some d->J.go i H/\∀x H',J.yld i H x H'->ae H H'/\b_ X.K H' d x)/\(xs.length<=i->J.stop i H)
def Yz (X:Cx) (t:RA):TI:=λZ H R=>∃d P,ao X d Z H/\t d P/\∀xs J H',P xs->ae H H'->ou X J xs H'->R J H'
def DI (X:Cx) (tg iter:Expr) (t:RA):Prop:=PI X tg iter (Yz X t)
theorem PI.mono {X:Cx} {tg e:Expr} {t t':TI} (h:PI X tg e t) (m:∀Z H Q,t' Z H Q->t Z H Q):PI X tg e t':=λpins s Z H Q I q=>h pins s Z H Q I (m Z H Q q)
def YR (g:RG) (t:RS):List D->RS
 | [],E,d=>E.nx d
 | x::xs,E,d=>g x d λd1=>t { E with nx:=YR g t xs E,ct:=YR g t xs E,bk:=E.nx } d1
def mJ (ti:RA) (g:RG) (t:RS):RS:=λE d=>ti d λxs=>YR g t xs E d
theorem mH (hp:PassesOwn (model X.prog X.w) X.A X.env X.xe) (hc:X.calm=true) (hi:DI X tg iter ti) (hg:DG X tg g) (hb:om X body t)
  (hs:∀x,foldedSetIterable iter X.env x=pure x:=by intro _;rfl):DS X (.For tg iter body [] pos) (mJ ti g t) :=
 PS.mono (Nc hp hc hi hg hb hs) λDe Z H hh=>oX hh λf E st q n r b c=>by
  refine⟨f,_,st,q,λxs J H1 hx s1 ok=>?_⟩;refine⟨λi m Z' H'=>m=xs.length-i/\i<=xs.length/\∃f',ao X f' Z' H'/\ag H1 H'/\YR g t (xs.drop i) E f',⟨xs.length,by simp,eV _,f,st.ext s1,ag.refl H1,by simpa using hx⟩,?_⟩;rintro i m Z' H' ⟨rfl,hi,f',du,kp,hf⟩;obtain⟨o1,o2⟩:=ok i H' kp;have rf:ag H H':=(ag.of s1).trans kp;by_cases c9:i<xs.length
  ·have e:xs.drop i=xs[i]::xs.drop (i+1):=gE c9;rw[e] at hf;obtain⟨go,yl⟩:=o1 xs[i] (aD c9);refine .inr ⟨go,λZ2 H2=>∃f2,ao X f2 Z2 H2/\ag H1 H2/\YR g t (xs.drop (i+1)) E f2,λZ2 H2 hh=>⟨xs.length-(i+1),by lia,rfl,c9,hh⟩,λx H2 y=>?_⟩;obtain⟨s2,rx⟩:=yl x H2 y;refine⟨xs[i],f',_,rx,du.ext s2,hf,λf3 Z3 H3 h3 k3 s3=>?_⟩;have k13:ag H1 H3:=(kp.trans (.of s2)).trans k3;have k03:ag H H3:=(rf.trans (.of s2)).trans k3;exact⟨f3,_,s3,h3,λf4 Z4 H4 x4 k4 s4=>⟨f4,s4,k13.trans k4,x4⟩,λd v H4 x4 k4=>r d v H4 x4 (k03.trans k4),λf4 Z4 H4 x4 k4=>n f4 Z4 H4 x4 (k03.trans k4),λf4 Z4 H4 x4 k4 s4=>⟨f4,s4,k13.trans k4,x4⟩⟩
  ·have e:i=xs.length:=(by lia);subst e;rw[JB] at hf;exact .inl ⟨o2 (bK _),n f' Z' H' hf rf du⟩
end
section
variable {X:Cx} {tg e:Expr} {te:RE} {pos p:Pos}
def riL (te:RE):RA:=λa Q=>te a λd=>match d with
 | .lst ds=>Q ds
 | _=>False
theorem kH (h:DE X e te):DI X tg e (riL te):=by
 refine PI.mono (Rm h) λZ H R hh=>iM hh λb P st q k=>⟨b,_,st,q,λd v H1 hd s1 r=>?_⟩;cases d with
 | lst ds =>
  cases r with
  | @lst a vs _ hz r =>
   refine⟨a,rfl,⟨vs,hz.sq⟩,k ds _ H1 hd s1 λi H2 kp=>⟨λd e=>?_,λhl=>⟨vs,(hz.keep kp).sq,by rw[<-r.length];exact hl⟩⟩⟩;obtain⟨v,h1,h2⟩:=(r.keep kp).get e;refine⟨⟨vs,v,(hz.keep kp).sq,h1⟩,λx H' y=>?_⟩;obtain⟨e1,e2⟩:=y;subst e1;have e3:=e2 vs (hz.keep kp).sq;rw[h1] at e3;cases e3;exact⟨ae.refl _,h2⟩
 | _=>exact hd.elim
def riT (te:RE):RA:=λa Q=>te a λd=>match d with
 | .tup ds=>Q ds
 | _=>False
theorem VN (h:DE X e te):DI X tg e (riT te):=by
 refine PI.mono (Wg h) λZ H R hh=>iM hh λb P st q k=>⟨b,_,st,q,λd v H1 hd s1 r=>?_⟩;cases d with
 | tup ds =>
  cases r with
  | @tup a vs _ hz r =>
   refine⟨a,rfl,⟨vs,di.of hz⟩,k ds _ H1 hd s1 λi H2 kp=>⟨λd e=>?_,λhl=>⟨vs,di.of (kp.tups _ _ hz),by rw[<-r.length];exact hl⟩⟩⟩;obtain⟨v,h1,h2⟩:=(r.keep kp).get e;refine⟨⟨vs,v,di.of (kp.tups _ _ hz),h1⟩,λx H' y=>?_⟩;obtain⟨e1,e2⟩:=y;subst e1;have e3:=e2 vs (di.of (kp.tups _ _ hz));rw[h1] at e3;cases e3;exact⟨ae.refl _,h2⟩
 | _=>exact hd.elim
def sN (lo:Int) (n:Nat):List D:=(dY n).map λk:Nat=>D.int (lo+(k:Int))
theorem Lm (lo:Int) (n:Nat):ou X (xq lo n) (sN lo n) H0:=λi H kp=>by
 refine⟨λd e=>?_,λhl=>by show n<=i;simpa [sN] using hl⟩;unfold sN at e;rw[bT] at e;by_cases hi:i<n
 ·rw[DK hi] at e;cases e;exact⟨hi,λx H' y=>by obtain⟨rfl,rfl⟩:=y;exact⟨ae.refl _,.int _⟩⟩
 ·rw[lB (by simpa using hi)] at e;cases e
structure p_ (j:Int):Prop where
 lo:-(2 ^ 62)<=j
 hi:j<2 ^ 62
def QT (t:RA):RA:=λa Q=>t a λds=>match ds with
 | [.int j]=>p_ j/\Q (sN 0 j.toNat)
 | _=>False
def Sb (t:RA):RA:=λa Q=>t a λds=>match ds with
 | [.int i,.int j]=>(p_ i/\p_ j)/\Q (sN i (j-i).toNat)
 | _=>False
theorem wV {a:Expr} {t:RA} (hm:X.mg "range" = none) (ha:DA X [a] t) (hg:Gl X "range":=by rfl) (hs:starEach [a] X.env=[(false,eval a X.env)]:=by rfl):DI X tg (.Call (.Name "range" p) [a] [] pos) (QT t):=by
 refine PI.mono (Ij hg hm ha hs) λZ H R hh=>iM hh λb P st q k=>⟨b,_,st,q,λds vs H1 hd s1 r=>?_⟩;split at hd
 ·rename_i j;rw[af.ints_inv (ns:=[j]) r];exact⟨j,rfl,hd.1.lo,hd.1.hi,k _ _ H1 hd.2 s1 (Lm 0 _)⟩
 ·exact hd.elim
theorem Hb {a b:Expr} {t:RA} (hm:X.mg "range" = none) (ha:DA X [a,b] t) (hg:Gl X "range":=by rfl) (hs:starEach [a,b] X.env=[(false,eval a X.env),(false,eval b X.env)]:=by rfl) (oi:starEach [b] X.env=[(false,eval b X.env)]:=by rfl):DI X tg (.Call (.Name "range" p) [a,b] [] pos) (Sb t):=by
 refine PI.mono (Ik hg hm ha hs oi) λZ H R hh=>iM hh λc P st q k=>⟨c,_,st,q,λds vs H1 hd s1 r=>?_⟩;split at hd
 ·rename_i i j;rw[af.ints_inv (ns:=[i,j]) r];exact⟨i,j,rfl,⟨hd.1.1.lo,hd.1.1.hi,hd.1.2.lo,hd.1.2.hi⟩,k _ _ H1 hd.2 s1 (Lm i _)⟩
 ·exact hd.elim
end
abbrev FD:=List D->(D->Prop)->Prop
def rl (K:aI) (F:FD):Sp:=λvs H Q _=>fo K H/\∃ds P,af K H ds vs/\F ds P/\∀d v H',P d->ae H H'->b_ K H' d v->Q v H'
def cO (F:FD) (t:RA):RE:=λa Q=>t a λds=>F ds Q
section
variable {X:Cx} {k:Nat} {f:Addr} {fd:lZ} {ps:List Str} {F:FD} {x:Str} {p pos:Pos} {e:Expr} {es:List Expr} {t:RA}
theorem Pn (G:gu X.prog X.w X.K X.mg X.base iz k f fd ps (rl X.K F)) (hr:ce k X.A) (hm:X.mg x=some (.ref f)) (hk:kT X.K (.ref f)=true) (hb:Binds X.K fd ps []) (ha:DA X (e::es) t) (hg:Gl X x:=by rfl)
  (kw:(x == ("__debug__":Str))=false:=by decide) (he:starEach (e::es) X.env=(false,eval e X.env)::starEach es X.env:=by rfl) (h8:(backTo pos (starEach es X.env)).any (·.1)=false:=by rfl) :
  DE X (.Call (.Name x p) (e::es) [] pos) (cO F t) :=
 PE.mono (WU (E:=E0) G hr hg hm hk hb .nil Mr ha kw he h8) λZ H Q hh=>iM hh λa P st q kk=>⟨a,_,st,q,λds vs H1 hd s1 r=>by
  show rl X.K F (vs++[]) H1 Q E0;rw[dN];exact⟨(st.ext s1).tabs,ds,P,r,hd,λd v H2 hp s2 r2=>kk d v H2 hp (s1.trans s2) r2⟩⟩
end
def dR (N:List Str) (ds:List D):En:=ds.map (λd=>some (.d d))++eO (N.length-ds.length) none
section
variable {P:bR} {w:cT} {K:aI} {mg:Str->Option aB} {base:Heap}
theorem IU (tb:fo X.K X.H₀) (r:af X.K X.H₀ ds vs):ao X (dR N ds) (start N vs) X.H₀:=by
 have hl:=r.length;have own:∀(i:Nat) (x:S),(dR N ds)[i]? = some (some x)->∃d,x = .d d:=λi x e=>by
  unfold dR at e;by_cases hi:i<ds.length
  ·rw[dJ (by simpa using hi),bT,aD hi] at e;cases e;exact⟨_,rfl⟩
  ·rw[dE (by simpa using hi),iJ] at e;split at e <;> cases e
 refine⟨by simp[dR,start,hl],ae.refl _,λi x e=>?_,λi j x y v u a e1 _ _ _ o _=>by
  obtain⟨d,rfl⟩:=own i x e1;exact o.elim,tb⟩
 unfold dR at e;by_cases hi:i<ds.length
 ·rw[dJ (by simpa using hi),bT,aD hi] at e;cases e;obtain⟨v,h1,h2⟩:=r.get (aD hi);refine⟨v,?_,h2⟩;unfold start;rw[dJ (by simpa [<-hl] using hi),bT,h1];rfl
 ·rw[dE (by simpa using hi),iJ] at e;split at e <;> cases e
theorem Yq {x qual:Str} {st:Stmt} {f:Addr} {fd:lZ} {N ps:List Str} {k:Nat} {F:FD} {t:RS} (Fu:tx K x qual st f fd) (Sc:dz N ps (fB st))
  (fc:∀(cdv:aB) (A:cZ) (outer:List Env) (s:aG) (H:Hp) (E:XK),ce k (A.deeper (envOfC qual (fB st) s.heap.objs.size f cdv)) ->
   om (yK iz P w K mg base N qual (fB st) f cdv A outer s H E).nox (pR st) t)
  (len:∀ds Q,F ds Q->ds.length=ps.length) (pure:∀ds Q,F ds Q->t { nx:=λ_=>Q .non,rt:=Q } (dR N ds)):gu P w K mg base iz (k+1) f fd ps (rl K F):=by
 refine Fu.ok Sc (λvs H Q E ⟨_,ds,P,r,h,_⟩=>by rw[<-r.length];exact len ds P h) λcdv A outer s H vs Q E hr ⟨tb,ds,P',r,h,kk⟩=>⟨_,fc cdv A outer s H E hr,?_⟩;exact⟨dR N ds,_,IU (X:=(yK iz P w K mg base N qual (fB st) f cdv A outer s H E).nox) tb r,pure ds P' h,λa' Z' H' hq k s'=>kk .non .non H' hq s'.same .non,λd v H' hq k sm rv=>kk d v H' hq sm rv,λ_ _ _ z=>z.elim,λ_ _ _ z=>z.elim⟩
end
def BL (n:Nat) (i:Int):Prop:=i.natAbs<2 ^ n
def BL.bits {n:Nat} (h:BL n i):DC i<=n:=PF.mpr h
def BL.of {n:Nat} (h:DC i<=n):BL n i:=PF.mp h
def BL.mono {m n:Nat} (h:BL m i) (l:m<=n:=by decide):BL n i:=BL.of (eJ h.bits l)
def BL.add {m n:Nat} (a:BL m i) (b:BL n j):BL (max m n+1) (i+j):=BL.of (intBits_add_le a.bits b.bits)
def BL.sub {m n:Nat} (a:BL m i) (b:BL n j):BL (max m n+1) (i-j):=BL.of (intBits_sub_le a.bits b.bits)
def BL.mul {m n:Nat} (a:BL m i) (b:BL n j):BL (m+n) (i*j):=BL.of (intBits_mul_le a.bits b.bits)
def BL.neg (a:BL m i):BL m (-i):=BL.of (intBits_neg_le a.bits)
def BL.fdiv (a:BL m i):BL m (i.fdiv j):=BL.of (intBits_fdiv_le a.bits)
def BL.le (a:BL m j) (h:i.natAbs<=j.natAbs):BL m i:=uC h a
def BL.of_lt {m:Nat} {i:Int} (h1:-(2 ^ m:Nat)<i) (h2:i<(2 ^ m:Nat)):BL m i:=by unfold BL;lia
def BL.intMulOk {m n:Nat} (a:BL m i) (b:BL n j) (h:m+n<=134217728):IntMulOk i j:=IntMulOk.of_le a.bits b.bits h
def BL.noPy (h:BL 9000 j):mS i j=false:=by
 refine PyProof.noPylong_of_log2 ?_;by_cases h0:j.natAbs=0
 ·rw[h0];decide +kernel
 ·exact (Nat.log2_lt h0).mpr h
section
variable {X:Cx} {e a b c:Expr} {pos:Pos}
theorem c8.int_inv {K:aI} {H:Hp} {i:Int} {v:V} (h:c8 K H (.int i) v):v = .int i:=by
 rcases h with h | ⟨ds,a,vs,e1,_⟩
 ·exact h.int_inv
 ·cases e1
theorem c8.bl_inv {K:aI} {H:Hp} {i:Bool} {v:V} (h:c8 K H (.bl i) v):v = .bl i:=by
 rcases h with h | ⟨ds,a,vs,e1,_⟩
 ·exact h.bl_inv
 ·cases e1
theorem c8.non_inv {K:aI} {H:Hp} {v:V} (h:c8 K H .non v):v = .non:=by
 rcases h with h | ⟨ds,a,vs,e1,_⟩
 ·cases h;rfl
 ·cases e1
theorem c8.is_non {K:aI} {H:Hp} {d:D} {v:V} (h:c8 K H d v):decide (v = .non)=(match d with | .non=>true | _=>false):=by
 rcases h with h | ⟨ds,a,vs,e1,e2,_⟩
 ·cases h <;> simp
 ·subst e1 e2;simp
structure MulOk (i j:Int):Prop where
 ok:IntMulOk i j
structure pj (i j:Int):Prop where
 nz:j≠0
 np:mS i j=false
structure tz (j:Int):Prop where
 nz:j≠0
structure t4 (i j:Int):Prop where
 ok:0<=j/\j<=1000000/\i.natAbs<2 ^ 64
theorem BL.mulOk {m n:Nat} (a:BL m i) (b:BL n j) (h:m+n<=134217728:=by decide):MulOk i j:=⟨a.intMulOk b h⟩
theorem BL.divOk (h:BL 9000 j) (nz:j≠0):pj i j:=⟨nz,h.noPy⟩
def mV:R22:=λx y Q=>match x,y with
 | .int i,.int j=>Q (.int (i+j))
 | _,_=>False
def mK:R22:=λx y Q=>match x,y with
 | .int i,.int j=>Q (.int (i-j))
 | _,_=>False
def fC:R22:=λx y Q=>match x,y with
 | .int i,.int j=>MulOk i j/\Q (.int (i*j))
 | _,_=>False
def jS:R22:=λx y Q=>match x,y with
 | .int i,.int j=>pj i j/\Q (.int (i.fdiv j))
 | _,_=>False
def nO:R22:=λx y Q=>match x,y with
 | .int i,.int j=>tz j/\Q (.int (i.fmod j))
 | _,_=>False
def YC:R22:=λx y Q=>match x,y with
 | .int i,.int j=>t4 i j/\Q (.int (i ^ j.toNat))
 | _,_=>False
theorem Ig {f:aB->aB->Sem aB} {C:Int->Int->Prop} {g:Int->Int->Int} {r:R22} (h:jv X f (rI C λi j=>.int (g i j)))
  (hr:∀x y Q,r x y Q->∃i j,x = .int i/\y = .int j/\C i j/\Q (.int (g i j))):jn X f r:=by
 intro pins s Z H x y v u Q I rx ry aw;obtain⟨d,e,P,r1,r2,q,k⟩:=aw;obtain⟨i,j,rfl,rfl,hc,q⟩:=hr _ _ _ q;exact h pins s Z H x y v u Q I rx ry ⟨i,j,r1.int_inv,r2.int_inv,hc,k _ _ H q (ae.refl H) (.int _)⟩
theorem hE:jn X (binaryOp .Add) mV:=Ig (C:=λ_ _=>True) (g:=λi j=>i+j) (xc λ_ _ _ _ _ _ _ _ q=>add_int q) λx y Q q=>by
 unfold mV at q;split at q
 ·exact⟨_,_,rfl,rfl,trivial,q⟩
 ·exact q.elim
theorem iS:jn X (binaryOp .Sub) mK:=Ig (C:=λ_ _=>True) (g:=λi j=>i-j) (xc λ_ _ _ _ _ _ _ _ q=>sub_int q) λx y Q q=>by
 unfold mK at q;split at q
 ·exact⟨_,_,rfl,rfl,trivial,q⟩
 ·exact q.elim
theorem cQ:jn X (binaryOp .Mult) fC:=Ig (C:=λi j=>IntMulOk i j) (g:=λi j=>i*j) (xc λ_ _ _ _ _ _ _ hc q=>mul_int q hc) λx y Q q=>by
 unfold fC at q;split at q
 ·exact⟨_,_,rfl,rfl,q.1.ok,q.2⟩
 ·exact q.elim
theorem gW:jn X (binaryOp .FloorDiv) jS:=Ig (C:=λi j=>j≠0/\mS i j=false) (g:=λi j=>i.fdiv j) (xc λ_ _ _ _ _ _ _ hc q=>floordiv_int hc.1 q (.inl hc.2)) λx y Q q=>by
 unfold jS at q;split at q
 ·exact⟨_,_,rfl,rfl,⟨q.1.nz,q.1.np⟩,q.2⟩
 ·exact q.elim
theorem jM:jn X (binaryOp .Mod) nO:=Ig (C:=λ_ j=>j≠0) (g:=λi j=>i.fmod j) (xc λ_ _ _ _ _ _ _ hc q=>mod_int' hc q) λx y Q q=>by
 unfold nO at q;split at q
 ·exact⟨_,_,rfl,rfl,q.1.nz,q.2⟩
 ·exact q.elim
theorem WM:jn X (binaryOp .Pow) YC:=Ig (C:=λi j=>0<=j/\j<=1000000/\i.natAbs<2 ^ 64) (g:=λi j=>i ^ j.toNat) (xc λ_ _ _ _ _ _ _ hc q=>pow_int_small hc.1 hc.2.1 hc.2.2 q) λx y Q q=>by
 unfold YC at q;split at q
 ·exact⟨_,_,rfl,rfl,q.1.ok,q.2⟩
 ·exact q.elim
def yN:D->(D->Prop)->Prop:=λx Q=>match x with
 | .int i=>Q (.int (-i))
 | _=>False
theorem zA:Y_ X (unaryOp .USub) yN:=by
 intro pins s Z H x v Q I rx aw;obtain⟨d,P,r,q,k⟩:=aw;unfold yN at q;split at q
 ·rename_i i;exact Xr pins s Z H x v Q I rx ⟨i,r.int_inv,k _ _ H q (ae.refl H) (.int _)⟩
 ·exact q.elim
def qG (p:Int->Int->Bool):R22:=λx y Q=>match x,y with
 | .int i,.int j=>Q (.bl (p i j))
 | _,_=>False
theorem Vv (h:jv X f (zz λi j=>.bl (p i j))):jn X f (qG p):=by
 intro pins s Z H x y v u Q I rx ry aw;obtain⟨d,e,P,r1,r2,q,k⟩:=aw;unfold qG at q;split at q
 ·rename_i i j;exact h pins s Z H x y v u Q I rx ry ⟨i,j,r1.int_inv,r2.int_inv,k _ _ H q (ae.refl H) (.bl _)⟩
 ·exact q.elim
theorem EF:jn X (compareOp .Lt) (qG λi j=>decide (i<j)):=Vv Tm
theorem Th:jn X (compareOp .LtE) (qG λi j=>decide (i<=j)):=Vv Tl
theorem UE:jn X (compareOp .Gt) (qG λi j=>decide (j<i)):=Vv Tk
def oN (neg:Bool):R22:=λx y Q=>match x,y with
 | .int i,.int j=>Q (.bl (if neg then !decide (i=j) else decide (i=j)))
 | .bl i,.bl j=>Q (.bl (if neg then !decide (i=j) else decide (i=j)))
 | _,_=>False
theorem wI:jn X (compareOp .Eq) (oN false):=by
 intro pins s Z H x y v u Q I rx ry aw;obtain⟨d,e,P,r1,r2,q,k⟩:=aw;unfold oN at q;split at q
 ·rename_i i j;rw[r1.int_inv] at rx;rw[r2.int_inv] at ry;exact Tj pins s Z H _ _ v u Q I rx ry ⟨rfl,by
   have e:decide (V.int i=V.int j)=decide (i=j):=(by simp);rw[e];exact k _ _ H q (ae.refl H) (.bl _)⟩
 ·rename_i i j;rw[r1.bl_inv] at rx;rw[r2.bl_inv] at ry;exact Tj pins s Z H _ _ v u Q I rx ry ⟨rfl,by
   have e:decide (V.bl i=V.bl j)=decide (i=j):=(by simp);rw[e];exact k _ _ H q (ae.refl H) (.bl _)⟩
 ·exact q.elim
theorem uO:jn X (compareOp .NotEq) (oN true):=by
 intro pins s Z H x y v u Q I rx ry aw;obtain⟨d,e,P,r1,r2,q,k⟩:=aw;unfold oN at q;split at q
 ·rename_i i j;rw[r1.int_inv] at rx;rw[r2.int_inv] at ry;exact Tn pins s Z H _ _ v u Q I rx ry ⟨rfl,by
   have e:decide (V.int i=V.int j)=decide (i=j):=(by simp);rw[e];exact k _ _ H q (ae.refl H) (.bl _)⟩
 ·rename_i i j;rw[r1.bl_inv] at rx;rw[r2.bl_inv] at ry;exact Tn pins s Z H _ _ v u Q I rx ry ⟨rfl,by
   have e:decide (V.bl i=V.bl j)=decide (i=j):=(by simp);rw[e];exact k _ _ H q (ae.refl H) (.bl _)⟩
 ·exact q.elim
def TV:D->Bool
 | .non=>true
 | _=>false
def VM (neg:Bool):R22:=λx y Q=>match y with
 | .non=>Q (.bl (if neg then !TV x else TV x))
 | _=>False
theorem YZ {K:aI} {H:Hp} {d:D} {v:V} (h:c8 K H d v):decide (v = .non)=TV d:=by
 rw[h.is_non];cases d <;> rfl
theorem Vs:jn X (compareOp .Is) (VM false):=by
 intro pins s Z H x y v u Q I rx ry aw;obtain⟨d,e,P,r1,r2,q,k⟩:=aw;unfold VM at q;split at q
 ·exact Vw pins s Z H x y v u Q I rx ry ⟨r2.non_inv,by rw[YZ r1];exact k _ _ H q (ae.refl H) (.bl _)⟩
 ·exact q.elim
theorem Qz:jn X (compareOp .IsNot) (VM true):=by
 intro pins s Z H x y v u Q I rx ry aw;obtain⟨d,e,P,r1,r2,q,k⟩:=aw;unfold VM at q;split at q
 ·exact Rh pins s Z H x y v u Q I rx ry ⟨r2.non_inv,by rw[YZ r1];exact k _ _ H q (ae.refl H) (.bl _)⟩
 ·exact q.elim
def ca:R22:=λx y Q=>match x,y with
 | .lst ds,.int i=>match ik ds i with
  | some d=>Q d
  | none=>False
 | .tup ds,.int i=>match ik ds i with
  | some d=>Q d
  | none=>False
 | _,_=>False
theorem XQ {K:aI} {H:Hp} {ds:List D} {vs:List V} {i:Int} {d:D} (r:af K H ds vs) (h:ik ds i=some d):∃v,ik vs i=some v/\b_ K H d v:=by
 unfold ik at h ⊢;rw[<-r.length];cases e:me ds.length i with
 | none=>rw[e] at h;cases h
 | some j =>
  rw[e] at h;exact r.get h
theorem jZ (ha:DB X a ta) (hb:DB X b tb) (hs:Eh b:=by intro _ _;rfl):DE X (.Subscript a b pos) (r2 ca ta tb):=by
 refine PE.mono (Tp (Qk.or Ln) ha hb hs) λZ H Q h=>?_;obtain⟨f,P,st,ht,hP⟩:=h;refine⟨f,_,st,ht,λx v H1 h1 s1 r1=>⟨f,_,st.ext s1,h1,λy u H2 h2 s2 r2=>?_⟩⟩;have N_:=r1.same s2;unfold ca at h2;split at h2
 ·rename_i ds i;split at h2
  ·rename_i d e;obtain⟨p,vs,rfl,hq,rr⟩:=N_.lst;obtain⟨w',e',jl⟩:=XQ rr e;exact .inl ⟨p,vs,i,w',rfl,r2.int_inv,hq,e',hP d w' H2 h2 (s1.trans s2) jl⟩
  ·exact h2.elim
 ·rename_i ds i;split at h2
  ·rename_i d e;obtain⟨p,vs,rfl,hq,rr⟩:=N_.tup;obtain⟨w',e',jl⟩:=XQ rr e;exact .inr ⟨p,vs,i,w',rfl,r2.int_inv,di.of hq,e',hP d w' H2 h2 (s1.trans s2) jl⟩
  ·exact h2.elim
 ·exact h2.elim
abbrev RO:=En->(Option Int->Prop)->Prop
def Zc (X:Cx) (t:RO):TO:=λZ H Q=>∃d P,ao X d Z H/\t d P/\∀o H',P o->ae H H'->Q o H'
def DP (X:Cx) (e:Option Expr) (t:RO):Prop:=PO X e (Zc X t)
def IM:RO:=λ_ Q=>Q none
def EM (t:RE):RO:=λf Q=>t f λd=>match d with
 | .int i=>Q (some i)
 | _=>False
theorem VP:DP X none IM:=λpins s Z H Q I hh=>iM hh λd P st q k=>Ro pins s Z H Q I (k none H q (ae.refl H))
theorem HK (h:DE X e t):DP X (some e) (EM t):=λpins s Z H Q I hh=>iM hh λf P st q k=>Rq h pins s Z H Q I ⟨f,_,st,q,λd v H1 hd s1 r=>by
 cases d with
 | int i=>exact⟨i,r.int_inv,k (some i) H1 hd s1⟩
 | _=>exact hd.elim⟩
def cutD (xs:List D) (lo hi:Option Int):List D:=(xs.drop (HT.sIx xs.length 0 lo)).take (HT.sIx xs.length xs.length hi-HT.sIx xs.length 0 lo)
def Au (te:RE) (tl th:RO):RA:=λd Q=>te d λx=>tl d λl=>th d λu=>match x with
 | .lst ds=>Q (cutD ds l u)
 | _=>False
theorem Ks {lo hi:Option Expr} (he:DB X e te) (hl:DP X lo tl) (hu:DP X hi th):DO X (.Subscript e (.Slice lo hi none p2) pos) (Au te tl th):=by
 refine PE.mono (ZY Ge he hl hu) λZ H Q hh=>iM hh λf P st q k=>?_;refine⟨f,_,st,q,λd v H1 hd s1 r1=>⟨f,_,st.ext s1,hd,λl H2 h2 s2=>⟨f,_,(st.ext s1).ext s2,h2,λu H3 h3 s3=>?_⟩⟩⟩;cases d with
 | lst ds =>
  obtain⟨p,vs,rfl,hq,rr⟩:=(r1.same (s2.trans s3)).lst;refine⟨p,vs,rfl,hq,λp' ke=>k (cutD ds l u) p' (SC vs l u) H3 h3 ((s1.trans s2).trans s3) ke ?_⟩;unfold cutD SC;rw[<-rr.length];exact (rr.drop _).take _
 | _=>exact h3.elim
def Vl (X:Cx) (r:List D->(D->Prop)->Prop):List V->Hp->VK->Prop:=λxs H Q=>∃ds P,af X.K H ds xs/\r ds P/\∀z v H',P z->ae H H'->b_ X.K H' z v->Q v H'
def XI (X:Cx) (f:aB) (r:List D->(D->Prop)->Prop):Prop:=AM X f (Vl X r)
def rCB (r:List D->(D->Prop)->Prop) (t:RA):RE:=λd Q=>t d λds=>r ds Q
variable {x:Str} {p:Pos} {es:List Expr} {t:RA} {id T:String} {r:List D->(D->Prop)->Prop}
theorem wU (hc:XI X (.builtin id) r) (hm:X.mg x=none) (hv:bootBuiltins x=some (.builtin id)) (ha:DA X (e::es) t) (hg:Gl X x:=by rfl) (hn:x≠"__name__":=by decide) (kw:(x == ("__debug__":Str))=false:=by decide)
  (he:starEach (e::es) X.env=(false,eval e X.env)::starEach es X.env:=by rfl) (h8:(backTo pos (starEach es X.env)).any (·.1)=false:=by rfl):DE X (.Call (.Name x p) (e::es) [] pos) (rCB r t) :=
 PE.mono (IB hc hg hm hv ha hn kw he h8) λZ H Q hh=>iM hh λd P st q k=>⟨d,_,st,q,λds vs H1 hd s1 rr=>⟨ds,P,rr,hd,λz v H2 hz s2 r2=>k z v H2 hz (s1.trans s2) r2⟩⟩
theorem TN (hc:XI X (.type T) r) (hm:X.mg x=none) (hv:bootBuiltins x=some (.type T)) (ha:DA X (e::es) t) (hg:Gl X x:=by rfl) (hn:x≠"__name__":=by decide) (kw:(x == ("__debug__":Str))=false:=by decide)
  (he:starEach (e::es) X.env=(false,eval e X.env)::starEach es X.env:=by rfl) (h8:(backTo pos (starEach es X.env)).any (·.1)=false:=by rfl):DE X (.Call (.Name x p) (e::es) [] pos) (rCB r t) :=
 PE.mono (KM hc hg hm hv ha hn kw he h8) λZ H Q hh=>iM hh λd P st q k=>⟨d,_,st,q,λds vs H1 hd s1 rr=>⟨ds,P,rr,hd,λz v H2 hz s2 r2=>k z v H2 hz (s1.trans s2) r2⟩⟩
def XZ:List D->(D->Prop)->Prop:=λds Q=>match ds with
 | [.int i]=>Q (.int (if i<0 then -i else i))
 | _=>False
theorem OA:XI X (.builtin "abs") XZ:=by
 intro pins s Z H xs us Q I rv aw;obtain⟨ds,P,r,q,k⟩:=aw;unfold XZ at q;split at q
 ·rename_i i;cases r with
  | cons r1 r2 =>
   cases r2;rw[r1.int_inv] at rv;exact Ju pins s Z H _ us Q I rv ⟨i,rfl,k _ _ H q (ae.refl H) (.int _)⟩
 ·exact q.elim
def Kb:List D->(D->Prop)->Prop:=λds Q=>match ds with
 | [.bl b]=>Q (.int (if b then 1 else 0))
 | [.int i]=>Q (.int i)
 | _=>False
theorem Jv:XI X (.type "int") Kb:=by
 intro pins s Z H xs us Q I rv aw;obtain⟨ds,P,r,q,k⟩:=aw;unfold Kb at q;split at q
 ·rename_i i;cases r with
  | cons r1 r2 =>
   cases r2;rw[r1.bl_inv] at rv;exact TK pins s Z H _ us Q I rv (.inr ⟨i,rfl,k _ _ H q (ae.refl H) (.int _)⟩)
 ·rename_i i;cases r with
  | cons r1 r2 =>
   cases r2;rw[r1.int_inv] at rv;exact TK pins s Z H _ us Q I rv (.inl ⟨i,rfl,k _ _ H q (ae.refl H) (.int _)⟩)
 ·exact q.elim
def Yh:List D->(D->Prop)->Prop:=λds Q=>match ds with
 | [.int i,.int j]=>Q (.int (if j > i then j else i))
 | _=>False
def YB:List D->(D->Prop)->Prop:=λds Q=>match ds with
 | [.int i,.int j]=>Q (.int (if j<i then j else i))
 | _=>False
theorem Pb (hc:X.calm=true:=by rfl):XI X (.builtin "min") YB:=by
 intro pins s Z H xs us Q I rv aw;obtain⟨ds,P,r,q,k⟩:=aw;unfold YB at q;split at q
 ·rename_i i j
  ·rw[af.ints_inv (ns:=[i,j]) r] at rv;exact Gr hc pins s Z H _ us Q I rv ⟨i,j,rfl,k _ _ H q (ae.refl H) (.int _)⟩
 ·exact q.elim
def nX:D->(D->Prop)->Prop:=λd Q=>match d with
 | .lst ds=>Q (.int ds.length)
 | .tup ds=>Q (.int ds.length)
 | _=>False
theorem qX {t:TE} (h:PE X e t) (hs:starEach [e] X.env=[(false,eval e X.env)]:=by rfl) (hn:starEach [] X.env=[]:=by rfl):PA X [e] (λZ H Q=>t Z H λv H'=>Q [v] H') :=
 PA.mono (tI h FZ (by rw[hs,hn])) λZ H Q q=>q
theorem lG (hm:X.mg "len" = none) (h:DB X e te) (hg:Gl X "len":=by rfl) (hs:starEach [e] X.env=[(false,eval e X.env)]:=by rfl) (hn:starEach [] X.env=[]:=by rfl):DE X (.Call (.Name "len" p) [e] [] pos) (r1 nX te):=by
 refine PE.mono (IB VF hg hm PySem.boot_len (qX h hs hn) (by decide) (by decide) (by rw[hs,hn]) (by rw[hn];rfl)) λZ H Q hh=>iM hh λf P st q k=>⟨f,_,st,q,λd v H1 hd s1 r=>?_⟩;unfold nX at hd;split at hd
 ·obtain⟨p,vs,rfl,hq,rr⟩:=r.lst;exact⟨p,vs,rfl,.inl hq,by rw[<-rr.length];exact k _ _ H1 hd s1 (.int _)⟩
 ·obtain⟨p,vs,rfl,hq,rr⟩:=r.tup;exact⟨p,vs,rfl,.inr (di.of hq),by rw[<-rr.length];exact k _ _ H1 hd s1 (.int _)⟩
 ·exact hd.elim
end
section
variable {X:Cx} {pins:List (Addr × Obj)} {σ:St} {H:Hp} {s:aG} {h':Heap}
theorem _root_.L2.Inv.turnedL {t':Nat} {ch:List Addr} (I:Inv X pins σ H s) (k:∀b o,b ∉ ch->s.heap.get? b=some o->h'.get? b=some o) (f:∀b∈ch,IZ X pins H b):Inv X pins σ H { s with heap:=h',toks:=t' }:=by
 have ul:∀b u,H b=some u->b ∉ ch:=λb u e z=>by rw[(f b z).1] at e;cases e
 refine I.step (g':=s.gens) (d':=s.drawn) (ch:=ch) (λb hb=>⟨(f b hb).2.2.2.1,(f b hb).2.1,(f b hb).2.2.2.2.1,(f b hb).2.2.2.2.2⟩) (λb o _ _ hc e _=>k b o hc e) (λb o _ _ hc e _=>⟨o.slots,k b o hc e⟩) (λ_ _ _ _ n=>n)
  (λb o hc e=>⟨o,k b o hc e⟩) (λ_ _ e=>e) (λ_ _ _ e=>e) (λb ps e=>⟨#[],by rw[e];simp⟩) (λm hm=>?_) (λb u e=>?_) I.bare
 ·obtain⟨o,es,ep,ho,r⟩:=hm;exact⟨o,es,ep,k _ o (λz=>(f _ z).2.1 rfl) ho,r⟩
 ·refine (I.hok b u e).stay (λc v hc q=>k c v ?_ q) (λ_ q=>q) λ_ _ q=>q;rcases hc with z | z
  ·rw[z];exact ul b u e
  ·exact ul c _ z
theorem _root_.L2.Inv.turnedT {t':Nat} {ch:List Addr} {T:Addr} {xs:List V} {its:List aB} (I:Inv X pins σ H s) (k:∀b o,b ∉ ch->s.heap.get? b=some o->h'.get? b=some o) (f:∀b∈ch,IZ X pins H b)
  (hT:s.heap.objs.size<=T) (ht:h'.IsTuple T its.toArray) (rv:am xs its) (hz:xs.length<=sizeLine):Inv X pins σ (au H T (.tup xs)) { s with heap:=h',toks:=t' }:=by
 have ul:∀b u,H b=some u->b ∉ ch:=λb u e z=>by rw[(f b z).1] at e;cases e
 have hn:H T=none:=I.hok.fresh hT;have ne:∀{b:Addr} {o:Obj},s.heap.get? b=some o->b≠T:=λe=>bO (bQ (aX e) hT);refine I.step (g':=s.gens) (d':=s.drawn) (ch:=ch) (λb hb=>⟨(f b hb).2.2.2.1,(f b hb).2.1,(f b hb).2.2.2.2.1,(f b hb).2.2.2.2.2⟩) (λb o _ _ hc e _=>k b o hc e) (λb o _ _ hc e _=>⟨o.slots,k b o hc e⟩) (λb o _ e n=>by rw[cH (ne e)];exact n)
  (λb o hc e=>⟨o,k b o hc e⟩) (λb ys e=>by rw[cH (dG e hn)];exact e) (λb o u e=>by rw[cH (dG e hn)];exact e) (λb ps e=>⟨#[],by rw[cH (dG e hn),e];simp⟩) (λm hm=>?_) (λb u e=>?_) I.bare
 ·obtain⟨o,es,ep,ho,r⟩:=hm;exact⟨o,es,ep,k _ o (λz=>(f _ z).2.1 rfl) ho,r⟩
 ·by_cases hb:b=T
  ·subst hb;rw[eB] at e;cases e;exact⟨hz,its,rv,ht⟩
  ·rw[cH hb] at e;refine (I.hok b u e).stay (λc v hc q=>k c v ?_ q) (λc q=>by rw[cH (dG q hn)];exact q) λc ys q=>by rw[cH (dG q hn)];exact q
   rcases hc with z | z
   ·rw[z];exact ul b u e
   ·exact ul c _ z
end
def Yl (ds:List D):List D:=ds.zipIdx.map λp=>D.tup [.int (p.2:Int),p.1]
section
variable {te:RE}
def F6 (te:RE):RA:=λa Q=>te a λd=>match d with
 | .lst ds=>Q (Yl ds)
 | _=>False
end
def ZA (T:String):D->Option Bool
 | .non=>some (T == "NoneType")
 | .bl _=>some (T == "bool" || T == "int")
 | .int _=>some (T == "int")
 | .str _=>some (T == "str")
 | .tup _=>some (T == "tuple")
 | .lst _=>some (T == "list")
 | .dct _ _=>none
 | .dtt _ _=>none
def DL (T:String):D->(D->Prop)->Prop:=λd Q=>match ZA T d with
 | some b=>Q (.bl b)
 | none=>False
structure ly (K:aI) (T:String):Prop where
 non:kU K (.type "NoneType") (.type T)=some (T == "NoneType")
 bl:kU K (.type "bool") (.type T)=some (T == "bool" || T == "int")
 int:kU K (.type "int") (.type T)=some (T == "int")
 str:kU K (.type "str") (.type T)=some (T == "str")
 tup:kU K (.type "tuple") (.type T)=some (T == "tuple")
 lst:kU K (.type "list") (.type T)=some (T == "list")
section
variable {X:Cx} {e:Expr} {te:RE} {pos p p2:Pos} {T:String} {x:Str}
theorem uL (tab:ly X.K T) (hm:X.mg "isinstance" = none) (hT:X.mg x=none) (hb:bootBuiltins x=some (.type T)) (h:DE X e te) (hg:Gl X "isinstance":=by rfl) (hgT:Gl X x:=by rfl) (hn:x≠"__name__":=by decide) (hd:(x == ("__debug__":Str))=false:=by decide)
  (hs:starEach [e,.Name x p2] X.env=(false,eval e X.env)::starEach [.Name x p2] X.env:=by rfl) (oi:starEach [.Name x p2] X.env=(false,eval (.Name x p2) X.env)::starEach [] X.env:=by rfl) (h8:(backTo pos (starEach [.Name x p2] X.env)).any (·.1)=false:=by rfl) :
  DE X (.Call (.Name "isinstance" p) [e,.Name x p2] [] pos) (r1 (DL T) te):=by
 have hc:AM X (.builtin "isinstance") (λxs H Q=>∃d v P,xs=[v,.ty T]/\b_ X.K H d v/\DL T d P/\∀b,P (.bl b)->Q (.bl b) H):=by
  intro pins s Z H xs us Q I r aw;obtain⟨d,v,P,ex,rd,q,k⟩:=aw;subst ex;obtain⟨u,w',rfl,r1,r2⟩:=vals2 r;cases r2;unfold DL at q;split at q
  ·rename_i b eb;have fin:∀{t:aB},i_ X.K H v t->kU X.K t (.type T)=some b->wpAny (model X.prog X.w) X.A (call (.builtin "isinstance") [u,.type T]) (EP X pins Z Q) X.xe s:=λty e=>Hk I r1 ty e λtk=>⟨.bl b,H,I.tok tk,rfl,k b q⟩;cases rd with
   | non=>cases eb;exact fin .non tab.non
   | bl _=>cases eb;exact fin (.bl _) tab.bl
   | int _=>cases eb;exact fin (.int _) tab.int
   | str _=>cases eb;exact fin (.str _) tab.str
   | tup h _=>cases eb;exact fin (.tup h) tab.tup
   | @lst a vs _ h _ =>
    cases eb;rcases h with ⟨o,h⟩ | ⟨o,its,n,hk,hc,_⟩
    ·exact fin (.frz h) tab.lst
    ·cases (show u=fS a from r1);exact gJ vF I.kIn ⟨o,I.kIn a o hk,hc⟩ tab.lst (λz=>nomatch z) λtk=>⟨.bl _,H,I.tok tk,rfl,k _ q⟩
   | dct _ _ _=>cases eb
   | dtt _ _ _=>cases eb
  ·exact q.elim
 refine PE.mono (IB hc hg hm PyProof.Rows.boot_isinstance (tI h (tI (Ri (v:=.ty T) hgT hT hb rfl hn hd) FZ oi) hs) (by decide) (by decide) hs h8) λZ H Q hh=>iM hh λc P st q k=>?_;refine⟨c,_,st,q,λd v H1 hd s1 r=>⟨d,v,P,rfl,r,hd,λb hb=>k _ _ H1 hb s1 (.bl b)⟩⟩
end
def wS:bootBuiltins "abs" = some (.builtin "abs"):=by decide +kernel
def Gq:bootBuiltins "min" = some (.builtin "min"):=by decide +kernel
def JM:bootBuiltins "int" = some (.type "int"):=by decide +kernel
def Bz:bootBuiltins "bool" = some (.type "bool"):=by decide +kernel
def nW:bootBuiltins "tuple" = some (.type "tuple"):=by decide +kernel
def NZ:bootBuiltins "list" = some (.type "list"):=by decide +kernel
def Sk (K:aI):ly K "int":=⟨by rfl,by rfl,by rfl,by rfl,by rfl,by rfl⟩
def Og (K:aI):ly K "bool":=⟨by rfl,by rfl,by rfl,by rfl,by rfl,by rfl⟩
def Bf (K:aI):ly K "list":=⟨by rfl,by rfl,by rfl,by rfl,by rfl,by rfl⟩
def rX (K:aI):ly K "tuple":=⟨by rfl,by rfl,by rfl,by rfl,by rfl,by rfl⟩
theorem bind1 {P:List aB->Prop} (h:∀a,P [a]):∀us:List aB,us.length=1->P us
 | [a],_=>h a
theorem bind2 {P:List aB->Prop} (h:∀a b,P [a,b]) (us:List aB) (hl:us.length=2):P us:=by
 cases us with
 | nil=>cases hl
 | cons a us=>exact bind1 (P:=λus=>P (a::us)) (h a) us (GT hl)
theorem bind3 {P:List aB->Prop} (h:∀a b c,P [a,b,c]) (us:List aB) (hl:us.length=3):P us:=by
 cases us with
 | nil=>cases hl
 | cons a us=>exact bind2 (P:=λus=>P (a::us)) (h a) us (GT hl)
theorem bind4 {P:List aB->Prop} (h:∀a b c d,P [a,b,c,d]) (us:List aB) (hl:us.length=4):P us:=by
 cases us with
 | nil=>cases hl
 | cons a us=>exact bind3 (P:=λus=>P (a::us)) (h a) us (GT hl)
structure FnAt (P:bR) (w:cT) (K:aI) (mg:Str->Option aB) (base:Heap) (x:Str) (ps:List Str) (k:Nat) (F:FD):Prop where
 ex:∃f fd,gu P w K mg base iz k f fd ps (rl K F)/\Binds K fd ps []/\kT K (.ref f)=true/\mg x=some (.ref f)
structure ai (K:aI) (mg:Str->Option aB) (x:Str) (st:Stmt) (ps:List Str):Prop where
 ex:∃f fd,tx K x x st f fd/\mg x=some (.ref f)/\∀us:List aB,us.length=ps.length->bindArgs fd ⟨us,[]⟩=pure (ps.zip us)
section
variable {P:bR} {w:cT} {K:aI} {mg:Str->Option aB} {base:Heap}
theorem ai.ok {x:Str} {st:Stmt} {N ps:List Str} {k:Nat} {F:FD} {t:RS} (Z:ai K mg x st ps) (Sc:dz N ps (fB st))
  (fc:∀{f:Addr} (cdv:aB) (A:cZ) (outer:List Env) (s:aG) (H:Hp) (E:XK),ce k (A.deeper (envOfC x (fB st) s.heap.objs.size f cdv)) ->
   om (yK iz P w K mg base N x (fB st) f cdv A outer s H E).nox (pR st) t)
  (len:∀ds Q,F ds Q->ds.length=ps.length) (pure:∀ds Q,F ds Q->t { nx:=λ_=>Q .non,rt:=Q } (dR N ds)):FnAt P w K mg base x ps (k+1) F:=by
 obtain⟨f,fd,a,b,c⟩:=Z.ex;exact⟨f,fd,Yq a Sc (λcdv A outer s H E hr=>fc cdv A outer s H E hr) len pure,.all c,a.kp,b⟩
theorem ai.okL {x:Str} {st:Stmt} {ps:List Str} {k:Nat} {F:FD} (Z:ai K mg x st ps) (h:∀(base:Heap) (f:Addr) (fd:lZ),tx K x x st f fd->gu P w K mg base iz k f fd ps (rl K F)) :
  ∃f fd,mg x=some (.ref f)/\(∀us:List aB,us.length=ps.length->bindArgs fd ⟨us,[]⟩=pure (ps.zip us))/\∀base,gu P w K mg base iz k f fd ps (rl K F):=by
 obtain⟨f,fd,a,b,c⟩:=Z.ex;exact⟨f,fd,b,c,λbase=>h base f fd a⟩
end
section
variable {X:Cx} {k:Nat} {ps:List Str} {F:FD} {x:Str} {p pos:Pos} {e:Expr} {es:List Expr} {t:RA}
theorem Km (C:FnAt X.prog X.w X.K X.mg X.base x ps k F) (hr:ce k X.A) (ha:DA X (e::es) t) (hg:Gl X x:=by rfl)
  (kw:(x == ("__debug__":Str))=false:=by decide) (he:starEach (e::es) X.env=(false,eval e X.env)::starEach es X.env:=by rfl) (h8:(backTo pos (starEach es X.env)).any (·.1)=false:=by rfl) :
  DE X (.Call (.Name x p) (e::es) [] pos) (cO F t):=by
 obtain⟨f,fd,G,hb,hk,hm⟩:=C.ex;exact Pn G hr hm hk hb ha hg kw he h8
end
def Jj (n:Nat):FD:=λds Q=>∃ns:List Int,ds=[.lst (ns.map .int)]/\ns.length<=n/\Q (.bl true)
def Xf {K:aI} {H:Hp} {a:Addr} {vs:List V} (hO:Ov H) (h:f8 K H a vs):jj K H a vs:=by
 rcases h with (h | ⟨o,h⟩) | h
 ·rcases hO a with z | ⟨o,xs,z⟩
  ·rw[z] at h;cases h
  ·rw[z] at h;cases h
 ·exact .inl ⟨o,h⟩
 ·exact .inr h
def n9 (K:aI):Prop:=∀x∈WE,tF K mainGlobals x=some none
def n9.tabs {K:aI} (n:n9 K) (H:Hp):fo K H:=λx c P m e=>by
 unfold RV at e;rw[n x m] at e;cases e
def noLam {K:aI} (a:tF K mainGlobals "rising" = some none) (b:tF K mainGlobals "framed_rising" = some none) (c:tF K mainGlobals "laid_triangles" = some none):n9 K:=λx m=>by
 simp only[WE,aJ,cY,or_false] at m;rcases m with rfl | rfl | rfl
 ·exact a
 ·exact b
 ·exact c
def walk_law {l:MG} {q:bR} {loose:List Str} {XP:(Str->Option aB)->Heap->Prop} {YP:cT->Heap->Prop} {d:DefRec} {K:Params->aI} {x:Str} {k:Nat}
  (hn:l.most=some 63) (vk:d.params.defaults=[]) (hr:ce k callerA)
  (hY:∀(w:cT) (h:Heap),YP w h->(K w.params).In h) (hd:d.name = "law") (hL:∀w:cT,n9 (K w.params))
  (F:∀(w:cT) (mg:Str->Option aB) (h:Heap),(K w.params).In h->h.Ns mainGlobals mg ->
   ∃f fd,mg "law" = some (.ref f)/\(∀us:List aB,us.length=[x].length->bindArgs fd ⟨us,[]⟩=pure ([x].zip us))/\∀base,gu l.prog w (K w.params) mg base iz k f fd [x] (rl (K w.params) (Jj 63))) :
  RU q loose XP YP l.row.toRowW d [] (λf vs=>NS f vs):=by
 refine L2.tw (n:=63) (k:=k) (x:=x) (CX:=λ_=>iz) (sp:=λw=>rl (K w.params) (Jj 63)) hn (by decide) vk hr hY ?_ ?_ λ_ _ _ _ _ z=>z
 ·intro w mg fa h KX G w8;rw[hd] at w8;obtain⟨f,fd,hm,hb,hF⟩:=F w mg h KX G;rw[w8] at hm;cases hm;exact⟨fd,λs u=>.of_eq (hb [u] rfl),λbase _ _=>hF base⟩
 ·intro w H a ns hl hO hS;exact⟨(hL w).tabs H,[.lst (ns.map .int)],λd=>d = .bl true,.cons (.lst (Xf hO hS) .ints) .nil,⟨ns,rfl,hl,rfl⟩,λd v H' e _ r=>by subst e;exact r.bl_inv⟩
def f_ (f:D->D->Option Bool):List D->List D->Option Bool
 | [],[]=>some true
 | [],_::_=>some false
 | _::_,[]=>some false
 | x::xs,y::ys=>match f x y,f_ f xs ys with
  | some a,some b=>some (a && b)
  | _,_=>none
def c4:Nat->D->D->Option Bool
 | 0,_,_=>none
 | n+1,d,e=>match d,e with
  | .int a,.int b=>some (decide (a=b))
  | .bl a,.bl b=>some (decide (a=b))
  | .non,.non=>some true
  | .non,.tup _=>some false
  | .tup _,.non=>some false
  | .tup xs,.tup ys=>f_ (c4 n) xs ys
  | .lst xs,.lst ys=>f_ (c4 n) xs ys
  | _,_=>none
theorem MS:∀{xs ys:List D} {b:Bool},f_ f xs ys=some b->∀(j:Nat) (x y:D),xs[j]? = some x->ys[j]? = some y->∃c,f x y=some c
 | [],_,_,_,j,x,y,e,_=>by simp at e
 | _::_,[],_,_,j,x,y,_,e=>by simp at e
 | a::xs,c::ys,b,h,j,x,y,e1,e2=>by
  unfold f_ at h;split at h
  ·rename_i p q hp hq;cases j with
   | zero=>simp at e1 e2;subst e1 e2;exact⟨p,hp⟩
   | succ j=>exact MS hq j x y (by simpa using e1) (by simpa using e2)
  ·cases h
theorem HP:∀{xs ys:List D} {b:Bool},f_ f xs ys=some b ->
  ((dY (min xs.length ys.length)).all (λj=>match xs[j]?,ys[j]? with | some x,some y=>(f x y).getD false | _,_=>false) && xs.length == ys.length)=b
 | [],[],b,h=>by cases h;rfl
 | [],_::_,b,h=>by cases h;rfl
 | _::_,[],b,h=>by cases h;rfl
 | x::xs,y::ys,b,h=>by
  unfold f_ at h;split at h
  ·rename_i p q hp hq;cases h;have ih:=HP hq;rw[<-ih];simp only[cD,Nat.succ_min_succ,List.range_succ_eq_map,DV,aE,hp,mF,List.all_map];rw[MY];congr 1;congr 1;rw[pL];simp
  ·cases h
section
variable {X:Cx} {σ:St} {H:Hp} {s:aG}
theorem OW {f:D->D->Option Bool} (hf:∀{d e:D} {v:V} {b:Bool},f d e=some b->b_ X.K H d v->b_ X.K H e v->b=true):∀{xs ys:List D} {vs:List V} {b:Bool},f_ f xs ys=some b->af X.K H xs vs->af X.K H ys vs->b=true:=by
 intro xs
 induction xs with
 | nil=>intro ys vs b h q1 q2;cases q1;cases q2;cases h;rfl
 | cons x xs ih =>
  intro ys vs b h q1 q2;cases q1 with
  | cons r t =>
   cases q2 with
   | cons r' t' =>
    unfold f_ at h;split at h
    ·rename_i p q hp hq;cases h;rw[hf hp r r',ih hq t t'];rfl
    ·cases h
theorem HN (I:Inv X pins σ H s):∀(n:Nat) {d e:D} {v:V} {b:Bool},c4 n d e=some b->b_ X.K H d v->b_ X.K H e v->b=true
 | 0,_,_,_,_,h,_,_=>by cases h
 | n+1,d,e,v,b,h,r1,r2=>by
  unfold c4 at h;split at h
  ·rw[r1.int_inv] at r2;cases r2;cases h;simp
  ·rw[r1.bl_inv] at r2;cases r2;cases h;simp
  ·cases h;rfl
  ·cases r1;cases r2
  ·cases r2;cases r1
  ·rename_i xs ys;cases r1 with
   | @tup a vs _ h1 q1 =>
    cases r2 with
    | @tup _ ws _ h2 q2 =>
     rw[h1] at h2;cases h2;exact OW (λ{d e v b}=>HN I n) h q1 q2
  ·rename_i xs ys;cases r1 with
   | @lst a vs _ h1 q1 =>
    cases r2 with
    | @lst _ ws _ h2 q2 =>
     rw[I.list_inj h2.sq h1.sq] at q2;exact OW (λ{d e v b}=>HN I n) h q1 q2
  ·cases h
theorem OX (I:Inv X pins σ H s) {n:Nat} {a c:Addr} (h:f_ (c4 n) xs ys=some b) (h1:f8 X.K H a vs) (q1:af X.K H xs vs) (h2:f8 X.K H c ws) (q2:af X.K H ys ws) (hu:A.units<cLine)
  (o3:∀{d e:D} {v u:V} {x y:aB} {b:Bool},c4 n d e=some b->b_ X.K H d v->b_ X.K H e u->RelV v x->RelV u y->yG A.in1 s x y b):uG A s (.ref a) (.ref c) b/\yG A s (.ref a) (.ref c) b:=by
 obtain⟨its,rv,ht,_⟩:=I.list h1;obtain⟨dh,m5,q9,_⟩:=I.list h2;have l1:xs.length=its.length:=q1.length.trans rv.length;have l2:ys.length=dh.length:=q2.length.trans m5.length;have rc:uG A s (.ref a) (.ref c) b:=by
  by_cases hl:xs.length=ys.length
  ·have:=SeqAt.RcAt.lists (A:=A) (s:=s) (e:=λj=>match xs[j]?,ys[j]? with | some x,some y=>(c4 n x y).getD false | _,_=>false) ht.isList q9.isList (by simp;lia) hu (λj g1 g2=>?_)
   ·have al:=HP h;simp only[aY,<-l1] at this;rw[<-hl,Nat.min_self,beq_self_eq_true,vU] at al;rw[al] at this;exact this
   ·simp only[aY] at g1 g2;have e1:xs[j]? = some (xs[j]'(by lia)):=aD _;have e2:ys[j]? = some (ys[j]'(by lia)):=aD _;obtain⟨k,hk⟩:=MS h j _ _ e1 e2;rw[e1,e2];simp only[hk,mF];obtain⟨v1,f1,f2⟩:=q1.get e1;obtain⟨v2,f3,f4⟩:=q2.get e2;obtain⟨u1,g3,g4⟩:=rv.get f1;obtain⟨u2,g5,g6⟩:=m5.get f3;have a1:its.toArray[j]=u1:=by
     have:=aD g1;rw[this] at g3;simpa using dO g3
    have a2:dh.toArray[j]=u2:=by
     have:=aD g2;rw[this] at g5;simpa using dO g5
    rw[a1,a2];exact o3 hk f2 f4 g4 g6
  ·have al:=HP h;have:(xs.length == ys.length)=false:=(by simpa using hl);rw[this,AK] at al;rw[<-al];exact SeqAt.RcAt.lists_lengths ht.isList q9.isList (by simp;lia) hu
 refine⟨rc,?_⟩;by_cases yo:a=c
 ·subst yo;rw[I.list_inj h2 h1] at q2;rw[OW (λ{d e v b}=>HN I n) h q1 q2];exact zH _
 ·exact FR yo rc
theorem uM (I:Inv X pins σ H s):∀(n:Nat) {d e:D} {v u:V} {x y:aB} {b:Bool} {A:cZ},c4 n d e=some b->b_ X.K H d v->b_ X.K H e u->RelV v x->RelV u y->A.units+n<cLine ->
  uG A s x y b/\yG A s x y b
 | 0,_,_,_,_,_,_,_,_,h,_,_,_,_,_=>by cases h
 | n+1,d,e,v,u,x,y,b,A,h,r1,r2,rx,ry,hu=>by
  have same:=λ(hvu:v=u)=>HN I (n+1) h r1 (hvu ▸ r2);unfold c4 at h;split at h
  ·rename_i i j;rw[r1.int_inv] at rx;rw[r2.int_inv] at ry;obtain⟨t,rfl⟩:=rx;obtain⟨t',rfl⟩:=ry;cases h;have e:decide (i=j)=(i == j):=(by rw[mZ]);rw[e];exact⟨SeqAt.RcAt.int_int _ _ _ _,FQ _ _ _ _⟩
  ·rename_i i j;rw[r1.bl_inv] at rx;rw[r2.bl_inv] at ry;cases rx;cases ry;cases h;have e:decide (i=j)=(i == j):=(by rw[mZ]);rw[e];exact⟨SeqAt.RcAt.bool_bool _ _,SeqAt.EqAt.bool_bool _ _⟩
  ·cases r1;cases r2;cases rx;cases ry;cases h;exact⟨SeqAt.RcAt.none_none,zH _⟩
  ·cases r1;cases r2 with
   | tup h2 q2 =>
    cases rx;cases ry;cases h;obtain⟨its,rv,ht,_⟩:=I.tuple (di.of h2);exact⟨SeqAt.RcAt.none_tuple ht (by lia),SeqAt.EqAt.none_tuple ht (by lia)⟩
  ·cases r2;cases r1 with
   | tup h2 q2 =>
    cases rx;cases ry;cases h;obtain⟨its,rv,ht,_⟩:=I.tuple (di.of h2);exact⟨SeqAt.RcAt.tuple_none ht (by lia),SeqAt.EqAt.tuple_none ht (by lia)⟩
  ·rename_i xs ys;cases r1 with
   | @tup a vs _ h1 q1 =>
    cases r2 with
    | @tup c ws _ h2 q2 =>
     cases rx;cases ry;obtain⟨its,rv,ht,_⟩:=I.tuple (di.of h1);obtain⟨dh,m5,q9,_⟩:=I.tuple (di.of h2);have l1:xs.length=its.length:=q1.length.trans rv.length;have l2:ys.length=dh.length:=q2.length.trans m5.length;have rc:uG A s (.ref a) (.ref c) b:=by
      have:=SeqAt.RcAt.tuples (A:=A) (s:=s) (e:=λj=>match xs[j]?,ys[j]? with | some x,some y=>(c4 n x y).getD false | _,_=>false) ht q9 (by lia) (λj g1 g2=>?_)
      ·simp only[aY,<-l1,<-l2] at this;rw[HP h] at this;exact this
      ·simp only[aY] at g1 g2;have e1:xs[j]? = some (xs[j]'(by lia)):=aD _;have e2:ys[j]? = some (ys[j]'(by lia)):=aD _;obtain⟨k,hk⟩:=MS h j _ _ e1 e2;rw[e1,e2];simp only[hk,mF];obtain⟨v1,f1,f2⟩:=q1.get e1;obtain⟨v2,f3,f4⟩:=q2.get e2;obtain⟨u1,g3,g4⟩:=rv.get f1;obtain⟨u2,g5,g6⟩:=m5.get f3;have a1:its.toArray[j]=u1:=by
        have:=aD g1;rw[this] at g3;simpa using dO g3
       have a2:dh.toArray[j]=u2:=by
        have:=aD g2;rw[this] at g5;simpa using dO g5
       rw[a1,a2];exact (uM I n hk f2 f4 g4 g6 (by show A.units+1+n<cLine;lia)).2
     refine⟨rc,?_⟩;by_cases yo:a=c
     ·subst yo;rw[same rfl];exact zH _
     ·exact FR yo rc
  ·rename_i xs ys;cases r1 with
   | @lst a vs _ h1 q1 =>
    cases r2 with
    | @lst c ws _ h2 q2 =>
     cases rx;cases ry;exact OX I h h1.sq q1 h2.sq q2 (by lia) λ{d e v u x y b} hk f2 f4 g4 g6=>(uM I n hk f2 f4 g4 g6 (by show A.units+1+n<cLine;lia)).2
  ·cases h
end
def HE:R22:=λx y Q=>match c4 6 x y with
 | some b=>Q (.bl b)
 | none=>False
section
def Ur {Z:St} {s:aG} (I:Inv X pins Z H s) (h:c4 6 d e=some b) (r1:c8 X.K H d v) (r2:c8 X.K H e u) (rx:RelV v x) (ry:RelV u y) (hu:A.units+6<cLine):uG A s x y b:=by
 by_cases hl:∃xs ys,d = .lst xs/\e = .lst ys
 ·obtain⟨xs,ys,rfl,rfl⟩:=hl;obtain⟨a,vs,rfl,h1,q1⟩:=r1.lst;obtain⟨c,ws,rfl,h2,q2⟩:=r2.lst;cases rx;cases ry;exact (OX I (n:=5) h h1 q1 h2 q2 (by lia) λ{d e v u x y b} hk f2 f4 g4 g6=>(uM I 5 hk f2 f4 g4 g6 (by show A.units+1+5<cLine;lia)).2).1
 ·have p1:b_ X.K H d v:=by
   rcases r1 with r | ⟨ds,a,vs,e1,_⟩
   ·exact r
   ·subst e1;cases e <;> first | (cases h;done) | exact absurd ⟨_,_,rfl,rfl⟩ hl
  have p2:b_ X.K H e u:=by
   rcases r2 with r | ⟨ds,a,vs,e1,_⟩
   ·exact r
   ·subst e1;cases d <;> first | (cases h;done) | exact absurd ⟨_,_,rfl,rfl⟩ hl
  exact (uM I 6 h p1 p2 rx ry hu).1
def Zg (hr:ce k X.A):jn X (compareOp .Eq) HE:=by
 intro pins s Z H x y v u Q I rx ry aw;obtain⟨d,e,P,r1,r2,q,kk⟩:=aw;unfold HE at q;split at q
 ·rename_i b hb;have hu:=hr.units;exact Ur I (A:=X.A) hb r1 r2 rx ry (by lia) _ _ _ _ ⟨.bl b,H,I,rfl,kk _ _ H q (ae.refl H) (.bl b)⟩
 ·exact q.elim
end
theorem BF (env:Env):∀(names:List (Str × NameKind)) (acc:List (Str × Addr)),(∀y∈names,y.2 = .free->∃c,env.cells.lookup y.1=some c) ->
  ∃cl:List (Str × Addr),(do
   let mut cs:=acc
   for (name,kind) in names do
    if kind == .free then cs:=(name,<-cellOf env name)::cs
   return cs:Sem (List (Str × Addr)))=pure cl/\(∀p∈cl,p∈acc\/env.cells.lookup p.1=some p.2)/\(∀p∈acc,p∈cl)/\∀y∈names,y.2 = .free->∃c,(y.1,c)∈cl
 | [],acc,_=>⟨acc,by simp,λp h=>.inl h,λp h=>h,λy h=>by simp at h⟩
 | (n,k)::r,acc,h=>by
  by_cases hk:k = .free
  ·subst hk;obtain⟨c,hc⟩:=h _ cF rfl;obtain⟨cl,e,h1,h2,h3⟩:=BF env r ((n,c)::acc) λy hy=>h y (aO _ hy);refine⟨cl,?_,λp hp=>?_,λp hp=>h2 p (aO _ hp),λy hy hf=>?_⟩
   ·rw[<-e];have jh:cellOf env n=pure c:=(by unfold cellOf;rw[hc]);simp only[MB,jh,beq_self_eq_true,if_true,pure_bind]
   ·rcases h1 p hp with q | q
    ·rcases aJ.mp q with rfl | q
     ·exact .inr hc
     ·exact .inl q
    ·exact .inr q
   ·rcases aJ.mp hy with rfl | hy
    ·exact⟨c,h2 _ cF⟩
    ·exact h3 y hy hf
  ·obtain⟨cl,e,h1,h2,h3⟩:=BF env r acc λy hy=>h y (aO _ hy);refine⟨cl,?_,h1,h2,λy hy hf=>?_⟩
   ·rw[<-e];have hb:(k == iB)=false:=(by simpa using hk);simp only[MB,hb,aN,if_false,pure_bind]
   ·rcases aJ.mp hy with rfl | hy
    ·exact absurd hf hk
    ·exact h3 y hy hf
theorem EC {α:Type}:∀{l:List (Str × α)} {x:Str} {c:α},(x,c)∈l->∃c',l.lookup x=some c'
 | [],_,_,h=>by simp at h
 | (y,d)::r,x,c,h=>by
  rw[rP];cases e:x == y with
  | true=>exact⟨d,rfl⟩
  | false =>
   rcases aJ.mp h with q | q
   ·cases q;rw[beq_self_eq_true] at e;cases e
   ·exact EC q
def FU (h:∀y∈scope.names,y.2 = .free->∃c,env.cells.lookup y.1=some c) :
  ∃cl,closureFor scope env=pure cl/\(∀x c,cl.lookup x=some c->env.cells.lookup x=some c)/\∀y∈scope.names,y.2 = .free->∃c,cl.lookup y.1=some c:=by
 obtain⟨cl,e,h1,_,h3⟩:=BF env scope.names [] h;refine⟨cl,e,λx c hx=>?_,λy hy hf=>?_⟩
 ·rcases h1 _ (jY hx) with q | q
  ·simp at q
  ·exact q
 ·obtain⟨c,hc⟩:=h3 y hy hf;exact EC hc
def lF (X:Cx) (scope:Scope) (N:List Str) (cl:List (Str × Addr)) (C:Addr) (s:aG) (H:Hp) (fp:List Addr):Cx where
 prog:=X.prog
 w:=X.w
 K:=X.K
 mg:=X.mg
 base:=X.base
 A:=X.A
 N:=N
 s₀:=s
 H₀:=H
 env:=compEnvC scope cl C X.env
 outer:=X.stack
 stack:=X.stack
 ex:=fp
 fn:=λ_=>false
 calm:=X.calm
 pn:=[]
 xe:=λ_ _=>False
structure kg (X:Cx) (scope:Scope):Prop where
 kind:scope.kind = .function
 nocell:∀y∈scope.names,y.2≠.cell
 locs:∀y∈scope.names,y.2 = .local->scope.names.lookup y.1=some .local
 frees:∀y∈scope.names,y.2 = .free->X.env.kindOf y.1=some .cell\/X.env.kindOf y.1=some .free
theorem qU {env:Env}:∀{names:List (Str × NameKind)} {x:Str} {k:NameKind},(names.map λ(n,k)=>if (k == iB && env.scope.kind == .function && env.kindOf n == some .cell) then (n,rY) else (n,k)).lookup x=some k ->
  (k = .cell\/k = .free)->(∀y∈names,y.2≠.cell)->(x,.free)∈names
 | [],_,_,h,_,_=>by simp at h
 | (n,j)::r,x,k,h,hk,hn=>by
  have h:List.lookup x ((if (j == iB && env.scope.kind == .function && env.kindOf n == some .cell)=true then (n,rY) else (n,j))::r.map λ(n,k)=>if (k == iB && env.scope.kind == .function && env.kindOf n == some .cell) then (n,rY) else (n,k))=some k:=h;have ni:∀y∈r,y.2≠.cell:=λy hy=>hn y (aO _ hy);cases hx:x == n with
  | true =>
   have e:x=n:=eq_of_beq hx;subst e;by_cases hc:(j == iB && env.scope.kind == .function && env.kindOf x == some .cell)=true
   ·have hj:j = .free:=by
     rw[iG,iG] at hc;exact eq_of_beq hc.1.1
    subst hj;exact cF
   ·rw[if_neg hc,rP,beq_self_eq_true] at h;cases h;rcases hk with rfl | rfl
    ·exact absurd rfl (hn _ cF)
    ·exact cF
  | false =>
   by_cases hc:(j == iB && env.scope.kind == .function && env.kindOf n == some .cell)=true
   ·rw[if_pos hc,rP,hx] at h;exact aO _ (qU h hk ni)
   ·rw[if_neg hc,rP,hx] at h;exact aO _ (qU h hk ni)
section
variable {X:Cx} {pins:List (Addr × Obj)} {σ:St} {H:Hp} {s:aG} {scope:Scope} {N:List Str} {cl:List (Str × Addr)} {C:Addr} {fp:List Addr}
theorem Pd (I:Inv X pins σ H s) (Sc:kg X scope) (jq:∀x c,cl.lookup x=some c->X.env.cells.lookup x=some c) (cg:∀y∈scope.names,y.2 = .free->∃c,cl.lookup y.1=some c)
  (hC:s.heap.objs.size<=C) (hf:∀b∈fp,IZ X pins H b) (c9:∀b∈fp,b<s.heap.objs.size):(lF X scope N cl C s H fp).Ok:=by
 refine⟨I.ok.mod,Sc.kind,I.ok.glob,I.ok.blt,hC,λx y c h1 h2=>I.ok.inj x y c (jq x c h1) (jq y c h2),λx hx=>?_,λx c hx=>absurd (show false=true from hx) cM,I.ok.hd,I.ok.frames,.inl rfl,λb hb=>?_,I.bs,eJ I.ok.bsz I.sz,λb o e hb=>?_,λb hb S2=>?_,I.stack,I.stkFree⟩
 ·have hx:(scope.names.map λ(n,k)=>if (k == iB && X.env.scope.kind == .function && X.env.kindOf n == some .cell) then (n,rY) else (n,k)).lookup x=some .cell\/(scope.names.map λ(n,k)=>if (k == iB && X.env.scope.kind == .function && X.env.kindOf n == some .cell) then (n,rY) else (n,k)).lookup x=some .free:=hx;have:(x,iB)∈scope.names:=by
   rcases hx with hx | hx
   ·exact qU hx (.inl rfl) Sc.nocell
   ·exact qU hx (.inr rfl) Sc.nocell
  exact cg _ this rfl
 ·obtain⟨f0,f1,f2,f3,f4,f5⟩:=hf b hb;exact⟨bO (bQ (c9 b hb) hC),λx c e=>f4 x c (jq x c e)⟩
 ·obtain⟨f0,f1,f2,f3,f4,f5⟩:=hf b hb;rcases f3 with z | z
  ·exact I.ok.noex b o e z
  ·have h1:=(aX e);have h2:=I.ok.bsz;exact absurd (bQ h1 (eJ h2 z)) (gT _)
 ·obtain⟨f0,f1,f2,f3,f4,f5⟩:=hf b hb;rcases aJ.mp (I.stkSub b S2) with e | e
  ·exact f1 e
  ·exact f2 e
def VI (σ:St) (k:Nat) (ix:List Nat):St:=eO k none++ix.map λi=>(σ[i]?).join
theorem Jw (I:Inv X pins σ H s) (Sc:kg X scope) (jq:∀x c,cl.lookup x=some c->X.env.cells.lookup x=some c) (cg:∀y∈scope.names,y.2 = .free->∃c,cl.lookup y.1=some c)
  {s4:aG} {m:Str->Option aB} {k:Nat} {ix:List Nat} {ys:List Str} (hC:s.heap.objs.size<=C) (hf:∀b∈fp,IZ X pins H b) (c9:∀b∈fp,b<s.heap.objs.size)
  (K_:∀b o,s.heap.get? b=some o->s4.heap.get? b=some o) (v3:s4.os=s.os) (hb:AllBare s4.gens) (hns:s4.heap.Ns C m)
  (hN:N.length=k+ys.length) (qg:N.drop k=ys) (hix:ix.length=ys.length) (hiy:∀(j:Nat) (y:Str) (i:Nat),ys[j]? = some y->ix[j]? = some i->X.N[i]? = some y/\(y,iB)∈scope.names)
  (hkind:∀y∈ys,(relabel scope X.env).names.lookup y=some .cell\/(relabel scope X.env).names.lookup y=some .free) :
  Inv (lF X scope N cl C s H fp) [] (VI σ k ix) H s4:=by
 have S1:H C=none:=I.hok.fresh hC;refine⟨Pd I Sc jq cg hC hf c9,v3,hb,Un.kept K_,⟨m,hns,λi x v e1 e2 e3=>?_⟩,λx c e=>?_,S1,λx c e=>I.freeC x c (jq x c e),λp hp=>absurd (show p∈([]:List (Addr × Obj)) from hp) (by simp),I.hok.kept K_,?_⟩
 ·unfold VI at e2;by_cases mr:i<k
  ·rw[dJ (by simpa using mr),iJ,if_pos mr] at e2;cases e2
  ·rw[dE (by simpa using mr),lC,bT] at e2;cases eo:ix[i-k]? with
   | none=>rw[eo] at e2;cases e2
   | some o =>
    rw[eo] at e2;have e2:some ((σ[o]?).join)=some (some v):=e2;have ua:σ[o]? = some (some v):=by
     cases q:σ[o]? with
     | none=>rw[q] at e2;cases e2
     | some z=>rw[q] at e2;cases e2;rfl
    have ey:ys[i-k]? = some x:=by
     rw[<-qg,FL];rw[show k+(i-k)=i by lia];exact e1
    obtain⟨h1,h2⟩:=hiy _ _ _ ey eo;have hv:kn X.env.scope x:=by
     rcases Sc.frees _ h2 rfl with q | q
     ·exact .inr (.inl q)
     ·exact .inr (.inr q)
    obtain⟨m0,hn0,hl0⟩:=I.loc;obtain⟨u,ru,lu⟩:=hl0 o x v h1 ua hv;refine⟨u,ru,.inr ⟨hkind x (dM ey),?_⟩⟩;obtain⟨c,hc⟩:=cg _ h2 rfl;refine⟨c,hc,?_⟩;rcases lu with ⟨q,_⟩ | ⟨_,c',sk,jh⟩
    ·rcases Sc.frees _ h2 rfl with z | z
     ·rw[z] at q;cases q
     ·rw[z] at q;cases q
    ·have:=jq x c hc;rw[this] at sk;cases sk;obtain⟨oc,ho,hd⟩:=jh;exact⟨oc,K_ _ _ ho,hd⟩
 ·obtain⟨v,oc,ho,hd⟩:=I.cell x c (jq x c e);exact⟨v,oc,K_ _ _ ho,hd⟩
 ·unfold VI;show _=N.length;rw[bJ,lC,aS,hix,hN]
end
abbrev Tc (ifs:List Expr) (env:Env):Sem Bool:=forIn ifs true λc r=>if r=true then do let ok <-isTrue c env (eval c env);pure (LZ ok) else pure (LZ r)
theorem Gu {s:aG} (I:Nat->aG->Prop)
  (turn:∀n s,I n s->∀E:aB->aG->Prop,wpAny (model prog w) A (pyNext it) (λr s₁=>match r with
   | none=>R (.ok .next) s₁
   | some v=>wpAny (model prog w) A (letOwnedTupleGo target it v) (λ_ s₁=>wpAny (model prog w) A (assign target env v) (λ_ s₂=>wpAny (model prog w) A (Tc ifs env) (λok s₂=>if ok=true then wpAny (model prog w) A (eval elt env) (λx s₃ =>
     wpAny (model prog w) A (call (.builtin "list.append") [acc,x]) (λ_ s₄=>∃m,m<n/\I m s₄) E s₃) E s₂ else ∃m,m<n/\I m s₂) E s₂) E s₁) E s₁) E s)
  (n:Nat) (h:I n s):codeAny (model prog w) A (.compLoop (.ListComp elt [⟨target,iter,ifs,0⟩] scope pos) 0 it acc env) R s:=by
 refine codeAny_loop rfl I (λn s hI=>?_) n h;show wpAny _ _ ((compTurn (.ListComp elt [⟨target,iter,ifs,0⟩] scope pos) 0 it acc env).onRaise (λx=>do noteFrame x env;theTreesLotGoes x)) _ _ s;refine wpAny_noted ?_;rw[compTurn_list];refine aA (EZ (aA (gS (turn n s hI _) (λr s₁ h₁=>?_) λ_ _ h'=>h')));cases r with
 | none=>exact aK h₁
 | some v =>
  refine aA (gS h₁ (λ_ s₁' h₁'=>aA (gS h₁' (λ_ s₂ h₂=>aA (gS h₂ (λok s₃ h₃=>?_) λ_ _ h'=>h')) λ_ _ h'=>h')) λ_ _ h'=>h');cases ok with
  | false=>exact aK ⟨rfl,h₃⟩
  | true=>exact aA (aA (gS h₃ (λx s₄ h₄=>aA (gS h₄ (λ_ s₅ h₅=>aK (aK ⟨rfl,h₅⟩)) λ_ _ h'=>h')) λ_ _ h'=>h'))
def Ji (X:Cx) (ifs:List Expr) (t:RT):Prop:=∀(pins:List (Addr × Obj)) (s:aG) (Z:St) (H:Hp) (Q:Bool->Hp->Prop),Inv X pins Z H s->liftT X t Z H Q->wpAny (model X.prog X.w) X.A (Tc ifs X.env) (TP X pins Z Q) X.xe s
def Ix:RT:=λ_ Q=>Q true
def OS:Ji X [] Ix:=λpins s Z H Q I ⟨a,P,st,q,k⟩=>wpAny_tests_nil ⟨H,I,k true H q (ae.refl H)⟩
def Ef (X:Cx) (J:It) (xs:List D) (H0:Hp):Prop:=∀i H,ae H0 H->(∀d,xs[i]? = some d->J.go i H/\∀x H',J.yld i H x H'->ae H H'/\b_ X.K H' d x)/\(xs.length<=i->J.stop i H)
def Vn (X:Cx) (t:RA):TI:=λZ H R=>∃a P,ao X a Z H/\t a P/\∀xs J H',P xs->ae H H'->Ef X J xs H'->R J H'
def X_ (X:Cx) (tg iter:Expr) (t:RA):Prop:=PI X tg iter (Vn X t)
def ou.s (h:ou X J xs H):Ef X J xs H:=λi H' s=>h i H' (.of s)
def DI.s (h:DI X tg e t):X_ X tg e t:=PI.mono h λ_ _ _ ⟨a,P,st,q,k⟩=>⟨a,P,st,q,λxs J H p s ok=>k xs J H p s ok.s⟩
def WG (X:Cx) (Nw:Hp->Hp->V->Prop) (t:RE):TE:=λZ H Q=>∃a P,ao X a Z H/\t a P/\∀d v H',P d->ae H H'->b_ X.K H' d v->Nw H H' v->Q v H'
structure uv (Nw:Hp->Hp->V->Prop) (Rl:Hp->List V->Prop):Prop where
 nil:∀H,Rl H []
 keep:∀{H H' vs},ag H H'->Rl H vs->Rl H' vs
 snoc:∀{H H' vs v},Rl H vs->ae H H'->Nw H H' v->Rl H' (vs++[v])
def YU:uv (λ_ _ _=>True) λ_ _=>True:=⟨λ_=>⟨⟩,λ_ _=>⟨⟩,λ_ _ _=>⟨⟩⟩
def DE.n (h:DE X e t):PE X e (WG X (λ_ _ _=>True) t):=PE.mono h λ_ _ _ ⟨a,P,st,q,k⟩=>⟨a,P,st,q,λd v H' p s r=>k d v H' p s r ⟨⟩⟩
def wT (g:RG) (te:RE):List D->En->List D->(List D->Prop)->Prop
 | [],_,acc,Q=>Q acc
 | x::xs,a,acc,Q=>g x a λa'=>te a' λd=>wT g te xs a' (acc++[d]) Q
def nF (g:RG) (tt:RT) (te:RE):List D->En->List D->(List D->Prop)->Prop
 | [],_,acc,Q=>Q acc
 | x::xs,a,acc,Q=>g x a λa'=>tt a' λb=>if b=true then te a' λd=>nF g tt te xs a' (acc++[d]) Q else nF g tt te xs a' acc Q
theorem TM:∀{xs:List D} {a:En} {acc:List D} {Q:List D->Prop},nF g Ix te xs a acc Q=wT g te xs a acc Q
 | [],_,_,_=>rfl
 | x::xs,a,acc,Q=>by
  show (g x a λa'=>if true=true then te a' λd=>nF g Ix te xs a' (acc++[d]) Q else nF g Ix te xs a' acc Q)=g x a λa'=>te a' λd=>wT g te xs a' (acc++[d]) Q;congr 1;funext a';rw[if_pos rfl];congr 1;funext d;exact TM
def VH (a:En) (i:Nat):Option S:=match a[i]? with
 | some (some (.d d))=>some (.d d)
 | _=>none
def yJ (a:En) (k:Nat) (ix:List Nat):En:=eO k none++ix.map (VH a)
def Uf (so:ao X b Z H) (hK:X'.K=X.K) (hH:X'.H₀=H):ao X' (yJ b k ix) (VI Z k ix) H:=by
 have own:∀(i:Nat) (x:S),(yJ b k ix)[i]? = some (some x)->∃d,x = .d d:=λi x e=>by
  unfold yJ at e;by_cases mr:i<k
  ·rw[dJ (by simpa using mr),iJ,if_pos mr] at e;cases e
  ·rw[dE (by simpa using mr),bT] at e;cases eo:ix[i-(eO k (none:Option S)).length]? with
   | none=>rw[eo] at e;cases e
   | some o =>
    rw[eo] at e;have e:some (VH b o)=some (some x):=e;have e:=dO e;unfold VH at e;split at e <;> cases e;exact⟨_,rfl⟩
 refine⟨by simp[yJ,VI],by rw[hH];exact ae.refl H,λi x e=>?_,λi j x y v u a e1 _ _ _ o _=>by
  obtain⟨d,rfl⟩:=own i x e1;exact o.elim,by rw[hK,hH];exact so.tabs⟩
 unfold yJ at e;by_cases mr:i<k
 ·rw[dJ (by simpa using mr),iJ,if_pos mr] at e;cases e
 ·rw[dE (by simpa using mr),bT,lC] at e;cases eo:ix[i-k]? with
  | none=>rw[eo] at e;cases e
  | some o =>
   rw[eo] at e;have e:some (VH b o)=some (some x):=e;have e:=dO e;unfold VH at e;split at e
   ·rename_i d ed;cases e;obtain⟨v,h1,h2⟩:=so.rel o _ ed;refine⟨v,?_,by rw[hK];exact h2⟩;unfold VI;rw[dE (by simpa using mr),bT,lC,eo,pO,h1];rfl
   ·cases e
section
variable {σ:St}
theorem _root_.L2.Inv.track {s s':aG} {a:Addr} {n:Nat} (I:Inv X pins σ H s) (I':Inv X pins σ H' s') (ha:s.heap.objs.size<=a) (hn:H' a=none)
  (e:s'.heap.get? a=some { cls:=.type "list",data:=.seq its.toArray n }) (rv:am vs its) (hz:vs.length<=sizeLine):Inv X pins σ (au H' a (.lst vs)) s':=by
 have hL:X.env.locals≠a:=bO (bQ I.lt ha);have jh:∀x c,X.env.cells.lookup x=some c->c≠a:=λx c q z=>by
  obtain⟨v,hv⟩:=I.cell x c q;exact absurd (bQ hv.lt (by rw[z];exact ha)) (gT _)
 have hs0:∀{b:Addr} {o:Obj},X.s₀.heap.get? b=some o->b≠a:=λ{b o} q=>bO (bQ (aX q) (eJ I.sz ha));refine⟨I'.ok,I'.os,I'.bare,⟨I'.base.keep,I'.base.slot,λb o q n hx=>?_,I'.base.there,λb ys q=>?_,λb o u q=>?_,λb ps q=>?_⟩,I'.loc,I'.cell,?_,λx c q=>?_,λp hp=>?_,λb u q=>?_,I'.len⟩
 ·rw[cH (hs0 q)];exact I'.base.free b o q n hx
 ·rw[cH (dG (I'.base.tups b ys q) hn)];exact I'.base.tups b ys q
 ·rw[cH (dG (I'.base.frzs b o u q) hn)];exact I'.base.frzs b o u q
 ·obtain⟨m,q2⟩:=I'.base.tbls b ps q;exact⟨m,by rw[cH (dG q2 hn)];exact q2⟩
 ·rw[cH hL];exact I'.free
 ·rw[cH (jh x c q)];exact I'.freeC x c q
 ·obtain⟨q1,q2,q3,q4,q5⟩:=I'.pin p hp;have nj:p.1≠a:=bO (bQ (aX (I.pin p hp).1) ha);exact⟨q1,by rw[cH nj];exact q2,q3,q4,q5⟩
 ·by_cases hb:b=a
  ·subst hb;rw[eB] at q;cases q;exact⟨hz,its,n,rv,e⟩
  ·rw[cH hb] at q;exact (I'.hok b u q).stay (λc v _ w=>w) (λc w=>by rw[cH (dG w hn)];exact w) λc ys w=>by rw[cH (dG w hn)];exact w
theorem JP (hc:X.calm=true) (Sc:kg X scope) (jq:∀x c,cl.lookup x=some c->X.env.cells.lookup x=some c) (cg:∀y∈scope.names,y.2 = .free->∃c,cl.lookup y.1=some c)
  (hN:N.length=k+ys.length) (qg:N.drop k=ys) (hix:ix.length=ys.length) (hiy:∀(j:Nat) (y:Str) (i:Nat),ys[j]? = some y->ix[j]? = some i->X.N[i]? = some y/\(y,iB)∈scope.names)
  (hkind:∀y∈ys,(relabel scope X.env).names.lookup y=some .cell\/(relabel scope X.env).names.lookup y=some .free)
  (hg:∀C s H fp,DG (lF X scope N cl C s H fp) target g) (vo:∀C s H fp,Ji (lF X scope N cl C s H fp) ifs tt) {Nw:Hp->Hp->V->Prop} {Rl:Hp->List V->Prop} (G:uv Nw Rl) (he:∀C fp,PE (lF X scope N cl C s2 H fp) elt (WG (lF X scope N cl C s2 H fp) Nw te))
  (I2:Inv X pins σ H s2) (so:ao X l σ H) (T:o0 X.prog X.w X.K target J fp it tn) (st:tn 0 s2.heap) (hf:∀b∈fp,IZ X pins H b) (ok:Ef X J xs H) (hz:xs.length<=sizeLine)
  (hP:nF g tt te xs (yJ l k ix) [] P) {RR:aB->Addr->Result->aG->Prop} {E:aB->aG->Prop}
  (post:∀(ds:List D) (vs:List V) (its:List aB) (n:Nat) (C:Addr) (s':aG) (H':Hp),P ds->ae H H'->H' s2.heap.objs.size=none->af X.K H' ds vs->Rl H' vs->am vs its->vs.length<=sizeLine ->
   s'.heap.get? s2.heap.objs.size=some { cls:=.type "list",data:=.seq its.toArray n }->Inv X pins σ H' s'->(∃m,s'.heap.Ns C m)->s2.heap.objs.size<C->H' C=none->RR (.ref s2.heap.objs.size) C (.ok .next) s') :
  wpAny (model X.prog X.w) X.A (newList []) (λacc s₃=>wpAny (model X.prog X.w) X.A (newFunctionEnv scope X.env.globals cl [] X.env.qual none .none (some X.env)) (λx_ s₄ =>
   codeAny (model X.prog X.w) X.A (.compStart (.ListComp elt [⟨target,iter,ifs,0⟩] scope pos) 0 (.ref it) acc { x_ with scope:=relabel scope X.env }) (RR acc x_.locals) s₄) E s₃) E s2:=by
 refine gB (wpAny_newFunctionEnv Sc.nocell (by intro y hy;simp at hy) (λh₁ hns₁ hsb₁=>?_) Sc.kind);dsimp only at hns₁ hsb₁ ⊢;generalize Q8:s2.heap.push { cls:=.type "list",dict:=none,data:=.seq ([]:List aB).toArray } = wg at hns₁ hsb₁ ⊢;have hCs:wg.objs.size=s2.heap.objs.size+1:=by rw[<-Q8,nR]
 have ga:s2.heap.objs.size<wg.objs.size:=by rw[hCs];exact kL _
 have c9:∀b∈fp,b<s2.heap.objs.size:=λb hb=>by
  obtain⟨o,ho,_⟩:=T.obj 0 _ st b hb;exact aX ho
 have old:∀b o,s2.heap.get? b=some o->h₁.get? b=some o:=λb o e =>
  hsb₁.extBut b o (bO (oH (aX e) ga)) (aP _ (Q8 ▸ aP _ e))
 have R5:h₁.get? s2.heap.objs.size=some { cls:=.type "list",data:=.seq ([]:List aB).toArray 0 } :=
  hsb₁.extBut _ _ (bO ga) (aP _ (Q8 ▸ cL _ rfl))
 have S1:H s2.heap.objs.size=none:=I2.hok.fresh (bK _);let X':=lF X scope N cl wg.objs.size s2 H fp;have J0:Inv X' [] (VI σ k ix) H { s2 with heap:=h₁,toks:=s2.toks+([]:List (Str × aB)).length } :=
  Jw I2 Sc jq cg (lO ga) hf c9 old rfl I2.bare hns₁ hN qg hix hiy hkind
 have S0:ao X' (yJ l k ix) (VI σ k ix) H:=Uf so rfl rfl;have yn:s2.heap.objs.size ∉ X'.fs:=λhb=>by
  have hb:s2.heap.objs.size∈o9 X.stack:=hb;rcases aJ.mp (I2.stkSub _ hb) with e | e
  ·exact absurd (show X.env.locals<X.env.locals from Nat.lt_of_lt_of_eq I2.lt e) (gT _)
  ·exact I2.nofs (bK _) e
 have u_:∀{H':Hp} {o:Obj},(∀b∈fp,H' b=none)->∀b∈fp,IZ X' [(s2.heap.objs.size,o)] H' b:=λ{H' o} hn b hb=>by
  obtain⟨f0,f1,f2,f3,f4,f5⟩:=hf b hb;refine⟨hn b hb,bO (oH (c9 b hb) ga),λS2=>?_,.inl hb,λx c e=>f4 x c (jq x c e),λp hp=>?_⟩
  ·rcases aJ.mp (I2.stkSub b S2) with e | e
   ·exact f1 e
   ·exact f2 e
  ·have:p=(s2.heap.objs.size,o):=(by simpa [X',lF] using hp);subst this;exact kG (c9 b hb)
 have W_:∀{σ':St} {H':Hp} {s':aG} {its:List aB} {n:Nat},Inv X' [] σ' H' s'->H' s2.heap.objs.size=none->s'.heap.get? s2.heap.objs.size=some { cls:=.type "list",data:=.seq its.toArray n }->Inv X' [(s2.heap.objs.size,{ cls:=.type "list",data:=.seq its.toArray n })] σ' H' s':=λI' hn e =>
  I'.pins_of λp hp=>by
   have:=cR.mp hp;subst this;exact⟨e,hn,bO ga,yn,λv z=>by cases z⟩
 have loop:∀s₃:aG,s₃ = { s2 with heap:=h₁,toks:=s2.toks+([]:List (Str × aB)).length } ->
   codeAny (model X.prog X.w) X.A (.compLoop (.ListComp elt [⟨target,iter,ifs,0⟩] scope pos) 0 (.ref it) (.ref s2.heap.objs.size) (compEnvC scope cl wg.objs.size X.env)) (RR (.ref s2.heap.objs.size) wg.objs.size) s₃:=by
  rintro s₃ rfl;refine Gu (λm s'=>∃(i:Nat) (l':En) (σ':St) (H':Hp) (ds:List D) (vs:List V) (its:List aB) (n:Nat),m=xs.length-i/\i<=xs.length/\Inv X' [] σ' H' s'/\ao X' l' σ' H'/\tn i s'.heap/\(∀b∈fp,H' b=none) /\
   H' s2.heap.objs.size=none/\s'.heap.get? s2.heap.objs.size=some { cls:=.type "list",data:=.seq its.toArray n }/\af X.K H' ds vs/\Rl H' vs/\am vs its/\vs.length<=i/\nF g tt te (xs.drop i) l' ds P) ?_ xs.length
   ⟨0,yJ l k ix,VI σ k ix,H,[],[],[],0,rfl,eV _,J0,S0,T.keep _ _ _ st (λb hb o e=>old b o e),λb hb=>(hf b hb).1,S1,R5,.nil,G.nil H,.nil,bK _,by simpa using hP⟩
  rintro m s' ⟨i,l',σ',H',ds,vs,its,n,rfl,hi,I',S',du,fr',ni,e',rr,rn,rv,hl,hD⟩ E';obtain⟨o1,o2⟩:=ok i H' S'.same;have I1:=W_ I' ni e';by_cases su:i<xs.length
  ·have e:xs.drop i=xs[i]::xs.drop (i+1):=gE su;rw[e] at hD;obtain⟨go,yl⟩:=o1 xs[i] (aD su);refine ci (T.item X' rfl rfl rfl hc i _ s' σ' H' E' I1 (u_ fr') du go) λr s4 ⟨u,hr,h4⟩=>?_;subst hr;refine ci h4 λ_ s5 ⟨x,H5,I5,r5,y5,tu,Q3⟩=>?_;obtain⟨z5,rx5⟩:=yl x H5 y5;have Pi:=I5.pinned (u_ Q3) (T.obj _ _ tu);refine gS (hg _ _ _ _ _ s5 σ' H5 x u (λσ6 H6=>∃l6,tt l6 (λb=>if b=true then te l6 (λd=>nF g tt te (xs.drop (i+1)) l6 (ds++[d]) P) else nF g tt te (xs.drop (i+1)) l6 ds P)/\ag H5 H6/\ao X' l6 σ6 H6) Pi r5 ⟨xs[i],l',_,rx5,S'.ext z5,hD,λl6 σ6 H6 q6 k6 s6=>⟨l6,q6,k6,s6⟩⟩) (λ_ s6' ⟨σ6,Y3,I6',l6,q6',k6',Y9⟩=>?_) λ_ _ z=>z.elim;refine gS (vo _ _ _ _ _ s6' σ6 Y3 (λb H6=>(if b=true then te l6 (λd=>nF g tt te (xs.drop (i+1)) l6 (ds++[d]) P) else nF g tt te (xs.drop (i+1)) l6 ds P)/\ae Y3 H6) I6' ⟨l6,_,Y9,q6',λb H6 hb s6=>⟨hb,s6⟩⟩) (λokb s6 ⟨H6,I6,q6,s66⟩=>?_) λ_ _ z=>z.elim;have k6:ag H5 H6:=k6'.trans (.of s66);have S6:ao X' l6 σ6 H6:=Y9.ext s66;cases okb with
   | false =>
    have q6:nF g tt te (xs.drop (i+1)) l6 ds P:=q6;show ∃m,m<xs.length-i/\_;obtain⟨e7,n7,_,_,_⟩:=I6.pin (s2.heap.objs.size,_) (bG _ (dL _ cF));refine⟨xs.length-(i+1),by lia,i+1,l6,σ6,H6,ds,vs,its,n,rfl,su,I6.pins_of λp hp=>absurd hp (by simp),S6,?_,λb hb=>?_,n7,e7,rr.keep ((ag.of z5).trans k6),G.keep ((ag.of z5).trans k6) rn,rv,qQ hl,q6⟩
    ·exact T.keep _ _ _ tu λb hb o q=>(I6.pin (b,o) (bG _ (bG _ (rW hb q)))).1
    ·obtain⟨o,q,_⟩:=T.obj _ _ tu b hb;exact (I6.pin (b,o) (bG _ (bG _ (rW hb q)))).2.1
   | true =>
   have q6:te l6 (λd=>nF g tt te (xs.drop (i+1)) l6 (ds++[d]) P):=q6;show wpAny _ _ (eval elt _) _ _ s6;refine gS (he _ _ _ s6 σ6 H6 (λv H7=>∃d,nF g tt te (xs.drop (i+1)) l6 (ds++[d]) P/\ae H6 H7/\b_ X.K H7 d v/\Nw H6 H7 v) I6 ⟨l6,_,S6,q6,λd v H7 q7 s7 r7 n7=>⟨d,q7,s7,r7,n7⟩⟩) (λu7 s7 ⟨v7,H7,I7,rv7,d,q7,X5,r7,nw7⟩=>?_) λ_ _ z=>z.elim;obtain⟨e7,n7,_,_,_⟩:=I7.pin (s2.heap.objs.size,_) (bG _ (dL _ cF));have nu:its.toArray.size+1<=sizeLine:=by
    rw[aY,<-rv.length];lia
   refine uI F.slot_list_append ⟨_,e7,rfl⟩ F.entry_list_append (F.args_list_append_2 _ _) (GV s2.heap.objs.size its.toArray n u7 (by lia)) ⟨e7,?_⟩;have e8:=JJ e7 (λa=>a.push u7);have I8:Inv X' [] σ6 H7 s7:=I7.pins_of λp hp=>absurd hp (by simp);have A1:∀b o,b≠s2.heap.objs.size->s7.heap.get? b=some o->(s7.heap.update s2.heap.objs.size (eG λa=>a.push u7)).get? b=some o:=λb o hb q=>(cW s7.heap _ (Ne.symm hb)).trans q;have I9:Inv X' [] σ6 H7 { s7 with heap:=s7.heap.update s2.heap.objs.size (eG λa=>a.push u7) } :=
    I8.turned (t':=s7.toks) A1 n7 (bO ga) (.inr (bK _)) (λx c q z=>by
     obtain⟨v,hv⟩:=I2.cell x c (jq x c q);exact absurd hv.lt (by rw[z];exact gT _)) (λp hp=>absurd (show p∈([]:List (Addr × Obj)) from hp) (by simp))
   have k57:ag H5 H7:=k6.trans (.of X5);have k':ag H' H7:=(ag.of z5).trans k57;refine⟨xs.length-(i+1),by lia,i+1,l6,σ6,H7,ds++[d],vs++[v7],its++[u7],_,rfl,su,I9,S6.ext X5,?_,λb hb=>?_,n7,by simpa using e8,(rr.keep k').append (.cons r7 .nil),G.snoc (G.keep ((ag.of z5).trans k6) rn) X5 nw7,rv.append (.cons rv7 .nil),by rw[bJ];exact JG hl,q7⟩
   ·refine T.keep _ _ _ tu λb hb o q=>?_;have q7':=(I7.pin (b,o) (bG _ (bG _ (rW hb q)))).1;exact A1 b o (bO (c9 b hb)) q7'
   ·obtain⟨o,q,_⟩:=T.obj _ _ tu b hb;exact (I7.pin (b,o) (bG _ (bG _ (rW hb q)))).2.1
  ·have hie:i=xs.length:=(by lia);subst hie;rw[JB] at hD;refine ci (T.done X' rfl rfl rfl hc _ _ s' σ' H' E' I1 (u_ fr') du (o2 (bK _))) λr s4 ⟨hr,I4⟩=>?_;subst hr;obtain⟨e4,n4,_,_,_⟩:=I4.pin (s2.heap.objs.size,_) (bG _ cF);obtain⟨m4,hn4,_⟩:=I4.loc;have I5:Inv X pins σ H' s4:=I2.call' (ch:=fp) I4.os I4.base I4.hok I4.bare λb hb=>by
    obtain⟨f0,f1,f2,f3,f4,f5⟩:=hf b hb;exact⟨f3,f1,f4,f5⟩
   exact post ds vs its n wg.objs.size s4 H' hD S'.same n4 rr rn rv (eJ hl hz) e4 I5 ⟨m4,hn4⟩ ga I4.free
 exact codeAny_compStart_list (loop _ rfl) (T.self X.A 0 _ _ _ (T.keep _ _ _ st λb hb o e=>old b o e) (loop _ rfl))
end
def OB (X:Cx) (scope:Scope) (N:List Str) (k:Nat) (ix:List Nat):Bool :=
 scope.kind == .function && scope.names.all (λy=>y.2 != .cell) && scope.names.all (λy=>y.2 != .local || scope.names.lookup y.1 == some .local) &&
 scope.names.all (λy=>y.2 != .free || X.env.kindOf y.1 == some .cell || X.env.kindOf y.1 == some .free) &&
 N.length == k+ix.length && ((N.drop k).zip ix).all (λp=>X.N[p.2]? == some p.1 && scope.names.contains (p.1,.free)) &&
 (N.drop k).all (λy=>(relabel scope X.env).names.lookup y == some .cell || (relabel scope X.env).names.lookup y == some .free)
structure xl (X:Cx) (scope:Scope) (N:List Str) (k:Nat) (ix:List Nat):Prop where
 sc:kg X scope
 hN:N.length=k+(N.drop k).length
 hix:ix.length=(N.drop k).length
 hiy:∀(j:Nat) (y:Str) (i:Nat),(N.drop k)[j]? = some y->ix[j]? = some i->X.N[i]? = some y/\(y,iB)∈scope.names
 hkind:∀y∈N.drop k,(relabel scope X.env).names.lookup y=some .cell\/(relabel scope X.env).names.lookup y=some .free
def OC (h:OB X scope N k ix=true):xl X scope N k ix:=by
 unfold OB at h;simp only[iG,oE,bne_iff_ne,ne_eq,LY,beq_iff_eq] at h;obtain⟨⟨⟨⟨⟨⟨h1,h2⟩,h3⟩,h4⟩,h5⟩,h6⟩,h7⟩:=h;have hl:(N.drop k).length=ix.length:=by rw[mC];lia
 refine⟨⟨h1,h2,λy hy e=>?_,λy hy e=>?_⟩,by lia,hl.symm,λj y i e1 e2=>?_,h7⟩
 ·rcases h3 y hy with q | q
  ·exact absurd e q
  ·exact q
 ·rcases h4 y hy with (q | q) | q
  ·exact absurd e q
  ·exact .inl q
  ·exact .inr q
 ·have hm:(y,i)∈(N.drop k).zip ix:=by
   refine dM (i:=j) ?_;rw[uX];exact⟨e1,e2⟩
  obtain⟨q1,q2⟩:=h6 _ hm;exact⟨q1,List.contains_iff_mem.mp q2⟩
def pE (ti:RA) (k:Nat) (ix:List Nat) (g:RG) (te:RE):RA:=λa Q=>ti a λxs=>Sz xs.length/\wT g te xs (yJ a k ix) [] Q
def KR (ti:RA) (k:Nat) (ix:List Nat) (g:RG) (tt:RT) (te:RE):RA:=λa Q=>ti a λxs=>Sz xs.length/\nF g tt te xs (yJ a k ix) [] Q
def KS:KR ti k ix g Ix te=pE ti k ix g te:=by
 funext a Q;unfold KR pE;congr 1;funext xs;rw[TM]
section
variable {X:Cx} {scope:Scope} {elt target iter:Expr} {ifs:List Expr} {pos:Pos} {g:RG} {tt:RT} {te:RE} {ti:RA}
theorem BI {Z:St} {s s':aG} {C:Addr} (I2:Inv X pins Z H s) {Z':St} (I':Inv X pins Z' H' s') (hC:s.heap.objs.size<=C) (hn:H' C=none) (hs:qK C s'.heap h') :
  Inv X pins Z' H' { s' with heap:=h',toks:=t' } :=
 I'.turned (λb o hb e=>(hs.2 b hb).trans e) hn (kG (bQ I2.lt hC)) (.inr (eJ I2.sz hC)) (λx c e z=>by
  obtain⟨v,hv⟩:=I2.cell x c e;exact absurd (bQ hv.lt (by rw[z];exact hC)) (gT _)) λp hp z=>absurd (bQ (aX (I2.pin p hp).1) (by rw[z];exact hC)) (gT _)
theorem Kq (N:List Str) (k:Nat) (ix:List Nat) (hi:DI X target iter ti) (hg:∀cl C s H fp,DG (lF X scope N cl C s H fp) target g) (vo:∀cl C s H fp,Ji (lF X scope N cl C s H fp) ifs tt) (he:∀cl C s H fp,DE (lF X scope N cl C s H fp) elt te)
  (hc:X.calm=true:=by rfl) (hB:OB X scope N k ix=true:=by rfl) (hs:∀x,foldedSetIterable iter X.env x=pure x:=by intro _;rfl):DO X (.ListComp elt [⟨target,iter,ifs,0⟩] scope pos) (KR ti k ix g tt te):=by
 intro pins s Z H Q I aw;obtain⟨a,P,so,q,kk⟩:=aw;have F:=OC hB;obtain⟨cl,md,jq,cg⟩:=FU (scope:=scope) (env:=X.env) λy hy hf=>I.ok.has _ (F.sc.frees y hy hf);rw[SG];refine pJ (use:=none) rfl hs md F.sc.kind F.sc.locs (ci (hi pins s Z H (λJ H'=>∃xs,ae H H'/\ou X J xs H'/\xs.length<=sizeLine/\nF g tt te xs (yJ a k ix) [] P) I ⟨a,_,so,q,λxs J H' hx s1 ok=>⟨xs,s1,ok,hx.1.ok,hx.2⟩⟩) λv s1 h1=>ci h1 λzf s2 h2=>?_);obtain⟨it,fp,tn,J,H',rfl,I2,T,st,hf,xs,jz,ok,hz,hD⟩:=h2;refine JP (RR:=λacc C=>compPost (model X.prog X.w) X.A X.xe none (EP X pins Z Q) acc C) hc F.sc jq cg F.hN rfl F.hix F.hiy F.hkind (hg cl) (vo cl) YU (λC fp=>(he cl C _ _ fp).n) I2 (so.ext jz) T st hf ok.s hz hD ?_;intro ds vs its n C s' H2 hP xh hn rr _ rv hl e I' ⟨m,hns⟩ ga y9;refine⟨m,hns,λh' jx=>?_⟩;have I3:Inv X pins Z H2 { s' with heap:=h' }:=BI (t':=s'.toks) I2 I' (lO ga) y9 jx;have e3:h'.get? s2.heap.objs.size=some { cls:=.type "list",data:=.seq its.toArray n }:=(jx.2 _ (bO ga)).trans e;exact⟨.ref s2.heap.objs.size,_,I2.track I3 (bK _) hn e3 rv hl,rfl,kk ds _ vs H2 hP (jz.trans xh) hn rr⟩
theorem Kw {i:Nat} {y:Str} {pos' dw:Pos} (N:List Str) (k:Nat) (ix:List Nat) (hN:X.N.Nodup) (hi:X_ X target iter ti) (hg:∀cl C s H fp,DG (lF X scope N cl C s H fp) target g) (vo:∀cl C s H fp,Ji (lF X scope N cl C s H fp) ifs tt) (he:∀cl C s H fp,DE (lF X scope N cl C s H fp) elt te)
  (hy:X.N[i]? = some y:=by rfl) (hx:X.env.scope.names.lookup y=some .local:=by rfl) (hc:X.calm=true:=by rfl) (hB:OB X scope N k ix=true:=by rfl) (hs:∀x,foldedSetIterable iter X.env x=pure x:=by intro _;rfl)
  (nq:swapsWith (.ListComp elt [⟨target,iter,ifs,0⟩] scope pos) (some (.Name y pos')) dw.line X.env=pure true:=by rfl) :
  DS X (.Assign [.Name y pos'] (.ListComp elt [⟨target,iter,ifs,0⟩] scope pos) dw) (uS i (KR ti k ix g tt te)):=by
 intro pins s Z H De I aw;obtain⟨c,E,so,q,nn,rt,bk,ct⟩:=aw;have F:=OC hB;obtain⟨cl,md,jq,cg⟩:=FU (scope:=scope) (env:=X.env) λy hy hf=>I.ok.has _ (F.sc.frees y hy hf);rw[exec_Assign_Name_used _ _ _ _ nq];refine aA (EZ (aA ?_));show wpAny _ X.A (do let _ <-comprehension (.ListComp elt [⟨target,iter,ifs,0⟩] scope pos) scope X.env _ (newList []) false (eval iter X.env) (some (assign (.Name y pos') X.env))) _ _ s;refine aA (gS (pJ (use:=some (assign (.Name y pos') X.env)) (Q:=λ_ s'=>SP X pins De .next s') rfl hs md F.sc.kind F.sc.locs
  (ci (hi pins s Z H (λJ H'=>∃xs,ae H H'/\Ef X J xs H'/\xs.length<=sizeLine/\nF g tt te xs (yJ c k ix) [] (λds=>E.nx (c.set i (some (.own ds))))) I ⟨c,_,so,q,λxs J H' hx s1 ok=>⟨xs,s1,ok,hx.1.ok,hx.2⟩⟩) λv s1 h1=>ci h1 λzf s2 h2=>?_)) (λ_ s' hq=>aK (aK hq)) λ_ _ e=>e)
 obtain⟨it,fp,tn,J,H',rfl,I2,T,st,hf,xs,jz,ok,hz,hD⟩:=h2;refine JP (RR:=λacc C=>compPost (model X.prog X.w) X.A X.xe (some (assign (.Name y pos') X.env)) (λ_ s'=>SP X pins De .next s') acc C) hc F.sc jq cg F.hN rfl F.hix F.hiy F.hkind (hg cl) (vo cl) YU (λC fp=>(he cl C _ _ fp).n) I2 (so.ext jz) T st hf ok hz hD ?_;intro ds vs its n C s' H2 hP xh hn rr _ rv hl e I' ⟨m,hns⟩ ga y9;have I3:=I2.track I' (bK _) hn e rv hl;have T5:s2.heap.objs.size≠C:=bO ga;have ut:ao X (c.set i (some (.own ds))) (Z.set i (some (.ref s2.heap.objs.size))) (au H2 s2.heap.objs.size (.lst vs)):=(so.ext (jz.trans xh)).set_own hn rr;have k3:ag H (au H2 s2.heap.objs.size (.lst vs)):=(ag.of (jz.trans xh)).trans (.ofF λb o h=>by rw[cH (dG h hn)];exact h);show wpAny (model X.prog X.w) X.A (assign (.Name y pos') X.env (.ref s2.heap.objs.size)) _ _ s';refine IX (UR I3 hN hy (.inl hx) (v:=.ref s2.heap.objs.size) rfl (λs4 I4 ⟨a,sb,ha⟩=>?_) (.inr hx));have hCa:C≠a:=by
  rcases ha with rfl | ha
  ·exact kG (oH I2.lt ga)
  ·obtain⟨v,hv⟩:=I2.cell _ a ha;exact kG (oH hv.lt ga)
 refine⟨m,hns.sameBut sb hCa,λh' jx=>⟨_,_,BI (t':=s4.toks) I2 I4 (lO ga) (by rw[cH (Ne.symm T5)];exact y9) jx,nn _ _ _ hP k3 ut⟩⟩
theorem CP (N:List Str) (k:Nat) (ix:List Nat) (hi:DI X target iter ti) (hg:∀cl C s H fp,DG (lF X scope N cl C s H fp) target g) (he:∀cl C s H fp,DE (lF X scope N cl C s H fp) elt te)
  (hc:X.calm=true:=by rfl) (hB:OB X scope N k ix=true:=by rfl) (hs:∀x,foldedSetIterable iter X.env x=pure x:=by intro _;rfl):DO X (.ListComp elt [⟨target,iter,[],0⟩] scope pos) (pE ti k ix g te):=by
 rw[<-KS];exact Kq N k ix hi hg (λ_ _ _ _ _=>OS) he hc hB hs
theorem Fc {i:Nat} {y:Str} {pos' dw:Pos} (N:List Str) (k:Nat) (ix:List Nat) (hN:X.N.Nodup) (hi:DI X target iter ti) (hg:∀cl C s H fp,DG (lF X scope N cl C s H fp) target g) (he:∀cl C s H fp,DE (lF X scope N cl C s H fp) elt te)
  (hy:X.N[i]? = some y:=by rfl) (hx:X.env.scope.names.lookup y=some .local:=by rfl) (hc:X.calm=true:=by rfl) (hB:OB X scope N k ix=true:=by rfl) (hs:∀x,foldedSetIterable iter X.env x=pure x:=by intro _;rfl)
  (nq:swapsWith (.ListComp elt [⟨target,iter,[],0⟩] scope pos) (some (.Name y pos')) dw.line X.env=pure true:=by rfl) :
  DS X (.Assign [.Name y pos'] (.ListComp elt [⟨target,iter,[],0⟩] scope pos) dw) (uS i (pE ti k ix g te)):=by
 rw[<-KS];exact Kw N k ix hN hi.s hg (λ_ _ _ _ _=>OS) he hy hx hc hB hs nq
def riO (i:Nat):RA:=λa Q=>match a[i]? with
 | some (some (.own ds))=>Q ds
 | _=>False
end
section
variable {X:Cx} {e a b:Expr} {pos apos cpos cf:Pos} {te:RE} {x:Str}
def EL (i:Nat) (te:RE):RS:=λE c=>match c[i]? with
 | some (some (.own xs))=>te c λd=>Sz (xs.length+1)/\E.nx (c.set i (some (.own (xs++[d]))))
 | _=>False
theorem wW (i:Nat) (he:DE X e te) (hN:X.N[i]? = some x:=by rfl) (hv:kn X.env.scope x:=by walk_at "vis") (hd:(x == ("__debug__":Str))=false:=by decide) (g_:(x == ("__classdict__":Str))=false:=by decide)
  (dm:attributeBase (.Name x cf) "append" X.env (eval (.Name x cf) X.env)=eval (.Name x cf) X.env:=by rfl)
  (kz:((backTo cpos (starEach [e] X.env)).all (λx=>!x.1) && (backToKw cpos (keywordEach [] X.env)).all (λx=>x.1.isSome) && decide (([e]:List Expr).length+([]:List pM).length+(if ([]:List pM).isEmpty then 0 else 1)<30))=true:=by rfl)
  (dq:(apos.endLine == cpos.line)=true:=by rfl) (hs:starEach [e] X.env=[(false,eval e X.env)]:=by rfl) (hn:starEach [] X.env=[]:=by rfl) (nq:swapsWith (.Call (.Attribute (.Name x cf) "append" apos) [e] [] cpos) none pos.line X.env=pure false:=by rfl) :
  DS X (.Expr (.Call (.Attribute (.Name x cf) "append" apos) [e] [] cpos) pos) (EL i te):=by
 refine PS.mono (IF (ZX iK wA wB UB (pv i hN hv hd g_) (qX he hs hn) dm kz dq (by rw[hs,hn]) (by rw[hn];rfl)) nq) λDe Z H hh=>oX hh λc E so q n r bk ct=>?_;unfold EL at q;split at q
 ·rename_i xs ex;obtain⟨v,h1,p,vs,ev,hp,h0,rr⟩:=so.rel i _ ex;subst ev;refine⟨.ref p,h1,.inl ⟨rfl,vs,f8.of hp⟩,c,_,so,q,λd v H1 hd s1 rd=>?_⟩;have nj:=s1.get _ _ hp trivial;obtain⟨gg,k2⟩:=(so.ext s1).upd_own ex h1 nj h0 ((rr.keep (.of s1)).append (.cons rd .nil));have nu:xs.length+1<=sizeLine:=hd.1.ok;exact⟨p,vs,v,rfl,rfl,nj,by rw[<-rr.length];lia,n _ _ _ hd.2 ((ag.of s1).trans k2) gg⟩
 ·exact q.elim
def Ga (i:Nat):RS:=λE c=>match c[i]? with
 | some (some (.own xs))=>xs≠[]/\E.nx (c.set i (some (.own xs.dropLast)))
 | _=>False
theorem Uq (i:Nat) (hN:X.N[i]? = some x:=by rfl) (hv:kn X.env.scope x:=by walk_at "vis") (hd:(x == ("__debug__":Str))=false:=by decide) (g_:(x == ("__classdict__":Str))=false:=by decide)
  (dm:attributeBase (.Name x cf) "pop" X.env (eval (.Name x cf) X.env)=eval (.Name x cf) X.env:=by rfl)
  (dq:(apos.endLine == cpos.line)=true:=by rfl) (nq:swapsWith (.Call (.Attribute (.Name x cf) "pop" apos) [] [] cpos) none pos.line X.env=pure false:=by rfl) :
  DS X (.Expr (.Call (.Attribute (.Name x cf) "pop" apos) [] [] cpos) pos) (Ga i):=by
 refine PS.mono (IF (Ms iK PySem.F.slot_list_pop PySem.F.type_list_pop Vq (pv i hN hv hd g_) dm dq) nq) λDe Z H hh=>oX hh λc E so q n r bk ct=>?_;unfold Ga at q;split at q
 ·rename_i xs ex;obtain⟨v,h1,p,vs,ev,hp,h0,rr⟩:=so.rel i _ ex;subst ev;have hl:=rr.length;have gz:0<xs.length:=oW.mpr q.1;have hg:vs[vs.length-1]? = some (vs[vs.length-1]'(by lia)):=aD _;obtain⟨gg,k2⟩:=so.upd_own ex h1 hp h0 rr.dropLast;exact⟨.ref p,h1,.inl ⟨rfl,vs,f8.of hp⟩,p,vs,_,rfl,rfl,hp,hg,n _ _ _ q.2 k2 gg⟩
 ·exact q.elim
def Wt (i:Nat) (te tk:RE):RS:=λE c=>match c[i]? with
 | some (some (.own xs))=>te c λd=>tk c λkd=>match kd with
  | .int k=>match me xs.length k with
   | some j=>E.nx (c.set i (some (.own (xs.set j d))))
   | none=>False
  | _=>False
 | _=>False
end
section
variable {X:Cx} {e a b:Expr} {pos p:Pos}
theorem Rf:jv X (binaryOp .Add) (λx y H Q=>∃l b xs zs,x = .ref l/\y = .ref b/\f8 X.K H l xs/\f8 X.K H b zs/\xs.length+zs.length<=sizeLine/\∀p,H p=none->Q (.ref p) (au H p (.lst (xs++zs)))):=by
 intro pins s Z H x y v u Q I rx ry h;obtain⟨l,b,xs,zs,rfl,rfl,hH,hB,hz,q⟩:=h;cases rx;cases ry;obtain⟨its,r,⟨o,n,e,hc,hd,hs⟩,hl⟩:=I.list hH;obtain⟨dh,r2,⟨o2,n2,e2,qe,hd2,oi⟩,M8⟩:=I.list hB;obtain⟨c,d,dt,sl⟩:=o;obtain⟨c2,d2,dt2,pf⟩:=o2;dsimp only at hc hs hd qe oi hd2;subst hc hs hd qe oi hd2;have w5:=r.length;have M8:=r2.length;refine HF (T:="list") (id:="list.__add__") ⟨_,e,rfl⟩ ⟨_,e2,rfl⟩ (by kernel_rfl) (by kernel_rfl) PySem.F.slot_list_add PySem.F.entry_list_add (PySem.F.args_list_add_2 _ _)
  (list_addW l b its.toArray dh.toArray n n2 none none sl pf (by rw[aY,aY];lia)) ⟨e,e2,?_⟩
 have ea:its.toArray++dh.toArray=(its++dh).toArray:=by simp
 rw[ea];exact⟨.ref _,_,I.lnew (t':=s.toks) (r.append r2) (by rw[bJ];lia),rfl,q _ I.fresh⟩
def O9 (X:Cx) (Q:VK):VK:=λv H'=>Q v H'\/∃p vs H1,v = .ref p/\H'=au H1 p (.lst vs)/\H1 p=none/\∀H2,ae H1 H2->jj X.K H2 p vs->Q v H2
theorem Sy {s:aG} (h:EP X pins Z (O9 X Q) u s):EP X pins Z Q u s:=by
 obtain⟨v,H',I,rv,q | ⟨p,vs,H1,rfl,rfl,hn,q⟩⟩:=h
 ·exact⟨v,H',I,rv,q⟩
 ·obtain⟨o,I2⟩:=Inv.freeze I (a:=p) (xs:=vs) eB;exact⟨.ref p,_,I2,rv,q _ (.fn λb u e=>by rw[cH (dG e hn),cH (dG e hn)];exact e) (.inl ⟨o,eB⟩)⟩
theorem PE.frz (h:PE X e t):PE X e (λZ H Q=>t Z H (O9 X Q)):=λpins s Z H Q I q=>ci (h pins s Z H _ I q) λ_ _=>Sy
theorem jv.frz (h:jv X f r):jv X f (λx y H Q=>r x y H (O9 X Q)):=λpins s Z H x y v u Q I rx ry q=>ci (h pins s Z H x y v u _ I rx ry q) λ_ _=>Sy
def OM:R22:=λx y Q=>match x,y with
 | .int i,.int j=>Q (.int (i+j))
 | .lst xs,.lst ys=>Sz (xs.length+ys.length)/\Q (.lst (xs++ys))
 | .tup xs,.tup ys=>xs≠[]/\Sz (xs.length+ys.length)/\Q (.tup (xs++ys))
 | _,_=>False
theorem upd_new {p:Addr} (hp:H p=none):ae H (au H p o):=ae.fn λb u e=>by rw[cH (dG e hp)];exact e
theorem WL:jn X (binaryOp .Add) OM:=by
 intro pins s Z H x y v u Q I rx ry aw;obtain⟨d,e,P,r1,r2,q,k⟩:=aw;unfold OM at q;split at q
 ·exact hE pins s Z H x y v u Q I rx ry ⟨_,_,P,r1,r2,q,k⟩
 ·rename_i xs ys;obtain⟨a,vs,rfl,ha,ra⟩:=r1.lst;obtain⟨b,ws,rfl,hb,rb⟩:=r2.lst;have nu:xs.length+ys.length<=sizeLine:=q.1.ok;refine jv.frz Rf pins s Z H _ _ v u Q I rx ry ⟨a,b,vs,ws,rfl,rfl,ha,hb,by rw[<-ra.length,<-rb.length];exact nu,λp hp=>.inr ⟨p,_,H,rfl,rfl,hp,λH2 s2 fz=>k _ _ H2 q.2 s2 (.lst fz ((ra.append rb).keep (.of s2)))⟩⟩
 ·rename_i xs ys;obtain⟨a,vs,rfl,ha,ra⟩:=r1.tup;obtain⟨b,ws,rfl,hb,rb⟩:=r2.tup;have nu:xs.length+ys.length<=sizeLine:=q.2.1.ok;have hl:=ra.length;refine Rg pins s Z H _ _ v u Q I rx ry ⟨a,b,vs,ws,rfl,rfl,di.of ha,di.of hb,λz=>q.1 (mD.mp (by rw[hl,z];rfl)),by rw[<-ra.length,<-rb.length];exact nu,λz=>?_,λz p hp=>?_⟩
  ·subst z;cases rb;have:=k _ (.ref a) H q.2.2 (ae.refl H);rw[dN] at this;exact this (.tup ha ra)
  ·exact k _ _ _ q.2.2 (upd_new hp) (.tup eB ((ra.append rb).keep (.of (upd_new hp))))
 ·exact q.elim
def Nr (te:RE) (tl th:RO):RE:=λc Q=>te c λx=>tl c λl=>th c λu=>match x with
 | .lst ds=>Q (.lst (cutD ds l u))
 | .tup ds=>¬(HT.sIx ds.length 0 l=0/\HT.sIx ds.length ds.length u=ds.length)/\Q (.tup (cutD ds l u))
 | _=>False
theorem XX {K:aI} {H:Hp} {ds:List D} {vs:List V} (l u:Option Int) (rr:af K H ds vs):af K H (cutD ds l u) (SC vs l u):=by
 unfold cutD SC;rw[<-rr.length];exact (rr.drop _).take _
theorem OR {lo hi:Option Expr} (he:DB X e te) (hl:DP X lo tl) (hu:DP X hi th):DE X (.Subscript e (.Slice lo hi none p2) pos) (Nr te tl th):=by
 refine PE.mono (PE.frz (ZY (Ge.or Xa) he hl hu)) λZ H Q hh=>iM hh λc P st q k=>?_;refine⟨c,_,st,q,λd v H1 hd s1 r1=>⟨c,_,st.ext s1,hd,λl H2 h2 s2=>⟨c,_,(st.ext s1).ext s2,h2,λu H3 h3 s3=>?_⟩⟩⟩;have s03:=(s1.trans s2).trans s3;cases d with
 | lst ds =>
  obtain⟨p,vs,rfl,hq,rr⟩:=(r1.same (s2.trans s3)).lst;exact .inl ⟨p,vs,rfl,hq,λp' ke=>.inr ⟨p',_,H3,rfl,rfl,ke,λH4 s4 fz=>k _ _ H4 h3 (s03.trans s4) (.lst fz ((XX l u rr).keep (.of s4)))⟩⟩
 | tup ds =>
  obtain⟨p,vs,rfl,hq,rr⟩:=(r1.same (s2.trans s3)).tup;refine .inr ⟨p,vs,rfl,di.of hq,by rw[<-rr.length];exact h3.1,λp' ke=>.inl ?_⟩;exact k _ _ _ h3.2 (s03.trans (upd_new ke)) (.tup eB ((XX l u rr).keep (.of (upd_new ke))))
 | _=>exact h3.elim
def HG:D->(D->Prop)->Prop:=λd Q=>match d with
 | .lst ds=>Q (.lst ds)
 | .tup ds=>Q (.lst ds)
 | _=>False
theorem boot_list:bootBuiltins "list" = some (.type "list"):=by decide +kernel
theorem boot_tuple:bootBuiltins "tuple" = some (.type "tuple"):=by decide +kernel
theorem Ha (hm:X.mg "list" = none) (h:DB X e te) (hg:Gl X "list":=by rfl) (hs:starEach [e] X.env=[(false,eval e X.env)]:=by rfl) (hn:starEach [] X.env=[]:=by rfl):DE X (.Call (.Name "list" p) [e] [] pos) (r1 HG te):=by
 refine PE.mono (PE.frz (KM VG hg hm boot_list (qX h hs hn) (by decide) (by decide) (by rw[hs,hn]) (by rw[hn];rfl))) λZ H Q hh=>iM hh λc P st q k=>⟨c,_,st,q,λd v H1 hd s1 r=>?_⟩;unfold HG at hd;split at hd
 ·obtain⟨p,vs,rfl,hq,rr⟩:=r.lst;exact⟨p,vs,rfl,.inl hq,λp' ke=>.inr ⟨p',_,H1,rfl,rfl,ke,λH4 s4 fz=>k _ _ H4 hd (s1.trans s4) (.lst fz (rr.keep (.of s4)))⟩⟩
 ·obtain⟨p,vs,rfl,hq,rr⟩:=r.tup;exact⟨p,vs,rfl,.inr (di.of hq),λp' ke=>.inr ⟨p',_,H1,rfl,rfl,ke,λH4 s4 fz=>k _ _ H4 hd (s1.trans s4) (.lst fz (rr.keep (.of s4)))⟩⟩
 ·exact hd.elim
def OO:D->(D->Prop)->Prop:=λd Q=>match d with
 | .lst ds=>Q (.tup ds)
 | .tup ds=>Q (.tup ds)
 | _=>False
theorem YE (hm:X.mg "tuple" = none) (h:DB X e te) (hg:Gl X "tuple":=by rfl) (hs:starEach [e] X.env=[(false,eval e X.env)]:=by rfl) (hn:starEach [] X.env=[]:=by rfl):DE X (.Call (.Name "tuple" p) [e] [] pos) (r1 OO te):=by
 refine PE.mono (KM SB hg hm boot_tuple (qX h hs hn) (by decide) (by decide) (by rw[hs,hn]) (by rw[hn];rfl)) λZ H Q hh=>iM hh λc P st q k=>⟨c,_,st,q,λd v H1 hd s1 r=>?_⟩;unfold OO at hd;split at hd
 ·obtain⟨p,vs,rfl,hq,rr⟩:=r.lst;exact⟨p,vs,rfl,.inl ⟨hq,λp' ke=>k _ _ _ hd (s1.trans (upd_new ke)) (.tup eB (rr.keep (.of (upd_new ke))))⟩⟩
 ·obtain⟨p,vs,rfl,hq,rr⟩:=r.tup;exact⟨p,vs,rfl,.inr ⟨di.of hq,k _ _ H1 hd s1 (.tup hq rr)⟩⟩
 ·exact hd.elim
def C9:D->(D->Prop)->Prop:=λd Q=>match d with
 | .lst ds=>∃ns:List Int,ds=ns.map D.int/\Q (.int ns.sum)
 | _=>False
def Z':D->(D->Prop)->Prop:=λd Q=>match d with
 | .lst ds=>∃ns:List Int,ds=ns.map D.int/\ns≠[]/\∀M,M∈ns->(∀a∈ns,a<=M)->Q (.int M)
 | _=>False
def dMinL:D->(D->Prop)->Prop:=λd Q=>match d with
 | .lst ds=>∃ns:List Int,ds=ns.map D.int/\ns≠[]/\∀M,M∈ns->(∀a∈ns,M<=a)->Q (.int M)
 | _=>False
theorem boot_min:bootBuiltins "min" = some (.builtin "min"):=by decide +kernel
end
section
variable {te:RE}
def Zw (te:RE):RA:=λa Q=>te a λd=>match d with
 | .lst ds=>Q ds.reverse
 | _=>False
theorem boot_reversed:bootBuiltins "reversed" = some (.type "reversed"):=by decide +kernel
end
abbrev Fj (c:String) (l:Addr):Obj:={ cls:=.type c,data:=.fields #[.ref l,.int 0 0] }
section
variable {prog:bR} {w:cT} {A:cZ} {E:aB->aG->Prop} {s:aG}
theorem YO {R:Result->aG->Prop} {S I:Addr} {n:Nat} {J F:List aB->Heap->Prop} {s0:aG} (res:aB) (hn:n<=sizeLine)
  (stay:∀acc h h',J acc h->(∃o,h.get? S=some o/\o.cls = .type "list")->h'.objs.size=h.objs.size->(∀b o,b≠S->h.get? b=some o->h'.get? b=some o)->J acc h')
  (item:∀acc (s:aG) (o:Obj) (Q:Option aB->aG->Prop) (E:aB->aG->Prop),acc.length<n->J acc s.heap->s.heap.get? S=some o->(∀v h',J (acc++[v]) h'->h'.get? S=some o->Q (some v) { s with heap:=h' })->wpAny (model prog w) A.in1 (pyNext (.ref I)) Q E s)
  (done:∀acc (s:aG) (o:Obj) (Q:Option aB->aG->Prop) (E:aB->aG->Prop),acc.length=n->J acc s.heap->s.heap.get? S=some o->(∀h',F acc h'->h'.get? S=some o->Q none { s with heap:=h' })->wpAny (model prog w) A.in1 (pyNext (.ref I)) Q E s)
  (hR:∀h' acc c,acc.size=n->F acc.toList h'->h'.get? S=some { cls:=.type "list",dict:=none,data:=.seq acc c,slots:=#[] }->R (.ok (.ret res)) { s0 with heap:=h' }) :
  ∀(k:Nat) (acc:Array aB) (h:Heap) (c:Nat),k=n-acc.size->acc.size<=n->J acc.toList h->h.get? S=some { cls:=.type "list",dict:=none,data:=.seq acc c,slots:=#[] } ->
   codeAny (model prog w) A (.builtin "list.extend.loop" ⟨[.ref S,.ref I,res],[]⟩) R { s0 with heap:=h }:=by
 intro k
 induction k with
 | zero =>
  intro acc h c hk hle hJ hS;refine fO uZ ?_;rw[eU jH _];show wpAny _ A.in1 (pyNext (.ref I) >>= _) _ _ _;apply aA;refine done acc.toList { s0 with heap:=h } _ _ _ (by simp;lia) hJ hS λh' hF kr=>?_;exact aK (hR h' acc c (by lia) hF kr)
 | succ k ih =>
  intro acc h c hk hle hJ hS;refine fO uZ ?_;rw[eU jH _];show wpAny _ A.in1 (pyNext (.ref I) >>= _) _ _ _;apply aA;refine item acc.toList { s0 with heap:=h } _ _ _ (by simp;lia) hJ hS λv h' hJ' kr=>?_;show wpAny _ A.in1 (updateSeq S (·.push v) >>= _) _ _ _;have oi:acc.size<n:=by lia
  have e1:(acc.push v).size=acc.size+1:=Array.size_push ..;apply aA;refine jX kr rfl ?_ (by lia) (by show (acc.push v).size<=sizeLine+1;lia);apply aK;refine⟨iU jH _,?_⟩;refine ih (acc.push v) _ _ (by lia) (by lia) (stay _ _ _ (by simpa using hJ') ⟨_,kr,rfl⟩ (lX ..).1 λb o hb e=>(cW _ _ (Ne.symm hb)).trans e) (fK _ kr rfl)
end
section
variable {σ:St}
theorem _root_.L2.Inv.trackO {s s':aG} {a:Addr} (I:Inv X pins σ H s) (I':Inv X pins σ H' s') (ha:s.heap.objs.size<=a) (hn:H' a=none) (new:bi X.prog X.w (au H' a w) s'.heap a w):Inv X pins σ (au H' a w) s':=by
 have nL:X.env.locals≠a:=bO (bQ I.lt ha);have nC:∀x c,X.env.cells.lookup x=some c->c≠a:=λx c q z=>by
  obtain⟨v,hv⟩:=I.cell x c q;exact absurd (bQ hv.lt (by rw[z];exact ha)) (gT _)
 have n0:∀{b:Addr} {o:Obj},X.s₀.heap.get? b=some o->b≠a:=λ{b o} q=>bO (bQ (aX q) (eJ I.sz ha));refine⟨I'.ok,I'.os,I'.bare,⟨I'.base.keep,I'.base.slot,λb o q n hx=>by rw[cH (n0 q)];exact I'.base.free b o q n hx,I'.base.there,λb ys q=>by rw[cH (dG (I'.base.tups b ys q) hn)];exact I'.base.tups b ys q,λb o u q=>by rw[cH (dG (I'.base.frzs b o u q) hn)];exact I'.base.frzs b o u q,λb ps q=>?_⟩,I'.loc,I'.cell,by rw[cH nL];exact I'.free,λx c q=>by rw[cH (nC x c q)];exact I'.freeC x c q,λp hp=>?_,λb u q=>?_,I'.len⟩
 ·obtain⟨m,q2⟩:=I'.base.tbls b ps q;exact⟨m,by rw[cH (dG q2 hn)];exact q2⟩
 ·obtain⟨q1,q2,q3,q4,q5⟩:=I'.pin p hp;have nj:p.1≠a:=bO (bQ (aX (I.pin p hp).1) ha);exact⟨q1,by rw[cH nj];exact q2,q3,q4,q5⟩
 ·by_cases hb:b=a
  ·subst hb;rw[eB] at q;cases q;exact new
  ·rw[cH hb] at q;exact (I'.hok b u q).stay (λc v _ w=>w) (λc w=>by rw[cH (dG w hn)];exact w) λc ys w=>by rw[cH (dG w hn)];exact w
end
def Wz:D->Option (List D)
 | .lst xs=>some xs
 | .tup xs=>some xs
 | _=>none
def F5 (ta tb:RE):RA:=λc Q=>ta c λx=>tb c λy=>∃xs ys,Wz x=some xs/\Wz y=some ys/\xs.length=ys.length/\Q (xs.zipWith (λa b=>D.tup [a,b]) ys)
def boot_zip:bootBuiltins "zip" = some (.type "zip"):=by decide +kernel
def Itz (K:aI) (l m:Addr):It :=
 ⟨λi H=>∃xs ys x y,f8 K H l xs/\f8 K H m ys/\xs[i]? = some x/\ys[i]? = some y,λi H x H'=>∃p a b,H p=none/\x = .ref p/\H'=au H p (.tup [a,b])/\(∀xs,f8 K H l xs->xs[i]? = some a)/\∀ys,f8 K H m ys->ys[i]? = some b,
  λi H=>∃xs ys,f8 K H l xs/\f8 K H m ys/\(xs.length<=i\/ys.length<=i)⟩
def ZSt (z TI TO i1 i2 l m:Addr) (i:Nat) (h:Heap):Prop:=IsZip h z TI TO .none/\IsPair h TI (.ref i1) (.ref i2)/\(∃a b,IsPair h TO a b)/\h.IsListIter i1 l i/\h.IsListIter i2 m i
def Oj {P:bR} {w:cT} {K:aI} {elts:List Expr} {k:Nat} {pos:Pos} (z TI TO i1 i2 l m:Addr) (D:ZipApart z TI TO i1 i2 l m) :
  o0 P w K (.Tuple elts k pos) (Itz K l m) [z,TI,TO,i1,i2] z (ZSt z TI TO i1 i2 l m) where
 mem:=by simp
 obj:=λi h st b hb=>by
  obtain⟨hz,hI,⟨a,c,hO⟩,⟨o1,e1,c1,d1⟩,o2,e2,c2,d2⟩:=st;simp only[aJ,cY,or_false] at hb;rcases hb with rfl | rfl | rfl | rfl | rfl
  ·exact⟨_,hz,λv z=>by cases z⟩
  ·exact⟨_,hI,λv z=>by cases z⟩
  ·exact⟨_,hO,λv z=>by cases z⟩
  ·exact⟨o1,e1,λv z=>by rw[d1] at z;cases z⟩
  ·exact⟨o2,e2,λv z=>by rw[d2] at z;cases z⟩
 keep:=λi h h' st kk=>by
  obtain⟨hz,hI,⟨a,c,hO⟩,h1,h2⟩:=st;exact⟨kk z (by simp) _ hz,kk TI (by simp) _ hI,⟨a,c,kk TO (by simp) _ hO⟩,h1.at λo x=>kk i1 (by simp) o x,h2.at λo x=>kk i2 (by simp) o x⟩
 item:=by
  intro X hP hw hK hc i pins s Z H E I hf st hg;subst hP hw hK;obtain⟨xs,ys,x,y,hq,hr,hx,hy⟩:=hg;obtain⟨its,rv,p,hzl⟩:=I.list hq;obtain⟨uk,jl,p',zc⟩:=I.list hr;obtain⟨u,hu,ru⟩:=rv.get hx;obtain⟨u',xa,ru'⟩:=jl.get hy;have W:=WalksT.zip2 (prog:=X.prog) (w:=X.w) (A:=X.A) (I.ok.hd hc) z TI TO i1 i2 l m D its.toArray uk.toArray;have c9:i<min its.toArray.size uk.toArray.size:=by
   have a1:=(bC.mp hu).1;have a2:=(bC.mp xa).1;simp;lia
  obtain⟨g1,g2,g3,g4,g5⟩:=id st;refine W.item i s _ _ c9 ⟨g1,g2,g3,g4,g5,p.isList,p'.isList⟩ λT vals h1 tk hv hT ht hm kk=>?_;obtain⟨v1,v2,e1,e2,rfl⟩:=hv;have q1:v1=u:=by
   have:its.toArray[i]? = some u:=(by simpa using hu);rw[e1] at this;exact dO this
  have q2:v2=u':=by
   have:uk.toArray[i]? = some u':=(by simpa using xa);rw[e2] at this;exact dO this
  subst q1 q2;refine⟨_,rfl,?_⟩;have sub:∀{b:Addr},b ∉ [z,TI,TO,i1,i2]->b ∉ [z,TO,i1,i2]:=λh h'=>h (by simp at h' ⊢;rcases h' with a | a | a | a <;> simp[a]);have I1:Inv X pins Z (au H T (.tup [x,y])) { s with heap:=h1,toks:=tk } :=
   I.turnedT (its:=[v1,v2]) (ch:=[z,TI,TO,i1,i2]) (λb o hb e=>kk b o (sub hb) e) hf hT (by simpa using ht) (.cons ru (.cons ru' .nil)) (by show 2<=sizeLine;decide)
  have hn:H T=none:=I.hok.fresh hT;refine W.go elts k pos i T _ _ _ hm λh2 wd V8=>?_;have hf1:∀b∈[z,TI,TO,i1,i2],IZ X pins (au H T (.tup [x,y])) b:=λb hb=>by
   obtain⟨f0,f1⟩:=hf b hb;have:∃o,s.heap.get? b=some o:=by
    obtain⟨hz,hI,⟨a,c,hO⟩,⟨o1,w1,c1,d1⟩,o2,w2,c2,d2⟩:=st;simp only[aJ,cY,or_false] at hb;rcases hb with rfl | rfl | rfl | rfl | rfl
    ·exact⟨_,hz⟩
    ·exact⟨_,hI⟩
    ·exact⟨_,hO⟩
    ·exact⟨_,w1⟩
    ·exact⟨_,w2⟩
   obtain⟨o,ho⟩:=this;exact⟨by rw[cH (bO (bQ (aX ho) hT))];exact f0,f1⟩
  refine⟨.ref T,_,I1.turnedL (ch:=[z,TI,TO,i1,i2]) (t':=tk) (λb o hb e=>V8 b o (sub hb) e) hf1,rfl,⟨T,x,y,hn,rfl,rfl,λys' h'=>by rw[I.list_inj h' hq];exact hx,λys' h'=>by rw[I.list_inj h' hr];exact hy⟩,⟨wd.1,wd.2.1,wd.2.2.1,wd.2.2.2.1,wd.2.2.2.2.1⟩,λb hb=>(hf1 b hb).1⟩
 done:=by
  intro X hP hw hK hc i pins s Z H E I hf st hg;subst hP hw hK;obtain⟨xs,ys,hq,hr,hx⟩:=hg;obtain⟨its,rv,p,hzl⟩:=I.list hq;obtain⟨uk,jl,p',zc⟩:=I.list hr;obtain⟨g1,g2,⟨a,b,g3⟩,g4,g5⟩:=st;have l1:=rv.length;have l2:=jl.length;refine wpAny_pyNext_zip_end (I.ok.hd hc) D g1 g2 g3 g4 g5 p.isList p'.isList ?_ λh1 kk=>⟨rfl,I.turnedL (ch:=[z,TI,TO,i1,i2]) (t':=s.toks) (λb o hb q=>kk b o (λe=>hb (by simp[e])) (λe=>hb (by simp[e])) (λe=>hb (by simp[e])) (λe=>hb (by simp[e])) q) hf⟩;rcases hx with hx | hx
  ·exact .inl (by rw[zY];exact lB (by lia))
  ·exact .inr (by rw[zY];exact lB (by lia))
 self:=λ_ _ _ _ _ st h=>LC st.1 h
section
variable {a b:Expr} {ta tb:RE}
def Zx (ta tb:RE):RA:=λc Q=>ta c λx=>tb c λy=>match x,y with
 | .lst xs,.lst ys=>Q (xs.zipWith (λa b=>D.tup [a,b]) ys)
 | _,_=>False
end
section
variable {prog:bR} {w:cT} {A:cZ} {E:aB->aG->Prop} {s:aG}
theorem Hw {I S:Addr} {fp:List Addr} {St:Nat->Heap->Prop} {items:Array aB} {bt:Nat->Nat->Bool} {G:Heap->Prop} {R:Result->aG->Prop} (W:Walks prog w A.in1 I fp [I] items.size (λi v=>items[i]? = some v) St) (sf:S≠I) (hSf:S ∉ fp)
  (cmp:∀(i j:Nat) (u v:aB) (s:aG) (Q:aB->aG->Prop) (E:aB->aG->Prop),items[i]? = some u->items[j]? = some v->G s.heap->Q (.bool (bt i j)) s->wpAny (model prog w) A.in1 (richCompare .Lt u v) Q E s)
  (gs:∀h h',G h->(∀b o,b≠I->b≠S->h.get? b=some o->h'.get? b=some o)->G h') :
  ∀(k j:Nat) (s:aG) (vb:aB) (c:Nat),items.size-(j+1)=k->j+1<=items.size->St (j+1) s.heap->items[argBest bt j]? = some vb->G s.heap ->
   s.heap.get? S=some { cls:=.type "list",dict:=none,data:=.seq #[vb,vb] c,slots:=#[] } ->
   (∀v h' tk,items[argBest bt (items.size-1)]? = some v->(∀b o,b≠I->b≠S->s.heap.get? b=some o->h'.get? b=some o)->R (.ok (.ret v)) { s with heap:=h',toks:=tk }) ->
   codeAny (model prog w) A (.builtin "min.loop" ⟨[.ref I,.none,.ref S],[]⟩) R s:=by
 have nm:(toString "min" ++ toString ".loop":String) = "min.loop":=by decide
 have wr:∀{b:Addr},b≠I->b ∉ [I]:=λh=>by simpa using h
 intro k
 induction k with
 | zero =>
  intro j s vb c hk hj hi hb hG hS q;refine fO F.entry_min_loop ?_;rw[eU F.plain_min_loop _];show wpAny _ A.in1 (seqItems? (.ref S) >>= _) _ _ s;apply aA;apply oC hS rfl;show wpAny _ A.in1 (tryCatch (pyNext (.ref I)) _ >>= _) _ _ s;apply aA;apply uV;refine W.done s _ _ (by rw[show items.size=j+1 by lia];exact hi) λh' tk kp=>?_;have kr:=kp S _ (wr sf) hS;show wpAny _ A.in1 (updateSeq S (λ_=>#[]) >>= _) _ _ _;apply aA;refine jX kr rfl ?_;apply aA;apply vQ;apply aK;exact q vb _ tk (by rw[show items.size-1=j by lia];exact hb) λb o b1 b2 e=>(cW _ _ (Ne.symm b2)).trans (kp b o (wr b1) e)
 | succ k ih =>
  intro j s vb c hk hj hi hb hG hS q;refine fO F.entry_min_loop ?_;rw[eU F.plain_min_loop _];show wpAny _ A.in1 (seqItems? (.ref S) >>= _) _ _ s;apply aA;apply oC hS rfl;show wpAny _ A.in1 (tryCatch (pyNext (.ref I)) _ >>= _) _ _ s;apply aA;apply uV;refine W.item (j+1) s _ _ (by lia) hi λv h' tk hv du kp=>?_;have kr:=kp S _ (wr sf) hS;have Q7:G h':=gs _ _ hG λb o b1 _ e=>kp b o (wr b1) e;show wpAny _ A.in1 (tryCatch (holding [v,v] (richCompare .Lt v vb >>= _)) _ >>= _) _ _ _;apply aA;apply uV;apply fN;apply aA;refine cmp (j+1) (argBest bt j) v vb _ _ _ hv hb Q7 ?_;apply aA;apply fN;apply nM;apply aA;apply vQ;apply aK;cases hbt:bt (j+1) (argBest bt j) with
  | true =>
   simp only[if_true];apply aA;refine jX kr rfl ?_;apply aA;apply vQ;rw[nm];apply aK;have up:∀b o,b≠S->h'.get? b=some o->(h'.update S (eG λ_=>#[v,v])).get? b=some o:=λb o b2 e=>(cW _ _ (Ne.symm b2)).trans e;refine⟨iU F.plain_min_loop _,ih (j+1) _ v _ (by lia) (by lia) (W.frame _ _ _ du λb hb o e=>up b o (by rintro rfl;exact hSf hb) e) (by simp only[argBest,hbt,if_true];exact hv) (gs _ _ Q7 λb o _ b2 e=>up b o b2 e) (fK _ kr rfl) λv' ym qq e kk=>?_⟩;exact q v' ym qq e λb o b1 b2 e=>kk b o b1 b2 (up b o b2 (kp b o (wr b1) e))
  | false =>
   simp only[aN,if_false];apply aA;apply vQ;rw[nm];apply aK;refine⟨iU F.plain_min_loop _,ih (j+1) _ vb c (by lia) (by lia) du (by simp only[argBest,hbt,aN,if_false];exact hb) Q7 kr λv' ym qq e kk=>?_⟩;exact q v' ym qq e λb o b1 b2 e=>kk b o b1 b2 (kp b o (wr b1) e)
theorem TL {l:Addr} {St:Nat->Heap->Prop} {T:String} {items:Array aB} {bt:Nat->Nat->Bool} {G:Heap->Prop} {Q:aB->aG->Prop} (W:Walks prog w A.in1 s.heap.objs.size [s.heap.objs.size,l] [s.heap.objs.size] items.size (λi v=>items[i]? = some v) St) (lt:l<s.heap.objs.size)
  (hit:∀{Q E},Q (.ref s.heap.objs.size) { s with heap:=s.heap.push (Fj T l) }->wpAny (model prog w) A.in1 (pyIter (.ref l)) Q E s) (w_:St 0 (s.heap.push (Fj T l))) (gz:0<items.size)
  (cmp:∀(i j:Nat) (u v:aB) (s:aG) (Q:aB->aG->Prop) (E:aB->aG->Prop),items[i]? = some u->items[j]? = some v->G s.heap->Q (.bool (bt i j)) s->wpAny (model prog w) A.in1 (richCompare .Lt u v) Q E s)
  (gs:∀h',(∀b o,s.heap.get? b=some o->h'.get? b=some o)->G h') (q:∀v h' tk,items[argBest bt (items.size-1)]? = some v->(∀b o,s.heap.get? b=some o->h'.get? b=some o)->Q v { s with heap:=h',toks:=tk }) :
  wpAny (model prog w) A (call (.builtin "min") [.ref l]) Q E s:=by
 have nm:(toString "min" ++ toString ".loop":String) = "min.loop":=by decide
 refine call_function_tree F.kind_min F.plain_min F.entry_min (F.args_min1 _) ?_;show wpAny _ A.in1 (sX "min" ["key","default"] 0 ⟨[],[]⟩ >>= _) _ _ s;apply aA;refine oB (show sX "min" ["key","default"] 0 ⟨[],[]⟩=pure [none,none] from rfl) ?_;apply aA;apply aK;apply aA;refine hit ?_;apply aA;refine gB ?_;rw[nm];apply aK;have sz1:(s.heap.push (Fj T l)).objs.size=s.heap.objs.size+1:=nR ..;generalize hp:s.heap.push (Fj T l)=h1 at sz1;rw[hp] at w_;have k1:∀b o,s.heap.get? b=some o->h1.get? b=some o:=λb o e=>by rw[<-hp];exact aP _ e
 refine⟨iU F.plain_min_loop _,?_⟩;show codeAny _ A (.builtin "min.loop" ⟨[.ref s.heap.objs.size,.none,.ref h1.objs.size],[]⟩) _ { s with heap:=h1.push { cls:=.type "list",dict:=none,data:=.seq ([]:List aB).toArray } };rw[sz1];have hS:(h1.push { cls:=.type "list",dict:=none,data:=.seq ([]:List aB).toArray }).get? (s.heap.objs.size+1)=some { cls:=.type "list",dict:=none,data:=.seq #[] 0,slots:=#[] }:=by rw[<-sz1];exact cL _ rfl
 have k2:∀b o,h1.get? b=some o->(h1.push { cls:=.type "list",dict:=none,data:=.seq ([]:List aB).toArray }).get? b=some o:=λb o e=>aP _ e;generalize h1.push { cls:=.type "list",dict:=none,data:=.seq ([]:List aB).toArray } = h2 at hS k2;have mw:∀{b:Addr} {o:Obj},s.heap.get? b=some o->b≠s.heap.objs.size/\b≠s.heap.objs.size+1:=λe=>⟨bO (aX e),bO (gP (aX e))⟩;refine fO F.entry_min_loop ?_;rw[eU F.plain_min_loop _];show wpAny _ A.in1 (seqItems? (.ref (s.heap.objs.size+1)) >>= _) _ _ _;apply aA;apply oC hS rfl;show wpAny _ A.in1 (tryCatch (pyNext (.ref s.heap.objs.size)) _ >>= _) _ _ _;apply aA;apply uV;refine W.item 0 _ _ _ gz (W.frame _ _ _ w_ λb _ o e=>k2 b o e) λv h' tk hv du kp=>?_;have wr:∀{b:Addr},b≠s.heap.objs.size->b ∉ [s.heap.objs.size]:=λh=>by simpa using h
 have kr:=kp (s.heap.objs.size+1) _ (wr (rR _)) hS;show wpAny _ A.in1 (updateSeq (s.heap.objs.size+1) (λ_=>#[v,v]) >>= _) _ _ _;apply aA;refine jX kr rfl ?_;rw[nm];apply aK;have up:∀b o,b≠s.heap.objs.size+1->h'.get? b=some o->(h'.update (s.heap.objs.size+1) (eG λ_=>#[v,v])).get? b=some o:=λb o b2 e=>(cW _ _ (Ne.symm b2)).trans e;have old:∀b o,s.heap.get? b=some o->(h'.update (s.heap.objs.size+1) (eG λ_=>#[v,v])).get? b=some o:=λb o e=>up b o (mw e).2 (kp b o (wr (mw e).1) (k2 b o (k1 b o e)));have R3:=fK (eG λ_=>#[v,v]) kr rfl;refine⟨iU F.plain_min_loop _,?_⟩;refine Hw (A:=A) (G:=λh=>∀b o,s.heap.get? b=some o->h.get? b=some o) (bt:=bt) W (rR _) (by simp only[aJ,cY,or_false,not_or];exact⟨rR _,kG (gP lt)⟩) (λi j u v s' Q' E' e1 e2 g c=>cmp i j u v s' Q' E' e1 e2 (gs _ g) c)
  (λh3 h4 g kk b o e=>kk b o (mw e).1 (mw e).2 (g b o e)) (items.size-1) 0 _ v _ (by lia) (by lia) (W.frame _ _ _ du λb hb o e=>up b o (by simp only[aJ,cY,or_false] at hb;rcases hb with rfl | rfl;exact bO (kL _);exact bO (gP lt)) e) (by simpa [argBest] using hv) old R3 λv' ym qq e kk=>?_
 exact q v' ym qq e λb o e=>kk b o (mw e).1 (mw e).2 (old b o e)
theorem Gs {l:Addr} {items:Array aB} {bt:Nat->Nat->Bool} {G:Heap->Prop} {Q:aB->aG->Prop} (hh:A.handled=none) (hL:s.heap.IsList l items) (gz:0<items.size)
  (cmp:∀(i j:Nat) (u v:aB) (s:aG) (Q:aB->aG->Prop) (E:aB->aG->Prop),items[i]? = some u->items[j]? = some v->G s.heap->Q (.bool (bt i j)) s->wpAny (model prog w) A.in1 (richCompare .Lt u v) Q E s)
  (gs:∀h',(∀b o,s.heap.get? b=some o->h'.get? b=some o)->G h') (q:∀v h' tk,items[argBest bt (items.size-1)]? = some v->(∀b o,s.heap.get? b=some o->h'.get? b=some o)->Q v { s with heap:=h',toks:=tk }) :
  wpAny (model prog w) A (call (.builtin "min") [.ref l]) Q E s:=by
 have lt:l<s.heap.objs.size:=by obtain⟨_,e,_⟩:=hL;exact aX e
 exact TL (T:="list_iterator") (NW (A:=A.in1) hh _ l (bO lt) items) lt (λq=>rD hL q) ⟨⟨_,cL _ rfl,rfl,rfl⟩,hL.at λo e=>aP _ e⟩ gz cmp gs q
theorem Ca {l:Addr} {items:Array aB} {bt:Nat->Nat->Bool} {G:Heap->Prop} {Q:aB->aG->Prop} (hh:A.handled=none) (hL:s.heap.IsTuple l items) (gz:0<items.size)
  (cmp:∀(i j:Nat) (u v:aB) (s:aG) (Q:aB->aG->Prop) (E:aB->aG->Prop),items[i]? = some u->items[j]? = some v->G s.heap->Q (.bool (bt i j)) s->wpAny (model prog w) A.in1 (richCompare .Lt u v) Q E s)
  (gs:∀h',(∀b o,s.heap.get? b=some o->h'.get? b=some o)->G h') (q:∀v h' tk,items[argBest bt (items.size-1)]? = some v->(∀b o,s.heap.get? b=some o->h'.get? b=some o)->Q v { s with heap:=h',toks:=tk }) :
  wpAny (model prog w) A (call (.builtin "min") [.ref l]) Q E s:=by
 have lt:l<s.heap.objs.size:=by obtain⟨_,e,_⟩:=hL;exact aX e
 exact TL (T:="tuple_iterator") (Walks.tuple (A:=A.in1) hh _ l (bO lt) items) lt (λq=>GF hL q) ⟨⟨_,cL _ rfl,rfl,rfl⟩,hL.at λo e=>aP _ e⟩ gz cmp gs q
end
abbrev nG (ns:List Int):D:=.tup (ns.map .int)
theorem BO:∀{a b c:List Int},HT.lexLt a b=true->HT.lexLt b c=true->HT.lexLt a c=true
 | [],[],_,h,_=>by cases h
 | [],_::_,[],_,h=>by cases h
 | [],_::_,_::_,_,_=>rfl
 | _::_,[],_,h,_=>by cases h
 | _::_,_::_,[],_,h=>by cases h
 | x::xs,y::ys,z::zs,h1,h2=>by
  rw[HT.lexLt_cons] at *;by_cases e1:x=y
  ·subst e1;rw[if_pos rfl] at h1;by_cases e2:x=z
   ·rw[if_pos e2] at h2 ⊢;exact BO h1 h2
   ·rw[if_neg e2] at h2 ⊢;exact h2
  ·rw[if_neg e1] at h1;by_cases e2:y=z
   ·subst e2;rw[if_neg e1];exact h1
   ·rw[if_neg e2] at h2;simp only[decide_eq_true_eq] at h1 h2;rw[if_neg (by lia)];simp only[decide_eq_true_eq];lia
theorem JV:∀(a:List Int),HT.lexLt a a=false
 | []=>rfl
 | x::xs=>by rw[HT.lexLt_cons,if_pos rfl];exact JV xs
theorem BC (tr:∀i j k,bt i j=true->bt j k=true->bt i k=true) (ir:∀i,bt i i=false):∀k,argBest bt k<=k/\∀j,j<=k->bt j (argBest bt k)=false
 | 0=>⟨bK _,λj hj=>by rw[Nat.le_zero.mp hj];exact ir 0⟩
 | k+1=>by
  obtain⟨h1,h2⟩:=BC tr ir k;cases hb:bt (k+1) (argBest bt k) with
  | true =>
   simp only[argBest,hb,if_true];refine⟨bK _,λj hj=>?_⟩;by_cases e:j=k+1
   ·subst e;exact ir _
   ·cases hc:bt j (k+1) with
    | false=>rfl
    | true =>
     have:=tr j (k+1) _ hc hb;rw[h2 j (by lia)] at this;cases this
  | false =>
   simp only[argBest,hb,aN,if_false];refine⟨by lia,λj hj=>?_⟩;by_cases e:j=k+1
   ·subst e;exact hb
   ·exact h2 j (by lia)
theorem af.tupI_inv {K:aI} {H:Hp} {ns:List Int} {v:V} (r:b_ K H (nG ns) v):∃a,v = .ref a/\H a=some (.tup (ns.map V.int)):=by
 cases r with
 | tup h rr=>rw[rr.ints_inv] at h;exact⟨_,rfl,h⟩
section
variable {X:Cx} {e a b:Expr} {te ta tb:RE} {p pos:Pos}
def Pk:R22:=λx y Q=>∃ns ms:List Int,x=nG ns/\y=nG ms/\Q (.bl (HT.lexLt ns ms))
theorem Mm (hr:ce k X.A):jn X (compareOp .Lt) Pk:=by
 intro pins s Z H x y v u Q I rx ry aw;obtain⟨d,e,P,r1,r2,q,kk⟩:=aw;obtain⟨ns,ms,e1,e2,q⟩:=q;subst e1 e2;obtain⟨a,vs,rfl,h1,t1⟩:=r1.tup;obtain⟨b,us,rfl,h2,t2⟩:=r2.tup;rw[t1.ints_inv] at h1;rw[t2.ints_inv] at h2;exact Vx (X:=X) (by have:=hr.un;lia) pins s Z H _ _ v u Q I rx ry ⟨a,b,ns,ms,rfl,rfl,di.of h1,di.of h2,kk _ _ H q (ae.refl H) (.bl _)⟩
def Ew:D->(D->Prop)->Prop:=λd Q=>match d with
 | .lst ds=>∃nss:List (List Int),ds=nss.map nG/\nss≠[]/\∀M,M∈nss->(∀x∈nss,HT.lexLt x M=false)->Q (nG M)
 | .tup ds=>∃nss:List (List Int),ds=nss.map nG/\nss≠[]/\∀M,M∈nss->(∀x∈nss,HT.lexLt x M=false)->Q (nG M)
 | _=>False
theorem Ex {k:Nat} (hr:ce k X.A) (hm:X.mg "min" = none) (hc:X.calm=true) (h:DB X e te) (hg:Gl X "min":=by rfl) (hs:starEach [e] X.env=[(false,eval e X.env)]:=by rfl) (hn:starEach [] X.env=[]:=by rfl) :
  DE X (.Call (.Name "min" p) [e] [] pos) (r1 Ew te):=by
 have call:AM X (.builtin "min") (λxs H Q=>∃(d:D) (v:V) (P:D->Prop),xs=[v]/\c8 X.K H d v/\Ew d P/\∀z w,P z->b_ X.K H z w->Q w H):=by
  intro pins s Z H xs us Q I rs hq;obtain⟨d,v,P,rfl,rb,hd,kk⟩:=hq;cases d with
  | lst ds =>
   obtain⟨nss,rfl,gz,hd⟩:=hd;obtain⟨l,vs,rfl,hq,rr⟩:=rb.lst;obtain⟨u,rfl,rx⟩:=vals1 rs;cases rx;obtain⟨its,rv,pl,hz⟩:=I.list hq;have l1:=rr.length;have l2:=rv.length;have sv:0<nss.length:=oW.mpr gz;rw[aS] at l1;have each:∀(i:Nat) (u:aB),its[i]? = some u->∃ns a ts,nss[i]? = some ns/\vs[i]? = some (.ref a)/\u = .ref a/\am (ns.map V.int) ts/\IsTup s.heap a ts.toArray:=λi u e=>by
    have hi:i<nss.length:=(by have:=(bC.mp e).1;lia);obtain⟨v,e1,e2⟩:=rr.get (i:=i) (d:=nG nss[i]) (by rw[bT,aD hi];rfl);obtain⟨a,rfl,ha⟩:=af.tupI_inv e2;obtain⟨u',f1,f2⟩:=rv.get e1;rw[e] at f1;cases f1;cases f2;obtain⟨ts,g1,g2,_⟩:=I.tuple (di.of (K:=X.K) ha);exact⟨_,a,ts,aD hi,e1,rfl,g1,g2⟩
   refine Gs (bt:=λi j=>HT.lexLt (nss.getD i []) (nss.getD j [])) (G:=λh=>∀b o,s.heap.get? b=some o->h.get? b=some o) (I.ok.hd hc) pl.isList (by simp;lia) (λi j u v s' Q' E' e1 e2 g c=>?_) (λh' g=>g) λv h' tk ev kp=>?_
   ·obtain⟨ns,a,ts,n1,_,rfl,g1,g2⟩:=each i u (by simpa using e1);obtain⟨ms,b,us,n2,_,rfl,g3,g4⟩:=each j v (by simpa using e2);have q1:nss.getD i []=ns:=(by rw[cE,n1];rfl);have q2:nss.getD j []=ms:=(by rw[cE,n2];rfl);rw[q1,q2] at c;have hu:=hr.un;have jt:∀{a:Addr} {xs:Array aB},IsTup s.heap a xs->IsTup s'.heap a xs:=λ⟨o,e,r⟩=>⟨o,g _ o e,r⟩;refine HT.lt_tupInts (A:=X.A.in1) (jt g2) (jt g4) (intsAre_of g1) (intsAre_of g3) (by show X.A.units+1<cLine;lia) c
   ·obtain⟨b1,b2⟩:=BC (bt:=λi j=>HT.lexLt (nss.getD i []) (nss.getD j [])) (λ_ _ _=>BO) (λ_=>JV _) (its.toArray.size-1);generalize argBest (λi j=>HT.lexLt (nss.getD i []) (nss.getD j [])) (its.toArray.size-1)=m at b1 b2 ev;obtain⟨ns,a,ts,n1,n2,rfl,g1,g2⟩:=each m v (by simpa using ev);have hm:m<nss.length:=(bC.mp n1).1;refine⟨.ref a,H,I.kept kp,rfl,kk _ _ (hd ns (dM n1) λx hx=>?_) ?_⟩
    ·obtain⟨j,hj,rfl⟩:=dU hx;have:=b2 j (by simp;lia);have q1:nss.getD j []=nss[j]:=(by rw[cE,aD hj];rfl);have q2:nss.getD m []=ns:=(by rw[cE,n1];rfl);rw[q1,q2] at this;exact this
    ·obtain⟨w,f1,f2⟩:=rr.get (i:=m) (d:=nG ns) (by rw[bT,n1];rfl);rw[n2] at f1;cases f1;exact f2
  | tup ds =>
   obtain⟨nss,rfl,gz,hd⟩:=hd;obtain⟨l,vs,rfl,hq,rr⟩:=rb.tup;obtain⟨u,rfl,rx⟩:=vals1 rs;cases rx;obtain⟨its,rv,pl,hz⟩:=I.tuple (di.of (K:=X.K) hq);have l1:=rr.length;have l2:=rv.length;have sv:0<nss.length:=oW.mpr gz;rw[aS] at l1;have each:∀(i:Nat) (u:aB),its[i]? = some u->∃ns a ts,nss[i]? = some ns/\vs[i]? = some (.ref a)/\u = .ref a/\am (ns.map V.int) ts/\IsTup s.heap a ts.toArray:=λi u e=>by
    have hi:i<nss.length:=(by have:=(bC.mp e).1;lia);obtain⟨v,e1,e2⟩:=rr.get (i:=i) (d:=nG nss[i]) (by rw[bT,aD hi];rfl);obtain⟨a,rfl,ha⟩:=af.tupI_inv e2;obtain⟨u',f1,f2⟩:=rv.get e1;rw[e] at f1;cases f1;cases f2;obtain⟨ts,g1,g2,_⟩:=I.tuple (di.of (K:=X.K) ha);exact⟨_,a,ts,aD hi,e1,rfl,g1,g2⟩
   refine Ca (bt:=λi j=>HT.lexLt (nss.getD i []) (nss.getD j [])) (G:=λh=>∀b o,s.heap.get? b=some o->h.get? b=some o) (I.ok.hd hc) pl (by simp;lia) (λi j u v s' Q' E' e1 e2 g c=>?_) (λh' g=>g) λv h' tk ev kp=>?_
   ·obtain⟨ns,a,ts,n1,_,rfl,g1,g2⟩:=each i u (by simpa using e1);obtain⟨ms,b,us,n2,_,rfl,g3,g4⟩:=each j v (by simpa using e2);have q1:nss.getD i []=ns:=(by rw[cE,n1];rfl);have q2:nss.getD j []=ms:=(by rw[cE,n2];rfl);rw[q1,q2] at c;have hu:=hr.un;have jt:∀{a:Addr} {xs:Array aB},IsTup s.heap a xs->IsTup s'.heap a xs:=λ⟨o,e,r⟩=>⟨o,g _ o e,r⟩;refine HT.lt_tupInts (A:=X.A.in1) (jt g2) (jt g4) (intsAre_of g1) (intsAre_of g3) (by show X.A.units+1<cLine;lia) c
   ·obtain⟨b1,b2⟩:=BC (bt:=λi j=>HT.lexLt (nss.getD i []) (nss.getD j [])) (λ_ _ _=>BO) (λ_=>JV _) (its.toArray.size-1);generalize argBest (λi j=>HT.lexLt (nss.getD i []) (nss.getD j [])) (its.toArray.size-1)=m at b1 b2 ev;obtain⟨ns,a,ts,n1,n2,rfl,g1,g2⟩:=each m v (by simpa using ev);have hm:m<nss.length:=(bC.mp n1).1;refine⟨.ref a,H,I.kept kp,rfl,kk _ _ (hd ns (dM n1) λx hx=>?_) ?_⟩
    ·obtain⟨j,hj,rfl⟩:=dU hx;have:=b2 j (by simp;lia);have q1:nss.getD j []=nss[j]:=(by rw[cE,aD hj];rfl);have q2:nss.getD m []=ns:=(by rw[cE,n1];rfl);rw[q1,q2] at this;exact this
    ·obtain⟨w,f1,f2⟩:=rr.get (i:=m) (d:=nG ns) (by rw[bT,n1];rfl);rw[n2] at f1;cases f1;exact f2
  | _=>exact hd.elim
 refine PE.mono (IB call hg hm boot_min (qX h hs hn) (by decide) (by decide) (by rw[hs,hn]) (by rw[hn];rfl)) λZ H Q hh=>iM hh λt P st q k=>⟨t,_,st,q,λd v H1 hd s1 r=>⟨d,v,P,rfl,r,hd,λz w hz rz=>k z w H1 hz s1 rz⟩⟩
def dNe:R22:=λx y Q=>match x,y with
 | .int i,.int j=>Q (.bl !(decide (i=j)))
 | .bl i,.bl j=>Q (.bl !(decide (i=j)))
 | .tup xs,.tup ys=>match f_ (c4 5) xs ys with
  | some b=>Q (.bl !b)
  | none=>False
 | .non,.non=>Q (.bl false)
 | _,_=>False
theorem Ti (hr:ce k X.A):jn X (compareOp .NotEq) dNe:=by
 intro pins s Z H x y v u Q I rx ry aw;obtain⟨d,e,P,r1,r2,q,kk⟩:=aw;have hu:=hr.un;unfold dNe at q;split at q
 ·rename_i i j;rw[r1.int_inv] at rx;rw[r2.int_inv] at ry;obtain⟨t,rfl⟩:=rx;obtain⟨t',rfl⟩:=ry;have e:(!(decide (i=j))) = !(i == j):=by rw[mZ]
  rw[e] at q;exact SeqAt.RcNeAt.int_int i t j t' _ _ _ _ ⟨.bl _,H,I,rfl,kk _ _ H q (ae.refl H) (.bl _)⟩
 ·rename_i i j;rw[r1.bl_inv] at rx;rw[r2.bl_inv] at ry;cases rx;cases ry;have e:(!(decide (i=j))) = !(i == j):=by rw[mZ]
  rw[e] at q;exact SeqAt.RcNeAt.bool_bool i j _ _ _ _ ⟨.bl _,H,I,rfl,kk _ _ H q (ae.refl H) (.bl _)⟩
 ·rename_i xs ys;split at q
  ·rename_i b h;obtain⟨a,vs,rfl,h1,q1⟩:=r1.tup;obtain⟨c,ws,rfl,h2,q2⟩:=r2.tup;cases rx;cases ry;obtain⟨its,rv,ht,_⟩:=I.tuple (di.of h1);obtain⟨dh,m5,q9,_⟩:=I.tuple (di.of h2);have l1:xs.length=its.length:=q1.length.trans rv.length;have l2:ys.length=dh.length:=q2.length.trans m5.length;have rc:SeqAt.RcNeAt X.A s (.ref a) (.ref c) (!b):=by
    have:=SeqAt.RcNeAt.tuples (A:=X.A) (s:=s) (e:=λj=>match xs[j]?,ys[j]? with | some x,some y=>(c4 5 x y).getD false | _,_=>false) ht q9 (by lia) (λj g1 g2=>?_)
    ·simp only[aY,<-l1,<-l2] at this;have al:=HP h;rw[<-al];exact this
    ·simp only[aY] at g1 g2;have e1:xs[j]? = some (xs[j]'(by lia)):=aD _;have e2:ys[j]? = some (ys[j]'(by lia)):=aD _;obtain⟨k,hk⟩:=MS h j _ _ e1 e2;rw[e1,e2];simp only[hk,mF];obtain⟨v1,f1,f2⟩:=q1.get e1;obtain⟨v2,f3,f4⟩:=q2.get e2;obtain⟨u1,g3,g4⟩:=rv.get f1;obtain⟨u2,g5,g6⟩:=m5.get f3;have a1:its.toArray[j]=u1:=by
      have:=aD g1;rw[this] at g3;simpa using dO g3
     have a2:dh.toArray[j]=u2:=by
      have:=aD g2;rw[this] at g5;simpa using dO g5
     rw[a1,a2];exact (uM I 5 hk f2 f4 g4 g6 (by show X.A.units+1+5<cLine;lia)).2
   exact rc _ _ _ _ ⟨.bl _,H,I,rfl,kk _ _ H q (ae.refl H) (.bl _)⟩
  ·exact q.elim
 ·have non:∀{v:V},c8 X.K H .non v->v = .non:=λr=>by
   rcases r with r | ⟨_,_,_,e,_⟩
   ·cases r;rfl
   ·cases e
  rw[non r1] at rx;rw[non r2] at ry;cases rx;cases ry;exact SeqAt.RcNeAt.none_none _ _ _ _ ⟨.bl _,H,I,rfl,kk _ _ H q (ae.refl H) (.bl _)⟩
 ·exact q.elim
def Ka:R22:=λx y Q=>match x with
 | .lst xs=>∃j:Nat,(∃d,xs[j]? = some d/\c4 6 d y=some true)/\(∀(i:Nat) d,i<j->xs[i]? = some d->c4 6 d y=some false)/\(∀d∈xs,∃b,c4 6 d y=some b)/\Q (.int (j:Int))
 | _=>False
theorem RelV.det (h:RelV v u) (h':RelV v' u):v=v':=RelV.inj h h'
end
section
variable {σ:St} {s:aG}
theorem TX:∀{ks ks':List Int} {vs vs':List V},ks.length=vs.length->ks'.length=vs'.length->wY ks vs=wY ks' vs'->ks=ks'/\vs=vs'
 | [],[],[],[],_,_,_=>⟨rfl,rfl⟩
 | [],_::_,[],_::_,_,_,h=>by simp[wY] at h
 | _::_,[],_::_,[],_,_,h=>by simp[wY] at h
 | k::ks,k'::ks',v::vs,v'::vs',h1,h2,h=>by
  simp only[wY,xW,fX,eM,Sum.inl.injEq] at h;obtain⟨rfl,rfl⟩:=TX (ks:=ks) (ks':=ks') (vs:=vs) (vs':=vs') (by simpa using h1) (by simpa using h2) h.2;obtain⟨⟨rfl,rfl⟩,_⟩:=h;exact⟨rfl,rfl⟩
theorem PM:∀{ks ks':List (List Int)} {vs vs':List V},ks.length=vs.length->ks'.length=vs'.length->yP ks vs=yP ks' vs'->ks=ks'/\vs=vs'
 | [],[],[],[],_,_,_=>⟨rfl,rfl⟩
 | [],_::_,[],_::_,_,_,h=>by simp[yP] at h
 | _::_,[],_::_,[],_,_,h=>by simp[yP] at h
 | k::ks,k'::ks',v::vs,v'::vs',h1,h2,h=>by
  simp only[yP,xW,fX,eM] at h;obtain⟨rfl,rfl⟩:=PM (ks:=ks) (ks':=ks') (vs:=vs) (vs':=vs') (by simpa using h1) (by simpa using h2) h.2;obtain⟨⟨e,rfl⟩,_⟩:=h;have e':k=k':=by
   have z:=congrArg (uA λx:f6=>match x with | .inl i=>i | .inr _=>0) e;rw[dA,dA] at z;simpa [GK] using z
  exact⟨by rw[e'],rfl⟩
theorem LL (I:Inv X pins σ H s) (h:H a=some (.frz o (.dT kvs))) (h':jj X.K H a vs):False:=by
 obtain⟨its,rv,pl,_⟩:=I.list h'.sq;obtain⟨o',e',c',_⟩:=pl.isList;obtain⟨_,_,_,us,_,ob,es,ep,e,c,_⟩:=I.hok a _ h;rw[e] at e';cases e';rw[c.1] at c';simp at c'
theorem LJ (I:Inv X pins σ H s) (h:H a=some (.frz o (.dK kvs))) (h':jj X.K H a vs):False:=by
 obtain⟨its,rv,pl,_⟩:=I.list h'.sq;obtain⟨o',e',c',_⟩:=pl.isList;obtain⟨_,_,_,us,_,ob,es,ep,e,c,_⟩:=I.hok a _ h;rw[e] at e';cases e';rw[c.1] at c';simp at c'
mutual
theorem b_.det (I:Inv X pins σ H s):∀{d d':D} {v:V},b_ X.K H d v->b_ X.K H d' v->d=d'
 | _,_,_,.non,r=>by cases r;rfl
 | _,_,_,.bl b,r=>by cases r;rfl
 | _,_,_,.int i,r=>by cases r;rfl
 | _,_,_,.str x,r=>by cases r;rfl
 | _,_,_,.tup h q,r=>by
  cases r with
  | tup h' q'=>rw[h] at h';cases h';rw[af.det I q q']
  | lst h' q' =>
   obtain⟨its,rv,pl,_⟩:=I.list h'.sq;obtain⟨uk,rv',⟨o,e,c,_⟩,_⟩:=I.tuple (di.of (K:=X.K) h);obtain⟨o',e',c',_⟩:=pl.isList;rw[e] at e';cases e';rw[c] at c';simp at c'
  | dct h' _ _=>rw[h] at h';cases h'
  | dtt h' _ _=>rw[h] at h';cases h'
 | _,_,_,.dct h hl q,r=>by
  cases r with
  | tup h' q'=>rw[h] at h';cases h'
  | lst h' q'=>exact (LJ I h h').elim
  | dct h' wz q' =>
   rw[h] at h';obtain⟨rfl,rfl⟩:=TX hl wz (by injection h' with e;injection e with _ e;injection e);rw[af.det I q q']
  | dtt h' _ _=>rw[h] at h';cases h'
 | _,_,_,.dtt h hl q,r=>by
  cases r with
  | tup h' q'=>rw[h] at h';cases h'
  | lst h' q'=>exact (LL I h h').elim
  | dct h' _ _=>rw[h] at h';cases h'
  | dtt h' wz q' =>
   rw[h] at h';obtain⟨rfl,rfl⟩:=PM hl wz (by injection h' with e;injection e with _ e;injection e);rw[af.det I q q']
 | _,_,_,.lst h q,r=>by
  cases r with
  | tup h' q' =>
   obtain⟨its,rv,pl,_⟩:=I.list h.sq;obtain⟨uk,rv',⟨o,e,c,_⟩,_⟩:=I.tuple (di.of (K:=X.K) h');obtain⟨o',e',c',_⟩:=pl.isList;rw[e] at e';cases e';rw[c] at c';simp at c'
  | lst h' q'=>rw[I.list_inj h'.sq h.sq] at q';rw[af.det I q q']
  | dct h' _ _=>exact (LJ I h' h).elim
  | dtt h' _ _=>exact (LL I h' h).elim
theorem af.det (I:Inv X pins σ H s):∀{d d':List D} {v:List V},af X.K H d v->af X.K H d' v->d=d'
 | _,_,_,.nil,r=>by cases r;rfl
 | _,_,_,.cons h t,r=>by
  cases r with
  | cons h' t'=>rw[b_.det I h h',af.det I t t']
end
end
section
variable {X:Cx} {e a b:Expr} {te ta tb:RE}
def Dm (ta tb:RE):RE:=λc Q=>ta c λx=>(∃xs,x = .lst xs)/\tb c λy=>Ka x y Q
theorem Kn {k:Nat} {apos cpos:Pos} (hr:ce k X.A) (ha:DB X a ta) (hb:DE X b tb) (dm:attributeBase a "index" X.env (eval a X.env)=eval a X.env:=by rfl)
  (kz:((backTo cpos (starEach [b] X.env)).all (λx=>!x.1) && (backToKw cpos (keywordEach [] X.env)).all (λx=>x.1.isSome) && decide (([b]:List Expr).length+([]:List pM).length+(if ([]:List pM).isEmpty then 0 else 1)<30))=true:=by rfl)
  (dq:(apos.endLine == cpos.line)=true:=by rfl) (hs:starEach [b] X.env=[(false,eval b X.env)]:=by rfl) (hn:starEach [] X.env=[]:=by rfl) :
  DE X (.Call (.Attribute a "index" apos) [b] [] cpos) (Dm ta tb):=by
 have mt:D_ X "list.index" (λx vs H Q=>∃(d e:D) (u:V) (P:D->Prop),vs=[u]/\c8 X.K H d x/\b_ X.K H e u/\Ka d e P/\∀z w,P z->b_ X.K H z w->Q w H):=by
  intro pins s Z H x vs v us Q I rx rv aw;obtain⟨d,e,u,P,ev,rd,re,q,kk⟩:=aw;subst ev;obtain⟨u',rfl,ru⟩:=rv.one;cases d with
  | lst xs =>
   obtain⟨j,⟨dj,ej,hj⟩,T6,cg,q⟩:=q;obtain⟨l,vs,rfl,hq,rr⟩:=rd.lst;cases rx;obtain⟨its,jl,pl,hz⟩:=I.list hq;obtain⟨⟨cls,dd,data,sl⟩,ho,hc,n,hd⟩:=pl.isList;simp only at hc hd;subst hc hd;have l1:=rr.length;have l2:=jl.length;have hu:=hr.un;have hjl:j<xs.length:=(bC.mp ej).1;let ev:aB->Bool:=λy=>(dY xs.length).any λi=>match xs[i]?,its[i]? with
    | some d,some z=>z == y && c4 6 d e == some true
    | _,_=>false
   have each:∀(i:Nat) (y:aB),its[i]? = some y->∃d v,xs[i]? = some d/\b_ X.K H d v/\RelV v y/\∃b,c4 6 d e=some b:=λi y ey=>by
    have hi:i<xs.length:=(by have:=(bC.mp ey).1;lia);obtain⟨v,e1,e2⟩:=rr.get (aD hi);obtain⟨y',f1,f2⟩:=jl.get e1;rw[ey] at f1;cases f1;exact⟨_,v,aD hi,e2,f2,cg _ (oF hi)⟩
   have u9:∀(i:Nat) (y:aB) (d:D) (b:Bool),its[i]? = some y->xs[i]? = some d->c4 6 d e=some b->ev y=b:=λi y d b ey ed hb=>by
    obtain⟨d',v,q1,q2,q3,_⟩:=each i y ey;rw[ed] at q1;cases q1;cases b with
    | true =>
     have hi:i<xs.length:=(bC.mp ed).1;refine List.any_eq_true.mpr ⟨i,fZ.mpr hi,?_⟩;simp only[ed,ey,hb];simp
    | false =>
     refine GN.mpr λi' gq=>?_;cases ex:xs[i']? with
     | none=>simp
     | some d' =>
      cases ez:its[i']? with
      | none=>simp
      | some z =>
       simp only[iG,beq_iff_eq,not_and];intro hz sr;subst hz;obtain⟨d2,v2,p1,p2,p3,_⟩:=each i' z ez;rw[ex] at p1;cases p1;have:=RelV.det q3 p3;subst this;rw[b_.det I q2 p2] at hb;rw[hb] at sr;cases sr
   have yj:∀(i:Nat) (h:i<its.toArray.size),its[i]? = some its.toArray[i]:=λi h=>by
    have h':i<its.length:=(by simpa using h);rw[aD h'];simp
   refine uI F.slot_list_index ⟨_,ho,rfl⟩ F.entry_list_index (F.args_list_index_2 _ _) (SeqAt.list_indexAt l its.toArray n dd sl u' ev j (by simp;lia) ?_ ?_ λm hm c9=>?_) ⟨ho,λy hy=>?_,?_⟩
   ·have hs:(sizeLine:Int)<2 ^ 63-1:=(by decide);lia
   ·exact u9 j _ dj true (yj j _) ej hj
   ·have w6:m<xs.length:=(by simp at hm;lia);exact u9 m _ xs[m] false (yj m hm) (aD w6) (T6 m _ c9 (aD w6))
   ·obtain⟨i,hi,rfl⟩:=dU (List.mem_toArray.mp hy);obtain⟨d,v,q1,q2,q3,b,hb⟩:=each i its[i] (aD hi);rw[u9 i _ d b (aD hi) q1 hb];exact (uM I 6 hb q2 re q3 ru (by show X.A.units+1+6<cLine;lia)).2
   ·exact⟨.int (j:Int),H,I.tok _,⟨_,rfl⟩,kk _ _ q (.int _)⟩
  | _=>exact q.elim
 refine PE.mono (ZX iK PySem.F.slot_list_index PySem.F.type_list_index mt ha (qX hb hs hn) dm kz dq (by rw[hs,hn]) (by rw[hn];rfl)) λZ H Q hh=>iM hh λg P st q k=>⟨g,_,st,q,λx v H1 hx s1 r1=>⟨?_,g,_,st.ext s1,hx.2,λy u H2 hy s2 r2=>⟨x,y,u,P,rfl,r1.same s2,r2,hy,λz w hz rz=>k z w H2 hz (s1.trans s2) rz⟩⟩⟩;obtain⟨⟨xs,rfl⟩,_⟩:=hx;obtain⟨l,vs,rfl,hq,_⟩:=r1.lst;exact .inl ⟨rfl,vs,hq⟩
end
end
section
open PySem PySem.SetTable
def w9 (N i:Nat):Nat:=(i*5+1) % N
def VZ (N:Nat):Nat->Nat->Nat
 | 0,i=>i
 | m+1,i=>VZ N m (w9 N i)
theorem HR (N:Nat):∀a b i,VZ N (a+b) i=VZ N b (VZ N a i)
 | 0,b,i=>by rw[yA];rfl
 | a+1,b,i=>by rw[Nat.add_right_comm];exact HR N a b (w9 N i)
def Gi (N:Nat):Nat->Nat->List Nat
 | 0,_=>[]
 | m+1,i=>i::Gi N m (w9 N i)
theorem KE:∀{m i:Nat},j∈Gi N m i->∃k,k<m/\VZ N k i=j
 | 0,_,h=>by cases h
 | m+1,i,h=>by
  rcases aJ.mp h with rfl | h
  ·exact⟨0,by lia,rfl⟩
  ·obtain⟨k,hk,e⟩:=KE h;exact⟨k+1,by lia,e⟩
def gj (N:Nat):Prop:=(∀j,j<N->j∈Gi N N 0)/\VZ N N 0=0
def QU (h:((dY N).all λj=>(Gi N N 0).contains j)=true) (k:VZ N N 0=0):gj N :=
 ⟨λj hj=>by have:=oE.mp h j (fZ.mpr hj);simpa using this,k⟩
def Ww:gj 8:=QU (by decide +kernel) (by decide +kernel)
def Se:gj 32:=QU (by decide +kernel) (by decide +kernel)
def Oa:gj 128:=QU (by decide +kernel) (by decide +kernel)
def gj.reach (h:gj N) (hi:i<N) (hj:j<N):∃k,k<N/\VZ N k i=j:=by
 obtain⟨a,ha,ea⟩:=KE (h.1 i hi);obtain⟨b,hb,eb⟩:=KE (h.1 j hj);by_cases g9:a<=b
 ·refine⟨b-a,by lia,?_⟩;rw[<-ea,<-HR,show a+(b-a)=b by lia,eb]
 ·refine⟨b+(N-a),by lia,?_⟩;rw[<-ea,<-HR,show a+(b+(N-a))=N+b by lia,HR,h.2,eb]
def Em (P:Nat->Prop) (mask:Nat):Nat->Nat->Nat->Prop
 | 0,i,_=>P i
 | m+1,i,pt=>Em P mask m (leap mask i pt).1 (leap mask i pt).2
theorem Ee {P:Nat->Prop} {mask:Nat}:∀m i,P (VZ (mask+1) m i)->Em P mask m i 0
 | 0,_,h=>h
 | m+1,i,h=>by
  unfold Em;have e:leap mask i 0=(w9 (mask+1) i,0):=by simp[leap,w9]
  rw[e];exact Ee m (w9 (mask+1) i) h
theorem Bn {P:Nat->Prop} {mask:Nat} (R:gj (mask+1)) {j:Nat} (hj:j<=mask) (hP:P j):∀(b i pt:Nat),i<=mask->pt<32 ^ b->∃m,m<=mask+b/\Em P mask m i pt
 | 0,i,pt,hi,hp=>by
  have:pt=0:=by simpa using hp
  subst this;obtain⟨k,hk,e⟩:=R.reach (i:=i) (j:=j) (by lia) (by lia);exact⟨k,by lia,Ee k i (by rw[e];exact hP)⟩
 | b+1,i,pt,hi,hp=>by
  have h1:(leap mask i pt).1<=mask:=by unfold leap;exact jB (jK _ (by lia))
  have h2:(leap mask i pt).2<32 ^ b:=by
   unfold leap;dsimp only;rw[Nat.pow_succ] at hp;lia
  obtain⟨m,hm,e⟩:=Bn R hj hP b _ _ h1 h2;exact⟨m+1,by lia,e⟩
def Eo (h:Int):bits h<32 ^ 13:=by
 unfold bits;have:(h % (2 ^ 64:Int))<2 ^ 64:=tV _ (by decide);have h2:0<=h % (2 ^ 64:Int):=zC _ (by decide);have:(h % (2 ^ 64:Int)).toNat<2 ^ 64:=by lia
 exact bQ this (by decide)
theorem rZ {α:Type} [DecidableEq α]:∀(l m:List α),l.Nodup->(∀x∈l,x∈m)->l.length<=m.length
 | [],_,_,_=>eV _
 | x::l,m,hn,hs=>by
  have hx:=hs x (by simp);have ni:=eS.mp hn;have:=rZ l (m.erase x) ni.2 λy hy=>by
   have ne:y≠x:=λe=>ni.1 (e ▸ hy);exact (AT ne).mpr (hs y (by simp[hy]))
  rw[vX hx] at this;have:0<m.length:=xU hx;simp;lia
structure cn (t:SetTable) (n:Nat):Prop where
 size:t.place.size=n
 dum:t.dummies = #[]
 room:n<=t.mask
 round:gj (t.mask+1)
 ris:t.place.toList.Pairwise (· < ·)
def slot_of {t:SetTable} (hd:t.dummies = #[]) (j:Nat):t.slot j = .empty\/∃i,t.slot j = .live i/\t.place[i]? = some j:=by
 unfold slot;dsimp only;by_cases h:(t.place[below t.place j]? == some j)=true
 ·rw[if_pos h];exact fE ⟨_,rfl,by simpa using h⟩
 ·rw[if_neg h,hd,if_neg (by simp[has])];exact fD rfl
def Dy {n:Nat} (T:cn t n):∃j,j<=t.mask/\t.slot j = .empty:=by
 apply fA;intro hn;have all:∀j∈dY (t.mask+1),j∈t.place.toList:=by
  intro j hj;rcases slot_of T.dum j with h | ⟨i,h,e⟩
  ·exact absurd ⟨j,by have:=fZ.mp hj;lia,h⟩ hn
  ·rw[gD];exact zU e
 have:=rZ _ _ JF all;rw[qO,cI,T.size] at this;have:=T.room;lia
def NQ (t:SetTable) (p:Probe) (m:Nat):Prop:=p.dummy=none/\p.more<=9/\Em (λj=>t.slot j = .empty) t.mask m p.i p.perturb/\(m=0->p.j=p.i)
def KP (p:Probe) (m:Nat):Nat:=p.more+10*m
def CW (mask i:Nat):runEnd mask i-i<=9:=by unfold runEnd;split <;> lia
def LG (h:NQ t p m) (hn:t.slot p.j≠.empty):∃m',NQ t (t.advance p) m'/\KP (t.advance p) m'<KP p m:=by
 obtain⟨hd,hm,he,hj⟩:=h;have m0:m≠0:=by rintro rfl;rw[hj rfl] at hn;exact hn he
 unfold advance;split
 ·refine⟨m,⟨hd,by dsimp only;lia,he,λe=>absurd e m0⟩,by unfold KP;dsimp only;lia⟩
 ·obtain⟨k,rfl⟩:∃k,m=k+1:=⟨m-1,by lia⟩;refine⟨k,⟨hd,CW _ _,he,λ_=>rfl⟩,?_⟩;unfold KP;have:=CW t.mask (leap t.mask p.i p.perturb).1;dsimp only;lia
def UQ {n:Nat} (T:cn t n) (h:Int):∃m,NQ t (t.probeStart h) m/\KP (t.probeStart h) m<10*turns t.mask:=by
 obtain⟨j,hj,he⟩:=Dy T;obtain⟨m,hm,e⟩:=Bn (P:=λj=>t.slot j = .empty) T.round hj he 13 (bits h % (t.mask+1)) (bits h) (jB (jK _ (by lia))) (Eo h);refine⟨m,⟨rfl,CW _ _,e,λ_=>rfl⟩,?_⟩;have:=CW t.mask (bits h % (t.mask+1));unfold KP probeStart turns;dsimp only;lia
theorem Ff {mask:Nat} {owner:Array (Option Nat)}:∀(fuel m i pt:Nat),i<=mask->owner.size=mask+1->Em (λj=>owner.getD j (some 0)=none) mask m i pt->m<fuel->∃j,iT mask owner fuel i pt=some j/\j<=mask/\owner.getD j (some 0)=none
 | 0,_,_,_,_,_,_,h=>absurd h (lH _)
 | fuel+1,m,i,pt,hi,hs,he,hf=>by
  unfold iT;cases hq:(dY (runEnd mask i+1-i)).find? λk=>(owner.getD (i+k) (some 0)).isNone with
  | some k =>
   have h1:=List.find?_some hq;have h2:=uY hq;have h3:=fZ.mp h2;refine⟨i+k,rfl,?_,by simpa using h1⟩;have:runEnd mask i<=mask:=(by unfold runEnd;split <;> lia);lia
  | none =>
   dsimp only;have hn:owner.getD i (some 0)≠none:=by
    have h0:=FK.mp hq 0 (fZ.mpr (by unfold runEnd;split <;> lia));simpa using h0
   obtain⟨k,rfl⟩:∃k,m=k+1:=by
    cases m with
    | zero=>exact absurd he hn
    | succ k=>exact⟨k,rfl⟩
   exact Ff fuel k _ _ (by unfold leap;exact jB (jK _ (by lia))) hs he (by lia)
def IA (owner:Array (Option Nat)) (n:Nat):List Nat:=(dY n).filterMap λj=>owner.getD j none
theorem YQ {α:Type} {f g:Nat->Option α}:∀(l:List Nat),(∀a∈l,f a=g a)->l.filterMap f=l.filterMap g
 | [],_=>rfl
 | a::l,h=>by rw[eD,eD,h a (by simp),YQ l λb hb=>h b (by simp[hb])]
theorem EA {α:Type} {f g:Nat->Option α} {x:α}:∀(l:List Nat),l.Nodup->j∈l->(∀i,i≠j->f i=g i)->f j=none->g j=some x->(l.filterMap g).Perm (x::l.filterMap f)
 | [],_,h,_,_,_=>by cases h
 | i::l,hn,hj,R9,hf,hg=>by
  have ni:=eS.mp hn;by_cases e:i=j
  ·subst e;rw[eD,eD,hf,hg];dsimp only;have:l.filterMap g=l.filterMap f:=by
    exact YQ l λa ha=>(R9 a (λe=>ni.1 (e ▸ ha))).symm
   rw[this]
  ·have qh:j∈l:=(by rcases aJ.mp hj with h | h;exact absurd h.symm e;exact h);have ih:=EA l ni.2 qh R9 hf hg;rw[eD,eD,R9 i e];cases g i with
   | none=>exact ih
   | some y=>exact (ih.cons y).trans (List.Perm.swap x y _)
def Ih {N c:Nat} (hp:(IA owner N).Perm (dY c)) (hs:owner.size=N) (hc:c<N):∃j,j<N/\owner.getD j (some 0)=none:=by
 apply fA;intro hn;have key:∀(l:List Nat),(∀j∈l,∃k,owner.getD j none=some k)->(l.filterMap λj=>owner.getD j none).length=l.length:=by
  intro l
  induction l with
  | nil=>intro _;rfl
  | cons j l ih =>
   intro h;obtain⟨k,e⟩:=h j (by simp);rw[eD,e];have:=ih λj hj=>h j (by simp[hj]);rw[cD,cD,this]
 have:=key (dY N) (by
  intro j hj;have qh:=fZ.mp hj;cases h:owner.getD j none with
  | some k=>exact⟨k,rfl⟩
  | none =>
   refine absurd ⟨j,qh,?_⟩ hn;have lt:j<owner.size:=(by lia);simp[jJ,lt] at h ⊢;exact h)
 have e:=hp.length_eq;unfold IA at e;rw[this] at e;simp at e;lia
theorem ZF {mask:Nat} (R:gj (mask+1)):∀(hs:List Int) (owner:Array (Option Nat)) (c:Nat),owner.size=mask+1->(IA owner (mask+1)).Perm (dY c)->c+hs.length<=mask+1 ->
  ∃n6 ,(hs.foldl (λacc h=>do
    let (owner,k) <-acc;let j <-iT mask owner (turns mask) (bits h % (mask+1)) (bits h)
    pure (owner.setIfInBounds j (some k),k+1)) (some (owner,c)))=some (n6,c+hs.length)/\n6.size=mask+1/\(IA n6 (mask+1)).Perm (dY (c+hs.length))
 | [],owner,c,hs,hp,_=>⟨owner,rfl,hs,hp⟩
 | h::hs,owner,c,hz,hp,hl=>by
  simp only[cD] at hl;obtain⟨j0,hj0,e0⟩:=Ih hp hz (by lia);obtain⟨m,hm,em⟩:=Bn (P:=λj=>owner.getD j (some 0)=none) R (j:=j0) (by lia) e0 13 (bits h % (mask+1)) (bits h) (jB (jK _ (by lia))) (Eo h);obtain⟨j,ej,hj,ef⟩:=Ff (turns mask) m _ _ (jB (jK _ (by lia))) hz em (by unfold turns;lia);rw[pN];have step:((do
    let (owner,k) <-some (owner,c);let j <-iT mask owner (turns mask) (bits h % (mask+1)) (bits h)
    pure (owner.setIfInBounds j (some k),k+1)):Option (Array (Option Nat) × Nat))=some (owner.setIfInBounds j (some c),c+1):=by
   show (iT mask owner (turns mask) (bits h % (mask+1)) (bits h) >>= λj=>_)=_;rw[ej];rfl
  rw[step];have lt:j<owner.size:=by lia
  have perm:(IA (owner.setIfInBounds j (some c)) (mask+1)).Perm (dY (c+1)):=by
   unfold IA;refine (EA (f:=λi=>owner.getD i none) (x:=c) (j:=j) _ JF (fZ.mpr (by lia)) ?_ ?_ ?_).trans ?_
   ·intro i hi;simp only[dS];rw[rE (Ne.symm hi)]
   ·simp only[dS] at ef ⊢;have:owner[j]? = some owner[j]:=bH lt;rw[this] at ef ⊢;exact ef
   ·simp only[dS];rw[nN lt];rfl
   ·rw[MC (n:=c)];exact (List.Perm.cons c hp).trans (rL (l₁:=[c]))
  obtain⟨o',r1,r2,r3⟩:=ZF R hs (owner.setIfInBounds j (some c)) (c+1) (by simp[hz]) perm (by lia);refine⟨o',?_,r2,?_⟩
  ·rw[r1,cD,show c+1+hs.length=c+(hs.length+1) by lia]
  ·rw[cD,show c+(hs.length+1)=c+1+hs.length by lia];exact r3
def Ql {mask:Nat} (R:gj (mask+1)) (finger moves:Nat) (led plain:Bool) (hashes:Array Int) (hl:hashes.size<=mask) :
  ∃t order,laid mask finger moves led plain hashes=some (t,order)/\cn t hashes.size/\t.mask=mask/\t.led=led/\t.plain=plain/\order.toList.Perm (dY hashes.size):=by
 obtain⟨o,e,sz,pm⟩:=ZF R hashes.toList (zB (mask+1) none) 0 (by simp) (by
  have:IA (zB (mask+1) none) (mask+1)=[]:=by
   unfold IA;rw[List.filterMap_eq_nil_iff];intro j hj;have:=fZ.mp hj;simp[dS,this]
  rw[this];exact tX _) (by rw[cI];lia)
 have el:layClean mask hashes=some o:=by
  unfold layClean;rw[<-FE];have e':=e;simp only[yA] at e';rw[e'];rfl
 unfold laid;rw[el];simp only[yA,cI] at pm;have e2:∀l:List Nat,(l.filterMap λj=>(o.getD j none).map (j,·)).map (·.2)=l.filterMap λj=>o.getD j none:=by
  intro l
  induction l with
  | nil=>rfl
  | cons j l ih =>
   rw[eD,eD];cases o.getD j none with
   | none=>exact ih
   | some k=>exact congrArg (k :: ·) ih
 have e3:∀l:List Nat,((l.filterMap λj=>(o.getD j none).map (j,·)).map (·.1)).Sublist l:=by
  intro l
  induction l with
  | nil=>exact GM _
  | cons j l ih =>
   rw[eD];cases o.getD j none with
   | none=>exact ih.cons j
   | some k=>exact ih.cons_cons j
 refine⟨_,_,rfl,⟨?_,rfl,hl,R,kZ (e3 _) List.pairwise_lt_range⟩,rfl,rfl,rfl,?_⟩
 ·have h1:=congrArg fU (e2 (dY (mask+1)));have h2:=pm.length_eq;unfold IA at h2;simp only[aS,qO] at h1 h2;simp only[aY,aS];lia
 ·dsimp only;rw[e2];exact pm
theorem NY (hr:xs.toList.Pairwise (· < ·)):∀(fuel lo hi:Nat),lo<=hi->hi<=xs.size->hi-lo<=fuel->(∀i x,i<lo->xs[i]? = some x->x<j)->(∀i x,hi<=i->xs[i]? = some x->j<=x) ->
  NX xs j fuel lo hi<=xs.size/\(∀i x,i<NX xs j fuel lo hi->xs[i]? = some x->x<j)/\(∀i x,NX xs j fuel lo hi<=i->xs[i]? = some x->j<=x)
 | 0,lo,hi,h1,h2,h3,a,b=>by
  have:lo=hi:=by lia
  subst this;exact⟨h2,a,b⟩
 | fuel+1,lo,hi,h1,h2,h3,a,b=>by
  unfold NX;by_cases hl:lo<hi
  ·rw[if_pos hl];dsimp only;have hm:(lo+hi) / 2<xs.size:=(by lia);have em:xs[(lo+hi) / 2]? = some xs[(lo+hi) / 2]:=bH hm;have eg:xs.getD ((lo+hi) / 2) j=xs[(lo+hi) / 2]:=(by simp[jJ,hm]);have mono:∀(i k x y:Nat),i<k->xs[i]? = some x->xs[k]? = some y->x<y:=by
    intro i k x y mr ex ey;have hk:k<xs.size:=(iV.mp ey).1;have:=gY.mp hr i k (by simp;lia) (by simpa using hk) mr;rw[bH (by lia)] at ex;rw[bH hk] at ey;cases ex;cases ey;simpa using this
   rw[eg];split
   ·rename_i h;refine NY hr fuel _ _ (by lia) h2 (by lia) (λi x hq ex=>?_) b;by_cases he:i=(lo+hi) / 2
    ·subst he;rw[em] at ex;cases ex;exact h
    ·exact oH (mono i ((lo+hi) / 2) x _ (by lia) ex em) h
   ·rename_i h;refine NY hr fuel _ _ (by lia) (by lia) (by lia) a (λi x hq ex=>?_);by_cases he:i=(lo+hi) / 2
    ·subst he;rw[em] at ex;cases ex;lia
    ·have:=mono ((lo+hi) / 2) i _ x (by lia) em ex;lia
  ·rw[if_neg hl];have:lo=hi:=(by lia);subst this;exact⟨h2,a,b⟩
def HC (j:Nat) (hr:xs.toList.Pairwise (· < ·)):below xs j<=xs.size/\(∀i x,i<below xs j->xs[i]? = some x->x<j)/\(∀i x,below xs j<=i->xs[i]? = some x->j<=x) :=
 NY hr xs.size 0 xs.size (eV _) (bK _) (by lia) (λi x h=>absurd h (lH _)) λi x h e=>by
  have:=(iV.mp e).1;lia
def pC {α:Type} (xs:Array α) (p:Nat) (x:α) (hp:p<=xs.size):(insertAt xs p x).toList=xs.toList.take p++x::xs.toList.drop p:=by
 unfold insertAt;rw[Array.toList_append,qI,AJ,AJ];simp only[List.extract_eq_drop_take,tE,NO,iY,zZ];congr 2;rw[kF (by simp)]
def wF {α:Type} (xs:Array α) (p:Nat) (x:α) (hp:p<=xs.size):(insertAt xs p x).size=xs.size+1:=by
 rw[<-cI,pC xs p x hp];simp;lia
def yO {α:Type} (xs:Array α) (p:Nat) (x:α) (hp:p<=xs.size) (y:α):y∈(insertAt xs p x).toList↔y=x\/y∈xs.toList:=by
 rw[pC xs p x hp,cC,aJ];constructor
 ·rintro (h | h | h)
  ·exact fE (sD h)
  ·exact fD h
  ·exact fE (AU h)
 ·rintro (h | h)
  ·exact fE (fD h)
  ·rw[<-gM p xs.toList] at h;rcases cC.mp h with h | h
   ·exact fD h
   ·exact fE (fE h)
def Nk {n j:Nat} (T:cn t n) (he:t.slot j = .empty) (hr:n+1<=t.mask):cn (t.put j).1 (n+1)/\(t.put j).2=below t.place j/\below t.place j<=n/\(t.put j).1.mask=t.mask/\(t.put j).1.led=t.led/\(t.put j).1.plain=t.plain/\(t.put j).1.moves=t.moves:=by
 obtain⟨b1,b2,b3⟩:=HC j T.ris;have hn:t.place[below t.place j]?≠some j:=by
  intro h;unfold slot at he;dsimp only at he;rw[if_pos (by simpa using h)] at he;cases he
 have hd:(if has t.dummies j=true then eraseAt t.dummies (below t.dummies j) else t.dummies) = #[]:=by
  rw[T.dum];simp[has]
 refine⟨⟨?_,hd,hr,T.round,?_⟩,rfl,by rw[<-T.size];exact b1,rfl,rfl,rfl,rfl⟩
 ·show (insertAt t.place _ j).size=_;rw[wF _ _ _ b1,T.size]
 ·show (insertAt t.place _ j).toList.Pairwise _;rw[pC _ _ _ b1];refine jO.mpr ⟨kZ (GQ _ _) T.ris,cG.mpr ⟨λx hx=>?_,kZ (List.drop_sublist _ _) T.ris⟩,λx hx y hy=>?_⟩
  ·obtain⟨i,hi,e⟩:=dU hx;simp only[mC,cI] at hi;rw[GP] at e;have ex:t.place[below t.place j+i]? = some x:=(by rw[bH (by lia),<-e];simp);have:=b3 _ x (by lia) ex;rcases uD this with h | h
   ·exact h
   ·subst h;exfalso;cases i with
    | zero=>exact hn ex
    | succ i =>
     have hp:below t.place j<t.place.size:=(by lia);have e0:t.place[below t.place j]? = some t.place[below t.place j]:=bH hp;have g1:=b3 _ _ (bK _) e0;have g2:=gY.mp T.ris (below t.place j) (below t.place j+(i+1)) (by simpa using hp) (by simp;lia) (by lia);rw[bH (by lia)] at ex;injection ex with ex;simp at g2;lia
  ·obtain⟨i,hi,e⟩:=dU hx;simp only[fY,cI] at hi;rw[List.getElem_take] at e;have ex:t.place[i]? = some x:=(by rw[bH (by lia),<-e];simp);have lx:=b2 i x (by lia) ex;rcases aJ.mp hy with rfl | hy
   ·exact lx
   ·obtain⟨k,hk,e'⟩:=dU hy;simp only[mC,cI] at hk;rw[GP] at e';have ey:t.place[below t.place j+k]? = some y:=(by rw[bH (by lia),<-e'];simp);have:=b3 _ y (by lia) ey;lia
def tJ (t:SetTable) (k:Nat):Nat:=if k=0 then 0 else t.place.getD (k-1) 0+1
def Cq {n k:Nat} (T:cn t n) (hk:k<=n):below t.place (tJ t k)=k:=by
 obtain⟨b1,b2,b3⟩:=HC (tJ t k) T.ris;have mono:∀(i k x y:Nat),i<k->t.place[i]? = some x->t.place[k]? = some y->x<y:=by
  intro i k x y mr ex ey;have hk:k<t.place.size:=(iV.mp ey).1;have:=gY.mp T.ris i k (by simp;lia) (by simpa using hk) mr;rw[bH (by lia)] at ex;rw[bH hk] at ey;cases ex;cases ey;simpa using this
 have sz:=T.size;have o3:∀i,i<n->t.place[i]? = some (t.place.getD i 0):=by
  intro i hi;rw[bH (by lia)];have:i<t.place.size:=by lia
  simp[jJ,this]
 rcases Nat.lt_trichotomy (below t.place (tJ t k)) k with h | h | h
 ·exfalso;have:=b3 (k-1) _ (by lia) (o3 (k-1) (by lia));unfold tJ at this;rw[if_neg (by lia)] at this;lia
 ·exact h
 ·exfalso;have ek:=o3 k (by lia);have h1:=b2 k _ h ek;unfold tJ at h1;by_cases h0:k=0
  ·rw[if_pos h0] at h1;lia
  ·rw[if_neg h0] at h1;have:=mono (k-1) k _ _ (by lia) (o3 (k-1) (by lia)) ek;lia
def zv (mask:Nat) (p:Probe):Probe:=if p.more > 0 then { p with j:=p.j+1,more:=p.more-1 } else
 { p with j:=(leap mask p.i p.perturb).1,more:=runEnd mask (leap mask p.i p.perturb).1-(leap mask p.i p.perturb).1,i:=(leap mask p.i p.perturb).1,perturb:=(leap mask p.i p.perturb).2 }
def P8 (mask i pt:Nat):Probe:={ j:=i,more:=runEnd mask i-i,i,perturb:=pt,dummy:=none }
def xj (mask:Nat) (h:Int):Probe:=P8 mask (bits h % (mask+1)) (bits h)
inductive jg (mask:Nat) (O:Nat->Prop) (j:Nat):Probe->Prop
 | here {p:Probe} (e:p.j=j):jg mask O j p
 | on {p:Probe} (o:O p.j) (v:jg mask O j (zv mask p)):jg mask O j p
theorem jg.mono {mask j:Nat} {O O':Nat->Prop} {p:Probe} (h:jg mask O j p) (m:∀x,O x->O' x):jg mask O' j p:=by
 induction h with
 | here e=>exact .here e
 | on o v ih=>exact .on (m _ o) ih
def j_ (t:SetTable) (x:Nat):Prop:=t.slot x≠.empty
def ZL (e:t.slot j = .live i):j_ t j:=by unfold j_;rw[e];exact λz=>nomatch z
theorem UH (hd:t.dummies = #[]) (hashAt:Nat->Int) (h:Int):∀(fuel:Nat) (p:Probe) (m:Nat),NQ t p m->KP p m<fuel ->
  (∃j,IE t hashAt h fuel p=some (.empty j none)/\t.slot j = .empty/\jg t.mask (j_ t) j p/\∀j1 i1,t.slot j1 = .live i1->hashAt i1=h->¬jg t.mask (j_ t) j1 p) \/
  (∃j i next m',IE t hashAt h fuel p=some (.candidate j i next)/\t.slot j = .live i/\t.place[i]? = some j/\NQ t next m'/\KP next m'<KP p m/\(∀x,jg t.mask (j_ t) x next->jg t.mask (j_ t) x p) /\
   ∀j1 i1,t.slot j1 = .live i1->hashAt i1=h->jg t.mask (j_ t) j1 p->j1=j\/jg t.mask (j_ t) j1 next)
 | 0,_,_,_,h=>absurd h (lH _)
 | fuel+1,p,m,hi,hf=>by
  unfold IE;rcases slot_of hd p.j with e | ⟨i,e,ep⟩
  ·rw[e];dsimp only;rw[hi.1];refine fD ⟨_,rfl,e,.here rfl,λj1 i1 e1 _ v=>?_⟩;cases v with
   | here ej=>rw[ej,e1] at e;cases e
   | on o _=>exact o e
  ·rw[e];dsimp only;have oc:=ZL e;obtain⟨m',gq,hl⟩:=LG hi (by rw[e];exact λx=>nomatch x);split
   ·refine fE ⟨_,_,_,m',rfl,e,ep,gq,hl,λx v=>.on oc v,λj1 i1 e1 _ v=>?_⟩;cases v with
    | here ej=>exact .inl ej.symm
    | on _ v=>exact .inr v
   ·rename_i ne;have step:∀j1 i1,t.slot j1 = .live i1->hashAt i1=h->jg t.mask (j_ t) j1 p->jg t.mask (j_ t) j1 (t.advance p):=λj1 i1 e1 eh v=>by
     cases v with
     | here ej=>rw[ej,e1] at e;cases e;exact absurd (by rw[eh];simp) ne
     | on _ v=>exact v
    rcases UH hd hashAt h fuel (t.advance p) m' gq (by lia) with ⟨j,r,r1,r2,r3⟩ | ⟨j,i,nx,m'',r,r2,r3,r4,r5,r6,r7⟩
    ·exact fD ⟨j,r,r1,.on oc r2,λj1 i1 e1 eh v=>r3 j1 i1 e1 eh (step j1 i1 e1 eh v)⟩
    ·exact fE ⟨j,i,nx,m'',r,r2,r3,r4,by lia,λx v=>.on oc (r6 x v),λj1 i1 e1 eh v=>r7 j1 i1 e1 eh (step j1 i1 e1 eh v)⟩
def KZ {t:SetTable} (hr:t.place.toList.Pairwise (· < ·)) {i j:Nat} (e:t.place[i]? = some j):t.slot j = .live i:=by
 obtain⟨b1,b2,b3⟩:=HC j hr;obtain⟨hi,ei⟩:=iV.mp e;have le:below t.place j<=i:=by
  apply Nat.not_lt.mp;intro lt;exact gT _ (b2 i j lt e)
 have eq:below t.place j=i:=by
  rcases uD le with lt | eq
  ·exfalso;have hb:below t.place j<t.place.size:=(by lia);have g1:=b3 _ _ (bK _) (bH hb);have g2:=gY.mp hr (below t.place j) i (by simpa using hb) (by simpa using hi) lt;simp at g2;lia
  ·exact eq
 unfold slot;dsimp only;rw[eq,if_pos (by rw[e];simp)]
def WK (hd:t.dummies = #[]) (hr:t.place.toList.Pairwise (· < ·)):j_ t x↔x∈t.place.toList:=by
 constructor
 ·intro h;rcases slot_of hd x with e | ⟨i,_,e⟩
  ·exact absurd e h
  ·exact gD.mpr (zU e)
 ·intro h;obtain⟨i,hi,e⟩:=AH (gD.mp h);exact ZL (KZ hr (by rw[bH hi,e]))
def B2 {α:Type} (t:SetTable) (es:List (Int × α)):Prop:=∀x∈t.place.toList.zip es,jg t.mask (j_ t) x.1 (xj t.mask x.2.1)
def Ed {α β:Type} (A:List α) (B:List β) (hl:A.length=B.length) (p:Nat) (a:α) (b:β) {x:α × β} (h:x∈(A.take p++a::A.drop p).zip (B.take p++b::B.drop p)):x=(a,b)\/x∈A.zip B:=by
 rw[zF (by rw[fY,fY,hl]),kQ] at h;rcases cC.mp h with h | h
 ·refine .inr ?_;rw[<-gM p A,<-gM p B,zF (by rw[fY,fY,hl])];exact dL _ h
 ·rcases aJ.mp h with h | h
  ·exact .inl h
  ·refine .inr ?_;rw[<-gM p A,<-gM p B,zF (by rw[fY,fY,hl])];exact bG _ h
def Pc {α:Type} {es:Array (Int × α)} {e:Int × α} (T:cn t es.size) (T1:cn (t.put j).1 (es.size+1)) (c:B2 t es.toList) (v:jg t.mask (j_ t) j (xj t.mask e.1)):B2 (t.put j).1 (insertAt es (below t.place j) e).toList:=by
 obtain⟨b1,_,_⟩:=HC j T.ris;have pl:(t.put j).1.place=insertAt t.place (below t.place j) j:=rfl;have up:∀x,j_ t x->j_ (t.put j).1 x:=λx o=>(WK T1.dum T1.ris).mpr (by
  rw[pl,yO _ _ _ b1];exact .inr ((WK T.dum T.ris).mp o))
 intro x hx;rw[pl,pC _ _ _ b1,pC _ _ _ (by rw[<-T.size];exact b1)] at hx;rcases Ed _ _ (by rw[cI,cI,T.size]) _ _ _ hx with rfl | h
 ·exact v.mono up
 ·exact (c x h).mono up
def xv (mask:Nat) (owner:Array (Option Nat)) (x:Nat):Prop:=x<=mask/\owner.getD x (some 0)≠none
theorem Gm {mask i pt:Nat}:∀(k a m:Nat),k<=m->(∀b,b<k->O (a+b))->jg mask O (a+k) { j:=a,more:=m,i,perturb:=pt,dummy:=none }
 | 0,a,m,_,_=>.here rfl
 | k+1,a,m,h,o=>by
  refine .on (o 0 (by lia)) ?_;have e:zv mask { j:=a,more:=m,i,perturb:=pt,dummy:=none } = { j:=a+1,more:=m-1,i,perturb:=pt,dummy:=none }:=by
   unfold zv;dsimp only;rw[if_pos (by lia)]
  rw[e,show a+(k+1)=(a+1)+k by lia];exact Gm k (a+1) (m-1) (by lia) λb hb=>by rw[show a+1+b=a+(b+1) by lia];exact o (b+1) (by lia)
theorem Bl {mask i pt x:Nat}:∀(m a:Nat),(∀b,b<=m->O (a+b))->jg mask O x (P8 mask (leap mask i pt).1 (leap mask i pt).2)->jg mask O x { j:=a,more:=m,i,perturb:=pt,dummy:=none }
 | 0,a,o,v=>.on (o 0 (bK _)) v
 | m+1,a,o,v=>by
  refine .on (o 0 (by lia)) ?_;have e:zv mask { j:=a,more:=m+1,i,perturb:=pt,dummy:=none } = { j:=a+1,more:=m,i,perturb:=pt,dummy:=none }:=by
   unfold zv;dsimp only;rw[if_pos (by lia)];rfl
  rw[e];exact Bl m (a+1) (λb hb=>by rw[show a+1+b=a+(b+1) by lia];exact o (b+1) (by lia)) v
def Ch {n k:Nat} (h:(dY n).find? p=some k):∀b,b<k->p b=false:=by
 rw[List.find?_range_eq_some] at h;intro b hb;have:=h.2.2 b hb;simpa using this
theorem YT {mask:Nat} {owner:Array (Option Nat)}:∀(fuel i pt j:Nat),i<=mask->iT mask owner fuel i pt=some j->j<=mask/\jg mask (xv mask owner) j (P8 mask i pt)
 | 0,_,_,_,_,h=>by cases h
 | fuel+1,i,pt,j,hi,h=>by
  have re:i<=runEnd mask i/\runEnd mask i<=mask:=by unfold runEnd;split <;> lia
  unfold iT at h;cases hq:(dY (runEnd mask i+1-i)).find? λk=>(owner.getD (i+k) (some 0)).isNone with
  | some k =>
   rw[hq] at h;cases h;have h3:=fZ.mp (uY hq);refine⟨by lia,Gm k i _ (by lia) λb hb=>⟨by lia,?_⟩⟩;have:=Ch hq b hb;intro z;rw[z] at this;cases this
  | none =>
   rw[hq] at h;dsimp only at h;have ho:∀b,b<=runEnd mask i-i->xv mask owner (i+b):=λb hb=>⟨by lia,λz=>by
    have h0:=FK.mp hq b (fZ.mpr (by lia));rw[z] at h0;exact h0 rfl⟩
   obtain⟨r1,r2⟩:=YT fuel _ _ j (by unfold leap;exact jB (jK _ (by lia))) h;exact⟨r1,Bl _ i ho r2⟩
def Su (mask:Nat) (pre:List Int) (owner:Array (Option Nat)):Prop:=∀j k,owner.getD j none=some k->∃hk,pre[k]? = some hk/\jg mask (xv mask owner) j (xj mask hk)
def HV (mask:Nat) (acc:Option (Array (Option Nat) × Nat)) (h:Int):Option (Array (Option Nat) × Nat):=do
 let (owner,k) <-acc;let j <-iT mask owner (turns mask) (bits h % (mask+1)) (bits h)
 pure (owner.setIfInBounds j (some k),k+1)
theorem ZG {mask:Nat}:∀hs:List Int,hs.foldl (HV mask) none=none
 | []=>rfl
 | _::hs=>ZG hs
theorem Fk {mask:Nat}:∀(hs pre:List Int) (owner o':Array (Option Nat)) (n:Nat),hs.foldl (HV mask) (some (owner,pre.length))=some (o',n)->owner.size=mask+1->Su mask pre owner->o'.size=mask+1/\Su mask (pre++hs) o'
 | [],pre,owner,o',n,e,hz,I=>by cases e;rw[dN];exact⟨hz,I⟩
 | h::hs,pre,owner,o',n,e,hz,I=>by
  rw[pN] at e;cases ej:iT mask owner (turns mask) (bits h % (mask+1)) (bits h) with
  | none =>
   have:HV mask (some (owner,pre.length)) h=none:=by
    show (iT mask owner (turns mask) (bits h % (mask+1)) (bits h) >>= λj=>_)=_;rw[ej];rfl
   rw[this,ZG] at e;cases e
  | some j =>
   obtain⟨hj,vj⟩:=YT _ _ _ _ (jB (jK _ (by lia))) ej;have st:HV mask (some (owner,pre.length)) h=some (owner.setIfInBounds j (some pre.length),pre.length+1):=by
    show (iT mask owner (turns mask) (bits h % (mask+1)) (bits h) >>= λj=>_)=_;rw[ej];rfl
   have lt:j<owner.size:=(by lia);have same:∀x,x≠j->∀d,(owner.setIfInBounds j (some pre.length)).getD x d=owner.getD x d:=λx hx d=>by
    simp only[dS];rw[rE (Ne.symm hx)]
   have at_:∀d,(owner.setIfInBounds j (some pre.length)).getD j d=some pre.length:=λd=>by
    simp only[dS];rw[nN lt];rfl
   have up:∀x,xv mask owner x->xv mask (owner.setIfInBounds j (some pre.length)) x:=λx ⟨a,b⟩=>⟨a,by
    by_cases hx:x=j
    ·subst hx;rw[at_];exact λz=>nomatch z
    ·rw[same x hx];exact b⟩
   rw[st,show pre.length+1=(pre++[h]).length by simp] at e;have:=Fk hs (pre++[h]) _ o' n e (by simp[hz]) λj1 k e1=>by
    by_cases hx:j1=j
    ·subst hx;rw[at_] at e1;cases e1;exact⟨h,by simp,vj.mono up⟩
    ·rw[same j1 hx] at e1;obtain⟨hk,g1,g2⟩:=I j1 k e1;exact⟨hk,by rw[dJ (bC.mp g1).1];exact g1,g2.mono up⟩
   rw[iY] at this;exact this
theorem Lx {mask finger moves:Nat} {led plain:Bool} {hashes:Array Int} {t:SetTable} {ord:Array Nat} (e:laid mask finger moves led plain hashes=some (t,ord)) (T:cn t hashes.size) :
  ∀x∈t.place.toList.zip ord.toList,∃hk,hashes.toList[x.2]? = some hk/\jg t.mask (j_ t) x.1 (xj t.mask hk):=by
 unfold laid at e;cases ec:layClean mask hashes with
 | none=>rw[ec] at e;cases e
 | some o =>
  rw[ec] at e;have e:some _=some (t,ord):=e;have sd:((hashes.toList.foldl (HV mask) (some (zB (mask+1) none,0))).map (·.1))=some o:=by
   rw[<-ec];unfold layClean;rw[<-FE];rfl
  obtain⟨⟨o1,n⟩,e1,rfl⟩:=qR.mp sd;obtain⟨sz,I⟩:=Fk hashes.toList [] _ o1 n e1 (by simp) λj k z=>by
   simp only[dS] at z;by_cases hj:j<mask+1
   ·rw[bH (by simpa using hj)] at z;simp at z
   ·rw[qH (by simpa using hj)] at z;cases z
  cases e;dsimp only at T ⊢;intro x hx;rw[<-List.unzip_fst,<-List.unzip_snd] at hx;have hx:x∈(dY (mask+1)).filterMap λj=>(o1.getD j none).map (j,·):=by
   have z:=List.zip_unzip ((dY (mask+1)).filterMap λj=>(o1.getD j none).map (j,·));rw[<-z];exact hx
  obtain⟨j,hj,ex⟩:=pV.mp hx;obtain⟨k,ek,rfl⟩:=qR.mp ex;obtain⟨hk,g1,g2⟩:=I j k ek;refine⟨hk,by simpa using g1,g2.mono λy ⟨y1,y2⟩=>(WK T.dum T.ris).mpr ?_⟩;dsimp only;have lt:y<o1.size:=by lia
  simp only[dS,bH lt] at y2;cases ey:o1[y] with
  | none=>rw[ey] at y2;exact absurd rfl y2
  | some k' =>
   refine bF.mpr ⟨(y,k'),pV.mpr ⟨y,fZ.mpr (by lia),?_⟩,rfl⟩;simp only[dS,bH lt,ey];rfl
theorem Op {α β γ:Type} {f:β->Option γ}:∀(P:List α) (Q:List β),(∀q∈Q,∃y,f q=some y)->∀x∈P.zip (Q.filterMap f),∃q,(x.1,q)∈P.zip Q/\f q=some x.2
 | [],_,_,x,h=>by cases h
 | _::_,[],_,x,h=>by cases h
 | p::P,q::Q,hf,x,h=>by
  obtain⟨y,ey⟩:=hf q (.head _);rw[eD,ey] at h;rcases aJ.mp h with rfl | h
  ·exact⟨q,.head _,ey⟩
  ·obtain⟨q',h1,h2⟩:=Op P Q (λz hz=>hf z (.tail _ hz)) x h;exact⟨q',.tail _ h1,h2⟩
section
variable {prog:bR} {w:cT} {A:cZ} {E:aB->aG->Prop} {s:aG}
theorem Be (hk:IsTupleKey (intKind prog w) s.heap ks a) (q:Q false s):wpAny (model prog w) A (ofAClassStatement 8 (.ref a)) Q E s:=by
 have hT:=hk.typeIs;obtain⟨o,items,n,ho,_,hd,hi⟩:=hk;unfold ofAClassStatement;refine aA (tK hT ?_);dsimp only;rw[if_pos (by decide)];refine aA (aK ?_);simp only[eY,aN,if_false];refine aA (oC ho hd ?_)
 try dsimp only
 refine aA ?_;rw[<-FF];refine oS _ (λrest r s'=>r.1=none/\s'=s/\∀v∈rest,carriedByValue v=true) _ ?_ ?_ _ _ ⟨rfl,rfl,hi.byValue⟩
 ·rintro v rest r s' ⟨hr,rfl,cg⟩;have hv:=cg v cF;have e:ofAClassStatement 7 v=pure false:=by
   cases v with
   | ref a=>simp[carriedByValue] at hv
   | _=>first | rfl | (unfold ofAClassStatement;rfl)
  rw[e];refine aA (aK ?_);simp only[aN,if_false];exact aK ⟨rfl,rfl,λu xa=>cg u (aO _ xa)⟩
 ·rintro⟨r1,r2⟩ s' ⟨hr,rfl,_⟩;simp only at hr;subst hr;exact aK q
theorem Ea (hk:IsTupleKey (intKind prog w) s.heap ks a) (q:Q true s):wpAny (model prog w) A (hashByValue 8 (.ref a)) Q E s:=by
 have hT:=hk.typeIs;obtain⟨o,items,n,ho,_,hd,hi⟩:=hk;unfold hashByValue;refine aA (pT hT F.slot_tuple_hash.lookup ?_)
 try dsimp only
 refine aA (oC ho hd ?_)
 try dsimp only
 refine aA ?_;show wpAny _ _ (forIn items _ _) _ _ s;rw[<-FF];refine oS _ (λrest r s'=>r.1=none/\s'=s/\∃ks',ItemsAre (intKind prog w) ks' rest) _ ?_ ?_ _ _ ⟨rfl,rfl,ks,hi⟩
 ·rintro v rest r s' ⟨hr,rfl,ks',cg⟩;cases cg with
  | @cons k _ ks'' _ h1 h2 =>
   have e:hashByValue 7 v=pure true:=by
    obtain⟨t,rfl⟩:∃t,v = .int k t:=by
     cases v <;> simp[intKind,nV] at h1;exact⟨_,by rw[h1]⟩
    rfl
   rw[e];refine aA (aK ?_);simp only[eY,aN,if_false];exact aK ⟨rfl,rfl,_,h2⟩
 ·rintro⟨r1,r2⟩ s' ⟨hr,rfl,_⟩;simp only at hr;subst hr;exact aK q
theorem Sf {ks:List Int} {a:Addr} {stored:List aB} {Q:Bool->aG->Prop} (hk:IsTupleKey (intKind prog w) s.heap ks a) (hs:∀y∈stored,∃ks' b,y = .ref b/\IsTupleKey (intKind prog w) s.heap ks' b) (q:Q false s) :
  wpAny (model prog w) A (searchCouldBeSeen (.ref a) stored) Q E s:=by
 unfold searchCouldBeSeen;refine aA ?_;refine oS _ (λrest r s'=>r.1=none/\s'=s/\∀y∈rest,y∈stored) _ ?_ ?_ _ _ ⟨rfl,rfl,λ_ h=>h⟩
 ·rintro v rest r s' ⟨hr,rfl,cg⟩;obtain⟨ks',b,rfl,hb⟩:=hs v (cg v cF);have ug:∀y∈rest,y∈stored:=λu xa=>cg u (aO _ xa);dsimp only;by_cases hv:((a == b) || (carriedByValue (fS a) && carriedByValue (fS b)))=true
  ·rw[if_pos hv];exact aK ⟨rfl,rfl,ug⟩
  ·rw[if_neg hv];refine aA (AG hk ?_);simp only[eY,aN,if_false];refine aA (AG hb ?_);simp only[eY,aN,if_false];refine aA (Be hk ?_);simp only[aN,if_false];refine aA (Be hb ?_);simp only[aN,if_false];exact aK ⟨rfl,rfl,ug⟩
 ·rintro⟨r1,r2⟩ s' ⟨hr,rfl,_⟩;simp only at hr;subst hr;exact aK q
def jL (w:cT):Bool:=w.params.followText "set-order"
def Tx (prog:bR) (w:cT) (h:Heap) (es:Array (Int × aB)):Prop:=∀e∈es.toList,∃ks b,e=(tupleKeyHash (intKind prog w) ks,.ref b)/\IsTupleKey (intKind prog w) h ks b
def Jm (mask n:Nat):Prop:=(mask=7/\n<=4)\/(mask=31/\n<=18)\/(mask=127/\n<=76)
def jF (es:Array (Int × aB)) (ep:Nat) (t:SetTable):Obj:={ cls:=.type "set",dict:=none,data:=.set es ep t }
theorem cn.fits {n:Nat} (T:cn t n):t.fits n=true:=by
 unfold SetTable.fits fill;rw[T.dum,T.size];simp;exact T.room
theorem Ld {mask n:Nat} (h:Jm mask n):(mask % 2 == 0)=false:=by
 rcases h with ⟨rfl,_⟩ | ⟨rfl,_⟩ | ⟨rfl,_⟩ <;> rfl
def gi (prog:bR) (w:cT) (h:Heap):List (Int × aB)->List (List Int)->Prop
 | [],[]=>True
 | e::es,k::ks=>(∃b,e=(tupleKeyHash (intKind prog w) k,.ref b)/\IsTupleKey (intKind prog w) h k b)/\gi prog w h es ks
 | _,_=>False
theorem gi.get:∀{es:List (Int × aB)} {kss:List (List Int)} {i:Nat} {e:Int × aB},gi prog w h es kss->es[i]? = some e->∃k,kss[i]? = some k/\∃b,e=(tupleKeyHash (intKind prog w) k,.ref b)/\IsTupleKey (intKind prog w) h k b
 | _::_,k::_,0,_,K,e=>by cases e;exact⟨k,rfl,K.1⟩
 | _::es,_::ks,i+1,_,K,e=>gi.get (es:=es) (kss:=ks) (i:=i) K.2 e
 | [],_,_,_,_,e=>by cases e
theorem gi.len:∀{es:List (Int × aB)} {kss:List (List Int)},gi prog w h es kss->es.length=kss.length
 | [],[],_=>rfl
 | _::_,_::_,K=>congrArg (· + 1) (gi.len K.2)
theorem gi.mono:∀{es:List (Int × aB)} {kss:List (List Int)},gi prog w h es kss->(∀k b,(∃e∈es,e.2 = .ref b)->IsTupleKey (intKind prog w) h k b->IsTupleKey (intKind prog w) h' k b)->gi prog w h' es kss
 | [],[],_,_=>trivial
 | _::_,_::_,⟨⟨b,e,hb⟩,K⟩,m=>⟨⟨b,e,m _ b ⟨_,.head _,by rw[e]⟩ hb⟩,K.mono λk b ⟨x,hx,ex⟩ q=>m k b ⟨x,.tail _ hx,ex⟩ q⟩
theorem gi.perm (p:es.Perm mo):∀{kss:List (List Int)},gi prog w h es kss->∃s_,kss.Perm s_/\gi prog w h mo s_:=by
 induction p with
 | nil=>exact λ{kss} K=>⟨kss,.refl _,K⟩
 | cons x _ ih =>
  intro kss K;cases kss with
  | nil=>exact K.elim
  | cons k kss =>
   obtain⟨s_,p',K'⟩:=ih K.2;exact⟨k::s_,.cons k p',K.1,K'⟩
 | swap x y l =>
  intro kss K;cases kss with
  | nil=>exact K.elim
  | cons k kss =>
   cases kss with
   | nil=>exact K.2.elim
   | cons k' kss=>exact⟨k'::k::kss,.swap _ _ _,K.2.1,K.1,K.2.2⟩
 | trans _ _ zd ze =>
  intro kss K;obtain⟨k1,p1,K1⟩:=zd K;obtain⟨k2,p2,K2⟩:=ze K1;exact⟨k2,p1.trans p2,K2⟩
theorem UP {S a:Addr} {ep:Nat} (hu:A.units<cLine) (ho:s.heap.get? S=some (jF es ep t)) (T:cn t es.size) (hf:Jm t.mask es.size) (he:Tx prog w s.heap es)
  (hk:IsTupleKey (intKind prog w) s.heap ks a) (q1:(∃e∈es.toList,∃b,e.2 = .ref b/\IsTupleKey (intKind prog w) s.heap ks b)->Q (.there none) s) {kss:List (List Int)} (KL:gi prog w s.heap es.toList kss) (q2:∀j,t.slot j = .empty->jg t.mask (j_ t) j (xj t.mask (tupleKeyHash (intKind prog w) ks))->ks ∉ kss->Q (.free j false) s) :
  ∀(fuel:Nat) (js:Option Probe) (m:Nat),NQ t (js.getD (t.probeStart (tupleKeyHash (intKind prog w) ks))) m->KP (js.getD (t.probeStart (tupleKeyHash (intKind prog w) ks))) m<10*turns t.mask->KP (js.getD (t.probeStart (tupleKeyHash (intKind prog w) ks))) m<fuel ->
   (∀x,jg t.mask (j_ t) x (js.getD (t.probeStart (tupleKeyHash (intKind prog w) ks)))->jg t.mask (j_ t) x (xj t.mask (tupleKeyHash (intKind prog w) ks)))->(∀j1 i1:Nat,t.place[i1]? = some j1->kss[i1]? = some ks->jg t.mask (j_ t) j1 (js.getD (t.probeStart (tupleKeyHash (intKind prog w) ks)))) ->
   wpAny (model prog w) A (setSearchFrom S (.ref a) (tupleKeyHash (intKind prog w) ks) true fuel js) Q E s
 | 0,_,_,_,_,h,_,_=>absurd h (lH _)
 | fuel+1,js,m,hi,hm,hl,v1,v2=>by
  have hashAt:∀i1:Nat,kss[i1]? = some ks->(es[i1]?.map (·.1)).getD 0=tupleKeyHash (intKind prog w) ks:=λi1 e1=>by
   have lt:i1<es.toList.length:=(by rw[KL.len];exact (bC.mp e1).1);obtain⟨k,g1,b,g2,_⟩:=KL.get (aD lt);rw[e1] at g1;cases g1;have:es[i1]? = some es.toList[i1]:=(by rw[<-hZ,aD lt]);rw[this,g2];rfl
  unfold setSearchFrom;refine aA (hV ho rfl T.fits ?_);dsimp only;rw[if_neg (by unfold SetTable.gaveWay;rw[Ld hf];exact cM)];unfold probe;rcases UH T.dum _ (tupleKeyHash (intKind prog w) ks) (10*turns t.mask) _ m hi hm with ⟨j,e,ej,w1,w2⟩ | ⟨j,i,next,m',e,ej,yh,gq,w6,w1,w2⟩
  ·rw[e];dsimp only;refine aK (q2 j ej (v1 _ w1) λqi=>?_);obtain⟨i1,lt,e1⟩:=dU qi;have e1:kss[i1]? = some ks:=(by rw[aD lt,e1]);have lp:i1<t.place.size:=(by rw[T.size,<-cI,KL.len];exact lt);have qx:t.place[i1]? = some t.place[i1]:=bH lp;exact w2 _ i1 (KZ T.ris qx) (hashAt i1 e1) (v2 _ i1 qx e1)
  ·rw[e];dsimp only;have S4:i<es.size:=by
    have:=(iV.mp yh).1;rw[T.size] at this;exact this
   have ei:es[i]? = some es[i]:=bH S4;have mi:es[i]∈es.toList:=(by simp);obtain⟨ks',N5,b,ee,hb⟩:=KL.get (i:=i) (e:=es[i]) (by rw[hZ];exact ei);have rest:wpAny (model prog w) A (match es[i]? with
    | some (fst,y)=>do
     let equal <-holding [y] (eqBool y (fS a));let P7 <-setState S
     if (true && equal)=true then pure (NU none)
      else
       match P7.2.snd.sameMemory t.moves t.mask with
       | some same =>
        let z7 <-match if same=true then P7.2.snd.slot j else Slot.empty with
        | Slot.live i' =>
         match P7.fst[i']? with
         | some (fst,y')=>do pure (if <-isSame y' y then some i' else none)
         | none=>pure none
        | _=>pure none
        match z7 with
        | none=>do
         rule "set.search.anew"
         setSearchFrom S (fS a) (tupleKeyHash (intKind prog w) ks) true fuel none
        | some i' =>
         if equal=true then pure (NU (some i'))
         else setSearchFrom S (fS a) (tupleKeyHash (intKind prog w) ks) true fuel (some next)
       | _=>unsupported "set.changed-during-lookup:is-the-new-block-at-the-old-address"
    | _=>unsupported "internal:set-entry") Q E s:=by
    rw[ei,ee];dsimp only;refine aA (fN (wpAny_eqBool_tuple hu hb hk ?_));refine aA (hV ho rfl T.fits ?_);dsimp only;by_cases L_:ks'=ks
    ·subst L_;rw[if_pos (by simp)];exact aK (q1 ⟨_,mi,b,by rw[ee],hb⟩)
    ·rw[if_neg (by simp[L_])];have sm:t.sameMemory t.moves t.mask=some true:=(by unfold sameMemory;rw[if_pos (by simp)]);rw[sm];dsimp only;rw[if_pos rfl,ej];dsimp only;rw[ei,ee];dsimp only;refine aA ?_;have same:isSame (.ref b) (.ref b)=pure true:=by
      show (if (b == b)=true then pure true else _)=_;rw[if_pos (by simp)]
     rw[same];refine aK (aA (aK ?_));rw[if_pos rfl];dsimp only;rw[if_neg (by simp[L_])];refine UP hu ho T hf he hk q1 KL q2 fuel (some next) m' gq (oH w6 hm) (by simp only[mF];lia) (λx v=>v1 x (w1 x v)) λj1 i1 e1 k1=>?_;have sl:=KZ T.ris e1;rcases w2 j1 i1 sl (hashAt i1 k1) (v2 j1 i1 e1 k1) with rfl | h
     ·rw[sl] at ej;cases ej;rw[k1] at N5;cases N5;exact absurd rfl L_
     ·exact h
   cases o4:t.led with
   | true =>
    simp only[eY,aN,if_false];exact rest
   | false =>
    simp only[nQ,if_true];refine aA (Sf hk ?_ ?_)
    ·intro y hy;obtain⟨e0,he0,rfl⟩:=bF.mp hy;have:=(Array.mem_filter.mp (gD.mp he0)).1;obtain⟨ks1,b1,e1,h1⟩:=he e0 (gD.mpr this);exact⟨ks1,b1,by rw[e1],h1⟩
    ·simp only[aN,if_false];exact rest
structure ii (prog:bR) (w:cT) (h:Heap) (S:Addr) (es:Array (Int × aB)):Prop where
 tab:∃ep t,h.get? S=some (jF es ep t)/\cn t es.size/\Jm t.mask es.size/\t.led = !jL w/\t.plain=true/\B2 t es.toList
 els:Tx prog w h es
 dis:∃kss,gi prog w h es.toList kss/\kss.Nodup
theorem qD {S b:Addr} {ep:Nat} (hS:h.get? S=some (jF es ep t)) (up:∀b o,b≠S->h.get? b=some o->h'.get? b=some o) (hk:IsTupleKey (intKind prog w) h ks b):IsTupleKey (intKind prog w) h' ks b:=by
 obtain⟨o,items,n,ho,hc,hd,hi⟩:=hk;refine⟨o,items,n,up b o ?_ ho,hc,hd,hi⟩;rintro rfl;rw[hS] at ho;cases ho;exact nomatch hd
theorem YV {n:Nat} (h:n<100):NV n=n*4:=by
 unfold NV;rw[if_neg (by lia)]
theorem Dx {S a:Addr} (hu:A.units<cLine) (H:ii prog w s.heap S es) (hk:IsTupleKey (intKind prog w) s.heap ks a) (hn:es.size<76)
  (q:∀b h' tk mo,ii prog w h' S mo->(∀y∈mo.toList,y∈es.toList\/y.2 = .ref a)->(∀y∈es.toList,y∈mo.toList)->(∃y∈mo.toList,∃b,y.2 = .ref b/\IsTupleKey (intKind prog w) h' ks b)->mo.size<=es.size+1 ->
   (∀b o,b≠S->s.heap.get? b=some o->h'.get? b=some o)->h'.objs.size=s.heap.objs.size->s.toks<=tk->Q b { s with heap:=h',toks:=tk }) :
  wpAny (model prog w) A (setAdd S (.ref a)) Q E s:=by
 obtain⟨⟨ep,t,ho,T,hf,o4,h8,vh⟩,vm,kss,KL,knd⟩:=H;unfold setAdd;refine fN (aA (wpAny_pyHash_tuple hu hk ?_));unfold setAddHashed;refine fN ?_;unfold setAddHashedIn;refine aA (hV (s:={ s with toks:=s.toks+(ks.length+1) }) ho rfl T.fits ?_);dsimp only;have nb:byScan (.ref a) es=false:=by unfold byScan;simp[Value.scannable]
 rw[nb];simp only[aN,if_false];obtain⟨m,hi,hm⟩:=UQ T (tupleKeyHash (intKind prog w) ks);have hm2:KP (t.probeStart (tupleKeyHash (intKind prog w) ks)) m<100000:=by
  refine bQ hm ?_;unfold turns;rcases hf with ⟨e,_⟩ | ⟨e,_⟩ | ⟨e,_⟩ <;> rw[e] <;> decide
 unfold setSearch;refine aA (UP (s:={ s with toks:=s.toks+(ks.length+1) }) hu ho T hf vm hk ?_ KL ?_ 100000 none m hi hm hm2 (λx v=>v) ?_)
 ·rintro⟨e,he,b,e2,hb⟩;dsimp only;refine aK ?_;exact q false s.heap _ es ⟨⟨ep,t,ho,T,hf,o4,h8,vh⟩,vm,kss,KL,knd⟩ (λy hy=>fD hy) (λy hy=>hy) ⟨e,he,b,e2,hb⟩ (by lia) (λb o _ e=>e) rfl (by show s.toks<=s.toks+_;lia)
 ·intro j hj U7 hnk;dsimp only;refine aA (hV (s:={ s with toks:=s.toks+(ks.length+1) }) ho rfl T.fits ?_);dsimp only;have room:es.size+1<=t.mask:=by rcases hf with ⟨e,h⟩ | ⟨e,h⟩ | ⟨e,h⟩ <;> lia
  obtain⟨T1,p1,p2,p3,p4,p5,p6⟩:=Nk T hj room;rw[p5,h8];simp only[if_true];refine aA (Ea (s:={ s with toks:=s.toks+(ks.length+1) }) hk ?_);simp only[if_true];rw[p1];have sz:=wF es (below t.place j) (tupleKeyHash (intKind prog w) ks,fS a) p2;have mem:=yO es (below t.place j) (tupleKeyHash (intKind prog w) ks,fS a) p2;have ya:=Pc (e:=(tupleKeyHash (intKind prog w) ks,fS a)) T T1 vh U7;have jr:=sJ es (below t.place j) (tupleKeyHash (intKind prog w) ks,fS a);rw[qI] at jr;have jr:=(jr.trans (rL (l₁:=es.toList) (l₂:=[_]))).symm;generalize insertAt es (below t.place j) (tupleKeyHash (intKind prog w) ks,fS a)=f9 at sz mem ya jr;refine aA (vR (s:={ s with toks:=s.toks+(ks.length+1) }) ho rfl ?_ (by rw[sz,fQ];lia));have up1:∀b o,b≠S->s.heap.get? b=some o->(s.heap.update S (mP f9 (t.put j).1)).get? b=some o:=λb o hb e=>(cW _ _ (Ne.symm hb)).trans e;obtain⟨qx,g1⟩:∃qx,(s.heap.update S (mP f9 (t.put j).1)).get? S=some (jF f9 qx (t.put j).1):=⟨_,fK _ ho rfl⟩;have z1:(s.heap.update S (mP f9 (t.put j).1)).objs.size=s.heap.objs.size:=(lX ..).1;generalize s.heap.update S (mP f9 (t.put j).1)=h1 at up1 g1 z1;have yg:Tx prog w h1 f9:=by
   intro e he;rcases (mem e).mp he with rfl | he
   ·exact⟨ks,a,rfl,qD ho up1 hk⟩
   ·obtain⟨ks',b,r1,r2⟩:=vm e he;exact⟨ks',b,r1,qD ho up1 r2⟩
  obtain⟨zi,rf,Y5⟩:=gi.perm jr (kss:=ks::kss) ⟨⟨a,rfl,qD ho up1 hk⟩,KL.mono λk b _ q=>qD ho up1 q⟩;have zh:zi.Nodup:=rf.nodup_iff.mp (eS.mpr ⟨hnk,knd⟩);have EE:cn (t.put j).1 f9.size:=by rw[sz];exact T1
  have ub:(t.put j).1.fill=f9.size:=by unfold fill;rw[EE.size,EE.dum];simp
  by_cases tf:(t.put j).1.tooFull=true
  ·rw[tf];simp only[nQ,Bool.and_self,if_true];have X7:=tf;unfold tooFull at X7;rw[ub,p3,sz] at X7;simp only[ge_iff_le,decide_eq_true_eq] at X7;have nh:(t.mask=7/\es.size=4)\/(t.mask=31/\es.size=18):=(by rcases hf with ⟨e,h⟩ | ⟨e,h⟩ | ⟨e,h⟩ <;> lia);unfold setRelay;refine aA (aA (hV (s:={ s with heap:=h1,toks:=s.toks+(ks.length+1) }) g1 rfl EE.fits ?_));dsimp only;have hw:SetTable.sizeAbove (grown (es.size+1))=(if t.mask=7 then 32 else 128):=by
    rw[YV (by lia)];rcases nh with ⟨e,h⟩ | ⟨e,h⟩ <;> rw[e,h] <;> decide
   rw[if_neg (by rw[hw,fQ];split <;> decide)];have R:gj ((if t.mask=7 then 31 else 127)+1):=by
    split
    ·exact Se
    ·exact Oa
   obtain⟨t2,order,l1,T2,l3,l4,l5,l6⟩:=Ql R (t.put j).1.finger ((t.put j).1.movedTo (if t.mask=7 then 31 else 127)) (t.put j).1.led (t.put j).1.plain (f9.map (·.1)) (by rw[AI,sz];rcases nh with ⟨e,h⟩ | ⟨e,h⟩ <;> rw[e,h] <;> decide);have er:(t.put j).1.relaid (f9.map (·.1)) (grown (es.size+1))=some (t2,order):=by
    unfold relaid;rw[hw];have:(if t.mask=7 then 32 else 128)-1=(if t.mask=7 then 31 else 127):=(by split <;> rfl);rw[this];exact l1
   rw[er];rw[AI] at T2 l6;have Q0:(order.filterMap (f9[·]?)).toList.Perm f9.toList:=by
    rw[xP];refine (l6.filterMap _).trans ?_;have:(dY f9.size).filterMap (f9[·]?)=f9.toList:=by
     apply GO;intro i;have key:∀n,n<=f9.size->(dY n).filterMap (f9[·]?)=f9.toList.take n:=by
      intro n
      induction n with
      | zero=>intro _;rfl
      | succ n ih =>
       intro hn;rw[MC,List.filterMap_append,ih (by lia)];have:f9[n]? = some f9[n]:=bH (by lia);simp only[eD,this,List.filterMap_nil];rw[kP];simp[show n<f9.size by lia]
     rw[key _ (bK _),<-cI,rQ]
    rw[this]
   have l_:(order.filterMap (f9[·]?)).size=f9.size:=(by rw[<-cI,Q0.length_eq,cI]);have gz:((order.filterMap (f9[·]?)).size != f9.size)=false:=(by rw[l_];simp);refine aA ?_;show wpAny _ _ (if ((order.filterMap (f9[·]?)).size != f9.size)=true then (unsupported "internal:set-table-lost-an-element" >>= λ_=>pure (order.filterMap (f9[·]?),t2)) else pure (order.filterMap (f9[·]?),t2)) _ _ _;rw[gz];simp only[aN,if_false];refine aK ?_;dsimp only;have qo:∀y,y∈(order.filterMap (f9[·]?)).toList↔y∈f9.toList:=λy=>Q0.mem_iff;have yb:B2 t2 (order.filterMap (f9[·]?)).toList:=by
    intro x hx;rw[xP] at hx;obtain⟨k,h1,h2⟩:=Op _ _ (λk qi=>by
     have:=fZ.mp (l6.mem_iff.mp qi);exact⟨_,bH this⟩) x hx
    obtain⟨qi,g1,g2⟩:=Lx l1 (by rw[AI];exact T2) _ h1;have:qi=x.2.1:=by
     have h2:f9[k]? = some x.2:=h2;rw[hZ,Array.getElem?_map,h2] at g1;exact (dO g1).symm
    rw[<-this];exact g2
   obtain⟨V_,V9,Y6⟩:=gi.perm Q0.symm Y5;generalize order.filterMap (f9[·]?)=qd at l_ qo yb Y6;refine vR (s:={ s with heap:=h1,toks:=s.toks+(ks.length+1) }) g1 rfl ?_ (by rw[l_,sz,fQ];lia);have jm:∀b o,b≠S->s.heap.get? b=some o->(h1.update S (mP qd t2)).get? b=some o:=λb o hb e=>(cW _ _ (Ne.symm hb)).trans (up1 b o hb e);have z_:∀b o,b≠S->h1.get? b=some o->(h1.update S (mP qd t2)).get? b=some o:=λb o hb e=>(cW _ _ (Ne.symm hb)).trans e;obtain⟨P_,g2⟩:∃P_,(h1.update S (mP qd t2)).get? S=some (jF qd P_ t2):=⟨_,fK _ g1 rfl⟩;have z2:(h1.update S (mP qd t2)).objs.size=s.heap.objs.size:=((lX ..).1).trans z1;refine aK (q true (h1.update S (mP qd t2)) _ qd ⟨⟨P_,t2,g2,by rw[l_];exact T2,?_,by rw[l4,p4];exact o4,by rw[l5,p5];exact h8,yb⟩,?_,V_,Y6.mono λk b _ q=>qD g1 z_ q,V9.nodup_iff.mp zh⟩ (λy hy=>?_) (λy hy=>(qo y).mpr ((mem y).mpr (fE hy))) ⟨_,(qo _).mpr ((mem _).mpr (fD rfl)),a,rfl,qD ho jm hk⟩ (by lia) jm z2 (by show s.toks<=s.toks+_;lia))
   ·rw[l3,l_,sz];unfold Jm;rcases nh with ⟨e,h⟩ | ⟨e,h⟩ <;> rw[e,h] <;> decide
   ·intro e he;obtain⟨ks',b,r1,r2⟩:=yg e ((qo e).mp he);exact⟨ks',b,r1,qD g1 z_ r2⟩
   ·rcases (mem y).mp ((qo y).mp hy) with rfl | h
    ·exact fE rfl
    ·exact fD h
  ·have O2:(t.put j).1.tooFull=false:=(by simpa using tf);rw[O2];simp only[AK,aN,if_false];refine aK (q true h1 _ f9 ⟨⟨qx,_,g1,EE,?_,by rw[p4];exact o4,by rw[p5];exact h8,ya⟩,yg,zi,Y5,zh⟩ (λy hy=>?_) (λy hy=>(mem y).mpr (fE hy)) ⟨_,(mem _).mpr (fD rfl),a,rfl,qD ho up1 hk⟩ (by lia) up1 z1 (by show s.toks<=s.toks+_;lia))
   ·unfold tooFull at O2;rw[ub,p3,sz] at O2;simp only[ge_iff_le,decide_eq_false_iff_not] at O2;rw[p3,sz];unfold Jm;rcases hf with ⟨e,h⟩ | ⟨e,h⟩ | ⟨e,h⟩ <;> lia
   ·rcases (mem y).mp hy with rfl | h
    ·exact fE rfl
    ·exact fD h
 ·intro j1 i1 e1 k1;have lt:i1<es.toList.length:=by rw[KL.len];exact (bC.mp k1).1
  obtain⟨k,g1,b,g2,_⟩:=KL.get (aD lt);rw[k1] at g1;cases g1;have:=vh (j1,es.toList[i1]) (List.mem_iff_getElem?.mpr ⟨i1,by rw[uX];exact⟨by rw[hZ];exact e1,aD lt⟩⟩);rw[g2] at this;exact this
end
end
section
open PySem PySem.SetTable PyProof.Rows
section
variable {prog:bR} {w:cT} {s:aG}
theorem ii.other {S:Addr} (H:ii prog w h S es) (up:∀b o,h.get? b=some o->(∃e∈es.toList,e.2 = .ref b)\/b=S->h'.get? b=some o):ii prog w h' S es:=by
 obtain⟨⟨ep,t,ho,r⟩,els,kss,KL,nd⟩:=H;refine⟨⟨ep,t,up _ _ ho (fE rfl),r⟩,λe he=>?_,kss,KL.mono λk b hb ⟨o,items,n,h1,h2,h3,h4⟩=>⟨o,items,n,up b o h1 (fD hb),h2,h3,h4⟩,nd⟩;obtain⟨ks,b,e1,o,items,n,h1,h2,h3,h4⟩:=els e he;exact⟨ks,b,e1,o,items,n,up b o h1 (fD ⟨e,he,by rw[e1]⟩),h2,h3,h4⟩
structure gl (prog:bR) (w:cT) (items:Array aB) (key:Nat->List Int) (S:Addr) (i:Nat) (h:Heap):Prop where
 ex:∃es,ii prog w h S es/\(∀y∈es.toList,∃j,j<i/\items[j]? = some y.2)/\(∀j,j<i->∃y∈es.toList,∃b,y.2 = .ref b/\IsTupleKey (intKind prog w) h (key j) b)/\es.size<=i
theorem Oe (hh:A.in1.handled=none) (gz:l≠I) (hu:A.in1.units<cLine) (S:Addr) (sf:S≠I) (R4:S≠l)
  (hi:∀i v,items[i]? = some v->∃a,v = .ref a/\IsTupleKey (intKind prog w) h0 (key i) a/\a≠S/\a≠I) (hb:items.size<=76) :
  ∀(k i:Nat) (s:aG),items.size-i=k->i<=items.size->s.heap.IsListIter I l i/\s.heap.IsList l items->gl prog w items key S i s.heap ->
   (∀b o,b≠S->b≠I->h0.get? b=some o->s.heap.get? b=some o) ->
   (∀h' tk,gl prog w items key S items.size h'->(∀b o,b≠S->b≠I->h0.get? b=some o->h'.get? b=some o)->R (.ok (.ret .none)) { s with heap:=h',toks:=tk }) ->
   codeAny (model prog w) A (.builtin "set.update.loop" ⟨[.ref S,.ref I],[]⟩) R s:=by
 have W:=NW (prog:=prog) (w:=w) (A:=A.in1) hh I l gz items;have wr:∀{b:Addr},b≠I->b ∉ [I]:=λh=>by simpa using h
 have ql:∀{h:Heap} {i:Nat} {a:Addr},(∀b o,b≠S->b≠I->h0.get? b=some o->h.get? b=some o)->IsTupleKey (intKind prog w) h0 (key i) a->a≠S->a≠I->IsTupleKey (intKind prog w) h (key i) a:=by
  intro h i a up hk n1 n2;obtain⟨o,its,n,h1,h2,h3,h4⟩:=hk;exact⟨o,its,n,up a o n1 n2 h1,h2,h3,h4⟩
 have move:∀{h h':Heap} {i:Nat},i<=items.size->gl prog w items key S i h->(∀b o,b≠I->h.get? b=some o->h'.get? b=some o)->gl prog w items key S i h':=by
  intro h h' i gq ⟨es,D,d1,d2,d3⟩ up;refine⟨es,D.other λb o e hm=>up b o ?_ e,d1,λj hj=>?_,d3⟩
  ·rcases hm with ⟨y,hy,ey⟩ | rfl
   ·obtain⟨j,hj,ej⟩:=d1 y hy;obtain⟨a,ea,_,_,na⟩:=hi j y.2 ej;rw[ey] at ea;cases ea;exact na
   ·exact sf
  ·obtain⟨y,hy,b,e1,o,its,n,h1,h2,h3,h4⟩:=d2 j hj;refine⟨y,hy,b,e1,o,its,n,up b o ?_ h1,h2,h3,h4⟩;obtain⟨j',qh,ej⟩:=d1 y hy;obtain⟨a,ea,_,_,na⟩:=hi j' y.2 ej;rw[e1] at ea;cases ea;exact na
 intro k
 induction k with
 | zero =>
  intro i s hk gq st D up hR;have S5:i=items.size:=by lia
  subst S5;refine fO F.entry_set_update_loop ?_;rw[eU F.plain_set_update_loop _];show wpAny _ A.in1 (pyNext (.ref I) >>= _) _ _ s;refine aA (W.done s _ _ st λh' tk kp=>?_);show wpAny _ A.in1 (ret fF) _ _ _;exact aK (hR h' tk (move (bK _) D λb o hb e=>kp b o (wr hb) e) λb o n1 n2 e=>kp b o (wr n2) (up b o n1 n2 e))
 | succ k ih =>
  intro i s hk gq st D up hR;have c9:i<items.size:=by lia
  refine fO F.entry_set_update_loop ?_;rw[eU F.plain_set_update_loop _];show wpAny _ A.in1 (pyNext (.ref I) >>= _) _ _ s;refine aA (W.item i s _ _ c9 st λv h' tk hv du kp=>?_);obtain⟨a,rfl,hka,na1,na2⟩:=hi i v hv;obtain⟨es,D1,d1,d2,d3⟩:=move gq D (λb o hb e=>kp b o (wr hb) e);have O5:∀b o,b≠S->b≠I->h0.get? b=some o->h'.get? b=some o:=λb o n1 n2 e=>kp b o (wr n2) (up b o n1 n2 e);show wpAny _ A.in1 (holding [fS a] (setAdd S (.ref a)) >>= _) _ _ _;refine aA (fN ?_);refine Dx (s:={ s with heap:=h',toks:=tk }) hu D1 (ql O5 hka na1 na2) (by lia) λ_ h2 tk2 qd D2 m1 m2 m3 m4 jm z2 _=>?_;refine aK ⟨iU F.plain_set_update_loop _,ih (i+1) _ (by lia) c9 ⟨du.1.at λo e=>jm _ o (Ne.symm sf) e,du.2.at λo e=>jm _ o (Ne.symm R4) e⟩ ?_ (λb o n1 n2 e=>jm b o n1 (O5 b o n1 n2 e)) λh3 X8 D3 g7=>hR h3 X8 D3 g7⟩;refine⟨qd,D2,λy hy=>?_,λj hj=>?_,by lia⟩
  ·rcases m1 y hy with h | h
   ·obtain⟨j,hj,ej⟩:=d1 y h;exact⟨j,by lia,ej⟩
   ·exact⟨i,by lia,by rw[h];exact hv⟩
  ·by_cases hji:j=i
   ·subst hji;exact m3
   ·obtain⟨y,hy,b,e1,o,its,n,h1,ve,h3,h4⟩:=d2 j (by lia);refine⟨y,m2 y hy,b,e1,o,its,n,jm b o ?_ h1,ve,h3,h4⟩;obtain⟨j',qh,ej⟩:=d1 y hy;obtain⟨a',ea,_,na,_⟩:=hi j' y.2 ej;rw[e1] at ea;cases ea;exact na
theorem LW (a:aB) (h:Q₁ (.ref s.heap.objs.size) { s with heap:=s.heap.push (jF #[] 0 (.fresh 0 0 (!jL w))) }) :
  codeAny (model prog w) A (.call (.builtin "set.__new__") ⟨[.type "set",a],[]⟩) (wants Q₁ E) s:=by
 apply zJ;show wpAny _ A.in1 (checkBuiltinCall "set.__new__" ⟨[.type "set",a],[]⟩ >>= λ_=>again (.builtin "set.__new__" ⟨[.type "set",a],[]⟩)) _ _ s;apply aA;refine oB (PySem.F.newCall_set_1 a) (aK ⟨iU AA _,fO PySem.F.entry_set_new ?_⟩);rw[eU AA _];unfold Builtin.«set.__new__» Builtin.Frozenset.newClass;have zb:=sub_set_self;obtain⟨hp,g,d,tk,os⟩:=s;dsimp only;wp_walk;refine oR (aK ?_);dsimp only;simp only[newObj];apply aA;refine wpAny_alloc (aK ?_);exact aK h
theorem US (b:Bool):cn (.fresh 0 0 b) 0:=⟨rfl,rfl,eV _,Ww,lM⟩
def EB (l:Addr):Obj:={ cls:=.type "list_iterator",data:=.fields #[.ref l,.int 0 0] }
theorem SA (hh:A.handled=none) (hu:A.units+8<cLine) (hl:s.heap.IsList l items)
  (hi:∀i v,items[i]? = some v->∃a,v = .ref a/\IsTupleKey (intKind prog w) s.heap (key i) a) (hb:items.size<=76)
  (q:∀h' tk,gl prog w items key s.heap.objs.size items.size h'->(∀b o,s.heap.get? b=some o->h'.get? b=some o)->Q (.ref s.heap.objs.size) { s with heap:=h',toks:=tk }) :
  wpAny (model prog w) A (call (.type "set") [.ref l]) Q E s:=by
 obtain⟨c,tl,T4⟩:=PySem.F.called_set.mro;have y7:=PySem.F.called_set.made;have zb:=PySem.F.called_set.sub;apply RF;apply zJ;show wpAny _ _ (callAny (.type "set") _) _ _ _;refine aK ⟨FG _ (by decide +kernel),fO wR ?_⟩;rw[FA (AF "set" [.ref l] []) rfl];have h1:=PySem.F.called_set.notType;have h2:=PySem.F.called_set.canCreate;have hct:=yE (.ref l)
 repeat (any_goals (first | assumption | wp_step))
 refine oK (LW (.ref l) (E:=E) (Q₁:=λobj s₁=>obj = .ref s.heap.objs.size/\s₁ = { s with heap:=s.heap.push (jF #[] 0 (.fresh 0 0 (!jL w))) }) ⟨rfl,rfl⟩) λr s₁ hr=>?_
 match r,hr with
 | .error e,hr=>exact hr
 | .ok (.ret obj),hr =>
  obtain⟨rfl,rfl⟩:=hr;have hS:(s.heap.push (jF #[] 0 (.fresh 0 0 (!jL w)))).get? s.heap.objs.size=some (jF #[] 0 (.fresh 0 0 (!jL w))):=cL _ rfl;have zS:(s.heap.push (jF #[] 0 (.fresh 0 0 (!jL w)))).objs.size=s.heap.objs.size+1:=nR ..;have kS:∀b o,s.heap.get? b=some o->(s.heap.push (jF #[] 0 (.fresh 0 0 (!jL w)))).get? b=some o:=λb o e=>aP _ e;have hT:DY { s with heap:=s.heap.push (jF #[] 0 (.fresh 0 0 (!jL w))) } (.ref s.heap.objs.size) "set":=⟨_,hS,rfl⟩;have hli:=PySem.F.called_set.init.lookup;have hbi:=PySem.F.called_set.init.bind (.ref s.heap.objs.size)
  repeat (any_goals (first | assumption | wp_step))
  generalize s.heap.push (jF #[] 0 (.fresh 0 0 (!jL w)))=h2 at hS zS kS hT;refine oK (BG (R:=wants (λr s₂=>r = .none/\∃h' tk,s₂ = { s with heap:=h',toks:=tk }/\gl prog w items key s.heap.objs.size items.size h'/\(∀b o,s.heap.get? b=some o->h'.get? b=some o)) E) PySem.F.called_set.init.plain yB (JO hT ?_)) λr₂ s₂ hr₂=>?_
  ·obtain⟨ol,za,jq,nl,yt⟩:=hl;obtain⟨W9,zx,zw,v_⟩:=ol;simp only at jq yt;subst jq;subst yt;have vz:=kS _ _ za;have U1:=AZ;have U0:=uE;have gz:(gZ "list" == gZ "dict")=false:=(by decide);have w5:h2.IsList l items:=⟨_,vz,rfl,nl,rfl⟩;have lt:l<s.heap.objs.size:=aX za;unfold Builtin.«set.__init__» noKeywords sG;generalize Q_:pyIter=PI;unfold jF at hS
   wp_walk
   subst Q_;refine rD w5 ?_;apply aA;apply CK;rw[zS];have zI:(h2.push (EB l)).get? (s.heap.objs.size+1)=some (EB l):=(by rw[<-zS];exact cL _ rfl);have kI:∀b o,h2.get? b=some o->(h2.push (EB l)).get? b=some o:=λb o e=>aP _ e;show codeAny _ _ _ _ { s with heap:=h2.push (EB l) };generalize h2.push (EB l)=h3 at zI kI;have ne1:∀{b:Addr} {o:Obj},s.heap.get? b=some o->b≠s.heap.objs.size/\b≠s.heap.objs.size+1:=λe=>⟨bO (aX e),bO (gP (aX e))⟩;refine Oe (A:=A.in1.in1) (s:={ s with heap:=h3 }) (key:=key) (h0:=s.heap) (by simp[hh]) (bO (gP lt)) (by show A.units+3<cLine;lia) s.heap.objs.size (bO (kL _)) (kG lt) (λi v e=>?_) hb items.size 0 (tE _) (eV _) ⟨⟨_,zI,rfl,rfl⟩,w5.at λo e=>kI _ o e⟩ ?_ (λb o _ _ e=>kI b o (kS b o e)) λh' tk D up=>?_
   ·obtain⟨a,rfl,hk⟩:=hi i v e;refine⟨a,rfl,hk,?_⟩;obtain⟨o,_,_,ho,_⟩:=hk;exact ne1 ho
   ·exact⟨#[],⟨⟨0,_,kI _ _ hS,US _,fD ⟨rfl,eV _⟩,rfl,rfl,(λx hx=>by cases hx)⟩,(λe he=>by simp at he),[],trivial,.nil⟩,λy hy=>by simp at hy,λj hj=>absurd hj (lH _),eV _⟩
   ·show wpAny _ _ _ _ _ _;apply aK;show wpAny _ _ (ret fF) _ _ _;exact aK ⟨rfl,h',tk,rfl,D,λb o e=>up b o (ne1 e).1 (ne1 e).2 e⟩
  ·match r₂,hr₂ with
   | .error e,hr₂=>exact hr₂
   | .ok (.ret r),hr₂ =>
    obtain⟨rfl,h',tk,rfl,D,up⟩:=hr₂
    repeat (any_goals (first | assumption | wp_step))
    exact q _ _ D up
end
theorem Ft {α:Type} (next:Nat->Nat):∀(fuel k:Nat) (left:List α) (out:Array α),left.length<=fuel->(IC next fuel k left out).toList.Perm (out.toList++left)
 | 0,k,left,out,h=>by
  have:left=[]:=List.eq_nil_of_length_eq_zero (by lia);subst this;simp[IC]
 | fuel+1,k,left,out,h=>by
  unfold IC;cases e:left[next k % left.length]? with
  | none =>
   dsimp only;have:left=[]:=by
    cases left with
    | nil=>rfl
    | cons x r =>
     have:=List.getElem?_eq_none_iff.mp e;have:=jK (next k) (show 0<(x::r).length by simp);lia
   subst this;simp
  | some x =>
   dsimp only;have hi:next k % left.length<left.length:=(bC.mp e).1;refine (Ft next fuel (k+1) (left.eraseIdx (next k % left.length)) (out.push x) (by rw[List.length_eraseIdx_of_lt hi];lia)).trans ?_;rw[qI,iY];refine zW _ ?_;have ex:left[next k % left.length]=x:=(bC.mp e).2;have el:left=left.take (next k % left.length)++x::left.drop (next k % left.length+1):=by
    rw[<-ex,<-gE hi,gM]
   rw[List.eraseIdx_eq_take_drop_succ]
   conv=>rhs;rw[el]
   rw[zZ];exact (List.perm_middle (a:=x)).symm
def Il {α:Type} (next:Nat->Nat) (xs:Array α):(pickOrder next xs).toList.Perm xs.toList:=by
 have:=Ft next xs.size 0 xs.toList #[] (by simp);simpa [pickOrder] using this
def Mq:Manifest.owners.lookup (String.ofList ['r','o','t','a','r','e','t','i','_','t','e','s'].reverse)=some Manifest.sig_set_iterator:=by kernel_rfl
def qY:Slot "set_iterator" "__next__" "set_iterator.__next__" :=
 .of (owner:="set_iterator") (n:="__next__") (by rw[zT,rM];kernel_rfl) (by decide +kernel) (by decide +kernel) (by decide +kernel) (by first | exact .inl (by decide +kernel) | exact .inr (by decide +kernel)) (by rw[PJ];kernel_rfl)
def DZ:entryFor table "set_iterator.__next__" = some Builtin.«set_iterator.__next__»:=entryFor_of_tree (by kernel_rfl)
def GZ (a:aB):argsOk "set_iterator.__next__" ⟨[a],[]⟩:=by
 unfold argsOk;rw[signature?_of (id:="set_iterator.__next__") (n:=['_','_','t','x','e','n','_','_']) (o:=['r','o','t','a','r','e','t','i','_','t','e','s']) (by kernel_rfl) Mq];kernel_rfl
def VS:entryFor table "set.__iter__" = some Builtin.«frozenset.__iter__»:=entryFor_alias (id':="frozenset.__iter__") (by kernel_rfl) rfl (by decide +kernel) (by kernel_rfl)
section
variable {w:cT} {s:aG}
def gX (w:cT) (S:Addr) (ep:Nat) (es:Array (Int × aB)):Array (Int × aB):=if jL w=true then pickOrder (w.params.setOrder S ep) es else es
theorem CZ (S:Addr) (ep:Nat) (es:Array (Int × aB)):(gX w S ep es).toList.Perm es.toList:=by
 unfold gX;split
 ·exact Il _ _
 ·exact tX _
def slotAt (w:cT) (t:SetTable) (k:Nat):Nat:=if jL w=true then 0 else tJ t k
def wJ (w:cT) (S:Addr) (n ep:Nat) (t:SetTable) (k:Nat):Obj:={ cls:=.type "set_iterator",data:=.fields #[rawInt (slotAt w t k),rawInt k,.ref S,rawInt n,rawInt ep] }
theorem Bd {S:Addr} {ep k:Nat} (ho:s.heap.get? S=some (jF es ep t)) (T:cn t es.size) (hl:t.led = !jL w) (hp:t.plain=true) (hk:k<=es.size)
  (q:Q ((gX w S ep es)[k]?.map λe=>(e.2,slotAt w t (k+1))) s):wpAny (model prog w) A (setNext S (slotAt w t k) k ep) Q E s:=by
 unfold setNext;apply aA;refine hV ho rfl T.fits ?_;unfold setsByText;apply aA;apply aA;refine oR (aK ?_);show wpAny _ _ (if jL w=true then _ else _) _ _ _;by_cases hb:jL w=true
 ·rw[if_pos hb,if_neg (by simp)];apply aA;unfold setWalk;apply aA;refine hV ho rfl T.fits ?_;unfold setsByText;apply aA;apply aA;refine oR (aK ?_);show wpAny _ _ (if jL w=true then _ else _) _ _ _;rw[if_pos hb];apply aA;refine oR (aK (aK ?_));unfold gX slotAt at q;simp only[if_pos hb] at q;unfold slotAt;simp only[if_pos hb];exact q
 ·have hb0:jL w=false:=by simpa using hb
  rw[if_neg hb];show wpAny _ _ (if (!t.plain && decide (es.size > 1))=true then _ else _) _ _ _;rw[hp];simp only[eY,AL,aN,if_false];show wpAny _ _ ((if (!t.led && !es.isEmpty)=true then unsupported "set:maker-not-led" else pure ()) >>= _) _ _ _;rw[hl,hb0];simp only[nQ,eY,AL,aN,if_false];apply aA;apply aK;apply aK;have np:=Cq T hk;unfold gX slotAt at q;simp only[if_neg hb] at q;unfold slotAt;simp only[if_neg hb];rw[np];by_cases c9:k<es.size
  ·have e1:es[k]? = some es[k]:=bH c9;have e2:t.place[k]? = some (t.place.getD k 0):=by
    have:k<t.place.size:=(by rw[T.size];exact c9);rw[bH this];simp[jJ,this]
   rw[e1] at q;rw[e1,e2];have e3:tJ t (k+1)=t.place.getD k 0+1:=(by unfold tJ;rw[if_neg (by lia)];simp);rw[e3] at q;exact q
  ·have e1:es[k]? = none:=qH (by lia);rw[e1] at q;rw[e1];exact q
theorem CI {c:aB} (ho:s.heap.get? I=some { cls:=c,dict:=d,data:=.fields vs,slots:=sl }) (hi:i<vs.size)
  (q:∀h',h'.get? I=some { cls:=c,dict:=d,data:=.fields (vs.setIfInBounds i x),slots:=sl }->qK I s.heap h'->Q () { s with heap:=h' }):wpAny (model prog w) A (setField (.ref I) i x) Q E s:=by
 refine wpAny_setField ho rfl hi (q _ ?_ (lX ..));have:=fK (Obj.mapFields λvs=>vs.setIfInBounds i x) ho rfl;rw[this];rfl
structure kb (w:cT) (S I:Addr) (es:Array (Int × aB)) (ep:Nat) (t:SetTable) (k:Nat) (h:Heap):Prop where
 set:h.get? S=some (jF es ep t)
 it:h.get? I=some (wJ w S es.size ep t k)
theorem Hz {S I:Addr} {ep k:Nat} (D:kb w S I es ep t k s.heap) (ne:S≠I) (T:cn t es.size) (hl:t.led = !jL w) (hp:t.plain=true) (hk:k<es.size) (hx:(gX w S ep es)[k]? = some x)
  (q:∀h',kb w S I es ep t (k+1) h'->qK I s.heap h'->Q (some x.2) { s with heap:=h' }):wpAny (model prog w) A (pyNext (.ref I)) Q E s:=by
 have ty:s.TypeIs (.ref I) "set_iterator":=⟨_,D.it,rfl⟩;unfold pyNext;apply aA;apply SY;refine qF (name:=yH "__next__") ty qY (kN qY ty DZ ?_ (GZ _));unfold Builtin.«set_iterator.__next__»;apply aA;refine oB (a:=(fS I,[])) rfl ?_;apply aA;refine RH D.it rfl ?_;dsimp only[rawInt];apply aA;refine sW D.set rfl T.fits ?_;rw[if_neg (by simp)];apply aA;show wpAny _ _ (setNext S ((slotAt w t k:Nat):Int).toNat ((k:Nat):Int).toNat ((ep:Nat):Int).toNat) _ _ _;simp only[vA];refine Bd D.set T hl hp (lO hk) ?_;rw[hx];dsimp only[Option.map];have yd:=D.it;unfold wJ at yd;apply aA;refine CI yd (by simp) λh1 g1 s1=>?_;apply aA;refine CI (s:={ s with heap:=h1 }) g1 (by simp) λh2 g2 s2=>?_;refine aK ⟨x.2,rfl,aK (q h2 ⟨?_,?_⟩ (s1.trans s2))⟩
 ·rw[s2.2 S ne,s1.2 S ne];exact D.set
 ·rw[g2];rfl
theorem Mj {S I:Addr} {ep:Nat} (hh:A.handled=none) (D:kb w S I es ep t es.size s.heap) (ne:S≠I) (T:cn t es.size) (hl:t.led = !jL w) (hp:t.plain=true)
  (q:∀h',Heap.ExtBut I s.heap h'->Q none { s with heap:=h' }):wpAny (model prog w) A (pyNext (.ref I)) Q E s:=by
 have ty:s.TypeIs (.ref I) "set_iterator":=⟨_,D.it,rfl⟩;have hx:(gX w S ep es)[es.size]? = none:=by
  apply qH;rw[<-cI,(CZ S ep es).length_eq,cI];exact bK _
 unfold pyNext;apply aA;apply SY;refine qF (name:=yH "__next__") ty qY (kN qY ty DZ ?_ (GZ _));unfold Builtin.«set_iterator.__next__»;apply aA;refine oB (a:=(fS I,[])) rfl ?_;apply aA;refine RH D.it rfl ?_;dsimp only[rawInt];apply aA;refine sW D.set rfl T.fits ?_;rw[if_neg (by simp)];apply aA;show wpAny _ _ (setNext S ((slotAt w t es.size:Nat):Int).toNat ((es.size:Nat):Int).toNat ((ep:Nat):Int).toNat) _ _ _;simp only[vA];refine Bd D.set T hl hp (bK _) ?_;rw[hx];dsimp only[Option.map];have yd:=D.it;unfold wJ at yd;apply aA;refine CI yd (by simp) λh1 g1 s1=>?_;show wpAny _ _ (newExc (.type "StopIteration") [] >>= _) _ _ _;apply aA;simp only[newExc,newTuple];apply aA;refine gB ?_ (by size_fits);refine aA (m:=firstArgMember _ _) ?_;refine oB (a:=fF) (by first | rfl | (simp only[firstArgMember];rfl)) ?_;refine gB ?_ (by size_fits);simp only[raiseNew];apply aA;apply wpAny_handled
 first | rw[show A.in1.handled=none from hh] | rw[hh]
 refine aA (aK (wpAny_throw ?_));apply aA;refine xO (T:="StopIteration") (b:=true) ⟨_,cL _ rfl,rfl⟩ isSubtype_stop ?_;exact aK (q _ ((s1.extBut.push _).push _))
theorem Ll {S:Addr} {ep:Nat} (ho:s.heap.get? S=some (jF es ep t)) (T:cn t es.size) (hp:t.plain=true)
  (q:Q (.ref s.heap.objs.size) { s with heap:=s.heap.push (wJ w S es.size ep t 0) }):wpAny (model prog w) A (pyIter (.ref S)) Q E s:=by
 have ty:s.TypeIs (.ref S) "set":=⟨_,ho,rfl⟩;refine wpAny_pyIter_slot ty F.slot_set_iter (kN F.slot_set_iter ty VS ?_ (F.args_set_iter_1 _));unfold Builtin.«frozenset.__iter__» Builtin.Frozenset.slot0 Builtin.Frozenset.sizeOf;apply aA;refine oB (a:=S) rfl ?_;apply aA;apply aA;refine sW ho rfl T.fits (aK ?_);apply aA;unfold setDrawn;apply aA;refine hV ho rfl T.fits ?_;unfold setsByText;apply aA;apply aA;refine oR (aK (aK ?_));have dr:(!(model prog w).w.params.followText "set-order" && (!t.plain && decide (es.size > 1)))=false:=by rw[hp];simp
 show wpAny _ _ (if (!(model prog w).w.params.followText "set-order" && (!t.plain && decide (es.size > 1)))=true then _ else _) _ _ _;rw[dr];simp only[aN,if_false];apply aA;apply aK;apply aA;refine wpAny_setEpoch_of ho rfl T.fits ?_;apply aA;unfold newFields;refine gB ?_;have e0:slotAt w t 0=0:=by unfold slotAt tJ;split <;> rfl
 refine aK ⟨_,rfl,"set_iterator",_,⟨_,cL _ rfl,rfl⟩,qY.lookup,?_⟩;unfold wJ at q;rw[e0] at q;exact q
end
section
variable {s:aG}
theorem Od {S:Addr} (ty:s.TypeIs (.ref S) "set") (q:Q false s):wpAny (model prog w) A (kD (.ref S)) Q E s:=by
 unfold kD;apply aA;refine pT ty F.slot_set_len.lookup ?_;dsimp only;have sp:splitId "set.__len__" = some ("set","__len__"):=by decide +kernel
 rw[sp];dsimp only;apply aA;refine xO (b:=true) ty sub_set_self ?_;simp only[eY,aN,if_false];have key:∀(c:Bool) (X Y:Sem Bool),c=true->wpAny (model prog w) A X Q E s->wpAny (model prog w) A (if c=true then X else Y) Q E s:=λc X Y hc h=>by rw[if_pos hc];exact h
 refine key _ _ _ (by decide +kernel) ?_;apply aA;refine tK ty ?_;exact aK q
theorem Bc {S I:Addr} {ep k:Nat} (D:kb w S I es ep t k h) (up:∀b o,b=S\/b=I->h.get? b=some o->h'.get? b=some o):kb w S I es ep t k h' :=
 ⟨up _ _ (fD rfl) D.set,up _ _ (fE rfl) D.it⟩
theorem LH {S:Addr} {ep:Nat} (hh:A.handled=none) (ho:s.heap.get? S=some (jF es ep t)) (T:cn t es.size) (hl:t.led = !jL w) (hp:t.plain=true) (hz:es.size<=100)
  (q:∀h',(∀b o,s.heap.get? b=some o->h'.get? b=some o)->s.heap.objs.size<=h'.objs.size->Q ((gX w S ep es).toList.map (·.2)) { s with heap:=h' }):wpAny (model prog w) A (collect (.ref S)) Q E s:=by
 have W5:S<s.heap.objs.size:=aX ho;have wl:(gX w S ep es).size=es.size:=by rw[<-cI,(CZ S ep es).length_eq,cI]
 unfold collect;apply aA;apply CK;refine fO F.entry_proto_collect ?_;rw[eU F.plain_proto_collect _];show wpAny _ A.in1 (newList [] >>= λl=>again (.builtin "list.__iadd__" ⟨[l,.ref S],[]⟩)) _ _ s;apply aA;refine gB ?_;refine aK ⟨iU F.plain_list_iadd _,fO F.entry_list_iadd ?_⟩;rw[eU F.plain_list_iadd _];show wpAny _ A.in1 (iO (.ref s.heap.objs.size) (.ref S) (.ref s.heap.objs.size)) _ _ { s with heap:=s.heap.push { cls:=.type "list",data:=.seq ([]:List aB).toArray } };have z1:(s.heap.push { cls:=.type "list",data:=.seq ([]:List aB).toArray }).objs.size=s.heap.objs.size+1:=nR ..;have hL:(s.heap.push { cls:=.type "list",data:=.seq ([]:List aB).toArray }).get? s.heap.objs.size=some { cls:=.type "list",data:=.seq ([]:List aB).toArray }:=cL _ rfl;have k1:∀b o,s.heap.get? b=some o->(s.heap.push { cls:=.type "list",data:=.seq ([]:List aB).toArray }).get? b=some o:=λb o e=>aP _ e;generalize s.heap.push { cls:=.type "list",data:=.seq ([]:List aB).toArray } = h1 at z1 hL k1;have ty:∀{h:Heap} {g d t os},(∀b o,s.heap.get? b=some o->h.get? b=some o)->DY ⟨h,g,d,t,os⟩ (.ref S) "set":=λup=>⟨_,up _ _ ho,rfl⟩;unfold iO;apply aA;refine tK (T:="set") (ty k1) ?_;have g1:lR (.ref s.heap.objs.size) (.ref S)=false:=by simp[lR,kG W5]
 have g2:(gZ "set" == gZ "list")=false:=by decide
 have g3:(gZ "set" == gZ "tuple")=false:=by decide
 simp only[g1,g2,g3,DR,aN,if_false];apply aA;refine Ll (s:={ s with heap:=h1 }) (k1 _ _ ho) T hp ?_;show wpAny _ _ _ _ _ { s with heap:=h1.push (wJ w S es.size ep t 0) };have hI:(h1.push (wJ w S es.size ep t 0)).get? (s.heap.objs.size+1)=some (wJ w S es.size ep t 0):=by rw[<-z1];exact cL _ rfl
 have k2:∀b o,h1.get? b=some o->(h1.push (wJ w S es.size ep t 0)).get? b=some o:=λb o e=>aP _ e;rw[z1];generalize h1.push (wJ w S es.size ep t 0)=h2 at hI k2;apply aA;apply fN;refine Od (ty λb o e=>k2 b o (k1 b o e)) ?_;have key:∀(c:Bool) (X Y:Sem Fin) {Q':Fin->aG->Prop} {E':aB->aG->Prop} {s':aG},c=true->wpAny (model prog w) A.in1 X Q' E' s'->wpAny (model prog w) A.in1 (if c=true then X else Y) Q' E' s':=λc X Y _ _ _ hc h=>by rw[if_pos hc];exact h
 refine key _ _ _ (by decide +kernel) ?_;have hL2:=k2 _ _ hL;apply aA;apply RJ;apply aA;show wpAny _ _ (updateSeq s.heap.objs.size (·.push .none) >>= λ_=>updateSeq s.heap.objs.size (·.pop)) _ _ _;apply aA;refine jX hL2 rfl ?_;have hL3:=fK (eG (·.push fF)) hL2 rfl;refine jX (hz:=by seq_fits) hL3 rfl ?_;have hL4:=fK (eG (·.pop)) hL3 rfl;have O6:∀b o,b≠s.heap.objs.size->h2.get? b=some o->((h2.update s.heap.objs.size (eG (·.push fF))).update s.heap.objs.size (eG (·.pop))).get? b=some o :=
  λb o hb e=>(cW _ _ (Ne.symm hb)).trans ((cW _ _ (Ne.symm hb)).trans e)
 generalize (h2.update s.heap.objs.size (eG (·.push fF))).update s.heap.objs.size (eG (·.pop))=h4 at hL4 O6;apply aK;refine⟨iU jH _,?_⟩;have zr:S≠s.heap.objs.size+1:=bO (gP W5);have neS:S≠s.heap.objs.size:=bO W5;have mw:s.heap.objs.size+1≠s.heap.objs.size:=rR _;have old:∀{b:Addr} {o:Obj},s.heap.get? b=some o->b≠s.heap.objs.size/\b≠s.heap.objs.size+1:=λe=>⟨bO (aX e),bO (gP (aX e))⟩;refine YO (A:=A) (s0:=s) (n:=es.size) (J:=λacc h=>kb w S (s.heap.objs.size+1) es ep t acc.length h/\acc=((gX w S ep es).toList.map (·.2)).take acc.length/\∀b o,s.heap.get? b=some o->h.get? b=some o)
  (F:=λacc h=>acc=(gX w S ep es).toList.map (·.2)/\∀b o,s.heap.get? b=some o->h.get? b=some o) (.ref s.heap.objs.size) (by rw[fQ];lia) ?_ ?_ ?_ (λh' acc c nu hF kr=>?_) es.size #[] h4 _ rfl (eV _) ?_ hL4
 ·rintro acc h h' ⟨J1,J2,J3⟩ si hz up;refine⟨Bc J1 λb o hb e=>up b o ?_ e,J2,λb o e=>up b o (old e).1 (J3 b o e)⟩;rcases hb with rfl | rfl
  ·exact neS
  ·exact mw
 ·rintro acc s' o Q' E' c9 ⟨J1,J2,J3⟩ si k;have hw:acc.length<(gX w S ep es).size:=by lia
  refine Hz J1 zr T hl hp c9 (bH hw) λh' D' sb=>k _ h' ⟨by simpa using D',?_,λb o e=>?_⟩ ?_
  ·rw[bJ,rK,kP,<-J2];simp[hw]
  ·rw[sb.2 b (old e).2];exact J3 b o e
  ·rw[sb.2 _ (Ne.symm mw)];exact si
 ·rintro acc s' o Q' E' hlen ⟨J1,J2,J3⟩ si k;rw[hlen] at J1 J2;refine Mj (A:=A.in1) (by simp[hh]) J1 zr T hl hp λh' eb=>k h' ⟨?_,λb o e=>eb b o (old e).2 (J3 b o e)⟩ (eb _ _ (Ne.symm mw) si);rw[J2,kF];simp[wl]
 ·show wpAny _ A (load s.heap.objs.size >>= _) _ _ _;apply aA;refine wpAny_load kr ?_;refine aK ?_;rw[hF.1];exact q h' hF.2 (lO (aX kr))
 ·refine⟨⟨O6 _ _ neS (k2 _ _ (k1 _ _ ho)),O6 _ _ mw hI⟩,rfl,λb o e=>O6 b o (old e).1 (k2 b o (k1 b o e))⟩
end
end
section
open PySem PySem.W PyProof.Rows
def iF {α:Type} (lt:Nat->Nat->Bool):KasT α->α
 | .ret a=>a
 | .ask i j k=>iF lt (k (lt i j))
theorem tM {α β:Type} {lt:Nat->Nat->Bool} {f:α->KasT β}:∀t:KasT α,iF lt (t.bind f)=iF lt (f (iF lt t))
 | .ret _=>rfl
 | .ask i j k=>tM (k (lt i j))
def kIn {α:Type} (lt:Nat->Nat->Bool) (n:Nat):KasT α->Prop
 | .ret _=>True
 | .ask i j k=>i<n/\j<n/\kIn lt n (k (lt i j))
theorem nZ {α β:Type} {lt:Nat->Nat->Bool} {n:Nat} {f:α->KasT β}:∀t:KasT α,kIn lt n t->kIn lt n (f (iF lt t))->kIn lt n (t.bind f)
 | .ret _,_,h=>h
 | .ask i j k,⟨h1,h2,h3⟩,h=>⟨h1,h2,nZ (k (lt i j)) h3 h⟩
theorem FW {α:Type} {cmp:Nat->Nat->(Bool->aG->Prop)->aG->Prop} {lt:Nat->Nat->Bool} {n:Nat} {s:aG} {Q:α->aG->Prop} (hc:∀i j (C:Bool->aG->Prop),i<n->j<n->C (lt i j) s->cmp i j C s) :
  ∀t:KasT α,kIn lt n t->Q (iF lt t) s->t.kasWp cmp Q s
 | .ret _,_,h=>h
 | .ask i j k,⟨h1,h2,h3⟩,h=>hc i j _ h1 h2 (FW hc (k (lt i j)) h3 h)
section
variable {O:KeyOrd} {key:Nat->O.α} {N:Nat}
def c7 (O:KeyOrd) (key:Nat->O.α) (i j:Nat):Bool:=O.blt (key i) (key j)
def kk (O:KeyOrd) (key:Nat->O.α) (p:Array Nat) (i:Nat):O.α:=key (p.getD i 0)
def Up (O:KeyOrd) (key:Nat->O.α) (p:Array Nat) (n:Nat):Prop:=∀i j,i<=j->j<n->O.kle (kk O key p i) (kk O key p j)
def Dn (O:KeyOrd) (key:Nat->O.α) (p:Array Nat) (n:Nat):Prop:=∀i j,i<=j->j<n->O.kle (kk O key p j) (kk O key p i)
def Lo (p:Array Nat) (N:Nat):Prop:=∀i,p.getD i 0<N
theorem yR (h:p.Perm q) (hq:Lo q N):Lo p N:=by
 intro i;by_cases hi:i<p.size
 ·have m:p[i]∈p:=Array.getElem_mem hi;have m2:p[i]∈q:=h.mem_iff.mp m;obtain⟨j,hj,e⟩:=AH m2;have:=hq j;simp[jJ,hj] at this;simp[jJ,hi];rw[<-e];exact this
 ·have h0:=hq q.size;simp[jJ] at h0;simp[jJ,hi];exact h0
theorem BM (h:p[i]? = q[j]?):kk O key p i=kk O key q j:=by
 unfold kk;rw[dS,dS,h]
theorem Cl (hj:j<=p.size) (k:Nat):kk O key (CT p i j) k=if i<=k/\k<j then kk O key p (i+j-1-k) else kk O key p k:=by
 have e:=getElem?_mirror_all (i:=i) hj k;unfold CT;by_cases h1:i<=k/\k<j
 ·rw[if_pos h1] at e ⊢;exact BM e
 ·rw[if_neg h1] at e ⊢;exact BM e
theorem JU (hj:j<=p.size) (h:∀k,i<=k->k<j->kk O key p k=kk O key p (j-1)) (k:Nat):kk O key (CT p i j) k=kk O key p k:=by
 rw[Cl hj];split
 ·rw[h _ (by lia) (by lia),h k (by lia) (by lia)]
 ·rfl
theorem Ho (hs:src<p.size) (hd:d<=src) (k:Nat) :
  kk O key (bubble p src d) k=if k=src-d then kk O key p src else if src-d<k/\k<=src then kk O key p (k-1) else kk O key p k:=by
 have e:=getElem?_bubble hs d hd k;by_cases h1:k=src-d
 ·rw[if_pos h1] at e ⊢;exact BM e
 ·rw[if_neg h1] at e ⊢;by_cases h2:src-d<k/\k<=src
  ·rw[if_pos h2] at e ⊢;exact BM e
  ·rw[if_neg h2] at e ⊢;exact BM e
theorem CF (p:Array Nat) (i j:Nat):(CT p i j).Perm p:=mirror_perm _ _ _ _
theorem So {n:Nat} (h1:1<=n) (h:Up O key p n) (hl:O.kle (kk O key p (n-1)) (kk O key p n)):Up O key p (n+1):=by
 intro i j k_ hj;by_cases S7:j<n
 ·exact h i j k_ S7
 ·have qh:j=n:=by lia
  subst qh;by_cases gq:i=j
  ·subst gq;exact jV _
  ·exact rO (h i (j-1) (by lia) (by lia)) hl
theorem VO {n:Nat} (h1:1<=n) (h:Dn O key p n) (hl:O.kle (kk O key p n) (kk O key p (n-1))):Dn O key p (n+1):=by
 intro i j k_ hj;by_cases S7:j<n
 ·exact h i j k_ S7
 ·have qh:j=n:=by lia
  subst qh;by_cases gq:i=j
  ·subst gq;exact jV _
  ·exact rO hl (h i (j-1) (by lia) (by lia))
theorem Bx (lo:Lo p N):∀(f n:Nat),1<=n->Up O key p n->kIn (c7 O key) N (vH p f n)/\n<=iF (c7 O key) (vH p f n)/\iF (c7 O key) (vH p f n)<=n+f/\Up O key p (iF (c7 O key) (vH p f n)) /\
  (iF (c7 O key) (vH p f n)=n+f\/O.klt (kk O key p (iF (c7 O key) (vH p f n))) (kk O key p (iF (c7 O key) (vH p f n)-1)))
 | 0,n,_,h=>⟨trivial,bK _,bK _,h,fD rfl⟩
 | f+1,n,h1,h=>by
  simp only[vH,iF,kIn];cases hb:c7 O key (p.getD n 0) (p.getD (n-1) 0) with
  | true =>
   simp only[if_true];exact⟨⟨lo _,lo _,trivial⟩,bK _,by simp only[iF];lia,h,fE hb⟩
  | false =>
   simp only[aN,if_false];obtain⟨i1,i2,i3,i4,i5⟩:=Bx lo f (n+1) (by lia) (So h1 h hb);refine⟨⟨lo _,lo _,i1⟩,by lia,by lia,i4,?_⟩;rcases i5 with e | e
   ·exact fD (by lia)
   ·exact fE e
theorem Bg (lo:Lo p N) {n nrem:Nat} (h1:1<=n) (hn:n<=nrem) (hz:nrem<=p.size) (h:Dn O key p n) :
  kIn (c7 O key) N (tN n nrem p)/\1<=(iF (c7 O key) (tN n nrem p)).1/\(iF (c7 O key) (tN n nrem p)).1<=nrem/\(iF (c7 O key) (tN n nrem p)).2.Perm p/\Up O key (iF (c7 O key) (tN n nrem p)).2 (iF (c7 O key) (tN n nrem p)).1:=by
 unfold tN;have up:Up O key (CT p 0 n) n:=by
  intro i j k_ hj;rw[Cl (by lia),Cl (by lia),if_pos (by lia),if_pos (by lia)];exact h _ _ (by lia) (by lia)
 obtain⟨i1,i2,i3,i4,_⟩:=Bx (yR (CF p 0 n) lo) (nrem-n) n h1 up;rw[tM];refine⟨nZ _ i1 trivial,?_,?_,CF p 0 n,i4⟩
 ·show 1<=_;simp only[iF];lia
 ·simp only[iF];lia
theorem MR:∀(f:Nat) (p:Array Nat) (n q:Nat),Lo p N->1<=n->n+f<=p.size->Dn O key p n->q+1<=n->(∀i,n-(q+1)<=i->i<n->kk O key p i=kk O key p (n-1)) ->
  kIn (c7 O key) N (kY f p n q)/\(iF (c7 O key) (kY f p n q)).1.Perm p/\n<=(iF (c7 O key) (kY f p n q)).2.1/\(iF (c7 O key) (kY f p n q)).2.1<=n+f /\
  Dn O key (iF (c7 O key) (kY f p n q)).1 (iF (c7 O key) (kY f p n q)).2.1/\(iF (c7 O key) (kY f p n q)).2.2+1<=(iF (c7 O key) (kY f p n q)).2.1 /\
  (∀i,(iF (c7 O key) (kY f p n q)).2.1-((iF (c7 O key) (kY f p n q)).2.2+1)<=i->i<(iF (c7 O key) (kY f p n q)).2.1->kk O key (iF (c7 O key) (kY f p n q)).1 i=kk O key (iF (c7 O key) (kY f p n q)).1 ((iF (c7 O key) (kY f p n q)).2.1-1))
 | 0,p,n,q,lo,h1,hz,h,hq,he=>⟨trivial,pK _,bK _,bK _,h,hq,he⟩
 | f+1,p,n,q,lo,h1,hz,h,hq,he=>by
  simp only[kY,iF,kIn];cases hb:c7 O key (p.getD n 0) (p.getD (n-1) 0) with
  | true =>
   simp only[if_true];by_cases h0:q > 0
   ·simp only[if_pos h0];have hk:=JU (O:=O) (key:=key) (p:=p) (i:=n-(q+1)) (j:=n) (by lia) he;have pm:=CF p (n-(q+1)) n;have dn:Dn O key (CT p (n-(q+1)) n) (n+1):=by
     have d0:=VO h1 h (nH hb);intro i j k_ hj;rw[hk,hk];exact d0 i j k_ hj
    obtain⟨i1,i2,i3,i4,i5,i6,i7⟩:=MR f (CT p (n-(q+1)) n) (n+1) 0 (yR pm lo) (by lia) (by rw[pm.size_eq];lia) dn (by lia) (λi a b=>by congr 1;lia);exact⟨⟨lo _,lo _,i1⟩,i2.trans pm,by lia,by lia,i5,i6,i7⟩
   ·simp only[if_neg h0];obtain⟨i1,i2,i3,i4,i5,i6,i7⟩:=MR f p (n+1) 0 lo (by lia) (by lia) (VO h1 h (nH hb)) (by lia) (λi a b=>by congr 1;lia);exact⟨⟨lo _,lo _,i1⟩,i2,by lia,by lia,i5,i6,i7⟩
  | false =>
   simp only[aN,if_false,iF,kIn];cases hc:c7 O key (p.getD (n-1) 0) (p.getD n 0) with
   | true =>
    simp only[if_true];exact⟨⟨lo _,lo _,lo _,lo _,trivial⟩,pK _,bK _,by simp only[iF];lia,h,hq,he⟩
   | false =>
    simp only[aN,if_false];have e:kk O key p n=kk O key p (n-1):=DJ hc hb;obtain⟨i1,i2,i3,i4,i5,i6,i7⟩:=MR f p (n+1) (q+1) lo (by lia) (by lia) (VO h1 h (by rw[e];exact jV _)) (by lia) (λi a b=>by
     rw[show n+1-1=n by lia];by_cases hi:i=n
     ·subst hi;rfl
     ·rw[e];exact he i (by lia) (by lia))
    exact⟨⟨lo _,lo _,lo _,lo _,i1⟩,i2,by lia,by lia,i5,i6,i7⟩
theorem LK (lo:Lo p N) {n nrem:Nat} (hn:n+1<=nrem) (hz:nrem<=p.size) (h:Dn O key p (n+1)) :
  kIn (c7 O key) N (oP n nrem p)/\1<=(iF (c7 O key) (oP n nrem p)).1/\(iF (c7 O key) (oP n nrem p)).1<=nrem/\(iF (c7 O key) (oP n nrem p)).2.Perm p/\Up O key (iF (c7 O key) (oP n nrem p)).2 (iF (c7 O key) (oP n nrem p)).1:=by
 unfold oP;obtain⟨i1,i2,i3,i4,i5,i6,i7⟩:=MR (N:=N) (nrem-(n+1)) p (n+1) 0 lo (by lia) (by lia) h (by lia) (λi a b=>by congr 1;lia);rw[tM];generalize hr:iF (c7 O key) (kY (nrem-(n+1)) p (n+1) 0)=r at *;by_cases h0:r.2.2 > 0
 ·have sz:r.1.size=p.size:=i2.size_eq;have hk:=JU (O:=O) (key:=key) (p:=r.1) (i:=r.2.1-(r.2.2+1)) (j:=r.2.1) (by lia) i7;have pm:=(CF r.1 (r.2.1-(r.2.2+1)) r.2.1).trans i2;have t:=Bg (O:=O) (key:=key) (N:=N) (yR pm lo) (n:=r.2.1) (nrem:=nrem) (by lia) (by lia) (by rw[pm.size_eq];lia) (λi j k_ hj=>by rw[hk,hk];exact i5 i j k_ hj);rw[if_pos h0];refine⟨nZ _ i1 ?_,t.2.1,t.2.2.1,t.2.2.2.1.trans pm,t.2.2.2.2⟩;rw[hr,if_pos h0];exact t.1
 ·have t:=Bg (O:=O) (key:=key) (N:=N) (yR i2 lo) (n:=r.2.1) (nrem:=nrem) (by lia) (by lia) (by rw[i2.size_eq];lia) i5;rw[if_neg h0];refine⟨nZ _ i1 ?_,t.2.1,t.2.2.1,t.2.2.2.1.trans i2,t.2.2.2.2⟩;rw[hr,if_neg h0];exact t.1
theorem Jx (lo:Lo p N) (h1:1<=nrem) (hz:nrem<=p.size) :
  kIn (c7 O key) N (rV nrem p)/\1<=(iF (c7 O key) (rV nrem p)).1/\(iF (c7 O key) (rV nrem p)).1<=nrem/\(iF (c7 O key) (rV nrem p)).2.Perm p/\Up O key (iF (c7 O key) (rV nrem p)).2 (iF (c7 O key) (rV nrem p)).1:=by
 unfold rV;obtain⟨i1,i2,i3,i4,i5⟩:=Bx (O:=O) (key:=key) lo (nrem-1) 1 (bK _) (λi j k_ hj=>by have:i=j:=(by lia);subst this;exact jV _);rw[tM];generalize hr:iF (c7 O key) (vH p (nrem-1) 1)=n at *;by_cases hn:n=nrem
 ·rw[if_pos (by simpa using hn)];exact⟨nZ _ i1 (by rw[hr,if_pos (by simpa using hn)];trivial),i2,by show n<=nrem;lia,pK _,i4⟩
 ·rw[if_neg (by simpa using hn)];have c9:O.klt (kk O key p n) (kk O key p (n-1)):=i5.resolve_left (by lia);by_cases hg:n > 1
  ·rw[if_pos hg];simp only[iF];cases hb:c7 O key (p.getD 0 0) (p.getD (n-1) 0) with
   | true =>
    simp only[if_true];exact⟨nZ _ i1 (by rw[hr,if_neg (by simpa using hn),if_pos hg];exact⟨lo _,lo _,by rw[hb];trivial⟩),by show 1<=n;lia,by show n<=nrem;lia,pK _,i4⟩
   | false =>
    simp only[aN,if_false];have cg:∀k,0<=k->k<n->kk O key p k=kk O key p (n-1):=by
     intro k _ hk;have a1:=i4 0 k (by lia) hk;have a2:=i4 k (n-1) (by lia) (by lia);exact DJ a2 (rO hb a1)
    have hk:=JU (O:=O) (key:=key) (p:=p) (i:=0) (j:=n) (by lia) cg;have pm:=CF p 0 n;have t:=LK (O:=O) (key:=key) (N:=N) (yR pm lo) (n:=n) (nrem:=nrem) (by lia) (by rw[pm.size_eq];lia) (λi j k_ hj=>by
     rw[hk,hk];by_cases hjn:j<n
     ·rw[cg i (by lia) (by lia),cg j (by lia) hjn];exact jV _
     ·have qh:j=n:=(by lia);subst qh;by_cases gq:i=j
      ·subst gq;exact jV _
      ·rw[cg i (by lia) (by lia)];exact nH c9)
    exact⟨nZ _ i1 (by rw[hr,if_neg (by simpa using hn),if_pos hg];exact⟨lo _,lo _,by rw[hb];exact t.1⟩),t.2.1,t.2.2.1,t.2.2.2.1.trans pm,t.2.2.2.2⟩
  ·rw[if_neg hg];have n1:n=1:=(by lia);have t:=LK (O:=O) (key:=key) (N:=N) lo (n:=n) (nrem:=nrem) (by lia) hz (λi j k_ hj=>by
    by_cases gq:i=j
    ·subst gq;exact jV _
    ·have e1:i=n-1:=(by lia);have e2:j=n:=(by lia);rw[e1,e2];exact nH c9)
   exact⟨nZ _ i1 (by rw[hr,if_neg (by simpa using hn),if_neg hg];exact t.1),t.2⟩
theorem QG (lo:Lo p N) (hs:Up O key p k):∀(f l r:Nat),l<=r->r<=k->r-l<=f->(∀i,i<l->O.kle (kk O key p i) (kk O key p k))->(∀i,r<=i->i<k->O.klt (kk O key p k) (kk O key p i)) ->
  kIn (c7 O key) N (wX p k f l r)/\iF (c7 O key) (wX p k f l r)<=k/\(∀i,i<iF (c7 O key) (wX p k f l r)->O.kle (kk O key p i) (kk O key p k))/\(∀i,iF (c7 O key) (wX p k f l r)<=i->i<k->O.klt (kk O key p k) (kk O key p i))
 | 0,l,r,hlr,No,hf,a,b=>by
  have:l=r:=by lia
  subst this;exact⟨trivial,No,a,b⟩
 | f+1,l,r,hlr,No,hf,a,b=>by
  simp only[wX];by_cases hge:l ≥ r
  ·have:l=r:=(by lia);subst this;rw[if_pos hge];exact⟨trivial,No,a,b⟩
  ·rw[if_neg hge];simp only[iF,kIn];cases hb:c7 O key (p.getD k 0) (p.getD ((l+r) / 2) 0) with
   | true =>
    simp only[if_true];have t:=QG lo hs f l ((l+r) / 2) (by lia) (by lia) (by lia) a (λi h1 h2=>KeyOrd.klt_of_klt_of_kle hb (hs _ _ h1 h2));exact⟨⟨lo _,lo _,t.1⟩,t.2⟩
   | false =>
    simp only[aN,if_false];have t:=QG lo hs f ((l+r) / 2+1) r (by lia) No (by lia) (λi h1=>rO (hs i ((l+r) / 2) (by lia) (by lia)) hb) b;exact⟨⟨lo _,lo _,t.1⟩,t.2⟩
theorem Jr:∀(f:Nat) (p:Array Nat) (k:Nat),Lo p N->k+f<=p.size->Up O key p k->kIn (c7 O key) N (WC f p k)/\(iF (c7 O key) (WC f p k)).Perm p/\Up O key (iF (c7 O key) (WC f p k)) (k+f)
 | 0,p,k,lo,hz,h=>⟨trivial,pK _,h⟩
 | f+1,p,k,lo,hz,h=>by
  simp only[WC];obtain⟨i1,i2,i3,i4⟩:=QG lo h k 0 k (by lia) (by lia) (by lia) (λi hi=>absurd hi (by lia)) (λi h1 h2=>absurd h2 (by lia));rw[tM];generalize hr:iF (c7 O key) (wX p k k 0 k)=l at *;have pm:=bubble_perm p k (k-l);have hb:=λi=>Ho (O:=O) (key:=key) (p:=p) (src:=k) (d:=k-l) (by lia) (by lia) i;have up:Up O key (bubble p k (k-l)) (k+1):=by
   intro i j k_ hj;rw[hb,hb,show k-(k-l)=l by lia];by_cases e1:i=l
   ·rw[if_pos e1];by_cases e2:j=l
    ·rw[if_pos e2];exact jV _
    ·rw[if_neg e2,if_pos (by lia)];exact nH (i4 _ (by lia) (by lia))
   ·rw[if_neg e1];by_cases e2:j=l
    ·rw[if_pos e2,if_neg (by lia)];exact i3 _ (by lia)
    ·rw[if_neg e2];by_cases e3:l<i/\i<=k
     ·rw[if_pos e3,if_pos (by lia)];exact h _ _ (by lia) (by lia)
     ·rw[if_neg e3];by_cases e4:l<j/\j<=k
      ·rw[if_pos e4];exact h _ _ (by lia) (by lia)
      ·rw[if_neg e4];exact h _ _ (by lia) (by lia)
  obtain⟨t1,t2,t3⟩:=Jr f (bubble p k (k-l)) (k+1) (yR pm lo) (by rw[pm.size_eq];lia) up;refine⟨nZ _ i1 (by rw[hr];exact t1),t2.trans pm,?_⟩;rw[show k+(f+1)=k+1+f by lia];exact t3
theorem Gf {n:Nat} (h1:1<=n):kIn (c7 O key) n (uN n)/\(iF (c7 O key) (uN n)).Perm (fV (dY n))/\Up O key (iF (c7 O key) (uN n)) n:=by
 have lo:Lo (fV (dY n)) n:=by
  intro i;by_cases hi:i<n
  ·simp[jJ,hi]
  ·simp[jJ,hi];lia
 unfold uN;obtain⟨i1,i2,i3,i4,i5⟩:=Jx (O:=O) (key:=key) lo (nrem:=n) h1 (by simp);rw[tM];generalize hr:iF (c7 O key) (rV n (fV (dY n)))=r at *;have sz:r.2.size=n:=by rw[i4.size_eq];simp
 by_cases h:r.1<n
 ·have t:=Jr (O:=O) (key:=key) (N:=n) (n-max r.1 1) r.2 (max r.1 1) (yR i4 lo) (by lia) (by rw[show max r.1 1=r.1 by lia];exact i5);rw[if_pos h];refine⟨nZ _ i1 (by rw[hr,if_pos h];exact t.1),t.2.1.trans i4,?_⟩;have:=t.2.2
  rwa [show max r.1 1+(n-max r.1 1)=n by lia] at this
 ·rw[if_neg h];refine⟨nZ _ i1 (by rw[hr,if_neg h];trivial),i4,?_⟩;rw[show n=r.1 by lia];exact i5
end
end
section
open PySem PySem.W PySem.SetTable PyProof.Rows
def iR:List Int->List Int->Bool
 | [],[]=>false
 | [],_::_=>true
 | _::_,[]=>false
 | a::as,b::bs=>if a=b then iR as bs else decide (a<b)
theorem PN:∀a,iR a a=false
 | []=>rfl
 | a::as=>by simp only[iR,if_true];exact PN as
theorem FY:∀a b c,iR a b=true->iR b c=true->iR a c=true
 | [],[],c,h,_=>by simp[iR] at h
 | [],_::_,[],_,h=>by simp[iR] at h
 | [],_::_,_::_,_,_=>rfl
 | _::_,[],_,h,_=>by simp[iR] at h
 | _::_,_::_,[],_,h=>by simp[iR] at h
 | a::as,b::bs,c::cs,h,k=>by
  simp only[iR] at h k ⊢;by_cases e1:a=b
  ·subst e1;rw[if_pos rfl] at h;by_cases e2:a=c
   ·subst e2;rw[if_pos rfl] at k ⊢;exact FY as bs cs h k
   ·rw[if_neg e2] at k ⊢;exact k
  ·rw[if_neg e1] at h;by_cases e2:b=c
   ·subst e2;rw[if_neg e1];exact h
   ·rw[if_neg e2] at k;simp only[decide_eq_true_eq] at h k;rw[if_neg (by lia)];simp only[decide_eq_true_eq];lia
theorem yQ:∀a b,iR a b=false->iR b a=false->a=b
 | [],[],_,_=>rfl
 | [],_::_,h,_=>by simp[iR] at h
 | _::_,[],_,h=>by simp[iR] at h
 | a::as,b::bs,h,k=>by
  simp only[iR] at h k;by_cases e:a=b
  ·subst e;rw[if_pos rfl] at h k;rw[yQ as bs h k]
  ·rw[if_neg e] at h;rw[if_neg (Ne.symm e)] at k;simp only[decide_eq_false_iff_not] at h k;lia
theorem Ma (a b c:List Int) (h:iR a c=true):iR a b=true\/iR b c=true:=by
 cases h1:iR a b with
 | true=>exact fD rfl
 | false =>
  right;cases h2:iR b a with
  | true=>exact FY b a c h2 h
  | false=>rw[<-yQ a b h1 h2];exact h
def ZI:KeyOrd:=⟨List Int,iR,PN,FY,Ma,yQ⟩
section
variable {prog:bR} {w:cT} {A:cZ} {E:aB->aG->Prop} {s:aG}
theorem int_inv (h:(intKind prog w).is k v=true):∃t,v = .int k t:=by
 cases v <;> simp[intKind,nV] at h;exact⟨_,by rw[h]⟩
theorem Qp:∀(ns ms:List Int) (vs us:List aB) (i:Nat),ItemsAre (intKind prog w) ns vs->ItemsAre (intKind prog w) ms us->fin=decide (vs.length<us.length)->Q (iR ns ms) s->KatLex prog w A true fin Q (vs.zip us) i s:=by
 intro ns
 induction ns with
 | nil =>
  intro ms vs us i h1 h2 hf q;cases h1;cases h2 with
  | nil=>simp at hf;subst hf;exact WD q
  | cons _ _=>simp at hf;subst hf;exact WD q
 | cons n ns ih =>
  intro ms vs us i h1 h2 hf q;cases h1 with
  | cons h1 t1 =>
   cases h2 with
   | nil=>simp at hf;subst hf;exact WD q
   | @cons m u ms us h2 t2 =>
    rw[kQ];refine ZD ((intKind prog w).eqBool h1 h2 ?_);by_cases e:n=m
    ·subst e;rw[decide_eq_true rfl];exact kat_yes (ih ms _ us (i+1) t1 t2 (by simpa using hf) (by simpa [iR] using q))
    ·rw[decide_eq_false e];obtain⟨tn,rfl⟩:=int_inv h1;obtain⟨tm,rfl⟩:=int_inv h2;have q':Q (decide (n<m)) s:=(by simpa [iR,e] using q);refine kat_no ?_;cases hi:(i == 0) with
     | true=>exact oneLt_int q'
     | false=>exact kat_one _ _ (PySem.wpAny_lt_int (by exact q'))
def f7 (prog:bR) (w:cT) (h:Heap) (vs:List aB) (nss:List (List Int)):Prop:=vs.length=nss.length/\∀i v,vs[i]? = some v->∃a,v = .ref a/\IsTupleKey (intKind prog w) h (nss.getD i []) a
theorem PK:∀(vs:List aB) (nss:List (List Int)),f7 prog w h vs nss->(∀ns∈nss,ns≠[])->∃fs:List aB,KatTups h vs fs/\fs.length=vs.length/\∀f∈fs,∃k t,f = .int k t
 | [],nss,_,_=>⟨[],trivial,rfl,λf hf=>by cases hf⟩
 | v::vs,nss,H,hn=>by
  match nss,H with
  | [],H=>exact absurd H.1 (by simp)
  | ns::nss,H =>
   obtain⟨a,rfl,o,items,n,ho,hc,hd,hi⟩:=H.2 0 v rfl;obtain⟨fs,f1,f2,f3⟩:=PK vs nss ⟨by have:=H.1;simpa using this,λi v e=>H.2 (i+1) v e⟩ λms hm=>hn ms (aO _ hm);simp only[List.getD_cons_zero] at hi
   match ns,hi,hn ns (cF ..) with
   | [],_,h=>exact absurd rfl h
   | k::ks,hi,_ =>
    generalize e:items.toList=its at hi;cases hi with
    | cons h1 h2 =>
     obtain⟨t,rfl⟩:=int_inv h1;refine⟨.int k t::fs,⟨⟨a,o,items,n,rfl,ho,hc,hd,?_⟩,f1⟩,by simp[f2],λf hf=>?_⟩
     ·rw[<-hZ,e];rfl
     ·rcases aJ.mp hf with rfl | hf
      ·exact⟨k,t,rfl⟩
      ·exact f3 f hf
theorem f7.other {n:Nat} (K:f7 prog w h vs nss) (ho:h.get? a=some (seqObj "list" xs n)) (up:∀b o,b≠a->h.get? b=some o->h'.get? b=some o):f7 prog w h' vs nss:=by
 refine⟨K.1,λi v e=>?_⟩;obtain⟨b,rfl,o,its,m,h1,h2,h3,h4⟩:=K.2 i v e;refine⟨b,rfl,o,its,m,up b o ?_ h1,h2,h3,h4⟩;rintro rfl;rw[ho] at h1;cases h1;exact absurd h2 (by simp[seqObj])
theorem range_getD {α:Type} (d:α) (xs:List α):(dY xs.length).map (λi=>xs.getD i d)=xs:=by
 apply JC (by simp);intro i h1 h2;simp[h2]
theorem Jc {n:Nat} (ho:s.heap.get? a=some (seqObj "list" vs.toArray n)) (K:f7 prog w s.heap vs nss) (hn:∀ns∈nss,ns≠[]) (ud:vs.length<64)
  (q:∀h' out mss c,h'.get? a=some (seqObj "list" (fV out) c)->f7 prog w h' out mss->(∀v∈out,v∈vs)->mss.Perm nss->mss.Pairwise (λx y=>iR y x=false)->(∀b o,b≠a->s.heap.get? b=some o->h'.get? b=some o)->P (.done (.ret .none)) { s with heap:=h' }) :
  wpAny (model prog w) A (Builtin.«list.sort» ⟨[.ref a],[]⟩) P E s:=by
 have lt:a<s.heap.objs.size:=aX ho;rw[MK];apply aA;refine listItems_at ho rfl ?_;apply aA;refine wH ho rfl ?_ (by rw[aY,fQ];lia) (eV _);obtain⟨e1,vv⟩:∃e1,(s.heap.update a (eG λ_=>(#[]:Array aB))).get? a=some (seqObj "list" #[] e1):=⟨_,sL ho λ_=>#[]⟩;have up1:∀b o,b≠a->s.heap.get? b=some o->(s.heap.update a (eG λ_=>(#[]:Array aB))).get? b=some o:=λb o hb e=>(cW _ _ (Ne.symm hb)).trans e;generalize s.heap.update a (eG λ_=>(#[]:Array aB))=h1 at vv up1;apply aA;refine CH vv rfl ?_;apply aA;refine RI ?_ (by show vs.length<=_;rw[fQ];lia);apply aA;refine sB ?_ (eV _);apply fN;show wpAny (model prog w) A _ P E { s with heap:=(h1.push (seqObj "tuple" vs.toArray 0)).push (seqObj "list" #[] 0) };have jm:∀b o,b≠a->s.heap.get? b=some o->((h1.push (seqObj "tuple" vs.toArray 0)).push (seqObj "list" #[] 0)).get? b=some o:=λb o hb e=>aP _ (aP _ (up1 b o hb e));have j6:((h1.push (seqObj "tuple" vs.toArray 0)).push (seqObj "list" #[] 0)).get? a=some (seqObj "list" #[] e1):=aP _ (aP _ vv);generalize (h1.push (seqObj "tuple" vs.toArray 0)).push (seqObj "list" #[] 0)=h2 at jm j6;have K2:=K.other ho jm;have fin:∀(out:List aB) (mss:List (List Int)) (du:SortSt),(arrOf du).map (·.2)=out.toArray->failedOf du=none->f7 prog w h2 out mss->(∀v∈out,v∈vs)->mss.Perm nss->mss.Pairwise (λx y=>iR y x=false)->out.length<=64 ->
   wpAny (model prog w) A (do
    let sorted:=(arrOf du).map (·.2);let touched:=(<-seqEpoch a) != e1
    qC (.ref a) λ_=>sorted
    if let some e:=failedOf du then rule "list.sort.comparison-raised";throw e
    if touched then rule "list.sort.modified";raiseError "ValueError" "list modified during sort"
    ret .none) P E { s with heap:=h2 }:=by
  intro out mss du h1 hf KO hv hp hs hlen;dsimp only;apply aA;refine CH (s:={ s with heap:=h2 }) j6 rfl ?_;rw[h1];apply aA;refine wH (s:={ s with heap:=h2 }) j6 rfl ?_ (eV _) (by show out.toArray.size<=_;rw[aY,fQ];lia);obtain⟨c,hc⟩:∃c,(h2.update a (eG λ_=>out.toArray)).get? a=some (seqObj "list" out.toArray c):=⟨_,sL j6 λ_=>out.toArray⟩;have g7:∀b o,b≠a->h2.get? b=some o->(h2.update a (eG λ_=>out.toArray)).get? b=some o:=λb o hb e=>(cW _ _ (Ne.symm hb)).trans e;generalize h2.update a (eG λ_=>out.toArray)=h3 at hc g7;rw[hf];simp only[bne_self_eq_false,aN,if_false];exact aK (q h3 out mss c hc (KO.other j6 g7) hv hp hs λb o hb e=>g7 b o hb (jm b o hb e))
 have ln:=K.1;dsimp only;by_cases ve:vs.length<2
 ·have c2:vs.toArray.size<2:=by rw[aY];exact ve
  rw[if_pos c2,if_pos c2];apply aA;apply aK;apply aA;show wpAny _ _ (pure ((),SortSt.mk' general' (vs.toArray.zip vs.toArray) #[] 7 none)) _ _ _;apply aK;refine fin vs nss _ ?_ rfl K2 (λ_ h=>h) (tX _) ?_ (by lia)
  ·show (vs.toArray.zip vs.toArray).map (·.2)=vs.toArray;apply IY.mp;simp[JE]
  ·match nss,ln with
   | [],_=>exact lM
   | [x],_=>exact mE _ _
   | _::_::_,ln=>simp at ln;lia
 ·have c2:¬vs.toArray.size<2:=by rw[aY];exact ve
  rw[if_neg c2,if_neg c2];obtain⟨fs,f1,f2,f3⟩:=PK vs nss K2 hn;apply aA;refine kat_kind (s:={ s with heap:=h2 }) (T:=.type "int") f1 (by lia) (λv hv=>?_) (by decide) ?_
  ·obtain⟨k,t,rfl⟩:=f3 v hv;exact Looks.now
  have hT:(gZ "int" != gZ "tuple")=true:=by decide
  rw[hT];obtain⟨i1,i2,i3⟩:=Gf (O:=ZI) (key:=λi=>nss.getD i []) (n:=vs.length) (by lia);have N9:(iF (c7 ZI λi=>nss.getD i []) (uN vs.length)).size=vs.length:=by rw[i2.size_eq];simp
  generalize hp:iF (c7 ZI λi=>nss.getD i []) (uN vs.length)=p at i2 i3 N9;apply aA;refine gS (kat_run (ks:=vs) (vs:=vs) (Q:=λdu s'=>s' = { s with heap:=h2 }/\arrOf du=p.map (kas_item (vs.toArray.zip vs.toArray))/\failedOf du=none) (G:=λp' s'=>p'=p/\s' = { s with heap:=h2 }) rfl (by lia) ud (λp' du s' a1 a2 a3 a4=>⟨a4.2,by rw[a2,a4.1],a3⟩) ?_) ?_ λ_ _ e=>e
  ·refine FW (lt:=c7 ZI λi=>nss.getD i []) (n:=vs.length) (s:={ s with heap:=h2 }) (λi j C hi hj c=>?_) _ i1 ⟨hp,rfl⟩;unfold kas_ask;obtain⟨x,ex,ox,xs,nx,U',hx2,V0,hx4⟩:=K2.2 i (vs.getD i fF) (by simp[hi]);obtain⟨y,ey,oy,ys,ny,V2,hy2,V3,hy4⟩:=K2.2 j (vs.getD j fF) (by simp[hj]);rw[ex,ey];refine kat_lt (s:={ s with heap:=h2 }) U' V0 V2 V3 (Qp _ _ _ _ 0 hx4 hy4 (by simp) ?_);exact c
  ·rintro⟨⟨⟩,du⟩ s' ⟨rfl,R6,hf⟩;have v4:=kat_snds (ks:=vs) (vs:=vs) rfl R6;refine fin (p.toList.map λi=>vs.getD i fF) (p.toList.map λi=>nss.getD i []) du v4 hf ⟨by simp,λi v e=>?_⟩ (λv hv=>?_) ?_ ?_ (by simp[N9];lia)
   ·rw[bT] at e;cases e2:p.toList[i]? with
    | none=>rw[e2] at e;simp at e
    | some j =>
     rw[e2] at e;simp only[pO,qS] at e;have hj:j<vs.length:=by
      have m:j∈p.toList:=dM e2;have:=(FB i2).mp (gD.mp m);simpa using this
     obtain⟨b,hb1,hb2⟩:=K2.2 j v (by rw[<-e];simp[hj]);refine⟨b,hb1,?_⟩;have g:(p.toList.map λi=>nss.getD i []).getD i []=nss.getD j []:=by
      rw[cE,bT,e2];rfl
     rw[g];exact hb2
   ·obtain⟨j,m,rfl⟩:=bF.mp hv;have hj:j<vs.length:=by
     have:=(FB i2).mp (gD.mp m);simpa using this
    simp[hj]
   ·have pl:p.toList.Perm (dY vs.length):=(by simpa using i2.toList);refine (pl.map _).trans ?_;rw[ln,range_getD]
   ·refine lN.mpr (gY.mpr λi j hi hj k_=>?_);have:=i3 i j (by lia) (by simp at hj;lia);unfold kk at this;simp only[cI] at hi hj;have e1:p.getD i 0=p[i]:=(by simp[jJ,hi]);have e2:p.getD j 0=p[j]:=(by simp[jJ,hj]);rw[e1,e2] at this;exact this
theorem MH {S:Addr} {es:Array (Int × aB)} {Q:aB->aG->Prop} (hh:A.handled=none) (H:ii prog w s.heap S es) (ud:es.size<64) {nss:List (List Int)} (hn:∀ns∈nss,ns≠[])
  (hk:∀e∈es.toList,∃ns∈nss,∃a,e.2 = .ref a/\IsTupleKey (intKind prog w) s.heap ns a)
  (q:∀h' D out mss c,s.heap.objs.size<=D->h'.get? D=some (seqObj "list" (fV out) c)->f7 prog w h' out mss->(∀v∈out,∃e∈es.toList,e.2=v)->(∀ns,ns∈mss↔∃e∈es.toList,∃a,e.2 = .ref a/\IsTupleKey (intKind prog w) s.heap ns a)->mss.Pairwise (λx y=>iR y x=false) ->
   mss.length=es.size->(∀b o,s.heap.get? b=some o->h'.get? b=some o)->Q (.ref D) { s with heap:=h' }) :
  wpAny (model prog w) A (call (.builtin "sorted") [.ref S]) Q E s:=by
 obtain⟨⟨ep,t,ho,T,hf,hl,hp,_⟩,els,_⟩:=H;have wp:=CZ (w:=w) S ep es;have wl:(gX w S ep es).toList.length=es.size:=by rw[wp.length_eq,cI]
 refine oU LM ID HL (HA _) ?_;unfold Builtin.«sorted»;refine aA (m:=checkCount "sorted" 1 1 _) (aK ?_);apply aA;refine LH (A:=A.in1) (by simp[hh]) ho T hl hp (by lia) λh1 k1 big=>?_;apply aA;refine sB ?_ (by rw[aS,wl,fQ];lia);show wpAny _ _ _ _ _ { s with heap:=h1.push (seqObj "list" (fV ((gX w S ep es).toList.map (·.2))) 0) };have hL:(h1.push (seqObj "list" (fV ((gX w S ep es).toList.map (·.2))) 0)).get? h1.objs.size=some (seqObj "list" (fV ((gX w S ep es).toList.map (·.2))) 0):=cL _ rfl;have k2:∀b o,s.heap.get? b=some o->(h1.push (seqObj "list" (fV ((gX w S ep es).toList.map (·.2))) 0)).get? b=some o:=λb o e=>aP _ (k1 b o e);generalize h1.push (seqObj "list" (fV ((gX w S ep es).toList.map (·.2))) 0)=h2 at hL k2;have ex:∀(i:Nat) (v:aB),((gX w S ep es).toList.map (·.2))[i]? = some v->∃ns∈nss,∃a,v = .ref a/\IsTupleKey (intKind prog w) s.heap ns a:=by
  intro i v e;rw[bT] at e;cases e2:(gX w S ep es).toList[i]? with
  | none=>rw[e2] at e;simp at e
  | some x =>
   rw[e2] at e;simp only[pO,qS] at e;have m:x∈es.toList:=wp.mem_iff.mp (dM e2);obtain⟨ns,h1,a,h2,h3⟩:=hk x m;exact⟨ns,h1,a,by rw[<-e];exact h2,h3⟩
 obtain⟨kss,kl,kk⟩:∃kss:List (List Int),kss.length=((gX w S ep es).toList.map (·.2)).length/\∀(i:Nat) (v:aB),((gX w S ep es).toList.map (·.2))[i]? = some v->kss.getD i []∈nss/\∃a,v = .ref a/\IsTupleKey (intKind prog w) s.heap (kss.getD i []) a:=by
  generalize ((gX w S ep es).toList.map (·.2))=vs at ex;clear hL
  induction vs with
  | nil=>exact⟨[],rfl,λi v e=>by simp at e⟩
  | cons v vs ih =>
   obtain⟨kss,k1,k2⟩:=ih λi v e=>ex (i+1) v (by simpa using e);obtain⟨ns,h1,a,h2,h3⟩:=ex 0 v rfl;refine⟨ns::kss,by simp[k1],λi u e=>?_⟩;cases i with
   | zero=>simp at e;subst e;exact⟨h1,a,h2,h3⟩
   | succ i=>exact k2 i u (by simpa using e)
 have KA:f7 prog w h2 ((gX w S ep es).toList.map (·.2)) kss:=by
  refine⟨kl.symm,λi v e=>?_⟩;obtain⟨_,a,h1,o,its,m,g1,g2⟩:=kk i v e;exact⟨a,h1,o,its,m,k2 _ _ g1,g2⟩
 have zg:∀ns,ns∈kss↔∃e∈es.toList,∃a,e.2 = .ref a/\IsTupleKey (intKind prog w) s.heap ns a:=by
  intro ns;constructor
  ·intro h;obtain⟨i,hi,e⟩:=dU h;have gq:i<((gX w S ep es).toList.map (·.2)).length:=(by lia);obtain⟨_,a,h1,h2⟩:=kk i _ (aD gq);have g:kss.getD i []=ns:=(by simp[hi,e]);rw[g] at h2;simp only[List.getElem_map] at h1;exact⟨_,wp.mem_iff.mp (oF _),a,h1,h2⟩
  ·rintro⟨e,he,a,h1,h2⟩;obtain⟨i,hi,e'⟩:=dU (wp.mem_iff.mpr he);obtain⟨_,b,g1,g2⟩:=kk i e.2 (by rw[bT,aD hi,e'];rfl);rw[h1] at g1;cases g1;have:=g2.inj h2;rw[<-this];have gq:i<kss.length:=(by rw[kl];simpa using hi);simp[gq]
 refine aA (fN (kN slot_list_sort ⟨_,hL,rfl⟩ entry_list_sort ?body (BE _)))
 case body =>
  refine Jc (s:={ s with heap:=h2 }) hL KA (λns h=>?_) (by rw[aS,wl];exact ud) λh3 out mss c g1 g2 g3 g4 g5 g6=>?_
  ·obtain⟨e,he,a,e1,e2⟩:=(zg ns).mp h;obtain⟨ms,m1,b,e3,e4⟩:=hk e he;rw[e1] at e3;cases e3;rw[e2.inj e4];exact hn ms m1
  ·refine⟨_,rfl,aK ⟨_,rfl,q h3 h1.objs.size out mss c big g1 g2 (λv hv=>?_) (λns=>(g4.mem_iff).trans (zg ns)) g5 ?_ λb o e=>?_⟩⟩
   ·obtain⟨e,he,rfl⟩:=bF.mp (g3 v hv);exact⟨e,wp.mem_iff.mp he,rfl⟩
   ·rw[g4.length_eq,kl,aS,wl]
   ·have:=aX e;exact g6 b o (by intro z;simp only[Addr] at *;lia) (k2 b o e)
end
end
section
open PySem PySem.W PyProof.Rows
def Cn:typeLookup (.type "list_reverseiterator") "__len__" = pure none:=by rw[zT,rM];kernel_rfl
def Mh:typeLookup (.type "list_reverseiterator") "__length_hint__" = pure (some (.builtin "list_reverseiterator.__length_hint__")):=by rw[zT,rM];kernel_rfl
def XF:isSubtype (.type "list_reverseiterator") (.type "list_reverseiterator")=pure true:=by rw[PJ];kernel_rfl
section
variable {s:aG}
theorem Ny (ty:s.TypeIs (.ref I) "list_reverseiterator") (q:Q false s):wpAny (model prog w) A (kD (.ref I)) Q E s:=by
 unfold kD;apply aA;refine pT ty Cn ?_;show wpAny _ _ (specialOf (fS I) (yH "__length_hint__") >>= _) _ _ _;apply aA;refine pT ty Mh ?_;dsimp only;have sp:splitId "list_reverseiterator.__length_hint__" = some ("list_reverseiterator","__length_hint__"):=by decide +kernel
 rw[sp];dsimp only;apply aA;refine xO (b:=true) ty XF ?_;simp only[eY,aN,if_false];have key:∀(c:Bool) (X Y:Sem Bool),c=true->wpAny (model prog w) A X Q E s->wpAny (model prog w) A (if c=true then X else Y) Q E s:=λc X Y hc h=>by rw[if_pos hc];exact h
 refine key _ _ _ (by decide +kernel) ?_;rw[if_neg (by decide +kernel)];exact aK q
theorem RX (hh:A.handled=none) (ne:l≠I) (hz:items.size<=sizeLine) (hi:s.heap.IsRevIter I l ((items.size:Int)-1)) (hl:s.heap.IsList l items)
  (q:∀h' c,h'.get? s.heap.objs.size=some (seqObj "list" items.toList.reverse.toArray c)->(∀b o,b≠I->s.heap.get? b=some o->h'.get? b=some o)->Q (.ref s.heap.objs.size) { s with heap:=h' }) :
  wpAny (model prog w) A (call (.type "list") [.ref I]) Q E s:=by
 have ltI:I<s.heap.objs.size:=by obtain⟨o,e,_⟩:=hi;exact aX e
 have ltl:l<s.heap.objs.size:=by obtain⟨o,e,_⟩:=hl;exact aX e
 refine callType_codes (Q₁:=λobj s₁=>obj = .ref s.heap.objs.size/\s₁ = { s with heap:=s.heap.push { cls:=.type "list",data:=.seq #[] } }) F.called_list (F.typeCall_list_1 _) F.entry_list_init (code_list_new _ ⟨rfl,rfl⟩) λobj s₁ h₁=>?_;obtain⟨rfl,rfl⟩:=h₁;have hS:(s.heap.push { cls:=.type "list",data:=.seq #[] }).get? s.heap.objs.size=some { cls:=.type "list",data:=.seq #[] }:=cL _ rfl;refine⟨⟨_,hS,rfl⟩,F.args_list_init_2 _ _,?_⟩;show wpAny _ _ (do let old <-xQ (.ref s.heap.objs.size);qC (.ref s.heap.objs.size) (λ_=>#[]);letGo old.toList.reverse;iO (.ref s.heap.objs.size) (.ref I) .none) _ _ _;apply aA;unfold xQ;apply aA;apply oC hS rfl;apply aK;show wpAny _ _ (updateSeq s.heap.objs.size (λ_=>#[]) >>= λ_=>letGo (#[]:Array aB).toList.reverse >>= λ_=>iO (.ref s.heap.objs.size) (.ref I) .none) _ _ _;apply aA;refine jX hS rfl ?_;have hS2:=fK (eG (λ_=>(#[]:Array aB))) hS rfl;have jm:∀b o,b≠s.heap.objs.size->s.heap.get? b=some o->((s.heap.push { cls:=.type "list",data:=.seq #[] }).update s.heap.objs.size (eG (λ_=>(#[]:Array aB)))).get? b=some o :=
  λb o hb e=>(cW _ _ (Ne.symm hb)).trans (aP _ e)
 generalize (s.heap.push { cls:=.type "list",data:=.seq #[] }).update s.heap.objs.size (eG (λ_=>(#[]:Array aB)))=h2 at hS2 jm;apply aA;apply vQ;have mw:I≠s.heap.objs.size:=bO ltI;have nel:l≠s.heap.objs.size:=bO ltl;have ww:h2.IsRevIter I l ((items.size:Int)-1):=hi.at λo e=>jm _ o mw e;have M8:h2.IsList l items:=hl.at λo e=>jm _ o nel e;unfold iO;apply aA;refine tK (T:="list_reverseiterator") ww.typeIs ?_;have g1:lR (.ref s.heap.objs.size) (.ref I)=false:=by simp[lR,kG ltI]
 have g2:(gZ "list_reverseiterator" == gZ "list")=false:=by decide
 have g3:(gZ "list_reverseiterator" == gZ "tuple")=false:=by decide
 simp only[g1,g2,g3,DR,aN,if_false];apply aA;refine wpAny_pyIter_revIter ww ?_;apply aA;apply fN;refine Ny ww.typeIs ?_;have key:∀(c:Bool) (X Y:Sem Fin) {Q':Fin->aG->Prop} {E':aB->aG->Prop} {s':aG} {A':cZ},c=false->wpAny (model prog w) A' Y Q' E' s'->wpAny (model prog w) A' (if c=true then X else Y) Q' E' s':=λc X Y _ _ _ _ hc h=>by rw[hc,if_neg cM];exact h
 refine key _ _ _ (by decide +kernel) ?_;apply aK;refine⟨iU jH _,?_⟩;refine YO (s0:=s) (n:=items.size) (J:=λacc h=>h.IsRevIter I l ((items.size:Int)-1-(acc.length:Int))/\h.IsList l items/\acc=items.toList.reverse.take acc.length/\∀b o,b≠I->b≠s.heap.objs.size->s.heap.get? b=some o->h.get? b=some o)
  (F:=λacc h=>acc=items.toList.reverse/\∀b o,b≠I->b≠s.heap.objs.size->s.heap.get? b=some o->h.get? b=some o) .none hz ?_ ?_ ?_ (λh' acc c nu hF kr=>⟨rfl,?_⟩) items.size #[] h2 _ rfl (eV _) ?_ hS2
 ·rintro acc h h' ⟨J1,J2,J3,J4⟩ si hz up;exact⟨J1.at λo e=>up _ o mw e,J2.at λo e=>up _ o nel e,J3,λb o n1 n2 e=>up b o n2 (J4 b o n1 n2 e)⟩
 ·rintro acc s' o Q' E' c9 ⟨J1,J2,J3,J4⟩ si k;have e:items[items.size-1-acc.length]? = some (items[items.size-1-acc.length]'(by lia)):=bH _;refine wpAny_pyNext_rev_item (i:=items.size-1-acc.length) (by rw[show ((items.size-1-acc.length:Nat):Int)=(items.size:Int)-1-(acc.length:Int) by lia];exact J1) J2 e λh' it' sb=>k _ h' ⟨?_,J2.at λo e=>?_,?_,λb o n1 n2 e=>?_⟩ ?_
  ·rw[show ((items.size-1-acc.length:Nat):Int)-1=(items.size:Int)-1-((acc++[items[items.size-1-acc.length]'(by lia)]).length:Int) by simp;lia] at it';exact it'
  ·rw[sb.2 _ ne];exact e
  ·rw[bJ,rK,kP,<-J3];congr 1;rw[aD (by simp;lia),List.getElem_reverse];simp
  ·rw[sb.2 b n1];exact J4 b o n1 n2 e
  ·rw[sb.2 _ (Ne.symm mw)];exact si
 ·rintro acc s' o Q' E' hlen ⟨J1,J2,J3,J4⟩ si k;rw[hlen] at J3;refine wpAny_pyNext_rev_end (l:=l) (by simp[hh]) (by rw[show (-1:Int)=(items.size:Int)-1-(acc.length:Int) by lia];exact J1) λh' eb=>k h' ⟨?_,λb o n1 n2 e=>eb b o n1 (J4 b o n1 n2 e)⟩ (eb _ _ (Ne.symm mw) si);rw[J3,kF];simp
 ·exact⟨by simpa using ww,M8,rfl,λb o _ n2 e=>jm b o n2 e⟩
 ·refine q h' c ?_ λb o n1 e=>hF.2 b o n1 (bO (aX e)) e;rw[kr,<-hF.1]
end
end
section
open PySem PySem.Spec PyProof.Rows L2
def boot_sorted:bootBuiltins "sorted" = some (.builtin "sorted"):=by decide +kernel
def boot_set:bootBuiltins "set" = some (.type "set"):=by decide +kernel
theorem ZB:∀{ns:List Int} {us:List aB},am (ns.map V.int) us->ItemsAre (intKind prog w) ns us
 | [],_,h=>by cases h;exact .nil
 | n::ns,_,h=>by
  cases h with
  | cons h1 t =>
   obtain⟨t',rfl⟩:=h1;exact .cons (intKind_is _ _ _ _) (ZB t)
def QN (te:RE):RA:=λa Q=>te a λx=>∃nss:List (List Int),x = .lst (nss.map nG)/\nss.length<64/\(∀ns∈nss,ns≠[])/\∀mss:List (List Int),mss.Pairwise (λx y=>iR y x=false)->(∀ns,ns∈mss↔ns∈nss)->mss.length<=nss.length->Q (mss.map nG)
def QM (te:RE):RA:=λa Q=>te a λx=>∃ds:List D,x = .lst ds/\Q ds.reverse
theorem Ay {K:aI} {H:Hp}:∀(out:List aB) (mss:List (List Int)),out.length=mss.length->(∀(i:Nat) (v:aB),out[i]? = some v->∃a,v = .ref a/\H a=some (.tup ((mss.getD i []).map V.int)))->∃ws:List V,am ws out/\af K H (mss.map nG) ws
 | [],[],_,_=>⟨[],.nil,.nil⟩
 | [],_::_,h,_=>by simp at h
 | _::_,[],h,_=>by simp at h
 | v::out,ms::mss,h,k=>by
  obtain⟨ws,h1,h2⟩:=Ay (K:=K) (H:=H) out mss (by simpa using h) λi v e=>k (i+1) v (by simpa using e);obtain⟨a,rfl,ha⟩:=k 0 v rfl;exact⟨.ref a::ws,.cons rfl h1,.cons (.tup ha af.ints) h2⟩
section
variable {X:Cx} {e:Expr} {te:RE} {p pz pos gV:Pos}
theorem Ce {k:Nat} (hr:ce k X.A) (vt:X.mg "sorted" = none) (y8:X.mg "set" = none) (hc:X.calm=true) (h:DB X e te) (vn:Gl X "sorted":=by rfl) (yv:Gl X "set":=by rfl)
  (hs:starEach [.Call (.Name "set" pz) [e] [] gV] X.env=[(false,eval (.Call (.Name "set" pz) [e] [] gV) X.env)]:=by rfl) (hn:starEach [] X.env=[]:=by rfl) (h1:starEach [e] X.env=[(false,eval e X.env)]:=by rfl) :
  DO X (.Call (.Name "sorted" p) [.Call (.Name "set" pz) [e] [] gV] [] pos) (QN te):=by
 intro pins s Z H Q I aw;obtain⟨m,P,st,q,kq⟩:=aw;refine fJ (pY I vn vt boot_sorted ?_);refine gU ?_ (by rw[hs,hn]) (by rw[hn];rfl);rw[hs];show wpAny _ _ (spliced ((false,eval (.Call (.Name "set" pz) [e] [] gV) X.env)::backTo pos [])) _ _ s;refine pU (fJ (pY I yv y8 boot_set ?_));refine eP (ci (qX h h1 hn gV pins s Z H (λvs H1=>∃(nss:List (List Int)) (v:V),vs=[v]/\ae H H1/\c8 X.K H1 (.lst (nss.map nG)) v/\nss.length<64/\(∀ns∈nss,ns≠[])/\∀mss:List (List Int),mss.Pairwise (λx y=>iR y x=false)->(∀ns,ns∈mss↔ns∈nss)->mss.length<=nss.length->P (mss.map nG)) I
  ⟨m,_,st,q,λx v H1 hx s1 r1=>?_⟩) λus s1 ⟨vs,H1,I1,r1,q1⟩=>?_) (by rw[h1,hn]) (by rw[hn];rfl)
 ·obtain⟨nss,rfl,a1,a2,a3⟩:=hx;exact⟨nss,v,rfl,s1,r1,a1,a2,a3⟩
 obtain⟨nss,v,rfl,jz,rb,ud,gz,hP⟩:=q1;obtain⟨l,vs,rfl,hq,rr⟩:=rb.lst;obtain⟨u,rfl,rx⟩:=vals1 r1;cases rx;obtain⟨its,rv,pl,hz⟩:=I1.list hq;have l1:=rr.length;have l2:=rv.length;rw[aS] at l1;have each:∀(i:Nat) (u:aB),its[i]? = some u->∃ns a,nss[i]? = some ns/\vs[i]? = some (.ref a)/\u = .ref a/\IsTupleKey (intKind X.prog X.w) s1.heap ns a:=λi u e=>by
  have hi:i<nss.length:=by have:=(bC.mp e).1;lia
  obtain⟨v,e1,e2⟩:=rr.get (i:=i) (d:=nG nss[i]) (by rw[bT,aD hi];rfl);obtain⟨a,rfl,ha⟩:=af.tupI_inv e2;obtain⟨u',f1,f2⟩:=rv.get e1;rw[e] at f1;cases f1;cases f2;obtain⟨ts,g1,g2,_⟩:=I1.tuple (di.of (K:=X.K) ha);obtain⟨o,go,gc,n,gd⟩:=g2;exact⟨_,a,aD hi,e1,rfl,o,ts.toArray,n,go,gc,gd,by simpa using ZB g1⟩
 have hu:=hr.un;refine SA (key:=λi=>nss.getD i []) (I1.ok.hd hc) (by lia) pl.isList (λi u e=>?_) (by simp;lia) λh2 tk D up=>?_
 ·obtain⟨ns,a,n1,_,rfl,hk⟩:=each i u (by simpa using e);refine⟨a,rfl,?_⟩;have:nss.getD i []=ns:=by rw[cE,n1];rfl
  rw[this];exact hk
 refine qJ ?_;obtain⟨es,ST,d1,d2,d3⟩:=D;have ql:∀{ns:List Int} {a:Addr},IsTupleKey (intKind X.prog X.w) s1.heap ns a->IsTupleKey (intKind X.prog X.w) h2 ns a:=λ⟨o,its,n,g1,g2⟩=>⟨o,its,n,up _ _ g1,g2⟩;have elem:∀e∈es.toList,∃(i:Nat) (ns:List Int) (a:Addr),nss[i]? = some ns/\vs[i]? = some (.ref a)/\e.2 = .ref a/\IsTupleKey (intKind X.prog X.w) h2 ns a:=λe he=>by
  obtain⟨j,hj,ej⟩:=d1 e he;obtain⟨ns,a,n1,n2,n3,hk⟩:=each j e.2 (by simpa using ej);exact⟨j,ns,a,n1,n2,n3,ql hk⟩
 refine MH (s:={ s1 with heap:=h2,toks:=tk }) (A:=X.A) (I1.ok.hd hc) ST (by simp at d3;lia) (nss:=nss) gz (λe he=>?_) λh3 Dd out mss c big g1 g2 g3 g4 g5 g6 g7=>?_
 ·obtain⟨i,ns,a,n1,n2,n3,hk⟩:=elem e he;exact⟨ns,dM n1,a,n3,hk⟩
 have kp:∀b o,s1.heap.get? b=some o->h3.get? b=some o:=λb o e=>g7 b o (up b o e);have I3:Inv X pins Z H1 { s1 with heap:=h3,toks:=tk }:=I1.kept kp;have szS:s1.heap.objs.size<h2.objs.size:=by obtain⟨⟨ep,t,ho,_⟩,_⟩:=ST;exact aX ho
 have qa:s1.heap.objs.size<=Dd:=by have:h2.objs.size<=Dd:=big;lia
 have ue:H1 Dd=none:=I1.hok.fresh qa;have jt:∀{i:Nat} {ns:List Int} {a:Addr},nss[i]? = some ns->vs[i]? = some (.ref a)->H1 a=some (.tup (ns.map V.int)):=λ{i ns a} n1 n2=>by
  obtain⟨w,f1,f2⟩:=rr.get (i:=i) (d:=nG ns) (by rw[bT,n1];rfl);rw[n2] at f1;cases f1;obtain⟨b,e,hb⟩:=af.tupI_inv f2;cases e;exact hb
 obtain⟨ws,VV,RR⟩:=Ay (K:=X.K) (H:=H1) out mss g2.1 λi v e=>by
  obtain⟨x,hx,ex⟩:=g3 v (dM e);obtain⟨j,ns,a,n1,n2,n3,hk⟩:=elem x hx;obtain⟨b,eb,hb⟩:=g2.2 i v e;rw[<-ex,n3] at eb;cases eb;refine⟨a,by rw[<-ex,n3],?_⟩;have hk3:IsTupleKey (intKind X.prog X.w) h3 ns a:=by obtain⟨o,its,n,q1,q2⟩:=hk;exact⟨o,its,n,g7 _ _ q1,q2⟩
  rw[hb.inj hk3];exact jt n1 n2
 have lo:out.length<=64:=by rw[g2.1,g6];simp at d3;lia
 have lw:=VV.length;have I4:=I1.trackO (a:=Dd) (w:=.lst ws) I3 qa ue ⟨by rw[fQ];lia,out,c,VV,g1⟩;refine⟨.ref Dd,_,I4,rfl,kq _ _ _ H1 (hP mss g5 (λns=>?_) (by rw[g6];simp at d3;lia)) jz ue RR⟩;rw[g4 ns];constructor
 ·rintro⟨x,hx,a,e1,e2⟩;obtain⟨j,ms,b,n1,n2,n3,hk⟩:=elem x hx;rw[e1] at n3;cases n3;rw[e2.inj hk];exact dM n1
 ·intro h;obtain⟨j,hj,rfl⟩:=dU h;obtain⟨y,hy,b,e1,e2⟩:=d2 j (by simp;lia);refine⟨y,hy,b,e1,?_⟩;have:nss.getD j []=nss[j]:=by simp[hj]
  rw[this] at e2;exact e2
theorem Cd (T3:X.mg "list" = none) (y8:X.mg "reversed" = none) (hc:X.calm=true) (h:DB X e te) (S3:Gl X "list":=by rfl) (yv:Gl X "reversed":=by rfl)
  (hs:starEach [.Call (.Name "reversed" pz) [e] [] gV] X.env=[(false,eval (.Call (.Name "reversed" pz) [e] [] gV) X.env)]:=by rfl) (hn:starEach [] X.env=[]:=by rfl) (h1:starEach [e] X.env=[(false,eval e X.env)]:=by rfl) :
  DO X (.Call (.Name "list" p) [.Call (.Name "reversed" pz) [e] [] gV] [] pos) (QM te):=by
 intro pins s Z H Q I aw;obtain⟨d,P,st,q,kq⟩:=aw;refine fJ (pY I S3 T3 boot_list ?_);refine eP ?_ (by rw[hs,hn]) (by rw[hn];rfl);rw[hs];show wpAny _ _ (spliced ((false,eval (.Call (.Name "reversed" pz) [e] [] gV) X.env)::backTo pos [])) _ _ s;refine pU (fJ (pY I yv y8 boot_reversed ?_));refine eP (ci (qX h h1 hn gV pins s Z H (λvs H1=>∃(ds:List D) (v:V),vs=[v]/\ae H H1/\c8 X.K H1 (.lst ds) v/\P ds.reverse) I
  ⟨d,_,st,q,λx v H1 hx s1 r1=>?_⟩) λus s1 ⟨vs,H1,I1,r1,q1⟩=>?_) (by rw[h1,hn]) (by rw[hn];rfl)
 ·obtain⟨ds,rfl,a1⟩:=hx;exact⟨ds,v,rfl,s1,r1,a1⟩
 obtain⟨ds,v,rfl,jz,rb,hP⟩:=q1;obtain⟨l,vs,rfl,hq,rr⟩:=rb.lst;obtain⟨u,rfl,rx⟩:=vals1 r1;cases rx;obtain⟨its,rv,pl,hz⟩:=I1.list hq;have l1:=rr.length;have l2:=rv.length;have lt:l<s1.heap.objs.size:=by obtain⟨o,e,_⟩:=pl.isList;exact aX e
 refine call_reversed_list pl.isList ?_;refine qJ ?_;have g0:(s1.heap.push (revObj l ((its.toArray.size:Int)-1))).get? s1.heap.objs.size=some (revObj l ((its.toArray.size:Int)-1)):=cL _ rfl;have k1:∀b o,s1.heap.get? b=some o->(s1.heap.push (revObj l ((its.toArray.size:Int)-1))).get? b=some o:=λb o e=>aP _ e;have z1:(s1.heap.push (revObj l ((its.toArray.size:Int)-1))).objs.size=s1.heap.objs.size+1:=nR ..;generalize s1.heap.push (revObj l ((its.toArray.size:Int)-1))=h2 at g0 k1 z1;refine RX (s:={ s1 with heap:=h2 }) (A:=X.A) (l:=l) (I1.ok.hd hc) (bO lt) (by simp;lia) ⟨_,g0,rfl,rfl⟩ (pl.isList.at λo e=>k1 _ o e) λh3 c g1 up=>?_;show EP X pins Z Q (.ref h2.objs.size) _;rw[show (Shared.heap { s1 with heap:=h2 }).objs.size=s1.heap.objs.size+1 from z1] at g1;rw[z1];have kp:∀b o,s1.heap.get? b=some o->h3.get? b=some o:=λb o e=>up b o (bO (aX e)) (k1 b o e);have I3:Inv X pins Z H1 { s1 with heap:=h3 }:=I1.kept (t':=s1.toks) kp;have ue:H1 (s1.heap.objs.size+1)=none:=I1.hok.fresh (vE _);have VV:am vs.reverse its.reverse:=by
  clear hq pl hz l1 l2 rr g1 g0
  induction rv with
  | nil=>exact .nil
  | cons r t ih =>
   simp only[vD];exact am.append ih (.cons r .nil)
 have I4:=I1.trackO (a:=s1.heap.objs.size+1) (w:=.lst vs.reverse) I3 (vE _) ue ⟨by simp;lia,its.reverse,c,VV,by simpa using g1⟩;exact⟨.ref (s1.heap.objs.size+1),_,I4,rfl,kq _ _ _ H1 hP jz ue rr.reverse⟩
end
section
def A3 (lo:Int) (n:Nat):List D:=(dY n).map λk:Nat=>D.int (lo+(k:Int)*2)
structure t6 (j:Int):Prop where
 lo:-(2 ^ 60)<=j
 hi:j<2 ^ 60
def Wv (t:RA):RA:=λa Q=>t a λds=>match ds with
 | [.int i,.int j,.int c]=>(t6 i/\t6 j/\c=2)/\Q (A3 i ((j-i+1) / 2).toNat)
 | _=>False
end
end
end L2.R2
namespace L2
open PySem PySem.Spec PyProof.Rows
section
variable {κ:Type} [DecidableEq κ]
def uU (kvs:List (κ × V)) (k:κ):Option V:=(kvs.find? λkv=>decide (kv.1=k)).map (·.2)
def Rv (kvs:List (κ × V)) (k:κ) (v:V):List (κ × V) :=
 if (kvs.any λkv=>decide (kv.1=k))=true then kvs.map (λkv=>if kv.1=k then (kv.1,v) else kv) else kvs++[(k,v)]
theorem sF {p:κ × V} {r:List (κ × V)} {k:κ} (e:p.1=k):uU (p::r) k=some p.2:=by simp[uU,mT,e]
theorem qZ {p:κ × V} {r:List (κ × V)} {k:κ} (e:¬p.1=k):uU (p::r) k=uU r k:=by simp[uU,mT,e]
theorem Bj (k:κ):∀kvs:List (κ × V),(kvs.any λkv=>decide (kv.1=k))=(uU kvs k).isSome
 | []=>rfl
 | p::r=>by
  rw[DX];by_cases e:p.1=k
  ·simp only[sF e,decide_eq_true e,Bool.true_or,Option.isSome_some]
  ·rw[qZ e,decide_eq_false e,RK];exact Bj k r
theorem Ni {kvs:List (κ × V)} {k:κ} (v:V) (h:uU kvs k=none):Rv kvs k v=kvs++[(k,v)]:=by
 unfold Rv;rw[Bj,h];exact if_neg (by decide)
theorem KV.val (r:KV kvs vs) (k:κ):km (uU kvs k) (valueAt vs k):=by
 unfold KV at r
 induction r with
 | nil=>exact pW
 | @cons p q ps qs h t ih =>
  obtain⟨h1,h2⟩:=h;by_cases e:p.1=k
  ·have e':q.1=k:=h1.symm.trans e;have b:valueAt (q::qs) k=some q.2:=(by simp[valueAt,mT,e']);rw[sF e,b];exact h2
  ·have e':¬q.1=k:=λz=>e (h1.trans z);have b:valueAt (q::qs) k=valueAt qs k:=(by simp[valueAt,mT,e']);rw[qZ e,b];exact ih
theorem KV.any (r:KV kvs vs) (k:κ):(kvs.any λkv=>decide (kv.1=k))=vs.any λkv=>decide (kv.1=k):=by
 unfold KV at r
 induction r with
 | nil=>rfl
 | cons h t ih=>rw[DX,DX,ih,h.1]
theorem KV.repl (r:KV kvs vs) (k:κ) (ry:RelV y u) :
  KV (kvs.map λkv=>if kv.1=k then (kv.1,y) else kv) (vs.map λkv=>if kv.1=k then (kv.1,u) else kv):=by
 unfold KV at r ⊢
 induction r with
 | nil=>exact .nil
 | @cons p q ps qs h t ih =>
  rw[aQ,aQ];refine .cons ?_ ih;obtain⟨h1,h2⟩:=h;by_cases e:p.1=k
  ·rw[if_pos e,if_pos (h1.symm.trans e)];exact⟨h1,ry⟩
  ·rw[if_neg e,if_neg (λz=>e (h1.trans z))];exact⟨h1,h2⟩
theorem KV.put (r:KV kvs vs) (k:κ) (ry:RelV y u):KV (Rv kvs k y) (stored vs k u):=by
 unfold Rv stored;rw[r.any k];by_cases e:(vs.any λkv=>decide (kv.1=k))=true
 ·rw[if_pos e,if_pos e];exact r.repl k ry
 ·rw[if_neg e,if_neg e];exact Paired.snoc r ⟨rfl,ry⟩
theorem KV.length {kvs:List (κ × V)} {vs:List (κ × aB)} (r:KV kvs vs):kvs.length=vs.length:=RQ r
end
theorem Lp (r:RelV (kV k) u):(mR P w).is k u=true:=by
 cases k with
 | inl i=>obtain⟨t,e⟩:=(show ∃t,u=oJ i t from r);subst e;exact ZO P w i t
 | inr x=>obtain⟨t,e⟩:=(show ∃t,u=JL x t from r);subst e;exact ZP P w x t
theorem TW:∀{ks:List f6} {us:List aB},am (ks.map kV) us->ItemsAre (mR P w) ks us
 | [],_,r=>by rw[bZ] at r;cases r;exact .nil
 | k::ks,_,r=>by
  rw[aQ] at r;cases r with
  | cons h t=>exact .cons (Lp h) (TW t)
abbrev KT (H:Hp):List (List f6 × V)->List (List f6 × Addr × aB)->Prop:=Paired λp q=>p.1=q.1/\H q.2.1=some (.tup (p.1.map kV))/\RelV p.2 q.2.2
theorem KT.val (r:KT H kvs xs) (k:List f6):km (uU kvs k) ((atKey xs k).map (·.2)):=by
 induction r with
 | nil=>exact pW
 | @cons p q ps qs h t ih =>
  obtain⟨h1,_,h2⟩:=h;by_cases e:p.1=k
  ·have e':q.1=k:=h1.symm.trans e;have b:atKey (q::qs) k=some q.2:=(by simp[atKey,mT,e']);rw[sF e,b];exact h2
  ·have e':¬q.1=k:=λz=>e (h1.trans z);have b:atKey (q::qs) k=atKey qs k:=(by simp[atKey,mT,e']);rw[qZ e,b];exact ih
section
def Tr (ok:fe P w H h) (e:Rd H a u):bi P w H h a u:=e.ok ok
def Fb (ok:fe P w H h) (e:Rd H a (.dK kvs)):kvs.length<=sizeLine/\(a == sysModules)=false/\∃vs,KV kvs vs/\h.DictOf (mR P w) a vs :=
 show bi P w H h a (.dK kvs) from Tr ok e
def Yj (ok:fe P w H h) (e:H a=some (.dK kvs)):kvs.length<=sizeLine/\(a == sysModules)=false/\∃vs,KV kvs vs/\h.DictOf (mR P w) a vs:=Fb ok (.inl e)
def Lu (ok:fe P w H h) (e:H a=some (.tup (ks.map kV))):(tupleKind (mR P w)).is h ks a:=by
 obtain⟨_,its,r,o,h1,h2,n,h3⟩:=(show bi P w H h a (.tup (ks.map kV)) from ok a _ e);exact⟨o,its.toArray,n,h1,h2,h3,by simpa using TW r⟩
def Sw (ok:fe P w H h) (e:Rd H a (.dT kvs)):kvs.length<=sizeLine/\(a == sysModules)=false /\
  ∃xs,KT H kvs xs/\h.DictOfH (tupleKind (mR P w)) a xs:=by
 obtain⟨z,y,xs,r,o,es,ep,h1,h2,h3,h4,h5⟩:=(show bi P w H h a (.dT kvs) from Tr ok e);refine⟨z,y,xs,r,o,es,ep,h1,h2,h3,h4,λx hx=>?_,h5⟩;have all:∀{l:List (List f6 × V)} {m:List (List f6 × Addr × aB)},KT H l m->∀x∈m,(tupleKind (mR P w)).is h x.1 x.2.1:=by
  intro l m q
  induction q with
  | nil=>intro x hx;exact nomatch hx
  | @cons p q ps qs hq t ih =>
   intro x hx;rcases aJ.mp hx with e | hx
   ·subst e;exact Lu ok (by rw[<-hq.1];exact hq.2.1)
   ·exact ih x hx
 exact all r x hx
end
def Tw (H:Hp) (a:Addr) (y:V) (r:Option V):Prop :=
 (∃kvs k,Rd H a (.dK kvs)/\y=kV k/\r=uU kvs k)\/∃kvs k b,Rd H a (.dT kvs)/\y = .ref b/\H b=some (.tup (k.map kV))/\r=uU kvs k
section
variable {σ:St} {s:aG}
theorem Inv.big (I:Inv X pins σ H s):sysModules<s.heap.objs.size:=by
 have h:mainGlobals<s.heap.objs.size:=(I.mod.glob.keeps I.bk).lt;exact oH (by decide) h
theorem Gz (hu:A.units+1<cLine) (I:Inv X pins σ H s) (g:Tw H a y (some v)) (ry:RelV y u) (h:∀w' s',Inv X pins σ H s'->RelV v w'->Q w' s') :
  wpAny (model X.prog X.w) A (getItem (.ref a) u) Q E s:=by
 rcases g with ⟨kvs,k,e,ey,l⟩ | ⟨kvs,k,b,e,ey,eb,l⟩
 ·subst ey;obtain⟨z,hd,vs,rel,dd⟩:=Fb I.hok e;obtain⟨w',hw,jl⟩:=km.some_of (v:=v) (o:=valueAt vs k) (by rw[l];exact rel.val k);exact wpAny_getItem_of (Lp ry) dd.mapOf hw (h w' _ (I.tok _) jl)
 ·subst ey;cases (show u=fS b from ry);obtain⟨z,hd,xs,rel,dd⟩:=Sw I.hok e;obtain⟨w',hw,jl⟩:=km.some_of (v:=v) (o:=(atKey xs k).map (·.2)) (by rw[l];exact rel.val k);obtain⟨p,hp,hp2⟩:=qR.mp hw;refine wpAny_getItem_heap (tupleKind_room_in1 hu) (Lu I.hok eb) dd hp ?_;rw[hp2];exact h w' _ (I.tok _) jl
theorem Pm (I:Inv X pins σ H s) (mu:xu (H a)) (hs:qK a s.heap h') (he:∃q,h'.get? a=some q) (new:bi X.prog X.w (au H a ob) h' a ob) :
  Inv X pins σ (au H a ob) { s with heap:=h',toks:=t' } :=
 I.write (x:=a) (e:=a) mu (.inl rfl) (λb q hb z=>(hs.2 b hb).trans z) he new
theorem Ul (z:kvs.length<=sizeLine) (hd:(a == sysModules)=false) (rel:KV kvs vs) (dd:h'.DictOf (mR P w) a vs) :
  bi P w H' h' a (.dK kvs):=⟨z,hd,vs,rel,dd⟩
end
def Ub (i:Expr):Prop:=∀ov iv,subscripted i false ov iv=operate [ov,iv] (getItem ov iv)
def Si {prog:bR} {w:cT} {A:cZ} {E:aB->aG->Prop} {s:aG} {env:Env} {value slice:Expr} {pos:Pos} {T id:String} {Q:aB->aG->Prop}
  (hl:typeLookup (.type T) "__getitem__" = pure (some (.builtin id))) (hs:Ub slice)
  (h:wpAny (model prog w) A (eval value env) (λo s₁=>wpAny (model prog w) A (eval slice env) (λi s₂=>s₂.TypeIs o T/\wpAny (model prog w) A (getItem o i) Q E s₂) E s₁) E s) :
  wpAny (model prog w) A (eval (.Subscript value slice pos) env) Q E s:=by
 refine Subscript_ (gS h (λo s₁ h₁=>gS h₁ (λi s₂ h₂=>?_) λ_ _ x=>x) λ_ _ x=>x);obtain⟨hT,h₂⟩:=h₂;unfold subscriptTail;refine aA ?_;rw[getitemInPython_of_ne hT.not_modules];refine aA (pT hT hl ?_);have fin:wpAny (model prog w) A (subscripted slice false o i) (λr s₃=>wpAny (model prog w) A (letTemporaryGo value o r >>= λ_=>pure r) Q E s₃) E s₂:=by
  rw[hs o i];exact wpAny_operating (gS h₂ (λr s₃ h₃=>aA (wpAny_letTemporaryGo (aK h₃))) λ_ _ x=>x)
 first
  | exact aK (aA fin)
  | exact aA (aK (aA fin))
  | exact aA fin
def YF {Z:St} {s:aG} (I:Inv X pins Z H s) (g:Tw H a y o):s.TypeIs (.ref a) "dict":=by
 rcases g with ⟨kvs,k,e,_,_⟩ | ⟨kvs,k,b,e,_,_,_⟩
 ·obtain⟨_,_,vs,_,dd⟩:=Fb I.hok e;exact dd.typeIs
 ·obtain⟨_,_,xs,_,dd⟩:=Sw I.hok e;exact dd.typeIs
def A8 (td ty:TE):TE:=λZ H Q=>td Z H λx H1=>ty Z H1 λy H2=>∃a v,x = .ref a/\Tw H2 a y (some v)/\Q v H2
section
def Rk (hu:X.A.units+1<cLine) (ho:PE X o td) (hi:PE X i ty) (hs:Ub i):PE X (.Subscript o i pos) (A8 td ty):=by
 intro pins s Z H Q I h;refine Si PySem.F.slot_dict_getitem.lookup hs (ci (ho pins s Z H _ I h) λu s1 ⟨x,H1,I1,rx,q1⟩=>ci (hi pins s1 Z H1 _ I1 q1) λiv s2 ⟨y,H2,I2,ry,a,v,ex,g,q2⟩=>?_);subst ex;obtain rfl:u=fS a:=rx;exact⟨YF I2 g,Gz hu I2 g ry λw' s3 I3 jl=>⟨v,H2,I3,jl,q2⟩⟩
end
def Kp (h:Heap) (hb:sysModules<h.objs.size):bi P w H (h.push { cls:=.type "dict",data:=.dict #[] }) h.objs.size (.dK []) :=
 ⟨eV _,beq_eq_false_iff_ne.mpr (Ne.symm (bO hb)),[],.nil,Heap.DictOf.new h⟩
def Xj:TE:=λ_ H Q=>∀p,H p=none->Q (.ref p) (au H p (.dK []))
section
def Mw:PE X (.Dict [] [] pos) Xj:=λpins s Z H Q I h =>
 wpAny_Dict_empty ⟨.ref s.heap.objs.size,_,I.laid (a:=s.heap.objs.size) (o:=.dK []) (t':=s.toks) (λ_ _ q=>aP _ q) (bK _) (Kp s.heap I.big),rfl,h _ (I.hok.fresh (bK _))⟩
end
abbrev VV:List (V × V)->List (aB × aB)->Prop:=Paired λp q=>RelV p.1 q.1/\RelV p.2 q.2
end L2
namespace L2.R2
section
open PySem PySem.Spec PyProof.Rows L2
def Rx:V->List V->Hp->VK->Prop:=λx vs H Q=>∃a kvs k y,x = .ref a/\vs=[kV k,y]/\H a=some (.dK kvs)/\kvs.length<sizeLine /\
 (∀v,uU kvs k=some v->Q v H)/\(uU kvs k=none->Q y (au H a (.dK (kvs++[(k,y)]))))
section
def Hx:D_ X "dict.setdefault" Rx:=by
 intro pins s Z H x vs v us Q I rx rv h;obtain⟨a,kvs,k,y,rfl,rfl,hH,hz,h1,h2⟩:=h;cases rx;obtain⟨u,w,rfl,ru,jl⟩:=rv.two;obtain⟨z,hd,ws,rel,dd⟩:=Yj I.hok hH;have val:=rel.val k;refine call_meetsIn sI dd.typeIs PySem.F.entry_dict_setdefault (PySem.F.args_dict_setdefault_3 _ _ _) (kt_meets_setdefault (mR X.prog X.w) a (Lp ru) hd w)
  ⟨ws,dd,by rw[<-rel.length];exact z,λv hv=>?_,λhn h' dd' hs=>?_⟩
 ·rw[hv] at val;cases e:uU kvs k with
  | none=>rw[e] at val;exact (show False from val).elim
  | some v'=>rw[e] at val;exact⟨v',H,I.tok _,val,h1 v' e⟩
 ·rw[hn] at val;cases e:uU kvs k with
  | some _=>rw[e] at val;exact (show False from val).elim
  | none =>
   have he:∃q,h'.get? a=some q:=let ⟨q,_,_,hq,_⟩:=dd';⟨q,hq⟩;have r2:=rel.put k jl;rw[Ni y e] at r2;exact⟨y,_,Pm I (by rw[hH];exact pW) hs he (Ul (by rw[bJ];exact hz) hd r2 dd'),jl,h2 e⟩
end
def AE:List (Int × List D)->Int->List (Int × List D)
 | [],k=>[(k,[])]
 | (k',ds)::r,k=>if k'=k then (k',ds)::r else (k',ds)::AE r k
def putL:List (Int × List D)->Int->D->List (Int × List D)
 | [],k,d=>[(k,[d])]
 | (k',ds)::r,k,d=>if k'=k then (k',ds++[d])::r else (k',ds)::putL r k d
section
variable {K:aI} {H₀ H H':Hp} {kvs:List (Int × List D)} {bB:List (f6 × V)} {as:List Addr} {k:Int}
theorem Dj {v:V} (t:h9 K H₀ H kvs bB as) (e:uU bB (gR k)=some v):AE kvs k=kvs:=by
 induction t with
 | nil=>cases e
 | @cons k' b vs ds kvs bB as h h0 r n t ih =>
  unfold AE;by_cases hk:k'=k
  ·rw[if_pos hk]
  ·rw[if_neg hk,ih (by rw[qZ (λz=>hk (by cases z;rfl))] at e;exact e)]
theorem h9.there {v:V} (t:h9 K H₀ H kvs bB as) (e:uU bB (gR k)=some v):∃b vs ds,v = .ref b/\b∈as/\H b=some (.lst vs)/\af K H ds vs/\(∃p∈kvs,p.2=ds) /\
  ∀(H':Hp) (d:D) (w:V),ag H H'->H' b=some (.lst (vs++[w]))->(∀a o,a∈as->a≠b->H a=some o->H' a=some o)->b_ K H' d w->h9 K H₀ H' (putL kvs k d) bB as:=by
 induction t with
 | nil=>cases e
 | @cons k' b vs ds kvs bB as h h0 r n t ih =>
  by_cases hk:k'=k
  ·subst hk;rw[sF rfl] at e;cases e;refine⟨b,vs,ds,rfl,.head _,h,r,⟨_,.head _,rfl⟩,λH' d w kp hb ho rd=>?_⟩;unfold putL;rw[if_pos rfl];exact .cons hb h0 ((r.keep kp).append (.cons rd .nil)) n (t.keep kp λa m o e=>ho a o (.tail _ m) (by rintro rfl;exact n m) e)
  ·rw[qZ (λz=>hk (by cases z;rfl))] at e;obtain⟨c,us,es,e1,m,g1,g2,⟨p,pm,pe⟩,g3⟩:=ih e;refine⟨c,us,es,e1,.tail _ m,g1,g2,⟨p,.tail _ pm,pe⟩,λH' d w kp hb ho rd=>?_⟩;unfold putL;rw[if_neg hk];exact .cons (ho b _ (.head _) (by rintro rfl;exact n m) h) h0 (r.keep kp) n (g3 H' d w kp hb (λa o q=>ho a o (.tail _ q)) rd)
theorem h9.fresh {p:Addr} (t:h9 K H₀ H kvs bB as) (e:uU bB (gR k)=none) (kp:ag H H') (ho:∀a o,a∈as->H a=some o->H' a=some o) (hp:H' p=some (.lst [])) (h0:H₀ p=none) (np:p ∉ as) :
  h9 K H₀ H' (AE kvs k) (bB++[(gR k,.ref p)]) (as++[p]):=by
 induction t with
 | nil=>exact .cons hp h0 .nil (by simp) .nil
 | @cons k' b vs ds kvs bB as h h1 r n t ih =>
  have hk:¬k'=k:=λz=>by rw[sF (by rw[z])] at e;cases e
  rw[qZ (λz=>hk (by cases z;rfl))] at e;unfold AE;rw[if_neg hk];rw[aJ,not_or] at np;exact .cons (ho b _ (.head _) h) h1 (r.keep kp) (λz=>(cC.mp (show b∈as++[p] from z)).elim n λz=>np.1 (cR.mp z).symm) (ih e (λa o q=>ho a o (.tail _ q)) np.2)
theorem Jf {p:V} (t:h9 K H₀ H kvs bB as) (e:uU bB (gR k)=none):uU (bB++[(gR k,p)]) (gR k)=some p:=by
 induction t with
 | nil=>exact sF rfl
 | @cons k' b vs ds kvs bB as h h1 r n t ih =>
  have hk:¬(gR k':f6)=gR k:=λz=>by rw[sF z] at e;cases e
  rw[qZ hk] at e;rw[bI,qZ hk];exact ih e
theorem Nj:∀(kvs:List (Int × List D)) (k:Int) (d:D),putL (AE kvs k) k d=putL kvs k d
 | [],k,d=>by simp[AE,putL]
 | (k',ds)::r,k,d=>by
  unfold AE;by_cases hk:k'=k
  ·rw[if_pos hk]
  ·rw[if_neg hk];simp only[putL,if_neg hk];rw[Nj r k d]
theorem At:∀(kvs:List (Int × List D)) (k:Int) {p:Int × List D},p∈AE kvs k->p∈kvs\/p.2=[]
 | [],k,p,h=>by rw[AE,cR] at h;subst h;exact .inr rfl
 | (k',ds)::r,k,p,h=>by
  unfold AE at h;by_cases hk:k'=k
  ·rw[if_pos hk] at h;exact .inl h
  ·rw[if_neg hk] at h;rcases aJ.mp h with h | h
   ·exact .inl (h ▸ .head _)
   ·exact (At r k h).imp (.tail _) id
theorem h9.len (t:h9 K H₀ H kvs bB as):kvs.length=bB.length:=by
 induction t with
 | nil=>rfl
 | cons _ _ _ _ _ ih=>simp[ih]
end
section
variable {X:Cx} {e k:Expr} {pos pos' p apos cpos cf dw j5 jc:Pos} {te tk:RE} {x:Str}
def Nl (i:Nat):RS:=λE a=>E.nx (a.set i (some (.dcl [])))
theorem Pq {i:Nat} (hN:X.N.Nodup) (hi:X.N[i]? = some x:=by rfl) (hx:Loc X.env.scope x:=by walk_at "vis") (hs:swapsWith (.Dict [] [] p) (some (.Name x pos')) pos.line X.env=pure false:=by rfl)
  (hf:X.fn x=true\/X.env.scope.names.lookup x=some .local:=by walk_at "loc"):DS X (.Assign [.Name x pos'] (.Dict [] [] p) pos) (Nl i) :=
 PS.mono (WX hN hi hx Mw hs hf) λDe Z H hh=>oX hh λd E st q n r b c=>λa ha=>by
  have sm:ae H (au H a (.dK [])):=ae.fn λb o h=>by rw[cH (dG h ha)];exact h
  refine n _ _ _ q (.of sm) (st.put sm ⟨a,[],[],rfl,eB,st.same.free ha,.nil⟩ λc o=>?_);obtain⟨p,bB,e1,e2,e3⟩:=o;cases e1;rw[eB] at e2;cases e2;rcases e3 with rfl | ⟨_,z⟩
  ·exact ha
  ·cases z
def Fz (i:Nat) (tk te:RE):RS:=λE a=>match a[i]? with
 | some (some (.dcl kvs))=>tk a λkd=>match kd with
  | .int k=>Sz (kvs.length+1)/\te (a.set i (some (.dcl (AE kvs k)))) λd=>(∀p∈kvs,Sz (p.2.length+1))/\E.nx (a.set i (some (.dcl (putL kvs k d))))
  | _=>False
 | _=>False
theorem Pp (i:Nat) (hk:DE X k tk) (he:DE X e te) (hN:X.N[i]? = some x:=by rfl) (hv:kn X.env.scope x:=by walk_at "vis") (hd:(x == ("__debug__":Str))=false:=by decide) (g_:(x == ("__classdict__":Str))=false:=by decide)
  (dm:attributeBase (.Name x cf) "setdefault" X.env (eval (.Name x cf) X.env)=eval (.Name x cf) X.env:=by rfl)
  (kz:((backTo j5 (starEach [k,.List [] jc] X.env)).all (λx=>!x.1) && (backToKw j5 (keywordEach [] X.env)).all (λx=>x.1.isSome) && decide (([k,.List [] jc]:List Expr).length+([]:List pM).length+(if ([]:List pM).isEmpty then 0 else 1)<30))=true:=by rfl)
  (dq:(dw.endLine == j5.line)=true:=by rfl) (hs1:starEach [k,.List [] jc] X.env=(false,eval k X.env)::starEach [.List [] jc] X.env:=by rfl) (oi:starEach [.List [] jc] X.env=(false,eval (.List [] jc) X.env)::starEach [] X.env:=by rfl)
  (h8:(backTo j5 (starEach [.List [] jc] X.env)).any (·.1)=false:=by rfl)
  (vf:attributeBase (.Call (.Attribute (.Name x cf) "setdefault" dw) [k,.List [] jc] [] j5) "append" X.env (eval (.Call (.Attribute (.Name x cf) "setdefault" dw) [k,.List [] jc] [] j5) X.env)=eval (.Call (.Attribute (.Name x cf) "setdefault" dw) [k,.List [] jc] [] j5) X.env:=by rfl)
  (yu:((backTo cpos (starEach [e] X.env)).all (λx=>!x.1) && (backToKw cpos (keywordEach [] X.env)).all (λx=>x.1.isSome) && decide (([e]:List Expr).length+([]:List pM).length+(if ([]:List pM).isEmpty then 0 else 1)<30))=true:=by rfl)
  (vq:(apos.endLine == cpos.line)=true:=by rfl) (hs:starEach [e] X.env=[(false,eval e X.env)]:=by rfl) (hn:starEach [] X.env=[]:=by rfl)
  (nq:swapsWith (.Call (.Attribute (.Call (.Attribute (.Name x cf) "setdefault" dw) [k,.List [] jc] [] j5) "append" apos) [e] [] cpos) none pos.line X.env=pure false:=by rfl) :
  DS X (.Expr (.Call (.Attribute (.Call (.Attribute (.Name x cf) "setdefault" dw) [k,.List [] jc] [] j5) "append" apos) [e] [] cpos) pos) (Fz i tk te):=by
 have Td:=ZX (apos:=dw) (cpos:=j5) PySem.F.plainAttrs_dict sI PySem.F.type_dict_setdefault Hx (pv (pos:=cf) i hN hv hd g_) (tI hk (tI (My (pos:=jc) FZ) FZ oi) hs1) dm kz dq hs1 h8;refine PS.mono (IF (ZX iK wA wB UB Td (qX he hs hn) vf yu vq (by rw[hs,hn]) (by rw[hn];rfl)) nq) λDe Y H hh=>oX hh λl E so q n r bk ct=>?_;unfold Fz at q;split at q
 ·rename_i kvs ex;obtain⟨v,h1,a,bB,as,ev,ha,h0,t⟩:=so.rel i _ ex;subst ev;refine⟨.ref a,h1,.inr (.inr (.inl ⟨rfl,.inl ⟨bB,ha⟩⟩)),l,_,so,q,λkd kv H1 hkd s1 rk=>?_⟩;cases kd with
  | int k =>
   obtain⟨z1,q1⟩:=hkd;have z1:kvs.length+1<=sizeLine:=z1.ok;rw[rk.int_inv];have ph:=so.ext s1;have uf:=s1.get _ _ ha trivial;have t1:h9 X.K X.H₀ H1 kvs bB as:=t.same s1;refine⟨eV _,λp hp=>?_⟩;have o6:ae H1 (au H1 p (.lst [])):=ae.fn λb o h=>(by rw[cH (dG h hp)];exact h);have kl:=t1.len;have go:∀(b:Addr) (H2:Hp) (mh:List (f6 × V)),ao X (l.set i (some (.dcl (AE kvs k)))) Y H2->H2 a=some (.dK mh)->uU mh (gR k)=some (.ref b)->ag H H2 ->
     O4 X.K "list" (.ref b) H2/\Md X te Y H2 λw H3=>Fy (.ref b) [w] H3 λ_ H4=>De.nx Y H4:=λb H2 mh gg ha2 hv2 V9=>by
    have e2:(l.set i (some (.dcl (AE kvs k))))[i]? = some (some (.dcl (AE kvs k))):=fP (bC.mp ex).1;obtain⟨v2,g1,a',zk,Z4,ev2,sj,g0,t2⟩:=gg.rel i _ e2;rw[h1] at g1;cases g1;cases ev2;rw[ha2] at sj;cases sj;obtain⟨b',us,ds',eb,_,hb,_,_,_⟩:=t2.there hv2;cases eb;refine⟨.inl ⟨rfl,us,f8.of hb⟩,_,_,gg,q1,λd w H3 ⟨z2,hd⟩ s3 rd=>?_⟩;have t3:h9 X.K X.H₀ H3 (AE kvs k) mh Z4:=t2.same s3;obtain⟨b',A2,ds3,eb,mb,J',rb3,⟨pp,pm,pe⟩,fin⟩:=t3.there hv2;cases eb;have J_:=s3.get _ _ ha2 trivial;have ne:a≠b:=(by rintro rfl;rw[J_] at J';cases J');have sz:A2.length<sizeLine:=by
     rw[<-rb3.length,<-pe];rcases At kvs k pm with h | h
     ·exact (z2 pp h).ok
     ·rw[h];exact bQ (Nat.succ_pos _) z1
    refine⟨b,A2,w,rfl,rfl,J',sz,?_⟩;have N6:ag H3 (au H3 b (.lst (A2++[w]))):=ag.chg1 J' (.inl ⟨_,rfl⟩);have ow:∀c,Ow H3 (.dcl (AE kvs k)) (.ref a) c↔(c=a\/∃k,(k,V.ref c)∈mh):=λc=>⟨λ⟨p',V',e1,e2,e3⟩=>by cases e1;rw[J_] at e2;cases e2;exact e3,λh=>⟨a,mh,rfl,J_,h⟩⟩;have haU:au H3 b (.lst (A2++[w])) a=some (.dK mh):=(by rw[cH ne];exact J_);obtain⟨O0,k4⟩:=(gg.ext s3).updW (x':=.dcl (putL kvs k d)) (v':=.ref a) e2 h1 (H':=au H3 b (.lst (A2++[w])))
     (λc o h w'=>by rw[cH (by rintro rfl;exact w' ((ow _).mpr (.inr (t3.mem.mp mb))))];exact h)
     ⟨a,mh,Z4,rfl,haU,h0,by
      rw[<-Nj];exact fin _ d w N6 eB (λc o _ nc h=>by rw[cH nc];exact h) (rd.keep N6)⟩
     (λc o=>.inl ((ow c).mpr (by
      obtain⟨p',V',e1,e2,e3⟩:=o;cases e1;rw[haU] at e2;cases e2;exact e3)))
    rw[lQ h1,List.set_set] at O0;exact n _ _ _ hd ((V9.trans (.of s3)).trans k4) O0
   refine⟨a,bB,gR k,.ref p,rfl,rfl,o6.get _ _ uf trivial,by lia,λv hv=>?_,λhv=>?_⟩
   ·obtain⟨b,_,_,eb,_⟩:=t1.there hv;subst eb;refine go b _ bB ?_ (o6.get _ _ uf trivial) hv (.of (s1.trans o6));rw[Dj t1 hv,lQ ex];exact ph.ext o6
   ·have pa:p≠a:=(by rintro rfl;rw[hp] at uf;cases uf);have np:p ∉ as:=λm=>(by obtain⟨_,us,q'⟩:=t1.at m;rw[hp] at q';cases q');have ow:∀c,Ow H1 (.dcl kvs) (.ref a) c↔(c=a\/∃k,(k,V.ref c)∈bB):=λc=>⟨λ⟨p',V',e1,e2,e3⟩=>by cases e1;rw[uf] at e2;cases e2;exact e3,λh=>⟨a,bB,rfl,uf,h⟩⟩;have O1:∀c o,c≠a->H1 c=some o->au (au H1 p (.lst [])) a (.dK (bB++[(gR k,.ref p)])) c=some o:=λc o nc h=>(by rw[cH nc,cH (dG h hp)];exact h);have N6:ag H1 (au (au H1 p (.lst [])) a (.dK (bB++[(gR k,.ref p)]))):=(ag.of o6).trans (ag.chg1 (o6.get _ _ uf trivial) (.inr (.inl ⟨_,rfl⟩)));obtain⟨gg,k2⟩:=ph.updW (x':=.dcl (AE kvs k)) (v':=.ref a) ex h1 (H':=au (au H1 p (.lst [])) a (.dK (bB++[(gR k,.ref p)])))
     (λc o h w'=>O1 c o (by rintro rfl;exact w' ((ow _).mpr (.inl rfl))) h)
     ⟨a,_,_,rfl,eB,h0,t1.fresh hv N6 (λc o m h=>O1 c o (by rintro rfl;obtain⟨_,us,q'⟩:=t1.at m;rw[uf] at q';cases q') h) (by rw[cH pa];exact eB) (ph.same.free hp) np⟩
     (λc o=>by
      obtain⟨p',V',e1,e2,e3⟩:=o;cases e1;rw[eB] at e2;cases e2;rcases e3 with rfl | ⟨k',m⟩
      ·exact .inl ((ow _).mpr (.inl rfl))
      ·rcases cC.mp m with m | m
       ·exact .inl ((ow _).mpr (.inr ⟨k',m⟩))
       ·rw[cR] at m;cases m;exact .inr hp)
    rw[lQ h1] at gg;exact go p _ _ gg eB (Jf t1 hv) ((ag.of s1).trans k2)
  | _=>exact hkd.elim
 ·exact q.elim
def HH:List Int->List D->Int->Option D
 | k'::ks,d::ds,k=>if k'=k then some d else HH ks ds k
 | _,_,_=>none
def Pj:R22:=λx y Q=>match x,y with
 | .dct ks ds,.int k=>∃d,HH ks ds k=some d/\Q d
 | _,_=>False
theorem Kl {K:aI} {H:Hp} {k:Int}:∀{ks:List Int} {ds:List D} {vs:List V} {d:D},af K H ds vs->HH ks ds k=some d->∃v,uU (wY ks vs) (gR k)=some v/\b_ K H d v
 | [],_,_,_,_,e=>by simp[HH] at e
 | k'::ks,_,_,_,.nil,e=>by simp[HH] at e
 | k'::ks,_,_,d,.cons (v:=v) (vs:=vs) h t,e=>by
  unfold HH at e;by_cases hk:k'=k
  ·rw[if_pos hk] at e;cases e;exact⟨v,sF (by rw[hk]),h⟩
  ·rw[if_neg hk] at e;obtain⟨u,g1,g2⟩:=Kl t e;exact⟨u,by show uU ((gR k',v)::wY ks vs) _=_;rw[qZ (λz=>hk (by cases z;rfl))];exact g1,g2⟩
theorem Uj {kk:Nat} (hr:ce kk X.A) (ha:DE X a ta) (hb:DE X b tb) (hs:Ub b:=by intro _ _;rfl):DE X (.Subscript a b pos) (r2 Pj ta tb):=by
 refine PE.mono (Rk (by have:=hr.un;lia) ha hb hs) λZ H Q h=>?_;obtain⟨c,P,st,ht,hP⟩:=h;refine⟨c,_,st,ht,λx v H1 h1 s1 r1=>⟨c,_,st.ext s1,h1,λy u H2 h2 s2 r2=>?_⟩⟩;unfold Pj at h2;split at h2
 ·rename_i ks ds k;obtain⟨d,e,h2⟩:=h2;rw[r2.int_inv];have N_:=b_.keep (.of s2) r1;cases N_ with
  | @dct a vs _ _ o hh hl rr =>
   obtain⟨w,g1,g2⟩:=Kl rr e;exact⟨a,w,rfl,.inl ⟨_,gR k,.inr ⟨o,hh⟩,rfl,g1.symm⟩,hP d w H2 h2 (s1.trans s2) g2⟩
 ·exact h2.elim
end
end
section
open PySem PySem.Spec PyProof.Rows L2 PySem.W
theorem tQ:∀{ns:List Int} {us:List aB},IntsAre us ns->am (ns.map V.int) us
 | [],[],_=>.nil
 | n::ns,u::us,h=>by
  cases h with
  | cons _ t h=>exact .cons ⟨_,rfl⟩ (tQ h)
def Hn (ks:List Int) (vs:List V):(wY ks vs).length=min ks.length vs.length:=List.length_zipWith
theorem UT:∀(ks:List Int) (vs:List V) (ws:List (f6 × aB)),ks.length=vs.length->KV (wY ks vs) ws->∀us:List aB,us.length=ks.length ->
  (∀(j:Nat) (v:aB),us[j]? = some v->∃k x,ws[j]? = some (k,x)/\(mR P w).is k v=true)->am (ks.map V.int) us
 | [],_,_,_,_,us,h,_=>by rw[mD.mp h];exact .nil
 | k::ks,[],_,h,_,_,_,_=>by cases h
 | k::ks,v::vs,ws,hl,r,us,h,q=>by
  cases us with
  | nil=>cases h
  | cons u us =>
   cases r with
   | @cons _ b _ bs h1 t =>
    refine .cons ?_ (UT ks vs bs (by simpa using hl) t us (by simpa using h) λj v e=>q (j+1) v (by simpa using e));obtain⟨k',x,e,i⟩:=q 0 u rfl;cases e;rw[<-show (gR k:f6)=k' from h1.1] at i;rcases kK (show PL (gR k) u=true from i) with ⟨i',t',e1,e2⟩ | ⟨y,t',e1,e2⟩
    ·cases e1;exact⟨t',e2⟩
    ·cases e1
def Dq (te:RE):RA:=λa Q=>te a λx=>∃ns:List Int,x = .lst (ns.map .int)/\ns.length<64/\∀ms:List Int,ms.Perm ns->ms.Pairwise (·<=·)->Q (ms.map .int)
def F3 (te:RE):RA:=λa Q=>te a λx=>∃nss:List (List Int),x = .lst (nss.map nG)/\nss.length<64/\(∀ns∈nss,ns≠[])/\∀mss:List (List Int),mss.Perm nss->mss.Pairwise (λx y=>iR y x=false)->Q (mss.map nG)
def Do (te:RE):RA:=λa Q=>te a λx=>∃(ks:List Int) (ds:List D),x = .dct ks ds/\ks.length=ds.length/\Q (ks.map .int)
section
variable {X:Cx} {e:Expr} {te:RE} {p pos:Pos}
theorem Kt (vt:X.mg "sorted" = none) (h:DB X e te) (vn:Gl X "sorted":=by rfl) (hs:starEach [e] X.env=[(false,eval e X.env)]:=by rfl) (hn:starEach [] X.env=[]:=by rfl) :
  DO X (.Call (.Name "sorted" p) [e] [] pos) (Dq te):=by
 intro pins s Z H Q I aw;obtain⟨d,P,st,q,kq⟩:=aw;refine fJ (pY I vn vt boot_sorted ?_);refine gU (ci (qX h hs hn pos pins s Z H (λvs H1=>∃(ns:List Int) (v:V),vs=[v]/\ae H H1/\c8 X.K H1 (.lst (ns.map .int)) v/\ns.length<64/\∀ms:List Int,ms.Perm ns->ms.Pairwise (·<=·)->P (ms.map .int)) I
  ⟨d,_,st,q,λx v H1 hx s1 r1=>?_⟩) λus s1 ⟨vs,H1,I1,r1,q1⟩=>?_) (by rw[hs,hn]) (by rw[hn];rfl)
 ·obtain⟨ns,rfl,a1,a2⟩:=hx;exact⟨ns,v,rfl,s1,r1,a1,a2⟩
 obtain⟨ns,v,rfl,jz,rb,ud,hP⟩:=q1;obtain⟨l,vs,rfl,hq,rr⟩:=rb.lst;obtain⟨u,rfl,rx⟩:=vals1 r1;cases rx;obtain⟨its,rv,pl,hz⟩:=I1.list hq;have l2:=rv.length;rw[rr.ints_inv] at rv l2;rw[aS] at l2;refine sorted_ints pl.isList (intsAre_of rv) (by lia) λout ms a1 a2 a3=>?_;obtain⟨c,he⟩:=sortedAll_at s1.heap its out;have VV:=tQ a1;have lw:ms.length=ns.length:=a2.length_eq;have I4:=I1.laid (a:=s1.heap.objs.size+1) (o:=.lst (ms.map V.int)) (h':=sortedAll s1.heap its out) (t':=s1.toks) (λb o=>sortedAll_old) (vE _) ⟨by rw[aS,fQ];lia,out.toList,c,VV,by simpa using he⟩;exact⟨.ref (s1.heap.objs.size+1),_,I4,rfl,kq _ _ _ H1 (hP ms a2 a3) jz (I1.hok.fresh (vE _)) af.ints⟩
theorem Kr (T3:X.mg "list" = none) (hc:X.calm=true) (h:DE X e te) (S3:Gl X "list":=by rfl) (hs:starEach [e] X.env=[(false,eval e X.env)]:=by rfl) (hn:starEach [] X.env=[]:=by rfl) :
  DO X (.Call (.Name "list" p) [e] [] pos) (Do te):=by
 intro pins s Z H Q I aw;obtain⟨d,P,st,q,kq⟩:=aw;refine fJ (pY I S3 T3 boot_list ?_);refine eP (ci (qX h hs hn pos pins s Z H (λvs H1=>∃(ks:List Int) (ds:List D) (v:V),vs=[v]/\ae H H1/\b_ X.K H1 (.dct ks ds) v/\P (ks.map .int)) I
  ⟨d,_,st,q,λx v H1 hx s1 r1=>?_⟩) λus s1 ⟨vs,H1,I1,r1,q1⟩=>?_) (by rw[hs,hn]) (by rw[hn];rfl)
 ·obtain⟨ks,ds,rfl,a1,a2⟩:=hx;exact⟨ks,ds,v,rfl,s1,r1,a2⟩
 obtain⟨ks,ds,v,rfl,jz,rd,hP⟩:=q1;obtain⟨u,rfl,rx⟩:=vals1 r1;cases rd with
 | @dct a vs _ _ o ha hl rr =>
  cases rx;obtain⟨z,hd,ws,rel,dd⟩:=Fb I1.hok (.inr ⟨o,ha⟩);have le:=rel.length;obtain⟨ep,da⟩:=dd.dictAt;refine kdl_call (kdl_dict (knd:=mR X.prog X.w) (kvs:=ws) (ep:=ep) hd) (I1.ok.hd hc) da (by rw[<-le];exact z) λh' tk acc c kp g1 it=>?_;have lk:ks.length=ws.length:=by rw[<-le,Hn,<-hl,Nat.min_self]
  have VV:am (ks.map V.int) acc.toList:=UT ks vs ws hl rel acc.toList (by rw[cI,it.1];exact lk.symm) λj v e=>it.2 j v (by simpa using e);have I4:=I1.laid (a:=s1.heap.objs.size) (o:=.lst (ks.map V.int)) (h':=h') (t':=tk) kp (bK _) ⟨by rw[aS,lk,<-le];exact z,acc.toList,c,VV,by simpa using g1⟩;exact⟨.ref s1.heap.objs.size,_,I4,rfl,kq _ _ _ H1 hP jz (I1.hok.fresh (bK _)) af.ints⟩
end
end
section
open PySem PySem.Spec PyProof.Rows L2
def MJ (l:Addr) (items:Array aB) (n:Nat) (b:Addr) (a_:Array aB) (n2:Nat) (sl:Array (Option aB)) (hc0:¬(!items.isEmpty && lS (items.size+a_.size))=true) (hc1:items.size<=sizeLine) (oi:items.size+a_.size<=sizeLine+1) :
  Meets (Builtin.«list.extend» ⟨[.ref l,.ref b],[]⟩) (λ_ R s=>s.heap.get? l=some { cls:=.type "list",dict:=none,data:=.seq items n,slots:=#[] }/\s.heap.get? b=some { cls:=.type "list",dict:=none,data:=.seq a_ n2,slots:=sl }/\R (.ok (.ret fF)) { s with heap:=s.heap.update l (eG λx=>x++a_),toks:=s.toks }) :=
 .of_wp λprog w A R s h=>by
  obtain⟨hp,g,d,tk,os⟩:=s;obtain⟨hl,hb,h⟩:=h;have N4:(items++a_).size<=sizeLine+1:=by rw[Array.size_append];exact oi
  wp_walk using (jX hl rfl (hz:=hc1) (_hz':=N4)),mX hl,mX hb;exact⟨_,rfl,h⟩
def Nm (K:aI):V->List V->Hp->VK->Prop:=λx vs H Q=>∃l b xs zs,x = .ref l/\vs=[.ref b]/\H l=some (.lst xs)/\f8 K H b zs/\xs.length+zs.length<=sizeLine/\Q .non (au H l (.lst (xs++zs)))
section
variable {X:Cx} {e:Expr} {pos apos cpos cf p2 p3 p4:Pos} {te:RE} {x:Str}
theorem Cp:C_ X "list.extend" (Nm X.K):=by
 intro pins s Z H x vs v us Q I rx rv h;obtain⟨l,b,xs,zs,rfl,rfl,hH,hB,hz,q⟩:=h;cases rx;obtain⟨u,rfl,ru⟩:=rv.one;cases ru;obtain⟨z,its,n,r,hl,e⟩:=I.lstM hH;obtain⟨dh,r2,pl,z2⟩:=I.list hB;have M8:=r2.length;obtain⟨o,n2,e2,c1,c2,c3⟩:=pl;obtain⟨oc,od,oda,rh⟩:=o;dsimp only at c1 c2 c3;subst c1 c2 c3;have nu:its.toArray.size+dh.toArray.size<=sizeLine:=by rw[aY,aY];lia
 have y6:¬(!its.toArray.isEmpty && lS (its.toArray.size+dh.toArray.size))=true:=by
  rw[Ml nu,AK];exact cM
 refine uI F.slot_list_extend ⟨_,e,rfl⟩ F.entry_list_extend (F.args_list_extend_2 _ _)
  (MJ l its.toArray n b dh.toArray n2 rh y6 (by rw[aY];lia) (by lia)) ⟨e,e2,?_⟩
 refine⟨.non,_,I.lset (its':=its++dh) hH e (by simp) (r.append r2) ?_,rfl,q⟩;rw[bJ];lia
def IL (i:Nat) (te:RE):RS:=λE a=>match a[i]? with
 | some (some (.own xs))=>te a λd=>match d with
  | .lst ys=>Sz (xs.length+ys.length)/\E.nx (a.set i (some (.own (xs++ys))))
  | _=>False
 | _=>False
theorem Hc (i:Nat) (he:DE X e te) (hN:X.N[i]? = some x:=by rfl) (hv:kn X.env.scope x:=by walk_at "vis") (hd:(x == ("__debug__":Str))=false:=by decide) (g_:(x == ("__classdict__":Str))=false:=by decide)
  (dm:attributeBase (.Name x cf) "extend" X.env (eval (.Name x cf) X.env)=eval (.Name x cf) X.env:=by rfl)
  (kz:((backTo cpos (starEach [e] X.env)).all (λx=>!x.1) && (backToKw cpos (keywordEach [] X.env)).all (λx=>x.1.isSome) && decide (([e]:List Expr).length+([]:List pM).length+(if ([]:List pM).isEmpty then 0 else 1)<30))=true:=by rfl)
  (dq:(apos.endLine == cpos.line)=true:=by rfl) (hs:starEach [e] X.env=[(false,eval e X.env)]:=by rfl) (hn:starEach [] X.env=[]:=by rfl) (nq:swapsWith (.Call (.Attribute (.Name x cf) "extend" apos) [e] [] cpos) none pos.line X.env=pure false:=by rfl) :
  DS X (.Expr (.Call (.Attribute (.Name x cf) "extend" apos) [e] [] cpos) pos) (IL i te):=by
 refine PS.mono (IF (ZX iK PySem.F.slot_list_extend PySem.F.type_list_extend Cp (pv i hN hv hd g_) (qX he hs hn) dm kz dq (by rw[hs,hn]) (by rw[hn];rfl)) nq) λDe Z H hh=>oX hh λa E so q n r bk ct=>?_;unfold IL at q;split at q
 ·rename_i xs ex;obtain⟨v,h1,p,vs,ev,hp,h0,rr⟩:=so.rel i _ ex;subst ev;refine⟨.ref p,h1,.inl ⟨rfl,vs,f8.of hp⟩,a,_,so,q,λd v H1 hd s1 rd=>?_⟩;have nj:=s1.get _ _ hp trivial;cases d with
  | lst ys =>
   cases rd with
   | @lst b us _ hz rd =>
    obtain⟨gg,k2⟩:=(so.ext s1).upd_own ex h1 nj h0 ((rr.keep (.of s1)).append rd);have nu:xs.length+ys.length<=sizeLine:=hd.1.ok;exact⟨p,b,vs,us,rfl,rfl,nj,hz.sq,by rw[<-rr.length,<-rd.length];exact nu,n _ _ _ hd.2 ((ag.of s1).trans k2) gg⟩
  | _=>exact hd.elim
 ·exact q.elim
def Z3 {α:Type}:List α->List α
 | []=>[]
 | [x]=>[x]
 | x::_::r=>x::Z3 r
def rAlt (k:Nat) (te:RE):RA:=λa Q=>te a λx=>match x with
 | .lst ds=>Q (Z3 (ds.drop k))
 | _=>False
end
section
def riFar (t:RA):RA:=λa Q=>t a λds=>match ds with
 | [.int i,.int j]=>Q (sN i (j-i).toNat)
 | _=>False
def Yi:R22:=λx y Q=>match x,y with
 | .bl a,.bl b=>Q (.int ((if a then 1 else 0)-(if b then 1 else 0)))
 | _,_=>False
end
end
end L2.R2
namespace HT
open PySem PyProof.Rows
section
open PySem.SeqAt
open PySem.AutoSeq1 (wpAny_loadPart')
open PySem.MeetsSeq PySem.MeetsSeq2 PySem.MeetsSeq3
end
end HT
namespace L2.R2
section
open PySem PySem.Spec PyProof.Rows L2
section
def C7:List D->(D->Prop)->Prop:=λds Q=>∃ns ms,ds=[nG ns,nG ms]/\Q (nG (if HT.lexLt ms ns=true then ms else ns))
def C6:List D->(D->Prop)->Prop:=λds Q=>∃ns ms,ds=[nG ns,nG ms]/\Q (nG (if HT.lexLt ns ms=true then ms else ns))
end
section
variable {σ:St} {s:aG}
theorem Inv.thaw (I:Inv X pins σ H s) (h:H a=some (.frz o (.lst xs))) (h0:X.H₀ a=none):Inv X pins σ (au H a (.lst xs)) s:=by
 have nn:∀b,H b=none->au H a (.lst xs) b=none:=λb q=>by rw[cH (by rintro rfl;rw[h] at q;cases q)];exact q
 have W8:∀b u,X.H₀ b=some u->b≠a:=λb u q z=>by subst z;rw[h0] at q;cases q
 refine⟨I.ok,I.os,I.bare,⟨I.base.keep,I.base.slot,λb o q n x=>nn b (I.base.free b o q n x),I.base.there,λb ys q=>?_,λb o u q=>?_,λb ps q=>?_⟩,I.loc,I.cell,nn _ I.free,λx c e=>nn _ (I.freeC x c e),λp hp=>?_,λb u q=>?_,I.len⟩
 ·rw[cH (W8 b _ q)];exact I.base.tups b ys q
 ·rw[cH (W8 b _ q)];exact I.base.frzs b o u q
 ·rw[cH (W8 b _ q)];exact I.base.tbls b ps q
 ·obtain⟨p1,p2,p3⟩:=I.pin p hp;exact⟨p1,nn _ p2,p3⟩
 ·have st:∀{b:Addr} {u:HO},bi X.prog X.w H s.heap b u->bi X.prog X.w (au H a (.lst xs)) s.heap b u:=λ{b u} q =>
   q.stay (λc v _ w=>w) (λc w=>by rw[cH (by rintro rfl;rw[h] at w;cases w)];exact w) λc ys w=>by rw[cH (by rintro rfl;rw[h] at w;cases w)];exact w
  by_cases hb:b=a
  ·subst hb;rw[eB] at q;cases q;exact st (show bi X.prog X.w H s.heap b (.frz o (.lst xs)) from I.hok b _ h).2
  ·rw[cH hb] at q;exact st (I.hok b u q)
end
section
def D9 (i:Nat) (a:En):En:=match a[i]? with
 | some (some (.own ds))=>a.set i (some (.d (.lst ds)))
 | _=>a
end
def BU (t u:RS):RS:=λE a=>t { nx:=u E,rt:=λ_=>False } a
def rRetO (i:Nat):RS:=λE a=>match a[i]? with
 | some (some (.own xs))=>E.rt (.lst xs)
 | _=>False
def E1 (F:FD) (t:RA):RA:=λa Q=>t a λds=>F ds λd=>match d with
 | .lst xs=>Q xs
 | _=>False
section
variable {t:RA}
structure P5 (j:Int):Prop where
 lo:0<=j
 hi:j<2 ^ 62
def F8 (t:RA):RA:=λa Q=>t a λds=>match ds with
 | [.int j]=>P5 j/\Q (sN 0 j.toNat).reverse
 | _=>False
end
def dNeL:R22:=λx y Q=>match x,y with
 | .lst xs,.lst ys=>xs.length=ys.length/\match f_ (c4 5) xs ys with
  | some b=>Q (.bl !b)
  | none=>False
 | _,_=>False
section
variable {e k:Expr} {te tk:RE}
def rBNew (i:Nat):RS:=λE a=>E.nx (a.set i (some (.box false [[],[]])))
def rBApp (i:Nat) (tk te:RE):RS:=λE a=>match a[i]? with
 | some (some (.box false iy))=>tk a λkd=>match kd with
  | .int k=>∃(j:Nat) (ds:List D),(k=(j:Int)/\iy[j]? = some ds/\Sz (ds.length+1))/\te a λd=>E.nx (a.set i (some (.box false (iy.set j (ds++[d])))))
  | _=>False
 | _=>False
end
def rSetB (j:Nat) (F:FD) (t:RA):RS:=λE a=>t a λds=>F ds λd=>∃iy:List (List D),d = .tup (iy.map .lst)/\E.nx (a.set j (some (.box true iy)))
def lendB (i:Nat) (a:En):En:=match a[i]? with
 | some (some (.box true iy))=>a.set i (some (.d (.tup (iy.map .lst))))
 | _=>a
def rBFor (i j:Nat):RS:=λE a=>match a[i]? with
 | some (some (.box true iy))=>(j<a.length/\∀ds∈iy,Sz (ds.length+1))/\E.nx ((a.set j none).set i (some (.box true (iy.map (· ++ [.non])))))
 | _=>False
def rGet2 (ta tk tf:RE):RE:=λa Q=>ta a λx=>match x with
 | .dct ks ds=>tk a λy=>match y with
  | .int k=>tf a λz=>Q ((HH ks ds k).getD z)
  | _=>False
 | _=>False
def dInI:R22:=λx y Q=>match x,y with
 | .int i,.lst ds=>∃ns:List Int,ds=ns.map .int/\Q (.bl (decide (i∈ns)))
 | _,_=>False
def rgLst (n:Nat) (g:r8):RG:=λd a Q=>match d with
 | .lst ds=>ds.length=n/\g ds a Q
 | _=>False
def ON:R22:=λx y Q=>match c4 9 x y with
 | some b=>Q (.bl b)
 | none=>False
section
def Cs (hr:ce k X.A):jn X (compareOp .Eq) ON:=by
 intro pins s Z H x y v u Q I rx ry aw;obtain⟨d,e,P,r1,r2,q,kk⟩:=aw;unfold ON at q;split at q
 ·rename_i b hb;have hu:=hr.units;have:uG X.A s v u b:=by
   by_cases hl:∃xs ys,d = .lst xs/\e = .lst ys
   ·obtain⟨xs,ys,rfl,rfl⟩:=hl;obtain⟨a,vs,rfl,h1,q1⟩:=r1.lst;obtain⟨c,ws,rfl,h2,q2⟩:=r2.lst;cases rx;cases ry;exact (OX I (A:=X.A) (n:=8) hb h1 q1 h2 q2 (by lia) λ{d e v u x y b} hk f2 f4 g4 g6=>(uM I 8 hk f2 f4 g4 g6 (by show X.A.units+1+8<cLine;lia)).2).1
   ·have p1:b_ X.K H d x:=by
     rcases r1 with r | ⟨ds,a,vs,e1,_⟩
     ·exact r
     ·subst e1;cases e <;> first | (cases hb;done) | exact absurd ⟨_,_,rfl,rfl⟩ hl
    have p2:b_ X.K H e y:=by
     rcases r2 with r | ⟨ds,a,vs,e1,_⟩
     ·exact r
     ·subst e1;cases d <;> first | (cases hb;done) | exact absurd ⟨_,_,rfl,rfl⟩ hl
    exact (uM I (A:=X.A) 9 hb p1 p2 rx ry (by lia)).1
  exact this _ _ _ _ ⟨.bl b,H,I,rfl,kk _ _ H q (ae.refl H) (.bl b)⟩
 ·exact q.elim
end
open PySem.W in
section
variable {s:aG}
open PySem.W Builtin Builtin.ObjectAttr Builtin.Getset_descriptor
end
open PySem.W in
section
open PySem.W in
end
section
variable {s:aG}
open PySem.W Builtin Builtin.ObjectAttr
end
open PySem.W in
open PySem.W in
open PySem.W in
def F0 (PP:Int->Prop) (te:RE):RS:=λ_ a=>te a λd=>match d with
 | .int c=>PP c
 | _=>False
abbrev FDX:=List D->(D->Prop)->(Int->Prop)->Prop
def E2 (F:FDX) (PP:Int->Prop) (t:RA):RE:=λa Q=>t a λds=>F ds Q PP
abbrev FDE:=List D->(Int->Prop)->Prop
def rSetE (j:Nat) (F:FDE) (C:Addr) (y:Str) (t:RA):RS:=λE a=>t a λds=>∃PP,F ds PP/\∀c,PP c->E.nx (a.set j (some (.exc C y c)))
def rIsiE (i:Nat) (C:Addr) (b:Bool):RE:=λa Q=>match a[i]? with
 | some (some (.exc C' _ _))=>C'=C/\Q (.bl b)
 | _=>False
def rColE (i:Nat) (C:Addr) (y:Str):RE:=λa Q=>match a[i]? with
 | some (some (.exc C' y' c))=>(C'=C/\y'=y)/\Q (.int c)
 | _=>False
def rColN (te:RE):RE:=λa Q=>te a λd=>match d with
 | .int c=>Q (.int c)
 | _=>False
end
section
open PySem PySem.W PyProof.Rows
section
variable {s:aG}
def o3 (a:Array Keyed) (i:Nat):Keyed:=a.getD i (fF,fF)
end
end
section
open PySem PySem.W PySem.SetTable PyProof.Rows
end
section
open PySem PySem.Spec PyProof.Rows L2
def Xu (te:RE):RA:=λa Q=>te a λx=>∃nss:List (List Int),x = .lst (nss.map nG)/\nss.length<76/\(∀ns∈nss,ns≠[])/\∀mss:List (List Int),mss.Pairwise (λx y=>iR y x=false)->(∀ns,ns∈mss↔ns∈nss)->mss.length<=nss.length->Q (mss.map nG)
def B9 (te:RE):RE:=λa Q=>te a λx=>∃nss:List (List Int),x = .lst (nss.map nG)/\nss.length<=75/\∀mss:List (List Int),mss.Nodup->(∀ns,ns∈mss↔ns∈nss)->Q (.int mss.length)
def B8:R22:=λx y Q=>match y with
 | .lst ds=>∃(ks:List Int) (nss:List (List Int)),x=nG ks/\ds=nss.map nG/\Q (.bl (!decide (ks∈nss)))
 | _=>False
end
section
open PySem PySem.Spec PyProof.Rows L2 PySem.W
def Ya (ks:List (List Int)) (k:List Int):List (List Int):=if k∈ks then ks else ks++[k]
def Zm {α:Type} (ks:List (List Int)) (xs:List α) (k:List Int) (x:α):List α:=if k∈ks then xV (λk' y=>if k'=k then x else y) ks xs else xs++[x]
def YJ:List (List Int)->List D->List Int->Option D
 | k'::ks,d::ds,k=>if k'=k then some d else YJ ks ds k
 | _,_,_=>none
section
variable {te tk tf:RE}
def rTNew (i:Nat):RS:=λE a=>E.nx (a.set i (some (.dt [] [])))
def rTPut (i:Nat) (tk te:RE):RS:=λE a=>match a[i]? with
 | some (some (.dt ks xs))=>te a λd=>tk a λkd=>∃kk:List Int,kd = .tup (kk.map .int)/\Sz (ks.length+1)/\E.nx (a.set i (some (.dt (Ya ks kk) (Zm ks xs kk d))))
 | _=>False
def rTGet (i:Nat) (tk tf:RE):RE:=λa Q=>match a[i]? with
 | some (some (.dt ks xs))=>tk a λkd=>tf a λz=>∃kk:List Int,kd = .tup (kk.map .int)/\Q ((YJ ks xs kk).getD z)
 | _=>False
def F4 (i:Nat):RA:=λa Q=>match a[i]? with
 | some (some (.dt ks xs))=>Q (ks.map nG)
 | _=>False
end
section
variable {te ta tk tf:RE}
def E6 (te:RE):RA:=λa Q=>te a λx=>∃(ks:List (List Int)) (ds:List D),x = .dtt ks ds/\Q (ks.map nG)
def Z_:R22:=λx y Q=>match x with
 | .dtt ks ds=>∃(kk:List Int) (d:D),y = .tup (kk.map .int)/\YJ ks ds kk=some d/\Q d
 | _=>False
def rGetU (ta tk tf:RE):RE:=λa Q=>ta a λx=>match x with
 | .dtt ks ds=>tk a λy=>tf a λz=>∃kk:List Int,y = .tup (kk.map .int)/\Q ((YJ ks ds kk).getD z)
 | _=>False
end
def F7 (te:RE):RA:=λa Q=>te a λd=>match d with
 | .dtt ks _=>Q (ks.map nG)
 | _=>False
def C2 (te:RE):RA:=λa Q=>te a λd=>match d with
 | .dtt ks ds=>Q (xV (λk x=>D.tup [nG k,x]) ks ds)
 | _=>False
end
section
open PySem PySem.Spec PyProof.Rows L2
section
variable {te ta:RE}
def rInsD (i:Nat) (ta te:RE):RS:=λE a=>match a[i]? with
 | some (some (.own xs))=>ta a λk=>te a λd=>∃j:Nat,k = .int (j:Int)/\j<=xs.length/\Sz (xs.length+1)/\E.nx (a.set i (some (.own (xs.take j++d::xs.drop j))))
 | _=>False
def E5 (i:Nat) (te:RE):RE:=λa Q=>te (D9 i a) λd=>∃n:Int,d = .int n/\Q d
end
end
section
open PySem PySem.W PySem.Spec PySem.SetTable PyProof.Rows L2
section
variable {prog:bR} {w:cT} {A:cZ} {E:aB->aG->Prop} {s:aG}
theorem Of {a:Addr} {vs:List aB} {nss:List (List Int)} {n:Nat} {P:PySem.Fin->aG->Prop} (ho:s.heap.get? a=some (seqObj "list" vs.toArray n)) (ln:vs.length=nss.length) (ud:vs.length<64)
  (tups:∀h',(∀b o,b≠a->s.heap.get? b=some o->h'.get? b=some o)->∃fs:List aB,KatTups h' vs fs/\fs.length=vs.length/\∀f∈fs,∃k t,f = .int k t)
  (ask:∀h',(∀b o,b≠a->s.heap.get? b=some o->h'.get? b=some o)->∀(i j:Nat) (C:Bool->aG->Prop),i<vs.length->j<vs.length->C (iR (nss.getD i []) (nss.getD j [])) { s with heap:=h' } ->
   ∃x ox xs nx y oy ys ny,(vs.getD i fF = .ref x/\h'.get? x=some ox/\ox.data = .seq xs nx)/\(vs.getD j fF = .ref y/\h'.get? y=some oy/\oy.data = .seq ys ny)/\KatLex prog w A true (decide (xs.size<ys.size)) C (xs.toList.zip ys.toList) 0 { s with heap:=h' })
  (q:∀h' (p:List Nat) c,p.Perm (dY vs.length)->h'.get? a=some (seqObj "list" (fV (p.map λi=>vs.getD i fF)) c)->(p.map λi=>nss.getD i []).Pairwise (λx y=>iR y x=false)->(∀b o,b≠a->s.heap.get? b=some o->h'.get? b=some o)->P (.done (.ret .none)) { s with heap:=h' }) :
  wpAny (model prog w) A (Builtin.«list.sort» ⟨[.ref a],[]⟩) P E s:=by
 have lt:a<s.heap.objs.size:=aX ho;rw[MK];apply aA;refine listItems_at ho rfl ?_;apply aA;refine wH ho rfl ?_ (by rw[aY,fQ];lia) (eV _);obtain⟨e1,vv⟩:∃e1,(s.heap.update a (eG λ_=>(#[]:Array aB))).get? a=some (seqObj "list" #[] e1):=⟨_,sL ho λ_=>#[]⟩;have up1:∀b o,b≠a->s.heap.get? b=some o->(s.heap.update a (eG λ_=>(#[]:Array aB))).get? b=some o:=λb o hb e=>(cW _ _ (Ne.symm hb)).trans e;generalize s.heap.update a (eG λ_=>(#[]:Array aB))=h1 at vv up1;apply aA;refine CH vv rfl ?_;apply aA;refine RI ?_ (by show vs.length<=_;rw[fQ];lia);apply aA;refine sB ?_ (eV _);apply fN;show wpAny (model prog w) A _ P E { s with heap:=(h1.push (seqObj "tuple" vs.toArray 0)).push (seqObj "list" #[] 0) };have jm:∀b o,b≠a->s.heap.get? b=some o->((h1.push (seqObj "tuple" vs.toArray 0)).push (seqObj "list" #[] 0)).get? b=some o:=λb o hb e=>aP _ (aP _ (up1 b o hb e));have j6:((h1.push (seqObj "tuple" vs.toArray 0)).push (seqObj "list" #[] 0)).get? a=some (seqObj "list" #[] e1):=aP _ (aP _ vv);generalize (h1.push (seqObj "tuple" vs.toArray 0)).push (seqObj "list" #[] 0)=h2 at jm j6;have fin:∀(p:List Nat) (du:SortSt),(arrOf du).map (·.2)=fV (p.map λi=>vs.getD i fF)->failedOf du=none->p.Perm (dY vs.length)->(p.map λi=>nss.getD i []).Pairwise (λx y=>iR y x=false) ->
   wpAny (model prog w) A (do
    let sorted:=(arrOf du).map (·.2);let touched:=(<-seqEpoch a) != e1
    qC (.ref a) λ_=>sorted
    if let some e:=failedOf du then rule "list.sort.comparison-raised";throw e
    if touched then rule "list.sort.modified";raiseError "ValueError" "list modified during sort"
    ret .none) P E { s with heap:=h2 }:=by
  intro p du h1 hf hp hs;have hlen:(p.map λi=>vs.getD i fF).length<=64:=by rw[aS,hp.length_eq,qO];lia
  generalize ho3:(p.map λi=>vs.getD i fF)=out at h1 hlen;dsimp only;apply aA;refine CH (s:={ s with heap:=h2 }) j6 rfl ?_;rw[h1];apply aA;refine wH (s:={ s with heap:=h2 }) j6 rfl ?_ (eV _) (by show out.toArray.size<=_;rw[aY,fQ];lia);obtain⟨c,hc⟩:∃c,(h2.update a (eG λ_=>out.toArray)).get? a=some (seqObj "list" out.toArray c):=⟨_,sL j6 λ_=>out.toArray⟩;have g7:∀b o,b≠a->h2.get? b=some o->(h2.update a (eG λ_=>out.toArray)).get? b=some o:=λb o hb e=>(cW _ _ (Ne.symm hb)).trans e;generalize h2.update a (eG λ_=>out.toArray)=h3 at hc g7;rw[hf];simp only[bne_self_eq_false,aN,if_false];exact aK (q h3 p c hp (by rw[ho3];exact hc) hs λb o hb e=>g7 b o hb (jm b o hb e))
 dsimp only;by_cases ve:vs.length<2
 ·have c2:vs.toArray.size<2:=by rw[aY];exact ve
  rw[if_pos c2,if_pos c2];apply aA;apply aK;apply aA;show wpAny _ _ (pure ((),SortSt.mk' general' (vs.toArray.zip vs.toArray) #[] 7 none)) _ _ _;apply aK;refine fin (dY vs.length) _ ?_ rfl (tX _) ?_
  ·show (vs.toArray.zip vs.toArray).map (·.2)=_;rw[range_getD];apply IY.mp;simp[JE]
  ·rw[ln,range_getD]
   match nss,ln with
   | [],_=>exact lM
   | [x],_=>exact mE _ _
   | _::_::_,ln=>simp at ln;lia
 ·have c2:¬vs.toArray.size<2:=by rw[aY];exact ve
  rw[if_neg c2,if_neg c2];obtain⟨fs,f1,f2,f3⟩:=tups h2 jm;apply aA;refine kat_kind (s:={ s with heap:=h2 }) (T:=.type "int") f1 (by lia) (λv hv=>?_) (by decide) ?_
  ·obtain⟨k,t,rfl⟩:=f3 v hv;exact Looks.now
  have hT:(gZ "int" != gZ "tuple")=true:=by decide
  rw[hT];obtain⟨i1,i2,i3⟩:=Gf (O:=ZI) (key:=λi=>nss.getD i []) (n:=vs.length) (by lia);have N9:(iF (c7 ZI λi=>nss.getD i []) (uN vs.length)).size=vs.length:=by rw[i2.size_eq];simp
  generalize hp:iF (c7 ZI λi=>nss.getD i []) (uN vs.length)=p at i2 i3 N9;apply aA;refine gS (kat_run (ks:=vs) (vs:=vs) (Q:=λdu s'=>s' = { s with heap:=h2 }/\arrOf du=p.map (kas_item (vs.toArray.zip vs.toArray))/\failedOf du=none) (G:=λp' s'=>p'=p/\s' = { s with heap:=h2 }) rfl (by lia) ud (λp' du s' a1 a2 a3 a4=>⟨a4.2,by rw[a2,a4.1],a3⟩) ?_) ?_ λ_ _ e=>e
  ·refine FW (lt:=c7 ZI λi=>nss.getD i []) (n:=vs.length) (s:={ s with heap:=h2 }) (λi j C hi hj c=>?_) _ i1 ⟨hp,rfl⟩;unfold kas_ask;obtain⟨x,ox,xs,nx,y,oy,ys,ny,⟨ex,U',V0⟩,⟨ey,V2,V3⟩,kx⟩:=ask h2 jm i j _ hi hj c;rw[ex,ey];exact kat_lt (s:={ s with heap:=h2 }) U' V0 V2 V3 kx
  ·rintro⟨⟨⟩,du⟩ s' ⟨rfl,R6,hf⟩;have v4:=kat_snds (ks:=vs) (vs:=vs) rfl R6;have pl:p.toList.Perm (dY vs.length):=(by simpa using i2.toList);refine fin p.toList du v4 hf pl ?_;refine lN.mpr (gY.mpr λi j hi hj k_=>?_);have:=i3 i j (by lia) (by simp at hj;lia);unfold kk at this;simp only[cI] at hi hj;have e1:p.getD i 0=p[i]:=(by simp[jJ,hi]);have e2:p.getD j 0=p[j]:=(by simp[jJ,hj]);rw[e1,e2] at this;exact this
end
def Xz (A:cZ) (s:aG) (y x:aB) (b:Bool):Prop:=∀(prog:bR) (w:cT) (E:aB->aG->Prop) (Q:aB->aG->Prop),Q (.bool b) s->wpAny (model prog w) A (richCompare .Lt y x) Q E s
inductive lj (A:cZ) (s:aG):List aB->List aB->List (List Int)->List (List Int)->Prop
 | left {ws:List aB} {ms:List (List Int)} (e:ws.length=ms.length):lj A s [] ws [] ms
 | right {vs:List aB} {ks:List (List Int)} (e:vs.length=ks.length):lj A s vs [] ks []
 | cons {y x:aB} {vs ws:List aB} {k m:List Int} {ks ms:List (List Int)} (h1:yG A s y x (decide (k=m))) (h2:Xz A s y x (iR k m)) (t:lj A s vs ws ks ms):lj A s (y::vs) (x::ws) (k::ks) (m::ms)
def wZ:List (List Int)->List (List Int)->Bool
 | [],[]=>false
 | [],_::_=>true
 | _::_,[]=>false
 | a::as,b::bs=>if a=b then wZ as bs else iR a b
section
open PySem.SeqAt
open PySem.AutoSeq1 (wpAny_loadPart')
open PySem.MeetsSeq PySem.MeetsSeq2 PySem.MeetsSeq3
def QY (l b:Addr) (items a_:Array aB) (n n2:Nat) (dd qw:Option Addr) (sl pf:Array (Option aB)) (ks ms:List (List Int)) (z1:items.size=ks.length) (z2:a_.size=ms.length) :
  Meets (Builtin.«tuple.__lt__» ⟨[.ref l,.ref b],[]⟩)
   (λA R s=>s.heap.get? l=some { cls:=.type "tuple",dict:=dd,data:=.seq items n,slots:=sl }/\s.heap.get? b=some { cls:=.type "tuple",dict:=qw,data:=.seq a_ n2,slots:=pf } /\
    lj A.in1 s items.toList a_.toList ks ms/\R (.ok (.ret (.bool (wZ ks ms)))) s) :=
 .of_wp λprog w A R s h=>by
  obtain⟨hp,g,d,tk,os⟩:=s;obtain⟨hl,hb,hC,h⟩:=h;have f2:=vT
  wp_walk using mX hl,mX hb,oS _ (λrest b s'=>b.1=none/\s'=⟨hp,g,d,tk,os⟩/\∃(vs ws:List aB) (ks' mj:List (List Int)),rest=vs.zip ws /\
   lj A.in1 ⟨hp,g,d,tk,os⟩ vs ws ks' mj/\ks'.length+a_.size=mj.length+items.size/\R (.ok (.ret (.bool (wZ ks' mj)))) ⟨hp,g,d,tk,os⟩) _
  case turn =>
   rintro⟨y,x⟩ rest b s' ⟨ku,rfl,vs,ws,ks',mj,hz,hc,hlen,hR⟩;cases hc with
   | left e=>rw[GR] at hz;cases hz
   | right e=>rw[FO] at hz;cases hz
   | @cons y' x' vs ws k m ks' mj h1 h2 t =>
    rw[kQ] at hz;injection hz with V4 qk;injection V4 with hy hx;subst hy hx;simp only[cD] at hlen;refine aA (h1 prog w _ _ ?_);by_cases e:k=m
    ·subst e;rw[decide_eq_true rfl];have hR:R (.ok (.ret (.bool (wZ ks' mj)))) ⟨hp,g,d,tk,os⟩:=by simpa [wZ] using hR
     wp_walk
     exact⟨rfl,rfl,_,_,_,_,qk,t,by lia,hR⟩
    ·rw[decide_eq_false e];have hR:R (.ok (.ret (.bool (iR k m)))) ⟨hp,g,d,tk,os⟩:=(by simpa [wZ,e] using hR);have T_:=λE Q h=>h2 prog w E Q h
     wp_walk using T_
     exact⟨_,rfl,by simpa using hR⟩
  case fin =>
   rintro⟨b1,b2⟩ s' ⟨ku,rfl,vs,ws,ks',mj,hz,hc,hlen,hR⟩;simp only at ku;subst ku;have hv:wZ ks' mj=decide (items.size<a_.size):=by
    cases hc with
    | left e =>
     cases mj with
     | nil=>simp only[eK] at hlen;exact (decide_eq_false (by lia)).symm
     | cons m mj=>simp only[eK,cD] at hlen;exact (decide_eq_true (by lia)).symm
    | right e =>
     cases ks' with
     | nil=>simp only[eK] at hlen;exact (decide_eq_false (by lia)).symm
     | cons k ks'=>simp only[eK,cD] at hlen;exact (decide_eq_false (by lia)).symm
    | cons h1 h2 t=>rw[kQ] at hz;cases hz
   rw[hv] at hR
   wp_walk
   exact⟨_,rfl,by simpa [rF] using hR⟩
  case h=>exact⟨rfl,rfl,items.toList,a_.toList,ks,ms,rfl,hC,by lia,h⟩
end
section
variable {s:aG}
theorem ZN (hl:IsTup s.heap l items) (hb:IsTup s.heap b a_) (z1:items.size=ks.length) (z2:a_.size=ms.length) (hC:lj A.in1 s items.toList a_.toList ks ms)
  (hu:A.units<cLine) (h:Q (.bool (wZ ks ms)) s):wpAny (model prog w) A (compareOp .Lt (.ref l) (.ref b)) Q E s:=by
 obtain⟨⟨cls,dd,data,sl⟩,ho,hc,n,hd⟩:=id hl;obtain⟨⟨yc,qw,data2,pf⟩,j6,qe,n2,hd2⟩:=id hb;simp only at hc hd qe hd2;subst hc hd qe hd2;exact yV (op:=.Lt) ⟨_,ho,rfl⟩ ⟨_,j6,rfl⟩ AB yC (wP _ _) (QY l b items a_ n n2 dd qw sl pf ks ms z1 z2)
  ⟨ho,j6,hC,show yI (wZ ks ms)≠BB/\Q (.bool (wZ ks ms)) s from ⟨(λx=>nomatch x),h⟩⟩ hu
end
def vP (r:List (Int × Int)):List (List Int):=r.map λz=>[z.1,z.2]
def BH:List (Int × Int)->List Int
 | []=>[]
 | z::r=>z.1::z.2::BH r
def pD (p:Int × List (Int × Int)):List Int:=p.1::BH p.2
abbrev mm (z:Int × Int):D:=.tup [.int z.1,.int z.2]
abbrev li (p:Int × List (Int × Int)):D:=.tup [.int p.1,.tup (p.2.map mm)]
theorem Fo:∀a b,HT.lexLt a b=iR a b
 | [],[]=>rfl
 | [],_::_=>rfl
 | _::_,[]=>rfl
 | a::as,b::bs=>by rw[HT.lexLt_cons,Fo as bs];rfl
theorem PQ:∀r r':List (Int × Int),wZ (vP r) (vP r')=iR (BH r) (BH r')
 | [],[]=>rfl
 | [],_::_=>rfl
 | _::_,[]=>rfl
 | (a,b)::r,(c,d)::r'=>by
  have ih:=PQ r r';show (if [a,b]=[c,d] then wZ (vP r) (vP r') else iR [a,b] [c,d])=iR (a::b::BH r) (c::d::BH r');rw[ih];by_cases h1:a=c
  ·subst h1;by_cases h2:b=d
   ·subst h2;simp[iR]
   ·simp[iR,h2]
  ·simp[iR,h1]
theorem TR:∀{r r':List (Int × Int)},BH r=BH r'->r=r'
 | [],[],_=>rfl
 | [],_::_,h=>by cases h
 | _::_,[],h=>by cases h
 | (a,b)::r,(c,d)::r',h=>by
  simp only[BH,fX] at h;rw[TR h.2.2,h.1,h.2.1]
def Lr (h:pD p=pD q):p=q:=by
 simp only[pD,fX] at h;exact kR h.1 (TR h.2)
def Fe (n:Nat) (a b:Int × Int):c4 (n+2) (mm a) (mm b)=some (decide ([a.1,a.2]=[b.1,b.2])):=by
 show some (decide (a.1=b.1) && (decide (a.2=b.2) && true))=_;rw[vU];congr 1;simp
theorem YN (n:Nat):∀r r':List (Int × Int),f_ (c4 (n+2)) (r.map mm) (r'.map mm)=some (decide (r=r'))
 | [],[]=>rfl
 | [],_::_=>rfl
 | _::_,[]=>rfl
 | a::r,b::r'=>by
  show (match c4 (n+2) (mm a) (mm b),f_ (c4 (n+2)) (r.map mm) (r'.map mm) with | some x,some y=>some (x && y) | _,_=>none)=_;rw[Fe,YN n r r'];obtain⟨a1,a2⟩:=a;obtain⟨b1,b2⟩:=b;show some (decide ([a1,a2]=[b1,b2]) && decide (r=r'))=_;congr 1;simp[MY]
section
variable {σ:St} {s:aG}
theorem Vp (I:Inv X pins σ H s) (hu:A.units+4<cLine) (r1:b_ X.K H (mm a) v) (r2:b_ X.K H (mm b) u) (rx:RelV v x) (ry:RelV u y):Xz A s x y (iR [a.1,a.2] [b.1,b.2]):=by
 intro prog w E Q h;obtain⟨c,rfl,hc⟩:=af.tupI_inv (ns:=[a.1,a.2]) r1;obtain⟨d,rfl,hd⟩:=af.tupI_inv (ns:=[b.1,b.2]) r2;cases rx;cases ry;obtain⟨its,rv,ht,_⟩:=I.tuple (di.of (K:=X.K) hc);obtain⟨dh,m5,q9,_⟩:=I.tuple (di.of (K:=X.K) hd);refine HT.lt_tupInts (A:=A) ht q9 (intsAre_of rv) (intsAre_of m5) (by lia) ?_;rw[Fo];exact h
theorem XU (I:Inv X pins σ H s) (hu:A.units+4<cLine):∀(r r':List (Int × Int)) {vs us:List V} {its dh:List aB},af X.K H (r.map mm) vs->am vs its->af X.K H (r'.map mm) us->am us dh->lj A s its dh (vP r) (vP r')
 | [],r',vs,us,its,dh,h1,v1,h2,v2=>by
  cases h1;cases v1;exact .left (by rw[<-v2.length,<-h2.length];simp[vP])
 | a::r,[],vs,us,its,dh,h1,v1,h2,v2=>by
  cases h2;cases v2;exact .right (by rw[<-v1.length,<-h1.length];simp[vP])
 | a::r,b::r',_,_,_,_,.cons h1 t1,.cons v1 w1,.cons h2 t2,.cons v2 w2 =>
  .cons (uM I 2 (Fe 0 a b) h1 h2 v1 v2 (by lia)).2 (Vp I hu h1 h2 v1 v2) (XU I hu r r' t1 w1 t2 w2)
theorem Uc (I:Inv X pins σ H s) (hu:A.units+9<cLine) (r1:b_ X.K H (li p) v) (r2:b_ X.K H (li q) u) (rx:RelV v x) (ry:RelV u y)
  (c:C (iR (pD p) (pD q)) s):∃a oa xs na b ob ys nb,(x = .ref a/\s.heap.get? a=some oa/\oa.data = .seq xs na)/\(y = .ref b/\s.heap.get? b=some ob/\ob.data = .seq ys nb)/\KatLex prog w A true (decide (xs.size<ys.size)) C (xs.toList.zip ys.toList) 0 s:=by
 cases r1 with
 | @tup a vs _ h1 q1 =>
 cases r2 with
 | @tup b us _ h2 q2 =>
 cases rx;cases ry;obtain⟨its,rv,⟨oa,g1,g2,na,g3⟩,_⟩:=I.tuple (di.of (K:=X.K) h1);obtain⟨dh,m5,⟨ob,g4,g5,nb,g6⟩,_⟩:=I.tuple (di.of (K:=X.K) h2);refine⟨a,oa,its.toArray,na,b,ob,dh.toArray,nb,⟨rfl,g1,g3⟩,⟨rfl,g4,g6⟩,?_⟩;cases q1 with
 | cons i1 q1 =>
 cases q1 with
 | cons j1 q1 =>
 cases q1;cases q2 with
 | cons i2 q2 =>
 cases q2 with
 | cons j2 q2 =>
 cases q2;cases rv with
 | cons x1 rv =>
 cases rv with
 | cons x2 rv =>
 cases rv;cases m5 with
 | cons y1 m5 =>
 cases m5 with
 | cons y2 m5 =>
 cases m5;have ee:=(uM I 1 (show c4 1 (.int p.1) (.int q.1)=some (decide (p.1=q.1)) from rfl) i1 i2 x1 y1 (A:=A) (by lia)).2;rw[i1.int_inv] at x1;rw[i2.int_inv] at y1;obtain⟨t,rfl⟩:=x1;obtain⟨t',rfl⟩:=y1;show KatLex prog w A true (decide (2<2)) C [(_,_),(_,_)] 0 s;refine ZD (ee _ _ _ _ ?_);by_cases e:p.1=q.1
 ·rw[decide_eq_true e];refine kat_yes (ZD ((uM I 3 (show c4 3 (.tup (p.2.map mm)) (.tup (q.2.map mm))=some (decide (p.2=q.2)) from YN 0 _ _) j1 j2 x2 y2 (A:=A) (by lia)).2 _ _ _ _ ?_));by_cases e2:p.2=q.2
  ·rw[decide_eq_true e2];refine kat_yes (WD ?_);have:p=q:=kR e e2;subst this;rw[PN] at c;exact c
  ·rw[decide_eq_false e2];refine kat_no (kat_one _ _ ?_);cases j1 with
   | @tup a1 ws1 _ k1 m1 =>
   cases j2 with
   | @tup a2 ws2 _ k2 m2 =>
   cases x2;cases y2;obtain⟨uk,rw1,ht1,_⟩:=I.tuple (di.of (K:=X.K) k1);obtain⟨jts2,rw2,q9,_⟩:=I.tuple (di.of (K:=X.K) k2);refine ZN (A:=A) ht1 q9 (ks:=vP p.2) (ms:=vP q.2) (by rw[aY,<-rw1.length,<-m1.length];simp[vP]) (by rw[aY,<-rw2.length,<-m2.length];simp[vP]) ?_ (by lia) ?_
   ·exact XU I (by show A.units+1+4<cLine;lia) _ _ m1 rw1 m2 rw2
   ·show C (wZ (vP p.2) (vP q.2)) s;rw[PQ];have:iR (pD p) (pD q)=iR (BH p.2) (BH q.2):=(by simp[pD,iR,e]);rw[<-this];exact c
 ·rw[decide_eq_false e];have:iR (pD p) (pD q)=decide (p.1<q.1):=by simp[pD,iR,e]
  rw[this] at c;exact kat_no (oneLt_int c)
theorem Gj (I:Inv X pins σ H s):∀(ps:List (Int × List (Int × Int))) {vs:List V} {its:List aB},af X.K H (ps.map li) vs->am vs its->∃fs:List aB,KatTups s.heap its fs/\fs.length=its.length/\∀f∈fs,∃k t,f = .int k t
 | [],_,_,.nil,.nil=>⟨[],trivial,rfl,λf hf=>by cases hf⟩
 | p::ps,_,_,.cons h1 t1,.cons v1 w1=>by
  obtain⟨fs,f1,f2,f3⟩:=Gj I ps t1 w1;cases h1 with
  | @tup a vs _ h1 q1 =>
  cases v1;obtain⟨its,rv,⟨oa,g1,g2,na,g3⟩,_⟩:=I.tuple (di.of (K:=X.K) h1);cases q1 with
  | cons i1 q1 =>
  cases rv with
  | cons x1 rv =>
  rw[i1.int_inv] at x1;obtain⟨t,rfl⟩:=x1;exact⟨_,KatTups.cons g1 g2 g3 rfl f1,by simp[f2],λf hf=>by
   rcases aJ.mp hf with rfl | hf
   ·exact⟨_,_,rfl⟩
   ·exact f3 f hf⟩
end
def Dr (te:RE):RA:=λa Q=>te a λx=>∃ps:List (Int × List (Int × Int)),x = .lst (ps.map li)/\ps.length<64/\∀qs:List (Int × List (Int × Int)),qs.Perm ps->qs.Pairwise (λx y=>iR (pD y) (pD x)=false)->Q (qs.map li)
section
variable {X:Cx} {e:Expr} {te:RE} {p pos:Pos}
theorem Ku {k:Nat} (hr:ce k X.A) (vt:X.mg "sorted" = none) (h:DB X e te) (vn:Gl X "sorted":=by rfl) (hs:starEach [e] X.env=[(false,eval e X.env)]:=by rfl) (hn:starEach [] X.env=[]:=by rfl) :
  DO X (.Call (.Name "sorted" p) [e] [] pos) (Dr te):=by
 intro pins s Z H Q I aw;obtain⟨n,P,st,q,kq⟩:=aw;have hu:=hr.units;refine fJ (pY I vn vt boot_sorted ?_);refine gU (ci (qX h hs hn pos pins s Z H (λvs H1=>∃(ps:List (Int × List (Int × Int))) (v:V),vs=[v]/\ae H H1/\c8 X.K H1 (.lst (ps.map li)) v/\ps.length<64/\∀qs:List (Int × List (Int × Int)),qs.Perm ps->qs.Pairwise (λx y=>iR (pD y) (pD x)=false)->P (qs.map li)) I
  ⟨n,_,st,q,λx v H1 hx s1 r1=>?_⟩) λus s1 ⟨vs,H1,I1,r1,q1⟩=>?_) (by rw[hs,hn]) (by rw[hn];rfl)
 ·obtain⟨ps,rfl,a1,a2⟩:=hx;exact⟨ps,v,rfl,s1,r1,a1,a2⟩
 obtain⟨ps,v,rfl,jz,rb,ud,hP⟩:=q1;obtain⟨l,vs,rfl,hq,rr⟩:=rb.lst;obtain⟨u,rfl,rx⟩:=vals1 r1;cases rx;obtain⟨its,rv,pl,hz⟩:=I1.list hq;have l1:=rr.length;have l2:=rv.length;rw[aS] at l1;refine oU LM ID HL (HA _) ?_;unfold Builtin.«sorted»;refine aA (m:=checkCount "sorted" 1 1 _) (aK ?_);apply aA;refine collect_list pl.isList ?_ (by rw[fQ];lia);apply aA;refine sB ?_ (by rw[fQ];lia);generalize hh1:(s1.heap.push (seqObj "list" #[] 0)).update s1.heap.objs.size (eG (· ++ its.toArray))=h1;have k1:∀b o,s1.heap.get? b=some o->h1.get? b=some o:=λb o e=>by rw[<-hh1,Heap.get?_update_ne _ _ _ _ (bO (aX e))];exact aP _ e
 have big:s1.heap.objs.size<=h1.objs.size:=by rw[<-hh1,Heap.size_update,size_push'];exact vE _
 show wpAny _ _ _ _ _ { s1 with heap:=h1.push (seqObj "list" its.toArray 0) };have hL:(h1.push (seqObj "list" its.toArray 0)).get? h1.objs.size=some (seqObj "list" its.toArray 0):=cL _ rfl;have k2:∀b o,s1.heap.get? b=some o->(h1.push (seqObj "list" its.toArray 0)).get? b=some o:=λb o e=>aP _ (k1 b o e);generalize h1.push (seqObj "list" its.toArray 0)=h2 at hL k2;have kk:∀h':Heap,(∀b o,b≠h1.objs.size->h2.get? b=some o->h'.get? b=some o)->∀b o,s1.heap.get? b=some o->h'.get? b=some o:=λh' hh b o e=>hh b o (bO (bQ (aX e) big)) (k2 b o e);have at_:∀(i:Nat),i<its.length->∃(p:Int × List (Int × Int)) (v:V),ps[i]? = some p/\vs[i]? = some v/\b_ X.K H1 (li p) v/\RelV v (its.getD i fF)/\(ps.map pD).getD i []=pD p:=λi hi=>by
  have gq:i<ps.length:=by lia
  obtain⟨v,e1,e2⟩:=rr.get (i:=i) (d:=li ps[i]) (by rw[bT,aD gq];rfl);obtain⟨u,f1,f2⟩:=rv.get e1;exact⟨ps[i],v,aD gq,e1,e2,by rw[cE,f1];exact f2,by rw[cE,bT,aD gq];rfl⟩
 refine aA (fN (kN slot_list_sort ⟨_,hL,rfl⟩ entry_list_sort ?body (BE _)))
 case body =>
  refine Of (s:={ s1 with heap:=h2 }) (nss:=ps.map pD) hL (by rw[aS];lia) (by lia) (λh' hh=>?_) (λh' hh i j C hi hj c=>?_) λh3 pm c g1 g2 g3 g4=>?_
  ·exact Gj (I1.kept (t':=s1.toks) (kk h' hh)) ps rr rv
  ·obtain⟨p1,v1,_,_,a3,a4,a5⟩:=at_ i hi;obtain⟨p2,v2,_,_,b3,b4,b5⟩:=at_ j hj;rw[a5,b5] at c;exact Uc (I1.kept (t':=s1.toks) (kk h' hh)) (by first | lia | (show X.A.units+1+9<cLine;lia) | (show X.A.units+1+1+9<cLine;lia)) a3 b3 a4 b4 c
  have kp:=kk h3 g4;have pl1:pm.length=its.length:=by rw[g1.length_eq,qO]
  have mem:∀i∈pm,i<its.length:=λi hi=>fZ.mp (g1.mem_iff.mp hi);have hv:am (pm.map λi=>vs.getD i (V.int 0)) (pm.map λi=>its.getD i fF):=by
   clear g1 g2 g3 pl1
   induction pm with
   | nil=>exact .nil
   | cons i pm ih =>
    obtain⟨p1,v1,_,a2,_,a4,_⟩:=at_ i (mem i (cF ..));exact .cons (by show RelV (vs.getD i (V.int 0)) _;rw[cE,a2];exact a4) (ih λj hj=>mem j (aO _ hj))
  have hr2:af X.K H1 ((pm.map λi=>ps.getD i (0,[])).map li) (pm.map λi=>vs.getD i (V.int 0)):=by
   clear g1 g2 g3 pl1 hv
   induction pm with
   | nil=>exact .nil
   | cons i pm ih =>
    obtain⟨p1,v1,a1,a2,a3,_,_⟩:=at_ i (mem i (cF ..));exact .cons (by show b_ X.K H1 (li (ps.getD i (0,[]))) (vs.getD i (V.int 0));rw[cE,cE,a1,a2];exact a3) (ih λj hj=>mem j (aO _ hj))
  have perm:(pm.map λi=>ps.getD i (0,[])).Perm ps:=by
   have:=g1.map λi=>ps.getD i (0,[])
   rwa [show its.length=ps.length by lia,range_getD] at this
  have srt:(pm.map λi=>ps.getD i (0,[])).Pairwise (λx y=>iR (pD y) (pD x)=false):=by
   have e:(pm.map λi=>(ps.map pD).getD i [])=(pm.map λi=>ps.getD i (0,[])).map pD:=by
    rw[dA];refine lY λi hi=>?_;obtain⟨p1,v1,a1,_,_,_,a5⟩:=at_ i (mem i hi);rw[a5];show pD p1=pD (ps.getD i (0,[]));rw[cE,a1];rfl
   rw[e,lN] at g3;exact g3
  have I4:=I1.laid (a:=h1.objs.size) (o:=.lst (pm.map λi=>vs.getD i (V.int 0))) (h':=h3) (t':=s1.toks) kp big ⟨by rw[aS,fQ];lia,_,c,hv,g2⟩;exact⟨_,rfl,aK ⟨_,rfl,.ref h1.objs.size,_,I4,rfl,kq _ _ _ H1 (hP _ perm srt) jz (I1.hok.fresh big) hr2⟩⟩
end
end
section
open PySem PySem.Spec PyProof.Rows L2
abbrev FM:=List (List Int)->List D->List D->(List Int->D->Prop)->Prop
def rMut (i:Nat) (F:FM) (t:RA):RS:=λE a=>match a[i]? with
 | some (some (.dt ks xs))=>t a λds=>Sz (ks.length+1)/\F ks xs ds λkk d=>E.nx (a.set i (some (.dt (Ya ks kk) (Zm ks xs kk d))))
 | _=>False
section
variable {te tk tf:RE} {a:Addr} {ks:List (List Int)} {xs:List D}
def rRGet (i:Nat) (a:Addr) (ks:List (List Int)) (xs:List D) (tk tf:RE):RE:=λb Q=>b[i]? = some (some (.raw (.ref a)))/\tk b λkd=>tf b λz=>∃kk:List Int,kd = .tup (kk.map .int)/\Q ((YJ ks xs kk).getD z)
end
abbrev RM:=(List Int->D->Prop)->En->Prop
def rSeqM (t:RS) (u:RM):RM:=λP a=>t { nx:=u P,rt:=λ_=>False } a
def rPutM (i:Nat) (a:Addr) (tk te:RE):RM:=λP b=>b[i]? = some (some (.raw (.ref a)))/\te b λd=>tk b λkd=>∃kk:List Int,kd = .tup (kk.map .int)/\P kk d
def Np (t:RA):RS:=λE a=>t a λxs=>E.rt (.lst xs)
end
section
open PySem PySem.Spec PySem.W PyProof.Rows L2
end
section
open PySem PySem.Spec PyProof.Rows L2
abbrev pr2 (p:Int × Int):D:=.tup [.int p.1,.int p.2]
def C1 (j:Nat) (te:RE):RA:=λa Q=>te a λx=>∃(B:Int) (fs:List (Int × Int)),a[j]? = some (some (.d (.int B)))/\x = .lst (fs.map pr2)/\fs.length<64/\(∀f∈fs,pj B f.2/\MulOk f.1 (B.fdiv f.2)) /\
 ∀gs:List (Int × Int),gs.Perm fs->gs.Pairwise (λp q=>p.1*B.fdiv p.2<=q.1*B.fdiv q.2)->Q (gs.map pr2)
section
variable {P:bR} {w:cT} {K:aI} {mg:Str->Option aB} {base:Heap} {x:Str} {st:Stmt} {N ps:List Str} {k:Nat} {F:FD} {t:RS}
theorem ai.mkD (Z:ai K mg x st ps) (pure:∀ds Q,F ds Q->t { nx:=λ_=>Q .non,rt:=Q } (dR N ds))
  (fc:∀{f:Addr} {cdv:aB} {A:cZ} {outer:List Env} {s:aG} {H:Hp} {E:XK},N.Nodup->ce k (A.deeper (envOfC x (fB st) s.heap.objs.size f cdv)) ->
   om (yK iz P w K mg base N x (fB st) f cdv A outer s H E).nox (pR st) t)
  (Sc:dz N ps (fB st):=by exact⟨rfl,rfl,rfl,by decide +kernel,rfl,by decide +kernel,by decide +kernel⟩) (len:∀ds Q,F ds Q->ds.length=ps.length:=by walk_at "len"):FnAt P w K mg base x ps (k+1) F :=
 Z.ok Sc (λ_ _ _ _ _ _=>fc Sc.nd) len pure
theorem def_mk {kV doc pm cdv ct:aB} (X:K.In h) (G:h.Ns mainGlobals mg) (a:tF K mainGlobals x=some (some (.ref f)))
  (l:K.lookup f=some ⟨oc,od,.func (oI x x (HJ st) (pR st) (fB st) .none kV doc pm an cdv ct),rh⟩) (c:uF K cdv x=true) (k:kT K (.ref f)=true)
  (b:∀us:List aB,us.length=ps.length->bindArgs (oI x x (HJ st) (pR st) (fB st) .none kV doc pm an cdv ct) ⟨us,[]⟩=pure (ps.zip us)):ai K mg x st ps :=
 ⟨_,_,Uw (st:=st) l c k,PySem.W.mg_of X G a,b⟩
end
section
variable {X:Cx} {k n:Nat} {ps:List Str} {F:FD} {x:Str} {p pos:Pos} {e:Expr} {es:List Expr} {t:RA}
theorem bU (C:FnAt X.prog X.w X.K X.mg X.base x ps k F) (hr:ce n X.A) (ha:DA X (e::es) t) (hk:k<=n:=by decide) (hg:Gl X x:=by rfl)
  (kw:(x == ("__debug__":Str))=false:=by decide) (he:starEach (e::es) X.env=(false,eval e X.env)::starEach es X.env:=by rfl) (h8:(backTo pos (starEach es X.env)).any (·.1)=false:=by rfl) :
  DE X (.Call (.Name x p) (e::es) [] pos) (cO F t):=Km C (hr.mono hk) ha hg kw he h8
theorem bP:DB X (.Constant (.int i) j pos) (rC (.int i)):=DE.bor iQ
theorem eb {t:RE} (h:DE X e t):DB X e t:=DE.bor h
end
abbrev ai.W {K:aI} {mg:Str->Option aB} {x:Str} {st:Stmt} {ps:List Str} (_:ai K mg x st ps) (P:bR) (w:cT) (base:Heap) (k:Nat) (F:FD):Prop:=FnAt P w K mg base x ps k F
section
variable {X:Cx} {x:Str} {p q r pos:Pos} {c:Int} {j:Nat}
theorem df (i:Nat) (hN:X.N[i]? = some x:=by rfl) (hv:kn X.env.scope x:=by walk_at "vis") (hd:(x == ("__debug__":Str))=false:=by decide) (g_:(x == ("__classdict__":Str))=false:=by decide) :
  DE X (.Subscript (.Name x p) (.Constant (.int c) j q) r) (r2 ca (aM i) (rC (.int c))):=jZ (ah i hN hv hd g_) bP
theorem az (i:Nat) (hN:X.N[i]? = some x:=by rfl) (hv:kn X.env.scope x:=by walk_at "vis") (hd:(x == ("__debug__":Str))=false:=by decide) (g_:(x == ("__classdict__":Str))=false:=by decide) :
  DB X (.Subscript (.Name x p) (.Constant (.int c) j q) r) (r2 ca (aM i) (rC (.int c))):=eb (df i hN hv hd g_)
theorem av (ho:jn X (binaryOp o) f) (ha:DB X a ta) (hb:DB X b tb):DB X (.BinOp a o b pos) (r2 f ta tb):=eb (dP ho ha hb)
theorem cu (h:DE X e te):om X [.Return (some e) pos] (fI te):=fT (VQ h)
end
mutual
inductive j4 (G H:Hp):D->V->Prop
 | non {v:V}:j4 G H .non v
 | bl {b:Bool} {v:V}:j4 G H (.bl b) v
 | int {i:Int} {v:V}:j4 G H (.int i) v
 | str {x:Str} {v:V}:j4 G H (.str x) v
 | tup {a:Addr} {vs:List V} {ds:List D} (h:H a=some (.tup vs)) (r:gy G H ds vs):j4 G H (.tup ds) (.ref a)
 | lst {a:Addr} {o:Obj} {vs:List V} {ds:List D} (h:H a=some (.frz o (.lst vs))) (g:G a=none):j4 G H (.lst ds) (.ref a)
inductive gy (G H:Hp):List D->List V->Prop
 | nil:gy G H [] []
 | cons {d:D} {v:V} {ds:List D} {vs:List V} (h:j4 G H d v) (t:gy G H ds vs):gy G H (d::ds) (v::vs)
end
inductive je:D->Prop
 | non:je .non
 | bl {b:Bool}:je (.bl b)
 | int {i:Int}:je (.int i)
 | str {x:Str}:je (.str x)
 | nil:je (.tup [])
 | cons {d:D} {ds:List D} (h:je d) (t:je (.tup ds)):je (.tup (d::ds))
section
variable {K:aI} {G H H':Hp}
mutual
theorem j4.keep (k:∀b xs,H b=some (.tup xs)->H' b=some (.tup xs)) (f:∀b o u,H b=some (.frz o (.lst u))->∃o' u',H' b=some (.frz o' (.lst u'))):∀{d:D} {v:V},j4 G H d v->j4 G H' d v
 | _,_,.non=>.non
 | _,_,.bl=>.bl
 | _,_,.int=>.int
 | _,_,.str=>.str
 | _,_,.tup h r=>.tup (k _ _ h) (gy.keep k f r)
 | _,_,.lst h g=>let ⟨_,_,e⟩:=f _ _ _ h;.lst e g
theorem gy.keep (k:∀b xs,H b=some (.tup xs)->H' b=some (.tup xs)) (f:∀b o u,H b=some (.frz o (.lst u))->∃o' u',H' b=some (.frz o' (.lst u'))):∀{ds:List D} {vs:List V},gy G H ds vs->gy G H' ds vs
 | _,_,.nil=>.nil
 | _,_,.cons h t=>.cons (j4.keep k f h) (gy.keep k f t)
end
theorem j4.kp (k:ag H H') (s:j4 G H d v):j4 G H' d v:=s.keep k.tups λb o u h=>⟨o,u,k.frzs b o _ h⟩
theorem gy.kp (k:ag H H') (s:gy G H d v):gy G H' d v:=s.keep k.tups λb o u h=>⟨o,u,k.frzs b o _ h⟩
theorem je.spn {d:D} (n:je d):∀{v:V},b_ K H d v->j4 G H d v:=by
 have key:∀{d:D},je d->(∀{v:V},b_ K H d v->j4 G H d v)/\∀{ds:List D} {vs:List V},d = .tup ds->af K H ds vs->gy G H ds vs:=by
  intro d n
  induction n with
  | non=>exact⟨λ_=>.non,λe=>by cases e⟩
  | bl=>exact⟨λ_=>.bl,λe=>by cases e⟩
  | int=>exact⟨λ_=>.int,λe=>by cases e⟩
  | str=>exact⟨λ_=>.str,λe=>by cases e⟩
  | nil =>
   have q:∀{ds:List D} {vs:List V},D.tup [] = .tup ds->af K H ds vs->gy G H ds vs:=λe r=>(by cases e;cases r;exact .nil);exact⟨λr=>by cases r with | tup h r=>exact .tup h (q rfl r),q⟩
  | @cons d ds h t zd ze =>
   have q:∀{es:List D} {vs:List V},D.tup (d::ds) = .tup es->af K H es vs->gy G H es vs:=λe r=>by
    cases e;cases r with
    | cons r1 r2=>exact .cons (zd.1 r1) (ze.2 rfl r2)
   exact⟨λr=>by cases r with | tup h r=>exact .tup h (q rfl r),q⟩
 intro v r;exact (key n).1 r
end
def Q4 (d:D):aI->Hp->Hp->V->Prop:=λ_ H₀ H v=>j4 H₀ H d v
def Mp (G:Hp) (d:D):aI->Hp->Hp->V->Prop:=λK _ H v=>b_ K G d v/\ag G H
def Xb (G:Hp) (d:D):aI->Hp->Hp->V->Prop:=λ_ H₀ H v=>ae H₀ G/\j4 G H d v
def Za (X:Cx) (t:RE):TE:=λZ H Q=>∃a P,ao X a Z H/\t a P/\∀d v H',P d->ae H H'->b_ X.K H' d v->j4 X.H₀ H' d v->Q v H'
def DN (X:Cx) (e:Expr) (t:RE):Prop:=PE X e (Za X t)
def Vo (X:Cx) (t:RA):TA:=λZ H Q=>∃a P,ao X a Z H/\t a P/\∀ds vs H',P ds->ae H H'->af X.K H' ds vs->gy X.H₀ H' ds vs->Q vs H'
def Cb (X:Cx) (es:List Expr) (t:RA):Prop:=PA X es (Vo X t)
def Dp (t:RE):RE:=λa Q=>t a λd=>je d/\Q d
def xf (i:Nat):RE:=λa Q=>match a[i]? with
 | some (some (.mem true d R))=>R=Q4 d/\Q d
 | _=>False
def Ci (i:Nat) (a:En):En:=match a[i]? with
 | some (some (.own ds))=>a.set i (some (.mem true (.lst ds) (Q4 (.lst ds))))
 | _=>a
section
variable {X:Cx} {pos:Pos}
theorem Sv (h:DE X e te):DN X e (Dp te):=PE.mono h λZ H Q hh=>iM hh λa P st q k=>⟨a,_,st,q,λd v H' p s r=>k d v H' p.2 s r (p.1.spn r)⟩
theorem Yk (i:Nat) {x:Str} (hN:X.N[i]? = some x:=by rfl) (hv:kn X.env.scope x:=by walk_at "vis") (hd:(x == ("__debug__":Str))=false:=by decide)
  (g_:(x == ("__classdict__":Str))=false:=by decide):DN X (.Name x pos) (xf i):=by
 refine PE.mono (pv i hN hv hd g_) λZ H Q hh=>iM hh λa P st q k=>?_;unfold xf at q;split at q
 ·rename_i d R e;obtain⟨v,h1,h2⟩:=st.rel i _ e;obtain⟨rfl,q⟩:=q;exact⟨v,h1,k d v H q (ae.refl H) (h2.1 rfl) (h2.2 H (ag.refl H))⟩
 ·exact q.elim
theorem Po:Cb X [] aZ:=PA.mono FZ λZ H Q hh=>iM hh λa P st q k=>k [] [] H q (ae.refl H) .nil .nil
theorem OT (ha:DN X e te) (hr:Cb X es t) (hs:starEach (e::es) X.env=(false,eval e X.env)::starEach es X.env:=by rfl):Cb X (e::es) (aC te t) :=
 PA.mono (tI ha hr hs) λZ H Q hh=>iM hh λa P st q k=>⟨a,_,st,q,λd v H1 hd s1 r1 p1=>⟨a,_,st.ext s1,hd,λds vs H2 o_ s2 r2 p2=>k (d::ds) (v::vs) H2 o_ (s1.trans s2) (.cons (r1.keep (.of s2)) r2) (.cons (p1.kp (.of s2)) p2)⟩⟩
theorem Um {x1} (h:Cb X es t):DN X (.Tuple es x1 pos) (jW t) :=
 PE.mono (Mz h) λZ H Q hh=>iM hh λa P st q k=>⟨a,_,st,q,λds vs H1 hd s1 r p1=>⟨by rw[<-r.length];exact hd.1.ok,λp hp=>by
  have sm:ae H1 (au H1 p (.tup vs)):=ae.fn λb u e=>by rw[cH (dG e hp)];exact e
  exact k (.tup ds) (.ref p) _ hd.2 (s1.trans sm) (.tup eB (r.keep (.of sm))) (.tup eB (p1.kp (.of sm)))⟩⟩
end
def JX (X:Cx) (t:RS):TS:=λDe Z H=>∃a E,ao X a Z H/\t E a/\(∀a,¬E.nx a)/\∀d v H',E.rt d->ae X.H₀ H'->b_ X.K H' d v->j4 X.H₀ H' d v->De.rt v H'
section
variable {X:Cx} {st:Stmt} {rest tv:List Stmt} {t u:RS}
theorem JR (h1:DS X st t) (h2:fk X rest (JX X u)):fk X (st::rest) (JX X (BU t u)) :=
 fk.mono (uQ h1 h2) λDe Z H ⟨a,E,so,q,n,r⟩=>⟨a,_,so,q,λa' Z' H' hq k s'=>⟨a',E,s',hq,n,r⟩,λ_ _ _ z=>z.elim,λ_ _ _ z=>z.elim,λ_ _ _ z=>z.elim⟩
theorem Ky (h:DN X e te):fk X [.Return (some e) pos] (JX X (fI te)) :=
 fk.mono (MV (Cz h)) λDe Z H ⟨a,E,so,q,n,r⟩=>⟨a,_,so,q,λd v H' hd s' rr p=>r d v H' hd (so.same.trans s') rr p⟩
theorem Pu (i:Nat) (h:fk X tv (JX X t)):fk X tv (JX X (λE c=>t E (Ci i c))):=by
 intro pins s Z H De I ⟨c,E,so,q,n,r⟩;have q:t E (Ci i c):=q;unfold Ci at q;split at q
 ·rename_i ds ex;obtain⟨v,h1,p,vs,rfl,hp,h0,rr⟩:=so.rel i _ ex;obtain⟨o,I2⟩:=Inv.freeze I hp;have kp:ag H (au H p (.frz o (.lst vs))):=ag.chg1 hp (.inl ⟨_,rfl⟩);have rep:b_ X.K (au H p (.frz o (.lst vs))) (.lst ds) (.ref p):=.lst (.inl ⟨o,eB⟩) (rr.keep kp);obtain⟨gg,k2⟩:=so.updW (x':=.mem true (.lst ds) (Q4 (.lst ds))) (v':=.ref p) ex h1 (H':=au H p (.frz o (.lst vs))) (λb o h w=>by rw[cH (by rintro rfl;exact w rfl)];exact h)
   ⟨λ_=>rep,λH2 k=>.lst (k.frzs _ _ _ eB) h0⟩ λa o=>o.elim
  rw[lQ h1] at gg;exact h pins s Z _ De I2 ⟨_,E,gg,q,n,r⟩
 ·exact h pins s Z H De I ⟨c,E,so,q,n,r⟩
end
def spN (K:aI) (F:FD):Sp:=λvs H Q _=>fo K H/\∃ds P,af K H ds vs/\F ds P/\∀d v H1,P d->ae H H1->b_ K H1 d v->j4 H H1 d v->Q v H1
structure pw (P:bR) (w:cT) (K:aI) (mg:Str->Option aB) (base:Heap) (x:Str) (ps:List Str) (k:Nat) (F:FD):Prop where
 ex:∃f fd,gu P w K mg base iz k f fd ps (spN K F)/\Binds K fd ps []/\kT K (.ref f)=true/\mg x=some (.ref f)
section
variable {P:bR} {w:cT} {K:aI} {mg:Str->Option aB} {base:Heap} {x:Str} {st:Stmt} {N ps:List Str} {k:Nat} {F:FD} {t:RS}
theorem ai.mkN (Z:ai K mg x st ps) (len:∀ds Q,F ds Q->ds.length=ps.length) (pure:∀ds Q,F ds Q->t { nx:=λ_=>False,rt:=Q } (dR N ds))
  (fc:∀{f:Addr} {cdv:aB} {A:cZ} {outer:List Env} {s:aG} {H:Hp} {E:XK},N.Nodup->ce k (A.deeper (envOfC x (fB st) s.heap.objs.size f cdv)) ->
   fk (yK iz P w K mg base N x (fB st) f cdv A outer s H E).nox (pR st) (JX (yK iz P w K mg base N x (fB st) f cdv A outer s H E).nox t))
  (Sc:dz N ps (fB st):=by exact⟨rfl,rfl,rfl,by decide +kernel,rfl,by decide +kernel,by decide +kernel⟩):pw P w K mg base x ps (k+1) F:=by
 obtain⟨f,fd,a,b,c⟩:=Z.ex;refine⟨f,fd,?_,.all c,a.kp,b⟩;refine a.ok Sc (λvs H Q E ⟨_,ds,P',r,h,_⟩=>by rw[<-r.length];exact len ds P' h) λcdv A outer s H vs Q E hr ⟨tb,ds,P',r,h,kk⟩=>⟨_,fc (cdv:=cdv) (A:=A) (outer:=outer) (s:=s) (H:=H) (E:=E) Sc.nd hr,?_⟩;exact⟨dR N ds,_,IU (X:=(yK iz P w K mg base N x (fB st) f cdv A outer s H E).nox) tb r,pure ds P' h,λ_ z=>z,λd v H' hq sm rr sp=>kk d v H' hq sm rr sp⟩
def JY (X:Cx) (t:RS):TS:=λDe Z H=>∃a E,ao X a Z H/\t E a/\(∀a,¬E.nx a)/\(∀a,¬E.bk a)/\(∀a,¬E.ct a)/\∀d v H',E.rt d->ae X.H₀ H'->b_ X.K H' d v->De.rt v H'
theorem Qw {qual:Str} {f:Addr} {fd:lZ} (Fu:tx K x qual st f fd) (len:∀ds Q,F ds Q->ds.length=ps.length) (pure:∀ds Q,F ds Q->t { nx:=λ_=>False,rt:=Q } (dR N ds))
  (fc:∀{cdv:aB} {A:cZ} {outer:List Env} {s:aG} {H:Hp} {E:XK},N.Nodup->ce k (A.deeper (envOfC qual (fB st) s.heap.objs.size f cdv)) ->
   fk (yK iz P w K mg base N qual (fB st) f cdv A outer s H E).nox (pR st) (JY (yK iz P w K mg base N qual (fB st) f cdv A outer s H E).nox t))
  (Sc:dz N ps (fB st):=by exact⟨rfl,rfl,rfl,by decide +kernel,rfl,by decide +kernel,by decide +kernel⟩):gu P w K mg base iz (k+1) f fd ps (rl K F):=by
 refine Fu.ok Sc (λvs H Q E ⟨_,ds,P,r,h,_⟩=>by rw[<-r.length];exact len ds P h) λcdv A outer s H vs Q E hr ⟨tb,ds,P',r,h,kk⟩=>⟨_,fc (cdv:=cdv) (A:=A) (outer:=outer) (s:=s) (H:=H) (E:=E) Sc.nd hr,?_⟩;exact⟨dR N ds,_,IU (X:=(yK iz P w K mg base N qual (fB st) f cdv A outer s H E).nox) tb r,pure ds P' h,λ_ z=>z,λ_ z=>z,λ_ z=>z,λd v H' hq sm rv=>kk d v H' hq sm rv⟩
end
def vJ (t u:RS):RS:=λE a=>t { nx:=u E,rt:=E.rt } a
section
variable {X:Cx} {st:Stmt} {rest tv:List Stmt} {t u:RS}
theorem tL (h1:DS X st t) (h2:fk X rest (JY X u)):fk X (st::rest) (JY X (vJ t u)) :=
 fk.mono (uQ h1 h2) λDe Z H ⟨a,E,so,q,n,b,c,r⟩=>⟨a,_,so,q,λa' Z' H' hq k s'=>⟨a',E,s',hq,n,b,c,r⟩,λd v H' hd k s' rr=>r d v H' hd s' rr,λ_ _ _ z=>z.elim,λ_ _ _ z=>z.elim⟩
theorem Pw (h:om X tv t):fk X tv (JY X t) :=
 fk.mono h λDe Z H ⟨a,E,so,q,n,b,c,r⟩=>⟨a,E,so,q,λa' _ _ z=>(n a' z).elim,λd v H' hd _ s' rr=>r d v H' hd s' rr,λa' _ _ z=>(b a' z).elim,λa' _ _ z=>(c a' z).elim⟩
end
def Re (G:Hp):Option S->Option S
 | some (.d x)=>some (.mem true x (Mp G x))
 | y=>y
def rSetN (j:Nat) (F:FD) (t:RA):RS:=λE a=>t a λds=>F ds λd=>∀G,E.nx ((a.map (Re G)).set j (some (.mem true d (Xb G d))))
def ao.old (so:ao X b Z H):ao X (b.map (Re H)) Z H:=by
 have back:∀(i:Nat) (x:S),(b.map (Re H))[i]? = some (some x)->(∃d,x = .mem true d (Mp H d)/\b[i]? = some (some (.d d)))\/b[i]? = some (some x):=λi x e=>by
  rw[bT] at e;cases q:b[i]? with
  | none=>rw[q] at e;cases e
  | some y =>
   rw[q] at e;cases y with
   | none=>cases e
   | some y =>
    cases y with
    | d d=>cases e;exact .inl ⟨d,rfl,rfl⟩
    | _=>cases e;exact .inr rfl
 refine⟨by rw[aS];exact so.len,so.same,λi x e=>?_,λi j x y v u a e1 e2 e3 e4 o1 o2=>?_,so.t0⟩
 ·rcases back i x e with ⟨d,rfl,e2⟩ | e2
  ·obtain⟨v,h1,h2⟩:=so.rel i _ e2;exact⟨v,h1,λ_=>h2,λH2 k=>⟨h2,k⟩⟩
  ·exact so.rel i x e2
 ·rcases back i x e1 with ⟨d,rfl,_⟩ | yf
  ·exact o1.elim
  ·rcases back j y e2 with ⟨d,rfl,_⟩ | ua
   ·exact o2.elim
   ·exact so.sep i j x y v u a yf ua e3 e4 o1 o2
def rClr (j:Nat) (Pt:D->Prop) (t:RS):RS:=λE a=>∃d b G a',a[j]? = some (some (.mem b d (Xb G d)))/\Pt d/\a'.length=a.length /\
 (∀i x,a'[i]? = some (some x)->(i=j/\x = .mem false d (Xb G d))\/∃y,x = .mem true y (Mp G y)/\a[i]? = some (some x))/\t E a'
def Pth1 (k:Int) (d:D):Prop:=∃ds xs,d = .tup ds/\ik ds k=some (.lst xs)
def dNeD:R22:=λx y Q=>match x,y with
 | .lst xs,.lst ys=>xs.length=ys.length/\match f_ (c4 8) xs ys with
  | some b=>Q (.bl !b)
  | none=>False
 | _,_=>False
def C8:R22:=λx y Q=>y = .lst [.int 1,.non]/\match x with
 | .int i=>Q (.bl !decide (i=1))
 | .non=>Q (.bl false)
 | _=>False
structure Row3 (r:List D × Int):Prop where
 o3:r.1[2]? = some (.int r.2)
 sz:Sz r.1.length
def C0 (te:RE):RA:=λa Q=>te a λx=>∃rs:List (List D × Int),x = .lst (rs.map λr=>D.tup r.1)/\rs.length<64/\(∀r∈rs,Row3 r)/\∀gs:List (List D × Int),gs.Perm rs->gs.Pairwise (λp q=>p.2<=q.2)->Q (gs.map λr=>D.tup r.1)
def rBIx (i:Nat) (tk:RE):RE:=λa Q=>match a[i]? with
 | some (some (.box false iy))=>tk a λkd=>match kd with
  | .int k=>∃(j:Nat) (ds:List D),(k=(j:Int)/\iy[j]? = some ds)/\Q (.lst ds)
  | _=>False
 | _=>False
end
section
open PySem PySem.Spec PySem.SetTable PyProof.Rows L2 PySem.W
theorem QI (hd:t.dummies = #[]) (h:Int):∀(fuel:Nat) (p:Probe) (m:Nat),NQ t p m->KP p m<fuel->∃j,IE t (λ_=>h+1) h fuel p=some (.empty j none)/\t.slot j = .empty
 | 0,_,_,_,h=>absurd h (lH _)
 | fuel+1,p,m,hi,hf=>by
  unfold IE;rcases slot_of hd p.j with e | ⟨i,e,ep⟩
  ·rw[e];dsimp only;rw[hi.1];exact⟨_,rfl,e⟩
  ·rw[e];dsimp only;obtain⟨m',gq,hl⟩:=LG hi (by rw[e];exact λx=>nomatch x);rw[if_neg (by rw[beq_iff_eq];lia)];exact QI hd h fuel _ m' gq (by lia)
def Hf {n:Nat} (T:cn t n) (h:Int):∃j,t.freeSlot h=some (j,false)/\t.slot j = .empty:=by
 obtain⟨m,h1,h2⟩:=UQ T h;obtain⟨j,e,k⟩:=QI T.dum h _ _ m h1 h2;refine⟨j,?_,k⟩;unfold SetTable.freeSlot probe;rw[e];rfl
def vi:aB->Int
 | .int k _=>k
 | _=>0
section
variable {prog:bR} {w:cT} {A:cZ} {s:aG}
structure i9 (prog:bR) (w:cT) (h:Heap) (S:Addr) (es:Array (Int × aB)):Prop where
 tab:∃ep t,h.get? S=some (jF es ep t)/\cn t es.size/\t.mask=7/\t.led = !jL w/\t.plain=true
 els:∀e∈es.toList,∃k tk,e=(hashInt k,.int k tk)/\0<=k/\k<4
 nd:(es.toList.map λe=>vi e.2).Nodup
theorem i9.few {h:Heap} {S:Addr} {es:Array (Int × aB)} (D:i9 prog w h S es) {l:List Int} (hl:l.Nodup) (hs:∀k∈l,0<=k/\k<4):l.length<=4:=by
 refine rZ l [0,1,2,3] hl λk hk=>?_;have:=hs k hk;simp only[aJ,cY,or_false];lia
theorem Dw {S:Addr} (D:i9 prog w s.heap S es) (k0:0<=k) (k4:k<4)
  (q:∀b h' tk' mo,i9 prog w h' S mo->(∀n,n∈mo.toList.map (λe=>vi e.2)↔n=k\/n∈es.toList.map λe=>vi e.2)->(∀b o,b≠S->s.heap.get? b=some o->h'.get? b=some o)->h'.objs.size=s.heap.objs.size->Q b { s with heap:=h',toks:=tk' }) :
  wpAny (model prog w) A (setAdd S (.int k tk)) Q E s:=by
 obtain⟨⟨ep,t,ho,T,m7,o4,h8⟩,els,nd⟩:=id D;unfold setAdd;refine fN (aA (LB ?_));unfold setAddHashed;refine fN ?_;unfold setAddHashedIn;have le4:es.size<=4:=by
  have:=D.few nd λn hn=>by
   obtain⟨e,he,rfl⟩:=bF.mp hn;obtain⟨k',_,rfl,h⟩:=els e he;exact h
  simpa using this
 refine aA (hV (s:={ s with toks:=s.toks+1 }) ho rfl T.fits ?_);dsimp only;have sc:∀e∈es.toList,e.2.scannable=true:=λe he=>by obtain⟨k',t',rfl,_⟩:=els e he;rfl
 have nb:byScan (.int k tk) es=true:=by
  unfold byScan;rw[show (oJ k tk).scannable=true from rfl,show decide (es.size<scanBound)=true from decide_eq_true (uC le4 (by decide))];simp only[RL];rw[Array.all_eq_true_iff_forall_mem];exact λe he=>sc e (gD.mpr he)
 rw[nb];simp only[if_true];unfold setAddByScan;have eo:ElemsOf (intKind prog w) es.toList:=λe he=>by
  obtain⟨k',t',rfl,_⟩:=els e he;exact⟨⟨k',by simp[intKind,nV],rfl⟩,rfl⟩
 refine aA (aA (RJ ?_));refine aA (wpAny_setScan_of (knd:=intKind prog w) (s:={ s with toks:=s.toks+1 }) (k:=k) (by simp[intKind,nV]) ho rfl T.fits eo ?_);cases hf:List.findIdx? (λe=>(intKind prog w).is k e.2) es.toList with
 | some j =>
  dsimp only;refine aK (aK ?_);refine q false s.heap _ es D (λn=>⟨.inr,λh=>?_⟩) (λb o _ e=>e) rfl;rcases h with rfl | h
  ·obtain⟨hj,hp,_⟩:=List.findIdx?_eq_some_iff_getElem.mp hf;refine bF.mpr ⟨_,oF hj,?_⟩;obtain⟨k',t',e,_⟩:=els _ (oF hj);rw[e] at hp ⊢;simpa [intKind,nV,vi] using hp
  ·exact h
 | none =>
  dsimp only;have nk:k ∉ es.toList.map λe=>vi e.2:=λh=>by
   obtain⟨e,he,ek⟩:=bF.mp h;have:=List.findIdx?_eq_none_iff.mp hf e he;obtain⟨k',t',rfl,_⟩:=els e he;simp[intKind,nV,vi] at this ek;exact this ek
  have le3:es.size<=3:=by
   have:=D.few (l:=k::es.toList.map λe=>vi e.2) (eS.mpr ⟨nk,nd⟩) λn hn=>by
    rcases aJ.mp hn with rfl | hn
    ·exact⟨k0,k4⟩
    ·obtain⟨e,he,rfl⟩:=bF.mp hn;obtain⟨k',_,rfl,h⟩:=els e he;exact h
   simp at this;lia
  obtain⟨j,ej,hj⟩:=Hf T (hashInt k);obtain⟨T1,p1,p2,p3,p4,p5,p6⟩:=Nk T hj (by lia);have sz:=wF es (below t.place j) (hashInt k,oJ k tk) p2;have mem:=yO es (below t.place j) (hashInt k,oJ k tk) p2;have jr:=sJ es (below t.place j) (hashInt k,oJ k tk);rw[qI] at jr;have jr:=jr.trans (rL (l₁:=es.toList) (l₂:=[_]));have ln:layNew t es (hashInt k) (.int k tk)=(insertAt es (below t.place j) (hashInt k,.int k tk),(t.put j).1,false,false):=by
   unfold layNew;rw[ej];dsimp only;rw[p1,sz];have:(t.put j).1.fits (es.size+1)=true:=T1.fits;unfold SetTable.orStandIn;rw[this];rfl
  rw[ln];dsimp only;rw[p5,h8];have hT1:(t.put j).1.tooFull=false:=by
   unfold tooFull SetTable.fill;rw[T1.size,T1.dum,p3,m7];simp;lia
  simp only[if_true];refine aA (oB (a:=()) rfl ?_);refine aA (oB (a:=true) rfl ?_);simp only[if_true,nQ,RL,hT1,aN,if_false];generalize insertAt es (below t.place j) (hashInt k,oJ k tk)=f9 at sz mem jr;refine aA (vR (s:={ s with toks:=s.toks+1 }) ho rfl ?_ (by rw[sz,fQ];lia));refine aK (aK ?_);obtain⟨qx,g1⟩:∃qx,(s.heap.update S (mP f9 (t.put j).1)).get? S=some (jF f9 qx (t.put j).1):=⟨_,fK _ ho rfl⟩;have pm:=jr.map λe=>vi e.2;refine q true _ _ f9 ⟨⟨qx,_,g1,by rw[sz];exact T1,by rw[p3];exact m7,by rw[p4];exact o4,by rw[p5];exact h8⟩,λe he=>?_,pm.nodup_iff.mpr (eS.mpr ⟨nk,nd⟩)⟩ (λn=>?_) (λb o hb e=>(cW _ _ (Ne.symm hb)).trans e) (lX ..).1
  ·rcases (mem e).mp he with rfl | he
   ·exact⟨k,tk,rfl,k0,k4⟩
   ·exact els e he
  ·rw[pm.mem_iff];exact aJ
theorem Fi:∀{vs:List aB} {ns:List Int},IntsAre vs ns->∀{i:Nat} {v:aB},vs[i]? = some v->∃n t,v = .int n t/\ns[i]? = some n
 | _,_,.cons n t h,0,v,e=>by cases e;exact⟨n,t,rfl,rfl⟩
 | _,_,.cons n t h,i+1,v,e=>Fi h (i:=i) (by simpa using e)
structure fb (prog:bR) (w:cT) (ns:List Int) (S:Addr) (i:Nat) (h:Heap):Prop where
 ex:∃es,i9 prog w h S es/\∀n,n∈es.toList.map (λe=>vi e.2)↔n∈ns.take i
theorem fb.other {S:Addr} (D:fb prog w ns S i h) (up:∀o,h.get? S=some o->h'.get? S=some o):fb prog w ns S i h':=by
 obtain⟨es,⟨⟨ep,t,ho,r⟩,els,nd⟩,k⟩:=D;exact⟨es,⟨⟨ep,t,up _ ho,r⟩,els,nd⟩,k⟩
theorem Jb {R:Result->aG->Prop} {I l:Addr} {items:Array aB} {ns:List Int} {h0:Heap} (hh:A.in1.handled=none) (gz:l≠I) (S:Addr) (sf:S≠I) (R4:S≠l) (hi:IntsAre items.toList ns) (hr:∀n∈ns,0<=n/\n<4) :
  ∀(k i:Nat) (s:aG),items.size-i=k->i<=items.size->s.heap.IsListIter I l i/\s.heap.IsList l items->fb prog w ns S i s.heap ->
   (∀b o,b≠S->b≠I->h0.get? b=some o->s.heap.get? b=some o) ->
   (∀h' tk,fb prog w ns S items.size h'->(∀b o,b≠S->b≠I->h0.get? b=some o->h'.get? b=some o)->R (.ok (.ret .none)) { s with heap:=h',toks:=tk }) ->
   codeAny (model prog w) A (.builtin "set.update.loop" ⟨[.ref S,.ref I],[]⟩) R s:=by
 have W:=NW (prog:=prog) (w:=w) (A:=A.in1) hh I l gz items;have wr:∀{b:Addr},b≠I->b ∉ [I]:=λh=>by simpa using h
 intro k
 induction k with
 | zero =>
  intro i s hk gq st D up hR;have S5:i=items.size:=by lia
  subst S5;refine fO F.entry_set_update_loop ?_;rw[eU F.plain_set_update_loop _];show wpAny _ A.in1 (pyNext (.ref I) >>= _) _ _ s;refine aA (W.done s _ _ st λh' tk kp=>?_);show wpAny _ A.in1 (ret fF) _ _ _;exact aK (hR h' tk (D.other λo e=>kp S o (wr sf) e) λb o n1 n2 e=>kp b o (wr n2) (up b o n1 n2 e))
 | succ k ih =>
  intro i s hk gq st D up hR;have c9:i<items.size:=by lia
  refine fO F.entry_set_update_loop ?_;rw[eU F.plain_set_update_loop _];show wpAny _ A.in1 (pyNext (.ref I) >>= _) _ _ s;refine aA (W.item i s _ _ c9 st λv h' tk hv du kp=>?_);obtain⟨n,t,rfl,en⟩:=Fi hi (by rw[hZ];exact hv);obtain⟨es,D1,d1⟩:=D.other λo e=>kp S o (wr sf) e;have O5:∀b o,b≠S->b≠I->h0.get? b=some o->h'.get? b=some o:=λb o n1 n2 e=>kp b o (wr n2) (up b o n1 n2 e);show wpAny _ A.in1 (holding [oJ n t] (setAdd S (.int n t)) >>= _) _ _ _;refine aA (fN ?_);obtain⟨n0,n4⟩:=hr n (dM en);refine Dw (s:={ s with heap:=h',toks:=tk }) D1 n0 n4 λ_ h2 tk2 qd D2 m1 jm z2=>?_;refine aK ⟨iU F.plain_set_update_loop _,ih (i+1) _ (by lia) c9 ⟨du.1.at λo e=>jm _ o (Ne.symm sf) e,du.2.at λo e=>jm _ o (Ne.symm R4) e⟩ ⟨qd,D2,λm=>?_⟩ (λb o n1 n2 e=>jm b o n1 (O5 b o n1 n2 e)) λh3 X8 D3 g7=>hR h3 X8 D3 g7⟩;rw[m1,d1,kP,en,cC];simp only[Option.toList_some,cR];exact Or.comm
theorem RZ (hh:A.handled=none) (hl:s.heap.IsList l items) (hi:IntsAre items.toList ns) (hr:∀n∈ns,0<=n/\n<4)
  (q:∀h' tk,fb prog w ns s.heap.objs.size items.size h'->(∀b o,s.heap.get? b=some o->h'.get? b=some o)->Q (.ref s.heap.objs.size) { s with heap:=h',toks:=tk }) :
  wpAny (model prog w) A (call (.type "set") [.ref l]) Q E s:=by
 obtain⟨c,tl,T4⟩:=PySem.F.called_set.mro;have y7:=PySem.F.called_set.made;have zb:=PySem.F.called_set.sub;apply RF;apply zJ;show wpAny _ _ (callAny (.type "set") _) _ _ _;refine aK ⟨FG _ (by decide +kernel),fO wR ?_⟩;rw[FA (AF "set" [.ref l] []) rfl];have h1:=PySem.F.called_set.notType;have h2:=PySem.F.called_set.canCreate;have hct:=yE (.ref l)
 repeat (any_goals (first | assumption | wp_step))
 refine oK (LW (.ref l) (E:=E) (Q₁:=λobj s₁=>obj = .ref s.heap.objs.size/\s₁ = { s with heap:=s.heap.push (jF #[] 0 (.fresh 0 0 (!jL w))) }) ⟨rfl,rfl⟩) λr s₁ hr₁=>?_
 match r,hr₁ with
 | .error e,hr₁=>exact hr₁
 | .ok (.ret obj),hr₁ =>
  obtain⟨rfl,rfl⟩:=hr₁;have hS:(s.heap.push (jF #[] 0 (.fresh 0 0 (!jL w)))).get? s.heap.objs.size=some (jF #[] 0 (.fresh 0 0 (!jL w))):=cL _ rfl;have zS:(s.heap.push (jF #[] 0 (.fresh 0 0 (!jL w)))).objs.size=s.heap.objs.size+1:=nR ..;have kS:∀b o,s.heap.get? b=some o->(s.heap.push (jF #[] 0 (.fresh 0 0 (!jL w)))).get? b=some o:=λb o e=>aP _ e;have hT:DY { s with heap:=s.heap.push (jF #[] 0 (.fresh 0 0 (!jL w))) } (.ref s.heap.objs.size) "set":=⟨_,hS,rfl⟩;have hli:=PySem.F.called_set.init.lookup;have hbi:=PySem.F.called_set.init.bind (.ref s.heap.objs.size)
  repeat (any_goals (first | assumption | wp_step))
  generalize s.heap.push (jF #[] 0 (.fresh 0 0 (!jL w)))=h2 at hS zS kS hT;refine oK (BG (R:=wants (λr s₂=>r = .none/\∃h' tk,s₂ = { s with heap:=h',toks:=tk }/\fb prog w ns s.heap.objs.size items.size h'/\(∀b o,s.heap.get? b=some o->h'.get? b=some o)) E) PySem.F.called_set.init.plain yB (JO hT ?_)) λr₂ s₂ hr₂=>?_
  ·obtain⟨ol,za,jq,nl,yt⟩:=hl;obtain⟨W9,zx,zw,v_⟩:=ol;simp only at jq yt;subst jq;subst yt;have vz:=kS _ _ za;have U1:=AZ;have U0:=uE;have gz:(gZ "list" == gZ "dict")=false:=(by decide);have w5:h2.IsList l items:=⟨_,vz,rfl,nl,rfl⟩;have lt:l<s.heap.objs.size:=aX za;unfold Builtin.«set.__init__» noKeywords sG;generalize Q_:pyIter=PI;unfold jF at hS
   wp_walk
   subst Q_;refine rD w5 ?_;apply aA;apply CK;rw[zS];have zI:(h2.push (EB l)).get? (s.heap.objs.size+1)=some (EB l):=(by rw[<-zS];exact cL _ rfl);have kI:∀b o,h2.get? b=some o->(h2.push (EB l)).get? b=some o:=λb o e=>aP _ e;show codeAny _ _ _ _ { s with heap:=h2.push (EB l) };generalize h2.push (EB l)=h3 at zI kI;have ne1:∀{b:Addr} {o:Obj},s.heap.get? b=some o->b≠s.heap.objs.size/\b≠s.heap.objs.size+1:=λe=>⟨bO (aX e),bO (gP (aX e))⟩;refine Jb (A:=A.in1.in1) (s:={ s with heap:=h3 }) (h0:=s.heap) (by simp[hh]) (bO (gP lt)) s.heap.objs.size (bO (kL _)) (kG lt) hi hr items.size 0 (tE _) (eV _) ⟨⟨_,zI,rfl,rfl⟩,w5.at λo e=>kI _ o e⟩ ?_ (λb o _ _ e=>kI b o (kS b o e)) λh' tk D up=>?_
   ·exact⟨#[],⟨⟨0,_,kI _ _ hS,US _,rfl,rfl,rfl⟩,(λe he=>by simp at he),.nil⟩,λn=>by simp⟩
   ·show wpAny _ _ _ _ _ _;apply aK;show wpAny _ _ (ret fF) _ _ _;exact aK ⟨rfl,h',tk,rfl,D,λb o e=>up b o (ne1 e).1 (ne1 e).2 e⟩
  ·match r₂,hr₂ with
   | .error e,hr₂=>exact hr₂
   | .ok (.ret r),hr₂ =>
    obtain⟨rfl,h',tk,rfl,D,up⟩:=hr₂
    repeat (any_goals (first | assumption | wp_step))
    exact q _ _ D up
theorem PH:∀{vs:List aB},(∀v∈vs,∃k t,v = .int k t)->IntsAre vs (vs.map vi)
 | [],_=>.nil
 | v::vs,h=>by
  obtain⟨k,t,rfl⟩:=h v (.head _);exact .cons k t (PH λv hv=>h v (.tail _ hv))
theorem JN {S:Addr} (hh:A.handled=none) (D:i9 prog w s.heap S es) (hz:es.size<=4)
  (q:∀h' a out ms c,s.heap.objs.size<=a->h'.get? a=some (seqObj "list" out c)->IntsAre out.toList ms->ms.Perm (es.toList.map λe=>vi e.2)->ms.Pairwise (·<=·)->(∀b o,s.heap.get? b=some o->h'.get? b=some o)->Q (.ref a) { s with heap:=h' }) :
  wpAny (model prog w) A (call (.builtin "sorted") [.ref S]) Q E s:=by
 obtain⟨⟨ep,t,ho,T,m7,hl,hp⟩,els,nd⟩:=D;have wp:=CZ (w:=w) S ep es;have wl:(gX w S ep es).toList.length=es.size:=by rw[wp.length_eq,cI]
 refine oU LM ID HL (HA _) ?_;unfold Builtin.«sorted»;refine aA (m:=checkCount "sorted" 1 1 _) (aK ?_);apply aA;refine LH (A:=A.in1) (by simp[hh]) ho T hl hp (by lia) λh1 k1 big=>?_;apply aA;refine sB ?_ (by rw[aS,wl,fQ];lia);show wpAny _ _ _ _ _ { s with heap:=h1.push (seqObj "list" (fV ((gX w S ep es).toList.map (·.2))) 0) };have hL:(h1.push (seqObj "list" (fV ((gX w S ep es).toList.map (·.2))) 0)).get? h1.objs.size=some (seqObj "list" (fV ((gX w S ep es).toList.map (·.2))) 0):=cL _ rfl;have k2:∀b o,s.heap.get? b=some o->(h1.push (seqObj "list" (fV ((gX w S ep es).toList.map (·.2))) 0)).get? b=some o:=λb o e=>aP _ (k1 b o e);generalize h1.push (seqObj "list" (fV ((gX w S ep es).toList.map (·.2))) 0)=h2 at hL k2;have II:IntsAre ((gX w S ep es).toList.map (·.2)) (((gX w S ep es).toList.map (·.2)).map vi):=PH λv hv=>by
  obtain⟨e,he,rfl⟩:=bF.mp hv;obtain⟨k,t',rfl,_⟩:=els e (wp.mem_iff.mp he);exact⟨k,t',rfl⟩
 refine aA (fN (kN slot_list_sort ⟨_,hL,rfl⟩ entry_list_sort (list_sort_tree (s:={ s with heap:=h2 }) hL II (by rw[aS,wl];lia) λout uo a1 a2 a3=>⟨_,rfl,?_⟩) (BE _)));obtain⟨c,g1⟩:=sortedHeap_at (vs:=(gX w S ep es).toList.map (·.2)) (out:=out) hL;refine aK ⟨_,rfl,q _ h1.objs.size out uo c big g1 a1 (a2.trans ?_) a3 λb o e=>?_⟩
 ·rw[dA];exact wp.map _
 ·have:=aX e;have hb:=k2 b o e;rw[sortedHeap_old (by intro z;simp only[Addr] at *;lia) (aX hb)];exact hb
end
def KU (te:RE):RA:=λa Q=>te a λx=>∃ns:List Int,x = .lst (ns.map .int)/\(∀n∈ns,0<=n/\n<4)/\∀ms:List Int,ms.Pairwise (· < ·)->(∀n,n∈ms↔n∈ns)->Q (ms.map .int)
section
variable {X:Cx} {e:Expr} {te:RE} {p pz pos gV:Pos}
theorem YG (vt:X.mg "sorted" = none) (y8:X.mg "set" = none) (hc:X.calm=true) (h:DB X e te) (vn:Gl X "sorted":=by rfl) (yv:Gl X "set":=by rfl)
  (hs:starEach [.Call (.Name "set" pz) [e] [] gV] X.env=[(false,eval (.Call (.Name "set" pz) [e] [] gV) X.env)]:=by rfl) (hn:starEach [] X.env=[]:=by rfl) (h1:starEach [e] X.env=[(false,eval e X.env)]:=by rfl) :
  DO X (.Call (.Name "sorted" p) [.Call (.Name "set" pz) [e] [] gV] [] pos) (KU te):=by
 intro pins s Z H Q I aw;obtain⟨f,P,st,q,kq⟩:=aw;refine fJ (pY I vn vt boot_sorted ?_);refine gU ?_ (by rw[hs,hn]) (by rw[hn];rfl);rw[hs];show wpAny _ _ (spliced ((false,eval (.Call (.Name "set" pz) [e] [] gV) X.env)::backTo pos [])) _ _ s;refine pU (fJ (pY I yv y8 boot_set ?_));refine eP (ci (qX h h1 hn gV pins s Z H (λvs H1=>∃(ns:List Int) (v:V),vs=[v]/\ae H H1/\c8 X.K H1 (.lst (ns.map .int)) v/\(∀n∈ns,0<=n/\n<4)/\∀ms:List Int,ms.Pairwise (· < ·)->(∀n,n∈ms↔n∈ns)->P (ms.map .int)) I
  ⟨f,_,st,q,λx v H1 hx s1 r1=>?_⟩) λus s1 ⟨vs,H1,I1,r1,q1⟩=>?_) (by rw[h1,hn]) (by rw[hn];rfl)
 ·obtain⟨ns,rfl,a1,a2⟩:=hx;exact⟨ns,v,rfl,s1,r1,a1,a2⟩
 obtain⟨ns,v,rfl,jz,rb,hr,hP⟩:=q1;obtain⟨l,vs,rfl,hq,rr⟩:=rb.lst;obtain⟨u,rfl,rx⟩:=vals1 r1;cases rx;obtain⟨its,rv,pl,hz⟩:=I1.list hq;have l2:=rv.length;rw[rr.ints_inv] at rv l2;rw[aS] at l2;refine RZ (I1.ok.hd hc) pl.isList (by simpa using intsAre_of rv) hr λh2 tk D up=>?_;refine qJ ?_;obtain⟨es,SI,d1⟩:=D;have hz4:es.size<=4:=by
  have:=SI.few SI.nd λn hn=>by
   obtain⟨e,he,rfl⟩:=bF.mp hn;obtain⟨k',_,rfl,h⟩:=SI.els e he;exact h
  simpa using this
 refine JN (s:={ s1 with heap:=h2,toks:=tk }) (A:=X.A) (I1.ok.hd hc) SI hz4 λh3 a out ms c big g1 g2 g3 g4 g7=>?_;have kp:∀b o,s1.heap.get? b=some o->h3.get? b=some o:=λb o e=>g7 b o (up b o e);have I3:Inv X pins Z H1 { s1 with heap:=h3,toks:=tk }:=I1.kept kp;have szS:s1.heap.objs.size<h2.objs.size:=by obtain⟨⟨ep,t,ho,_⟩,_⟩:=SI;exact aX ho
 have qa:s1.heap.objs.size<=a:=by have:h2.objs.size<=a:=big;lia
 have ue:H1 a=none:=I1.hok.fresh qa;have VV:=tQ g2;have lm:ms.length<=4:=by rw[g3.length_eq,aS];simpa using hz4
 have I4:=I1.trackO (a:=a) (w:=.lst (ms.map V.int)) I3 qa ue ⟨by rw[aS,fQ];lia,out.toList,c,VV,by simpa using g1⟩;have nd:ms.Nodup:=g3.nodup_iff.mpr SI.nd;refine⟨.ref a,_,I4,rfl,kq _ _ _ H1 (hP ms ?_ λn=>?_) jz ue af.ints⟩
 ·have:=List.pairwise_and_iff.mpr ⟨g4,nd⟩;exact this.imp λh=>by lia
 ·rw[g3.mem_iff,d1,kF];simp;lia
end
end
section
open PySem PySem.Spec PyProof.Rows L2
inductive iu (G H:Hp):List V->List Addr->Prop
 | nil:iu G H [] []
 | cons {p a:Addr} {x y:V} {o:Obj} {us vs:List V} {as:List Addr} (hp:H p=some (.tup [x,y,.ref a])) (ha:H a=some (.frz o (.lst us))) (g:G a=none) (t:iu G H vs as):iu G H (.ref p::vs) (a::as)
theorem iu.keep (k:ag H H'):∀{vs:List V} {as:List Addr},iu G H vs as->iu G H' vs as
 | _,_,.nil=>.nil
 | _,_,.cons hp ha g t=>.cons (k.tups _ _ hp) (k.frzs _ _ _ ha) g (t.keep k)
theorem iu.snoc (hp:H p=some (.tup [x,y,.ref a])) (ha:H a=some (.frz o (.lst us))) (g:G a=none):∀{vs:List V} {as:List Addr},iu G H vs as->iu G H (vs++[.ref p]) (as++[a])
 | _,_,.nil=>.cons hp ha g .nil
 | _,_,.cons h1 h2 h3 t=>.cons h1 h2 h3 (iu.snoc hp ha g t)
theorem iu.mem:∀{vs:List V} {as:List Addr},iu G H vs as->a∈as->H a≠none
 | _,_,.cons _ ha _ t,m=>by
  rcases aJ.mp m with rfl | m
  ·rw[ha];exact λz=>nomatch z
  ·exact t.mem m
def P4 (G H H':Hp) (v:V):Prop:=∃(p a:Addr) (x y:V) (o:Obj) (us:List V),v = .ref p/\H' p=some (.tup [x,y,.ref a])/\H' a=some (.frz o (.lst us))/\H a=none/\G a=none
def Ys (G:Hp):uv (P4 G) λH vs=>∃as,iu G H vs as/\as.Nodup:=by
 refine⟨λH=>⟨[],.nil,.nil⟩,λk ⟨as,f,n⟩=>⟨as,f.keep k,n⟩,?_⟩;rintro H H' vs v ⟨as,f,n⟩ s ⟨p,a,x,y,o,us,rfl,h1,h2,h3,h4⟩;refine⟨as++[a],(f.keep (.of s)).snoc h1 h2 h4,?_⟩;rw[jA];refine⟨n,by simp,λb hb c hc=>?_⟩;rw[cR] at hc;subst hc;rintro rfl;exact f.mem hb h3
def Dl (F:FD) (t:RA):RE:=λa Q=>t a λds=>F ds λd=>(∃d0 d1 xs,d = .tup [d0,d1,.lst xs])/\Q d
section
variable {X:Cx} {k n:Nat} {ps:List Str} {F:FD} {x:Str} {p cpos:Pos} {e:Expr} {es:List Expr} {t:RA}
theorem Mt (C:pw X.prog X.w X.K X.mg X.base x ps k F) (hr:ce n X.A) (ha:DA X (e::es) t) (qi:k<=n:=by decide) (hg:Gl X x:=by rfl)
  (kw:(x == ("__debug__":Str))=false:=by decide) (he:starEach (e::es) X.env=(false,eval e X.env)::starEach es X.env:=by rfl) (h8:(backTo cpos (starEach es X.env)).any (·.1)=false:=by rfl) :
  PE X (.Call (.Name x p) (e::es) [] cpos) (WG X (P4 X.H₀) (Dl F t)):=by
 obtain⟨f,fd,G,hb,hk,hm⟩:=C.ex;refine PE.mono (WU (E:=E0) G (hr.mono qi) hg hm hk hb .nil Mr ha kw he h8) λZ H Q hh=>iM hh λa P so q kk=>?_;refine⟨a,_,so,q,λds vs H1 hd s1 rr=>?_⟩;show spN X.K F (vs++[]) H1 _ E0;rw[dN];have ph:=so.ext s1;refine⟨ph.tabs,ds,_,rr,hd,λd v H2 hn s2 rp sp=>?_⟩;obtain⟨⟨d0,d1,xs,rfl⟩,hn⟩:=hn;refine kk _ v H2 hn (s1.trans s2) rp ?_;cases sp with
 | tup hp r =>
  cases r with
  | cons _ r=>cases r with
   | cons _ r=>cases r with
    | cons r3 r=>cases r with
     | nil=>cases r3 with
      | lst h3 g3=>exact⟨_,_,_,_,_,_,rfl,hp,h3,s1.free g3,ph.same.free g3⟩
end
theorem iu.base (g:∀a,G a=none->G' a=none):∀{vs:List V} {as:List Addr},iu G H vs as->iu G' H vs as
 | _,_,.nil=>.nil
 | _,_,.cons hp ha h t=>.cons hp ha (g _ h) (t.base g)
def lr (G H:Hp) (v:V):Prop:=∃(l:Addr) (o:Obj) (vs:List V) (as:List Addr),v = .ref l/\H l=some (.frz o (.lst vs))/\iu G H vs as/\as.Nodup/\l ∉ as
theorem lr.keep (k:ag H H'):lr G H v->lr G H' v
 | ⟨l,o,vs,as,e,h,f,n,m⟩=>⟨l,o,vs,as,e,k.frzs _ _ _ h,f.keep k,n,m⟩
section
variable {X:Cx} {scope:Scope} {elt target iter:Expr} {ifs:List Expr} {pos:Pos} {g:RG} {tt:RT} {te:RE} {ti:RA}
theorem Mu (N:List Str) (k:Nat) (ix:List Nat) (hi:DI X target iter ti) (hg:∀cl C s H fp,DG (lF X scope N cl C s H fp) target g) (vo:∀cl C s H fp,Ji (lF X scope N cl C s H fp) ifs tt)
  (he:∀cl C s H fp,PE (lF X scope N cl C s H fp) elt (WG (lF X scope N cl C s H fp) (P4 H) te))
  (hc:X.calm=true:=by rfl) (hB:OB X scope N k ix=true:=by rfl) (hs:∀x,foldedSetIterable iter X.env x=pure x:=by intro _;rfl) :
  PE X (.ListComp elt [⟨target,iter,ifs,0⟩] scope pos) (λZ H Q=>∃c P,ao X c Z H/\KR ti k ix g tt te c P/\∀ds v H',P ds->ae H H'->b_ X.K H' (.lst ds) v->lr X.H₀ H' v->Q v H'):=by
 intro pins s Z H Q I aw;obtain⟨c,P,so,q,kk⟩:=aw;have F:=OC hB;obtain⟨cl,md,jq,cg⟩:=FU (scope:=scope) (env:=X.env) λy hy hf=>I.ok.has _ (F.sc.frees y hy hf);rw[SG];refine pJ (use:=none) rfl hs md F.sc.kind F.sc.locs (ci (hi pins s Z H (λJ H'=>∃xs,ae H H'/\ou X J xs H'/\xs.length<=sizeLine/\nF g tt te xs (yJ c k ix) [] P) I ⟨c,_,so,q,λxs J H' hx s1 ok=>⟨xs,s1,ok,hx.1.ok,hx.2⟩⟩) λv s1 h1=>ci h1 λzf s2 h2=>?_);obtain⟨it,fp,tn,J,H',rfl,I2,T,st,hf,xs,jz,ok,hz,hD⟩:=h2;refine JP (RR:=λacc C=>compPost (model X.prog X.w) X.A X.xe none (EP X pins Z Q) acc C) hc F.sc jq cg F.hN rfl F.hix F.hiy F.hkind (hg cl) (vo cl) (Ys H') (λC fp=>he cl C s2 H' fp) I2 (so.ext jz) T st hf ok.s hz hD ?_;intro ds vs its n C s' H2 hP xh hn rr ⟨as,fr,nd⟩ rv hl e I' ⟨m,hns⟩ ga y9;refine⟨m,hns,λh' jx=>?_⟩;have I3:Inv X pins Z H2 { s' with heap:=h' }:=BI (t':=s'.toks) I2 I' (lO ga) y9 jx;have e3:h'.get? s2.heap.objs.size=some { cls:=.type "list",data:=.seq its.toArray n }:=(jx.2 _ (bO ga)).trans e;have I4:=I2.track I3 (bK _) hn e3 rv hl;obtain⟨o,I5⟩:=Inv.freeze I4 (a:=s2.heap.objs.size) (xs:=vs) eB;have o6:ae H2 (au (au H2 s2.heap.objs.size (.lst vs)) s2.heap.objs.size (.frz o (.lst vs))):=ae.fn λb u e=>by rw[cH (dG e hn),cH (dG e hn)];exact e
 refine⟨.ref s2.heap.objs.size,_,I5,rfl,kk ds _ _ hP ((jz.trans xh).trans o6) (.lst (.inl ⟨o,eB⟩) (rr.keep (.of o6))) ⟨_,o,vs,as,rfl,eB,?_,nd,λm=>fr.mem m hn⟩⟩;exact (fr.keep (.of o6)).base λa ha=>(so.ext jz).same.free ha
end
def JW (X:Cx) (t:RS):TS:=λDe Z H=>∃a E,ao X a Z H/\t E a/\(∀a,¬E.nx a)/\∀d v H',E.rt d->ae X.H₀ H'->b_ X.K H' d v->lr X.H₀ H' v->De.rt v H'
section
variable {X:Cx} {st:Stmt} {rest:List Stmt} {t u:RS}
theorem TQ (h1:DS X st t) (h2:fk X rest (JW X u)):fk X (st::rest) (JW X (BU t u)) :=
 fk.mono (uQ h1 h2) λDe Z H ⟨a,E,so,q,n,r⟩=>⟨a,_,so,q,λa' Z' H' hq k s'=>⟨a',E,s',hq,n,r⟩,λ_ _ _ z=>z.elim,λ_ _ _ z=>z.elim,λ_ _ _ z=>z.elim⟩
theorem Kx (h:PE X e (λZ H Q=>∃a P,ao X a Z H/\ta a P/\∀ds v H',P ds->ae H H'->b_ X.K H' (.lst ds) v->lr X.H₀ H' v->Q v H')):fk X [.Return (some e) pos] (JW X (Np ta)) :=
 fk.mono (MV (Cz h)) λDe Z H ⟨a,E,so,q,n,r⟩=>⟨a,_,so,q,λds v H' hd s' rr p=>r _ v H' hd (so.same.trans s') rr p⟩
theorem Ps {t:RS} (i:Nat) (h:fk X tv (JW X t)):fk X tv (JW X (λE a=>t E (wE i a))):=by
 intro pins s Z H De I ⟨a,E,so,q,n,r⟩;have q:t E (wE i a):=q;unfold wE at q;split at q
 ·rename_i x e;obtain⟨H2,I2,gg,kp⟩:=so.fz I e;exact h pins s Z _ De I2 ⟨_,E,gg,q,n,r⟩
 ·exact h pins s Z H De I ⟨a,E,so,q,n,r⟩
end
def A0 (K:aI) (F:FD):Sp:=λvs H Q _=>fo K H/\∃ds P,af K H ds vs/\F ds P/\∀d v H1,P d->ae H H1->b_ K H1 d v->lr H H1 v->Q v H1
structure pq (P:bR) (w:cT) (K:aI) (mg:Str->Option aB) (base:Heap) (x:Str) (ps:List Str) (k:Nat) (F:FD):Prop where
 ex:∃f fd,gu P w K mg base iz k f fd ps (A0 K F)/\Binds K fd ps []/\kT K (.ref f)=true/\mg x=some (.ref f)
section
variable {P:bR} {w:cT} {K:aI} {mg:Str->Option aB} {base:Heap} {x:Str} {st:Stmt} {N ps:List Str} {k:Nat} {F:FD} {t:RS}
theorem ai.mk3 (Z:ai K mg x st ps) (len:∀ds Q,F ds Q->ds.length=ps.length) (pure:∀ds Q,F ds Q->t { nx:=λ_=>False,rt:=Q } (dR N ds))
  (fc:∀{f:Addr} {cdv:aB} {A:cZ} {outer:List Env} {s:aG} {H:Hp} {E:XK},N.Nodup->ce k (A.deeper (envOfC x (fB st) s.heap.objs.size f cdv)) ->
   fk (yK iz P w K mg base N x (fB st) f cdv A outer s H E).nox (pR st) (JW (yK iz P w K mg base N x (fB st) f cdv A outer s H E).nox t))
  (Sc:dz N ps (fB st):=by exact⟨rfl,rfl,rfl,by decide +kernel,rfl,by decide +kernel,by decide +kernel⟩):pq P w K mg base x ps (k+1) F:=by
 obtain⟨f,fd,a,b,c⟩:=Z.ex;refine⟨f,fd,?_,.all c,a.kp,b⟩;refine a.ok Sc (λvs H Q E ⟨_,ds,P',r,h,_⟩=>by rw[<-r.length];exact len ds P' h) λcdv A outer s H vs Q E hr ⟨tb,ds,P',r,h,kk⟩=>⟨_,fc (cdv:=cdv) (A:=A) (outer:=outer) (s:=s) (H:=H) (E:=E) Sc.nd hr,?_⟩;exact⟨dR N ds,_,IU (X:=(yK iz P w K mg base N x (fB st) f cdv A outer s H E).nox) tb r,pure ds P' h,λ_ z=>z,λd v H' hq sm rr sp=>kk d v H' hq sm rr sp⟩
end
def UC (G:Hp):aI->Hp->Hp->V->Prop:=λ_ H₀ H v=>ae H₀ G/\lr G H v
def Nq (j:Nat) (F:FD) (t:RA):RS:=λE a=>t a λds=>F ds λd=>∀G,E.nx ((a.map (Re G)).set j (some (.mem true d (UC G))))
section
variable {X:Cx} {k n j:Nat} {ps:List Str} {F:FD} {x y:Str} {p pos pos' cpos:Pos} {e:Expr} {es:List Expr} {t:RA}
theorem Pr (hN:X.N.Nodup) (C:pq X.prog X.w X.K X.mg X.base x ps k F) (hr:ce n X.A) (ha:DA X (e::es) t) (qi:k<=n:=by decide) (hg:Gl X x:=by rfl) (hi:X.N[j]? = some y:=by rfl) (hx:Loc X.env.scope y:=by walk_at "vis")
  (hs:swapsWith (.Call (.Name x p) (e::es) [] cpos) (some (.Name y pos')) pos.line X.env=pure false:=by rfl) (hf:X.fn y=true\/X.env.scope.names.lookup y=some .local:=by walk_at "loc")
  (kw:(x == ("__debug__":Str))=false:=by decide) (he:starEach (e::es) X.env=(false,eval e X.env)::starEach es X.env:=by rfl) (h8:(backTo cpos (starEach es X.env)).any (·.1)=false:=by rfl) :
  DS X (.Assign [.Name y pos'] (.Call (.Name x p) (e::es) [] cpos) pos) (Nq j F t):=by
 obtain⟨f,fd,G,hb,hk,hm⟩:=C.ex;refine PS.mono (WX hN hi hx (WU (E:=E0) G (hr.mono qi) hg hm hk hb .nil Mr ha kw he h8) hs hf) λDe Z H hh=>oX hh λb E so q n r bk ct=>?_;refine⟨b,_,so,q,λds vs H1 hd s1 rr=>?_⟩;show A0 X.K F (vs++[]) H1 _ E0;rw[dN];have ph:=so.ext s1;refine⟨ph.tabs,ds,_,rr,hd,λd v H2 hn s2 rp sp=>?_⟩;exact n _ _ _ (hn H1) (.of (s1.trans s2)) ((ph.old).put s2 (x':=.mem true d (UC H1)) ⟨λ_=>rp,λH3 k3=>⟨ph.same,sp.keep k3⟩⟩ λa o=>o.elim)
end
structure P6 (K:aI) (J:It) (l m:Addr):Prop where
 go:∀{i:Nat} {H:Hp} {us ws:List V} {v u:V},jj K H l us->jj K H m ws->us[i]? = some v->ws[i]? = some u->J.go i H/\∀x H',J.yld i H x H'->∃pp,H pp=none/\x = .ref pp/\H'=au H pp (.tup [v,u])
 stop:∀{i:Nat} {H:Hp} {us ws:List V},jj K H l us->jj K H m ws->us.length<=i\/ws.length<=i->J.stop i H
section
variable {X:Cx} {pos p:Pos} {elts:List Expr} {k:Nat} {tp:Pos}
theorem Rn (jf jp:Nat) {f g:Str} {fp gp:Pos} (hm:X.mg "zip" = none) (hN:X.N[jf]? = some f:=by rfl) (hv:kn X.env.scope f:=by walk_at "vis") (hd:(f == ("__debug__":Str))=false:=by decide) (g_:(f == ("__classdict__":Str))=false:=by decide)
  (hN':X.N[jp]? = some g:=by rfl) (hv':kn X.env.scope g:=by walk_at "vis") (sr:(g == ("__debug__":Str))=false:=by decide) (R7:(g == ("__classdict__":Str))=false:=by decide)
  (hg:Gl X "zip":=by rfl) (h2:starEach [.Name f fp,.Name g gp] X.env=(false,eval (.Name f fp) X.env)::starEach [.Name g gp] X.env:=by rfl) (h1:starEach [.Name g gp] X.env=[(false,eval (.Name g gp) X.env)]:=by rfl) (hn:starEach [] X.env=[]:=by rfl) :
  PI X (.Tuple elts k tp) (.Call (.Name "zip" p) [.Name f fp,.Name g gp] [] pos) (λZ H R=>∃(l m:Addr) (us ws:List V),Z[jf]? = some (some (.ref l))/\jj X.K H l us/\Z[jp]? = some (some (.ref m))/\jj X.K H m ws/\∀J,P6 X.K J l m->R J H):=by
 intro pins s Z H R I aw;obtain⟨l,m,us,ws,hl,z1,w6,z2,kk⟩:=aw;refine Call_ (pY I hg hm boot_zip (eP (ci (tI (pv jf hN hv hd g_) (tI (pv jp hN' hv' sr R7) FZ (by rw[h1,hn])) h2 pos pins s Z H (λvs H1=>vs=[V.ref l,V.ref m]/\H1=H) I
  ⟨_,hl,_,w6,rfl,rfl⟩) λus' s1 ⟨vs,H1,I1,r1,q1⟩=>?_) h2 (by rw[h1];rfl)))
 obtain⟨rfl,rfl⟩:=q1;obtain⟨w1,w2,rfl,rv,ru⟩:=vals2 r1;cases rv;cases ru;obtain⟨its,rv,pl,hzz⟩:=I1.list z1.sq;obtain⟨uk,rv',pl',hzz'⟩:=I1.list z2.sq;have lt1:l<s1.heap.objs.size:=by obtain⟨o,n,e,_⟩:=pl;exact aX e
 have lt2:m<s1.heap.objs.size:=by obtain⟨o,n,e,_⟩:=pl';exact aX e
 refine call_zip_2 pl.isList pl'.isList λh' hz hTI hTO hi1 ww nu N5=>?_;have I2:Inv X pins Z H1 { s1 with heap:=h' }:=I1.kept (t':=s1.toks) N5;refine LC hz ⟨s1.heap.objs.size+4,[s1.heap.objs.size+4,s1.heap.objs.size+2,s1.heap.objs.size+3,s1.heap.objs.size,s1.heap.objs.size+1],_,_,H1,rfl,I2,Oj (s1.heap.objs.size+4) (s1.heap.objs.size+2) (s1.heap.objs.size+3) s1.heap.objs.size (s1.heap.objs.size+1) l m (zipApart_new lt1 lt2),⟨hz,hTI,⟨_,_,hTO⟩,hi1,ww⟩,λb hb=>?_,?_⟩
 ·have:s1.heap.objs.size<=b:=by
   simp only[aJ,cY,or_false] at hb;rcases hb with rfl | rfl | rfl | rfl | rfl <;> simp
  exact I1.fpOk this (I1.hok.fresh this)
 ·refine kk _ ⟨λy1 y2 f1 f3=>⟨⟨_,_,_,_,y1.sq,y2.sq,f1,f3⟩,λx H' y=>?_⟩,λy1 y2 hl=>⟨_,_,y1.sq,y2.sq,hl⟩⟩;obtain⟨pp,v1,v2,hn,rfl,rfl,sj,ku⟩:=y;have e3:=sj _ y1.sq;have e4:=ku _ y2.sq;rw[f1] at e3;rw[f3] at e4;cases e3;cases e4;exact⟨pp,hn,rfl,rfl⟩
end
section
variable {X:Cx} {x:Str} {cf dw apos cpos pos kp:Pos} {jk:Nat}
theorem Rr (j:Nat) (hN:X.N[j]? = some x:=by rfl) (hv:kn X.env.scope x:=by walk_at "vis") (hd:(x == ("__debug__":Str))=false:=by decide) (g_:(x == ("__classdict__":Str))=false:=by decide)
  (dm:attributeBase (.Subscript (.Name x cf) (.Constant (.int 2) jk kp) dw) "clear" X.env (eval (.Subscript (.Name x cf) (.Constant (.int 2) jk kp) dw) X.env)=eval (.Subscript (.Name x cf) (.Constant (.int 2) jk kp) dw) X.env:=by rfl)
  (dq:(apos.endLine == cpos.line)=true:=by rfl) (nq:swapsWith (.Call (.Attribute (.Subscript (.Name x cf) (.Constant (.int 2) jk kp) dw) "clear" apos) [] [] cpos) none pos.line X.env=pure false:=by rfl) :
  PS X (.Expr (.Call (.Attribute (.Subscript (.Name x cf) (.Constant (.int 2) jk kp) dw) "clear" apos) [] [] cpos) pos)
   (λDe Z H=>∃(p a:Addr) (y z:V) (o:Obj) (us:List V),Z[j]? = some (some (.ref p))/\H p=some (.tup [y,z,.ref a])/\H a=some (.frz o (.lst us))/\X.H₀ a=none/\∀o',De.nx Z (au H a (.frz o' (.lst [])))):=by
 intro pins s Z H De I ⟨p,a,y,z,o,us,h1,hp,ha,h0,q⟩;have I1:=Inv.thaw I ha h0;have tp:au H a (.lst us) p=some (.tup [y,z,.ref a]):=by rw[cH (by rintro rfl;rw[ha] at hp;cases hp)];exact hp
 refine ci (IF (pos:=pos) (Ms iK PySem.F.slot_list_clear PySem.F.type_list_clear Mi (Tp Ln (pv j hN hv hd g_) Mx (λ_ _=>rfl)) dm dq) nq pins s Z _ { nx:=λZ' H'=>Z'=Z/\H'=au (au H a (.lst us)) a (.lst []),rt:=λ_ _=>False,bk:=λ_ _=>False,ct:=λ_ _=>False } I1 ?_) λf s1 hq=>?_
 ·exact⟨_,h1,_,_,_,_,rfl,rfl,di.of tp,rfl,.inl ⟨rfl,us,f8.of eB⟩,a,us,rfl,rfl,eB,rfl,rfl⟩
 ·cases f with
  | next =>
   obtain⟨Z',H',I2,rfl,rfl⟩:=hq;obtain⟨o',I3⟩:=Inv.freeze I2 (a:=a) (xs:=[]) eB;have eH:au (au (au H a (.lst us)) a (.lst [])) a (.frz o' (.lst []))=au H a (.frz o' (.lst [])):=by
    funext c;by_cases hc:c=a
    ·subst hc;rw[eB,eB]
    ·rw[cH hc,cH hc,cH hc,cH hc]
   rw[eH] at I3;exact⟨_,_,I3,q o'⟩
  | ret v=>obtain⟨_,_,_,_,_,z⟩:=hq;exact z.elim
  | brk=>obtain⟨_,_,_,z⟩:=hq;exact z.elim
  | cont=>obtain⟨_,_,_,z⟩:=hq;exact z.elim
end
structure Olds (G:Hp) (ρ ρ0:L2.R2.En):Prop where
 len:ρ0.length=ρ.length
 old:∀(i:Nat) (x:S),ρ0[i]? = some (some x)->∃y,x = .mem true y (Mp G y)/\ρ[i]? = some (some x)
structure kf (d:D):Prop where
 ex:∃d0 d1 es xs,d = .tup [d0,d1,.lst (.tup es::xs)]/\je d0/\je d1/\je (.tup (.tup es::xs))
def v8 (v0:V):aI->Hp->Hp->V->Prop:=λ_ _ _ v=>v=v0
def CJ (a0:En) (ja jb:Nat) (d:D) (n:Int) (v0:V):En:=(a0.set ja (some (.mem true d (v8 v0)))).set jb (some (.d (.int n)))
def UA (a0:En) (ja jb:Nat) (t u:RS) (E:jd):List D->List Int->Prop
 | d::ds,n::ns=>∀v0,t { nx:=λa'=>a'=CJ a0 ja jb d n v0/\UA a0 ja jb t u E ds ns,rt:=E.rt } (CJ a0 ja jb d n v0)
 | _,_=>u E a0
def Tq (jf jp ja jb:Nat) (t u:RS):RS:=λE a=>∃(G:Hp) (ds:List D) (ns:List Int) (a0:En),a[jf]? = some (some (.mem true (.lst ds) (UC G)))/\(a[jp]? = some (some (.d (.lst (ns.map .int))))/\Olds G a a0)/\(a0[ja]? = some none/\a0[jb]? = some none)/\(∀d∈ds,kf d)/\UA a0 ja jb t u E ds ns
section
variable {K:aI} {G H:Hp} {a:Addr} {o o':Obj} {us:List V}
theorem je.clr (ha:H a=some (.frz o (.lst us))) {d:D} (n:je d):∀{v:V},b_ K H d v->b_ K (au H a (.frz o' (.lst []))) d v:=by
 have ne:∀{p:Addr} {xs:List V},H p=some (.tup xs)->au H a (.frz o' (.lst [])) p=some (.tup xs):=λ{p xs} h=>by rw[cH (by rintro rfl;rw[ha] at h;cases h)];exact h
 have key:∀{d:D},je d->(∀{v:V},b_ K H d v->b_ K (au H a (.frz o' (.lst []))) d v)/\∀{ds:List D} {vs:List V},d = .tup ds->af K H ds vs->af K (au H a (.frz o' (.lst []))) ds vs:=by
  intro d n
  induction n with
  | non=>exact⟨λr=>by cases r;constructor,λe=>by cases e⟩
  | bl=>exact⟨λr=>by cases r;constructor,λe=>by cases e⟩
  | int=>exact⟨λr=>by cases r;constructor,λe=>by cases e⟩
  | str=>exact⟨λr=>by cases r;constructor,λe=>by cases e⟩
  | nil =>
   have q:∀{ds:List D} {vs:List V},D.tup [] = .tup ds->af K H ds vs->af K (au H a (.frz o' (.lst []))) ds vs:=λe r=>(by cases e;cases r;exact .nil);exact⟨λr=>by cases r with | tup h r=>exact .tup (ne h) (q rfl r),q⟩
  | @cons d ds h t zd ze =>
   have q:∀{es:List D} {vs:List V},D.tup (d::ds) = .tup es->af K H es vs->af K (au H a (.frz o' (.lst []))) es vs:=λe r=>by
    cases e;cases r with
    | cons r1 r2=>exact .cons (zd.1 r1) (ze.2 rfl r2)
   exact⟨λr=>by cases r with | tup h r=>exact .tup (ne h) (q rfl r),q⟩
 intro v r;exact (key n).1 r
theorem Lq (g:G a=none) (ha:H a=some (.frz o (.lst us))) (k:ag G H):ag G (au H a (.frz o' (.lst []))):=by
 have ng:∀(c:Addr) (u:HO),G c=some u->c≠a:=λc u q z=>by subst z;rw[g] at q;cases q
 have ne:∀c u,H c=some u->(∀o u',u≠.frz o u')->au H a (.frz o' (.lst [])) c=some u:=λc u q n=>by
  rw[cH (by rintro rfl;rw[ha] at q;cases q;exact n _ _ rfl)];exact q
 exact⟨λc xs q=>by rw[cH (ng c _ q)];exact k.tups c xs q,λc ob u q=>by rw[cH (ng c _ q)];exact k.frzs c ob u q,λc b q=>by rw[cH (ng c _ q)];exact k.exts c b q,
  λc fs q=>by rw[cH (ng c _ q)];exact k.xds c fs q,k.tbls.trans (.of (λc b q=>ne c _ q λ_ _ z=>by cases z) λc ps q=>ne c _ q λ_ _ z=>by cases z)⟩
theorem Oc (g:H₀ a=none) (ha:H a=some (.frz o (.lst us))) (s:ae H₀ H):ae H₀ (au H a (.frz o' (.lst []))):=by
 have ne:∀c u,H c=some u->(∀o u',u≠.frz o u')->au H a (.frz o' (.lst [])) c=some u:=λc u q n=>by
  rw[cH (by rintro rfl;rw[ha] at q;cases q;exact n _ _ rfl)];exact q
 exact⟨λc u q nt=>by rw[cH (by rintro rfl;rw[g] at q;cases q)];exact s.get c u q nt,s.tbls.trans (.of (λc b q=>ne c _ q λ_ _ z=>by cases z) λc ps q=>ne c _ q λ_ _ z=>by cases z)⟩
theorem ao.olds (so:ao X b Z H) (O:Olds G b b0):ao X b0 Z H:=by
 refine⟨by rw[O.len];exact so.len,so.same,λi x e=>?_,λi k x y v u a e1 e2 e3 e4 o1 o2=>?_,so.t0⟩
 ·obtain⟨y,rfl,e'⟩:=O.old i x e;exact so.rel i _ e'
 ·obtain⟨y,rfl,_⟩:=O.old i x e1;exact o1.elim
theorem ao.clrO (so:ao X b0 Z H) (O:Olds G b b0) (ha:H a=some (.frz o (.lst us))) (g:G a=none) (h0:X.H₀ a=none):ao X b0 Z (au H a (.frz o' (.lst []))):=by
 refine⟨so.len,Oc h0 ha so.same,λi x e=>?_,λi k x y v u a e1 e2 e3 e4 o1 o2=>?_,so.t0⟩
 ·obtain⟨y,rfl,_⟩:=O.old i x e;obtain⟨w,g1,g2,g3⟩:=so.rel i _ e;obtain⟨r0,k0⟩:=g3 H (ag.refl H);have k1:ag G (au H a (.frz o' (.lst []))):=Lq g ha k0;exact⟨w,g1,λ_=>r0.keep k1,λH3 k3=>⟨r0,k1.trans k3⟩⟩
 ·obtain⟨y,rfl,_⟩:=O.old i x e1;exact o1.elim
theorem jj.clr {l:Addr} {vs:List V} (ne:l≠a) (h:jj K H l vs):jj K (au H a (.frz o' (.lst []))) l vs:=by
 rcases h with ⟨o,h⟩ | h
 ·exact .inl ⟨o,by rw[cH ne];exact h⟩
 ·exact .inr h
theorem iu.clr:∀{vs:List V} {as:List Addr},H a=some (.frz o (.lst us))->a ∉ as->iu G H vs as->iu G (au H a (.frz o' (.lst []))) vs as
 | _,_,_,_,.nil=>.nil
 | _,_,ha,n,.cons hp h g t=>.cons (by rw[cH (by rintro rfl;rw[ha] at hp;cases hp)];exact hp) (by rw[cH (by rintro rfl;exact n cF)];exact h) g (t.clr ha λm=>n (aO _ m))
end
section
variable {X:Cx} {K:aI} {G H:Hp} {a:Addr} {o o':Obj} {us:List V}
theorem je.clrs (ha:H a=some (.frz o (.lst us))):∀{ds:List D} {vs:List V},je (.tup ds)->af K H ds vs->af K (au H a (.frz o' (.lst []))) ds vs
 | [],_,_,.nil=>.nil
 | _::_,_,.cons n t,.cons r q=>.cons (n.clr ha r) (je.clrs ha t q)
theorem kf.clr {d:D} {p b:Addr} {x y:V} (B:kf d) (ha:H a=some (.frz o (.lst us))) (ne:b≠a) (hp:H p=some (.tup [x,y,.ref b])) (r:b_ K H d (.ref p)):b_ K (au H a (.frz o' (.lst []))) d (.ref p):=by
 obtain⟨d0,d1,es,xs,rfl,n0,n1,n2⟩:=B.ex;cases r with
 | tup h r =>
  rw[hp] at h;cases h;have ke:au H a (.frz o' (.lst [])) p=some (.tup [x,y,.ref b]):=by rw[cH (by rintro rfl;rw[ha] at hp;cases hp)];exact hp
  cases r with
  | cons r0 r=>cases r with
   | cons r1 r=>cases r with
    | cons r2 r=>cases r with
     | nil=>cases r2 with
      | lst h2 q2=>exact .tup ke (.cons (n0.clr ha r0) (.cons (n1.clr ha r1) (.cons (.lst (h2.clr ne) (je.clrs ha n2 q2)) .nil)))
theorem iu.boxes (ha:H a=some (.frz o (.lst us))):∀{ds:List D} {vs:List V} {as:List Addr},a ∉ as->(∀d∈ds,kf d)->iu G H vs as->af K H ds vs->af K (au H a (.frz o' (.lst []))) ds vs
 | _,_,_,_,_,.nil,.nil=>.nil
 | _,_,_,n,B,.cons hp h g t,.cons r q=>.cons ((B _ cF).clr ha (λz=>n (by subst z;exact cF)) hp r) (iu.boxes ha (λm=>n (aO _ m)) (λd m=>B d (aO _ m)) t q)
theorem kf.list {d:D} {p b:Addr} {x y:V} (B:kf d) (hp:H p=some (.tup [x,y,.ref b])) (r:b_ K H d (.ref p)):∃c us,jj K H b (.ref c::us):=by
 obtain⟨d0,d1,es,xs,rfl,n0,n1,n2⟩:=B.ex;cases r with
 | tup h r =>
  rw[hp] at h;cases h;cases r with
  | cons r0 r=>cases r with
   | cons r1 r=>cases r with
    | cons r2 r=>cases r with
     | nil=>cases r2 with
      | lst h2 q2=>cases q2 with
       | cons r3 q3=>cases r3 with
        | tup h3 _=>exact⟨_,_,h2⟩
theorem iu.ne_ints {pins:List (Addr × Obj)} {Z:St} {s:aG} {m:Addr} {ns:List Int} (I:Inv X pins Z H s) (hm:jj X.K H m (ns.map V.int)):∀{ds:List D} {vs:List V} {as:List Addr},(∀d∈ds,kf d)->iu G H vs as->af X.K H ds vs->m ∉ as
 | _,_,_,_,.nil,.nil,z=>nomatch z
 | _,_,_,B,.cons hp h g t,.cons r q,z=>by
  rcases aJ.mp z with rfl | z
  ·obtain⟨c,us,f⟩:=(B _ cF).list hp r;have e:=I.list_inj f.sq hm.sq;cases ns with
   | nil=>cases e
   | cons n ns=>cases e
  ·exact iu.ne_ints I hm (λd m=>B d (aO _ m)) t q z
end
section
variable {X:Cx} {s1 s2:Stmt} {rest:List Stmt} {t1 t2 u:RS} {f g a b:Str} {fp gp ap bp p pos cf dw apos cpos yi kp tp Q2:Pos} {jk k:Nat}
theorem Hd (jf jp ja jb:Nat) (hp:PassesOwn (model X.prog X.w) X.A X.env X.xe) (hc:X.calm=true) (hn:X.N.Nodup) (hm:X.mg "zip" = none) (g9:ja≠jb) (h1:DS X s1 t1) (h2:DS X s2 t2) (hu:fk X rest (JY X u))
  (hNf:X.N[jf]? = some f:=by rfl) (hNg:X.N[jp]? = some g:=by rfl) (hNa:X.N[ja]? = some a:=by rfl) (hNb:X.N[jb]? = some b:=by rfl)
  (hvf:kn X.env.scope f:=by walk_at "vis") (hvg:kn X.env.scope g:=by walk_at "vis") (hva:kn X.env.scope a:=by walk_at "vis")
  (hla:Loc X.env.scope a:=by walk_at "vis") (yy:Loc X.env.scope b:=by walk_at "vis")
  (vk:(f == ("__debug__":Str))=false:=by decide) (hdg:(g == ("__debug__":Str))=false:=by decide) (hda:(a == ("__debug__":Str))=false:=by decide)
  (hcf:(f == ("__classdict__":Str))=false:=by decide) (hcg:(g == ("__classdict__":Str))=false:=by decide) (hca:(a == ("__classdict__":Str))=false:=by decide)
  (hfa:X.fn a=true\/X.env.scope.names.lookup a=some .local:=by first | exact .inl rfl | exact .inr rfl) (hfb:X.fn b=true\/X.env.scope.names.lookup b=some .local:=by first | exact .inl rfl | exact .inr rfl)
  (hg:Gl X "zip":=by rfl) (z2:starEach [.Name f fp,.Name g gp] X.env=(false,eval (.Name f fp) X.env)::starEach [.Name g gp] X.env:=by rfl) (z1:starEach [.Name g gp] X.env=[(false,eval (.Name g gp) X.env)]:=by rfl) (z0:starEach [] X.env=[]:=by rfl)
  (e2:(assignEach [.Name a ap,.Name b bp] X.env).map (·.2)=assign (.Name a ap) X.env::(assignEach [.Name b bp] X.env).map (·.2):=by rfl) (e1:(assignEach [.Name b bp] X.env).map (·.2)=assign (.Name b bp) X.env::(assignEach [] X.env).map (·.2):=by rfl)
  (el:(assignEach [.Name a ap,.Name b bp] X.env).length=2:=by rfl) (es:(assignEach [.Name a ap,.Name b bp] X.env).findIdx? (·.1)=none:=by rfl)
  (hs:∀x,foldedSetIterable (.Call (.Name "zip" p) [.Name f fp,.Name g gp] [] pos) X.env x=pure x:=by intro _;rfl)
  (dm:attributeBase (.Subscript (.Name a cf) (.Constant (.int 2) jk kp) dw) "clear" X.env (eval (.Subscript (.Name a cf) (.Constant (.int 2) jk kp) dw) X.env)=eval (.Subscript (.Name a cf) (.Constant (.int 2) jk kp) dw) X.env:=by rfl)
  (dq:(apos.endLine == cpos.line)=true:=by rfl) (nq:swapsWith (.Call (.Attribute (.Subscript (.Name a cf) (.Constant (.int 2) jk kp) dw) "clear" apos) [] [] cpos) none yi.line X.env=pure false:=by rfl) :
  fk X (.For (.Tuple [.Name a ap,.Name b bp] k tp) (.Call (.Name "zip" p) [.Name f fp,.Name g gp] [] pos) [s1,s2,.Expr (.Call (.Attribute (.Subscript (.Name a cf) (.Constant (.int 2) jk kp) dw) "clear" apos) [] [] cpos) yi] [] Q2::rest) (JY X (Tq jf jp ja jb (vJ t1 t2) u)):=by
 intro pins s Z H De I ⟨c,E,so,q,n,bk,ct,r⟩;refine uQ (Nc hp hc (Rn jf jp hm hNf hvf vk hcf hNg hvg hdg hcg hg z2 z1 z0) (Na hc (QF (WV hn hNa hla hfa) (QF (WV hn hNb yy hfb) Fs e1) e2) el es) (uQ h1 (uQ h2 (MV (Rr ja hNa hva hda hca dm dq nq)))) hs) hu pins s Z H De I ?_;obtain⟨G,ds,ns,c0,qf,⟨qp,O⟩,⟨na,nb⟩,B,q⟩:=q;obtain⟨v,f1,f2,f3⟩:=so.rel jf _ qf;obtain⟨sg,l,o,vs,as,rfl,hl,fr,nd,nl⟩:=f3 H (ag.refl H);obtain⟨v,g1,g2⟩:=so.rel jp _ qp;cases g2 with
 | @lst m ws _ fm rm =>
 rw[rm.ints_inv] at fm;have xg:af X.K H ds vs:=by
  cases f2 rfl with
  | lst h r =>
   have e:=I.list_inj h.sq (jj.sq (.inl ⟨o,hl⟩));subst e;exact r
 have nm:m ∉ as:=iu.ne_ints I fm B fr xg;refine⟨l,m,vs,ns.map V.int,f1,.inl ⟨o,hl⟩,g1,fm,λJ zj=>?_⟩;refine⟨λi k Z H=>∃(vd vr:List V) (tj nr:List Int) (dr:List D) (ar:List Addr),vs=vd++vr/\vd.length=i/\ns=tj++nr/\tj.length=i/\k=vr.length/\ao X c0 Z H/\jj X.K H l vs/\jj X.K H m (ns.map V.int)/\iu G H vr ar/\ar.Nodup/\l ∉ ar/\m ∉ ar/\(∀d∈dr,kf d)/\af X.K H dr vr/\UA c0 ja jb (vJ t1 t2) u E dr nr,
  ⟨_,[],vs,[],ns,ds,as,rfl,rfl,rfl,rfl,rfl,so.olds O,.inl ⟨o,hl⟩,fm,fr,nd,nl,nm,B,xg,q⟩,?_⟩
 rintro i k Z H ⟨vd,vr,tj,nr,dr,ar,ev,lv,en,ln,rfl,so,fl,fm,fr,nd,nl,nm,B,xg,q⟩;cases xg with
 | nil=>exact .inl ⟨zj.stop fl fm (.inl (by rw[ev,dN,lv];exact bK _)),c0,E,so,q,n,bk,ct,r⟩
 | @cons d v dr vr rd xg =>
 cases nr with
 | nil=>exact .inl ⟨zj.stop fl fm (.inr (by rw[en,dN,aS,ln];exact bK _)),c0,E,so,q,n,bk,ct,r⟩
 | cons x nr =>
 have gv:vs[i]? = some v:=by rw[ev,dE (by lia),lv,Nat.sub_self];rfl
 have gx:(ns.map V.int)[i]? = some (.int x):=by rw[bT,en,dE (by lia),ln,Nat.sub_self];rfl
 obtain⟨go,yl⟩:=zj.go fl fm gv gx;refine .inr ⟨go,λZ' H'=>_,λZ' H' w=>⟨vr.length,kL _,w⟩,λy H' hy=>?_⟩;obtain⟨pp,hn0,rfl,rfl⟩:=yl y H' hy;have sm:ae H (au H pp (.tup [v,.int x])):=ae.fn λb u e=>by rw[cH (dG e hn0)];exact e
 have kp0:ag H (au H pp (.tup [v,.int x])):=.of sm;refine⟨pp,[v,.int x],rfl,di.of eB,rfl,v,[.int x],rfl,.int x,[],rfl,rfl,?_⟩;have ph:ao X (CJ c0 ja jb d x v) ((Z.set ja (some v)).set jb (some (.int x))) (au H pp (.tup [v,.int x])) :=
  (so.put sm (i:=ja) (x':=.mem true d (v8 v)) ⟨λ_=>rd.keep kp0,λ_ _=>rfl⟩ λa o=>o.elim).put (ae.refl _) (x':=.d (.int x)) (.int x) λa o=>o.elim
 refine⟨_,_,ph,q v,λc' Z' H' hq kk gg=>⟨c',_,gg,hq,λc'' Z'' O_ hq V8 ut=>?_,λd v H' hd _ s' rr=>r d v H' hd s' rr,λ_ _ _ z=>z.elim,λ_ _ _ z=>z.elim⟩,λd v H' hd _ s' rr=>r d v H' hd s' rr,λ_ _ _ z=>z.elim,λ_ _ _ z=>z.elim⟩;obtain⟨rfl,q⟩:=hq;have kA:ag H O_:=(kp0.trans kk).trans V8;have la:ja<c0.length:=(bC.mp na).1;have ea:(CJ c0 ja jb d x v)[ja]? = some (some (.mem true d (v8 v))):=by unfold CJ;rw[fG (Ne.symm g9),fP la]
 obtain⟨v',h1,h2,h3⟩:=ut.rel ja _ ea;cases (h3 O_ (ag.refl _):v'=v);have O0:ao X c0 Z'' O_:=by
  have back:∀(i:Nat) (x':S),c0[i]? = some (some x')->(CJ c0 ja jb d x v)[i]? = some (some x'):=λi x' e=>by
   unfold CJ;rw[fG (by rintro rfl;rw[nb] at e;cases e),fG (by rintro rfl;rw[na] at e;cases e)];exact e
  exact⟨by rw[<-ut.len];simp[CJ],ut.same,λi x e=>ut.rel i x (back i x e),λi j x y v u a e1 e2=>ut.sep i j x y v u a (back i x e1) (back j y e2),ut.t0⟩
 cases fr with
 | @cons p a y z o us _ ar hp ha g t =>
 have ke:=kA.tups _ _ hp;have sj:=kA.frzs _ _ _ ha;have h0:=sg.free g;have W6:=eS.mp nd;refine⟨p,a,y,z,o,us,h1,ke,sj,h0,λo'=>⟨vd++[.ref p],vr,tj++[x],nr,dr,ar,by rw[ev];simp,by simp[lv],by rw[en];simp,by simp[ln],rfl,O0.clrO O sj g h0,(fl.keep kA).clr (λe=>nl (by subst e;exact cF)),(fm.keep kA).clr (λe=>nm (by subst e;exact cF)),(t.keep kA).clr sj W6.1,W6.2,λm=>nl (aO _ m),λm'=>nm (aO _ m'),λd m=>B d (aO _ m),(t.keep kA).boxes sj W6.1 (λd m=>B d (aO _ m)) (xg.keep kA),q⟩⟩
end
abbrev aj (i:Int):RE:=rC (.int i)
abbrev ak (i:Nat) (k:Int):RE:=r2 ca (aM i) (rC (.int k))
abbrev aa (d:D):Option S:=some (.d d)
def oA:RS :=
 dW (eQ 4 (r2 nO (aM 2) (aM 3)))
 (dW (eQ 2 (cB 3))
 (eQ 3 (cB 4)))
def vO:RS :=
 dW (eQ 2 (rCB XZ (aC (cB 0) aZ)))
 (dW (eQ 3 (rCB XZ (aC (cB 1) aZ)))
 (dW (GA (dZ (r2 (oN true) (aM 3) (aj 0))) oA)
 (fI (cB 2))))
def Aw (aq:FD):RS :=
 dW (kJ (dZ (r2 (oN false) (aM 1) (aj 0))) ((λ_ _=>False)) gQ)
 (dW (eQ 2 (cO aq (aC (cB 0) (aC (cB 1) aZ))))
 (dW (kJ (dZ (r2 (qG λi j=>decide (i<j)) (aM 1) (aj 0))) (eQ 2 (r1 yN (aM 2))) gQ)
 (fI (jW (aC (r2 jS (aM 0) (aM 2)) (aC (r2 jS (aM 1) (aM 2)) aZ))))))
def EU:RS :=
 fI (IK (r1 (DL "int") (cB 0)) (Nn (r1 (DL "bool") (cB 0))))
def Gb (GJ:FD):RS :=
 fI (cO GJ (aC (r2 mV (r2 fC (ak 0 0) (ak 1 1)) (r2 fC (ak 1 0) (ak 0 1))) (aC (r2 fC (ak 0 1) (ak 1 1)) aZ)))
def qB:RS :=
 Ws 0 1 (aC (cB 1) (aC (r2 nO (aM 0) (aM 1)) aZ))
def zN:RS :=
 dW (eQ 0 (rCB XZ (aC (cB 0) aZ)))
 (dW (eQ 1 (rCB XZ (aC (cB 1) aZ)))
 (dW (GA (dZ (r2 (qG λi j=>decide (j<i)) (aM 1) (aj 0))) qB)
 (fI (cB 0))))
def UM:RS :=
 fI (jW (aC (r2 fC (aM 0) (ak 1 0)) (aC (ak 1 1) aZ)))
def Nv (oV:FD) (oY:FD):RS :=
 dW (eQ 2 (ak 0 0))
 (fI (jW (aC (cO oV (aC (cO oY (aC (cB 2) (aC (ak 1 0) aZ))) (aC (ak 0 1) aZ))) (aC (cO oV (aC (cO oY (aC (cB 2) (aC (ak 1 1) aZ))) (aC (ak 0 2) aZ))) aZ))))
def UJ (XJ:FD):RS :=
 dW (eQ 2 (cO XJ (aC (cB 1) (aC (jW (aC (ak 0 1) (aC (ak 0 2) aZ))) aZ))))
 (fI (jW (aC (r2 fC (ak 0 0) (ak 1 0)) (aC (ak 2 0) (aC (ak 2 1) aZ)))))
def LV (oY:FD):RS :=
 dW (eQ 1 (ak 0 0))
 (fI (jW (aC (cB 1) (aC (cO oY (aC (r1 yN (aM 1)) (aC (ak 0 1) aZ))) (aC (cO oY (aC (r1 yN (aM 1)) (aC (ak 0 2) aZ))) aZ)))))
def uT (aq:FD):RS :=
 fI (r2 fC (aM 0) (r2 jS (aM 1) (cO aq (aC (cB 0) (aC (cB 1) aZ)))))
def Gc:RS :=
 dW (eQ 3 (r2 fC (r2 mK (ak 1 0) (ak 0 0)) (r2 mK (ak 2 1) (ak 0 1))))
 (dW (eQ 4 (r2 fC (r2 mK (ak 1 1) (ak 0 1)) (r2 mK (ak 2 0) (ak 0 0))))
 (fI (r2 mK (aM 3) (aM 4))))
def oQ:RS :=
 Ga 1
def xM (xT:FD):RS :=
 dW (GA (SR (dZ (r2 (qG λi j=>decide (j<i)) (r1 nX (aM 1)) (aj 1))) (dZ (r2 (qG λi j=>decide (i<=j)) (cO xT (aC (r2 ca (aM 1) (r1 yN (aj 2))) (aC (r2 ca (aM 1) (r1 yN (aj 1))) (aC (cB 2) aZ)))) (aj 0)))) oQ)
 (EL 1 (cB 2))
def EV (xT:FD):RS :=
 dW (uS 1 (sM aZ))
 (dW (mJ (riL (cB 0)) (dH 2) (xM xT))
 (fI (Nr (aM 1) IM (EM (r1 yN (aj 1))))))
def xH:RS :=
 eQ 0 (r2 jS (aM 0) (aM 1))
def ER:RS :=
 dW (mJ (QT (aC (cB 2) aZ)) (dH 3) xH)
 (fI (r2 nO (aM 0) (aM 1)))
def xI (J6:FD):RS :=
 dW (eQ 2 (cO J6 (aC (cB 0) (aC (cB 1) aZ))))
 (fI (jW (aC (r2 jS (aM 0) (aM 2)) (aC (r2 jS (aM 1) (aM 2)) aZ))))
def zO:RS :=
 fI (r2 ca ((λa Q=>(sM (aC (aj 1) (aC (r2 mV (aj 1) (r2 nO (r2 jS (aM 0) (aj 3)) (aj 12))) (aC (r2 mV (aj 1) (r2 nO (r2 jS (aM 0) (aj 3)) (r2 YC (aj 10) (aj 9)))) aZ)))) a λds=>Q (.lst ds))) (r2 nO (aM 0) (aj 3)))
def BW (J6:FD):RS :=
 eQ 2 (cO J6 (aC (cO J6 (aC (cB 2) (aC (cB 3) aZ))) (aC (cB 4) aZ)))
def LR (J6:FD):RS :=
 dW (eQ 2 (cB 0))
 (dW (mJ (riL (cB 1)) (pH 2 (gC (dH 3) (gC (dH 4) pG))) (BW J6))
 (dW (uS 5 (pE (riL (cB 1)) 2 [2] (pH 2 (gC (dH 0) (gC (dH 1) pG))) (jW (aC (r2 jS (aM 0) (aM 2)) (aC (r2 jS (aM 1) (aM 2)) aZ)))))
 (dW (eQ 6 (Dm (aM 5) (r1 Ew (aM 5))))
 (fI (jW (aC (r2 jS (aM 0) (aM 2)) (aC (r1 OO (r2 OM (Nr (aM 5) (EM (cB 6)) IM) (Nr (aM 5) IM (EM (cB 6))))) aZ)))))))
def QQ (im:FD):RS :=
 dW (eQ 1 ((λa Q=>(QN (aM 0)) a λds=>Q (.lst ds))))
 (fI (r2 OM (cO im (aC (cB 1) aZ)) (cO im (aC ((λa Q=>(QM (aM 1)) a λds=>Q (.lst ds))) aZ))))
def EW (aq:FD):RS :=
 eQ 3 (cO aq (aC (cO aq (aC (cB 3) (aC (cB 4) aZ))) (aC (cB 5) aZ)))
def QR (wK:FD) (aq:FD):RS :=
 dW (eQ 2 (cO wK (aC (cB 1) aZ)))
 (dW (kJ (dZ (r2 (qG λi j=>decide (i<j)) (r1 nX (aM 2)) (aj 3))) (fI (rC .non)) gQ)
 (dW (eQ 3 (cB 0))
 (dW (mJ (riL (cB 2)) (pH 2 (gC (dH 4) (gC (dH 5) pG))) (EW aq))
 (fI (jW (aC (r2 jS (aM 0) (aM 3)) (aC (r1 OO ((λa Q=>(pE (riL (cB 2)) 2 [3] (pH 2 (gC (dH 0) (gC (dH 1) pG))) (jW (aC (r2 jS (aM 0) (aM 2)) (aC (r2 jS (aM 1) (aM 2)) aZ)))) a λds=>Q (.lst ds)))) aZ)))))))
def Nu (g8:FD):RS :=
 dW (eQ 2 (jW (aC (r1 yN (ak 1 0)) (aC (r1 yN (ak 1 1)) (aC (r1 yN (ak 1 2)) aZ)))))
 (fI (jW (aC (cO g8 (aC (cB 0) (aC (cB 1) aZ))) (aC (cO g8 (aC (cB 0) (aC (cB 2) aZ))) aZ))))
def vN:RS :=
 dW (eQ 6 (r2 ca (aM 3) (r2 mK (aM 5) (aj 1))))
 (dW (eQ 7 (r2 mK (r2 fC (ak 1 0) (aM 2)) (r2 fC (ak 6 0) (ak 1 2))))
 (dW (eQ 8 (r2 mK (r2 fC (ak 1 1) (aM 2)) (r2 fC (ak 6 1) (ak 1 2))))
 (dW (eQ 9 (r2 mK (r2 fC (r2 mK (r2 ca (r2 ca (aM 3) (aM 5)) (aj 0)) (ak 6 0)) (aM 8)) (r2 fC (r2 mK (r2 ca (r2 ca (aM 3) (aM 5)) (aj 1)) (ak 6 1)) (aM 7))))
 (kJ (rOr (dZ (r2 (VM false) (aM 4) (rC .non))) (dZ (r2 (qG λi j=>decide (i<j)) (aM 9) (aM 4)))) (eQ 4 (cB 9)) gQ))))
def CB:RS :=
 dW (Dk (cB 0) (pH 2 (gC (dH 2) (gC (dH 3) pG))))
 (dW (eQ 4 (rC .non))
 (dW (mJ (QT (aC (r1 nX (aM 3)) aZ)) (dH 5) vN)
 (fI (r2 mK (rCB Kb (aC (r2 (qG λi j=>decide (j<i)) (aM 4) (aj 0)) aZ)) (rCB Kb (aC (r2 (qG λi j=>decide (i<j)) (aM 4) (aj 0)) aZ))))))
def IQ:RS :=
 dW (eQ 3 (r2 fC (r2 mK (ak 1 0) (ak 0 0)) (r2 mK (ak 2 1) (ak 1 1))))
 (fI (r2 mK (aM 3) (r2 fC (r2 mK (ak 1 1) (ak 0 1)) (r2 mK (ak 2 0) (ak 1 0)))))
def pF (J7:FD):RS :=
 dW (kJ (rOr (qA (dZ (r1 (DL "tuple") (cB 1)))) (dZ (r2 (oN true) (r1 nX (aM 1)) (aj 2)))) (fI (rC (.bl false))) gQ)
 (kJ (rOr (qA (dZ (cO J7 (aC (ak 1 0) aZ)))) (qA (dZ (cO J7 (aC (ak 1 1) aZ))))) (fI (rC (.bl false))) gQ)
def rN (J7:FD):RS :=
 dW (kJ (rOr (qA (dZ (r1 (DL "tuple") (cB 0)))) (rOr (dZ (r2 (oN true) (r1 nX (aM 0)) (aj 2))) (rOr (qA (dZ (cO J7 (aC (ak 0 0) aZ)))) (dZ (r2 (qG λi j=>decide (i<j)) (ak 0 0) (aj 1)))))) (fI (rC (.bl false))) gQ)
 (dW (kJ (rOr (qA (dZ (r1 (DL "tuple") (ak 0 1)))) (dZ (r2 (qG λi j=>decide (i<j)) (r1 nX (ak 0 1)) (aj 3)))) (fI (rC (.bl false))) gQ)
 (dW (mJ (riT (ak 0 1)) (dH 1) (pF J7))
 (fI (rC (.bl true)))))
def sV (J6:FD) (L7:FD):RS :=
 dW (eQ 3 (cO J6 (aC (cO J6 (aC (cB 3) (aC (r2 ca (r2 ca (aM 2) (aM 5)) (aj 0)) aZ))) (aC (r2 ca (r2 ca (aM 2) (aM 5)) (aj 1)) aZ))))
 (dW (kJ (dZ (r2 (qG λi j=>decide (i<=j)) (cO L7 (aC (r2 ca (aM 2) (r2 mK (aM 5) (aj 2))) (aC (r2 ca (aM 2) (r2 mK (aM 5) (aj 1))) (aC (r2 ca (aM 2) (aM 5)) aZ)))) (aj 0))) (fI (rC (.bl false))) gQ)
 (kJ (SR (dZ (r2 Pk (r2 ca (aM 2) (r2 mK (aM 5) (aj 1))) (r2 ca (aM 2) (r2 mK (aM 5) (aj 2))))) (dZ (r2 Pk (r2 ca (aM 2) (r2 mK (aM 5) (aj 1))) (r2 ca (aM 2) (aM 5))))) (eQ 4 (r2 mV (aM 4) (aj 1))) gQ))
def xK (J6:FD) (L4:FD) (L7:FD):RS :=
 dW (kJ (qA (dZ (cO L4 (aC (cB 0) aZ)))) (fI (rC (.bl false))) gQ)
 (dW (Dk (cB 0) (pH 2 (gC (dH 1) (gC (dH 2) pG))))
 (dW (eQ 3 (cB 1))
 (dW (eQ 4 (aj 0))
 (dW (mJ (QT (aC (r1 nX (aM 2)) aZ)) (dH 5) (sV J6 L7))
 (fI (IK (r2 (oN false) (aM 3) (aj 1)) (IK (r2 (oN false) (aM 4) (aj 1)) (r2 HE (ak 2 0) (r1 Ew (aM 2))))))))))
def UL (wM:FD) (fh:FD):RS :=
 dW (eQ 2 (ak 1 1))
 (dW (eQ 3 (ak 1 2))
 (dW (eQ 4 (cO fh (aC (cO fh (aC (ak 0 0) (aC (ak 2 1) aZ))) (aC (ak 3 1) aZ))))
 (dW (eQ 5 (r2 fC (ak 1 0) (r2 jS (aM 4) (ak 0 0))))
 (dW (eQ 6 (r2 fC (ak 2 0) (r2 jS (aM 4) (ak 2 1))))
 (dW (eQ 7 (r2 fC (ak 3 0) (r2 jS (aM 4) (ak 3 1))))
 (fI (cO wM (aC (cB 4) (aC ((λa Q=>(pE (riT (ak 0 1)) 2 [5,6,7] (pH 2 (gC (dH 0) (gC (dH 1) pG))) (jW (aC (r2 mV (r2 fC (aM 2) (aM 0)) (aM 3)) (aC (r2 mV (r2 fC (aM 2) (aM 1)) (aM 4)) aZ)))) a λds=>Q (.lst ds))) aZ)))))))))
def sU (J6:FD) (J7:FD):RS :=
 dW (kJ (rOr (qA (dZ (r1 (DL "tuple") (cB 0)))) (rOr (dZ (r2 (oN true) (r1 nX (aM 0)) (aj 2))) (rOr (qA (dZ (cO J7 (aC (ak 0 0) aZ)))) (qA (dZ (cO J7 (aC (ak 0 1) aZ))))))) (fI (rC (.bl false))) gQ)
 (fI (IK (r2 (qG λi j=>decide (j<i)) (ak 0 1) (aj 0)) (r2 (oN false) (cO J6 (aC (ak 0 0) (aC (ak 0 1) aZ))) (aj 1))))
def BZ (K7:FD) (M0:FD) (J7:FD):RS :=
 dW (kJ (rOr (qA (dZ (r1 (DL "tuple") (cB 0)))) (rOr (dZ (r2 (oN true) (r1 nX (aM 0)) (aj 2))) (qA (dZ (cO M0 (aC (ak 0 0) aZ)))))) (fI (rC (.bl false))) gQ)
 (dW (eQ 1 (ak 0 1))
 (dW (kJ (rOr (qA (dZ (r1 (DL "tuple") (cB 1)))) (rOr (dZ (r2 (oN true) (r1 nX (aM 1)) (aj 3))) (rOr (qA (dZ (cO J7 (aC (ak 1 0) aZ)))) (dZ (r2 (oN true) (rCB XZ (aC (ak 1 0) aZ)) (aj 1)))))) (fI (rC (.bl false))) gQ)
 (fI (IK (cO K7 (aC (ak 1 1) aZ)) (cO K7 (aC (ak 1 2) aZ))))))
def zL (L3:FD):RS :=
 kJ (qA (dZ (cO L3 (aC (cB 1) aZ)))) (fI (rC (.bl false))) gQ
def IN (L3:FD):RS :=
 dW (kJ (qA (dZ (r1 (DL "list") (cB 0)))) (fI (rC (.bl false))) gQ)
 (dW (mJ (riL (cB 0)) (dH 1) (zL L3))
 (fI (rC (.bl true))))
def vK:RS :=
 dW (eQ 3 (r2 ca (ak 0 1) (r2 mK (aM 2) (aj 1))))
 (dW (eQ 4 (r2 ca (ak 0 1) (aM 2)))
 (eQ 1 (r2 mK (r2 mV (aM 1) (r2 fC (ak 3 0) (ak 4 1))) (r2 fC (ak 3 1) (ak 4 0)))))
def BV:RS :=
 dW (eQ 1 (aj 0))
 (dW (mJ (QT (aC (r1 nX (ak 0 1)) aZ)) (dH 2) vK)
 (fI (jW (aC (cB 1) (aC (r2 fC (ak 0 0) (ak 0 0)) aZ)))))
def sA:RS :=
 fI (jW (aC (r2 mV (r2 fC (ak 0 0) (ak 1 1)) (r2 fC (ak 1 0) (ak 0 1))) (aC (r2 fC (ak 0 1) (ak 1 1)) aZ)))
def xC (J8:FD) (L5:FD):RS :=
 eQ 1 (cO J8 (aC (cB 1) (aC (cO L5 (aC (ak 2 0) aZ)) aZ)))
def EN (J8:FD) (L5:FD):RS :=
 dW (eQ 1 (jW (aC (aj 0) (aC (aj 1) aZ))))
 (dW (mJ (riL (cB 0)) (dH 2) (xC J8 L5))
 (fI (cB 1)))
def vM:RS :=
 dW (kJ (rOr (dZ (r2 (qG λi j=>decide (i<j)) (aM 3) (aj 0))) (dZ (r2 (qG λi j=>decide (j<i)) (aM 3) (ak 0 0)))) (fI (rC (.bl false))) gQ)
 (dW (eQ 5 (r2 mK (r2 fC (aM 4) (ak 1 1)) (r2 fC (aM 3) (ak 1 0))))
 (kJ (rOr (dZ (r2 (qG λi j=>decide (i<j)) (aM 5) (aj 0))) (dZ (r2 (qG λi j=>decide (j<i)) (r2 fC (aM 5) (ak 2 1)) (r2 fC (r2 fC (ak 2 0) (ak 1 1)) (ak 0 0))))) (fI (rC (.bl false))) gQ))
def BY:RS :=
 dW (mJ (riT (ak 0 1)) (pH 2 (gC (dH 3) (gC (dH 4) pG))) vM)
 (fI (rC (.bl true)))
def zP:RS :=
 dW (eQ 3 (r2 nO (r2 fC (r2 fC (r2 mV (r2 nO (aM 0) (r2 YC (aj 10) (aj 9))) (aj 7)) (r2 mV (r2 nO (aM 0) (r2 YC (aj 10) (aj 9))) (aj 31))) (aj 48271)) (aj 2147483629)))
 (dW (eQ 4 (r2 mV (aj 1) (r2 nO (aM 3) (aj 1008))))
 (dW (eQ 5 (r2 mV (aj 1) (r2 nO (r2 nO (r2 fC (aM 3) (aj 69621)) (aj 2147483587)) (aj 9972))))
 (dW (eQ 6 (r2 fC (r2 fC (r2 fC (aj 1009) (aj 9973)) (ak 1 1)) (ak 2 1)))
 (fI (jW (aC (r2 fC (r2 fC (r2 fC (aM 4) (aj 9973)) (ak 1 1)) (ak 2 1)) (aC (r2 mV (r2 fC (r2 fC (r2 fC (aM 4) (ak 1 0)) (aj 9973)) (ak 2 1)) (r2 fC (r2 fC (r2 fC (aM 5) (ak 2 0)) (aj 1009)) (ak 1 1))) (aC (cB 6) aZ))))))))
def xL (K6:FD) (J5:FD):RS :=
 dW (eQ 4 (r2 mV (aj 1) (cO K6 (aC (r2 jS (aM 0) (aj 18)) (aC (aj 3) (aC (cB 3) aZ))))))
 (dW (eQ 5 (r2 mV (aj 1) (r2 nO (cO K6 (aC (r2 jS (aM 0) (aj 35)) (aC (aj 4) (aC (cB 3) aZ)))) (aj 3))))
 (EL 2 (cO J5 (aC (r2 mV (r2 fC (r2 ca (r2 ca (aM 2) (r1 yN (aj 1))) (aj 0)) (aM 5)) (r2 fC (aM 4) (r2 ca (r2 ca (aM 2) (r1 yN (aj 1))) (aj 1)))) (aC (r2 fC (r2 ca (r2 ca (aM 2) (r1 yN (aj 1))) (aj 1)) (aM 5)) aZ)))))
def ET (K6:FD) (J5:FD):RS :=
 dW (uS 2 (sM (aC (cO J5 (aC (r2 mK (r2 nO (aM 0) (aj 9)) (aj 4)) (aC (r2 mV (aj 1) (r2 nO (r2 jS (aM 0) (aj 9)) (aj 2))) aZ))) aZ)))
 (dW (mJ (QT (aC (r2 mK (aM 1) (aj 1)) aZ)) (dH 3) (xL K6 J5))
 ((λE a=>(fI (cB 2)) E (wE 2 a))))
def CC (J5:FD):RS :=
 dW (eQ 1 (r2 ca ((λa Q=>(sM (aC (aj 9) (aC (r2 YC (aj 10) (aj 30)) aZ))) a λds=>Q (.lst ds))) (r2 nO (r2 jS (aM 0) (aj 2)) (aj 2))))
 (dW (eQ 2 (cO J5 (aC (r2 mK (r2 nO (r2 fC (r2 nO (r2 fC (aM 0) (aj 48271)) (aj 1000000007)) (aj 69621)) (r2 mV (r2 fC (aj 2) (aM 1)) (aj 1))) (aM 1)) (aC (r2 mV (aj 1) (r2 nO (r2 jS (aM 0) (aj 4)) (aj 4))) aZ))))
 (dW (eQ 3 (cO J5 (aC (r2 mK (r2 nO (aM 0) (r2 mV (r2 fC (aj 2) (aM 1)) (aj 1))) (aM 1)) (aC (r2 mV (aj 1) (r2 nO (r2 jS (aM 0) (aj 16)) (aj 3))) aZ))))
 (fI (jW (aC (r2 mK (aj 1) (r2 fC (aj 2) (r2 nO (aM 0) (aj 2)))) (aC (cB 2) (aC (cB 3) aZ)))))))
def IP:RS :=
 dW (kJ (dZ (r2 (qG λi j=>decide (i<j)) (aM 1) (r1 nX (aM 0)))) (fI (r2 nO (r2 ca (aM 0) (aM 1)) (r2 mV (r2 YC (aj 10) (aj 60)) (aj 7)))) gQ)
 (fI (aj 0))
def QO (AN:FD) (AQ:FD) (tU:FD):RS :=
 fI (jW (aC (cO AQ (aC (ak 0 0) (aC (cB 1) aZ))) (aC (cO AN (aC (cO tU (aC (cB 1) aZ)) (aC (ak 0 1) aZ))) aZ)))
def CD (K3:FD):RS :=
 dW (Dk (cB 0) (pH 2 (gC (dH 1) (gC (dH 2) pG))))
 (dW (Dk (cB 2) (pH 3 (gC (dH 3) (gC (dH 4) (gC (dH 5) pG)))))
 (dW (eQ 6 (r2 fC (ak 4 1) (ak 5 1)))
 (dW (eQ 7 (r2 fC (r2 fC (ak 4 0) (ak 5 1)) (ak 1 0)))
 (dW (eQ 8 (r2 fC (r2 fC (ak 5 0) (ak 4 1)) (ak 1 0)))
 (fI (cO K3 (aC (r2 fC (ak 1 0) (aM 6)) (aC ((λa Q=>(pE (riT (ak 1 1)) 2 [3,6,7,8] (pH 2 (gC (dH 0) (gC (dH 1) pG))) (jW (aC (r2 mV (r2 fC (r2 fC (aM 2) (aM 0)) (aM 3)) (aM 4)) (aC (r2 mV (r2 fC (r2 fC (aM 2) (aM 1)) (aM 3)) (aM 5)) aZ)))) a λds=>Q (.lst ds))) aZ))))))))
def UK (ot:FD):RS :=
 fI (cO ot (aC (cB 0) (aC (jW (aC (aj 1) (aC (jW (aC (aj 0) (aC (aj 1) aZ))) (aC (cB 1) aZ)))) aZ)))
def zM (K3:FD):RS :=
 dW (eQ 3 (r2 fC (r2 ca (aM 0) (rC (.int 1))) (r2 ca (aM 1) (rC (.int 1)))))
 (dW (eQ 4 (r2 fC (r2 ca (aM 0) (rC (.int 0))) (r2 ca (aM 1) (rC (.int 1)))))
 (dW (eQ 5 (r2 fC (r2 ca (aM 1) (rC (.int 0))) (r2 ca (aM 0) (rC (.int 1)))))
 (dW (kJ (dZ (r2 (qG λi j=>decide (i<j)) (aM 2) (rC (.int 3)))) (dW (eQ 6 (jW (aC (rC (.int 0)) (aC (rC (.int 0)) aZ))))
 (dW (eQ 7 (jW (aC (cB 3) (aC (cB 4) aZ))))
 (dW (eQ 8 (jW (aC (cB 3) (aC (r2 mV (aM 4) (aM 5)) aZ))))
 (dW (eQ 9 (jW (aC (rC (.int 0)) (aC (cB 5) aZ))))
 (dW (kJ (dZ (r2 (oN false) (aM 2) (rC (.int 0)))) (fI ((λa Q=>(sM (aC (cO K3 (aC (cB 3) (aC ((λa Q=>(sM (aC (cB 6) (aC (cB 7) (aC (cB 8) (aC (cB 9) aZ))))) a λds=>Q (.lst ds))) aZ))) aZ)) a λds=>Q (.lst ds)))) gQ)
 (dW (kJ (dZ (r2 (oN false) (aM 2) (rC (.int 1)))) (fI ((λa Q=>(sM (aC (cO K3 (aC (cB 3) (aC ((λa Q=>(sM (aC (cB 6) (aC (cB 7) (aC (cB 8) aZ)))) a λds=>Q (.lst ds))) aZ))) (aC (cO K3 (aC (cB 3) (aC ((λa Q=>(sM (aC (cB 6) (aC (cB 8) (aC (cB 9) aZ)))) a λds=>Q (.lst ds))) aZ))) aZ))) a λds=>Q (.lst ds)))) gQ)
 (fI ((λa Q=>(sM (aC (cO K3 (aC (cB 3) (aC ((λa Q=>(sM (aC (cB 6) (aC (cB 7) (aC (cB 9) aZ)))) a λds=>Q (.lst ds))) aZ))) (aC (cO K3 (aC (cB 3) (aC ((λa Q=>(sM (aC (cB 7) (aC (cB 8) (aC (cB 9) aZ)))) a λds=>Q (.lst ds))) aZ))) aZ))) a λds=>Q (.lst ds)))))))))) gQ)
 (dW (eQ 10 ((λa Q=>(sM (aC (jW (aC (cB 3) (aC (cB 4) aZ))) (aC (jW (aC (cB 3) (aC (r2 mV (aM 4) (r2 fC (rC (.int 3)) (aM 5))) aZ))) aZ))) a λds=>Q (.lst ds))))
 (dW (eQ 11 (cO K3 (aC (r2 fC (rC (.int 3)) (aM 3)) (aC ((λa Q=>(sM (aC (jW (aC (rC (.int 0)) (aC (rC (.int 0)) aZ))) (aC (r2 ca (aM 10) (rC (.int 0))) (aC (r2 ca (aM 10) (rC (.int 1))) (aC (jW (aC (rC (.int 0)) (aC (r2 fC (rC (.int 3)) (aM 5)) aZ))) aZ))))) a λds=>Q (.lst ds))) aZ))))
 (fI ((λa Q=>(sM (aC (cB 11) (aC (cO K3 (aC (r2 fC (rC (.int 3)) (aM 3)) (aC ((λa Q=>(sM (aC (r2 ca (aM 10) (rC (.int 0))) (aC (jW (aC (r2 fC (rC (.int 3)) (aM 3)) (aC (r2 fC (rC (.int 3)) (aM 4)) aZ))) (aC (jW (aC (r2 fC (rC (.int 3)) (aM 3)) (aC (r2 mV (r2 fC (rC (.int 3)) (aM 4)) (r2 fC (rC (.int 3)) (aM 5))) aZ))) (aC (r2 ca (aM 10) (rC (.int 1))) aZ))))) a λds=>Q (.lst ds))) aZ))) aZ))) a λds=>Q (.lst ds)))))))))
def xF (K5:FD):RS :=
 EL 7 (jW (aC (cB 8) (aC (cO K5 (aC (r2 mV (r2 mV (r2 jS (aM 4) (aj 52)) (r2 fC (aj 977) (aM 3))) (r2 fC (aj 31) (r1 nX (aM 7)))) aZ)) aZ)))
def xG (J9:FD) (K8:FD) (J5:FD) (K5:FD):RS :=
 dW (eQ 4 (cO J9 (aC (cB 0) (aC (cB 3) aZ))))
 (dW (eQ 5 (r2 nO (aM 4) (r1 nX (aM 1))))
 (dW (kJ (dZ (r2 (oN false) (r2 nO (cO J9 (aC (cB 0) (aC (aj 1) aZ))) (aj 2)) (aj 1))) (eQ 5 (r2 nO (r2 jS (cO J9 (aC (cB 0) (aC (aj 1) aZ))) (aj 2)) (r1 nX (aM 1)))) gQ)
 (dW (eQ 6 (cO J5 (aC (r2 mV (aj 1) (r2 nO (r2 jS (aM 4) (aj 7)) (aj 6))) (aC (r2 mV (aj 1) (r2 nO (r2 jS (aM 4) (aj 11)) (aj 2))) aZ))))
 (dW (uS 7 (sM aZ))
 (dW (mJ (riL (cO K8 (aC (r2 ca (aM 1) (aM 5)) (aC (cB 6) (aC (r2 nO (r2 jS (aM 4) (aj 13)) (aj 4)) aZ))))) (dH 8) (xF K5))
 ((λE a=>(EL 2 (jW (aC (cB 5) (aC (cB 6) (aC (cB 7) aZ))))) E (wE 7 a))))))))
def EQ (J9:FD) (K8:FD) (J5:FD) (K5:FD):RS :=
 dW (uS 2 (sM aZ))
 (dW (mJ (Sb (aC (aj 2) (aC (rCB YB (aC (r1 nX (aM 0)) (aC (aj 7) aZ))) aZ))) (dH 3) (xG J9 K8 J5 K5))
 ((λE a=>(fI (cB 2)) E (wE 2 a))))
def LS:RS :=
 dW (Dk (cB 0) (pH 3 (gC (dH 2) (gC (dH 3) (gC (dH 4) pG)))))
 (dW (eQ 5 (r2 fC (r2 mV (r2 fC (r2 fC (aM 2) (ak 1 0)) (ak 3 1)) (r2 fC (ak 3 0) (ak 1 2))) (ak 4 1)))
 (dW (eQ 6 (r2 fC (r2 mV (r2 fC (r2 fC (aM 2) (ak 1 1)) (ak 4 1)) (r2 fC (ak 4 0) (ak 1 2))) (ak 3 1)))
 (fI (jW (aC (cB 5) (aC (cB 6) (aC (r2 fC (r2 fC (ak 1 2) (ak 3 1)) (ak 4 1)) aZ)))))))
def sT (L8:FD) (L6:FD):RS :=
 dW (eQ 5 (cO L6 (aC (cB 3) (aC (cB 1) aZ))))
 (dW (kJ (dZ (r2 (oN false) (aM 5) (aj 0))) (fI (rC .non)) gQ)
 (kJ (dZ (r2 (oN false) (aM 5) (aj 1))) (EL 2 (cO L8 (aC (cB 4) (aC (cB 1) aZ)))) gQ))
def xJ (L8:FD) (L6:FD):RS :=
 dW (uS 2 (sM aZ))
 (dW (mJ (riL (cB 0)) (pH 2 (gC (dH 3) (gC (dH 4) pG))) (sT L8 L6))
 ((λE a=>(fI (cB 2)) E (wE 2 a))))
def vL (K4:FD) (K9:FD):RS :=
 dW (eQ 4 (cO K4 (aC (ak 0 2) (aC (cO K9 (aC (cB 3) (aC (cB 1) (aC (ak 0 1) aZ)))) aZ))))
 (kJ (SR (dZ (r2 (VM true) (aM 4) (rC .non))) (dZ (r2 (oN true) (r1 nX (aM 4)) (aj 1)))) (fI (rC (.bl false))) gQ)
def BX (K4:FD) (K9:FD):RS :=
 dW (mJ (riL (cB 2)) (dH 3) (vL K4 K9))
 (fI (rC (.bl true)))
def LU (e_:FD) (oV:FD) (iI:FD):RS :=
 dW (eQ 5 (cO iI (aC (cB 4) (aC (cB 1) aZ))))
 (dW (IL 3 ((λa Q=>(pE (riL (ak 5 1)) 1 [2] (dH 0) (cO e_ (aC (cB 0) (aC (cB 1) aZ)))) a λds=>Q (.lst ds))))
 (eQ 2 (cO oV (aC (cB 2) (aC (ak 5 0) aZ)))))
def Ax (e_:FD) (oV:FD) (wN:FD) (iI:FD):RS :=
 dW (eQ 2 (jW (aC (aj 0) (aC (aj 1) aZ))))
 (dW (uS 3 (sM aZ))
 (dW (mJ (riL (cO wN (aC (cB 0) aZ))) (dH 4) (LU e_ oV iI))
 ((λE a=>(fI (jW (aC (cB 2) (aC (cB 3) aZ)))) E (wE 3 a)))))
def ES (M2:FD):RS :=
 fI ((λa Q=>(Dr ((λa Q=>(pE (riL (cB 0)) 1 [] (dH 0) (cO M2 (aC (cB 0) aZ))) a λds=>Q (.lst ds)))) a λds=>Q (.lst ds)))
def EX (e_:FD) (oV:FD):RS :=
 dW (IL 2 ((λa Q=>(pE (riL (ak 3 2)) 1 [1] (dH 0) (cO e_ (aC (cB 0) (aC (cB 1) aZ)))) a λds=>Q (.lst ds))))
 (eQ 1 (cO oV (aC (cB 1) (aC (ak 3 1) aZ))))
def QS (e_:FD) (oV:FD):RS :=
 BU (eQ 1 (jW (aC (aj 0) (aC (aj 1) aZ))))
 (BU (uS 2 (sM aZ))
 (BU (mJ (riL (cB 0)) (dH 3) (EX e_ oV))
 ((λE a=>(fI (jW (aC (Dp (r2 ca (ak 0 0) (aj 0))) (aC (Dp (cB 1)) (aC (xf 2) aZ))))) E (Ci 2 a)))))
def zQ:RS :=
 Fz 1 (ak 2 0) (cB 2)
def IR (CL:FD):RS :=
 BU (Nl 1)
 (BU (mJ (riL (cB 0)) (dH 2) zQ)
 ((λE a=>(Np (KR (riL ((λa Q=>(Dq ((λa Q=>(Do (cB 1)) a λds=>Q (.lst ds)))) a λds=>Q (.lst ds)))) 1 [1] (dH 0) Ix (Dl CL (aC (r2 Pj (cB 1) (cB 0)) aZ)))) E (wE 1 a))))
def xD (L1:FD):RS :=
 kJ (qA (dZ (cO L1 (aC (ak 9 0) (aC (cB 3) (aC (cB 4) aZ)))))) (fI (rC (.bl false))) gQ
def xE (J8:FD):RS :=
 kJ (dZ (r2 ON (aM 6) (aM 1))) (dW (eQ 4 (cO J8 (aC (cB 4) (aC (cB 7) aZ))))
 (eQ 5 (r2 OM (aM 5) (aM 8)))) gQ
def EO (J8:FD) (M3:FD) (M6:FD) (J5:FD) (L9:FD) (L1:FD) (J7:FD):RS :=
 dW (kJ (rOr (qA (dZ (r1 (DL "tuple") (cB 0)))) (rOr (dZ (r2 (oN true) (r1 nX (aM 0)) (aj 3))) (rOr (qA (dZ (cO J7 (aC (ak 0 0) aZ)))) (dZ (r2 dNe (ak 0 0) (aM 1)))))) (fI (rC (.bl false))) gQ)
 (dW (eQ 4 (jW (aC (aj 0) (aC (aj 1) aZ))))
 (dW (eQ 5 ((λa Q=>(sM aZ) a λds=>Q (.lst ds))))
 (dW (mJ (riL (cB 2)) (pH 3 (gC (dH 6) (gC (dH 7) (gC (dH 8) pG)))) (xE J8))
 (dW (kJ (rOr (dZ (r2 dNe (ak 0 1) (cO J5 (aC (ak 4 0) (aC (ak 4 1) aZ))))) (rOr (qA (dZ (cO M6 (aC (ak 0 2) aZ)))) (dZ (r2 (oN true) (r1 nX (ak 0 2)) (r1 nX (aM 5)))))) (fI (rC (.bl false))) gQ)
 (dW (mJ (riL (ak 0 2)) (dH 9) (xD L1))
 (dW (eQ 10 (cO M3 (aC (ak 0 2) aZ)))
 (fI (IK (r2 (oN false) (r2 fC (ak 10 0) (ak 4 1)) (r2 fC (r2 fC (aj 2) (ak 4 0)) (ak 10 1))) (r2 ON (cO L9 (aC (ak 0 2) aZ)) (cO L9 (aC (cB 5) aZ)))))))))))
def QP (M7:FD) (M4:FD) (J9:FD) (M1:FD) (M5:FD) (wN:FD):RS :=
 vJ (eQ 1 (cO M5 (aC (r2 jS (cO J9 (aC (cB 0) (aC (aj 0) aZ))) (aj 4)) (aC (r2 mV (aj 1) (r2 nO (cO J9 (aC (cB 0) (aC (aj 0) aZ))) (aj 4))) aZ))))
 (vJ (eQ 2 (cO M4 (aC (cB 0) (aC (cB 1) aZ))))
 (vJ (uS 3 (pE (riL (cB 2)) 3 [] (pH 3 (gC (dH 0) (gC (dH 1) (gC (dH 2) pG)))) (jW (aC (cB 0) (aC (cB 1) (aC (r1 HG (aM 2)) aZ))))))
 (vJ ((λE a=>(Nq 4 wN (aC (cB 3) aZ)) E (wE 3 a)))
 (vJ (eQ 5 ((λa Q=>(KU ((λa Q=>(pE (riL (cB 2)) 1 [] (dH 0) (ak 0 0)) a λds=>Q (.lst ds)))) a λds=>Q (.lst ds))))
 (vJ (kJ (rOr (qA (dZ (r1 (DL "list") (cB 4)))) (dZ (r2 (oN true) (r1 nX (aM 4)) (r1 nX (aM 5))))) (fI (rC (.bl false))) gQ)
 (Tq 4 5 6 7 (vJ (kJ (qA (dZ (cO M7 (aC (cB 6) (aC (cB 7) (aC (cB 2) (aC (r2 ca (aM 1) (aM 7)) aZ))))))) (fI (rC (.bl false))) gQ) (kJ (qA (dZ (cO M1 (aC (cB 6) (aC (r2 ca (aM 1) (aM 7)) (aC ((λa Q=>(Au (aM 0) (EM (aj 2)) (EM (aj 8))) a λds=>Q (.lst ds))) aZ)))))) (fI (rC (.bl false))) gQ))
 (fI (r2 ON (aM 3) (aM 2)))))))))
def zR (h_:FD):RS :=
 IL 2 (cO h_ (aC (cB 3) (aC (ak 0 1) aZ)))
def IS (h_:FD):RS :=
 BU (uS 2 (sM aZ))
 (BU (mJ (riL (ak 0 2)) (dH 3) (zR h_))
 ((λE a=>(fI (jW (aC (Dp (ak 0 1)) (aC (xf 2) aZ)))) E (Ci 2 a))))
def Yd {α:Type} (x:α) (xs:List α):ik (x::xs) 0=some x:=by
 unfold ik me;simp
def Ye {α:Type} (x y:α) (xs:List α):ik (x::y::xs) 1=some y:=by
 unfold ik me;rw[if_pos (by decide),if_pos (by simp only[cD];lia)];rfl
def Yf {α:Type} (x y z:α) (xs:List α):ik (x::y::z::xs) 2=some z:=by
 unfold ik me;rw[if_pos (by decide),if_pos (by simp only[cD];lia)];rfl
def By {α:Type} {xs:List α} {i:Int} {j:Nat} {x:α} (h:i=(j:Int)) (e:xs[j]? = some x):ik xs i=some x:=by
 subst h;exact Ek e
def Ui:HE x y Q=(match c4 6 x y with | some b=>Q (.bl b) | none=>False):=rfl
def BL.const {n:Nat} (h:i.natAbs<2 ^ n:=by decide):BL n i:=h
def QH (h:0<=j/\j<=1000000/\i.natAbs<2 ^ 64:=by decide):t4 i j:=⟨h⟩
def lV (h:j≠0:=by decide):tz j:=⟨h⟩
def Fl {n:Nat} (h:n<=1000):n<=sizeLine:=eJ h (by decide)
def mW:ca (.tup (x::xs)) (.int 0) Q=Q x:=by simp only[ca,Yd]
def lP:ca (.tup (x::y::xs)) (.int 1) Q=Q y:=by simp only[ca,Ye]
def qT:ca (.tup (x::y::z::xs)) (.int 2) Q=Q z:=by simp only[ca,Yf]
def yM (e:ik xs i=some x) (h:Q x):ca (.lst xs) (.int i) Q:=by simp only[ca,e];exact h
def Eu (h0:0<=i) (h1:i<xs.length) (h:∀x,x∈xs->Q x):ca (.lst xs) (.int i) Q:=by
 have hj:i.toNat<xs.length:=by lia
 exact yM (By (j:=i.toNat) (by lia) (aD hj)) (h _ (oF hj))
def sK {xs:List D} {k:Nat} {x:D} {Q:D->Prop} (e:xs[k]? = some x):ca (.lst xs) (.int (k:Int)) Q=Q x:=by simp only[ca,Ek e]
def YA:ca (.lst (a0::r)) (.int 0) Q=Q a0:=sK (k:=0) rfl
def Kc:ca (.lst (a0::a1::r)) (.int 1) Q=Q a1:=sK (k:=1) rfl
def Kd:ca (.lst (a0::a1::a2::r)) (.int 2) Q=Q a2:=sK (k:=2) rfl
def Ke:ca (.lst (a0::a1::a2::a3::r)) (.int 3) Q=Q a3:=sK (k:=3) rfl
def Kf:ca (.lst (a0::a1::a2::a3::a4::r)) (.int 4) Q=Q a4:=sK (k:=4) rfl
def Kg:ca (.lst (a0::a1::a2::a3::a4::a5::r)) (.int 5) Q=Q a5:=sK (k:=5) rfl
def Kh:ca (.lst (a0::a1::a2::a3::a4::a5::a6::r)) (.int 6) Q=Q a6:=sK (k:=6) rfl
def Ki:ca (.lst (a0::a1::a2::a3::a4::a5::a6::a7::r)) (.int 7) Q=Q a7:=sK (k:=7) rfl
def Kj:ca (.lst (a0::a1::a2::a3::a4::a5::a6::a7::a8::r)) (.int 8) Q=Q a8:=sK (k:=8) rfl
def Kk:ca (.lst (a0::a1::a2::a3::a4::a5::a6::a7::a8::a9::r)) (.int 9) Q=Q a9:=sK (k:=9) rfl
def Gx:ca (.lst (a0::a1::a2::a3::a4::a5::a6::a7::a8::a9::Z0::r)) (.int 10) Q=Q Z0:=sK (k:=10) rfl
def Gy:ca (.lst (a0::a1::a2::a3::a4::a5::a6::a7::a8::a9::Z0::a11::r)) (.int 11) Q=Q a11:=sK (k:=11) rfl
def hU (n:Nat) (ds:List D):En:=ds.map (λd=>aa d)++eO n none
def cS (n:Nat) (h:N.length=ds.length+n):dR N ds=hU n ds:=by
 unfold dR hU;rw[h,Nat.add_sub_cancel_left]
def Ve:ZA "int" (.int i)=some true:=rfl
def Vc:ZA "bool" (.int i)=some false:=rfl
def Vd:ZA "int" (.bl i)=some true:=rfl
def Vb:ZA "bool" (.bl i)=some true:=rfl
def Vf:ZA "tuple" (.tup xs)=some true:=rfl
def Zq {α:Type} {x:α}:eO 0 x=[]:=rfl
def SS {α:Type} {x:α}:eO 1 x=[x]:=rfl
def Iy {α:Type} {x:α}:eO 2 x=[x,x]:=rfl
def Nx {α:Type} {x:α}:eO 3 x=[x,x,x]:=rfl
def Dv {α:Type} {x:α}:eO 4 x=[x,x,x,x]:=rfl
def Ry {α:Type} {x:α}:eO 5 x=[x,x,x,x,x]:=rfl
def Zu {α:Type} {x:α}:eO 6 x=[x,x,x,x,x,x]:=rfl
def Rz {α:Type} {x:α}:eO 7 x=[x,x,x,x,x,x,x]:=rfl
def Wu {α:Type} {x:α}:eO 8 x=[x,x,x,x,x,x,x,x]:=rfl
def Zv {α:Type} {x:α}:eO 9 x=[x,x,x,x,x,x,x,x,x]:=rfl
def Zr {α:Type} {x:α}:eO 10 x=[x,x,x,x,x,x,x,x,x,x]:=rfl
def Zs {α:Type} {x:α}:eO 11 x=[x,x,x,x,x,x,x,x,x,x,x]:=rfl
def Zt {α:Type} {x:α}:eO 12 x=[x,x,x,x,x,x,x,x,x,x,x,x]:=rfl
def sz2:Sz (0+1+1):=⟨by decide⟩
def sz3:Sz (0+1+1+1):=⟨by decide⟩
def sz4:Sz (0+1+1+1+1):=⟨by decide⟩
def sz1:Sz (0+1):=⟨by decide⟩
def sz0:Sz 0:=⟨by decide⟩
local macro_rules | `(tactic| walk_at "rd")=>do
 let a <- ("Dp BU vJ S.fz Nl IL Yi dW gQ fI Zp kJ eQ uS Ws Dk dH pH gC pG cB aM rC r2 r1 dZ SR rOr qA IK E8 Nn rIf aZ aC jW sM cO rCB IM EM Au mJ F6 riL riT QT Sb Wv pE wT yJ VH wE EL Ga Wt F5 Wz Nr OM HG OO C9 dNe Dm Zw Zx mV mK fC jS nO YC yN qG oN VM Ui TV mW lP qT YA Kc Kd Ke Kf Kg Kh Ki Kj Kk Gx Gy XZ Kb Yh YB nX DL Ve Vc Vd Vb Vf S.val hU Zq SS Iy Nx Dv Ry Zu Rz Wu Zv Zr Zs Zt aQ bZ bI bV cD eK aE aH aR aV dN DR Bool.or_true RK Bool.true_or eY nQ if_true if_false aN sz0 sz1 sz2 sz3 sz4 true_and decide_eq_true_eq Int.reduceToNat Int.reducePow Int.reduceMul Int.reduceSub Int.reduceAdd Int.reduceNeg".splitOn " ").toArray.mapM λx=>`(Lean.Parser.Tactic.simpLemma| $(Lean.mkIdent x.toName):term)
 `(tactic| simp only[$a,*])
local macro_rules | `(tactic| walk_at "side")=>`(tactic| first | exact QH | exact lV | exact (BL.const (n:=9000) (by decide)).divOk (by decide) | exact (BL.const (n:=300) (by decide)).mulOk (BL.const (n:=300) (by decide)))
local macro_rules | `(tactic| walk_at "sides")=>`(tactic| repeat (refine And.intro (by walk_at "side") ?_))
def GW (i:Int):(if i<0 then -i else i)=((i.natAbs:Nat):Int):=by split <;> lia
def TU (x y:Nat):((x:Nat):Int).fmod (y:Nat)=((x % y:Nat):Int):=by
 rw[Int.fmod_eq_emod_of_nonneg _ (Int.natCast_nonneg y)];exact (Int.natCast_emod x y).symm
def AO:FD:=λds Q=>∃a b:Int,ds=[.int a,.int b]/\Q (.int (cJ a b:Nat))
theorem KC (E:jd):∀(y x:Nat),E.nx [aa (.int (Nat.gcd x y:Nat)),aa (.int (0:Nat))] ->
  GA (dZ (r2 (qG λi j=>decide (j<i)) (aM 1) (aj 0))) qB E [aa (.int (x:Nat)),aa (.int (y:Nat))]:=by
 intro y
 induction y using MF with
 | ind y ih =>
  intro x h;cases uB y with
  | inl hy =>
   subst hy;refine⟨1,?_⟩;unfold rB;walk_at "rd";rw[if_neg (by decide)];rw[FP] at h;exact h
  | inr hy =>
   have h2:=ih (x % y) (jK x hy) y (by
    rw[xX y,<-Nat.gcd_rec,xX];exact h)
   obtain⟨n,hn⟩:=h2;refine⟨n+1,?_⟩;unfold rB qB;walk_at "rd";rw[if_pos (by lia)];refine⟨⟨by lia⟩,?_⟩;rw[TU];exact hn
def KQ:∀ds Q,AO ds Q->zN { nx:=λ_=>Q .non,rt:=Q } (dR ["_law_one","_law_other"] ds):=by
 rintro ds Q ⟨a,b,rfl,q⟩;rw[cS 0 rfl];unfold zN;walk_at "rd";rw[GW,GW];refine KC _ _ _ ?_;walk_at "rd";exact q
theorem DM (E:jd) (u v:Option S):∀(y x:Nat) (r:Option S),(∀r,E.nx [u,v,aa (.int (Nat.gcd x y:Nat)),aa (.int (0:Nat)),r]) ->
  GA (dZ (r2 (oN true) (aM 3) (aj 0))) oA E [u,v,aa (.int (x:Nat)),aa (.int (y:Nat)),r]:=by
 intro y
 induction y using MF with
 | ind y ih =>
  intro x r h;cases uB y with
  | inl hy =>
   subst hy;refine⟨1,?_⟩;unfold rB;walk_at "rd";rw[if_neg (by simp)];rw[FP] at h;exact h r
  | inr hy =>
   obtain⟨n,hn⟩:=ih (x % y) (jK x hy) y (aa (.int ((x % y:Nat)))) (by
    rw[xX y,<-Nat.gcd_rec,xX];exact h)
   refine⟨n+1,?_⟩;unfold rB oA;walk_at "rd";rw[if_pos (by simp;lia)];refine⟨⟨by lia⟩,?_⟩;rw[TU];exact hn
def DQ:∀ds Q,AO ds Q->vO { nx:=λ_=>Q .non,rt:=Q } (dR ["one","other","larger","smaller","rest"] ds):=by
 rintro ds Q ⟨a,b,rfl,q⟩;rw[cS 3 rfl];unfold vO;walk_at "rd";rw[GW,GW];refine DM _ _ _ _ _ _ λr=>?_;walk_at "rd";exact q
abbrev fr (a b:Int):D:=.tup [.int a,.int b]
def MT (h:b≠0):0<(cJ a b:Int):=by
 have:0<cJ a b:=Int.gcd_pos_of_ne_zero_right a h;lia
def BL.gcd {n:Nat} (hb:b≠0) (h:BL n b):BL n (cJ a b:Int):=by
 refine h.le ?_;rw[Int.natAbs_natCast];exact vY (by lia) (Int.gcd_dvd_natAbs_right a b)
structure m9 (a b p q:Int):Prop where
 pos:0<q
 cop:cJ p q=1
 worth:p*b=a*q
 lea:p.natAbs<=a.natAbs
 leb:q.natAbs<=b.natAbs
def WH (hb:0<b):m9 a b (a.fdiv (cJ a b:Nat)) (b.fdiv (cJ a b:Nat)):=by
 have hg:0<(cJ a b:Int):=MT (by lia);have ea:((cJ a b:Nat):Int)∣a:=mB ..;have eb:((cJ a b:Nat):Int)∣b:=lK ..;rw[dC _ (by lia),dC _ (by lia)];have e1:a / (cJ a b:Int)*(cJ a b:Int)=a:=DD ea;have e2:b / (cJ a b:Int)*(cJ a b:Int)=b:=DD eb;have hc:cJ (a / (cJ a b:Int)) (b / (cJ a b:Int))=1:=uW (by lia);generalize (cJ a b:Int)=g at *;generalize a / g=p at *;generalize b / g=q at *;subst e1 e2;refine⟨?_,hc,by rw[lU,fL q g],?_,?_⟩
 ·exact jQ hb (by lia)
 ·rw[iX];exact jR _ (by lia)
 ·rw[iX];exact jR _ (by lia)
def Qu (hb:b<0):m9 a b (a.fdiv (-(cJ a b:Nat))) (b.fdiv (-(cJ a b:Nat))):=by
 have h:=WH (a:=-a) (b:=-b) (by lia);have e:cJ (-a) (-b)=cJ a b:=by rw[Int.neg_gcd,Int.gcd_neg]
 rw[e] at h;have f:∀x g:Int,(-x).fdiv g=x.fdiv (-g):=λx g=>by
  have:=Int.neg_fdiv_neg (-x) g;rw[Int.neg_neg] at this;exact this.symm
 rw[f,f] at h;refine⟨h.pos,h.cop,?_,by have:=h.lea;lia,by have:=h.leb;lia⟩;have w:=h.worth;rw[Int.mul_neg,Int.neg_mul] at w;exact Int.neg_inj.mp w
def GJ:FD:=λds Q=>∃a b:Int,ds=[.int a,.int b]/\(b≠0/\BL 9000 b)/\∀p q,m9 a b p q->Q (fr p q)
def Di:∀ds Q,GJ ds Q->Aw AO { nx:=λ_=>Q .non,rt:=Q } (dR ["top","bottom","divisor"] ds):=by
 rintro ds Q ⟨a,b,rfl,⟨h0,hb⟩,q⟩;rw[cS 1 rfl];unfold Aw;walk_at "rd";rw[if_neg h0];refine⟨a,b,rfl,?_⟩;have hg:=MT (a:=a) h0;have bg:=BL.gcd (a:=a) h0 hb;walk_at "rd";split
 ·rename_i c9;refine⟨bg.neg.divOk (by lia),bg.neg.divOk (by lia),q _ _ (Qu c9)⟩
 ·rename_i c9;refine⟨bg.divOk (by lia),bg.divOk (by lia),q _ _ (WH (by lia))⟩
def Xx (f:Int->Int->Int->Int->Int):FD:=λds Q=>∃a b c d:Int,ds=[fr a b,fr c d]/\(0<b/\0<d)/\(BL 4000 a/\BL 4000 b/\BL 4000 c/\BL 4000 d)/\∀p q,m9 (f a b c d) (b*d) p q->Q (fr p q)
abbrev oV:FD:=Xx λa b c d=>a*d+c*b
def Iv:∀ds Q,oV ds Q->Gb GJ { nx:=λ_=>Q .non,rt:=Q } (dR ["one","other"] ds):=by
 rintro ds Q ⟨a,b,c,d,rfl,⟨h1,h2⟩,⟨ba,bb,bc,bd⟩,q⟩;rw[cS 0 rfl];unfold Gb;walk_at "rd";refine⟨ba.mulOk bd,bc.mulOk bb,bb.mulOk bd,_,_,rfl,⟨Int.ne_of_gt (aL h1 h2),(bb.mul bd).mono⟩,q⟩
def SZ:FD:=λds Q=>∃a b:Int,ds=[.int a,.int b]/\(0<b/\BL 9000 b)/\∀p q,m9 a b p q->Q (fr p q)
def CM:FD:=λds Q=>∃a:Int,ds=[.int a]/\Q (.bl true)
def QL:∀ds Q,CM ds Q->EU { nx:=λ_=>Q .non,rt:=Q } (dR ["_law_found"] ds):=by
 rintro ds Q ⟨a,rfl,q⟩;rw[cS 0 rfl];unfold EU;walk_at "rd";exact q
def eZ {a b:Int} (h:0<b):0<=a.fmod b/\a.fmod b<b:=⟨Int.fmod_nonneg_of_pos a h,Int.fmod_lt_of_pos a h⟩
def Qn:∀ds Q,Jj 63 ds Q->ds.length=1:=by rintro ds Q ⟨a,rfl,_⟩;rfl
theorem jT (J:List D->En->Prop)
  (step:∀x xs a,J (x::xs) a->∀F:jd,F.rt=E.rt->F.bk=E.nx->(∀a',J xs a'->F.nx a')->(∀a',J xs a'->F.ct a')->g x a λa1=>t F a1) (last:∀a,J [] a->E.nx a):∀xs a,J xs a->YR g t xs E a
 | [],a,h=>last a h
 | x::xs,a,h=>step x xs a h _ rfl rfl (λa' h'=>jT J step last xs a' h') λa' h'=>jT J step last xs a' h'
theorem XW {α:Type} (R:En->Prop) (k8 f:α->D):∀(src:List α) {Q:List D->Prop},(∀a∈src,∀c,R c->∀K:En->D->Prop,(∀c1,R c1->K c1 (f a))->g (k8 a) c λc1=>te c1 λd=>K c1 d) ->
  ∀(c:En) (acc:List D),R c->Q (acc++src.map f)->wT g te (src.map k8) c acc Q
 | [],Q,_,c,acc,_,q=>by
  show Q acc;simpa using q
 | a::src,Q,step,c,acc,h,q=>by
  show g (k8 a) c λc'=>te c' λd=>wT g te (src.map k8) c' (acc++[d]) Q;refine step a cF c h (λc1 d=>wT g te (src.map k8) c1 (acc++[d]) Q) λc1 h1=>?_;exact XW R k8 f src (λb hb=>step b (aO _ hb)) c1 _ h1 (by simpa using q)
def uJ {α:Type} (R:En->Prop) (k8 f:α->D) (src:List α) (step:∀a∈src,∀b,R b->∀K:En->D->Prop,(∀b1,R b1->K b1 (f a))->g (k8 a) b λb1=>te b1 λd=>K b1 d)
  (h:R b) (q:Q (src.map f)):wT g te (src.map k8) b [] Q:=XW R k8 f src step b [] h (by simpa using q)
abbrev il (ns:List Int):D:=.lst (ns.map .int)
abbrev pt (p:Int × Int):D:=.tup [.int p.1,.int p.2]
abbrev et (ps:List (Int × Int)):D:=.lst (ps.map pt)
def pI {n:Nat} (h:n<=100000):Sz n:=⟨eJ h (by decide)⟩
abbrev big:Int:=1000000000000000000000000000000000000000000000000000000000007
structure Drawn (m:Nat) (xs:List Int):Prop where
 len:xs.length=m
 lo:∀x∈xs,0<=x
 hi:∀x∈xs,x<big
def Dt {lo:Int} {n:Nat}:(sN lo n).length=n:=by simp[sN]
def XO {α:Type} {xs:List α} {x:α} (h:xs.getLast? = some x):ik xs (-1)=some x:=by
 have gz:xs≠[]:=λe=>by rw[e] at h;cases h
 have hl:0<xs.length:=oW.mpr gz;unfold ik me;rw[if_neg (by decide),if_pos (by lia)];rw[List.getLast?_eq_getElem?] at h;show xs[((-1:Int)+(xs.length:Int)).toNat]? = some x;rw[<-h];congr 1;lia
abbrev aff (p q r s ox oy:Int) (z:Int × Int):Int × Int:=(p*z.1+q*z.2+ox,r*z.1+s*z.2+oy)
def cN (I:En->Prop) (h1:∀K:En->Prop,(∀a',I a'->K a')->t { E with nx:=K } a) (h2:∀a',I a'->u E a'):dW t u E a:=h1 (u E) h2
def Ot:FD:=λds Q=>∃n:Int,ds=[.int n]/\∀s,1<=s->s<=1000000000->Q (.int s)
def Ir:∀ds Q,Ot ds Q->zO { nx:=λ_=>Q .non,rt:=Q } (dR ["_law_number"] ds):=by
 rintro ds Q ⟨n,rfl,q⟩;rw[cS 0 rfl];unfold zO;walk_at "rd";walk_at "sides";obtain⟨a0,a1⟩:=eZ (a:=n) (b:=3) (by decide);obtain⟨b0,b1⟩:=eZ (a:=n.fdiv 3) (b:=12) (by decide);obtain⟨c0,c1⟩:=eZ (a:=n.fdiv 3) (b:=1000000000) (by decide);refine Eu a0 (by simpa using a1) λx hx=>?_;simp only[aJ,cY,or_false] at hx;rcases hx with rfl | rfl | rfl
 ·exact q _ (by decide) (by decide)
 ·exact q _ (by lia) (by lia)
 ·exact q _ (by lia) (by lia)
def IG:∀ds Q,SZ ds Q->xI AO { nx:=λ_=>Q .non,rt:=Q } (dR ["_law_top","_law_bottom","_law_most"] ds):=by
 rintro ds Q ⟨a,b,rfl,⟨h0,hb⟩,q⟩;rw[cS 1 rfl];unfold xI;walk_at "rd";refine⟨a,b,rfl,?_⟩;have hg:=MT (a:=a) (b:=b) (by lia);have bg:=BL.gcd (a:=a) (b:=b) (by lia) hb;walk_at "rd";exact⟨bg.divOk (by lia),bg.divOk (by lia),q _ _ (WH h0)⟩
structure j8 (share:Int) (cs:List (Int × Int)) (m sh:Int) (ds:List (Int × Int)) (j:Nat):Prop where
 mpos:0<m
 sh_eq:share=m*sh
 cs_eq:cs=ds.map λz=>(m*z.1,m*z.2)
 j_lt:j<ds.length
 least:∀z∈ds,∀w,ds[j]? = some w->HT.lexLt [z.1,z.2] [w.1,w.2]=false
 cop:∀d:Nat,(d:Int)∣sh->(∀z∈ds,(d:Int)∣z.1/\(d:Int)∣z.2)->d=1
abbrev turned {α:Type} (j:Nat) (ds:List α):List α:=ds.drop j++ds.take j
def NC:FD:=λds Q=>∃(share:Int) (cs:List (Int × Int)),ds=[.int share,et cs]/\(0<share/\BL 100 share)/\(cs≠[]/\cs.length<=100) /\
 ∀m sh zs j,j8 share cs m sh zs j->Q (.tup [.int sh,.tup ((turned j zs).map pt)])
structure fi (share:Int) (zs:List (Int × Int)) (g:Nat):Prop where
 pos:0<g
 sh:(g:Int)∣share
 all:∀z∈zs,(g:Int)∣z.1/\(g:Int)∣z.2
 most:∀d:Nat,(d:Int)∣share->(∀z∈zs,(d:Int)∣z.1/\(d:Int)∣z.2)->d∣g
def fi.bl (h:fi share zs g) (hs:0<share) {n:Nat} (b:BL n share):BL n (g:Int):=by
 refine b.le ?_;have:=vV hs h.sh;lia
def fi.snoc (h:fi share zs g) (z:Int × Int):fi share (zs++[z]) (cJ (cJ g z.1:Nat) z.2):=by
 have d1:((cJ (cJ g z.1:Nat) z.2:Nat):Int)∣((cJ g z.1:Nat):Int):=mB ..;have d2:((cJ g z.1:Nat):Int)∣(g:Int):=mB ..;have d3:((cJ g z.1:Nat):Int)∣z.1:=lK ..;have d4:((cJ (cJ g z.1:Nat) z.2:Nat):Int)∣z.2:=lK ..;have dg:=mY d1 d2;refine⟨?_,mY dg h.sh,λw hw=>?_,λd e1 e2=>?_⟩
 ·have:=h.pos;have h1:0<cJ g z.1:=kE _ (by lia);exact kE _ (by lia)
 ·rcases cC.mp hw with h' | h'
  ·obtain⟨a,b⟩:=h.all w h';exact⟨mY dg a,mY dg b⟩
  ·rw[cR.mp h'];exact⟨mY d1 d3,d4⟩
 ·obtain⟨a,b⟩:=e2 z (by simp);have:=h.most d e1 λw hw=>e2 w (dL _ hw);have h1:(d:Int)∣((cJ g z.1:Nat):Int):=MA (by exact_mod_cast this) a
  exact_mod_cast MA h1 b
def Gv {xs:List D} {j:Nat} (h:j<=xs.length):cutD xs (some (j:Int)) none=xs.drop j:=by
 unfold cutD;rw[HT.sIx_nat,HT.sIx_none,ME h,kF (by simp)]
def Pe {xs:List D} {j:Nat} (h:j<=xs.length):cutD xs none (some (j:Int))=xs.take j:=by
 unfold cutD;rw[HT.sIx_nat,HT.sIx_none,ME h];simp
def VT (z w:Int × Int):c4 6 (pt z) (pt w)=some (decide (z=w)):=by
 obtain⟨a,b⟩:=z;obtain⟨c,d⟩:=w;simp only[c4,f_];congr 1;by_cases h1:a=c <;> by_cases h2:b=d <;> simp[h1,h2]
def WY:∀ds Q,NC ds Q->LR AO { nx:=λ_=>Q .non,rt:=Q } (dR ["_law_share_here","_law_ring_here","_law_most","_law_x","_law_y","_law_corners","_law_at"] ds):=by
 rintro ds Q ⟨share,cs,rfl,⟨hs,bs⟩,⟨gz,hlen⟩,q⟩;rw[cS 5 rfl];unfold LR;simp only[hU,Ry,aQ,bZ,bI,bV];refine cN (λf=>f=[aa (.int share),aa (et cs),aa (.int share),none,none,none,none]) (λK hK=>?_) ?_
 ·walk_at "rd";exact hK _ rfl
 rintro f rfl;refine cN (λf=>∃(g:Nat) (x y:Option S),fi share cs g/\f=[aa (.int share),aa (et cs),aa (.int g),x,y,none,none]) (λK hK=>?_) ?_
 ·walk_at "rd";refine jT (λxs f=>∃(done rest:List (Int × Int)) (g:Nat) (x y:Option S),cs=done++rest/\xs=rest.map pt/\fi share done g/\f=[aa (.int share),aa (et cs),aa (.int g),x,y,none,none]) ?_ ?_ _ _ ⟨[],cs,share.toNat,none,none,rfl,rfl,⟨by lia,?_,by simp,λd e1 _=>?_⟩,?_⟩
  ·rintro x xs f ⟨done,rest,g,u,v,e,ex,hg,rfl⟩ F _ _ hn _;cases rest with
   | nil=>cases ex
   | cons z rest =>
    cases ex;unfold BW;walk_at "rd";refine⟨_,_,rfl,_,_,rfl,?_⟩;exact hn _ ⟨done++[z],rest,_,_,_,by simpa using e,rfl,hg.snoc z,rfl⟩
  ·rintro f ⟨done,rest,g,u,v,e,ex,hg,rfl⟩;have:rest=[]:=(by simpa using ex.symm);subst this;rw[dN] at e;subst e;exact hK _ ⟨g,u,v,hg,rfl⟩
  ·have:(share.toNat:Int)=share:=(by lia);rw[this];exact oD _
  ·have:(share.toNat:Int)=share:=by lia
   exact_mod_cast (by rw[this];exact e1:(d:Int)∣(share.toNat:Int))
  ·have:(share.toNat:Int)=share:=(by lia);rw[this]
 rintro f ⟨g,x,y,hg,rfl⟩;have gp:(0:Int)<g:=by have:=hg.pos;lia
 have gb:BL 9000 (g:Int):=(hg.bl hs bs).mono;obtain⟨zs,ez⟩:∃zs,zs=cs.map λz=>(z.1 / (g:Int),z.2 / (g:Int)):=⟨_,rfl⟩;have ec:cs=zs.map λz=>((g:Int)*z.1,(g:Int)*z.2):=by
  rw[ez,dA];symm
  conv=>rhs;rw[<-mL cs]
  refine lY λz hz=>?_;obtain⟨a,b⟩:=hg.all z hz;simp only[RN,id,iH a,iH b]
 refine cN (λf=>f=[aa (.int share),aa (et cs),aa (.int g),x,y,some (.own (zs.map pt)),none]) (λK hK=>?_) ?_
 ·walk_at "rd";refine⟨pI (by simp;lia),?_⟩;refine uJ (λf=>∃a b,f=[a,b,aa (.int g)]) pt (λz=>pt (z.1 / (g:Int),z.2 / (g:Int))) cs ?_ ⟨_,_,rfl⟩ ?_
  ·rintro z hz f ⟨a,b,rfl⟩ K' ma;walk_at "rd";refine⟨gb.divOk (by lia),gb.divOk (by lia),?_⟩;rw[dC _ (by lia),dC _ (by lia)];exact ma _ ⟨_,_,rfl⟩
  ·refine hK _ ?_;rw[ez,dA];rfl
 rintro f rfl;have lz:zs.length=cs.length:=by rw[ez];simp
 have hz:zs≠[]:=by intro e;rw[e] at lz;exact gz (mD.mp lz.symm)
 refine cN (λf=>∃j:Nat,(j<zs.length/\∀z∈zs,∀w,zs[j]? = some w->HT.lexLt [z.1,z.2] [w.1,w.2]=false)/\f=[aa (.int share),aa (et cs),aa (.int g),x,y,some (.own (zs.map pt)),aa (.int j)]) (λK hK=>?_) ?_
 ·walk_at "rd";refine⟨⟨_,rfl⟩,zs.map λz=>[z.1,z.2],by rw[dA];rfl,by simpa using hz,λM hM S_=>?_⟩;obtain⟨w,hw,rfl⟩:=bF.mp hM;have c9:zs.findIdx (λz=>decide (z=w))<zs.length:=List.findIdx_lt_length_of_exists ⟨w,hw,by simp⟩;have hat:=List.findIdx_getElem (w:=c9);have yp:zs[zs.findIdx (λz=>decide (z=w))]=w:=by simpa using hat
  refine⟨zs.findIdx (λz=>decide (z=w)),⟨pt w,?_,?_⟩,λi d hi ed=>?_,λd hd=>?_,hK _ ⟨_,⟨c9,λz hz v ev=>?_⟩,rfl⟩⟩
  ·rw[bT,aD c9,yp];rfl
  ·show c4 6 (pt w) (pt w)=_;rw[VT];simp
  ·rw[bT] at ed;cases e:zs[i]? with
   | none=>rw[e] at ed;cases ed
   | some z =>
    rw[e] at ed;cases ed;show c4 6 (pt z) (pt w)=_;have S4:i<zs.length:=(bC.mp e).1;have:=List.not_of_lt_findIdx hi;rw[VT];have e2:zs[i]=z:=(by rw[aD S4] at e;exact dO e);rw[e2] at this;simpa using this
  ·obtain⟨z,_,rfl⟩:=bF.mp hd;exact⟨_,VT z w⟩
  ·rw[aD c9,yp] at ev;cases ev;exact S_ _ (bF.mpr ⟨z,hz,rfl⟩)
 rintro f ⟨j,⟨hj,vp⟩,rfl⟩;walk_at "rd";have lm:(zs.map pt).length=zs.length:=by simp
 rw[Gv (by lia),Pe (by lia)];refine⟨gb.divOk (by lia),pI (by simp;lia),?_⟩;rw[dC _ (by lia)];have:=q g (share / g) zs j ⟨gp,(iH hg.sh).symm,ec,hj,vp,λd e1 e2=>?_⟩
 ·rw[cX,List.map_drop,pA] at this;exact this
 ·have h1:((g*d:Nat):Int)∣share:=by
   rw[<-iH hg.sh]
   push_cast
   exact zD (oD _) e1
  have h2:=hg.most (g*d) h1 λz hz=>by
   rw[ec] at hz;obtain⟨w,hw,rfl⟩:=bF.mp hz;obtain⟨a,b⟩:=e2 w hw
   push_cast
   exact⟨zD (oD _) a,zD (oD _) b⟩
  have h3:=vY hg.pos h2;have h4:d≠0:=λe=>by
   subst e;simp at h2;have:=hg.pos;lia
  have h5:=hg.pos;rcases Nat.lt_or_ge 1 d with h | h
  ·have:g*2<=g*d:=Nat.mul_le_mul_left _ h;lia
  ·lia
def BP (z:Pt):Prop:=BL 20000 z.1/\BL 20000 z.2
def xT:FD:=λds Q=>∃a b c:Pt,ds=[pt a,pt b,pt c]/\(BP a/\BP b/\BP c)/\Q (.int (cK a b c))
def Iw:∀ds Q,xT ds Q->Gc { nx:=λ_=>Q .non,rt:=Q } (dR ["one","middle","other","along","across"] ds):=by
 rintro ds Q ⟨a,b,c,rfl,⟨ba,bb,bc⟩,q⟩;rw[cS 2 rfl];unfold Gc;walk_at "rd";exact⟨(bb.1.sub ba.1).mulOk (bc.2.sub ba.2),(bb.2.sub ba.2).mulOk (bc.1.sub ba.1),q⟩
def Bp:FD:=λds Q=>∃ps:List Pt,ds=[et ps]/\(∀z∈ps,BP z)/\ps.length<=900/\Q (et (sR ps))
def Jp {α:Type} (xs:List α) (x:α):ik (xs++[x]) (-1)=some x:=by
 unfold ik me;rw[if_neg (by decide),if_pos (by simp;lia)];have:((-1:Int)+((xs++[x]).length:Nat)).toNat=xs.length:=by simp;lia
 simp only[this,JH];simp
def Jq {α:Type} (xs:List α) (x y:α):ik (xs++[x,y]) (-2)=some x:=by
 unfold ik me;rw[if_neg (by decide),if_pos (by simp;lia)];have:((-2:Int)+((xs++[x,y]).length:Nat)).toNat=xs.length:=by simp;lia
 simp only[this,JH];simp
theorem OZ (E:jd) (u:Option S) (p:Pt) (hp:BP p):∀s:List Pt,(∀z∈s,BP z)->E.nx [u,some (.own ((jP p s).reverse.map pt)),aa (pt p)] ->
  GA (SR (dZ (r2 (qG λi j=>decide (j<i)) (r1 nX (aM 1)) (aj 1))) (dZ (r2 (qG λi j=>decide (i<=j)) (cO xT (aC (r2 ca (aM 1) (r1 yN (aj 2))) (aC (r2 ca (aM 1) (r1 yN (aj 1))) (aC (cB 2) aZ)))) (aj 0)))) oQ E [u,some (.own (s.reverse.map pt)),aa (pt p)]
 | [],_,h=>by
  refine⟨1,?_⟩;unfold rB;walk_at "rd";simp;exact h
 | [x],_,h=>by
  refine⟨1,?_⟩;unfold rB;walk_at "rd";simp;exact h
 | b::a::r,hs,h=>by
  have ea:((b::a::r).reverse.map pt)=(r.reverse.map pt)++[pt a,pt b]:=by simp
  have eb:((b::a::r).reverse.map pt)=((a::r).reverse.map pt)++[pt b]:=by simp
  have i2:=Jq (r.reverse.map pt) (pt a) (pt b);have i1:=Jp ((a::r).reverse.map pt) (pt b);rw[<-ea] at i2;rw[<-eb] at i1;by_cases ht:cK a b p<=0
  ·have e:jP p (b::a::r)=jP p (a::r):=(by rw[jP,if_pos ht]);rw[e] at h;obtain⟨n,hn⟩:=OZ E u p hp (a::r) (λz hz=>hs z (aO _ hz)) h;refine⟨n+1,?_⟩;unfold rB;generalize hW:rB (SR (dZ (r2 (qG λi j=>decide (j<i)) (r1 nX (aM 1)) (aj 1))) (dZ (r2 (qG λi j=>decide (i<=j)) (cO xT (aC (r2 ca (aM 1) (r1 yN (aj 2))) (aC (r2 ca (aM 1) (r1 yN (aj 1))) (aC (cB 2) aZ)))) (aj 0)))) oQ n E=W at hn;walk_at "rd";rw[if_pos (by simp;lia)];refine yM i2 (yM i1 ⟨a,b,p,rfl,⟨hs a (by simp),hs b (by simp),hp⟩,?_⟩);show if cK a b p<=0 then _ else _;rw[if_pos ht];unfold oQ;walk_at "rd";refine⟨by simp,?_⟩;rw[eb,nT];exact hn
  ·have e:jP p (b::a::r)=b::a::r:=(by rw[jP,if_neg ht]);rw[e] at h;refine⟨1,?_⟩;unfold rB;walk_at "rd";rw[if_pos (by simp;lia)];refine yM i2 (yM i1 ⟨a,b,p,rfl,⟨hs a (by simp),hs b (by simp),hp⟩,?_⟩);show if cK a b p<=0 then _ else _;rw[if_neg ht];exact h
def Ac (p:Pt) (s:List Pt):(jP p s).length<=s.length:=(xB p s).length_le
def MN:∀ds Q,Bp ds Q->EV xT { nx:=λ_=>Q .non,rt:=Q } (dR ["points","chain","point"] ds):=by
 rintro ds Q ⟨ps,rfl,hb,hl,q⟩;rw[cS 2 rfl];unfold EV;simp only[hU,Iy,aQ,bZ,bI,bV];refine cN (λa=>a=[aa (et ps),some (.own []),none]) (λK hK=>?_) ?_
 ·walk_at "rd";exact hK _ rfl
 rintro a rfl;refine cN (λa=>∃x:Option S,a=[aa (et ps),some (.own ((kC ps).reverse.map pt)),x]) (λK hK=>?_) ?_
 ·walk_at "rd";refine jT (λxs a=>∃(done rest:List Pt) (x:Option S),ps=done++rest/\xs=rest.map pt/\a=[aa (et ps),some (.own ((kC done).reverse.map pt)),x]) ?_ ?_ _ _ ⟨[],ps,none,rfl,rfl,rfl⟩
  ·rintro x xs a ⟨done,rest,u,e,ex,rfl⟩ F _ _ hn _;cases rest with
   | nil=>cases ex
   | cons z rest =>
    cases ex;have bd:∀w∈done,BP w:=λw hw=>hb w (by rw[e];simp[hw]);have bz:BP z:=hb z (by rw[e];simp);have ld:done.length<ps.length:=(by rw[e];simp);have sub:∀(L s:List Pt),(∀q∈L.foldl (λs p=>p::jP p s) s,q∈L\/q∈s)/\(L.foldl (λs p=>p::jP p s) s).length<=L.length+s.length:=by
     intro L
     induction L with
     | nil=>intro s;exact⟨λq h=>fE h,by simp⟩
     | cons y L ih =>
      intro s;obtain⟨i1,i2⟩:=ih (y::jP y s);refine⟨λq h=>?_,?_⟩
      ·rcases i1 q h with h | h
       ·exact fD (by simp[h])
       ·rcases aJ.mp h with h | h
        ·exact fD (by simp[h])
        ·exact fE ((xB y s).subset h)
      ·have:=Ac y s;simp only[pN,cD] at i2 ⊢;lia
    obtain⟨s1,s2⟩:=sub done [];unfold xM;simp only[dH,aR,aV];refine OZ _ _ z bz (kC done) (λw hw=>?_) ?_
    ·rcases s1 w hw with h | h
     ·exact bd w h
     ·cases h
    ·walk_at "rd";have l1:=Ac z (kC done);have l2:(kC done).length<=done.length:=(by simpa [kC] using s2);refine⟨⟨Fl (by simp;lia)⟩,hn _ ⟨done++[z],rest,aa (pt z),by simpa using e,rfl,?_⟩⟩;unfold kC;simp
  ·rintro a ⟨done,rest,u,e,ex,rfl⟩;have:rest=[]:=(by simpa using ex.symm);subst this;rw[dN] at e;subst e;exact hK _ ⟨u,rfl⟩
 rintro a ⟨x,rfl⟩;walk_at "rd";have e:cutD ((kC ps).reverse.map pt) none (some (-1))=(sR ps).map pt:=by
  unfold cutD sR;rw[List.map_dropLast];generalize (kC ps).reverse.map pt=xs;have h1:HT.sIx xs.length 0 none=0:=rfl;have h2:HT.sIx xs.length xs.length (some (-1))=xs.length-1:=by
   unfold HT.sIx;simp;lia
  rw[h1,h2,NO,tE,List.dropLast_eq_take]
 rw[e];exact q
def Qo (z w:Pt):iR [z.1,z.2] [w.1,w.2]=decide (br z w):=by
 unfold br;simp only[iR];by_cases h:z.1=w.1
 ·rw[if_pos h];by_cases h2:z.2=w.2
  ·rw[if_pos h2];simp[h,h2]
  ·rw[if_neg h2];simp[h]
 ·rw[if_neg h];simp[h]
def wK:FD:=λds Q=>∃ps:List Pt,ds=[et ps]/\(∀z∈ps,BP z)/\ps.length<64/\∀D r:List Pt,gh D->(∀z,z∈D↔z∈ps)->(2<=D.length->r=EK D)->(D.length<=1->r.length<3)->r.length<=200->Q (et r)
def WZ:∀ds Q,wK ds Q->QQ Bp { nx:=λ_=>Q .non,rt:=Q } (dR ["points","rising"] ds):=by
 rintro ds Q ⟨ps,rfl,hb,hl,q⟩;rw[cS 1 rfl];unfold QQ;walk_at "rd";unfold QN QM;walk_at "rd";refine⟨ps.map λz=>[z.1,z.2],by rw[dA];rfl,by simpa using hl,λns h=>?_,λmss hs hm hlen=>?_⟩
 ·obtain⟨z,_,rfl⟩:=bF.mp h;simp
 obtain⟨L,hL⟩:∃L:List Pt,mss=L.map λz=>[z.1,z.2]:=by
  have:∀ms∈mss,∃z:Pt,ms=[z.1,z.2]:=λms h=>by
   obtain⟨z,_,e⟩:=bF.mp ((hm ms).mp h);exact⟨z,e.symm⟩
  clear hs hm hlen
  induction mss with
  | nil=>exact⟨[],rfl⟩
  | cons m mss ih =>
   obtain⟨L,e⟩:=ih λms h=>this ms (aO _ h);obtain⟨z,e2⟩:=this m (by simp);exact⟨z::L,by rw[e,e2];rfl⟩
 subst hL;have inj:∀z w:Pt,[z.1,z.2]=[w.1,w.2]->z=w:=λz w h=>by simp at h;exact kR h.1 h.2
 have zn:∀z,z∈L↔z∈ps:=λz=>by
  have:=hm [z.1,z.2];constructor
  ·intro h;obtain⟨w,hw,e⟩:=bF.mp (this.mp (bF.mpr ⟨z,h,rfl⟩));rw[<-inj _ _ e];exact hw
  ·intro h;obtain⟨w,hw,e⟩:=bF.mp (this.mpr (bF.mpr ⟨z,h,rfl⟩));rw[<-inj _ _ e];exact hw
 have wL:Bv L:=by
  unfold Bv;refine (lN.mp hs).imp λ{a b} h=>?_;rw[Qo] at h;simpa using h
 have eL:D.lst (uA nG (uA (λz:Pt=>[z.1,z.2]) L))=et L:=by rw[dA];rfl
 have lL:L.length<=63:=by simp at hlen;lia
 have bL:∀z∈L,BP z:=λz hz=>hb z ((zn z).mp hz);obtain⟨D,HD⟩:=Kz L wL;obtain⟨o1,o2⟩:=YM wL HD.inc HD.mem;have h1:∀M:List Pt,(sR M).length<=M.length:=λM=>by
  unfold sR;have:=Lj M;simp;lia
 rw[eL];refine⟨L,rfl,bL,by lia,L.map pt,rfl,L.reverse,by rw[<-JD],λz hz=>bL z (oG.mp hz),by simp;lia,?_⟩;have a1:=h1 L;have a2:=h1 L.reverse;rw[sP] at a2;show Sz (((sR L).map pt).length+((sR L.reverse).map pt).length)/\Q (.lst ((sR L).map pt++(sR L.reverse).map pt));refine⟨⟨Fl (by simp;lia)⟩,?_⟩;rw[<-cX];exact q D (EK L) HD.inc (λz=>(HD.mem z).trans (zn z)) o1 o2 (by unfold EK;simp;lia)
structure fj (share:Int) (cs:List Pt) (m sh:Int) (zs:List Pt):Prop where
 mpos:0<m
 sh_eq:share=m*sh
 cs_eq:cs=zs.map λz=>(m*z.1,m*z.2)
 cop:∀d:Nat,(d:Int)∣sh->(∀z∈zs,(d:Int)∣z.1/\(d:Int)∣z.2)->d=1
def wD (ha:0<a) (hb:0<b) (e:a*x=b*y):a / (cJ a b:Nat)∣y:=by
 have hg:(0:Int)<(cJ a b:Nat):=by
  have:=kE (a:=a) b (by lia);lia
 obtain⟨a',ea⟩:((cJ a b:Nat):Int)∣a:=mB ..;obtain⟨b',eb⟩:((cJ a b:Nat):Int)∣b:=lK ..;have e1:a / (cJ a b:Nat)=a':=by
  have:a / ((cJ a b:Nat):Int)=(((cJ a b:Nat):Int)*a') / ((cJ a b:Nat):Int):=congrArg (· / ((cJ a b:Nat):Int)) ea;rw[this,fR _ (by lia)]
 have e2:b / (cJ a b:Nat)=b':=by
  have:b / ((cJ a b:Nat):Int)=(((cJ a b:Nat):Int)*b') / ((cJ a b:Nat):Int):=congrArg (· / ((cJ a b:Nat):Int)) eb;rw[this,fR _ (by lia)]
 have cop:cJ a' b'=1:=by
  have:=uW (i:=a) (j:=b) (by have:=hg;lia);rw[e1,e2] at this;exact this
 rw[e1];have h:a'*x=b'*y:=by
  have:((cJ a b:Nat):Int)*(a'*x)=((cJ a b:Nat):Int)*(b'*y):=by
   rw[<-lU,<-lU,<-ea,<-eb];exact e
  exact dQ (by lia) this
 have d:a'∣b'*y:=⟨x,h.symm⟩;have d2:a'.natAbs∣b'.natAbs*y.natAbs:=by rw[<-iX];exact nD.mpr d
 exact nD.mp (rG (show Nat.Coprime a'.natAbs b'.natAbs from cop) d2)
def UD {a b sh gt:Int} {zs m8:List Pt} (ha:0<a) (hb:0<b) (e1:a*sh=b*gt) (e2:zs.map (λz=>(a*z.1,a*z.2))=m8.map λz=>(b*z.1,b*z.2))
  (cop:∀d:Nat,(d:Int)∣gt->(∀z∈m8,(d:Int)∣z.1/\(d:Int)∣z.2)->d=1):a∣b:=by
 have len:zs.length=m8.length:=by have:=congrArg fU e2;simpa using this
 have hg:(0:Int)<(cJ a b:Nat):=by
  have:=kE (a:=a) b (by lia);lia
 obtain⟨a',ea⟩:((cJ a b:Nat):Int)∣a:=mB ..;have e0:a / (cJ a b:Nat)=a':=by
  have:a / ((cJ a b:Nat):Int)=(((cJ a b:Nat):Int)*a') / ((cJ a b:Nat):Int):=congrArg (· / ((cJ a b:Nat):Int)) ea;rw[this,fR _ (by lia)]
 have pa:0<a':=by
  apply mO.mp;intro hn;have:((cJ a b:Nat):Int)*a'<=0:=gG (by lia) hn;lia
 have one:=cop a'.toNat (by
  rw[DH (by lia),<-e0];exact wD ha hb e1) λz hz=>by
  rw[DH (by lia),<-e0];obtain⟨i,hi,rfl⟩:=dU hz;have gq:i<zs.length:=by lia
  have ei:(zs.map λz=>(a*z.1,a*z.2))[i]? = (m8.map λz=>(b*z.1,b*z.2))[i]?:=by rw[e2]
  rw[bT,bT,aD hi,aD gq] at ei;simp only[pO,qS,eM] at ei;exact⟨wD ha hb ei.1,wD ha hb ei.2⟩
 have:a'=1:=by lia
 rw[this,Int.mul_one] at ea;rw[ea];exact lK ..
def LO {a b sh gt:Int} {zs m8:List Pt} (ha:0<a) (hb:0<b) (e1:a*sh=b*gt) (e2:zs.map (λz=>(a*z.1,a*z.2))=m8.map λz=>(b*z.1,b*z.2))
  (c1:∀d:Nat,(d:Int)∣sh->(∀z∈zs,(d:Int)∣z.1/\(d:Int)∣z.2)->d=1) (c2:∀d:Nat,(d:Int)∣gt->(∀z∈m8,(d:Int)∣z.1/\(d:Int)∣z.2)->d=1):sh=gt/\zs=m8:=by
 have h1:=UD ha hb e1 e2 c2;have h2:=UD hb ha e1.symm e2.symm c1;have g9:a=b:=Int.le_antisymm (vV hb h1) (vV ha h2);subst g9;refine⟨dQ (by lia) e1,?_⟩;have len:zs.length=m8.length:=by have:=congrArg fU e2;simpa using this
 apply JC len;intro i hi gq;have ei:(zs.map λz=>(a*z.1,a*z.2))[i]? = (m8.map λz=>(a*z.1,a*z.2))[i]?:=by rw[e2]
 rw[bT,bT,aD hi,aD gq] at ei;simp only[pO,qS,eM] at ei;exact kR (dQ (by lia) ei.1) (dQ (by lia) ei.2)
def fj.same (h:fj share cs m sh zs) (h':fj wb cs' m' gt m8) (hk:0<k) (qi:0<k') (e1:k*share=k'*wb) (e2:cs.map (λz=>(k*z.1,k*z.2))=cs'.map λz=>(k'*z.1,k'*z.2)):sh=gt/\zs=m8:=by
 refine LO (a:=k*m) (b:=k'*m') (aL hk h.mpos) (aL qi h'.mpos) ?_ ?_ h.cop h'.cop
 ·rw[lU,lU,<-h.sh_eq,<-h'.sh_eq];exact e1
 ·rw[h.cs_eq,h'.cs_eq,dA,dA] at e2;simp only[GK,<-lU] at e2;exact e2
structure u6 (ps:List Pt) (z:Pt) (T:List Pt):Prop where
 cvx:dk (z::T)
 least:∀q∈T,¬br q z
 mem:∀q∈z::T,q∈ps
 left:∀a b,cc (z::T) a b->∀q∈ps,0<=cK a b q
def C3 (ps:List Pt):Prop:=∀D,gh D->(∀z,z∈D↔z∈ps)->2<=D.length->(EK D).length<3
def wM:FD:=λds Q=>∃(share:Int) (ps:List Pt),ds=[.int share,et ps]/\(0<share/\BL 9000 share)/\(∀z∈ps,BP z)/\ps.length<64 /\
 ((∃z T,u6 ps z T/\∀m sh zs,fj share (z::T) m sh zs->Q (.tup [.int sh,.tup (zs.map pt)]))\/(C3 ps/\Q .non))
def XA:∀ds Q,wM ds Q->QR wK AO { nx:=λ_=>Q .non,rt:=Q } (dR ["share","points","corners","divisor","x","y"] ds):=by
 rintro ds Q ⟨share,ps,rfl,⟨hs,bs⟩,hb,hl,hq⟩;rw[cS 4 rfl];unfold QR;simp only[hU,Dv,aQ,bZ,bI,bV];refine cN (λf=>∃r:List Pt,r.length<=200/\((r.length<3/\Q .non)\/(3<=r.length/\∀m sh zs,fj share r m sh zs->Q (.tup [.int sh,.tup (zs.map pt)])))/\f=[aa (.int share),aa (et ps),aa (et r),none,none,none]) (λK hK=>?_) ?_
 ·walk_at "rd";refine⟨ps,rfl,hb,hl,λD r iD hm h2 h1 hr=>hK _ ⟨r,hr,?_,rfl⟩⟩;rcases hq with ⟨z,T,R,q⟩ | ⟨fl,q⟩
  ·have sub:3<=D.length:=by
    have:=rZ (z::T) D R.cvx.nodup λx hx=>(hm x).mpr (R.mem x hx);have:=R.cvx.len;lia
   have e:=yW (L:=ps) iD R.cvx R.least (λx hx=>(hm x).mpr (R.mem x hx)) λa b g9 x hx=>R.left a b g9 x ((hm x).mp hx);have er:=h2 (by lia);rw[e] at er;subst er;exact fE ⟨R.cvx.len,q⟩
  ·refine fD ⟨?_,q⟩;by_cases hd:2<=D.length
   ·rw[h2 hd];exact fl D iD hm hd
   ·exact h1 (by lia)
 rintro f ⟨r,hr,hq,rfl⟩;rcases hq with ⟨h3,q⟩ | ⟨h3,q⟩
 ·walk_at "rd";rw[if_pos (by simp;lia)];exact q
 refine cN (λf=>f=[aa (.int share),aa (et ps),aa (et r),none,none,none]) (λK hK=>?_) ?_
 ·walk_at "rd";rw[if_neg (by simp;lia)];exact hK _ rfl
 rintro f rfl;refine cN (λf=>f=[aa (.int share),aa (et ps),aa (et r),aa (.int share),none,none]) (λK hK=>?_) ?_
 ·walk_at "rd";exact hK _ rfl
 rintro f rfl;refine cN (λf=>∃(g:Nat) (x y:Option S),fi share r g/\f=[aa (.int share),aa (et ps),aa (et r),aa (.int g),x,y]) (λK hK=>?_) ?_
 ·walk_at "rd";refine jT (λxs f=>∃(done rest:List Pt) (g:Nat) (x y:Option S),r=done++rest/\xs=rest.map pt/\fi share done g/\f=[aa (.int share),aa (et ps),aa (et r),aa (.int g),x,y]) ?_ ?_ _ _ ⟨[],r,share.toNat,none,none,rfl,rfl,⟨by lia,?_,by simp,λd e1 _=>?_⟩,?_⟩
  ·rintro x xs f ⟨done,rest,g,u,v,e,ex,hg,rfl⟩ F _ _ hn _;cases rest with
   | nil=>cases ex
   | cons z rest =>
    cases ex;unfold EW;walk_at "rd";refine⟨_,_,rfl,_,_,rfl,?_⟩;exact hn _ ⟨done++[z],rest,_,_,_,by simpa using e,rfl,hg.snoc z,rfl⟩
  ·rintro f ⟨done,rest,g,u,v,e,ex,hg,rfl⟩;have:rest=[]:=(by simpa using ex.symm);subst this;rw[dN] at e;subst e;exact hK _ ⟨g,u,v,hg,rfl⟩
  ·have:(share.toNat:Int)=share:=(by lia);rw[this];exact oD _
  ·have:(share.toNat:Int)=share:=by lia
   exact_mod_cast (by rw[this];exact e1:(d:Int)∣(share.toNat:Int))
  ·have:(share.toNat:Int)=share:=(by lia);rw[this]
 rintro f ⟨g,x,y,hg,rfl⟩;have gp:(0:Int)<g:=by have:=hg.pos;lia
 have gb:BL 9000 (g:Int):=hg.bl hs bs;obtain⟨zs,ez⟩:∃zs,zs=r.map λz=>(z.1 / (g:Int),z.2 / (g:Int)):=⟨_,rfl⟩;have ec:r=zs.map λz=>((g:Int)*z.1,(g:Int)*z.2):=by
  rw[ez,dA];symm
  conv=>rhs;rw[<-mL r]
  refine lY λz hz=>?_;obtain⟨a,b⟩:=hg.all z hz;simp only[RN,id,iH a,iH b]
 obtain⟨sh,es⟩:=hg.sh;have ediv:share.fdiv g=sh:=by
  rw[dC _ (by lia),es,fR _ (by lia)]
 walk_at "rd";refine⟨gb.divOk (by lia),?_⟩;refine⟨pI (by simp;lia),?_⟩;refine uJ (λf=>∃a b,f=[a,b,aa (.int g)]) pt (λz=>pt (z.1 / (g:Int),z.2 / (g:Int))) r ?_ ⟨_,_,rfl⟩ ?_
 ·rintro z hz f ⟨a,b,rfl⟩ K' ma;walk_at "rd";refine⟨gb.divOk (by lia),gb.divOk (by lia),?_⟩;rw[dC _ (by lia),dC _ (by lia)];exact ma _ ⟨_,_,rfl⟩
 ·have e:uA (λz:Pt=>pt (z.1 / (g:Int),z.2 / (g:Int))) r=zs.map pt:=by rw[ez,dA];rfl
  rw[ediv,e];refine q g sh zs ⟨gp,es,ec,λd h1 h2=>?_⟩;have:=hg.most (d*g) (by
   rw[es];push_cast;obtain⟨c,ec⟩:=h1;exact⟨c,by rw[ec];grind⟩) λz hz=>by
   rw[ec] at hz;obtain⟨w,hw,rfl⟩:=bF.mp hz;obtain⟨⟨c1,e1⟩,c2,e2⟩:=h2 w hw
   push_cast
   exact⟨⟨c1,by rw[e1];grind⟩,c2,by rw[e2];grind⟩
  have le:=vY hg.pos this;have d0:d≠0:=by
   rintro rfl;rw[Nat.zero_mul] at this;have:=wO this;have:=hg.pos;lia
  apply Nat.le_antisymm ?_ (by lia);apply Nat.not_lt.mp;intro h;have:2*g<=d*g:=AW _ h;have:=hg.pos;lia
def gf {α:Type} (A B:List α):Prop:=∃X Y,A=X++Y/\B=Y++X
def gf.refl {α:Type} (A:List α):gf A A:=⟨A,[],by simp,by simp⟩
def gf.symm {α:Type} {A B:List α} (h:gf A B):gf B A:=by obtain⟨X,Y,a,b⟩:=h;exact⟨Y,X,b,a⟩
def gf.trans {α:Type} {A B C:List α} (h:gf A B) (k:gf B C):gf A C:=by
 obtain⟨X,Y,rfl,rfl⟩:=h;obtain⟨X',Y',e,rfl⟩:=k;rcases List.append_eq_append_iff.mp e with ⟨W,e1,e2⟩ | ⟨W,e1,e2⟩
 ·-- X'=Y++W
  exact⟨W,Y'++Y,by rw[e2];simp,by rw[e1];simp⟩
 ·exact⟨X++X',W,by rw[e1];simp,by rw[e2];simp⟩
def gf.map {α β:Type} {A B:List α} (f:α->β) (h:gf A B):gf (A.map f) (B.map f):=by
 obtain⟨X,Y,rfl,rfl⟩:=h;exact⟨X.map f,Y.map f,by simp,by simp⟩
def gf.mem {α:Type} {A B:List α} (h:gf A B) (x:α):x∈A↔x∈B:=by
 obtain⟨X,Y,rfl,rfl⟩:=h;simp[or_comm]
def gf.nodup {α:Type} {A B:List α} (h:gf A B) (n:A.Nodup):B.Nodup:=by
 obtain⟨X,Y,rfl,rfl⟩:=h;rw[jA] at n ⊢;exact⟨n.2.1,n.1,λa ha b hb e=>n.2.2 b hb a ha e.symm⟩
theorem gf.head {α:Type} {z:α} {S T:List α} (h:gf (z::S) (z::T)) (n:(z::S).Nodup):S=T:=by
 obtain⟨X,Y,e1,e2⟩:=h;cases X with
 | nil=>simp at e1 e2;rw[<-e1] at e2;exact (List.cons.inj e2).2.symm
 | cons x X =>
  cases Y with
  | nil=>simp at e1 e2;rw[e1.2,e2.2]
  | cons y Y =>
   simp at e1 e2;have h1:=(eS.mp n).1;rw[e1.2] at h1;exact absurd (by rw[<-e2.1];simp) h1
def gf.least {S T:List Pt} (h:gf (z::S) (w::T)) (n:(z::S).Nodup) (l1:∀q∈S,¬br q z) (l2:∀q∈T,¬br q w):z::S=w::T:=by
 have hz:z∈w::T:=(h.mem z).mp (by simp);have hw:w∈z::S:=(h.mem w).mpr (by simp);have e:z=w:=by
  rcases aJ.mp hz with e | hz
  ·exact e
  ·rcases aJ.mp hw with e | hw
   ·exact e.symm
   ·rcases pS z w with h | h | h
    ·exact absurd h (l2 z hz)
    ·exact h
    ·exact absurd h (l1 w hw)
 subst e;rw[h.head n]
def dk.rot (h:gf A B) (c:dk A):dk B:=by obtain⟨X,Y,rfl,rfl⟩:=h;exact c.swap
def LN (cs:List Pt) (gz:cs≠[]):∃z T,gf cs (z::T)/\∀q∈T,¬br q z:=by
 have:∃z∈cs,∀q∈cs,¬br q z:=by
  induction cs with
  | nil=>exact absurd rfl gz
  | cons c cs ih =>
   by_cases hc:cs=[]
   ·subst hc;exact⟨c,by simp,λq hq=>by simp at hq;subst hq;exact tH⟩
   ·obtain⟨z,hz,hl⟩:=ih hc;rcases pS c z with h | h | h
    ·refine⟨c,by simp,λq hq=>?_⟩;rcases aJ.mp hq with rfl | hq
     ·exact tH
     ·exact λk=>hl q hq (qE k h)
    ·subst h;refine⟨c,by simp,λq hq=>?_⟩;rcases aJ.mp hq with rfl | hq
     ·exact tH
     ·exact hl q hq
    ·refine⟨z,by simp[hz],λq hq=>?_⟩;rcases aJ.mp hq with rfl | hq
     ·exact tO h
     ·exact hl q hq
 obtain⟨z,hz,hl⟩:=this;obtain⟨X,Y,rfl⟩:=tY hz;exact⟨z,Y++X,⟨X,z::Y,rfl,rfl⟩,λq hq=>hl q (by simp at hq ⊢;rcases hq with h | h <;> simp[h])⟩
abbrev scl (k:Int) (z:Pt):Pt:=(k*z.1,k*z.2)
def GD (hk:0<k):br (scl k a) (scl k b)↔br a b:=by
 unfold br scl;dsimp only;rw[DF hk,DF hk];constructor
 ·rintro (h | ⟨h,h'⟩)
  ·exact fD h
  ·exact fE ⟨dQ (by lia) h,h'⟩
 ·rintro (h | ⟨h,h'⟩)
  ·exact fD h
  ·exact fE ⟨by rw[h],h'⟩
def IT (hk:0<k) (h:scl k a=scl k b):a=b:=by
 simp only[scl,eM] at h;exact kR (dQ (by lia) h.1) (dQ (by lia) h.2)
def Ba (k:Int) (a b c:Pt):cK (scl k a) (scl k b) (scl k c)=k*k*cK a b c:=by unfold cK scl;dsimp only;grind
def dk.unscl (hk:0<k) (h:dk (cs.map (scl k))):dk cs:=by
 refine⟨by simpa using h.len,?_,λa b g9 q hq n1 n2=>?_⟩
 ·exact AR (scl k) (λa b hn e=>hn (by rw[e])) h.nodup
 ·have c:cc (cs.map (scl k)) (scl k a) (scl k b):=by
   obtain⟨l,r,e⟩:=g9;refine⟨l.map (scl k),r.map (scl k),?_⟩;rw[<-pA,<-cX,e];simp
  have:=h.strict _ _ c (scl k q) (dI hq) (λe=>n1 (IT hk e)) λe=>n2 (IT hk e);rw[Ba] at this;exact jQ (by rw[fL];exact this) (aL hk hk)
def Jl:FD:=λds Q=>∃a b:Int,ds=[.int a,.int b]/\(0<a/\0<b)/\(BL 8000 a/\BL 8000 b)/\∀l,0<l->a∣l->b∣l->l<=a*b->Q (.int l)
def BT:∀ds Q,Jl ds Q->uT AO { nx:=λ_=>Q .non,rt:=Q } (dR ["one","other"] ds):=by
 rintro ds Q ⟨a,b,rfl,⟨ha,hb⟩,⟨ba,bb⟩,q⟩;rw[cS 0 rfl];unfold uT;walk_at "rd";refine⟨a,b,rfl,?_⟩;have hg:=MT (a:=a) (b:=b) (by lia);have bg:=BL.gcd (a:=a) (b:=b) (by lia) bb;walk_at "rd";have b2:BL 8000 (b.fdiv (cJ a b:Nat)):=bb.fdiv;refine⟨(bg.mono).divOk (by lia),ba.mulOk b2,?_⟩;obtain⟨c,ec⟩:((cJ a b:Nat):Int)∣b:=lK ..;obtain⟨d,ed⟩:((cJ a b:Nat):Int)∣a:=mB ..;have e1:b.fdiv (cJ a b:Nat)=c:=by
  rw[dC _ (by lia)];have:b / ((cJ a b:Nat):Int)=(((cJ a b:Nat):Int)*c) / ((cJ a b:Nat):Int):=congrArg (· / ((cJ a b:Nat):Int)) ec;rw[this,fR _ (by lia)]
 rw[e1];generalize hG:((cJ a b:Nat):Int)=g at *;have pc:0<c:=by
  apply mO.mp;intro hn;have:g*c<=0:=gG (by lia) hn;lia
 refine q _ (aL ha pc) (Int.dvd_mul_right ..) ⟨d,by rw[ed,ec];grind⟩ ?_;rw[ec];have:0<=a*((g-1)*c):=cV (by lia) (cV (by lia) (by lia));have e:a*(g*c)=a*c+a*((g-1)*c):=by grind
 lia
abbrev mv (k r w:Int) (z:Pt):Pt:=(k*z.1+r,k*z.2+w)
structure p9 (bj:Int) (cs:List Pt) (sign p q u v:Int) (sh:Int) (zs:List Pt):Prop where
 ex:∃(κ s r w m:Int) (z:Pt) (T:List Pt),(0<κ/\s=κ*bj/\s<=bj*q*v)/\(r*q=p*s/\w*v=u*s)/\gf (cs.map (mv (sign*κ) r w)) (z::T)/\(∀q∈T,¬br q z)/\dk (z::T)/\fj s (z::T) m sh zs
def AQ:FD:=λds Q=>∃(bj sign p q u v:Int) (cs:List Pt),ds=[.tup [.int bj,.tup (cs.map pt)],.tup [.int sign,.tup [.int p,.int q],.tup [.int u,.int v]]]/\(0<bj/\0<q/\0<v/\(sign=1\/sign = -1)) /\
 (BL 2000 bj/\BL 2000 q/\BL 2000 v/\BL 7000 p/\BL 7000 u)/\(∀z∈cs,BL 7000 z.1/\BL 7000 z.2)/\dk cs/\cs.length<64/\∀sh zs,p9 bj cs sign p q u v sh zs->Q (.tup [.int sh,.tup (zs.map pt)])
def Fq (k r w:Int) (a b c:Pt):cK (mv k r w a) (mv k r w b) (mv k r w c)=k*k*cK a b c:=by unfold cK mv;dsimp only;grind
def Vr (hk:k≠0) (h:mv k r w a=mv k r w b):a=b:=by
 simp only[mv,eM] at h;have h1:k*a.1=k*b.1:=by lia
 have h2:k*a.2=k*b.2:=by lia
 exact kR (dQ hk h1) (dQ hk h2)
def Xg {k:Int} (h:k≠0):0<k*k:=by
 rcases FH h with h | h
 ·have:=aL (a:=-k) (b:=-k) (by lia) (by lia)
  rwa [Int.neg_mul_neg] at this
 ·exact aL h h
def XS {n:Nat} (h0:0<a) (h:a<=b) (hb:BL n b):BL n a:=hb.le (by lia)
def Ap:∀ds Q,AQ ds Q->UL wM Jl { nx:=λ_=>Q .non,rt:=Q } (dR ["piece","move","dx","dy","share","scale","right","up"] ds):=by
 rintro ds Q ⟨bj,sign,p,q,u,v,cs,rfl,⟨h0,hq,hv,hs⟩,⟨b0,bq,bv,bp,bu⟩,bc,cv,hl,hQ⟩;rw[cS 6 rfl];unfold UL;simp only[hU,Zu,aQ,bZ,bI,bV];generalize hP:D.tup [.int bj,.tup (cs.map pt)]=PD;generalize hM:D.tup [.int sign,.tup [.int p,.int q],.tup [.int u,.int v]]=MD;refine cN (λf=>f=[aa PD,aa MD,aa (.tup [.int p,.int q]),none,none,none,none,none]) (λK hK=>?_) ?_
 ·rw[<-hP,<-hM] at hK ⊢;walk_at "rd";exact hK _ rfl
 rintro f rfl;refine cN (λf=>f=[aa PD,aa MD,aa (.tup [.int p,.int q]),aa (.tup [.int u,.int v]),none,none,none,none]) (λK hK=>?_) ?_
 ·rw[<-hP,<-hM] at hK ⊢;walk_at "rd";exact hK _ rfl
 rintro f rfl;refine cN (λf=>∃s:Int,(0<s/\bj∣s/\q∣s/\v∣s/\s<=bj*q*v)/\f=[aa PD,aa MD,aa (.tup [.int p,.int q]),aa (.tup [.int u,.int v]),aa (.int s),none,none,none]) (λK hK=>?_) ?_
 ·rw[<-hP,<-hM] at hK ⊢;walk_at "rd";refine⟨bj,q,rfl,⟨h0,hq⟩,⟨b0.mono,bq.mono⟩,λl l0 l1 l2 l3=>?_⟩;refine⟨l,v,rfl,⟨l0,hv⟩,⟨(XS l0 l3 (b0.mul bq)).mono,bv.mono⟩,λs s0 s1 s2 s3=>?_⟩;refine hK _ ⟨s,⟨s0,mY l1 s1,mY l2 s1,s2,?_⟩,rfl⟩;exact Int.le_trans s3 (aW l3 (by lia))
 rintro f ⟨s,⟨s0,⟨i,e1⟩,⟨cq,e2⟩,⟨qv,e3⟩,s4⟩,rfl⟩;have bs:BL 6000 s:=XS s0 s4 ((b0.mul bq).mul bv);have pk:0<i:=by
  apply mO.mp;intro hn;have:bj*i<=0:=gG (by lia) hn;lia
 have d1:s.fdiv bj=i:=by rw[dC _ (by lia),e1,fR _ (by lia)]
 have d2:s.fdiv q=cq:=by rw[dC _ (by lia),e2,fR _ (by lia)]
 have d3:s.fdiv v=qv:=by rw[dC _ (by lia),e3,fR _ (by lia)]
 have bk:BL 6000 i:=by rw[<-d1];exact bs.fdiv
 have Z6:BL 6000 cq:=by rw[<-d2];exact bs.fdiv
 have Z7:BL 6000 qv:=by rw[<-d3];exact bs.fdiv
 have r9:BL 1 sign:=by rcases hs with rfl | rfl <;> exact BL.const (by decide)
 refine cN (λf=>f=[aa PD,aa MD,aa (.tup [.int p,.int q]),aa (.tup [.int u,.int v]),aa (.int s),aa (.int (sign*i)),none,none]) (λK hK=>?_) ?_
 ·rw[<-hP,<-hM] at hK ⊢;walk_at "rd";rw[d1];exact⟨(b0.mono).divOk (by lia),r9.mulOk bk,hK _ rfl⟩
 rintro f rfl;refine cN (λf=>f=[aa PD,aa MD,aa (.tup [.int p,.int q]),aa (.tup [.int u,.int v]),aa (.int s),aa (.int (sign*i)),aa (.int (p*cq)),none]) (λK hK=>?_) ?_
 ·rw[<-hP,<-hM] at hK ⊢;walk_at "rd";rw[d2];exact⟨(bq.mono).divOk (by lia),bp.mulOk Z6,hK _ rfl⟩
 rintro f rfl;refine cN (λf=>f=[aa PD,aa MD,aa (.tup [.int p,.int q]),aa (.tup [.int u,.int v]),aa (.int s),aa (.int (sign*i)),aa (.int (p*cq)),aa (.int (u*qv))]) (λK hK=>?_) ?_
 ·rw[<-hP,<-hM] at hK ⊢;walk_at "rd";rw[d3];exact⟨(bv.mono).divOk (by lia),bu.mulOk Z7,hK _ rfl⟩
 rintro f rfl;rw[<-hP];have Fn:=r9.mul bk;walk_at "rd";refine⟨pI (by simp;lia),?_⟩;refine uJ (λf=>∃a b,f=[a,b,aa (.int (sign*i)),aa (.int (p*cq)),aa (.int (u*qv))]) pt (λz=>pt (mv (sign*i) (p*cq) (u*qv) z)) cs ?_ ⟨_,_,rfl⟩ ?_
 ·rintro z hz f ⟨a,b,rfl⟩ K' ma;walk_at "rd";obtain⟨z1,z2⟩:=bc z hz;exact⟨Fn.mulOk z1,Fn.mulOk z2,ma _ ⟨_,_,rfl⟩⟩
 have hk0:sign*i≠0:=by rcases hs with rfl | rfl <;> lia
 have Z9:dk (cs.map (mv (sign*i) (p*cq) (u*qv))):=cv.map (Xg hk0) (Fq _ _ _) λa b h=>Vr hk0 h;obtain⟨z,T,rot,least⟩:=LN (cs.map (mv (sign*i) (p*cq) (u*qv))) (by intro e;have:=Z9.len;rw[e] at this;simp at this);have cz:=dk.rot rot Z9;refine⟨s,cs.map (mv (sign*i) (p*cq) (u*qv)),by show _=[D.int s,.lst (uA pt (uA (mv (sign*i) (p*cq) (u*qv)) cs))];rw[dA];rfl,⟨s0,bs.mono⟩,λw hw=>?_,by simpa using hl,fD ⟨z,T,⟨cz,least,λa ha=>(rot.mem a).mpr ha,λa b g9 c hc=>cz.side g9 ((rot.mem c).mp hc)⟩,λm sh zs N=>hQ sh zs ⟨i,s,p*cq,u*qv,m,z,T,⟨pk,by rw[e1];exact fL ..,s4⟩,⟨by rw[e2];grind,by rw[e3];grind⟩,rot,least,cz,N⟩⟩⟩;obtain⟨x,hx,rfl⟩:=bF.mp hw;obtain⟨x1,x2⟩:=bc x hx;exact⟨((Fn.mul x1).add (bp.mul Z6)).mono,((Fn.mul x2).add (bu.mul Z7)).mono⟩
section
abbrev gF (F:Int) (t:H3):Pt:=(t.1*(F / t.2.2),t.2.1*(F / t.2.2))
structure O8 (F:Int) (t:H3):Prop where
 w:0<t.2.2
 f:0<F / t.2.2
 e:F / t.2.2*t.2.2=F
def pZ {a b:Int} (ha:0<a) (h:0<a*b):0<b:=by
 apply mO.mp;intro hb;have:a*b<=0:=gG (by lia) hb;lia
end
def d_ (x y:Pt):Int:=x.1*y.2-x.2*y.1
def Oi (o x y:Pt):cK o x y=d_ x y+d_ o x-d_ o y:=by unfold cK d_;grind
theorem UI (o:Pt):∀(a:Pt) (l:List Pt),gk (cK o) a l=gk d_ a l+d_ o a-d_ o (wG a l)
 | a,[]=>by show (0:Int)=0+d_ o a-d_ o a;lia
 | a,b::l=>by
  show cK o a b+gk (cK o) b l=d_ a b+gk d_ b l+d_ o a-d_ o (wG b l);rw[UI o b l,Oi];lia
theorem OJ (o:Pt) (l:List Pt):oM (cK o) l=oM d_ l:=by
 cases l with
 | nil=>rfl
 | cons z T =>
  show gk (cK o) z (T++[z])=gk d_ z (T++[z]);rw[UI,sE];lia
theorem Fw {α β:Type} (f:β->β->Int) (g:α->β):∀(a:α) (l:List α),gk f (g a) (l.map g)=gk (λx y=>f (g x) (g y)) a l
 | a,[]=>rfl
 | a,b::l=>by
  show f (g a) (g b)+gk f (g b) (l.map g)=f (g a) (g b)+_;rw[Fw f g b l]
theorem OF {α β:Type} (f:β->β->Int) (g:α->β) (l:List α):oM f (l.map g)=oM (λx y=>f (g x) (g y)) l:=by
 cases l with
 | nil=>rfl
 | cons z T =>
  show gk f (g z) (T.map g++[g z])=gk _ z (T++[z]);rw[<-Fw f g z (T++[z])];simp
theorem Fx {α:Type} (k:Int) (f:α->α->Int):∀(a:α) (l:List α),gk (λx y=>k*f x y) a l=k*gk f a l
 | a,[]=>by show (0:Int)=k*0;lia
 | a,b::l=>by
  show k*f a b+gk _ b l=k*(f a b+gk f b l);rw[Fx k f b l,Int.mul_add]
theorem OG {α:Type} (k:Int) (f:α->α->Int) (l:List α):oM (λx y=>k*f x y) l=k*oM f l:=by
 cases l with
 | nil=>show (0:Int)=k*0;lia
 | cons z T=>exact Fx k f z (T++[z])
def OI (k:Int) (l:List Pt):oM d_ (l.map (scl k))=k*k*oM d_ l:=by
 rw[OF,<-OG];congr 1;funext x y;unfold d_ scl;dsimp only;grind
def OH {f:Pt->Pt->Int} {A B:List Pt} (h:gf A B):oM f A=oM f B:=by
 obtain⟨X,Y,rfl,rfl⟩:=h;exact Jy f X Y
abbrev cr (a b:Int × Int):Int:=a.1*b.2-a.2*b.1
def chain (a:Int × Int):List (Int × Int)->Int
 | []=>0
 | b::r=>cr a b+chain b r
def XL (n:Nat) (zs:List (Int × Int)):Prop:=∀z∈zs,BL n z.1/\BL n z.2
namespace K12
end K12
structure j3 where
 a:Int
 b:Int
 c:Int
abbrev ln (l:j3):D:=.tup [.int l.a,.int l.b,.int l.c]
def j3.BLn (n:Nat) (l:j3):Prop:=BL n l.a/\BL n l.b/\BL n l.c
abbrev exc (l:j3) (p:Int × Int) (s:Int):Int:=l.a*p.1+l.b*p.2-l.c*s
abbrev h3 (t:H3):D:=.tup [.int t.1,.int t.2.1,.int t.2.2]
abbrev Ug (l:j3) (sh:Int):j7:=⟨l.a,l.b,l.c*sh⟩
abbrev k8 (L:j7) (z:Pt):D:=.tup [pt z,.int (c6 L z)]
abbrev pc (sh:Int) (zs:List Pt):D:=.tup [.int sh,.tup (zs.map pt)]
abbrev Tu (L:j7) (cs:List Pt):List H3:=Pl L (cs++cs.take 1)
structure u4 (L:j7) (sh:Int) (cs:List Pt) (gt:Int) (zs:List Pt):Prop where
 ex:∃(F m:Int) (z:Pt) (T:List Pt),0<F/\(∀t∈Tu L cs,O8 F t)/\gf ((Tu L cs).map (gF F)) (z::T)/\(∀q∈T,¬br q z)/\dk (z::T)/\fj (sh*F) (z::T) m gt zs/\(BL 4003 F/\zs.length<=cs.length+2)
inductive ka (L:j7) (sh:Int) (cs:List Pt):D->Prop
 | whole (h:∀z∈cs,c6 L z<=0):ka L sh cs (pc sh cs)
 | nothing (h:∀z∈cs,0<=c6 L z) (n:¬ ∀z∈cs,c6 L z<=0):ka L sh cs .non
 | part (hp:∃z∈cs,0<c6 L z) (hn:∃z∈cs,c6 L z<0) {gt:Int} {zs:List Pt} (h:u4 L sh cs gt zs):ka L sh cs (pc gt zs)
def Tz:FD:=λds Q=>∃(l:j3) (sh:Int) (cs:List Pt),ds=[pc sh cs,ln l]/\(0<sh/\BL 2000 sh/\l.BLn 10000)/\(∀w∈cs,BL 2000 w.1/\BL 2000 w.2/\BL 2000 (exc l w sh))/\(dk cs/\cs.length<60)/\∀d,ka (Ug l sh) sh cs d->Q d
def rg (cs:List Pt) (i:Nat):Pt:=cs.getD (i % cs.length) (0,0)
section
def KW (h:0<cs.length) (i:Nat):cs[i % cs.length]? = some (rg cs i):=by
 unfold rg;rw[cE,aD (jK _ h)];rfl
def yU (h:0<cs.length) (i:Nat):rg cs i∈cs:=dM (KW h i)
def EY (h:i<cs.length):cs[i]? = some (rg cs i):=by
 have:=KW (cs:=cs) (by lia) i
 rwa [gL h] at this
def Cr (h1:l[i]? = some a) (h2:l[i+1]? = some b):iw l a b:=by
 obtain⟨l1,e1⟩:=bC.mp h1;obtain⟨l2,e2⟩:=bC.mp h2;refine⟨l.take i,l.drop (i+2),?_⟩
 conv=>lhs;rw[<-gM i l]
 rw[gE l1,gE l2,e1,e2]
def Ck (h:iw l a b):∃i,l[i]? = some a/\l[i+1]? = some b:=by
 obtain⟨x,y,e⟩:=h;refine⟨x.length,?_,?_⟩
 ·rw[e,dE (by lia)];simp
 ·rw[e,dE (by lia)];simp
def Cc (h:0<cs.length) (i:Nat):cc cs (rg cs i) (rg cs (i+1)):=by
 have hj:=jK i h;refine Cr (i:=i % cs.length) ?_ ?_
 ·rw[dJ hj];exact KW h i
 ·have g:=KW h (i+1);by_cases hl:i % cs.length+1<cs.length
  ·rw[dJ hl,<-g];congr 1;rw[LF];by_cases h1:cs.length=1
   ·lia
   ·rw[show 1 % cs.length=1 from gL (by lia),gL hl]
  ·rw[dE (by lia),show i % cs.length+1-cs.length=0 by lia,FN,if_pos (by lia),<-g];congr 1;rw[LF];by_cases h1:cs.length=1
   ·rw[h1];lia
   ·rw[show 1 % cs.length=1 from gL (by lia),show i % cs.length+1=cs.length by lia,Nat.mod_self]
def GC (i:Nat):rg cs (i+cs.length)=rg cs i:=by unfold rg;rw[GS]
def Pg (h:cc cs a b):∃k,k<cs.length/\a=rg cs (k+(cs.length-1))/\b=rg cs k:=by
 obtain⟨i,h1,h2⟩:=Ck h;have l2:i+1<(cs++cs.take 1).length:=(bC.mp h2).1;rw[bJ,fY] at l2;have hi:i<cs.length:=by lia
 have sv:0<cs.length:=by lia
 rw[dJ hi,EY hi] at h1;have h1:rg cs i=a:=dO h1;by_cases hl:i+1<cs.length
 ·rw[dJ hl,EY hl] at h2;refine⟨i+1,hl,?_,(dO h2).symm⟩;rw[show i+1+(cs.length-1)=i+cs.length by lia,GC,h1]
 ·rw[dE (by lia),show i+1-cs.length=0 by lia,FN,if_pos (by lia),EY sv] at h2;refine⟨0,sv,?_,(dO h2).symm⟩;rw[show 0+(cs.length-1)=i by lia,h1]
def XY (h:0<cs.length) (k:Nat):cc cs (rg cs (k+(cs.length-1))) (rg cs k):=by
 have:=Cc h (k+(cs.length-1))
 rwa [show k+(cs.length-1)+1=k+cs.length by lia,GC] at this
def XC (n:cs.Nodup) (h:0<cs.length) (e:rg cs i=rg cs j):i % cs.length=j % cs.length:=by
 refine (List.getElem?_inj (jK i h) n).mp ?_;rw[KW h i,KW h j,e]
def Co {n i d:Nat} (h:0<d) (hd:d<n):(i+d) % n≠i % n:=by
 have h0:=jK i (show 0<n by lia);rw[LF,gL hd];rcases Nat.lt_or_ge (i % n+d) n with h' | h'
 ·rw[gL h'];lia
 ·rw[Nat.mod_eq_sub_mod h',gL (by lia)];lia
def dk.bend_rg (c:dk cs) (i:Nat):0<cK (rg cs i) (rg cs (i+1)) (rg cs (i+2)):=by
 have h3:=c.len;refine c.strict _ _ (Cc (by lia) i) _ (yU (by lia) _) (λe=>?_) λe=>?_
 ·exact Co (i:=i) (d:=2) (by lia) (by lia) (XC c.nodup (by lia) e)
 ·exact Co (i:=i+1) (d:=1) (by lia) (by lia) (XC c.nodup (by lia) e)
theorem Go:∀(l:List Pt),∃M:Int,0<M/\∀p∈l,-M<p.2/\p.2<M
 | []=>⟨1,by decide,by simp⟩
 | p::l=>by
  obtain⟨M,h,hM⟩:=Go l;refine⟨M+p.2.natAbs+1,by lia,λq hq=>?_⟩;rcases aJ.mp hq with rfl | hq
  ·lia
  ·have:=hM q hq;lia
def ZM (c:dk cs) (h1:cc cs t u) (h2:cc cs u v) (nt:t≠v) (e1:br u t) (e2:br u v):∀w∈cs,¬br w u:=by
 obtain⟨M,hM,hb⟩:=Go cs;have mono:∀p∈cs,∀q∈cs,br p q->c6 ⟨2*M,1,0⟩ p<c6 ⟨2*M,1,0⟩ q:=by
  intro p hp q hq hl;have b1:=hb p hp;have b2:=hb q hq;unfold c6;dsimp only;rcases hl with h | ⟨h,h'⟩
  ·have:2*M*(q.1-p.1-1) ≥ 0:=cV (by lia) (by lia);have e:2*M*(q.1-p.1-1)=2*M*q.1-2*M*p.1-2*M:=(by grind);lia
  ·rw[h];lia
 have mu:=(cc.mem h1).2;have mt:=(cc.mem h1).1;have mv:=(cc.mem h2).2;have lb:=Hs (L:=⟨2*M,1,0⟩) c h1 h2 nt (aU (mono u mu t mt e1)) (aU (mono u mu v mv e2));intro w hw hl;have:=mono w hw u mu hl;have:=lb w hw;lia
def He (c:dk (z::T)) (least:∀q∈T,¬br q z) (hk:k<(z::T).length):(br (rg (z::T) (k+((z::T).length-1))) (rg (z::T) (k+((z::T).length-2)))/\br (rg (z::T) (k+((z::T).length-1))) (rg (z::T) k))↔k=1:=by
 have h3:=c.len;have z0:rg (z::T) 0=z:=by have:=EY (cs:=z::T) (i:=0) (by lia);simp at this;exact this.symm
 have qm:∀i,i % (z::T).length≠0->br z (rg (z::T) i):=by
  intro i hi;have m:=yU (cs:=z::T) (by lia) i;have ne:rg (z::T) i≠z:=λe=>hi (by
   have:=XC c.nodup (by lia) (i:=i) (j:=0) (by rw[e,z0])
   rwa [Nat.zero_mod] at this)
  rcases pS z (rg (z::T) i) with h | h | h
  ·exact h
  ·exact absurd h.symm ne
  ·rcases aJ.mp m with e | m
   ·exact absurd e ne
   ·exact absurd h (least _ m)
 generalize hn:(z::T).length=n at *;constructor
 ·rintro⟨a,b⟩;have c1:cc (z::T) (rg (z::T) (k+(n-2))) (rg (z::T) (k+(n-1))):=by
   have:=Cc (cs:=z::T) (by lia) (k+(n-2))
   rwa [show k+(n-2)+1=k+(n-1) by lia] at this
  have c2:cc (z::T) (rg (z::T) (k+(n-1))) (rg (z::T) k):=by
   have:=XY (cs:=z::T) (by lia) k
   rwa [hn] at this
  have nt:rg (z::T) (k+(n-2))≠rg (z::T) k:=λe=>by
   have:=XC c.nodup (by lia) e;rw[hn] at this;exact Co (by lia) (by lia) this
  have ll:=ZM c c1 c2 nt a b z (by simp);apply fA;intro hk1;refine ll (qm _ ?_);intro e;by_cases h0:k=0
  ·subst h0;rw[gL (by lia)] at e;lia
  ·rw[show k+(n-1)=(k-1)+n by lia,GS,gL (by lia)] at e;lia
 ·rintro rfl;have e1:rg (z::T) (1+(n-1))=z:=by rw[show 1+(n-1)=0+(z::T).length by lia,GC,z0]
  rw[e1];exact⟨qm _ (by rw[gL (by lia)];lia),qm _ (by rw[gL (by lia)];lia)⟩
end
section
def CO (h:gf A B) (k:cc B a b):cc A a b:=by
 obtain⟨X,Y,rfl,rfl⟩:=h;exact OL k
def yL (h:cc l a b):cc (l.map f) (f a) (f b):=by
 obtain⟨x,y,e⟩:=h;refine⟨x.map f,y.map f,?_⟩;rw[<-pA,<-cX,e];simp
end
abbrev lo (x:Int):Pt:=(x,x*x)
abbrev hi (top x:Int):Pt:=(x,top-x*x)
def XM (p q r s ox oy:Int) (a b c:Pt):cK (aff p q r s ox oy a) (aff p q r s ox oy b) (aff p q r s ox oy c)=(p*s-q*r)*cK a b c:=by
 unfold cK aff;dsimp only;grind
def Ei {p q r s ox oy:Int} (hd:0<p*s-q*r) (a b:Pt) (h:aff p q r s ox oy a=aff p q r s ox oy b):a=b:=by
 unfold aff at h;simp only[eM] at h;obtain⟨h1,h2⟩:=h;have e1:(p*s-q*r)*(a.1-b.1)=0:=by grind
 have e2:(p*s-q*r)*(a.2-b.2)=0:=by grind
 have k1:=(sH.mp e1).resolve_left (by lia);have k2:=(sH.mp e2).resolve_left (by lia);exact kR (by lia) (by lia)
def HW (z w:Pt):HT.lexLt [z.1,z.2] [w.1,w.2]=decide (br z w):=by
 unfold br;simp only[HT.lexLt];by_cases h:z.1=w.1
 ·rw[if_pos h];by_cases h2:z.2=w.2
  ·rw[if_pos h2];simp[h,h2]
  ·rw[if_neg h2];simp[h]
 ·rw[if_neg h];simp[h]
def GE {α:Type} (j:Nat) (xs:List α):gf xs (turned j xs):=⟨xs.take j,xs.drop j,by rw[gM],rfl⟩
def RB {α β:Type} (j:Nat) (f:α->β) (xs:List α):turned j (xs.map f)=(turned j xs).map f:=by unfold turned;simp
def j8.norm {cs:List Pt} {ds:List Pt} (h:j8 share cs m sh ds j):fj share (turned j cs) m sh (turned j ds):=by
 refine⟨h.mpos,h.sh_eq,?_,λd h1 h2=>h.cop d h1 λz hz=>h2 z (((GE j ds).mem z).mp hz)⟩
 conv=>lhs;rw[h.cs_eq]
 exact RB j _ ds
def j8.first {cs:List Pt} {ds:List Pt} (h:j8 share cs m sh ds j):∃w T,turned j cs=w::T/\∀x∈T,¬br x w:=by
 obtain⟨z,T,e⟩:∃z T,turned j ds=z::T:=by
  have hj:=h.j_lt;refine⟨ds[j],ds.drop (j+1)++ds.take j,?_⟩;show ds.drop j++ds.take j=_;rw[gE hj];rfl
 have ez:ds[j]? = some z:=by
  have:(turned j ds)[0]? = some z:=by rw[e];rfl
  have hj:=h.j_lt;unfold turned at this;rw[dJ (by simp;lia),FL] at this;simpa using this
 refine⟨scl m z,T.map (scl m),?_,λx hx=>?_⟩
 ·conv=>lhs;rw[h.cs_eq]
  rw[RB,e];rfl
 ·obtain⟨y,hy,rfl⟩:=bF.mp hx;rw[GD h.mpos];have:=h.least y (((GE j ds).mem y).mpr (by rw[e];simp[hy])) z ez;rw[HW] at this;simpa using this
theorem pB:∀(xs:List D),(∀x∈xs,f x x=some true)->f_ f xs xs=some true
 | [],_=>rfl
 | x::xs,h=>by
  simp only[f_,h x (by simp),pB xs λy hy=>h y (by simp[hy])];rfl
def CS (n:Nat) (i:Int):c4 (n+1) (.int i) (.int i)=some true:=by simp[c4]
def HM (n:Nat) (z:Pt):c4 (n+2) (pt z) (pt z)=some true:=by
 show f_ (c4 (n+1)) _ _=_;refine pB _ λx hx=>?_;simp only[aJ,cY,or_false] at hx;rcases hx with rfl | rfl <;> exact CS n _
abbrev uq (sh:Int) (zs:List Pt):D:=.tup [.int sh,.tup (zs.map pt)]
def Uu (n:Nat) (sh:Int) (zs:List Pt):f_ (c4 (n+3)) [.int sh,.tup (zs.map pt)] [.int sh,.tup (zs.map pt)]=some true:=by
 refine pB _ λx hx=>?_;simp only[aJ,cY,or_false] at hx;rcases hx with rfl | rfl
 ·exact CS _ _
 ·show f_ (c4 (n+2)) _ _=_;refine pB _ λy hy=>?_;obtain⟨z,_,rfl⟩:=bF.mp hy;exact HM _ _
def YS (xs:List D) (J:Nat->En->Prop) (step:∀i x a,xs[i]? = some x->J i a->∀F:jd,F.rt=E.rt->F.bk=E.nx->(∀a',J (i+1) a'->F.nx a')->(∀a',J (i+1) a'->F.ct a')->g x a λa1=>t F a1)
  (last:∀a,J xs.length a->E.nx a) (a:En) (h:J 0 a):YR g t xs E a:=by
 refine jT (λys a=>∃i,i<=xs.length/\ys=xs.drop i/\J i a) ?_ ?_ xs a ⟨0,eV _,rfl,h⟩
 ·rintro x ys a ⟨i,hi,e,hJ⟩ F f1 f2 f3 f4;have c9:i<xs.length:=by
   apply Nat.not_le.mp;intro hn;rw[List.drop_of_length_le hn] at e;cases e
  rw[gE c9] at e;cases e;exact step i _ a (aD c9) hJ F f1 f2 (λa' h=>f3 a' ⟨i+1,by lia,rfl,h⟩) λa' h=>f4 a' ⟨i+1,by lia,rfl,h⟩
 ·rintro a ⟨i,hi,e,hJ⟩;have:i=xs.length:=by
   have:=congrArg fU e;simp at this;lia
  subst this;exact last a hJ
def Ds {lo:Int} {n i:Nat} (h:(sN lo n)[i]? = some x):x = .int (lo+i)/\i<n:=by
 unfold sN at h;rw[bT] at h;by_cases hi:i<n
 ·rw[DK hi] at h;cases h;exact⟨rfl,hi⟩
 ·rw[lB (by simpa using hi)] at h;cases h
def HQ (lo:Int) (n:Nat) (J:Nat->En->Prop) (step:∀i a,i<n->J i a->∀F:jd,F.rt=E.rt->F.bk=E.nx->(∀a',J (i+1) a'->F.nx a')->(∀a',J (i+1) a'->F.ct a')->g (.int (lo+i)) a λa1=>t F a1)
  (last:∀a,J n a->E.nx a) (a:En) (h:J 0 a):YR g t (sN lo n) E a:=by
 refine YS _ J (λi x a e hJ=>?_) (λa h=>last a (by rwa [Dt] at h)) a h;obtain⟨rfl,hi⟩:=Ds e;exact step i a hi hJ
def UX:FD:=λds Q=>∃n b p:Int,ds=[.int n,.int b,.int p]/\(0<b/\BL 9000 b)/\(0<=p/\p<=1000)/\∀x,0<=x->x<b->Q (.int x)
def QJ:∀ds Q,UX ds Q->ER { nx:=λ_=>Q .non,rt:=Q } (dR ["_law_number","_law_base","_law_place","_law_k"] ds):=by
 rintro ds Q ⟨n,b,p,rfl,⟨b0,b1⟩,⟨p0,p1⟩,q⟩;rw[cS 1 rfl];unfold ER;simp only[hU,SS,aQ,bZ,bI,bV];refine cN (λc=>∃(m:Int) (o:Option S),c=[aa (.int m),aa (.int b),aa (.int p),o]) (λK hK=>?_) ?_
 ·walk_at "rd";refine⟨⟨by lia,by lia⟩,?_⟩;refine jT (λ_ c=>∃(m:Int) (o:Option S),c=[aa (.int m),aa (.int b),aa (.int p),o]) ?_ ?_ _ _ ⟨n,none,rfl⟩
  ·rintro x xs c ⟨m,o,rfl⟩ F _ _ hn _;unfold xH;walk_at "rd";exact⟨b1.divOk (by lia),hn _ ⟨m.fdiv b,aa x,rfl⟩⟩
  ·rintro c ⟨m,o,rfl⟩;exact hK _ ⟨m,o,rfl⟩
 rintro c ⟨m,o,rfl⟩;walk_at "rd";obtain⟨a0,a1⟩:=eZ (a:=m) b0;exact⟨⟨by lia⟩,q _ a0 a1⟩
abbrev m6 (x y w:Int):D:=.tup [.int x,.int y,.int w]
def VE {cs:List Pt} {k j:Nat} (hk:k<cs.length) (hj:j<=cs.length):ik (cs.map pt) (0+(k:Int)-(j:Int))=some (pt (rg cs (k+(cs.length-j)))):=by
 unfold ik me;rw[aS];by_cases h:j<=k
 ·rw[if_pos (by lia),if_pos (by lia)];have e:(0+(k:Int)-(j:Int)).toNat=k-j:=by lia
  rw[e];show (cs.map pt)[k-j]? = _;rw[bT,EY (by lia),show k+(cs.length-j)=(k-j)+cs.length by lia,GC];rfl
 ·rw[if_neg (by lia),if_pos (by lia)];have e:(0+(k:Int)-(j:Int)+(cs.length:Int)).toNat=k+(cs.length-j):=by lia
  rw[e];show (cs.map pt)[k+(cs.length-j)]? = _;rw[bT,EY (by lia)];rfl
def BJ {cs:List Pt} {k:Nat} (hk:k<cs.length) {Q:D->Prop}:ca (.tup (cs.map pt)) (.int (0+(k:Int))) Q=Q (pt (rg cs k)):=by
 have:=VE hk (j:=0) (by lia);simp only[Int.natCast_zero,Int.sub_zero,tE,GC] at this;simp only[ca,this]
def HU {cs:List Pt} {k:Nat} (hk:k<cs.length) {Q:D->Prop}:ca (.tup (cs.map pt)) (.int (0+(k:Int)-1)) Q=Q (pt (rg cs (k+(cs.length-1)))):=by
 have:=VE hk (j:=1) (by lia);simp only[Int.natCast_one] at this;simp only[ca,this]
def ZC {cs:List Pt} {k:Nat} (hk:k<cs.length) (h2:2<=cs.length) {Q:D->Prop}:ca (.tup (cs.map pt)) (.int (0+(k:Int)-2)) Q=Q (pt (rg cs (k+(cs.length-2)))):=by
 have:=VE hk (j:=2) (by lia);have e:((2:Nat):Int)=2:=rfl;rw[e] at this;simp only[ca,this]
theorem ZE:∀{i:Nat},i<=zs.length->wG (rg zs (zs.length-1)) (zs.take i)=rg zs (i+(zs.length-1))
 | 0,_=>by rw[yA];rfl
 | j+1,h=>by
  rw[kP,EY (by lia)];show wG _ (zs.take j++[rg zs j])=_;rw[sE,show j+1+(zs.length-1)=j+zs.length by lia,GC]
def Ng (f:Pt->Pt->Int) (h:i<zs.length):gk f (rg zs (zs.length-1)) (zs.take (i+1))=gk f (rg zs (zs.length-1)) (zs.take i)+f (rg zs (i+(zs.length-1))) (rg zs i):=by
 rw[kP,EY h,uR,ZE (by lia)];show _+(f _ _+0)=_;rw[sY]
def Ru (f:Pt->Pt->Int) (h:0<zs.length):gk f (rg zs (zs.length-1)) zs=oM f zs:=by
 refine Gw f (X:=zs.take (zs.length-1)) ?_
 conv=>lhs;rw[<-rQ (l:=zs),show zs.length=(zs.length-1)+1 by lia]
 rw[kP,EY (by lia)];rfl
def VA:FD:=λds Q=>∃a b c:Pt,ds=[pt a,pt b,pt c]/\(BP a/\BP b/\BP c)/\Q (.int (cK a b c))
def SN:∀ds Q,VA ds Q->IQ { nx:=λ_=>Q .non,rt:=Q } (dR ["_law_one","_law_two","_law_three","_law_ahead"] ds):=by
 rintro ds Q ⟨a,b,c,rfl,⟨ba,bb,bc⟩,q⟩;rw[cS 1 rfl];unfold IQ;walk_at "rd";have e:(b.1-a.1)*(c.2-b.2)-(b.2-a.2)*(c.1-b.1)=cK a b c:=by unfold cK;grind
 refine⟨(bb.1.sub ba.1).mulOk (bc.2.sub bb.2),(bb.2.sub ba.2).mulOk (bc.1.sub bb.1),?_⟩;rw[e];exact q
abbrev z6 (m:Int):Int:=(if 0<m then 1 else 0)-(if m<0 then 1 else 0)
abbrev c_ (sh X Y W:Int) (a b:Pt):Int:=SE (g7 a) (g7 b) (sh*X,sh*Y,W)
def NI:FD:=λds Q=>∃(sh:Int) (cs:List Pt) (X Y W:Int),ds=[pc sh cs,m6 X Y W]/\(BL 9000 sh/\XL 9000 cs/\1<=cs.length/\cs.length<=100)/\(BL 9000 X/\BL 9000 Y/\BL 9000 W) /\
 ∀M,(∃a b,cc cs a b/\M=c_ sh X Y W a b)->(∀a b,cc cs a b->M<=c_ sh X Y W a b)->Q (.int (z6 M))
def CG (sh X Y W:Int) (a b:Pt):(b.1-a.1)*(Y*sh-a.2*W)-(b.2-a.2)*(X*sh-a.1*W)=c_ sh X Y W a b:=by unfold c_ SE g7;dsimp only;grind
def MP:∀ds Q,NI ds Q->CB { nx:=λ_=>Q .non,rt:=Q } (dR ["_law_piece","_law_spot","_law_share_here","_law_corners","_law_least","_law_k","_law_one","_law_x","_law_y","_law_side"] ds):=by
 rintro ds Q ⟨sh,cs,X,Y,W,rfl,⟨bs,hS,l1,l2⟩,⟨bX,bY,bW⟩,q⟩;rw[cS 8 rfl];unfold CB;simp only[hU,Wu,aQ,bZ,bI,bV];generalize hP:pc sh cs=PD;generalize hT:m6 X Y W=TD;have pos:0<cs.length:=by lia
 refine cN (λf=>f=[aa PD,aa TD,aa (.int sh),aa (.tup (cs.map pt)),none,none,none,none,none,none]) (λK hK=>?_) ?_
 ·rw[<-hP] at hK ⊢;walk_at "rd";exact hK _ rfl
 rintro f rfl;refine cN (λf=>f=[aa PD,aa TD,aa (.int sh),aa (.tup (cs.map pt)),aa .non,none,none,none,none,none]) (λK hK=>?_) ?_
 ·walk_at "rd";exact hK _ rfl
 rintro f rfl;refine cN (λf=>∃(M:Int) (a b c d e:Option S),((∃a b,cc cs a b/\M=c_ sh X Y W a b)/\∀a b,cc cs a b->M<=c_ sh X Y W a b)/\f=[aa PD,aa TD,aa (.int sh),aa (.tup (cs.map pt)),aa (.int M),a,b,c,d,e]) (λK hK=>?_) ?_
 ·simp only[mJ,QT,aC,aZ,r1,nX,aM,aE,aH,S.val,aS];refine⟨by constructor <;> lia,?_⟩;have nn:(((cs.length:Nat):Int)).toNat=cs.length:=by lia
  simp only[nn];refine HQ 0 cs.length (λi f=>∃(lo:D) (a b c d e:Option S),((i=0/\lo = .non)\/(∃M k0:Int × Nat,k0.2<i/\M.1=c_ sh X Y W (rg cs (k0.2+(cs.length-1))) (rg cs k0.2)/\(∀k,k<i->M.1<=c_ sh X Y W (rg cs (k+(cs.length-1))) (rg cs k))/\lo = .int M.1))/\f=[aa PD,aa TD,aa (.int sh),aa (.tup (cs.map pt)),aa lo,a,b,c,d,e]) ?_ ?_ _ ⟨.non,none,none,none,none,none,fD ⟨rfl,rfl⟩,rfl⟩
  ·rintro i f hi ⟨lo,a,b,c,d,e,M9,rfl⟩ F _ _ hn _;obtain⟨p1,p2⟩:=hS _ (yU pos (i+(cs.length-1)));obtain⟨q1,q2⟩:=hS _ (yU pos i);unfold vN;subst hT;obtain⟨u,hu⟩:∃u,u=rg cs (i+(cs.length-1)):=⟨_,rfl⟩;have bx:=(bX.mul bs).sub (p1.mul bW);have r_:=(bY.mul bs).sub (p2.mul bW);have e1:∀{Q:D->Prop},ca (.tup (cs.map pt)) (.int (0+(i:Int)-1)) Q=Q (pt u):=λ{Q}=>(by rw[hu];exact HU hi);rw[<-hu] at p1 p2 bx r_;simp only[dH,aV,aR];refine cN (λf=>f=[aa PD,aa (m6 X Y W),aa (.int sh),aa (.tup (cs.map pt)),aa lo,aa (.int (0+(i:Int))),aa (pt u),c,d,e]) (λK' ma=>?_) ?_
   ·simp only[eQ,r2,aM,rC,S.val,mK,aH,aE,e1,aV,aR];exact ma _ rfl
   rintro f rfl;refine cN (λf=>f=[aa PD,aa (m6 X Y W),aa (.int sh),aa (.tup (cs.map pt)),aa lo,aa (.int (0+(i:Int))),aa (pt u),aa (.int (X*sh-u.1*W)),d,e]) (λK' ma=>?_) ?_
   ·simp only[eQ,r2,aM,rC,S.val,mK,fC,mW,qT,aH,aE,aV,aR];exact⟨bX.mulOk bs,p1.mulOk bW,ma _ rfl⟩
   rintro f rfl;refine cN (λf=>f=[aa PD,aa (m6 X Y W),aa (.int sh),aa (.tup (cs.map pt)),aa lo,aa (.int (0+(i:Int))),aa (pt u),aa (.int (X*sh-u.1*W)),aa (.int (Y*sh-u.2*W)),e]) (λK' ma=>?_) ?_
   ·simp only[eQ,r2,aM,rC,S.val,mK,fC,lP,qT,aH,aE,aV,aR];exact⟨bY.mulOk bs,p2.mulOk bW,ma _ rfl⟩
   rintro f rfl;refine cN (λf=>f=[aa PD,aa (m6 X Y W),aa (.int sh),aa (.tup (cs.map pt)),aa lo,aa (.int (0+(i:Int))),aa (pt u),aa (.int (X*sh-u.1*W)),aa (.int (Y*sh-u.2*W)),aa (.int (c_ sh X Y W u (rg cs i)))]) (λK' ma=>?_) ?_
   ·simp only[eQ,r2,aM,rC,S.val,mK,fC,BJ hi,mW,lP,aH,aE,aV,aR];refine⟨(q1.sub p1).mulOk r_,(q2.sub p2).mulOk bx,?_⟩;rw[CG];exact ma _ rfl
   rintro f rfl;subst hu;walk_at "rd";have mk:∀(M:Int) (k0:Nat) (a b c d e:Option S),k0<i+1->M=c_ sh X Y W (rg cs (k0+(cs.length-1))) (rg cs k0)->(∀k,k<i+1->M<=c_ sh X Y W (rg cs (k+(cs.length-1))) (rg cs k))->F.nx [aa PD,aa (m6 X Y W),aa (.int sh),aa (.tup (cs.map pt)),aa (.int M),a,b,c,d,e] :=
    λM k0 a b c d e h1 h2 h3=>hn _ ⟨_,a,b,c,d,e,fE ⟨(M,0),(0,k0),h1,h2,h3,rfl⟩,rfl⟩
   have le:∀{M:Int},M<=c_ sh X Y W (rg cs (i+(cs.length-1))) (rg cs i)->(∀k,k<i->M<=c_ sh X Y W (rg cs (k+(cs.length-1))) (rg cs k))->∀k,k<i+1->M<=c_ sh X Y W (rg cs (k+(cs.length-1))) (rg cs k):=λh h' k hk=>by
    rcases uD (jB hk) with h0 | rfl
    ·exact h' k h0
    ·exact h
   rcases M9 with ⟨h0,rfl⟩ | ⟨M,k0,h1,h2,h3,rfl⟩
   ·subst h0;simp only[if_true];exact mk _ 0 _ _ _ _ _ (Nat.zero_lt_succ _) rfl (le (sC _) λk hk=>absurd hk (lH k))
   ·simp only[aN,if_false];split
    ·rename_i c9;exact mk _ i _ _ _ _ _ (kL i) rfl (le (sC _) λk hk=>Int.le_trans (aU c9) (h3 k hk))
    ·rename_i c9;exact mk _ k0.2 _ _ _ _ _ (gP h1) h2 (le (jU.mp c9) h3)
  ·rintro f ⟨lo,a,b,c,d,e,M9,rfl⟩;rcases M9 with ⟨h0,rfl⟩ | ⟨M,k0,h1,h2,h3,rfl⟩
   ·lia
   ·refine hK _ ⟨M.1,a,b,c,d,e,⟨⟨_,_,XY pos k0.2,h2⟩,λx y V1=>?_⟩,rfl⟩;obtain⟨k,hk,rfl,rfl⟩:=Pg V1;exact h3 k hk
 rintro f ⟨M,a,b,c,d,e,⟨m1,m2⟩,rfl⟩;have fin:=q M m1 m2;walk_at "rd";exact fin
def NK:FD:=λds Q=>∃(sh:Int) (zs:List Pt),ds=[pc sh zs]/\1<=sh/\3<=zs.length/\Q (.bl true)
def yT:∀ds Q,NK ds Q->rN CM { nx:=λ_=>Q .non,rt:=Q } (dR ["_law_piece","_law_corner"] ds):=by
 rintro ds Q ⟨sh,zs,rfl,h1,h3,q⟩;rw[cS 1 rfl];unfold rN;simp only[hU,SS,aQ,bZ,bI,bV];refine cN (λa=>a=[aa (pc sh zs),none]) (λK hK=>?_) ?_
 ·walk_at "rd";refine⟨sh,rfl,?_⟩;walk_at "rd";rw[if_neg (by lia)];exact hK _ rfl
 rintro a rfl;refine cN (λa=>a=[aa (pc sh zs),none]) (λK hK=>?_) ?_
 ·walk_at "rd";rw[if_neg (by simp;lia)];exact hK _ rfl
 rintro a rfl;refine cN (λa=>True) (λK hK=>?_) ?_
 ·walk_at "rd";refine jT (λxs a=>∃(rest:List Pt) (x:Option S),xs=rest.map pt/\a=[aa (pc sh zs),x]) ?_ ?_ _ _ ⟨zs,none,rfl,rfl⟩
  ·rintro x xs a ⟨rest,u,ex,rfl⟩ F _ _ hn _;cases rest with
   | nil=>cases ex
   | cons z rest =>
    cases ex;unfold pF;walk_at "rd";exact⟨_,rfl,_,rfl,hn _ ⟨rest,aa (pt z),rfl,rfl⟩⟩
  ·rintro a _;exact hK _ trivial
 rintro a _;walk_at "rd";exact q
structure cj (sh:Int) (zs:List Pt):Prop where
 pos:0<sh
 cvx:dk zs
 first:∃z T,zs=z::T/\∀q∈T,¬br q z
 cop:∀d:Nat,(d:Int)∣sh->(∀z∈zs,(d:Int)∣z.1/\(d:Int)∣z.2)->d=1
def Jk:FD:=λds Q=>∃(sh:Int) (zs:List Pt),ds=[pc sh zs]/\cj sh zs/\(∀z∈zs,BP z)/\zs.length<=100/\Q (.bl true)
def IH:∀ds Q,Jk ds Q->xK AO NK VA { nx:=λ_=>Q .non,rt:=Q } (dR ["_law_piece","_law_share_here","_law_corners","_law_most","_law_falls","_law_k"] ds):=by
 rintro ds Q ⟨sh,zs,rfl,ip,hB,hl,q⟩;have h3:=ip.cvx.len;have pos:0<zs.length:=by lia
 rw[cS 5 rfl];unfold xK;simp only[hU,Ry,aQ,bZ,bI,bV];generalize hP:pc sh zs=PD;refine cN (λf=>f=[aa PD,none,none,none,none,none]) (λK hK=>?_) ?_
 ·walk_at "rd";refine⟨sh,zs,by rw[hP],by have:=ip.pos;lia,h3,?_⟩;walk_at "rd";exact hK _ rfl
 rintro f rfl;refine cN (λf=>f=[aa PD,aa (.int sh),aa (.tup (zs.map pt)),none,none,none]) (λK hK=>?_) ?_
 ·rw[<-hP] at hK ⊢;walk_at "rd";exact hK _ rfl
 rintro f rfl;refine cN (λf=>f=[aa PD,aa (.int sh),aa (.tup (zs.map pt)),aa (.int sh),none,none]) (λK hK=>?_) ?_
 ·walk_at "rd";exact hK _ rfl
 rintro f rfl;refine cN (λf=>f=[aa PD,aa (.int sh),aa (.tup (zs.map pt)),aa (.int sh),aa (.int 0),none]) (λK hK=>?_) ?_
 ·walk_at "rd";exact hK _ rfl
 rintro f rfl;refine cN (λf=>∃(a:Option S),f=[aa PD,aa (.int sh),aa (.tup (zs.map pt)),aa (.int 1),aa (.int 1),a]) (λK hK=>?_) ?_
 ·simp only[mJ,QT,aC,aZ,r1,nX,aM,aE,aH,S.val,aS];refine⟨by constructor <;> lia,?_⟩;have nn:(((zs.length:Nat):Int)).toNat=zs.length:=by lia
  have sn:(sh.toNat:Int)=sh:=by have:=ip.pos;lia
  simp only[nn];refine HQ 0 zs.length (λi f=>∃(g:Nat) (a:Option S),fi sh (zs.take i) g/\f=[aa PD,aa (.int sh),aa (.tup (zs.map pt)),aa (.int g),aa (.int (if 2<=i then 1 else 0)),a]) ?_ ?_ _ ⟨sh.toNat,none,⟨by have:=ip.pos;lia,?_,by simp,λd e1 _=>?_⟩,by rw[sn];rfl⟩
  ·rintro i f hi ⟨g,a,hg,rfl⟩ F hrt _ hn _;have p0:=hB _ (yU pos i);have p1:=hB _ (yU pos (i+(zs.length-1)));have p2:=hB _ (yU pos (i+(zs.length-2)));have tp:0<cK (rg zs (i+(zs.length-2))) (rg zs (i+(zs.length-1))) (rg zs i):=by
    have:=ip.cvx.bend_rg (i+(zs.length-2))
    rwa [show i+(zs.length-2)+1=i+(zs.length-1) by lia,show i+(zs.length-2)+2=i+zs.length by lia,GC] at this
   have ff:(br (rg zs (i+(zs.length-1))) (rg zs (i+(zs.length-2)))/\br (rg zs (i+(zs.length-1))) (rg zs i))↔i=1:=by
    obtain⟨z,T,e,least⟩:=ip.first;have cv:=ip.cvx;subst e;exact He cv least hi
   have hg':fi sh (zs.take (i+1)) (cJ (cJ g (rg zs i).1:Nat) (rg zs i).2):=by
    rw[kP,EY hi];exact hg.snoc _
   have fin:∀v:Int,v=(if 2<=i+1 then 1 else 0)->F.nx [aa PD,aa (.int sh),aa (.tup (zs.map pt)),aa (.int (cJ (cJ g (rg zs i).1:Nat) (rg zs i).2:Nat)),aa (.int v),aa (.int (0+(i:Int)))]:=λv hv=>hn _ ⟨_,aa (.int (0+(i:Int))),hg',by rw[hv]⟩;unfold sV;simp only[dH,aV,aR];refine cN (λf=>f=[aa PD,aa (.int sh),aa (.tup (zs.map pt)),aa (.int (cJ (cJ g (rg zs i).1:Nat) (rg zs i).2:Nat)),aa (.int (if 2<=i then 1 else 0)),aa (.int (0+(i:Int)))]) (λK' ma=>?_) ?_
   ·simp only[eQ,cO,aC,aZ,r2,cB,aM,rC,S.val,BJ hi,mW,lP,aH,aE,aV,aR];exact⟨_,_,rfl,_,_,rfl,ma _ rfl⟩
   rintro f rfl;refine cN (λf=>f=[aa PD,aa (.int sh),aa (.tup (zs.map pt)),aa (.int (cJ (cJ g (rg zs i).1:Nat) (rg zs i).2:Nat)),aa (.int (if 2<=i then 1 else 0)),aa (.int (0+(i:Int)))]) (λK' ma=>?_) ?_
   ·simp only[kJ,dZ,cO,aC,aZ,r2,aM,rC,gQ,S.val,mK,qG,BJ hi,HU hi,ZC hi (show 2<=zs.length by lia),aH,aE];refine⟨_,_,_,rfl,⟨p2,p1,p0⟩,?_⟩;dsimp only;rw[if_neg (by simp only[decide_eq_true_eq];lia)];exact ma _ rfl
   rintro f rfl;simp only[kJ,SR,dZ,eQ,gQ,r2,aM,rC,S.val,mK,mV,Pk,BJ hi,HU hi,ZC hi (show 2<=zs.length by lia),aH,aE,aV,aR];refine⟨[_,_],[_,_],rfl,rfl,?_⟩;rw[HW];by_cases h1:br (rg zs (i+(zs.length-1))) (rg zs (i+(zs.length-2)))
   ·simp only[h1,decide_true,if_true];refine⟨[_,_],[_,_],rfl,rfl,?_⟩;rw[HW];by_cases h2:br (rg zs (i+(zs.length-1))) (rg zs i)
    ·simp only[h2,decide_true,if_true];have:=ff.mp ⟨h1,h2⟩;subst this;exact fin _ (by simp)
    ·simp only[h2,decide_false,if_false,aN];have:i≠1:=λe=>h2 (ff.mpr e).2;refine fin _ ?_;by_cases h4:2<=i
     ·rw[if_pos h4,if_pos (by lia)]
     ·rw[if_neg h4,if_neg (by lia)]
   ·simp only[h1,decide_false,if_false,aN];have:i≠1:=λe=>h1 (ff.mpr e).1;refine fin _ ?_;by_cases h4:2<=i
    ·rw[if_pos h4,if_pos (by lia)]
    ·rw[if_neg h4,if_neg (by lia)]
  ·rintro f ⟨g,a,hg,rfl⟩;rw[rQ] at hg;have:=ip.cop g hg.sh hg.all;subst this;refine hK _ ⟨a,?_⟩;rw[if_pos (by lia)];rfl
  ·rw[sn];exact oD _
  ·exact_mod_cast (by rw[sn];exact e1:(d:Int)∣(sh.toNat:Int))
 rintro f ⟨a,rfl⟩;obtain⟨z,T,e,least⟩:=ip.first;subst e;walk_at "rd";refine⟨(z::T).map λp=>[p.1,p.2],by rw[dA];rfl,by simp,λM m1 m2=>?_⟩;obtain⟨p,hp,rfl⟩:=bF.mp m1;have ep:z=p:=by
  rcases aJ.mp hp with h | h
  ·exact h.symm
  ·have h1:=least p h;have h2:=m2 [z.1,z.2] (by simp);rw[HW] at h2;simp only[decide_eq_false_iff_not] at h2;rcases pS z p with k | k | k
   ·exact absurd k h2
   ·exact k
   ·exact absurd k h1
 subst ep;have ee:c4 6 (pt z) (pt z)=some true:=by rw[VT];simp
 rw[show nG [z.1,z.2]=pt z from rfl]
 first
  | (rw[ee];exact q)
  | (show (match c4 6 (pt z) (pt z) with | some b=>Q (.bl b) | none=>False);rw[ee];exact q)
def Ep {n:Nat}:BL (n+1) 0:=(BL.const (n:=1) (i:=0) (by decide)).mono (by lia)
theorem Js {n:Nat}:∀(l:List Pt) (a:Pt),(BL n a.1/\BL n a.2)->XL n l->BL (2*n+1+l.length) (gk d_ a l)
 | [],a,_,_=>Ep
 | b::l,a,ha,hl=>by
  obtain⟨b1,b2⟩:=hl b (by simp);have ih:=Js l b ⟨b1,b2⟩ λz hz=>hl z (by simp[hz]);have c:BL (2*n+1) (d_ a b):=((ha.1.mul b2).sub (ha.2.mul b1)).mono (by lia);refine (c.add ih).mono ?_;rw[cD];lia
theorem Ue {n:Nat} {zs:List Pt} (h:XL n zs):BL (2*n+1+zs.length) (oM d_ zs):=by
 cases zs with
 | nil=>exact Ep
 | cons z T =>
  have:=Js (T++[z]) z (h z (by simp)) λw hw=>h w (by simp at hw ⊢;rcases hw with k | k <;> simp[k]);rw[bJ] at this;exact this
namespace K33
abbrev P2:=Int × Int
abbrev Wd:=Int × P2 × P2 × P2
abbrev Mv:=Int × P2 × P2
abbrev Bit:=Wd × Mv
abbrev Ent:=Int × Bit
def ji (m:Mv):D:=.tup [.int m.1,pt m.2.1,pt m.2.2]
def D0 (h1:f a b=some p) (h2:f_ f xs ys=some q):f_ f (a::xs) (b::ys)=some (p && q):=by rw[f_,h1,h2]
def eqT (n:Nat) (xs ys:List D):c4 (n+1) (.tup xs) (.tup ys)=f_ (c4 n) xs ys:=by rw[c4]
theorem Yn {α:Type} (f:D->D->Option Bool) (g:α->D) (h:∀x,f (g x) (g x)=some true):∀xs:List α,f_ f (xs.map g) (xs.map g)=some true
 | []=>rfl
 | x::xs=>by rw[aQ,D0 (h x) (Yn f g h xs)];rfl
def Yo (h:x∈[D.int 9,D.int 1000000000000000000000000000000]):∃f:Int,x = .int f/\0<=f/\BL 200 f:=by
 rcases aJ.mp h with rfl | h
 ·exact⟨9,rfl,by decide,BL.const (by decide)⟩
 ·rcases aJ.mp h with rfl | h
  ·exact⟨_,rfl,by decide,BL.const (by decide)⟩
  ·cases h
structure i8 (n:Nat) (f:P2):Prop where
 pos:0<f.2
 top:BL n f.1
 bot:BL n f.2
def i8.mono {n m:Nat} (h:i8 n f) (k:n<=m:=by decide):i8 m f:=⟨h.pos,h.top.mono k,h.bot.mono k⟩
def Ph (h:xs.getLast? = some x):ca (.lst xs) (.int (-1)) Q=Q x:=by simp only[ca,XO h]
def Lz {n:Nat} (ha:BL n a) (hb:BL n b) (b0:0<b) (t0:1<=t) (t1:t<=3) (w0:1<=w) (w1:w<=3) (h:m9 (a*w+t*b) (b*w) p q):i8 (n+5) (p,q):=by
 have bw:BL 2 w:=BL.of_lt (m:=2) (by lia) (by lia);have bt:BL 2 t:=BL.of_lt (m:=2) (by lia) (by lia);have h1:BL (n+2+1) (a*w+t*b):=by
  have:=(ha.mul bw).add (show BL (n+2) (t*b) by have:=bt.mul hb;rwa [Nat.add_comm] at this)
  rwa [Nat.max_self] at this
 exact⟨h.pos,(h1.le h.lea).mono (by lia),((hb.mul bw).le h.leb).mono (by lia)⟩
def Da {fs:List P2} {i:Int} {Q:D->Prop} (h0:0<=i) (h1:i<fs.length) (q:∀f,fs[i.toNat]? = some f->Q (pt f)):ca (et fs) (.int i) Q:=by
 have hj:i.toNat<fs.length:=by lia
 exact yM (By (j:=i.toNat) (by lia) (by rw[bT,aD hj];rfl)) (q _ (aD hj))
end K33
abbrev OK (s:Ox):D:=.tup [pt s.1,pt s.2]
def zK:List (Int × List D)->Int->List D
 | [],_=>[]
 | (k',ds)::r,k=>if k'=k then ds else zK r k
theorem PV:∀(kvs:List (Int × List D)) (k:Int) (d:D) (c:Int),zK (putL kvs k d) c=if k=c then zK kvs c++[d] else zK kvs c
 | [],k,d,c=>by simp only[putL,zK];split <;> rfl
 | (k',ds)::r,k,d,c=>by
  have ih:=PV r k d c;unfold putL;by_cases h:k'=k
  ·rw[if_pos h];subst h;simp only[zK];by_cases hc:k'=c
   ·rw[if_pos hc,if_pos hc,if_pos hc]
   ·rw[if_neg hc,if_neg hc,if_neg hc]
  ·rw[if_neg h];simp only[zK];by_cases hc:k=c
   ·have:¬k'=c:=λe=>h (e.trans hc.symm);rw[if_neg this,if_pos hc,ih,if_pos hc,if_neg this]
   ·rw[if_neg hc,ih,if_neg hc]
theorem BK:∀(kvs:List (Int × List D)) (k:Int) (d:D),(putL kvs k d).map (·.1)=if k∈kvs.map (·.1) then kvs.map (·.1) else kvs.map (·.1)++[k]
 | [],k,d=>by simp[putL]
 | (k',ds)::r,k,d=>by
  have ih:=BK r k d;unfold putL;by_cases h:k'=k
  ·rw[if_pos h];subst h;simp
  ·rw[if_neg h,aQ,ih];have h':¬k=k':=λe=>h e.symm;by_cases hm:k∈r.map (·.1)
   ·rw[if_pos hm,if_pos (by rw[aQ];exact .tail _ hm)];rfl
   ·rw[if_neg hm,if_neg (by rw[aQ,aJ];exact λz=>z.elim h' hm)];rfl
theorem YD:∀(kvs:List (Int × List D)) (c:Int),c∈kvs.map (·.1)->HH (kvs.map (·.1)) (kvs.map λp=>.lst p.2) c=some (.lst (zK kvs c))
 | [],_,h=>by cases h
 | (k',ds)::r,c,h=>by
  simp only[aQ,HH,zK];by_cases hc:k'=c
  ·rw[if_pos hc,if_pos hc]
  ·rw[if_neg hc,if_neg hc];rw[aQ,aJ] at h;exact YD r c (h.resolve_left λe=>hc e.symm)
theorem XB:∀(kvs:List (Int × List D)) (k:Int) (d:D) (n:Nat),kvs.length<=n->(∀p∈kvs,p.2.length<=n)->(putL kvs k d).length<=n+1/\∀p∈putL kvs k d,p.2.length<=n+1
 | [],k,d,n,_,_=>⟨by simp[putL],λp hp=>by simp[putL] at hp;subst hp;simp⟩
 | (k',ds)::r,k,d,n,hl,hp=>by
  unfold putL;have o_:=hp (k',ds) (.head _);by_cases h:k'=k
  ·rw[if_pos h];refine⟨by simpa using qQ hl,λp h'=>?_⟩;rcases aJ.mp h' with rfl | h'
   ·simp;exact o_
   ·exact qQ (hp p (.tail _ h'))
  ·rw[if_neg h];rw[cD] at hl;have n1:n=(n-1)+1:=(by lia);obtain⟨i1,i2⟩:=XB r k d n (by lia) λp h'=>hp p (.tail _ h');have i3:(putL r k d).length<=r.length+1:=by
    clear i1 i2 hp o_ hl
    induction r with
    | nil=>simp[putL]
    | cons z r ih=>unfold putL;split <;> simp <;> lia
   refine⟨by rw[cD];lia,λp h'=>?_⟩;rcases aJ.mp h' with rfl | h'
   ·exact qQ o_
   ·exact i2 p h'
abbrev Ev:=Int × Ox
def kvsOf (E:List Ev):List (Int × List D):=E.foldl (λm e=>putL m e.1 (OK e.2)) []
def Lw (E:List Ev) (e:Ev):kvsOf (E++[e])=putL (kvsOf E) e.1 (OK e.2):=by unfold kvsOf;rw[vC];rfl
def Vk (E:List Ev):((kvsOf E).length<=E.length/\∀p∈kvsOf E,p.2.length<=E.length)/\((kvsOf E).map (·.1)).Nodup/\(∀c,c∈(kvsOf E).map (·.1)↔∃e∈E,e.1=c)/\∀c,zK (kvsOf E) c=(E.filter λe=>decide (e.1=c)).map λe=>OK e.2:=by
 refine snoc_ind (P:=λE=>((kvsOf E).length<=E.length/\∀p∈kvsOf E,p.2.length<=E.length)/\((kvsOf E).map (·.1)).Nodup/\(∀c,c∈(kvsOf E).map (·.1)↔∃e∈E,e.1=c)/\∀c,zK (kvsOf E) c=(E.filter λe=>decide (e.1=c)).map λe=>OK e.2) ?_ ?_ E
 ·exact⟨⟨bK _,λp h=>by cases h⟩,NP,λc=>⟨λh=>(by cases h),λ⟨e,h,_⟩=>(by cases h)⟩,λc=>rfl⟩
 ·rintro E e ⟨⟨h1,h2⟩,h3,h4,h5⟩;rw[Lw];refine⟨by rw[bJ];exact XB _ _ _ _ h1 h2,?_,λc=>?_,λc=>?_⟩
  ·rw[BK];split
   ·exact h3
   ·rename_i n;exact jA.mpr ⟨h3,mE _ _,λa ha b hb e'=>n (by rw[cR.mp hb] at e';exact e' ▸ ha)⟩
  ·rw[BK];split
   ·rename_i m;rw[h4 c];constructor
    ·rintro⟨x,hx,rfl⟩;exact⟨x,dL _ hx,rfl⟩
    ·rintro⟨x,hx,rfl⟩;rcases cC.mp hx with hx | hx
     ·exact⟨x,hx,rfl⟩
     ·rw[cR.mp hx];exact (h4 _).mp m
   ·rw[cC,h4 c,cR];constructor
    ·rintro (⟨x,hx,rfl⟩ | rfl)
     ·exact⟨x,dL _ hx,rfl⟩
     ·exact⟨e,bG _ (.head _),rfl⟩
    ·rintro⟨x,hx,rfl⟩;rcases cC.mp hx with hx | hx
     ·exact .inl ⟨x,hx,rfl⟩
     ·rw[cR.mp hx];exact .inr rfl
  ·rw[PV,h5 c,tZ,cX];by_cases hc:e.1=c
   ·rw[if_pos hc];simp[hc]
   ·rw[if_neg hc];simp[hc]
where
 snoc_ind {α:Type} {P:List α->Prop} (h0:P []) (hs:∀E e,P E->P (E++[e])) (E:List α):P E:=by
  have:∀(n:Nat) (E:List α),E.length=n->P E:=by
   intro n
   induction n with
   | zero=>intro E h;rw[mD.mp h];exact h0
   | succ n ih =>
    intro E h;rcases fM E with rfl | ⟨E',e,rfl⟩
    ·cases h
    ·rw[zX] at h ⊢;exact hs E' e (ih E' (by simpa using h))
  exact this _ E rfl
namespace K33
def yX (I:En->Prop) (h1:∀K:En->Prop,(∀a',I a'->K a')->t { nx:=K,rt:=λ_=>False } a) (h2:∀a',I a'->u E a'):BU t u E a:=h1 (u E) h2
end K33
def db (s:Int):Prop:=s=1\/s = -1
def db.bl {s:Int} (h:db s):BL 10 s:=by rcases h with rfl | rfl <;> exact BL.const
def db.abs {s:Int} (h:db s):s.natAbs=1:=by rcases h with rfl | rfl <;> rfl
def db.natAbs_mul {s a:Int} (h:db s):(s*a).natAbs=a.natAbs:=by rw[iX,h.abs,Nat.one_mul]
def oY:FD:=λds Q=>∃s a b:Int,ds=[.int s,fr a b]/\db s/\BL 4000 a/\Q (fr (s*a) b)
def Aq:∀ds Q,oY ds Q->UM { nx:=λ_=>Q .non,rt:=Q } (dR ["sign","one"] ds):=by
 rintro ds Q ⟨s,a,b,rfl,hs,ba,q⟩;rw[cS 0 rfl];unfold UM;walk_at "rd";exact⟨hs.bl.mulOk ba,q⟩
abbrev xb (s c d e f:Int):D:=.tup [.int s,fr c d,fr e f]
abbrev sp (a b g h:Int):D:=.tup [fr a b,fr g h]
def XJ:FD:=λds Q=>∃s c d e f a b g h:Int,ds=[xb s c d e f,sp a b g h]/\db s/\(0<d/\0<f/\0<b/\0<h)/\(BL 4000 c/\BL 4000 d/\BL 4000 e/\BL 4000 f/\BL 4000 a/\BL 4000 b/\BL 4000 g/\BL 4000 h) /\
 ∀p q r t,m9 (s*a*d+c*b) (b*d) p q->m9 (s*g*f+e*h) (h*f) r t->Q (sp p q r t)
def Nh:∀ds Q,XJ ds Q->Nv oV oY { nx:=λ_=>Q .non,rt:=Q } (dR ["move","spot","sign"] ds):=by
 rintro ds Q ⟨s,c,d,e,f,a,b,g,h,rfl,hs,⟨d0,f0,b0,h0⟩,⟨bc,bd,be,bf,ba,bb,bg,bh⟩,q⟩;rw[cS 1 rfl];unfold Nv;walk_at "rd";refine⟨s,a,b,rfl,hs,ba,_,_,_,_,rfl,⟨b0,d0⟩,⟨ba.le (xZ hs.natAbs_mul),bb,bc,bd⟩,λp q' l1=>?_⟩;refine⟨s,g,h,rfl,hs,bg,_,_,_,_,rfl,⟨h0,f0⟩,⟨bg.le (xZ hs.natAbs_mul),bh,be,bf⟩,λr t l2=>?_⟩;exact q _ _ _ _ l1 l2
def AN:FD:=λds Q=>∃s c d e f s' c' d' e' f':Int,ds=[xb s c d e f,xb s' c' d' e' f']/\(db s/\db s')/\(0<d/\0<f/\0<d'/\0<f')/\(BL 4000 c/\BL 4000 d/\BL 4000 e/\BL 4000 f/\BL 4000 c'/\BL 4000 d'/\BL 4000 e'/\BL 4000 f') /\
 ∀p q r t,m9 (s'*c*d'+c'*d) (d*d') p q->m9 (s'*e*f'+e'*f) (f*f') r t->Q (xb (s*s') p q r t)
def Ah:∀ds Q,AN ds Q->UJ XJ { nx:=λ_=>Q .non,rt:=Q } (dR ["first","second","shift"] ds):=by
 rintro ds Q ⟨s,c,d,e,f,s',c',d',e',f',rfl,⟨hs,jx⟩,⟨d0,f0,d0',f0'⟩,⟨bc,bd,be,bf,bc',bd',be',bf'⟩,q⟩;rw[cS 1 rfl];unfold UJ;walk_at "rd";refine⟨s',c',d',e',f',c,d,e,f,rfl,jx,⟨d0',f0',d0,f0⟩,⟨bc',bd',be',bf',bc,bd,be,bf⟩,λp q' r t l1 l2=>?_⟩;walk_at "rd";exact⟨hs.bl.mulOk jx.bl,q _ _ _ _ l1 l2⟩
def tU:FD:=λds Q=>∃s c d e f:Int,ds=[xb s c d e f]/\db s/\(BL 4000 c/\BL 4000 e)/\Q (xb s (-s*c) d (-s*e) f)
def db.neg {s:Int} (h:db s):db (-s):=by rcases h with rfl | rfl;exact .inr rfl;exact .inl rfl
def SQ:∀ds Q,tU ds Q->LV oY { nx:=λ_=>Q .non,rt:=Q } (dR ["move","sign"] ds):=by
 rintro ds Q ⟨s,c,d,e,f,rfl,hs,⟨bc,be⟩,q⟩;rw[cS 1 rfl];unfold LV;walk_at "rd";exact⟨_,_,_,rfl,hs.neg,bc,_,_,_,rfl,hs.neg,be,q⟩
namespace K34
open K33
structure Told (e:Int) (A:List Pt) (sh:Int) (zs:List Pt):Prop where
 ex:∃(w:Pt) (T:List Pt) (m:Int),gf A (w::T)/\(∀x∈T,¬br x w)/\fj e (w::T) m sh zs
def Told.same (a:Told e1 A sh1 zs1) (b:Told e2 B ur uu) (h1:0<e1) (h2:0<e2) (eq:A.map (scl e2)=B.map (scl e1)) (nd:A.Nodup):sh1=ur/\zs1=uu:=by
 obtain⟨w1,T1,m1,ra,l1,N1⟩:=a;obtain⟨w2,T2,m2,rb,l2,N2⟩:=b;have rr:gf ((w1::T1).map (scl e2)) ((w2::T2).map (scl e1)):=((ra.symm.map (scl e2)).trans (by rw[eq];exact gf.refl _)).trans (rb.map (scl e1));have nd1:((w1::T1).map (scl e2)).Nodup:=qN (scl e2) (λa b hn h=>hn (IT h2 h)) (ra.nodup nd);rw[aQ,aQ] at rr;rw[aQ] at nd1;have eq:=rr.least nd1 (λx hx=>by obtain⟨y,hy,rfl⟩:=bF.mp hx;rw[GD h2];exact l1 y hy) λx hx=>by obtain⟨y,hy,rfl⟩:=bF.mp hx;rw[GD h1];exact l2 y hy
 exact N1.same N2 h2 h1 (fL ..) (by simpa using eq)
def Told.ring (a:Told e A sh zs):∃A',gf A A'/\zs.map (scl e)=A'.map (scl sh):=by
 obtain⟨w,T,m,ra,l,N⟩:=a;refine⟨w::T,ra,?_⟩;have h1:=N.cs_eq;have h2:=N.sh_eq;rw[h1,dA];refine lY λz _=>?_;show scl e z=(sh*(m*z.1),sh*(m*z.2));rw[h2];exact kR (by dsimp only[scl];grind) (by dsimp only[scl];grind)
def YK {cs:List Pt} {ds:List Pt} (h:j8 share cs m sh ds j):Told share cs sh (turned j ds):=by
 obtain⟨w,T,e,l⟩:=h.first;have N:=h.norm;rw[e] at N;exact⟨w,T,m,by rw[<-e];exact GE j cs,l,N⟩
def Ux (share:Int) (hs:0<share) (cs:List Pt):∃g,fi share cs g:=by
 have key:∀(todo done:List Pt),(∃g,fi share done g)->∃g,fi share (done++todo) g:=by
  intro todo
  induction todo with
  | nil=>intro done h;simpa using h
  | cons z todo ih =>
   intro done ⟨g,h⟩;have:=ih (done++[z]) ⟨_,h.snoc z⟩;simpa using this
 refine key cs [] ⟨share.natAbs,?_⟩;refine⟨by lia,Int.natAbs_dvd.mpr (oD _),λz hz=>absurd hz cY,λd h1 _=>?_⟩;exact Int.ofNat_dvd.mp (Int.dvd_natAbs.mpr h1)
def Qy (he:0<e) (cs:List Pt):∃m sh zs,fj e cs m sh zs:=by
 obtain⟨g,G⟩:=Ux e he cs;have gp:(0:Int)<g:=by have:=G.pos;lia
 have back:∀x:Int,(g:Int)∣x->(g:Int)*(x / g)=x:=λx h=>iH h;refine⟨g,e / g,cs.map λz=>(z.1 / g,z.2 / g),⟨gp,(back e G.sh).symm,?_,λd h1 h2=>?_⟩⟩
 ·rw[dA]
  conv=>lhs;rw[<-mL cs]
  refine lY λz hz=>?_;obtain⟨a,b⟩:=G.all z hz;exact kR (back _ a).symm (back _ b).symm
 ·have dg:((d*g:Nat):Int)∣e:=by
   rw[<-back e G.sh];obtain⟨c,hc⟩:=h1;exact⟨c,by rw[hc];push_cast;grind⟩
  have da:∀z∈cs,((d*g:Nat):Int)∣z.1/\((d*g:Nat):Int)∣z.2:=λz hz=>by
   obtain⟨a,b⟩:=G.all z hz;obtain⟨⟨c1,h3⟩,⟨c2,h4⟩⟩:=h2 _ (bF.mpr ⟨z,hz,rfl⟩);dsimp only at h3 h4;exact⟨⟨c1,by rw[<-back z.1 a,h3];push_cast;grind⟩,⟨c2,by rw[<-back z.2 b,h4];push_cast;grind⟩⟩
  have:=G.most _ dg da;have le:=vY G.pos this;have dp:0<d:=by
   rcases uB d with h | h
   ·subst h;rw[Nat.zero_mul] at this;have:=wO this;have:=G.pos;lia
   ·exact h
  have g0:=G.pos;by_cases h:d=1
  ·exact h
  ·have:2*g<=d*g:=AW g (by lia);lia
def Gh (he:0<e) (hA:A≠[]):∃sh zs,Told e A sh zs:=by
 obtain⟨w,T,r,l⟩:=LN A hA;obtain⟨m,sh,zs,N⟩:=Qy he (w::T);exact⟨sh,zs,w,T,m,r,l,N⟩
def gf.mapOf {α β:Type} {f:α->β} {A:List α} {B':List β} (r:gf (A.map f) B'):∃B,gf A B/\B'=B.map f:=by
 obtain⟨X,Y,e1,e2⟩:=r;obtain⟨X',Y',h1,h2,h3⟩:=qP.mp e1;exact⟨Y'++X',⟨X',Y',h1,rfl⟩,by rw[e2,cX,h2,h3]⟩
abbrev pi (sign share p q u v:Int) (z:Pt):Pt:=(sign*z.1*(q*v)+p*v*share,sign*z.2*(q*v)+u*q*share)
def Gg (hs:sign=1\/sign = -1) (hq:0<q) (hv:0<v) (h:pi sign share p q u v a=pi sign share p q u v b):a=b:=by
 simp only[pi,eM] at h;have k:=aL hq hv;have h1:sign*a.1*(q*v)=sign*b.1*(q*v):=by lia
 have h2:sign*a.2*(q*v)=sign*b.2*(q*v):=by lia
 have g1:=fH (by lia) h1;have g2:=fH (by lia) h2;rcases hs with rfl | rfl
 ·exact kR (by lia) (by lia)
 ·exact kR (by lia) (by lia)
def p7 (bj:Int) (mn:List Pt) (m:Mv) (sh:Int) (zs:List Pt):Prop:=Told (bj*(m.2.1.2*m.2.2.2)) (mn.map (pi m.1 bj m.2.1.1 m.2.1.2 m.2.2.1 m.2.2.2)) sh zs
structure u0 (m:Mv):Prop where
 sg:m.1=1\/m.1 = -1
 q0:0<m.2.1.2
 v0:0<m.2.2.2
def p7.one (h0:0<bj) (nd:mn.Nodup) (hm:u0 m) (a:p7 bj mn m sh zs) (b:p7 bj mn m gt m8):sh=gt/\zs=m8 :=
 have e:=aL h0 (aL hm.q0 hm.v0)
 Told.same a b e e rfl (qN _ (λa b hn e=>hn (Gg hm.sg hm.q0 hm.v0 e)) nd)
def cellOf (ns:List Int) (k:Int):Int:=if k<(ns.length:Int) then (ns.getD k.toNat 0).fmod big else 0
def GH:FD:=λds Q=>∃(ns:List Int) (k:Int),ds=[il ns,.int k]/\0<=k/\∀c,0<=c->c<big->c=cellOf ns k->Q (.int c)
def MO:∀ds Q,GH ds Q->IP { nx:=λ_=>Q .non,rt:=Q } (dR ["_law_script","_law_k"] ds):=by
 rintro ds Q ⟨ns,k,rfl,hk,q⟩;rw[cS 0 rfl];unfold IP;walk_at "rd";split
 ·rename_i c9;have c9:k<(ns.length:Int):=by simpa using c9
  have hj:k.toNat<ns.length:=by lia
  refine yM (x:=.int ns[k.toNat]) (By (j:=k.toNat) (by lia) (by rw[bT,aD hj];rfl)) ?_;refine⟨QH,lV,?_⟩;obtain⟨e0,e1⟩:=eZ (a:=ns[k.toNat]) (b:=big) (by decide);refine q _ e0 e1 ?_;unfold cellOf;rw[if_pos c9,cE,aD hj,mF]
 ·rename_i c9;have c9:¬k<(ns.length:Int):=by simpa using c9
  refine q 0 (by decide) (by decide) ?_;unfold cellOf;rw[if_neg c9]
structure p8 (f:P2):Prop where
 pos:0<f.2
 top:BL 40 f.1
 bot:BL 12 f.2
def Ta (h0:0<=f) (h1:BL 200 f) (a0:0<=x) (a1:x<2*f+1):BL 210 (x-f):=by
 refine (h1.mono).le ?_;lia
abbrev Zy (w:Wd):List Pt:=[w.2.1,w.2.2.1,w.2.2.2]
end K34
namespace K36
open K34 K33
def Sl (a:Told e1 A sh zs) (h1:0<e1) (h2:0<e2) (hB:B≠[]) (eq:A.map (scl e2)=B.map (scl e1)) (nd:A.Nodup):Told e2 B sh zs:=by
 obtain⟨ur,uu,b⟩:=Gh h2 hB;obtain⟨rfl,rfl⟩:=Told.same a b h1 h2 eq nd;exact b
def aff (S lo hi:Int) (z:Pt):Pt:=(z.1*S,z.1*lo+z.2*hi)
def XM (S lo hi:Int) (a b c:Pt):cK (aff S lo hi a) (aff S lo hi b) (aff S lo hi c)=S*hi*cK a b c:=by unfold cK aff;dsimp only;grind
def Oy (S lo hi:Int) (a b:Pt):d_ (aff S lo hi a) (aff S lo hi b)=S*hi*d_ a b:=by unfold d_ aff;dsimp only;grind
def Ei {S lo hi:Int} (hS:0<S) (hh:0<hi) (h:aff S lo hi a=aff S lo hi b):a=b:=by
 unfold aff at h;simp only[eM] at h;have e1:a.1=b.1:=fH (by lia) h.1;have e2:a.2=b.2:=fH (a:=hi) (by lia) (by have:=h.2;rw[e1] at this;lia);exact kR e1 e2
def VC {S lo hi:Int} (hS:0<S) (hh:0<hi) (c:dk P):dk (P.map (aff S lo hi)):=c.map (aL hS hh) (XM S lo hi) λa b h=>Ei hS hh h
def QA:List Pt->List (Pt × Pt)
 | []=>[]
 | [_]=>[]
 | a::b::r=>(a,b)::QA (b::r)
theorem BS:∀{l:List Pt} {a b:Pt},iw l a b->(a,b)∈QA l
 | l,a,b,⟨[],r,e⟩=>by subst e;exact cF
 | l,a,b,⟨[x],r,e⟩=>by subst e;exact aO _ (BS ⟨[],r,rfl⟩)
 | l,a,b,⟨x::y::t,r,e⟩=>by subst e;exact aO _ (BS ⟨y::t,r,rfl⟩)
def Uh (P:List Pt):Bool:=decide (3<=P.length) && decide P.Nodup && (QA (P++P.take 1)).all λp=>P.all λq=>decide (q=p.1) || decide (q=p.2) || decide (0<cK p.1 p.2 q)
def Pf (h:Uh P=true):dk P:=by
 unfold Uh at h;simp only[iG,decide_eq_true_eq] at h;refine⟨h.1.1,h.1.2,λa b g9 q hq n1 n2=>?_⟩;have:=oE.mp (oE.mp h.2 _ (BS g9)) q hq;simp only[LY,decide_eq_true_eq] at this;rcases this with (z | z) | z
 ·exact absurd z n1
 ·exact absurd z n2
 ·exact z
def xA:List (List Pt):=[[(0,0),(24,0),(24,24),(0,24)],[(0,0),(24,0),(24,24)],[(0,0),(24,24),(0,24)],[(0,0),(24,0),(0,24)],[(24,0),(24,24),(0,24)],[(0,0),(8,0),(8,24),(0,24)],[(8,0),(24,0),(24,24),(8,24)]]
def KN:∀P∈xA,dk P:=λP hP=>Pf ((by decide +kernel:∀P∈xA,Uh P=true) P hP)
section
variable {e sh gt c σ t S lo hi:Int}
theorem Bh (T0:Told e A sh cs):(∀z∈cs,∃a∈A,scl e z=scl sh a)/\∀a∈A,∃z∈cs,scl e z=scl sh a:=by
 obtain⟨A',r,eq⟩:=T0.ring;constructor
 ·intro z hz;have:scl e z∈A'.map (scl sh):=by rw[<-eq];exact dI hz
  obtain⟨a,ha,ee⟩:=bF.mp this;exact⟨a,(r.mem a).mpr ha,ee.symm⟩
 ·intro a ha;have:scl sh a∈cs.map (scl e):=by rw[eq];exact dI ((r.mem a).mp ha)
  obtain⟨z,hz,ee⟩:=bF.mp this;exact⟨z,hz,ee⟩
end
structure Fm (s h:Pt):Prop where
 ls:p8 s
 h1:0<h.1
 b1:BL 10 h.1
 h2:0<h.2
 b2:BL 10 h.2
abbrev og (s h:Pt) (z:Pt):Pt:=aff (s.2*h.2) (s.1*h.2) (h.1*s.2) z
abbrev eF (s h:Pt):Int:=24*(s.2*h.2)
def Y0 (P:List Pt):Prop:=∀a∈P,(0<=a.1/\a.1<=24)/\0<=a.2/\a.2<=24
def Gp (s h:Pt) (P:List Pt) (sh:Int) (cs:List Pt):Prop:=Told (eF s h) (P.map (og s h)) sh cs
section
variable {s h:Pt}
theorem Fm.sp (f:Fm s h):0<s.2*h.2:=aL f.ls.pos f.h2
theorem Fm.hp (f:Fm s h):0<h.1*s.2:=aL f.h1 f.ls.pos
theorem Fm.ep (f:Fm s h):0<eF s h:=aL (by decide) f.sp
theorem Yg (h0:0<=x) (h1:x<=24):BL 5 x:=(BL.const (n:=5) (i:=24) (by decide)).le (by lia)
theorem IW (he:0<e) (T:Told e A sh zs):0<sh:=by
 obtain⟨w,T',m,_,_,N⟩:=T;have:=N.sh_eq;rw[this] at he;exact pZ N.mpos he
theorem Sm {n k:Nat} (he:0<e) (T:Told e A sh zs) (be:BL k e) (bA:∀a∈A,BL n a.1/\BL n a.2):BL k sh/\(∀z∈zs,BL n z.1/\BL n z.2)/\zs.length=A.length:=by
 obtain⟨w,T',m,r,_,N⟩:=T;have mp:=N.mpos;have le:∀x:Int,x.natAbs<=(m*x).natAbs:=λx=>by
  rw[iX];exact xY _ (by lia)
 refine⟨be.le (by rw[N.sh_eq];exact le sh),λz hz=>?_,?_⟩
 ·have mz:((m*z.1,m*z.2):Pt)∈A:=(r.mem _).mpr (by rw[N.cs_eq];exact bF.mpr ⟨z,hz,rfl⟩);obtain⟨c1,c2⟩:=bA _ mz;exact⟨c1.le (le _),c2.le (le _)⟩
 ·obtain⟨X,Y,e1,e2⟩:=r;have l1:=congrArg fU e1;have l2:=congrArg fU e2;have l3:=congrArg fU N.cs_eq;simp at l1 l2 l3;lia
theorem XG (he:0<e) (T:Told e A sh zs) (c:dk A):cj sh zs:=by
 have hp:=IW he T;obtain⟨w,T',m,r,l,N⟩:=T;have ec:w::T'=zs.map (scl m):=N.cs_eq;refine⟨hp,dk.unscl N.mpos (by rw[<-ec];exact c.rot r),?_,N.cop⟩;cases zs with
 | nil=>simp at ec
 | cons z' T2 =>
  simp only[aQ,fX] at ec;refine⟨z',T2,rfl,λq hq c9=>?_⟩;refine l (scl m q) (by rw[ec.2];exact dI hq) ?_;rw[ec.1];exact (GD N.mpos).mpr c9
end
def Ab:∀P∈xA,Y0 P:=by unfold Y0;decide +kernel
structure ju (m:Mv):Prop where
 sg:m.1=1\/m.1 = -1
 q0:0<m.2.1.2
 v0:0<m.2.2.2
 cx:cJ m.2.1.1 m.2.1.2=1
 cy:cJ m.2.2.1 m.2.2.2=1
 bp:BL 400 m.2.1.1
 bq:BL 400 m.2.1.2
 bu:BL 400 m.2.2.1
 bv:BL 400 m.2.2.2
structure P3 (dn:Pt) (m m':Mv):Prop where
 sg:m'.1=m.1
 x:m'.2.1.1*m.2.1.2=m.2.1.1*m'.2.1.2
 y:m'.2.2.1*(dn.2*m.2.2.2)=(m.1 * -dn.1*m.2.2.2+m.2.2.1*dn.2)*m'.2.2.2
abbrev Bt:=List Pt × Int × List Pt × Mv
def k7 (b:Bt):D:=.tup [pc b.2.1 b.2.2.1,ji b.2.2.2]
def KI {z:Pt}:je (pt z):=.cons .int (.cons .int .nil)
def Os:FD:=λds Q=>∃a b c d:Int,ds=[.tup [.int a,.int b],.tup [.int c,.int d]]/\(BL 5000 a/\BL 5000 b/\BL 5000 c/\BL 5000 d)/\Q (.tup [.int (a*d+c*b),.int (b*d)])
def Wl:∀ds Q,Os ds Q->sA { nx:=λ_=>Q .non,rt:=Q } (dR ["_law_one","_law_other"] ds):=by
 rintro ds Q ⟨a,b,c,d,rfl,⟨b1,b2,b3,b4⟩,q⟩;rw[cS 0 rfl];unfold sA;walk_at "rd";exact⟨b1.mulOk b4,b3.mulOk b2,b2.mulOk b4,q⟩
def UU:FD:=λds Q=>∃(sh:Int) (zs:List Pt),ds=[pc sh zs]/\(BL 9000 sh/\XL 9000 zs/\1<=zs.length/\zs.length<=100)/\Q (.tup [.int (oM d_ zs),.int (sh*sh)])
def Db:∀ds Q,UU ds Q->BV { nx:=λ_=>Q .non,rt:=Q } (dR ["_law_piece","_law_total","_law_k","_law_one","_law_two"] ds):=by
 rintro ds Q ⟨sh,zs,rfl,⟨bs,hS,l1,l2⟩,q⟩;rw[cS 4 rfl];unfold BV;simp only[hU,Dv,aQ,bZ,bI,bV];have pos:0<zs.length:=by lia
 refine cN (λe=>e=[aa (pc sh zs),aa (.int 0),none,none,none]) (λK hK=>?_) ?_
 ·walk_at "rd";exact hK _ rfl
 rintro e rfl;refine cN (λe=>∃a b c:Option L2.R2.S,e=[aa (pc sh zs),aa (.int (oM d_ zs)),a,b,c]) (λK hK=>?_) ?_
 ·simp only[mJ,QT,aC,aZ,r1,r2,rC,lP,nX,aM,aE,aH,S.val,aS];refine⟨by constructor <;> lia,?_⟩;have nn:(((zs.length:Nat):Int)).toNat=zs.length:=by lia
  simp only[nn];refine HQ 0 zs.length (λi e=>∃a b c:Option L2.R2.S,e=[aa (pc sh zs),aa (.int (gk d_ (rg zs (zs.length-1)) (zs.take i))),a,b,c]) ?_ ?_ _ ⟨none,none,none,rfl⟩
  ·rintro i e hi ⟨a,b,c,rfl⟩ F _ _ hn _;obtain⟨p1,p2⟩:=hS _ (yU pos (i+(zs.length-1)));obtain⟨q1,q2⟩:=hS _ (yU pos i);unfold vK;walk_at "rd";rw[HU hi];walk_at "rd";simp only[BJ hi];walk_at "rd";refine⟨p1.mulOk q2,p2.mulOk q1,hn _ ⟨aa (.int (0+(i:Int))),aa (pt (rg zs (i+(zs.length-1)))),aa (pt (rg zs i)),?_⟩⟩;rw[Ng d_ hi];unfold d_;rw[Int.add_sub_assoc]
  ·rintro e ⟨a,b,c,rfl⟩;rw[rQ,Ru d_ pos];exact hK _ ⟨a,b,c,rfl⟩
 rintro e ⟨a,b,c,rfl⟩;walk_at "rd";exact⟨bs.mulOk bs,q⟩
section
variable {s h:Pt}
theorem Qa (g:Gp s h P sh zs):eF s h*eF s h*oM d_ zs=sh*sh*((s.2*h.2)*(h.1*s.2)*oM d_ P):=by
 obtain⟨A',r,eq⟩:=Told.ring g;have e1:=OI (eF s h) zs;rw[eq,OI] at e1;have:(λx y=>d_ (og s h x) (og s h y))=λx y=>s.2*h.2*(h.1*s.2)*d_ x y:=by funext x y;exact Oy _ _ _ x y
 rw[<-e1,<-OH r,OF,this,OG]
end
def Bq:FD:=λds Q=>∃p:Pt,ds=[pt p]/\(0<p.2/\cJ p.1 p.2=1)/\Q (.bl true)
def Iq:∀ds Q,Bq ds Q->sU AO CM { nx:=λ_=>Q .non,rt:=Q } (dR ["_law_found"] ds):=by
 rintro ds Q ⟨p,rfl,⟨h1,h2⟩,q⟩;rw[cS 0 rfl];unfold sU;walk_at "rd";refine⟨p.1,rfl,?_⟩;walk_at "rd";refine⟨p.2,rfl,?_⟩;walk_at "rd";simp only[h1,decide_true,if_true];refine⟨p.1,p.2,rfl,?_⟩;walk_at "rd";rw[h2];exact q
def uK (h:cc (R.map f) a b):∃x y,cc R x y/\f x=a/\f y=b:=by
 obtain⟨l,r,e⟩:=h;rw[<-pA,<-cX] at e;obtain⟨l',r',e1,rfl,e2⟩:=qP.mp e;obtain⟨x,r2,rfl,e3,e4⟩:=nU.mp e2;obtain⟨y,r3,rfl,e5,e6⟩:=nU.mp e4;exact⟨x,y,⟨l',r3,e1⟩,e3,e5⟩
theorem PY:∀{l:List Pt} {a b:Pt},(a,b)∈QA l->iw l a b
 | [],_,_,h=>by cases h
 | [_],_,_,h=>by cases h
 | x::y::r,a,b,h=>by
  rcases aJ.mp h with e | h
  ·cases e;exact⟨[],r,rfl⟩
  ·exact (PY h).cons x
def fg (I J N:Int) (a b:Pt):Int:=(b.1-a.1)*(J-a.2*N)-(b.2-a.2)*(I-a.1*N)
structure wk (s h:Pt) (X Y W I J N:Int):Prop where
 w:0<W
 n:0<N
 x:eF s h*X*N=W*(I*(s.2*h.2))
 y:eF s h*Y*N=W*(I*(s.1*h.2)+J*(h.1*s.2))
def gv (I J N:Int) (P:List Pt):Int:=if ((QA (P++P.take 1)).all λp=>decide (0<fg I J N p.1 p.2))=true then 1 else if ((QA (P++P.take 1)).all λp=>decide (0<=fg I J N p.1 p.2))=true then 0 else -1
section
def GY [DecidablePred p]:((QA (P++P.take 1)).all λx=>decide (p x))=true↔∀a b,cc P a b->p (a,b):=by
 rw[oE];constructor
 ·intro h a b c;exact of_decide_eq_true (h _ (BS c))
 ·intro h x hx;exact decide_eq_true (h x.1 x.2 (PY hx))
def Uz (h:∀a b,cc P a b->0<fg I J N a b):gv I J N P=1:=by
 unfold gv;rw[if_pos (GY.mpr h)]
def Qd (h:∀a b,cc P a b->0<=fg I J N a b) (z:∃a b,cc P a b/\fg I J N a b<=0):gv I J N P=0:=by
 obtain⟨a,b,c,z⟩:=z;unfold gv;rw[if_neg (λk=>by have:=GY.mp k a b c;dsimp only at this;lia),if_pos (GY.mpr h)]
def Uy (z:∃a b,cc P a b/\fg I J N a b<0):gv I J N P = -1:=by
 obtain⟨a,b,c,z⟩:=z;unfold gv;rw[if_neg (λk=>by have:=GY.mp k a b c;dsimp only at this;lia),if_neg (λk=>by have:=GY.mp k a b c;dsimp only at this;lia)]
def iE {c1 c2 x y:Int} (h1:0<c1) (h2:0<c2) (e:c1*x=c2*y):(0<x↔0<y)/\(x<0↔y<0):=by
 rcases iW x 0 with k | rfl | k
 ·have:=jG h1 k;have hy:y<0:=by
   apply mO.mp;intro z;have:=cV (aU h2) z;lia
  lia
 ·rw[sZ] at e;rcases sH.mp e.symm with z | z <;> lia
 ·have:=aL h1 k;have hy:0<y:=by
   apply mO.mp;intro z;have:=gG (aU h2) z;lia
  lia
def UO {s h:Pt} {sh X Y W:Int} (sp:wk s h X Y W I J N) (ea:scl (eF s h) a=scl sh (og s h p)) (eb:scl (eF s h) b=scl sh (og s h q)) :
  eF s h*eF s h*N*c_ sh X Y W a b=sh*sh*W*(s.2*h.2)*(h.1*s.2)*fg I J N p q:=by
 obtain⟨_,_,sx,sy⟩:=sp;unfold scl og aff at ea eb;simp only[eM] at ea eb;obtain⟨a1,a2⟩:=ea;obtain⟨b1,b2⟩:=eb;rw[<-CG];unfold fg;generalize eF s h=e at *;generalize s.2*h.2=A at *;generalize s.1*h.2=B at *;generalize h.1*s.2=C at *;have l:e*e*N*((b.1-a.1)*(Y*sh-a.2*W)-(b.2-a.2)*(X*sh-a.1*W))=(e*b.1-e*a.1)*(sh*(e*Y*N)-W*N*(e*a.2))-(e*b.2-e*a.2)*(sh*(e*X*N)-W*N*(e*a.1)):=by grind
 rw[l,a1,a2,b1,b2,sx,sy];grind
def Hr {s h:Pt} {sh X Y W M:Int} (f:Fm s h) (g:Gp s h P sh cs) (sp:wk s h X Y W I J N) (h1:∃a b,cc cs a b/\M=c_ sh X Y W a b) (h2:∀a b,cc cs a b->M<=c_ sh X Y W a b):z6 M=gv I J N P:=by
 have h0:=IW f.ep g;have c1:0<eF s h*eF s h*N:=aL (aL f.ep f.ep) sp.n;have c2:0<sh*sh*W*(s.2*h.2)*(h.1*s.2):=aL (aL (aL (aL h0 h0) sp.w) f.sp) f.hp;obtain⟨A',r,eq⟩:=Told.ring g;have l1:∀a b,cc cs a b->∃p q,cc P p q/\eF s h*eF s h*N*c_ sh X Y W a b=sh*sh*W*(s.2*h.2)*(h.1*s.2)*fg I J N p q:=λa b c=>by
  have k:=yL (f:=scl (eF s h)) c;rw[eq] at k;obtain⟨x,y,k1,ex,ey⟩:=uK k;obtain⟨p,q,k2,rfl,rfl⟩:=uK (CO r k1);exact⟨p,q,k2,UO sp ex.symm ey.symm⟩
 have l2:∀p q,cc P p q->∃a b,cc cs a b/\eF s h*eF s h*N*c_ sh X Y W a b=sh*sh*W*(s.2*h.2)*(h.1*s.2)*fg I J N p q:=λp q c=>by
  have c:=yL (f:=scl sh) (CO r.symm (yL (f:=og s h) c));rw[<-eq] at c;obtain⟨x,y,c,ex,ey⟩:=uK c;exact⟨x,y,c,UO sp ex ey⟩
 obtain⟨a,b,c,e⟩:=h1;obtain⟨p,q,c',ee⟩:=l1 a b c;rw[<-e] at ee;have sg:=iE c1 c2 ee;have ge:∀p q,cc P p q->∃x,M<=x/\(0<x↔0<fg I J N p q)/\(x<0↔fg I J N p q<0):=λp q c=>by
  obtain⟨a,b,k,ee⟩:=l2 p q c;exact⟨_,h2 a b k,iE c1 c2 ee⟩
 unfold z6;rcases iW M 0 with k | k | k
 ·rw[Uy ⟨p,q,c',sg.2.mp k⟩,if_neg (by lia),if_pos k];decide
 ·rw[Qd (λp q c=>by obtain⟨x,u,v,w⟩:=ge p q c;lia) ⟨p,q,c',by lia⟩,if_neg (by lia),if_neg (by lia)];decide
 ·rw[Uz (λp q c=>by obtain⟨x,u,v,w⟩:=ge p q c;lia),if_pos k,if_neg (by lia)];decide
end
def Jg (w:Int):List (List Pt):=if w=0 then [[(0,0),(24,0),(24,24),(0,24)]] else if w=1 then [[(0,0),(24,0),(24,24)],[(0,0),(24,24),(0,24)]] else if w=2 then [[(0,0),(24,0),(0,24)],[(24,0),(24,24),(0,24)]] else [[(0,0),(8,0),(8,24),(0,24)],[(8,0),(24,0),(24,24),(8,24)]]
def SX:List (List (List Pt)):=[Jg 0,Jg 1,Jg 2,Jg 3]
def Xs (h0:0<=w) (h1:w<4):Jg w∈SX:=by
 unfold SX;have:w=0\/w=1\/w=2\/w=3:=by lia
 rcases this with rfl | rfl | rfl | rfl <;> simp
def xN:∀w∈SX,w.length<=2/\∀P∈w,P∈xA:=by decide +kernel
def qy (a b c:Pt):gv I J N [a,b,c]=if 0<fg I J N a b/\0<fg I J N b c/\0<fg I J N c a then 1 else if 0<=fg I J N a b/\0<=fg I J N b c/\0<=fg I J N c a then 0 else -1:=by
 unfold gv;simp only[QA,sQ,AV,bI,bV,DV,List.all_nil,vU,iG,decide_eq_true_eq]
def se (a b c d:Pt):gv I J N [a,b,c,d]=if 0<fg I J N a b/\0<fg I J N b c/\0<fg I J N c d/\0<fg I J N d a then 1 else if 0<=fg I J N a b/\0<=fg I J N b c/\0<=fg I J N c d/\0<=fg I J N d a then 0 else -1:=by
 unfold gv;simp only[QA,sQ,AV,bI,bV,DV,List.all_nil,vU,iG,decide_eq_true_eq]
def JT {A B:Prop} [Decidable A] [Decidable B] {D:Int} (h1:0<D->A) (h2:D=0->¬A/\B) (h3:D<0->¬A/\¬B):(D=0/\(if A then 1 else if B then 0 else -1:Int)=0)\/(0<D/\(if A then 1 else if B then 0 else -1:Int)=1)\/(D<0/\(if A then 1 else if B then 0 else -1:Int) = -1):=by
 rcases iW D 0 with k | k | k
 ·obtain⟨a,b⟩:=h3 k;rw[if_neg a,if_neg b];exact .inr (.inr ⟨k,rfl⟩)
 ·obtain⟨a,b⟩:=h2 k;rw[if_neg a,if_pos b];exact .inl ⟨k,rfl⟩
 ·rw[if_pos (h1 k)];exact .inr (.inl ⟨k,rfl⟩)
def XH {I J N D:Int} (h1:(D=0/\gv I J N P=0)\/(0<D/\gv I J N P=1)\/(D<0/\gv I J N P = -1)) (h2:(-D=0/\gv I J N R=0)\/(0 < -D/\gv I J N R=1)\/(-D<0/\gv I J N R = -1)) (h:∀T∈[P,R],gv I J N T≠0) :
  ([P,R].filter λT=>decide (gv I J N T=1)).length=1:=by
 have n1:=h P (by simp);rcases h1 with ⟨d,e⟩ | ⟨d,e⟩ | ⟨d,e⟩
 ·exact absurd e n1
 ·rcases h2 with ⟨d',e'⟩ | ⟨d',e'⟩ | ⟨d',e'⟩
  ·lia
  ·lia
  ·simp[e,e']
 ·rcases h2 with ⟨d',e'⟩ | ⟨d',e'⟩ | ⟨d',e'⟩
  ·lia
  ·simp[e,e']
  ·lia
def Sr (i0:0<I) (i1:I<24*N) (j0:0<J) (j1:J<24*N):∀w∈SX,(∀P∈w,gv I J N P≠0)->(w.filter λP=>decide (gv I J N P=1)).length=1:=by
 intro w hw h;unfold SX at hw;simp only[aJ,cY,or_false] at hw;rcases hw with rfl | rfl | rfl | rfl
 ·have e:gv I J N [(0,0),(24,0),(24,24),(0,24)]=1:=by
   rw[se,if_pos];unfold fg;dsimp only;lia
  show ([[(0,0),(24,0),(24,24),(0,24)]].filter _).length=1;simp[e]
 ·refine XH (P:=[(0,0),(24,0),(24,24)]) (R:=[(0,0),(24,24),(0,24)]) (D:=I-J) ?_ ?_ h
  ·rw[qy];unfold fg;dsimp only;exact JT (λ_=>by lia) (λ_=>by lia) λ_=>by lia
  ·rw[qy];unfold fg;dsimp only;exact JT (λ_=>by lia) (λ_=>by lia) λ_=>by lia
 ·refine XH (P:=[(0,0),(24,0),(0,24)]) (R:=[(24,0),(24,24),(0,24)]) (D:=24*N-I-J) ?_ ?_ h
  ·rw[qy];unfold fg;dsimp only;exact JT (λ_=>by lia) (λ_=>by lia) λ_=>by lia
  ·rw[qy];unfold fg;dsimp only;exact JT (λ_=>by lia) (λ_=>by lia) λ_=>by lia
 ·refine XH (P:=[(0,0),(8,0),(8,24),(0,24)]) (R:=[(8,0),(24,0),(24,24),(8,24)]) (D:=8*N-I) ?_ ?_ h
  ·rw[se];unfold fg;dsimp only;exact JT (λ_=>by lia) (λ_=>by lia) λ_=>by lia
  ·rw[se];unfold fg;dsimp only;exact JT (λ_=>by lia) (λ_=>by lia) λ_=>by lia
abbrev Yw (m:Mv) (X Y W:Int):D:=m6 ((m.1*X*m.2.1.2+m.2.1.1*W)*m.2.2.2) ((m.1*Y*m.2.2.2+m.2.2.1*W)*m.2.1.2) (W*m.2.1.2*m.2.2.2)
def Br:FD:=λds Q=>∃(m:Mv) (X Y W:Int),ds=[ji m,m6 X Y W]/\(ju m/\BL 900 X/\BL 900 Y/\BL 900 W)/\Q (Yw m X Y W)
def Iu:∀ds Q,Br ds Q->LS { nx:=λ_=>Q .non,rt:=Q } (dR ["_law_move_here","_law_spot","_law_sign","_law_dx","_law_dy","_law_x","_law_y"] ds):=by
 rintro ds Q ⟨⟨sg,⟨p,q'⟩,u,v⟩,X,Y,W,rfl,⟨mf,bX,bY,bW⟩,q⟩;have bs:BL 2 sg:=by have:=mf.sg;exact BL.of_lt (m:=2) (by dsimp only at this;lia) (by dsimp only at this;lia)
 have bp:BL 400 p:=mf.bp;have bq:BL 400 q':=mf.bq;have bu:BL 400 u:=mf.bu;have bv:BL 400 v:=mf.bv;rw[cS 5 rfl];unfold LS ji;simp only[hU,Ry,aQ,bZ,bI,bV];walk_at "rd";refine⟨bs.mulOk bX,(bs.mul bX).mulOk bq,bp.mulOk bW,(((bs.mul bX).mul bq).add (bp.mul bW)).mulOk bv,bs.mulOk bY,(bs.mul bY).mulOk bv,bu.mulOk bW,(((bs.mul bY).mul bv).add (bu.mul bW)).mulOk bq,bW.mulOk bq,(bW.mul bq).mulOk bv,q⟩
def NL:FD:=λds Q=>∃(n:Int) (s h:Pt),ds=[.int n,pt s,pt h]/\Fm s h/\∀X Y W I J N,wk s h X Y W I J N->((0<I/\I<24*N)/\0<J/\J<24*N)->(BL 200 X/\BL 200 Y/\BL 200 W)->Q (m6 X Y W)
def Ar:∀ds Q,NL ds Q->zP { nx:=λ_=>Q .non,rt:=Q } (dR ["_law_cell_here","_law_s","_law_h","_law_number","_law_x","_law_y","_law_share"] ds):=by
 rintro ds Q ⟨n,s,h,rfl,f,q⟩;rw[cS 4 rfl];unfold zP;simp only[hU,Dv,aQ,bZ,bI,bV];refine cN (λd=>∃k:Int,(0<=k/\k<2147483629)/\d=[aa (.int n),aa (pt s),aa (pt h),aa (.int k),none,none,none]) (λK hK=>?_) ?_
 ·obtain⟨a0,a1⟩:=eZ (a:=n) (b:=1000000000) (by decide);have b7:BL 41 (n.fmod 1000000000+7):=BL.of_lt (m:=41) (by lia) (by lia);have Z5:BL 41 (n.fmod 1000000000+31):=BL.of_lt (m:=41) (by lia) (by lia);obtain⟨c0,c1⟩:=eZ (a:=(n.fmod 1000000000+7)*(n.fmod 1000000000+31)*48271) (b:=2147483629) (by decide);walk_at "rd";exact⟨QH,lV,QH,lV,b7.mulOk Z5,(b7.mul Z5).mulOk (BL.const (n:=20) (by decide)),lV,hK _ ⟨_,⟨c0,c1⟩,rfl⟩⟩
 rintro d ⟨k,hk,rfl⟩;have bk:BL 40 k:=BL.of_lt (m:=40) (by lia) (by lia);refine cN (λd=>∃x:Int,(1<=x/\x<=1008)/\d=[aa (.int n),aa (pt s),aa (pt h),aa (.int k),aa (.int x),none,none]) (λK hK=>?_) ?_
 ·obtain⟨a0,a1⟩:=eZ (a:=k) (b:=1008) (by decide);walk_at "rd";exact⟨lV,hK _ ⟨_,⟨by lia,by lia⟩,rfl⟩⟩
 rintro d ⟨x,hx,rfl⟩;refine cN (λd=>∃y:Int,(1<=y/\y<=9972)/\d=[aa (.int n),aa (pt s),aa (pt h),aa (.int k),aa (.int x),aa (.int y),none]) (λK hK=>?_) ?_
 ·obtain⟨a0,a1⟩:=eZ (a:=(k*69621).fmod 2147483587) (b:=9972) (by decide);walk_at "rd";exact⟨bk.mulOk (BL.const (n:=20) (by decide)),lV,lV,hK _ ⟨_,⟨by lia,by lia⟩,rfl⟩⟩
 rintro d ⟨y,hy,rfl⟩;have b1:=f.ls.top;have b2:=f.ls.bot;have b3:=f.b1;have b4:=f.b2;have bx:BL 11 x:=BL.of_lt (m:=11) (by lia) (by lia);have r_:BL 14 y:=BL.of_lt (m:=14) (by lia) (by lia);have k9:BL 14 9973:=BL.const (by decide);have k1:BL 14 1009:=BL.const (by decide);have kk:BL 30 10062757:=BL.const (by decide);refine cN (λd=>d=[aa (.int n),aa (pt s),aa (pt h),aa (.int k),aa (.int x),aa (.int y),aa (.int (10062757*s.2*h.2))]) (λK hK=>?_) ?_
 ·walk_at "rd";exact⟨k1.mulOk k9,kk.mulOk b2,(kk.mul b2).mulOk b4,hK _ rfl⟩
 rintro d rfl;walk_at "rd";refine⟨bx.mulOk k9,(bx.mul k9).mulOk b2,((bx.mul k9).mul b2).mulOk b4,bx.mulOk b1,(bx.mul b1).mulOk k9,((bx.mul b1).mul k9).mulOk b4,r_.mulOk b3,(r_.mul b3).mulOk k1,((r_.mul b3).mul k1).mulOk b2,?_⟩;have S0:=f.sp;refine q _ _ _ (24*x*9973) (24*y*1009) 10062757 ⟨?_,by decide,?_,?_⟩ ⟨⟨by lia,by lia⟩,by lia,by lia⟩ ⟨?_,?_,?_⟩
 ·have:10062757*s.2*h.2=10062757*(s.2*h.2):=by grind
  rw[this];lia
 ·unfold eF;grind
 ·unfold eF;grind
 ·exact (((bx.mul k9).mul b2).mul b4).mono
 ·exact ((((bx.mul b1).mul k9).mul b4).add (((r_.mul b3).mul k1).mul b2)).mono
 ·exact ((kk.mul b2).mul b4).mono
def Sx {s h:Pt} {A P:List Pt} (f:Fm s h) (hP:P∈xA) (h0:0<share) (h1:BL 100 share) (hA:A.length<=10) (eq:A.map (scl (eF s h))=(P.map (og s h)).map (scl share)) (q:∀sh zs,Gp s h P sh zs->Q (pc sh zs)):NC [.int share,et A] Q:=by
 have cP:=KN P hP;have cA:=VC f.sp f.hp cP (lo:=s.1*h.2);have nP:(P.map (og s h)).Nodup:=cA.nodup;have n1:((P.map (og s h)).map (scl share)).Nodup:=qN (scl share) (λa b hn k=>hn (IT h0 k)) nP;have nA:A.Nodup:=by
  rw[<-eq] at n1;exact AR (scl (eF s h)) (λa b hn k=>hn (by rw[k])) n1
 have l3:3<=A.length:=by
  have l:=congrArg fU eq;have:=cP.len;simp at l;lia
 refine⟨share,A,rfl,⟨h0,h1⟩,⟨by rintro rfl;simp at l3,by lia⟩,λm sh zs j d=>?_⟩;exact q _ _ (Sl (YK d) h0 f.ep (λk=>by have:=cA.len;rw[k] at this;simp at this) eq nA)
def NB:FD:=λds Q=>∃(s h:Pt) (w:Int),ds=[pt s,pt h,.int w]/\(Fm s h/\0<=w/\w<4)/\∀L:List (List Pt × Int × List Pt),L.map (·.1)=Jg w->(∀p∈L,Gp s h p.1 p.2.1 p.2.2)->Q (.lst (L.map λp=>pc p.2.1 p.2.2))
def Aj:∀ds Q,NB ds Q->zM NC { nx:=λ_=>Q .non,rt:=Q } (dR ["_law_s","_law_h","_law_way","_law_share","_law_low","_law_high","_law_one","_law_two","_law_three","_law_four","_law_amid","_law_first"] ds):=by
 rintro ds Q ⟨s,h,w,rfl,⟨f,w0,w4⟩,q⟩;have sp:=f.sp;have bS:BL 90 (s.2*h.2):=(f.ls.bot.mul f.b2).mono;have bl:BL 90 (s.1*h.2):=(f.ls.top.mul f.b2).mono;have bh:BL 90 (h.1*s.2):=(f.b1.mul f.ls.bot).mono;have qb:∀{P A:List Pt} {R:D->Prop},P∈xA->A.length<=10->A.map (scl (eF s h))=(P.map (og s h)).map (scl (s.2*h.2))->(∀sh zs,Gp s h P sh zs->R (pc sh zs))->NC [.int (s.2*h.2),et A] R:=λhP hA e q=>Sx f hP sp (bS.mono) hA e q;have ye:∀{P A:List Pt} {R:D->Prop},P∈xA->A.length<=10->A.map (scl (eF s h))=(P.map (og s h)).map (scl (3*(s.2*h.2)))->(∀sh zs,Gp s h P sh zs->R (pc sh zs))->NC [.int (3*(s.2*h.2)),et A] R:=λhP hA e q=>Sx f hP (by lia) (((BL.const (n:=3) (i:=3) (by decide)).mul bS).mono) hA e q;rw[cS 9 rfl];unfold zM;simp only[hU,Zv,aQ,bZ,bI,bV];refine cN (λa=>a=[aa (pt s),aa (pt h),aa (.int w),aa (.int (s.2*h.2)),none,none,none,none,none,none,none,none]) (λK hK=>?_) ?_
 ·walk_at "rd";exact⟨f.ls.bot.mulOk f.b2,hK _ rfl⟩
 rintro a rfl;refine cN (λa=>a=[aa (pt s),aa (pt h),aa (.int w),aa (.int (s.2*h.2)),aa (.int (s.1*h.2)),none,none,none,none,none,none,none]) (λK hK=>?_) ?_
 ·walk_at "rd";exact⟨f.ls.top.mulOk f.b2,hK _ rfl⟩
 rintro a rfl;refine cN (λa=>a=[aa (pt s),aa (pt h),aa (.int w),aa (.int (s.2*h.2)),aa (.int (s.1*h.2)),aa (.int (h.1*s.2)),none,none,none,none,none,none]) (λK hK=>?_) ?_
 ·walk_at "rd";exact⟨f.b1.mulOk f.ls.bot,hK _ rfl⟩
 rintro a rfl;have eE:eF s h=24*(s.2*h.2):=rfl;have eA:∀z,og s h z=(z.1*(s.2*h.2),z.1*(s.1*h.2)+z.2*(h.1*s.2)):=λ_=>rfl;generalize hS:s.2*h.2=A at *;generalize hL:s.1*h.2=B at *;generalize hH:h.1*s.2=C at *;have cw:w=0\/w=1\/w=2\/w=3:=by lia
 refine cN (λa=>w=3/\a=[aa (pt s),aa (pt h),aa (.int w),aa (.int A),aa (.int B),aa (.int C),none,none,none,none,none,none]) (λK hK=>?_) ?_
 ·rcases cw with rfl | rfl | rfl | rfl
  ·walk_at "rd";rw[if_pos (by decide)];refine qb (P:=[(0,0),(24,0),(24,24),(0,24)]) (A:=[(0,0),(A,B),(A,B+C),(0,C)]) (by decide) (by simp) ?_ λsh zs g=>?_
   ·simp only[aQ,bZ,eA,eE,scl];simp only[fX,eM,and_true];refine⟨⟨?_,?_⟩,⟨?_,?_⟩,⟨?_,?_⟩,?_,?_⟩ <;> grind
   ·exact q [(_,sh,zs)] rfl (by simpa using g)
  ·walk_at "rd";rw[if_pos (by decide),if_neg (by decide)];refine qb (P:=[(0,0),(24,0),(24,24)]) (A:=[(0,0),(A,B),(A,B+C)]) (by decide) (by simp) ?_ λsh zs g=>?_
   ·simp only[aQ,bZ,eA,eE,scl];simp only[fX,eM,and_true];refine⟨⟨?_,?_⟩,⟨?_,?_⟩,?_,?_⟩ <;> grind
   refine qb (P:=[(0,0),(24,24),(0,24)]) (A:=[(0,0),(A,B+C),(0,C)]) (by decide) (by simp) ?_ λur uu g2=>?_
   ·simp only[aQ,bZ,eA,eE,scl];simp only[fX,eM,and_true];refine⟨⟨?_,?_⟩,⟨?_,?_⟩,?_,?_⟩ <;> grind
   ·exact q [(_,sh,zs),(_,ur,uu)] rfl (by simpa using ⟨g,g2⟩)
  ·walk_at "rd";rw[if_pos (by decide),if_neg (by decide),if_neg (by decide)];refine qb (P:=[(0,0),(24,0),(0,24)]) (A:=[(0,0),(A,B),(0,C)]) (by decide) (by simp) ?_ λsh zs g=>?_
   ·simp only[aQ,bZ,eA,eE,scl];simp only[fX,eM,and_true];refine⟨⟨?_,?_⟩,⟨?_,?_⟩,?_,?_⟩ <;> grind
   refine qb (P:=[(24,0),(24,24),(0,24)]) (A:=[(A,B),(A,B+C),(0,C)]) (by decide) (by simp) ?_ λur uu g2=>?_
   ·simp only[aQ,bZ,eA,eE,scl];simp only[fX,eM,and_true];refine⟨⟨?_,?_⟩,⟨?_,?_⟩,?_,?_⟩ <;> grind
   ·exact q [(_,sh,zs),(_,ur,uu)] rfl (by simpa using ⟨g,g2⟩)
  ·walk_at "rd";rw[if_neg (by decide)];exact hK _ ⟨rfl,rfl⟩
 rintro a ⟨rfl,rfl⟩;refine cN (λa=>a=[aa (pt s),aa (pt h),aa (.int 3),aa (.int A),aa (.int B),aa (.int C),none,none,none,none,aa (.lst [pt (A,B),pt (A,B+3*C)]),none]) (λK hK=>?_) ?_
 ·walk_at "rd";exact⟨(BL.const (n:=3) (i:=3) (by decide)).mulOk bh,hK _ rfl⟩
 rintro a rfl;refine cN (λa=>∃sh zs,Gp s h [(0,0),(8,0),(8,24),(0,24)] sh zs/\a=[aa (pt s),aa (pt h),aa (.int 3),aa (.int A),aa (.int B),aa (.int C),none,none,none,none,aa (.lst [pt (A,B),pt (A,B+3*C)]),aa (pc sh zs)]) (λK hK=>?_) ?_
 ·walk_at "rd";refine⟨(BL.const (n:=3) (i:=3) (by decide)).mulOk bS,(BL.const (n:=3) (i:=3) (by decide)).mulOk bh,?_⟩;refine ye (P:=[(0,0),(8,0),(8,24),(0,24)]) (A:=[(0,0),(A,B),(A,B+3*C),(0,3*C)]) (by decide) (by simp) ?_ λsh zs g=>hK _ ⟨sh,zs,g,rfl⟩;simp only[aQ,bZ,eA,eE,scl];simp only[fX,eM,and_true];refine⟨⟨?_,?_⟩,⟨?_,?_⟩,⟨?_,?_⟩,?_,?_⟩ <;> grind
 rintro a ⟨sh,zs,g,rfl⟩;generalize Q9:pc sh zs=PD;walk_at "rd";refine⟨(BL.const (n:=3) (i:=3) (by decide)).mulOk bS,(BL.const (n:=3) (i:=3) (by decide)).mulOk bS,(BL.const (n:=3) (i:=3) (by decide)).mulOk bl,(BL.const (n:=3) (i:=3) (by decide)).mulOk bS,(BL.const (n:=3) (i:=3) (by decide)).mulOk bl,(BL.const (n:=3) (i:=3) (by decide)).mulOk bh,?_⟩;refine ye (P:=[(8,0),(24,0),(24,24),(8,24)]) (A:=[(A,B),(3*A,3*B),(3*A,3*B+3*C),(A,B+3*C)]) (by decide) (by simp) ?_ λur uu g2=>?_
 ·simp only[aQ,bZ,eA,eE,scl];simp only[fX,eM,and_true];refine⟨⟨?_,?_⟩,⟨?_,?_⟩,⟨?_,?_⟩,?_,?_⟩ <;> grind
 ·rw[<-Q9];exact q [(_,sh,zs),(_,ur,uu)] rfl (by simpa using ⟨g,g2⟩)
def NJ:FD:=λds Q=>∃n:Int,ds=[.int n]/\BL 210 n/\∀m:Mv,ju m->(BL 210 m.2.1.1/\BL 3 m.2.1.2/\BL 210 m.2.2.1/\BL 3 m.2.2.2)->Q (ji m)
def Ao:∀ds Q,NJ ds Q->CC SZ { nx:=λ_=>Q .non,rt:=Q } (dR ["_law_number","_law_far","_law_dx","_law_dy"] ds):=by
 rintro ds Q ⟨n,rfl,bn,q⟩;rw[cS 3 rfl];unfold CC;simp only[hU,Nx,aQ,bZ,bI,bV];refine cN (λd=>∃f:Int,(0<=f/\BL 200 f)/\d=[aa (.int n),aa (.int f),none,none]) (λK hK=>?_) ?_
 ·walk_at "rd";obtain⟨a0,a1⟩:=eZ (a:=n.fdiv 2) (b:=2) (by decide);refine⟨QH,(BL.const (n:=9000) (by decide)).divOk (by decide),lV,?_⟩;refine Eu a0 (by simpa using a1) λx hx=>?_;obtain⟨f,rfl,f0,f1⟩:=Yo hx;exact hK _ ⟨f,⟨f0,f1⟩,rfl⟩
 rintro d ⟨f,⟨f0,f1⟩,rfl⟩;have fp:(2*f+1)≠0:=by lia
 refine cN (λd=>∃x:Pt,(0<x.2/\BL 210 x.1/\BL 3 x.2/\cJ x.1 x.2=1)/\d=[aa (.int n),aa (.int f),aa (pt x),none]) (λK hK=>?_) ?_
 ·walk_at "rd";obtain⟨a0,a1⟩:=eZ (a:=n*48271) (b:=1000000007) (by decide);obtain⟨b0,b1⟩:=eZ (a:=n.fdiv 4) (b:=4) (by decide);obtain⟨c0,c1⟩:=eZ (a:=(n*48271).fmod 1000000007*69621) (b:=2*f+1) (by lia);refine⟨bn.mulOk (BL.const (n:=20)),lV,(BL.of_lt (m:=40) (by lia) (by lia)).mulOk (BL.const (n:=20)),(BL.const (n:=20)).mulOk f1,⟨fp⟩,(BL.const (n:=9000) (by decide)).divOk (by decide),lV,?_⟩;have bq:BL 3 (1+(n.fdiv 4).fmod 4):=BL.of_lt (m:=3) (by lia) (by lia);refine⟨_,_,rfl,⟨by lia,bq.mono⟩,λp q' l=>hK _ ⟨(p,q'),⟨l.pos,(Ta f0 f1 c0 c1).le l.lea,bq.le l.leb,l.cop⟩,rfl⟩⟩
 rintro d ⟨x,hx,rfl⟩;refine cN (λd=>∃y:Pt,(0<y.2/\BL 210 y.1/\BL 3 y.2/\cJ y.1 y.2=1)/\d=[aa (.int n),aa (.int f),aa (pt x),aa (pt y)]) (λK hK=>?_) ?_
 ·walk_at "rd";obtain⟨b0,b1⟩:=eZ (a:=n.fdiv 16) (b:=3) (by decide);obtain⟨c0,c1⟩:=eZ (a:=n) (b:=2*f+1) (by lia);refine⟨(BL.const (n:=20)).mulOk f1,⟨fp⟩,(BL.const (n:=9000) (by decide)).divOk (by decide),lV,?_⟩;have bq:BL 3 (1+(n.fdiv 16).fmod 3):=BL.of_lt (m:=3) (by lia) (by lia);refine⟨_,_,rfl,⟨by lia,bq.mono⟩,λp q' l=>hK _ ⟨(p,q'),⟨l.pos,(Ta f0 f1 c0 c1).le l.lea,bq.le l.leb,l.cop⟩,rfl⟩⟩
 rintro d ⟨y,hy,rfl⟩;walk_at "rd";obtain⟨b0,b1⟩:=eZ (a:=n) (b:=2) (by decide);obtain⟨x1,x2,x3,x4⟩:=hx;obtain⟨y1,y2,y3,y4⟩:=hy;exact⟨lV,(BL.const (n:=20)).mulOk (BL.of_lt (m:=20) (by lia) (by lia)),q (_,x,y) ⟨by dsimp only;lia,x1,y1,x4,y4,x2.mono,x3.mono,y2.mono,y3.mono⟩ ⟨x2,x3,y2,y3⟩⟩
def yY (I:En->Prop) (h1:∀K:En->Prop,(∀a',I a'->K a')->t { nx:=K,rt:=E.rt } a) (h2:∀a',I a'->u E a'):vJ t u E a:=h1 (u E) h2
def VU {α:Type} {f:α->D} {n:Nat} {xs:List α} (h:∀x∈xs,c4 n (f x) (f x)=some true):f_ (c4 n) (xs.map f) (xs.map f)=some true :=
 pB _ λx hx=>by
  obtain⟨y,hy,rfl⟩:=bF.mp hx;exact h y hy
end K36
section
theorem QX:∀(l:List Pt),l≠[]->∃u∈l,∀z∈l,c6 L z<=c6 L u
 | [],h=>absurd rfl h
 | [x],_=>⟨x,by simp,λz hz=>by simp at hz;subst hz;exact sC _⟩
 | x::y::l,_=>by
  obtain⟨u,hu,h⟩:=QX (y::l) (by simp);by_cases k:c6 L x<=c6 L u
  ·exact⟨u,by simp at hu ⊢;exact fE hu,λz hz=>by
    rcases aJ.mp hz with rfl | hz
    ·exact k
    ·exact h z hz⟩
  ·exact⟨x,by simp,λz hz=>by
    rcases aJ.mp hz with rfl | hz
    ·exact sC _
    ·have:=h z hz;lia⟩
def Xo (t u v:Pt) (r:H3):xn L r*cK t u v=(c6 L t-c6 L u)*SE (g7 u) (g7 v) r+(c6 L v-c6 L u)*SE (g7 t) (g7 u) r+c6 L u*r.2.2*cK t u v:=by
 unfold xn c6 SE cK g7;dsimp only;grind
def Nz (c:dk cs):∃t u v,cc cs t u/\cc cs u v/\u∈cs/\0<cK t u v/\∀z∈cs,c6 L z<=c6 L u:=by
 obtain⟨u,hu,top⟩:=QX (L:=L) cs (by intro e;have:=c.len;rw[e] at this;simp at this);obtain⟨t,v,h1,h2,nt⟩:=Jz c hu;exact⟨t,u,v,h1,h2,hu,c.strict t u h1 v (cc.mem h2).2 (Ne.symm nt) (Ne.symm (c.ne h2)),top⟩
def Sd (c:dk cs) (hle:∀z∈cs,c6 L z<=0) (hw:0<=r.2.2) (hr:∀u v,cc cs u v->0<=SE (g7 u) (g7 v) r):xn L r<=0:=by
 obtain⟨t,u,v,h1,h2,hu,D,top⟩:=Nz (L:=L) c;have e:=Xo (L:=L) t u v r;have a1:=gH (show c6 L t-c6 L u<=0 by have:=top t (cc.mem h1).1;lia) (hr u v h2);have a2:=gH (show c6 L v-c6 L u<=0 by have:=top v (cc.mem h2).2;lia) (hr t u h1);have a3:=gH (gH (hle u hu) hw) (aU D);apply jU.mp;intro h;have:=aL h D;lia
end
theorem WB:∀(l:List Pt),∃D,gh D/\∀z,z∈D↔z∈l
 | []=>⟨[],by unfold gh;simp,by simp⟩
 | x::l=>by
  obtain⟨D,h,e⟩:=WB l;have ins:∀(D:List Pt),gh D->∃D',gh D'/\∀z,z∈D'↔z=x\/z∈D:=by
   intro D
   induction D with
   | nil=>intro _;exact⟨[x],by unfold gh;simp,by simp⟩
   | cons y D ih =>
    intro h;unfold gh at h;have h':=cG.mp h;rcases pS x y with k | k | k
    ·refine⟨x::y::D,?_,by simp⟩;unfold gh;refine cG.mpr ⟨λz hz=>?_,h⟩;rcases aJ.mp hz with rfl | hz
     ·exact k
     ·exact qE k (h'.1 z hz)
    ·subst k;exact⟨x::D,h,by simp⟩
    ·obtain⟨D',i,m⟩:=ih h'.2;refine⟨y::D',?_,λz=>?_⟩
     ·unfold gh;refine cG.mpr ⟨λz hz=>?_,i⟩;rcases (m z).mp hz with rfl | hz
      ·exact k
      ·exact h'.1 z hz
     ·simp only[aJ,m z];constructor
      ·rintro (a | a | a) <;> simp[a]
      ·rintro (a | a | a) <;> simp[a]
  obtain⟨D',i,m⟩:=ins D h;exact⟨D',i,λz=>by rw[m z,e z];simp⟩
def Az {S T:List Pt} (c1:dk (z::S)) (c2:dk (w::T)) (l1:∀q∈S,¬br q z) (l2:∀q∈T,¬br q w) (h1:∀a b,cc (z::S) a b->∀q∈w::T,0<=cK a b q) (h2:∀a b,cc (w::T) a b->∀q∈z::S,0<=cK a b q):z::S=w::T:=by
 obtain⟨D,i,m⟩:=WB ((z::S)++(w::T));have e1:=yW (L:=z::S) i c1 l1 (λq hq=>(m q).mpr (dL _ hq)) λa b g9 q hq=>by
  rcases cC.mp ((m q).mp hq) with k | k
  ·exact c1.side g9 k
  ·exact h1 a b g9 q k
 have e2:=yW (L:=z::S) i c2 l2 (λq hq=>(m q).mpr (bG _ hq)) λa b g9 q hq=>by
  rcases cC.mp ((m q).mp hq) with k | k
  ·exact h2 a b g9 q k
  ·exact c2.side g9 k
 rw[<-e1,e2]
def Gd (s1 s2:Int) (a b q:Pt):cK (scl s2 a) (scl s2 b) (scl s1 q)=s2*c_ s1 q.1 q.2 s2 a b:=by unfold c_ SE g7 cK scl;dsimp only;grind
def dk.scl (hk:0<k) (c:dk l):dk (l.map (L2.R2.scl k)):=c.map (aL hk hk) (Ba k) λa b h=>IT hk h
def Ii (p1:cj s1 z1) (p2:cj s2 z2) (h1:∀q∈z2,∀a b,cc z1 a b->0<=c_ s1 q.1 q.2 s2 a b) (h2:∀q∈z1,∀a b,cc z2 a b->0<=c_ s2 q.1 q.2 s1 a b):s1=s2/\z1=z2:=by
 obtain⟨z,S,e1,l1⟩:=p1.first;obtain⟨w,T,e2,l2⟩:=p2.first;have q1:=p1.pos;have q2:=p2.pos;have c1:=p1.cvx.scl q2;have c2:=p2.cvx.scl q1;have back:∀{k:Int} {l:List Pt} {x y:Pt},cc (l.map (scl k)) x y->∃a b,cc l a b/\x=scl k a/\y=scl k b:=by
  intro k l x y h;have h':iw ((l++l.take 1).map (scl k)) x y:=by rw[cX,pA];exact h
  exact Fr h'
 have eq:z1.map (scl s2)=z2.map (scl s1):=by
  subst e1 e2;rw[aQ,aQ] at *;refine Az c1 c2 (λq hq=>?_) (λq hq=>?_) (λa b g9 q hq=>?_) λa b g9 q hq=>?_
  ·obtain⟨y,hy,rfl⟩:=bF.mp hq;rw[GD q2];exact l1 y hy
  ·obtain⟨y,hy,rfl⟩:=bF.mp hq;rw[GD q1];exact l2 y hy
  ·obtain⟨a',b',h,rfl,rfl⟩:=back (l:=z::S) g9;obtain⟨y,hy,rfl⟩:=bF.mp (show q∈(w::T).map (scl s1) from hq);rw[Gd];exact cV (by lia) (h1 y hy a' b' h)
  ·obtain⟨a',b',h,rfl,rfl⟩:=back (l:=w::T) g9;obtain⟨y,hy,rfl⟩:=bF.mp (show q∈(z::S).map (scl s2) from hq);rw[Gd];exact cV (by lia) (h2 y hy a' b' h)
 exact LO (a:=s2) (b:=s1) q2 q1 (fL ..) eq p1.cop p2.cop
def P2 (l:j3) (sh:Int) (cs:List Pt) (s:Int) (d:D):Prop:=d = .non\/∃(gt:Int) (zs:List Pt),d=pc gt zs/\cj gt zs/\(BL 9000 gt/\XL 9000 zs/\zs.length<=100)/\∀z∈zs,0<=(l.a*z.1+l.b*z.2-l.c*gt)*s/\∀a b,cc cs a b->0<=c_ sh z.1 z.2 gt a b
def Tl (h:-x<=0):0<=x:=by lia
def Tm (h:-x<0) (k:x<=0):False:=by lia
def Tk (h:0 < -x) (k:0<=x):False:=by lia
def ft (sh:Int) (cs:List Pt) (X Y W:Int):Prop:=∀a b,cc cs a b->0<=c_ sh X Y W a b
def ie (sh:Int) (cs:List Pt) (X Y W:Int):Prop:=∀a b,cc cs a b->0<c_ sh X Y W a b
def CY (c:dk zs) (h0:0<sh) (h:∀z∈zs,α*z.1+β*z.2+γ*sh<=0) {X Y W:Int} (hw:0<=W) (hr:ft sh zs X Y W):α*X+β*Y+γ*W<=0:=by
 have e:=Sd (L:=⟨α,β,-γ*sh⟩) c (λz hz=>by have:=h z hz;unfold c6;dsimp only;grind) (r:=(sh*X,sh*Y,W)) hw hr;have e2:xn ⟨α,β,-γ*sh⟩ (sh*X,sh*Y,W)=sh*(α*X+β*Y+γ*W):=by unfold xn;dsimp only;grind
 rw[e2] at e;apply jU.mp;intro k;have:=aL h0 k;lia
def MW (sh X Y W:Int) (u v:Pt):c_ sh X Y W u v=sh*(u.2-v.2)*X+sh*(v.1-u.1)*Y+(u.1*v.2-u.2*v.1)*W:=by unfold c_ SE g7;dsimp only;grind
namespace K37
open K36 K34 K33
section
def WT (ip:cj sh zs) (hq:q∈zs):ft sh zs q.1 q.2 sh:=λa b c=>by
 have e:c_ sh q.1 q.2 sh a b=sh*cK a b q:=by unfold c_ SE g7 cK;dsimp only;grind
 rw[e];exact cV (aU ip.pos) (ip.cvx.side c hq)
def Du (p1:cj s1 z1) (p2:cj s2 z2) (h:∀X Y W,0<=W->(ft s1 z1 X Y W↔ft s2 z2 X Y W)):s1=s2/\z1=z2 :=
 Ii p1 p2 (λq hq=>(h _ _ _ (aU p2.pos)).mpr (WT p2 hq)) λq hq=>(h _ _ _ (aU p1.pos)).mp (WT p1 hq)
end
def t8 (sh:Int) (c:Int):Rat:=(c:Rat) / ((sh:Rat)*(sh:Rat))
def jE {s:Int} (h:0<s):(s:Rat)≠0:=by
 intro k;have:(s:Rat)=((0:Int):Rat):=by rw[k];rfl
 have:=pQ.mp this;lia
abbrev pb (h:Pt) (L:Int):j3:=⟨0,h.2,L*h.1⟩
abbrev tq (l:j3):j3:=⟨-l.a,-l.b,-l.c⟩
structure Hh (h:Pt):Prop where
 h1:0<h.1
 h2:0<h.2
 b1:BL 10 h.1
 b2:BL 10 h.2
structure Pz (h:Pt) (sh:Int) (cs:List Pt):Prop where
 ip:cj sh cs
 bs:BL 40 sh
 bz:∀z∈cs,BL 70 z.1/\BL 70 z.2
 len:cs.length<=10
 rows:∀z∈cs,-26*h.1*sh<=h.2*z.2/\h.2*z.2<=27*h.1*sh
section
def blL (h0:-30<=L) (h1:L<=30):BL 6 L:=BL.of_lt (m:=6) (by lia) (by lia)
def Px (h:Pt) (L sh:Int) (z:Pt):exc (pb h L) z sh=h.2*z.2-L*h.1*sh:=by unfold exc pb;dsimp only;grind
def Py (h:Pt) (L sh:Int) (z:Pt):exc (tq (pb h L)) z sh=L*h.1*sh-h.2*z.2:=by unfold exc tq pb;dsimp only;grind
end
structure n_ (dn:Pt) (bj:Int) (cs:List Pt) (sh:Int) (zs:List Pt):Prop where
 ip:cj sh zs
 closed:∀X Y W,ft sh zs X Y W↔ft bj cs (X*dn.2) (Y*dn.2-dn.1*W) (W*dn.2)
 opened:∀X Y W,ie sh zs X Y W↔ie bj cs (X*dn.2) (Y*dn.2-dn.1*W) (W*dn.2)
 area:t8 sh (oM d_ zs)=t8 bj (oM d_ cs)
 len:zs.length=cs.length
 size:∀{a n d:Nat},BL a bj->(∀z∈cs,BL n z.1/\BL n z.2)->BL d dn.1->BL d dn.2->BL (a+d) sh/\∀z∈zs,BL (a+n+2*d+1) z.1/\BL (a+n+2*d+1) z.2
def Et {f g:Pt->Pt} (e:A.map f=B.map g) (c:cc A a b):∃p q,cc B p q/\f a=g p/\f b=g q:=by
 have k:=yL (f:=f) c;rw[e] at k;obtain⟨p,q,k,e1,e2⟩:=uK k;exact⟨p,q,k,e1.symm,e2.symm⟩
def Wo (ip0:cj bj cs) (hd:0<dn.2) (P:p9 bj cs 1 0 1 dn.1 dn.2 sh zs):n_ dn bj cs sh zs:=by
 obtain⟨f,s,r,w,m,z,T,⟨pk,rfl,le⟩,⟨er,ew⟩,rot,least,cz,N⟩:=P;have h0:=ip0.pos;have mp:=N.mpos;have r0:r=0:=by rw[qL] at er;lia
 subst r0;have shp:0<sh:=by
  have e:=N.sh_eq;have:=aL pk h0;rw[e] at this;exact pZ mp this
 obtain⟨A',rA,eA⟩:∃A',gf cs A'/\(z::T)=A'.map (L2.R2.mv (1*f) 0 w):=gf.mapOf rot;have ez:zs.map (scl m)=A'.map (L2.R2.mv (1*f) 0 w):=by rw[<-eA];exact N.cs_eq.symm
 have side:∀{a b p q:Pt},scl m a=L2.R2.mv (1*f) 0 w p->scl m b=L2.R2.mv (1*f) 0 w q->∀X Y W,m*m*dn.2*c_ sh X Y W a b=f*f*c_ bj (X*dn.2) (Y*dn.2-dn.1*W) (W*dn.2) p q:=λ{a b p q} e1 e2 X Y W=>by
  have es:=N.sh_eq;unfold scl L2.R2.mv at e1 e2;simp only[eM] at e1 e2;obtain⟨a1,a2⟩:=e1;obtain⟨b1,b2⟩:=e2;rw[<-CG,<-CG];have l:m*m*dn.2*((b.1-a.1)*(Y*sh-a.2*W)-(b.2-a.2)*(X*sh-a.1*W))=dn.2*((m*b.1-m*a.1)*(Y*(m*sh)-m*a.2*W)-(m*b.2-m*a.2)*(X*(m*sh)-m*a.1*W)):=by grind
  rw[l,a1,a2,b1,b2,<-es];have l2:dn.2*((1*f*q.1+0-(1*f*p.1+0))*(Y*(f*bj)-(1*f*p.2+w)*W)-(1*f*q.2+w-(1*f*p.2+w))*(X*(f*bj)-(1*f*p.1+0)*W))=f*((q.1-p.1)*(Y*dn.2*(f*bj)-(f*p.2*dn.2+w*dn.2)*W)-(q.2-p.2)*(X*dn.2*(f*bj)-f*p.1*dn.2*W)):=by grind
  rw[l2,ew];grind
 have c1:0<m*m*dn.2:=aL (aL mp mp) hd;have c2:0<f*f:=aL pk pk;have fw:∀{a b:Pt},cc zs a b->∃p q,cc cs p q/\∀X Y W,m*m*dn.2*c_ sh X Y W a b=f*f*c_ bj (X*dn.2) (Y*dn.2-dn.1*W) (W*dn.2) p q:=λc=>by
  obtain⟨p,q,k,e1,e2⟩:=Et ez c;exact⟨p,q,CO rA k,side e1 e2⟩
 have bw:∀{p q:Pt},cc cs p q->∃a b,cc zs a b/\∀X Y W,m*m*dn.2*c_ sh X Y W a b=f*f*c_ bj (X*dn.2) (Y*dn.2-dn.1*W) (W*dn.2) p q:=λc=>by
  obtain⟨a,b,k,e1,e2⟩:=Et ez.symm (CO rA.symm c);exact⟨a,b,k,side e1.symm e2.symm⟩
 have len:zs.length=cs.length:=by
  have l1:=congrArg fU ez;obtain⟨X,Y,e1,e2⟩:=rA;rw[e2] at l1;rw[e1];simp at l1 ⊢;lia
 have ec:(z::T)=zs.map (scl m):=N.cs_eq;refine⟨⟨shp,dk.unscl mp (by rw[<-ec];exact cz),?_,N.cop⟩,λX Y W=>⟨λh p q c=>?_,λh a b c=>?_⟩,λX Y W=>⟨λh p q c=>?_,λh a b c=>?_⟩,?_,len,λ{a n d} ba bn b1 b2=>?_⟩
 ·cases zs with
  | nil=>simp at ec
  | cons z' T2 =>
   simp only[aQ,fX] at ec;refine⟨z',T2,rfl,λq hq c9=>?_⟩;refine least (scl m q) (by rw[ec.2];exact dI hq) ?_;rw[ec.1];exact (GD mp).mpr c9
 ·obtain⟨a,b,k,e⟩:=bw c;have:=(iE c1 c2 (e X Y W)).2;have:=h a b k;lia
 ·obtain⟨p,q,k,e⟩:=fw c;have:=(iE c1 c2 (e X Y W)).2;have:=h p q k;lia
 ·obtain⟨a,b,k,e⟩:=bw c;exact (iE c1 c2 (e X Y W)).1.mp (h a b k)
 ·obtain⟨p,q,k,e⟩:=fw c;exact (iE c1 c2 (e X Y W)).1.mpr (h p q k)
 ·have e1:=OI m zs;rw[ez] at e1;have l3:0<cs.length:=by have:=ip0.cvx.len;lia
  have e2:oM d_ (A'.map (L2.R2.mv (1*f) 0 w))=f*f*oM d_ A':=by
   have:=OJ (L2.R2.mv (1*f) 0 w (0,0)) (A'.map (L2.R2.mv (1*f) 0 w));rw[<-this,OF];have t:(λx y=>cK (L2.R2.mv (1*f) 0 w (0,0)) (L2.R2.mv (1*f) 0 w x) (L2.R2.mv (1*f) 0 w y))=λx y=>f*f*cK (0,0) x y:=by
    funext x y;rw[Fq];grind
   rw[t,OG,OJ]
  have e3:m*m*oM d_ zs=f*f*oM d_ cs:=by rw[<-e1,e2,<-OH rA]
  have es:=N.sh_eq;have n1:=jE shp;have n2:=jE h0;have n3:=jE mp;have n4:=jE pk;have e3':=congrArg (λx:Int=>(x:Rat)) e3;have mo:=congrArg (λx:Int=>(x:Rat)) es;simp only[gK] at e3' mo;unfold t8;grind
 ·have W0:∀x:Int,x.natAbs<=(m*x).natAbs:=λx=>by
   rw[iX];exact xY _ (by lia)
  have bκ:BL d f:=by
   refine b2.le ?_;have:f<=dn.2:=by
    apply jU.mp;intro k;have:=kO k h0;have e1:bj*1*dn.2=bj*dn.2:=(by grind);have e2:f*bj=bj*f:=(by grind);lia
   lia
  have bs:BL (a+d) (f*bj):=(bκ.mul ba).mono (by lia);have bw':BL (a+2*d) w:=by
   have:BL (a+2*d) (w*dn.2):=(by rw[ew];exact (b1.mul bs).mono (by lia));refine this.le ?_;rw[iX];exact jR _ (by lia)
  refine⟨BL.le (by rw[<-N.sh_eq];exact bs) (W0 sh),λx hx=>?_⟩;have mx:scl m x∈A'.map (L2.R2.mv (1*f) 0 w):=by rw[<-ez];exact dI hx
  obtain⟨p,hp,ep⟩:=bF.mp mx;obtain⟨p1,p2⟩:=bn p ((rA.mem p).mpr hp);unfold scl L2.R2.mv at ep;simp only[eM] at ep;have Z8:BL d (1*f):=by rw[Int.one_mul];exact bκ
  exact⟨BL.le (by rw[<-ep.1,sY];exact (Z8.mul p1).mono (by lia)) (W0 x.1),BL.le (by rw[<-ep.2];exact ((Z8.mul p2).add bw').mono (by lia)) (W0 x.2)⟩
def Ty:FD:=λds Q=>∃(sh:Int) (zs:List Pt) (h:Pt) (L:Int),ds=[pc sh zs,ln (pb h L)]/\(Hh h/\-30<=L/\L<=30)/\(cj sh zs/\zs.length<=12/\BL 300 sh/\∀z∈zs,BL 400 z.1/\BL 400 z.2) /\
 ∀d1 d2,ka (Ug (pb h L) sh) sh zs d1->ka (Ug (tq (pb h L)) sh) sh zs d2->Q (.tup [d1,d2])
def Xt:∀ds Q,Ty ds Q->Nu Tz { nx:=λ_=>Q .non,rt:=Q } (dR ["piece","line","opposite"] ds):=by
 rintro ds Q ⟨sh,zs,h,L,rfl,⟨H,l0,l1⟩,⟨ip,lz,bs,bz⟩,q⟩;have bc:BL 20 (L*h.1):=((blL l0 l1).mul H.b1).mono;have bl:(pb h L).BLn 10000:=⟨((BL.const (n:=1) (i:=0) (by decide)).mono:BL 10000 0),H.b2.mono,bc.mono⟩;have bo:(tq (pb h L)).BLn 10000:=⟨bl.1.neg,bl.2.1.neg,bl.2.2.neg⟩;have bE:∀w∈zs,BL 2000 (exc (pb h L) w sh):=λw hw=>by
  rw[Px];exact ((H.b2.mul (bz w hw).2).sub (bc.mul bs)).mono
 have bE':∀w∈zs,BL 2000 (exc (tq (pb h L)) w sh):=λw hw=>by
  rw[Py];exact ((bc.mul bs).sub (H.b2.mul (bz w hw).2)).mono
 rw[cS 1 rfl];unfold Nu;simp only[hU,SS,aQ,bZ,bI,bV];generalize hl:pb h L=l at *;refine cN (λa=>a=[aa (pc sh zs),aa (ln l),aa (ln (tq l))]) (λK hK=>?_) ?_
 ·walk_at "rd";exact hK _ rfl
 rintro a rfl;generalize hP':pc sh zs=PD;generalize hL:ln l=LD;generalize hO:ln (tq l)=OD;walk_at "rd";refine⟨l,sh,zs,by rw[hP',hL],⟨ip.pos,bs.mono,bl⟩,λw hw=>⟨(bz w hw).1.mono,(bz w hw).2.mono,bE w hw⟩,⟨ip.cvx,by lia⟩,λd1 r1=>?_⟩;exact⟨tq l,sh,zs,by rw[hP',hO],⟨ip.pos,bs.mono,bo⟩,λw hw=>⟨(bz w hw).1.mono,(bz w hw).2.mono,bE' w hw⟩,⟨ip.cvx,by lia⟩,λd2 r2=>q d1 d2 r1 r2⟩
def Bo:FD:=λds Q=>∃(dn:Pt) (sh:Int) (cs:List Pt) (m:Mv),ds=[.tup [pc sh cs,ji m],.tup [.int 1,.tup [.int 0,.int 1],pt dn]]/\(0<dn.2/\BL 30 dn.1/\BL 30 dn.2)/\(cj sh cs/\BL 1500 sh/\(∀z∈cs,BL 3400 z.1/\BL 3400 z.2)/\cs.length<=14)/\(ju m/\BL 300 m.2.1.1/\BL 300 m.2.1.2/\BL 300 m.2.2.1/\BL 300 m.2.2.2) /\
 ∀gt zs m',n_ dn sh cs gt zs->P3 dn m m'->ju m'->Q (.tup [pc gt zs,ji m'])
def Ip:∀ds Q,Bo ds Q->QO AN AQ tU { nx:=λ_=>Q .non,rt:=Q } (dR ["bit","move"] ds):=by
 rintro ds Q ⟨⟨d1,d2⟩,sh,cs,⟨sg,⟨p,q'⟩,u,v⟩,rfl,⟨dp,x6,x8⟩,⟨ip,bs,bz,lz⟩,⟨mf,bp,bq,bu,bv⟩,q⟩;rw[cS 0 rfl];unfold QO ji;walk_at "rd";have q0:0<q':=mf.q0;have v0:0<v:=mf.v0;dsimp only at bp bq bu bv dp x6 x8;refine⟨sh,1,0,1,d1,d2,cs,rfl,⟨ip.pos,by decide,dp,.inl rfl⟩,⟨bs.mono,BL.const (by decide),x8.mono,BL.const (by decide),x6.mono⟩,λz hz=>⟨(bz z hz).1.mono,(bz z hz).2.mono⟩,ip.cvx,by lia,λgt zs P'=>?_⟩;refine⟨1,0,1,d1,d2,rfl,.inl rfl,⟨BL.const (by decide),x6.mono⟩,?_⟩;have b1:BL 4000 (-1*0):=BL.const (by decide);have b2:BL 4000 (-1*d1):=by rw[show (-1*d1:Int) = -d1 by lia];exact x6.neg.mono
 refine⟨1,-1*0,1,-1*d1,d2,sg,p,q',u,v,rfl,⟨.inl rfl,mf.sg⟩,⟨by decide,dp,q0,v0⟩,⟨b1,BL.const (by decide),b2,x8.mono,bp.mono,bq.mono,bu.mono,bv.mono⟩,λP1 Q1 R1 W1 l1 l2=>?_⟩;have r9:BL 1 sg:=by rcases mf.sg with e | e <;> (rw[show sg=_ from e];exact BL.const (by decide))
 have e1:sg*(-1*0)*q'+p*1=p:=by grind
 have e2:1*q'=q':=by lia
 rw[e1,e2] at l1;have bt:BL 400 (sg*(-1*d1)*v+u*d2):=by
  have e3:sg*(-1*d1)*v+u*d2=sg*(-d1)*v+u*d2:=by grind
  rw[e3];exact (((r9.mul x6.neg).mul bv).add (bu.mul x8)).mono
 refine q gt zs (1*sg,(P1,Q1),(R1,W1)) (Wo (dn:=(d1,d2)) ip dp P') ⟨by dsimp only;lia,l1.worth,?_⟩ ⟨by have:=mf.sg;dsimp only at *;lia,l1.pos,l2.pos,l1.cop,l2.cop,(bp.mono:BL 400 _).le l1.lea,(bq.mono:BL 400 _).le l1.leb,bt.le l2.lea,((x8.mul bv).mono:BL 400 _).le l2.leb⟩;have:=l2.worth;dsimp only at *;rw[this];grind
def GI:FD:=λds Q=>∃(dn:Pt) (sh:Int) (cs:List Pt) (m:Mv),ds=[.tup [pc sh cs,ji m],pt dn]/\(0<dn.2/\BL 30 dn.1/\BL 30 dn.2)/\(cj sh cs/\BL 1500 sh/\(∀z∈cs,BL 3400 z.1/\BL 3400 z.2)/\cs.length<=14)/\(ju m/\BL 300 m.2.1.1/\BL 300 m.2.1.2/\BL 300 m.2.2.1/\BL 300 m.2.2.2) /\
 ∀gt zs m',n_ dn sh cs gt zs->P3 dn m m'->ju m'->Q (.tup [pc gt zs,ji m'])
def Dh:∀ds Q,GI ds Q->UK Bo { nx:=λ_=>Q .non,rt:=Q } (dR ["bit","height"] ds):=by
 rintro ds Q ⟨dn,sh,cs,m,rfl,h1,h2,h3,q⟩;rw[cS 0 rfl];unfold UK;walk_at "rd";exact⟨dn,sh,cs,m,rfl,h1,h2,h3,q⟩
abbrev Lb:=Int × List Pt × Mv
def de (b:Lb):D:=.tup [pc b.1 b.2.1,ji b.2.2]
def YY (h1:0<k1) (h2:0<k2) (ex:k1*X1=k2*X2) (ey:k1*Y1=k2*Y2) (ew:k1*W1=k2*W2):(ft sh cs X1 Y1 W1↔ft sh cs X2 Y2 W2)/\(ie sh cs X1 Y1 W1↔ie sh cs X2 Y2 W2):=by
 have e:∀a b,k1*c_ sh X1 Y1 W1 a b=k2*c_ sh X2 Y2 W2 a b:=λa b=>by
  rw[MW,MW];have l:k1*(sh*(a.2-b.2)*X1+sh*(b.1-a.1)*Y1+(a.1*b.2-a.2*b.1)*W1)=sh*(a.2-b.2)*(k1*X1)+sh*(b.1-a.1)*(k1*Y1)+(a.1*b.2-a.2*b.1)*(k1*W1):=by grind
  rw[l,ex,ey,ew];grind
 refine⟨⟨λh a b c=>?_,λh a b c=>?_⟩,⟨λh a b c=>(iE h1 h2 (e a b)).1.mp (h a b c),λh a b c=>(iE h1 h2 (e a b)).1.mpr (h a b c)⟩⟩
 ·have:=(iE h1 h2 (e a b)).2;have:=h a b c;lia
 ·have:=(iE h1 h2 (e a b)).2;have:=h a b c;lia
structure xt (h:Pt) (bj:Int) (jo:List Pt) (m:Mv) (L:Int) (b:Lb):Prop where
 ip:cj b.1 b.2.1
 closed:∀X Y W,0<=W->(ft b.1 b.2.1 X Y W↔ft bj jo (X*h.2) (Y*h.2+L*h.1*W) (W*h.2)/\0<=Y/\h.2*Y<=h.1*W)
 opened:∀X Y W,0<W->(ie b.1 b.2.1 X Y W↔ie bj jo (X*h.2) (Y*h.2+L*h.1*W) (W*h.2)/\0<Y/\h.2*Y<h.1*W)
 sg:b.2.2.1=m.1
 x:b.2.2.2.1.1*m.2.1.2=m.2.1.1*b.2.2.2.1.2
 y:b.2.2.2.2.1*(h.2*m.2.2.2)=(m.1*(L*h.1)*m.2.2.2+m.2.2.1*h.2)*b.2.2.2.2.2
 mf:ju b.2.2
 bs:BL 1400 b.1
 bz:∀z∈b.2.1,BL 3300 z.1/\BL 3300 z.2
 len:b.2.1.length<=14
def PX {k a b:Int} (hk:0<k):k*a<k*b↔a<b:=⟨λh=>Int.lt_of_mul_lt_mul_left h (aU hk),λh=>kO h hk⟩
def l7 (b:Lb):Rat:=t8 b.1 (oM d_ b.2.1)
def ij:List Lb->Rat
 | []=>0
 | b::l=>l7 b+ij l
theorem XN:∀(l:List Lb) (b:Lb),ij (l++[b])=ij l+l7 b
 | [],b=>by show l7 b+0=0+l7 b;grind
 | a::l,b=>by show l7 a+ij (l++[b])=l7 a+ij l+l7 b;rw[XN l b];grind
structure wj (h:Pt) (bj:Int) (jo:List Pt) (m:Mv) (L0:Int) (bs:List Lb):Prop where
 each:∀(i:Nat) (b:Lb),bs[i]? = some b->xt h bj jo m (L0+i) b
 lo:∀z∈jo,L0*h.1*bj<=h.2*z.2
 hi:∀z∈jo,h.2*z.2<=(L0+bs.length)*h.1*bj
 area:ij bs=t8 bj (oM d_ jo)
 len:bs.length<=60
 ne:0<bs.length
def Xw:FD:=λds Q=>∃(h:Pt) (bj:Int) (jo:List Pt) (m:Mv),ds=[.tup [pc bj jo,ji m],pt h]/\(Hh h/\Pz h bj jo)/\(ju m/\BL 250 m.2.1.1/\BL 250 m.2.1.2/\BL 250 m.2.2.1/\BL 250 m.2.2.2)/\∀L0 bs,wj h bj jo m L0 bs->Q (.lst (bs.map de))
inductive kc (h:Pt):List Bt->List (Int × List Lb)->Prop
 | nil:kc h [] []
 | cons {b:Bt} {bs:List Bt} {L0:Int} {ls:List Lb} {us:List (Int × List Lb)}:wj h b.2.1 b.2.2.1 b.2.2.2 L0 ls->kc h bs us->kc h (b::bs) ((L0,ls)::us)
theorem kc.snoc {bs:List Bt} (U:kc h bs us) (s:wj h b.2.1 b.2.2.1 b.2.2.2 L0 ls):kc h (bs++[b]) (us++[(L0,ls)]):=by
 induction U with
 | nil=>exact .cons s .nil
 | cons a _ ih=>exact .cons a ih
abbrev mI (us:List (Int × List Lb)):List Lb:=us.flatMap (·.2)
structure xk (h:Pt) (b:Bt):Prop where
 pz:Pz h b.2.1 b.2.2.1
 mf:ju b.2.2.2
 bp:BL 250 b.2.2.2.2.1.1
 bq:BL 250 b.2.2.2.2.1.2
 bu:BL 250 b.2.2.2.2.2.1
 bv:BL 250 b.2.2.2.2.2.2
theorem kc.len {bs:List Bt} (U:kc h bs us):(mI us).length<=60*bs.length:=by
 induction U with
 | nil=>simp[mI]
 | @cons b bs L0 ls us a _ ih =>
  have:=a.len;show ((ls++mI us).length)<=60*(bs.length+1);rw[bJ];lia
def Xy:FD:=λds Q=>∃(h:Pt) (place:Int) (fs:List Pt) (bs:List Bt),ds=[.tup [.int place,pt h,.lst (bs.map k7)],et fs]/\(Hh h/\bs.length<=4/\∀b∈bs,xk h b)/\∀us,kc h bs us->Q (.tup [pt h,.lst ((mI us).map de)])
def Zl:∀ds Q,Xy ds Q->IS Xw { nx:=λ_=>False,rt:=Q } (dR ["box","leans","bits","bit"] ds):=by
 rintro ds Q ⟨h,place,fs,bs,rfl,⟨H,lb,hb⟩,q⟩;rw[cS 2 rfl];unfold IS;simp only[hU,Iy,aQ,bZ,bI,bV];generalize hF:et fs=FS;refine yX (λa=>a=[aa (.tup [.int place,pt h,.lst (bs.map k7)]),aa FS,some (.own []),none]) (λK hK=>?_) ?_
 ·walk_at "rd";exact hK _ rfl
 rintro a rfl;refine yX (λa=>∃us u,kc h bs us/\a=[aa (.tup [.int place,pt h,.lst (bs.map k7)]),aa FS,some (.own ((mI us).map de)),u]) (λK hK=>?_) ?_
 ·simp only[mJ,riL,r2,aM,rC,qT,aE];refine jT (λys a=>∃(dn td:List Bt) (us:List (Int × List Lb)) (u:Option L2.R2.S),bs=dn++td/\ys=td.map k7/\kc h dn us/\a=[aa (.tup [.int place,pt h,.lst (bs.map k7)]),aa FS,some (.own ((mI us).map de)),u]) ?_ ?_ _ _ ⟨[],bs,[],none,rfl,rfl,.nil,rfl⟩
  ·rintro y ys a ⟨dn,td,us,u,ec,ey,U,rfl⟩ F hr qz hn _;cases td with
   | nil=>cases ey
   | cons b td =>
    cases ey;have mb:b∈bs:=(by rw[ec];simp);obtain⟨pz,mf,b1,b2,b3,b4⟩:=hb b mb;have ld:dn.length+1<=4:=(by have:=congrArg fU ec;simp at this;lia);have lu:=U.len;unfold zR;simp only[dH,IL,cO,aC,aZ,r2,cB,aM,rC,lP,aE,aH,aR,aV];refine⟨h,b.2.1,b.2.2.1,b.2.2.2,rfl,⟨H,pz⟩,⟨mf,b1,b2,b3,b4⟩,λL0 ls s=>?_⟩;have:=s.len;refine⟨pI (by rw[aS,aS];lia),hn _ ⟨dn++[b],td,us++[(L0,ls)],aa (k7 b),by rw[ec];simp,rfl,U.snoc s,?_⟩⟩;have:mI (us++[(L0,ls)])=mI us++ls:=(by unfold mI;rw[jD];simp);rw[this,cX]
  ·rintro a ⟨dn,td,us,u,ec,ey,U,rfl⟩;have:td=[]:=(by simpa using ey.symm);subst this;rw[dN] at ec;subst ec;exact hK _ ⟨us,u,U,rfl⟩
 rintro a ⟨us,u,U,rfl⟩;simp only[Ci,aE,aH,aR,aV,fI,jW,aC,aZ,Dp,r2,aM,rC,xf,lP,true_and,cD,eK];exact⟨KI,sz2,q us U⟩
structure rq (b:Lb):Prop where
 ip:cj b.1 b.2.1
 bs:BL 1500 b.1
 bz:∀z∈b.2.1,BL 4800 z.1/\BL 4800 z.2
 len:b.2.1.length<=14
 mf:ju b.2.2
def NF:FD:=λds Q=>∃b:Lb,ds=[de b]/\rq b/\Q (.bl true)
def Am:∀ds Q,NF ds Q->BZ Bq Jk CM { nx:=λ_=>Q .non,rt:=Q } (dR ["_law_bit","_law_move_here"] ds):=by
 rintro ds Q ⟨⟨sh,zs,sg,x,y⟩,rfl,⟨ip,bs,bz,len,mf⟩,q⟩;rw[cS 1 rfl];unfold BZ de ji;simp only[hU,SS,aQ,bZ,bI,bV];generalize hP:pc sh zs=PD;refine cN (λa=>a=[aa (.tup [PD,.tup [.int sg,pt x,pt y]]),none]) (λK hK=>?_) ?_
 ·walk_at "rd";refine⟨sh,zs,by rw[hP],ip,λz hz=>⟨(bz z hz).1.mono,(bz z hz).2.mono⟩,by dsimp only at len;lia,?_⟩;walk_at "rd";exact hK _ rfl
 rintro a rfl;refine cN (λa=>a=[aa (.tup [PD,.tup [.int sg,pt x,pt y]]),aa (.tup [.int sg,pt x,pt y])]) (λK hK=>?_) ?_
 ·walk_at "rd";exact hK _ rfl
 rintro a rfl;refine cN (λa=>a=[aa (.tup [PD,.tup [.int sg,pt x,pt y]]),aa (.tup [.int sg,pt x,pt y])]) (λK hK=>?_) ?_
 ·walk_at "rd";refine⟨sg,rfl,?_⟩;walk_at "rd";have:(if sg<0 then -sg else sg)=1:=by have:=mf.sg;dsimp only at this;split <;> lia
  simp only[this,decide_true,eY,aN,if_false];exact hK _ rfl
 rintro a rfl;walk_at "rd";refine⟨x,rfl,⟨mf.q0,mf.cx⟩,?_⟩;walk_at "rd";exact⟨y,rfl,⟨mf.v0,mf.cy⟩,q⟩
def UV:FD:=λds Q=>∃L:List Lb,ds=[.lst (L.map de)]/\(∀b∈L,rq b)/\Q (.bl true)
def Dc:∀ds Q,UV ds Q->IN NF { nx:=λ_=>Q .non,rt:=Q } (dR ["_law_bits_here","_law_bit"] ds):=by
 rintro ds Q ⟨L,rfl,hL,q⟩;rw[cS 1 rfl];unfold IN;simp only[hU,SS,aQ,bZ,bI,bV];have V5:ZA "list" (.lst (L.map de))=some true:=rfl;refine cN (λa=>a=[aa (.lst (L.map de)),none]) (λK hK=>?_) ?_
 ·walk_at "rd";simp only[V5];walk_at "rd";exact hK _ rfl
 rintro a rfl;refine cN (λa=>∃u,a=[aa (.lst (L.map de)),u]) (λK hK=>?_) ?_
 ·simp only[mJ,riL,cB,aE];refine jT (λys a=>∃(dn td:List Lb) (u:Option L2.R2.S),L=dn++td/\ys=td.map de/\a=[aa (.lst (L.map de)),u]) ?_ ?_ _ _ ⟨[],L,none,rfl,rfl,rfl⟩
  ·rintro y ys a ⟨dn,td,u,ec,ey,rfl⟩ F hr qz hn _;cases td with
   | nil=>cases ey
   | cons b td =>
    cases ey;unfold zL;walk_at "rd";refine⟨b,rfl,hL b (by rw[ec];simp),?_⟩;walk_at "rd";exact hn _ ⟨dn++[b],td,aa (de b),by rw[ec];simp,rfl,rfl⟩
  ·rintro a ⟨dn,td,u,ec,ey,rfl⟩;exact hK _ ⟨u,rfl⟩
 rintro a ⟨u,rfl⟩;walk_at "rd";exact q
def NE:FD:=λds Q=>∃(sh:Int) (cs:List Pt) (s hh:Pt),ds=[pc sh cs,pt s,pt hh]/\(BL 4000 sh/\(∀z∈cs,BL 5000 z.1/\BL 5000 z.2)/\BL 100 s.1/\BL 100 s.2/\BL 100 hh.1/\BL 100 hh.2)/\cs.length<=100 /\
 (∀z∈cs,(0<=z.1/\z.1<=sh)/\0<=z.2*s.2-z.1*s.1/\(z.2*s.2-z.1*s.1)*hh.2<=hh.1*s.2*sh)/\Q (.bl true)
def Al:∀ds Q,NE ds Q->BY { nx:=λ_=>Q .non,rt:=Q } (dR ["_law_piece","_law_s","_law_h","_law_x","_law_y","_law_above"] ds):=by
 rintro ds Q ⟨sh,cs,s,hh,rfl,⟨bs,bz,s1,s2,h1,h2⟩,lc,hz,q⟩;rw[cS 3 rfl];unfold BY;simp only[hU,Nx,aQ,bZ,bI,bV];refine cN (λc=>∃u v w,c=[aa (pc sh cs),aa (pt s),aa (pt hh),u,v,w]) (λK hK=>?_) ?_
 ·simp only[mJ,riT,r2,aM,rC,lP,aE];refine jT (λys c=>∃(dn td:List Pt) (u v w:Option L2.R2.S),cs=dn++td/\ys=td.map pt/\c=[aa (pc sh cs),aa (pt s),aa (pt hh),u,v,w]) ?_ ?_ _ _ ⟨[],cs,none,none,none,rfl,rfl,rfl⟩
  ·rintro y ys c ⟨dn,td,u,v,w,ec,ey,rfl⟩ F hr qz hn _;cases td with
   | nil=>cases ey
   | cons z td =>
    cases ey;have mz:z∈cs:=(by rw[ec];simp);obtain⟨b1,b2⟩:=bz z mz;obtain⟨⟨x0,x1⟩,a0,a1⟩:=hz z mz;unfold vM;simp only[pH,gC,pG,dH,cD,eK,true_and,aR,aV];refine cN (λc=>c=[aa (pc sh cs),aa (pt s),aa (pt hh),aa (.int z.1),aa (.int z.2),w]) (λK gn=>?_) ?_
    ·walk_at "rd";rw[if_neg (by lia),if_neg (by lia)];exact gn _ rfl
    rintro c rfl;refine cN (λc=>c=[aa (pc sh cs),aa (pt s),aa (pt hh),aa (.int z.1),aa (.int z.2),aa (.int (z.2*s.2-z.1*s.1))]) (λK gn=>?_) ?_
    ·walk_at "rd";exact⟨b2.mulOk s2,b1.mulOk s1,gn _ rfl⟩
    rintro c rfl;have ba:BL 5200 (z.2*s.2-z.1*s.1):=((b2.mul s2).sub (b1.mul s1)).mono;generalize hA:z.2*s.2-z.1*s.1=A at *;walk_at "rd";rw[if_neg (by lia)];refine⟨ba.mulOk h2,h1.mulOk s2,(h1.mul s2).mulOk bs,?_⟩;rw[if_neg (by lia)];exact hn _ ⟨dn++[z],td,aa (.int z.1),aa (.int z.2),aa (.int A),by rw[ec];simp,rfl,rfl⟩
  ·rintro c ⟨dn,td,u,v,w,ec,ey,rfl⟩;exact hK _ ⟨u,v,w,rfl⟩
 rintro c ⟨u,v,w,rfl⟩;walk_at "rd";exact q
def GG:FD:=λds Q=>∃a b c d:Int,ds=[.tup [.int a,.int b],.tup [.int c,.int d]]/\(BL 7000000 a/\BL 7000000 b/\BL 7000000 c/\BL 7000000 d)/\Q (.tup [.int (a*d+c*b),.int (b*d)])
def Af:∀ds Q,GG ds Q->sA { nx:=λ_=>Q .non,rt:=Q } (dR ["_law_one","_law_other"] ds):=by
 rintro ds Q ⟨a,b,c,d,rfl,⟨b1,b2,b3,b4⟩,q⟩;rw[cS 0 rfl];unfold sA;walk_at "rd";exact⟨b1.mulOk b4,b3.mulOk b2,b2.mulOk b4,q⟩
def MZ:FD:=λds Q=>∃L:List Lb,ds=[.lst (L.map de)]/\(L.length<=640/\∀b∈L,rq b)/\∀N M,(BL 6500000 N/\BL 6500000 M)->(0<M/\(N:Rat) / (M:Rat)=ij L)->Q (.tup [.int N,.int M])
def Ag:∀ds Q,MZ ds Q->EN GG UU { nx:=λ_=>Q .non,rt:=Q } (dR ["_law_bits_here","_law_total","_law_bit"] ds):=by
 rintro ds Q ⟨L,rfl,⟨lL,hL⟩,q⟩;rw[cS 2 rfl];unfold EN;simp only[hU,Iy,aQ,bZ,bI,bV];refine cN (λa=>a=[aa (.lst (L.map de)),aa (.tup [.int 0,.int 1]),none]) (λK hK=>?_) ?_
 ·walk_at "rd";exact hK _ rfl
 rintro a rfl;refine cN (λa=>∃N M u,((BL 6500000 N/\BL 6500000 M)/\0<M/\(N:Rat) / (M:Rat)=ij L)/\a=[aa (.lst (L.map de)),aa (.tup [.int N,.int M]),u]) (λK hK=>?_) ?_
 ·simp only[mJ,riL,cB,aE];refine jT (λys a=>∃(dn td:List Lb) (N M:Int) (u:Option L2.R2.S),L=dn++td/\ys=td.map de/\((BL (10000*(dn.length+1)) N/\BL (10000*(dn.length+1)) M)/\0<M/\(N:Rat) / (M:Rat)=ij dn)/\a=[aa (.lst (L.map de)),aa (.tup [.int N,.int M]),u]) ?_ ?_ _ _ ⟨[],L,0,1,none,rfl,rfl,⟨⟨(BL.const (n:=2) (i:=0) (by decide)).mono,(BL.const (n:=2) (i:=1) (by decide)).mono⟩,by decide,by show ((0:Int):Rat) / ((1:Int):Rat)=0;rw[show ((0:Int):Rat)=0 from rfl];grind⟩,rfl⟩
  ·rintro y ys a ⟨dn,td,N,M,u,ec,ey,⟨⟨bN,bM⟩,mp,eq⟩,rfl⟩ F hr qz hn _;cases td with
   | nil=>cases ey
   | cons b td =>
    cases ey;have mb:b∈L:=(by rw[ec];simp);obtain⟨ip,bs,bz,lz,mf⟩:=hL b mb;have l3:=ip.cvx.len;have le:dn.length+1<=640:=(by have:=congrArg fU ec;simp at this;lia);have bc:BL 9700 (oM d_ b.2.1):=(Ue (n:=4800) bz).mono (by lia);have P9:BL 3000 (b.1*b.1):=(bs.mul bs).mono;unfold xC de;simp only[dH,eQ,cO,aC,aZ,r2,aM,cB,rC,mW,aE,aH,aR,aV];refine⟨b.1,b.2.1,rfl,⟨bs.mono,λz hz=>⟨(bz z hz).1.mono,(bz z hz).2.mono⟩,by lia,by lia⟩,?_⟩;refine⟨N,M,oM d_ b.2.1,b.1*b.1,rfl,⟨bN.mono (by lia),bM.mono (by lia),bc.mono,P9.mono⟩,?_⟩;refine hn _ ⟨dn++[b],td,_,_,aa (.tup [pc b.1 b.2.1,ji b.2.2]),by rw[ec];simp,rfl,⟨⟨?_,?_⟩,aL mp (aL ip.pos ip.pos),?_⟩,rfl⟩
    ·exact ((bN.mul P9).add (bc.mul bM)).mono (by rw[bJ];simp;lia)
    ·exact (bM.mul P9).mono (by rw[bJ];simp;lia)
    ·rw[XN,<-eq];unfold l7 t8;have n1:=jE mp;have n2:=jE ip.pos;simp only[gK,pP];grind
  ·rintro a ⟨dn,td,N,M,u,ec,ey,⟨⟨bN,bM⟩,mp,eq⟩,rfl⟩;have:td=[]:=(by simpa using ey.symm);subst this;rw[dN] at ec;subst ec;exact hK _ ⟨N,M,u,⟨⟨bN.mono (by lia),bM.mono (by lia)⟩,mp,eq⟩,rfl⟩
 rintro a ⟨N,M,u,⟨bb,mp,eq⟩,rfl⟩;walk_at "rd";exact q N M bb ⟨mp,eq⟩
open Classical in
noncomputable def jy (sh:Int) (cs:List Pt) (X Y W:Int):Int:=if ie sh cs X Y W then 1 else if ft sh cs X Y W then 0 else -1
section
variable {sh X Y W:Int}
theorem CU:(jy sh cs X Y W=1/\ie sh cs X Y W)\/(jy sh cs X Y W=0/\ft sh cs X Y W/\¬ie sh cs X Y W)\/(jy sh cs X Y W = -1/\¬ft sh cs X Y W/\¬ie sh cs X Y W):=by
 unfold jy;by_cases h:ie sh cs X Y W
 ·exact .inl ⟨by rw[if_pos h],h⟩
 ·by_cases k:ft sh cs X Y W
  ·exact .inr (.inl ⟨by rw[if_neg h,if_pos k],k,h⟩)
  ·exact .inr (.inr ⟨by rw[if_neg h,if_neg k],k,h⟩)
theorem WI (h:ie sh cs X Y W):jy sh cs X Y W=1:=by unfold jy;rw[if_pos h]
theorem HY (h:ft sh cs X Y W) (k:¬ie sh cs X Y W):jy sh cs X Y W=0:=by unfold jy;rw[if_neg k,if_pos h]
theorem ie.c (h:ie sh cs X Y W):ft sh cs X Y W:=λa b c=>aU (h a b c)
theorem MU (h:¬ft sh cs X Y W):jy sh cs X Y W = -1:=by unfold jy;rw[if_neg (λk=>h (ie.c k)),if_neg h]
theorem ZJ (h1:∃a b,cc cs a b/\M=c_ sh X Y W a b) (h2:∀a b,cc cs a b->M<=c_ sh X Y W a b):z6 M=jy sh cs X Y W:=by
 obtain⟨a,b,c,e⟩:=h1;unfold z6;rcases iW M 0 with k | k | k
 ·rw[MU (λz=>by have:=z a b c;lia),if_neg (by lia),if_pos k];decide
 ·rw[HY (λx y c=>by have:=h2 x y c;lia) (λz=>by have:=z a b c;lia),if_neg (by lia),if_neg (by lia)];decide
 ·rw[WI (λx y c=>by have:=h2 x y c;lia),if_pos k,if_neg (by lia)];decide
end
def Zf {s h:Pt} {sh X Y W I J N:Int} (f:Fm s h) (g:Gp s h P sh cs) (c3:3<=cs.length) (sp:wk s h X Y W I J N):jy sh cs X Y W=gv I J N P:=by
 obtain⟨M,h1,h2⟩:∃M,(∃a b,cc cs a b/\M=c_ sh X Y W a b)/\∀a b,cc cs a b->M<=c_ sh X Y W a b:=by
  have ex:∀l:List (Pt × Pt),l≠[]->∃p∈l,∀q∈l,c_ sh X Y W p.1 p.2<=c_ sh X Y W q.1 q.2:=by
   intro l
   induction l with
   | nil=>intro h;exact absurd rfl h
   | cons x l ih =>
    intro _;by_cases hl:l=[]
    ·subst hl;exact⟨x,by simp,λq hq=>by rw[cR.mp hq];exact sC _⟩
    ·obtain⟨p,hp,k⟩:=ih hl;by_cases z:c_ sh X Y W x.1 x.2<=c_ sh X Y W p.1 p.2
     ·exact⟨x,by simp,λq hq=>by
       rcases aJ.mp hq with rfl | hq
       ·exact sC _
       ·have:=k q hq;lia⟩
     ·exact⟨p,by simp[hp],λq hq=>by
       rcases aJ.mp hq with rfl | hq
       ·lia
       ·exact k q hq⟩
  have ne:QA (cs++cs.take 1)≠[]:=by
   match cs,c3 with
   | a::b::r,_=>intro k;simp[QA] at k
  obtain⟨p,hp,k⟩:=ex _ ne;exact⟨_,⟨p.1,p.2,PY hp,rfl⟩,λa b c=>k (a,b) (BS c)⟩
 rw[<-ZJ h1 h2,Hr f g sp h1 h2]
abbrev bX (m:Mv) (X W:Int):Int:=m.1*(X*m.2.1.2-m.2.1.1*W)*m.2.2.2
abbrev bY (m:Mv) (Y W:Int):Int:=m.1*(Y*m.2.2.2-m.2.2.1*W)*m.2.1.2
abbrev bW (m:Mv) (W:Int):Int:=W*m.2.1.2*m.2.2.2
noncomputable abbrev ck (T9:Bool) (X Y W:Int) (b:Lb):Int:=if T9=true then jy b.1 b.2.1 (bX b.2.2 X W) (bY b.2.2 Y W) (bW b.2.2 W) else jy b.1 b.2.1 X Y W
noncomputable def cnt (f:Lb->Int):List Lb->Int
 | []=>0
 | b::l=>(if f b=1 then 1 else 0)+cnt f l
theorem XV (f:Lb->Int):∀(l:List Lb) (b:Lb),cnt f (l++[b])=cnt f l+if f b=1 then 1 else 0
 | [],b=>by show _+(0:Int)=0+_;lia
 | a::l,b=>by show _+cnt f (l++[b])=_+cnt f l+_;rw[XV f l b];lia
theorem cnt_append (f:Lb->Int):∀(l k:List Lb),cnt f (l++k)=cnt f l+cnt f k
 | [],k=>by show _=(0:Int)+_;rw[bV];lia
 | a::l,k=>by show _+cnt f (l++k)=_+cnt f l+_;rw[cnt_append f l k];lia
theorem cnt_none:∀{l:List Lb},(∀b∈l,f b≠1)->cnt f l=0
 | [],_=>rfl
 | a::l,h=>by
  show (if f a=1 then (1:Int) else 0)+cnt f l=0;rw[if_neg (h a (by simp)),cnt_none λb hb=>h b (by simp[hb])];rfl
theorem VJ:∀{l:List Lb} {k:Nat} {b:Lb},l[k]? = some b->f b=1->(∀i c,i≠k->l[i]? = some c->f c≠1)->cnt f l=1
 | [],k,b,h,_,_=>by simp at h
 | a::l,0,b,h,h1,h2=>by
  simp at h;subst h;show (if f a=1 then (1:Int) else 0)+cnt f l=1;rw[if_pos h1,cnt_none λc hc=>by
   obtain⟨i,hi,e⟩:=dU hc;exact h2 (i+1) c (by lia) (by simp[hi,e])];rfl
 | a::l,k+1,b,h,h1,h2=>by
  show (if f a=1 then (1:Int) else 0)+cnt f l=1;rw[if_neg (h2 0 a (by lia) rfl),VJ (k:=k) (by simpa using h) h1 λi c hi hc=>h2 (i+1) c (by lia) (by simpa using hc)];rfl
def Va (i0:0<I) (i1:I<24*N) (h:J<0\/24*N<J):∀P∈xA,gv I J N P = -1:=by
 intro P hP;unfold xA at hP;simp only[aJ,cY,or_false] at hP;rcases hP with rfl | rfl | rfl | rfl | rfl | rfl | rfl
 ·rw[se];unfold fg;dsimp only;rw[if_neg (by lia),if_neg (by lia)]
 ·rw[qy];unfold fg;dsimp only;rw[if_neg (by lia),if_neg (by lia)]
 ·rw[qy];unfold fg;dsimp only;rw[if_neg (by lia),if_neg (by lia)]
 ·rw[qy];unfold fg;dsimp only;rw[if_neg (by lia),if_neg (by lia)]
 ·rw[qy];unfold fg;dsimp only;rw[if_neg (by lia),if_neg (by lia)]
 ·rw[se];unfold fg;dsimp only;rw[if_neg (by lia),if_neg (by lia)]
 ·rw[se];unfold fg;dsimp only;rw[if_neg (by lia),if_neg (by lia)]
def Oo (i0:0<I) (i1:I<24*N):∀w∈SX,∃P∈w,gv I 0 N P=0:=by
 intro w hw;unfold SX at hw;simp only[aJ,cY,or_false] at hw;rcases hw with rfl | rfl | rfl | rfl
 ·exact⟨[(0,0),(24,0),(24,24),(0,24)],by decide,by rw[se];unfold fg;dsimp only;rw[if_neg (by lia),if_pos (by lia)]⟩
 ·exact⟨[(0,0),(24,0),(24,24)],by decide,by rw[qy];unfold fg;dsimp only;rw[if_neg (by lia),if_pos (by lia)]⟩
 ·exact⟨[(0,0),(24,0),(0,24)],by decide,by rw[qy];unfold fg;dsimp only;rw[if_neg (by lia),if_pos (by lia)]⟩
 ·by_cases k:I<=8*N
  ·exact⟨[(0,0),(8,0),(8,24),(0,24)],by decide,by rw[se];unfold fg;dsimp only;rw[if_neg (by lia),if_pos (by lia)]⟩
  ·exact⟨[(8,0),(24,0),(24,24),(8,24)],by decide,by rw[se];unfold fg;dsimp only;rw[if_neg (by lia),if_pos (by lia)]⟩
section
variable {bj L X Y W:Int} {c:Lb}
theorem Ze (hw:0<W) (h0:0<Y) (h1:h.2*Y<h.1*W) (F:xt h bj jo m L c):jy c.1 c.2.1 X Y W=jy bj jo (X*h.2) (Y*h.2+L*h.1*W) (W*h.2):=by
 have e1:=F.closed X Y W (aU hw);have e2:=F.opened X Y W hw;rcases CU (sh:=bj) (cs:=jo) (X:=X*h.2) (Y:=Y*h.2+L*h.1*W) (W:=W*h.2) with ⟨e,k⟩ | ⟨e,k,n⟩ | ⟨e,n,_⟩
 ·rw[e,WI (e2.mpr ⟨k,h0,h1⟩)]
 ·rw[e,HY (e1.mpr ⟨k,aU h0,aU h1⟩) λz=>n (e2.mp z).1]
 ·rw[e,MU λz=>n (e1.mp z).1]
theorem Ob (ip:cj bj jo) (S':wj h bj jo m L0 ls) (hw:0<=W) (k:ft bj jo X Y W):L0*(h.1*W)<=h.2*Y/\h.2*Y<=(L0+ls.length)*(h.1*W):=by
 constructor
 ·have:=CY (α:=0) (β:=-h.2) (γ:=L0*h.1) ip.cvx ip.pos (λz hz=>by
   have k:=S'.lo z hz;have e:0*z.1 + -h.2*z.2+L0*h.1*bj=L0*h.1*bj-h.2*z.2:=(by grind);rw[e];lia) hw k
  have e:0*X + -h.2*Y+L0*h.1*W=L0*(h.1*W)-h.2*Y:=by grind
  rw[e] at this;lia
 ·have:=CY (α:=0) (β:=h.2) (γ:=-((L0+ls.length)*h.1)) ip.cvx ip.pos (λz hz=>by
   have k:=S'.hi z hz;have e:0*z.1+h.2*z.2 + -((L0+ls.length)*h.1)*bj=h.2*z.2-(L0+ls.length)*h.1*bj:=(by grind);rw[e];lia) hw k
  have e:0*X+h.2*Y + -((L0+ls.length)*h.1)*W=h.2*Y-(L0+ls.length)*(h.1*W):=by grind
  rw[e] at this;lia
theorem qV {k a b:Int} (hk:0<k) (e:a*k<b*k):a<b:=Int.lt_of_mul_lt_mul_right e (aU hk)
theorem ZH (h1:0<h.1) (ip:cj bj jo) (S':wj h bj jo m L0 ls) (hw:0<W) (k:ft bj jo X Y W) (a:L*(h.1*W)<h.2*Y) (b:h.2*Y<(L+1)*(h.1*W)):∃(i:Nat) (c:Lb),L=L0+i/\ls[i]? = some c:=by
 have p:=aL h1 hw;obtain⟨r1,r2⟩:=Ob ip S' (aU hw) k;have k1:L0<L+1:=qV p (by lia);have k2:L<L0+ls.length:=qV p (by lia);have hi:(L-L0).toNat<ls.length:=by lia
 exact⟨(L-L0).toNat,ls[(L-L0).toNat],by lia,aD hi⟩
end
abbrev fv (b:Bt):Lb:=(b.2.1,b.2.2.1,b.2.2.2)
def Qv {bj L X Y W:Int} {c:Lb} (h1:0<h.1) (h2:0<h.2) (hw:0<W) (mf:ju m) (F:xt h bj jo m L c) :
  (ft c.1 c.2.1 (bX c.2.2 X W) (bY c.2.2 Y W) (bW c.2.2 W)↔ft bj jo (bX m X W) (bY m Y W) (bW m W)/\L*(h.1*bW m W)<=h.2*bY m Y W/\h.2*bY m Y W<=(L+1)*(h.1*bW m W)) /\
  (ie c.1 c.2.1 (bX c.2.2 X W) (bY c.2.2 Y W) (bW c.2.2 W)↔ie bj jo (bX m X W) (bY m Y W) (bW m W)/\L*(h.1*bW m W)<h.2*bY m Y W/\h.2*bY m Y W<(L+1)*(h.1*bW m W)):=by
 have q0:=mf.q0;have v0:=mf.v0;have qc:=F.mf.q0;have vc:=F.mf.v0;have wc:0<bW c.2.2 W:=aL (aL hw qc) vc;have fx:=F.x;have fy:=F.y;have fs:=F.sg;have sq:m.1*m.1=1:=by rcases mf.sg with e | e <;> rw[e] <;> decide
 have ex:(m.2.1.2*m.2.2.2)*(bX c.2.2 X W*h.2)=(c.2.2.2.1.2*c.2.2.2.2.2*h.2)*bX m X W:=by
  unfold bX;rw[fs];have l:m.2.1.2*m.2.2.2*(m.1*(X*c.2.2.2.1.2-c.2.2.2.1.1*W)*c.2.2.2.2.2*h.2)=m.2.2.2*m.1*c.2.2.2.2.2*h.2*(X*c.2.2.2.1.2*m.2.1.2-c.2.2.2.1.1*m.2.1.2*W):=by grind
  rw[l,fx];grind
 have ey:(m.2.1.2*m.2.2.2)*(bY c.2.2 Y W*h.2+L*h.1*bW c.2.2 W)=(c.2.2.2.1.2*c.2.2.2.2.2*h.2)*bY m Y W:=by
  unfold bY bW;rw[fs];have l:m.2.1.2*m.2.2.2*(m.1*(Y*c.2.2.2.2.2-c.2.2.2.2.1*W)*c.2.2.2.1.2*h.2+L*h.1*(W*c.2.2.2.1.2*c.2.2.2.2.2))=m.2.1.2*c.2.2.2.1.2*(m.1*(Y*c.2.2.2.2.2*m.2.2.2*h.2-c.2.2.2.2.1*(h.2*m.2.2.2)*W)+(1*L)*h.1*W*c.2.2.2.2.2*m.2.2.2):=by grind
  rw[l,fy,<-sq];grind
 have ew:(m.2.1.2*m.2.2.2)*(bW c.2.2 W*h.2)=(c.2.2.2.1.2*c.2.2.2.2.2*h.2)*bW m W:=by unfold bW;grind
 have k1:0<m.2.1.2*m.2.2.2:=aL q0 v0;have k2:0<c.2.2.2.1.2*c.2.2.2.2.2*h.2:=aL (aL qc vc) h2;obtain⟨pc1,po1⟩:=YY (sh:=bj) (cs:=jo) k1 k2 ex ey ew;generalize bX c.2.2 X W=Xc at *;generalize bY c.2.2 Y W=Yc at *;generalize bW c.2.2 W=Wc at *;generalize bX m X W=Xm at *;generalize bY m Y W=Ym at *;generalize bW m W=Wm at *;generalize m.2.1.2*m.2.2.2=K1 at *;generalize c.2.2.2.1.2*c.2.2.2.2.2*h.2=K2 at *;have a1:K2*(h.2*Ym-L*(h.1*Wm))=(K1*h.2*h.2)*Yc:=by
  have l:K2*(h.2*Ym-L*(h.1*Wm))=h.2*(K2*Ym)-L*h.1*(K2*Wm):=by grind
  rw[l,<-ey,<-ew];grind
 have a2:K2*((L+1)*(h.1*Wm)-h.2*Ym)=(K1*h.2)*(h.1*Wc-h.2*Yc):=by
  have l:K2*((L+1)*(h.1*Wm)-h.2*Ym)=(L+1)*h.1*(K2*Wm)-h.2*(K2*Ym):=by grind
  rw[l,<-ey,<-ew];grind
 have s1:=iE k2 (aL (aL k1 h2) h2) a1;have s2:=iE k2 (aL k1 h2) a2;constructor
 ·rw[F.closed _ _ _ (aU wc),pc1];constructor
  ·rintro⟨a,b,c⟩;exact⟨a,by lia,by lia⟩
  ·rintro⟨a,b,c⟩;exact⟨a,by lia,by lia⟩
 ·rw[F.opened _ _ _ wc,po1];constructor
  ·rintro⟨a,b,c⟩;exact⟨a,by lia,by lia⟩
  ·rintro⟨a,b,c⟩;exact⟨a,by lia,by lia⟩
theorem Cj {X Y W:Int} (h1:0<h.1) (h2:0<h.2) (hw:0<W) {bs:List Bt} (U:kc h bs us):(∀b∈bs,cj b.2.1 b.2.2.1/\ju b.2.2.2)->(∀b∈bs.map fv,ck true X Y W b≠0)->(∀c∈mI us,ck true X Y W c≠0)->cnt (ck true X Y W) (bs.map fv)=cnt (ck true X Y W) (mI us):=by
 induction U with
 | nil=>intro _ _ _;rfl
 | @cons b bs L0 ls us a _ ih =>
  intro ob n1 n2;have i:=ih (λx hx=>ob x (by simp[hx])) (λx hx=>n1 x (by rw[aQ];exact aO _ hx)) (λc hc=>n2 c (by show c∈ls++mI us;exact bG _ hc));obtain⟨ip,mf⟩:=ob b (by simp);have lv:=λ(j:Nat) (c:Lb) (hc:ls[j]? = some c)=>Qv (X:=X) (Y:=Y) h1 h2 hw mf (a.each j c hc);have nc:∀(j:Nat) (c:Lb),ls[j]? = some c->ck true X Y W c≠0:=λj c hc=>n2 c (by show c∈ls++mI us;exact dL _ (dM hc));have nb:=n1 (fv b) (by simp);have pv:∀c:Lb,ck true X Y W c=jy c.1 c.2.1 (bX c.2.2 X W) (bY c.2.2 Y W) (bW c.2.2 W):=λc=>by unfold ck;rw[if_pos rfl]
  have wp:0<bW b.2.2.2 W:=aL (aL hw mf.q0) mf.v0;have p:=aL h1 wp;show (if ck true X Y W (fv b)=1 then (1:Int) else 0)+cnt _ (bs.map fv)=cnt _ (ls++mI us);rw[cnt_append,i];rw[pv] at nb;rcases CU (sh:=b.2.1) (cs:=b.2.2.1) (X:=bX b.2.2.2 X W) (Y:=bY b.2.2.2 Y W) (W:=bW b.2.2.2 W) with ⟨e,k⟩ | ⟨e,_⟩ | ⟨e,n,_⟩
  ·rw[pv,if_pos e];obtain⟨r1,r2⟩:=Ob ip a (aU wp) (ie.c k);generalize hWb:h.1*bW b.2.2.2 W=Wb at *;generalize hYb:h.2*bY b.2.2.2 Y W=Yb at *;have e1:=zV Yb Wb;have e2:=zC Yb (show Wb≠0 by lia);have e3:=tV Yb p;generalize Yb / Wb=T at *;generalize Yb % Wb=Z at *;have ne:=a.ne;have t1:L0<=T:=by
    have:L0*Wb<(T+1)*Wb:=by
     have l:(T+1)*Wb=Wb*T+Wb:=(by grind);lia
    have:=qV p this;lia
   have t2:T<L0+ls.length\/(Z=0/\T=L0+ls.length):=by
    have:T*Wb<=(L0+ls.length)*Wb:=by
     have l:T*Wb=Wb*T:=(by grind);lia
    have:=dD this p;by_cases q:T<L0+ls.length
    ·exact .inl q
    ·refine .inr ⟨?_,by lia⟩;have e:T=L0+ls.length:=(by lia);subst e;have l:Wb*(L0+ls.length)=(L0+ls.length)*Wb:=(by grind);lia
   have hz:Z≠0:=by
    intro z;subst z;have z3:∀(j:Nat) (c:Lb),ls[j]? = some c->((L0+j)*Wb<=Yb/\Yb<=(L0+j+1)*Wb)->((L0+j)*Wb=Yb\/Yb=(L0+j+1)*Wb)->False:=λj c hc hb hr=>by
     obtain⟨lc,lo⟩:=lv j c hc;refine nc j c hc ?_;rw[pv];exact HY (lc.mpr ⟨ie.c k,hb⟩) λz=>by have:=(lo.mp z).2;lia
    have ey:Yb=T*Wb:=(by rw[<-e1];grind);rcases t2 with q | ⟨_,q⟩
    ·have hj:(T-L0).toNat<ls.length:=(by lia);refine z3 (T-L0).toNat _ (aD hj) ?_ (.inl ?_)
     ·have e:(L0+((T-L0).toNat:Int))=T:=(by lia);rw[e,ey];have l:(T+1)*Wb=T*Wb+Wb:=(by grind);lia
     ·have e:(L0+((T-L0).toNat:Int))=T:=(by lia);rw[e,ey]
    ·have hj:ls.length-1<ls.length:=(by lia);refine z3 (ls.length-1) _ (aD hj) ?_ (.inr ?_)
     ·have e:(L0+((ls.length-1:Nat):Int))=T-1:=(by lia);rw[e,ey];have l:(T-1)*Wb=T*Wb-Wb:=(by grind);have l2:(T-1+1)*Wb=T*Wb:=(by grind);lia
     ·have e:(L0+((ls.length-1:Nat):Int))+1=T:=(by lia);rw[e,ey]
   have t3:T<L0+ls.length:=(by rcases t2 with q | ⟨q,_⟩ <;> lia);have hj:(T-L0).toNat<ls.length:=(by lia);have ej:(L0+((T-L0).toNat:Int))=T:=(by lia);have in1:T*Wb<Yb/\Yb<(T+1)*Wb:=by
    have l:T*Wb=Wb*T:=(by grind);have l2:(T+1)*Wb=Wb*T+Wb:=(by grind);lia
   rw[VJ (aD hj) (by
    obtain⟨lc,lo⟩:=lv _ _ (aD hj);rw[pv];rw[ej] at lo;exact WI (lo.mpr ⟨k,in1⟩)) (λj d sr hd=>by
    obtain⟨lc,lo⟩:=lv j d hd;rw[pv,MU λz=>?_]
    ·decide
    ·obtain⟨_,z1,z2⟩:=lc.mp z;have u1:(L0+j:Int)<T+1:=qV p (by lia);have u2:T<L0+j+1:=qV p (by lia);lia)]
  ·exact absurd e nb
  ·rw[pv,if_neg (by show jy b.2.1 b.2.2.1 _ _ _≠1;rw[e];decide),cnt_none (l:=ls) (λc hc=>by
    obtain⟨j,hj,e'⟩:=dU hc;have sk:ls[j]? = some c:=(by rw[aD hj,e']);rw[pv,MU λz=>n ((lv j c sk).1.mp z).1];decide)]
structure o8 (f:Pt):Prop where
 ln:p8 f
 lo:-4*f.2<=f.1
 hi:f.1<=13*f.2
def NH:FD:=λds Q=>∃n m:Int,ds=[.int n,.int m]/\(1<=m/\m<=4)/\∀fs:List Pt,(fs.length:Int)=m->(∀f∈fs,o8 f)->Q (et fs)
def An:∀ds Q,NH ds Q->ET UX SZ { nx:=λ_=>Q .non,rt:=Q } (dR ["_law_number","_law_many_here","_law_found","_law_k","_law_top","_law_bottom"] ds):=by
 rintro ds Q ⟨n,m,rfl,⟨m0,m1⟩,q⟩;rw[cS 4 rfl];unfold ET;simp only[hU,Dv,aQ,bZ,bI,bV];refine cN (λd=>∃f:Pt,(i8 10 f/\BL 2 f.2/\-4*f.2<=f.1/\f.1<=4*f.2)/\d=[aa (.int n),aa (.int m),some (.own ([f].map pt)),none,none,none]) (λK hK=>?_) ?_
 ·walk_at "rd";obtain⟨a0,a1⟩:=eZ (a:=n) (b:=9) (by decide);obtain⟨b0,b1⟩:=eZ (a:=n.fdiv 9) (b:=2) (by decide);refine⟨lV,(BL.const (n:=9000) (by decide)).divOk (by decide),lV,?_⟩;have w:BL 2 (1+(n.fdiv 9).fmod 2):=BL.of_lt (m:=2) (by lia) (by lia);have t:BL 10 (n.fmod 9-4):=BL.of_lt (m:=10) (by lia) (by lia);refine⟨_,_,rfl,⟨by lia,w.mono⟩,λp q' l=>hK _ ⟨(p,q'),⟨⟨l.pos,t.le l.lea,(w.le l.leb).mono⟩,w.le l.leb,?_,?_⟩,rfl⟩⟩
  ·have:=l.worth;have lp:=l.pos;have hB1:1<=1+(n.fdiv 9).fmod 2:=(by lia);generalize 1+(n.fdiv 9).fmod 2=B at *;dsimp only;have b1:(-4)*q'<=(n.fmod 9-4)*q':=aW (by lia) (aU lp);refine dD (a:=B) ?_ (by lia);have bq:=aW (show 1<=B by lia) (show 0<=4*q' by lia);have e:-4*q'*B = -(B*(4*q')):=(by grind);lia
  ·have:=l.worth;have lp:=l.pos;have hB1:1<=1+(n.fdiv 9).fmod 2:=(by lia);generalize 1+(n.fdiv 9).fmod 2=B at *;dsimp only;have b1:(n.fmod 9-4)*q'<=4*q':=aW (by lia) (aU lp);refine dD (a:=B) ?_ (by lia);have bq:=aW (show 1<=B by lia) (show 0<=4*q' by lia);have e:4*q'*B=B*(4*q'):=(by grind);lia
 rintro d ⟨f,⟨hf,hf2,hf3,hf4⟩,rfl⟩;refine cN (λd=>∃(fs:List Pt) (u v w:Option L2.R2.S),((fs.length:Int)=m/\∀f∈fs,o8 f)/\d=[aa (.int n),aa (.int m),some (.own (fs.map pt)),u,v,w]) (λK hK=>?_) ?_
 ·simp only[mJ,QT,aC,aZ,r2,mK,aM,rC,aE,aH,L2.R2.S.val];refine⟨⟨by lia,by lia⟩,?_⟩;refine HQ 0 (m-1).toNat (λi d=>∃(gs:List Pt) (g:Pt) (u v w:Option L2.R2.S),(gs.length=i/\(∀f∈gs++[g],o8 f)/\(i8 (10+5*i) g/\BL (2+2*i) g.2)/\g.1<=(4+3*i)*g.2)/\d=[aa (.int n),aa (.int m),some (.own ((gs++[g]).map pt)),u,v,w]) ?_ ?_ _ ⟨[],f,none,none,none,⟨rfl,λz hz=>by rw[cR.mp hz];exact⟨⟨hf.pos,hf.top.mono,hf2.mono⟩,hf3,by have:=hf.pos;lia⟩,⟨hf,hf2⟩,by simpa using hf4⟩,rfl⟩
  ·rintro i d hi ⟨gs,g,u,v,w,⟨hl,cg,⟨hg,hg2⟩,hg3⟩,rfl⟩ F hr hb hn hc;have yx:((gs++[g]).map pt).getLast? = some (.tup [.int g.1,.int g.2]):=(by rw[cX,aQ,bZ,List.getLast?_concat]);unfold xL;walk_at "rd";refine⟨(BL.const (n:=9000) (by decide)).divOk (by decide),?_⟩;refine⟨_,_,_,rfl,⟨by decide,BL.const (by decide)⟩,⟨by lia,by lia⟩,λt t0 t1=>?_⟩;walk_at "rd";refine⟨(BL.const (n:=9000) (by decide)).divOk (by decide),?_⟩;refine⟨_,_,_,rfl,⟨by decide,BL.const (by decide)⟩,⟨by lia,by lia⟩,λy y0 y1=>?_⟩;obtain⟨c0,c1⟩:=eZ (a:=y) (b:=3) (by decide);walk_at "rd";simp only[Ph yx];walk_at "rd";have bw:BL 2 (1+y.fmod 3):=BL.of_lt (m:=2) (by lia) (by lia);have bt:BL 2 (1+t):=BL.of_lt (m:=2) (by lia) (by lia);have mg:=cg g (bG _ (.head _));refine⟨lV,mg.ln.top.mulOk bw,bt.mulOk mg.ln.bot,mg.ln.bot.mulOk bw,?_⟩;refine⟨_,_,rfl,⟨aL hg.pos (by lia),(hg.bot.mul bw).mono (by lia)⟩,λp q' l=>?_⟩;have nw:=Lz hg.top hg.bot hg.pos (by lia) (by lia) (by lia) (by lia) l;have nb:BL (2+2*i+2) q':=(hg2.mul bw).le l.leb;have wt:=l.worth;have lp:=l.pos;have gp:=hg.pos;have glo:=mg.lo;have key:-4*q'<=p/\p<=(4+3*(i+1))*q':=by
    generalize hB:1+y.fmod 3=B at *;have B1:1<=B:=(by lia);have cp:0<g.2*B:=aL gp (by lia);constructor
    ·refine dD (a:=g.2*B) ?_ cp;rw[wt];have k1:=aW glo (show 0<=B by lia);have k2:=cV (show 0<=1+t by lia) (aU gp);have k3:=aW (show -4*g.2*B<=g.1*B+(1+t)*g.2 by lia) (aU lp);have e:-4*q'*(g.2*B) = -4*g.2*B*q':=(by grind);lia
    ·refine dD (a:=g.2*B) ?_ cp;rw[wt];have k1:=aW hg3 (show 0<=B by lia);have k2:(1+t)*g.2<=3*g.2*B:=by
      have a:=aW (show 1+t<=3 by lia) (aU gp);have b:=eI B1 (show 0<=3*g.2 by lia);lia
     have e0:(4+3*(i+1))*q'*(g.2*B)=((4+3*i)*g.2*B+3*g.2*B)*q':=(by grind);rw[e0];exact aW (by lia) (aU lp)
   have gq:(i:Int)+1<=3:=(by lia);refine⟨pI (by rw[aS,bJ];simp;lia),hn _ ⟨gs++[g],(p,q'),_,_,_,⟨by simp;lia,λz hz=>?_,⟨nw.mono (by lia),nb.mono (by lia)⟩,by have:=key.2;simpa using this⟩,by rw[show (gs++[g]++[(p,q')]).map pt=(gs++[g]).map pt++[fr p q'] from cX]⟩⟩;rcases cC.mp hz with hz | hz
   ·exact cg z hz
   ·rw[cR.mp hz];refine⟨⟨l.pos,nw.top.mono (by lia),nb.mono (by lia)⟩,key.1,?_⟩;have:=key.2;have:=aW (show 4+3*((i:Int)+1)<=13 by lia) (aU lp);dsimp only;lia
  ·rintro d ⟨gs,g,u,v,w,⟨hl,cg,_⟩,rfl⟩;exact hK _ ⟨gs++[g],u,v,w,⟨by simp;lia,cg⟩,rfl⟩
 rintro d ⟨fs,u,v,w,⟨hl,cg⟩,rfl⟩;simp only[wE,L2.R2.S.fz,fI,cB,aE,aH,aR,aV];exact q fs hl cg
section
variable {s h:Pt}
theorem Qb (f:Fm s h) (g:Gp s h P sh cs):t8 sh (oM d_ cs)=((h.1*oM d_ P:Int):Rat) / ((576*h.2:Int):Rat):=by
 have h0:=IW f.ep g;have e:=Qa g;have n1:=jE h0;have n2:=jE f.h2;have n3:=jE f.ls.pos;have e':=congrArg (λx:Int=>(x:Rat)) e;unfold eF at e';simp only[gK] at e';unfold t8;simp only[gK];rw[show ((24:Int):Rat)=24 from rfl] at e';rw[show ((576:Int):Rat)=576 from rfl];grind
end
def Jh:∀w∈SX,(w.map λP=>oM d_ P).sum=1152:=by decide +kernel
end K37
namespace K38
open K37 K36 K34 K33
abbrev ht (s:Pt) (X Y:Int):Int:=Y*s.2-X*s.1
structure io (s h:Pt) (L:List Lb):Prop where
 h1:0<=h.1
 h2:0<h.2
 one:∀X Y W,0<W->0<X->X<W->0<ht s X Y->ht s X Y*h.2<h.1*s.2*W->(∀b∈L,ck false X Y W b≠0)->cnt (ck false X Y W) L=1
 out:∀X Y W,0<W->0<X->X<W->(ht s X Y<0\/h.1*s.2*W<ht s X Y*h.2)->∀b∈L,ck false X Y W b = -1
 low:0<h.1->∀X Y W,0<W->0<X->X<W->ht s X Y=0->∃b∈L,ck false X Y W b=0
 rin:∀b∈L,∀X Y W,0<=W->ft b.1 b.2.1 X Y W->(0<=X/\X<=W)/\0<=ht s X Y/\ht s X Y*h.2<=h.1*s.2*W
 area:ij L=((2*h.1:Int):Rat) / (h.2:Rat)
def rj (X Y W:Int) (b:Lb):ck false X Y W b=jy b.1 b.2.1 X Y W:=by unfold ck;rw[if_neg cM]
def X3 (X Y W:Int) (b:Lb):ck true X Y W b=jy b.1 b.2.1 (bX b.2.2 X W) (bY b.2.2 Y W) (bW b.2.2 W):=by unfold ck;rw[if_pos rfl]
def VL {f:Lb->Int} {L:List Lb} (h:∀b∈L,f b = -1):cnt f L=0:=cnt_none λb hb=>by rw[h b hb];decide
theorem VD:∀(l k:List Lb),ij (l++k)=ij l+ij k
 | [],k=>by show ij k=0+ij k;grind
 | a::l,k=>by show l7 a+ij (l++k)=l7 a+ij l+ij k;rw[VD l k];grind
theorem Es {α:Type} (f:Lb->Int) (g:α->Lb):∀l:List α,cnt f (l.map g)=((l.filter λa=>decide (f (g a)=1)).length:Int)
 | []=>rfl
 | a::l=>by
  rw[aQ,List.filter_cons];have i:=Es f g l;show (if f (g a)=1 then 1 else 0)+cnt f (l.map g)=_;by_cases e:f (g a)=1
  ·rw[if_pos e,if_pos (by simpa using e)];simp;lia
  ·rw[if_neg e,if_neg (by simpa using e)];lia
def Aa {s:Pt}:io s (0,1) []:=⟨by decide,by decide,λX Y W _ _ _ a b=>by dsimp only at b;lia,λ_ _ _ _ _ _ _ b hb=>absurd hb cY,λh=>absurd h (by decide),λb hb=>absurd hb cY,by show (0:Rat)=((2*0:Int):Rat) / ((1:Int):Rat);simp;grind⟩
section
variable {s h g:Pt} {X Y W:Int}
theorem Xd (f:Fm s h) (w:0<W):wk s h X Y W (24*X*(h.1*s.2)) (24*(h.2*ht s X Y)) (W*(h.1*s.2)) :=
 ⟨w,aL w f.hp,by unfold eF;grind,by unfold eF ht;grind⟩
theorem Jt {bs:List Bt} (f:Fm s h) (each:∀b∈bs,b.1∈xA/\Gp s h b.1 b.2.1 b.2.2.1) (hw:bs.map (·.1)∈SX) (ar:ij (bs.map fv)=((2*h.1:Int):Rat) / (h.2:Rat)):io s h (bs.map fv):=by
 have hp:=f.hp;have h2:=f.h2;have s2:=f.ls.pos;have ri:∀b∈bs,cj b.2.1 b.2.2.1:=λb hb=>XG f.ep (each b hb).2 (VC f.sp hp (KN _ (each b hb).1));have val:∀b∈bs,∀X Y W,0<W->ck false X Y W (fv b)=gv (24*X*(h.1*s.2)) (24*(h.2*ht s X Y)) (W*(h.1*s.2)) b.1:=λb hb X Y W w=>by
  rw[rj];exact Zf f (each b hb).2 (ri b hb).cvx.len (Xd f w)
 have xi:∀{X W:Int},0<X->X<W->0<24*X*(h.1*s.2)/\24*X*(h.1*s.2)<24*(W*(h.1*s.2)):=λ{X W} a b=>by
  refine⟨aL (by lia) hp,?_⟩;have:=iP b hp;have e:24*X*(h.1*s.2)=24*(X*(h.1*s.2)):=by grind
  lia
 have e3:∀A W:Int,24*(W*(h.1*s.2))-24*(h.2*A)=24*(h.1*s.2*W-A*h.2):=λA W=>by grind
 refine⟨aU f.h1,h2,λX Y W w x0 x1 y0 y1 nz=>?_,λX Y W w x0 x1 o b hb=>?_,λ_ X Y W w x0 x1 e=>?_,λb hb X Y W w i=>?_,ar⟩
 ·obtain⟨i0,i1⟩:=xi x0 x1;have j0:0<24*(h.2*ht s X Y):=by have:=aL h2 y0;lia
  have j1:24*(h.2*ht s X Y)<24*(W*(h.1*s.2)):=by have:=e3 (ht s X Y) W;lia
  have w1:=Sr i0 i1 j0 j1 _ hw (λP hP=>by
   obtain⟨b,hb,rfl⟩:=bF.mp hP;rw[<-val b hb X Y W w];exact nz _ (dI hb))
  rw[List.filter_map,aS] at w1;have e:bs.filter (λb=>decide (ck false X Y W (fv b)=1))=bs.filter ((λP=>decide (gv (24*X*(h.1*s.2)) (24*(h.2*ht s X Y)) (W*(h.1*s.2)) P=1)) ∘ λx=>x.1):=vB λb hb=>by rw[val b hb X Y W w];rfl
  rw[Es,e,w1];rfl
 ·obtain⟨b',ku,rfl⟩:=bF.mp hb;obtain⟨i0,i1⟩:=xi x0 x1;rw[val b' ku X Y W w];refine Va i0 i1 ?_ _ (each b' ku).1;rcases o with o | o
  ·have:=jG h2 o;left;lia
  ·right;have:=e3 (ht s X Y) W;lia
 ·obtain⟨i0,i1⟩:=xi x0 x1;obtain⟨P,hP,e0⟩:=Oo i0 i1 _ hw;obtain⟨b,hb,rfl⟩:=bF.mp hP;refine⟨fv b,dI hb,?_⟩;rw[val b hb X Y W w,e,sZ,sZ];exact e0
 ·obtain⟨b',ku,rfl⟩:=bF.mp hb;obtain⟨hP,gp⟩:=each b' ku;have ip:=ri b' ku;have G_:∀z∈b'.2.2.1,(0<=z.1/\z.1<=b'.2.1)/\0<=ht s z.1 z.2/\ht s z.1 z.2*h.2<=h.1*s.2*b'.2.1:=λz hz=>by
   obtain⟨A,hA,e⟩:=(Bh gp).1 z hz;obtain⟨a,ha,rfl⟩:=bF.mp hA;obtain⟨⟨x0,x1⟩,y0,y1⟩:=Ab _ hP a ha;unfold scl og K36.aff at e;simp only[eM] at e;obtain⟨e1,e2⟩:=e;have sp:=ip.pos;have S0:=f.sp;have k1:24*z.1=b'.2.1*a.1:=fH (a:=s.2*h.2) (by lia) (by unfold eF at e1;grind);have k2:24*(h.2*ht s z.1 z.2)=b'.2.1*(a.2*(h.1*s.2)):=by
    refine dQ (a:=s.2) (by lia) ?_;have l:s.2*(24*(h.2*ht s z.1 z.2))=s.2*(eF s h*z.2)-s.1*(eF s h*z.1):=(by unfold eF ht;grind);rw[l,e1,e2];grind
   have m0:=cV (aU sp) x0;have m1:=eI x1 (aU sp);have n0:=cV (aU sp) (cV y0 (aU hp));have n1:=eI (aW y1 (aU hp)) (aU sp);have q:b'.2.1*(24*(h.1*s.2))=24*(h.1*s.2*b'.2.1):=(by grind);have q2:ht s z.1 z.2*h.2=h.2*ht s z.1 z.2:=fL ..;refine⟨⟨by lia,by lia⟩,?_,by lia⟩;apply jU.mp;intro k;have:=jG h2 k;lia
  have l1:=CY (α:=-1) (β:=0) (γ:=0) ip.cvx ip.pos (λz hz=>by have:=(G_ z hz).1.1;lia) w i;have l2:=CY (α:=1) (β:=0) (γ:=-1) ip.cvx ip.pos (λz hz=>by have:=(G_ z hz).1.2;lia) w i;have l3:=CY (α:=s.1) (β:=-s.2) (γ:=0) ip.cvx ip.pos (λz hz=>by have:=(G_ z hz).2.1;grind) w i;have l4:=CY (α:=-s.1*h.2) (β:=s.2*h.2) (γ:=-(h.1*s.2)) ip.cvx ip.pos (λz hz=>by have:=(G_ z hz).2.2;grind) w i;refine⟨⟨by lia,by lia⟩,?_,?_⟩ <;> grind
structure ig (g:Pt) (b b':Lb):Prop where
 pd:n_ g b.1 b.2.1 b'.1 b'.2.1
 ms:P3 g b.2.2 b'.2.2
 mf:ju b'.2.2
theorem HX (l:ig g b b') (X Y W:Int):ck false X Y W b'=ck false (X*g.2) (Y*g.2-g.1*W) (W*g.2) b:=by
 rw[rj,rj];unfold jy;rw[l.pd.closed,l.pd.opened]
theorem JZ (g2:0<g.2) (l:ig g b b') (mf:ju b.2.2) (X Y W:Int):ck true X Y W b'=ck true X Y W b:=by
 have q0:=mf.q0;have v0:=mf.v0;have q1:=l.mf.q0;have v1:=l.mf.v0;obtain⟨es,ex,ey⟩:=l.ms;have ss:b.2.2.1*b.2.2.1=1:=by rcases mf.sg with e | e <;> (rw[e];rfl)
 have p:=HX l (bX b'.2.2 X W) (bY b'.2.2 Y W) (bW b'.2.2 W);rw[rj,rj] at p;rw[X3,X3,p];have pr:=YY (sh:=b.1) (cs:=b.2.1) (k1:=b.2.2.2.1.2*b.2.2.2.2.2) (k2:=b'.2.2.2.1.2*b'.2.2.2.2.2*g.2) (X1:=bX b'.2.2 X W*g.2) (Y1:=bY b'.2.2 Y W*g.2-g.1*bW b'.2.2 W) (W1:=bW b'.2.2 W*g.2) (X2:=bX b.2.2 X W) (Y2:=bY b.2.2 Y W) (W2:=bW b.2.2 W) (aL q0 v0) (aL (aL q1 v1) g2)
  (by
   unfold bX;rw[es];have l:b.2.2.2.1.2*b.2.2.2.2.2*(b.2.2.1*(X*b'.2.2.2.1.2-b'.2.2.2.1.1*W)*b'.2.2.2.2.2*g.2)=b.2.2.2.2.2*b.2.2.1*b'.2.2.2.2.2*g.2*(X*b'.2.2.2.1.2*b.2.2.2.1.2-b'.2.2.2.1.1*b.2.2.2.1.2*W):=(by grind);rw[l,ex];grind)
  (by
   unfold bY bW;rw[es];have l:b.2.2.2.1.2*b.2.2.2.2.2*(b.2.2.1*(Y*b'.2.2.2.2.2-b'.2.2.2.2.1*W)*b'.2.2.2.1.2*g.2-g.1*(W*b'.2.2.2.1.2*b'.2.2.2.2.2))=b.2.2.2.1.2*b'.2.2.2.1.2*(b.2.2.1*Y*b'.2.2.2.2.2*g.2*b.2.2.2.2.2-b.2.2.1*W*(b'.2.2.2.2.1*(g.2*b.2.2.2.2.2))-g.1*W*b'.2.2.2.2.2*b.2.2.2.2.2):=(by grind);rw[l,ey];have l2:b.2.2.1*W*((b.2.2.1 * -g.1*b.2.2.2.2.2+b.2.2.2.2.1*g.2)*b'.2.2.2.2.2)=W*b'.2.2.2.2.2*(-(b.2.2.1*b.2.2.1)*g.1*b.2.2.2.2.2+b.2.2.1*b.2.2.2.2.1*g.2):=(by grind);rw[l2,ss];grind)
  (by unfold bW;grind)
 unfold jy;rw[pr.1,pr.2]
end
inductive c5 (g:Pt):List Lb->List Lb->Prop
 | nil:c5 g [] []
 | cons {b b':Lb} {l l':List Lb}:ig g b b'->c5 g l l'->c5 g (b::l) (b'::l')
section
variable {s h g G:Pt}
theorem c5.fw (l:c5 g B B') (h:b∈B):∃b'∈B',ig g b b':=by
 induction l with
 | nil=>cases h
 | @cons x x' _ _ a _ ih =>
  rcases aJ.mp h with rfl | h
  ·exact⟨x',by simp,a⟩
  ·obtain⟨y,m,k⟩:=ih h;exact⟨y,by simp[m],k⟩
theorem c5.bw (l:c5 g B B') (h:b'∈B'):∃b∈B,ig g b b':=by
 induction l with
 | nil=>cases h
 | @cons x x' _ _ a _ ih =>
  rcases aJ.mp h with rfl | h
  ·exact⟨x,by simp,a⟩
  ·obtain⟨y,m,k⟩:=ih h;exact⟨y,by simp[m],k⟩
theorem c5.cnt (l:c5 g B B') (e:∀b b',b∈B->ig g b b'->f' b'=f b):cnt f' B'=cnt f B:=by
 induction l with
 | nil=>rfl
 | @cons x x' l l' a _ ih =>
  have i:=ih λb b' m=>e b b' (aO _ m);show (if f' x'=1 then 1 else 0)+K37.cnt f' l'=(if f x=1 then 1 else 0)+K37.cnt f l;rw[e x x' (by simp) a,i]
theorem c5.area (l:c5 g B B'):ij B'=ij B:=by
 induction l with
 | nil=>rfl
 | @cons x x' l l' a _ ih =>
  show l7 x'+ij l'=l7 x+ij l;rw[ih,show l7 x'=l7 x from a.pd.area]
theorem ZZ (s2:0<s.2) (PA:io s g A) (PB:io s h B) (hh:0<h.1) (lf:c5 g B B') (lo:m9 (g.1*h.2+h.1*g.2) (g.2*h.2) G.1 G.2):io s G (A++B'):=by
 have g1:=PA.h1;have g2:=PA.h2;have h2:=PB.h2;have G2:=lo.pos;have kp:0<g.2*h.2:=aL g2 h2;have wo:=lo.worth;have q_:∀X Y W,ht s (X*g.2) (Y*g.2-g.1*W)=g.2*ht s X Y-g.1*s.2*W:=λX Y W=>by unfold ht;grind
 have key:∀T W:Int,(g.2*h.2)*(G.1*s.2*W-T*G.2)=G.2*(h.1*s.2*(W*g.2)-(g.2*T-g.1*s.2*W)*h.2):=λT W=>by
  have l:(g.2*h.2)*(G.1*s.2*W-T*G.2)=G.1*(g.2*h.2)*(s.2*W)-T*G.2*(g.2*h.2):=by grind
  rw[l,wo];grind
 have sg:∀T W:Int,(0<G.1*s.2*W-T*G.2↔0<h.1*s.2*(W*g.2)-(g.2*T-g.1*s.2*W)*h.2)/\(G.1*s.2*W-T*G.2<0↔h.1*s.2*(W*g.2)-(g.2*T-g.1*s.2*W)*h.2<0):=λT W=>iE kp G2 (key T W);have gw:∀{W:Int},0<=W->0<=g.1*s.2*W:=λhw=>cV (cV g1 (aU s2)) hw;have N0:∀{W:Int},0<W->0<h.1*s.2*(W*g.2):=λhw=>aL (aL hh s2) (aL hw g2);have cm:∀T:Int,T*g.2=g.2*T:=λT=>fL ..;have up:∀{X Y W:Int},(∀b'∈B',ck false X Y W b'≠0)->∀b∈B,ck false (X*g.2) (Y*g.2-g.1*W) (W*g.2) b≠0:=λnz b hb=>by
  obtain⟨b',m,l⟩:=lf.fw hb;rw[<-HX l];exact nz b' m
 have zero:∀{X Y W:Int},0<W->0<X->X<W->g.2*ht s X Y-g.1*s.2*W=0->∃b'∈B',ck false X Y W b'=0:=λ{X Y W} w x0 x1 e=>by
  obtain⟨b,hb,z⟩:=PB.low hh (X*g.2) (Y*g.2-g.1*W) (W*g.2) (aL w g2) (aL x0 g2) (iP x1 g2) (by rw[q_];exact e);obtain⟨b',m,l⟩:=lf.fw hb;exact⟨b',m,by rw[HX l];exact z⟩
 have v9:∀{X Y W:Int},0<W->0<X->X<W->(g.2*ht s X Y-g.1*s.2*W<0\/h.1*s.2*(W*g.2)<(g.2*ht s X Y-g.1*s.2*W)*h.2)->∀b'∈B',ck false X Y W b' = -1:=λ{X Y W} w x0 x1 o b' ku=>by
  obtain⟨b,m,l⟩:=lf.bw ku;rw[HX l];exact PB.out _ _ _ (aL w g2) (aL x0 g2) (iP x1 g2) (by rw[q_];exact o) b m
 refine⟨?_,G2,λX Y W w x0 x1 y0 y1 nz=>?_,λX Y W w x0 x1 o b hb=>?_,λ_ X Y W w x0 x1 e=>?_,λb hb X Y W w i=>?_,?_⟩
 ·have p:0<=(g.1*h.2+h.1*g.2)*G.2:=cV (NM (cV g1 (aU h2)) (cV (aU hh) (aU g2))) (aU G2);rw[<-wo] at p;apply jU.mp;intro k;have:=lE k kp;lia
 ·have nA:∀b∈A,ck false X Y W b≠0:=λb hb=>nz b (dL _ hb);have nB:∀b∈B',ck false X Y W b≠0:=λb hb=>nz b (bG _ hb);rw[K37.cnt_append];have c:=(sg (ht s X Y) W).1.mp (by lia);rcases iW (g.2*ht s X Y-g.1*s.2*W) 0 with k | k | k
  ·rw[VL (v9 w x0 x1 (.inl k)),PA.one X Y W w x0 x1 y0 (by rw[cm];lia) nA];rfl
  ·obtain⟨b',m,z⟩:=zero w x0 x1 k;exact absurd z (nB b' m)
  ·rw[VL (PA.out X Y W w x0 x1 (.inr (by rw[cm];lia))),lf.cnt λb b' _ l=>HX l X Y W,PB.one _ _ _ (aL w g2) (aL x0 g2) (iP x1 g2) (by rw[q_];exact k) (by rw[q_];lia) (up nB)];rfl
 ·have gw0:=gw (aU w);rcases o with o | o
  ·have:=jG g2 o;rcases cC.mp hb with m | m
   ·exact PA.out X Y W w x0 x1 (.inl o) b m
   ·exact v9 w x0 x1 (.inl (by lia)) b m
  ·have c:=(sg (ht s X Y) W).2.mp (by lia);rcases cC.mp hb with m | m
   ·refine PA.out X Y W w x0 x1 (.inr ?_) b m;rw[cm];have q:=N0 w;have:0<(g.2*ht s X Y-g.1*s.2*W)*h.2:=(by lia);have:=pZ h2 (by rw[fL];exact this);lia
   ·exact v9 w x0 x1 (.inr (by lia)) b m
 ·by_cases k:0<g.1
  ·obtain⟨b,m,z⟩:=PA.low k X Y W w x0 x1 e;exact⟨b,dL _ m,z⟩
  ·obtain⟨b,m,z⟩:=zero w x0 x1 (by rw[e,show g.1=0 by lia];simp);exact⟨b,bG _ m,z⟩
 ·have le:(g.2*ht s X Y-g.1*s.2*W)*h.2<=h.1*s.2*(W*g.2)->ht s X Y*G.2<=G.1*s.2*W:=λk=>by
   apply jU.mp;intro z;have:=(sg (ht s X Y) W).2.mp (by lia);lia
  rcases cC.mp hb with m | m
  ·obtain⟨a,c,d⟩:=PA.rin b m X Y W w i;refine⟨a,c,le ?_⟩;rw[cm] at d;have p1:(g.2*ht s X Y-g.1*s.2*W)*h.2<=0:=gH (by lia) (aU h2);have p2:0<=h.1*s.2*(W*g.2):=cV (cV (aU hh) (aU s2)) (cV w (aU g2));lia
  ·obtain⟨b0,m0,l⟩:=lf.bw m;obtain⟨⟨a1,a2⟩,c,d⟩:=PB.rin b0 m0 _ _ _ (cV w (aU g2)) ((l.pd.closed X Y W).mp i);rw[q_] at c d;have gw0:=gw w;refine⟨⟨?_,dD a2 g2⟩,?_,le d⟩
   ·apply jU.mp;intro z;have:=lE z g2;lia
   ·apply jU.mp;intro z;have:=jG g2 z;lia
 ·rw[VD,lf.area,PA.area,PB.area];have n1:=jE g2;have n2:=jE h2;have n3:=jE G2;have w':=congrArg (λx:Int=>(x:Rat)) wo;simp only[gK,pP] at w' ⊢;have e2:((2:Int):Rat)=2:=rfl;rw[e2];grind
end
theorem ZT {L:List Lb} {X Y W:Int}:∃n0:Int,0<n0/\∀n,n0<=n->∀b∈L,¬ft b.1 b.2.1 X Y W->¬ft b.1 b.2.1 (n*X) (n*Y+1) (n*W):=by
 have one:∀b:Lb,∃n0:Int,0<n0/\∀n,n0<=n->¬ft b.1 b.2.1 X Y W->¬ft b.1 b.2.1 (n*X) (n*Y+1) (n*W):=λb=>by
  by_cases k:ft b.1 b.2.1 X Y W
  ·exact⟨1,by decide,λn _ z=>absurd k z⟩
  ·have:∃u v,cc b.2.1 u v/\c_ b.1 X Y W u v<0:=fA λz=>k λu v c=>jU.mp λq=>z ⟨u,v,c,q⟩;obtain⟨u,v,c,q⟩:=this;refine⟨1+((b.1*(v.1-u.1)).natAbs:Int),by lia,λn hn _ z=>?_⟩;have:=z u v c;have e:c_ b.1 (n*X) (n*Y+1) (n*W) u v=n*c_ b.1 X Y W u v+b.1*(v.1-u.1):=(by rw[MW,MW];grind);rw[e] at this;have:=eI (show c_ b.1 X Y W u v<=-1 by lia) (show 0<=n by lia);lia
 induction L with
 | nil=>exact⟨1,by decide,λn _ b hb=>absurd hb cY⟩
 | cons b L ih =>
  obtain⟨n1,p1,k1⟩:=one b;obtain⟨n2,p2,k2⟩:=ih;refine⟨n1+n2,by lia,λn hn x hx=>?_⟩;rcases aJ.mp hx with rfl | hx
  ·exact k1 n (by lia)
  ·exact k2 n (by lia) x hx
section
variable {s h:Pt} {bs:List Bt}
theorem WJ {X Y W:Int}:(ck false X Y W b=1↔ie b.1 b.2.1 X Y W)/\(ck false X Y W b≠-1↔ft b.1 b.2.1 X Y W):=by
 rw[rj];rcases CU (sh:=b.1) (cs:=b.2.1) (X:=X) (Y:=Y) (W:=W) with ⟨e,k⟩ | ⟨e,k,n⟩ | ⟨e,k,n⟩
 ·rw[e];exact⟨⟨λ_=>k,λ_=>rfl⟩,⟨λ_=>ie.c k,λ_=>by decide⟩⟩
 ·rw[e];exact⟨⟨λz=>absurd z (by decide),λz=>absurd z n⟩,⟨λ_=>k,λ_=>by decide⟩⟩
 ·rw[e];exact⟨⟨λz=>absurd z (by decide),λz=>absurd z n⟩,⟨λz=>absurd rfl z,λz=>absurd z k⟩⟩
theorem Om (s2:0<s.2) (h1:0<h.1) (ri:∀b∈bs,cj b.2.1 b.2.2.1) (U:kc h bs us) (P:io s h (bs.map fv)) {X Y W:Int} (w:0<W) (x0:0<X) (x1:X<W) (y0:0<Y) (y1:h.2*Y<h.1*W)
  (nz:∀c∈mI us,ck false X Y W c≠0):cnt (ck false X Y W) (mI us)=1:=by
 have h2:=P.h2;have wp:0<W*h.2:=aL w h2;obtain⟨A,hA⟩:∃A,A=h.2*ht s X Y:=⟨_,rfl⟩;obtain⟨B,hB⟩:∃B,B=h.1*s.2*W:=⟨_,rfl⟩;have B0:0<B:=by rw[hB];exact aL (aL h1 s2) w
 have q_:∀L,ht s (X*h.2) (Y*h.2+L*h.1*W)=A+L*B:=λL=>by rw[hA,hB];unfold ht;grind
 have top:∀T:Int,(T*h.2<h.1*s.2*(W*h.2)↔T<B)/\(h.1*s.2*(W*h.2)<T*h.2↔B<T):=λT=>by
  have e:h.1*s.2*(W*h.2)=h.2*B:=by rw[hB];grind
  rw[e,fL T];exact⟨PX h2,PX h2⟩
 have band:∀L:Int,L*(h.1*(W*h.2))<h.2*(Y*h.2+L*h.1*W)/\h.2*(Y*h.2+L*h.1*W)<(L+1)*(h.1*(W*h.2)):=λL=>by
  have p1:=aL h2 (aL y0 h2);have p2:=kO y1 h2;have e1:h.2*(Y*h.2+L*h.1*W)=h.2*(h.2*Y)+L*(h.1*(W*h.2)):=by grind
  have e2:(L+1)*(h.1*(W*h.2))=h.2*(h.1*W)+L*(h.1*(W*h.2)):=by grind
  have e3:h.2*(Y*h.2)=h.2*(h.2*Y):=by grind
  rw[e1,e2];lia
 have X0:=aL x0 h2;have X1:=iP x1 h2;obtain⟨R,Ls,eR,R0,R1⟩:∃R Ls:Int,A+Ls*B=R/\0<=R/\R<B:=⟨A % B,-(A / B),by
  have:=zV A B;rw[Int.neg_mul,fL (A / B)];lia,zC _ (by lia),tV _ B0⟩
 have off:∀L,L≠Ls->0<R->A+L*B<0\/B<A+L*B:=λL hL Rp=>by
  have e:A+L*B=R+(L-Ls)*B:=by rw[<-eR];grind
  rw[e];rcases FH hL with k | k
  ·have:=aW (show L-Ls<=-1 by lia) (aU B0);left;lia
  ·have:=aW (show 1<=L-Ls by lia) (aU B0);right;lia
 have o3:∀{b:Bt} {L0:Int} {ls:List Lb},wj h b.2.1 b.2.2.1 b.2.2.2 L0 ls->∀(j:Nat) (c:Lb),ls[j]? = some c->ck false X Y W c=ck false (X*h.2) (Y*h.2+(L0+j)*h.1*W) (W*h.2) (fv b):=λa j c hc=>by
  rw[rj,rj];exact Ze w y0 y1 (a.each j c hc)
 have z3:∀b∈bs,ck false (X*h.2) (Y*h.2+Ls*h.1*W) (W*h.2) (fv b)≠0:=by
  have key:∀{bs:List Bt} {us:List (Int × List Lb)},kc h bs us->(∀b∈bs,cj b.2.1 b.2.2.1)->(∀c∈mI us,ck false X Y W c≠0)->∀b∈bs,ck false (X*h.2) (Y*h.2+Ls*h.1*W) (W*h.2) (fv b)≠0:=by
   intro bs us U
   induction U with
   | nil=>intro _ _ b hb;cases hb
   | @cons b bs L0 ls us a _ ih =>
    intro pc nz x hx z;rcases aJ.mp hx with rfl | hx
    ·obtain⟨i,c,e1,hc⟩:=ZH h1 (pc x (by simp)) a wp (WJ.2.mp (by rw[z];decide)) (band Ls).1 (band Ls).2;exact nz c (dL _ (dM hc)) (by rw[o3 a i c hc,<-e1];exact z)
    ·exact ih (λy hy=>pc y (by simp[hy])) (λc hc=>nz c (bG _ hc)) x hx z
  exact key U ri nz
 have Rp:0<R:=by
  rcases tW R0 with k | k
  ·exact k
  ·exfalso;obtain⟨b,hb,z⟩:=P.low h1 _ _ _ wp X0 X1 (by rw[q_,eR];exact k.symm);obtain⟨b',m,rfl⟩:=bF.mp hb;exact z3 b' m z
 have one:=P.one _ _ _ wp X0 X1 (by rw[q_,eR];exact Rp) (by rw[q_,eR];exact (top R).1.mpr R1) (λb hb=>by obtain⟨b',m,rfl⟩:=bF.mp hb;exact z3 b' m);rw[<-one];have outs:∀L,L≠Ls->∀b∈bs,ck false (X*h.2) (Y*h.2+L*h.1*W) (W*h.2) (fv b) = -1:=λL hL b hb=>by
  refine P.out _ _ _ wp X0 X1 ?_ _ (dI hb);rw[q_];rcases off L hL Rp with k | k
  ·exact .inl k
  ·exact .inr ((top _).2.mpr k)
 have key:∀{bs:List Bt} {us:List (Int × List Lb)},kc h bs us->(∀b∈bs,cj b.2.1 b.2.2.1)->(∀L,L≠Ls->∀b∈bs,ck false (X*h.2) (Y*h.2+L*h.1*W) (W*h.2) (fv b) = -1)->cnt (ck false X Y W) (mI us)=cnt (ck false (X*h.2) (Y*h.2+Ls*h.1*W) (W*h.2)) (bs.map fv):=by
  intro bs us U
  induction U with
  | nil=>intro _ _;rfl
  | @cons b bs L0 ls us a _ ih =>
   intro pc oo;have i:=ih (λy hy=>pc y (by simp[hy])) λL hL y hy=>oo L hL y (by simp[hy]);show K37.cnt _ (ls++mI us)=(if _=1 then 1 else 0)+K37.cnt _ (bs.map fv);rw[K37.cnt_append,i];congr 1;by_cases z:ck false (X*h.2) (Y*h.2+Ls*h.1*W) (W*h.2) (fv b)=1
   ·rw[if_pos z];obtain⟨j,c,e1,hc⟩:=ZH h1 (pc b (by simp)) a wp (ie.c (WJ.1.mp z)) (band Ls).1 (band Ls).2;refine VJ hc (by rw[o3 a j c hc,<-e1];exact z) λk d hk hd=>?_;rw[o3 a k d hd,oo (L0+k) (by lia) b (by simp)];decide
   ·rw[if_neg z];refine cnt_none λc hc=>?_;obtain⟨j,hj,e⟩:=dU hc;rw[o3 a j c (by rw[aD hj,e])];by_cases q:(L0+j:Int)=Ls
    ·rw[q];exact z
    ·rw[oo _ q b (by simp)];decide
 exact key U ri outs
theorem Sn (s2:0<s.2) (h1:0<h.1) (ri:∀b∈bs,cj b.2.1 b.2.2.1) (U:kc h bs us) (P:io s h (bs.map fv)):io (0,1) h (mI us):=by
 have h2:=P.h2;have I_:∀X Y:Int,ht (0,1) X Y=Y:=λX Y=>by unfold ht;dsimp only;lia
 have Q5:∀W:Int,h.1*(0,1).2*W=h.1*W:=λW=>by dsimp only;grind
 have each:∀c∈mI us,∃b∈bs,∃L,xt h b.2.1 b.2.2.1 b.2.2.2 L c:=by
  clear P ri
  induction U with
  | nil=>intro c hc;cases hc
  | @cons b bs L0 ls us a _ ih =>
   intro c hc;rcases cC.mp (show c∈ls++mI us from hc) with m | m
   ·obtain⟨j,hj,e⟩:=dU m;exact⟨b,by simp,_,a.each j c (by rw[aD hj,e])⟩
   ·obtain⟨x,hx,k⟩:=ih c m;exact⟨x,by simp[hx],k⟩
 have V7:∀c∈mI us,∀X Y W,0<=W->ft c.1 c.2.1 X Y W->(0<=X/\X<=W)/\0<=Y/\h.2*Y<=h.1*W:=λc hc X Y W w i=>by
  obtain⟨b,hb,L,lf⟩:=each c hc;obtain⟨k,y0,y1⟩:=(lf.closed X Y W w).mp i;obtain⟨⟨a1,a2⟩,_⟩:=P.rin (fv b) (dI hb) _ _ _ (cV w (aU h2)) k;refine⟨⟨?_,dD a2 h2⟩,y0,y1⟩;apply jU.mp;intro z;have:=lE z h2;lia
 refine⟨P.h1,h2,λX Y W w x0 x1 y0 y1 nz=>?_,λX Y W w x0 x1 o c hc=>?_,λ_ X Y W w x0 x1 e=>?_,λc hc X Y W w i=>?_,?_⟩
 ·rw[I_] at y0 y1;rw[Q5,fL Y] at y1;exact Om s2 h1 ri U P w x0 x1 y0 y1 nz
 ·rw[I_,Q5,fL Y] at o;apply fA;intro z;obtain⟨_,k1,k2⟩:=V7 c hc X Y W (aU w) (WJ.2.mp z);lia
 ·rw[I_] at e;subst e;obtain⟨n,n0,no⟩:=ZT (L:=mI us) (X:=X) (Y:=0) (W:=W);have no:=no (n+h.2) (by lia);have m0:0<n+h.2:=by lia
  generalize hm:n+h.2=m at *;have top:h.2*1<h.1*(m*W):=by
   have a1:=eI (show 1<=W by lia) (aU m0);have a2:=aW (show 1<=h.1 by lia) (show 0<=m*W by lia);lia
  have ex:∃c∈mI us,ft c.1 c.2.1 (m*X) (m*0+1) (m*W):=by
   apply fA;intro z;have um:∀c∈mI us,ck false (m*X) 1 (m*W) c = -1:=λc hc=>fA λq=>z ⟨c,hc,by rw[sZ,Int.zero_add];exact WJ.2.mp q⟩;have:=Om s2 h1 ri U P (X:=m*X) (Y:=1) (W:=m*W) (aL m0 w) (aL m0 x0) (kO x1 m0) (by decide) top (λc hc=>by rw[um c hc];decide);rw[VL um] at this;cases this
  obtain⟨c,hc,i⟩:=ex;have ic:ft c.1 c.2.1 X 0 W:=fA λq=>no c hc q i;refine⟨c,hc,?_⟩;rw[rj];obtain⟨b,hb,L,lf⟩:=each c hc;exact HY ic λo=>by have:=((lf.opened X 0 W w).mp o).2.1;lia
 ·rw[I_,Q5,fL Y];exact V7 c hc X Y W w i
 ·rw[show ij (mI us)=ij (bs.map fv) from ?_,P.area];clear P ri each V7
  induction U with
  | nil=>rfl
  | @cons b bs L0 ls us a _ ih =>
   show ij (ls++mI us)=l7 (fv b)+ij (bs.map fv);rw[VD,ih,a.area];rfl
end
end K38
namespace K37
open K36 K34 K33
end K37
namespace K38
open K37 K36 K34 K33
theorem OE {α β:Type} (R:En->Prop) (k8:α->D) (dec:α × β->D) (Ok:α × β->Prop):∀(src:List α) {Q:List D->Prop},(∀a∈src,∀c,R c->∀K:En->D->Prop,(∀c1 b,R c1->Ok (a,b)->K c1 (dec (a,b)))->g (k8 a) c λc1=>te c1 λd=>K c1 d) ->
  ∀(c:En) (acc:List D),R c->(∀bs:List (α × β),bs.map (·.1)=src->(∀b∈bs,Ok b)->Q (acc++bs.map dec))->wT g te (src.map k8) c acc Q
 | [],Q,_,c,acc,_,q=>by
  show Q acc;simpa using q [] rfl (by simp)
 | a::src,Q,step,c,acc,h,q=>by
  show g (k8 a) c λc'=>te c' λd=>wT g te (src.map k8) c' (acc++[d]) Q;refine step a cF c h (λc1 d=>wT g te (src.map k8) c1 (acc++[d]) Q) λc1 b h1 ok=>?_;refine OE R k8 dec Ok src (λb hb=>step b (aO _ hb)) c1 _ h1 λbs e ho=>?_;have:=q ((a,b)::bs) (by rw[aQ,e]) (λx hx=>by rcases aJ.mp hx with rfl | hx;exact ok;exact ho x hx);simpa using this
def Fd (h:b∣a*d) (c:cJ a b=1):b∣d:=by
 have h':=nD.mpr h;rw[iX] at h';exact nD.mp (rG (show Nat.Coprime b.natAbs a.natAbs by rw[Nat.coprime_comm];exact c) h')
theorem c5.len (l:c5 g B B'):B'.length=B.length:=by
 induction l with
 | nil=>rfl
 | cons _ _ i=>simp[i]
structure fe (n:Int) (g:Pt):Prop where
 h1:0<=g.1
 h2:0<g.2
 cop:cJ g.1 g.2=1
 half:∃m,2*g.1=m*g.2
 le:g.1<=n*g.2
def fe.bl {n:Int} (H:fe n g) (hn:n<=30):g.2<=2/\BL 6 g.1/\BL 2 g.2:=by
 obtain⟨m,e⟩:=H.half;have c:=H.cop;have h1:=H.h1;have h2:=H.h2;have d:g.2∣2:=by
  have d1:g.2∣2*g.1:=⟨m,by rw[e,fL]⟩;rw[fL] at d1;exact Fd d1 c
 have g2:g.2<=2:=vV (by decide) d;have:=H.le;have:g.1<=60:=by
  have:=aW hn (aU h2);lia
 exact⟨g2,BL.of_lt (m:=6) (by lia) (by lia),BL.of_lt (m:=2) (by lia) (by lia)⟩
def fe.zero:fe 0 (0,1):=⟨by decide,by decide,by decide,⟨0,by decide⟩,by decide⟩
def fe.add {n k:Int} (a:fe n g) (b:fe k h) (l:m9 (g.1*h.2+h.1*g.2) (g.2*h.2) G.1 G.2):fe (n+k) G:=by
 have kp:=aL a.h2 b.h2;have w:=l.worth;have p:=l.pos;refine⟨?_,p,l.cop,?_,?_⟩
 ·have q:0<=(g.1*h.2+h.1*g.2)*G.2:=cV (NM (cV a.h1 (aU b.h2)) (cV b.h1 (aU a.h2))) (aU p);rw[<-w] at q;apply jU.mp;intro k;have:=lE k kp;lia
 ·obtain⟨m1,e1⟩:=a.half;obtain⟨m2,e2⟩:=b.half;refine⟨m1+m2,fH (a:=g.2*h.2) (by lia) ?_⟩;have l1:2*G.1*(g.2*h.2)=2*(G.1*(g.2*h.2)):=by grind
  rw[l1,w];have l2:2*((g.1*h.2+h.1*g.2)*G.2)=(2*g.1*h.2+2*h.1*g.2)*G.2:=by grind
  rw[l2,e1,e2];grind
 ·have q:G.1*(g.2*h.2)<=(n+k)*G.2*(g.2*h.2):=by
   rw[w];have x1:=aW a.le (aU b.h2);have x2:=aW b.le (aU a.h2);have x3:=aW (Int.add_le_add x1 x2) (aU p);have e:(n*g.2*h.2+k*h.2*g.2)*G.2=(n+k)*G.2*(g.2*h.2):=(by grind);lia
  exact dD q kp
def KD {a b c d:Int} (cop:cJ a b=1) (b0:0<b) (d0:0<d) (e:a*d=c*b):a.natAbs<=c.natAbs/\b.natAbs<=d.natAbs:=by
 have d1:b∣a*d:=⟨c,by rw[e,fL]⟩;obtain⟨k,rfl⟩:b∣d:=Fd d1 cop;have k0:0<k:=pZ b0 d0;have ec:c=a*k:=fH (a:=b) (by lia) (by rw[<-e];grind);rw[ec,iX,iX];exact⟨jR _ (by lia),jR _ (by lia)⟩
abbrev fq:=Int × Pt × List Bt
def bxD (x:fq):D:=.tup [.int x.1,pt x.2.1,.lst (x.2.2.map k7)]
structure wf (b:Mv):Prop where
 mf:ju b
 bp:BL 210 b.2.1.1
 bq:BL 3 b.2.1.2
 bu:BL 210 b.2.2.1
 bv:BL 3 b.2.2.2
structure qr (s:Pt) (x:fq):Prop where
 ls:o8 s
 h1:0<x.2.1.1
 ho:fe 6 x.2.1
 each:∀b∈x.2.2,b.1∈xA/\Gp s x.2.1 b.1 b.2.1 b.2.2.1/\wf b.2.2.2
 way:x.2.2.map (·.1)∈SX
def qr.fm {s:Pt} (B:qr s x):Fm s x.2.1:=by
 obtain⟨_,b1,b2⟩:=B.ho.bl (by decide);exact⟨B.ls.ln,B.h1,b1.mono,B.ho.h2,b2.mono⟩
structure x5 (b:Lb):Prop where
 ip:cj b.1 b.2.1
 bs:BL 19 b.1
 bz:∀z∈b.2.1,BL 24 z.1/\BL 24 z.2
 len:b.2.1.length<=4
def qr.sz {s:Pt} (B:qr s x) (hb:b∈x.2.2):x5 (fv b):=by
 obtain⟨hP,g,_⟩:=B.each b hb;have f:=B.fm;obtain⟨_,c1,c2⟩:=B.ho.bl (by decide);have bS:BL 14 (s.2*x.2.1.2):=f.ls.bot.mul c2;have b1:BL 16 s.1:=by
  have e:s.2.natAbs<2 ^ 12:=f.ls.bot;have:=f.ls.pos;have:=B.ls.lo;have:=B.ls.hi;show s.1.natAbs<2 ^ 16;lia
 obtain⟨q1,q2,q3⟩:=Sm f.ep g (k:=19) (n:=24) ((BL.const (n:=5) (i:=24) (by decide)).mul bS) (λa ha=>by
  obtain⟨z,hz,rfl⟩:=bF.mp ha;obtain⟨⟨x0,x1⟩,y0,y1⟩:=Ab _ hP z hz;have bx:=Yg x0 x1;have r_:=Yg y0 y1;exact⟨(bx.mul bS).mono,((bx.mul (b1.mul c2)).add (r_.mul (c1.mul f.ls.bot))).mono⟩)
 have l4:∀P∈xA,P.length<=4:=by decide
 exact⟨XG f.ep g (VC f.sp f.hp (KN _ hP)),q1,q2,by rw[q3,aS];exact l4 _ hP⟩
def qr.pile {s:Pt} (B:qr s x):io s x.2.1 (x.2.2.map fv):=by
 have f:=B.fm;refine Jt f (λb hb=>⟨(B.each b hb).1,(B.each b hb).2.1⟩) B.way ?_;have key:∀l:List Bt,(∀b∈l,b∈x.2.2)->ij (l.map fv)=((x.2.1.1*(l.map λb=>oM d_ b.1).sum:Int):Rat) / ((576*x.2.1.2:Int):Rat):=by
  intro l
  induction l with
  | nil=>intro _;show (0:Rat)=_;simp;grind
  | cons b l ih =>
   intro hl;show l7 (fv b)+ij (l.map fv)=_;rw[ih λy hy=>hl y (aO _ hy),show l7 (fv b)=_ from Qb f (B.each b (hl b (by simp))).2.1,aQ,List.sum_cons,Int.mul_add,pP];grind
 have w:=Jh _ B.way;rw[dA] at w;rw[key _ λ_ h=>h,show (x.2.2.map λb=>oM d_ b.1).sum=1152 from w];have n2:=jE f.h2;simp only[gK];rw[show ((1152:Int):Rat)=1152 from rfl,show ((576:Int):Rat)=576 from rfl,show ((2:Int):Rat)=2 from rfl];grind
inductive jw (s:Pt):List fq->Pt->List Lb->Prop
 | nil:jw s [] (0,1) []
 | snoc {xs:List fq} {x:fq} {g G:Pt} {A B':List Lb}:jw s xs g A->qr s x->c5 g (x.2.2.map fv) B'->m9 (g.1*x.2.1.2+x.2.1.1*g.2) (g.2*x.2.1.2) G.1 G.2->jw s (xs++[x]) G (A++B')
structure t5 (b:Lb):Prop where
 ip:cj b.1 b.2.1
 bs:BL 40 b.1
 bz:∀z∈b.2.1,BL 70 z.1/\BL 70 z.2
 len:b.2.1.length<=4
 mf:ju b.2.2
 bp:BL 220 b.2.2.2.1.1
 bq:BL 20 b.2.2.2.1.2
 bu:BL 220 b.2.2.2.2.1
 bv:BL 20 b.2.2.2.2.2
def Qr (z:x5 b) (m:wf b.2.2) (g2:0<g.2) (b1:BL 6 g.1) (b2:BL 2 g.2) (l:ig g b b'):t5 b':=by
 obtain⟨s1,s2⟩:=l.pd.size z.bs z.bz b1 (b2.mono);have v0:=m.mf.v0;have q0:=m.mf.q0;have bg:BL 2 b.2.2.1:=by have:=m.mf.sg;exact BL.of_lt (m:=2) (by lia) (by lia)
 obtain⟨x1,x2⟩:=KD l.mf.cx l.mf.q0 q0 l.ms.x;obtain⟨y1,y2⟩:=KD l.mf.cy l.mf.v0 (aL g2 v0) l.ms.y;exact⟨l.pd.ip,s1.mono,λz hz=>⟨(s2 z hz).1.mono,(s2 z hz).2.mono⟩,by rw[l.pd.len];exact z.len,l.mf,(m.bp.mono:BL 220 _).le x1,(m.bq.mono:BL 20 _).le x2,
  (((((bg.mul b1.neg).mul m.bv).add (m.bu.mul b2)).mono:BL 220 _)).le y1,((b2.mul m.bv).mono:BL 20 _).le y2⟩
section
variable {s G:Pt} {xs:List fq}
theorem jw.ok (S':jw s xs G A) (s2:0<s.2):fe (6*xs.length) G/\(xs.length<=5->io s G A/\(∀b∈A,t5 b)/\A.length<=2*xs.length)/\(xs≠[]->0<G.1):=by
 induction S' with
 | nil=>exact⟨fe.zero,λ_=>⟨Aa,by simp,by simp⟩,λh=>absurd rfl h⟩
 | @snoc xs x g G A B' _ bx lf lo ih =>
  obtain⟨h0,p0,_⟩:=ih;have hG:=h0.add bx.ho lo;have e:6*(((xs++[x]).length:Nat):Int)=6*(xs.length:Int)+6:=by rw[bJ];simp;lia
  refine⟨by rw[e];exact hG,λl5=>?_,λ_=>?_⟩
  ·have l5':xs.length<=4:=(by rw[bJ] at l5;simp at l5;lia);obtain⟨p,sb,la⟩:=p0 (by lia);obtain⟨_,c1,c2⟩:=h0.bl (by lia);refine⟨ZZ s2 p bx.pile bx.h1 lf lo,λb hb=>?_,?_⟩
   ·rcases cC.mp hb with k | k
    ·exact sb b k
    ·obtain⟨b0,m0,l⟩:=lf.bw k;obtain⟨y,my,rfl⟩:=bF.mp m0;exact Qr (bx.sz my) (bx.each y my).2.2 h0.h2 c1 c2 l
   ·have ll:=lf.len;have:=(xN _ bx.way).1;rw[aS] at ll this;simp only[bJ,cD,eK];lia
  ·have kp:=aL h0.h2 bx.ho.h2;have q:0<(g.1*x.2.1.2+x.2.1.1*g.2)*G.2:=aL (by have:=cV h0.h1 (aU bx.ho.h2);have:=aL bx.h1 h0.h2;lia) lo.pos;rw[<-lo.worth] at q;exact pZ kp (by rw[fL];exact q)
abbrev jC (xs:List fq):List Lb:=xs.flatMap λx=>x.2.2.map fv
theorem jw.homes (S':jw s xs G A) (X Y W:Int):cnt (ck true X Y W) A=cnt (ck true X Y W) (jC xs)/\((∀b∈jC xs,ck true X Y W b≠0)->∀b∈A,ck true X Y W b≠0):=by
 induction S' with
 | nil=>exact⟨rfl,λ_ b hb=>absurd hb cY⟩
 | @snoc xs x g G A B' st bx lf lo ih =>
  have g2:0<g.2:=by
   cases st with
   | nil=>decide
   | snoc _ _ _ l=>exact l.pos
  have eh:∀b b',b∈x.2.2.map fv->ig g b b'->ck true X Y W b'=ck true X Y W b:=λb b' m l=>by
   obtain⟨y,my,rfl⟩:=bF.mp m;exact JZ g2 l (bx.each y my).2.2.mf X Y W
  have eb:jC (xs++[x])=jC xs++x.2.2.map fv:=by unfold jC;rw[jD];simp
  rw[eb];refine⟨by rw[K37.cnt_append,K37.cnt_append,ih.1,lf.cnt eh],λnz b hb=>?_⟩;rcases cC.mp hb with k | k
  ·exact ih.2 (λy hy=>nz y (dL _ hy)) b k
  ·obtain⟨b0,m0,l⟩:=lf.bw k;rw[eh b0 b m0 l];exact nz b0 (bG _ m0)
end
theorem ZK:∀ps:List (Lb × Lb),(∀p∈ps,ig g p.1 p.2)->c5 g (ps.map (·.1)) (ps.map (·.2))
 | [],_=>.nil
 | p::ps,h=>.cons (h p (by simp)) (ZK ps λq hq=>h q (aO _ hq))
structure P0 (b:Lb):Prop where
 ip:cj b.1 b.2.1
 bs:BL 1500 b.1
 bz:∀z∈b.2.1,BL 3400 z.1/\BL 3400 z.2
 len:b.2.1.length<=14
 mf:ju b.2.2
 bp:BL 300 b.2.2.2.1.1
 bq:BL 300 b.2.2.2.1.2
 bu:BL 300 b.2.2.2.2.1
 bv:BL 300 b.2.2.2.2.2
def TZ (g2:0<g.2) (b1:BL 6 g.1) (b2:BL 2 g.2) (hL:∀b∈L,P0 b) (q:∀L',c5 g L L'->Q (L'.map de)) :
  wT (dH 0) (cO GI (aC (cB 0) (aC (cB 1) aZ))) (L.map de) [none,aa (pt g)] [] Q:=by
 refine OE (λd=>∃a,d=[a,aa (pt g)]) de (λp:Lb × Lb=>de p.2) (λp=>ig g p.1 p.2) L ?_ _ [] ⟨none,rfl⟩ λps e ok=>?_
 ·rintro b mb d ⟨a,rfl⟩ K hK;obtain⟨ip,bs,bz,len,mf,p1,p2,p3,p4⟩:=hL b mb;generalize hB:de b=BD;simp only[dH,cO,aC,aZ,cB,aE,aH,aR];refine⟨g,b.1,b.2.1,b.2.2,by rw[<-hB];rfl,⟨g2,b1.mono,b2.mono⟩,⟨ip,bs,bz,len⟩,⟨mf,p1,p2,p3,p4⟩,λgt zs m' pd ms mf'=>hK _ (gt,zs,m') ⟨aa BD,rfl⟩ ⟨pd,ms,mf'⟩⟩
 ·have:=q (ps.map (·.2)) (by rw[<-e];exact ZK ps ok);rw[bV]
  rwa [dA] at this
def CL:FD:=λds Q=>∃(s:Pt) (c:Int) (xs:List fq),ds=[.lst (xs.map bxD)]/\(xs≠[]/\xs.length<=5)/\(∀x∈xs,x.1=c/\qr s x)/\∀G A,jw s xs G A->Q (.tup [.int c,pt G,.lst (A.map de)])
def Hq:∀ds Q,CL ds Q->ds.length=1:=by rintro ds Q ⟨_,_,_,rfl,_⟩;rfl
abbrev kx:fq->Int:=λx=>x.1
def o5 (xs:List fq):List (Int × List D):=xs.foldl (λm x=>putL m x.1 (bxD x)) []
def BN (xs:List fq) (x:fq):o5 (xs++[x])=putL (o5 xs) x.1 (bxD x):=by unfold o5;rw[vC];rfl
structure Y7 (xs:List fq):Prop where
 sz:(o5 xs).length<=xs.length/\∀p∈o5 xs,p.2.length<=xs.length
 nd:((o5 xs).map (·.1)).Nodup
 mem:∀c,c∈(o5 xs).map (·.1)↔∃x∈xs,x.1=c
 o3:∀c,zK (o5 xs) c=(fu kx xs c).map bxD
def Lv (xs:List fq):Y7 xs:=by
 refine Vk.snoc_ind (P:=Y7) ?_ ?_ xs
 ·exact⟨⟨bK _,λp h=>by cases h⟩,NP,λc=>⟨λh=>(by cases h),λ⟨e,h,_⟩=>(by cases h)⟩,λc=>rfl⟩
 ·rintro E e ⟨⟨h1,h2⟩,h3,h4,h5⟩;refine⟨by rw[BN,bJ];exact XB _ _ _ _ h1 h2,?_,λc=>?_,λc=>?_⟩
  ·rw[BN,BK];split
   ·exact h3
   ·rename_i n;exact jA.mpr ⟨h3,mE _ _,λa ha b hb e'=>n (by rw[cR.mp hb] at e';exact e' ▸ ha)⟩
  ·have eq:(∃x∈E++[e],x.1=c)↔(∃x∈E,x.1=c)\/e.1=c:=(by simp[cC,or_and_right,exists_or]);rw[eq,<-h4 c,BN,BK];split
   ·rename_i m;exact⟨.inl,λh=>h.elim id λh=>h ▸ m⟩
   ·rw[cC,cR];exact⟨λh=>h.imp id Eq.symm,λh=>h.imp id Eq.symm⟩
  ·rw[BN,PV,h5 c,fu,fu,tZ,cX];by_cases hc:e.1=c
   ·rw[if_pos hc];simp[kx,hc]
   ·rw[if_neg hc];simp[kx,hc]
abbrev lq:=Int × Pt × List Lb
def gm (x:lq):D:=.tup [.int x.1,pt x.2.1,.lst (x.2.2.map de)]
structure uw (fs:List Pt) (xs:List fq) (gs:List lq):Prop where
 nd:(gs.map (·.1)).Nodup
 mem:∀c,c∈gs.map (·.1)↔∃x∈xs,x.1=c
 each:∀g∈gs,∃s,o8 s/\jw s (fu kx xs g.1) g.2.1 g.2.2
structure o7 (fs:List Pt) (x:fq):Prop where
 p0:0<=x.1
 ex:∃s,fs[x.1.toNat]? = some s/\qr s x
def wN:FD:=λds Q=>∃(fs:List Pt) (xs:List fq),ds=[.lst (xs.map bxD)]/\xs.length<=5/\(∀x∈xs,o7 fs x)/\∀gs,uw fs xs gs->Q (.lst (gs.map gm))
abbrev s9 (b:Lb):Bt:=([],b)
def Ua:FD:=λds Q=>∃(h:Pt) (c:Int) (x:D) (A:List Lb),ds=[.tup [.int c,pt h,.lst (A.map de)],x]/\(Hh h/\A.length<=10/\∀b∈A,xk h (s9 b))/\∀us,kc h (A.map s9) us->Q (.tup [pt h,.lst ((mI us).map de)])
inductive m_ (xs:List fq):List lq->Pt->List Lb->Prop
 | nil:m_ xs [] (0,1) []
 | snoc {gs:List lq} {x:lq} {g G s:Pt} {T B':List Lb} {us:List (Int × List Lb)}:m_ xs gs g T->o8 s->jw s (fu kx xs x.1) x.2.1 x.2.2->kc x.2.1 (x.2.2.map s9) us->c5 g (mI us) B'->m9 (g.1*x.2.1.2+x.2.1.1*g.2) (g.2*x.2.1.2) G.1 G.2->m_ xs (gs++[x]) G (T++B')
theorem YW (xs:List fq):∀ms:List Int,ms.Nodup->(ms.flatMap λc=>fu kx xs c).Perm (xs.filter λx=>decide (x.1∈ms))
 | [],_=>by simp
 | c::ms,h=>by
  obtain⟨hc,hm⟩:=eS.mp h;have i:=YW xs ms hm;have p:=List.filter_append_perm (λx:fq=>decide (x.1=c)) (xs.filter λx=>decide (x.1∈c::ms));have e1:(xs.filter λx=>decide (x.1∈c::ms)).filter (λx:fq=>decide (x.1=c))=fu kx xs c:=by
   rw[FJ];refine vB λx _=>?_;by_cases k:x.1=c <;> simp[k,kx]
  have e2:(xs.filter λx=>decide (x.1∈c::ms)).filter (λx:fq=>!decide (x.1=c))=xs.filter λx=>decide (x.1∈ms):=by
   rw[FJ];refine vB λx _=>?_;by_cases k:x.1=c
   ·simp[k,hc]
   ·simp[k]
  rw[e1,e2] at p;rw[List.flatMap_cons];exact (zW _ i).trans p
abbrev GX (xs:List fq) (gs:List lq):List fq:=(gs.map (·.1)).flatMap λc=>fu kx xs c
def FT (xs:List fq) (gs:List lq) (x:lq):GX xs (gs++[x])=GX xs gs++fu kx xs x.1:=by unfold GX;rw[cX,jD];simp
def TB (nd:(gs.map (·.1)).Nodup):(GX xs gs).length<=xs.length:=by
 rw[(YW xs _ nd).length_eq];exact jI ..
def JS:List fq->Rat
 | []=>0
 | x::xs=>(x.2.1.1:Rat) / (x.2.1.2:Rat)+JS xs
theorem HS:∀a b:List fq,JS (a++b)=JS a+JS b
 | [],b=>by show JS b=0+JS b;grind
 | x::a,b=>by show _+JS (a++b)=_+JS a+JS b;rw[HS a b];grind
def Fp {a b c d p q:Int} (hb:0<b) (hd:0<d) (l:m9 (a*d+c*b) (b*d) p q):(p:Rat) / (q:Rat)=(a:Rat) / (b:Rat)+(c:Rat) / (d:Rat):=by
 have n1:=jE hb;have n2:=jE hd;have n3:=jE l.pos;have w:=congrArg (λx:Int=>(x:Rat)) l.worth;simp only[gK,pP] at w;grind
theorem jw.val {s G:Pt} (S':jw s xs G A):0<G.2/\(G.1:Rat) / (G.2:Rat)=JS xs:=by
 induction S' with
 | nil=>exact⟨by decide,by show ((0:Int):Rat) / ((1:Int):Rat)=0;simp;grind⟩
 | snoc _ bx _ lo ih =>
  refine⟨lo.pos,?_⟩;rw[Fp ih.1 bx.ho.h2 lo,HS,ih.2];show _=_+(_+0);grind
structure n8 (s:Pt) (x:lq) (n:Nat):Prop where
 ho:fe (6*n) x.2.1
 h1:0<x.2.1.1
 pile:io s x.2.1 x.2.2
 sb:∀b∈x.2.2,t5 b
 len:x.2.2.length<=2*n
def OY {s:Pt} (l5:xs.length<=5) (ls:o8 s) (S':jw s (fu kx xs x.1) x.2.1 x.2.2) (ne:∃y∈xs,y.1=x.1):n8 s x (fu kx xs x.1).length:=by
 have lg:(fu kx xs x.1).length<=5:=eJ (jI ..) l5;obtain⟨a,b,c⟩:=S'.ok ls.ln.pos;obtain⟨p,sb,la⟩:=b lg;refine⟨a,c λz=>?_,p,sb,la⟩;obtain⟨y,my,ey⟩:=ne;have:y∈fu kx xs x.1:=mU.mpr ⟨my,by simpa using ey⟩;rw[z] at this;cases this
def n8.btz {s:Pt} {n:Nat} (ls:o8 s) (O:n8 s x n) (hn:n<=5):Hh x.2.1/\∀b∈x.2.2,xk x.2.1 (s9 b):=by
 obtain⟨g2,b1,b2⟩:=O.ho.bl (by lia);have h1:=O.h1;have h2:=O.ho.h2;refine⟨⟨h1,h2,b1.mono,b2.mono⟩,λb hb=>?_⟩;obtain⟨ip,bs,bz,len,mf,p1,p2,p3,p4⟩:=O.sb b hb
 suffices pz:Pz x.2.1 b.1 b.2.1 from ⟨pz,mf,p1.mono,p2.mono,p3.mono,p4.mono⟩
 refine⟨ip,bs,bz,by lia,λz hz=>?_⟩;obtain⟨⟨x0,x1⟩,y0,y1⟩:=O.pile.rin b hb z.1 z.2 b.1 (aU ip.pos) (WT ip hz);unfold ht at y0 y1;have sp:=ls.ln.pos;have sh:=ip.pos;have lo:=eI ls.lo x0;have hi:=eI ls.hi x0;have z4:-4*b.1*s.2<=z.1*s.1:=by
  have:=aW x1 (aU sp);have e:z.1*(-4*s.2) = -4*(z.1*s.2):=by grind
  have e2:-4*b.1*s.2 = -4*(b.1*s.2):=by grind
  lia
 have z13:z.1*s.1<=13*b.1*s.2:=by
  have:=aW x1 (aU sp);have e:z.1*(13*s.2)=13*(z.1*s.2):=by grind
  have e2:13*b.1*s.2=13*(b.1*s.2):=by grind
  lia
 have hb1:b.1<=x.2.1.1*b.1:=by
  have:=aW (show 1<=x.2.1.1 by lia) (aU sh);lia
 have hb2:x.2.1.2*b.1<=2*b.1:=aW g2 (aU sh);constructor
 ·have q:-4*b.1<=z.2:=dD (show -4*b.1*s.2<=z.2*s.2 by lia) sp;have:=eI q (aU h2);have e:x.2.1.2*(-4*b.1) = -4*(x.2.1.2*b.1):=by grind
  have e2:-26*x.2.1.1*b.1 = -26*(x.2.1.1*b.1):=by grind
  have:=cV (aU h2) (aU sh);lia
 ·have q:x.2.1.2*(z.2*s.2)<=(x.2.1.1*b.1+13*(x.2.1.2*b.1))*s.2:=by
   have:=eI z13 (aU h2);have e1:x.2.1.2*(z.2*s.2)=(z.2*s.2-z.1*s.1)*x.2.1.2+x.2.1.2*(z.1*s.1):=(by grind);have e2:(x.2.1.1*b.1+13*(x.2.1.2*b.1))*s.2=x.2.1.1*s.2*b.1+x.2.1.2*(13*b.1*s.2):=(by grind);lia
  have q2:x.2.1.2*z.2<=x.2.1.1*b.1+13*(x.2.1.2*b.1):=dD (show x.2.1.2*z.2*s.2<=_ by rw[lU];exact q) sp;have e2:27*x.2.1.1*b.1=27*(x.2.1.1*b.1):=by grind
  lia
def On {h:Pt} {A:List Lb} {us:List (Int × List Lb)} (H:Hh h) (b1:BL 6 h.1) (b2:BL 2 h.2) (U:kc h (A.map s9) us) (hz:∀b∈A,xk h (s9 b)) (sb:∀b∈A,t5 b):(∀c∈mI us,P0 c)/\(∀c∈mI us,BL 1400 c.1/\∀z∈c.2.1,BL 3300 z.1/\BL 3300 z.2):=by
 have key:∀c∈mI us,∃b∈A,∃L,(-90<=L/\L<=90)/\xt h b.1 b.2.1 b.2.2 L c:=by
  clear sb;generalize hbs:A.map s9=bs at U;have N4:∀b∈bs,xk h b/\b.2∈A:=λb hb=>by
   rw[<-hbs] at hb;obtain⟨y,my,rfl⟩:=bF.mp hb;exact⟨hz y my,my⟩
  clear hbs hz
  induction U with
  | nil=>intro c hc;cases hc
  | @cons b bs L0 ls us a _ ih =>
   intro c hc;rcases cC.mp (show c∈ls++mI us from hc) with m | m
   ·obtain⟨j,hj,e⟩:=dU m;obtain⟨z8,mA⟩:=N4 b (by simp);have P:=z8.pz;have c3:=P.ip.cvx.len;obtain⟨z,zc⟩:∃z,z∈b.2.2.1:=by
     cases q:b.2.2.1 with
     | nil=>rw[q] at c3;simp at c3
     | cons z r=>exact⟨z,by simp⟩
    obtain⟨r1,r2⟩:=P.rows z zc;have lo:=a.lo z zc;have hi:=a.hi z zc;have ll:=a.len;have hp:=aL H.h1 P.ip.pos;have k1:L0<=27:=by
     refine dD (a:=h.1*b.2.1) ?_ hp;have e1:L0*(h.1*b.2.1)=L0*h.1*b.2.1:=(by grind);have e2:27*(h.1*b.2.1)=27*h.1*b.2.1:=(by grind);lia
    have k2:-26<=L0+ls.length:=by
     refine dD (a:=h.1*b.2.1) ?_ hp;have e1:(L0+ls.length)*(h.1*b.2.1)=(L0+ls.length)*h.1*b.2.1:=(by grind);have e2:-26*(h.1*b.2.1) = -26*h.1*b.2.1:=(by grind);lia
    exact⟨b.2,mA,L0+j,⟨by lia,by lia⟩,a.each j c (by rw[aD hj,e])⟩
   ·exact ih (λy hy=>N4 y (by simp[hy])) c m
 refine⟨λc hc=>?_,λc hc=>?_⟩
 ·obtain⟨b,hb,L,⟨l0,l1⟩,f⟩:=key c hc;obtain⟨ip,bs,bz,len,mf,p1,p2,p3,p4⟩:=sb b hb;have bL:BL 7 L:=BL.of_lt (m:=7) (by lia) (by lia);have bg:BL 2 b.2.2.1:=by have:=mf.sg;exact BL.of_lt (m:=2) (by lia) (by lia)
  obtain⟨x1,x2⟩:=KD f.mf.cx f.mf.q0 mf.q0 f.x;obtain⟨y1,y2⟩:=KD f.mf.cy f.mf.v0 (aL H.h2 mf.v0) f.y;exact⟨f.ip,f.bs.mono,λz hz=>⟨(f.bz z hz).1.mono,(f.bz z hz).2.mono⟩,f.len,f.mf,(p1.mono:BL 300 _).le x1,(p2.mono:BL 300 _).le x2,
   ((((bg.mul (bL.mul b1)).mul p4).add (p3.mul b2)).mono:BL 300 _).le y1,((b2.mul p4).mono:BL 300 _).le y2⟩
 ·obtain⟨b,hb,L,_,f⟩:=key c hc;exact⟨f.bs,f.bz⟩
def Me {c c':Lb} (b1:BL 6 g.1) (b2:BL 2 g.2) (l:P0 c) (z:BL 1400 c.1/\∀z∈c.2.1,BL 3300 z.1/\BL 3300 z.2) (k:ig g c c'):rq c':=by
 obtain⟨s1,s2⟩:=k.pd.size z.1 z.2 b1 (b2.mono);exact⟨k.pd.ip,s1.mono,λz hz=>⟨(s2 z hz).1.mono,(s2 z hz).2.mono⟩,by rw[k.pd.len];exact l.len,k.mf⟩
structure xw (ys:List fq) (G:Pt) (T:List Lb):Prop where
 ho:fe (6*ys.length) G
 pile:io (0,1) G T
 lb:∀b∈T,rq b
 len:T.length<=120*ys.length
 val:(G.1:Rat) / (G.2:Rat)=JS ys
 homes:∀X Y W,0<W->(∀b∈jC ys,ck true X Y W b≠0)->(∀b∈T,ck true X Y W b≠0)->cnt (ck true X Y W) T=cnt (ck true X Y W) (jC ys)
theorem Xi (l5:xs.length<=5) (S':m_ xs gs G T):(gs.map (·.1)).Nodup->(∀x∈gs,∃y∈xs,y.1=x.1)->xw (GX xs gs) G T:=by
 induction S' with
 | nil=>exact λ_ _=>⟨fe.zero,Aa,by simp,by simp,by show ((0:Int):Rat) / ((1:Int):Rat)=0;simp;grind,λ_ _ _ _ _ _=>rfl⟩
 | @snoc gs x g G s T B' us st ls S0 U lf lo ih =>
  intro nd ne;have tj:(gs.map (·.1)).Nodup:=by rw[cX] at nd;exact (jA.mp nd).1
  obtain⟨h0,p0,lb0,ln0,v0,hm0⟩:=ih tj λy hy=>ne y (by simp[hy]);have O:=OY l5 ls S0 (ne x (by simp));have la:=TB (xs:=xs) nd;rw[FT,bJ] at la;have lg:(fu kx xs x.1).length<=5:=by lia
  obtain⟨_,c1,c2⟩:=O.ho.bl (by lia);obtain⟨_,d1,d2⟩:=h0.bl (by lia);obtain⟨H,bz⟩:=O.btz ls lg;obtain⟨l8,z8⟩:=On H c1 c2 U bz O.sb;have em:(x.2.2.map s9).map fv=x.2.2:=by rw[dA];exact mL _
  have up:io (0,1) x.2.1 (mI us):=Sn ls.ln.pos O.h1 (λb hb=>by obtain⟨y,my,rfl⟩:=bF.mp hb;exact (O.sb y my).ip) U (by rw[em];exact O.pile);have hl:∀b'∈B',∃c∈mI us,ig g c b':=λb' ku=>lf.bw ku;have hG:=h0.add O.ho lo;rw[FT];refine⟨?_,ZZ (by decide) p0 up O.h1 lf lo,λb hb=>?_,?_,?_,λX Y W w n1 n2=>?_⟩
  ·rw[bJ];have e:6*(((GX xs gs).length+(fu kx xs x.1).length:Nat):Int)=6*((GX xs gs).length:Int)+6*((fu kx xs x.1).length:Int):=(by lia);rw[e];exact hG
  ·rcases cC.mp hb with k | k
   ·exact lb0 b k
   ·obtain⟨c,mc,l⟩:=hl b k;exact Me d1 d2 (l8 c mc) (z8 c mc) l
  ·have:=lf.len;have:=U.len;have:=O.len;rw[aS] at *;simp only[bJ];lia
  ·rw[Fp h0.h2 O.ho.h2 lo,HS,v0,S0.val.2]
  ·have eb:jC (GX xs gs++fu kx xs x.1)=jC (GX xs gs)++jC (fu kx xs x.1):=(by unfold jC;rw[jD]);rw[eb] at n1 ⊢;have nA:=λb hb=>n1 b (dL _ hb);have nB:=λb hb=>n1 b (bG _ hb);obtain⟨e1,e2⟩:=S0.homes X Y W;have wz:∀c c',c∈mI us->ig g c c'->ck true X Y W c'=ck true X Y W c:=λc c' m l=>JZ h0.h2 l (l8 c m).mf X Y W;have hs:=Cj (X:=X) (Y:=Y) H.h1 H.h2 w U (λb hb=>by obtain⟨y,my,rfl⟩:=bF.mp hb;exact⟨(O.sb y my).ip,(O.sb y my).mf⟩) (by rw[em];exact e2 nB) (λc hc=>by
    obtain⟨c',m',l⟩:=lf.fw hc;rw[<-wz c c' hc l];exact n2 c' (bG _ m'))
   rw[em] at hs;rw[K37.cnt_append,K37.cnt_append,hm0 X Y W w nA (λb hb=>n2 b (dL _ hb)),lf.cnt λb b' m l=>wz b b' m l,<-hs,e1]
def Ou:FD:=λds Q=>∃(fs:List Pt) (xs:List fq) (y:D),ds=[.lst (xs.map bxD),y]/\xs.length<=5/\(∀x∈xs,o7 fs x)/\∀gs G T,uw fs xs gs->m_ xs gs G T->Q (.tup [pt G,.lst (T.map de)])
def Wn:∀ds Q,Ou ds Q->Ax GI oV wN Ua { nx:=λ_=>Q .non,rt:=Q } (dR ["boxes","leans","height","bits","box","told"] ds):=by
 rintro ds Q ⟨fs,xs,y0,rfl,l5,hx,q⟩;rw[cS 4 rfl];unfold Ax;simp only[hU,Dv,aQ,bZ,bI,bV];generalize hX:D.lst (xs.map bxD)=XD;refine cN (λa=>a=[aa XD,aa y0,aa (pt (0,1)),none,none,none]) (λK hK=>?_) ?_
 ·walk_at "rd";exact hK _ rfl
 rintro a rfl;refine cN (λa=>a=[aa XD,aa y0,aa (pt (0,1)),some (.own []),none,none]) (λK hK=>?_) ?_
 ·walk_at "rd";exact hK _ rfl
 rintro a rfl;refine cN (λa=>∃(gs:List lq) (G:Pt) (T:List Lb) (u v:Option L2.R2.S),(uw fs xs gs/\m_ xs gs G T)/\a=[aa XD,aa y0,aa (pt G),some (.own (T.map de)),u,v]) (λK hK=>?_) ?_
 ·simp only[mJ,riL,cO,aC,aZ,cB,aE];refine⟨fs,xs,by rw[hX],l5,hx,λgs gr=>?_⟩;refine jT (λys a=>∃(dn td:List lq) (g:Pt) (T:List Lb) (u v:Option L2.R2.S),gs=dn++td/\ys=td.map gm/\m_ xs dn g T/\a=[aa XD,aa y0,aa (pt g),some (.own (T.map de)),u,v]) ?_ ?_ _ _ ⟨[],gs,(0,1),[],none,none,rfl,rfl,.nil,rfl⟩
  ·rintro y ys a ⟨dn,td,g,T,u,v,ec,ey,S',rfl⟩ F hr qz hn _;cases td with
   | nil=>cases ey
   | cons x td =>
    cases ey;have mx:x∈gs:=(by rw[ec];simp);have W7:(dn.map (·.1)++(x::td).map (·.1)).Nodup:=(by have:=gr.nd;rw[ec,cX] at this;exact this);have nd:((dn++[x]).map (·.1)).Nodup:=by
     have e:dn.map (·.1)++(x::td).map (·.1)=(dn++[x]).map (·.1)++td.map (·.1):=(by simp);rw[e] at W7;exact (jA.mp W7).1
    have nem:∀w∈gs,∃y∈xs,y.1=w.1:=λw hw=>(gr.mem w.1).mp (dI hw);have K0:=Xi l5 S' (jA.mp W7).1 λw hw=>nem w (by rw[ec];simp[hw]);have la:=TB (xs:=xs) nd;rw[FT,bJ] at la;obtain⟨s,ls,S0⟩:=gr.each x mx;have O:=OY l5 ls S0 (nem x mx);obtain⟨_,c1,c2⟩:=O.ho.bl (by lia);obtain⟨_,d1,d2⟩:=K0.ho.bl (by lia);obtain⟨H,bz⟩:=O.btz ls (by lia);have lt:=K0.len;have lo:=O.len;have eX:gm x = .tup [.int x.1,pt x.2.1,.lst (x.2.2.map de)]:=rfl;unfold LU;simp only[dH,aR,aV];refine cN (λa=>∃us,kc x.2.1 (x.2.2.map s9) us/\a=[aa XD,aa y0,aa (pt g),some (.own (T.map de)),aa (gm x),aa (.tup [pt x.2.1,.lst ((mI us).map de)])]) (λK2 gn=>?_) ?_
    ·simp only[eQ,cO,aC,aZ,cB,aE,aH,aR,aV];exact⟨x.2.1,x.1,y0,x.2.2,rfl,⟨H,by lia,bz⟩,λus U=>gn _ ⟨us,U,rfl⟩⟩
    rintro a ⟨us,U,rfl⟩;obtain⟨l8,_⟩:=On H c1 c2 U bz O.sb;have lu:=U.len;rw[aS] at lu;refine cN (λa=>∃B',c5 g (mI us) B'/\a=[aa XD,aa y0,aa (pt g),some (.own ((T++B').map de)),aa (gm x),aa (.tup [pt x.2.1,.lst ((mI us).map de)])]) (λK2 gn=>?_) ?_
    ·simp only[IL,pE,riL,r2,aM,rC,lP,yJ,VH,SS,aQ,bZ,bI,bV,aE,aH,aR,aV];refine⟨pI (by rw[aS];lia),TZ K0.ho.h2 d1 d2 l8 λL' lf=>?_⟩;have:=lf.len;refine⟨pI (by rw[aS,aS];lia),?_⟩;rw[<-cX];exact gn _ ⟨L',lf,rfl⟩
    rintro a ⟨B',lf,rfl⟩;simp only[eQ,cO,aC,aZ,r2,cB,aM,rC,mW,aE,aH,aR,aV];refine⟨g.1,g.2,x.2.1.1,x.2.1.2,rfl,⟨K0.ho.h2,O.ho.h2⟩,⟨d1.mono,d2.mono,c1.mono,c2.mono⟩,λp q' l=>?_⟩;exact hn _ ⟨dn++[x],td,(p,q'),T++B',aa (gm x),aa (.tup [pt x.2.1,.lst ((mI us).map de)]),by rw[ec];simp,rfl,.snoc S' ls S0 U lf l,rfl⟩
  ·rintro a ⟨dn,td,g,T,u,v,ec,ey,S',rfl⟩;have:td=[]:=(by simpa using ey.symm);subst this;rw[dN] at ec;subst ec;exact hK _ ⟨gs,g,T,u,v,⟨gr,S'⟩,rfl⟩
 rintro a ⟨gs,G,T,u,v,⟨gr,S'⟩,rfl⟩;simp only[wE,L2.R2.S.fz,fI,jW,aC,aZ,cB,aE,aH,aR,aV,cD,eK];exact⟨sz2,q gs G T gr S'⟩
def NA:FD:=λds Q=>∃(ns:List Int) (fs:List Pt),ds=[il ns,et fs]/\(1<=fs.length/\fs.length<=4/\ns.length<=63)/\(∀f∈fs,o8 f)/\∀xs:List fq,xs.length<=5->(∀x∈xs,o7 fs x)->Q (.lst (xs.map bxD))
def Ai:∀ds Q,NA ds Q->EQ GH NB SZ NJ { nx:=λ_=>Q .non,rt:=Q } (dR ["_law_script","_law_leans_here","_law_found","_law_k","_law_number","_law_place","_law_height","_law_bits_here","_law_piece"] ds):=by
 rintro ds Q ⟨ns,fs,rfl,⟨f1,f4,n63⟩,hf,q⟩;rw[cS 7 rfl];unfold EQ;simp only[hU,Rz,aQ,bZ,bI,bV];generalize hS:il ns=SD;refine cN (λg=>g=[aa SD,aa (et fs),some (.own []),none,none,none,none,none,none]) (λK hK=>?_) ?_
 ·walk_at "rd";exact hK _ rfl
 rintro g rfl;refine cN (λg=>∃(xs:List fq) (a3 a4 a5 a6 a7 a8:Option L2.R2.S),(xs.length<=5/\∀x∈xs,o7 fs x)/\g=[aa SD,aa (et fs),some (.own (xs.map bxD)),a3,a4,a5,a6,a7,a8]) (λK hK=>?_) ?_
 ·rw[<-hS];simp only[mJ,Sb,aC,aZ,rC,rCB,r1,aM,nX,YB,aE,aS];rw[hS];obtain⟨m,hm,m7⟩:∃m:Int,m=(if (7:Int)<(ns.length:Int) then 7 else (ns.length:Int))/\m<=7:=⟨_,rfl,by split <;> lia⟩;rw[<-hm];refine⟨⟨⟨by decide,by decide⟩,⟨by rw[hm];split <;> lia,by lia⟩⟩,?_⟩;have n5:(m-2).toNat<=5:=by lia
  generalize (m-2).toNat=n at n5;refine HQ 2 n (λi g=>∃(xs:List fq) (a3 a4 a5 a6 a7 a8:Option L2.R2.S),(xs.length<=i/\∀x∈xs,o7 fs x)/\g=[aa SD,aa (et fs),some (.own (xs.map bxD)),a3,a4,a5,a6,a7,a8]) ?_ ?_ _ ⟨[],none,none,none,none,none,none,⟨eV _,by simp⟩,rfl⟩
  ·rintro i g hi ⟨xs,a3,a4,a5,a6,a7,a8,⟨lx,hx⟩,rfl⟩ F _ _ hn _;unfold xG;simp only[dH,aR,aV];refine cN (λg=>∃k:Int,(0<=k/\k<big)/\g=[aa SD,aa (et fs),some (.own (xs.map bxD)),aa (.int (2+(i:Int))),aa (.int k),a5,a6,a7,a8]) (λK2 gn=>?_) ?_
   ·simp only[eQ,cO,aC,aZ,cB,aE,aH,aR,aV];exact⟨ns,2+i,by rw[hS],by lia,λc c0 c1 _=>gn _ ⟨c,⟨c0,c1⟩,rfl⟩⟩
   rintro g ⟨k,⟨k0,k1⟩,rfl⟩;have fl:(0:Int)<fs.length:=(by lia);refine cN (λg=>∃c:Int,(0<=c/\c<fs.length)/\g=[aa SD,aa (et fs),some (.own (xs.map bxD)),aa (.int (2+(i:Int))),aa (.int k),aa (.int c),a6,a7,a8]) (λK2 gn=>?_) ?_
   ·walk_at "rd";simp only[aS];exact⟨⟨by lia⟩,gn _ ⟨_,eZ fl,rfl⟩⟩
   rintro g ⟨c,hc,rfl⟩;refine cN (λg=>∃c:Int,(0<=c/\c<fs.length)/\g=[aa SD,aa (et fs),some (.own (xs.map bxD)),aa (.int (2+(i:Int))),aa (.int k),aa (.int c),a6,a7,a8]) (λK2 gn=>?_) ?_
   ·simp only[kJ,dZ,r2,cO,aC,aZ,cB,rC,aE,aH];refine⟨ns,1,by rw[hS],by decide,λd d0 d1 _=>?_⟩;simp only[nO,oN];refine⟨lV,?_⟩;by_cases e:d.fmod 2=1
    ·simp only[e,decide_true,if_true,aN,if_false,eQ,r1,r2,cO,aC,aZ,cB,aM,rC,aE,aH,aR,aV];refine⟨ns,1,by rw[hS],by decide,λd' _ _ _=>?_⟩;simp only[jS,nO,nX,aS];exact⟨(BL.const (n:=9000) (by decide)).divOk (by decide),⟨by lia⟩,gn _ ⟨_,eZ fl,rfl⟩⟩
    ·simp only[e,decide_false,aN,if_false,gQ];exact gn _ ⟨c,hc,rfl⟩
   clear hc c;rintro g ⟨c,⟨c0,c1⟩,rfl⟩;obtain⟨s,hs⟩:∃s,fs[c.toNat]? = some s:=⟨fs[c.toNat]'(by lia),aD _⟩;have ls:=hf s (dM hs);refine cN (λg=>∃h:Pt,(0<h.1/\fe 6 h)/\g=[aa SD,aa (et fs),some (.own (xs.map bxD)),aa (.int (2+(i:Int))),aa (.int k),aa (.int c),aa (pt h),a7,a8]) (λK2 gn=>?_) ?_
   ·walk_at "rd";obtain⟨a0,a1⟩:=eZ (a:=k.fdiv 7) (b:=6) (by decide);obtain⟨b0,b1⟩:=eZ (a:=k.fdiv 11) (b:=2) (by decide);refine⟨(BL.const (n:=9000) (by decide)).divOk (by decide),lV,(BL.const (n:=9000) (by decide)).divOk (by decide),lV,?_⟩;have bb:BL 10 (1+(k.fdiv 11).fmod 2):=BL.of_lt (m:=10) (by lia) (by lia);refine⟨_,_,rfl,⟨by lia,bb.mono⟩,λp q' l=>gn _ ⟨(p,q'),?_,rfl⟩⟩;have w:=l.worth;have ha:1<=1+(k.fdiv 7).fmod 6/\1+(k.fdiv 7).fmod 6<=6:=(by lia);clear a0 a1;generalize 1+(k.fdiv 7).fmod 6=a at *;have hb:1+(k.fdiv 11).fmod 2=1\/1+(k.fdiv 11).fmod 2=2:=(by lia);generalize 1+(k.fdiv 11).fmod 2=b at *;have lp:=l.pos;have pa:0<p:=by
     have:0<a*q':=aL (by lia) lp;rw[<-w,fL] at this;exact pZ (by lia) this
    refine⟨pa,aU pa,lp,l.cop,?_,?_⟩
    ·dsimp only;rcases hb with rfl | rfl
     ·exact⟨2*a,by rw[lU,<-w];lia⟩
     ·exact⟨a,by rw[<-w];lia⟩
    ·dsimp only;have m1:=aW (show a<=6 by lia) (aU lp);rcases hb with rfl | rfl <;> lia
   rintro g ⟨h,⟨h1,ho⟩,rfl⟩;obtain⟨_,e1,e2⟩:=ho.bl (by decide);have f:Fm s h:=⟨ls.ln,h1,e1.mono,ho.h2,e2.mono⟩;refine cN (λg=>g=[aa SD,aa (et fs),some (.own (xs.map bxD)),aa (.int (2+(i:Int))),aa (.int k),aa (.int c),aa (pt h),some (.own []),a8]) (λK2 gn=>?_) ?_
   ·walk_at "rd";exact gn _ rfl
   rintro g rfl;refine cN (λg=>∃(bs:List Bt) (u:Option L2.R2.S),qr s (c,h,bs)/\g=[aa SD,aa (et fs),some (.own (xs.map bxD)),aa (.int (2+(i:Int))),aa (.int k),aa (.int c),aa (pt h),some (.own (bs.map k7)),u]) (λK2 gn=>?_) ?_
   ·simp only[mJ,riL,cO,aC,aZ,cB,aM,r2,rC,aE,aH];refine Da c0 (by lia) λs' jx=>?_;rw[hs] at jx;cases jx;simp only[jS,nO];obtain⟨a0,a1⟩:=eZ (a:=k.fdiv 13) (b:=4) (by decide);refine⟨(BL.const (n:=9000) (by decide)).divOk (by decide),lV,s,h,_,rfl,⟨f,a0,a1⟩,λL hL hg=>?_⟩;have wi:=Xs a0 a1;obtain⟨wl,wp⟩:=xN _ wi;rw[<-hL] at wi wl wp;rw[aS] at wl;refine jT (λys g=>∃(dn td:List (List Pt × Int × List Pt)) (bs:List Bt) (u:Option L2.R2.S),L=dn++td/\ys=td.map (λp=>pc p.2.1 p.2.2)/\(bs.map (λb=>(b.1,b.2.1,b.2.2.1))=dn/\∀b∈bs,b.1∈xA/\Gp s h b.1 b.2.1 b.2.2.1/\wf b.2.2.2)/\g=[aa SD,aa (et fs),some (.own (xs.map bxD)),aa (.int (2+(i:Int))),aa (.int k),aa (.int c),aa (pt h),some (.own (bs.map k7)),u]) ?_ ?_ _ _ ⟨[],L,[],a8,rfl,rfl,⟨rfl,by simp⟩,rfl⟩
    ·rintro y ys g ⟨dn,td,bs,u,ec,ey,⟨eb,qj⟩,rfl⟩ F' hr' hbk' M_ _;cases td with
     | nil=>cases ey
     | cons b td =>
      cases ey;have mb:b∈L:=(by rw[ec];simp);have lb:bs.length<=2:=by
       have l1:=congrArg fU eb;have l2:=congrArg fU ec;simp at l1 l2;lia
      generalize Q9:pc b.2.1 b.2.2=PD;unfold xF;walk_at "rd";simp only[aS];have bd:BL 201 (k.fdiv 52):=by
       have e:big<((2 ^ 200:Nat):Int):=(by decide);rw[dC _ (by decide)];exact BL.of_lt (m:=201) (by lia) (by lia)
      refine⟨(BL.const (n:=9000) (by decide)).divOk (by decide),(BL.const (n:=9000) (by decide)).mulOk (BL.of_lt (m:=20) (by lia) (by lia)),(BL.const (n:=9000) (by decide)).mulOk (BL.of_lt (m:=20) (by lia) (by lia)),?_⟩;refine⟨_,rfl,((bd.add (BL.of_lt (m:=20) (by lia) (by lia))).add (BL.of_lt (m:=20) (by lia) (by lia))).mono,λm mf bm=>?_⟩;refine⟨pI (by simp;lia),M_ _ ⟨dn++[b],td,bs++[(b.1,b.2.1,b.2.2,m)],aa PD,by rw[ec];simp,rfl,⟨by rw[cX,eb];rfl,λx hx=>?_⟩,?_⟩⟩
      ·rcases cC.mp hx with z | z
       ·exact qj x z
       ·rw[cR.mp z];exact⟨wp b.1 (dI mb),hg b mb,mf,bm.1,bm.2.1,bm.2.2.1,bm.2.2.2⟩
      ·rw[cX,<-Q9];rfl
    ·rintro g ⟨dn,td,bs,u,ec,ey,⟨eb,qj⟩,rfl⟩;have:td=[]:=(by simpa using ey.symm);subst this;rw[dN] at ec;subst ec;refine gn _ ⟨bs,u,⟨ls,h1,ho,qj,?_⟩,rfl⟩;rw[<-eb,dA] at wi;exact wi
   rintro g ⟨bs,u,B,rfl⟩;simp only[wE,L2.R2.S.fz,EL,jW,aC,aZ,cB,aE,aH,aR,aV,cD,eK];refine⟨sz3,pI (by simp;lia),hn _ ⟨xs++[(c,h,bs)],aa (.int (2+(i:Int))),aa (.int k),aa (.int c),aa (pt h),aa (.lst (bs.map k7)),u,⟨by simp;lia,λx U_=>?_⟩,?_⟩⟩
   ·rcases cC.mp U_ with z | z
    ·exact hx x z
    ·rw[cR.mp z];exact⟨c0,s,hs,B⟩
   ·rw[cX];rfl
  ·rintro g ⟨xs,a3,a4,a5,a6,a7,a8,⟨lx,hx⟩,rfl⟩;exact hK _ ⟨xs,a3,a4,a5,a6,a7,a8,⟨by lia,hx⟩,rfl⟩
 rintro g ⟨xs,a3,a4,a5,a6,a7,a8,⟨lx,hx⟩,rfl⟩;simp only[wE,L2.R2.S.fz,fI,cB,aE,aH,aR,aV];exact q xs lx hx
def Us (n:Nat) (b:Bt):c4 (n+5) (k7 b) (k7 b)=some true:=by
 show f_ (c4 (n+4)) _ _=_;refine pB _ λx hx=>?_;simp only[aJ,cY,or_false] at hx;rcases hx with rfl | rfl
 ·show f_ (c4 (n+3)) _ _=_;refine pB _ λx hx=>?_;simp only[aJ,cY,or_false] at hx;rcases hx with rfl | rfl
  ·exact CS (n+2) _
  ·show f_ (c4 (n+2)) _ _=_;exact VU λz _=>HM n z
 ·show f_ (c4 (n+3)) _ _=_;refine pB _ λx hx=>?_;simp only[aJ,cY,or_false] at hx;rcases hx with rfl | rfl | rfl
  ·exact CS (n+2) _
  ·exact HM (n+1) _
  ·exact HM (n+1) _
def Ut (xs:List fq):f_ (c4 8) (xs.map bxD) (xs.map bxD)=some true:=VU λx _=>by
 show f_ (c4 7) _ _=_;refine pB _ λy hy=>?_;simp only[aJ,cY,or_false] at hy;rcases hy with rfl | rfl | rfl
 ·exact CS 6 _
 ·exact HM 5 _
 ·show f_ (c4 6) _ _=_;exact VU λb _=>Us 1 b
def Lc {a b c d:Int} (g1:cJ a b=1) (g2:cJ c d=1) (b0:0<b) (d0:0<d) (e:(a:Rat) / (b:Rat)=(c:Rat) / (d:Rat)):a=c/\b=d:=by
 have n1:=jE b0;have n2:=jE d0;have e':a*d=c*b:=by
  apply pQ.mp;simp only[gK];grind
 obtain⟨_,l1⟩:=KD g1 b0 d0 e';obtain⟨_,l2⟩:=KD g2 d0 b0 e'.symm;have eb:b=d:=by lia
 subst eb;exact⟨fH (by lia) e',rfl⟩
theorem XR {fs:List Pt} (hx:∀x∈xs,o7 fs x):(jC xs).length<=2*xs.length:=by
 induction xs with
 | nil=>simp
 | cons x xs ih =>
  have i:=ih λy hy=>hx y (aO _ hy);obtain⟨_,s,_,B⟩:=hx x (by simp);have:=(xN _ B.way).1;rw[aS] at this;show ((x.2.2.map fv)++jC xs).length<=_;rw[bJ,aS];simp only[cD];lia
end K38
namespace K34
open K33
end K34
namespace K33
end K33
namespace K34
open K33
abbrev u5:=Int × List Pt
def Dz {a b:List u5} (h1:a.Pairwise λx y=>iR (pD y) (pD x)=false) (h2:b.Pairwise λx y=>iR (pD y) (pD x)=false) (p:a.Perm b):a=b :=
 vW (le:=λx y=>iR (pD y) (pD x)=false) (λx y _ _ h h'=>Lr (yQ _ _ h' h)) h1 h2 p
def Uv (qs:List u5) (q:Q (.bl true)):ON (.lst (qs.map li)) (.lst (qs.map li)) Q:=by
 have l:∀n xs ys,c4 (n+1) (.lst xs) (.lst ys)=f_ (c4 n) xs ys:=λn xs ys=>by rw[c4]
 have:c4 9 (.lst (qs.map li)) (.lst (qs.map li))=some true:=by
  rw[l,Yn _ _ λx=>by
   show c4 8 (.tup [.int x.1,.tup (x.2.map mm)]) (.tup [.int x.1,.tup (x.2.map mm)])=some true;rw[K33.eqT];exact Uu 4 x.1 x.2]
 unfold ON;rw[this];exact q
abbrev GB:=Int × List Pt × Mv
abbrev H_ (g:GB):D:=.tup [uq g.1 g.2.1,ji g.2.2]
structure ki (g:GB):Prop where
 pos:0<g.1
 b:BL 40 g.1
 ne:g.2.1≠[]
 len:g.2.1.length<=4
 zs:∀z∈g.2.1,BL 100 z.1/\BL 100 z.2
 mv:u0 g.2.2
 p:BL 300 g.2.2.2.1.1
 q:BL 20 g.2.2.2.1.2
 u:BL 300 g.2.2.2.2.1
 v:BL 20 g.2.2.2.2.2
def DU (g:GB) (sh:Int) (zs:List Pt):Prop:=p7 g.1 g.2.1 g.2.2 sh zs
def UZ:FD:=λds Q=>∃g:GB,ds=[H_ g]/\ki g/\∀sh zs,DU g sh zs->Q (uq sh zs)
def IJ:∀ds Q,UZ ds Q->CD NC { nx:=λ_=>Q .non,rt:=Q } (dR ["_law_bit","_law_piece","_law_move_here","_law_sign","_law_dx","_law_dy","_law_by","_law_right_here","_law_up"] ds):=by
 rintro ds Q ⟨⟨bj,mn,sg,⟨p,q⟩,u,v⟩,rfl,ok,k⟩;obtain⟨pos,x9,ne,hl,bz,hm,bp,bq,bu,bv⟩:=ok;dsimp only at pos x9 ne hl bz bp bq bu bv;have q0:0<q:=hm.q0;have v0:0<v:=hm.v0;have hsg:sg=1\/sg = -1:=hm.sg;have r9:BL 1 sg:=by rcases hsg with rfl | rfl <;> exact BL.const (by decide)
 rw[cS 8 rfl];unfold CD;simp only[hU,Wu,aQ,bZ,bI,bV];generalize hB:H_ (bj,mn,sg,(p,q),u,v)=BD;refine cN (λc=>c=[aa BD,aa (uq bj mn),aa (ji (sg,(p,q),u,v)),none,none,none,none,none,none]) (λK hK=>?_) ?_
 ·rw[<-hB] at hK ⊢;walk_at "rd";exact hK _ rfl
 rintro c rfl;refine cN (λc=>c=[aa BD,aa (uq bj mn),aa (ji (sg,(p,q),u,v)),aa (.int sg),aa (pt (p,q)),aa (pt (u,v)),none,none,none]) (λK hK=>?_) ?_
 ·unfold ji at hK ⊢;walk_at "rd";exact hK _ rfl
 rintro c rfl;refine cN (λc=>c=[aa BD,aa (uq bj mn),aa (ji (sg,(p,q),u,v)),aa (.int sg),aa (pt (p,q)),aa (pt (u,v)),aa (.int (q*v)),none,none]) (λK hK=>?_) ?_
 ·walk_at "rd";exact⟨bq.mulOk bv,hK _ rfl⟩
 rintro c rfl;refine cN (λc=>c=[aa BD,aa (uq bj mn),aa (ji (sg,(p,q),u,v)),aa (.int sg),aa (pt (p,q)),aa (pt (u,v)),aa (.int (q*v)),aa (.int (p*v*bj)),none]) (λK hK=>?_) ?_
 ·walk_at "rd";exact⟨bp.mulOk bv,(bp.mul bv).mulOk x9,hK _ rfl⟩
 rintro c rfl;refine cN (λc=>c=[aa BD,aa (uq bj mn),aa (ji (sg,(p,q),u,v)),aa (.int sg),aa (pt (p,q)),aa (pt (u,v)),aa (.int (q*v)),aa (.int (p*v*bj)),aa (.int (u*q*bj))]) (λK hK=>?_) ?_
 ·walk_at "rd";exact⟨bu.mulOk bq,(bu.mul bq).mulOk x9,hK _ rfl⟩
 rintro c rfl;have F_:=bq.mul bv;simp only[fI,cO,aC,aZ,r2,aM,cB,rC,pE,riT,L2.R2.S.val,aE,aH,mW,lP,fC];refine⟨x9.mulOk F_,pI (by rw[aS];lia),?_⟩;refine uJ (λc=>∃a b,c=[a,b,aa (.int sg),aa (.int (q*v)),aa (.int (p*v*bj)),aa (.int (u*q*bj))]) pt (λz=>pt (pi sg bj p q u v z)) mn (λz hz c hρ K hK=>?_) ⟨none,none,rfl⟩ ?_
 ·obtain⟨a,b,rfl⟩:=hρ;obtain⟨b1,b2⟩:=bz z hz;walk_at "rd";exact⟨r9.mulOk b1,(r9.mul b1).mulOk F_,r9.mulOk b2,(r9.mul b2).mulOk F_,hK _ ⟨_,_,rfl⟩⟩
 ·refine⟨bj*(q*v),mn.map (pi sg bj p q u v),by rw[show et (mn.map (pi sg bj p q u v)) = .lst (mn.map λz=>pt (pi sg bj p q u v z)) by unfold et;rw[dA];rfl],⟨aL pos (aL q0 v0),(x9.mul F_).mono⟩,⟨by simpa using ne,by rw[aS];lia⟩,λm sh zs j d=>?_⟩;exact k sh _ (YK d)
def UY:FD:=λds Q=>∃(gs:List GB) (hm:GB->u5),ds=[.lst (gs.map H_)]/\(gs.length<64/\∀g∈gs,ki g)/\(∀g∈gs,∀sh zs,DU g sh zs->(sh,zs)=hm g)/\∀qs:List u5,qs.Perm (gs.map hm)->(qs.Pairwise λx y=>iR (pD y) (pD x)=false)->Q (.lst (qs.map li))
def QK:∀ds Q,UY ds Q->ES UZ { nx:=λ_=>Q .non,rt:=Q } (dR ["_law_bits"] ds):=by
 rintro ds Q ⟨gs,hm,rfl,⟨hl,ok⟩,one,k⟩;rw[cS 0 rfl];unfold ES;simp only[hU,Zq,aQ,bZ,bI,bV];simp only[fI,Dr,pE,riL,cB,aE];refine⟨pI (by rw[aS];lia),?_⟩;refine uJ (λb=>∃a,b=[a]) H_ (λg=>li (hm g)) gs (λg hg b hρ K hK=>?_) ⟨none,rfl⟩ ?_
 ·obtain⟨a,rfl⟩:=hρ;simp only[dH,aR,cO,aC,aZ,cB,aE];refine⟨g,rfl,ok g hg,λsh zs h=>?_⟩;have e:=one g hg sh zs h;rw[show uq sh zs=li (sh,zs) from rfl,e];exact hK _ ⟨_,rfl⟩
 ·exact⟨gs.map hm,by rw[dA];rfl,by simpa using hl,λqs p s=>k qs p s⟩
end K34
namespace K33
end K33
namespace K34
open K33
abbrev g1 (e:Ent):GB:=(e.2.1.1,Zy e.2.1,e.2.2)
def Qe (ok:ki g):∃r:u5,DU g r.1 r.2:=by
 obtain⟨sh,zs,T⟩:=Gh (aL ok.pos (aL ok.mv.q0 ok.mv.v0)) (A:=g.2.1.map (pi g.2.2.1 g.1 g.2.2.2.1.1 g.2.2.2.1.2 g.2.2.2.2.1 g.2.2.2.2.2)) (by simpa using ok.ne);exact⟨(sh,zs),T⟩
noncomputable def hm (g:GB):u5:=open Classical in if h:∃r:u5,DU g r.1 r.2 then choose h else (0,[])
def Lh (ok:ki g):DU g (hm g).1 (hm g).2:=by
 have h:=Qe ok;unfold hm;rw[dif_pos h];exact Classical.choose_spec h
end K34
theorem Oh {zs:List Pt} (h:3<=zs.length):∃x y z r,zs=x::y::z::r:=by
 cases zs with
 | nil=>cases h
 | cons x zs =>
  cases zs with
  | nil=>simp at h
  | cons y zs =>
   cases zs with
   | nil=>simp at h
   | cons z r=>exact⟨x,y,z,r,rfl⟩
def Td (ip:cj sh zs):∃X Y W,0<W/\ie sh zs X Y W:=by
 have c:=ip.cvx;have h3:=c.len;have h0:=ip.pos;obtain⟨x,y,z,r,rfl⟩:=Oh h3;refine⟨x.1+y.1+z.1,x.2+y.2+z.2,3*sh,by lia,λa b k=>?_⟩;have e:c_ sh (x.1+y.1+z.1) (x.2+y.2+z.2) (3*sh) a b=sh*(cK a b x+cK a b y+cK a b z):=by unfold c_ SE g7 cK;dsimp only;grind
 rw[e];refine aL h0 ?_;have hx:=c.side k (q:=x) (by simp);have hy:=c.side k (q:=y) (by simp);have hz:=c.side k (q:=z) (by simp);have nd:=c.nodup;simp only[eS,aJ,not_or] at nd;obtain⟨⟨xy,xz,_⟩,⟨yz,_⟩,_⟩:=nd;have big:∀q∈x::y::z::r,q=a\/q=b\/0<cK a b q:=λq hq=>by
  by_cases h1:q=a
  ·exact .inl h1
  ·by_cases h2:q=b
   ·exact .inr (.inl h2)
   ·exact .inr (.inr (c.strict a b k q hq h1 h2))
 rcases big x (by simp) with e1 | e1 | e1
 ·rcases big y (by simp) with e2 | e2 | e2
  ·exact (xy (e1.trans e2.symm)).elim
  ·rcases big z (by simp) with e3 | e3 | e3
   ·exact (xz (e1.trans e3.symm)).elim
   ·exact (yz (e2.trans e3.symm)).elim
   ·lia
  ·lia
 ·rcases big y (by simp) with e2 | e2 | e2
  ·rcases big z (by simp) with e3 | e3 | e3
   ·exact (yz (e2.trans e3.symm)).elim
   ·exact (xz (e1.trans e3.symm)).elim
   ·lia
  ·exact (xy (e1.trans e2.symm)).elim
  ·lia
 ·lia
namespace K41
open K36 K34 K33
def UN {s1 s2 X Y W X' Y' W' c1 c2:Int} (h1:0<c1) (h2:0<c2) (l:∀a b,cc A a b->∃p q,cc B p q/\c1*c_ s1 X Y W a b=c2*c_ s2 X' Y' W' p q) (r:∀p q,cc B p q->∃a b,cc A a b/\c1*c_ s1 X Y W a b=c2*c_ s2 X' Y' W' p q) :
  (ft s1 A X Y W↔ft s2 B X' Y' W')/\(ie s1 A X Y W↔ie s2 B X' Y' W'):=by
 refine⟨⟨λh p q c=>?_,λh a b c=>?_⟩,⟨λh p q c=>?_,λh a b c=>?_⟩⟩
 ·obtain⟨a,b,k,e⟩:=r p q c;have:=(iE h1 h2 e).2;have:=h a b k;lia
 ·obtain⟨p,q,k,e⟩:=l a b c;have:=(iE h1 h2 e).2;have:=h p q k;lia
 ·obtain⟨a,b,k,e⟩:=r p q c;exact (iE h1 h2 e).1.mp (h a b k)
 ·obtain⟨p,q,k,e⟩:=l a b c;exact (iE h1 h2 e).1.mpr (h p q k)
def map_same {s1 s2 X Y W X' Y' W' c1 c2:Int} (h1:0<c1) (h2:0<c2) (e:∀p q,c1*c_ s1 X Y W (f p) (f q)=c2*c_ s2 X' Y' W' p q):(ft s1 (B.map f) X Y W↔ft s2 B X' Y' W')/\(ie s1 (B.map f) X Y W↔ie s2 B X' Y' W') :=
 UN h1 h2 (λa b c=>by obtain⟨p,q,k,rfl,rfl⟩:=uK c;exact⟨p,q,k,e p q⟩) λp q c=>⟨_,_,yL (f:=f) c,e p q⟩
def told_in {e sh X Y W:Int} (he:0<e) (T:Told e A sh zs):(ft sh zs X Y W↔ft e A X Y W)/\(ie sh zs X Y W↔ie e A X Y W):=by
 have hs:=IW he T;obtain⟨A',r,eq⟩:=T.ring;have key:∀{a b p q:Pt},scl e a=scl sh p->scl e b=scl sh q->e*e*c_ sh X Y W a b=sh*sh*c_ e X Y W p q:=λ{a b p q} ea eb=>by
  unfold scl at ea eb;simp only[eM] at ea eb;rw[<-CG,<-CG];have l:e*e*((b.1-a.1)*(Y*sh-a.2*W)-(b.2-a.2)*(X*sh-a.1*W))=(e*b.1-e*a.1)*(Y*sh*e-e*a.2*W)-(e*b.2-e*a.2)*(X*sh*e-e*a.1*W):=by grind
  rw[l,ea.1,ea.2,eb.1,eb.2];grind
 refine UN (aL he he) (aL hs hs) (λa b c=>?_) λp q c=>?_
 ·have k:=yL (f:=scl e) c;rw[eq] at k;obtain⟨x,y,k,ex,ey⟩:=uK k;exact⟨x,y,CO r k,key ex.symm ey.symm⟩
 ·have k:=yL (f:=scl sh) (CO r.symm c);rw[<-eq] at k;obtain⟨x,y,k,ex,ey⟩:=uK k;exact⟨x,y,k,key ex ey⟩
end K41
namespace K35
open K38 K37 K36 K34 K33
def Xn (mf:ju m) (X Y W:Int):ft (bj*(m.2.1.2*m.2.2.2)) (mn.map (pi m.1 bj m.2.1.1 m.2.1.2 m.2.2.1 m.2.2.2)) X Y W↔ft bj mn (bX m X W) (bY m Y W) (bW m W):=by
 obtain⟨sg,⟨p,q⟩,u,v⟩:=m;have q0:0<q:=mf.q0;have v0:0<v:=mf.v0;have ss:sg*sg=1:=by rcases (mf.sg:sg=1\/sg = -1) with rfl | rfl <;> rfl
 refine (K41.map_same (c1:=1) (c2:=q*v) (by decide) (aL q0 v0) λa b=>?_).1;rw[<-CG,<-CG];unfold pi bX bY bW;dsimp only;have l:1*((sg*b.1*(q*v)+p*v*bj-(sg*a.1*(q*v)+p*v*bj))*(Y*(bj*(q*v))-(sg*a.2*(q*v)+u*q*bj)*W)-(sg*b.2*(q*v)+u*q*bj-(sg*a.2*(q*v)+u*q*bj))*(X*(bj*(q*v))-(sg*a.1*(q*v)+p*v*bj)*W))
   = q*v*((b.1-a.1)*(sg*(Y*v-u*W)*q*bj-(sg*sg)*a.2*(W*q*v))-(b.2-a.2)*(sg*(X*q-p*W)*v*bj-(sg*sg)*a.1*(W*q*v))):=by grind
 rw[l,ss];grind
def Fg {b:Lb} (mf:ju b.2.2) (p:0<b.1) (h:DU b sh zs) (X Y W:Int):ft sh zs X Y W↔ft b.1 b.2.1 (bX b.2.2 X W) (bY b.2.2 Y W) (bW b.2.2 W) :=
 ((K41.told_in (aL p (aL mf.q0 mf.v0)) h).1).trans (Xn mf X Y W)
def Fh {b:Lb} (ip:cj b.1 b.2.1) (mf:ju b.2.2) (h:DU b sh zs):cj sh zs:=by
 have k:=aL mf.q0 mf.v0;refine XG (aL ip.pos k) h (ip.cvx.map (k:=b.2.2.2.1.2*b.2.2.2.2.2*(b.2.2.2.1.2*b.2.2.2.2.2)) (aL k k) (λx y z=>?_) λx y e=>Gg mf.sg mf.q0 mf.v0 e);have ss:b.2.2.1*b.2.2.1=1:=by rcases mf.sg with e | e <;> (rw[e];rfl)
 unfold cK pi;dsimp only;generalize b.2.2.1=sg at *;generalize b.2.2.2.1.2*b.2.2.2.2.2=w at *;have l:∀r u:Int,(sg*y.1*w+r-(sg*x.1*w+r))*(sg*z.2*w+u-(sg*x.2*w+u))-(sg*y.2*w+u-(sg*x.2*w+u))*(sg*z.1*w+r-(sg*x.1*w+r))=w*w*((y.1-x.1)*(z.2-x.2)-(y.2-x.2)*(z.1-x.1)):=λr u=>by
  have:(sg*y.1*w+r-(sg*x.1*w+r))*(sg*z.2*w+u-(sg*x.2*w+u))-(sg*y.2*w+u-(sg*x.2*w+u))*(sg*z.1*w+r-(sg*x.1*w+r))=(sg*sg)*(w*w*((y.1-x.1)*(z.2-x.2)-(y.2-x.2)*(z.1-x.1))):=by grind
  rw[this,ss,Int.one_mul]
 exact l _ _
def Lk (b:Lb) (X Y W:Int):ft b.1 b.2.1 (bX b.2.2 X W) (bY b.2.2 Y W) (bW b.2.2 W)↔ck true X Y W b≠-1:=by
 rw[X3];rcases CU (sh:=b.1) (cs:=b.2.1) (X:=bX b.2.2 X W) (Y:=bY b.2.2 Y W) (W:=bW b.2.2 W) with ⟨e,k⟩ | ⟨e,k,n⟩ | ⟨e,k,n⟩
 ·rw[e];exact⟨λ_=>by decide,λ_=>ie.c k⟩
 ·rw[e];exact⟨λ_=>by decide,λ_=>k⟩
 ·rw[e];exact⟨λz=>absurd z k,λz=>absurd rfl z⟩
def Mf (g2:0<g.2) (l:ig g b b') (ip:cj b.1 b.2.1) (mf:ju b.2.2) (h:DU b sh zs) (h':DU b' gt m8):gt=sh/\m8=zs :=
 Du (Fh l.pd.ip l.mf h') (Fh ip mf h) λX Y W _=>by
  rw[Fg l.mf l.pd.ip.pos h',Fg mf ip.pos h,Lk,Lk,JZ g2 l mf X Y W]
def Tg (mf:ju m):u0 m:=⟨mf.sg,mf.q0,mf.v0⟩
def To (ip:cj sh zs):zs≠[]:=λe=>by
 have:=ip.cvx.len;rw[e] at this;exact absurd this (by decide)
def Ts (s:t5 b):ki b:=⟨s.ip.pos,s.bs,To s.ip,s.len,λz hz=>⟨(s.bz z hz).1.mono,(s.bz z hz).2.mono⟩,Tg s.mf,s.bp.mono,s.bq,s.bu.mono,s.bv⟩
def Tv (s:x5 b) (m:wf b.2.2):ki b:=⟨s.ip.pos,s.bs.mono,To s.ip,s.len,λz hz=>⟨(s.bz z hz).1.mono,(s.bz z hz).2.mono⟩,Tg m.mf,m.bp.mono,m.bq.mono,m.bu.mono,m.bv.mono⟩
def Li {b:Lb} (ip:cj b.1 b.2.1) (ok:ki b):∀sh zs,DU b sh zs->(sh,zs)=hm b:=λsh zs h=>by
 obtain⟨e1,e2⟩:=p7.one ok.pos ip.cvx.nodup ok.mv h (Lh ok);exact kR e1 e2
def Qq (g2:0<g.2) (l:ig g b b') (s:x5 b) (m:wf b.2.2) (s':t5 b'):hm b'=hm b:=by
 obtain⟨e1,e2⟩:=Mf g2 l s.ip m.mf (Lh (Tv s m)) (Lh (Ts s'));exact kR e1 e2
theorem Mg (g2:0<g.2) (lf:c5 g B B') (h:∀b∈B,x5 b/\wf b.2.2) (h':∀b∈B',t5 b):B'.map hm=B.map hm:=by
 induction lf with
 | nil=>rfl
 | @cons b b' B B' l _ ih =>
  rw[aQ,aQ,Qq g2 l (h b (by simp)).1 (h b (by simp)).2 (h' b' (by simp)),ih (λx hx=>h x (aO _ hx)) λx hx=>h' x (aO _ hx)]
theorem Xh {s G:Pt} (S':jw s xs G A) (s2:0<s.2) (l5:xs.length<=5):A.map hm=(jC xs).map hm:=by
 induction S' with
 | nil=>rfl
 | @snoc xs x g G A B' st bx lf lo ih =>
  have l4:xs.length<=5:=by rw[bJ] at l5;lia
  have sb:=((jw.snoc st bx lf lo).ok s2).2.1 l5;have g2:=(st.ok s2).1.h2;have eb:jC (xs++[x])=jC xs++x.2.2.map fv:=by unfold jC;rw[jD];simp
  rw[eb,cX,cX,ih l4,Mg g2 lf (λb hb=>?_) λb hb=>sb.2.1 b (bG _ hb)];obtain⟨y,my,rfl⟩:=bF.mp hb;exact⟨bx.sz my,(bx.each y my).2.2⟩
def As:∀ds Q,CL ds Q->QS GI oV { nx:=λ_=>False,rt:=Q } (dR ["boxes","height","bits","box"] ds):=by
 rintro ds Q ⟨s,c,xs,rfl,⟨ne,l5⟩,hx,q⟩;obtain⟨x0,xr,ex⟩:∃x r,xs=x::r:=by
  cases xs with
  | nil=>exact absurd rfl ne
  | cons x r=>exact⟨x,r,rfl⟩
 have s2:0<s.2:=(hx x0 (by rw[ex];simp)).2.ls.ln.pos;rw[cS 3 rfl];unfold QS;simp only[hU,Nx,aQ,bZ,bI,bV];generalize hX:D.lst (xs.map K38.bxD)=XD;refine yX (λa=>a=[aa XD,aa (pt (0,1)),none,none]) (λK hK=>?_) ?_
 ·walk_at "rd";exact hK _ rfl
 rintro a rfl;refine yX (λa=>a=[aa XD,aa (pt (0,1)),some (.own []),none]) (λK hK=>?_) ?_
 ·walk_at "rd";exact hK _ rfl
 rintro a rfl;refine yX (λa=>∃(G:Pt) (A:List Lb) (u:Option L2.R2.S),jw s xs G A/\a=[aa XD,aa (pt G),some (.own (A.map de)),u]) (λK hK=>?_) ?_
 ·rw[<-hX];simp only[mJ,riL,cB,aE];rw[hX];refine jT (λys a=>∃(dn td:List fq) (g:Pt) (A:List Lb) (u:Option L2.R2.S),xs=dn++td/\ys=td.map K38.bxD/\jw s dn g A/\a=[aa XD,aa (pt g),some (.own (A.map de)),u]) ?_ ?_ _ _ ⟨[],xs,(0,1),[],none,rfl,rfl,.nil,rfl⟩
  ·rintro y ys a ⟨dn,td,g,A,u,ec,ey,S',rfl⟩ F hr qz hn _;cases td with
   | nil=>cases ey
   | cons x td =>
    cases ey;have ld:dn.length<=4:=(by have:=congrArg fU ec;simp at this;lia);have B:=(hx x (by rw[ec];simp)).2;obtain⟨h0,p0,_⟩:=S'.ok s2;obtain⟨_,sb,la⟩:=p0 (by lia);obtain⟨_,c1,c2⟩:=h0.bl (by lia);obtain⟨_,d1,d2⟩:=B.ho.bl (by decide);have lw:=(xN _ B.way).1;rw[aS] at lw;have em:x.2.2.map k7=(x.2.2.map fv).map de:=(by rw[dA];rfl);unfold EX;simp only[dH,aR,aV];refine cN (λa=>∃B',c5 g (x.2.2.map fv) B'/\a=[aa XD,aa (pt g),some (.own ((A++B').map de)),aa (K38.bxD x)]) (λK2 gn=>?_) ?_
    ·unfold K38.bxD at gn ⊢;simp only[IL,pE,riL,r2,aM,rC,qT,yJ,VH,SS,aQ,bZ,bI,bV,aE,aH,aR,aV];rw[em];refine⟨pI (by simp;lia),TZ h0.h2 c1 c2 (λb hb=>?_) λL' lf=>?_⟩
     ·obtain⟨b',mb,rfl⟩:=bF.mp hb;obtain⟨ip,bs,bz,len⟩:=B.sz mb;obtain⟨mf,q1,q2,q3,q4⟩:=(B.each b' mb).2.2;exact⟨ip,bs.mono,λz hz=>⟨(bz z hz).1.mono,(bz z hz).2.mono⟩,by lia,mf,q1.mono,q2.mono,q3.mono,q4.mono⟩
     ·have:=lf.len;refine⟨pI (by simp at *;lia),?_⟩;rw[<-cX,<-em];exact gn _ ⟨L',lf,rfl⟩
    rintro a ⟨B',lf,rfl⟩;unfold K38.bxD;simp only[eQ,cO,aC,aZ,r2,cB,aM,rC,lP,aE,aH,aR,aV];refine⟨g.1,g.2,x.2.1.1,x.2.1.2,rfl,⟨h0.h2,B.ho.h2⟩,⟨c1.mono,c2.mono,d1.mono,d2.mono⟩,λp q' l=>?_⟩;exact hn _ ⟨dn++[x],td,(p,q'),A++B',aa (.tup [.int x.1,pt x.2.1,.lst (x.2.2.map k7)]),by rw[ec];simp,rfl,.snoc S' B lf l,rfl⟩
  ·rintro a ⟨dn,td,g,A,u,ec,ey,S',rfl⟩;have:td=[]:=(by simpa using ey.symm);subst this;rw[dN] at ec;subst ec;exact hK _ ⟨g,A,u,S',rfl⟩
 rintro a ⟨G,A,u,S',rfl⟩;have c0:=(hx x0 (by rw[ex];simp)).1;rw[<-hX,ex];unfold K38.bxD;simp only[Ci,fI,jW,aC,aZ,Dp,xf,r2,cB,aM,rC,YA,mW,true_and,aQ,aE,aH,aR,aV,cD,eK];refine⟨.int,KI,sz3,?_⟩;rw[c0];exact q G A S'
structure xo (fs:List Pt) (xs:List fq) (gs:List lq):Prop where
 inc:(gs.map (·.1)).Pairwise (· < ·)
 mem:∀c,c∈gs.map (·.1)↔∃x∈xs,x.1=c
 each:∀g∈gs,∃s,fs[g.1.toNat]? = some s/\jw s (fu kx xs g.1) g.2.1 g.2.2
def WB {ms:List Int} (a:ms.Pairwise (·<=·)) (b:ms.Nodup):ms.Pairwise (· < ·):=(List.Pairwise.and a b).imp λ⟨h,n⟩=>by lia
def xS:FD:=λds Q=>∃(fs:List Pt) (xs:List fq),ds=[.lst (xs.map K38.bxD)]/\xs.length<=5/\(∀x∈xs,o7 fs x)/\∀gs,xo fs xs gs->Q (.lst (gs.map gm))
def WF:∀ds Q,xS ds Q->ds.length=1:=by rintro ds Q ⟨_,_,rfl,_⟩;rfl
def SO:∀ds Q,xS ds Q->IR CL { nx:=λ_=>False,rt:=Q } (dR ["boxes","groups","box"] ds):=by
 rintro ds Q ⟨fs,xs,rfl,l5,hx,q⟩;rw[cS 2 rfl];unfold IR;rw[KS];simp only[hU,Iy,aQ,bZ,bI,bV];refine yX (λb=>b=[aa (.lst (xs.map K38.bxD)),some (.dcl (o5 [])),none]) (λK hK=>?_) ?_
 ·walk_at "rd";exact hK _ rfl
 rintro b rfl;refine yX (λb=>∃u,b=[aa (.lst (xs.map K38.bxD)),some (.dcl (o5 xs)),u]) (λK hK=>?_) ?_
 ·simp only[mJ,riL,cB,aE];refine jT (λys b=>∃(dn td:List fq) (u:Option L2.R2.S),xs=dn++td/\ys=td.map K38.bxD/\b=[aa (.lst (xs.map K38.bxD)),some (.dcl (o5 dn)),u]) ?_ ?_ _ _ ⟨[],xs,none,rfl,rfl,rfl⟩
  ·rintro y ys b ⟨dn,td,u,ec,ey,rfl⟩ F hr qz hn _;cases td with
   | nil=>cases ey
   | cons x td =>
    cases ey;have ld:dn.length<=4:=(by have:=congrArg fU ec;simp at this;lia);obtain⟨⟨k1,k2⟩,_⟩:=Lv dn;unfold zQ;have eX:K38.bxD x = .tup [.int x.1,pt x.2.1,.lst (x.2.2.map k7)]:=rfl;simp only[dH,Fz,r2,cB,aM,rC,eX,mW,aE,aH,aR,aV];refine⟨pI (by lia),λp hp=>pI (by have:=k2 p hp;lia),hn _ ⟨dn++[x],td,aa (K38.bxD x),by rw[ec];simp,rfl,by rw[BN];rfl⟩⟩
  ·rintro b ⟨dn,td,u,ec,ey,rfl⟩;have:td=[]:=(by simpa using ey.symm);subst this;rw[dN] at ec;subst ec;exact hK _ ⟨u,rfl⟩
 rintro b ⟨u,rfl⟩;obtain⟨⟨k1,k2⟩,k3,k4,k5⟩:=Lv xs;simp only[wE,L2.R2.S.fz,Np,pE,riL,Dq,Do,cB,yJ,VH,SS,aQ,bZ,bI,bV,aE,aH,aR,aV];refine⟨_,_,rfl,by simp,_,rfl,by simp;lia,λms pm so=>⟨pI (by have:=pm.length_eq;simp at *;lia),?_⟩⟩;have ml:∀c,c∈ms↔∃x∈xs,x.1=c:=λc=>by rw[pm.mem_iff];exact k4 c
 refine OE (λb=>∃a,b=[a,aa (.dct ((o5 xs).map (·.1)) ((o5 xs).map λp=>.lst p.2))]) D.int (λp:Int × Pt × List Lb=>gm p) (λp=>∃s,fs[p.1.toNat]? = some s/\jw s (fu kx xs p.1) p.2.1 p.2.2) ms ?_ _ [] ⟨none,rfl⟩ λgs e ok=>?_
 ·rintro c mc b ⟨a,rfl⟩ K hK;obtain⟨x,mx,ex⟩:=(ml c).mp mc;obtain⟨_,s,hs,B⟩:=hx x mx;simp only[dH,Dl,aC,aZ,r2,Pj,cB,aE,aH,aR];refine⟨_,YD _ c ((k4 c).mpr ⟨x,mx,ex⟩),s,c,fu kx xs c,by rw[k5],⟨λz=>?_,?_⟩,λy hy=>?_,λG A S'=>⟨⟨_,_,_,rfl⟩,hK _ (G,A) ⟨aa (.int c),rfl⟩ ⟨s,by rw[<-ex];exact hs,S'⟩⟩⟩
  ·have:x∈fu kx xs c:=mU.mpr ⟨mx,by simpa using ex⟩;rw[z] at this;cases this
  ·exact eJ (jI ..) l5
  ·obtain⟨my,ky⟩:=mU.mp hy;have ky:y.1=c:=of_decide_eq_true ky;obtain⟨_,s',jx,B'⟩:=hx y my;rw[ky,<-ex,hs] at jx;cases jx;exact⟨ky,B'⟩
 ·rw[bV];refine q gs ⟨by rw[e];exact WB so ((pm.nodup_iff).mpr k3),λc=>by rw[e];exact ml c,ok⟩
def Xe {s h:Pt} {X Y W I J N:Int} (f:Fm s h) (sp:wk s h X Y W I J N) (i0:0<I) (i1:I<24*N) (j0:0<J) (j1:J<24*N):(0<X/\X<W)/\0<ht s X Y/\ht s X Y*h.2<h.1*s.2*W:=by
 have sx:=sp.x;have sy:=sp.y;have sw:=sp.w;have sn:=sp.n;have h1:=f.h1;have h2:=f.h2;have s2:=f.ls.pos;have S0:0<s.2*h.2:=aL s2 h2;have c1:0<24*N:=by lia
 have e:(24*N)*X=W*I:=dQ (a:=s.2*h.2) (by lia) (by unfold eF at sx;grind);have e2:(24*N)*(W-X)=W*(24*N-I):=by rw[Int.mul_sub,e];grind
 have k1:=(iE c1 sw e).1.mpr i0;have k2:=(iE c1 sw e2).1.mpr (by lia);have e3:(24*N)*(h.2*ht s X Y)=(W*(h.1*s.2))*J:=by
  refine dQ (a:=s.2) (by lia) ?_;have l:s.2*((24*N)*(h.2*ht s X Y))=s.2*(eF s h*Y*N)-s.1*(eF s h*X*N):=by unfold eF ht;grind
  rw[l,sx,sy];grind
 have wp:0<W*(h.1*s.2):=aL sw (aL h1 s2);have k3:=(iE c1 wp e3).1.mpr j0;have e4:(24*N)*(h.1*s.2*W-h.2*ht s X Y)=(W*(h.1*s.2))*(24*N-J):=by rw[Int.mul_sub,e3];grind
 have k4:=(iE c1 wp e4).1.mpr (by lia);exact⟨⟨k1,by lia⟩,pZ h2 k3,by rw[fL];lia⟩
def ND:FD:=λds Q=>∃(L:List Lb) (X Y W:Int),ds=[.lst (L.map de),m6 X Y W]/\(L.length<=100/\∀b∈L,rq b)/\(BL 800 X/\BL 800 Y/\BL 800 W) /\
 ((∃b∈L,ck false X Y W b=0)->Q .non)/\((∀b∈L,ck false X Y W b≠0)->∀hs:List D,(hs.length:Int)=cnt (ck false X Y W) L->Q (.lst hs))
def Ak:∀ds Q,ND ds Q->xJ Br NI { nx:=λ_=>Q .non,rt:=Q } (dR ["_law_bits_here","_law_spot","_law_found","_law_piece","_law_move_here","_law_where"] ds):=by
 rintro ds Q ⟨L,X,Y,W,rfl,⟨lL,hL⟩,⟨b1,b2,b3⟩,q0,q1⟩;rw[cS 4 rfl];unfold xJ;simp only[hU,Dv,aQ,bZ,bI,bV];refine cN (λa=>a=[aa (.lst (L.map de)),aa (m6 X Y W),some (.own []),none,none,none]) (λK hK=>?_) ?_
 ·walk_at "rd";exact hK _ rfl
 rintro a rfl;refine cN (λa=>∃(hs:List D) (u v w:Option L2.R2.S),((∀b∈L,ck false X Y W b≠0)/\(hs.length:Int)=cnt (ck false X Y W) L)/\a=[aa (.lst (L.map de)),aa (m6 X Y W),some (.own hs),u,v,w]) (λK hK=>?_) ?_
 ·simp only[mJ,riL,cB,aE];refine jT (λys a=>∃(dn td:List Lb) (hs:List D) (u v w:Option L2.R2.S),L=dn++td/\ys=td.map de/\((∀b∈dn,ck false X Y W b≠0)/\hs.length<=dn.length/\(hs.length:Int)=cnt (ck false X Y W) dn)/\a=[aa (.lst (L.map de)),aa (m6 X Y W),some (.own hs),u,v,w]) ?_ ?_ _ _ ⟨[],L,[],none,none,none,rfl,rfl,⟨by simp,bK _,rfl⟩,rfl⟩
  ·rintro y ys a ⟨dn,td,hs,u,v,w,ec,ey,⟨hd,lh,ch⟩,rfl⟩ F hr qz hn _;cases td with
   | nil=>cases ey
   | cons b td =>
    cases ey;have mb:b∈L:=(by rw[ec];simp);have ld:dn.length+1<=100:=(by have:=congrArg fU ec;simp at this;lia);obtain⟨ip,bs,bz,lz,mf⟩:=hL b mb;have l3:=ip.cvx.len;generalize hLD:D.lst (L.map de)=LD;unfold sT de;simp only[pH,gC,pG,dH,cD,eK,true_and,aR,aV];refine cN (λa=>a=[aa LD,aa (m6 X Y W),some (.own hs),aa (pc b.1 b.2.1),aa (ji b.2.2),aa (.int (ck false X Y W b))]) (λK gn=>?_) ?_
    ·simp only[eQ,cO,aC,aZ,cB,aE,aH,aR,aV];refine⟨b.1,b.2.1,X,Y,W,rfl,⟨bs.mono,λz hz=>⟨(bz z hz).1.mono,(bz z hz).2.mono⟩,by lia,by lia⟩,⟨b1.mono,b2.mono,b3.mono⟩,λM h1 h2=>?_⟩;rw[ZJ h1 h2,<-rj];exact gn _ rfl
    rintro a rfl;have hd2:ck false X Y W b≠0->∀c∈dn++[b],ck false X Y W c≠0:=λk c hc=>by
     rcases cC.mp hc with z | z
     ·exact hd c z
     ·rw[cR.mp z];exact k
    have es:=XV (ck false X Y W) dn b;have q0':ck false X Y W b=0->Q .non:=λz=>q0 ⟨b,mb,z⟩;generalize ck false X Y W b=V at *;generalize hP:pc b.1 b.2.1=PD;refine cN (λa=>V≠0/\a=[aa LD,aa (m6 X Y W),some (.own hs),aa PD,aa (ji b.2.2),aa (.int V)]) (λK gn=>?_) ?_
    ·simp only[kJ,dZ,r2,fI,gQ,aM,rC,oN,aE,aH];by_cases z:V=0
     ·simp only[z,decide_true,if_true,aN,if_false];exact hr ▸ q0' z
     ·simp only[z,decide_false,aN,if_false];exact gn _ ⟨z,rfl⟩
    rintro a ⟨z,rfl⟩;subst hLD;simp only[kJ,dZ,r2,gQ,aM,rC,oN,aE,aH];by_cases o:V=1
    ·rw[if_pos o] at es;simp only[o,decide_true,if_true,aN,if_false,EL,cO,aC,aZ,cB,aE,aH,aR,aV];refine⟨b.2.2,X,Y,W,rfl,⟨mf,b1.mono,b2.mono,b3.mono⟩,pI (by lia),hn _ ⟨dn++[b],td,hs++[Yw b.2.2 X Y W],aa PD,aa (ji b.2.2),aa (.int 1),by rw[ec];simp,rfl,⟨hd2 z,by simp;lia,?_⟩,rfl⟩⟩;rw[es,bJ];simp;lia
    ·rw[if_neg o] at es;simp only[o,decide_false,aN,if_false];exact hn _ ⟨dn++[b],td,hs,aa PD,aa (ji b.2.2),aa (.int V),by rw[ec];simp,rfl,⟨hd2 z,by simp;lia,by rw[es];lia⟩,rfl⟩
  ·rintro a ⟨dn,td,hs,u,v,w,ec,ey,⟨hd,lh,ch⟩,rfl⟩;have:td=[]:=(by simpa using ey.symm);subst this;rw[dN] at ec;subst ec;exact hK _ ⟨hs,u,v,w,⟨hd,ch⟩,rfl⟩
 rintro a ⟨hs,u,v,w,⟨hd,ch⟩,rfl⟩;simp only[wE,L2.R2.S.fz,fI,cB,aE,aH,aR,aV];exact q1 hd hs ch
def MQ:FD:=λds Q=>∃(s:Pt) (x:lq) (cells:List D),ds=[gm x,pt s,.lst cells]/\(Fm s x.2.1/\io s x.2.1 x.2.2/\x.2.2.length<=100/\∀b∈x.2.2,rq b)/\((∀d∈cells,∃i,d = .int i)/\cells.length<=63)/\Q (.bl true)
def Df:∀ds Q,MQ ds Q->BX ND NL { nx:=λ_=>Q .non,rt:=Q } (dR ["_law_box_here","_law_lean","_law_cells","_law_cell_here","_law_found"] ds):=by
 rintro ds Q ⟨s,x,cells,rfl,⟨f,P,lA,hA⟩,⟨hc,lc⟩,q⟩;rw[cS 2 rfl];unfold BX;simp only[hU,Iy,aQ,bZ,bI,bV];have eX:gm x = .tup [.int x.1,pt x.2.1,.lst (x.2.2.map de)]:=rfl;refine cN (λa=>∃u v,a=[aa (gm x),aa (pt s),aa (.lst cells),u,v]) (λK hK=>?_) ?_
 ·simp only[mJ,riL,cB,aE,aH];refine jT (λys a=>∃u v:Option L2.R2.S,(∀d∈ys,∃i,d=D.int i)/\a=[aa (gm x),aa (pt s),aa (.lst cells),u,v]) ?_ ?_ _ _ ⟨none,none,hc,rfl⟩
  ·rintro y ys a ⟨u,v,hy,rfl⟩ F hr qz hn _;obtain⟨i,rfl⟩:=hy y (cF ..);have fin:∀v,F.nx [aa (gm x),aa (pt s),aa (.lst cells),aa (.int i),v]:=λv=>hn _ ⟨_,_,λd hd=>hy d (aO _ hd),rfl⟩;unfold vL;simp only[dH,aR,aV];refine cN (λa=>∃d,(d = .non\/∃h,d = .lst [h])/\a=[aa (gm x),aa (pt s),aa (.lst cells),aa (.int i),aa d]) (λK2 gn=>?_) ?_
   ·simp only[eQ,cO,aC,aZ,r2,cB,aM,rC,eX,lP,qT,aE,aH,aR,aV];refine⟨i,s,x.2.1,rfl,f,λX Y W I J N sp rg bb=>?_⟩;obtain⟨⟨x0,x1⟩,y0,y1⟩:=Xe f sp rg.1.1 rg.1.2 rg.2.1 rg.2.2;refine⟨x.2.2,X,Y,W,rfl,⟨lA,hA⟩,⟨bb.1.mono,bb.2.1.mono,bb.2.2.mono⟩,λ_=>?_,λnz hs hl=>?_⟩
    ·have:=gn _ ⟨.non,.inl rfl,rfl⟩
     rwa [eX] at this
    ·rw[P.one X Y W sp.w x0 x1 y0 y1 nz] at hl;obtain⟨h,rfl⟩:=List.length_eq_one_iff.mp (show hs.length=1 by lia);have:=gn _ ⟨_,.inr ⟨h,rfl⟩,rfl⟩
     rwa [eX] at this
   rintro a ⟨d,hd,rfl⟩;have fin:=fin (aa d);generalize gm x=XD at *;generalize pt s=SD at *;rcases hd with rfl | ⟨h,rfl⟩
   ·simp only[kJ,SR,dZ,r2,gQ,aM,rC,VM,TV,aE,aH,if_true,eY,aN,if_false];exact fin
   ·simp only[kJ,SR,dZ,r1,r2,gQ,aM,rC,VM,TV,nX,oN,aE,aH,cD,eK,if_true,eY,nQ,aN,if_false]
    first | exact fin | simpa using fin
  ·rintro a ⟨u,v,_,rfl⟩;exact hK _ ⟨u,v,rfl⟩
 rintro a ⟨u,v,rfl⟩;simp only[fI,rC];exact q
def Tt (s:t5 b):rq b:=⟨s.ip,s.bs.mono,λz hz=>⟨(s.bz z hz).1.mono,(s.bz z hz).2.mono⟩,by have:=s.len;lia,s.mf⟩
def Pa {fs:List Pt} (hx:∀x∈xs,o7 fs x):∀b∈jC xs,cj b.1 b.2.1/\ki b:=λb hb=>by
 obtain⟨x,mx,hb⟩:=List.mem_flatMap.mp hb;obtain⟨y,my,rfl⟩:=bF.mp hb;obtain⟨_,s,_,B⟩:=hx x mx;exact⟨(B.sz my).ip,Tv (B.sz my) (B.each y my).2.2⟩
theorem Sh {s G:Pt} (S':jw s xs G A):A.length=(jC xs).length:=by
 induction S' with
 | nil=>rfl
 | @snoc xs x g G A B' st bx lf lo ih =>
  have eb:jC (xs++[x])=jC xs++x.2.2.map fv:=by unfold jC;rw[jD];simp
  rw[eb,bJ,bJ,ih,lf.len]
def Lf (xs:List fq) (y:fq) (c:Int):fu kx (xs++[y]) c=if y.1=c then fu kx xs c++[y] else fu kx xs c:=by
 unfold fu;rw[tZ];by_cases h:y.1=c
 ·rw[if_pos h];simp[kx,h]
 ·rw[if_neg h];simp[kx,h]
def VX {fs:List Pt} {c:Int} (hx:∀x∈xs,o7 fs x):∀x∈fu kx xs c,o7 fs x:=λx h=>hx x (mU.mp h).1
def UW:FD:=λds Q=>∃(fs:List Pt) (xs:List fq) (s:Pt) (x:lq),ds=[gm x,.int x.1,.lst (xs.map K38.bxD),pt s]/\(xs.length<=5/\∀y∈xs,o7 fs y)/\(o8 s/\jw s (fu kx xs x.1) x.2.1 x.2.2/\∃y∈xs,y.1=x.1)/\Q (.bl true)
abbrev e5 (x:lq) (AD BD:D) (s:Pt) (r:En):En:=aa (.tup [.int x.1,pt x.2.1,AD])::aa (.int x.1)::aa BD::aa (pt s)::r
def Io:∀ds Q,UW ds Q->EO GG MZ UV SZ UY NE CM { nx:=λ_=>Q .non,rt:=Q } (dR ["_law_box_here","_law_place","_law_boxes_here","_law_lean","_law_height","_law_bits_here","_law_other","_law_more","_law_some","_law_bit","_law_total"] ds):=by
 rintro ds Q ⟨fs,xs,s,x,rfl,⟨l5,hx⟩,⟨ls,St,ne⟩,q⟩;have O:=OY l5 ls St ne;have lg:(fu kx xs x.1).length<=5:=eJ (jI ..) l5;have vS:=St.val;have hmE:=Xh St ls.ln.pos lg;have W3:=Sh St;have lA:=O.len;obtain⟨_,gb1,gb2⟩:=O.ho.bl (by lia);have b1s:BL 16 s.1:=by
  have e:s.2.natAbs<2 ^ 12:=ls.ln.bot;have:=ls.ln.pos;have:=ls.lo;have:=ls.hi;show s.1.natAbs<2 ^ 16;lia
 rw[cS 7 rfl];unfold EO;simp only[hU,Rz,aQ,bZ,bI,bV];have eX:gm x = .tup [.int x.1,pt x.2.1,.lst (x.2.2.map de)]:=rfl;rw[eX];generalize wq:D.lst (x.2.2.map de)=AD;generalize wu:D.lst (xs.map K38.bxD)=BD;refine cN (λd=>d=e5 x AD BD s [none,none,none,none,none,none,none]) (λK hK=>?_) ?_
 ·walk_at "rd";refine⟨x.1,rfl,?_⟩;walk_at "rd";simp only[decide_true,eY,aN,if_false];exact hK _ rfl
 rintro d rfl;unfold e5;refine cN (λd=>d=e5 x AD BD s [aa (pt (0,1)),none,none,none,none,none,none]) (λK hK=>?_) ?_
 ·walk_at "rd";exact hK _ rfl
 rintro d rfl;unfold e5;refine cN (λd=>d=e5 x AD BD s [aa (pt (0,1)),aa (.lst []),none,none,none,none,none]) (λK hK=>?_) ?_
 ·walk_at "rd";exact hK _ rfl
 rintro d rfl;unfold e5;refine cN (λd=>∃(N M:Int) (a b c:Option L2.R2.S),((BL 60 N/\BL 60 M)/\0<M/\(N:Rat) / (M:Rat)=JS (fu kx xs x.1))/\d=e5 x AD BD s [aa (pt (N,M)),aa (.lst ((jC (fu kx xs x.1)).map de)),a,b,c,none,none]) (λK hK=>?_) ?_
 ·rw[<-wu];simp only[mJ,riL,cB,aE,aH];rw[wu];refine jT (λys d=>∃(dn td:List fq) (N M:Int) (a b c:Option L2.R2.S),xs=dn++td/\ys=td.map K38.bxD/\((BL (10*(dn.length+1)) N/\BL (10*(dn.length+1)) M)/\0<M/\(N:Rat) / (M:Rat)=JS (fu kx dn x.1))/\d=e5 x AD BD s [aa (pt (N,M)),aa (.lst ((jC (fu kx dn x.1)).map de)),a,b,c,none,none]) ?_ ?_ _ _
   ⟨[],xs,0,1,none,none,none,rfl,rfl,⟨⟨BL.const (by decide),BL.const (by decide)⟩,by decide,by show ((0:Int):Rat) / ((1:Int):Rat)=0;simp;grind⟩,rfl⟩
  ·rintro y ys d ⟨dn,td,N,M,a,b,c,ec,ey,⟨⟨bN,bM⟩,m0,va⟩,rfl⟩ F hr qz M_ _;cases td with
   | nil=>cases ey
   | cons y td =>
    cases ey;have ld:dn.length<=4:=(by have:=congrArg fU ec;simp at this;lia);obtain⟨_,s',_,B⟩:=hx y (by rw[ec];simp);obtain⟨_,c1,c2⟩:=B.ho.bl (by decide);have h2:=B.ho.h2;have lw:=(xN _ B.way).1;rw[aS] at lw;have lb:=XR (fs:=fs) (xs:=fu kx dn x.1) (VX λy hy=>hx y (by rw[ec];simp[hy]));have lgd:(fu kx dn x.1).length<=4:=eJ (jI ..) ld;have gs:=Lf dn y x.1;unfold xE e5 K38.bxD;simp only[pH,gC,pG,dH,cD,eK,true_and,aR,aV,kJ,dZ,r2,aM,ON,aE,aH];have e9:c4 9 (.int y.1) (.int x.1)=some (decide (y.1=x.1)):=(by rw[c4]);rw[e9];by_cases k:y.1=x.1
    ·rw[if_pos k] at gs;simp only[k,decide_true,if_true,dW,eQ,cO,aC,aZ,cB,r2,aM,OM,aE,aH,aR,aV];refine⟨N,M,y.2.1.1,y.2.1.2,rfl,⟨bN.mono (by lia),bM.mono (by lia),c1.mono,c2.mono⟩,pI (by simp at *;lia),?_⟩;refine M_ _ ⟨dn++[y],td,N*y.2.1.2+y.2.1.1*M,M*y.2.1.2,aa (.int x.1),aa (pt y.2.1),aa (.lst (y.2.2.map k7)),by rw[ec];simp,rfl,⟨⟨?_,?_⟩,aL m0 h2,?_⟩,?_⟩
     ·exact ((bN.mul c2).add (c1.mul bM)).mono (by rw[bJ];simp;lia)
     ·exact (bM.mul c2).mono (by rw[bJ];simp;lia)
     ·rw[gs,HS,<-va];have n1:=jE m0;have n2:=jE h2;show _=_+(_+0);simp only[gK,pP];grind
     ·have e:jC (fu kx dn x.1++[y])=jC (fu kx dn x.1)++y.2.2.map fv:=(by unfold jC;rw[jD];simp);rw[gs,e,cX,dA];rfl
    ·rw[if_neg k] at gs;simp only[k,decide_false,aN,if_false,gQ];exact M_ _ ⟨dn++[y],td,N,M,aa (.int y.1),aa (pt y.2.1),aa (.lst (y.2.2.map k7)),by rw[ec];simp,rfl,⟨⟨bN.mono (by rw[bJ];simp;lia),bM.mono (by rw[bJ];simp;lia)⟩,m0,by rw[gs];exact va⟩,by rw[gs]⟩
  ·rintro d ⟨dn,td,N,M,a,b,c,ec,ey,⟨⟨bN,bM⟩,m0,va⟩,rfl⟩;have:td=[]:=(by simpa using ey.symm);subst this;rw[dN] at ec;subst ec;exact hK _ ⟨N,M,a,b,c,⟨⟨bN.mono (by lia),bM.mono (by lia)⟩,m0,va⟩,rfl⟩
 rintro d ⟨N,M,a,b,c,⟨⟨bN,bM⟩,m0,va⟩,rfl⟩;have G2:=vS.1;have NG:N*x.2.1.2=x.2.1.1*M:=by
  have n1:=jE m0;have n2:=jE G2;have e:=va.trans vS.2.symm;apply pQ.mp;simp only[gK];grind
 have lenO:=XR (VX (c:=x.1) hx);generalize hOD:D.lst ((jC (fu kx xs x.1)).map de)=OD;have ep:f_ (c4 5) [.int x.2.1.1,.int x.2.1.2] [.int x.2.1.1,.int x.2.1.2]=some true:=pB _ λx hx=>by
  simp only[aJ,cY,or_false] at hx;rcases hx with rfl | rfl <;> exact CS 4 _
 have hsb:=O.sb;have yy:∀b∈x.2.2,rq b:=λb hb=>Tt (hsb b hb);unfold e5;refine cN (λd=>d=e5 x AD BD s [aa (pt (N,M)),aa OD,a,b,c,none,none]) (λK hK=>?_) ?_
 ·simp only[kJ,rOr,qA,dZ,r1,r2,cO,aC,aZ,cB,aM,rC,mW,lP,qT,aE,aH];refine⟨N,M,rfl,⟨m0,bM.mono⟩,λp q' l=>?_⟩;have e:(p:Rat) / (q':Rat)=(x.2.1.1:Rat) / (x.2.1.2:Rat):=by
   rw[vS.2,<-va];have n1:=jE m0;have n2:=jE l.pos;have w:=congrArg (λx:Int=>(x:Rat)) l.worth;simp only[gK] at w;grind
  obtain⟨rfl,rfl⟩:=Lc l.cop O.ho.cop l.pos O.ho.h2 e;simp only[dNe,ep,eY,aN,if_false];refine⟨x.2.2,by rw[wq],yy,?_⟩;rw[<-wq,<-hOD] at hK ⊢;simp only[eY,aN,if_false,nX,oN,aS,W3,decide_true,if_true,gQ];exact hK _ rfl
 rintro d rfl;unfold e5;refine cN (λd=>∃u,d=e5 x AD BD s [aa (pt (N,M)),aa OD,a,b,c,u,none]) (λK hK=>?_) ?_
 ·rw[<-wq];simp only[mJ,riL,r2,aM,rC,qT,aE];rw[wq];refine jT (λys d=>∃(dn td:List Lb) (u:Option L2.R2.S),x.2.2=dn++td/\ys=td.map de/\d=e5 x AD BD s [aa (pt (N,M)),aa OD,a,b,c,u,none]) ?_ ?_ _ _ ⟨[],x.2.2,none,rfl,rfl,rfl⟩
  ·rintro y ys d ⟨dn,td,u,ec,ey,rfl⟩ F hr qz hn _;cases td with
   | nil=>cases ey
   | cons y td =>
    cases ey;have my:y∈x.2.2:=(by rw[ec];simp);obtain⟨ip,bs',bz,lz,mf⟩:=yy y my;unfold xD de e5;walk_at "rd";refine⟨y.1,y.2.1,s,(N,M),rfl,⟨bs'.mono,λz hz=>⟨(bz z hz).1.mono,(bz z hz).2.mono⟩,b1s.mono,ls.ln.bot.mono,bN.mono,bM.mono⟩,by lia,λz hz=>?_,?_⟩
    ·obtain⟨xx,y0,y1⟩:=O.pile.rin y my z.1 z.2 y.1 (aU ip.pos) (WT ip hz);refine⟨xx,y0,?_⟩;dsimp only;have m1:=aW y1 (aU m0);have e1:x.2.1.1*s.2*y.1*M=N*s.2*y.1*x.2.1.2:=by
      have:x.2.1.1*s.2*y.1*M=(x.2.1.1*M)*(s.2*y.1):=(by grind);rw[this,<-NG];grind
     rw[e1] at m1;have e2:ht s z.1 z.2*x.2.1.2*M=(z.2*s.2-z.1*s.1)*M*x.2.1.2:=(by unfold ht;grind);rw[e2] at m1;exact dD m1 G2
    ·walk_at "rd";exact hn _ ⟨dn++[y],td,aa (.tup [pc y.1 y.2.1,ji y.2.2]),by rw[ec];simp,rfl,rfl⟩
  ·rintro d ⟨dn,td,u,ec,ey,rfl⟩;exact hK _ ⟨u,rfl⟩
 rintro d ⟨u,rfl⟩;unfold e5;refine cN (λd=>∃N' M',((BL 6500000 N'/\BL 6500000 M')/\0<M'/\(N':Rat) / (M':Rat)=ij x.2.2)/\d=e5 x AD BD s [aa (pt (N,M)),aa OD,a,b,c,u,aa (.tup [.int N',.int M'])]) (λK hK=>?_) ?_
 ·walk_at "rd";exact⟨x.2.2,by rw[wq],⟨by lia,yy⟩,λN' M' b e=>hK _ ⟨N',M',⟨b,e⟩,rfl⟩⟩
 rintro d ⟨N',M',⟨⟨bN',bM'⟩,mp,eq⟩,rfl⟩;have fin:N'*M=2*N*M':=by
  rw[O.pile.area] at eq;have n1:=jE mp;have n2:=jE G2;have n3:=jE m0;have w:=congrArg (λx:Int=>(x:Rat)) NG;apply pQ.mp;simp only[gK] at eq w ⊢;grind
 unfold e5;have b2:BL 4 2:=BL.const (by decide);simp only[fI,IK,r2,cO,aC,aZ,cB,aM,rC,mW,lP,qT,fC,oN,aE,aH];refine⟨bN'.mulOk bM,b2.mulOk bN,(b2.mul bN).mulOk bM',?_⟩;rw[fin];simp only[decide_true,if_true,aN,if_false];have gA:∀g∈x.2.2,ki g:=λg hg=>Ts (hsb g hg);have gO:=Pa (VX (c:=x.1) hx);refine⟨x.2.2,hm,by rw[<-wq];rfl,⟨by lia,gA⟩,λg hg=>Li (hsb g hg).ip (gA g hg),λq1 p1 s1=>?_⟩;refine⟨jC (fu kx xs x.1),hm,by rw[<-hOD];rfl,⟨by lia,λg hg=>(gO g hg).2⟩,λg hg=>Li (gO g hg).1 (gO g hg).2,λq2 p2 s2=>?_⟩;rw[Dz s1 s2 (p1.trans (by rw[hmE];exact p2.symm))];exact Uv q2 q
def Qg {a b:List Int} (h1:a.Pairwise (· < ·)) (h2:b.Pairwise (· < ·)) (h:∀c,c∈a↔c∈b):a=b :=
 vW (le:=λx y:Int=>x<y) (λx y _ _ h h'=>by lia) h1 h2 ((List.perm_ext_iff_of_nodup (h1.imp λh=>by lia) (h2.imp λh=>by lia)).mpr h)
def Qc {s:Pt} {n:Nat} (O:n8 s g n):kf (gm g):=by
 obtain⟨b,r,e⟩:∃b r,g.2.2=b::r:=by
  cases h:g.2.2 with
  | nil =>
   have a:=O.pile.area;rw[h] at a;have n2:=jE O.ho.h2;have h1:=O.h1;have z:((2*g.2.1.1:Int):Rat)=0:=by
    have a:(0:Rat)=((2*g.2.1.1:Int):Rat) / (g.2.1.2:Rat):=a;grind
   have:(2*g.2.1.1:Int)=0:=pQ.mp (by rw[z];rfl);lia
  | cons b r=>exact⟨b,r,rfl⟩
 have np:∀zs:List Pt,je (.tup (zs.map pt)):=λzs=>by
  induction zs with
  | nil=>exact .nil
  | cons z zs ih=>exact .cons KI ih
 have nb:∀b:Lb,je (de b):=λb=>.cons (.cons .int (.cons (np _) .nil)) (.cons (.cons .int (.cons KI (.cons KI .nil))) .nil);have nl:∀l:List Lb,je (.tup (l.map de)):=λl=>by
  induction l with
  | nil=>exact .nil
  | cons b l ih=>exact .cons (nb b) ih
 refine⟨.int g.1,pt g.2.1,[pc b.1 b.2.1,ji b.2.2],r.map de,?_,.int,KI,nl (b::r)⟩;unfold gm;rw[e];rfl
abbrev oO (G:Hp) (d:D):Option L2.R2.S:=some (.mem true d (Mp G d))
abbrev ol (G:Hp) (ns:List Int) (fs:List Pt) (BD:D) (r:En):En:=oO G (il ns)::oO G (et fs)::oO G BD::oO G BD::r
theorem Rc (G:Hp) (ns:List Int) (fs:List Pt) (BD:D) (a b:Option L2.R2.S):Olds G (ol G ns fs BD [a,b,none,none]) (ol G ns fs BD [none,none,none,none]):=by
 refine⟨rfl,λi x h=>?_⟩
 match i,h with
 | 0,h=>cases h;exact⟨_,rfl,rfl⟩
 | 1,h=>cases h;exact⟨_,rfl,rfl⟩
 | 2,h=>cases h;exact⟨_,rfl,rfl⟩
 | 3,h=>cases h;exact⟨_,rfl,rfl⟩
 | 4,h=>cases h
 | 5,h=>cases h
 | 6,h=>cases h
 | 7,h=>cases h
 | i+8,h=>cases h
def Dg:∀ds Q,Jj 63 ds Q->QP UW NA GH MQ NH xS { nx:=λ_=>False,rt:=Q } (dR ["_law_script","_law_leans_here","_law_boxes_here","_law_handed","_law_found","_law_places","_law_box_here","_law_place"] ds):=by
 rintro ds Q ⟨ns,rfl,hn,Qt⟩;rw[cS 7 rfl];unfold QP;simp only[hU,Rz,aQ,bZ,bI,bV];refine yY (λj=>∃fs:List Pt,((1<=fs.length/\fs.length<=4)/\∀f∈fs,o8 f)/\j=[aa (il ns),aa (et fs),none,none,none,none,none,none]) (λK hK=>?_) ?_
 ·walk_at "rd";refine⟨ns,0,rfl,by decide,λc c0 c1 _=>?_⟩;walk_at "rd";refine⟨(BL.const (n:=9000) (by decide)).divOk (by decide),?_⟩;refine⟨ns,0,rfl,by decide,λd d0 d1 _=>?_⟩;walk_at "rd";obtain⟨a0,a1⟩:=eZ (a:=d) (b:=4) (by decide);refine⟨lV,?_⟩;exact⟨_,_,rfl,⟨by lia,by lia⟩,λfs h1 h2=>hK _ ⟨fs,⟨⟨by lia,by lia⟩,h2⟩,rfl⟩⟩
 rintro j ⟨fs,⟨⟨fl1,fl4⟩,hf⟩,rfl⟩;refine yY (λj=>∃xs:List fq,(xs.length<=5/\∀x∈xs,o7 fs x)/\j=[aa (il ns),aa (et fs),aa (.lst (xs.map K38.bxD)),none,none,none,none,none]) (λK hK=>?_) ?_
 ·simp only[eQ,cO,aC,aZ,cB,aE,aH,aR,aV];exact⟨ns,fs,rfl,⟨fl1,fl4,by lia⟩,hf,λxs l5 hx=>hK _ ⟨xs,⟨l5,hx⟩,rfl⟩⟩
 rintro j ⟨xs,⟨l5,hx⟩,rfl⟩;refine yY (λj=>j=[aa (il ns),aa (et fs),aa (.lst (xs.map K38.bxD)),some (.own (xs.map K38.bxD)),none,none,none,none]) (λK hK=>?_) ?_
 ·simp only[uS,pE,riL,cB,yJ,Nx,bZ,dN,aE,aH,aR,aV];refine⟨pI (by simp;lia),uJ (λj=>∃a b c,j=[a,b,c]) K38.bxD K38.bxD xs ?_ ⟨none,none,none,rfl⟩ (hK _ rfl)⟩;rintro x _ j ⟨a,b,c,rfl⟩ K2 gn;unfold K38.bxD;simp only[pH,gC,pG,dH,jW,aC,aZ,cB,aM,r1,HG,cD,eK,true_and,aE,aH,aR,aV];exact⟨sz3,gn _ ⟨aa (.int x.1),aa (pt x.2.1),aa (.lst (x.2.2.map k7)),rfl⟩⟩
 rintro j rfl;refine yY (λj=>∃(gs:List lq) (G:Hp),xo fs xs gs/\j=ol G ns fs (.lst (xs.map K38.bxD)) [some (.mem true (.lst (gs.map gm)) (UC G)),none,none,none]) (λK hK=>?_) ?_
 ·simp only[wE,L2.R2.S.fz,Nq,aC,aZ,cB,aE,aH,aR,aV];exact⟨fs,xs,rfl,l5,hx,λgs gr G=>hK _ ⟨gs,G,gr,rfl⟩⟩
 rintro j ⟨gs,G,gr,rfl⟩;have info:∀g∈gs,∃s,fs[g.1.toNat]? = some s/\o8 s/\jw s (fu kx xs g.1) g.2.1 g.2.2/\(0<=g.1/\g.1<fs.length)/\(∃y∈xs,y.1=g.1):=λg hg=>by
  obtain⟨s,hs,st⟩:=gr.each g hg;obtain⟨y,my,ey⟩:=(gr.mem g.1).mp (dI hg);have:=(bC.mp hs).1;exact⟨s,hs,hf s (dM hs),st,⟨by rw[<-ey];exact (hx y my).p0,by have:=(hx y my).p0;lia⟩,y,my,ey⟩
 generalize wu:D.lst (xs.map K38.bxD)=BD;unfold ol oO;refine yY (λj=>j=ol G ns fs BD [some (.mem true (.lst (gs.map gm)) (UC G)),aa (.lst ((gs.map (·.1)).map D.int)),none,none]) (λK hK=>?_) ?_
 ·rw[<-wu] at hK ⊢;simp only[eQ,KU,pE,riL,cB,yJ,SS,bZ,dN,aE,aH,aR,aV];refine⟨pI (by simp;lia),uJ (λj=>∃a,j=[a]) K38.bxD (λx=>D.int x.1) xs ?_ ⟨none,rfl⟩ ?_⟩
  ·rintro x _ j ⟨a,rfl⟩ K2 gn;unfold K38.bxD;simp only[dH,r2,aM,rC,mW,aE,aR];exact gn _ ⟨_,rfl⟩
  ·refine⟨xs.map (·.1),by rw[dA];rfl,λn hn=>?_,λms inc mem=>?_⟩
   ·obtain⟨x,mx,rfl⟩:=bF.mp hn;obtain⟨p0,s,hs,_⟩:=hx x mx;have:=(bC.mp hs).1;lia
   ·have e:ms=gs.map (·.1):=Qg inc gr.inc λc=>(by rw[mem,gr.mem];simp);rw[e];exact hK _ rfl
 rintro j rfl;unfold ol oO;refine yY (λj=>j=ol G ns fs BD [some (.mem true (.lst (gs.map gm)) (UC G)),aa (.lst ((gs.map (·.1)).map D.int)),none,none]) (λK hK=>?_) ?_
 ·have V5:ZA "list" (.lst (gs.map gm))=some true:=rfl;simp only[kJ,rOr,qA,dZ,r1,r2,gQ,cB,aM,DL,V5,nX,oN,aE,aH,aS,eY,aN,if_false,if_true,decide_true];exact hK _ rfl
 rintro j rfl;refine⟨G,gs.map gm,gs.map (·.1),ol G ns fs BD [none,none,none,none],rfl,⟨rfl,Rc G ns fs BD _ _⟩,⟨rfl,rfl⟩,λd hd=>?_,?_⟩
 ·obtain⟨g,hg,rfl⟩:=bF.mp hd;obtain⟨s,_,ls,st,_,ne⟩:=info g hg;exact Qc (OY l5 ls st ne)
 have ebx:=Ut xs;have key:∀td:List lq,(∀g∈td,g∈gs)->UA (ol G ns fs BD [none,none,none,none]) 6 7 (vJ (kJ (qA (dZ (cO UW (aC (cB 6) (aC (cB 7) (aC (cB 2) (aC (r2 ca (aM 1) (aM 7)) aZ))))))) (fI (rC (.bl false))) gQ) (kJ (qA (dZ (cO MQ (aC (cB 6) (aC (r2 ca (aM 1) (aM 7)) (aC ((λj Q=>(Au (aM 0) (EM (aj 2)) (EM (aj 8))) j λds=>Q (.lst ds))) aZ)))))) (fI (rC (.bl false))) gQ))
   (fI (r2 ON (aM 3) (aM 2))) { nx:=λ_=>False,rt:=Q } (td.map gm) (td.map (·.1)):=by
  intro td
  induction td with
  | nil =>
   intro _;show fI (r2 ON (aM 3) (aM 2)) { nx:=λ_=>False,rt:=Q } (ol G ns fs BD [none,none,none,none]);have l:∀n xs ys,c4 (n+1) (.lst xs) (.lst ys)=f_ (c4 n) xs ys:=λn xs ys=>(by rw[c4]);have e9:c4 9 BD BD=some true:=(by rw[<-wu,l];exact ebx);simp only[fI,r2,aM,ON,aE,aH,e9];exact Qt
  | cons g td ih =>
   intro sub;have rest:=ih λx hx=>sub x (aO _ hx);obtain⟨s,hs,ls,st,⟨g0,g1⟩,ne⟩:=info g (sub g (cF ..));have O:=OY l5 ls st ne;have lg:(fu kx xs g.1).length<=5:=eJ (jI ..) l5;obtain⟨_,gb1,gb2⟩:=O.ho.bl (by lia);have lA:=O.len;have f:Fm s g.2.1:=⟨ls.ln,O.h1,gb1.mono,O.ho.h2,gb2.mono⟩;show ∀v0,vJ _ _ { nx:=λj'=>j'=CJ (ol G ns fs BD [none,none,none,none]) 6 7 (gm g) g.1 v0/\UA _ _ _ _ _ _ (td.map gm) (td.map (·.1)),rt:=Q } (CJ (ol G ns fs BD [none,none,none,none]) 6 7 (gm g) g.1 v0);intro v0;have eT:CJ (ol G ns fs BD [none,none,none,none]) 6 7 (gm g) g.1 v0=ol G ns fs BD [none,none,some (.mem true (gm g) (v8 v0)),aa (.int g.1)]:=rfl;rw[eT];generalize hL:UA (ol G ns fs BD [none,none,none,none]) 6 7 _ _ { nx:=λ_=>False,rt:=Q } (td.map gm) (td.map (·.1))=L at *;refine yY (λj=>j=ol G ns fs BD [none,none,some (.mem true (gm g) (v8 v0)),aa (.int g.1)]) (λK hK=>?_) ?_
   ·unfold ol oO at hK ⊢;simp only[kJ,qA,dZ,r2,cO,aC,aZ,cB,aM,aE,aH];refine Da g0 g1 λs' jx=>?_;rw[hs] at jx;cases jx;refine⟨fs,xs,s,g,by rw[wu],⟨l5,hx⟩,⟨ls,st,ne⟩,?_⟩;simp only[eY,aN,if_false,gQ];exact hK _ rfl
   rintro j rfl;have fin:(ol G ns fs BD [none,none,some (.mem true (gm g) (v8 v0)),aa (.int g.1)]=ol G ns fs BD [none,none,some (.mem true (gm g) (v8 v0)),aa (.int g.1)])/\L:=⟨rfl,rest⟩;unfold ol oO at fin ⊢;simp only[kJ,qA,dZ,r2,cO,aC,aZ,cB,aM,rC,Au,EM,aE,aH];refine Da g0 g1 λs' jx=>?_;rw[hs] at jx;cases jx;refine⟨s,g,_,rfl,⟨f,O.pile,by lia,λb hb=>Tt (O.sb b hb)⟩,⟨λd hd=>?_,?_⟩,?_⟩
   ·obtain⟨i,_,e⟩:=bF.mp (AU (sD hd));exact⟨i,e.symm⟩
   ·unfold cutD;rw[fY,mC,aS];lia
   ·simp only[eY,aN,if_false,gQ];exact⟨trivial,fin.2⟩
 exact key gs λ_ h=>h
local macro_rules | `(tactic| walk_at "len")=>`(tactic| (intro ds Q h;(repeat obtain⟨_,h⟩:=h);all_goals (subst_vars;rfl)))
def top (i:Nat):Stmt:=PySem.Challenge.pw_recut_k35_boxes_stacked.main.body.getD i (.Pass ⟨0,0,0,0⟩)
structure TopF (K:aI) (mg:Str->Option aB):Prop where
 d0:ai K mg "_law_added" (top 39) ["_law_one","_law_other"]
 d1:ai K mg "_law_area" (top 38) ["_law_piece"]
 d2:ai K mg "_law_areas" (top 40) ["_law_bits_here"]
 d3:ai K mg "_law_divisor" (top 28) ["_law_one","_law_other"]
 d4:ai K mg "_law_whole" (top 27) ["_law_found"]
 d5:ai K mg "_law_is_fraction" (top 34) ["_law_found"]
 d6:ai K mg "_law_numbers_whole" (top 32) ["_law_piece"]
 d7:ai K mg "_law_turn" (top 31) ["_law_one","_law_two","_law_three"]
 d8:ai K mg "_law_is_piece" (top 33) ["_law_piece"]
 d9:ai K mg "_law_is_bit" (top 35) ["_law_bit"]
 d10:ai K mg "_law_bits" (top 36) ["_law_bits_here"]
 d11:ai K mg "_law_fraction" (top 29) ["_law_top","_law_bottom"]
 d12:ai K mg "_law_due" (top 30) ["_law_share","_law_ring"]
 d13:ai K mg "_law_pushed" (top 43) ["_law_bit"]
 d14:ai K mg "_law_homes" (top 51) ["_law_bits_here"]
 d15:ai K mg "_law_in_box" (top 44) ["_law_piece","_law_s","_law_h"]
 d16:ai K mg "_law_box" (top 52) ["_law_box_here","_law_place","_law_boxes_here","_law_lean"]
 d17:ai K mg "_law_cell" (top 46) ["_law_script","_law_k"]
 d18:ai K mg "_law_cut_box" (top 45) ["_law_s","_law_h","_law_way"]
 d19:ai K mg "_law_move" (top 42) ["_law_number"]
 d20:ai K mg "_law_boxes" (top 47) ["_law_script","_law_leans_here"]
 d21:ai K mg "_law_led" (top 49) ["_law_move_here","_law_spot"]
 d22:ai K mg "_law_lies" (top 37) ["_law_piece","_law_spot"]
 d23:ai K mg "_law_homes_of" (top 50) ["_law_bits_here","_law_spot"]
 d24:ai K mg "_law_spot_in" (top 48) ["_law_cell_here","_law_s","_law_h"]
 d25:ai K mg "_law_filled" (top 53) ["_law_box_here","_law_lean","_law_cells"]
 d26:ai K mg "_law_digit" (top 26) ["_law_number","_law_base","_law_place"]
 d27:ai K mg "_law_leans" (top 41) ["_law_number","_law_many"]
 d28:ai K mg "shared_divisor" (top 4) ["one","other"]
 d29:ai K mg "ratio" (top 6) ["top","bottom"]
 d30:ai K mg "plus" (top 7) ["one","other"]
 d31:ai K mg "signed" (top 9) ["sign","one"]
 d32:ai K mg "led" (top 10) ["move","spot"]
 d33:ai K mg "behind" (top 11) ["first","second"]
 d34:ai K mg "turn" (top 14) ["one","middle","other"]
 d35:ai K mg "half_round" (top 15) ["points"]
 d36:ai K mg "outline" (top 16) ["points"]
 d37:ai K mg "settled" (top 17) ["share","points"]
 d38:ai K mg "shared_multiple" (top 5) ["one","other"]
 d39:ai K mg "pushed" (top 18) ["piece","move"]
 d40:ai K mg "way_back" (top 12) ["move"]
 d41:ai K mg "carried" (top 20) ["bit","move"]
 d42:ai K mg "lifted" (top 21) ["bit","height"]
 d43:ai K mg "stack" (top 23) ["boxes"]
 d44:ai K mg "stacked" (top 24) ["boxes"]
 d45:ai K mg "law" (top 54) ["_law_script"]
 b0:mg "len" = none
 b1:mg "range" = none
 b2:mg "abs" = none
 b3:mg "isinstance" = none
 b4:mg "bool" = none
 b5:mg "int" = none
 b6:mg "tuple" = none
 b7:mg "min" = none
 b8:mg "list" = none
 b9:mg "sorted" = none
 b10:mg "reversed" = none
 b11:mg "set" = none
 b12:mg "zip" = none
section
variable {P:bR} {w:cT} {K:aI} {mg:Str->Option aB} {base:Heap} (T:TopF K mg)
theorem BQ:nS (["_law_x","_law_y","_law_most"]:List Str):=by decide +kernel
theorem vI:nS (["_law_x","_law_y","_law_sign","_law_by","_law_right","_law_up"]:List Str):=by decide +kernel
theorem KF:nS (["_law_bit"]:List Str):=by decide +kernel
theorem ED:nS (["x","y","divisor"]:List Str):=by decide +kernel
theorem HZ:nS (["x","y","scale","right","up"]:List Str):=by decide +kernel
theorem ZR:nS (["bit","height"]:List Str):=by decide +kernel
theorem SJ:nS (["number","groups"]:List Str):=by decide +kernel
theorem Hy:nS (["_law_box_here"]:List Str):=by decide +kernel
theorem KG:nS (["_law_place","_law_height","_law_bits_here"]:List Str):=by decide +kernel
include T
theorem EG:T.d0.W P w base 1 GG :=
 T.d0.mkD Af λnd hr =>
 cu (gN (aF (dP hE (av cQ (az 0) (az 1)) (av cQ (az 1) (az 0))) (aF (dP cQ (az 0) (az 1)) bD)))
theorem WN:T.d1.W P w base 1 UU :=
 T.d1.mkD Db λnd hr =>
 aT (cU nd iQ)
 (aT (mH dF rfl (wV T.b1 (aF (lG T.b0 (az 0)) bD)) (dX nd) (aT (cU nd (jZ (az 0) (av iS (ah 2) bP)))
 (aT (cU nd (jZ (az 0) (ah 2)))
 (fT (cU nd (dP iS (av hE (ah 1) (av cQ (az 3) (az 4))) (av cQ (az 3) (az 4))))))))
 (cu (gN (aF (dv 1) (aF (dP cQ (az 0) (az 0)) bD)))))
theorem SK:T.d2.W P w base 2 MZ :=
 T.d2.mkD Ag λnd hr =>
 aT (cU nd (gN (aF iQ (aF iQ bD))))
 (aT (mH dF rfl (kH (dv 0)) (dX nd) (fT (cU nd (bU (EG T) hr (aF (dv 1) (aF (bU (WN T) hr (aF (df 2) bD)) bD))))))
 (cu (dv 1)))
theorem lI:T.d3.W P w base 1 AO :=
 T.d3.mkD KQ λnd hr =>
 aT (cU nd (wU OA T.b2 wS (aF (dv 0) bD)))
 (aT (cU nd (wU OA T.b2 wS (aF (dv 1) bD)))
 (aT (OV dF (gI UE (ah 1) bP) (fT (Uo rfl nd (aF (dv 1) (aF (dP jM (ah 0) (ah 1)) bD)))))
 (cu (dv 0))))
theorem lW:T.d4.W P w base 1 CM :=
 T.d4.mkD QL λnd hr =>
 cu (JQ (uL (Sk _) T.b3 T.b5 JM (dv 0)) (OQ (Uk (uL (Og _) T.b3 T.b4 Bz (dv 0)))))
theorem sS:T.d5.W P w base 2 Bq :=
 T.d5.mkD Iq λnd hr =>
 aT (kB (DW.tst (nY (kW (kX (uL (rX _) T.b3 T.b6 nW (dv 0)))) (nY (gI uO (eb (lG T.b0 (ah 0))) bP) (nY (kW (kX (bU (lW T) hr (aF (df 0) bD)))) (rS (kW (kX (bU (lW T) hr (aF (df 0) bD))))))))) (cu nJ) fW)
 (cu (JQ (wC UE (az 0) bP) (OQ (wC wI (eb (bU (lI T) hr (aF (df 0) (aF (df 0) bD)))) bP))))
theorem AC:T.d6.W P w base 2 NK :=
 T.d6.mkD yT λnd hr =>
 aT (kB (DW.tst (nY (kW (kX (uL (rX _) T.b3 T.b6 nW (dv 0)))) (nY (gI uO (eb (lG T.b0 (ah 0))) bP) (nY (kW (kX (bU (lW T) hr (aF (df 0) bD)))) (rS (gI EF (az 0) bP)))))) (cu nJ) fW)
 (aT (kB (DW.tst (nY (kW (kX (uL (rX _) T.b3 T.b6 nW (df 0)))) (rS (gI EF (eb (lG T.b0 (az 0))) bP)))) (cu nJ) fW)
 (aT (mH dF rfl (VN (df 0)) (dX nd) (aT (kB (DW.tst (nY (kW (kX (uL (rX _) T.b3 T.b6 nW (dv 1)))) (rS (gI uO (eb (lG T.b0 (ah 1))) bP)))) (cu nJ) fW)
 (fT (kB (DW.tst (nY (kW (kX (bU (lW T) hr (aF (df 1) bD)))) (rS (kW (kX (bU (lW T) hr (aF (df 1) bD))))))) (cu nJ) fW))))
 (cu nJ)))
theorem WR:T.d7.W P w base 1 VA :=
 T.d7.mkD SN λnd hr =>
 aT (cU nd (dP cQ (av iS (az 1) (az 0)) (av iS (az 2) (az 1))))
 (cu (dP iS (ah 3) (av cQ (av iS (az 1) (az 0)) (av iS (az 2) (az 1)))))
theorem KK:T.d8.W P w base 3 Jk :=
 T.d8.mkD (N:=["_law_piece","_law_share","_law_corners","_law_most","_law_falls","_law_k"]) IH λnd hr =>
 aT (kB (kW (kX (bU (AC T) hr (aF (dv 0) bD)))) (cu nJ) fW)
 (aT (OU (dv 0) (pX rfl (eW (dX nd) (eW (dX nd) mQ))))
 (aT (cU nd (dv 1))
 (aT (cU nd iQ)
 (aT (mH dF rfl (wV T.b1 (aF (lG T.b0 (ah 2)) bD)) (dX nd) (aT (cU nd (bU (lI T) hr (aF (bU (lI T) hr (aF (dv 3) (aF (jZ (eb (jZ (ah 2) (ah 5))) bP) bD))) (aF (jZ (eb (jZ (ah 2) (ah 5))) bP) bD))))
 (aT (kB (gI Th (eb (bU (WR T) hr (aF (jZ (ah 2) (av iS (ah 5) bP)) (aF (jZ (ah 2) (av iS (ah 5) bP)) (aF (jZ (ah 2) (ah 5)) bD))))) bP) (cu nJ) fW)
 (fT (kB (DW.tst (Cf (gI (Mm hr) (eb (jZ (ah 2) (av iS (ah 5) bP))) (eb (jZ (ah 2) (av iS (ah 5) bP)))) (VR (gI (Mm hr) (eb (jZ (ah 2) (av iS (ah 5) bP))) (eb (jZ (ah 2) (ah 5))))))) (fT (cU nd (dP hE (ah 4) bP))) fW)))))
 (cu (JQ (wC wI (ah 3) bP) (JQ (wC wI (ah 4) bP) (OQ (wC (Zg hr) (az 2) (eb (Ex hr T.b7 rfl (ah 2))))))))))))
theorem QD:T.d9.W P w base 4 NF :=
 T.d9.mkD Am λnd hr =>
 aT (kB (DW.tst (nY (kW (kX (uL (rX _) T.b3 T.b6 nW (dv 0)))) (nY (gI uO (eb (lG T.b0 (ah 0))) bP) (rS (kW (kX (bU (KK T) hr (aF (df 0) bD)))))))) (cu nJ) fW)
 (aT (cU nd (df 0))
 (aT (kB (DW.tst (nY (kW (kX (uL (rX _) T.b3 T.b6 nW (dv 1)))) (nY (gI uO (eb (lG T.b0 (ah 1))) bP) (nY (kW (kX (bU (lW T) hr (aF (df 1) bD)))) (rS (gI uO (eb (wU OA T.b2 wS (aF (df 1) bD))) bP)))))) (cu nJ) fW)
 (cu (JQ (bU (sS T) hr (aF (df 1) bD)) (OQ (bU (sS T) hr (aF (df 1) bD)))))))
theorem WO:T.d10.W P w base 5 UV :=
 T.d10.mkD Dc λnd hr =>
 aT (kB (kW (kX (uL (Bf _) T.b3 T.b8 NZ (dv 0)))) (cu nJ) fW)
 (aT (mH dF rfl (kH (dv 0)) (dX nd) (fT (kB (kW (kX (bU (QD T) hr (aF (dv 1) bD)))) (cu nJ) fW)))
 (cu nJ))
theorem kM:T.d11.W P w base 2 SZ :=
 T.d11.mkD IG λnd hr =>
 aT (cU nd (bU (lI T) hr (aF (dv 0) (aF (dv 1) bD))))
 (cu (gN (aF (dP gW (ah 0) (ah 2)) (aF (dP gW (ah 1) (ah 2)) bD))))
theorem mM:T.d12.W P w base 2 NC :=
 T.d12.mkD (N:=["_law_share","_law_ring","_law_most","_law_x","_law_y","_law_corners","_law_at"]) WY λnd hr =>
 aT (cU nd (dv 0))
 (aT (mH dF rfl (kH (dv 1)) (pX rfl (eW (dX nd) (eW (dX nd) mQ))) (fT (cU nd (bU (lI T) hr (aF (bU (lI T) hr (aF (dv 2) (aF (dv 3) bD))) (aF (dv 4) bD))))))
 (aT (Fc ["_law_x","_law_y","_law_most"] 2 [2] nd (kH (dv 1)) (λcl C s H fp=>pX rfl (eW (dX BQ) (eW (dX BQ) mQ))) (λcl C s H fp=>gN (aF (dP gW (ah 0) (ah 2)) (aF (dP gW (ah 1) (ah 2)) bD))))
 (aT (cU nd (Kn hr (ah 5) (Ex hr T.b7 rfl (ah 5))))
 (cu (gN (aF (dP gW (ah 0) (ah 2)) (aF (YE T.b6 (av WL (eb (OR (ah 5) (HK (dv 6)) VP)) (eb (OR (ah 5) VP (HK (dv 6)))))) bD)))))))
theorem QE:T.d13.W P w base 3 UZ :=
 T.d13.mkD (N:=["_law_bit","_law_piece","_law_move_here","_law_sign","_law_dx","_law_dy","_law_by","_law_right","_law_up"]) IJ λnd hr =>
 aT (OU (dv 0) (pX rfl (eW (dX nd) (eW (dX nd) mQ))))
 (aT (OU (dv 2) (pX rfl (eW (dX nd) (eW (dX nd) (eW (dX nd) mQ)))))
 (aT (cU nd (dP cQ (az 4) (az 5)))
 (aT (cU nd (dP cQ (av cQ (az 4) (az 5)) (az 1)))
 (aT (cU nd (dP cQ (av cQ (az 5) (az 4)) (az 1)))
 (cu (bU (mM T) hr (aF (dP cQ (az 1) (ah 6)) (aF (DO.val (CP ["_law_x","_law_y","_law_sign","_law_by","_law_right","_law_up"] 2 [3,6,7,8] (VN (df 1)) (λcl C s H fp=>pX rfl (eW (dX vI) (eW (dX vI) mQ))) (λcl C s H fp=>gN (aF (dP hE (av cQ (av cQ (ah 2) (ah 0)) (ah 3)) (ah 4)) (aF (dP hE (av cQ (av cQ (ah 2) (ah 1)) (ah 3)) (ah 5)) bD))))) bD))))))))
theorem EI:T.d14.W P w base 4 UY :=
 T.d14.mkD (N:=["_law_bits_here"]) QK λnd hr =>
 cu (DO.val (Ku hr T.b9 (eb (DO.val (CP ["_law_bit"] 1 [] (kH (dv 0)) (λcl C s H fp=>dX KF) (λcl C s H fp=>bU (QE T) hr (aF (dv 0) bD)))))))
theorem QC:T.d15.W P w base 1 NE :=
 T.d15.mkD Al λnd hr =>
 aT (mH dF rfl (VN (df 0)) (pX rfl (eW (dX nd) (eW (dX nd) mQ))) (aT (kB (DW.tst (nY (gI EF (ah 3) bP) (rS (gI UE (ah 3) (az 0))))) (cu nJ) fW)
 (aT (cU nd (dP iS (av cQ (ah 4) (az 1)) (av cQ (ah 3) (az 1))))
 (fT (kB (DW.tst (nY (gI EF (ah 5) bP) (rS (gI UE (av cQ (ah 5) (az 2)) (av cQ (av cQ (az 2) (az 1)) (az 0)))))) (cu nJ) fW)))))
 (cu nJ)
theorem ZU:T.d16.W P w base 6 UW :=
 T.d16.mkD Io λnd hr =>
 aT (kB (DW.tst (nY (kW (kX (uL (rX _) T.b3 T.b6 nW (dv 0)))) (nY (gI uO (eb (lG T.b0 (ah 0))) bP) (nY (kW (kX (bU (lW T) hr (aF (df 0) bD)))) (rS (gI (Ti hr) (az 0) (ah 1))))))) (cu nJ) fW)
 (aT (cU nd (gN (aF iQ (aF iQ bD))))
 (aT (cU nd (DO.val (mG bD)))
 (aT (mH dF rfl (kH (dv 2)) (pX rfl (eW (dX nd) (eW (dX nd) (eW (dX nd) mQ)))) (fT (kB (gI (Cs hr) (ah 6) (ah 1)) (aT (cU nd (bU (EG T) hr (aF (dv 4) (aF (dv 7) bD))))
 (fT (cU nd (dP WL (ah 5) (ah 8))))) fW)))
 (aT (kB (DW.tst (nY (gI (Ti hr) (az 0) (eb (bU (kM T) hr (aF (df 4) (aF (df 4) bD))))) (nY (kW (kX (bU (WO T) hr (aF (df 0) bD)))) (rS (gI uO (eb (lG T.b0 (az 0))) (eb (lG T.b0 (ah 5)))))))) (cu nJ) fW)
 (aT (mH dF rfl (kH (df 0)) (dX nd) (fT (kB (kW (kX (bU (QC T) hr (aF (df 9) (aF (dv 3) (aF (dv 4) bD)))))) (cu nJ) fW)))
 (aT (cU nd (bU (SK T) hr (aF (df 0) bD)))
 (cu (JQ (wC wI (av cQ (az 10) (az 4)) (av cQ (av cQ bP (az 4)) (az 10))) (OQ (wC (Cs hr) (eb (bU (EI T) hr (aF (df 0) bD))) (eb (bU (EI T) hr (aF (dv 5) bD)))))))))))))
theorem qW:T.d17.W P w base 1 GH :=
 T.d17.mkD MO λnd hr =>
 aT (kB (gI EF (ah 1) (eb (lG T.b0 (ah 0)))) (cu (dP jM (eb (jZ (ah 0) (ah 1))) (av hE (av WM bP bP) bP))) fW)
 (cu iQ)
theorem ML:T.d18.W P w base 3 NB :=
 T.d18.mkD Aj λnd hr =>
 aT (cU nd (dP cQ (az 0) (az 1)))
 (aT (cU nd (dP cQ (az 0) (az 1)))
 (aT (cU nd (dP cQ (az 1) (az 0)))
 (aT (kB (gI EF (ah 2) bP) (aT (cU nd (gN (aF iQ (aF iQ bD))))
 (aT (cU nd (gN (aF (dv 3) (aF (dv 4) bD))))
 (aT (cU nd (gN (aF (dv 3) (aF (dP hE (ah 4) (ah 5)) bD))))
 (aT (cU nd (gN (aF iQ (aF (dv 5) bD))))
 (aT (kB (gI wI (ah 2) bP) (cu (DO.val (mG (aF (bU (mM T) hr (aF (dv 3) (aF (DO.val (mG (aF (dv 6) (aF (dv 7) (aF (dv 8) (aF (dv 9) bD)))))) bD))) bD)))) fW)
 (aT (kB (gI wI (ah 2) bP) (cu (DO.val (mG (aF (bU (mM T) hr (aF (dv 3) (aF (DO.val (mG (aF (dv 6) (aF (dv 7) (aF (dv 8) bD))))) bD))) (aF (bU (mM T) hr (aF (dv 3) (aF (DO.val (mG (aF (dv 6) (aF (dv 8) (aF (dv 9) bD))))) bD))) bD))))) fW)
 (cu (DO.val (mG (aF (bU (mM T) hr (aF (dv 3) (aF (DO.val (mG (aF (dv 6) (aF (dv 7) (aF (dv 9) bD))))) bD))) (aF (bU (mM T) hr (aF (dv 3) (aF (DO.val (mG (aF (dv 7) (aF (dv 8) (aF (dv 9) bD))))) bD))) bD))))))))))) fW)
 (aT (cU nd (DO.val (mG (aF (gN (aF (dv 3) (aF (dv 4) bD))) (aF (gN (aF (dv 3) (aF (dP hE (ah 4) (av cQ bP (ah 5))) bD))) bD)))))
 (aT (cU nd (bU (mM T) hr (aF (dP cQ bP (ah 3)) (aF (DO.val (mG (aF (gN (aF iQ (aF iQ bD))) (aF (df 10) (aF (df 10) (aF (gN (aF iQ (aF (dP cQ bP (ah 5)) bD))) bD)))))) bD))))
 (cu (DO.val (mG (aF (dv 11) (aF (bU (mM T) hr (aF (dP cQ bP (ah 3)) (aF (DO.val (mG (aF (df 10) (aF (gN (aF (dP cQ bP (ah 3)) (aF (dP cQ bP (ah 4)) bD))) (aF (gN (aF (dP cQ bP (ah 3)) (aF (dP hE (av cQ bP (ah 4)) (av cQ bP (ah 5))) bD))) (aF (df 10) bD)))))) bD))) bD))))))))))
theorem WQ:T.d19.W P w base 3 NJ :=
 T.d19.mkD Ao λnd hr =>
 aT (cU nd (jZ (eb (DO.val (mG (aF iQ (aF (dP WM bP bP) bD))))) (av jM (av gW (ah 0) bP) bP)))
 (aT (cU nd (bU (kM T) hr (aF (dP iS (av jM (av cQ (av jM (av cQ (ah 0) bP) bP) bP) (av hE (av cQ bP (ah 1)) bP)) (ah 1)) (aF (dP hE bP (av jM (av gW (ah 0) bP) bP)) bD))))
 (aT (cU nd (bU (kM T) hr (aF (dP iS (av jM (ah 0) (av hE (av cQ bP (ah 1)) bP)) (ah 1)) (aF (dP hE bP (av jM (av gW (ah 0) bP) bP)) bD))))
 (cu (gN (aF (dP iS bP (av cQ bP (av jM (ah 0) bP))) (aF (dv 2) (aF (dv 3) bD)))))))
theorem SL:T.d20.W P w base 4 NA :=
 T.d20.mkD Ai λnd hr =>
 aT (CQ nd (mG bD))
 (aT (mH dF rfl (Hb T.b1 (aF iQ (aF (wU (Pb rfl) T.b7 Gq (aF (lG T.b0 (ah 0)) (aF iQ bD))) bD))) (dX nd) (aT (cU nd (bU (qW T) hr (aF (dv 0) (aF (dv 3) bD))))
 (aT (cU nd (dP jM (ah 4) (eb (lG T.b0 (ah 1)))))
 (aT (kB (gI wI (av jM (eb (bU (qW T) hr (aF (dv 0) (aF iQ bD)))) bP) bP) (fT (cU nd (dP jM (av gW (eb (bU (qW T) hr (aF (dv 0) (aF iQ bD)))) bP) (eb (lG T.b0 (ah 1)))))) fW)
 (aT (cU nd (bU (kM T) hr (aF (dP hE bP (av jM (av gW (ah 4) bP) bP)) (aF (dP hE bP (av jM (av gW (ah 4) bP) bP)) bD))))
 (aT (CQ nd (mG bD))
 (aT (mH dF rfl (kH (bU (ML T) hr (aF (jZ (ah 1) (ah 5)) (aF (dv 6) (aF (dP jM (av gW (ah 4) bP) bP) bD))))) (dX nd) (fT (wW 7 (gN (aF (dv 8) (aF (bU (WQ T) hr (aF (dP hE (av hE (av gW (ah 4) bP) (av cQ bP (ah 3))) (av cQ bP (eb (lG T.b0 (ah 7))))) bD)) bD))))))
 (fT (YI 7 (wW 2 (gN (aF (dv 5) (aF (dv 6) (aF (dv 7) bD))))))))))))))
 (fT (YI 2 (VQ (dv 2)))))
theorem ZV:T.d21.W P w base 1 Br :=
 T.d21.mkD Iu λnd hr =>
 aT (OU (dv 0) (pX rfl (eW (dX nd) (eW (dX nd) (eW (dX nd) mQ)))))
 (aT (cU nd (dP cQ (av hE (av cQ (av cQ (ah 2) (az 1)) (az 3)) (av cQ (az 3) (az 1))) (az 4)))
 (aT (cU nd (dP cQ (av hE (av cQ (av cQ (ah 2) (az 1)) (az 4)) (av cQ (az 4) (az 1))) (az 3)))
 (cu (gN (aF (dv 5) (aF (dv 6) (aF (dP cQ (av cQ (az 1) (az 3)) (az 4)) bD)))))))
theorem WP:T.d22.W P w base 1 NI :=
 T.d22.mkD (N:=["_law_piece","_law_spot","_law_share","_law_corners","_law_least","_law_k","_law_one","_law_x","_law_y","_law_side"]) MP λnd hr =>
 aT (OU (dv 0) (pX rfl (eW (dX nd) (eW (dX nd) mQ))))
 (aT (cU nd OP)
 (aT (mH dF rfl (wV T.b1 (aF (lG T.b0 (ah 3)) bD)) (dX nd) (aT (cU nd (jZ (ah 3) (av iS (ah 5) bP)))
 (aT (cU nd (dP iS (av cQ (az 1) (ah 2)) (av cQ (az 6) (az 1))))
 (aT (cU nd (dP iS (av cQ (az 1) (ah 2)) (av cQ (az 6) (az 1))))
 (aT (cU nd (dP iS (av cQ (av iS (eb (jZ (eb (jZ (ah 3) (ah 5))) bP)) (az 6)) (ah 8)) (av cQ (av iS (eb (jZ (eb (jZ (ah 3) (ah 5))) bP)) (az 6)) (ah 7))))
 (fT (kB (DW.tst (nY (gI Vs (ah 4) (eb OP)) (rS (gI EF (ah 9) (ah 4))))) (fT (cU nd (dv 9))) fW)))))))
 (cu (dP iS (eb (TN Jv T.b5 JM (aF (wC UE (ah 4) bP) bD))) (eb (TN Jv T.b5 JM (aF (wC EF (ah 4) bP) bD)))))))
theorem KJ:T.d23.W P w base 2 ND :=
 T.d23.mkD Ak λnd hr =>
 aT (CQ nd (mG bD))
 (aT (mH dF rfl (kH (dv 0)) (pX rfl (eW (dX nd) (eW (dX nd) mQ))) (aT (cU nd (bU (WP T) hr (aF (dv 3) (aF (dv 1) bD))))
 (aT (kB (gI wI (ah 5) bP) (cu OP) fW)
 (fT (kB (gI wI (ah 5) bP) (fT (wW 2 (bU (ZV T) hr (aF (dv 4) (aF (dv 1) bD))))) fW)))))
 (fT (YI 2 (VQ (dv 2)))))
theorem MM:T.d24.W P w base 1 NL :=
 T.d24.mkD Ar λnd hr =>
 aT (cU nd (dP jM (av cQ (av cQ (av hE (av jM (ah 0) (av WM bP bP)) bP) (av hE (av jM (ah 0) (av WM bP bP)) bP)) bP) bP))
 (aT (cU nd (dP hE bP (av jM (ah 3) bP)))
 (aT (cU nd (dP hE bP (av jM (av jM (av cQ (ah 3) bP) bP) bP)))
 (aT (cU nd (dP cQ (av cQ (av cQ bP bP) (az 1)) (az 2)))
 (cu (gN (aF (dP cQ (av cQ (av cQ (ah 4) bP) (az 1)) (az 2)) (aF (dP hE (av cQ (av cQ (av cQ (ah 4) (az 1)) bP) (az 2)) (av cQ (av cQ (av cQ (ah 5) (az 2)) bP) (az 1))) (aF (dv 6) bD))))))))
theorem QB:T.d25.W P w base 3 MQ :=
 T.d25.mkD Df λnd hr =>
 aT (mH dF rfl (kH (dv 2)) (dX nd) (aT (cU nd (bU (KJ T) hr (aF (df 0) (aF (bU (MM T) hr (aF (dv 3) (aF (dv 1) (aF (df 0) bD)))) bD))))
 (fT (kB (DW.tst (Cf (gI Qz (ah 4) (eb OP)) (VR (gI uO (eb (lG T.b0 (ah 4))) bP)))) (cu nJ) fW))))
 (cu nJ)
theorem EH:T.d26.W P w base 1 UX :=
 T.d26.mkD QJ λnd hr =>
 aT (mH dF rfl (wV T.b1 (aF (dv 2) bD)) (dX nd) (fT (cU nd (dP gW (ah 0) (ah 1)))))
 (cu (dP jM (ah 0) (ah 1)))
theorem SM:T.d27.W P w base 3 NH :=
 T.d27.mkD (N:=["_law_number","_law_many","_law_found","_law_k","_law_top","_law_bottom"]) An λnd hr =>
 aT (CQ nd (mG (aF (bU (kM T) hr (aF (dP iS (av jM (ah 0) bP) bP) (aF (dP hE bP (av jM (av gW (ah 0) bP) bP)) bD))) bD)))
 (aT (mH dF rfl (wV T.b1 (aF (dP iS (ah 1) bP) bD)) (dX nd) (aT (cU nd (dP hE bP (eb (bU (EH T) hr (aF (dP gW (ah 0) bP) (aF iQ (aF (dv 3) bD)))))))
 (aT (cU nd (dP hE bP (av jM (eb (bU (EH T) hr (aF (dP gW (ah 0) bP) (aF iQ (aF (dv 3) bD))))) bP)))
 (fT (wW 2 (bU (kM T) hr (aF (dP hE (av cQ (eb (jZ (eb (jZ (ah 2) (eb (HI zA bP)))) bP)) (ah 5)) (av cQ (ah 4) (eb (jZ (eb (jZ (ah 2) (eb (HI zA bP)))) bP)))) (aF (dP cQ (eb (jZ (eb (jZ (ah 2) (eb (HI zA bP)))) bP)) (ah 5)) bD))))))))
 (fT (YI 2 (VQ (dv 2)))))
theorem nK:T.d28.W P w base 1 AO :=
 T.d28.mkD DQ λnd hr =>
 aT (cU nd (wU OA T.b2 wS (aF (dv 0) bD)))
 (aT (cU nd (wU OA T.b2 wS (aF (dv 1) bD)))
 (aT (OV dF (gI uO (ah 3) bP) (aT (cU nd (dP jM (ah 2) (ah 3)))
 (aT (cU nd (dv 3))
 (fT (cU nd (dv 4))))))
 (cu (dv 2))))
theorem Mn:T.d29.W P w base 2 GJ :=
 T.d29.mkD Di λnd hr =>
 aT (kB (gI wI (ah 1) bP) (fT Kv) fW)
 (aT (cU nd (bU (nK T) hr (aF (dv 0) (aF (dv 1) bD))))
 (aT (kB (gI EF (ah 1) bP) (fT (cU nd (HI zA (ah 2)))) fW)
 (cu (gN (aF (dP gW (ah 0) (ah 2)) (aF (dP gW (ah 1) (ah 2)) bD))))))
theorem WS:T.d30.W P w base 3 oV :=
 T.d30.mkD Iv λnd hr =>
 cu (bU (Mn T) hr (aF (dP hE (av cQ (az 0) (az 1)) (av cQ (az 1) (az 0))) (aF (dP cQ (az 0) (az 1)) bD)))
theorem CV:T.d31.W P w base 1 oY :=
 T.d31.mkD Aq λnd hr =>
 cu (gN (aF (dP cQ (ah 0) (az 1)) (aF (df 1) bD)))
theorem Vt:T.d32.W P w base 4 XJ :=
 T.d32.mkD Nh λnd hr =>
 aT (cU nd (df 0))
 (cu (gN (aF (bU (WS T) hr (aF (bU (CV T) hr (aF (dv 2) (aF (df 1) bD))) (aF (df 0) bD))) (aF (bU (WS T) hr (aF (bU (CV T) hr (aF (dv 2) (aF (df 1) bD))) (aF (df 0) bD))) bD))))
theorem Ib:T.d33.W P w base 5 AN :=
 T.d33.mkD Ah λnd hr =>
 aT (cU nd (bU (Vt T) hr (aF (dv 1) (aF (gN (aF (df 0) (aF (df 0) bD))) bD))))
 (cu (gN (aF (dP cQ (az 0) (az 1)) (aF (df 2) (aF (df 2) bD)))))
theorem Rb:T.d34.W P w base 1 xT :=
 T.d34.mkD Iw λnd hr =>
 aT (cU nd (dP cQ (av iS (az 1) (az 0)) (av iS (az 2) (az 0))))
 (aT (cU nd (dP cQ (av iS (az 1) (az 0)) (av iS (az 2) (az 0))))
 (cu (dP iS (ah 3) (ah 4))))
theorem EJ:T.d35.W P w base 2 Bp :=
 T.d35.mkD MN λnd hr =>
 aT (CQ nd (mG bD))
 (aT (mH dF rfl (kH (dv 0)) (dX nd) (aT (OV dF (DW.tst (Cf (gI UE (eb (lG T.b0 (ah 1))) bP) (VR (gI Th (eb (bU (Rb T) hr (aF (jZ (ah 1) (eb (HI zA bP))) (aF (jZ (ah 1) (eb (HI zA bP))) (aF (dv 2) bD))))) bP)))) (fT (Uq 1)))
 (fT (wW 1 (dv 2)))))
 (cu (OR (ah 1) VP (HK (HI zA bP)))))
theorem Cu:T.d36.W P w base 3 wK :=
 T.d36.mkD WZ λnd hr =>
 aT (cU nd (DO.val (Ce hr T.b9 T.b11 rfl (ah 0))))
 (cu (dP WL (eb (bU (EJ T) hr (aF (dv 1) bD))) (eb (bU (EJ T) hr (aF (DO.val (Cd T.b8 T.b10 rfl (ah 1))) bD)))))
theorem Cv:T.d37.W P w base 4 wM :=
 T.d37.mkD XA λnd hr =>
 aT (cU nd (bU (Cu T) hr (aF (dv 1) bD)))
 (aT (kB (gI EF (eb (lG T.b0 (ah 2))) bP) (cu OP) fW)
 (aT (cU nd (dv 0))
 (aT (mH dF rfl (kH (dv 2)) (pX rfl (eW (dX nd) (eW (dX nd) mQ))) (fT (cU nd (bU (nK T) hr (aF (bU (nK T) hr (aF (dv 3) (aF (dv 4) bD))) (aF (dv 5) bD))))))
 (cu (gN (aF (dP gW (ah 0) (ah 3)) (aF (YE T.b6 (eb (DO.val (CP ["x","y","divisor"] 2 [3] (kH (dv 2)) (λcl C s H fp=>pX rfl (eW (dX ED) (eW (dX ED) mQ))) (λcl C s H fp=>gN (aF (dP gW (ah 0) (ah 2)) (aF (dP gW (ah 1) (ah 2)) bD))))))) bD)))))))
theorem uP:T.d38.W P w base 2 Jl :=
 T.d38.mkD BT λnd hr =>
 cu (dP cQ (ah 0) (av gW (ah 1) (eb (bU (nK T) hr (aF (dv 0) (aF (dv 1) bD))))))
theorem Ie:T.d39.W P w base 5 AQ :=
 T.d39.mkD Ap λnd hr =>
 aT (cU nd (df 1))
 (aT (cU nd (df 1))
 (aT (cU nd (bU (uP T) hr (aF (bU (uP T) hr (aF (df 0) (aF (df 2) bD))) (aF (df 3) bD))))
 (aT (cU nd (dP cQ (az 1) (av gW (ah 4) (az 0))))
 (aT (cU nd (dP cQ (az 2) (av gW (ah 4) (az 2))))
 (aT (cU nd (dP cQ (az 3) (av gW (ah 4) (az 3))))
 (cu (bU (Cv T) hr (aF (dv 4) (aF (DO.val (CP ["x","y","scale","right","up"] 2 [5,6,7] (VN (df 0)) (λcl C s H fp=>pX rfl (eW (dX HZ) (eW (dX HZ) mQ))) (λcl C s H fp=>gN (aF (dP hE (av cQ (ah 2) (ah 0)) (ah 3)) (aF (dP hE (av cQ (ah 2) (ah 1)) (ah 4)) bD))))) bD)))))))))
theorem ZW:T.d40.W P w base 2 tU :=
 T.d40.mkD SQ λnd hr =>
 aT (cU nd (df 0))
 (cu (gN (aF (dv 1) (aF (bU (CV T) hr (aF (HI zA (ah 1)) (aF (df 0) bD))) (aF (bU (CV T) hr (aF (HI zA (ah 1)) (aF (df 0) bD))) bD)))))
theorem Ct:T.d41.W P w base 6 Bo :=
 T.d41.mkD Ip λnd hr =>
 cu (gN (aF (bU (Ie T) hr (aF (df 0) (aF (dv 1) bD))) (aF (bU (Ib T) hr (aF (bU (ZW T) hr (aF (dv 1) bD)) (aF (df 0) bD))) bD)))
theorem Ic:T.d42.W P w base 7 GI :=
 T.d42.mkD Dh λnd hr =>
 cu (bU (Ct T) hr (aF (dv 0) (aF (gN (aF iQ (aF (gN (aF iQ (aF iQ bD))) (aF (dv 1) bD)))) bD)))
theorem Mo:pw P w K mg base "stack" ["boxes"] 8 CL :=
 T.d43.mkN Hq As λnd hr =>
 JR (cU nd (gN (aF iQ (aF iQ bD))))
 (JR (CQ nd (mG bD))
 (JR (mH dF rfl (kH (dv 0)) (dX nd) (aT (Hc 2 (DO.val (CP ["bit","height"] 1 [1] (kH (df 3)) (λcl C s H fp=>dX ZR) (λcl C s H fp=>bU (Ic T) hr (aF (dv 0) (aF (dv 1) bD))))))
 (fT (cU nd (bU (WS T) hr (aF (dv 1) (aF (df 3) bD)))))))
 (Pu 2 (Ky (Um (OT (Sv (jZ (az 0) bP)) (OT (Sv (dv 1)) (OT (Yk 2) Po))))))))
theorem Cw:pq P w K mg base "stacked" ["boxes"] 9 xS :=
 T.d44.mk3 WF SO λnd hr =>
 TQ (Pq nd)
 (TQ (mH dF rfl (kH (dv 0)) (dX nd) (fT (Pp 1 (df 2) (dv 2))))
 (Ps 1 (Kx (Mu ["number","groups"] 1 [1] (kH (DO.val (Kt T.b9 (eb (DO.val (Kr T.b8 rfl (dv 1))))))) (λcl C s H fp=>dX SJ) (λcl C s H fp=>OS) (λcl C s H fp=>Mt (Mo T) hr (aF (Uj hr (dv 1) (dv 0)) bD))))))
theorem fo_law {f:Addr} {fd:lZ} (Fu:tx K "law" "law" (top 54) f fd):gu P w K mg base iz 10 f fd ["_law_script"] (rl K (Jj 63)) :=
 Qw Fu Qn Dg λnd hr =>
 tL (cU nd (bU (SM T) hr (aF (dP gW (eb (bU (qW T) hr (aF (dv 0) (aF iQ bD)))) bP) (aF (dP hE bP (av jM (eb (bU (qW T) hr (aF (dv 0) (aF iQ bD)))) bP)) bD))))
 (tL (cU nd (bU (SL T) hr (aF (dv 0) (aF (dv 1) bD))))
 (tL (Fc ["_law_place","_law_height","_law_bits_here"] 3 [] nd (kH (dv 2)) (λcl C s H fp=>pX rfl (eW (dX KG) (eW (dX KG) (eW (dX KG) mQ)))) (λcl C s H fp=>gN (aF (dv 0) (aF (dv 1) (aF (Ha T.b8 (ah 2)) bD)))))
 (tL (YI 3 (Pr nd (Cw T) hr (aF (dv 3) bD)))
 (tL (cU nd (DO.val (YG T.b9 T.b11 rfl (eb (DO.val (CP ["_law_box_here"] 1 [] (kH (dv 2)) (λcl C s H fp=>dX Hy) (λcl C s H fp=>df 0)))))))
 (tL (kB (DW.tst (nY (kW (kX (uL (Bf _) T.b3 T.b8 NZ (dv 4)))) (rS (gI uO (eb (lG T.b0 (ah 4))) (eb (lG T.b0 (ah 5))))))) (cu nJ) fW)
 (Hd 4 5 6 7 dF rfl nd T.b12 (by decide) (kB (kW (kX (bU (ZU T) hr (aF (dv 6) (aF (dv 7) (aF (dv 2) (aF (jZ (ah 1) (ah 7)) bD))))))) (cu nJ) fW) (kB (kW (kX (bU (QB T) hr (aF (dv 6) (aF (jZ (ah 1) (ah 7)) (aF (DO.val (Ks (ah 0) (HK iQ) (HK iQ))) bD)))))) (cu nJ) fW)
 (Pw (cu (wC (Cs hr) (ah 3) (ah 2))))))))))
end
end K35
end
end L2.R2
namespace PySem.W.Fast
theorem tw16299400194681393451:True:=⟨⟩
theorem tw8520782316072322783:True:=⟨⟩
theorem tw14350733314120057322:True:=⟨⟩
theorem tw11244592663821478631:True:=⟨⟩
theorem tw3618994067512716223:True:=⟨⟩
theorem tw13811634815131536634:True:=⟨⟩
theorem tw11134188574825703232:True:=⟨⟩
theorem tw8673953691652861114:True:=⟨⟩
theorem tw13885101815163773391:True:=⟨⟩
theorem tw400997310118673892:True:=⟨⟩
theorem tw13648294984527480914:True:=⟨⟩
theorem tw912018828907835128:True:=⟨⟩
theorem tw15954277987476430723:True:=⟨⟩
theorem tw16402215306083600488:True:=⟨⟩
theorem tw13436005288556522848:True:=⟨⟩
theorem tw12048066001457740489:True:=⟨⟩
theorem tw5080536843253958950:True:=⟨⟩
theorem tw13506237414124263556:True:=⟨⟩
theorem tw253633583336331126:True:=⟨⟩
theorem tw10048682457271470309:True:=⟨⟩
theorem tw9297848885283178974:True:=⟨⟩
theorem tw9339035344245227998:True:=⟨⟩
theorem tw939716501010034395:True:=⟨⟩
theorem tw17433328701005011427:True:=⟨⟩
theorem tw4482562830379915393:True:=⟨⟩
theorem tw7115754381330023833:True:=⟨⟩
theorem tw16192532741318115835:True:=⟨⟩
theorem tw17995383683630268239:True:=⟨⟩
theorem tw12410026440882042716:True:=⟨⟩
theorem tw1849351014517339542:True:=⟨⟩
theorem tw3237798419281666463:True:=⟨⟩
theorem tw2059297210249269529:True:=⟨⟩
theorem tw6349953827340623973:True:=⟨⟩
theorem tw4841961340673824107:True:=⟨⟩
theorem tw7615609191982554043:True:=⟨⟩
theorem tw2573460894048143821:True:=⟨⟩
theorem tw6207844022618242772:True:=⟨⟩
theorem tw14079899000211588947:True:=⟨⟩
theorem tw2840586492963390567:True:=⟨⟩
theorem tw4396200783937837429:True:=⟨⟩
theorem tw15939566855412983369:True:=⟨⟩
end PySem.W.Fast
open PySem PySem.W PyProof.Rows
set_option maxRecDepth 100000 in
set_option maxHeartbeats 0 in
theorem PySem.Challenge.cw_recut_k35_boxes_stacked_holds : PySem.Challenge.rw_recut_k35_boxes_stacked.Holds := by
 w_on;o_law;k_head;(case hw=>w_witness2)
 k_fill
 refine L2.R2.walk_law (l:=PySem.Challenge.rw_recut_k35_boxes_stacked) (k:=10) (x:="_law_script") rfl rfl ⟨rfl,by decide,by decide⟩ (λw h Y=>PySem.W.kIn_of Y) rfl ?L ?F
 case L =>
  intro w
  refine' L2.R2.noLam ?q1 ?q2 ?q3
  (case q1=>k_is)
  (case q2=>k_is)
  (case q3=>k_is)
 case F =>
  intro w mg h KX G;have T:L2.R2.K35.TopF (L2.KOf KX) mg:=by
   dsimp only[L2.KOf];constructor
   all_goals first | (refine PySem.W.mg_none_of KX G ?z;(case z=>k_is)) | (refine' L2.R2.def_mk KX G ?a ?l ?c ?k ?b;(case a=>k_is);(case l=>k_is);(case c=>k_is);(case k=>k_is);(case b=>first | exact L2.R2.bind1 (λ_=>rfl) | exact L2.R2.bind2 (λ_ _=>rfl) | exact L2.R2.bind3 (λ_ _ _=>rfl) | exact L2.R2.bind4 (λ_ _ _ _=>rfl)))
  exact T.d45.okL λbase f fd Fu=>L2.R2.K35.fo_law T Fu
